/-
  Proved: ParseBack answers true for all acts.
-/
import Derived.Test.YtappnfifhpmekaaDoorOpen
import Derived.Test.YtappnfifhpmekaaDoorCards
import Derived.Test.YtappnfifhpmekaaDoorTie
import Derived.SevenTiedAt
import Derived.Test.YtappnfifhpmekaaDoorParseFixed
import Derived.Test.YtappnfifhpmekaaDoorParseIn
import Derived.Test.YtappnfifhpmekaaDoorParseCopy
import Derived.Test.YtappnfifhpmekaaDoorParsePost
import Derived.WalkKit
namespace Go.Proofs.YtappnfifhpmekaaDoor.parseBack
open Go.ChangeShapes Go.WideShapes Go.ChangeAt Go.RowKit

/-- Rows of other elements are apart. -/
theorem rows_apart {w : World} {b1 b2 s1 s2 : Nat} {e1 e2 : TypeId} {v u : Value} {n m : Nat} {xs ys : List Value} (h1 : w.ownsRow b1 e1 s1 v n xs) (h2 : w.ownsRow b2 e2 s2 u m ys) (he : e1 ≠ e2) : u.ownBlock = none ∨ u.ownBlock ≠ v.ownBlock := by
  rcases h1.2 with ⟨h, _⟩ | ⟨g, cap, cur, hv, _, hg, _⟩
  · subst h
    cases hu : u.ownBlock with
    | none => exact .inl rfl
    | some c => exact .inr (by simp [Value.ownBlock])
  · rcases h2.2 with ⟨h, _⟩ | ⟨g2, cap2, cur2, hu, _, hg2, _⟩
    · subst h; exact .inl rfl
    · subst hv; subst hu
      refine .inr (fun e => ?_)
      simp [Value.ownBlock] at e
      subst e
      rw [hg] at hg2
      injection hg2 with hg2
      injection hg2 with _ h3
      exact he h3
theorem row_below {w w' : World} {base : Nat} {e : TypeId} {size : Nat} {v : Value} {n : Nat} {xs : List Value} (h : w.ownsRow base e size v n xs) (hb : Below w.heap.size w w') : w'.ownsRow base e size v n xs :=
  h.kept (grownBy_below (row := none) hb) (by cases v.ownBlock <;> simp)
/-- What is known of the acts that were kept. -/
structure Kept (w : World) (k m : Nat) (M : List AcR) (T : List Int) (tl : Nat) : Prop where
  le : m ≤ k
  few : m ≤ 61
  len : M.length = m
  each : ∀ x ∈ M, RdA w x ∧ AcW x.a ∧ layOk x.a = true
  text : T = ((acts M).map layS).flatten
  size : tl ≤ 300 * m
theorem Kept.nil (w : World) : Kept w 0 0 [] [] 0 := ⟨by omega, by omega, rfl, (fun x hx => by cases hx), rfl, by omega⟩
theorem Kept.next {w : World} {k m tl : Nat} {M : List AcR} {T : List Int} (h : Kept w k m M T tl) : Kept w (k + 1) m M T tl := ⟨by have := h.le; omega, h.few, h.len, h.each, h.text, h.size⟩
theorem Kept.snoc {w : World} {k m tl n : Nat} {M : List AcR} {T : List Int} {x : AcR} (h : Kept w k m M T tl) (hk : k ≤ 60) (hr : RdA w x) (hw : AcW x.a) (hl : layOk x.a = true) (hn : (layS x.a).length = n) : Kept w (k + 1) (m + 1) (M ++ [x]) (T ++ layS x.a) (tl + n) := by
  have h1 := h.le
  have h2 := lay_len hl
  have h3 := h.size
  refine ⟨by omega, by omega, by rw [List.length_append, h.len]; rfl, fun y hy => ?_, ?_, by omega⟩
  · rcases List.mem_append.1 hy with hy | hy
    · exact h.each y hy
    · rw [List.mem_singleton.1 hy]; exact ⟨hr, hw, hl⟩
  · rw [h.text]; simp [acts]
theorem Kept.back {w : World} {k m tl : Nat} {M : List AcR} {T : List Int} (h : Kept w k m M T tl) : actsP T = acts M := by
  have h1 := lays_back (acts M) (fun a ha => by obtain ⟨x, hx, rfl⟩ := List.mem_map.1 ha; exact (h.each x hx).2.2)
  unfold actsP
  rw [h.text, h1]
theorem Kept.bytes {w : World} {k m tl : Nat} {M : List AcR} {T : List Int} (h : Kept w k m M T tl) : U8s T := by
  intro z hz
  rw [h.text] at hz
  obtain ⟨l, hl, hz⟩ := List.mem_flatten.1 hz
  obtain ⟨a, ha, rfl⟩ := List.mem_map.1 hl
  obtain ⟨x, hx, rfl⟩ := List.mem_map.1 ha
  exact lay_bytes (h.each x hx).2.2 (h.each x hx).2.1 z hz
set_option maxHeartbeats 3200000 in
set_option maxRecDepth 100000 in
/-- The walk. -/
theorem walk {A : Option Addr} {n c : Nat} {R : List AcR} (w : World) (hT : KnownL w) (hs0 : Vs acV w A n R ∧ (∀ x ∈ R, AcOkIn w x) ∧ n ≤ c ∧ c ≤ maxLen) :
    Calls Tryd.prog 4 #[.slice A n c] w fun e w' => e = .returned (.bool true) ∧ Below w.heap.size w w' := by
  have H := Lib.hid (And.intro hs0.1 hs0.2.1)
  have hnc : n ≤ maxLen := by omega
  unfold maxLen at hnc
  have HT := Lib.hid hT
  clear hs0 hT
  go_enter Tryd.func4, Tryd.ntmps4
  go_wp2_with fail
  go_loopw [3, 4, 11] (fun v u i wr => ∃ (k m : Nat) (M : List AcR) (T : List Int) (tl : Nat), k ≤ n ∧ i = .int .i64 k ∧ Kept w k m M T tl ∧ wr.ownsRow w.heap.size 5 1 v tl (T.map (Value.int .u8)) ∧ wr.ownsRow w.heap.size 25 6 u m (rowV acV M) ∧ Below w.heap.size w wr) (fun _ _ i _ => n - (intOf i).toNat)
  case atStart => exact ⟨0, 0, [], [], 0, by omega, rfl, Kept.nil w, World.ownsRow_nil _ _ _ _, World.ownsRow_nil _ _ _ _, Below.refl _ _⟩
  case round =>
    obtain ⟨k, m, M, T, tl, hk, rfl, hK, ho, hu, hbw⟩ := hrel
    obtain ⟨Av, cv, rfl, hvc, _⟩ := own_shape ho
    obtain ⟨Au, cu, rfl, _, _⟩ := own_shape hu
    have S := Lib.hid (And.intro ho (And.intro hu hbw))
    have HK := Lib.hid hK
    clear ho hu hbw hK hvc
    by_cases hlt : k < n
    · have hV := H.out.1.below S.out.2.2
      obtain ⟨x, ex⟩ : ∃ x, R[k]? = some x := ⟨_, List.getElem?_eq_getElem (by rw [hV.len]; exact hlt)⟩
      have HX := Lib.hid (H.out.2 x (List.mem_of_getElem? ex))
      obtain ⟨ad, rfl⟩ := hV.addr (by omega)
      obtain ⟨a0, a1, a2, a3, a4, a5⟩ := hV.sxa ex
      obtain ⟨a, P, np, cp, T', nt, ct⟩ := x
      simp only at a0 a1 a2 a3 a4 a5
      obtain ⟨g, hg⟩ : ∃ g, g = wr.heap.size := ⟨_, rfl⟩
      have HG := Lib.hid hg
      have S1 : Hid (Bx (wr.alloc (.cells #[.int .i64 a.k, .int .i32 a.r, .int .u8 a.m, .int .u8 a.fin, .slice P np cp, .slice T' nt ct] 25)) g ⟨a, P, np, cp, T', nt, ct⟩ ∧ (wr.alloc (.cells #[.int .i64 a.k, .int .i32 a.r, .int .u8 a.m, .int .u8 a.fin, .slice P np cp, .slice T' nt ct] 25)).ownsRow w.heap.size 5 1 (.slice Av tl cv) tl (T.map (Value.int .u8)) ∧ (wr.alloc (.cells #[.int .i64 a.k, .int .i32 a.r, .int .u8 a.m, .int .u8 a.fin, .slice P np cp, .slice T' nt ct] 25)).ownsRow w.heap.size 25 6 (.slice Au m cu) m (rowV acV M) ∧ Below w.heap.size w (wr.alloc (.cells #[.int .i64 a.k, .int .i32 a.r, .int .u8 a.m, .int .u8 a.fin, .slice P np cp, .slice T' nt ct] 25)) ∧ (∀ q, (Value.slice Av tl cv).ownBlock = some q → q < g) ∧ (∀ q, (Value.slice Au m cu).ownBlock = some q → q < g)) := Lib.hid (by
        have h1 := Bx.new wr ⟨a, P, np, cp, T', nt, ct⟩
        have hl : Below wr.heap.size wr (wr.alloc (.cells #[.int .i64 a.k, .int .i32 a.r, .int .u8 a.m, .int .u8 a.fin, .slice P np cp, .slice T' nt ct] 25)) := (Below.refl _ _).alloc (Nat.le_refl _) _
        rw [hg]
        exact ⟨h1, row_below S.out.1 hl, row_below S.out.2.1 hl, S.out.2.2.trans (hl.mono S.out.2.2.size), fun q hq => (S.out.1.lt q hq).2, fun q hq => (S.out.2.1.lt q hq).2⟩)
      clear hg hV
      go_upto_region 6 with fail
      rw [← HG.out]
      generalize (wr.alloc (.cells #[.int .i64 a.k, .int .i32 a.r, .int .u8 a.m, .int .u8 a.fin, .slice P np cp, .slice T' nt ct] 25)) = w1 at S1 ⊢
      clear S HG a0 a1 a2 a3 a4 a5
      have S := Lib.hid (And.intro S1.out.2.1 (And.intro S1.out.2.2.1 S1.out.2.2.2.1))
      obtain ⟨_, p0, p1, p2, p3, p4, p5⟩ := bx_cells S1.out.1
      simp only at p0 p1 p2 p3 p4 p5
      by_cases h60 : k ≤ 60
      · by_cases hp : np ≤ 1000
        · by_cases ht : nt ≤ 16384
          · go_wp2_with fail
            refine (pLay_any (x := ⟨a, P, np, cp, T', nt, ct⟩) (HT.out.below S1.out.2.2.2.1 (Nat.le_refl _)) (HX.out.rd.below S1.out.2.2.2.1) HX.out.w hp ht).mono ?_
            rintro e w2 ⟨A2, n2, c2, rfl, hs2, hb2⟩
            cases hl : layOk a
            · rw [hl] at hs2
              have S2 := Lib.hid (And.intro (row_below S.out.1 hb2) (And.intro (row_below S.out.2.1 hb2) (S.out.2.2.trans (hb2.mono S.out.2.2.size))))
              clear hs2 hb2 S S1 hl p0 p1 p2 p3 p4 p5
              go_wp2_with fail
              go_roundw
              case rel => exact ⟨k + 1, m, M, T, tl, by omega, by go_num, HK.out.next, S2.out.1, S2.out.2.1, S2.out.2.2⟩
              case measure => simp [intOf]; omega
            · rw [hl] at hs2
              have S2 := Lib.hid (And.intro (row_below S.out.1 hb2) (And.intro (row_below S.out.2.1 hb2) (And.intro (S.out.2.2.trans (hb2.mono S.out.2.2.size)) (And.intro (S1.out.1.below hb2) (And.intro (show Sb w2 A2 n2 (layS a) from hs2) S1.out.2.2.2.2)))))
              have HL := Lib.hid (show layOk a = true from hl)
              have HN2 := Lib.hid (show n2 ≤ 300 by have := S2.out.2.2.2.2.1.len; have := lay_len hl; omega)
              clear hs2 hb2 S S1 hl p0 p1 p2 p3 p4 p5
              go_wp2_with (refine wpList_app _ rfl (.tmp 37) (.tmp 38) _ rfl w.heap.size 5 Tryd.underlying23 info8 (.slice Av tl cv) tl _ rfl S2.out.1 A2 n2 c2 (layS a) rfl S2.out.2.2.2.2.1 (by have h1 := HK.out.size; have h2 := HK.out.few; have h3 := HN2.out; omega) S2.out.2.2.1.size ?_)
              intro A3 c3 w3 o3 g3
              have S3 : Hid (w3.ownsRow w.heap.size 5 1 (.slice A3 (tl + n2) c3) (tl + n2) ((T ++ layS a).map (Value.int .u8)) ∧ w3.ownsRow w.heap.size 25 6 (.slice Au m cu) m (rowV acV M) ∧ Below w.heap.size w w3 ∧ Bx w3 g ⟨a, P, np, cp, T', nt, ct⟩) := Lib.hid (by
                refine ⟨by rw [List.map_append]; exact o3, S2.out.2.1.kept g3 (rows_apart S2.out.1 S2.out.2.1 (by decide)), S2.out.2.2.1.grown g3 S2.out.2.2.1.size (fun q hq => (S2.out.1.lt q hq).1), S2.out.2.2.2.1.grown g3 (fun e => ?_)⟩
                have := S2.out.2.2.2.2.2.1 g e
                omega)
              clear o3 g3
              have HNN := Lib.hid (show (layS a).length = n2 from S2.out.2.2.2.2.1.len)
              clear S2
              obtain ⟨_, p0, p1, p2, p3, p4, p5⟩ := bx_cells S3.out.2.2.2
              simp only at p0 p1 p2 p3 p4 p5
              have al := al_below w3 (.cells #[.int .i64 a.k, .int .i32 a.r, .int .u8 a.m, .int .u8 a.fin, .slice P np cp, .slice T' nt ct] 25)
              have S5 := Lib.hid (And.intro (row_below S3.out.1 al) (And.intro (row_below S3.out.2.1 al) (And.intro (S3.out.2.2.1.trans (al.mono S3.out.2.2.1.size)) (show Vs acV (w3.alloc (.cells #[.int .i64 a.k, .int .i32 a.r, .int .u8 a.m, .int .u8 a.fin, .slice P np cp, .slice T' nt ct] 25)) (some ⟨w3.heap.size, 0, none⟩) 1 [⟨a, P, np, cp, T', nt, ct⟩] from acts_lit w3 [⟨a, P, np, cp, T', nt, ct⟩]))))
              clear al
              go_wp2_with (refine wpList_app_V _ rfl (.tmp 40) (.tmp 42) 35 rfl acV_len one_ac w.heap.size 25 _ 64 (by omega) Tryd.underlying35 infoAc rfl (by omega) (.slice Au m cu) m M rfl S5.out.2.1 (some ⟨w3.heap.size, 0, none⟩) 1 1 (m + 1) rfl [⟨a, P, np, cp, T', nt, ct⟩] rfl S5.out.2.2.2 (by have := HK.out.few; omega) S5.out.2.2.1.size ?_)
              intro A6 c6 w6 o6 g6
              have S6 := Lib.hid (show w6.ownsRow w.heap.size 5 1 (.slice A3 (tl + n2) c3) (tl + n2) ((T ++ layS a).map (Value.int .u8)) ∧ w6.ownsRow w.heap.size 25 6 (.slice A6 (m + 1) c6) (m + 1) (rowV acV (M ++ [⟨a, P, np, cp, T', nt, ct⟩])) ∧ Below w.heap.size w w6 from
                ⟨S5.out.1.kept g6 (rows_apart S5.out.2.1 S5.out.1 (by decide)), o6, S5.out.2.2.1.grown g6 S5.out.2.2.1.size (fun q hq => (S5.out.2.1.lt q hq).1)⟩)
              clear o6 g6 S5 S3 p0 p1 p2 p3 p4 p5
              go_wp2_with fail
              go_roundw
              case rel => exact ⟨k + 1, m + 1, M ++ [⟨a, P, np, cp, T', nt, ct⟩], T ++ layS a, tl + n2, by omega, by go_num, HK.out.snoc h60 HX.out.rd HX.out.w HL.out HNN.out, S6.out.1, S6.out.2.1, S6.out.2.2⟩
              case measure => simp [intOf]; omega
          · clear S1
            go_wp2_with fail
            refine (fixedP_any w1 (HT.out.t.below S.out.2.2 (Nat.le_refl _))).mono ?_
            rintro e w4 ⟨rfl, b4⟩
            have S4 : Hid (Sb w4 Av tl T ∧ Ats w4 Au m M ∧ Below w.heap.size w w4) := Lib.hid (by
              have bw := S.out.2.2.trans (b4.mono S.out.2.2.size)
              exact ⟨(Sb.own S.out.1).below b4, ⟨(own_vs HK.out.len S.out.2.1).below b4, fun x hx => (HK.out.each x hx).1.below bw⟩, bw⟩)
            clear b4
            go_wp2_with fail
            refine (pActs_any (HT.out.t.below S4.out.2.2 (Nat.le_refl _)) S4.out.1 HK.out.bytes (by have := HK.out.size; have := HK.out.few; omega)).mono ?_
            rw [HK.out.back]
            rintro e w5 ⟨A5, c5, R5, rfl, hA, hR, _, _, hb⟩
            have S5 : Hid (Ats w5 A5 R5.length R5 ∧ Ats w5 Au m M ∧ Below w.heap.size w w5 ∧ acts R5 = acts M ∧ R5.length = m ∧ m ≤ 61) := Lib.hid ⟨hA, S4.out.2.1.below hb, S4.out.2.2.trans (hb.mono S4.out.2.2.size), hR, by rw [← acts_len, hR, acts_len]; exact HK.out.len, HK.out.few⟩
            clear hb hA hR S4
            go_wp2_with fail
            refine (refSameA_any (R := R5) S5.out.1 S5.out.2.1 (by have := S5.out.2.2.2.2.1; have := S5.out.2.2.2.2.2; omega) (by have := S5.out.2.2.2.2.2; omega)).mono ?_
            rintro e w6 ⟨rfl, hb⟩
            rw [decide_eq_true S5.out.2.2.2.1]
            have HB := Lib.hid (S5.out.2.2.1.trans (hb.mono S5.out.2.2.1.size))
            clear hb
            go_wp2_with fail
            go_ret
            exact ⟨rfl, HB.out⟩
        · clear S1
          go_wp2_with fail
          refine (fixedP_any w1 (HT.out.t.below S.out.2.2 (Nat.le_refl _))).mono ?_
          rintro e w4 ⟨rfl, b4⟩
          have S4 : Hid (Sb w4 Av tl T ∧ Ats w4 Au m M ∧ Below w.heap.size w w4) := Lib.hid (by
            have bw := S.out.2.2.trans (b4.mono S.out.2.2.size)
            exact ⟨(Sb.own S.out.1).below b4, ⟨(own_vs HK.out.len S.out.2.1).below b4, fun x hx => (HK.out.each x hx).1.below bw⟩, bw⟩)
          clear b4
          go_wp2_with fail
          refine (pActs_any (HT.out.t.below S4.out.2.2 (Nat.le_refl _)) S4.out.1 HK.out.bytes (by have := HK.out.size; have := HK.out.few; omega)).mono ?_
          rw [HK.out.back]
          rintro e w5 ⟨A5, c5, R5, rfl, hA, hR, _, _, hb⟩
          have S5 : Hid (Ats w5 A5 R5.length R5 ∧ Ats w5 Au m M ∧ Below w.heap.size w w5 ∧ acts R5 = acts M ∧ R5.length = m ∧ m ≤ 61) := Lib.hid ⟨hA, S4.out.2.1.below hb, S4.out.2.2.trans (hb.mono S4.out.2.2.size), hR, by rw [← acts_len, hR, acts_len]; exact HK.out.len, HK.out.few⟩
          clear hb hA hR S4
          go_wp2_with fail
          refine (refSameA_any (R := R5) S5.out.1 S5.out.2.1 (by have := S5.out.2.2.2.2.1; have := S5.out.2.2.2.2.2; omega) (by have := S5.out.2.2.2.2.2; omega)).mono ?_
          rintro e w6 ⟨rfl, hb⟩
          rw [decide_eq_true S5.out.2.2.2.1]
          have HB := Lib.hid (S5.out.2.2.1.trans (hb.mono S5.out.2.2.1.size))
          clear hb
          go_wp2_with fail
          go_ret
          exact ⟨rfl, HB.out⟩
      · clear S1
        go_wp2_with fail
        refine (fixedP_any w1 (HT.out.t.below S.out.2.2 (Nat.le_refl _))).mono ?_
        rintro e w4 ⟨rfl, b4⟩
        have S4 : Hid (Sb w4 Av tl T ∧ Ats w4 Au m M ∧ Below w.heap.size w w4) := Lib.hid (by
          have bw := S.out.2.2.trans (b4.mono S.out.2.2.size)
          exact ⟨(Sb.own S.out.1).below b4, ⟨(own_vs HK.out.len S.out.2.1).below b4, fun x hx => (HK.out.each x hx).1.below bw⟩, bw⟩)
        clear b4
        go_wp2_with fail
        refine (pActs_any (HT.out.t.below S4.out.2.2 (Nat.le_refl _)) S4.out.1 HK.out.bytes (by have := HK.out.size; have := HK.out.few; omega)).mono ?_
        rw [HK.out.back]
        rintro e w5 ⟨A5, c5, R5, rfl, hA, hR, _, _, hb⟩
        have S5 : Hid (Ats w5 A5 R5.length R5 ∧ Ats w5 Au m M ∧ Below w.heap.size w w5 ∧ acts R5 = acts M ∧ R5.length = m ∧ m ≤ 61) := Lib.hid ⟨hA, S4.out.2.1.below hb, S4.out.2.2.trans (hb.mono S4.out.2.2.size), hR, by rw [← acts_len, hR, acts_len]; exact HK.out.len, HK.out.few⟩
        clear hb hA hR S4
        go_wp2_with fail
        refine (refSameA_any (R := R5) S5.out.1 S5.out.2.1 (by have := S5.out.2.2.2.2.1; have := S5.out.2.2.2.2.2; omega) (by have := S5.out.2.2.2.2.2; omega)).mono ?_
        rintro e w6 ⟨rfl, hb⟩
        rw [decide_eq_true S5.out.2.2.2.1]
        have HB := Lib.hid (S5.out.2.2.1.trans (hb.mono S5.out.2.2.1.size))
        clear hb
        go_wp2_with fail
        go_ret
        exact ⟨rfl, HB.out⟩
    · obtain rfl : k = n := by omega
      go_wp2_with fail
      refine (fixedP_any wr (HT.out.t.below S.out.2.2 (Nat.le_refl _))).mono ?_
      rintro e w4 ⟨rfl, b4⟩
      have S4 : Hid (Sb w4 Av tl T ∧ Ats w4 Au m M ∧ Below w.heap.size w w4) := Lib.hid (by
        have bw := S.out.2.2.trans (b4.mono S.out.2.2.size)
        exact ⟨(Sb.own S.out.1).below b4, ⟨(own_vs HK.out.len S.out.2.1).below b4, fun x hx => (HK.out.each x hx).1.below bw⟩, bw⟩)
      clear b4
      go_wp2_with fail
      refine (pActs_any (HT.out.t.below S4.out.2.2 (Nat.le_refl _)) S4.out.1 HK.out.bytes (by have := HK.out.size; have := HK.out.few; omega)).mono ?_
      rw [HK.out.back]
      rintro e w5 ⟨A5, c5, R5, rfl, hA, hR, _, _, hb⟩
      have S5 : Hid (Ats w5 A5 R5.length R5 ∧ Ats w5 Au m M ∧ Below w.heap.size w w5 ∧ acts R5 = acts M ∧ R5.length = m ∧ m ≤ 61) := Lib.hid ⟨hA, S4.out.2.1.below hb, S4.out.2.2.trans (hb.mono S4.out.2.2.size), hR, by rw [← acts_len, hR, acts_len]; exact HK.out.len, HK.out.few⟩
      clear hb hA hR S4
      go_wp2_with fail
      refine (refSameA_any (R := R5) S5.out.1 S5.out.2.1 (by have := S5.out.2.2.2.2.1; have := S5.out.2.2.2.2.2; omega) (by have := S5.out.2.2.2.2.2; omega)).mono ?_
      rintro e w6 ⟨rfl, hb⟩
      rw [decide_eq_true S5.out.2.2.2.1]
      have HB := Lib.hid (S5.out.2.2.1.trans (hb.mono S5.out.2.2.1.size))
      clear hb
      go_wp2_with fail
      go_ret
      exact ⟨rfl, HB.out⟩

set_option maxRecDepth 100000 in
theorem lifted (os : Os) (started : os.Started) (H : Type) (enc : TypeId × Value → H) :
    ReturnsInHanded {} Tryd.checked os 4 .any (fun w args => (Rows.parseBackSpec.pre enc Tryd.prog Tryd.f4 [] false w args ∧ laidMetH Tryd.prog laidM w) ∧ sizedMet enc Tryd.prog Tryd.f4 (OpenSpec.ofChange Rows.parseBackSpec) false w args)
      (Rows.parseBackSpec.post enc Tryd.prog Tryd.f4 false true false false) := by
  refine returnsInHanded_of_change_and (C := Tryd.checked) (X := fun w _ => laidMetH Tryd.prog laidM w) (fun _ _ _ hh h => h.of_heap hh) own started (by kernel_rfl) Tryd.func4
    (ChangeSpec.witness_shaped (enc := enc) (C := Tryd.checked) (os := os) (X := fun w _ => laidMetH Tryd.prog laidM w) false (World.laidAll Tryd.prog os laidM) #[.slice none 0 0] 8 (World.laidAll_os _ _ _) (startM_shaped os) (by kernel_rfl) (by kernel_rfl) (by kernel_rfl) (startM_met os _)) ?_
  intro W base args ds gs before hval0 hW _ hsz0 hL _
  have hsz : (DataW.weightsEach Tryd.prog (Tryd.f4.params.toList ++ Rows.parseBackSpec.plain.varTypes Tryd.prog) (ds ++ gs)).all (· ≤ reachBytes) = true := hsz0
  clear hsz0
  have hval : ∀ (j : Nat) t v, Tryd.f4.params[j]? = some t → args[j]? = some v → Value.okWide Tryd.prog W .any base t v := hval0
  have hW' := hW
  obtain ⟨p, q, hA0, hV, rfl, _, _⟩ := hW
  have hA : DataW.TrodAll enc Tryd.prog W 0 (fun _ => true) true Tryd.f4.params.toList args.toList ds p := hA0
  rw [Tryd.params4] at hA hval hsz
  obtain ⟨v0, vs0, d0, ds0, p0, q0, hargs, rfl, rfl, h0, r0⟩ := trodAll_cons hA
  obtain ⟨rfl, rfl, rfl⟩ := trodAll_nil r0
  obtain rfl : args = #[v0] := by cases args; simp_all
  obtain ⟨rfl, rfl⟩ := trodVars_none hV
  have lt0 : ∀ x ∈ p0, x.block < W.heap.size := by obtain ⟨m, hm⟩ := h0; exact DataW.trod_lt m _ _ _ hm
  obtain ⟨A0, n0, c0, R0, rfl, s0⟩ := open_acts (hval 0 35 v0 rfl rfl) h0
  clear hA0 hval0
  refine (walk W (tabsM_of_laid hL) s0).mono fun e W' ⟨he, bel⟩ => ?_
  subst he
  exact ⟨_, rfl, _, _, _, [], _, [], hW', trodAll_mk1 (shut_bool Tryd.underlying4 _), (trodAll_cons_mk (Below.trod laidOut (by kernel_rfl) (of_decide_eq_true (by kernel_rfl)) h0 bel lt0) trodAll_mk0), rfl, bel.frame _, fun h => by cases h⟩

theorem over : Rows.parseBackRow.holds Tryd.pinned (OpenSpec.ofChange Rows.parseBackSpec) :=
  OpenClaim.holds_of_wide 4 Tryd.f4 rfl rfl rfl rfl rfl rfl rfl ⟨rfl, rfl, rfl, rfl, rfl⟩ rfl rfl rfl rfl rfl (by kernel_rfl) Tryd.func4 (by kernel_rfl)
    (of_decide_eq_true (by kernel_rfl)) (by unfold Func.isWrapper; first | (rw [if_pos (by decide +kernel)]; kernel_rfl) | (rw [if_neg (by decide +kernel)]; exact ⟨rfl, rfl⟩))
    (fun os started H enc _ => lifted os started H enc)

theorem proved : Rows.ParseBackCardSaid :=
  Claim7.holds_tied_plain_at .later [] [.data, .data, .data, .data, .pinned] true Rows.parseBackCard.stood.harness false
    over (fun _ h => by cases h) (by kernel_rfl) (fun _ h => by cases h) parseBack_row_tie rfl ⟨rfl, rfl⟩ (by kernel_rfl) rfl
    (fun f fn hf hfn => by
      obtain rfl : f = 4 := Option.some.inj ((show Tryd.prog.funcNamed "spyglass/spyglasslaw11.ParseBack" = some 4 by kernel_rfl).symm.trans hf) |>.symm
      obtain rfl : fn = Tryd.f4 := (Option.some.inj (Tryd.func4.symm.trans hfn)).symm
      exact ⟨by kernel_rfl, fun j t ht => by
        rw [Tryd.params4] at ht
        have hm : t ∈ [35] := by simpa using Array.mem_of_getElem? ht
        have hall : ([35].all fun u => !Tryd.prog.wantsStandIn u) = true := by kernel_rfl
        exact (show Tryd.prog.wantsStandIn t = false by simpa using List.all_eq_true.1 hall t hm)⟩)
    (by kernel_rfl)
end Go.Proofs.YtappnfifhpmekaaDoor.parseBack
