/-
  Proved: LinksCanon answers true for every row of cells and every table.
-/
import Derived.Test.YtbjgjhhombalpaaOpen
import Derived.Test.YtbjgjhhombalpaaWeights
import Derived.Test.YtbjgjhhombalpaaLinksIn
import Derived.Test.YtbjgjhhombalpaaLinksFixed
import Derived.Test.YtbjgjhhombalpaaLinksRefRight
import Derived.WalkKit
namespace Go.Proofs.Ytbjgjhhombalpaa.linksCanon
open Go.ChangeShapes Go.WideShapes Go.ChangeAt Go.RowKit

/-- A cell with another rune. -/
def setR (c : Ce) (z : Int) : Ce := ⟨z, c.wd, c.p⟩
theorem row_setR (z : Int) : ∀ (L : List Ce) (k : Nat), k < L.length → (rowV ceV L).set (k * 6) (.int .i32 z) = rowV ceV (L.set k (setR (cAt L k) z)) := by
  intro L
  induction L with
  | nil => intro k hk; simp at hk
  | cons a L ih =>
    intro k hk
    cases k with
    | zero =>
      show (ceV a ++ rowV ceV L).set 0 _ = ceV (setR a z) ++ rowV ceV L
      rw [List.set_append_left _ _ (by rw [ceV_len]; omega)]
      rfl
    | succ k =>
      have := ih k (by simpa using hk)
      show (ceV a ++ rowV ceV L).set ((k + 1) * 6) _ = ceV a ++ rowV ceV (L.set k (setR (cAt L k) z))
      rw [List.set_append_right _ _ (by rw [ceV_len]; omega), ceV_len, ← this, show (k + 1) * 6 - 6 = k * 6 by omega]
theorem rw_setR {t : TypeId} {w : World} {g : Nat} {L : List Ce} (h : Rw ceV t w g L) {k : Nat} (hk : k < L.length) (z : Int) :
    Rw ceV t (w.setCell ⟨g, k * 6, none⟩ (.int .i32 z)) g (L.set k (setR (cAt L k) z)) := by
  obtain ⟨r, h⟩ := h
  refine ⟨r, ?_⟩
  rw [heap_setCell_same w g (k * 6) _ _ _ h, ← row_setR z L k hk]
  congr 2
  rw [List.setIfInBounds_toArray, List.set_append_left]
  rw [rowV_len ceV_len]
  omega
/-- What stays, and what is changed, behind the calls. -/
structure Sc (w3 : World) (A7 : Option Addr) (n c7 : Nat) (C : List Ce) (A8 : Option Addr) (m8 c8 : Nat) (M : List ByteArray) (wr : World) : Prop where
  bel : Below w3.heap.size w3 wr
  cx : Cx w3.heap.size wr A7 n c7 C
  tx : Tx w3.heap.size wr A8 m8 c8 M
theorem Sc.below {w3 : World} {A7 : Option Addr} {n c7 : Nat} {C : List Ce} {A8 : Option Addr} {m8 c8 : Nat} {M : List ByteArray} {wr w' : World} (h : Sc w3 A7 n c7 C A8 m8 c8 M wr) (hb : Below wr.heap.size wr w') : Sc w3 A7 n c7 C A8 m8 c8 M w' :=
  ⟨h.bel.trans (hb.mono h.bel.size), h.cx.below hb, h.tx.below hb⟩
theorem Sc.setR {w3 : World} {n c7 g k : Nat} {C : List Ce} {A8 : Option Addr} {m8 c8 : Nat} {M : List ByteArray} {wr : World} (h : Sc w3 (some ⟨g, 0, none⟩) n c7 C A8 m8 c8 M wr) (hk : k < n) (z : Int) :
    Sc w3 (some ⟨g, 0, none⟩) n c7 (C.set k (linksCanon.setR (cAt C k) z)) A8 m8 c8 M (wr.setCell ⟨g, k * 6, none⟩ (.int .i32 z)) := by
  have hlen := h.cx.len
  have hg2 : wr.grownBy (wr.setCell ⟨g, k * 6, none⟩ (.int .i32 z)) (some g) := grownBy_set wr ⟨g, k * 6, none⟩ _
  obtain ⟨g', e, hb, hR⟩ := h.cx.own (by omega)
  injection e with e
  injection e with e
  subst e
  refine ⟨h.bel.setCell hb _, ⟨by rw [List.length_set]; exact hlen, h.cx.le, h.cx.max, fun _ => ⟨g, rfl, hb, rw_setR hR (by omega) z⟩⟩, h.tx.grown hg2 fun g2 e2 e3 => ?_⟩
  injection e3 with e3
  exact cx_not_tx h.cx h.tx (by omega) g rfl (by rw [e2, e3]; rfl)
theorem tx_ne_cx {base base' : Nat} {w : World} {A : Option Addr} {g n c n' c' : Nat} {L : List Ce} {L' : List ByteArray} (h : Cx base w A n c L) (h' : Tx base' w (some ⟨g, 0, none⟩) n' c' L') (hn : 0 < n) : ∀ g', A = some ⟨g', 0, none⟩ → g' ≠ g := by
  intro g' e e2
  exact cx_not_tx h h' hn g' e (by rw [e2]; rfl)
theorem Sc.setT {w3 : World} {A7 : Option Addr} {n c7 g k m8 c8 : Nat} {C : List Ce} {M : List ByteArray} {wr : World} (h : Sc w3 A7 n c7 C (some ⟨g, 0, none⟩) m8 c8 M wr) (hk : k < m8) (s : ByteArray) :
    Sc w3 A7 n c7 C (some ⟨g, 0, none⟩) m8 c8 (M.set k s) (wr.setCell ⟨g, k, none⟩ (.string s)) := by
  obtain ⟨g', e, hb, _, _⟩ := h.tx.blk (by omega)
  injection e with e
  injection e with e
  subst e
  have hg2 : wr.grownBy (wr.setCell ⟨g, k, none⟩ (.string s)) (some g) := grownBy_set wr ⟨g, k, none⟩ _
  refine ⟨h.bel.setCell hb _, ⟨h.cx.len, h.cx.le, h.cx.max, fun hn => ?_⟩, (h.tx.stored k s).1⟩
  obtain ⟨g2, e2, hb2, hR⟩ := h.cx.own hn
  exact ⟨g2, e2, hb2, hR.grown hg2 fun e3 => tx_ne_cx h.cx h.tx hn g2 e2 (by injection e3 with e3; exact e3.symm)⟩
set_option maxHeartbeats 2000000 in
/-- The walk. -/
theorem walk {A A' : Option Addr} {n c m c' : Nat} {cs : List Ce} {L : List ByteArray} (w : World) (hc : Vs ceV w A n cs ∧ (∀ x ∈ cs, 0 ≤ x.p.lk ∧ x.p.lk ≤ 65535) ∧ n ≤ c ∧ c ≤ maxLen) (ht : Vs stV w A' m L ∧ (∀ s ∈ L, s.size ≤ 140737488351232) ∧ m ≤ 140737488351232 ∧ m ≤ c' ∧ c' ≤ maxLen) :
    Calls Try.prog 5 #[.slice A n c, .slice A' m c'] w fun e w' => e = .returned (.bool true) ∧ Below w.heap.size w w' := by
  obtain ⟨hc1, hc2, hc3, hc4⟩ := hc
  obtain ⟨ht1, ht2, ht3, ht4, _⟩ := ht
  obtain rfl := hc1.len
  obtain rfl := ht1.len
  unfold maxLen at hc4
  have H := Lib.hid (And.intro hc1 ht1)
  have HL := Lib.hid (And.intro hc2 ht2)
  clear hc1 hc2 ht1 ht2
  go_enter Try.func5, Try.ntmps5
  go_wp2_with fail
  refine (greatT_any (m := cs.length) H.out.2 ht3 (by omega) HL.out.2).mono ?_
  rintro e w' ⟨rfl, rfl⟩
  cases hg : greatT cs.length L
  · obtain ⟨g1, g2⟩ := greatT_no hg
    have g3 : L.length ≤ 16384 := by have := sumT_len L; omega
    clear hg g1
    go_wp2_with fail
    refine (copyC_any H.out.1 (by omega)).mono ?_
    rintro e w1 ⟨hb1, gA, cA, rfl, _, _, _, hRA⟩
    have X1 := Lib.hid (And.intro hb1 hRA.vs)
    clear hb1 hRA
    go_wp2_with fail
    refine (copyT_any (H.out.2.below X1.out.1) (by omega)).mono ?_
    rintro e w3 ⟨v, rfl, hb2, AB, cB, rfl, hTB⟩
    have V := Lib.hid (show Below w.heap.size w w3 ∧ Vs ceV w3 A cs.length cs ∧ Vs stV w3 A' L.length L ∧ Vs ceV w3 (some ⟨gA, 0, none⟩) cs.length cs ∧ Vs stV w3 AB L.length L from
      ⟨X1.out.1.trans (hb2.mono X1.out.1.size), (H.out.1.below X1.out.1).below hb2, (H.out.2.below X1.out.1).below hb2, X1.out.2.below hb2, hTB.vs⟩)
    have hcB := hTB.le
    clear hTB hb2 X1 H
    go_wp2_with fail
    refine (canon_any V.out.2.2.2.1 V.out.2.2.2.2 HL.out.1 HL.out.2 (by omega) (by omega)).mono ?_
    rintro e w4 ⟨hb, A7, c7, A8, c8, rfl, hC, hT⟩
    have e1 := canonC_len cs L
    have e2 := canonL_cells cs L
    rw [e1] at hC ⊢
    have S4 := Lib.hid (show Sc w3 A7 cs.length c7 (canonC cs L) A8 (canonL cs L).length c8 (canonL cs L) w4 from ⟨hb, hC, hT⟩)
    clear hb hC hT
    have HCL := Lib.hid e1
    have HMs : Hid (∀ s ∈ canonL cs L, s.size ≤ 140737488351232) := Lib.hid (fun s hs => HL.out.2 s (canonL_may hs).2)
    have HO : Hid (ordC cs L = ordS cs L) := Lib.hid (ord_is fun c hc => (HL.out.1 c hc).1)
    clear e1
    go_wp2_with fail
    refine (refCanon_any (V.out.2.1.below S4.out.bel) (V.out.2.2.1.below S4.out.bel) HL.out.1 HL.out.2 (by omega) (by omega)).mono ?_
    rintro e w5 ⟨hb, A9, c9, A10, c10, rfl, hC, hT⟩
    rw [HCL.out] at hC ⊢
    have S5 := Lib.hid (And.intro (S4.out.below hb) (And.intro hC.vs hT.vs))
    clear hb hC hT S4
    obtain ⟨C, hC⟩ : ∃ C, canonC cs L = C := ⟨_, rfl⟩
    obtain ⟨M, hM⟩ : ∃ M, canonL cs L = M := ⟨_, rfl⟩
    rw [hM] at e2 HMs ⊢
    rw [hC, hM] at S5
    have HCM := Lib.hid (And.intro hC hM)
    clear hC hM
    go_wp2_with fail
    refine (fixedT_any _).mono ?_
    rintro e w6 ⟨rfl, hb⟩
    have S6 := Lib.hid (show Sc w3 A7 cs.length c7 C A8 M.length c8 M w6 ∧ Vs ceV w6 A9 cs.length C ∧ Vs stV w6 A10 M.length M from ⟨S5.out.1.below hb, S5.out.2.1.below hb, S5.out.2.2.below hb⟩)
    clear hb S5
    go_wp2_with fail
    refine (sameC_any S6.out.1.cx.vs S6.out.2.1 (by omega) (by omega)).mono ?_
    rw [decide_eq_true rfl]
    rintro e w7 ⟨rfl, q, hw⟩
    have hb : Below w6.heap.size w6 w7 := by rw [hw]; exact below_drewN' (Below.refl _ _) q
    have S7 := Lib.hid (show Sc w3 A7 cs.length c7 C A8 M.length c8 M w7 ∧ Vs stV w7 A10 M.length M from ⟨S6.out.1.below hb, S6.out.2.2.below hb⟩)
    clear hb hw S6
    go_wp2_with fail
    refine (sameT_any S7.out.1.tx.vs S7.out.2 (by omega) (by omega)).mono ?_
    rw [decide_eq_true rfl]
    rintro e w8 ⟨rfl, q2, hw⟩
    have hb : Below w7.heap.size w7 w8 := by rw [hw]; exact below_drewN' (Below.refl _ _) q2
    have S8 := Lib.hid (S7.out.1.below hb)
    clear hb hw S7
    go_wp2_with fail
    refine (right_any (V.out.2.2.2.1.below S8.out.bel) (V.out.2.2.2.2.below S8.out.bel) HL.out.1 HL.out.2 (by omega) (by omega) hcB).mono ?_
    rw [HO.out]
    rintro e w9 ⟨rfl, hb⟩
    have S9 := Lib.hid (S8.out.below hb)
    clear hb S8
    go_wp2_with fail
    refine (refRight_any (V.out.2.1.below S9.out.bel) (V.out.2.2.1.below S9.out.bel) HL.out.1 HL.out.2 (by omega) (by omega)).mono ?_
    rintro e w10 ⟨rfl, hb⟩
    have S10 := Lib.hid (S9.out.below hb)
    clear hb S9
    obtain ⟨B, hB⟩ : ∃ B, ordS cs L = B := ⟨_, rfl⟩
    rw [hB]
    clear hB
    have hBB : (B == B) = true := by simp
    go_wp2_with fail
    go_loopw [58] (fun i wr => ∃ (k : Nat) (C1 : List Ce), k ≤ cs.length ∧ i = .int .i64 k ∧ Sc w3 A7 cs.length c7 C1 A8 M.length c8 M wr) (fun i _ => cs.length - (intOf i).toNat)
    case atStart => exact ⟨0, C, Nat.zero_le _, rfl, S10.out⟩
    case round =>
      obtain ⟨k, C1, hk, rfl, hS⟩ := hrel
      have S := Lib.hid hS
      clear hS S10
      by_cases hlt : k < cs.length
      · obtain ⟨g, rfl, hg, hR⟩ := S.out.cx.own (by omega)
        have hcl : C1.length = cs.length := S.out.cx.len
        have hc0 : wr.cell? ⟨g, k * 6, none⟩ = some (.int .i32 (cAt C1 k).r) := hR.cell (rowV_get ceV_len (getElem?_cAt (L := C1) (k := k) (by omega)) (j := 0) rfl)
        have hf0 := hR.free (k * 6)
        have HN := Lib.hid (fun z => S.out.setR hlt z)
        clear hR hg hcl
        generalize (cAt C1 k).r = r at hc0
        go_wp2_with fail
        go_roundw
        case rel => exact ⟨k + 1, _, by omega, by go_num, HN.out _⟩
        case measure => simp [intOf]; omega
      · go_wp2_with fail
        go_loopw [74] (fun i wr => ∃ (k : Nat) (M1 : List ByteArray), k ≤ M.length ∧ i = .int .i64 k ∧ (∀ j, k ≤ j → sAt M1 j = sAt M j) ∧ Sc w3 A7 cs.length c7 C1 A8 M.length c8 M1 wr) (fun i _ => M.length - (intOf i).toNat)
        case atStart => exact ⟨0, M, Nat.zero_le _, rfl, fun _ _ => rfl, S.out⟩
        case round =>
          obtain ⟨k2, M1, hk2, rfl, hm, hS⟩ := hrel
          have S2 := Lib.hid (And.intro hm hS)
          clear hm hS S
          by_cases hlt2 : k2 < M.length
          · obtain ⟨g, rfl, hg, hgl, hfr⟩ := S2.out.2.tx.blk (by omega)
            have hc0 := S2.out.2.tx.vs.str hlt2
            rw [addHead, S2.out.1 k2 (Nat.le_refl _)] at hc0
            have hf0 := hfr k2
            have hs := HMs.out _ (sAt_mem hlt2)
            have HN : Hid (∀ s, Sc w3 A7 cs.length c7 C1 (some ⟨g, 0, none⟩) M.length c8 (M1.set k2 s) (wr.setCell ⟨g, k2, none⟩ (.string s)) ∧ ∀ j, k2 + 1 ≤ j → sAt (M1.set k2 s) j = sAt M j) := Lib.hid (fun s => by
              refine ⟨S2.out.2.setT hlt2 s, fun j hj => ?_⟩
              have hl := S2.out.2.tx.len
              by_cases hjl : j < M1.length
              · rw [sAt_lt (by rw [List.length_set]; exact hjl), List.getElem_set_ne (by omega), ← sAt_lt hjl]
                exact S2.out.1 j (by omega)
              · rw [sAt_ge (by rw [List.length_set]; omega), sAt_ge (by omega)])
            clear hfr hg
            generalize sAt M k2 = x at hc0 hs
            go_wp2_with fail
            go_roundw
            case rel => exact ⟨k2 + 1, _, by omega, by go_num, (HN.out _).2, (HN.out _).1⟩
            case measure => simp [intOf]; omega
          · go_wp2_with fail
            refine (sameC_any (V.out.2.2.2.1.below S2.out.2.bel) (V.out.2.1.below S2.out.2.bel) (by omega) (by omega)).mono ?_
            rw [decide_eq_true rfl]
            rintro e w11 ⟨rfl, q3, hw⟩
            have hb : Below w3.heap.size w3 w11 := by rw [hw]; exact below_drewN' S2.out.2.bel q3
            have S3 := Lib.hid hb
            clear hb hw S2
            go_wp2_with fail
            refine (sameT_any (V.out.2.2.2.2.below S3.out) (V.out.2.2.1.below S3.out) (by omega) (by omega)).mono ?_
            rw [decide_eq_true rfl]
            rintro e w12 ⟨rfl, q4, hw⟩
            have hb : Below w3.heap.size w3 w12 := by rw [hw]; exact below_drewN' S3.out q4
            have S4 := Lib.hid (V.out.1.trans (hb.mono V.out.1.size))
            clear hb hw S3
            go_wp2_with fail
            go_ret
            exact ⟨rfl, S4.out⟩
  · clear hg
    go_wp2_with fail
    refine (fixedT_any _).mono ?_
    rintro e w1 ⟨rfl, hb⟩
    go_wp2_with fail
    go_ret
    exact ⟨rfl, hb⟩

set_option maxRecDepth 100000 in
theorem lifted (os : Os) (started : os.Started) (H : Type) (enc : TypeId × Value → H) :
    ReturnsInHanded {} Try.checked os 5 .any (Rows.linksCanonSpec.pre6 enc Try.prog Try.f5 Rows.linksCanonRow.domain false) (Rows.linksCanonSpec.post enc Try.prog Try.f5 false true false false) := by
  refine returnsInHanded_of_change_sized (C := Try.checked) own started (by kernel_rfl) Try.func5
    (ChangeSpec.witness6 (enc := enc) (C := Try.checked) false ⟨#[], #[.slice none 0 0, .slice none 0 0], []⟩ 8 (by kernel_rfl) (by kernel_rfl) (by kernel_rfl) (by kernel_rfl)) ?_
  intro W base args ds gs before hval0 hW _ hsz0 _
  have hsz : (DataW.weightsEach Try.prog (Try.f5.params.toList ++ Rows.linksCanonSpec.plain.varTypes Try.prog) (ds ++ gs)).all (· ≤ reachBytes) = true := hsz0
  clear hsz0
  have hval : ∀ (j : Nat) t v, Try.f5.params[j]? = some t → args[j]? = some v → Value.okWide Try.prog W .any base t v := hval0
  have hW' := hW
  obtain ⟨p, q, hA0, hV, rfl, _, _⟩ := hW
  have hA : DataW.TrodAll enc Try.prog W 0 (fun _ => true) true Try.f5.params.toList args.toList ds p := hA0
  rw [Try.params5] at hA hval hsz
  obtain ⟨v0, vs0, d0, ds0, p0, q0, hargs, rfl, rfl, h0, r0⟩ := trodAll_cons hA
  obtain ⟨v1, vs1, d1, ds1, p1, q1, rfl, rfl, rfl, h1, r1⟩ := trodAll_cons r0
  obtain ⟨rfl, rfl, rfl⟩ := trodAll_nil r1
  obtain rfl : args = #[v0, v1] := by cases args; simp_all
  obtain ⟨rfl, rfl⟩ := trodVars_none hV
  have lt0 : ∀ x ∈ p0, x.block < W.heap.size := by obtain ⟨m, hm⟩ := h0; exact DataW.trod_lt m _ _ _ hm
  obtain ⟨A0, n0, c0, L0, rfl, s0⟩ := open_cellsL (hval 0 41 v0 rfl rfl) h0
  have lt1 : ∀ x ∈ p1, x.block < W.heap.size := by obtain ⟨m, hm⟩ := h1; exact DataW.trod_lt m _ _ _ hm
  obtain ⟨A1, n1, c1, L1, rfl, s1⟩ := open_texts (weights_at hsz (j := 1) rfl rfl) (hval 1 23 v1 rfl rfl) h1
  clear hA0 hval0
  refine (walk W s0 s1).mono fun e W' ⟨he, bel⟩ => ?_
  subst he
  exact ⟨_, rfl, _, _, _, [], _, [], hW', trodAll_mk1 (shut_bool Try.underlying4 _), (trodAll_cons_mk (Below.trod laidOut (by kernel_rfl) (of_decide_eq_true (by kernel_rfl)) h0 bel lt0) (trodAll_cons_mk (Below.trod laidOut (by kernel_rfl) (of_decide_eq_true (by kernel_rfl)) h1 bel lt1) trodAll_mk0)), rfl, bel.frame _, fun h => by cases h⟩

theorem over : Rows.linksCanonRow.holds Try.pinned (OpenSpec.ofChange Rows.linksCanonSpec) :=
  OpenClaim.holds_of_wide 5 Try.f5 rfl rfl rfl rfl rfl rfl rfl ⟨rfl, rfl, rfl, rfl, rfl⟩ rfl rfl rfl rfl rfl (by kernel_rfl) Try.func5 (by kernel_rfl)
    (of_decide_eq_true (by kernel_rfl)) (by unfold Func.isWrapper; first | (rw [if_pos (by decide +kernel)]; kernel_rfl) | (rw [if_neg (by decide +kernel)]; exact ⟨rfl, rfl⟩))
    (fun os started H enc _ => lifted os started H enc)

theorem proved : Rows.LinksCanonSaid := over
end Go.Proofs.Ytbjgjhhombalpaa.linksCanon
