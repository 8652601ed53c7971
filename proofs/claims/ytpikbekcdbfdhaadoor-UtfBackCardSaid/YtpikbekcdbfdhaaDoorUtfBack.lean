/-
  Proved: UtfBack answers true for all runes, over the tables that the library and the program lay (a tied card).
-/
import Derived.Test.YtpikbekcdbfdhaaDoorOpen
import Derived.Test.YtpikbekcdbfdhaaDoorCards
import Derived.Test.YtpikbekcdbfdhaaDoorTie
import Derived.SevenTiedAt
import Derived.Test.YtpikbekcdbfdhaaDoorUtfTab
import Derived.Test.YtpikbekcdbfdhaaDoorUtfVals
import Derived.Test.YtpikbekcdbfdhaaDoorUtfFixed
import Derived.Test.YtpikbekcdbfdhaaDoorUtfLay
import Derived.Test.YtpikbekcdbfdhaaDoorRefSame
import Derived.Test.YtpikbekcdbfdhaaDoorUtfSame
import Derived.Test.YtpikbekcdbfdhaaDoorUtfRefEnc
import Derived.Test.YtpikbekcdbfdhaaDoorUtfIn
import Derived.WalkKit
namespace Go.Proofs.YtpikbekcdbfdhaaDoor.utfBack
open Go.ChangeShapes Go.WideShapes Go.ChangeAt Go.RowKit

theorem encAll_len4 : ∀ l : List Int, (encAll l).length ≤ 4 * l.length
  | [] => by simp [encAll]
  | r :: l => by have h1 := encS_len r; have h2 := encAll_len4 l; rw [encAll_cons, List.length_append, List.length_cons]; omega
theorem encAll_take {l : List Int} {k : Nat} (h : k < l.length) : encAll (l.take (k + 1)) = encAll (l.take k) ++ encS (l.getD k 0) := by
  rw [List.take_succ_eq_append_getElem h, encAll_snoc, getD_lt h]
theorem fix_take {l : List Int} {k : Nat} (h : k < l.length) : (l.take (k + 1)).map fixS = (l.take k).map fixS ++ [fixS (l.getD k 0)] := by
  rw [List.take_succ_eq_append_getElem h, getD_lt h, List.map_append]; rfl
theorem encAll_b : ∀ l : List Int, U8s (encAll l)
  | [] => U8s.nil
  | r :: l => by rw [encAll_cons]; exact U8s.append (encS_byte r) (encAll_b l)
/-- Rows of other elements are apart. -/
theorem own_apart {w : World} {b1 b2 : Nat} {e1 e2 : TypeId} {v u : Value} {n m : Nat} {xs ys : List Value} (h1 : w.ownsRow b1 e1 1 v n xs) (h2 : w.ownsRow b2 e2 1 u m ys) (he : e1 ≠ e2) : u.ownBlock = none ∨ u.ownBlock ≠ v.ownBlock := by
  rcases h1.2 with ⟨h, _⟩ | ⟨g, cap, cur, hv, _, hg, _⟩
  · subst h
    cases hu : u.ownBlock with
    | none => exact .inl rfl
    | some c => exact .inr (by simp [Value.ownBlock])
  · rcases h2.2 with ⟨h, _⟩ | ⟨g2, cap2, cur2, hu, _, hg2, _⟩
    · subst h; exact .inl rfl
    · subst hv; subst hu
      refine .inr (fun e => ?_)
      simp [Value.ownBlock] at e
      subst e
      rw [hg] at hg2
      injection hg2 with hg2
      injection hg2 with _ h3
      exact he h3

set_option maxHeartbeats 3200000 in
set_option maxRecDepth 100000 in
/-- The walk. -/
theorem walk {A : Option Addr} {n c : Nat} {zs : List Int} (w : World) (hT : Tabs w) (hs0 : Ik .i32 w A n zs ∧ (∀ z ∈ zs, -2147483648 ≤ z ∧ z ≤ 2147483647) ∧ (n ≤ c ∧ c ≤ maxLen)) :
    Calls Tryd.prog 5 #[.slice A n c] w fun e w' => e = .returned (.bool true) ∧ Below w.heap.size w w' := by
  have H := Lib.hid (show Tabs w ∧ Ik .i32 w A n zs ∧ (∀ z ∈ zs, -2147483648 ≤ z ∧ z ≤ 2147483647) from ⟨hT, hs0.1, hs0.2.1⟩)
  clear hT hs0
  by_cases hbig : (400 : Int) < (n : Int)
  · go_enter Tryd.func5, Tryd.ntmps5
    go_wp2_with fail
    refine (utfFixed_any H.out.1).mono ?_
    rintro e w1 ⟨rfl, hb1⟩
    go_wp2_with fail
    go_ret
    exact ⟨rfl, hb1⟩
  have HN := Lib.hid (show n ≤ 400 by omega)
  go_enter Tryd.func5, Tryd.ntmps5
  go_wp2_with fail
  go_loopw [3, 4, 14] (fun v u i wr => ∃ (k : Nat) (T F : List Int) (tl : Nat), k ≤ n ∧ i = .int .i64 k ∧ T = encAll (zs.take k) ∧ F = (zs.take k).map fixS ∧ tl = T.length ∧ wr.ownsRow w.heap.size 5 1 v tl (T.map (Value.int .u8)) ∧ wr.ownsRow w.heap.size 21 1 u k (F.map (Value.int .i32)) ∧ Below w.heap.size w wr) (fun _ _ i _ => n - (iOf i).toNat)
  case atStart => exact ⟨0, [], [], 0, by omega, rfl, rfl, rfl, rfl, World.ownsRow_nil _ _ _ _, World.ownsRow_nil _ _ _ _, Below.refl _ _⟩
  case round =>
    obtain ⟨k, T, F, tl, hk, rfl, hTe, hFe, htl, ho, hu, hbw⟩ := hrel
    obtain ⟨Av, cv, rfl, hvc, _⟩ := own_shape ho
    obtain ⟨Au, cu, rfl, _, _⟩ := own_shape hu
    have h4 : tl ≤ 1600 := by
      have h1 := encAll_len4 (zs.take k)
      have h2 : (zs.take k).length ≤ 400 := by have := HN.out; simp; omega
      rw [htl, hTe]; omega
    have Y := Lib.hid (And.intro ho (And.intro hu hbw))
    have HTF := Lib.hid (show T = encAll (zs.take k) ∧ F = (zs.take k).map fixS ∧ tl = T.length ∧ tl ≤ cv ∧ tl ≤ 1600 from ⟨hTe, hFe, htl, hvc, h4⟩)
    clear ho hu hbw hTe hFe htl hvc h4
    by_cases hlt : k < n
    · have hkl : (k : Int) < (n : Int) := by omega
      have hik := H.out.2.1.below Y.out.2.2
      obtain ⟨ad, rfl⟩ := ik_addr hik (by omega)
      have hcell := hik.cell hlt
      have hkR : k < zs.length := by rw [H.out.2.1.len]; exact hlt
      obtain ⟨r, hr⟩ : ∃ r, r = zs.getD k 0 := ⟨_, rfl⟩
      have hrr : -2147483648 ≤ r ∧ r ≤ 2147483647 := by rw [hr, getD_lt hkR]; exact H.out.2.2 _ (List.getElem_mem hkR)
      rw [← hr] at hcell
      have HR := Lib.hid (show encAll (zs.take (k + 1)) = T ++ encS r ∧ (zs.take (k + 1)).map fixS = F ++ [fixS r] ∧ -2147483648 ≤ r ∧ r ≤ 2147483647 from ⟨by rw [encAll_take hkR, ← hr, HTF.out.1], by rw [fix_take hkR, ← hr, HTF.out.2.1], hrr⟩)
      clear hr hrr hkR hik
      go_wp2_with fail
      refine (encode_any wr r HR.out.2.2.1 HR.out.2.2.2).mono ?_
      rintro e w2 ⟨v, rfl, A2, n2, c2, rfl, hm2⟩
      have Z := Lib.hid (show Sb w2 A2 n2 (encS r) ∧ Below wr.heap.size wr w2 ∧ n2 ≤ 4 ∧ 1 ≤ n2 from
        ⟨hm2.sb, hm2.below, by rw [← hm2.len]; exact (encS_len r).2, by rw [← hm2.len]; exact (encS_len r).1⟩)
      clear hm2
      go_wp2_with fail
      refine (refEnc_any r w2).mono ?_
      rintro e w3 ⟨A3, n3, c3, rfl, hs3, hb3⟩
      have Z3 := Lib.hid (show Sb w3 A2 n2 (encS r) ∧ Sb w3 A3 n3 (encS r) ∧ Below wr.heap.size wr w3 ∧ n2 ≤ 4 ∧ n3 ≤ 4 from
        ⟨Z.out.1.below hb3, hs3, Z.out.2.1.trans (hb3.mono Z.out.2.1.size), Z.out.2.2.1, by rw [← hs3.len]; exact (encS_len r).2⟩)
      clear hs3 hb3 Z
      have HSM := refSame_any (c := c2) (c' := c3) Z3.out.1 Z3.out.2.1 (by have := Z3.out.2.2.2; omega) (by have := Z3.out.2.2.2; omega)
      rw [decide_eq_true rfl] at HSM
      have HSM := Lib.hid HSM
      go_wp2_with fail
      refine HSM.out.mono ?_
      rintro e w4 ⟨rfl, q, rfl⟩
      have Z4 := Lib.hid (show Ik .u8 (w3.drewN q) A2 n2 (encS r) ∧ Below wr.heap.size wr (w3.drewN q) ∧ n2 ≤ 4 from ⟨⟨Z3.out.1.len, Z3.out.1.at_⟩, below_drewN' Z3.out.2.2.1 q, Z3.out.2.2.2.1⟩)
      clear Z3 HSM
      generalize w3.drewN q = w4 at Z4 ⊢
      have hown4 := ownI_below Y.out.1 Z4.out.2.1
      have hrow4 := ownI_below Y.out.2.1 Z4.out.2.1
      have hbel4 := Y.out.2.2.trans (Z4.out.2.1.mono Y.out.2.2.size)
      have Q4 := Lib.hid (And.intro hown4 (And.intro hrow4 hbel4))
      clear hown4 hrow4 hbel4
      go_wp2_with (refine wpList_appI _ rfl (.tmp 25) (.tmp 26) 22 rfl w.heap.size 5 .u8 1 (by omega) Tryd.underlying22 info8 (.slice Av tl cv) tl _ rfl Q4.out.1 A2 n2 c2 (tl + n2) rfl (encS r) rfl Z4.out.1 (by have h1 := Z4.out.2.2; have h2 := HTF.out.2.2.2.2; omega) Q4.out.2.2.size ?_)
      intro A5 c5 w5 o5 g5
      have Q5 := Lib.hid (show w5.ownsRow w.heap.size 5 1 (.slice A5 (tl + n2) c5) (tl + n2) ((T ++ encS r).map (Value.int .u8)) ∧ w5.ownsRow w.heap.size 21 1 (.slice Au k cu) k (F.map (Value.int .i32)) ∧ Below w.heap.size w w5 ∧ tl + n2 = (T ++ encS r).length from
        ⟨by simpa using o5, Q4.out.2.1.kept g5 (own_apart Q4.out.1 Q4.out.2.1 (by decide)), Q4.out.2.2.grown g5 Q4.out.2.2.size (fun k hk => (Q4.out.1.lt k hk).1), by rw [List.length_append, ← HTF.out.2.2.1, Z4.out.1.len]⟩)
      clear o5 g5 Q4 Z4
      have HMY := may_any r w5
      cases hm : mayS r
      · rw [hm] at HMY
        have HM := Lib.hid (And.intro HMY (show fixS r = 65533 by simp [fixS, hm]))
        clear HMY hm
        go_wp2_with fail
        refine HM.out.1.mono ?_
        rintro e w6 ⟨rfl, rfl⟩
        have al : Below w5.heap.size w5 (w5.alloc (.cells #[.int .i32 65533] 21)) := (Below.refl _ _).alloc (Nat.le_refl _) _
        have Q6 := Lib.hid (And.intro (ownI_below Q5.out.2.1 al) (And.intro (ownI_below Q5.out.1 al) (Q5.out.2.2.1.trans (al.mono Q5.out.2.2.1.size))))
        clear al
        go_wp2_with (refine wpList_appI _ rfl (.tmp 31) (.tmp 33) 28 rfl w.heap.size 21 .i32 4 (by omega) Tryd.underlying28 info32 (.slice Au k cu) k _ rfl Q6.out.1 (some ⟨w5.heap.size, 0, none⟩) 1 1 (k + 1) rfl [65533] rfl (Ik.one _ _ _ _) (by have := HN.out; omega) Q6.out.2.2.size ?_)
        intro A7 c7 w7 o7 g7
        have Q7 := Lib.hid (show w7.ownsRow w.heap.size 5 1 (.slice A5 (tl + n2) c5) (tl + n2) ((T ++ encS r).map (Value.int .u8)) ∧ w7.ownsRow w.heap.size 21 1 (.slice A7 (k + 1) c7) (k + 1) ((F ++ [65533]).map (Value.int .i32)) ∧ Below w.heap.size w w7 from
          ⟨Q6.out.2.1.kept g7 (own_apart Q6.out.1 Q6.out.2.1 (by decide)), by simpa using o7, Q6.out.2.2.grown g7 Q6.out.2.2.size (fun k hk => (Q6.out.1.lt k hk).1)⟩)
        clear o7 g7 Q6
        go_wp2_with fail
        go_roundw
        case rel => exact ⟨k + 1, T ++ encS r, F ++ [65533], tl + n2, by omega, by go_num, HR.out.1.symm, by rw [HR.out.2.1, HM.out.2], Q5.out.2.2.2, Q7.out.1, Q7.out.2.1, Q7.out.2.2⟩
        case measure => simp [iOf]; omega
      · rw [hm] at HMY
        have HM := Lib.hid (And.intro HMY (show fixS r = r by simp [fixS, hm]))
        clear HMY hm
        go_wp2_with fail
        refine HM.out.1.mono ?_
        rintro e w6 ⟨rfl, rfl⟩
        have al : Below w5.heap.size w5 (w5.alloc (.cells #[.int .i32 r] 21)) := (Below.refl _ _).alloc (Nat.le_refl _) _
        have Q6 := Lib.hid (And.intro (ownI_below Q5.out.2.1 al) (And.intro (ownI_below Q5.out.1 al) (Q5.out.2.2.1.trans (al.mono Q5.out.2.2.1.size))))
        clear al
        go_wp2_with (refine wpList_appI _ rfl (.tmp 31) (.tmp 33) 28 rfl w.heap.size 21 .i32 4 (by omega) Tryd.underlying28 info32 (.slice Au k cu) k _ rfl Q6.out.1 (some ⟨w5.heap.size, 0, none⟩) 1 1 (k + 1) rfl [r] rfl (Ik.one _ _ _ _) (by have := HN.out; omega) Q6.out.2.2.size ?_)
        intro A7 c7 w7 o7 g7
        have Q7 := Lib.hid (show w7.ownsRow w.heap.size 5 1 (.slice A5 (tl + n2) c5) (tl + n2) ((T ++ encS r).map (Value.int .u8)) ∧ w7.ownsRow w.heap.size 21 1 (.slice A7 (k + 1) c7) (k + 1) ((F ++ [r]).map (Value.int .i32)) ∧ Below w.heap.size w w7 from
          ⟨Q6.out.2.1.kept g7 (own_apart Q6.out.1 Q6.out.2.1 (by decide)), by simpa using o7, Q6.out.2.2.grown g7 Q6.out.2.2.size (fun k hk => (Q6.out.1.lt k hk).1)⟩)
        clear o7 g7 Q6
        go_wp2_with fail
        go_roundw
        case rel => exact ⟨k + 1, T ++ encS r, F ++ [r], tl + n2, by omega, by go_num, HR.out.1.symm, by rw [HR.out.2.1, HM.out.2], Q5.out.2.2.2, Q7.out.1, Q7.out.2.1, Q7.out.2.2⟩
        case measure => simp [iOf]; omega
    · obtain rfl : k = n := by omega
      have hall : zs.take k = zs := List.take_of_length_le (by rw [H.out.2.1.len]; exact Nat.le_refl _)
      have HF := Lib.hid (show T = encAll zs ∧ F = zs.map fixS from ⟨by rw [HTF.out.1, hall], by rw [HTF.out.2.1, hall]⟩)
      have S := Lib.hid (show Sb wr Av tl T ∧ Ik .i32 wr Au k F ∧ Below w.heap.size w wr ∧ tl ≤ cv ∧ tl ≤ 1600 ∧ k ≤ 400 from ⟨Sb.own Y.out.1, Ik.own Y.out.2.1, Y.out.2.2, HTF.out.2.2.2.1, HTF.out.2.2.2.2, HN.out⟩)
      clear hall Y HTF
      go_wp2_with fail
      refine (utfFixed_any (H.out.1.below S.out.2.2.1 (Nat.le_refl _))).mono ?_
      rintro e w4 ⟨rfl, b4⟩
      have S4 := Lib.hid (show Sb w4 Av tl T ∧ Ik .i32 w4 Au k F ∧ Below w.heap.size w w4 from ⟨S.out.1.below b4, S.out.2.1.below b4, S.out.2.2.1.trans (b4.mono S.out.2.2.1.size)⟩)
      clear b4
      have hT8 : U8s T := by rw [HF.out.1]; exact encAll_b zs
      have HT8 := Lib.hid hT8
      clear hT8
      go_wp2_with fail
      refine (runes_any (H.out.1.below S4.out.2.2 (Nat.le_refl _)) S4.out.1 HT8.out (by have := S.out.2.2.2.2; omega)).mono ?_
      rintro e w5 ⟨A5, n5, c5, rfl, o5, b5⟩
      rw [HF.out.1, fold_encAll, ← HF.out.2] at o5
      have S5 := Lib.hid (show Ik .i32 w5 A5 n5 F ∧ Sb w5 Av tl T ∧ Ik .i32 w5 Au k F ∧ Below w.heap.size w w5 ∧ n5 ≤ 400 from
        ⟨Ik.own o5, S4.out.1.below b5, S4.out.2.1.below b5, S4.out.2.2.trans (b5.mono S4.out.2.2.size), by rw [← (Ik.own o5).len, S4.out.2.1.len]; exact S.out.2.2.2.2.2⟩)
      clear o5 b5 S4
      have HSM := utfSame_any (c := c5) (c' := cu) S5.out.1 S5.out.2.2.1 (by have := S5.out.2.2.2.2; omega) (by have := S.out.2.2.2.2.2; omega)
      rw [decide_eq_true rfl] at HSM
      have HSM := Lib.hid HSM
      go_wp2_with fail
      refine HSM.out.mono ?_
      rintro e w6 ⟨rfl, q, rfl⟩
      have S6 := Lib.hid (show Sb (w5.drewN q) Av tl T ∧ Below w.heap.size w (w5.drewN q) from ⟨S5.out.2.1.drewN q, below_drewN' S5.out.2.2.2.1 q⟩)
      clear S5 HSM
      generalize w5.drewN q = w6 at S6 ⊢
      have HV := utfValid_any (H.out.1.below S6.out.2 (Nat.le_refl _)) S6.out.1 HT8.out S.out.2.2.2.1 (by have := S.out.2.2.2.2; omega)
      rw [HF.out.1, valid_encAll] at HV
      have HV := Lib.hid HV
      go_wp2_with fail
      refine HV.out.mono ?_
      rintro e w7 ⟨rfl, b7⟩
      go_wp2_with fail
      go_ret
      exact ⟨rfl, S6.out.2.trans (b7.mono S6.out.2.size)⟩

set_option maxRecDepth 100000 in
theorem lifted (os : Os) (started : os.Started) (H : Type) (enc : TypeId × Value → H) :
    ReturnsInHanded {} Tryd.checked os 5 .any (fun w args => (Rows.utfBackSpec.pre enc Tryd.prog Tryd.f5 [] false w args ∧ laidMetH Tryd.prog laidL w) ∧ sizedMet enc Tryd.prog Tryd.f5 (OpenSpec.ofChange Rows.utfBackSpec) false w args)
      (Rows.utfBackSpec.post enc Tryd.prog Tryd.f5 false true false false) := by
  refine returnsInHanded_of_change_and (C := Tryd.checked) (X := fun w _ => laidMetH Tryd.prog laidL w) (fun _ _ _ hh h => h.of_heap hh) own started (by kernel_rfl) Tryd.func5
    (ChangeSpec.witness_shaped (enc := enc) (C := Tryd.checked) (os := os) (X := fun w _ => laidMetH Tryd.prog laidL w) false (World.laidAll Tryd.prog os laidL) #[.slice none 0 0] 8 (World.laidAll_os _ _ _) (start_shaped os) (by kernel_rfl) (by kernel_rfl) (by kernel_rfl) (start_met os _)) ?_
  intro W base args ds gs before hval0 hW _ hsz0 hL _
  have hsz : (DataW.weightsEach Tryd.prog (Tryd.f5.params.toList ++ Rows.utfBackSpec.plain.varTypes Tryd.prog) (ds ++ gs)).all (· ≤ reachBytes) = true := hsz0
  clear hsz0
  have hval : ∀ (j : Nat) t v, Tryd.f5.params[j]? = some t → args[j]? = some v → Value.okWide Tryd.prog W .any base t v := hval0
  have hW' := hW
  obtain ⟨p, q, hA0, hV, rfl, _, _⟩ := hW
  have hA : DataW.TrodAll enc Tryd.prog W 0 (fun _ => true) true Tryd.f5.params.toList args.toList ds p := hA0
  rw [Tryd.params5] at hA hval hsz
  obtain ⟨v0, vs0, d0, ds0, p0, q0, hargs, rfl, rfl, h0, r0⟩ := trodAll_cons hA
  obtain ⟨rfl, rfl, rfl⟩ := trodAll_nil r0
  obtain rfl : args = #[v0] := by cases args; simp_all
  obtain ⟨rfl, rfl⟩ := trodVars_none hV
  have lt0 : ∀ x ∈ p0, x.block < W.heap.size := by obtain ⟨m, hm⟩ := h0; exact DataW.trod_lt m _ _ _ hm
  obtain ⟨A0, n0, c0, z0, rfl, s0⟩ := open_i32s (hval 0 28 v0 rfl rfl) h0
  clear hA0 hval0
  refine (walk W (tabs_of_laid hL) s0).mono fun e W' ⟨he, bel⟩ => ?_
  subst he
  exact ⟨_, rfl, _, _, _, [], _, [], hW', trodAll_mk1 (shut_bool Tryd.underlying4 _), (trodAll_cons_mk (Below.trod laidOut (by kernel_rfl) (of_decide_eq_true (by kernel_rfl)) h0 bel lt0) trodAll_mk0), rfl, bel.frame _, fun h => by cases h⟩

theorem over : Rows.utfBackRow.holds Tryd.pinned (OpenSpec.ofChange Rows.utfBackSpec) :=
  OpenClaim.holds_of_wide 5 Tryd.f5 rfl rfl rfl rfl rfl rfl rfl ⟨rfl, rfl, rfl, rfl, rfl⟩ rfl rfl rfl rfl rfl (by kernel_rfl) Tryd.func5 (by kernel_rfl)
    (of_decide_eq_true (by kernel_rfl)) (by unfold Func.isWrapper; first | (rw [if_pos (by decide +kernel)]; kernel_rfl) | (rw [if_neg (by decide +kernel)]; exact ⟨rfl, rfl⟩))
    (fun os started H enc _ => lifted os started H enc)

theorem proved : Rows.UtfBackCardSaid :=
  Claim7.holds_tied_plain_at .later [] [.data, .data, .pinned] true Rows.utfBackCard.stood.harness false
    over (fun _ h => by cases h) (by kernel_rfl) (fun _ h => by cases h) utfBack_row_tie rfl ⟨rfl, rfl⟩ (by kernel_rfl) rfl
    (fun f fn hf hfn => by
      obtain rfl : f = 5 := Option.some.inj ((show Tryd.prog.funcNamed "spyglass/spyglasslaw07.UtfBack" = some 5 by kernel_rfl).symm.trans hf) |>.symm
      obtain rfl : fn = Tryd.f5 := (Option.some.inj (Tryd.func5.symm.trans hfn)).symm
      exact ⟨by kernel_rfl, fun j t ht => by
        rw [Tryd.params5] at ht
        have hm : t ∈ [28] := by simpa using Array.mem_of_getElem? ht
        have hall : ([28].all fun u => !Tryd.prog.wantsStandIn u) = true := by kernel_rfl
        exact (show Tryd.prog.wantsStandIn t = false by simpa using List.all_eq_true.1 hall t hm)⟩)
    (by kernel_rfl)
end Go.Proofs.YtpikbekcdbfdhaaDoor.utfBack
