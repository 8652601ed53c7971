/-
  Proved: ParseEnds answers true for all bytes.
-/
import Derived.Test.YtappnfifhpmekaaDoorOpen
import Derived.Test.YtappnfifhpmekaaDoorCards
import Derived.Test.YtappnfifhpmekaaDoorTie
import Derived.SevenTiedAt
import Derived.Test.YtappnfifhpmekaaDoorParseFixed
import Derived.Test.YtappnfifhpmekaaDoorParseIn
import Derived.Test.YtappnfifhpmekaaDoorParseCopy
import Derived.Test.YtappnfifhpmekaaDoorParseOut
import Derived.WalkKit
namespace Go.Proofs.YtappnfifhpmekaaDoor.parseEnds
open Go.ChangeShapes Go.WideShapes Go.ChangeAt Go.RowKit

set_option maxHeartbeats 3200000 in
set_option maxRecDepth 100000 in
/-- The walk. -/
theorem walk {A A' : Option Addr} {n n' c c' : Nat} {zs ys : List Int} (w : World) (hT : Known w) (hs0 : Sb w A n zs) (hu0 : U8s zs) (hm0 : n ≤ 140737488351232) (hs1 : Sb w A' n' ys) (hu1 : U8s ys) (hm1 : n' ≤ 140737488351232) :
    Calls Tryd.prog 5 #[.slice A n c, .slice A' n' c'] w fun e w' => e = .returned (.bool true) ∧ Below w.heap.size w w' := by
  have H := Lib.hid (And.intro hs0 (And.intro hs1 (And.intro hu0 hu1)))
  have HT := Lib.hid hT
  clear hs0 hs1 hu0 hu1 hT
  by_cases hb0 : n ≤ 700
  case neg =>
    go_enter Tryd.func5, Tryd.ntmps5
    go_wp2_with fail
    refine (fixedP_any w HT.out).mono ?_
    rintro e w1 ⟨rfl, hb1⟩
    go_wp2_with fail
    go_ret
    exact ⟨rfl, hb1⟩
  by_cases hb2 : n' ≤ 700
  case neg =>
    go_enter Tryd.func5, Tryd.ntmps5
    go_wp2_with fail
    refine (fixedP_any w HT.out).mono ?_
    rintro e w1 ⟨rfl, hb1⟩
    go_wp2_with fail
    go_ret
    exact ⟨rfl, hb1⟩
  go_enter Tryd.func5, Tryd.ntmps5
  go_wp2_with fail
  refine (pNew_any HT.out).mono ?_
  rintro e w1 ⟨g, S, rfl, hP, hb⟩
  have H1 := Lib.hid (And.intro hP hb)
  clear hP hb
  go_wp2_with fail
  go_loopw [25] (fun i wr => ∃ (k : Nat) (S : Nat → Prop), k ≤ n ∧ i = .int .i64 k ∧ Pz w.heap.size wr g (runP pa0 (zs.take k)).2 S ∧ Below w.heap.size w wr) (fun i _ => n - (intOf i).toNat)
  case atStart => exact ⟨0, S, Nat.zero_le _, rfl, by rw [List.take_zero]; exact H1.out.1, H1.out.2⟩
  case round =>
    obtain ⟨k, S, hk, rfl, hP, hb⟩ := hrel
    have X := Lib.hid (And.intro hP hb)
    clear hP hb
    by_cases hlt : k < n
    · have hs := H.out.1.below X.out.2
      obtain ⟨ad, hA⟩ : ∃ ad, A = some ad := by obtain ⟨ad, e, _⟩ := hs.at_ (by omega); exact ⟨ad, e⟩
      subst hA
      have hcell := hs.cell hlt
      have hkl : k < zs.length := by rw [hs.len]; exact hlt
      obtain ⟨z, hz⟩ : ∃ z, z = zs.getD k 0 := ⟨_, rfl⟩
      rw [← hz] at hcell
      have HZ := Lib.hid (show (0 ≤ z ∧ z ≤ 255) ∧ (runP pa0 (zs.take (k + 1))).2 = (feedP (runP pa0 (zs.take k)).2 z).2 from ⟨by rw [hz, getD_lt hkl]; exact H.out.2.2.1 _ (List.getElem_mem hkl), by rw [run_take pa0 hkl, hz]⟩)
      clear hz hs hkl
      go_wp2_with fail
      refine (pFeed_any (HT.out.below X.out.2 (Nat.le_refl _)) X.out.1 X.out.2.size HZ.out.1).mono ?_
      rintro e w2 ⟨A2, c2, R2, S2, rfl, _, _, hP, ho, _, _⟩
      have Y := Lib.hid (And.intro hP (X.out.2.trans ho.bel))
      clear hP ho
      go_wp2_with fail
      go_roundw
      case rel => exact ⟨k + 1, S2, by omega, by go_num, by rw [HZ.out.2]; exact Y.out.1, Y.out.2⟩
      case measure => simp [intOf]; omega
    · have hkn : ¬ (k : Int) < (n : Int) := by omega
      clear H1 hlt
      go_wp2_with fail
      refine (pFeed_any (HT.out.below X.out.2 (Nat.le_refl _)) X.out.1 X.out.2.size (by omega)).mono ?_
      rintro e w2 ⟨A2, c2, R2, S2, rfl, _, _, hP, ho, _, _⟩
      rw [feed24] at hP
      have Y := Lib.hid (And.intro hP (X.out.2.trans ho.bel))
      clear hP ho X
      go_wp2_with fail
      go_loopw [8, 37] (fun v i wr => ∃ (k m : Nat) (M : List AcR) (S : Nat → Prop), k ≤ n' ∧ i = .int .i64 k ∧ Told w.heap.size wr g S k m M ys ∧ wr.ownsRow w.heap.size 25 6 v m (rowV acV M) ∧ Below w.heap.size w wr) (fun _ i _ => n' - (intOf i).toNat)
      case atStart => exact ⟨0, 0, [], S2, Nat.zero_le _, rfl, Told.nil ys Y.out.1, World.ownsRow_nil _ _ _ _, Y.out.2⟩
      case round =>
        obtain ⟨j, m, M, S, hj, rfl, hM, hv, hb⟩ := hrel
        obtain ⟨Av, cv, rfl, _, _⟩ := own_shape hv
        have X := Lib.hid (And.intro hM (And.intro hv hb))
        clear hM hv hb Y
        by_cases hlt : j < n'
        · have hs := H.out.2.1.below X.out.2.2
          obtain ⟨ad, hA⟩ : ∃ ad, A' = some ad := by obtain ⟨ad, e, _⟩ := hs.at_ (by omega); exact ⟨ad, e⟩
          subst hA
          have hcell := hs.cell hlt
          have hkl : j < ys.length := by rw [hs.len]; exact hlt
          have HKL := Lib.hid hkl
          obtain ⟨z, hz⟩ : ∃ z, z = ys.getD j 0 := ⟨_, rfl⟩
          rw [← hz] at hcell
          have HZ := Lib.hid (And.intro (show 0 ≤ z ∧ z ≤ 255 by rw [hz, getD_lt hkl]; exact H.out.2.2.2 _ (List.getElem_mem hkl)) hz)
          clear hz hs hkl
          go_wp2_with fail
          refine (pFeed_any (HT.out.below X.out.2.2 (Nat.le_refl _)) X.out.1.pz X.out.2.2.size HZ.out.1).mono ?_
          rintro e w3 ⟨A3, c3, R, S3, rfl, hA3, hR, hP, ho, hS, hAp⟩
          have hlen : R.length ≤ 2 := by rw [← acts_len, hR]; exact feedP_len _ _
          have hmf : m ≤ 1400 := by have := X.out.1.few; omega
          have Z := Lib.hid (show Vs acV w3 A3 R.length R ∧ w3.ownsRow w.heap.size 25 6 (.slice Av m cv) m (rowV acV M) ∧ Below w.heap.size w w3 ∧ (∀ (w' : World) , w3.grownBy w' (Value.slice Av m cv).ownBlock → Told w.heap.size w' g S3 (j + 1) (m + R.length) (M ++ R) ys) from by
            have hv3 := row_same X.out.2.1 fun q hq => ho.keep q (row_act X.out.2.1 q hq).1 (fun hS => (row_act X.out.2.1 q hq).2 (X.out.1.pz.na q hS))
            refine ⟨hA3.row, hv3, X.out.2.2.trans ho.bel, fun w' hg => ?_⟩
            rw [HZ.out.2] at hP hR
            exact X.out.1.next HKL.out hP ho hS hR (fun x hx => ⟨hA3.rd x hx, hAp x hx⟩) hv3 hg)
          have HLm := Lib.hid (And.intro hlen hmf)
          clear hA3 hR hP ho hS hAp hlen hmf
          go_wp2_with (refine wpList_app_V _ rfl (.tmp 41) (.tmp 44) 35 rfl acV_len one_ac w.heap.size 25 _ 64 (by omega) Tryd.underlying35 infoAc rfl (by omega) (.slice Av m cv) m M rfl Z.out.2.1 A3 R.length c3 (m + R.length) rfl R rfl Z.out.1 (by have := HLm.out; omega) Z.out.2.2.1.size ?_)
          intro A6 c6 w6 o6 g6
          have Z6 := Lib.hid (And.intro (Z.out.2.2.2 w6 g6) (And.intro o6 (Z.out.2.2.1.grown g6 Z.out.2.2.1.size (fun q hq => (Z.out.2.1.lt q hq).1))))
          clear o6 g6 Z X
          go_wp2_with fail
          go_roundw
          case rel => exact ⟨j + 1, m + R.length, M ++ R, S3, by omega, by go_num, Z6.out.1, Z6.out.2.1, Z6.out.2.2⟩
          case measure => simp [intOf]; omega
        · obtain rfl : j = n' := by omega
          go_wp2_with fail
          refine (fixedP_any wr (HT.out.below X.out.2.2 (Nat.le_refl _))).mono ?_
          rintro e w4 ⟨rfl, b4⟩
          have hall : ys.take j = ys := List.take_of_length_le (by rw [H.out.2.1.len]; exact Nat.le_refl _)
          have S4 : Hid (Ats w4 Av m M ∧ Below w.heap.size w w4 ∧ acts M = actsP ys ∧ m ≤ 1400) := Lib.hid ⟨⟨(own_vs X.out.1.len X.out.2.1).below b4, fun x hx => (X.out.1.each x hx).1.below b4⟩, X.out.2.2.trans (b4.mono X.out.2.2.size), by rw [X.out.1.eq, hall]; rfl, by have := X.out.1.few; omega⟩
          clear b4 hall X
          go_wp2_with fail
          refine (pActs_any (HT.out.below S4.out.2.1 (Nat.le_refl _)) (H.out.2.1.below S4.out.2.1) H.out.2.2.2 (by omega)).mono ?_
          rintro e w5 ⟨A5, c5, R5, rfl, hA, hR, _, _, hb⟩
          have S5 : Hid (Ats w5 A5 R5.length R5 ∧ Ats w5 Av m M ∧ Below w.heap.size w w5 ∧ acts M = acts R5 ∧ R5.length = m ∧ m ≤ 1400) := Lib.hid ⟨hA, S4.out.1.below hb, S4.out.2.1.trans (hb.mono S4.out.2.1.size), by rw [hR]; exact S4.out.2.2.1, by rw [← acts_len, hR, ← S4.out.2.2.1, acts_len]; exact S4.out.1.row.len, S4.out.2.2.2⟩
          clear hb hA hR S4
          go_wp2_with fail
          refine (refSameA_any (R' := R5) S5.out.2.1 S5.out.1 (by have := S5.out.2.2.2.2.2; omega) (by have := S5.out.2.2.2.2.1; have := S5.out.2.2.2.2.2; omega)).mono ?_
          rintro e w6 ⟨rfl, hb⟩
          rw [decide_eq_true S5.out.2.2.2.1]
          have HB := Lib.hid (S5.out.2.2.1.trans (hb.mono S5.out.2.2.1.size))
          clear hb
          go_wp2_with fail
          go_ret
          exact ⟨rfl, HB.out⟩

set_option maxRecDepth 100000 in
theorem lifted (os : Os) (started : os.Started) (H : Type) (enc : TypeId × Value → H) :
    ReturnsInHanded {} Tryd.checked os 5 .any (fun w args => (Rows.parseEndsSpec.pre enc Tryd.prog Tryd.f5 [] false w args ∧ laidMetH Tryd.prog laidL w) ∧ sizedMet enc Tryd.prog Tryd.f5 (OpenSpec.ofChange Rows.parseEndsSpec) false w args)
      (Rows.parseEndsSpec.post enc Tryd.prog Tryd.f5 false true false false) := by
  refine returnsInHanded_of_change_and (C := Tryd.checked) (X := fun w _ => laidMetH Tryd.prog laidL w) (fun _ _ _ hh h => h.of_heap hh) own started (by kernel_rfl) Tryd.func5
    (ChangeSpec.witness_shaped (enc := enc) (C := Tryd.checked) (os := os) (X := fun w _ => laidMetH Tryd.prog laidL w) false (World.laidAll Tryd.prog os laidL) #[.slice none 0 0, .slice none 0 0] 8 (World.laidAll_os _ _ _) (start_shaped os) (by kernel_rfl) (by kernel_rfl) (by kernel_rfl) (start_met os _)) ?_
  intro W base args ds gs before hval0 hW _ hsz0 hL _
  have hsz : (DataW.weightsEach Tryd.prog (Tryd.f5.params.toList ++ Rows.parseEndsSpec.plain.varTypes Tryd.prog) (ds ++ gs)).all (· ≤ reachBytes) = true := hsz0
  clear hsz0
  have hval : ∀ (j : Nat) t v, Tryd.f5.params[j]? = some t → args[j]? = some v → Value.okWide Tryd.prog W .any base t v := hval0
  have hW' := hW
  obtain ⟨p, q, hA0, hV, rfl, _, _⟩ := hW
  have hA : DataW.TrodAll enc Tryd.prog W 0 (fun _ => true) true Tryd.f5.params.toList args.toList ds p := hA0
  rw [Tryd.params5] at hA hval hsz
  obtain ⟨v0, vs0, d0, ds0, p0, q0, hargs, rfl, rfl, h0, r0⟩ := trodAll_cons hA
  obtain ⟨v1, vs1, d1, ds1, p1, q1, rfl, rfl, rfl, h1, r1⟩ := trodAll_cons r0
  obtain ⟨rfl, rfl, rfl⟩ := trodAll_nil r1
  obtain rfl : args = #[v0, v1] := by cases args; simp_all
  obtain ⟨rfl, rfl⟩ := trodVars_none hV
  have lt0 : ∀ x ∈ p0, x.block < W.heap.size := by obtain ⟨m, hm⟩ := h0; exact DataW.trod_lt m _ _ _ hm
  obtain ⟨A0, n0, c0, z0, rfl, s0, u0, g0⟩ := open_bytes (hval 0 23 v0 rfl rfl) h0
  have m0 := g0 _ _ 0 hsz rfl rfl
  have lt1 : ∀ x ∈ p1, x.block < W.heap.size := by obtain ⟨m, hm⟩ := h1; exact DataW.trod_lt m _ _ _ hm
  obtain ⟨A1, n1, c1, z1, rfl, s1, u1, g1⟩ := open_bytes (hval 1 23 v1 rfl rfl) h1
  have m1 := g1 _ _ 1 hsz rfl rfl
  clear hA0 hval0
  refine (walk W (tabs_of_laid hL) s0 u0 m0 s1 u1 m1).mono fun e W' ⟨he, bel⟩ => ?_
  subst he
  exact ⟨_, rfl, _, _, _, [], _, [], hW', trodAll_mk1 (shut_bool Tryd.underlying4 _), (trodAll_cons_mk (Below.trod laidOut (by kernel_rfl) (of_decide_eq_true (by kernel_rfl)) h0 bel lt0) (trodAll_cons_mk (Below.trod laidOut (by kernel_rfl) (of_decide_eq_true (by kernel_rfl)) h1 bel lt1) trodAll_mk0)), rfl, bel.frame _, fun h => by cases h⟩

theorem over : Rows.parseEndsRow.holds Tryd.pinned (OpenSpec.ofChange Rows.parseEndsSpec) :=
  OpenClaim.holds_of_wide 5 Tryd.f5 rfl rfl rfl rfl rfl rfl rfl ⟨rfl, rfl, rfl, rfl, rfl⟩ rfl rfl rfl rfl rfl (by kernel_rfl) Tryd.func5 (by kernel_rfl)
    (of_decide_eq_true (by kernel_rfl)) (by unfold Func.isWrapper; first | (rw [if_pos (by decide +kernel)]; kernel_rfl) | (rw [if_neg (by decide +kernel)]; exact ⟨rfl, rfl⟩))
    (fun os started H enc _ => lifted os started H enc)

theorem proved : Rows.ParseEndsCardSaid :=
  Claim7.holds_tied_plain_at .later [] [.data, .pinned] true Rows.parseEndsCard.stood.harness false
    over (fun _ h => by cases h) (by kernel_rfl) (fun _ h => by cases h) parseEnds_row_tie rfl ⟨rfl, rfl⟩ (by kernel_rfl) rfl
    (fun f fn hf hfn => by
      obtain rfl : f = 5 := Option.some.inj ((show Tryd.prog.funcNamed "spyglass/spyglasslaw11.ParseEnds" = some 5 by kernel_rfl).symm.trans hf) |>.symm
      obtain rfl : fn = Tryd.f5 := (Option.some.inj (Tryd.func5.symm.trans hfn)).symm
      exact ⟨by kernel_rfl, fun j t ht => by
        rw [Tryd.params5] at ht
        have hm : t ∈ [23, 23] := by simpa using Array.mem_of_getElem? ht
        have hall : ([23, 23].all fun u => !Tryd.prog.wantsStandIn u) = true := by kernel_rfl
        exact (show Tryd.prog.wantsStandIn t = false by simpa using List.all_eq_true.1 hall t hm)⟩)
    (by kernel_rfl)
end Go.Proofs.YtappnfifhpmekaaDoor.parseEnds
