/-
  Proved: MacDerives answers true for all keys, labels and parts, over the table of roots that the program's text lays (a tied card).
-/
import Derived.Test.YtaekcndgodhihaaDoorOpen
import Derived.Test.YtaekcndgodhihaaDoorCards
import Derived.Test.YtaekcndgodhihaaDoorTie
import Derived.SevenTiedAt
import Derived.Test.YtaekcndgodhihaaDoorShaTab
import Derived.Test.YtaekcndgodhihaaDoorMacFixed
import Derived.Test.YtaekcndgodhihaaDoorMacGreat
import Derived.Test.YtaekcndgodhihaaDoorMacDerive
import Derived.Test.YtaekcndgodhihaaDoorShaSameAll
import Derived.WalkKit
namespace Go.Proofs.YtaekcndgodhihaaDoor.macDerives
open Go.ChangeShapes Go.WideShapes Go.ChangeAt Go.RowKit

set_option maxRecDepth 100000 in
set_option maxHeartbeats 1600000 in
/-- The walk. -/
theorem walk {A : Option Addr} {n c : Nat} {key : List Int} {s : ByteArray} {B : Option Addr} {m d : Nat} {L : List (List Int)} (w : World) (hr : Roots w) (hs : Sb w A n key) (h8 : U8s key) (hn : n ≤ 140737488351232) (hc : n ≤ c ∧ c ≤ maxLen)
    (hsz : s.size ≤ 140737488351232) (hp : Ps w B m L ∧ m ≤ 140737488351232 ∧ (∀ l ∈ L, l.length ≤ 140737488351232)) :
    Calls Tryd.prog 4 #[.slice A n c, .string s, .slice B m d] w fun e w' => e = .returned (.bool true) ∧ Below w.heap.size w w' := by
  unfold maxLen at hc
  have H := Lib.hid (show Roots w ∧ Sb w A n key ∧ B8s key ∧ (n ≤ c ∧ c ≤ 9223372036854775807) ∧ Ps w B m L ∧ (∀ l ∈ L, l.length ≤ 140737488351232) from ⟨hr, hs, h8, ⟨hc.1, by omega⟩, hp.1, hp.2.2⟩)
  have HG1 := Lib.hid (great_any (c := d) w hp.1 hp.2.1 hp.2.2)
  obtain ⟨c2, w2, hconv, hbel2, hsb2, hc2a, hc2b⟩ := strBytes w s hsz
  have HG2 := Lib.hid (great_two w2 (hs.below hbel2) h8 hn ⟨hc.1, by omega⟩ hsb2 hsz ⟨hc2a, hc2b⟩)
  have B2 := Lib.hid (show Below w.heap.size w (w2.alloc (.cells #[.slice A n c, .slice (some ⟨w.heap.size, 0, none⟩) s.size c2] 22)) from hbel2.alloc hbel2.size _)
  clear hr hs h8 hn hc hp hbel2 hsb2 hc2a hc2b
  obtain ⟨g1, hg1⟩ : ∃ g, g = greatB L := ⟨_, rfl⟩
  obtain ⟨g2, hg2⟩ : ∃ g, g = greatB [key, strL s] := ⟨_, rfl⟩
  rw [← hg1] at HG1
  rw [← hg2] at HG2
  have HGG := Lib.hid (And.intro hg1 hg2)
  clear hg1 hg2
  cases g1 with
  | true =>
    clear hconv
    go_enter Tryd.func4, Tryd.ntmps4
    go_wp2_with fail
    refine HG1.out.mono ?_
    rintro e w1 ⟨rfl, rfl⟩
    go_wp2_with fail
    refine (macFixed_any _ H.out.1).mono ?_
    rintro e w3 ⟨rfl, hb3⟩
    go_wp2_with fail
    go_ret
    exact ⟨rfl, hb3⟩
  | false =>
    cases g2 with
    | true =>
      go_enter Tryd.func4, Tryd.ntmps4
      go_wp2_with fail
      refine HG1.out.mono ?_
      rintro e w1 ⟨rfl, rfl⟩
      go_wp2_with fail
      refine HG2.out.mono ?_
      rintro e w1 ⟨rfl, rfl⟩
      clear hconv
      go_wp2_with fail
      refine (macFixed_any _ (H.out.1.below B2.out)).mono ?_
      rintro e w3 ⟨rfl, hb3⟩
      have b3 := B2.out.trans (hb3.mono B2.out.size)
      clear hb3
      go_wp2_with fail
      go_ret
      exact ⟨rfl, b3⟩
    | false =>
      have HN := Lib.hid (show m + L.flatten.length ≤ 16384 ∧ n ≤ 16384 ∧ s.size ≤ 16384 from by
        have h1 := great_not HGG.out.1.symm
        have h2 := great_not HGG.out.2.symm
        rw [H.out.2.2.2.2.1.len] at h1
        simp at h2
        have h3 := H.out.2.1.len
        have h4 := strL_len s
        exact ⟨h1, by omega, by omega⟩)
      have hs0 : s.size ≤ 16384 := HN.out.2.2
      go_enter Tryd.func4, Tryd.ntmps4
      go_wp2_with fail
      refine HG1.out.mono ?_
      rintro e w1 ⟨rfl, rfl⟩
      go_wp2_with fail
      refine HG2.out.mono ?_
      rintro e w1 ⟨rfl, rfl⟩
      clear hconv HG1 HG2
      obtain ⟨wq, hwq⟩ : ∃ wq, wq = w2.alloc (.cells #[.slice A n c, .slice (some ⟨w.heap.size, 0, none⟩) s.size c2] 22) := ⟨_, rfl⟩
      rw [← hwq] at B2 ⊢
      clear hwq
      have HCP := Lib.hid (copies_any (c := d) wq (Ps.below H.out.2.2.2.2.1 B2.out) (by have := HN.out.1; omega) H.out.2.2.2.2.2)
      go_wp2_with fail
      refine HCP.out.mono ?_
      rintro e w3 ⟨g, rfl, hps, hb3⟩
      have X3 := Lib.hid (show Below w.heap.size w w3 ∧ Ps w3 (some ⟨g, 0, none⟩) m L from ⟨B2.out.trans (hb3.mono B2.out.size), hps⟩)
      clear hb3 hps HCP B2
      have HC := Lib.hid (copy_any (c := c) (H.out.2.1.below X3.out.1) (by have := HN.out.2; omega))
      go_wp2_with fail
      refine HC.out.mono ?_
      rintro e w4 ⟨g4, rfl, hown4, hb4⟩
      have X4 := Lib.hid (show Below w.heap.size w w4 ∧ Ps w4 (some ⟨g, 0, none⟩) m L ∧ Sb w4 (some ⟨g4, 0, none⟩) n key from ⟨X3.out.1.trans (hb4.mono X3.out.1.size), X3.out.2.below hb4, Sb.own hown4⟩)
      clear hb4 hown4 HC X3
      go_wp2_with fail
      refine (macFixed_any _ (H.out.1.below X4.out.1)).mono ?_
      rintro e w5 ⟨rfl, hb5⟩
      have X5 := Lib.hid (show Below w.heap.size w w5 ∧ Ps w5 (some ⟨g, 0, none⟩) m L ∧ Sb w5 (some ⟨g4, 0, none⟩) n key from ⟨X4.out.1.trans (hb5.mono X4.out.1.size), X4.out.2.1.below hb5, X4.out.2.2.below hb5⟩)
      clear hb5 X4
      have HC := Lib.hid (derive_any (c := n) (d := m) (s := s) w5 (H.out.1.below X5.out.1) X5.out.2.2 H.out.2.2.1 (by have := HN.out.2; omega) (by have := HN.out.2; omega) X5.out.2.1 HN.out.2.2 HN.out.1)
      go_wp2_with fail
      refine HC.out.mono ?_
      rintro e w6 ⟨rfl, hb6⟩
      have X6 := Lib.hid (show Below w.heap.size w w6 ∧ Ps w6 (some ⟨g, 0, none⟩) m L ∧ Sb w6 (some ⟨g4, 0, none⟩) n key from ⟨X5.out.1.trans (hb6.mono X5.out.1.size), X5.out.2.1.below hb6, X5.out.2.2.below hb6⟩)
      clear hb6 X5 HC
      have HC := Lib.hid (refDerive_any (c := c) (d := d) (s := s) w6 (H.out.2.1.below X6.out.1) H.out.2.2.1 H.out.2.2.2.1 (by have := HN.out.2; omega) (Ps.below H.out.2.2.2.2.1 X6.out.1) (parts_b H.out.2.2.2.2.1) HN.out.2.2 HN.out.1)
      obtain ⟨r, hr⟩ : ∃ r, r = macS key (toldS (strL s) L) := ⟨_, rfl⟩
      rw [← hr] at HC ⊢
      have heq := mac_eql r (by rw [hr]; exact macS_len _ _)
      clear hr
      go_wp2_with fail
      refine HC.out.mono ?_
      rintro e w7 ⟨rfl, hb7⟩
      have X7 := Lib.hid (show Below w.heap.size w w7 ∧ Ps w7 (some ⟨g, 0, none⟩) m L ∧ Sb w7 (some ⟨g4, 0, none⟩) n key from ⟨X6.out.1.trans (hb7.mono X6.out.1.size), X6.out.2.1.below hb7, X6.out.2.2.below hb7⟩)
      clear hb7 X6 HC
      have HC := Lib.hid (sameAll_any (c := m) (c' := d) w7 X7.out.2.1 (Ps.below H.out.2.2.2.2.1 X7.out.1) (by have := HN.out.1; omega))
      go_wp2_with fail
      refine HC.out.mono ?_
      rintro e w8 ⟨rfl, q, hw8⟩
      have b8 : Below w7.heap.size w7 w8 := by rw [hw8]; exact below_drewN' (Below.refl _ _) q
      have X8 := Lib.hid (show Below w.heap.size w w8 ∧ Sb w8 (some ⟨g4, 0, none⟩) n key from ⟨X7.out.1.trans (b8.mono X7.out.1.size), X7.out.2.2.below b8⟩)
      clear b8 hw8 X7 HC heq
      have HC := Lib.hid (same_true (c := n) (c' := c) X8.out.2 (H.out.2.1.below X8.out.1) (by have := HN.out.2; omega))
      go_wp2_with fail
      refine HC.out.mono ?_
      rintro e w9 ⟨rfl, q9, rfl⟩
      go_wp2_with fail
      go_ret
      exact ⟨rfl, below_drewN' X8.out.1 q9⟩

set_option maxRecDepth 100000 in
theorem lifted (os : Os) (started : os.Started) (H : Type) (enc : TypeId × Value → H) :
    ReturnsInHanded {} Tryd.checked os 4 .any (fun w args => (Rows.macDerivesSpec.pre enc Tryd.prog Tryd.f4 [] false w args ∧ laidMetH Tryd.prog laidL w) ∧ sizedMet enc Tryd.prog Tryd.f4 (OpenSpec.ofChange Rows.macDerivesSpec) false w args)
      (Rows.macDerivesSpec.post enc Tryd.prog Tryd.f4 false true false false) := by
  refine returnsInHanded_of_change_and (C := Tryd.checked) (X := fun w _ => laidMetH Tryd.prog laidL w) (fun _ _ _ hh h => h.of_heap hh) own started (by kernel_rfl) Tryd.func4
    (ChangeSpec.witness_shaped (enc := enc) (C := Tryd.checked) (os := os) (X := fun w _ => laidMetH Tryd.prog laidL w) false (World.doorLaid Tryd.prog 400 os) #[.slice none 0 0, .string ByteArray.empty, .slice none 0 0] 8 rfl (World.shaped_of_RefB (by kernel_rfl) (by kernel_rfl)) (by kernel_rfl) (by kernel_rfl) (by kernel_rfl) (door_met os _)) ?_
  intro W base args ds gs before hval0 hW _ hsz0 hL _
  have hsz : (DataW.weightsEach Tryd.prog (Tryd.f4.params.toList ++ Rows.macDerivesSpec.plain.varTypes Tryd.prog) (ds ++ gs)).all (· ≤ reachBytes) = true := hsz0
  clear hsz0
  have hval : ∀ (j : Nat) t v, Tryd.f4.params[j]? = some t → args[j]? = some v → Value.okWide Tryd.prog W .any base t v := hval0
  have hW' := hW
  obtain ⟨p, q, hA0, hV, rfl, _, _⟩ := hW
  have hA : DataW.TrodAll enc Tryd.prog W 0 (fun _ => true) true Tryd.f4.params.toList args.toList ds p := hA0
  rw [Tryd.params4] at hA hval hsz
  obtain ⟨v0, vs0, d0, ds0, p0, q0, hargs, rfl, rfl, h0, r0⟩ := trodAll_cons hA
  obtain ⟨v1, vs1, d1, ds1, p1, q1, rfl, rfl, rfl, h1, r1⟩ := trodAll_cons r0
  obtain ⟨v2, vs2, d2, ds2, p2, q2, rfl, rfl, rfl, h2, r2⟩ := trodAll_cons r1
  obtain ⟨rfl, rfl, rfl⟩ := trodAll_nil r2
  obtain rfl : args = #[v0, v1, v2] := by cases args; simp_all
  obtain ⟨rfl, rfl⟩ := trodVars_none hV
  have lt0 : ∀ x ∈ p0, x.block < W.heap.size := by obtain ⟨m, hm⟩ := h0; exact DataW.trod_lt m _ _ _ hm
  obtain ⟨A0, n0, c0, z0, rfl, s0, u0, l0, g0⟩ := open_bytes_c (hval 0 22 v0 rfl rfl) h0
  have m0 := g0 _ _ 0 hsz rfl rfl
  have lt1 : ∀ x ∈ p1, x.block < W.heap.size := by obtain ⟨m, hm⟩ := h1; exact DataW.trod_lt m _ _ _ hm
  obtain ⟨s1, rfl, s1⟩ := open_label (weights_at hsz (j := 1) rfl rfl) (hval 1 9 v1 rfl rfl) h1
  have lt2 : ∀ x ∈ p2, x.block < W.heap.size := by obtain ⟨m, hm⟩ := h2; exact DataW.trod_lt m _ _ _ hm
  obtain ⟨A2, n2, c2, L2, rfl, s2⟩ := open_parts (weights_at hsz (j := 2) rfl rfl) (hval 2 23 v2 rfl rfl) h2
  clear hA0 hval0
  refine (walk W (roots_of_laid hL) s0 u0 m0 l0 s1 s2).mono fun e W' ⟨he, bel⟩ => ?_
  subst he
  exact ⟨_, rfl, _, _, _, [], _, [], hW', trodAll_mk1 (shut_bool Tryd.underlying4 _), (trodAll_cons_mk (Below.trod laidOut (by kernel_rfl) (of_decide_eq_true (by kernel_rfl)) h0 bel lt0) (trodAll_cons_mk (Below.trod laidOut (by kernel_rfl) (of_decide_eq_true (by kernel_rfl)) h1 bel lt1) (trodAll_cons_mk (Below.trod laidOut (by kernel_rfl) (of_decide_eq_true (by kernel_rfl)) h2 bel lt2) trodAll_mk0))), rfl, bel.frame _, fun h => by cases h⟩

theorem over : Rows.macDerivesRow.holds Tryd.pinned (OpenSpec.ofChange Rows.macDerivesSpec) :=
  OpenClaim.holds_of_wide 4 Tryd.f4 rfl rfl rfl rfl rfl rfl rfl ⟨rfl, rfl, rfl, rfl, rfl⟩ rfl rfl rfl rfl rfl (by kernel_rfl) Tryd.func4 (by kernel_rfl)
    (of_decide_eq_true (by kernel_rfl)) (by unfold Func.isWrapper; first | (rw [if_pos (by decide +kernel)]; kernel_rfl) | (rw [if_neg (by decide +kernel)]; exact ⟨rfl, rfl⟩))
    (fun os started H enc _ => lifted os started H enc)

theorem proved : Rows.MacDerivesCardSaid :=
  Claim7.holds_tied_plain_at .later [] [.data] true Rows.macDerivesCard.stood.harness false
    over (fun _ h => by cases h) (by kernel_rfl) (fun _ h => by cases h) macDerives_row_tie rfl ⟨rfl, rfl⟩ (by kernel_rfl) rfl
    (fun f fn hf hfn => by
      obtain rfl : f = 4 := Option.some.inj ((show Tryd.prog.funcNamed "spyglass/spyglasslaw04.MacDerives" = some 4 by kernel_rfl).symm.trans hf) |>.symm
      obtain rfl : fn = Tryd.f4 := (Option.some.inj (Tryd.func4.symm.trans hfn)).symm
      exact ⟨by kernel_rfl, fun j t ht => by
        rw [Tryd.params4] at ht
        have hm : t ∈ [22, 9, 23] := by simpa using Array.mem_of_getElem? ht
        have hall : ([22, 9, 23].all fun u => !Tryd.prog.wantsStandIn u) = true := by kernel_rfl
        exact (show Tryd.prog.wantsStandIn t = false by simpa using List.all_eq_true.1 hall t hm)⟩)
    (by kernel_rfl)
end Go.Proofs.YtaekcndgodhihaaDoor.macDerives
