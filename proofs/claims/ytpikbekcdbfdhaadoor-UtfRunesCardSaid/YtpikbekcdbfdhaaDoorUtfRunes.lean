/-
  Proved: UtfRunes answers true for all bytes, over the tables that the library and the program lay (a tied card).
-/
import Derived.Test.YtpikbekcdbfdhaaDoorOpen
import Derived.Test.YtpikbekcdbfdhaaDoorCards
import Derived.Test.YtpikbekcdbfdhaaDoorTie
import Derived.SevenTiedAt
import Derived.Test.YtpikbekcdbfdhaaDoorUtfTab
import Derived.Test.YtpikbekcdbfdhaaDoorUtfVals
import Derived.Test.YtpikbekcdbfdhaaDoorUtfFixed
import Derived.Test.YtpikbekcdbfdhaaDoorUtfLay
import Derived.Test.YtpikbekcdbfdhaaDoorUtfRuns
import Derived.Test.YtpikbekcdbfdhaaDoorRefSame
import Derived.Test.YtpikbekcdbfdhaaDoorUtfSame
import Derived.Test.YtpikbekcdbfdhaaDoorUtfRefRuns
import Derived.Test.YtpikbekcdbfdhaaDoorUtfRefVal
import Derived.WalkKit
namespace Go.Proofs.YtpikbekcdbfdhaaDoor.utfRunes
open Go.ChangeShapes Go.WideShapes Go.ChangeAt Go.RowKit

theorem fold_length : ∀ (l o : List Int), (foldS o l).length ≤ 2 * l.length + 1
  | [], o => by unfold foldS endS; split <;> simp
  | b :: l, o => by have h1 := feedS_len o b; have h2 := fold_length l (feedS o b).2; simp only [foldS, List.length_append, List.length_cons]; omega

set_option maxHeartbeats 3200000 in
set_option maxRecDepth 100000 in
/-- The walk. -/
theorem walk {A : Option Addr} {n c : Nat} {zs : List Int} (w : World) (hT : Tabs w) (hs : Sb w A n zs) (h8 : U8s zs) (_ : n ≤ 140737488351232) (hc : n ≤ c ∧ c ≤ maxLen) :
    Calls Tryd.prog 4 #[.slice A n c] w fun e w' => e = .returned (.bool true) ∧ Below w.heap.size w w' := by
  have H := Lib.hid (show Tabs w ∧ Sb w A n zs ∧ U8s zs ∧ n ≤ c from ⟨hT, hs, h8, hc.1⟩)
  clear hT hs h8 hc
  by_cases hbig : (400 : Int) < (n : Int)
  · go_enter Tryd.func4, Tryd.ntmps4
    go_wp2_with fail
    refine (utfFixed_any H.out.1).mono ?_
    rintro e w1 ⟨rfl, hb1⟩
    go_wp2_with fail
    go_ret
    exact ⟨rfl, hb1⟩
  have HN := Lib.hid (show n ≤ 400 by omega)
  go_enter Tryd.func4, Tryd.ntmps4
  go_wp2_with fail
  refine (copy_any H.out.2.1 (by have := HN.out; omega)).mono ?_
  rintro e w1 ⟨g, rfl, o1, b1⟩
  have X1 := Lib.hid (show Tabs w1 ∧ Sb w1 A n zs ∧ Sb w1 (some ⟨g, 0, none⟩) n zs ∧ Below w.heap.size w w1 from ⟨H.out.1.below b1 (Nat.le_refl _), H.out.2.1.below b1, Sb.own o1, b1⟩)
  clear o1 b1
  go_wp2_with fail
  refine (utfFixed_any X1.out.1).mono ?_
  rintro e w2 ⟨rfl, b2⟩
  have X2 := Lib.hid (show Tabs w2 ∧ Sb w2 A n zs ∧ Sb w2 (some ⟨g, 0, none⟩) n zs ∧ Below w.heap.size w w2 from ⟨X1.out.1.below b2 (Nat.le_refl _), X1.out.2.1.below b2, X1.out.2.2.1.below b2, X1.out.2.2.2.trans (b2.mono X1.out.2.2.2.size)⟩)
  clear b2 X1
  go_wp2_with fail
  refine (runes_any X2.out.1 X2.out.2.2.1 H.out.2.2.1 (by have := HN.out; omega)).mono ?_
  rintro e w3 ⟨A3, n3, c3, rfl, o3, b3⟩
  have X3 := Lib.hid (show Tabs w3 ∧ Sb w3 A n zs ∧ Sb w3 (some ⟨g, 0, none⟩) n zs ∧ Below w.heap.size w w3 ∧ Ik .i32 w3 A3 n3 (foldS [] zs) from ⟨X2.out.1.below b3 (Nat.le_refl _), X2.out.2.1.below b3, X2.out.2.2.1.below b3, X2.out.2.2.2.trans (b3.mono X2.out.2.2.2.size), Ik.own o3⟩)
  clear o3 b3 X2
  go_wp2_with fail
  refine (refRunes_any X3.out.2.1 H.out.2.2.1 (by have := HN.out; omega)).mono ?_
  rintro e w4 ⟨A4, n4, c4, rfl, hk4, b4⟩
  have X4 := Lib.hid (show Tabs w4 ∧ Sb w4 A n zs ∧ Sb w4 (some ⟨g, 0, none⟩) n zs ∧ Below w.heap.size w w4 ∧ Ik .i32 w4 A3 n3 (foldS [] zs) ∧ Ik .i32 w4 A4 n4 (foldS [] zs) from ⟨X3.out.1.below b4 (Nat.le_refl _), X3.out.2.1.below b4, X3.out.2.2.1.below b4, X3.out.2.2.2.1.trans (b4.mono X3.out.2.2.2.1.size), X3.out.2.2.2.2.below b4, hk4⟩)
  clear hk4 b4 X3
  have hfl := fold_length zs []
  have hn3 := X4.out.2.2.2.2.1.len
  have hn4 := X4.out.2.2.2.2.2.len
  have hzl := H.out.2.1.len
  have HSM := utfSame_any (c := c3) (c' := c4) X4.out.2.2.2.2.1 X4.out.2.2.2.2.2 (by have := HN.out; omega) (by have := HN.out; omega)
  rw [decide_eq_true rfl] at HSM
  have HSM := Lib.hid HSM
  clear hfl hn3 hn4 hzl
  go_wp2_with fail
  refine HSM.out.mono ?_
  rintro e w5 ⟨rfl, q, rfl⟩
  have hT5 : Tabs (w4.drewN q) := X4.out.1.below (below_drewN' (Below.refl w4.heap.size w4) q) (Nat.le_refl _)
  have X5 := Lib.hid (show Tabs (w4.drewN q) ∧ Sb (w4.drewN q) A n zs ∧ Sb (w4.drewN q) (some ⟨g, 0, none⟩) n zs ∧ Below w.heap.size w (w4.drewN q) from ⟨hT5, X4.out.2.1.drewN q, X4.out.2.2.1.drewN q, below_drewN' X4.out.2.2.2.1 q⟩)
  clear hT5 X4 HSM
  generalize w4.drewN q = w5 at X5 ⊢
  have HV := Lib.hid (utfValid_any (c := n) X5.out.1 X5.out.2.2.1 H.out.2.2.1 (Nat.le_refl _) (by have := HN.out; omega))
  obtain ⟨V, hV⟩ : ∃ V, V = validS zs := ⟨_, rfl⟩
  rw [← hV] at HV
  have HVV := Lib.hid hV
  clear hV
  go_wp2_with fail
  refine HV.out.mono ?_
  rintro e w6 ⟨rfl, b6⟩
  have X6 := Lib.hid (show Sb w6 A n zs ∧ Sb w6 (some ⟨g, 0, none⟩) n zs ∧ Below w.heap.size w w6 from ⟨X5.out.2.1.below b6, X5.out.2.2.1.below b6, X5.out.2.2.2.trans (b6.mono X5.out.2.2.2.size)⟩)
  clear b6 X5 HV
  have HR := refValid_any X6.out.1 H.out.2.2.1 H.out.2.2.2 (by have := HN.out; omega)
  rw [← HVV.out] at HR
  have HR := Lib.hid HR
  go_wp2_with fail
  refine HR.out.mono ?_
  rintro e w7 ⟨rfl, b7⟩
  have X7 := Lib.hid (show Sb w7 A n zs ∧ Sb w7 (some ⟨g, 0, none⟩) n zs ∧ Below w.heap.size w w7 from ⟨X6.out.1.below b7, X6.out.2.1.below b7, X6.out.2.2.trans (b7.mono X6.out.2.2.size)⟩)
  clear b7 X6 HR
  have HE := refSame_any (c := n) (c' := c) X7.out.2.1 X7.out.1 (by have := HN.out; omega) (by have := HN.out; omega)
  rw [decide_eq_true rfl] at HE
  have HE := Lib.hid HE
  go_wp2_with fail
  refine HE.out.mono ?_
  rintro e w8 ⟨rfl, q, rfl⟩
  go_wp2_with fail
  go_ret
  exact ⟨by simp, below_drewN' X7.out.2.2 q⟩

set_option maxRecDepth 100000 in
theorem lifted (os : Os) (started : os.Started) (H : Type) (enc : TypeId × Value → H) :
    ReturnsInHanded {} Tryd.checked os 4 .any (fun w args => (Rows.utfRunesSpec.pre enc Tryd.prog Tryd.f4 [] false w args ∧ laidMetH Tryd.prog laidL w) ∧ sizedMet enc Tryd.prog Tryd.f4 (OpenSpec.ofChange Rows.utfRunesSpec) false w args)
      (Rows.utfRunesSpec.post enc Tryd.prog Tryd.f4 false true false false) := by
  refine returnsInHanded_of_change_and (C := Tryd.checked) (X := fun w _ => laidMetH Tryd.prog laidL w) (fun _ _ _ hh h => h.of_heap hh) own started (by kernel_rfl) Tryd.func4
    (ChangeSpec.witness_shaped (enc := enc) (C := Tryd.checked) (os := os) (X := fun w _ => laidMetH Tryd.prog laidL w) false (World.laidAll Tryd.prog os laidL) #[.slice none 0 0] 8 (World.laidAll_os _ _ _) (start_shaped os) (by kernel_rfl) (by kernel_rfl) (by kernel_rfl) (start_met os _)) ?_
  intro W base args ds gs before hval0 hW _ hsz0 hL _
  have hsz : (DataW.weightsEach Tryd.prog (Tryd.f4.params.toList ++ Rows.utfRunesSpec.plain.varTypes Tryd.prog) (ds ++ gs)).all (· ≤ reachBytes) = true := hsz0
  clear hsz0
  have hval : ∀ (j : Nat) t v, Tryd.f4.params[j]? = some t → args[j]? = some v → Value.okWide Tryd.prog W .any base t v := hval0
  have hW' := hW
  obtain ⟨p, q, hA0, hV, rfl, _, _⟩ := hW
  have hA : DataW.TrodAll enc Tryd.prog W 0 (fun _ => true) true Tryd.f4.params.toList args.toList ds p := hA0
  rw [Tryd.params4] at hA hval hsz
  obtain ⟨v0, vs0, d0, ds0, p0, q0, hargs, rfl, rfl, h0, r0⟩ := trodAll_cons hA
  obtain ⟨rfl, rfl, rfl⟩ := trodAll_nil r0
  obtain rfl : args = #[v0] := by cases args; simp_all
  obtain ⟨rfl, rfl⟩ := trodVars_none hV
  have lt0 : ∀ x ∈ p0, x.block < W.heap.size := by obtain ⟨m, hm⟩ := h0; exact DataW.trod_lt m _ _ _ hm
  obtain ⟨A0, n0, c0, z0, rfl, s0, u0, l0, g0⟩ := open_bytes_c (hval 0 22 v0 rfl rfl) h0
  have m0 := g0 _ _ 0 hsz rfl rfl
  clear hA0 hval0
  refine (walk W (tabs_of_laid hL) s0 u0 m0 l0).mono fun e W' ⟨he, bel⟩ => ?_
  subst he
  exact ⟨_, rfl, _, _, _, [], _, [], hW', trodAll_mk1 (shut_bool Tryd.underlying4 _), (trodAll_cons_mk (Below.trod laidOut (by kernel_rfl) (of_decide_eq_true (by kernel_rfl)) h0 bel lt0) trodAll_mk0), rfl, bel.frame _, fun h => by cases h⟩

theorem over : Rows.utfRunesRow.holds Tryd.pinned (OpenSpec.ofChange Rows.utfRunesSpec) :=
  OpenClaim.holds_of_wide 4 Tryd.f4 rfl rfl rfl rfl rfl rfl rfl ⟨rfl, rfl, rfl, rfl, rfl⟩ rfl rfl rfl rfl rfl (by kernel_rfl) Tryd.func4 (by kernel_rfl)
    (of_decide_eq_true (by kernel_rfl)) (by unfold Func.isWrapper; first | (rw [if_pos (by decide +kernel)]; kernel_rfl) | (rw [if_neg (by decide +kernel)]; exact ⟨rfl, rfl⟩))
    (fun os started H enc _ => lifted os started H enc)

theorem proved : Rows.UtfRunesCardSaid :=
  Claim7.holds_tied_plain_at .later [] [.data, .data, .pinned] true Rows.utfRunesCard.stood.harness false
    over (fun _ h => by cases h) (by kernel_rfl) (fun _ h => by cases h) utfRunes_row_tie rfl ⟨rfl, rfl⟩ (by kernel_rfl) rfl
    (fun f fn hf hfn => by
      obtain rfl : f = 4 := Option.some.inj ((show Tryd.prog.funcNamed "spyglass/spyglasslaw07.UtfRunes" = some 4 by kernel_rfl).symm.trans hf) |>.symm
      obtain rfl : fn = Tryd.f4 := (Option.some.inj (Tryd.func4.symm.trans hfn)).symm
      exact ⟨by kernel_rfl, fun j t ht => by
        rw [Tryd.params4] at ht
        have hm : t ∈ [22] := by simpa using Array.mem_of_getElem? ht
        have hall : ([22].all fun u => !Tryd.prog.wantsStandIn u) = true := by kernel_rfl
        exact (show Tryd.prog.wantsStandIn t = false by simpa using List.all_eq_true.1 hall t hm)⟩)
    (by kernel_rfl)
end Go.Proofs.YtpikbekcdbfdhaaDoor.utfRunes
