/-
  Proved: ShaPads answers true for every length and every byte, over the table of roots that the program's text lays (a tied card).
-/
import Derived.Test.YtfkfhcpmoghlfaaDoorOpen
import Derived.Test.YtfkfhcpmoghlfaaDoorCards
import Derived.Test.YtfkfhcpmoghlfaaDoorTie
import Derived.SevenTiedAt
import Derived.Test.YtfkfhcpmoghlfaaDoorShaPts
import Derived.Test.YtfkfhcpmoghlfaaDoorShaNone
import Derived.Test.YtfkfhcpmoghlfaaDoorShaRefSum
import Derived.WalkKit
namespace Go.Proofs.YtfkfhcpmoghlfaaDoor.shaPads
open Go.ChangeShapes Go.WideShapes Go.ChangeAt Go.RowKit

/-- So many like bytes, so far k of them. -/
def fillC (c : Int) (t k : Nat) : List Int := List.replicate k c ++ List.replicate (t - k) 0
theorem fillC_len (c : Int) {t k : Nat} (h : k ≤ t) : (fillC c t k).length = t := by simp [fillC]; omega
theorem fillC_next (c : Int) {t k : Nat} (h : k < t) : (fillC c t k).set k c = fillC c t (k + 1) := by
  unfold fillC
  have e : t - k = (t - (k + 1)) + 1 := by omega
  rw [List.set_append_right _ _ (by simp), List.length_replicate, Nat.sub_self, e, List.replicate_succ, List.set_cons_zero, List.replicate_succ', List.append_assoc]
  rfl
theorem fillC_b {c : Int} (h : 0 ≤ c ∧ c ≤ 255) (t k : Nat) : B8s (fillC c t k) := fun z hz => by
  rcases List.mem_append.1 hz with h1 | h1
  · rw [List.eq_of_mem_replicate h1]; exact h
  · rw [List.eq_of_mem_replicate h1]; omega

theorem made_zero (c : Int) (t : Nat) : (madeCells (Value.int IntKind.u8 0).cells (t * 1)).toList = (fillC c t 0).map (Value.int .u8) := by
  rw [Nat.mul_one]
  show (madeCells #[Value.int IntKind.u8 0] t).toList = _
  rw [toList_madeCells_one]
  simp [fillC]

set_option maxRecDepth 100000 in
set_option maxHeartbeats 1600000 in
/-- The walk. -/
theorem walk {a0 a1 : Int} (w : World) (hr : Roots w) (_ : (Lit.int .i64 a0).wf = true) (w1 : (Lit.int .u8 a1).wf = true) :
    Calls Tryd.prog 5 #[.int .i64 a0, .int .u8 a1] w fun e w' => e = .returned (.bool true) ∧ Below w.heap.size w w' := by
  obtain ⟨i0, hi, hz0, hz1, hz2⟩ := info_parts info8
  have H := Lib.hid (And.intro hr (bounds_u8 w1))
  clear hr w1
  go_enter Tryd.func5, Tryd.ntmps5
  go_upto_region 1 with fail
  go_cut [0] (fun s0 wc => ∃ t : Nat, t ≤ 1000 ∧ s0 = .int .i64 t ∧ wc = w)
  case first =>
    go_wp2_with fail
    all_goals (go_meet; first | exact ⟨1000, Nat.le_refl _, rfl, rfl⟩ | exact ⟨0, Nat.zero_le _, rfl, rfl⟩ | (have h4 := h; rename_i h3; exact ⟨a0.toNat, by omega, by rw [Int.toNat_of_nonneg (by omega)], rfl⟩))
  case rest =>
    obtain ⟨t, ht, rfl, rfl⟩ := hcut
    go_wp2_with (first
      | (at_make; refine wpList_make_full _ rfl _ _ 25 rfl wc.heap.size 5 i0 (.int .u8 0) 1 Tryd.underlying25 hi hz0 hz1 .i64 .i64 (t : Int) (t : Int) t rfl rfl rfl rfl (by rw [hz2]; omega) (by unfold maxLen; omega) (Nat.le_refl _) ?_; intro w2 hown hg))
    have X2 := Lib.hid (show w2.ownsRow wc.heap.size 5 1 (.slice (some ⟨wc.heap.size, 0, none⟩) t t) t ((fillC a1 t 0).map (Value.int .u8)) ∧ Below wc.heap.size wc w2 from by
      refine ⟨?_, (Below.refl _ _).grown hg (Nat.le_refl _) (by intro k hk; cases hk)⟩
      have e : (madeCells (Value.int IntKind.u8 0).cells (t * 1)).toList = (fillC a1 t 0).map (Value.int .u8) := made_zero a1 t
      rw [e] at hown
      exact hown)
    clear hown hg
    go_loopw [14] (fun i wr => ∃ k : Nat, k ≤ t ∧ i = .int .i64 k ∧ wr.ownsRow wc.heap.size 5 1 (.slice (some ⟨wc.heap.size, 0, none⟩) t t) t ((fillC a1 t k).map (Value.int .u8)) ∧ Below wc.heap.size wc wr) (fun i _ => t - (intOf i).toNat)
    case atStart => exact ⟨0, Nat.zero_le _, rfl, X2.out.1, X2.out.2⟩
    case round =>
      clear X2
      obtain ⟨k, hk, rfl, hown, hbel⟩ := hrel
      have X := Lib.hid (And.intro hown hbel)
      by_cases hlt : k < t
      · have hkl : (k : Int) < (t : Int) := by omega
        have hc : wr.cell? ⟨wc.heap.size, k, none⟩ = some (.int .u8 ((fillC a1 t k).getD k 0)) := by
          rw [hown.cellAt k (by omega), List.getElem?_map, lget (by rw [fillC_len _ hk]; exact hlt)]
          rfl
        have hf := hown.frozenAt k
        clear hown hbel
        go_wp2_with fail
        go_roundw
        case rel =>
          refine ⟨k + 1, by omega, by go_num, ?_, X.out.2.setCell (Nat.le_refl _) _⟩
          have h1 := (X.out.1.stored k (.int .u8 a1)).1
          rw [← List.map_set, fillC_next _ hlt] at h1
          exact h1
        case measure => simp [intOf]; omega
      · obtain rfl : k = t := by omega
        have HS := Lib.hid (show Sb wr (some ⟨wc.heap.size, 0, none⟩) k (fillC a1 k k) ∧ B8s (fillC a1 k k) from ⟨Sb.own X.out.1, fillC_b H.out.2 _ _⟩)
        have hfl := Lib.hid (fillC_len a1 (Nat.le_refl k))
        clear hown hbel hlt hk
        obtain ⟨zs, hzs⟩ : ∃ zs, zs = fillC a1 k k := ⟨_, rfl⟩
        rw [← hzs] at HS hfl
        clear hzs
        go_wp2_with fail
        refine (fixed_any _ (H.out.1.below X.out.2)).mono ?_
        rintro e w3 ⟨rfl, hb3⟩
        have X3 := Lib.hid (show Below wc.heap.size wc w3 ∧ Sb w3 (some ⟨wc.heap.size, 0, none⟩) k zs from ⟨X.out.2.trans (hb3.mono X.out.2.size), HS.out.1.below hb3⟩)
        clear hb3
        obtain ⟨s, hs⟩ : ∃ s, s = shaS zs := ⟨_, rfl⟩
        have HSS := Lib.hid hs
        clear hs
        have heq := shaNone.eql_same s (by rw [HSS.out]; exact shaS_len _)
        go_wp2_with fail
        have B4 : Below w3.heap.size w3 (w3.alloc (.cells #[Value.slice (some ⟨wc.heap.size, 0, none⟩) k k] 25)) := (Below.refl _ _).alloc (Nat.le_refl _) _
        have B5 : Below wc.heap.size wc (w3.alloc (.cells #[Value.slice (some ⟨wc.heap.size, 0, none⟩) k k] 25)) := X3.out.1.alloc X3.out.1.size _
        refine (shaSum_any (n := 1) (L := [zs]) _ (H.out.1.below B5) ?hp (by have h1 := hfl.out; simp; omega) (by omega)).mono ?_
        case hp =>
          refine Ps.of rfl (by simp) fun j hj => ?_
          obtain rfl : j = 0 := by omega
          exact ⟨_, k, k, (cell_of_row _ w3.heap.size 0 _ _ _ (heap_alloc_new w3 _)).trans rfl, X3.out.2.below B4, Nat.le_refl _, by omega, HS.out.2⟩
        rintro e w4 ⟨rfl, hb4⟩
        rw [show ([zs] : List (List Int)).flatten = zs by simp, ← HSS.out]
        have X4 := Lib.hid (show Below wc.heap.size wc w4 ∧ Sb w4 (some ⟨wc.heap.size, 0, none⟩) k zs from ⟨B5.trans (hb4.mono B5.size), (X3.out.2.below B4).below hb4⟩)
        clear hb4 B4 B5 X3
        go_wp2_with fail
        have B6 : Below w4.heap.size w4 (w4.alloc (.cells #[Value.slice (some ⟨wc.heap.size, 0, none⟩) k k] 25)) := (Below.refl _ _).alloc (Nat.le_refl _) _
        have B7 : Below wc.heap.size wc (w4.alloc (.cells #[Value.slice (some ⟨wc.heap.size, 0, none⟩) k k] 25)) := X4.out.1.alloc X4.out.1.size _
        refine (refSum_any (n := 1) (L := [zs]) _ ?hp (by have h1 := hfl.out; simp; omega) (by omega)).mono ?_
        case hp =>
          refine Ps.of rfl (by simp) fun j hj => ?_
          obtain rfl : j = 0 := by omega
          exact ⟨_, k, k, (cell_of_row _ w4.heap.size 0 _ _ _ (heap_alloc_new w4 _)).trans rfl, X4.out.2.below B6, Nat.le_refl _, by omega, HS.out.2⟩
        rintro e w5 ⟨rfl, hb5⟩
        rw [show ([zs] : List (List Int)).flatten = zs by simp, ← HSS.out]
        have X5 := Lib.hid (show Below wc.heap.size wc w5 from B7.trans (hb5.mono B7.size))
        clear hb5 B6 B7 X4
        go_wp2_with fail
        go_ret
        exact ⟨rfl, X5.out⟩

set_option maxRecDepth 100000 in
theorem lifted (os : Os) (started : os.Started) (H : Type) (enc : TypeId × Value → H) :
    ReturnsInHanded {} Tryd.checked os 5 .any (fun w args => (Rows.shaPadsSpec.pre enc Tryd.prog Tryd.f5 [] false w args ∧ laidMetH Tryd.prog laidL w) ∧ sizedMet enc Tryd.prog Tryd.f5 (OpenSpec.ofChange Rows.shaPadsSpec) false w args)
      (Rows.shaPadsSpec.post enc Tryd.prog Tryd.f5 false true false false) := by
  refine returnsInHanded_of_change_and (C := Tryd.checked) (X := fun w _ => laidMetH Tryd.prog laidL w) (fun _ _ _ hh h => h.of_heap hh) own started (by kernel_rfl) Tryd.func5
    (ChangeSpec.witness_shaped (enc := enc) (C := Tryd.checked) (os := os) (X := fun w _ => laidMetH Tryd.prog laidL w) false (World.doorLaid Tryd.prog 400 os) #[.int .i64 0, .int .u8 0] 8 rfl (World.shaped_of_RefB (by kernel_rfl) (by kernel_rfl)) (by kernel_rfl) (by kernel_rfl) (by kernel_rfl) (door_met os _)) ?_
  intro W base args ds gs before hval0 hW _ hsz0 hL _
  have hsz : (DataW.weightsEach Tryd.prog (Tryd.f5.params.toList ++ Rows.shaPadsSpec.plain.varTypes Tryd.prog) (ds ++ gs)).all (· ≤ reachBytes) = true := hsz0
  clear hsz0
  have hval : ∀ (j : Nat) t v, Tryd.f5.params[j]? = some t → args[j]? = some v → Value.okWide Tryd.prog W .any base t v := hval0
  have hW' := hW
  obtain ⟨p, q, hA0, hV, rfl, _, _⟩ := hW
  have hA : DataW.TrodAll enc Tryd.prog W 0 (fun _ => true) true Tryd.f5.params.toList args.toList ds p := hA0
  rw [Tryd.params5] at hA hval hsz
  obtain ⟨v0, vs0, d0, ds0, p0, q0, hargs, rfl, rfl, h0, r0⟩ := trodAll_cons hA
  obtain ⟨v1, vs1, d1, ds1, p1, q1, rfl, rfl, rfl, h1, r1⟩ := trodAll_cons r0
  obtain ⟨rfl, rfl, rfl⟩ := trodAll_nil r1
  obtain rfl : args = #[v0, v1] := by cases args; simp_all
  obtain ⟨rfl, rfl⟩ := trodVars_none hV
  obtain ⟨a0, rfl, rfl, rfl, w0⟩ := open_int Tryd.underlying3 (hval 0 3 v0 rfl rfl) h0
  obtain ⟨a1, rfl, rfl, rfl, w1⟩ := open_int Tryd.underlying5 (hval 1 5 v1 rfl rfl) h1
  clear hA0 hval0
  refine (walk W (roots_of_laid hL) w0 w1).mono fun e W' ⟨he, bel⟩ => ?_
  subst he
  exact ⟨_, rfl, _, _, _, [], _, [], hW', trodAll_mk1 (shut_bool Tryd.underlying4 _), (trodAll_cons_mk (shut_int Tryd.underlying3 w0) (trodAll_cons_mk (shut_int Tryd.underlying5 w1) trodAll_mk0)), rfl, bel.frame _, fun h => by cases h⟩

theorem over : Rows.shaPadsRow.holds Tryd.pinned (OpenSpec.ofChange Rows.shaPadsSpec) :=
  OpenClaim.holds_of_wide 5 Tryd.f5 rfl rfl rfl rfl rfl rfl rfl ⟨rfl, rfl, rfl, rfl, rfl⟩ rfl rfl rfl rfl rfl (by kernel_rfl) Tryd.func5 (by kernel_rfl)
    (of_decide_eq_true (by kernel_rfl)) (by unfold Func.isWrapper; first | (rw [if_pos (by decide +kernel)]; kernel_rfl) | (rw [if_neg (by decide +kernel)]; exact ⟨rfl, rfl⟩))
    (fun os started H enc _ => lifted os started H enc)

theorem proved : Rows.ShaPadsCardSaid :=
  Claim7.holds_tied_plain_at .later [] [.data] true Rows.shaPadsCard.stood.harness false
    over (fun _ h => by cases h) (by kernel_rfl) (fun _ h => by cases h) shaPads_row_tie rfl ⟨rfl, rfl⟩ (by kernel_rfl) rfl
    (fun f fn hf hfn => by
      obtain rfl : f = 5 := Option.some.inj ((show Tryd.prog.funcNamed "spyglass/spyglasslaw03.ShaPads" = some 5 by kernel_rfl).symm.trans hf) |>.symm
      obtain rfl : fn = Tryd.f5 := (Option.some.inj (Tryd.func5.symm.trans hfn)).symm
      exact ⟨by kernel_rfl, fun j t ht => by
        rw [Tryd.params5] at ht
        have hm : t ∈ [3, 5] := by simpa using Array.mem_of_getElem? ht
        have hall : ([3, 5].all fun u => !Tryd.prog.wantsStandIn u) = true := by kernel_rfl
        exact (show Tryd.prog.wantsStandIn t = false by simpa using List.all_eq_true.1 hall t hm)⟩)
    (by kernel_rfl)
end Go.Proofs.YtfkfhcpmoghlfaaDoor.shaPads
