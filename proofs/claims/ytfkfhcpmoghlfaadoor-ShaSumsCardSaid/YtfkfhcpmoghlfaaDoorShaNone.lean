/-
  Proved: ShaNone answers true for all bytes a and b, over the table of roots that the program's text lays (a tied card).
-/
import Derived.Test.YtfkfhcpmoghlfaaDoorOpen
import Derived.Test.YtfkfhcpmoghlfaaDoorCards
import Derived.Test.YtfkfhcpmoghlfaaDoorTie
import Derived.SevenTiedAt
import Derived.Test.YtfkfhcpmoghlfaaDoorShaTab
import Derived.WalkKit
namespace Go.Proofs.YtfkfhcpmoghlfaaDoor.shaNone
open Go.ChangeShapes Go.WideShapes Go.ChangeAt Go.RowKit

/-- The two sums are one, held against each other. -/
theorem eql_same (s : List Int) (hs : s.length = 32) (w : World) : (binOp .eql 27 (.agg (u8A s)) (.agg (u8A s))).run Tryd.prog w = .ok (.bool true) w := by
  rw [run_eql_u8A w 27 5 32 Tryd.underlying27 Tryd.underlying5 size1 s s hs hs]
  simp

set_option maxRecDepth 100000 in
set_option maxHeartbeats 1600000 in
/-- The walk. -/
theorem walk {A : Option Addr} {n c : Nat} {zs : List Int} {B : Option Addr} {m d : Nat} {ys : List Int} (w : World) (hr : Roots w) (hs : Sb w A n zs) (h8 : U8s zs) (_ : n ≤ 140737488351232) (hc : n ≤ c ∧ c ≤ maxLen) (ht : Sb w B m ys) (t8 : U8s ys) (_ : m ≤ 140737488351232) (hd : m ≤ d ∧ d ≤ maxLen) :
    Calls Tryd.prog 6 #[.slice A n c, .slice B m d] w fun e w' => e = .returned (.bool true) ∧ Below w.heap.size w w' := by
  unfold maxLen at hc hd
  have H := Lib.hid (show Roots w ∧ Sb w A n zs ∧ Sb w B m ys ∧ B8s zs ∧ B8s ys ∧ (n ≤ c ∧ c ≤ 9223372036854775807) ∧ (m ≤ d ∧ d ≤ 9223372036854775807) from ⟨hr, hs, ht, h8, t8, hc, hd⟩)
  have hzl := Lib.hid hs.len
  have hyl := Lib.hid ht.len
  clear hr hs h8 ht t8 hc hd
  by_cases hn : (16384 : Int) < (n : Int)
  · go_enter Tryd.func6, Tryd.ntmps6
    go_wp2_with fail
    refine (fixed_any _ H.out.1).mono ?_
    rintro e w1 ⟨rfl, hb1⟩
    go_wp2_with fail
    go_ret
    exact ⟨rfl, hb1⟩
  · by_cases hm : (16384 : Int) < (m : Int)
    · go_enter Tryd.func6, Tryd.ntmps6
      go_wp2_with fail
      refine (fixed_any _ H.out.1).mono ?_
      rintro e w1 ⟨rfl, hb1⟩
      go_wp2_with fail
      go_ret
      exact ⟨rfl, hb1⟩
    · have hn2 : n ≤ 16384 := by omega
      have hm2 : m ≤ 16384 := by omega
      go_enter Tryd.func6, Tryd.ntmps6
      go_wp2_with fail
      refine (fixed_any _ H.out.1).mono ?_
      rintro e w1 ⟨rfl, hb1⟩
      go_wp2_with fail
      have B1 : Below w.heap.size w ((w1.alloc (.cells #[] 5)).alloc (.cells #[Value.slice none 0 0, Value.slice A n c, Value.slice (some ⟨w1.heap.size, 0, none⟩) 0 0, Value.slice B m d, Value.slice none 0 0] 25)) := (hb1.alloc hb1.size _).alloc (by have := hb1.size; simp; omega) _
      refine (shaSum_any (n := 5) (L := [[], zs, [], ys, []]) _ (H.out.1.below B1) ?hp (by have h1 := hzl.out; have h2 := hyl.out; simp; omega) (by omega)).mono ?_
      case hp =>
        have hcell := fun k => cell_of_row _ (w1.heap.size + 1) k _ _ _ (heap_alloc2_new w1 (.cells #[] 5) (.cells #[Value.slice none 0 0, Value.slice A n c, Value.slice (some ⟨w1.heap.size, 0, none⟩) 0 0, Value.slice B m d, Value.slice none 0 0] 25))
        have h0 : B8s [] := fun z hz => by cases hz
        refine Ps.of rfl (by simp) fun k hk => ?_
        have hk5 : k = 0 ∨ k = 1 ∨ k = 2 ∨ k = 3 ∨ k = 4 := by omega
        rcases hk5 with rfl | rfl | rfl | rfl | rfl
        · exact ⟨none, 0, 0, (hcell 0).trans rfl, Sb.nil _ _, by omega, by omega, h0⟩
        · exact ⟨A, n, c, (hcell 1).trans rfl, H.out.2.1.below B1, H.out.2.2.2.2.2.1.1, H.out.2.2.2.2.2.1.2, H.out.2.2.2.1⟩
        · exact ⟨_, 0, 0, (hcell 2).trans rfl, Sb.nil _ _, by omega, by omega, h0⟩
        · exact ⟨B, m, d, (hcell 3).trans rfl, H.out.2.2.1.below B1, H.out.2.2.2.2.2.2.1, H.out.2.2.2.2.2.2.2, H.out.2.2.2.2.1⟩
        · exact ⟨none, 0, 0, (hcell 4).trans rfl, Sb.nil _ _, by omega, by omega, h0⟩
      rintro e w2 ⟨rfl, hb2⟩
      rw [show ([[], zs, [], ys, []] : List (List Int)).flatten = zs ++ ys by simp]
      have X2 := Lib.hid (show Below w.heap.size w w2 from B1.trans (hb2.mono B1.size))
      clear hb2 B1 hb1
      obtain ⟨s, hs⟩ : ∃ s, s = shaS (zs ++ ys) := ⟨_, rfl⟩
      rw [← hs]
      have HS := Lib.hid hs
      clear hs
      have heq := eql_same s (by rw [HS.out]; exact shaS_len _)
      go_wp2_with fail
      have B3 : Below w.heap.size w (w2.alloc (.cells #[Value.slice A n c, Value.slice B m d] 25)) := X2.out.alloc X2.out.size _
      refine (shaSum_any (n := 2) (L := [zs, ys]) _ (H.out.1.below B3) ?hp (by have h1 := hzl.out; have h2 := hyl.out; simp; omega) (by omega)).mono ?_
      case hp =>
        have hcell := fun k => cell_of_row _ w2.heap.size k _ _ _ (heap_alloc_new w2 (.cells #[Value.slice A n c, Value.slice B m d] 25))
        refine Ps.of rfl (by simp) fun k hk => ?_
        have hk2 : k = 0 ∨ k = 1 := by omega
        rcases hk2 with rfl | rfl
        · exact ⟨A, n, c, (hcell 0).trans rfl, H.out.2.1.below B3, H.out.2.2.2.2.2.1.1, H.out.2.2.2.2.2.1.2, H.out.2.2.2.1⟩
        · exact ⟨B, m, d, (hcell 1).trans rfl, H.out.2.2.1.below B3, H.out.2.2.2.2.2.2.1, H.out.2.2.2.2.2.2.2, H.out.2.2.2.2.1⟩
      rintro e w4 ⟨rfl, hb4⟩
      rw [show ([zs, ys] : List (List Int)).flatten = zs ++ ys by simp, ← HS.out]
      have X4 := Lib.hid (show Below w.heap.size w w4 from B3.trans (hb4.mono B3.size))
      clear hb4 B3 X2
      obtain ⟨s0, hs0⟩ : ∃ s, s = shaS [] := ⟨_, rfl⟩
      have HS0 := Lib.hid hs0
      clear hs0
      have heq0 := eql_same s0 (by rw [HS0.out]; exact shaS_len _)
      go_wp2_with fail
      have B5 : Below w.heap.size w ((w4.alloc (.cells #[] 5)).alloc (.cells #[Value.slice (some ⟨w4.heap.size, 0, none⟩) 0 0] 25)) := (X4.out.alloc X4.out.size _).alloc (by have := X4.out.size; simp; omega) _
      refine (shaSum_any (n := 1) (L := [[]]) _ (H.out.1.below B5) ?hp (by simp) (by omega)).mono ?_
      case hp =>
        refine Ps.of rfl (by simp) fun k hk => ?_
        obtain rfl : k = 0 := by omega
        exact ⟨_, 0, 0, (cell_of_row _ _ 0 _ _ _ (heap_alloc2_new w4 _ _)).trans rfl, Sb.nil _ _, by omega, by omega, fun z hz => by cases hz⟩
      rintro e w6 ⟨rfl, hb6⟩
      rw [show ([[]] : List (List Int)).flatten = [] from rfl, ← HS0.out]
      have X6 := Lib.hid (show Below w.heap.size w w6 from B5.trans (hb6.mono B5.size))
      clear hb6 B5 X4
      go_wp2_with fail
      refine (shaSum_any (L := []) _ (H.out.1.below X6.out) (Ps.zero _) (by simp) (by omega)).mono ?_
      rintro e w7 ⟨rfl, hb7⟩
      rw [show ([] : List (List Int)).flatten = [] from rfl, ← HS0.out]
      have X7 := Lib.hid (show Below w.heap.size w w7 from X6.out.trans (hb7.mono X6.out.size))
      clear hb7 X6
      go_wp2_with fail
      go_ret
      exact ⟨rfl, X7.out⟩

set_option maxRecDepth 100000 in
theorem lifted (os : Os) (started : os.Started) (H : Type) (enc : TypeId × Value → H) :
    ReturnsInHanded {} Tryd.checked os 6 .any (fun w args => (Rows.shaNoneSpec.pre enc Tryd.prog Tryd.f6 [] false w args ∧ laidMetH Tryd.prog laidL w) ∧ sizedMet enc Tryd.prog Tryd.f6 (OpenSpec.ofChange Rows.shaNoneSpec) false w args)
      (Rows.shaNoneSpec.post enc Tryd.prog Tryd.f6 false true false false) := by
  refine returnsInHanded_of_change_and (C := Tryd.checked) (X := fun w _ => laidMetH Tryd.prog laidL w) (fun _ _ _ hh h => h.of_heap hh) own started (by kernel_rfl) Tryd.func6
    (ChangeSpec.witness_shaped (enc := enc) (C := Tryd.checked) (os := os) (X := fun w _ => laidMetH Tryd.prog laidL w) false (World.doorLaid Tryd.prog 400 os) #[.slice none 0 0, .slice none 0 0] 8 rfl (World.shaped_of_RefB (by kernel_rfl) (by kernel_rfl)) (by kernel_rfl) (by kernel_rfl) (by kernel_rfl) (door_met os _)) ?_
  intro W base args ds gs before hval0 hW _ hsz0 hL _
  have hsz : (DataW.weightsEach Tryd.prog (Tryd.f6.params.toList ++ Rows.shaNoneSpec.plain.varTypes Tryd.prog) (ds ++ gs)).all (· ≤ reachBytes) = true := hsz0
  clear hsz0
  have hval : ∀ (j : Nat) t v, Tryd.f6.params[j]? = some t → args[j]? = some v → Value.okWide Tryd.prog W .any base t v := hval0
  have hW' := hW
  obtain ⟨p, q, hA0, hV, rfl, _, _⟩ := hW
  have hA : DataW.TrodAll enc Tryd.prog W 0 (fun _ => true) true Tryd.f6.params.toList args.toList ds p := hA0
  rw [Tryd.params6] at hA hval hsz
  obtain ⟨v0, vs0, d0, ds0, p0, q0, hargs, rfl, rfl, h0, r0⟩ := trodAll_cons hA
  obtain ⟨v1, vs1, d1, ds1, p1, q1, rfl, rfl, rfl, h1, r1⟩ := trodAll_cons r0
  obtain ⟨rfl, rfl, rfl⟩ := trodAll_nil r1
  obtain rfl : args = #[v0, v1] := by cases args; simp_all
  obtain ⟨rfl, rfl⟩ := trodVars_none hV
  have lt0 : ∀ x ∈ p0, x.block < W.heap.size := by obtain ⟨m, hm⟩ := h0; exact DataW.trod_lt m _ _ _ hm
  obtain ⟨A0, n0, c0, z0, rfl, s0, u0, l0, g0⟩ := open_bytes_c (hval 0 25 v0 rfl rfl) h0
  have m0 := g0 _ _ 0 hsz rfl rfl
  have lt1 : ∀ x ∈ p1, x.block < W.heap.size := by obtain ⟨m, hm⟩ := h1; exact DataW.trod_lt m _ _ _ hm
  obtain ⟨A1, n1, c1, z1, rfl, s1, u1, l1, g1⟩ := open_bytes_c (hval 1 25 v1 rfl rfl) h1
  have m1 := g1 _ _ 1 hsz rfl rfl
  clear hA0 hval0
  refine (walk W (roots_of_laid hL) s0 u0 m0 l0 s1 u1 m1 l1).mono fun e W' ⟨he, bel⟩ => ?_
  subst he
  exact ⟨_, rfl, _, _, _, [], _, [], hW', trodAll_mk1 (shut_bool Tryd.underlying4 _), (trodAll_cons_mk (Below.trod laidOut (by kernel_rfl) (of_decide_eq_true (by kernel_rfl)) h0 bel lt0) (trodAll_cons_mk (Below.trod laidOut (by kernel_rfl) (of_decide_eq_true (by kernel_rfl)) h1 bel lt1) trodAll_mk0)), rfl, bel.frame _, fun h => by cases h⟩

theorem over : Rows.shaNoneRow.holds Tryd.pinned (OpenSpec.ofChange Rows.shaNoneSpec) :=
  OpenClaim.holds_of_wide 6 Tryd.f6 rfl rfl rfl rfl rfl rfl rfl ⟨rfl, rfl, rfl, rfl, rfl⟩ rfl rfl rfl rfl rfl (by kernel_rfl) Tryd.func6 (by kernel_rfl)
    (of_decide_eq_true (by kernel_rfl)) (by unfold Func.isWrapper; first | (rw [if_pos (by decide +kernel)]; kernel_rfl) | (rw [if_neg (by decide +kernel)]; exact ⟨rfl, rfl⟩))
    (fun os started H enc _ => lifted os started H enc)

theorem proved : Rows.ShaNoneCardSaid :=
  Claim7.holds_tied_plain_at .later [] [.data] true Rows.shaNoneCard.stood.harness false
    over (fun _ h => by cases h) (by kernel_rfl) (fun _ h => by cases h) shaNone_row_tie rfl ⟨rfl, rfl⟩ (by kernel_rfl) rfl
    (fun f fn hf hfn => by
      obtain rfl : f = 6 := Option.some.inj ((show Tryd.prog.funcNamed "spyglass/spyglasslaw03.ShaNone" = some 6 by kernel_rfl).symm.trans hf) |>.symm
      obtain rfl : fn = Tryd.f6 := (Option.some.inj (Tryd.func6.symm.trans hfn)).symm
      exact ⟨by kernel_rfl, fun j t ht => by
        rw [Tryd.params6] at ht
        have hm : t ∈ [25, 25] := by simpa using Array.mem_of_getElem? ht
        have hall : ([25, 25].all fun u => !Tryd.prog.wantsStandIn u) = true := by kernel_rfl
        exact (show Tryd.prog.wantsStandIn t = false by simpa using List.all_eq_true.1 hall t hm)⟩)
    (by kernel_rfl)
end Go.Proofs.YtfkfhcpmoghlfaaDoor.shaNone
