/-
  Proved: GuardMoved answers true for all numbers and whatever they are moved by.
-/
import Derived.Test.YtkmobiggcehpbaaOpen
import Derived.Test.YtkmobiggcehpbaaGuardFixed
import Derived.Test.YtkmobiggcehpbaaInts
import Derived.WalkKit
namespace Go.Proofs.Ytkmobiggcehpbaa.guardMoved
open Go.ChangeShapes Go.WideShapes Go.ChangeAt Go.RowKit

theorem chk_moved {L : List Int} {n b : Int} (h0 : n ≤ 65535) (hb : 0 ≤ b) (hb2 : b < 2305843009213693952) : chk (n + b) (L.map (· + b)) = chk n L := by
  unfold chk
  have n1 : ¬ (4611686018427387904 < n + b) := by omega
  have n2 : ¬ (4611686018427387904 < n) := by omega
  rw [if_neg n1, if_neg n2]
  have e : ((∃ x ∈ L.map (· + b), n + b + 64 ≤ x) ∨ n + b ∈ L.map (· + b)) ↔ ((∃ x ∈ L, n + 64 ≤ x) ∨ n ∈ L) := by
    constructor
    · rintro (⟨x, hx, h⟩ | h)
      · obtain ⟨y, hy, rfl⟩ := List.mem_map.1 hx
        exact .inl ⟨y, hy, by omega⟩
      · obtain ⟨y, hy, h⟩ := List.mem_map.1 h
        obtain rfl : y = n := by omega
        exact .inr hy
    · rintro (⟨x, hx, h⟩ | h)
      · exact .inl ⟨x + b, List.mem_map.2 ⟨x, hx, rfl⟩, by omega⟩
      · exact .inr (List.mem_map.2 ⟨n, h, rfl⟩)
  by_cases hp : (∃ x ∈ L, n + 64 ≤ x) ∨ n ∈ L
  · rw [if_pos hp, if_pos (e.2 hp)]
  · rw [if_neg hp, if_neg (fun h => hp (e.1 h))]
theorem tk_moved {L : List Int} {n b : Int} (h0 : n ≤ 65535) (hb : 0 ≤ b) (hb2 : b < 2305843009213693952) : tk (n + b) (L.map (· + b)) = (tk n L).map (· + b) := by
  unfold tk
  rw [chk_moved h0 hb hb2]
  split <;> simp

/-- The two guards of a round. -/
structure Two (w0 w : World) (g g2 : Nat) (b : Int) (L : List Int) : Prop where
  one : Gd 49 w g L
  two : Gd 49 w g2 (L.map (· + b))
  bel : Below g w0 w
  lt : g < g2

set_option maxRecDepth 100000 in
/-- The walk. -/
theorem walk {A : Option Addr} {n c : Nat} {zs : List Int} {by_ : Int} (w : World) (hs : Ik .u16 w A n zs ∧ (∀ z ∈ zs, 0 ≤ z ∧ z ≤ 65535) ∧ (n ≤ c ∧ c ≤ maxLen)) (hw : (Lit.int .u64 by_).wf = true) :
    Calls Try.prog 6 #[.slice A n c, .int .u64 by_] w fun e w' => e = .returned (.bool true) ∧ Below w.heap.size w w' := by
  obtain ⟨hi, hu, hc1, hc2⟩ := hs
  obtain ⟨hb0, hb1⟩ := bounds_u64 hw
  have H := Lib.hid (show Ik .u16 w A n zs ∧ (∀ z ∈ zs, 0 ≤ z ∧ z ≤ 65535) from ⟨hi, hu⟩)
  unfold maxLen at hc2
  have hnm : n ≤ 9223372036854775807 := by omega
  clear hi hu hw hc1 hc2
  go_enter Try.func6, Try.ntmps6
  go_wp2_with fail
  refine (gNew_any _).mono ?_
  rintro e w1 ⟨rfl, hg, hb⟩
  obtain ⟨g, hge⟩ : ∃ g, g = w.heap.size := ⟨_, rfl⟩
  rw [← hge] at hg ⊢
  have X := Lib.hid (And.intro hg (show Below g w w1 by rw [hge]; exact hb))
  have HG := Lib.hid hge
  clear hg hb hge
  go_wp2_with fail
  refine (gNew_any _).mono ?_
  rintro e w2 ⟨rfl, hg, hb⟩
  obtain ⟨g2, hge2⟩ : ∃ g, g = w1.heap.size := ⟨_, rfl⟩
  rw [← hge2] at hg ⊢
  have X2 := Lib.hid (show Two w w2 g g2 (by_ % 2305843009213693952) [] from by
    have hlt := X.out.1.lt
    exact ⟨X.out.1.below hb, hg, X.out.2.trans (hb.mono (by omega)), by omega⟩)
  clear hg hb hge2 X
  go_wp2_with fail
  refine (guardFixed_any _).mono ?_
  rintro e w3 ⟨rfl, hb⟩
  have X3 := Lib.hid (show Two w w3 g g2 (by_ % 2305843009213693952) [] from by
    have h := X2.out
    have hlt := h.one.lt
    exact ⟨h.one.below hb, h.two.below hb, h.bel.trans (hb.mono (by omega)), h.lt⟩)
  clear hb X2
  obtain ⟨b, hbe⟩ : ∃ b, by_ % 2305843009213693952 = b := ⟨_, rfl⟩
  have hb2 : 0 ≤ b ∧ b < 2305843009213693952 := by omega
  rw [hbe] at X3
  have htm : by_.tmod 2305843009213693952 = b := by rw [Int.tmod_eq_emod_of_nonneg hb0]; exact hbe
  obtain ⟨hb3, hb4⟩ := hb2
  go_wp2_with fail
  go_loopw [25] (fun i wr => ∃ (k : Nat) (L : List Int), k ≤ n ∧ i = .int .i64 k ∧ Two w wr g g2 b L) (fun i _ => n - (intOf i).toNat)
  case atStart => exact ⟨0, [], Nat.zero_le _, rfl, X3.out⟩
  case round =>
    obtain ⟨k, L, hk, rfl, hX⟩ := hrel
    have Y := Lib.hid hX
    clear hX X3
    by_cases hlt : k < n
    · have hkl : (k : Int) < (n : Int) := by omega
      obtain ⟨ad, rfl, hblt, hcz⟩ := H.out.1.at_ (by omega)
      obtain ⟨z, hz⟩ : ∃ z, z = zs.getD k 0 := ⟨_, rfl⟩
      have hzm := H.out.2 z (by rw [hz, getD_lt (by rw [H.out.1.len]; exact hlt)]; exact List.getElem_mem _)
      obtain ⟨hz0, hz1⟩ := hzm
      have hcell : wr.cell? (ad.add k) = some (.int .u16 z) := by rw [hz]; exact (Y.out.bel.cell (by rw [addBlock, HG.out]; exact hblt)).trans (hcz k hlt)
      have HC := Lib.hid (chk_moved (L := L) (n := z) (b := b) hz1 hb3 hb4)
      have HT := Lib.hid (tk_moved (L := L) (n := z) (b := b) hz1 hb3 hb4)
      clear hz hblt hcz
      by_cases hbig : (2000 : Int) < (k : Int)
      · go_wp2_with fail
        go_ret
        exact ⟨rfl, by rw [← HG.out]; exact Y.out.bel⟩
      · go_wp2_with fail
        refine (gTake_any Y.out.one z (by omega) (by omega)).mono ?_
        rintro e w4 ⟨rfl, hg, hr⟩
        have Y2 := Lib.hid (show Gd 49 w4 g (tk z L) ∧ Gd 49 w4 g2 (L.map (· + b)) ∧ Below g w w4 ∧ g < g2 from by
          have h := Y.out
          have hl := h.lt
          exact ⟨hg, h.two.grown hr (fun e => by cases e; omega), h.bel.grown hr (by have := h.one.lt; omega) (fun k hk => by cases hk; omega), hl⟩)
        clear hg hr Y
        go_wp2_with fail
        refine (gTake_any Y2.out.2.1 (z + b) (by omega) (by omega)).mono ?_
        rintro e w5 ⟨rfl, hg, hr⟩
        rw [HT.out] at hg
        rw [HC.out]
        have Y3 := Lib.hid (show Two w w5 g g2 b (tk z L) from by
          have h := Y2.out
          have hl := h.2.2.2
          exact ⟨h.1.grown hr (fun e => by cases e; omega), hg, h.2.2.1.grown hr (by have := h.1.lt; omega) (fun k hk => by cases hk; omega), hl⟩)
        clear hg hr Y2
        obtain ⟨e0, he0⟩ : ∃ e0, e0 = chk z L := ⟨_, rfl⟩
        rw [← he0]
        clear he0 HC HT
        go_wp2_with fail
        go_roundw
        case rel => exact ⟨k + 1, _, by omega, by go_num, Y3.out⟩
        case measure => simp [intOf]; omega
    · go_wp2_with fail
      go_ret
      exact ⟨rfl, by rw [← HG.out]; exact Y.out.bel⟩

set_option maxRecDepth 100000 in
theorem lifted (os : Os) (started : os.Started) (H : Type) (enc : TypeId × Value → H) :
    ReturnsInHanded {} Try.checked os 6 .any (Rows.guardMovedSpec.pre6 enc Try.prog Try.f6 Rows.guardMovedRow.domain false) (Rows.guardMovedSpec.post enc Try.prog Try.f6 false true false false) := by
  refine returnsInHanded_of_change_sized (C := Try.checked) own started (by kernel_rfl) Try.func6
    (ChangeSpec.witness6 (enc := enc) (C := Try.checked) false ⟨#[], #[.slice none 0 0, .int .u64 0], []⟩ 8 (by kernel_rfl) (by kernel_rfl) (by kernel_rfl) (by kernel_rfl)) ?_
  intro W base args ds gs before hval0 hW _ hsz0 _
  have hsz : (DataW.weightsEach Try.prog (Try.f6.params.toList ++ Rows.guardMovedSpec.plain.varTypes Try.prog) (ds ++ gs)).all (· ≤ reachBytes) = true := hsz0
  clear hsz0
  have hval : ∀ (j : Nat) t v, Try.f6.params[j]? = some t → args[j]? = some v → Value.okWide Try.prog W .any base t v := hval0
  have hW' := hW
  obtain ⟨p, q, hA0, hV, rfl, _, _⟩ := hW
  have hA : DataW.TrodAll enc Try.prog W 0 (fun _ => true) true Try.f6.params.toList args.toList ds p := hA0
  rw [Try.params6] at hA hval hsz
  obtain ⟨v0, vs0, d0, ds0, p0, q0, hargs, rfl, rfl, h0, r0⟩ := trodAll_cons hA
  obtain ⟨v1, vs1, d1, ds1, p1, q1, rfl, rfl, rfl, h1, r1⟩ := trodAll_cons r0
  obtain ⟨rfl, rfl, rfl⟩ := trodAll_nil r1
  obtain rfl : args = #[v0, v1] := by cases args; simp_all
  obtain ⟨rfl, rfl⟩ := trodVars_none hV
  have lt0 : ∀ x ∈ p0, x.block < W.heap.size := by obtain ⟨m, hm⟩ := h0; exact DataW.trod_lt m _ _ _ hm
  obtain ⟨A0, n0, c0, z0, rfl, s0⟩ := open_u16s (hval 0 44 v0 rfl rfl) h0
  obtain ⟨a1, rfl, rfl, rfl, w1⟩ := open_int Try.underlying29 (hval 1 29 v1 rfl rfl) h1
  clear hA0 hval0
  refine (walk W s0 w1).mono fun e W' ⟨he, bel⟩ => ?_
  subst he
  exact ⟨_, rfl, _, _, _, [], _, [], hW', trodAll_mk1 (shut_bool Try.underlying4 _), (trodAll_cons_mk (Below.trod laidOut (by kernel_rfl) (of_decide_eq_true (by kernel_rfl)) h0 bel lt0) (trodAll_cons_mk (shut_int Try.underlying29 w1) trodAll_mk0)), rfl, bel.frame _, fun h => by cases h⟩

theorem over : Rows.guardMovedRow.holds Try.pinned (OpenSpec.ofChange Rows.guardMovedSpec) :=
  OpenClaim.holds_of_wide 6 Try.f6 rfl rfl rfl rfl rfl rfl rfl ⟨rfl, rfl, rfl, rfl, rfl⟩ rfl rfl rfl rfl rfl (by kernel_rfl) Try.func6 (by kernel_rfl)
    (of_decide_eq_true (by kernel_rfl)) (by unfold Func.isWrapper; first | (rw [if_pos (by decide +kernel)]; kernel_rfl) | (rw [if_neg (by decide +kernel)]; exact ⟨rfl, rfl⟩))
    (fun os started H enc _ => lifted os started H enc)

theorem proved : Rows.GuardMovedSaid := over
end Go.Proofs.Ytkmobiggcehpbaa.guardMoved
