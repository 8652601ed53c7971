/-
  Proved: GuardNear answers true for every first number and whatever order.
-/
import Derived.Test.YtkmobiggcehpbaaOpen
import Derived.Test.YtkmobiggcehpbaaGuardFixed
import Derived.WalkKit
namespace Go.Proofs.Ytkmobiggcehpbaa.guardNear
open Go.ChangeShapes Go.WideShapes Go.ChangeAt Go.RowKit

theorem chk_near {L : List Int} {a n : Int} (ha : 0 ≤ a) (ha2 : a < 2305843009213693952) (hL : ∀ x ∈ L, a ≤ x ∧ x ≤ a + 63) (h0 : a ≤ n) (h1 : n ≤ a + 63) : chk n L = if n ∈ L then 10 else 0 := by
  unfold chk
  have n1 : ¬ (4611686018427387904 < n) := by omega
  rw [if_neg n1]
  by_cases hp : n ∈ L
  · rw [if_pos hp, if_pos (.inr hp)]
  · rw [if_neg hp, if_neg]
    rintro (⟨x, hx, h⟩ | h)
    · have := hL x hx; omega
    · exact hp h

/-- What each round holds: the guard; the flags of the numbers that were taken. -/
structure Near (w0 w : World) (g b : Nat) (a : Int) (L : List Int) : Prop where
  gd : Gd 49 w g L
  blk : ∃ cs, w.heap[b]? = some (.cells cs 43 (0, 0)) ∧ cs.size = 64 ∧ ∀ k : Nat, k < 64 → cs[k]? = some (.bool (decide (a + k ∈ L)))
  all : ∀ x ∈ L, a ≤ x ∧ x ≤ a + 63
  bel : Below g w0 w
  lt : g < b
section
variable {w0 w w' : World} {g b : Nat} {a : Int} {L : List Int}

theorem Near.cell (h : Near w0 w g b a L) (k : Nat) (hk : k < 64) : w.cell? ⟨b, k, none⟩ = some (.bool (decide (a + k ∈ L))) := by
  obtain ⟨cs, h1, _, h3⟩ := h.blk
  rw [cell_of_row w b k cs _ _ h1]
  exact h3 k hk
theorem Near.free (h : Near w0 w g b a L) (k : Nat) : w.frozen? ⟨b, k, none⟩ = false := by
  obtain ⟨cs, h1, _, _⟩ := h.blk
  exact frozen_of_row w b k cs _ h1
theorem Near.lt2 (h : Near w0 w g b a L) : b < w.heap.size := by
  obtain ⟨cs, h1, _, _⟩ := h.blk
  exact lt_of_block h1
/-- A number that is new. -/
theorem Near.more (h : Near w0 w g b a L) {j : Nat} (hj : j < 64) {w1 : World} (hw1 : w1 = w.setCell ⟨b, j, none⟩ (.bool true)) (hg : Gd 49 w' g (L ++ [a + j])) (hr : w1.grownBy w' (some g)) : Near w0 w' g b a (L ++ [a + j]) := by
  subst hw1
  obtain ⟨cs, h1, h2, h3⟩ := h.blk
  have hl := h.lt
  have hs := heap_setCell_same w b j cs _ (.bool true) h1
  refine ⟨hg, ⟨_, (hr.block b (by simpa using h.lt2) (fun e => by cases e; omega)).trans hs, by simpa using h2, fun k hk => ?_⟩, fun x hx => ?_, ?_, hl⟩
  · by_cases hkj : k = j
    · subst hkj
      simp [h2, hk]
    · rw [Array.getElem?_setIfInBounds_ne (fun e => hkj e.symm), h3 k hk]
      have : (a + (k : Int) ∈ L ++ [a + (j : Int)]) ↔ a + (k : Int) ∈ L := by simp; omega
      simp only [this]
  · rcases List.mem_append.1 hx with hx | hx
    · exact h.all x hx
    · simp at hx; omega
  · exact (h.bel.setCell (p := ⟨b, j, none⟩) (by show g ≤ b; omega) _).grown hr (by simpa using Nat.le_of_lt (by have := h.gd.lt; omega)) (fun k hk => by cases hk; omega)
/-- One that was taken. -/
theorem Near.same (h : Near w0 w g b a L) {j : Nat} (hj : j < 64) (hm : a + (j : Int) ∈ L) {w1 : World} (hw1 : w1 = w.setCell ⟨b, j, none⟩ (.bool true)) (hg : Gd 49 w' g L) (hr : w1.grownBy w' (some g)) : Near w0 w' g b a L := by
  subst hw1
  obtain ⟨cs, h1, h2, h3⟩ := h.blk
  have hl := h.lt
  have hs := heap_setCell_same w b j cs _ (.bool true) h1
  refine ⟨hg, ⟨_, (hr.block b (by simpa using h.lt2) (fun e => by cases e; omega)).trans hs, by simpa using h2, fun k hk => ?_⟩, h.all, ?_, hl⟩
  · by_cases hkj : k = j
    · subst hkj
      simp [h2, hk, hm]
    · rw [Array.getElem?_setIfInBounds_ne (fun e => hkj e.symm), h3 k hk]
  · exact (h.bel.setCell (p := ⟨b, j, none⟩) (by show g ≤ b; omega) _).grown hr (by simpa using Nat.le_of_lt (by have := h.gd.lt; omega)) (fun k hk => by cases hk; omega)
end

set_option maxRecDepth 100000 in
/-- The walk. -/
theorem walk {from_ : Int} {A : Option Addr} {n c : Nat} {zs : List Int} (w : World) (hw : (Lit.int .u64 from_).wf = true) (hs : Sb w A n zs) (h8 : U8s zs) (_ : n ≤ 140737488351232) (hc : n ≤ c ∧ c ≤ maxLen) :
    Calls Try.prog 5 #[.int .u64 from_, .slice A n c] w fun e w' => e = .returned (.bool true) ∧ Below w.heap.size w w' := by
  obtain ⟨hc1, hc2⟩ := hc
  obtain ⟨hb0, hb1⟩ := bounds_u64 hw
  have H := Lib.hid (show Sb w A n zs ∧ U8s zs from ⟨hs, h8⟩)
  unfold maxLen at hc2
  have hnm : n ≤ 9223372036854775807 := by omega
  clear hs h8 hw hc1 hc2
  go_enter Try.func5, Try.ntmps5
  go_wp2_with fail
  refine (gNew_any _).mono ?_
  rintro e w1 ⟨rfl, hg, hb⟩
  obtain ⟨g, hge⟩ : ∃ g, g = w.heap.size := ⟨_, rfl⟩
  rw [← hge] at hg ⊢
  have X := Lib.hid (And.intro hg (show Below g w w1 by rw [hge]; exact hb))
  have HG := Lib.hid hge
  clear hg hb hge
  go_wp2_with fail
  refine (guardFixed_any _).mono ?_
  rintro e w2 ⟨rfl, hb⟩
  have X2 := Lib.hid (And.intro (X.out.1.below hb) (X.out.2.trans (hb.mono (by have := X.out.1.lt; omega))))
  clear hb X
  obtain ⟨a, hae⟩ : ∃ a, from_ % 2305843009213693952 = a := ⟨_, rfl⟩
  have htm : from_.tmod 2305843009213693952 = a := by rw [Int.tmod_eq_emod_of_nonneg hb0]; exact hae
  have ha0 : 0 ≤ a := by omega
  have ha1 : a < 2305843009213693952 := by omega
  go_wp2_with fail
  obtain ⟨b, hbe⟩ : ∃ b, b = w2.heap.size := ⟨_, rfl⟩
  rw [← hbe]
  have HB := Lib.hid hbe
  clear hbe
  go_loopw [22] (fun i wr => ∃ (k : Nat) (L : List Int), k ≤ n ∧ i = .int .i64 k ∧ Near w wr g b a L) (fun i _ => n - (intOf i).toNat)
  case atStart => exact ⟨0, [], Nat.zero_le _, rfl, X2.out.1.alloc _, ⟨Array.replicate 64 (.bool false), by rw [HB.out]; exact heap_alloc_new _ _, by simp, fun k hk => by simp [hk]⟩, (fun x hx => by simp at hx), X2.out.2.alloc (Nat.le_of_lt X2.out.1.lt) _, by rw [HB.out]; exact X2.out.1.lt⟩
  case round =>
    obtain ⟨k, L, hk, rfl, hX⟩ := hrel
    have Y := Lib.hid hX
    clear hX X2 hae htm
    by_cases hlt : k < n
    · have hkl : (k : Int) < (n : Int) := by omega
      obtain ⟨ad, rfl, hblt, hcz⟩ := H.out.1.at_ (by omega)
      obtain ⟨z, hz⟩ : ∃ z, z = zs.getD k 0 := ⟨_, rfl⟩
      have hzm := H.out.2.getD k
      rw [← hz] at hzm
      obtain ⟨hz0, hz1⟩ := hzm
      have hcell : wr.cell? (ad.add k) = some (.int .u8 z) := by rw [hz]; exact (Y.out.bel.cell (by rw [addBlock, HG.out]; exact hblt)).trans (hcz k hlt)
      clear hz hblt hcz
      by_cases hbig : (2000 : Int) < (k : Int)
      · go_wp2_with fail
        go_ret
        exact ⟨rfl, by rw [← HG.out]; exact Y.out.bel⟩
      · obtain ⟨j, hj⟩ : ∃ j : Nat, (j : Int) = z % 64 := ⟨(z % 64).toNat, by omega⟩
        have htm : z.tmod 64 = (j : Int) := by rw [Int.tmod_eq_emod_of_nonneg hz0, hj]
        have hj64 : j < 64 := by omega
        have hjl : (j : Int) < 64 := by omega
        have hcb := Y.out.cell j hj64
        have hf := Y.out.free j
        have HGD := Lib.hid (show Gd 49 (wr.setCell ⟨b, j, none⟩ (.bool true)) g L from Y.out.gd.setCell (by have := Y.out.lt; show b ≠ g; omega) _)
        have hchk := chk_near (n := a + (j : Int)) ha0 ha1 Y.out.all (by omega) (by omega)
        clear hj hz0 hz1
        by_cases hin : a + (j : Int) ∈ L
        · skip
          have HE := Lib.hid (hchk.trans (if_pos hin))
          have HT := Lib.hid (show tk (a + (j : Int)) L = L from tk_no (by rw [HE.out]; omega))
          rw [decide_eq_true hin] at hcb
          clear hchk
          go_wp2_with fail
          refine (gCheck_at HGD.out (a + (j : Int)) 10 (by omega) (by omega) HE.out).mono ?_
          rintro e w' ⟨rfl, rfl⟩
          go_wp2_with fail
          refine (gTake_at HGD.out (a + (j : Int)) 10 _ (by omega) (by omega) HE.out HT.out).mono ?_
          rintro e w5 ⟨rfl, hg, hr⟩
          have Y2 := Lib.hid (show Near w w5 g b a L from Y.out.same hj64 hin rfl hg hr)
          clear hg hr Y HGD hcb hf
          go_wp2_with fail
          go_roundw
          case rel => exact ⟨k + 1, _, by omega, by go_num, Y2.out⟩
          case measure => simp [intOf]; omega
        · skip
          have HE := Lib.hid (hchk.trans (if_neg hin))
          have HT := Lib.hid (show tk (a + (j : Int)) L = (L ++ [a + (j : Int)]) from tk_ok HE.out)
          rw [decide_eq_false hin] at hcb
          clear hchk
          go_wp2_with fail
          refine (gCheck_at HGD.out (a + (j : Int)) 0 (by omega) (by omega) HE.out).mono ?_
          rintro e w' ⟨rfl, rfl⟩
          go_wp2_with fail
          refine (gTake_at HGD.out (a + (j : Int)) 0 _ (by omega) (by omega) HE.out HT.out).mono ?_
          rintro e w5 ⟨rfl, hg, hr⟩
          have Y2 := Lib.hid (show Near w w5 g b a (L ++ [a + (j : Int)]) from Y.out.more hj64 rfl hg hr)
          clear hg hr Y HGD hcb hf
          go_wp2_with fail
          go_roundw
          case rel => exact ⟨k + 1, _, by omega, by go_num, Y2.out⟩
          case measure => simp [intOf]; omega
    · go_wp2_with fail
      go_ret
      exact ⟨rfl, by rw [← HG.out]; exact Y.out.bel⟩

set_option maxRecDepth 100000 in
theorem lifted (os : Os) (started : os.Started) (H : Type) (enc : TypeId × Value → H) :
    ReturnsInHanded {} Try.checked os 5 .any (Rows.guardNearSpec.pre6 enc Try.prog Try.f5 Rows.guardNearRow.domain false) (Rows.guardNearSpec.post enc Try.prog Try.f5 false true false false) := by
  refine returnsInHanded_of_change_sized (C := Try.checked) own started (by kernel_rfl) Try.func5
    (ChangeSpec.witness6 (enc := enc) (C := Try.checked) false ⟨#[], #[.int .u64 0, .slice none 0 0], []⟩ 8 (by kernel_rfl) (by kernel_rfl) (by kernel_rfl) (by kernel_rfl)) ?_
  intro W base args ds gs before hval0 hW _ hsz0 _
  have hsz : (DataW.weightsEach Try.prog (Try.f5.params.toList ++ Rows.guardNearSpec.plain.varTypes Try.prog) (ds ++ gs)).all (· ≤ reachBytes) = true := hsz0
  clear hsz0
  have hval : ∀ (j : Nat) t v, Try.f5.params[j]? = some t → args[j]? = some v → Value.okWide Try.prog W .any base t v := hval0
  have hW' := hW
  obtain ⟨p, q, hA0, hV, rfl, _, _⟩ := hW
  have hA : DataW.TrodAll enc Try.prog W 0 (fun _ => true) true Try.f5.params.toList args.toList ds p := hA0
  rw [Try.params5] at hA hval hsz
  obtain ⟨v0, vs0, d0, ds0, p0, q0, hargs, rfl, rfl, h0, r0⟩ := trodAll_cons hA
  obtain ⟨v1, vs1, d1, ds1, p1, q1, rfl, rfl, rfl, h1, r1⟩ := trodAll_cons r0
  obtain ⟨rfl, rfl, rfl⟩ := trodAll_nil r1
  obtain rfl : args = #[v0, v1] := by cases args; simp_all
  obtain ⟨rfl, rfl⟩ := trodVars_none hV
  obtain ⟨a0, rfl, rfl, rfl, w0⟩ := open_int Try.underlying29 (hval 0 29 v0 rfl rfl) h0
  have lt1 : ∀ x ∈ p1, x.block < W.heap.size := by obtain ⟨m, hm⟩ := h1; exact DataW.trod_lt m _ _ _ hm
  obtain ⟨A1, n1, c1, z1, rfl, s1, u1, l1, g1⟩ := open_bytes_c (hval 1 40 v1 rfl rfl) h1
  have m1 := g1 _ _ 1 hsz rfl rfl
  clear hA0 hval0
  refine (walk W w0 s1 u1 m1 l1).mono fun e W' ⟨he, bel⟩ => ?_
  subst he
  exact ⟨_, rfl, _, _, _, [], _, [], hW', trodAll_mk1 (shut_bool Try.underlying4 _), (trodAll_cons_mk (shut_int Try.underlying29 w0) (trodAll_cons_mk (Below.trod laidOut (by kernel_rfl) (of_decide_eq_true (by kernel_rfl)) h1 bel lt1) trodAll_mk0)), rfl, bel.frame _, fun h => by cases h⟩

theorem over : Rows.guardNearRow.holds Try.pinned (OpenSpec.ofChange Rows.guardNearSpec) :=
  OpenClaim.holds_of_wide 5 Try.f5 rfl rfl rfl rfl rfl rfl rfl ⟨rfl, rfl, rfl, rfl, rfl⟩ rfl rfl rfl rfl rfl (by kernel_rfl) Try.func5 (by kernel_rfl)
    (of_decide_eq_true (by kernel_rfl)) (by unfold Func.isWrapper; first | (rw [if_pos (by decide +kernel)]; kernel_rfl) | (rw [if_neg (by decide +kernel)]; exact ⟨rfl, rfl⟩))
    (fun os started H enc _ => lifted os started H enc)

theorem proved : Rows.GuardNearSaid := over
end Go.Proofs.Ytkmobiggcehpbaa.guardNear
