/-
  Proved: GuardPlays answers true for every row of calls.
-/
import Derived.Test.YtkmobiggcehpbaaOpen
import Derived.Test.YtkmobiggcehpbaaGuardFixed
import Derived.Test.YtkmobiggcehpbaaGuardOps
import Derived.WalkKit
namespace Go.Proofs.Ytkmobiggcehpbaa.guardPlays
open Go.ChangeShapes Go.WideShapes Go.ChangeAt Go.RowKit

/-- What each round holds: the guard, which took L; the reference's list of L'; old memory. -/
structure Pl (w0 w : World) (g b : Nat) (A : Option Addr) (n c : Nat) (L L' : List Int) : Prop where
  gd : Gd 49 w g L
  blk : w.heap[b]? = some (.cells #[.slice A n c] 27 (0, 0))
  ik : Ik .u64 w A n L'
  u : U64s L'
  far : ∀ ad, A = some ad → 0 < n → b < ad.block
  bel : Below g w0 w
  lt : g < b
section
variable {w0 w w' : World} {g b : Nat} {A : Option Addr} {n c : Nat} {L L' : List Int}

theorem Pl.lt2 (h : Pl w0 w g b A n c L L') : b < w.heap.size := lt_of_block h.blk
theorem Pl.below (h : Pl w0 w g b A n c L L') (hb : Below w.heap.size w w') : Pl w0 w' g b A n c L L' :=
  ⟨h.gd.below hb, (hb.block b h.lt2).trans h.blk, h.ik.below hb, h.u, h.far, h.bel.trans (hb.mono (Nat.le_of_lt h.gd.lt)), h.lt⟩
theorem Pl.drewN (h : Pl w0 w g b A n c L L') (q : Nat) : Pl w0 (w.drewN q) g b A n c L L' := h.below (below_drewN' (Below.refl _ _) q)
theorem Pl.cell (h : Pl w0 w g b A n c L L') : w.cell? ⟨b, 0, none⟩ = some (.slice A n c) := by rw [cell_of_row _ _ 0 _ _ _ h.blk]; rfl
theorem Pl.free (h : Pl w0 w g b A n c L L') : w.frozen? ⟨b, 0, none⟩ = false := frozen_of_row _ _ 0 _ _ h.blk
theorem Pl.took (h : Pl w0 w g b A n c L L') {M : List Int} (hg : Gd 49 w' g M) (hr : w.grownBy w' (some g)) : Pl w0 w' g b A n c M L' := by
  have h1 := h.lt
  have h2 := h.gd.lt
  refine ⟨hg, (hr.block b h.lt2 (fun e => by injection e with e; omega)).trans h.blk, h.ik.grown hr (fun ad e hn e2 => ?_), h.u, h.far, h.bel.grown hr (Nat.le_of_lt h2) (fun k hk => by cases hk; exact Nat.le_refl _), h1⟩
  have := h.far ad e hn
  injection e2 with e2
  omega
/-- The reference's list is stored. -/
theorem Pl.store (h : Pl w0 w g b A n c L L') {A2 : Option Addr} {n2 : Nat} (c2 : Nat) {M : List Int} (hb : Below w.heap.size w w') (hi : Ik .u64 w' A2 n2 M) (hM : U64s M)
    (hf : ∀ ad, A2 = some ad → 0 < n2 → A = some ad ∧ 0 < n ∨ w.heap.size ≤ ad.block) : Pl w0 (w'.setCell ⟨b, 0, none⟩ (.slice A2 n2 c2)) g b A2 n2 c2 L M := by
  have h1 := h.lt
  have h2 := h.lt2
  have H := h.below hb
  have hfar : ∀ ad, A2 = some ad → 0 < n2 → b < ad.block := fun ad e hn => by
    rcases hf ad e hn with ⟨e1, h3⟩ | h3
    · exact h.far ad e1 h3
    · omega
  refine ⟨H.gd.setCell (by show b ≠ g; omega) _, heap_setCell_same _ b 0 _ _ _ H.blk, hi.keep (by simp) fun p hn hA _ => World.cell?_of_block (heap_setCell_other w' _ _ _ fun e => ?_), hM, hfar, H.bel.setCell (by show g ≤ b; omega) _, h1⟩
  cases hA2 : A2 with
  | none => rw [hA2] at hA; cases hA
  | some ad =>
    rw [hA2] at hA
    simp at hA
    have := hfar ad hA2 hn
    rw [hA, e] at this
    exact absurd this (by simp)
end

/-- The call of a round. -/
def Blk2 (w : World) (o : Nat) (b : Bool) (z : Int) : Prop := w.heap[o]? = some (.cells #[.bool b, .int .u64 z] 31 (0, 0))
theorem Blk2.below {w w' : World} {o : Nat} {b : Bool} {z : Int} (h : Blk2 w o b z) (hb : Below w.heap.size w w') : Blk2 w' o b z := (hb.block o (lt_of_block h)).trans h
theorem Blk2.c1 {w : World} {o : Nat} {b : Bool} {z : Int} (h : Blk2 w o b z) : w.cell? ⟨o, 1, none⟩ = some (.int .u64 z) := by rw [cell_of_row _ _ 1 _ _ _ h]; rfl
theorem tk_u64 {z : Int} {L : List Int} (h : U64s L) (h0 : 0 ≤ z) (h1 : z ≤ 18446744073709551615) : U64s (tk z L) := by
  unfold tk
  split
  · intro x hx
    rcases List.mem_append.1 hx with hx | hx
    · exact h x hx
    · simp at hx; omega
  · exact h
theorem tk_len (z : Int) (L : List Int) : (tk z L).length ≤ L.length + 1 := by
  unfold tk
  split
  · simp
  · omega

set_option maxRecDepth 100000 in
set_option maxHeartbeats 1600000 in
/-- The walk. -/
theorem walk {A : Option Addr} {n c : Nat} (w : World) (hs : OpsAt w A n ∧ n ≤ c ∧ c ≤ maxLen) :
    Calls Try.prog 3 #[.slice A n c] w fun e w' => e = .returned (.bool true) ∧ Below w.heap.size w w' := by
  obtain ⟨ho, hc1, hc2⟩ := hs
  have H := Lib.hid ho
  unfold maxLen at hc2
  have hnm : n ≤ 9223372036854775807 := by omega
  clear ho hc1 hc2
  go_enter Try.func3, Try.ntmps3
  go_wp2_with fail
  refine (gNew_any _).mono ?_
  rintro e w1 ⟨rfl, hg, hb⟩
  obtain ⟨g, hge⟩ : ∃ g, g = w.heap.size := ⟨_, rfl⟩
  rw [← hge] at hg ⊢
  obtain ⟨b, hbe⟩ : ∃ b, b = w1.heap.size := ⟨_, rfl⟩
  have X := Lib.hid (show Pl w (w1.alloc (.cells #[.slice none 0 0] 27)) g b none 0 0 [] [] from by
    rw [hbe]
    have hlt := hg.lt
    exact ⟨hg.alloc _, heap_alloc_new _ _, Ik.nil _ _ _, (fun x hx => by cases hx), (fun ad e => by cases e), (show Below g w w1 by rw [hge]; exact hb).alloc (by omega) _, hlt⟩)
  have HG := Lib.hid hge
  clear hg hb hge
  go_wp2_with fail
  rw [← hbe]
  obtain ⟨w1', hw1⟩ : ∃ w1', w1' = w1.alloc (.cells #[.slice none 0 0] 27) := ⟨_, rfl⟩
  rw [← hw1] at X ⊢
  clear hw1 hbe
  refine (guardFixed_any _).mono ?_
  rintro e w2 ⟨rfl, hb⟩
  have X2 := Lib.hid (X.out.below hb)
  clear hb X
  go_wp2_with fail
  go_loopw [22] (fun i wr => ∃ (k : Nat) (A' : Option Addr) (n' c' : Nat) (L : List Int), k ≤ n ∧ i = .int .i64 k ∧ k ≤ 301 ∧ L.length ≤ k ∧ Pl w wr g b A' n' c' L L) (fun i _ => n - (intOf i).toNat)
  case atStart => exact ⟨0, none, 0, 0, [], Nat.zero_le _, rfl, by omega, Nat.le_refl _, X2.out⟩
  case round =>
    obtain ⟨k, A', n', c', L, hk, rfl, hk3, hLk, hX⟩ := hrel
    have Y := Lib.hid hX
    clear hX X2
    by_cases hlt : k < n
    · have hkl : (k : Int) < (n : Int) := by omega
      obtain ⟨ad, rfl, hblt, hat⟩ := H.out (by omega)
      obtain ⟨ask, z, hz0, hz1, hcc0, hcc1⟩ := hat k hlt
      have hd0 : wr.cell? (ad.add (k * 2)) = some (.bool ask) := (Y.out.bel.cell (by rw [addBlock, HG.out]; exact hblt)).trans hcc0
      have hd1 : wr.cell? ⟨(ad.add (k * 2)).block, (ad.add (k * 2)).off + 1, none⟩ = some (.int .u64 z) := (Y.out.bel.cell (by show (ad.add (k * 2)).block < _; rw [addBlock, HG.out]; exact hblt)).trans hcc1
      clear hat hblt hcc0 hcc1
      by_cases hbig : (300 : Int) < (k : Int)
      · go_wp2_with fail
        go_ret
        exact ⟨rfl, by rw [← HG.out]; exact Y.out.bel.alloc (Nat.le_of_lt Y.out.gd.lt) _⟩
      · cases ask with
        | true =>
          have hcb := Y.out.cell
          have hblt := Y.out.lt2
          obtain ⟨o, hoe⟩ : ∃ o, o = wr.heap.size := ⟨_, rfl⟩
          have W0 := Lib.hid (show Pl w (wr.alloc (.cells #[.bool true, .int .u64 z] 31)) g b A' n' c' L L ∧ Blk2 (wr.alloc (.cells #[.bool true, .int .u64 z] 31)) o true z ∧ b < o from ⟨Y.out.below ((Below.refl _ _).alloc (Nat.le_refl _) _), by rw [hoe]; exact heap_alloc_new _ _, by rw [hoe]; exact hblt⟩)
          have hlen0 := Y.out.ik.len
          clear Y
          go_wp2_with fail
          rw [← hoe]
          obtain ⟨w3, hw3⟩ : ∃ w3, w3 = wr.alloc (.cells #[.bool true, .int .u64 z] 31) := ⟨_, rfl⟩
          rw [← hw3] at W0 ⊢
          clear hw3 hoe hd0 hd1 hcb hblt
          refine (refGCheck_any (c := c') W0.out.1.ik W0.out.1.u (by omega) z hz0 hz1).mono ?_
          rintro e w4 ⟨rfl, hb4⟩
          have Z := Lib.hid (show Pl w w4 g b A' n' c' L L ∧ Blk2 w4 o true z from ⟨W0.out.1.below hb4, W0.out.2.1.below hb4⟩)
          have hcb4 := Z.out.1.cell
          have hco4 := Z.out.2.c1
          have hck := gCheck_any Z.out.1.gd z hz0 hz1
          obtain ⟨e0, he0⟩ : ∃ e0, e0 = chk z L := ⟨_, rfl⟩
          rw [← he0] at hck ⊢
          clear hb4 W0 he0
          go_wp2_with fail
          refine hck.mono ?_
          rintro e w' ⟨rfl, rfl⟩
          clear hck
          have HLEN := Lib.hid (show L.length ≤ k + 1 from by omega)
          go_wp2_with fail
          refine (gTop_any Z.out.1.gd).mono ?_
          rintro e w' ⟨rfl, q, rfl⟩
          have hT := refTop_any (c := c') (Z.out.1.drewN q).ik Z.out.1.u (by have := Z.out.1.ik.len; have := HLEN.out; omega)
          have HQ := Lib.hid (Z.out.1.drewN q)
          obtain ⟨tt, htt⟩ : ∃ t, t = topL L := ⟨_, rfl⟩
          obtain ⟨bb, hbb⟩ : ∃ b : Bool, b = !List.isEmpty L := ⟨_, rfl⟩
          rw [← htt, ← hbb] at hT ⊢
          have hcb5 := HQ.out.cell
          clear htt hbb Z
          go_wp2_with fail
          refine hT.mono ?_
          rintro e w7 ⟨rfl, hb7⟩
          have Z7 := Lib.hid (HQ.out.below hb7)
          clear hT hb7 HQ hcb5
          go_wp2_with fail
          go_roundw
          case rel => exact ⟨k + 1, _, _, _, _, by omega, by go_num, by omega, HLEN.out, Z7.out⟩
          case measure => simp [intOf]; omega
        | false =>
          have hcb := Y.out.cell
          have hblt := Y.out.lt2
          obtain ⟨o, hoe⟩ : ∃ o, o = wr.heap.size := ⟨_, rfl⟩
          have W0 := Lib.hid (show Pl w (wr.alloc (.cells #[.bool false, .int .u64 z] 31)) g b A' n' c' L L ∧ Blk2 (wr.alloc (.cells #[.bool false, .int .u64 z] 31)) o false z ∧ b < o from ⟨Y.out.below ((Below.refl _ _).alloc (Nat.le_refl _) _), by rw [hoe]; exact heap_alloc_new _ _, by rw [hoe]; exact hblt⟩)
          have hlen0 := Y.out.ik.len
          clear Y
          go_wp2_with fail
          rw [← hoe]
          obtain ⟨w3, hw3⟩ : ∃ w3, w3 = wr.alloc (.cells #[.bool false, .int .u64 z] 31) := ⟨_, rfl⟩
          rw [← hw3] at W0 ⊢
          clear hw3 hoe hd0 hd1 hcb hblt
          refine (refGTake_any (c := c') W0.out.1.ik W0.out.1.u (by omega) z hz0 hz1).mono ?_
          rintro e w4 ⟨A2, n2, c2, rfl, hik, hb4, hfar⟩
          have Z := Lib.hid (show Pl w w4 g b A' n' c' L L ∧ Blk2 w4 o false z from ⟨W0.out.1.below hb4, W0.out.2.1.below hb4⟩)
          have hcb4 := Z.out.1.cell
          have hfb4 := Z.out.1.free
          have hco4 := Z.out.2.c1
          have ZS := Lib.hid (show Pl w (w4.setCell ⟨b, 0, none⟩ (.slice A2 n2 c2)) g b A2 n2 c2 L (tk z L) from W0.out.1.store c2 hb4 hik (tk_u64 W0.out.1.u hz0 hz1) hfar)
          have hck := gTake_any ZS.out.gd z hz0 hz1
          have HLEN := Lib.hid (show (tk z L).length ≤ k + 1 from Nat.le_trans (tk_len z L) (by omega))
          unfold TakePost at hck
          obtain ⟨e0, he0⟩ : ∃ e0, e0 = chk z L := ⟨_, rfl⟩
          rw [← he0] at hck ⊢
          clear hb4 W0 he0 Z hik hfar
          go_wp2_with fail
          refine hck.mono ?_
          rintro e w5 ⟨rfl, hg5, hr5⟩
          have Z := Lib.hid (And.intro (ZS.out.took hg5 hr5) True.intro)
          have hcb5 := Z.out.1.cell
          clear hck hg5 hr5 ZS hcb4 hfb4 hco4
          go_wp2_with fail
          refine (gTop_any Z.out.1.gd).mono ?_
          rintro e w' ⟨rfl, q, rfl⟩
          have hT := refTop_any (c := c2) (Z.out.1.drewN q).ik Z.out.1.u (by have := Z.out.1.ik.len; have := HLEN.out; omega)
          have HQ := Lib.hid (Z.out.1.drewN q)
          obtain ⟨tt, htt⟩ : ∃ t, t = topL (tk z L) := ⟨_, rfl⟩
          obtain ⟨bb, hbb⟩ : ∃ b : Bool, b = !List.isEmpty (tk z L) := ⟨_, rfl⟩
          rw [← htt, ← hbb] at hT ⊢
          have hcb5 := HQ.out.cell
          clear htt hbb Z
          go_wp2_with fail
          refine hT.mono ?_
          rintro e w7 ⟨rfl, hb7⟩
          have Z7 := Lib.hid (HQ.out.below hb7)
          clear hT hb7 HQ hcb5
          go_wp2_with fail
          go_roundw
          case rel => exact ⟨k + 1, _, _, _, _, by omega, by go_num, by omega, HLEN.out, Z7.out⟩
          case measure => simp [intOf]; omega
    · go_wp2_with fail
      go_ret
      exact ⟨rfl, by rw [← HG.out]; exact Y.out.bel⟩

set_option maxRecDepth 100000 in
theorem lifted (os : Os) (started : os.Started) (H : Type) (enc : TypeId × Value → H) :
    ReturnsInHanded {} Try.checked os 3 .any (Rows.guardPlaysSpec.pre6 enc Try.prog Try.f3 Rows.guardPlaysRow.domain false) (Rows.guardPlaysSpec.post enc Try.prog Try.f3 false true false false) := by
  refine returnsInHanded_of_change_sized (C := Try.checked) own started (by kernel_rfl) Try.func3
    (ChangeSpec.witness6 (enc := enc) (C := Try.checked) false ⟨#[], #[.slice none 0 0], []⟩ 8 (by kernel_rfl) (by kernel_rfl) (by kernel_rfl) (by kernel_rfl)) ?_
  intro W base args ds gs before hval0 hW _ hsz0 _
  have hsz : (DataW.weightsEach Try.prog (Try.f3.params.toList ++ Rows.guardPlaysSpec.plain.varTypes Try.prog) (ds ++ gs)).all (· ≤ reachBytes) = true := hsz0
  clear hsz0
  have hval : ∀ (j : Nat) t v, Try.f3.params[j]? = some t → args[j]? = some v → Value.okWide Try.prog W .any base t v := hval0
  have hW' := hW
  obtain ⟨p, q, hA0, hV, rfl, _, _⟩ := hW
  have hA : DataW.TrodAll enc Try.prog W 0 (fun _ => true) true Try.f3.params.toList args.toList ds p := hA0
  rw [Try.params3] at hA hval hsz
  obtain ⟨v0, vs0, d0, ds0, p0, q0, hargs, rfl, rfl, h0, r0⟩ := trodAll_cons hA
  obtain ⟨rfl, rfl, rfl⟩ := trodAll_nil r0
  obtain rfl : args = #[v0] := by cases args; simp_all
  obtain ⟨rfl, rfl⟩ := trodVars_none hV
  have lt0 : ∀ x ∈ p0, x.block < W.heap.size := by obtain ⟨m, hm⟩ := h0; exact DataW.trod_lt m _ _ _ hm
  obtain ⟨A0, n0, c0, rfl, s0⟩ := open_ops (hval 0 22 v0 rfl rfl) h0
  clear hA0 hval0
  refine (walk W s0).mono fun e W' ⟨he, bel⟩ => ?_
  subst he
  exact ⟨_, rfl, _, _, _, [], _, [], hW', trodAll_mk1 (shut_bool Try.underlying4 _), (trodAll_cons_mk (Below.trod laidOut (by kernel_rfl) (of_decide_eq_true (by kernel_rfl)) h0 bel lt0) trodAll_mk0), rfl, bel.frame _, fun h => by cases h⟩

theorem over : Rows.guardPlaysRow.holds Try.pinned (OpenSpec.ofChange Rows.guardPlaysSpec) :=
  OpenClaim.holds_of_wide 3 Try.f3 rfl rfl rfl rfl rfl rfl rfl ⟨rfl, rfl, rfl, rfl, rfl⟩ rfl rfl rfl rfl rfl (by kernel_rfl) Try.func3 (by kernel_rfl)
    (of_decide_eq_true (by kernel_rfl)) (by unfold Func.isWrapper; first | (rw [if_pos (by decide +kernel)]; kernel_rfl) | (rw [if_neg (by decide +kernel)]; exact ⟨rfl, rfl⟩))
    (fun os started H enc _ => lifted os started H enc)

theorem proved : Rows.GuardPlaysSaid := over
end Go.Proofs.Ytkmobiggcehpbaa.guardPlays
