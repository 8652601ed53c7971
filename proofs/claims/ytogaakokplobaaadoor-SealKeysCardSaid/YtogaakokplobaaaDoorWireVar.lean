/-
  Contracts of wire.Var and of the reference's Var.
-/
import Derived.Test.YtogaakokplobaaaDoorWireLeaf
import Derived.Test.YtogaakokplobaaaDoorWireSpec
namespace Go.Proofs.YtogaakokplobaaaDoor
open Go.RowKit

theorem var_any (n : Int) (w : World) (hn : 0 ≤ n) (hn' : n ≤ 18446744073709551615) :
    Calls Tryd.prog 47 #[.int .u64 n] w fun e w' => ∃ v, e = .returned v ∧ Made 5 (varL n) w v w' := by
  obtain ⟨i0, hi, hz0, hz1, hz2⟩ := info_parts info8
  have hst := Var.start hn hn'
  go_enter Tryd.func47, Tryd.ntmps47
  go_wp2_with (first
    | (at_make; refine wpList_make_own _ rfl _ _ 22 rfl w.heap.size 5 i0 (.int .u8 0) 1 Tryd.underlying22 hi hz0 hz1 .i64 .i64 10 10 rfl rfl rfl (by rw [hz2]; omega) (by unfold maxLen; omega) (Nat.le_refl _) ?_; intro w1 hown hg))
  have hbel : Below w.heap.size w w1 := Below.grown (Below.refl _ _) hg (Nat.le_refl _) (by intro k hk; cases hk)
  clear hg
  go_loopw [3, 0] (fun v y wr => ∃ (f : Nat) (acc : List Int) (x : Int) (A : Option Addr) (c : Nat), y = .int .u64 x ∧ v = .slice A acc.length c ∧ Var n f acc x ∧ x ≤ 18446744073709551615 ∧
      wr.ownsRow w.heap.size 5 1 (.slice A acc.length c) acc.length (acc.map (Value.int .u8)) ∧ Below w.heap.size w wr) (fun _ y _ => (intOf y).toNat)
  case atStart => exact ⟨9, [], n, _, _, rfl, rfl, hst, hn', by simpa using hown, hbel⟩
  case round =>
    clear hown hbel hst
    obtain ⟨f, acc, x, A, c, rfl, rfl, hv, hx, hown, hbel⟩ := hrel
    have hlo := hv.lo
    have hm := (hv.max hx).1
    by_cases hlt : 128 ≤ x
    · obtain ⟨g, _, hv'⟩ := hv.next hlt
      have HV := Lib.hid hv'
      obtain ⟨m, hm'⟩ : ∃ m, m = acc.length := ⟨_, rfl⟩
      rw [← hm'] at hown hm ⊢
      have HM := Lib.hid hm'
      clear hv hv' hm'
      go_wp2_with (at_builtin; refine wpList_app _ rfl _ _ 22 rfl w.heap.size 5 Tryd.underlying22 info8 (.slice A m c) m _ rfl (hown.alloc _) (some ⟨wr.heap.size, 0, none⟩) 1 1 [x % 128 + 128] rfl (Sb.one _ _ _) (by omega) (by have := hbel.size; simp; omega) ?_; intro A' c' w2 hown2 hg2)
      have H := Lib.hid (And.intro hown2 (below_app hown hbel hbel.size _ hg2))
      clear hown2 hg2 hown hbel
      go_roundw
      case rel =>
        have hm3 := HM.out
        subst hm3
        exact ⟨g, acc ++ [x % 128 + 128], x / 128, A', c', rfl, by simp, HV.out, by omega, by simpa using H.out.1, H.out.2⟩
      case measure => simp [intOf]; omega
    · have HV := Lib.hid (hv.done (by omega))
      obtain ⟨m, hm'⟩ : ∃ m, m = acc.length := ⟨_, rfl⟩
      rw [← hm'] at hown hm ⊢
      clear hv hm'
      go_wp2_with (at_builtin; refine wpList_app _ rfl _ _ 22 rfl w.heap.size 5 Tryd.underlying22 info8 (.slice A m c) m _ rfl (hown.alloc _) (some ⟨wr.heap.size, 0, none⟩) 1 1 [x] rfl (Sb.one _ _ _) (by omega) (by have := hbel.size; simp; omega) ?_; intro A' c' w2 hown2 hg2)
      have H := Made.mk (zs := acc ++ [x]) (w := w) (by simpa using hown2) (below_app hown hbel hbel.size _ hg2)
      rw [HV.out] at H
      clear hown2 hg2 hown hbel
      go_ret
      exact ⟨_, rfl, H⟩

theorem refVar_any (n : Int) (w : World) (hn : 0 ≤ n) (hn' : n ≤ 18446744073709551615) :
    Calls Tryd.prog 48 #[.int .u64 n] w fun e w' => ∃ v, e = .returned v ∧ Made 5 (varL n) w v w' := by
  have hst := Var.start hn hn'
  have hown : (w.alloc (.cells #[] 5)).ownsRow w.heap.size 5 1 (.slice (some ⟨w.heap.size, 0, none⟩) 0 0) 0 ([].map (Value.int .u8)) := World.ownsRow_lit w #[] 0 (Nat.le_refl _) (by unfold maxLen; omega) rfl
  have hbel : Below w.heap.size w (w.alloc (.cells #[] 5)) := (Below.refl _ _).alloc (Nat.le_refl _) _
  go_enter Tryd.func48, Tryd.ntmps48
  go_wp2
  go_loopw [3, 0] (fun v y wr => ∃ (f : Nat) (acc : List Int) (x : Int) (A : Option Addr) (c : Nat), y = .int .u64 x ∧ v = .slice A acc.length c ∧ Var n f acc x ∧ x ≤ 18446744073709551615 ∧
      wr.ownsRow w.heap.size 5 1 (.slice A acc.length c) acc.length (acc.map (Value.int .u8)) ∧ Below w.heap.size w wr) (fun _ y _ => (intOf y).toNat)
  case atStart => exact ⟨9, [], n, _, _, rfl, rfl, hst, hn', hown, hbel⟩
  case round =>
    clear hown hbel hst
    obtain ⟨f, acc, x, A, c, rfl, rfl, hv, hx, hown, hbel⟩ := hrel
    have hlo := hv.lo
    have hm := (hv.max hx).1
    by_cases hlt : 128 ≤ x
    · obtain ⟨g, _, hv'⟩ := hv.next hlt
      have HV := Lib.hid hv'
      obtain ⟨m, hm'⟩ : ∃ m, m = acc.length := ⟨_, rfl⟩
      rw [← hm'] at hown hm ⊢
      have HM := Lib.hid hm'
      have hq : ((x / 128 : Int) == 0) = false := by simp; omega
      clear hv hv' hm'
      go_wp2_with (at_builtin; refine wpList_app _ rfl _ _ 22 rfl w.heap.size 5 Tryd.underlying22 info8 (.slice A m c) m _ rfl (hown.alloc _) (some ⟨wr.heap.size, 0, none⟩) 1 1 [x % 128 + 128] rfl (Sb.one _ _ _) (by omega) (by have := hbel.size; simp; omega) ?_; intro A' c' w2 hown2 hg2)
      have H := Lib.hid (And.intro hown2 (below_app hown hbel hbel.size _ hg2))
      clear hown2 hg2 hown hbel
      go_roundw
      case rel =>
        have hm3 := HM.out
        subst hm3
        exact ⟨g, acc ++ [x % 128 + 128], x / 128, A', c', rfl, by simp, HV.out, by omega, by simpa using H.out.1, H.out.2⟩
      case measure => simp [intOf]; omega
    · have HV := Lib.hid (hv.done (by omega))
      obtain ⟨m, hm'⟩ : ∃ m, m = acc.length := ⟨_, rfl⟩
      rw [← hm'] at hown hm ⊢
      have hq : ((x / 128 : Int) == 0) = true := by simp; omega
      clear hv hm'
      go_wp2_with (at_builtin; refine wpList_app _ rfl _ _ 22 rfl w.heap.size 5 Tryd.underlying22 info8 (.slice A m c) m _ rfl (hown.alloc _) (some ⟨wr.heap.size, 0, none⟩) 1 1 [x] rfl (Sb.one _ _ _) (by omega) (by have := hbel.size; simp; omega) ?_; intro A' c' w2 hown2 hg2)
      have H := Made.mk (zs := acc ++ [x]) (w := w) (by simpa using hown2) (below_app hown hbel hbel.size _ hg2)
      rw [HV.out] at H
      clear hown2 hg2 hown hbel
      go_ret
      exact ⟨_, rfl, H⟩

/-- What both Texts answer: the bytes, the error. -/
def textS (zs : List Int) : List Int := if zs.length ≤ 4096 then varL zs.length ++ zs else []
def textE (zs : List Int) : Int := if zs.length ≤ 4096 then 0 else 4

end Go.Proofs.YtogaakokplobaaaDoor
