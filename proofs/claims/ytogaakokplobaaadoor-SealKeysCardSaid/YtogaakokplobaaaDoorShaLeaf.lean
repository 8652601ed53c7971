/-
  Contracts of sha's small functions, and of the reference's: a word turned right, the first words.
-/
import Derived.Test.YtogaakokplobaaaDoorProg
import Derived.Test.YtogaakokplobaaaDoorShaMem
namespace Go.Proofs.YtogaakokplobaaaDoor
open Go.RowKit

theorem retS {k : IntKind} {a b : Int} (h : a = b) : Ending.returned (.int k a) = .returned (.int k b) := by rw [h]
theorem low31 : ∀ n : Fin 31, bits .and .u64 (IntKind.u64.wrap (-((n.val + 1 : Nat) : Int))) 31 = 32 - ((n.val + 1 : Nat) : Int) := by decide +kernel
theorem low31k (k : Int) (hk : -32 < k) (hk2 : k < 0) : bits .and .u64 (IntKind.u64.wrap k) 31 = 32 + k := by
  have h := low31 ⟨(-k).toNat - 1, by omega⟩
  have e : ((((-k).toNat - 1 + 1 : Nat)) : Int) = -k := by omega
  simp only [e] at h
  rw [Int.neg_neg] at h
  rw [h]; omega

theorem rot_eq (x n : Int) (h : W1 x) (hn : 0 < n) (hn2 : n < 32) : bits .or .u32 (x * 2 ^ (32 + -n).toNat % 4294967296) (x / 2 ^ (32 - (32 + -n)).toNat) = rotL x n := by
  have e1 : (32 + -n).toNat = (32 - n).toNat := by omega
  have e2 : (32 - (32 + -n)).toNat = n.toNat := by omega
  rw [e1, e2]
  refine bits_or_comm (mod_w _) ?_
  unfold W1 at h ⊢
  have hp : (0 : Int) < 2 ^ n.toNat := Int.pow_pos (by decide)
  exact ⟨Int.ediv_nonneg h.1 (Int.le_of_lt hp), Int.le_trans (Int.ediv_le_self _ h.1) h.2⟩

theorem rot_any (x k : Int) (w : World) (hx : W1 x) (hk : -32 < k) (hk2 : k < 0) :
    Calls Tryd.prog 62 #[.int .u32 x, .int .i64 k] w fun e w' => e = .returned (.int .u32 (rotL x (-k))) ∧ w = w' := by
  have E := low31k k hk hk2
  have R := Lib.hid (rot_eq x (-k) hx (by omega) (by omega))
  obtain ⟨h0, h1⟩ := hx
  go_enter Tryd.func62, Tryd.ntmps62
  go_wp2
  go_ret
  have r := R.out
  rw [Int.neg_neg] at r
  exact ⟨retS r, rfl⟩

/-- x turned right. -/
theorem right_any (x n : Int) (w : World) (hx : W1 x) (hn : 0 < n) (hn2 : n < 32) :
    Calls Tryd.prog 58 #[.int .u32 x, .int .i64 n] w fun e w' => e = .returned (.int .u32 (rotL x n)) ∧ w = w' := by
  go_enter Tryd.func58, Tryd.ntmps58
  go_wp2_with fail
  refine (rot_any x (-n) _ hx (by omega) (by omega)).mono ?_
  rintro e w' ⟨rfl, rfl⟩
  rw [Int.neg_neg]
  go_wp2_with fail
  go_ret
  exact ⟨rfl, rfl⟩

theorem refTurned_any (x n : Int) (w : World) (hx : W1 x) (hn : 0 < n) (hn2 : n < 32) :
    Calls Tryd.prog 60 #[.int .u32 x, .int .u64 n] w fun e w' => e = .returned (.int .u32 (rotL x n)) ∧ w = w' := by
  obtain ⟨h0, h1⟩ := hx
  go_enter Tryd.func60, Tryd.ntmps60
  go_wp2
  go_ret
  exact ⟨rfl, rfl⟩

/-- The words ahead of all blocks. -/
def iv : List Int := [1779033703, 3144134277, 1013904242, 2773480762, 1359893119, 2600822924, 528734635, 1541459225]

theorem firstWords_any (w : World) :
    Calls Tryd.prog 50 #[] w fun e w' => e = .returned (.agg (u32A iv)) ∧ Below w.heap.size w w' := by
  go_enter Tryd.func50, Tryd.ntmps50
  go_wp2
  exact bodyPost_ret (v := .agg (u32A iv)) (by simp [results, Tryd.results50, go_sem, u32A, iv]) rfl ⟨rfl, (Below.refl _ _).alloc (Nat.le_refl _) _⟩

end Go.Proofs.YtogaakokplobaaaDoor
