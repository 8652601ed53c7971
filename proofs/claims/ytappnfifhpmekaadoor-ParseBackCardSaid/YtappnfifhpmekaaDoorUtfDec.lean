/-
  utf8.DecodeRuneInString, and the model's own decoder: the rune at the head, or 0xFFFD of one byte.
-/
import Derived.Test.YtappnfifhpmekaaDoorUtfFull
import Derived.Lib.TrimUEq
namespace Go.Proofs.YtappnfifhpmekaaDoor
open Go.RowKit

/-- What is decoded at the head. -/
def decS (L : List Int) : Int × Nat := match headS L with
  | some (r, n) => (r, n)
  | none => (65533, 1)
theorem headN {L : List Int} (hne : L ≠ []) : headS L = if szF (L.getD 0 0) = 1 then some (L.getD 0 0, 1)
    else if szF (L.getD 0 0) = 2 ∧ 2 ≤ L.length ∧ okF (L.getD 0 0) (L.getD 1 0) = true then some (v2 (L.getD 0 0) (L.getD 1 0), 2)
    else if szF (L.getD 0 0) = 3 ∧ 3 ≤ L.length ∧ okF (L.getD 0 0) (L.getD 1 0) = true ∧ ctF (L.getD 2 0) = true then some (v3 (L.getD 0 0) (L.getD 1 0) (L.getD 2 0), 3)
    else if szF (L.getD 0 0) = 4 ∧ 4 ≤ L.length ∧ okF (L.getD 0 0) (L.getD 1 0) = true ∧ ctF (L.getD 2 0) = true ∧ ctF (L.getD 3 0) = true then some (v4 (L.getD 0 0) (L.getD 1 0) (L.getD 2 0) (L.getD 3 0), 4)
    else none := by
  rcases L with _ | ⟨a, _ | ⟨b, _ | ⟨c, _ | ⟨d, t⟩⟩⟩⟩
  · exact absurd rfl hne
  all_goals simp [headS]

set_option maxHeartbeats 1600000 in
theorem dec_nat (n x0 x1 x2 x3 : Nat) (h0 : x0 < 256) (h1 : x1 < 256) (h2 : x2 < 256) (h3 : x3 < 256) (hn : 1 ≤ n) {L : List Int} (hl : L.length = n) (e0 : L.getD 0 0 = x0) (e1 : L.getD 1 0 = x1) (e2 : L.getD 2 0 = x2) (e3 : L.getD 3 0 = x3) :
    ((Lib.decodeN n x0 x1 x2 x3).1 : Int) = (decS L).1 ∧ (Lib.decodeN n x0 x1 x2 x3).2 = (decS L).2 := by
  have hne : L ≠ [] := fun e => by subst e; simp at hl; omega
  unfold decS
  rw [headN hne, e0, e1, e2, e3, hl]
  rcases first_sz x0 h0 with ⟨hX, hsz⟩ | ⟨hX, hsz⟩ | ⟨X, hX, hX2, hX240, hm, hs2, hs4, hlo, hhi, h5⟩
  · rw [Lib.ascii_eq _ _ _ _ _ hX, if_pos hsz]
    exact ⟨rfl, rfl⟩
  · rw [Lib.bad_eq _ _ _ _ _ h0 hX, hsz]
    simp
  · have hs := Lib.slow_eq n x0 x1 x2 x3 hn h1 h2 h3 (by rw [hX]; exact hX240)
    rw [hX, hm] at hs
    rw [← hs]
    have hok : okF x0 x1 = decide (loF x0 ≤ x1 ∧ x1 ≤ hiF x0) := rfl
    rw [hok, ← hlo, ← hhi]
    clear hs hlo hhi hm hok
    generalize Lib.accLo (X / 16) = lo
    generalize Lib.accHi (X / 16) = hi
    unfold Lib.slowN ctF v2 v3 v4
    have hs : szF x0 = 2 ∨ szF x0 = 3 ∨ szF x0 = 4 := by omega
    rcases hs with hs | hs | hs <;> rw [hs] <;> simp only [Nat.reduceEqDiff, if_false, false_and, true_and, decide_eq_true_eq, Nat.reduceLeDiff, if_true, Nat.le_refl]
    · split
      · rw [if_neg (by omega)]; exact ⟨rfl, rfl⟩
      · split
        · rw [if_neg (by omega)]; exact ⟨rfl, rfl⟩
        · rw [if_pos (by omega)]; simp
    · split
      · rw [if_neg (by omega)]; exact ⟨rfl, rfl⟩
      · split
        · rw [if_neg (by omega)]; exact ⟨rfl, rfl⟩
        · split
          · rw [if_neg (by omega)]; exact ⟨rfl, rfl⟩
          · rw [if_pos (by omega)]; simp
    · split
      · rw [if_neg (by omega)]; exact ⟨rfl, rfl⟩
      · split
        · rw [if_neg (by omega)]; exact ⟨rfl, rfl⟩
        · split
          · rw [if_neg (by omega)]; exact ⟨rfl, rfl⟩
          · split
            · rw [if_neg (by omega)]; exact ⟨rfl, rfl⟩
            · rw [if_pos (by omega)]; simp
theorem sL_getD (s : ByteArray) (k : Nat) : ((s.data.toList.getD k 0).toNat : Int) = (sL s).getD k 0 := by
  unfold sL
  rw [List.getD, List.getD, List.getElem?_map]
  cases s.data.toList[k]? <;> rfl
theorem dec_at (s : ByteArray) (pos : Nat) (h : pos < s.size) : ((Utf8.decode s pos).1 : Int) = (decS ((sL s).drop pos)).1 ∧ (Utf8.decode s pos).2 = (decS ((sL s).drop pos)).2 := by
  rw [Lib.decode_N]
  have hg : ∀ k, ((sL s).drop pos).getD k 0 = (sL s).getD (pos + k) 0 := fun k => by simp [List.getD]
  refine dec_nat _ _ _ _ _ (UInt8.toNat_lt _) (UInt8.toNat_lt _) (UInt8.toNat_lt _) (UInt8.toNat_lt _) ?_ ?_ ?_ ?_ ?_ ?_
  · have : s.data.toList.length = s.size := rfl
    omega
  · rw [List.length_drop, sL_len]; rfl
  · rw [hg, sL_getD]; rfl
  · rw [hg, sL_getD]
  · rw [hg, sL_getD]
  · rw [hg, sL_getD]
theorem dec_any {w : World} (s : ByteArray) (hT : Tabs w) (h0 : 0 < s.size) :
    Calls Tryd.prog 54 #[.string s] w fun e w' => e = .returned (.tuple #[.int .i32 (decS (sL s)).1, .int .i64 (decS (sL s)).2]) ∧ Below w.heap.size w w' := by
  have h := Tryd.utf8_DecodeRuneInString s w hT.u8
  have e : Lib.decodeGo s = Utf8.decode s 0 := by simp only [Lib.decodeGo]; rw [if_neg (by omega)]
  obtain ⟨e1, e2⟩ := dec_at s 0 h0
  rw [e, e1, e2, List.drop_zero] at h
  exact h
theorem decS_len {L : List Int} (hne : L ≠ []) : 1 ≤ (decS L).2 ∧ (decS L).2 ≤ L.length := by
  unfold decS
  split
  · rename_i h; have := head_len h; omega
  · have : L.length ≠ 0 := fun h => hne (List.eq_nil_of_length_eq_zero h)
    simp; omega
end Go.Proofs.YtappnfifhpmekaaDoor
