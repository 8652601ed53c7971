/-
  What Acts answers; the bytes that are laid are bytes; the chapter's examples, over lists.
-/
import Derived.Test.YtappnfifhpmekaaDoorParseMem
import Derived.Test.YtappnfifhpmekaaDoorParseBackS
import Derived.Test.YtappnfifhpmekaaDoorParseLayBase
namespace Go.Proofs.YtappnfifhpmekaaDoor
open Go.RowKit

/-- What a call that answers acts answers. -/
def AcEnd (L : List AcS) (w : World) (e : Ending) (w' : World) : Prop := ∃ A c R, e = .returned (.slice A R.length c) ∧ Ats w' A R.length R ∧ acts R = L ∧ R.length ≤ c ∧ c ≤ maxLen ∧ Below w.heap.size w w'
theorem dec_bytes {n : Int} (h0 : 0 ≤ n) (h1 : n ≤ 9999) : U8s (decS4 n) := by
  intro z hz
  unfold decS4 at hz
  split at hz
  · simp at hz; omega
  · split at hz
    · simp at hz; omega
    · split at hz <;> simp at hz <;> omega
theorem nums_bytes : ∀ {l : List Int}, psOk l → U8s (numsS l)
  | [], _ => fun z hz => by cases hz
  | [n], h => by
    have := h n (by simp)
    exact dec_bytes this.1 this.2
  | n :: m :: l, h => by
    have h1 := h n (by simp)
    have h2 := nums_bytes (l := m :: l) (fun z hz => h z (by simp at hz ⊢; exact Or.inr hz))
    intro z hz
    show 0 ≤ z ∧ z ≤ 255
    rcases List.mem_append.1 (show z ∈ decS4 n ++ 59 :: numsS (m :: l) from hz) with hz | hz
    · exact dec_bytes h1.1 h1.2 z hz
    · rcases List.mem_cons.1 hz with rfl | hz
      · omega
      · exact h2 z hz
theorem lay_bytes {a : AcS} (h : layOk a = true) (hw : AcW a) : U8s (layS a) := by
  obtain ⟨k, r, m, f, ps, tx⟩ := a
  obtain ⟨m0, m1, f0, f1, ht, _⟩ := hw
  dsimp only at m0 m1 f0 f1 ht
  unfold layOk at h
  unfold layS
  dsimp only at h ⊢
  by_cases h1 : k = 1
  · rw [if_pos h1]
    exact fun z hz => encS_byte r z hz
  rw [if_neg h1] at h ⊢
  by_cases h2 : k = 2
  · rw [if_pos h2]
    intro z hz
    rw [List.mem_singleton.1 hz]
    exact ⟨f0, f1⟩
  rw [if_neg h2] at h ⊢
  by_cases h3 : k = 3
  · rw [if_pos h3]
    intro z hz
    split at hz <;> simp at hz <;> rcases hz with rfl | hz <;> (try rcases hz with rfl | rfl) <;> omega
  rw [if_neg h3] at h ⊢
  by_cases h4 : k = 4
  · rw [if_pos h4] at h ⊢
    simp only [Bool.and_eq_true, decide_eq_true_eq, List.all_eq_true] at h
    have hn := nums_bytes (l := ps) h.2
    have hmm : U8s [m] := fun z hz => by rw [List.mem_singleton.1 hz]; exact ⟨m0, m1⟩
    intro z hz
    simp only [List.mem_cons, List.mem_append] at hz
    rcases hz with rfl | rfl | ((hz | hz) | hz) | hz
    · omega
    · omega
    · split at hz
      · exact hmm z hz
      · cases hz
    · exact hn z hz
    · split at hz
      · exact hmm z hz
      · cases hz
    · rcases hz with rfl | hz
      · exact ⟨f0, f1⟩
      · cases hz
  rw [if_neg h4] at h ⊢
  intro z hz
  simp only [List.mem_cons, List.mem_append] at hz
  rcases hz with rfl | rfl | hz | hz
  · omega
  · omega
  · exact ht z hz
  · rcases hz with rfl | hz
    · omega
    · cases hz
theorem nums_len : ∀ {l : List Int}, (numsS l).length ≤ 5 * l.length
  | [] => by simp [numsS]
  | [n] => by have := decS4_len n; show (decS4 n).length ≤ 5; omega
  | n :: m :: l => by
    have := decS4_len n
    have h2 := nums_len (l := m :: l)
    show (decS4 n ++ 59 :: numsS (m :: l)).length ≤ _
    rw [List.length_append, List.length_cons, List.length_cons]
    omega
theorem lay_len {a : AcS} (h : layOk a = true) : (layS a).length ≤ 300 := by
  obtain ⟨k, r, m, f, ps, tx⟩ := a
  unfold layOk at h
  unfold layS
  dsimp only at h ⊢
  by_cases h1 : k = 1
  · rw [if_pos h1]; have := encS_len r; omega
  rw [if_neg h1] at h ⊢
  by_cases h2 : k = 2
  · rw [if_pos h2]; simp
  rw [if_neg h2] at h ⊢
  by_cases h3 : k = 3
  · rw [if_pos h3]; split <;> simp
  rw [if_neg h3] at h ⊢
  by_cases h4 : k = 4
  · rw [if_pos h4] at h ⊢
    simp only [Bool.and_eq_true, decide_eq_true_eq] at h
    have h5 := nums_len (l := ps)
    have h6 := h.1.1.2.2.1
    simp only [List.length_cons, List.length_append]
    have e1 : (if 60 ≤ m ∧ m ≤ 63 then [m] else []).length ≤ 1 := by split <;> simp
    have e2 : (if m ≠ 0 ∧ ¬(60 ≤ m ∧ m ≤ 63) then [m] else []).length ≤ 1 := by split <;> simp
    have e3 : ([f] : List Int).length = 1 := rfl
    simp only [List.length_nil] at *
    omega
  rw [if_neg h4] at h ⊢
  by_cases h5 : k = 5
  · rw [if_pos h5] at h
    simp only [Bool.and_eq_true, decide_eq_true_eq] at h
    simp
    omega
  · rw [if_neg h5] at h; cases h
def fixB : List Int := [27, 91, 63, 50, 53, 104, 27, 91, 59, 53, 72, 27, 93, 48, 59, 97, 7, 27, 91, 49, 24, 65, 27, 91, 49, 13, 109]
def fixA : List AcS := [acCsi 63 104 [25], acCsi 0 72 [0, 5], acOsc [48, 59, 97], acPrint 65, acC0 13, acCsi 0 109 [1]]
theorem fix_acts : actsP fixB = fixA := by decide +kernel
end Go.Proofs.YtappnfifhpmekaaDoor
