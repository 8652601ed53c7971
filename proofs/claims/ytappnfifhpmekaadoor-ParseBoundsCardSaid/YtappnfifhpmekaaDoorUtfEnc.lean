/-
  A rune's bytes: whole, and just its own; what is laid for runes is told as they were; bytes are valid just if what they tell is laid as they are.
-/
import Derived.Test.YtappnfifhpmekaaDoorUtfSpec
namespace Go.Proofs.YtappnfifhpmekaaDoor

def mayS (r : Int) : Bool := decide (0 ≤ r ∧ r ≤ 55295 ∨ 57344 ≤ r ∧ r ≤ 1114111)
def fixS (r : Int) : Int := if mayS r = true then r else 65533
def encS (r : Int) : List Int :=
  if mayS r = true then
    (if r < 128 then [r] else if r < 2048 then [192 + r / 64, 128 + r % 64] else if r < 65536 then [224 + r / 4096, 128 + r / 64 % 64, 128 + r % 64]
      else [240 + r / 262144, 128 + r / 4096 % 64, 128 + r / 64 % 64, 128 + r % 64])
  else [239, 191, 189]
theorem mayS_iff {r : Int} : mayS r = true ↔ 0 ≤ r ∧ r ≤ 55295 ∨ 57344 ≤ r ∧ r ≤ 1114111 := by simp [mayS]
theorem may_fix (r : Int) : mayS (fixS r) = true := by
  unfold fixS; split
  · assumption
  · decide
theorem encS_fix (r : Int) : encS (fixS r) = encS r := by
  unfold fixS; split
  · rfl
  · rename_i h; simp only [encS, if_neg h]; decide
theorem encS_len (r : Int) : 1 ≤ (encS r).length ∧ (encS r).length ≤ 4 := by
  unfold encS; repeat' split
  all_goals simp
theorem encS_byte (r : Int) : ∀ z ∈ encS r, 0 ≤ z ∧ z ≤ 255 := by
  intro z hz
  by_cases h : mayS r = true
  · have h' := mayS_iff.1 h
    simp only [encS, if_pos h] at hz
    split at hz
    · simp at hz; omega
    · split at hz
      · simp at hz; omega
      · split at hz
        · simp at hz; omega
        · simp at hz; omega
  · simp only [encS, if_neg h] at hz
    simp at hz; omega
theorem enc1 {r : Int} (h0 : 0 ≤ r) (h : r < 128) : encS r = [r] := by
  have : mayS r = true := mayS_iff.2 (by omega)
  simp [encS, this, h]
theorem enc2 {r : Int} (h0 : 128 ≤ r) (h : r < 2048) : encS r = [192 + r / 64, 128 + r % 64] := by
  have : mayS r = true := mayS_iff.2 (by omega)
  have h1 : ¬ r < 128 := by omega
  simp [encS, this, h, h1]
theorem enc3 {r : Int} (h : 2048 ≤ r ∧ r < 55296 ∨ 57343 < r ∧ r < 65536) : encS r = [224 + r / 4096, 128 + r / 64 % 64, 128 + r % 64] := by
  have : mayS r = true := mayS_iff.2 (by omega)
  have h1 : ¬ r < 128 := by omega
  have h2 : ¬ r < 2048 := by omega
  have h3 : r < 65536 := by omega
  simp [encS, this, h1, h2, h3]
theorem enc4 {r : Int} (h : 65536 ≤ r ∧ r ≤ 1114111) : encS r = [240 + r / 262144, 128 + r / 4096 % 64, 128 + r / 64 % 64, 128 + r % 64] := by
  have : mayS r = true := mayS_iff.2 (by omega)
  have h1 : ¬ r < 128 := by omega
  have h2 : ¬ r < 2048 := by omega
  have h3 : ¬ r < 65536 := by omega
  simp [encS, this, h1, h2, h3]
theorem enc_bad {r : Int} (h : mayS r = false) : encS r = [239, 191, 189] := by simp [encS, h]
theorem may_cases {r : Int} (h : mayS r = true) : (0 ≤ r ∧ r < 128) ∨ (128 ≤ r ∧ r < 2048) ∨ (2048 ≤ r ∧ r < 55296 ∨ 57343 < r ∧ r < 65536) ∨ (65536 ≤ r ∧ r ≤ 1114111) := by
  have := mayS_iff.1 h; omega
theorem okF_2 {a x : Int} (ha : szF a = 2) : okF a x = ctF x := by
  have := szF2.1 ha
  unfold okF ctF loF hiF
  rw [if_neg (by omega), if_neg (by omega), if_neg (by omega), if_neg (by omega)]

set_option maxHeartbeats 1600000 in
/-- The bytes of a rune that may be are at the head of whatever stands behind them. -/
theorem head_enc {r : Int} (h : mayS r = true) (t : List Int) : headS (encS r ++ t) = some (r, (encS r).length) := by
  rcases may_cases h with h1 | h1 | h1 | h1
  · rw [enc1 h1.1 h1.2]
    have ha : szF r = 1 := szF1.2 h1.2
    rcases t with _ | ⟨b, _ | ⟨c, _ | ⟨d, t⟩⟩⟩ <;> simp [headS, ha]
  · rw [enc2 h1.1 h1.2]
    have ha : szF (192 + r / 64) = 2 := szF2.2 (by omega)
    have hb : okF (192 + r / 64) (128 + r % 64) = true := by rw [okF_2 ha, ctF_iff]; omega
    have hv : v2 (192 + r / 64) (128 + r % 64) = r := by unfold v2; omega
    rcases t with _ | ⟨c, _ | ⟨d, t⟩⟩ <;> simp [headS, ha, hb, hv]
  · rw [enc3 h1]
    have ha : szF (224 + r / 4096) = 3 := szF3.2 (by omega)
    have hb : okF (224 + r / 4096) (128 + r / 64 % 64) = true := by
      rw [okF_iff]; unfold loF hiF
      repeat' split
      all_goals omega
    have hc : ctF (128 + r % 64) = true := by rw [ctF_iff]; omega
    have hv : v3 (224 + r / 4096) (128 + r / 64 % 64) (128 + r % 64) = r := by unfold v3; omega
    rcases t with _ | ⟨d, t⟩ <;> simp [headS, ha, hb, hc, hv]
  · rw [enc4 h1]
    have ha : szF (240 + r / 262144) = 4 := szF4.2 (by omega)
    have hb : okF (240 + r / 262144) (128 + r / 4096 % 64) = true := by
      rw [okF_iff]; unfold loF hiF
      repeat' split
      all_goals omega
    have hc : ctF (128 + r / 64 % 64) = true := by rw [ctF_iff]; omega
    have hd : ctF (128 + r % 64) = true := by rw [ctF_iff]; omega
    have hv : v4 (240 + r / 262144) (128 + r / 4096 % 64) (128 + r / 64 % 64) (128 + r % 64) = r := by unfold v4; omega
    simp [headS, ha, hb, hc, hd, hv]
theorem head_of_whole {L : List Int} {r : Int} (h : wholeS L = some r) : headS L = some (r, L.length) := by
  rcases L with _ | ⟨a, _ | ⟨b, _ | ⟨c, _ | ⟨d, _ | ⟨e, t⟩⟩⟩⟩⟩ <;> simp only [wholeS] at h
  · cases h
  all_goals first
    | (split at h
       · rename_i hc; cases h; simp [headS, hc]
       · cases h)
    | cases h
theorem whole_enc {r : Int} (h : mayS r = true) : wholeS (encS r) = some r := by
  have h1 := head_enc h []
  rw [List.append_nil] at h1
  have := encS_len r
  have h2 := head_take (L := encS r) (k := (encS r).length) (by omega) (by omega) (by omega)
  rw [h1, List.take_length] at h2
  simpa using h2

set_option maxHeartbeats 1600000 in
/-- What is whole is just a rune's bytes. -/
theorem enc_whole {L : List Int} {r : Int} (hb : ∀ z ∈ L, 0 ≤ z ∧ z ≤ 255) (h : wholeS L = some r) : encS r = L ∧ mayS r = true := by
  rcases L with _ | ⟨a, _ | ⟨b, _ | ⟨c, _ | ⟨d, _ | ⟨e, t⟩⟩⟩⟩⟩ <;> simp only [wholeS] at h
  · cases h
  · split at h
    · rename_i hc; cases h
      have h0 := hb r (by simp)
      have h1 := szF1.1 hc
      exact ⟨enc1 h0.1 h1, mayS_iff.2 (by omega)⟩
    · cases h
  · split at h
    · rename_i hc; cases h
      have h1 := szF2.1 hc.1
      have h2 := hc.2
      rw [okF_2 hc.1, ctF_iff] at h2
      have e : 128 ≤ v2 a b ∧ v2 a b < 2048 := by unfold v2; omega
      refine ⟨?_, mayS_iff.2 (by omega)⟩
      rw [enc2 e.1 e.2]
      unfold v2
      simp only [List.cons.injEq, and_true]
      omega
    · cases h
  · split at h
    · rename_i hc; cases h
      obtain ⟨hc1, hc2, hc3⟩ := hc
      have h1 := szF3.1 hc1
      have h2 := okF_iff.1 hc2
      have h3 := ctF_iff.1 hc3
      have e : 2048 ≤ v3 a b c ∧ v3 a b c < 55296 ∨ 57343 < v3 a b c ∧ v3 a b c < 65536 := by
        unfold loF hiF at h2; unfold v3
        repeat' split at h2
        all_goals omega
      refine ⟨?_, mayS_iff.2 (by omega)⟩
      rw [enc3 e]
      have h4 := okct hc2
      unfold v3
      simp only [List.cons.injEq, and_true]
      omega
    · cases h
  · split at h
    · rename_i hc; cases h
      obtain ⟨hc1, hc2, hc3, hc4⟩ := hc
      have h1 := szF4.1 hc1
      have h2 := okF_iff.1 hc2
      have h3 := ctF_iff.1 hc3
      have h3' := ctF_iff.1 hc4
      have e : 65536 ≤ v4 a b c d ∧ v4 a b c d ≤ 1114111 := by
        unfold loF hiF at h2; unfold v4
        repeat' split at h2
        all_goals omega
      refine ⟨?_, mayS_iff.2 (by omega)⟩
      rw [enc4 e]
      have h4 := okct hc2
      unfold v4
      simp only [List.cons.injEq, and_true]
      omega
    · cases h
  · cases h

/-- What is laid for all these runes. -/
def encAll (l : List Int) : List Int := (l.map encS).flatten
theorem encAll_cons (r : Int) (l : List Int) : encAll (r :: l) = encS r ++ encAll l := by simp [encAll]
theorem encAll_snoc (r : Int) (l : List Int) : encAll (l ++ [r]) = encAll l ++ encS r := by simp [encAll]
/-- They are told as they were. -/
theorem fold_encAll : ∀ l : List Int, foldS [] (encAll l) = l.map fixS
  | [] => rfl
  | r :: l => by
    have h := head_enc (may_fix r) (encAll l)
    rw [encS_fix] at h
    rw [encAll_cons, (fold_head h).1, List.drop_left, fold_encAll l]
    rfl
def validS (L : List Int) : Bool := decide (encAll (foldS [] L) = L)
theorem valid_nil : validS [] = true := rfl
theorem encAll_fix : ∀ l : List Int, encAll (l.map fixS) = encAll l
  | [] => rfl
  | r :: l => by rw [List.map_cons, encAll_cons, encAll_cons, encS_fix, encAll_fix l]
theorem valid_encAll (l : List Int) : validS (encAll l) = true := by
  unfold validS; rw [fold_encAll, encAll_fix]; simp
theorem head_split {L : List Int} {r : Int} {n : Nat} (hb : ∀ z ∈ L, 0 ≤ z ∧ z ≤ 255) (h : headS L = some (r, n)) : wholeS (L.take n) = some r ∧ L = encS r ++ L.drop n ∧ mayS r = true := by
  obtain ⟨h1, h4, hn⟩ := head_len h
  have h2 := head_take h1 h4 hn
  rw [h] at h2
  simp at h2
  obtain ⟨e, hm⟩ := enc_whole (fun z hz => hb z (List.mem_of_mem_take hz)) h2
  exact ⟨h2, by rw [e, List.take_append_drop], hm⟩
theorem valid_head {L : List Int} {r : Int} {n : Nat} (hb : ∀ z ∈ L, 0 ≤ z ∧ z ≤ 255) (h : headS L = some (r, n)) : validS L = validS (L.drop n) := by
  obtain ⟨_, e, _⟩ := head_split hb h
  unfold validS
  rw [(fold_head h).1, encAll_cons]
  congr 1
  apply propext
  constructor
  · intro he
    rw [e, List.append_cancel_left_eq] at he
    have : (encS r ++ List.drop n L).drop n = L.drop n := by rw [← e]
    rw [this] at he
    exact he
  · intro he
    rw [he, ← e]
theorem valid_none {L : List Int} (hne : L ≠ []) (h : headS L = none) : validS L = false := by
  unfold validS
  rw [(fold_none hne h).1, encAll_cons]
  simp only [decide_eq_false_iff_not]
  intro he
  have h2 := head_enc (r := 65533) (by decide) (encAll (foldS [] (L.drop (max 1 (begLen L)))))
  rw [he, h] at h2
  cases h2

end Go.Proofs.YtappnfifhpmekaaDoor
