/-
  The spec of layer 7 in plain terms: which bytes are a rune's, which begin one, what a decoder tells, what is laid for a rune; and how they hang together.
-/
import Derived.Lib.DecodeNEq
namespace Go.Proofs.YtappnfifhpmekaaDoor

/-- How many bytes a rune that begins so has (0: none does). -/
def szF (a : Int) : Nat := if a < 128 then 1 else if a < 194 then 0 else if a < 224 then 2 else if a < 240 then 3 else if a < 245 then 4 else 0
def loF (a : Int) : Int := if a = 224 then 160 else if a = 240 then 144 else 128
def hiF (a : Int) : Int := if a = 237 then 159 else if a = 244 then 143 else 191
/-- May x stand behind a? -/
def okF (a x : Int) : Bool := decide (loF a ≤ x ∧ x ≤ hiF a)
def ctF (x : Int) : Bool := decide (128 ≤ x ∧ x ≤ 191)
def v2 (a b : Int) : Int := a % 32 * 64 + b % 64
def v3 (a b c : Int) : Int := a % 16 * 4096 + b % 64 * 64 + c % 64
def v4 (a b c d : Int) : Int := a % 8 * 262144 + b % 64 * 4096 + c % 64 * 64 + d % 64
/-- The rune whose bytes these are. -/
def wholeS : List Int → Option Int
  | [a] => if szF a = 1 then some a else none
  | [a, b] => if szF a = 2 ∧ okF a b = true then some (v2 a b) else none
  | [a, b, c] => if szF a = 3 ∧ okF a b = true ∧ ctF c = true then some (v3 a b c) else none
  | [a, b, c, d] => if szF a = 4 ∧ okF a b = true ∧ ctF c = true ∧ ctF d = true then some (v4 a b c d) else none
  | _ => none
/-- Do these begin a rune's bytes, and aren't all? -/
def begS : List Int → Bool
  | [a] => decide (2 ≤ szF a)
  | [a, b] => decide (3 ≤ szF a ∧ okF a b = true)
  | [a, b, c] => decide (4 ≤ szF a ∧ okF a b = true ∧ ctF c = true)
  | _ => false
/-- A rune whole at the head, and of how many bytes. -/
def headS : List Int → Option (Int × Nat)
  | [] => none
  | [a] => if szF a = 1 then some (a, 1) else none
  | [a, b] => if szF a = 1 then some (a, 1) else if szF a = 2 ∧ okF a b = true then some (v2 a b, 2) else none
  | [a, b, c] => if szF a = 1 then some (a, 1) else if szF a = 2 ∧ okF a b = true then some (v2 a b, 2) else if szF a = 3 ∧ okF a b = true ∧ ctF c = true then some (v3 a b c, 3) else none
  | a :: b :: c :: d :: _ => if szF a = 1 then some (a, 1) else if szF a = 2 ∧ okF a b = true then some (v2 a b, 2) else if szF a = 3 ∧ okF a b = true ∧ ctF c = true then some (v3 a b c, 3)
      else if szF a = 4 ∧ okF a b = true ∧ ctF c = true ∧ ctF d = true then some (v4 a b c d, 4) else none
/-- How many bytes at the head an unfinished rune has. -/
def begLen : List Int → Nat
  | [] => 0
  | [a] => if 2 ≤ szF a then 1 else 0
  | [a, b] => if 3 ≤ szF a ∧ okF a b = true then 2 else if 2 ≤ szF a then 1 else 0
  | a :: b :: c :: _ => if 4 ≤ szF a ∧ okF a b = true ∧ ctF c = true then 3 else if 3 ≤ szF a ∧ okF a b = true then 2 else if 2 ≤ szF a then 1 else 0

theorem szF_le (a : Int) : szF a = 0 ∨ szF a = 1 ∨ szF a = 2 ∨ szF a = 3 ∨ szF a = 4 := by
  unfold szF; repeat' split
  all_goals simp
theorem szF1 {a : Int} : szF a = 1 ↔ a < 128 := by unfold szF; repeat' split
                                                   all_goals simp <;> omega
theorem szF2 {a : Int} : szF a = 2 ↔ 194 ≤ a ∧ a < 224 := by unfold szF; repeat' split
                                                             all_goals simp <;> omega
theorem szF3 {a : Int} : szF a = 3 ↔ 224 ≤ a ∧ a < 240 := by unfold szF; repeat' split
                                                             all_goals simp <;> omega
theorem szF4 {a : Int} : szF a = 4 ↔ 240 ≤ a ∧ a < 245 := by unfold szF; repeat' split
                                                             all_goals simp <;> omega
theorem okF_iff {a x : Int} : okF a x = true ↔ loF a ≤ x ∧ x ≤ hiF a := by simp [okF]
theorem ctF_iff {x : Int} : ctF x = true ↔ 128 ≤ x ∧ x ≤ 191 := by simp [ctF]
theorem loF_ge (a : Int) : 128 ≤ loF a ∧ loF a ≤ 160 := by unfold loF; repeat' split
                                                           all_goals omega
theorem hiF_le (a : Int) : 143 ≤ hiF a ∧ hiF a ≤ 191 := by unfold hiF; repeat' split
                                                           all_goals omega
theorem lo_hi (a : Int) : okF a (loF a) = true := by rw [okF_iff]; unfold loF hiF; repeat' split
                                                     all_goals omega

/-- What is told of a byte where none is unfinished, and what is unfinished behind it. -/
def feed1 (b : Int) : List Int × List Int := if szF b = 1 then ([b], []) else if 2 ≤ szF b then ([], [b]) else ([65533], [])
def feedS (o : List Int) (b : Int) : List Int × List Int :=
  match wholeS (o ++ [b]) with
  | some r => ([r], [])
  | none => if begS (o ++ [b]) = true then ([], o ++ [b]) else if o = [] then ([65533], []) else (65533 :: (feed1 b).1, (feed1 b).2)
def endS (o : List Int) : List Int := if o = [] then [] else [65533]
/-- All that is told where o is unfinished. -/
def foldS : List Int → List Int → List Int
  | o, [] => endS o
  | o, b :: t => (feedS o b).1 ++ foldS (feedS o b).2 t
theorem feedS_nil (b : Int) : feedS [] b = feed1 b := by
  rcases szF_le b with h | h | h | h | h <;> simp [feedS, feed1, wholeS, begS, h]
/-- An unfinished one, or none. -/
def Op (o : List Int) : Prop := o = [] ∨ begS o = true
theorem Op.len {o : List Int} (h : Op o) : o.length ≤ 3 := by
  rcases h with rfl | h
  · simp
  · rcases o with _ | ⟨a, _ | ⟨b, _ | ⟨c, _ | ⟨d, t⟩⟩⟩⟩ <;> simp [begS] at h ⊢
theorem feed1_op (b : Int) : Op (feed1 b).2 := by
  rcases szF_le b with h | h | h | h | h <;> simp [feed1, Op, begS, h]
theorem feedS_op (o : List Int) (b : Int) : Op (feedS o b).2 := by
  unfold feedS
  split
  · exact .inl rfl
  · split
    · exact .inr (by assumption)
    · split
      · exact .inl rfl
      · exact feed1_op b
theorem feed1_len (b : Int) : (feed1 b).1.length ≤ 1 := by
  rcases szF_le b with h | h | h | h | h <;> simp [feed1, h]
theorem feedS_len (o : List Int) (b : Int) : (feedS o b).1.length ≤ 2 := by
  unfold feedS
  split
  · simp
  · split
    · simp
    · split
      · simp
      · have := feed1_len b; simp; omega
theorem foldS_done {o : List Int} {b : Int} {r : Int} (t : List Int) (h : wholeS (o ++ [b]) = some r) : foldS o (b :: t) = r :: foldS [] t := by simp [foldS, feedS, h]
theorem foldS_more {o : List Int} {b : Int} (t : List Int) (h : wholeS (o ++ [b]) = none) (h' : begS (o ++ [b]) = true) : foldS o (b :: t) = foldS (o ++ [b]) t := by simp [foldS, feedS, h, h']
theorem foldS_nil (b : Int) (t : List Int) : foldS [] (b :: t) = (feed1 b).1 ++ foldS (feed1 b).2 t := by rw [foldS, feedS_nil]
theorem foldS_fall {o : List Int} {b : Int} (t : List Int) (h : wholeS (o ++ [b]) = none) (h' : begS (o ++ [b]) = false) (ho : o ≠ []) : foldS o (b :: t) = 65533 :: foldS [] (b :: t) := by
  rw [foldS_nil]
  simp [foldS, feedS, h, h', ho]
theorem foldS_bad {b : Int} (t : List Int) (h : szF b = 0) : foldS [] (b :: t) = 65533 :: foldS [] t := by simp [foldS, feedS_nil, feed1, h]

set_option maxHeartbeats 1600000 in
/-- A whole rune at the head is told first. -/
theorem fold_head {L : List Int} {r : Int} {n : Nat} (h : headS L = some (r, n)) : foldS [] L = r :: foldS [] (L.drop n) ∧ begLen L + 1 = n ∧ n ≤ L.length := by
  rcases L with _ | ⟨a, _ | ⟨b, _ | ⟨c, _ | ⟨d, t⟩⟩⟩⟩
  · cases h
  all_goals
    rcases szF_le a with ha | ha | ha | ha | ha <;> simp [headS, ha] at h <;>
    (try obtain ⟨h0, h⟩ := h) <;> (try obtain ⟨rfl, rfl⟩ := h) <;> simp [foldS, feedS, wholeS, begS, begLen, ha] <;> simp_all

theorem fall1 {a b : Int} (t : List Int) (ha : 2 ≤ szF a) (h : wholeS [a, b] = none) (h' : begS [a, b] = false) : foldS [] (a :: b :: t) = 65533 :: foldS [] (b :: t) := by
  have e : wholeS ([] ++ [a]) = none := by simp [wholeS]; omega
  rw [foldS_more (o := []) _ e (by simpa [begS] using ha)]
  exact foldS_fall (o := [a]) _ h h' (by simp)
theorem fall2 {a b c : Int} (t : List Int) (ha : 3 ≤ szF a) (hb : okF a b = true) (h : wholeS [a, b, c] = none) (h' : begS [a, b, c] = false) : foldS [] (a :: b :: c :: t) = 65533 :: foldS [] (c :: t) := by
  have e : wholeS ([] ++ [a]) = none := by simp [wholeS]; omega
  have e2 : wholeS ([a] ++ [b]) = none := by simp [wholeS]; intro; omega
  rw [foldS_more (o := []) _ e (by simp [begS]; omega), List.nil_append, foldS_more _ e2 (by simp [begS, ha, hb])]
  exact foldS_fall (o := [a, b]) _ h h' (by simp)
theorem fall3 {a b c d : Int} (t : List Int) (ha : szF a = 4) (hb : okF a b = true) (hc : ctF c = true) (h : wholeS [a, b, c, d] = none) : foldS [] (a :: b :: c :: d :: t) = 65533 :: foldS [] (d :: t) := by
  have e : wholeS ([] ++ [a]) = none := by simp [wholeS, ha]
  have e2 : wholeS ([a] ++ [b]) = none := by simp [wholeS, ha]
  have e3 : wholeS ([a, b] ++ [c]) = none := by simp [wholeS, ha]
  rw [foldS_more (o := []) _ e (by simp [begS, ha]), List.nil_append, foldS_more _ e2 (by simp [begS, ha, hb]), List.singleton_append, foldS_more _ e3 (by simp [begS, ha, hb, hc])]
  exact foldS_fall (o := [a, b, c]) _ h (by simp [begS]) (by simp)
theorem okct {a b : Int} (h : okF a b = true) : 128 ≤ b ∧ b ≤ 191 := by
  have h1 := okF_iff.1 h; have := loF_ge a; have := hiF_le a; omega

set_option maxHeartbeats 1600000 in
/-- What is no rune's: it is told once, and what it began with is gone. -/
theorem fold_none {L : List Int} (hne : L ≠ []) (h : headS L = none) : foldS [] L = 65533 :: foldS [] (L.drop (max 1 (begLen L))) ∧ begLen L ≤ L.length ∧ begLen L ≤ 3 ∧ ∀ j, 1 ≤ j → j < begLen L → 128 ≤ L.getD j 0 ∧ L.getD j 0 ≤ 191 := by
  rcases L with _ | ⟨a, _ | ⟨b, _ | ⟨c, t⟩⟩⟩
  · exact absurd rfl hne
  · rcases szF_le a with ha | ha | ha | ha | ha <;> simp [headS, ha] at h
    · exact ⟨by simp [foldS, feedS, wholeS, begS, begLen, ha, endS], by simp [begLen, ha], by simp [begLen, ha], fun j h1 h2 => by simp [begLen, ha] at h2⟩
    all_goals exact ⟨by simp [foldS, feedS, wholeS, begS, begLen, ha, endS], by simp [begLen, ha], by simp [begLen, ha], fun j h1 h2 => by simp [begLen, ha] at h2; omega⟩
  · rcases szF_le a with ha | ha | ha | ha | ha <;> simp [headS, ha] at h
    · exact ⟨by rw [foldS_bad _ ha]; simp [begLen, ha], by simp [begLen, ha], by simp [begLen, ha], fun j h1 h2 => by simp [begLen, ha] at h2⟩
    · exact ⟨by rw [fall1 _ (by omega) (by simp [wholeS, h]) (by simp [begS, ha])]; simp [begLen, ha], by simp [begLen, ha], by simp [begLen, ha], fun j h1 h2 => by simp [begLen, ha] at h2; omega⟩
    all_goals
      cases hb : okF a b
      · exact ⟨by rw [fall1 _ (by omega) (by simp [wholeS, hb]) (by simp [begS, hb])]; simp [begLen, ha, hb], by simp [begLen, ha, hb], by simp [begLen, ha, hb], fun j h1 h2 => by simp [begLen, ha, hb] at h2; omega⟩
      · exact ⟨by simp [foldS, feedS, wholeS, begS, begLen, ha, endS, hb], by simp [begLen, ha, hb], by simp [begLen, ha, hb], fun j h1 h2 => by
          simp [begLen, ha, hb] at h2; obtain rfl : j = 1 := by omega
          exact okct hb⟩
  · have h' : szF a ≠ 1 ∧ ¬ (szF a = 2 ∧ okF a b = true) ∧ ¬ (szF a = 3 ∧ okF a b = true ∧ ctF c = true) := by
      cases t <;> simp only [headS] at h <;> (refine ⟨?_, ?_, ?_⟩ <;> intro hx <;> simp [hx] at h)
    rcases szF_le a with ha | ha | ha | ha | ha
    · exact ⟨by rw [foldS_bad _ ha]; simp [begLen, ha], by simp [begLen, ha], by simp [begLen, ha], fun j h1 h2 => by simp [begLen, ha] at h2⟩
    · exact absurd ha h'.1
    · have hb : okF a b = false := by have := h'.2.1; simpa [ha] using this
      exact ⟨by rw [fall1 _ (by omega) (by simp [wholeS, hb]) (by simp [begS, hb])]; simp [begLen, ha], by simp [begLen, ha], by simp [begLen, ha], fun j h1 h2 => by simp [begLen, ha] at h2; omega⟩
    · cases hb : okF a b
      · exact ⟨by rw [fall1 _ (by omega) (by simp [wholeS, hb]) (by simp [begS, hb])]; simp [begLen, ha, hb], by simp [begLen, ha, hb], by simp [begLen, ha, hb], fun j h1 h2 => by simp [begLen, ha, hb] at h2; omega⟩
      · have hc : ctF c = false := by have := h'.2.2; simpa [ha, hb] using this
        exact ⟨by rw [fall2 _ (by omega) hb (by simp [wholeS, hc]) (by simp [begS, hc])]; simp [begLen, ha, hb], by simp [begLen, ha, hb], by simp [begLen, ha, hb], fun j h1 h2 => by
          simp [begLen, ha, hb] at h2; obtain rfl : j = 1 := by omega
          exact okct hb⟩
    · cases hb : okF a b
      · exact ⟨by rw [fall1 _ (by omega) (by simp [wholeS, hb]) (by simp [begS, hb])]; simp [begLen, ha, hb], by simp [begLen, ha, hb], by simp [begLen, ha, hb], fun j h1 h2 => by simp [begLen, ha, hb] at h2; omega⟩
      cases hc : ctF c
      · exact ⟨by rw [fall2 _ (by omega) hb (by simp [wholeS, hc]) (by simp [begS, hc])]; simp [begLen, ha, hb, hc], by simp [begLen, ha, hb, hc], by simp [begLen, ha, hb, hc], fun j h1 h2 => by
          simp [begLen, ha, hb, hc] at h2; obtain rfl : j = 1 := by omega
          exact okct hb⟩
      refine ⟨?_, by simp [begLen, ha, hb, hc], by simp [begLen, ha, hb, hc], fun j h1 h2 => ?_⟩
      · cases t with
        | nil => simp [foldS, feedS, wholeS, begS, begLen, ha, endS, hb, hc]
        | cons d t => 
          have hd : ctF d = false := by simpa [headS, ha, hb, hc] using h
          rw [fall3 _ ha hb hc (by simp [wholeS, hd])]
          simp [begLen, ha, hb, hc]
      · simp [begLen, ha, hb, hc] at h2
        have hj : j = 1 ∨ j = 2 := by omega
        rcases hj with rfl | rfl
        · exact okct hb
        · exact ctF_iff.1 hc

/-- Whole at just k bytes. -/
theorem head_take {L : List Int} {k : Nat} (h1 : 1 ≤ k) (h4 : k ≤ 4) (hk : k ≤ L.length) : wholeS (L.take k) = (match headS L with | some (r, n) => if n = k then some r else none | none => none) := by
  have hk' : k = 1 ∨ k = 2 ∨ k = 3 ∨ k = 4 := by omega
  rcases L with _ | ⟨a, _ | ⟨b, _ | ⟨c, _ | ⟨d, t⟩⟩⟩⟩
  · simp at hk; omega
  all_goals
    simp at hk
    rcases hk' with rfl | rfl | rfl | rfl <;> (first | (exfalso; omega) | skip) <;>
    rcases szF_le a with ha | ha | ha | ha | ha <;> simp only [headS, ha, wholeS, List.take] <;> (try simp) <;> (repeat' split) <;> simp_all
theorem head_len {L : List Int} {r : Int} {n : Nat} (h : headS L = some (r, n)) : 1 ≤ n ∧ n ≤ 4 ∧ n ≤ L.length := by
  obtain ⟨_, h2, h3⟩ := fold_head h
  refine ⟨by omega, ?_, h3⟩
  have : begLen L ≤ 3 := by
    rcases L with _ | ⟨a, _ | ⟨b, _ | ⟨c, t⟩⟩⟩ <;> simp [begLen] <;> (repeat' split) <;> omega
  omega
/-- Behind an unfinished one a byte makes it whole, goes on with it, or is no part of it: so the head. -/
theorem head_op {o : List Int} {b : Int} (ho : Op o) (hb : begS (o ++ [b]) = false) : headS (o ++ [b]) = (wholeS (o ++ [b])).map fun r => (r, o.length + 1) := by
  rcases ho with rfl | ho
  · rcases szF_le b with h | h | h | h | h <;> simp [headS, wholeS, h]
  · rcases o with _ | ⟨a, _ | ⟨c, _ | ⟨d, _ | ⟨e, t⟩⟩⟩⟩ <;> simp [begS] at ho hb
    · rcases szF_le a with ha | ha | ha | ha | ha <;> simp [headS, wholeS, ha] at * <;> (try split) <;> simp_all
    · rcases szF_le a with ha | ha | ha | ha | ha <;> simp [headS, wholeS, ha] at * <;> (try split) <;> simp_all
    · rcases szF_le a with ha | ha | ha | ha | ha <;> simp [headS, wholeS, ha] at * <;> (try split) <;> simp_all
/-- A letter below 128 is no part of what is unfinished. -/
theorem low_out {o : List Int} {c : Int} (ho : o ≠ []) (hc : c < 128) : wholeS (o ++ [c]) = none ∧ begS (o ++ [c]) = false := by
  have h1 : ctF c = false := by simp [ctF]; omega
  have h2 : ∀ a, okF a c = false := fun a => by have := loF_ge a; simp [okF]; omega
  rcases o with _ | ⟨a, _ | ⟨b, _ | ⟨d, _ | ⟨e, _ | ⟨f, t⟩⟩⟩⟩⟩ <;> simp [wholeS, begS, h1, h2] at ho ⊢
theorem foldS_apart {c : Int} (hc : c < 128) (t : List Int) : ∀ (l o : List Int), foldS o (l ++ c :: t) = foldS o l ++ c :: foldS [] t
  | [], o => by
    have h1 : szF c = 1 := szF1.2 hc
    by_cases ho : o = []
    · subst ho; simp [foldS, feedS_nil, feed1, h1, endS]
    · obtain ⟨e1, e2⟩ := low_out ho hc
      rw [List.nil_append, foldS_fall _ e1 e2 ho]
      simp [foldS, feedS_nil, feed1, h1, endS, ho]
  | b :: l, o => by
    rw [List.cons_append, foldS, foldS, foldS_apart hc t l, List.append_assoc]

end Go.Proofs.YtappnfifhpmekaaDoor
