/-
  What layer 11 says, over lists of bytes: acts, a parser's state, what a byte does, what is laid for an act; what is laid is read as it was; behind 24; the bounds.
-/
import Derived.Test.YtappnfifhpmekaaDoorUtfEnc
namespace Go.Proofs.YtappnfifhpmekaaDoor

/-- An act: its kind, its rune, its mark, its final, its numbers, its text. -/
structure AcS where
  k : Int
  r : Int
  m : Int
  fin : Int
  ps : List Int
  tx : List Int
deriving DecidableEq
def acPrint (r : Int) : AcS := ⟨1, r, 0, 0, [], []⟩
def acC0 (b : Int) : AcS := ⟨2, 0, 0, b, [], []⟩
def acEsc (m b : Int) : AcS := ⟨3, 0, m, b, [], []⟩
def acCsi (m b : Int) (ps : List Int) : AcS := ⟨4, 0, m, b, ps, []⟩
def acOsc (t : List Int) : AcS := ⟨5, 0, 0, 0, [], t⟩
/-- A parser's state: 0 ground, 1 escape, 2 lost, 3 control, 4 lost control, 5 a text, 6 a string that is passed over; the mark; the numbers; the text; what is unfinished in the decoder. -/
structure PaS where
  st : Nat
  m : Int
  ps : List Int
  tx : List Int
  dec : List Int
deriving DecidableEq
def pa0 : PaS := ⟨0, 0, [], [], []⟩
def paIn (st : Nat) : PaS := ⟨st, 0, [], [], []⟩
def prS (l : List Int) : List AcS := l.map acPrint
def groundP (dec : List Int) (b : Int) : List AcS × PaS :=
  if b < 32 then (prS (endS dec) ++ [acC0 b], pa0) else if b = 127 then (prS (endS dec), pa0) else (prS (feedS dec b).1, ⟨0, 0, [], [], (feedS dec b).2⟩)
def escP (s : PaS) (b : Int) : List AcS × PaS :=
  if b < 48 then (if s.m = 0 then ([], ⟨1, b, [], [], []⟩) else ([], paIn 2))
  else if s.m = 0 ∧ b = 91 then ([], paIn 3)
  else if s.m = 0 ∧ b = 93 then ([], paIn 5)
  else if s.m = 0 ∧ (b = 80 ∨ b = 88 ∨ b = 94 ∨ b = 95) then ([], paIn 6)
  else ([acEsc s.m b], pa0)
/-- The numbers with one digit more. -/
def digP (ps : List Int) (d : Int) : List Int := if ps = [] then [min d 9999] else ps.dropLast ++ [min (ps.getLastD 0 * 10 + d) 9999]
def semiP (ps : List Int) : List Int := if ps = [] then [0, 0] else ps ++ [0]
def ctlP (s : PaS) (b : Int) : List AcS × PaS :=
  if 64 ≤ b then ([acCsi s.m b (s.ps.take 16)], pa0)
  else if 32 ≤ s.m ∧ s.m < 48 then ([], paIn 4)
  else if b < 48 then (if s.m = 0 then ([], ⟨3, b, s.ps, [], []⟩) else ([], paIn 4))
  else if b ≤ 57 then ([], ⟨3, s.m, digP s.ps (b - 48), [], []⟩)
  else if b ≤ 59 then ([], ⟨3, s.m, semiP s.ps, [], []⟩)
  else if s.m = 0 ∧ s.ps = [] then ([], ⟨3, b, [], [], []⟩) else ([], paIn 4)
def feedP (s : PaS) (b : Int) : List AcS × PaS :=
  if s.st = 0 ∧ b ≠ 27 then groundP s.dec b
  else if b = 24 ∨ b = 26 then ([], pa0)
  else if b = 27 then (prS (endS s.dec) ++ (if s.st = 5 ∧ s.tx.length ≤ 256 then [acOsc s.tx] else []), paIn 1)
  else if s.st = 5 then (if b = 7 then ((if s.tx.length ≤ 256 then [acOsc s.tx] else []), pa0) else if b < 32 then ([], s) else ([], ⟨5, 0, [], s.tx ++ [b], []⟩))
  else if s.st = 6 then ([], s)
  else if b < 32 then ([acC0 b], s)
  else if b = 127 then ([], s)
  else if 128 ≤ b then groundP [] b
  else if s.st = 1 then escP s b
  else if s.st = 2 then (if 48 ≤ b then ([], pa0) else ([], s))
  else if s.st = 4 then (if 64 ≤ b then ([], pa0) else ([], s))
  else ctlP s b
/-- All that bytes bring, and the state behind them. -/
def runP : PaS → List Int → List AcS × PaS
  | s, [] => ([], s)
  | s, b :: t => ((feedP s b).1 ++ (runP (feedP s b).2 t).1, (runP (feedP s b).2 t).2)
def actsP (l : List Int) : List AcS := (runP pa0 l).1
theorem runP_append (s : PaS) (x y : List Int) : runP s (x ++ y) = ((runP s x).1 ++ (runP (runP s x).2 y).1, (runP (runP s x).2 y).2) := by
  induction x generalizing s with
  | nil => simp [runP]
  | cons b x ih => simp only [List.cons_append, runP, ih, List.append_assoc]
theorem runP_snoc (s : PaS) (x : List Int) (b : Int) : runP s (x ++ [b]) = ((runP s x).1 ++ (feedP (runP s x).2 b).1, (feedP (runP s x).2 b).2) := by
  rw [runP_append]
  simp [runP]

/-! ### Behind 24 -/
theorem feed24 (s : PaS) : (feedP s 24).2 = pa0 := by
  unfold feedP
  by_cases h : s.st = 0
  · rw [if_pos ⟨h, by decide⟩]
    rfl
  · rw [if_neg (fun x => h x.1), if_pos (Or.inl rfl)]
theorem behind24 (a b : List Int) : runP pa0 (a ++ 24 :: b) = ((runP pa0 a).1 ++ (feedP (runP pa0 a).2 24).1 ++ actsP b, (runP pa0 b).2) := by
  rw [runP_append]
  simp only [runP, feed24, List.append_assoc]
  rfl

/-! ### Bounds -/
def psOk (l : List Int) : Prop := ∀ z ∈ l, 0 ≤ z ∧ z ≤ 9999
structure AcOk (a : AcS) : Prop where
  k : 1 ≤ a.k ∧ a.k ≤ 5
  n : a.ps.length ≤ 16
  p : psOk a.ps
  t : a.tx.length ≤ 256
theorem print_ok (r : Int) : AcOk (acPrint r) := ⟨by simp [acPrint], by simp [acPrint], fun z hz => by simp [acPrint] at hz, by simp [acPrint]⟩
theorem c0_ok (b : Int) : AcOk (acC0 b) := ⟨by simp [acC0], by simp [acC0], fun z hz => by simp [acC0] at hz, by simp [acC0]⟩
theorem esc_ok (m b : Int) : AcOk (acEsc m b) := ⟨by simp [acEsc], by simp [acEsc], fun z hz => by simp [acEsc] at hz, by simp [acEsc]⟩
theorem csi_ok {m b : Int} {ps : List Int} (h : psOk ps) : AcOk (acCsi m b (ps.take 16)) := ⟨by simp [acCsi], by simp [acCsi]; omega, fun z hz => h z (List.mem_of_mem_take hz), by simp [acCsi]⟩
theorem osc_ok {t : List Int} (h : t.length ≤ 256) : AcOk (acOsc t) := ⟨by simp [acOsc], by simp [acOsc], fun z hz => by simp [acOsc] at hz, h⟩
theorem prS_ok (l : List Int) : ∀ a ∈ prS l, AcOk a := fun a ha => by
  obtain ⟨r, _, rfl⟩ := List.mem_map.1 ha
  exact print_ok r
theorem dig_ok {ps : List Int} (h : psOk ps) {d : Int} (h0 : 0 ≤ d) : psOk (digP ps d) := by
  unfold digP
  split
  · intro z hz
    rw [List.mem_singleton.1 hz]
    omega
  · rename_i hne
    intro z hz
    rcases List.mem_append.1 hz with hz | hz
    · exact h z (List.dropLast_subset ps hz)
    · rw [List.mem_singleton.1 hz]
      have h1 := h _ (List.getLast_mem hne)
      have e : ps.getLastD 0 = ps.getLast hne := by
        rw [List.getLastD_eq_getLast?, List.getLast?_eq_some_getLast hne]
        rfl
      rw [e]
      omega
theorem semi_ok {ps : List Int} (h : psOk ps) : psOk (semiP ps) := by
  unfold semiP
  split
  · intro z hz
    simp at hz
    omega
  · intro z hz
    rcases List.mem_append.1 hz with hz | hz
    · exact h z hz
    · rw [List.mem_singleton.1 hz]; omega
theorem ground_ok (dec : List Int) (b : Int) : (∀ a ∈ (groundP dec b).1, AcOk a) ∧ psOk (groundP dec b).2.ps := by
  unfold groundP
  split
  · refine ⟨fun a ha => ?_, fun z hz => by simp [pa0] at hz⟩
    rcases List.mem_append.1 ha with ha | ha
    · exact prS_ok _ a ha
    · rw [List.mem_singleton.1 ha]; exact c0_ok b
  · split
    · exact ⟨prS_ok _, fun z hz => by simp [pa0] at hz⟩
    · exact ⟨prS_ok _, fun z hz => by simp at hz⟩
theorem e0_ok : psOk pa0.ps := fun z hz => by simp [pa0] at hz
theorem eI_ok (k : Nat) : psOk (paIn k).ps := fun z hz => by simp [paIn] at hz
theorem no_ok : ∀ a ∈ ([] : List AcS), AcOk a := fun a h => by cases h
theorem one_ok {x : AcS} (h : AcOk x) : ∀ a ∈ [x], AcOk a := fun a ha => by rw [List.mem_singleton.1 ha]; exact h
theorem nil_ok : psOk [] := fun z hz => by cases hz
/-- What acts and what a state are as they may be. -/
def FdOk (p : List AcS × PaS) : Prop := (∀ a ∈ p.1, AcOk a) ∧ psOk p.2.ps
theorem escP_ok (s : PaS) (b : Int) : FdOk (escP s b) := by
  unfold escP
  by_cases h1 : b < 48
  · rw [if_pos h1]
    by_cases h2 : s.m = 0
    · rw [if_pos h2]; exact ⟨no_ok, nil_ok⟩
    · rw [if_neg h2]; exact ⟨no_ok, eI_ok 2⟩
  rw [if_neg h1]
  by_cases h2 : s.m = 0 ∧ b = 91
  · rw [if_pos h2]; exact ⟨no_ok, eI_ok 3⟩
  rw [if_neg h2]
  by_cases h3 : s.m = 0 ∧ b = 93
  · rw [if_pos h3]; exact ⟨no_ok, eI_ok 5⟩
  rw [if_neg h3]
  by_cases h4 : s.m = 0 ∧ (b = 80 ∨ b = 88 ∨ b = 94 ∨ b = 95)
  · rw [if_pos h4]; exact ⟨no_ok, eI_ok 6⟩
  rw [if_neg h4]
  exact ⟨one_ok (esc_ok _ _), e0_ok⟩
theorem ctlP_ok {s : PaS} (hs : psOk s.ps) (b : Int) : FdOk (ctlP s b) := by
  unfold ctlP
  by_cases h1 : 64 ≤ b
  · rw [if_pos h1]; exact ⟨one_ok (csi_ok hs), e0_ok⟩
  rw [if_neg h1]
  by_cases h2 : 32 ≤ s.m ∧ s.m < 48
  · rw [if_pos h2]; exact ⟨no_ok, eI_ok 4⟩
  rw [if_neg h2]
  by_cases h3 : b < 48
  · rw [if_pos h3]
    by_cases h4 : s.m = 0
    · rw [if_pos h4]; exact ⟨no_ok, hs⟩
    · rw [if_neg h4]; exact ⟨no_ok, eI_ok 4⟩
  rw [if_neg h3]
  by_cases h4 : b ≤ 57
  · rw [if_pos h4]; exact ⟨no_ok, dig_ok hs (by omega)⟩
  rw [if_neg h4]
  by_cases h5 : b ≤ 59
  · rw [if_pos h5]; exact ⟨no_ok, semi_ok hs⟩
  rw [if_neg h5]
  by_cases h6 : s.m = 0 ∧ s.ps = []
  · rw [if_pos h6]; exact ⟨no_ok, nil_ok⟩
  · rw [if_neg h6]; exact ⟨no_ok, eI_ok 4⟩
theorem feed_ok {s : PaS} (hs : psOk s.ps) (b : Int) : FdOk (feedP s b) := by
  unfold feedP
  by_cases h1 : s.st = 0 ∧ b ≠ 27
  · rw [if_pos h1]; exact ground_ok _ _
  rw [if_neg h1]
  by_cases h2 : b = 24 ∨ b = 26
  · rw [if_pos h2]; exact ⟨no_ok, e0_ok⟩
  rw [if_neg h2]
  by_cases h3 : b = 27
  · rw [if_pos h3]
    refine ⟨fun a ha => ?_, eI_ok 1⟩
    rcases List.mem_append.1 ha with ha | ha
    · exact prS_ok _ a ha
    · by_cases h4 : s.st = 5 ∧ s.tx.length ≤ 256
      · rw [if_pos h4] at ha; exact one_ok (osc_ok h4.2) a ha
      · rw [if_neg h4] at ha; cases ha
  rw [if_neg h3]
  by_cases h4 : s.st = 5
  · rw [if_pos h4]
    by_cases h5 : b = 7
    · rw [if_pos h5]
      refine ⟨fun a ha => ?_, e0_ok⟩
      by_cases h6 : s.tx.length ≤ 256
      · have ha' : a ∈ [acOsc s.tx] := by simpa [h6] using ha
        exact one_ok (osc_ok h6) a ha'
      · simp [h6] at ha
    rw [if_neg h5]
    by_cases h6 : b < 32
    · rw [if_pos h6]; exact ⟨no_ok, hs⟩
    · rw [if_neg h6]; exact ⟨no_ok, nil_ok⟩
  rw [if_neg h4]
  by_cases h5 : s.st = 6
  · rw [if_pos h5]; exact ⟨no_ok, hs⟩
  rw [if_neg h5]
  by_cases h6 : b < 32
  · rw [if_pos h6]; exact ⟨one_ok (c0_ok b), hs⟩
  rw [if_neg h6]
  by_cases h7 : b = 127
  · rw [if_pos h7]; exact ⟨no_ok, hs⟩
  rw [if_neg h7]
  by_cases h8 : 128 ≤ b
  · rw [if_pos h8]; exact ground_ok _ _
  rw [if_neg h8]
  by_cases h9 : s.st = 1
  · rw [if_pos h9]; exact escP_ok s b
  rw [if_neg h9]
  by_cases h10 : s.st = 2
  · rw [if_pos h10]
    by_cases h11 : 48 ≤ b
    · rw [if_pos h11]; exact ⟨no_ok, e0_ok⟩
    · rw [if_neg h11]; exact ⟨no_ok, hs⟩
  rw [if_neg h10]
  by_cases h11 : s.st = 4
  · rw [if_pos h11]
    by_cases h12 : 64 ≤ b
    · rw [if_pos h12]; exact ⟨no_ok, e0_ok⟩
    · rw [if_neg h12]; exact ⟨no_ok, hs⟩
  rw [if_neg h11]
  exact ctlP_ok hs b
theorem run_ok (l : List Int) : ∀ {s : PaS}, psOk s.ps → (∀ a ∈ (runP s l).1, AcOk a) ∧ psOk (runP s l).2.ps := by
  induction l with
  | nil => intro s hs; exact ⟨fun a ha => (by cases ha), hs⟩
  | cons b t ih =>
    intro s hs
    obtain ⟨h1, h2⟩ := feed_ok hs b
    obtain ⟨h3, h4⟩ := ih h2
    refine ⟨fun a ha => ?_, h4⟩
    rcases List.mem_append.1 ha with ha | ha
    · exact h1 a ha
    · exact h3 a ha
theorem acts_ok (l : List Int) : ∀ a ∈ actsP l, AcOk a := (run_ok l (fun z hz => by simp [pa0] at hz)).1

/-! ### What is laid -/
/-- A number's digits. -/
def decS4 (n : Int) : List Int :=
  if n < 10 then [48 + n] else if n < 100 then [48 + n / 10, 48 + n % 10] else if n < 1000 then [48 + n / 100, 48 + n / 10 % 10, 48 + n % 10] else [48 + n / 1000, 48 + n / 100 % 10, 48 + n / 10 % 10, 48 + n % 10]
def numsS : List Int → List Int
  | [] => []
  | [n] => decS4 n
  | n :: m :: l => decS4 n ++ 59 :: numsS (m :: l)
def layOk (a : AcS) : Bool :=
  if a.k = 1 then decide (a.m = 0 ∧ a.fin = 0 ∧ a.ps = [] ∧ a.tx = []) && mayS a.r && decide (32 ≤ a.r ∧ a.r ≠ 127)
  else if a.k = 2 then decide (a.r = 0 ∧ a.m = 0 ∧ a.ps = [] ∧ a.tx = [] ∧ a.fin < 32 ∧ a.fin ≠ 24 ∧ a.fin ≠ 26 ∧ a.fin ≠ 27)
  else if a.k = 3 then decide (a.r = 0 ∧ a.ps = [] ∧ a.tx = [] ∧ 48 ≤ a.fin ∧ a.fin ≤ 126) && (if a.m = 0 then decide (a.fin ≠ 91 ∧ a.fin ≠ 93 ∧ a.fin ≠ 80 ∧ a.fin ≠ 88 ∧ a.fin ≠ 94 ∧ a.fin ≠ 95) else decide (32 ≤ a.m ∧ a.m ≤ 47))
  else if a.k = 4 then decide (a.r = 0 ∧ a.tx = [] ∧ a.ps.length ≤ 16 ∧ 64 ≤ a.fin ∧ a.fin ≤ 126) && decide (a.m = 0 ∨ (60 ≤ a.m ∧ a.m ≤ 63) ∨ (32 ≤ a.m ∧ a.m ≤ 47)) && a.ps.all fun z => decide (0 ≤ z ∧ z ≤ 9999)
  else if a.k = 5 then decide (a.r = 0 ∧ a.m = 0 ∧ a.fin = 0 ∧ a.ps = [] ∧ a.tx.length ≤ 256) && a.tx.all fun z => decide (32 ≤ z)
  else false
def layS (a : AcS) : List Int :=
  if a.k = 1 then encS a.r
  else if a.k = 2 then [a.fin]
  else if a.k = 3 then (if a.m = 0 then [27, a.fin] else [27, a.m, a.fin])
  else if a.k = 4 then 27 :: 91 :: ((if 60 ≤ a.m ∧ a.m ≤ 63 then [a.m] else []) ++ numsS a.ps ++ (if a.m ≠ 0 ∧ ¬ (60 ≤ a.m ∧ a.m ≤ 63) then [a.m] else []) ++ [a.fin])
  else 27 :: 93 :: (a.tx ++ [7])
end Go.Proofs.YtappnfifhpmekaaDoor
