/-
  What is laid for an act is read as it was, over lists.
-/
import Derived.Test.YtappnfifhpmekaaDoorParseSpec
namespace Go.Proofs.YtappnfifhpmekaaDoor

theorem acs_ext {a b : AcS} (h1 : a.k = b.k) (h2 : a.r = b.r) (h3 : a.m = b.m) (h4 : a.fin = b.fin) (h5 : a.ps = b.ps) (h6 : a.tx = b.tx) : a = b := by cases a; cases b; simp_all
theorem feed_two {a b r : Int} (h : wholeS [a, b] = some r) : feedS [] a = ([], [a]) ∧ feedS [a] b = ([r], []) := by
  have h1 : szF a = 2 := by
    by_cases hc : szF a = 2 ∧ okF a b = true
    · exact hc.1
    · simp [wholeS, hc] at h
  refine ⟨by rw [feedS_nil]; simp [feed1, h1], ?_⟩
  unfold feedS
  rw [show [a] ++ [b] = [a, b] from rfl, h]
theorem feed_three {a b c r : Int} (h : wholeS [a, b, c] = some r) : feedS [] a = ([], [a]) ∧ feedS [a] b = ([], [a, b]) ∧ feedS [a, b] c = ([r], []) := by
  have h1 : szF a = 3 ∧ okF a b = true ∧ ctF c = true := by
    by_cases hc : szF a = 3 ∧ okF a b = true ∧ ctF c = true
    · exact hc
    · simp [wholeS, hc] at h
  refine ⟨by rw [feedS_nil]; simp [feed1, h1.1], ?_, ?_⟩
  · have e1 : wholeS [a, b] = none := by simp [wholeS, h1.1]
    have e2 : begS [a, b] = true := by simp [begS, h1.1, h1.2.1]
    unfold feedS
    rw [show [a] ++ [b] = [a, b] from rfl, e1]
    simp [e2]
  · unfold feedS
    rw [show [a, b] ++ [c] = [a, b, c] from rfl, h]
theorem feed_four {a b c d r : Int} (h : wholeS [a, b, c, d] = some r) : feedS [] a = ([], [a]) ∧ feedS [a] b = ([], [a, b]) ∧ feedS [a, b] c = ([], [a, b, c]) ∧ feedS [a, b, c] d = ([r], []) := by
  have h1 : szF a = 4 ∧ okF a b = true ∧ ctF c = true ∧ ctF d = true := by
    by_cases hc : szF a = 4 ∧ okF a b = true ∧ ctF c = true ∧ ctF d = true
    · exact hc
    · simp [wholeS, hc] at h
  refine ⟨by rw [feedS_nil]; simp [feed1, h1.1], ?_, ?_, ?_⟩
  · have e1 : wholeS [a, b] = none := by simp [wholeS, h1.1]
    have e2 : begS [a, b] = true := by simp [begS, h1.1, h1.2.1]
    unfold feedS
    rw [show [a] ++ [b] = [a, b] from rfl, e1]
    simp [e2]
  · have e1 : wholeS [a, b, c] = none := by simp [wholeS, h1.1]
    have e2 : begS [a, b, c] = true := by simp [begS, h1.1, h1.2.1, h1.2.2.1]
    unfold feedS
    rw [show [a, b] ++ [c] = [a, b, c] from rfl, e1]
    simp [e2]
  · unfold feedS
    rw [show [a, b, c] ++ [d] = [a, b, c, d] from rfl, h]
/-- A byte in the ground. -/
def paG (o : List Int) : PaS := ⟨0, 0, [], [], o⟩
theorem gstep (o : List Int) {b : Int} (h : 32 ≤ b) (h' : b ≠ 127) : feedP (paG o) b = (prS (feedS o b).1, paG (feedS o b).2) := by
  unfold feedP
  rw [if_pos ⟨rfl, by omega⟩]
  unfold groundP
  rw [if_neg (by omega), if_neg h']
  rfl
theorem pa0_g : pa0 = paG [] := rfl
theorem run1 (s : PaS) (b : Int) (t : List Int) : runP s (b :: t) = ((feedP s b).1 ++ (runP (feedP s b).2 t).1, (runP (feedP s b).2 t).2) := rfl
theorem run0 (s : PaS) : runP s [] = ([], s) := rfl
theorem run_step {s s' : PaS} {b : Int} {x : List AcS} (t : List Int) (h : feedP s b = (x, s')) : runP s (b :: t) = (x ++ (runP s' t).1, (runP s' t).2) := by rw [run1, h]
theorem run_still {s s' : PaS} {b : Int} (t : List Int) (h : feedP s b = ([], s')) : runP s (b :: t) = runP s' t := by rw [run_step t h]; simp
theorem run_end {s s' : PaS} {b : Int} {x : List AcS} (h : feedP s b = (x, s')) : runP s [b] = (x, s') := by rw [run_step [] h, run0]; simp
theorem back_print {r : Int} (hm : mayS r = true) (h1 : 32 ≤ r) (h2 : r ≠ 127) : runP pa0 (encS r) = ([acPrint r], pa0) := by
  have hw := whole_enc hm
  rw [pa0_g]
  rcases may_cases hm with ⟨h3, h4⟩ | ⟨h3, h4⟩ | h3 | h3
  · rw [enc1 h3 h4]
    refine run_end ?_
    rw [gstep [] h1 h2, feedS_nil]
    have : szF r = 1 := szF1.2 h4
    simp [feed1, this, prS]
  · rw [enc2 h3 h4] at hw ⊢
    obtain ⟨e1, e2⟩ := feed_two hw
    rw [run_still _ (by rw [gstep [] (by omega) (by omega), e1]; rfl)]
    exact run_end (by rw [gstep _ (by omega) (by omega), e2]; rfl)
  · rw [enc3 h3] at hw ⊢
    obtain ⟨e1, e2, e3⟩ := feed_three hw
    rw [run_still _ (by rw [gstep [] (by omega) (by omega), e1]; rfl), run_still _ (by rw [gstep _ (by omega) (by omega), e2]; rfl)]
    exact run_end (by rw [gstep _ (by omega) (by omega), e3]; rfl)
  · rw [enc4 h3] at hw ⊢
    obtain ⟨e1, e2, e3, e4⟩ := feed_four hw
    rw [run_still _ (by rw [gstep [] (by omega) (by omega), e1]; rfl), run_still _ (by rw [gstep _ (by omega) (by omega), e2]; rfl), run_still _ (by rw [gstep _ (by omega) (by omega), e3]; rfl)]
    exact run_end (by rw [gstep _ (by omega) (by omega), e4]; rfl)
theorem back_c0 {b : Int} (h1 : b < 32) (h2 : b ≠ 27) : runP pa0 [b] = ([acC0 b], pa0) := by
  refine run_end ?_
  unfold feedP
  rw [if_pos ⟨rfl, h2⟩]
  unfold groundP
  rw [if_pos h1]
  rfl
theorem f27 : feedP pa0 27 = ([], paIn 1) := by decide
/-- A byte of a sequence. -/
theorem sstep {s : PaS} {b : Int} (h0 : s.st = 1 ∨ s.st = 3) (h1 : 32 ≤ b) (h2 : b ≤ 126) : feedP s b = if s.st = 1 then escP s b else ctlP s b := by
  unfold feedP
  rw [if_neg (by omega), if_neg (by omega), if_neg (by omega), if_neg (by omega), if_neg (by omega), if_neg (by omega), if_neg (by omega), if_neg (by omega)]
  by_cases h : s.st = 1
  · rw [if_pos h, if_pos h]
  · rw [if_neg h, if_neg (by omega), if_neg (by omega), if_neg h]
theorem back_esc {f : Int} (h1 : 48 ≤ f) (h2 : f ≤ 126) (h3 : f ≠ 91 ∧ f ≠ 93 ∧ f ≠ 80 ∧ f ≠ 88 ∧ f ≠ 94 ∧ f ≠ 95) : runP pa0 [27, f] = ([acEsc 0 f], pa0) := by
  rw [run_still _ f27]
  refine run_end ?_
  rw [sstep (Or.inl rfl) (by omega) h2, if_pos (show (paIn 1).st = 1 from rfl)]
  unfold escP
  rw [if_neg (by omega), if_neg (by omega), if_neg (by omega), if_neg (by omega)]
  rfl
theorem back_escm {m f : Int} (h1 : 48 ≤ f) (h2 : f ≤ 126) (h3 : 32 ≤ m) (h4 : m ≤ 47) : runP pa0 [27, m, f] = ([acEsc m f], pa0) := by
  have e1 : feedP (paIn 1) m = ([], ⟨1, m, [], [], []⟩) := by
    rw [sstep (Or.inl rfl) (by omega) (by omega), if_pos (show (paIn 1).st = 1 from rfl)]
    unfold escP
    rw [if_pos (by omega), if_pos (show (paIn 1).m = 0 from rfl)]
  rw [run_still _ f27, run_still _ e1]
  refine run_end ?_
  rw [sstep (Or.inl rfl) (by omega) h2, if_pos rfl]
  unfold escP
  rw [if_neg (by omega), if_neg (by dsimp only; omega), if_neg (by dsimp only; omega), if_neg (by dsimp only; omega)]
/-- A control sequence: its mark, its numbers. -/
def paC (m : Int) (ps : List Int) : PaS := ⟨3, m, ps, [], []⟩
theorem cstep (m : Int) (ps : List Int) {b : Int} (h1 : 32 ≤ b) (h2 : b ≤ 126) : feedP (paC m ps) b = ctlP (paC m ps) b := by
  rw [sstep (Or.inr rfl) h1 h2, if_neg (by simp [paC])]
theorem c_dig {m : Int} (hm : m < 32 ∨ 48 ≤ m) (ps : List Int) {b : Int} (h1 : 48 ≤ b) (h2 : b ≤ 57) : feedP (paC m ps) b = ([], paC m (digP ps (b - 48))) := by
  rw [cstep _ _ (by omega) (by omega)]
  unfold ctlP
  rw [if_neg (by omega), if_neg (by simp only [paC]; omega), if_neg (by omega), if_pos h2]
  rfl
theorem c_semi {m : Int} (hm : m < 32 ∨ 48 ≤ m) (ps : List Int) : feedP (paC m ps) 59 = ([], paC m (semiP ps)) := by
  rw [cstep _ _ (by omega) (by omega)]
  unfold ctlP
  rw [if_neg (by omega), if_neg (by simp only [paC]; omega), if_neg (by omega), if_neg (by omega), if_pos (by omega)]
  rfl
theorem c_first {b : Int} (h1 : 60 ≤ b) (h2 : b ≤ 63) : feedP (paC 0 []) b = ([], paC b []) := by
  rw [cstep _ _ (by omega) (by omega)]
  unfold ctlP
  rw [if_neg (by omega), if_neg (by simp only [paC]; omega), if_neg (by omega), if_neg (by omega), if_neg (by omega), if_pos ⟨rfl, rfl⟩]
  rfl
theorem c_last {b : Int} (ps : List Int) (h1 : 32 ≤ b) (h2 : b ≤ 47) : feedP (paC 0 ps) b = ([], paC b ps) := by
  rw [cstep _ _ (by omega) (by omega)]
  unfold ctlP
  rw [if_neg (by omega), if_neg (by simp only [paC]; omega), if_pos (by omega), if_pos (show (paC 0 ps).m = 0 from rfl)]
  rfl
theorem c_fin (m : Int) (ps : List Int) {b : Int} (h1 : 64 ≤ b) (h2 : b ≤ 126) : feedP (paC m ps) b = ([acCsi m b (ps.take 16)], pa0) := by
  rw [cstep _ _ (by omega) h2]
  unfold ctlP
  rw [if_pos h1]
  rfl
theorem dig_nil {d : Int} (h1 : d ≤ 9999) : digP [] d = [d] := by
  unfold digP
  rw [if_pos rfl, show min d 9999 = d by omega]
theorem dig_snoc (q : List Int) {x d : Int} (h : x * 10 + d ≤ 9999) : digP (q ++ [x]) d = q ++ [x * 10 + d] := by
  unfold digP
  rw [if_neg (by simp)]
  simp only [List.dropLast_concat, List.getLastD_concat]
  rw [show min (x * 10 + d) 9999 = x * 10 + d by omega]
theorem dig_zero {d : Int} (q : List Int) (h1 : d ≤ 9999) : digP (q ++ [0]) d = q ++ [d] := by rw [dig_snoc q (by omega)]; simp
/-- Digits behind a number that is 0 so far, or behind none. -/
theorem run_dec {m : Int} (hm : m < 32 ∨ 48 ≤ m) (q : List Int) (p : List Int) (hp : p = q ++ [0] ∨ (q = [] ∧ p = [])) {n : Int} (h0 : 0 ≤ n) (h1 : n ≤ 9999) (t : List Int) : runP (paC m p) (decS4 n ++ t) = runP (paC m (q ++ [n])) t := by
  have first : ∀ d, 0 ≤ d → d ≤ 9 → digP p d = q ++ [d] := fun d _ hd => by
    rcases hp with rfl | ⟨rfl, rfl⟩
    · exact dig_zero q (by omega)
    · exact dig_nil (by omega)
  have st1 : ∀ (b d : Int) (t : List Int), b = 48 + d → 0 ≤ d → d ≤ 9 → runP (paC m p) (b :: t) = runP (paC m (q ++ [d])) t := fun b d t e hd0 hd1 => by
    rw [run_still t (c_dig hm p (b := b) (by omega) (by omega)), show b - 48 = d by omega, first d hd0 hd1]
  have st2 : ∀ (b d x : Int) (t : List Int), b = 48 + d → 0 ≤ d → d ≤ 9 → x * 10 + d ≤ 9999 → runP (paC m (q ++ [x])) (b :: t) = runP (paC m (q ++ [x * 10 + d])) t := fun b d x t e hd0 hd1 hx => by
    rw [run_still t (c_dig hm (q ++ [x]) (b := b) (by omega) (by omega)), show b - 48 = d by omega, dig_snoc q hx]
  unfold decS4
  by_cases g1 : n < 10
  · rw [if_pos g1]
    exact st1 _ n t rfl h0 (by omega)
  rw [if_neg g1]
  by_cases g2 : n < 100
  · rw [if_pos g2]
    simp only [List.cons_append, List.nil_append]
    rw [st1 _ (n / 10) _ rfl (by omega) (by omega), st2 _ (n % 10) _ _ rfl (by omega) (by omega) (by omega), show n / 10 * 10 + n % 10 = n by omega]
  rw [if_neg g2]
  by_cases g3 : n < 1000
  · rw [if_pos g3]
    simp only [List.cons_append, List.nil_append]
    rw [st1 _ (n / 100) _ rfl (by omega) (by omega), st2 _ (n / 10 % 10) _ _ rfl (by omega) (by omega) (by omega), st2 _ (n % 10) _ _ rfl (by omega) (by omega) (by omega), show (n / 100 * 10 + n / 10 % 10) * 10 + n % 10 = n by omega]
  rw [if_neg g3]
  simp only [List.cons_append, List.nil_append]
  rw [st1 _ (n / 1000) _ rfl (by omega) (by omega), st2 _ (n / 100 % 10) _ _ rfl (by omega) (by omega) (by omega), st2 _ (n / 10 % 10) _ _ rfl (by omega) (by omega) (by omega), st2 _ (n % 10) _ _ rfl (by omega) (by omega) (by omega),
    show ((n / 1000 * 10 + n / 100 % 10) * 10 + n / 10 % 10) * 10 + n % 10 = n by omega]
theorem semi_snoc (q : List Int) (x : Int) : semiP (q ++ [x]) = (q ++ [x]) ++ [0] := by
  unfold semiP
  rw [if_neg (by simp)]
theorem run_nums {m : Int} (hm : m < 32 ∨ 48 ≤ m) (t : List Int) : ∀ (l : List Int) (q p : List Int), (p = q ++ [0] ∨ (q = [] ∧ p = [])) → psOk l → l ≠ [] → runP (paC m p) (numsS l ++ t) = runP (paC m (q ++ l)) t := by
  intro l
  induction l with
  | nil => intro q p _ _ h; exact absurd rfl h
  | cons n l ih =>
    intro q p hp hl _
    have hn := hl n (by simp)
    cases l with
    | nil => exact run_dec hm q p hp hn.1 hn.2 t
    | cons k l =>
      show runP (paC m p) ((decS4 n ++ 59 :: numsS (k :: l)) ++ t) = _
      rw [List.append_assoc, run_dec hm q p hp hn.1 hn.2]
      show runP (paC m (q ++ [n])) (59 :: (numsS (k :: l) ++ t)) = _
      rw [run_still _ (c_semi hm (q ++ [n])), semi_snoc, ih (q ++ [n]) _ (Or.inl rfl) (fun z hz => hl z (by simp [List.mem_cons.1 hz])) (by simp), List.append_assoc]
      rfl
theorem f91 : feedP (paIn 1) 91 = ([], paC 0 []) := by decide
theorem f93 : feedP (paIn 1) 93 = ([], ⟨5, 0, [], [], []⟩) := by decide
theorem run_nums0 {m : Int} (hm : m < 32 ∨ 48 ≤ m) (t : List Int) {l : List Int} (hl : psOk l) : runP (paC m []) (numsS l ++ t) = runP (paC m l) t := by
  by_cases h : l = []
  · subst h; rfl
  · have := run_nums hm t l [] [] (Or.inr ⟨rfl, rfl⟩) hl h
    simpa using this
theorem back_csi {m f : Int} {l : List Int} (hl : psOk l) (h16 : l.length ≤ 16) (h1 : 64 ≤ f) (h2 : f ≤ 126) (hm : m = 0 ∨ (60 ≤ m ∧ m ≤ 63) ∨ (32 ≤ m ∧ m ≤ 47)) :
    runP pa0 (27 :: 91 :: ((if 60 ≤ m ∧ m ≤ 63 then [m] else []) ++ numsS l ++ (if m ≠ 0 ∧ ¬ (60 ≤ m ∧ m ≤ 63) then [m] else []) ++ [f])) = ([acCsi m f l], pa0) := by
  have e : l.take 16 = l := List.take_of_length_le h16
  rw [run_still _ f27, run_still _ f91]
  by_cases c1 : 60 ≤ m ∧ m ≤ 63
  · rw [if_pos c1, if_neg (fun x => x.2 c1), List.append_nil, List.append_assoc]
    show runP _ (m :: (numsS l ++ [f])) = _
    rw [run_still _ (c_first c1.1 c1.2), run_nums0 (by omega) _ hl, run_end (c_fin m l h1 h2), e]
  · rw [if_neg c1, List.nil_append, List.append_assoc]
    rw [run_nums0 (by omega) _ hl]
    by_cases c2 : m = 0
    · subst c2
      rw [if_neg (fun x => x.1 rfl), List.nil_append, run_end (c_fin 0 l h1 h2), e]
    · rw [if_pos ⟨c2, c1⟩]
      show runP _ [m, f] = _
      rw [run_still _ (c_last l (by omega) (by omega)), run_end (c_fin m l h1 h2), e]
theorem run_text (t : List Int) : ∀ (l q : List Int), (∀ z ∈ l, 32 ≤ z) → runP ⟨5, 0, [], q, []⟩ (l ++ t) = runP ⟨5, 0, [], q ++ l, []⟩ t := by
  intro l
  induction l with
  | nil => intro q _; simp
  | cons b l ih =>
    intro q h
    have hb := h b (by simp)
    have e : feedP ⟨5, 0, [], q, []⟩ b = ([], ⟨5, 0, [], q ++ [b], []⟩) := by
      unfold feedP
      rw [if_neg (by simp), if_neg (by omega), if_neg (by omega), if_pos rfl, if_neg (by omega), if_neg (by omega)]
    show runP _ (b :: (l ++ t)) = _
    rw [run_still _ e, ih (q ++ [b]) (fun z hz => h z (by simp [hz])), List.append_assoc]
    rfl
theorem back_osc {t : List Int} (h1 : ∀ z ∈ t, 32 ≤ z) (h2 : t.length ≤ 256) : runP pa0 (27 :: 93 :: (t ++ [7])) = ([acOsc t], pa0) := by
  rw [run_still _ f27, run_still _ f93, run_text [7] t [] h1]
  refine run_end ?_
  unfold feedP
  rw [if_neg (by simp), if_neg (by omega), if_neg (by omega), if_pos rfl, if_pos rfl, if_pos (by simpa using h2)]
  simp
/-- What is laid for an act is read as that act, and behind it all is as at first. -/
theorem lay_back {a : AcS} (h : layOk a = true) : runP pa0 (layS a) = ([a], pa0) := by
  obtain ⟨k, r, m, f, ps, tx⟩ := a
  unfold layOk at h
  unfold layS
  dsimp only at h ⊢
  by_cases h1 : k = 1
  · rw [if_pos h1] at h ⊢
    simp only [Bool.and_eq_true, decide_eq_true_eq] at h
    obtain ⟨⟨⟨e1, e2, e3, e4⟩, hm⟩, h3, h4⟩ := h
    subst e1 e2 e3 e4 h1
    exact back_print hm h3 h4
  rw [if_neg h1] at h ⊢
  by_cases h2 : k = 2
  · rw [if_pos h2] at h ⊢
    simp only [decide_eq_true_eq] at h
    obtain ⟨e1, e2, e3, e4, h3, _, _, h4⟩ := h
    subst e1 e2 e3 e4 h2
    exact back_c0 h3 h4
  rw [if_neg h2] at h ⊢
  by_cases h3 : k = 3
  · rw [if_pos h3] at h ⊢
    simp only [Bool.and_eq_true, decide_eq_true_eq] at h
    obtain ⟨⟨e1, e2, e3, h4, h5⟩, h6⟩ := h
    subst e1 e2 e3 h3
    by_cases hm : m = 0
    · rw [if_pos hm] at h6 ⊢
      subst hm
      exact back_esc h4 h5 (of_decide_eq_true h6)
    · rw [if_neg hm] at h6 ⊢
      have := of_decide_eq_true h6
      exact back_escm h4 h5 this.1 this.2
  rw [if_neg h3] at h ⊢
  by_cases h4 : k = 4
  · rw [if_pos h4] at h ⊢
    simp only [Bool.and_eq_true, decide_eq_true_eq, List.all_eq_true] at h
    obtain ⟨⟨⟨e1, e2, h5, h6, h7⟩, h8⟩, h9⟩ := h
    subst e1 e2 h4
    exact back_csi h9 h5 h6 h7 h8
  rw [if_neg h4] at h ⊢
  by_cases h5 : k = 5
  · rw [if_pos h5] at h
    simp only [Bool.and_eq_true, decide_eq_true_eq, List.all_eq_true] at h
    obtain ⟨⟨e1, e2, e3, e4, h6⟩, h7⟩ := h
    subst e1 e2 e3 e4 h5
    exact back_osc h7 h6
  · rw [if_neg h5] at h; cases h
theorem lays_back : ∀ l : List AcS, (∀ a ∈ l, layOk a = true) → runP pa0 ((l.map layS).flatten) = (l, pa0) := by
  intro l
  induction l with
  | nil => intro _; rfl
  | cons a l ih =>
    intro h
    rw [List.map_cons, List.flatten_cons, runP_append, lay_back (h a (by simp)), ih fun x hx => h x (by simp [hx])]
    rfl
end Go.Proofs.YtappnfifhpmekaaDoor
