/-
  The numbers of layer 1 as lists: digits of 256, the highest first; digits of 128, the lowest first; what the first number of a list of bytes is. Nothing here speaks of the program.
-/
import Derived.WalkKit
namespace Go.Proofs.YtogaakokplobaaaDoor

/-- The k lowest bytes of n, the highest of them first. -/
def numL (n : Int) : Nat → List Int
  | 0 => []
  | k + 1 => (n / 256 ^ k % 256) :: numL n k

theorem numL_len (n : Int) (k : Nat) : (numL n k).length = k := by induction k with
  | zero => rfl
  | succ k ih => simp [numL, ih]

/-- A row of s places whose last k ones are the k lowest bytes of n. -/
def rowL (s : Nat) (n : Int) (k : Nat) : List Int := List.replicate (s - k) 0 ++ numL n k

theorem rowL_len {s k : Nat} (n : Int) (h : k ≤ s) : (rowL s n k).length = s := by simp [rowL, numL_len]; omega
theorem rowL_zero (s : Nat) (n : Int) : rowL s n 0 = List.replicate s 0 := by simp [rowL, numL]
theorem rowL_full (s : Nat) (n : Int) : rowL s n s = numL n s := by simp [rowL]
theorem rowL_at {s k : Nat} (n : Int) (h : k < s) : (rowL s n k)[s - 1 - k]? = some 0 := by
  unfold rowL
  rw [List.getElem?_append_left (by simp; omega), List.getElem?_replicate, if_pos (by omega)]
theorem rowL_set {s k : Nat} (n : Int) (h : k < s) : (rowL s n k).set (s - 1 - k) (n / 256 ^ k % 256) = rowL s n (k + 1) := by
  obtain ⟨m, rfl⟩ : ∃ m, s = k + 1 + m := ⟨s - (k + 1), by omega⟩
  unfold rowL
  have e1 : k + 1 + m - k = m + 1 := by omega
  have e2 : k + 1 + m - (k + 1) = m := by omega
  have e3 : k + 1 + m - 1 - k = m := by omega
  rw [e1, e2, e3, List.set_append_left _ _ (by simp), List.replicate_succ', List.set_append_right _ _ (by simp)]
  simp [numL]

theorem pow8 (k : Nat) : (2 : Int) ^ (8 * k) = 256 ^ k := by rw [Int.pow_mul]; rfl

theorem pow_pos256 (k : Nat) : (0 : Int) < 256 ^ k := Int.pow_pos (by omega)
theorem div_step (n : Int) (k : Nat) : n / 256 ^ k / 256 = n / 256 ^ (k + 1) := by
  rw [Int.ediv_ediv_of_nonneg (Int.le_of_lt (pow_pos256 k)), Int.pow_succ]
theorem div_bounds {n : Int} (k : Nat) (h : 0 ≤ n) (h' : n ≤ 18446744073709551615) : 0 ≤ n / 256 ^ k ∧ n / 256 ^ k ≤ 18446744073709551615 := by
  have h1 := Int.ediv_nonneg h (Int.le_of_lt (pow_pos256 k))
  have h2 := Int.ediv_le_self (256 ^ k) h
  omega

/-- Digits of 128, the lowest first; at most f + 1 of them. -/
def varF : Nat → Int → List Int
  | 0, n => [n]
  | f + 1, n => if n < 128 then [n] else (n % 128 + 128) :: varF f (n / 128)
def varL (n : Int) : List Int := varF 9 n

theorem varF_last (f : Nat) {n : Int} (h : n < 128) : varF f n = [n] := by cases f with
  | zero => rfl
  | succ f => rw [varF, if_pos h]
theorem varF_step (f : Nat) {n : Int} (h : 128 ≤ n) : varF (f + 1) n = (n % 128 + 128) :: varF f (n / 128) := by rw [varF, if_neg (by omega)]
theorem varF_len (f : Nat) (n : Int) : (varF f n).length ≤ f + 1 := by
  induction f generalizing n with
  | zero => simp [varF]
  | succ f ih =>
    unfold varF
    split
    · simp
    · have := ih (n / 128); simp; omega
theorem varL_len (n : Int) : (varL n).length ≤ 10 := varF_len 9 n

/-- x is what is left of n behind the digits acc. -/
structure Var (n : Int) (f : Nat) (acc : List Int) (x : Int) : Prop where
  all : acc ++ varF f x = varL n
  lo : 0 ≤ x
  hi : x < 128 ^ (f + 1)
  len : acc.length + f = 9

theorem Var.start {n : Int} (h : 0 ≤ n) (h' : n ≤ 18446744073709551615) : Var n 9 [] n := ⟨rfl, h, by simp; omega, rfl⟩
theorem Var.next {n : Int} {f : Nat} {acc : List Int} {x : Int} (h : Var n f acc x) (hx : 128 ≤ x) : ∃ g, f = g + 1 ∧ Var n g (acc ++ [x % 128 + 128]) (x / 128) := by
  cases f with
  | zero => have := h.hi; simp at this; omega
  | succ g =>
    refine ⟨g, rfl, ?_, ?_, ?_, ?_⟩
    · rw [← h.all, varF_step g hx]; simp
    · have := h.lo; omega
    · have h1 := h.hi
      rw [Int.pow_succ] at h1
      exact Int.ediv_lt_of_lt_mul (by omega) h1
    · have := h.len; simp; omega
theorem Var.done {n : Int} {f : Nat} {acc : List Int} {x : Int} (h : Var n f acc x) (hx : x < 128) : acc ++ [x] = varL n := by rw [← h.all, varF_last f hx]
theorem Var.max {n : Int} {f : Nat} {acc : List Int} {x : Int} (h : Var n f acc x) : x ≤ 18446744073709551615 → acc.length ≤ 9 ∧ x ≤ 18446744073709551615 := fun hx => ⟨by have := h.len; omega, hx⟩

/-- May d not stand at the place i of a number? -/
def badD (i : Nat) (d : Int) : Bool := (decide (0 < i) && d == 0) || (decide (i = 9) && decide (1 < d))
/-- The error of the number that a list of bytes begins with, its bytes, its value; i: how many bytes were ahead. -/
def fvE : Nat → List Int → Int
  | _, [] => 2
  | i, d :: r => if badD i d then 3 else if d < 128 then 0 else fvE (i + 1) r
def fvK : List Int → Nat
  | [] => 0
  | d :: r => if d < 128 then 1 else fvK r + 1
def fvV : List Int → Int
  | [] => 0
  | d :: r => if d < 128 then d else d % 128 + 128 * fvV r

/-- The first k bytes go on, and are acc. -/
structure Fv (zs : List Int) (k : Nat) (acc : Int) : Prop where
  e : fvE 0 zs = fvE k (zs.drop k)
  s : fvK zs = k + fvK (zs.drop k)
  v : fvV zs = acc + 128 ^ k * fvV (zs.drop k)
  lo : 0 ≤ acc
  hi : acc < 128 ^ k
  k9 : k ≤ 9

theorem Fv.start (zs : List Int) : Fv zs 0 0 := ⟨rfl, by simp, by simp, by omega, by simp, by omega⟩

theorem drop_getD {zs : List Int} {k : Nat} (h : k < zs.length) : zs.drop k = zs.getD k 0 :: zs.drop (k + 1) := by
  rw [List.drop_eq_getElem_cons h]
  simp [List.getD, List.getElem?_eq_getElem h]

section
variable {zs : List Int} {k : Nat} {acc d : Int}

theorem Fv.bad (h : Fv zs k acc) (hk : k < zs.length) (hd : d = zs.getD k 0) (hb : badD k d = true) : fvE 0 zs = 3 := by
  rw [h.e, drop_getD hk, ← hd, fvE, if_pos hb]
theorem Fv.short (h : Fv zs k acc) (hk : zs.length ≤ k) : fvE 0 zs = 2 := by
  rw [h.e, List.drop_eq_nil_of_le hk, fvE]
theorem Fv.fin (h : Fv zs k acc) (hk : k < zs.length) (hd : d = zs.getD k 0) (hb : badD k d = false) (h128 : d < 128) :
    fvE 0 zs = 0 ∧ fvK zs = k + 1 ∧ fvV zs = acc + d * 128 ^ k := by
  refine ⟨?_, ?_, ?_⟩
  · rw [h.e, drop_getD hk, ← hd, fvE, if_neg (by simp [hb]), if_pos h128]
  · rw [h.s, drop_getD hk, ← hd, fvK, if_pos h128]
  · rw [h.v, drop_getD hk, ← hd, fvV, if_pos h128, Int.mul_comm]
theorem Fv.next (h : Fv zs k acc) (hk : k < zs.length) (hd : d = zs.getD k 0) (hb : badD k d = false) (h128 : 128 ≤ d) :
    Fv zs (k + 1) (acc + d % 128 * 128 ^ k) := by
  have hp : (0 : Int) < 128 ^ k := Int.pow_pos (by omega)
  have hm1 : 0 ≤ d % 128 := Int.emod_nonneg _ (by omega)
  have hm2 : d % 128 < 128 := Int.emod_lt_of_pos _ (by omega)
  have hlo := h.lo
  have hhi := h.hi
  have h0 : 0 ≤ d % 128 * 128 ^ k := Int.mul_nonneg hm1 (by omega)
  have h1 : d % 128 * 128 ^ k ≤ 127 * 128 ^ k := Int.mul_le_mul_of_nonneg_right (by omega) (by omega)
  refine ⟨?_, ?_, ?_, by omega, ?_, ?_⟩
  · rw [h.e, drop_getD hk, ← hd, fvE, if_neg (by simp [hb]), if_neg (by omega)]
  · rw [h.s, drop_getD hk, ← hd, fvK, if_neg (by omega)]; omega
  · rw [h.v, drop_getD hk, ← hd, fvV, if_neg (by omega), Int.pow_succ, Int.mul_add, ← Int.mul_assoc, Int.mul_comm (128 ^ k) (d % 128)]; omega
  · rw [Int.pow_succ]; omega
  · have := h.k9
    have : k ≠ 9 := by
      rintro rfl
      simp [badD] at hb
      omega
    omega
end

/-! A reader that has zs still to read and the error e: what a call answers, what is left, the error. -/
def take1 (zs : List Int) (e n : Int) : List Int × List Int × Int :=
  if e ≠ 0 then ([], zs, e) else if n < 0 then ([], zs, 1) else if (zs.length : Int) < n then ([], zs, 2) else (zs.take n.toNat, zs.drop n.toNat, 0)
/-- The number whose bytes these are, the highest first. -/
def valL (acc : Int) : List Int → Int
  | [] => acc
  | d :: r => valL (acc * 256 + d) r
def num1 (zs : List Int) (e n : Int) : Int × List Int × Int :=
  if e ≠ 0 then (0, zs, e) else if n < 1 ∨ 8 < n then (0, zs, 1) else if (zs.length : Int) < n then (0, zs, 2) else (valL 0 (zs.take n.toNat), zs.drop n.toNat, 0)
def var1 (zs : List Int) (e : Int) : Int × List Int × Int :=
  if e ≠ 0 then (0, zs, e) else if fvE 0 zs = 0 then (fvV zs, zs.drop (fvK zs), 0) else (0, zs, fvE 0 zs)
def text1 (zs : List Int) (e most : Int) : List Int × List Int × Int :=
  if e ≠ 0 then ([], zs, e) else if fvE 0 zs ≠ 0 then ([], zs, fvE 0 zs) else if most < 0 ∨ most < fvV zs then ([], zs, 4)
  else if (zs.length : Int) - fvK zs < fvV zs then ([], zs, 2) else ((zs.drop (fvK zs)).take (fvV zs).toNat, (zs.drop (fvK zs)).drop (fvV zs).toNat, 0)

theorem fvK_le (zs : List Int) : fvK zs ≤ zs.length := by
  induction zs with
  | nil => simp [fvK]
  | cons d r ih => unfold fvK; split <;> simp <;> omega

theorem valL_append (acc : Int) (l : List Int) (d : Int) : valL acc (l ++ [d]) = valL acc l * 256 + d := by
  induction l generalizing acc with
  | nil => rfl
  | cons a l ih => simp [valL, ih]
theorem take_snoc {zs : List Int} {k : Nat} (h : k < zs.length) : zs.take (k + 1) = zs.take k ++ [zs.getD k 0] := by
  rw [List.take_succ_eq_append_getElem h]
  simp [List.getD, List.getElem?_eq_getElem h]
theorem valL_step {zs : List Int} {k : Nat} (h : k < zs.length) : valL 0 (zs.take (k + 1)) = valL 0 (zs.take k) * 256 + zs.getD k 0 := by
  rw [take_snoc h, valL_append]
theorem valL_bound {zs : List Int} (hu : ∀ z ∈ zs, 0 ≤ z ∧ z ≤ 255) (acc : Int) (h0 : 0 ≤ acc) : 0 ≤ valL acc zs ∧ valL acc zs < (acc + 1) * 256 ^ zs.length := by
  induction zs generalizing acc with
  | nil => simp [valL]; omega
  | cons d r ih =>
    have hd := hu d (List.mem_cons_self ..)
    have h1 := ih (fun z hz => hu z (List.mem_cons_of_mem _ hz)) (acc * 256 + d) (by omega)
    refine ⟨h1.1, ?_⟩
    have h2 : (acc * 256 + d + 1) * 256 ^ r.length ≤ ((acc + 1) * 256) * 256 ^ r.length := Int.mul_le_mul_of_nonneg_right (by omega) (Int.le_of_lt (Int.pow_pos (by omega)))
    have h3 : (acc + 1) * 256 ^ (d :: r).length = ((acc + 1) * 256) * 256 ^ r.length := by
      rw [List.length_cons, Int.pow_succ, Int.mul_assoc, Int.mul_comm 256]
    rw [h3]
    exact Int.lt_of_lt_of_le h1.2 h2
theorem num1_of_take {zs : List Int} {n : Int} (h : ¬ (n < 1 ∨ 8 < n)) : num1 zs 0 n = (valL 0 (take1 zs 0 n).1, (take1 zs 0 n).2) := by
  have h2 : ¬ n < 0 := by omega
  have e0 : ¬ ((0 : Int) ≠ 0) := by simp
  unfold num1 take1
  by_cases h3 : (zs.length : Int) < n
  · rw [if_neg e0, if_neg h, if_pos h3, if_neg e0, if_neg h2, if_pos h3]; rfl
  · rw [if_neg e0, if_neg h, if_neg h3, if_neg e0, if_neg h2, if_neg h3]
theorem take1_len (zs : List Int) {n : Int} (h : 0 ≤ n) : ((take1 zs 0 n).1.length : Int) ≤ n := by
  unfold take1
  rw [if_neg (by simp)]
  split
  · simp; omega
  · split
    · simp; omega
    · simp; omega
theorem take1_mem {zs : List Int} {e n z : Int} (h : z ∈ (take1 zs e n).1) : z ∈ zs := by
  unfold take1 at h
  split at h
  · cases h
  · split at h
    · cases h
    · split at h
      · cases h
      · exact List.mem_of_mem_take h

theorem fvV_nonneg {zs : List Int} (hu : ∀ z ∈ zs, 0 ≤ z ∧ z ≤ 255) : 0 ≤ fvV zs := by
  induction zs with
  | nil => simp [fvV]
  | cons d r ih =>
    have hd := hu d (List.mem_cons_self ..)
    have h1 := ih fun z hz => hu z (List.mem_cons_of_mem _ hz)
    unfold fvV
    split
    · exact hd.1
    · omega

theorem fvV_pos {zs : List Int} (hu : ∀ z ∈ zs, 0 ≤ z ∧ z ≤ 255) : ∀ i, 0 < i → fvE i zs = 0 → 1 ≤ fvV zs := by
  induction zs with
  | nil => intro i _ h; simp [fvE] at h
  | cons d r ih =>
    intro i hi h
    have hd := hu d (List.mem_cons_self ..)
    unfold fvE at h
    split at h
    · omega
    · rename_i hb
      split at h
      · rename_i hl
        unfold fvV
        rw [if_pos hl]
        simp [badD] at hb
        omega
      · rename_i hl
        have := ih (fun z hz => hu z (List.mem_cons_of_mem _ hz)) (i + 1) (by omega) h
        unfold fvV
        rw [if_neg hl]
        omega
/-- What is read as a number without an error is just what is laid for it. -/
theorem var_one' {zs : List Int} (hu : ∀ z ∈ zs, 0 ≤ z ∧ z ≤ 255) : ∀ i, i ≤ 9 → fvE i zs = 0 → varF (9 - i) (fvV zs) = zs.take (fvK zs) := by
  induction zs with
  | nil => intro i _ h; simp [fvE] at h
  | cons d r ih =>
    intro i hi h
    have hd := hu d (List.mem_cons_self ..)
    have hr : ∀ z ∈ r, 0 ≤ z ∧ z ≤ 255 := fun z hz => hu z (List.mem_cons_of_mem _ hz)
    unfold fvE at h
    split at h
    · omega
    · rename_i hb
      split at h
      · rename_i hl
        unfold fvV fvK
        rw [if_pos hl, if_pos hl, varF_last _ hl]
        rfl
      · rename_i hl
        have hi9 : i ≠ 9 := by
          rintro rfl
          simp [badD] at hb
          omega
        have h1 := ih hr (i + 1) (by omega) h
        have h2 := fvV_pos hr (i + 1) (by omega) h
        unfold fvV fvK
        rw [if_neg hl, if_neg hl, List.take_succ_cons, ← h1]
        have e1 : 9 - i = 9 - (i + 1) + 1 := by omega
        have e2 : (d % 128 + 128 * fvV r) % 128 + 128 = d := by omega
        have e3 : (d % 128 + 128 * fvV r) / 128 = fvV r := by omega
        rw [e1, varF_step _ (by omega), e2, e3]
theorem var_one {zs : List Int} (hu : ∀ z ∈ zs, 0 ≤ z ∧ z ≤ 255) (hE : fvE 0 zs = 0) : varL (fvV zs) = zs.take (fvK zs) := var_one' hu 0 (by omega) hE
theorem fvV_lt {zs : List Int} (hu : ∀ z ∈ zs, 0 ≤ z ∧ z ≤ 255) : ∀ i, i ≤ 9 → fvE i zs = 0 → fvV zs < 2 ^ (64 - 7 * i) := by
  induction zs with
  | nil => intro i _ h; simp [fvE] at h
  | cons d r ih =>
    intro i hi h
    have hd := hu d (List.mem_cons_self ..)
    have hr : ∀ z ∈ r, 0 ≤ z ∧ z ≤ 255 := fun z hz => hu z (List.mem_cons_of_mem _ hz)
    unfold fvE at h
    split at h
    · omega
    · rename_i hb
      have hi9 : i = 9 → d ≤ 1 := by
        rintro rfl
        simp [badD] at hb
        omega
      split at h
      · rename_i hl
        unfold fvV
        rw [if_pos hl]
        by_cases h9 : i = 9
        · have := hi9 h9
          subst h9
          simp
          omega
        · have e : 64 - 7 * i = (56 - 7 * i) + 8 := by omega
          have hp : (0 : Int) < 2 ^ (56 - 7 * i) := Int.pow_pos (by omega)
          rw [e, Int.pow_add]
          omega
      · rename_i hl
        have h9 : i ≠ 9 := fun e => by have := hi9 e; omega
        have h1 := ih hr (i + 1) (by omega) h
        have e : 64 - 7 * i = (64 - 7 * (i + 1)) + 7 := by omega
        unfold fvV
        rw [if_neg hl, e, Int.pow_add]
        omega
theorem fvK_pos {zs : List Int} {i : Nat} (h : fvE i zs = 0) : 0 < fvK zs := by
  cases zs with
  | nil => simp [fvE] at h
  | cons d r => unfold fvK; split <;> omega

end Go.Proofs.YtogaakokplobaaaDoor
