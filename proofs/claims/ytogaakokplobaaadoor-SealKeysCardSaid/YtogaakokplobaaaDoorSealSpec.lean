/-
  Layer 6 in plain terms: a header's bytes, a datagram's, what Peek, Seal and Open answer; that what was laid is read as it was, and that what is opened is what was laid.
-/
import Derived.Test.YtogaakokplobaaaDoorMacSpec
import Derived.Test.YtogaakokplobaaaDoorWireBackSpec
import Derived.Test.YtogaakokplobaaaDoorWireNum
namespace Go.Proofs.YtogaakokplobaaaDoor
open Go.RowKit

structure Hd where
  k : Int
  d : Bool
  e : Int
  s : Int
def hd0 : Hd := ⟨0, false, 0, 0⟩
structure HdOk (h : Hd) : Prop where
  k0 : 0 ≤ h.k
  k1 : h.k ≤ 255
  e0 : 0 ≤ h.e
  e1 : h.e ≤ 4294967295
  s0 : 0 ≤ h.s
  s1 : h.s ≤ 18446744073709551615
theorem HdOk.zero : HdOk hd0 := ⟨by decide, by decide, by decide, by decide, by decide, by decide⟩
/-- May it be? -/
def mayH (h : Hd) : Bool := decide (1 ≤ h.k ∧ h.k ≤ 5 ∧ h.e ≤ 1048576 ∧ h.s ≤ 4611686018427387904)
def wayB (d : Bool) : Int := if d then 1 else 0
/-- A header's bytes. -/
def headL (h : Hd) : List Int := (([h.k] ++ [wayB h.d]) ++ numL h.e 4) ++ numL h.s 8
/-- The header that bytes begin with. -/
def readH (zs : List Int) : Hd := ⟨zs.getD 0 0, zs.getD 1 0 == 1, valL 0 ((zs.drop 2).take 4), valL 0 ((zs.drop 6).take 8)⟩
def peekS (zs : List Int) : Hd × Int :=
  if zs.length < 30 then (hd0, 2) else if 542 < zs.length then (hd0, 4) else if 1 < zs.getD 1 0 ∨ mayH (readH zs) = false then (hd0, 3) else (readH zs, 0)
def tagS (key zs : List Int) : List Int := (macS key zs).take 16
def dgS (key : List Int) (h : Hd) (body : List Int) : List Int := (headL h ++ body) ++ tagS key (headL h ++ body)
def sealS (key : List Int) (h : Hd) (body : List Int) : List Int × Int :=
  if mayH h = false then ([], 1) else if 512 < body.length then ([], 4) else (dgS key h body, 0)
def openS (key zs : List Int) : Hd × List Int × Int :=
  if (peekS zs).2 ≠ 0 then (hd0, [], (peekS zs).2)
  else if zs.drop (zs.length - 16) = tagS key (zs.take (zs.length - 16)) then (readH zs, (zs.take (zs.length - 16)).drop 14, 0) else (hd0, [], 8)

theorem wayB_in (d : Bool) : 0 ≤ wayB d ∧ wayB d ≤ 1 := by cases d <;> decide
theorem headL_len (h : Hd) : (headL h).length = 14 := by simp [headL, numL_len]
theorem tagS_len (key zs : List Int) : (tagS key zs).length = 16 := by simp [tagS, macS_len]
theorem dgS_len (key : List Int) (h : Hd) (body : List Int) : (dgS key h body).length = 30 + body.length := by
  simp [dgS, headL_len, tagS_len]; omega
theorem numL_b (x : Int) (s : Nat) : B8s (numL x s) := numL_u8 x s
theorem headL_b {h : Hd} (ok : HdOk h) : B8s (headL h) := fun z hz => by
  have hw := wayB_in h.d
  have h0 := ok.k0
  have h1 := ok.k1
  unfold headL at hz
  rcases List.mem_append.1 hz with hz | hz
  · rcases List.mem_append.1 hz with hz | hz
    · simp at hz
      rcases hz with rfl | rfl <;> omega
    · exact numL_b _ _ z hz
  · exact numL_b _ _ z hz
theorem tagS_b (key zs : List Int) : B8s (tagS key zs) := fun z hz => shaS_b _ z (List.mem_of_mem_take hz)
theorem b8_append {a b : List Int} (ha : B8s a) (hb : B8s b) : B8s (a ++ b) := fun z hz => by
  rcases List.mem_append.1 hz with hz | hz
  · exact ha z hz
  · exact hb z hz
theorem dgS_b {key : List Int} {h : Hd} {body : List Int} (ok : HdOk h) (hb : B8s body) : B8s (dgS key h body) := b8_append (b8_append (headL_b ok) hb) (tagS_b _ _)
theorem sealS_b {key : List Int} {h : Hd} {body : List Int} (ok : HdOk h) (hb : B8s body) : B8s (sealS key h body).1 := by
  unfold sealS
  split
  · exact fun _ h => by cases h
  · split
    · exact fun _ h => by cases h
    · exact dgS_b ok hb

theorem numL_one {k : Int} (h0 : 0 ≤ k) (h1 : k ≤ 255) : numL k 1 = [k] := by
  show [k / 256 ^ 0 % 256] = [k]
  rw [Int.pow_zero, Int.ediv_one, Int.emod_eq_of_lt h0 (by omega)]
theorem numS_one {k : Int} (h0 : 0 ≤ k) (h1 : k ≤ 255) : numS k 1 = [k] := numL_one h0 h1

theorem head_ext {h g : Hd} (a : h.k = g.k) (b : h.d = g.d) (c : h.e = g.e) (d : h.s = g.s) : h = g := by cases h; cases g; simp_all

/-- What was laid is read as it was. -/
theorem read_head {h : Hd} (ok : HdOk h) (rest : List Int) : readH (headL h ++ rest) = h := by
  have e4 : valL 0 (numL h.e 4) = h.e := by
    rw [valL_numL _ ok.e0, Int.zero_mul, Int.zero_add, Int.emod_eq_of_lt ok.e0 (by have := ok.e1; simp; omega)]
  have e8 : valL 0 (numL h.s 8) = h.s := by
    rw [valL_numL _ ok.s0, Int.zero_mul, Int.zero_add, Int.emod_eq_of_lt ok.s0 (by have := ok.s1; simp; omega)]
  have l4 := numL_len h.e 4
  have l8 := numL_len h.s 8
  have a1 : headL h ++ rest = h.k :: wayB h.d :: (numL h.e 4 ++ (numL h.s 8 ++ rest)) := by simp [headL]
  have a2 : ((headL h ++ rest).drop 2).take 4 = numL h.e 4 := by
    rw [a1]
    show (numL h.e 4 ++ (numL h.s 8 ++ rest)).take 4 = _
    rw [List.take_append_of_le_length (by omega), List.take_of_length_le (by omega)]
  have a3 : ((headL h ++ rest).drop 6).take 8 = numL h.s 8 := by
    rw [a1]
    show ((numL h.e 4 ++ (numL h.s 8 ++ rest)).drop 4).take 8 = _
    rw [List.drop_append_of_le_length (by omega), List.drop_of_length_le (by omega), List.nil_append, List.take_append_of_le_length (by omega), List.take_of_length_le (by omega)]
  refine head_ext ?_ ?_ ?_ ?_
  · rw [a1]; rfl
  · show ((headL h ++ rest).getD 1 0 == 1) = h.d
    rw [a1]
    show (wayB h.d == 1) = h.d
    cases h.d <;> rfl
  · show valL 0 (((headL h ++ rest).drop 2).take 4) = _
    rw [a2, e4]
  · show valL 0 (((headL h ++ rest).drop 6).take 8) = _
    rw [a3, e8]

theorem numL_val {l : List Int} (hu : B8s l) : numL (valL 0 l) l.length = l := by
  have key : ∀ (r : List Int) (acc : Int), 0 ≤ acc → (∀ z ∈ r, 0 ≤ z ∧ z ≤ 255) → numL (valL acc r) r.length = r := by
    intro r
    induction r with
    | nil => intro _ _ _; rfl
    | cons d r ih =>
      intro acc h0 hr
      have hd := hr d (List.mem_cons_self ..)
      have hr' : ∀ z ∈ r, 0 ≤ z ∧ z ≤ 255 := fun z hz => hr z (List.mem_cons_of_mem _ hz)
      show (valL (acc * 256 + d) r / 256 ^ r.length % 256) :: numL (valL (acc * 256 + d) r) r.length = d :: r
      rw [ih (acc * 256 + d) (by omega) hr']
      congr 1
      have key2 : ∀ (q : List Int) (a : Int), 0 ≤ a → (∀ z ∈ q, 0 ≤ z ∧ z ≤ 255) → valL a q / 256 ^ q.length = a := by
        intro q
        induction q with
        | nil => intro a _ _; simp [valL]
        | cons x q ihq =>
          intro a ha hq
          have hx := hq x (List.mem_cons_self ..)
          have := ihq (a * 256 + x) (by omega) (fun z hz => hq z (List.mem_cons_of_mem _ hz))
          show valL (a * 256 + x) q / 256 ^ (q.length + 1) = a
          rw [← div_step, this]
          omega
      rw [key2 r _ (by omega) hr']
      omega
  exact key l 0 (by omega) hu

theorem readH_ok {zs : List Int} (hu : B8s zs) : HdOk (readH zs) := by
  have g := (show U8s zs from hu).getD 0
  have b4 : B8s ((zs.drop 2).take 4) := fun z hz => hu z (List.mem_of_mem_drop (List.mem_of_mem_take hz))
  have b8 : B8s ((zs.drop 6).take 8) := fun z hz => hu z (List.mem_of_mem_drop (List.mem_of_mem_take hz))
  have v4 := valL_bound b4 0 (by omega)
  have v8 := valL_bound b8 0 (by omega)
  have p4 : (256 : Int) ^ ((zs.drop 2).take 4).length ≤ 256 ^ 4 := by
    have h1 : (256 : Nat) ^ ((zs.drop 2).take 4).length ≤ 256 ^ 4 := Nat.pow_le_pow_right (by omega) (by simp; omega)
    have h2 : ((256 ^ ((zs.drop 2).take 4).length : Nat) : Int) ≤ ((256 ^ 4 : Nat) : Int) := Int.ofNat_le.2 h1
    simpa using h2
  have p8 : (256 : Int) ^ ((zs.drop 6).take 8).length ≤ 256 ^ 8 := by
    have h1 : (256 : Nat) ^ ((zs.drop 6).take 8).length ≤ 256 ^ 8 := Nat.pow_le_pow_right (by omega) (by simp; omega)
    have h2 : ((256 ^ ((zs.drop 6).take 8).length : Nat) : Int) ≤ ((256 ^ 8 : Nat) : Int) := Int.ofNat_le.2 h1
    simpa using h2
  have q4 : (256 : Int) ^ 4 = 4294967296 := by rfl
  have q8 : (256 : Int) ^ 8 = 18446744073709551616 := by rfl
  rw [q4] at p4
  rw [q8] at p8
  exact ⟨g.1, g.2, v4.1, by show valL 0 _ ≤ _; have := v4.2; omega, v8.1, by show valL 0 _ ≤ _; have := v8.2; omega⟩

/-- What is read is what was laid. -/
theorem head_read {zs : List Int} (hu : B8s zs) (hl : 14 ≤ zs.length) (h1 : zs.getD 1 0 ≤ 1) : headL (readH zs) = zs.take 14 := by
  have g1 := (show U8s zs from hu).getD 1
  have b4 : B8s ((zs.drop 2).take 4) := fun z hz => hu z (List.mem_of_mem_drop (List.mem_of_mem_take hz))
  have b8 : B8s ((zs.drop 6).take 8) := fun z hz => hu z (List.mem_of_mem_drop (List.mem_of_mem_take hz))
  have n4 := numL_val b4
  have n8 := numL_val b8
  rw [show ((zs.drop 2).take 4).length = 4 by simp; omega] at n4
  rw [show ((zs.drop 6).take 8).length = 8 by simp; omega] at n8
  have hw : wayB (zs.getD 1 0 == 1) = zs.getD 1 0 := by
    have h2 : zs.getD 1 0 = 0 ∨ zs.getD 1 0 = 1 := by omega
    rcases h2 with h2 | h2 <;> rw [h2] <;> rfl
  show (([zs.getD 0 0] ++ [wayB (zs.getD 1 0 == 1)]) ++ numL (valL 0 ((zs.drop 2).take 4)) 4) ++ numL (valL 0 ((zs.drop 6).take 8)) 8 = _
  rw [n4, n8, hw]
  obtain ⟨a, b, r, rfl⟩ : ∃ a b r, zs = a :: b :: r := by
    match zs, hl with
    | a :: b :: r, _ => exact ⟨a, b, r, rfl⟩
  show a :: b :: (r.take 4 ++ (r.drop 4).take 8) = a :: b :: r.take 12
  rw [show (12 : Nat) = 4 + 8 from rfl, List.take_add]

theorem mayH_true {h : Hd} (hm : mayH h = true) : 1 ≤ h.k ∧ h.k ≤ 5 ∧ h.e ≤ 1048576 ∧ h.s ≤ 4611686018427387904 := by simpa [mayH] using hm

theorem getD1_head (h : Hd) (rest : List Int) : (headL h ++ rest).getD 1 0 = wayB h.d := by
  rw [show headL h ++ rest = h.k :: wayB h.d :: (numL h.e 4 ++ (numL h.s 8 ++ rest)) by simp [headL]]
  rfl
theorem peek_head {h : Hd} (ok : HdOk h) (hm : mayH h = true) {rest : List Int} (h1 : 16 ≤ rest.length) (h2 : rest.length ≤ 528) : peekS (headL h ++ rest) = (h, 0) := by
  have hl : (headL h ++ rest).length = 14 + rest.length := by rw [List.length_append, headL_len]
  unfold peekS
  rw [if_neg (by omega), if_neg (by omega), read_head ok, getD1_head, if_neg]
  have := wayB_in h.d
  rw [hm]
  simp
  omega
theorem peek_dg {key : List Int} {h : Hd} {body : List Int} (ok : HdOk h) (hm : mayH h = true) (hb : body.length ≤ 512) : peekS (dgS key h body) = (h, 0) := by
  unfold dgS
  rw [List.append_assoc]
  have := tagS_len key (headL h ++ body)
  exact peek_head ok hm (by rw [List.length_append]; omega) (by rw [List.length_append]; omega)
theorem dg_take (key : List Int) (h : Hd) (body : List Int) : (dgS key h body).take ((dgS key h body).length - 16) = headL h ++ body ∧ (dgS key h body).drop ((dgS key h body).length - 16) = tagS key (headL h ++ body) := by
  have h1 := headL_len h
  have e : (dgS key h body).length - 16 = (headL h ++ body).length := by rw [dgS_len, List.length_append]; omega
  rw [e]
  unfold dgS
  exact ⟨List.take_left, List.drop_left⟩
theorem open_dg {key : List Int} {h : Hd} {body : List Int} (ok : HdOk h) (hm : mayH h = true) (hb : body.length ≤ 512) : openS key (dgS key h body) = (h, body, 0) := by
  unfold openS
  rw [peek_dg ok hm hb, if_neg (by simp), (dg_take key h body).1, (dg_take key h body).2, if_pos rfl]
  have h1 : readH (dgS key h body) = h := by unfold dgS; rw [List.append_assoc]; exact read_head ok _
  rw [h1]
  have h2 : (headL h ++ body).drop 14 = body := by rw [← headL_len h]; exact List.drop_left
  rw [h2]
theorem seal_fits {key : List Int} {h : Hd} {body : List Int} (he : (sealS key h body).2 = 0) : mayH h = true ∧ body.length ≤ 512 ∧ sealS key h body = (dgS key h body, 0) := by
  unfold sealS at he ⊢
  by_cases h1 : mayH h = false
  · rw [if_pos h1] at he; simp at he
  · rw [if_neg h1] at he ⊢
    by_cases h2 : 512 < body.length
    · rw [if_pos h2] at he; simp at he
    · rw [if_neg h2]
      exact ⟨by simpa using h1, by omega, rfl⟩
theorem seal_not {key : List Int} {h : Hd} {body : List Int} (he : (sealS key h body).2 ≠ 0) : (sealS key h body).1 = [] ∧ (mayH h = false ∨ 512 < body.length) := by
  unfold sealS at he ⊢
  by_cases h1 : mayH h = false
  · rw [if_pos h1]; exact ⟨rfl, .inl h1⟩
  · rw [if_neg h1] at he ⊢
    by_cases h2 : 512 < body.length
    · rw [if_pos h2]; exact ⟨rfl, .inr h2⟩
    · rw [if_neg h2] at he; simp at he
theorem open_not {key zs : List Int} (he : (openS key zs).2.2 ≠ 0) : (openS key zs).1 = hd0 ∧ (openS key zs).2.1 = [] := by
  unfold openS at he ⊢
  by_cases h1 : (peekS zs).2 ≠ 0
  · rw [if_pos h1]; exact ⟨rfl, rfl⟩
  · rw [if_neg h1] at he ⊢
    split
    · rename_i h2; rw [if_pos h2] at he; simp at he
    · exact ⟨rfl, rfl⟩
theorem peek_fits {zs : List Int} (he : (peekS zs).2 = 0) : 30 ≤ zs.length ∧ zs.length ≤ 542 ∧ zs.getD 1 0 ≤ 1 ∧ mayH (readH zs) = true ∧ peekS zs = (readH zs, 0) := by
  unfold peekS at he ⊢
  by_cases h1 : zs.length < 30
  · rw [if_pos h1] at he; simp at he
  · rw [if_neg h1] at he ⊢
    by_cases h2 : 542 < zs.length
    · rw [if_pos h2] at he; simp at he
    · rw [if_neg h2] at he ⊢
      by_cases h3 : 1 < zs.getD 1 0 ∨ mayH (readH zs) = false
      · rw [if_pos h3] at he; simp at he
      · rw [if_neg h3]
        simp at h3
        exact ⟨by omega, by omega, by simpa using h3.1, by simpa using h3.2, rfl⟩
/-- What is opened is just what is sealed of it. -/
theorem seal_open {key zs : List Int} (hu : B8s zs) (he : (openS key zs).2.2 = 0) : sealS key (openS key zs).1 (openS key zs).2.1 = (zs, 0) := by
  have hp : (peekS zs).2 = 0 := by
    unfold openS at he
    by_cases h1 : (peekS zs).2 = 0
    · exact h1
    · rw [if_pos h1] at he; exact absurd he h1
  obtain ⟨l0, l1, w1, hm, _⟩ := peek_fits hp
  unfold openS at he ⊢
  rw [if_neg (by simpa using hp)] at he ⊢
  split
  · rename_i ht
    have e1 : headL (readH zs) ++ (zs.take (zs.length - 16)).drop 14 = zs.take (zs.length - 16) := by
      rw [head_read hu (by omega) w1]
      have e2 : zs.take 14 = (zs.take (zs.length - 16)).take 14 := by rw [List.take_take, Nat.min_eq_left (by omega)]
      rw [e2, List.take_append_drop]
    unfold sealS
    rw [if_neg (by simp [hm]), if_neg (by simp; omega)]
    unfold dgS
    rw [e1, ← ht, List.take_append_drop]
  · rename_i ht
    rw [if_neg ht] at he
    simp at he

theorem getD_set_ne {zs : List Int} {i j : Nat} {y : Int} (h : i ≠ j) : (zs.set i y).getD j 0 = zs.getD j 0 := by simp [List.getD, List.getElem?_set_ne h]
/-- Another byte of the tag. -/
theorem open_turned {key : List Int} {h : Hd} {body : List Int} {i : Nat} {y : Int} (ok : HdOk h) (hm : mayH h = true) (hb : body.length ≤ 512) (hi : 14 + body.length ≤ i) (hi2 : i < 30 + body.length) (hy : y ≠ (dgS key h body).getD i 0) :
    openS key ((dgS key h body).set i y) = (hd0, [], 8) ∧ peekS ((dgS key h body).set i y) = (h, 0) := by
  have hl := dgS_len key h body
  have h14 := headL_len h
  have ha : (headL h ++ body).length = 14 + body.length := by rw [List.length_append, h14]
  have e : (dgS key h body).set i y = (headL h ++ body) ++ (tagS key (headL h ++ body)).set (i - (14 + body.length)) y := by
    unfold dgS
    rw [List.set_append_right _ _ (by omega), ha]
  have hpk : peekS ((dgS key h body).set i y) = (h, 0) := by
    rw [e, List.append_assoc]
    have := tagS_len key (headL h ++ body)
    exact peek_head ok hm (by rw [List.length_append, List.length_set]; omega) (by rw [List.length_append, List.length_set]; omega)
  refine ⟨?_, hpk⟩
  unfold openS
  rw [hpk, if_neg (by simp), if_neg]
  have e2 : ((dgS key h body).set i y).length - 16 = (headL h ++ body).length := by rw [List.length_set, hl, ha]; omega
  rw [e2, e, List.take_left, List.drop_left]
  intro hq
  have h3 : ((tagS key (headL h ++ body)).set (i - (14 + body.length)) y)[i - (14 + body.length)]? = (tagS key (headL h ++ body))[i - (14 + body.length)]? := by rw [hq]
  have ht := tagS_len key (headL h ++ body)
  rw [List.getElem?_set_self (by omega)] at h3
  have h4 : (dgS key h body)[i]? = some y := by
    unfold dgS
    rw [List.getElem?_append_right (by omega), ha, ← h3]
  apply hy
  rw [List.getD, h4]
  rfl

end Go.Proofs.YtogaakokplobaaaDoor
