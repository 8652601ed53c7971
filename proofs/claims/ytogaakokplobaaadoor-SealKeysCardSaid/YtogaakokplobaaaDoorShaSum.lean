/-
  The sum as a plain function on lists, and how it is told block by block while bytes come. No program.
-/
import Derived.Test.YtogaakokplobaaaDoorShaEnds
namespace Go.Proofs.YtogaakokplobaaaDoor
open Go

/-- The words behind the first j blocks. -/
def blkN (p : List Int) : Nat → List Int
  | 0 => iv
  | j + 1 => comp (blkN p j) ((p.drop (64 * j)).take 64)
/-- The number of bits, as eight bytes, the highest first. -/
def lenB (n : Nat) : List Int := (List.range 8).map fun i => 8 * (n : Int) / 2 ^ (56 - 8 * i) % 256
/-- The padded bytes. -/
def padS (all : List Int) : List Int := all ++ 128 :: List.replicate ((119 - all.length % 64) % 64) 0 ++ lenB all.length
/-- The sum. -/
def shaS (all : List Int) : List Int := outK (blkN (padS all) ((padS all).length / 64)) 32

theorem lenB_len (n : Nat) : (lenB n).length = 8 := by simp [lenB]
theorem iv_w : U32s iv := by unfold U32s W1; decide
theorem blkN_len (p : List Int) (j : Nat) : (blkN p j).length = 8 := by
  cases j with
  | zero => rfl
  | succ j => exact comp_len _ _
theorem blkN_w (p : List Int) (j : Nat) : U32s (blkN p j) := by
  induction j with
  | zero => exact iv_w
  | succ j ih => exact comp_w ih _
theorem blkN_app (p x : List Int) (j : Nat) (h : 64 * j ≤ p.length) : blkN (p ++ x) j = blkN p j := by
  induction j with
  | zero => rfl
  | succ j ih =>
    simp only [blkN]
    rw [ih (by omega), List.drop_append_of_le_length (by omega), List.take_append_of_le_length (by simp; omega)]
theorem shaS_len (all : List Int) : (shaS all).length = 32 := outK_len _ _
theorem outK_b (v : List Int) (k : Nat) : B8s (outK v k) := by
  induction k with
  | zero => intro z hz; simp [outK] at hz; subst hz; omega
  | succ k ih =>
    intro z hz
    rcases List.mem_or_eq_of_mem_set hz with h | h
    · exact ih z h
    · rw [h]; omega
theorem shaS_b (all : List Int) : B8s (shaS all) := outK_b _ _

/-- The open block begins with what is behind the whole blocks. -/
def Tl (op don : List Int) : Prop := op.length = 64 ∧ B8s op ∧ op.take (don.length % 64) = don.drop (64 * (don.length / 64))

theorem tl_zero {op don : List Int} (h1 : op.length = 64) (h2 : B8s op) (h : don.length % 64 = 0) : Tl op don := by
  refine ⟨h1, h2, ?_⟩
  rw [h, List.take_zero, List.drop_eq_nil_of_le (by omega)]

theorem splice_b {op news : List Int} (h : B8s op) (hn : B8s news) (k : Nat) : B8s (splice op k news) := fun z hz => by
  simp only [splice, List.mem_append] at hz
  rcases hz with hz | hz | hz
  · exact h z (List.mem_of_mem_take hz)
  · exact hn z hz
  · exact h z (List.mem_of_mem_drop hz)

/-- Bytes come into the open block. -/
theorem tl_more {op don news : List Int} (h : Tl op don) :
    (splice op (don.length % 64) news).take (don.length % 64 + news.length) = (don ++ news).drop (64 * (don.length / 64)) := by
  obtain ⟨h1, _, h3⟩ := h
  have hl : (op.take (don.length % 64)).length = don.length % 64 := by simp; omega
  unfold splice
  rw [List.take_append, hl, List.take_of_length_le (by omega), h3, List.drop_append_of_le_length (by omega)]
  congr 1
  have e : don.length % 64 + news.length - don.length % 64 = news.length := by omega
  rw [e, List.take_append_of_le_length (Nat.le_refl _), List.take_length]

theorem tl_open {op don news : List Int} (h : Tl op don) (hb : B8s news) (hn : don.length % 64 + news.length < 64) : Tl (splice op (don.length % 64) news) (don ++ news) := by
  have hq : (don ++ news).length / 64 = don.length / 64 := by simp; omega
  have hr : (don ++ news).length % 64 = don.length % 64 + news.length := by simp; omega
  refine ⟨by rw [length_splice _ _ _ (by rw [h.1]; omega)]; exact h.1, splice_b h.2.1 hb _, ?_⟩
  rw [hq, hr]
  exact tl_more h
theorem tl_full {op don news : List Int} (h : Tl op don) (hb : B8s news) (hn : don.length % 64 + news.length = 64) :
    Tl (splice op (don.length % 64) news) (don ++ news) ∧ (don ++ news).length / 64 = don.length / 64 + 1 ∧
      comp (blkN don (don.length / 64)) (splice op (don.length % 64) news) = blkN (don ++ news) (don.length / 64 + 1) := by
  have hl := (length_splice op (don.length % 64) news (by rw [h.1]; omega)).trans h.1
  refine ⟨tl_zero hl (splice_b h.2.1 hb _) (by simp; omega), by simp; omega, ?_⟩
  have hm := tl_more h (news := news)
  rw [hn, List.take_of_length_le (by omega)] at hm
  simp only [blkN]
  rw [blkN_app _ _ _ (by omega), hm, List.take_of_length_le (by simp; omega)]

/-- What lenK tells. -/
theorem lenK_at (bs : List Int) (h : bs.length = 64) (n i : Nat) (hi : i ≤ 8) (j : Nat) :
    (lenK bs n i).getD j 0 = if 64 - i ≤ j ∧ j < 64 then 8 * (n : Int) / 2 ^ (8 * (63 - j)) % 256 else bs.getD j 0 := by
  induction i with
  | zero => rw [if_neg (by omega)]; rfl
  | succ i ih =>
    simp only [lenK]
    rw [getD_set, lenK_len, h]
    by_cases hj : 63 - i = j
    · rw [if_pos ⟨hj, by omega⟩, if_pos ⟨by omega, by omega⟩]
      have e : 63 - j = i := by omega
      rw [e]
    · rw [if_neg (fun x => hj x.1), ih (by omega)]
      by_cases h2 : 64 - i ≤ j ∧ j < 64
      · rw [if_pos h2, if_pos ⟨by have := h2.1; omega, h2.2⟩]
      · rw [if_neg h2, if_neg (fun x => h2 ⟨by have := x.1; omega, x.2⟩)]
theorem lenB_at (n i : Nat) (hi : i < 8) : (lenB n).getD i 0 = 8 * (n : Int) / 2 ^ (56 - 8 * i) % 256 := by
  simp only [lenB, List.getD, List.getElem?_map, List.getElem?_range hi, Option.map_some, Option.getD_some]
theorem getD_app (a b : List Int) (j : Nat) : (a ++ b).getD j 0 = if j < a.length then a.getD j 0 else b.getD (j - a.length) 0 := by
  simp only [List.getD, List.getElem?_append]
  split <;> rfl
theorem getD_take (a : List Int) (k j : Nat) (h : j < k) : (a.take k).getD j 0 = a.getD j 0 := by
  simp only [List.getD, List.getElem?_take, if_pos h]
theorem lenK_eq (bs : List Int) (h : bs.length = 64) (n : Nat) : lenK bs n 8 = bs.take 56 ++ lenB n := by
  refine ext_getD (by rw [lenK_len]; simp [h, lenB_len]) fun j hj => ?_
  rw [lenK_len, h] at hj
  rw [lenK_at bs h n 8 (by omega), getD_app]
  have hl : (bs.take 56).length = 56 := by simp; omega
  rw [hl]
  by_cases h1 : j < 56
  · rw [if_neg (by omega), if_pos h1, getD_take _ _ _ h1]
  · rw [if_pos ⟨by omega, hj⟩, if_neg h1, lenB_at n _ (by omega)]
    have e : 56 - 8 * (j - 56) = 8 * (63 - j) := by omega
    rw [e]
theorem lenB_b (n : Nat) : B8s (lenB n) := fun z hz => by
  simp only [lenB, List.mem_map] at hz
  obtain ⟨i, _, rfl⟩ := hz
  omega
/-- Eight bytes of a number that is no nought aren't all noughts. -/
theorem lenB_ne (n : Nat) (h : 0 < n) (hn : n ≤ 1125899906842624) : lenB n ≠ List.replicate 8 0 := fun e => by
  have g : ∀ i, i < 8 → 8 * (n : Int) / 2 ^ (56 - 8 * i) % 256 = 0 := fun i hi => by
    rw [← lenB_at n i hi, e]
    simp only [List.getD, List.getElem?_replicate, if_pos hi, Option.getD_some]
  have g0 := g 7 (by omega)
  have g1 := g 6 (by omega)
  have g2 := g 5 (by omega)
  have g3 := g 4 (by omega)
  have g4 := g 3 (by omega)
  have g5 := g 2 (by omega)
  have g6 := g 1 (by omega)
  simp at g0 g1 g2 g3 g4 g5 g6
  omega

/-- One of the last blocks turns the words, unless it has noughts alone. -/
def fin1 (v e : List Int) : List Int := if e = z64 then v else comp v e
theorem fin1_len {v : List Int} (h : v.length = 8) (e : List Int) : (fin1 v e).length = 8 := by unfold fin1; split; exact h; exact comp_len _ _
theorem fin1_w {v : List Int} (h : U32s v) (e : List Int) : U32s (fin1 v e) := by unfold fin1; split; exact h; exact comp_w h _

theorem z64_at (j : Nat) : z64.getD j 0 = 0 := by
  simp only [z64, List.getD, List.getElem?_replicate]
  split <;> rfl
theorem markB_at {bs : List Int} {a : Nat} (h : bs.length = 64) (ha : a < 64) : (markB bs a).getD a 0 = 128 := by
  unfold markB
  have hl : (bs.take a).length = a := by simp; omega
  rw [getD_app, hl, if_neg (by omega), Nat.sub_self]
  rfl
theorem replicate_add0 (a b : Nat) : List.replicate a (0 : Int) ++ List.replicate b 0 = List.replicate (a + b) 0 := by rw [List.replicate_append_replicate]

theorem padS_len (all : List Int) : (padS all).length = 64 * (all.length / 64 + if all.length % 64 < 56 then 1 else 2) := by
  simp only [padS, List.length_append, List.length_cons, List.length_replicate, lenB_len]
  split <;> omega

/-- What the last blocks do is what the padded bytes' last blocks do. -/
theorem fin_eq {op all : List Int} (h : Tl op all) (hn : all.length ≤ 1125899906842624) :
    fin1 (fin1 (blkN all (all.length / 64)) ((endsS op all.length).take 64)) ((endsS op all.length).drop 64) = blkN (padS all) ((padS all).length / 64) := by
  obtain ⟨h1, _, h3⟩ := h
  have ha : all.length % 64 < 64 := by omega
  have hml := markB_len h1 ha
  have hp : (padS all).length = _ := padS_len all
  have hpre : blkN (padS all) (all.length / 64) = blkN all (all.length / 64) := by
    unfold padS
    rw [List.append_assoc]
    exact blkN_app _ _ _ (by omega)
  have hdrop : (padS all).drop (64 * (all.length / 64)) = op.take (all.length % 64) ++ 128 :: List.replicate ((119 - all.length % 64) % 64) 0 ++ lenB all.length := by
    unfold padS
    rw [List.append_assoc, List.drop_append_of_le_length (by omega), ← h3, List.append_assoc]
  have htl : (op.take (all.length % 64)).length = all.length % 64 := by simp; omega
  have ne1 : markB op (all.length % 64) ≠ z64 := fun e => by
    have := markB_at h1 ha
    rw [e, z64_at] at this
    omega
  by_cases h56 : all.length % 64 < 56
  · rw [if_pos h56] at hp
    have e1 : endsS op all.length = lenK (markB op (all.length % 64)) all.length 8 ++ z64 := by unfold endsS z64; rw [if_pos h56]
    have hkl : (lenK (markB op (all.length % 64)) all.length 8).length = 64 := by rw [lenK_len]; exact hml
    have ne0 : lenK (markB op (all.length % 64)) all.length 8 ≠ z64 := fun e => by
      have h5 := lenK_at (markB op (all.length % 64)) hml all.length 8 (by omega) (all.length % 64)
      rw [if_neg (by omega), markB_at h1 ha, e, z64_at] at h5
      omega
    rw [e1, List.take_append_of_le_length (by omega), List.take_of_length_le (by omega), List.drop_append_of_le_length (by omega), List.drop_eq_nil_of_le (by omega), List.nil_append]
    have hq : (padS all).length / 64 = all.length / 64 + 1 := by omega
    rw [hq]
    simp only [fin1, if_neg ne0, if_true, blkN]
    rw [hpre, hdrop]
    congr 1
    rw [List.take_of_length_le (by simp only [List.length_append, List.length_cons, List.length_replicate, lenB_len, htl]; omega), lenK_eq _ hml]
    congr 1
    unfold markB
    rw [List.take_append, htl, List.take_of_length_le (by omega)]
    congr 1
    have e2 : 56 - all.length % 64 = (55 - all.length % 64) + 1 := by omega
    have e3 : (119 - all.length % 64) % 64 = 55 - all.length % 64 := by omega
    rw [e2, List.take_succ_cons, e3, List.take_replicate]
    congr 2
    omega
  · rw [if_neg h56] at hp
    have e1 : endsS op all.length = markB op (all.length % 64) ++ lenK z64 all.length 8 := by unfold endsS; rw [if_neg h56]
    have hz : z64.length = 64 := rfl
    have hk := lenK_eq z64 hz all.length
    have ne2 : lenK z64 all.length 8 ≠ z64 := fun e => by
      rw [hk] at e
      have h6 : lenB all.length = List.replicate 8 0 := by
        have h7 := congrArg (List.drop 56) e
        have h8 : (z64.take 56).length = 56 := rfl
        rw [List.drop_append_of_le_length (by omega), List.drop_eq_nil_of_le (by omega), List.nil_append] at h7
        rw [h7]; rfl
      exact lenB_ne _ (by omega) hn h6
    rw [e1, List.take_append_of_le_length (by omega), List.take_of_length_le (by omega), List.drop_append_of_le_length (by omega), List.drop_eq_nil_of_le (by omega), List.nil_append]
    have hq : (padS all).length / 64 = all.length / 64 + 1 + 1 := by omega
    rw [hq]
    simp only [fin1, if_neg ne1, if_neg ne2, blkN]
    have e64 : 64 * (all.length / 64 + 1) = 64 * (all.length / 64) + 64 := by omega
    have e3 : (119 - all.length % 64) % 64 = (63 - all.length % 64) + 56 := by omega
    have hsplit : (padS all).drop (64 * (all.length / 64)) = markB op (all.length % 64) ++ (List.replicate 56 0 ++ lenB all.length) := by
      rw [hdrop, e3, ← replicate_add0]
      unfold markB
      simp only [List.append_assoc, List.cons_append]
    rw [hpre, e64, ← List.drop_drop, hsplit]
    have hA : (markB op (all.length % 64) ++ (List.replicate 56 0 ++ lenB all.length)).take 64 = markB op (all.length % 64) := by
      rw [List.take_append_of_le_length (by omega), List.take_of_length_le (by omega)]
    have hB : ((markB op (all.length % 64) ++ (List.replicate 56 0 ++ lenB all.length)).drop 64).take 64 = lenK z64 all.length 8 := by
      rw [List.drop_append_of_le_length (by omega), List.drop_eq_nil_of_le (by omega), List.nil_append, List.take_of_length_le (by simp [lenB_len]), hk]
      rfl
    rw [hA, hB]

end Go.Proofs.YtogaakokplobaaaDoor
