/-
  The reference's begins: whether some bytes behind these make a rune's of them.
-/
import Derived.Test.YtpikbekcdbfdhaaDoorUtfWhole
import Derived.Test.YtpikbekcdbfdhaaDoorUtfMem
import Derived.Laws.CopyOwn
import Derived.OwnWalk
namespace Go.Proofs.YtpikbekcdbfdhaaDoor
open Go.RowKit

theorem whole_len {w : World} {A : Option Addr} {n cc : Nat} {zs : List Int} (hs : Sb w A n zs) (hn : n = 0 ∨ 5 ≤ n) (_ : n ≤ 1000000) :
    Calls Tryd.prog 27 #[.slice A n cc] w fun e w' => e = .returned (wholeV zs) ∧ Below w.heap.size w w' := by
  have hz : wholeV zs = .tuple #[.int .i32 0, .bool false] := by
    apply whole_no
    have := hs.len
    rcases zs with _ | ⟨a, _ | ⟨b, _ | ⟨c, _ | ⟨d, _ | ⟨e, t⟩⟩⟩⟩⟩ <;> simp at this <;> first | (exfalso; omega) | rfl
  rw [hz]
  have n1 : ¬ (n : Int) = 1 := by omega
  have n2 : ¬ (n : Int) = 2 := by omega
  have n3 : ¬ (n : Int) = 3 := by omega
  have n4 : ¬ (n : Int) = 4 := by omega
  clear hs hz
  go_enter Tryd.func27, Tryd.ntmps27
  go_wp2
  go_ret2
  exact ⟨rfl, Below.refl _ _⟩
theorem whole_any {w : World} {A : Option Addr} {n cc : Nat} {zs : List Int} (hs : Sb w A n zs) (h8 : U8s zs) (hm : n ≤ 1000000) :
    Calls Tryd.prog 27 #[.slice A n cc] w fun e w' => e = .returned (wholeV zs) ∧ Below w.heap.size w w' := by
  have hl := hs.len
  rcases zs with _ | ⟨a, _ | ⟨b, _ | ⟨c, _ | ⟨d, _ | ⟨e, t⟩⟩⟩⟩⟩
  · exact whole_len hs (by simp at hl; omega) hm
  · obtain rfl : n = 1 := by simpa using hl.symm
    exact whole_1 hs h8
  · obtain rfl : n = 2 := by simpa using hl.symm
    exact whole_2 hs h8
  · obtain rfl : n = 3 := by simpa using hl.symm
    exact whole_3 hs h8
  · obtain rfl : n = 4 := by simpa using hl.symm
    exact whole_4 hs h8
  · exact whole_len hs (by simp at hl; omega) hm

/-- With bytes behind them a rune's: they begin one. -/
theorem beg_yes {zs ext : List Int} {r : Int} (hz : zs ≠ []) (he : ext ≠ []) (h : wholeS (zs ++ ext) = some r) : begS zs = true := by
  rcases ext with _ | ⟨e1, _ | ⟨e2, _ | ⟨e3, _ | ⟨e4, t⟩⟩⟩⟩ <;> rcases zs with _ | ⟨a, _ | ⟨b, _ | ⟨c, _ | ⟨d, t'⟩⟩⟩⟩ <;> simp [wholeS, begS] at hz he h ⊢ <;> first | exact ⟨by omega, h.1.2.1⟩ | exact ⟨by omega, h.1.2.1, h.1.2.2.1⟩ | exact ⟨by omega, h.1.2⟩ | omega | skip
/-- No candidate of m bytes is a rune's. -/
def no1 (a : Int) (m : Nat) : Prop := ∀ j : Nat, j < 64 → wholeS (a :: (128 + (j : Int)) :: List.replicate (m - 2) 128) = none
def noN (zs : List Int) (m : Nat) : Prop := wholeS (zs ++ List.replicate (m - zs.length) 128) = none
theorem beg_no1 {a : Int} (h : ∀ m, 2 ≤ m → m ≤ 4 → no1 a m) : begS [a] = false := by
  cases hb : begS [a] with
  | false => rfl
  | true =>
    exfalso
    have h2 : 2 ≤ szF a := by simpa [begS] using hb
    have h4 : szF a ≤ 4 := by rcases szF_le a with e | e | e | e | e <;> omega
    have hl := loF_ge a
    have hok := lo_hi a
    obtain ⟨j, hj⟩ : ∃ j : Nat, (j : Int) = loF a - 128 := ⟨(loF a - 128).toNat, by omega⟩
    have h5 := h (szF a) h2 h4 j (by omega)
    rw [hj, show (128 : Int) + (loF a - 128) = loF a by omega] at h5
    have hs : szF a = 2 ∨ szF a = 3 ∨ szF a = 4 := by omega
    rcases hs with hs | hs | hs <;> rw [hs] at h5 <;> simp [wholeS, hs, hok, ctF, List.replicate] at h5
theorem beg_noN {zs : List Int} (hz : zs.length = 2 ∨ zs.length = 3) (h : ∀ m, zs.length < m → m ≤ 4 → noN zs m) : begS zs = false := by
  cases hb : begS zs with
  | false => rfl
  | true =>
    exfalso
    rcases zs with _ | ⟨a, _ | ⟨b, _ | ⟨c, _ | ⟨d, t⟩⟩⟩⟩ <;> simp at hz
    · simp [begS] at hb
      have h3 := h 3 (by simp) (by omega)
      have h4 := h 4 (by simp) (by omega)
      have hs : szF a = 3 ∨ szF a = 4 := by rcases szF_le a with e | e | e | e | e <;> omega
      rcases hs with hs | hs
      · simp [noN, wholeS, hs, hb, ctF] at h3
      · simp [noN, wholeS, hs, hb, ctF, List.replicate] at h4
    · simp [begS] at hb
      have h4 := h 4 (by simp) (by omega)
      have hs : szF a = 4 := by rcases szF_le a with e | e | e | e | e <;> omega
      simp [noN, wholeS, hs, hb] at h4
      simp [ctF] at h4

/-- A row of bytes, its whole block. -/
def Rw8 (w : World) (g : Nat) (L : List Int) : Prop := w.heap[g]? = some (.cells (L.map (Value.int .u8)).toArray 5 (0, 0))
theorem Rw8.lt {w : World} {g : Nat} {L : List Int} (h : Rw8 w g L) : g < w.heap.size := (Array.getElem?_eq_some_iff.1 h).1
theorem Rw8.cell {w : World} {g : Nat} {L : List Int} (h : Rw8 w g L) {k : Nat} (hk : k < L.length) : w.cell? ⟨g, k, none⟩ = some (.int .u8 (L.getD k 0)) := by
  rw [cell_of_row _ _ k _ _ _ h, List.getElem?_toArray, List.getElem?_map, List.getD, List.getElem?_eq_getElem hk]; rfl
theorem Rw8.free {w : World} {g : Nat} {L : List Int} (h : Rw8 w g L) (k : Nat) : w.frozen? ⟨g, k, none⟩ = false := frozen_of_row _ _ k _ _ h
theorem Rw8.set {w : World} {g : Nat} {L : List Int} (h : Rw8 w g L) (k : Nat) (z : Int) : Rw8 (w.setCell ⟨g, k, none⟩ (.int .u8 z)) g (L.set k z) := by
  have := heap_setCell_same w g k _ _ (.int .u8 z) h
  unfold Rw8
  rw [this]
  congr 2
  apply Array.ext'
  simp [List.map_set]
theorem Rw8.below {w w' : World} {g : Nat} {L : List Int} (h : Rw8 w g L) (hb : Below w.heap.size w w') : Rw8 w' g L := (hb.block g h.lt).trans h
theorem Rw8.sb {w : World} {g : Nat} {L : List Int} (h : Rw8 w g L) : Sb w (some ⟨g, 0, none⟩) L.length L := ⟨rfl, fun _ => ⟨_, rfl, h.lt, fun k hk => by rw [addHead]; exact h.cell hk⟩⟩
theorem Rw8.made {w : World} {base g n : Nat} (h : w.ownsRow base 5 1 (.slice (some ⟨g, 0, none⟩) n n) n (madeCells #[Value.int .u8 0] n).toList) : Rw8 w g (List.replicate n 0) := by
  rcases h.2 with ⟨h1, _⟩ | ⟨g', cap, cur, h1, hb, hg, hle, hm, hcs, ht⟩
  · cases h1
  · injection h1 with h2 _ h3
    injection h2 with h2
    injection h2 with h2
    subst h2
    subst h3
    have : cur.toList = (madeCells #[Value.int .u8 0] n).toList := by rw [← ht]; exact (List.take_of_length_le (by simpa using Nat.le_of_eq hcs)).symm
    unfold Rw8
    rw [hg]
    congr 2
    apply Array.ext'
    rw [this, toList_madeCells_one]
    simp
theorem fill_set (m k : Nat) (v y : Int) : (List.replicate k v ++ y :: List.replicate (m - (k + 1)) 0).set k v = List.replicate (k + 1) v ++ List.replicate (m - (k + 1)) 0 := by
  rw [List.set_append_right _ _ (by simp)]
  simp [List.replicate_succ']
theorem fill_row {m k : Nat} (h : k < m) (v : Int) : List.replicate k v ++ List.replicate (m - k) 0 = List.replicate k v ++ (0 : Int) :: List.replicate (m - (k + 1)) 0 := by
  rw [show m - k = (m - (k + 1)) + 1 by omega, List.replicate_succ]
end Go.Proofs.YtpikbekcdbfdhaaDoor
