/-
  Layer 4 in plain terms: a key's block, a code, what is told.
-/
import Derived.Test.YtogaakokplobaaaDoorShaSum
import Derived.Test.YtogaakokplobaaaDoorWireSpec
import Derived.Laws.BitsAllLaws
namespace Go.Proofs.YtogaakokplobaaaDoor
open Go.RowKit

theorem xor8_in {a b : Int} (ha : 0 ≤ a ∧ a ≤ 255) (hb : 0 ≤ b ∧ b ≤ 255) : 0 ≤ bits .xor .u8 a b ∧ bits .xor .u8 a b ≤ 255 := by
  rw [u8_xor a b ha.1 (by omega) hb.1 (by omega)]
  have := Nat.xor_lt_two_pow (n := 8) (x := a.toNat) (y := b.toNat) (by omega) (by omega)
  omega
theorem or8_in {a b : Int} (ha : 0 ≤ a ∧ a ≤ 255) (hb : 0 ≤ b ∧ b ≤ 255) : 0 ≤ bits .or .u8 a b ∧ bits .or .u8 a b ≤ 255 := by
  rw [u8_or a b ha.1 (by omega) hb.1 (by omega)]
  have := Nat.or_lt_two_pow (n := 8) (x := a.toNat) (y := b.toNat) (by omega) (by omega)
  omega
theorem xor8_zero {a b : Int} (ha : 0 ≤ a ∧ a ≤ 255) (hb : 0 ≤ b ∧ b ≤ 255) : bits .xor .u8 a b = 0 ↔ a = b := by
  rw [u8_xor a b ha.1 (by omega) hb.1 (by omega)]
  constructor
  · intro h
    have h1 : a.toNat ^^^ b.toNat = 0 := by omega
    have h2 : a.toNat = b.toNat := by
      have h3 := congrArg (· ^^^ b.toNat) h1
      simpa [Nat.xor_assoc] using h3
    omega
  · rintro rfl
    simp
theorem or8_zero {a b : Int} (ha : 0 ≤ a ∧ a ≤ 255) (hb : 0 ≤ b ∧ b ≤ 255) : bits .or .u8 a b = 0 ↔ a = 0 ∧ b = 0 := by
  rw [u8_or a b ha.1 (by omega) hb.1 (by omega)]
  constructor
  · intro h
    have h1 : a.toNat ||| b.toNat = 0 := by omega
    have h2 := Nat.or_eq_zero_iff.1 h1
    omega
  · rintro ⟨rfl, rfl⟩
    simp

/-- All bytes turned with one. -/
def xorL (p : Int) (l : List Int) : List Int := l.map fun z => bits .xor .u8 z p
/-- The first k of them. -/
def xorK (p : Int) (l : List Int) (k : Nat) : List Int := (l.take k).map (fun z => bits .xor .u8 z p) ++ l.drop k
theorem xorL_len (p : Int) (l : List Int) : (xorL p l).length = l.length := by simp [xorL]
theorem xorK_len (p : Int) (l : List Int) (k : Nat) : (xorK p l k).length = l.length := by simp [xorK]; omega
theorem xorK_zero (p : Int) (l : List Int) : xorK p l 0 = l := by simp [xorK]
theorem xorK_all (p : Int) (l : List Int) : xorK p l l.length = xorL p l := by simp [xorK, xorL]
theorem xorK_at (p : Int) (l : List Int) (k : Nat) : (xorK p l k).getD k 0 = l.getD k 0 := by
  by_cases hk : k < l.length
  · have h1 : ((l.take k).map (fun z => bits .xor .u8 z p)).length = k := by simp; omega
    simp only [List.getD, xorK]
    rw [List.getElem?_append_right (by omega), h1]
    simp
  · simp only [List.getD]
    rw [List.getElem?_eq_none (by rw [xorK_len]; omega), List.getElem?_eq_none (by omega)]
theorem xorK_set (p : Int) (l : List Int) (k : Nat) (hk : k < l.length) : (xorK p l k).set k (bits .xor .u8 (l.getD k 0) p) = xorK p l (k + 1) := by
  have h1 : ((l.take k).map (fun z => bits .xor .u8 z p)).length = k := by simp; omega
  have h2 : l.drop k = l[k] :: l.drop (k + 1) := List.drop_eq_getElem_cons hk
  unfold xorK
  rw [List.set_append_right _ _ (by omega), h1, h2, Nat.sub_self, List.set_cons_zero, List.take_succ_eq_append_getElem hk, List.map_append]
  simp [List.getD, List.getElem?_eq_getElem hk]
theorem xorL_b {p : Int} {l : List Int} (hp : 0 ≤ p ∧ p ≤ 255) (h : B8s l) : B8s (xorL p l) := fun z hz => by
  obtain ⟨y, hy, rfl⟩ := List.mem_map.1 hz
  exact xor8_in (h y hy) hp
theorem xorL_snoc (p : Int) (l : List Int) (k : Nat) (hk : k < l.length) : xorL p (l.take (k + 1)) = xorL p (l.take k) ++ [bits .xor .u8 (l.getD k 0) p] := by
  unfold xorL
  rw [List.take_succ_eq_append_getElem hk, List.map_append]
  simp [List.getD, List.getElem?_eq_getElem hk]

/-- A key's block. -/
def keyB (key : List Int) : List Int := if 64 < key.length then shaS key else key
def padZ (k : List Int) : List Int := k ++ List.replicate (64 - k.length) 0
def blkS (key : List Int) : List Int := padZ (keyB key)
def macS (key bs : List Int) : List Int := shaS (xorL 92 (blkS key) ++ shaS (xorL 54 (blkS key) ++ bs))
def toldS (label : List Int) (L : List (List Int)) : List Int := varL label.length ++ label ++ (L.map fun z => varL z.length ++ z).flatten

theorem keyB_len (key : List Int) : (keyB key).length ≤ 64 := by
  unfold keyB
  split
  · rw [shaS_len]; omega
  · omega
theorem padZ_len {k : List Int} (h : k.length ≤ 64) : (padZ k).length = 64 := by simp [padZ]; omega
theorem blkS_len (key : List Int) : (blkS key).length = 64 := padZ_len (keyB_len key)
theorem macS_len (key bs : List Int) : (macS key bs).length = 32 := shaS_len _
theorem padZ_b {k : List Int} (h : B8s k) : B8s (padZ k) := fun z hz => by
  rcases List.mem_append.1 hz with hz | hz
  · exact h z hz
  · have := List.eq_of_mem_replicate hz; omega
theorem padZ_nil : padZ [] = List.replicate 64 0 := by simp [padZ]
theorem padZ_set (l : List Int) (k : Nat) (hk : k < l.length) (h : l.length ≤ 64) : (padZ (l.take k)).set k (l.getD k 0) = padZ (l.take (k + 1)) := by
  have h1 : (l.take k).length = k := by simp; omega
  have h2 : (l.take (k + 1)).length = k + 1 := by simp; omega
  unfold padZ
  rw [h1, h2, List.set_append_right _ _ (by omega), h1, Nat.sub_self, show 64 - k = (64 - (k + 1)) + 1 by omega, List.replicate_succ, List.set_cons_zero, List.take_succ_eq_append_getElem hk, List.append_assoc]
  simp [List.getD, List.getElem?_eq_getElem hk]

end Go.Proofs.YtogaakokplobaaaDoor
