/-
  utf8.FullRuneInString and utf.unfinished: whether the bytes of a text begin a rune's and aren't all.
-/
import Derived.Test.YtappnfifhpmekaaDoorUtfEnc
import Derived.Test.YtappnfifhpmekaaDoorUtfTab
import Derived.WalkKit
import Derived.RegionTactic
import Derived.Deep.Draws
import Derived.Deep.QuietTactic
import Derived.Lib.Hide
namespace Go.Proofs.YtappnfifhpmekaaDoor
open Go.RowKit

/-- A string's bytes. -/
def sL (s : ByteArray) : List Int := s.data.toList.map fun b => (b.toNat : Int)
theorem sL_len (s : ByteArray) : (sL s).length = s.size := by simp [sL]
theorem sL_b (s : ByteArray) : ∀ z ∈ sL s, 0 ≤ z ∧ z ≤ 255 := fun z hz => by
  obtain ⟨b, _, rfl⟩ := List.mem_map.1 hz
  have := b.toNat_lt; omega
theorem sL_get {s : ByteArray} {k : Nat} (h : k < s.size) : (sL s).getD k 0 = ((s.get! k).toNat : Int) := by
  rw [Utf8W.get!_of_lt s k h]
  simp [sL, List.getD, List.getElem?_eq_getElem (show k < s.data.toList.length from h)]
  rfl
theorem begN {L : List Int} : begS L = decide (1 ≤ L.length ∧ L.length < szF (L.getD 0 0) ∧ (2 ≤ L.length → okF (L.getD 0 0) (L.getD 1 0) = true) ∧ (3 ≤ L.length → ctF (L.getD 2 0) = true)) := by
  rcases L with _ | ⟨a, _ | ⟨b, _ | ⟨c, _ | ⟨d, t⟩⟩⟩⟩
  · simp [begS]
  · simp [begS]; omega
  · simp [begS]
    by_cases h : okF a b = true <;> simp [h] ; omega
  · simp [begS]
    by_cases h : okF a b = true <;> by_cases h' : ctF c = true <;> simp [h, h'] ; omega
  · simp [begS]
    intro h; rcases szF_le a with e | e | e | e | e <;> omega
/-- What the table says of a first byte. -/
theorem first_sz (x : Nat) (h : x < 256) : (Lib.firstT x = 240 ∧ szF x = 1) ∨ (Lib.firstT x = 241 ∧ szF x = 0) ∨
    (∃ X, Lib.firstT x = X ∧ 2 ≤ X ∧ X < 240 ∧ X % 8 = szF x ∧ 2 ≤ szF x ∧ szF x ≤ 4 ∧ (Lib.accLo (X / 16) : Int) = loF x ∧ (Lib.accHi (X / 16) : Int) = hiF x ∧ X / 16 < 5) := by
  have key : ∀ y : Fin 256, (Lib.firstT y.val = 240 ∧ szF y.val = 1) ∨ (Lib.firstT y.val = 241 ∧ szF y.val = 0) ∨
      (2 ≤ Lib.firstT y.val ∧ Lib.firstT y.val < 240 ∧ Lib.firstT y.val % 8 = szF y.val ∧ 2 ≤ szF y.val ∧ szF y.val ≤ 4 ∧ (Lib.accLo (Lib.firstT y.val / 16) : Int) = loF y.val ∧ (Lib.accHi (Lib.firstT y.val / 16) : Int) = hiF y.val ∧ Lib.firstT y.val / 16 < 5) := by decide +kernel
  rcases key ⟨x, h⟩ with h | h | h
  · exact .inl h
  · exact .inr (.inl h)
  · exact .inr (.inr ⟨_, rfl, h⟩)

set_option maxHeartbeats 1600000 in
set_option maxRecDepth 100000 in
theorem full_any {w : World} (s : ByteArray) (hT : Tabs w) (h0 : 0 < s.size) :
    Calls Tryd.prog 61 #[.string s] w fun e w' => e = .returned (.bool (!begS (sL s))) ∧ Below w.heap.size w w' := by
  obtain ⟨B, hB⟩ : ∃ B, begS (sL s) = B := ⟨_, rfl⟩
  rw [hB]
  rw [begN, sL_len, sL_get h0] at hB
  have hz0 : (0 : Int) < (s.size : Int) := by omega
  obtain ⟨x0, hx0⟩ : ∃ x0, s.get! 0 = x0 := ⟨_, rfl⟩
  have hs0 : s[0]'h0 = x0 := by rw [← hx0]; exact (Utf8W.get!_of_lt s 0 h0).symm
  have l0 := x0.toNat_lt
  rw [hx0] at hB
  have hc0 := hT.u8.1 x0.toNat (by omega)
  rcases first_sz x0.toNat l0 with ⟨hX, hsz⟩ | ⟨hX, hsz⟩ | ⟨X, hX, hX2, hX240, hm, hs2, hs4, hlo, hhi, h5⟩
  · have hBf : B = false := by rw [← hB]; simp; omega
    rw [hX] at hc0
    clear hT hB hX
    subst hBf
    go_enter Tryd.func61, Tryd.ntmps61
    go_wp2
    go_ret
    exact ⟨rfl, Below.refl _ _⟩
  · have hBf : B = false := by rw [← hB]; simp; omega
    rw [hX] at hc0
    clear hT hB hX
    subst hBf
    go_enter Tryd.func61, Tryd.ntmps61
    go_wp2
    go_ret
    exact ⟨rfl, Below.refl _ _⟩
  · have ha := hT.u8.2 (X / 16) (by omega)
    rw [hX] at hc0
    clear hT
    have hXc : X = 2 ∨ X = 19 ∨ X = 3 ∨ X = 35 ∨ X = 52 ∨ X = 4 ∨ X = 68 := by have := Lib.firstT_cases x0.toNat; omega
    clear hX
    have hB' : B = decide (s.size < X % 8 ∧ (2 ≤ s.size → okF x0.toNat ((sL s).getD 1 0) = true) ∧ (3 ≤ s.size → ctF ((sL s).getD 2 0) = true)) := by rw [← hB, hm]; simp only [show 1 ≤ s.size by omega, true_and]
    clear hB
    by_cases hn : X % 8 ≤ s.size
    · have hBf : B = false := by rw [hB']; simp; omega
      clear hB'
      subst hBf
      rcases hXc with rfl | rfl | rfl | rfl | rfl | rfl | rfl
      all_goals
        simp only [Nat.reduceMod] at hn
        have hnz := Int.ofNat_le.2 hn
        go_enter Tryd.func61, Tryd.ntmps61
        go_wp2
        go_ret
        exact ⟨rfl, Below.refl _ _⟩
    have hn' : s.size < X % 8 := by omega
    simp only [hn', true_and] at hB'
    obtain ⟨ha0, ha1⟩ := ha
    rw [hlo] at ha0
    rw [hhi] at ha1
    have hl1 := loF_ge x0.toNat
    have hh1 := hiF_le x0.toNat
    have hok : ∀ y : Int, okF x0.toNat y = decide (loF x0.toNat ≤ y ∧ y ≤ hiF x0.toNat) := fun y => rfl
    generalize loF x0.toNat = lo at ha0 hl1 hok
    generalize hiF x0.toNat = hi at ha1 hh1 hok
    clear hlo hhi hm hs2 hs4
    by_cases hs1 : s.size = 1
    · have hBt : B = true := by rw [hB', hs1]; simp
      clear hB' hok
      subst hBt
      have hd1 : decide ((1 : Int) < (s.size : Int)) = false := by simp; omega
      have hd2 : decide ((2 : Int) < (s.size : Int)) = false := by simp; omega
      rcases hXc with rfl | rfl | rfl | rfl | rfl | rfl | rfl
      all_goals
        simp only [Nat.reduceMod, Nat.reduceDiv, Nat.reduceMul, Nat.reduceAdd] at hn hn' ha0 ha1
        have hnz := Int.ofNat_lt.2 hn'
        go_enter Tryd.func61, Tryd.ntmps61
        go_wp2
        go_quiet (fail)
        go_wp2
        go_ret
        exact ⟨rfl, below_drewN' ((Below.refl _ _).alloc (Nat.le_refl _) _) _⟩
    have hx1' := sL_get (s := s) (k := 1) (by omega)
    obtain ⟨x1, hx1⟩ : ∃ x1, s.get! 1 = x1 := ⟨_, rfl⟩
    have hs1' : s[1]'(by omega) = x1 := by rw [← hx1]; exact (Utf8W.get!_of_lt s 1 (by omega)).symm
    have hz1 : (1 : Int) < (s.size : Int) := by omega
    have hd1 : decide ((1 : Int) < (s.size : Int)) = true := by simp; omega
    rw [hx1] at hx1'
    rw [hx1', hok] at hB'
    clear hok hx1'
    have hXc' : X = 19 ∨ X = 3 ∨ X = 35 ∨ X = 52 ∨ X = 4 ∨ X = 68 := by omega
    clear hXc
    by_cases hb1 : (x1.toNat : Int) < lo
    · have hBt : B = false := by rw [hB']; simp; omega
      clear hB'
      subst hBt
      have hdl : decide ((x1.toNat : Int) < lo) = true := by simpa using hb1
      rcases hXc' with rfl | rfl | rfl | rfl | rfl | rfl
      all_goals
        simp only [Nat.reduceMod, Nat.reduceDiv, Nat.reduceMul, Nat.reduceAdd] at hn hn' ha0 ha1
        have hnz := Int.ofNat_lt.2 hn'
        go_enter Tryd.func61, Tryd.ntmps61
        go_wp2
        go_quiet (fail)
        go_wp2
        go_ret
        exact ⟨rfl, below_drewN' ((Below.refl _ _).alloc (Nat.le_refl _) _) _⟩
    have hdl : decide ((x1.toNat : Int) < lo) = false := by simpa using hb1
    by_cases hb2 : hi < (x1.toNat : Int)
    · have hBt : B = false := by rw [hB']; simp; omega
      clear hB'
      subst hBt
      have hdh : decide (hi < (x1.toNat : Int)) = true := by simpa using hb2
      rcases hXc' with rfl | rfl | rfl | rfl | rfl | rfl
      all_goals
        simp only [Nat.reduceMod, Nat.reduceDiv, Nat.reduceMul, Nat.reduceAdd] at hn hn' ha0 ha1
        have hnz := Int.ofNat_lt.2 hn'
        go_enter Tryd.func61, Tryd.ntmps61
        go_wp2
        go_quiet (fail)
        go_wp2
        go_ret
        exact ⟨rfl, below_drewN' ((Below.refl _ _).alloc (Nat.le_refl _) _) _⟩
    have hdh : decide (hi < (x1.toNat : Int)) = false := by simpa using hb2
    have hin : lo ≤ (x1.toNat : Int) ∧ (x1.toNat : Int) ≤ hi := by omega
    simp only [hin, and_self, decide_true, implies_true, true_and] at hB'
    by_cases hs2 : s.size = 2
    · have hBt : B = true := by rw [hB', hs2]; simp
      clear hB'
      subst hBt
      have hd2 : ¬ ((2 : Int) < (s.size : Int)) := by omega
      rcases hXc' with rfl | rfl | rfl | rfl | rfl | rfl
      all_goals
        simp only [Nat.reduceMod, Nat.reduceDiv, Nat.reduceMul, Nat.reduceAdd] at hn hn' ha0 ha1
        have hnz := Int.ofNat_lt.2 hn'
        go_enter Tryd.func61, Tryd.ntmps61
        go_wp2
        go_quiet (fail)
        go_wp2
        go_ret
        exact ⟨rfl, below_drewN' ((Below.refl _ _).alloc (Nat.le_refl _) _) _⟩
    have hx2' := sL_get (s := s) (k := 2) (by omega)
    obtain ⟨x2, hx2⟩ : ∃ x2, s.get! 2 = x2 := ⟨_, rfl⟩
    have hs2' : s[2]'(by omega) = x2 := by rw [← hx2]; exact (Utf8W.get!_of_lt s 2 (by omega)).symm
    have hz2 : (2 : Int) < (s.size : Int) := by omega
    rw [hx2] at hx2'
    rw [hx2'] at hB'
    clear hx2'
    have hXc : X = 52 ∨ X = 4 ∨ X = 68 := by omega
    clear hXc'
    have hc3 : 3 ≤ s.size := by omega
    have hc2 : ctF (x2.toNat : Int) = decide (128 ≤ (x2.toNat : Int) ∧ (x2.toNat : Int) ≤ 191) := rfl
    rw [hc2] at hB'
    clear hc2
    by_cases hb3 : (x2.toNat : Int) < 128
    · have hBt : B = false := by rw [hB']; simp; omega
      clear hB'
      subst hBt
      rcases hXc with rfl | rfl | rfl
      all_goals
        simp only [Nat.reduceMod, Nat.reduceDiv, Nat.reduceMul, Nat.reduceAdd] at hn hn' ha0 ha1
        have hnz := Int.ofNat_lt.2 hn'
        go_enter Tryd.func61, Tryd.ntmps61
        go_wp2
        go_quiet (fail)
        go_wp2
        go_ret
        exact ⟨rfl, below_drewN' ((Below.refl _ _).alloc (Nat.le_refl _) _) _⟩
    by_cases hb4 : 191 < (x2.toNat : Int)
    · have hBt : B = false := by rw [hB']; simp; omega
      clear hB'
      subst hBt
      rcases hXc with rfl | rfl | rfl
      all_goals
        simp only [Nat.reduceMod, Nat.reduceDiv, Nat.reduceMul, Nat.reduceAdd] at hn hn' ha0 ha1
        have hnz := Int.ofNat_lt.2 hn'
        go_enter Tryd.func61, Tryd.ntmps61
        go_wp2
        go_quiet (fail)
        go_wp2
        go_ret
        exact ⟨rfl, below_drewN' ((Below.refl _ _).alloc (Nat.le_refl _) _) _⟩
    have hBt : B = true := by rw [hB']; simp; omega
    clear hB'
    subst hBt
    rcases hXc with rfl | rfl | rfl
    all_goals
      simp only [Nat.reduceMod, Nat.reduceDiv, Nat.reduceMul, Nat.reduceAdd] at hn hn' ha0 ha1
      have hnz := Int.ofNat_lt.2 hn'
      go_enter Tryd.func61, Tryd.ntmps61
      go_wp2
      go_quiet (fail)
      go_wp2
      go_ret
      exact ⟨rfl, below_drewN' ((Below.refl _ _).alloc (Nat.le_refl _) _) _⟩

theorem unfinished_any {w : World} (s : ByteArray) (hT : Tabs w) (h0 : 0 < s.size) :
    Calls Tryd.prog 53 #[.string s] w fun e w' => e = .returned (.bool (begS (sL s))) ∧ Below w.heap.size w w' := by
  have H := Lib.hid (full_any s hT h0)
  clear hT h0
  obtain ⟨B, hB⟩ : ∃ B, begS (sL s) = B := ⟨_, rfl⟩
  rw [hB] at H ⊢
  go_enter Tryd.func53, Tryd.ntmps53
  go_wp2_with fail
  refine H.out.mono ?_
  rintro e w1 ⟨rfl, hb1⟩
  go_wp2_with fail
  go_ret
  exact ⟨by cases B <;> rfl, hb1⟩
end Go.Proofs.YtappnfifhpmekaaDoor
