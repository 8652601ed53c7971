/-
  The text that a number names (the code's), to where it leads (the reference's), and what is more than is gone through.
-/
import Derived.Test.YtbjgjhhombalpaaLinksMay
namespace Go.Proofs.Ytbjgjhhombalpaa
open Go.RowKit

theorem retSL {a b : ByteArray} (h : a = b) : Ending.returned (.string a) = .returned (.string b) := by rw [h]
theorem textI_no {t : List ByteArray} {z : Int} (h : z < 1 ∨ (t.length : Int) < z) : textI t z = eT := by unfold textI; rw [if_pos h]
theorem textI_yes {t : List ByteArray} {z : Int} (h1 : 1 ≤ z) (h2 : z ≤ t.length) : textI t z = sAt t (z.toNat - 1) := by unfold textI; rw [if_neg (by omega)]
set_option maxHeartbeats 400000 in
theorem textT_any {w : World} {A : Option Addr} {n c : Nat} {L : List ByteArray} (h : Vs stV w A n L) (z : Int) (h0 : 0 ≤ z) (h1 : z ≤ 65535) (hn : n ≤ 140737488351232) :
    Calls Try.prog 25 #[.slice A n c, .int .u16 z] w fun e w' => e = .returned (.string (textI L z)) ∧ w = w' := by
  have HL := Lib.hid h.len
  by_cases hz : z < 1
  · have HR : Hid (textI L z = eT) := Lib.hid (textI_no (Or.inl hz))
    clear h
    go_enter Try.func25, Try.ntmps25
    go_wp2
    go_ret
    exact ⟨retSL HR.out.symm, rfl⟩
  · by_cases hl : (n : Int) < z
    · have HR : Hid (textI L z = eT) := Lib.hid (textI_no (Or.inr (by rw [HL.out]; exact hl)))
      clear h
      go_enter Try.func25, Try.ntmps25
      go_wp2
      go_ret
      exact ⟨retSL HR.out.symm, rfl⟩
    · obtain ⟨k, rfl⟩ : ∃ k : Nat, z = (k : Int) + 1 := ⟨(z - 1).toNat, by omega⟩
      have hk : k < n := by omega
      obtain ⟨ad, rfl⟩ := h.addr (by omega)
      have hc := h.str hk
      have HR : Hid (textI L ((k : Int) + 1) = sAt L k) := Lib.hid (by
        rw [textI_yes (by omega) (by rw [HL.out]; omega)]
        congr 1)
      clear h HL
      generalize sAt L k = x at hc HR
      go_enter Try.func25, Try.ntmps25
      go_wp2
      go_ret
      exact ⟨retSL HR.out.symm, rfl⟩

theorem leadsS_no {t : List ByteArray} {z : Int} (h : textI t z = eT) : leadsS t z = eT := by unfold leadsS; rw [h, eT_not]; rfl
set_option maxHeartbeats 800000 in
theorem leadsT_any {w : World} {A : Option Addr} {n c : Nat} {L : List ByteArray} (h : Vs stV w A n L) (z : Int) (h0 : 0 ≤ z) (h1 : z ≤ 65535) (hn : n ≤ 140737488351232) (hs : ∀ s ∈ L, s.size ≤ 140737488351232) :
    Calls Try.prog 24 #[.slice A n c, .int .u16 z] w fun e w' => e = .returned (.string (leadsS L z)) ∧ w = w' := by
  have HL := Lib.hid h.len
  by_cases hz : z = 0
  · have HR : Hid (leadsS L z = eT) := Lib.hid (leadsS_no (textI_no (Or.inl (by omega))))
    clear h hs
    subst hz
    go_enter Try.func24, Try.ntmps24
    go_wp2
    go_ret
    exact ⟨retSL HR.out.symm, rfl⟩
  · by_cases hl : (n : Int) < z
    · have HR : Hid (leadsS L z = eT) := Lib.hid (leadsS_no (textI_no (Or.inr (by rw [HL.out]; exact hl))))
      clear h hs
      have hz' : (z == 0) = false := by simpa using hz
      go_enter Try.func24, Try.ntmps24
      go_wp2
      go_ret
      exact ⟨retSL HR.out.symm, rfl⟩
    · obtain ⟨k, rfl⟩ : ∃ k : Nat, z = (k : Int) + 1 := ⟨(z - 1).toNat, by omega⟩
      have hk : k < n := by omega
      obtain ⟨ad, rfl⟩ := h.addr (by omega)
      have hc := h.str hk
      have hx := hs _ (sAt_mem (l := L) (k := k) (by rw [HL.out]; exact hk))
      have HR : Hid (leadsS L ((k : Int) + 1) = if mayT (sAt L k) = true then sAt L k else eT) := Lib.hid (by
        unfold leadsS
        rw [textI_yes (by omega) (by rw [HL.out]; omega)]
        rfl)
      clear h HL hs hz
      have hz' : ((k : Int) + 1 == 0) = false := by simp; omega
      generalize sAt L k = x at hc HR hx
      obtain ⟨B, hB⟩ : ∃ B, mayT x = B := ⟨_, rfl⟩
      have HB := Lib.hid hB
      clear hB
      go_enter Try.func24, Try.ntmps24
      go_wp2_with fail
      refine (refMayT_any x _ hx).mono ?_
      rintro e w' ⟨rfl, rfl⟩
      rw [HB.out]
      cases B
      · have HRR : Hid (leadsS L ((k : Int) + 1) = eT) := Lib.hid (by rw [HR.out, HB.out]; rfl)
        go_wp2_with fail
        go_ret
        exact ⟨retSL HRR.out.symm, rfl⟩
      · have HRR : Hid (leadsS L ((k : Int) + 1) = x) := Lib.hid (by rw [HR.out, HB.out]; rfl)
        go_wp2_with fail
        go_ret
        exact ⟨retSL HRR.out.symm, rfl⟩

/-- All that is gone through of a table. -/
def sumT (l : List ByteArray) : Nat := (l.map fun s => 1 + s.size).sum
theorem sumT_snoc (l : List ByteArray) (s : ByteArray) : sumT (l ++ [s]) = sumT l + (1 + s.size) := by simp [sumT]
theorem sumT_append (l m : List ByteArray) : sumT (l ++ m) = sumT l + sumT m := by simp [sumT]
theorem sumT_take (l : List ByteArray) (k : Nat) : sumT (l.take k) ≤ sumT l := by
  conv => rhs; rw [← List.take_append_drop k l]
  rw [sumT_append]; omega
theorem sumT_len (l : List ByteArray) : l.length ≤ sumT l := by
  induction l with
  | nil => exact Nat.zero_le _
  | cons a l ih => simp [sumT] at ih ⊢; omega
theorem sumT_mem {l : List ByteArray} {s : ByteArray} (h : s ∈ l) : s.size ≤ sumT l := by
  induction l with
  | nil => cases h
  | cons a l ih =>
    rcases List.mem_cons.1 h with rfl | h
    · simp [sumT]; omega
    · have := ih h; simp [sumT] at this ⊢; omega
def greatT (m : Nat) (l : List ByteArray) : Bool := decide (16384 < sumT l) || decide (3000 < m)
theorem greatT_no {m : Nat} {l : List ByteArray} (h : greatT m l = false) : sumT l ≤ 16384 ∧ m ≤ 3000 := by
  unfold greatT at h
  simp only [Bool.or_eq_false_iff, decide_eq_false_iff_not] at h
  omega
set_option maxHeartbeats 400000 in
theorem greatT_any {w : World} {A A' : Option Addr} {n c m c' : Nat} {L : List ByteArray} (h : Vs stV w A n L) (hn : n ≤ 140737488351232) (hm : m ≤ 9223372036854775807) (hs : ∀ s ∈ L, s.size ≤ 140737488351232) :
    Calls Try.prog 15 #[.slice A' m c', .slice A n c] w fun e w' => e = .returned (.bool (greatT m L)) ∧ w = w' := by
  have H := Lib.hid h
  have HS := Lib.hid hs
  clear h hs
  go_enter Try.func15, Try.ntmps15
  go_wp2
  go_loop [5, 10] (fun t i => ∃ k z : Nat, k ≤ n ∧ i = .int .i64 k ∧ t = .int .i64 z ∧ z = sumT (L.take k) ∧ z ≤ 16384) (fun _ i => n - (intOf i).toNat)
  case atStart => exact ⟨0, 0, Nat.zero_le _, rfl, rfl, by simp [sumT], by omega⟩
  case round =>
    obtain ⟨k, z, hk, rfl, rfl, hz, hz1⟩ := hrel
    have HZ := Lib.hid hz
    clear hz
    by_cases hlt : k < n
    · obtain ⟨ad, rfl⟩ := H.out.addr (by omega)
      have hc := H.out.str hlt
      have hx := HS.out _ (sAt_mem (l := L) (k := k) (by rw [H.out.len]; exact hlt))
      have HT : Hid (sumT (L.take (k + 1)) = z + (1 + (sAt L k).size)) := Lib.hid (by rw [take_snocT (by rw [H.out.len]; exact hlt), sumT_snoc, HZ.out])
      generalize sAt L k = x at hc HT hx
      by_cases hg : 16384 < z + (1 + x.size)
      · have HR : Hid (greatT m L = true) := Lib.hid (by
          have h1 := sumT_take L (k + 1)
          rw [HT.out] at h1
          unfold greatT
          rw [decide_eq_true (show 16384 < sumT L by omega)]
          rfl)
        have hg1 : decide ((16384 : Int) < (z : Int) + (1 + (x.size : Int))) = true := by rw [decide_eq_true_eq]; omega
        go_wp2
        go_ret
        exact ⟨retBL HR.out.symm, rfl⟩
      · have hg1 : decide ((16384 : Int) < (z : Int) + (1 + (x.size : Int))) = false := by rw [decide_eq_false_iff_not]; omega
        go_wp2
        go_round
        case rel => exact ⟨k + 1, z + (1 + x.size), by omega, by go_num, by go_num, HT.out.symm, by omega⟩
        case measure => simp [intOf]; omega
    · have HR : Hid (greatT m L = decide (3000 < m)) := Lib.hid (by
        have h1 := HZ.out
        rw [List.take_of_length_le (by rw [H.out.len]; omega)] at h1
        unfold greatT
        rw [decide_eq_false (show ¬ 16384 < sumT L by omega)]
        rfl)
      go_wp2
      go_ret
      exact ⟨retBL (HR.out.trans (by rw [decide_eq_decide]; omega)).symm, rfl⟩
end Go.Proofs.Ytbjgjhhombalpaa
