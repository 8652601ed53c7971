/-
  Contract of the reference's Check.
-/
import Derived.Test.YtkmobiggcehpbaaGuardRef
namespace Go.Proofs.Ytkmobiggcehpbaa
open Go.RowKit

set_option maxHeartbeats 1600000 in
theorem refGCheck_any {w : World} {A : Option Addr} {n c : Nat} {L : List Int} (h : Ik .u64 w A n L) (hu : U64s L) (hn : n ≤ 9223372036854775807) (m : Int) (h0 : 0 ≤ m) (h1 : m ≤ 18446744073709551615) :
    Calls Try.prog 10 #[.agg #[.slice A n c], .int .u64 m] w fun e w' => e = .returned (.int .i64 (chk m L)) ∧ Below w.heap.size w w' := by
  have H := Lib.hid (And.intro h hu)
  have hl := Lib.hid h.len
  have B1 := Lib.hid (show Below w.heap.size w (w.alloc (.cells #[.slice A n c] 27)) from (Below.refl _ _).alloc (Nat.le_refl _) _)
  have htop := refTop_any (c := c) (h.below B1.out) hu hn
  have hbl := heap_alloc_new w (.cells #[.slice A n c] 27)
  have HBL := Lib.hid hbl
  have hold := Lib.hid (topL_old (L := L) h0 (fun x hx => (hu x hx).1))
  have htr := (show 0 ≤ topL L ∧ topL L ≤ 18446744073709551615 from by
    have h3 := topL_ge L 0
    have h4 := topL_or L 0
    change 0 ≤ topL L ∧ _ at h3
    change topL L = 0 ∨ topL L ∈ L at h4
    refine ⟨h3.1, ?_⟩
    rcases h4 with h4 | h4
    · omega
    · exact (hu _ h4).2)
  clear h hu hbl
  by_cases hbig : 4611686018427387904 < m
  · have HE := Lib.hid (chk_over (L := L) hbig)
    clear htop
    go_enter Try.func10, Try.ntmps10
    go_wp2
    go_ret
    exact ⟨gRetI HE.out.symm, B1.out⟩
  · obtain ⟨t, ht⟩ : ∃ t, t = topL L := ⟨_, rfl⟩
    rw [← ht] at htop hold htr
    obtain ⟨ht0, ht1⟩ := htr
    obtain ⟨w0, hw0⟩ : ∃ w0, w0 = w.alloc (.cells #[.slice A n c] 27) := ⟨_, rfl⟩
    have HX : Hid (∀ w1, Below w0.heap.size w0 w1 → w1.cell? ⟨w.heap.size, 0, none⟩ = some (.slice A n c) ∧ Below w.heap.size w w1) := fun w1 hb => by
      rw [← hw0] at HBL B1
      have hlt := lt_of_block HBL.out
      refine ⟨?_, B1.out.trans (hb.mono B1.out.size)⟩
      rw [hb.cell (by exact hlt), cell_of_row _ _ 0 _ _ _ HBL.out]
      rfl
    have HC : Hid ((m ∈ L → chk m L = 10) ∧ (¬ (∃ x ∈ L, m + 64 ≤ x) → m ∉ L → chk m L = 0) ∧ ((∃ x ∈ L, m + 64 ≤ x) → chk m L = 10)) := by
      refine ⟨fun hm => ?_, fun h2 h3 => ?_, fun h2 => ?_⟩
      · unfold chk; rw [if_neg hbig, if_pos (.inr hm)]
      · unfold chk; rw [if_neg hbig, if_neg (fun e => e.elim h2 h3)]
      · unfold chk; rw [if_neg hbig, if_pos (.inl h2)]
    rw [← hw0] at htop
    clear B1 HBL
    by_cases hO : L ≠ [] ∧ m < t ∧ 64 ≤ t - m
    · have hE := Lib.hid (HC.out.2.2 (hold.out.2 hO))
      obtain ⟨hne, hlt, h64⟩ := hO
      have he : (!L.isEmpty) = true := by cases L with | nil => exact absurd rfl hne | cons x r => rfl
      rw [he] at htop
      clear hne HC he
      go_enter Try.func10, Try.ntmps10
      go_wp2_with fail
      rw [← hw0]
      refine htop.mono ?_
      rintro e w1 ⟨rfl, hb⟩
      have HB := Lib.hid (HX.out w1 hb).2
      clear hb htop hw0 HX
      go_wp2_with fail
      go_ret
      exact ⟨gRetI hE.out.symm, HB.out⟩
    · have HC := Lib.hid (And.intro HC.out.1 (HC.out.2.1 (fun e => hO (hold.out.1 e))))
      by_cases hne : L = []
      · have he : (!L.isEmpty) = false := by rw [hne]; rfl
        rw [he] at htop
        clear hO hold hne he
        go_enter Try.func10, Try.ntmps10
        go_wp2_with fail
        rw [← hw0]
        refine htop.mono ?_
        rintro e w1 ⟨rfl, hb⟩
        have HB := Lib.hid (HX.out w1 hb).2
        have hcb := (HX.out w1 hb).1
        clear hb htop hw0 HX
        go_wp2_with fail
        go_loopw [7] (fun i wr => ∃ k : Nat, k ≤ n ∧ i = .int .i64 k ∧ m ∉ L.take k ∧ wr = w1) (fun i _ => n - (intOf i).toNat)
        case atStart => exact ⟨0, Nat.zero_le _, rfl, by simp, rfl⟩
        case round =>
          obtain ⟨k, hk, rfl, hnm, rfl⟩ := hrel
          by_cases hlt : k < n
          · have hkl : (k : Int) < (n : Int) := by omega
            obtain ⟨ad, rfl, hblt, hcz⟩ := H.out.1.at_ (by omega)
            have hs := Lib.hid (fun (hm : L.getD k 0 ≠ m) => mem_take_step (L := L) (k := k) (n := m) (by rw [hl.out]; exact hlt) hnm hm)
            have hin := Lib.hid (show L.getD k 0 ∈ L from by rw [getD_lt (by rw [hl.out]; exact hlt)]; exact List.getElem_mem _)
            obtain ⟨z, hz⟩ : ∃ z, z = L.getD k 0 := ⟨_, rfl⟩
            have hcell : wr.cell? (ad.add k) = some (.int .u64 z) := by
              rw [hz]
              exact (HB.out.cell (by rw [addBlock]; exact hblt)).trans (hcz k hlt)
            rw [← hz] at hs hin
            clear hz hcz hblt hnm
            by_cases hzm : z = m
            · subst hzm
              have hE := Lib.hid (HC.out.1 hin.out)
              clear hs hin
              go_wp2_with fail
              go_ret
              exact ⟨gRetI hE.out.symm, HB.out⟩
            · have hzm2 : (z == m) = false := by simpa using hzm
              have hs2 := Lib.hid (hs.out hzm)
              clear hs hin hzm
              go_wp2_with fail
              go_roundw
              case rel => exact ⟨k + 1, by omega, by go_num, hs2.out, by first | rfl | trivial⟩
              case measure => simp [intOf]; omega
          · obtain rfl : k = n := by omega
            have hE := Lib.hid (HC.out.2 (by rw [List.take_of_length_le (by rw [hl.out]; omega)] at hnm; exact hnm))
            clear hnm hk hlt
            go_wp2_with fail
            go_ret
            exact ⟨gRetI hE.out.symm, HB.out⟩
      · have he : (!L.isEmpty) = true := by cases L with | nil => exact absurd rfl hne | cons x r => rfl
        rw [he] at htop
        by_cases hmt : m < t
        · have h64 : ¬ (64 ≤ t - m) := fun h => hO ⟨hne, hmt, h⟩
          clear hO hold hne he
          go_enter Try.func10, Try.ntmps10
          go_wp2_with fail
          rw [← hw0]
          refine htop.mono ?_
          rintro e w1 ⟨rfl, hb⟩
          have HB := Lib.hid (HX.out w1 hb).2
          have hcb := (HX.out w1 hb).1
          clear hb htop hw0 HX
          go_wp2_with fail
          go_loopw [7] (fun i wr => ∃ k : Nat, k ≤ n ∧ i = .int .i64 k ∧ m ∉ L.take k ∧ wr = w1) (fun i _ => n - (intOf i).toNat)
          case atStart => exact ⟨0, Nat.zero_le _, rfl, by simp, rfl⟩
          case round =>
            obtain ⟨k, hk, rfl, hnm, rfl⟩ := hrel
            by_cases hlt : k < n
            · have hkl : (k : Int) < (n : Int) := by omega
              obtain ⟨ad, rfl, hblt, hcz⟩ := H.out.1.at_ (by omega)
              have hs := Lib.hid (fun (hm : L.getD k 0 ≠ m) => mem_take_step (L := L) (k := k) (n := m) (by rw [hl.out]; exact hlt) hnm hm)
              have hin := Lib.hid (show L.getD k 0 ∈ L from by rw [getD_lt (by rw [hl.out]; exact hlt)]; exact List.getElem_mem _)
              obtain ⟨z, hz⟩ : ∃ z, z = L.getD k 0 := ⟨_, rfl⟩
              have hcell : wr.cell? (ad.add k) = some (.int .u64 z) := by
                rw [hz]
                exact (HB.out.cell (by rw [addBlock]; exact hblt)).trans (hcz k hlt)
              rw [← hz] at hs hin
              clear hz hcz hblt hnm
              by_cases hzm : z = m
              · subst hzm
                have hE := Lib.hid (HC.out.1 hin.out)
                clear hs hin
                go_wp2_with fail
                go_ret
                exact ⟨gRetI hE.out.symm, HB.out⟩
              · have hzm2 : (z == m) = false := by simpa using hzm
                have hs2 := Lib.hid (hs.out hzm)
                clear hs hin hzm
                go_wp2_with fail
                go_roundw
                case rel => exact ⟨k + 1, by omega, by go_num, hs2.out, by first | rfl | trivial⟩
                case measure => simp [intOf]; omega
            · obtain rfl : k = n := by omega
              have hE := Lib.hid (HC.out.2 (by rw [List.take_of_length_le (by rw [hl.out]; omega)] at hnm; exact hnm))
              clear hnm hk hlt
              go_wp2_with fail
              go_ret
              exact ⟨gRetI hE.out.symm, HB.out⟩
        · clear hO hold hne he
          go_enter Try.func10, Try.ntmps10
          go_wp2_with fail
          rw [← hw0]
          refine htop.mono ?_
          rintro e w1 ⟨rfl, hb⟩
          have HB := Lib.hid (HX.out w1 hb).2
          have hcb := (HX.out w1 hb).1
          clear hb htop hw0 HX
          go_wp2_with fail
          go_loopw [7] (fun i wr => ∃ k : Nat, k ≤ n ∧ i = .int .i64 k ∧ m ∉ L.take k ∧ wr = w1) (fun i _ => n - (intOf i).toNat)
          case atStart => exact ⟨0, Nat.zero_le _, rfl, by simp, rfl⟩
          case round =>
            obtain ⟨k, hk, rfl, hnm, rfl⟩ := hrel
            by_cases hlt : k < n
            · have hkl : (k : Int) < (n : Int) := by omega
              obtain ⟨ad, rfl, hblt, hcz⟩ := H.out.1.at_ (by omega)
              have hs := Lib.hid (fun (hm : L.getD k 0 ≠ m) => mem_take_step (L := L) (k := k) (n := m) (by rw [hl.out]; exact hlt) hnm hm)
              have hin := Lib.hid (show L.getD k 0 ∈ L from by rw [getD_lt (by rw [hl.out]; exact hlt)]; exact List.getElem_mem _)
              obtain ⟨z, hz⟩ : ∃ z, z = L.getD k 0 := ⟨_, rfl⟩
              have hcell : wr.cell? (ad.add k) = some (.int .u64 z) := by
                rw [hz]
                exact (HB.out.cell (by rw [addBlock]; exact hblt)).trans (hcz k hlt)
              rw [← hz] at hs hin
              clear hz hcz hblt hnm
              by_cases hzm : z = m
              · subst hzm
                have hE := Lib.hid (HC.out.1 hin.out)
                clear hs hin
                go_wp2_with fail
                go_ret
                exact ⟨gRetI hE.out.symm, HB.out⟩
              · have hzm2 : (z == m) = false := by simpa using hzm
                have hs2 := Lib.hid (hs.out hzm)
                clear hs hin hzm
                go_wp2_with fail
                go_roundw
                case rel => exact ⟨k + 1, by omega, by go_num, hs2.out, by first | rfl | trivial⟩
                case measure => simp [intOf]; omega
            · obtain rfl : k = n := by omega
              have hE := Lib.hid (HC.out.2 (by rw [List.take_of_length_le (by rw [hl.out]; omega)] at hnm; exact hnm))
              clear hnm hk hlt
              go_wp2_with fail
              go_ret
              exact ⟨gRetI hE.out.symm, HB.out⟩
end Go.Proofs.Ytkmobiggcehpbaa
