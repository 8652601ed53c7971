/-
  A text put into a table: the reference's Intern.
-/
import Derived.Test.YtbjgjhhombalpaaLinksPut
namespace Go.Proofs.Ytbjgjhhombalpaa
open Go.RowKit

theorem internS_no {t : List ByteArray} {u : ByteArray} (hm : mayT u = false) : internS t u = ([], 0, 3) := by unfold internS; rw [if_pos hm]
theorem internS_hit {t : List ByteArray} {u : ByteArray} {k : Nat} (hm : mayT u = true) (h : placeI t u = (k : Int)) : internS t u = (t, (k : Int) + 1, 0) := by
  have : ¬ ((k : Int) = -1) := by omega
  unfold internS; simp [hm, h, this]
theorem internS_free {t : List ByteArray} {u : ByteArray} {k : Nat} (hm : mayT u = true) (h : placeI t u = -1) (h1 : placeI t eT = (k : Int)) : internS t u = (t.set k u, (k : Int) + 1, 0) := by
  have : ¬ ((k : Int) = -1) := by omega
  unfold internS; simp [hm, h, h1, this]
theorem internS_end {t : List ByteArray} {u : ByteArray} (hm : mayT u = true) (h : placeI t u = -1) (h1 : placeI t eT = -1) (h2 : t.length < 16) : internS t u = (t ++ [u], (t.length : Int) + 1, 0) := by
  unfold internS; simp [hm, h, h1, h2]
theorem internS_full {t : List ByteArray} {u : ByteArray} (hm : mayT u = true) (h : placeI t u = -1) (h1 : placeI t eT = -1) (h2 : ¬ t.length < 16) : internS t u = ([], 0, 11) := by
  unfold internS; simp [hm, h, h1, h2]

set_option maxHeartbeats 1600000 in
theorem refIntern_any {w : World} {A : Option Addr} {n c : Nat} {L : List ByteArray} (h : Vs stV w A n L) (u : ByteArray) (hn : n ≤ 60000) (hu : u.size ≤ 140737488351232) :
    Calls Try.prog 14 #[.slice A n c, .string u] w (InPost (internS L u) w) := by
  obtain rfl := h.len
  obtain ⟨B, hB⟩ : ∃ B, mayT u = B := ⟨_, rfl⟩
  cases B
  · have X : InPost (internS L u) w (.returned (.tuple #[.slice none 0 0, .int .u16 0, .int .i64 3])) w := by
      rw [internS_no hB]
      exact InPost.no w 3 (Below.refl _ _)
    have HB := Lib.hid hB
    clear h hB
    go_enter Try.func14, Try.ntmps14
    go_wp2_with fail
    refine (refMayT_any u w hu).mono ?_
    rintro e w' ⟨rfl, rfl⟩
    rw [HB.out]
    go_wp2_with fail
    go_ret3
    exact X
  · have HB := Lib.hid hB
    have H := Lib.hid h
    clear hB h
    go_enter Try.func14, Try.ntmps14
    go_wp2_with fail
    refine (refMayT_any u w hu).mono ?_
    rintro e w' ⟨rfl, rfl⟩
    rw [HB.out]
    go_wp2_with fail
    refine (copyT_any H.out (by omega)).mono ?_
    rintro e w1 ⟨v, rfl, hb1, A1, c1, rfl, hT⟩
    have HT := Lib.hid (And.intro hT hb1)
    clear hT hb1
    go_wp2_with fail
    refine (placeT_any HT.out.1.vs u (by omega)).mono ?_
    rintro e w' ⟨rfl, rfl⟩
    by_cases hz : placeI L u = -1
    · rw [hz]
      have HZ := Lib.hid hz
      clear hz
      go_wp2_with fail
      refine (placeT_any HT.out.1.vs eT (by omega)).mono ?_
      rintro e w' ⟨rfl, rfl⟩
      by_cases hy : placeI L eT = -1
      · rw [hy]
        have HY := Lib.hid hy
        clear hy
        by_cases hl : L.length < 16
        · have hl' : ¬ 16 ≤ (L.length : Int) := by omega
          obtain ⟨m, hm⟩ : ∃ m, L.length + 1 = m := ⟨_, rfl⟩
          have hlm : L.length < m := by omega
          have hmn : m ≤ 60001 := by omega
          have hm1 : (m : Int) - 1 = L.length := by omega
          have HM := Lib.hid hm
          clear hm
          go_wp2_with (at_builtin; refine wpList_appT _ rfl _ _ rfl w.heap.size A1 L.length c1 L rfl (HT.out.1.below ((Below.refl _ _).alloc (Nat.le_refl _) _)) (some ⟨w1.heap.size, 0, none⟩) 1 1 m HM.out [eT] rfl (litT w1 eT) (by omega) (by have := HT.out.2.size; simp; omega) ?_; intro A' c' w3 hown hg3)
          obtain ⟨g, rfl, hg, hgl, hfr⟩ := hown.blk (by omega)
          have hc2 : w3.cell? ⟨g, L.length, none⟩ = some (.string eT) := by
            have := hown.vs.str (k := L.length) hlm
            rwa [addHead, sAt_append_last] at this
          have hf2 := hfr L.length
          have X : InPost (internS L u) w (.returned (.tuple #[.slice (some ⟨g, 0, none⟩) m c', .int .u16 ((L.length : Int) + 1), .int .i64 0])) (w3.setCell ⟨g, L.length, none⟩ (.string u)) := by
            obtain ⟨hs1, hs2⟩ := hown.stored L.length u
            have hsz2 := HT.out.2.size
            have e : (L ++ [eT]).set L.length u = L ++ [u] := by simp
            rw [e] at hs1
            rw [internS_end HB.out HZ.out HY.out hl]
            refine ⟨_, rfl, hs1.post (Below.setCell ?_ (by simp; omega) _)⟩
            exact (HT.out.2.alloc (by omega) _).grown hg3 (by simp; omega) fun k hk => HT.out.1.ownB k hk
          clear hown hfr hg3
          go_wp2_with fail
          go_simp
          go_wp2_with fail
          go_ret3
          exact X
        · have hl' : 16 ≤ (L.length : Int) := by omega
          have X : InPost (internS L u) w (.returned (.tuple #[.slice none 0 0, .int .u16 0, .int .i64 11])) w1 := by
            rw [internS_full HB.out HZ.out HY.out hl]
            exact InPost.no w 11 HT.out.2
          go_wp2_with fail
          go_ret3
          exact X
      · obtain ⟨k, hk, e1, _, _⟩ := placeI_mem (mem_place.1 hy)
        obtain ⟨g, rfl, hg, hgl, hfr⟩ := HT.out.1.blk (by omega)
        have hc2 : w1.cell? ⟨g, k, none⟩ = some (.string (sAt L k)) := by
          have := HT.out.1.vs.str hk
          rwa [addHead] at this
        have hf2 := hfr k
        have X : InPost (internS L u) w (.returned (.tuple #[.slice (some ⟨g, 0, none⟩) L.length c1, .int .u16 ((k : Int) + 1), .int .i64 0])) (w1.setCell ⟨g, k, none⟩ (.string u)) := by
          obtain ⟨hs1, hs2⟩ := HT.out.1.stored k u
          rw [internS_free HB.out HZ.out e1]
          exact ⟨_, rfl, hs1.post (HT.out.2.setCell (by simp; omega) _)⟩
        rw [e1]
        clear e1 hy hfr
        generalize sAt L k = x at hc2
        go_wp2_with fail
        go_ret3
        exact X
    · obtain ⟨k, hk, e1, _, _⟩ := placeI_mem (mem_place.1 hz)
      have X : InPost (internS L u) w (.returned (.tuple #[.slice A1 L.length c1, .int .u16 ((k : Int) + 1), .int .i64 0])) w1 := by
        rw [internS_hit HB.out e1]
        exact ⟨_, rfl, HT.out.1.post HT.out.2⟩
      rw [e1]
      clear e1 hz
      go_wp2_with fail
      go_ret3
      exact X
end Go.Proofs.Ytbjgjhhombalpaa
