/-
  Part 31 of what the laws of emul want: RowsRdR.
-/
import Derived.Test.YtikhknnhmnopbaaDoorPj25
import Derived.Test.YtikhknnhmnopbaaDoorPj30
namespace Go.Proofs.YtikhknnhmnopbaaDoor
open Go.RowKit
def rowsR (c rr : Nat) (L : List Ce) : List Int → Except Int (List Ce × List Int)
 | [] => .error 2
 | n :: t => rdRows c rr n.toNat (-1) L t
theorem restB_is (c rr : Nat) (s : Sc) (t : List Int) : restB c rr s t = endA s (rowsR c rr s.cells t) := by
 cases t with
 | nil => rfl
 | cons n t => rfl
def RsEnd (base g r : Nat) (N : Nat) (q : Except Int (List Ce × List Int)) (w : World) (e' : Ending) (w' : World) : Prop :=
 Gr2 g r w w' ∧ ((∃ L' zs', q = .ok (L', zs') ∧ e' = .returned (.int .i64 0) ∧ Rz base r zs' 0 w' ∧ Rw ceV 51 w' g L' ∧ L'.length = N) ∨ (∃ E : Int, q = .error E ∧ E ≠ 0 ∧ e' = .returned (.int .i64 E)))
theorem num1_cons {y : Int} {t : List Int} : num1 (y :: t) 0 1 = (y, t, 0) := by
 have := num1_ok (zs := y :: t) (k := 1) (by omega) (by omega) (by simp)
 rw [show ((1 : Nat) : Int) = 1 from rfl] at this
 rw [this]
 simp [valL]
theorem num1_nil : num1 [] 0 1 = (0, [], 2) := by
 have := num1_short (zs := []) (k := 1) (by omega) (by omega) (by simp)
 rw [show ((1 : Nat) : Int) = 1 from rfl] at this
 exact this
set_option maxHeartbeats 3200000 in
set_option maxRecDepth 100000 in
theorem readRows_err {base g r : Nat} {s : ScR} {zs zz : List Int} {e E : Int} {w : World} (h : Rz base r zs e w) (hq : num1 zs e 1 = (0, zz, E)) :
  Calls Tryd.prog 53 #[.pointer (some ⟨r, 0, none⟩), .agg (scrA s)] w fun e' w' => Gr2 g r w w' ∧ e' = .returned (.int .i64 E) := by
 obtain ⟨b, hb⟩ : ∃ b, b = w.heap.size := ⟨_, rfl⟩
 obtain ⟨w1, hw1⟩ : ∃ w1, w1 = w.alloc (.cells (scrA s) 25) := ⟨_, rfl⟩
 have H1 := Lib.hid (show Gr2 g r w w1 ∧ Rz base r zs e w1 from by
  have hbb : Below w.heap.size w w1 := by rw [hw1]; exact (Below.refl _ _).alloc (Nat.le_refl _) _
  exact ⟨Gr2.below hbb, h.below hbb⟩)
 have PB := Lib.hid (readByte_any H1.out.2)
 rw [hq] at PB
 clear h hq
 unfold scrA at hw1 ⊢
 go_enter Tryd.func53, Tryd.ntmps53
 go_upto_region 1 with fail
 rw [← hw1]
 clear hw1 hb
 go_wp2_with fail
 refine PB.out.mono ?_
 rintro e' w2 ⟨rfl, h1, h2⟩
 have H2 := Lib.hid (show Gr2 g r w w2 ∧ Rz base r zz E w2 from ⟨H1.out.1.trans (Gr2.of1 h2), h1⟩)
 clear h1 h2 PB H1
 dsimp only
 go_wp2_with fail
 go_loopw [11] (fun v wr => v = .int .i64 0 ∧ wr = w2) (fun _ _ => 0)
 case atStart => exact ⟨rfl, rfl⟩
 case round =>
  obtain ⟨rfl, rfl⟩ := hrel
  obtain ⟨A5, n5, c5, hrd⟩ := H2.out.2.rd
  have PE := Lib.hid (err_any hrd)
  clear hrd
  go_wp2_with fail
  refine PE.out.mono ?_
  rintro e' w4 ⟨rfl, rfl⟩
  go_wp2_with fail
  go_ret
  exact ⟨H2.out.1, rfl⟩
set_option maxHeartbeats 6400000 in
set_option maxRecDepth 100000 in
theorem readRows_cons {base g r c rr : Nat} {s : ScR} {n : Int} {t : List Int} {L : List Ce} {w : World} (hT : ∀ w', Gr2 g r w w' → Tabs w') (h : Rz base r (n :: t) 0 w) (hR : Rw ceV 51 w g L) (hg : g < base ∨ r < g) (hA : s.A = some ⟨g, 0, none⟩) (hc : s.c = (c : Int)) (hr : s.r = (rr : Int)) (hn : s.n = rr * c) (hk : s.n ≤ s.k) (hl : L.length = rr * c) (h1 : 1 ≤ c) (h80 : c ≤ 80) (h24 : rr ≤ 24) :
  Calls Tryd.prog 53 #[.pointer (some ⟨r, 0, none⟩), .agg (scrA s)] w (RsEnd base g r L.length (rdRows c rr n.toNat (-1) L t) w) := by
 have HT := Lib.hid hT
 have HC := Lib.hid (And.intro hA (And.intro hc (And.intro hr (And.intro hn (And.intro hk hl)))))
 have HG := Lib.hid hg
 obtain ⟨b, hb⟩ : ∃ b, b = w.heap.size := ⟨_, rfl⟩
 obtain ⟨w1, hw1⟩ : ∃ w1, w1 = w.alloc (.cells (scrA s) 25) := ⟨_, rfl⟩
 have H1 := Lib.hid (show Gr2 g r w w1 ∧ Rz base r (n :: t) 0 w1 ∧ Rw ceV 51 w1 g L ∧ Sx w1 b s ∧ g < b ∧ r < b from by
  have hbb : Below w.heap.size w w1 := by rw [hw1]; exact (Below.refl _ _).alloc (Nat.le_refl _) _
  exact ⟨Gr2.below hbb, h.below hbb, hR.below hbb, by rw [hw1, hb]; exact Sx.new w s, by rw [hb]; exact hR.lt, by rw [hb]; exact h.lt⟩)
 have hn0 := h.u8 n (by simp)
 obtain ⟨N, hN⟩ : ∃ N : Nat, n = (N : Int) := ⟨n.toNat, by omega⟩
 subst hN
 have hN8 : N ≤ 255 := by omega
 rw [Int.toNat_natCast]
 have PB := Lib.hid (readByte_any H1.out.2.1)
 rw [num1_cons] at PB
 have hlc : L.length ≤ 4000 := by rw [hl]; exact Nat.le_trans (Nat.mul_le_mul h24 h80) (by omega)
 clear h hT hR hg hA hc hr hn hk hl hn0
 unfold scrA at hw1 ⊢
 go_enter Tryd.func53, Tryd.ntmps53
 go_upto_region 1 with fail
 rw [← hw1, ← hb]
 clear hw1 hb
 go_wp2_with fail
 refine PB.out.mono ?_
 rintro e' w2 ⟨rfl, h1', h2⟩
 have H2 := Lib.hid (show Gr2 g r w w2 ∧ Rz base r t 0 w2 ∧ Rw ceV 51 w2 g L ∧ Sx w2 b s from
  ⟨H1.out.1.trans (Gr2.of1 h2), h1', H1.out.2.2.1.grown h2 (by intro e; injection e with e; have := HG.out; have := h1'.lo; omega), H1.out.2.2.2.1.grown h2 (by intro e; injection e with e; have := H1.out.2.2.2.2.2; omega)⟩)
 have HB := Lib.hid H1.out.2.2.2.2
 clear h1' h2 PB H1
 dsimp only
 go_wp2_with fail
 go_loopw [5, 11] (fun v5 v11 wr => ∃ (k : Nat) (last : Int) (M : List Ce) (zz : List Int), k ≤ N ∧ v11 = .int .i64 k ∧ v5 = .int .i64 last ∧ (-1 ≤ last ∧ last ≤ 255) ∧ Gr2 g r w wr ∧ Rz base r zz 0 wr ∧ Rw ceV 51 wr g M ∧ Sx wr b s ∧ M.length = L.length ∧ rdRows c rr N (-1) L t = rdRows c rr (N - k) last M zz) (fun _ v _ => N - (intOf v).toNat)
 case atStart => exact ⟨0, -1, L, t, Nat.zero_le _, rfl, rfl, by omega, H2.out.1, H2.out.2.1, H2.out.2.2.1, H2.out.2.2.2, rfl, rfl⟩
 case round =>
  obtain ⟨k, last, M, zz, hk, rfl, rfl, hlast, h1', h2', h3', h4', h5', h6'⟩ := hrel
  have Y := Lib.hid (And.intro h1' (And.intro h2' (And.intro h3' (And.intro h4' (And.intro h5' h6')))))
  clear h1' h2' h3' h4' h5' h6' H2
  by_cases hlt : k < N
  · have PB := Lib.hid (readByte_any Y.out.2.1)
    cases zz with
    | nil =>
     rw [num1_nil] at PB
     go_wp2_with fail
     refine PB.out.mono ?_
     rintro e' w3 ⟨rfl, h1', h2⟩
     have H3 := Lib.hid (show Gr2 g r w w3 ∧ Rz base r [] 2 w3 from ⟨Y.out.1.trans (Gr2.of1 h2), h1'⟩)
     clear h1' h2 PB
     obtain ⟨A5, n5, c5, hrd⟩ := H3.out.2.rd
     have PE := Lib.hid (err_any hrd)
     clear hrd
     dsimp only
     go_wp2_with fail
     refine PE.out.mono ?_
     rintro e' w4 ⟨rfl, rfl⟩
     have X : RsEnd base g r L.length (rdRows c rr N (-1) L t) w (.returned (.int .i64 2)) w3 := by
      refine ⟨H3.out.1, .inr ⟨2, ?_, by decide, rfl⟩⟩
      rw [Y.out.2.2.2.2.2, show N - k = (N - k - 1) + 1 from by omega]
      exact rdRows_out _ _ _ _ _
     go_wp2_with fail
     go_ret
     exact X
    | cons y zz =>
     rw [num1_cons] at PB
     have hy8 := Y.out.2.1.u8 y (by simp)
     go_wp2_with fail
     refine PB.out.mono ?_
     rintro e' w3 ⟨rfl, h1', h2⟩
     have H3 := Lib.hid (show Gr2 g r w w3 ∧ Rz base r zz 0 w3 ∧ Rw ceV 51 w3 g M ∧ Sx w3 b s from
      ⟨Y.out.1.trans (Gr2.of1 h2), h1', Y.out.2.2.1.grown h2 (by intro e; injection e with e; have := HG.out; have := h1'.lo; omega), Y.out.2.2.2.1.grown h2 (by intro e; injection e with e; have := HB.out.2; omega)⟩)
     clear h1' h2 PB
     obtain ⟨A5, n5, c5, hrd⟩ := H3.out.2.1.rd
     have PE := Lib.hid (err_any hrd)
     clear hrd
     dsimp only
     go_wp2_with fail
     refine PE.out.mono ?_
     rintro e' w4 ⟨rfl, rfl⟩
     clear PE
     obtain ⟨d0, d1, d2, d3, d4, d5, d6, d7, d8, _⟩ := sx_cells H3.out.2.2.2
     have HN1 := Lib.hid (show N - k = (N - (k + 1)) + 1 from by omega)
     by_cases hyr : s.r ≤ y
     · have X : RsEnd base g r L.length (rdRows c rr N (-1) L t) w (.returned (.int .i64 3)) w3 := by
        refine ⟨H3.out.1, .inr ⟨3, ?_, by decide, rfl⟩⟩
        rw [Y.out.2.2.2.2.2, HN1.out]
        exact rdRows_off (.inl (by rw [← HC.out.2.2.1]; exact hyr))
       go_wp2_with fail
       go_ret
       exact X
     by_cases hyl : y ≤ last
     · have X : RsEnd base g r L.length (rdRows c rr N (-1) L t) w (.returned (.int .i64 3)) w3 := by
        refine ⟨H3.out.1, .inr ⟨3, ?_, by decide, rfl⟩⟩
        rw [Y.out.2.2.2.2.2, HN1.out]
        exact rdRows_off (.inr hyl)
       go_wp2_with fail
       go_ret
       exact X
     have HIN := Lib.hid (show rdRows c rr N (-1) L t = rowsOn c rr (N - (k + 1)) y (rdIn c (y.toNat * c) M zz) from by
      rw [Y.out.2.2.2.2.2, HN1.out]
      exact rdRows_in (by rw [Y.out.2.2.2.2.1]; exact HC.out.2.2.2.2.2) (by omega) (by have := HC.out.2.2.1; omega) hlast.1)
     obtain ⟨y0, hy0⟩ : ∃ y0 : Nat, y = (y0 : Int) := ⟨y.toNat, by omega⟩
     subst hy0
     have hyrr : y0 < rr := by have := HC.out.2.2.1; omega
     rw [Int.toNat_natCast] at HIN
     have PR := Lib.hid (rowOf16_any (s := s) (c := c) (r := rr) (y := y0) w3 HC.out.2.1 HC.out.2.2.2.1 HC.out.2.2.2.2.1 h1 h80 h24 hyrr)
     have e1 : s.A.map (·.add (y0 * c * 6)) = some ⟨g, y0 * c * 6, none⟩ := by rw [HC.out.1]; simp [Addr.add]; intro h; exact h.symm
     rw [e1] at PR
     clear e1
     unfold scrA at PR
     go_wp2_with fail
     refine PR.out.mono ?_
     rintro e' w5 ⟨rfl, hb5⟩
     have H5 := Lib.hid (show Gr2 g r w w5 ∧ Rz base r zz 0 w5 ∧ Rw ceV 51 w5 g M ∧ Sx w5 b s from ⟨H3.out.1.trans (Gr2.below hb5), H3.out.2.1.below hb5, H3.out.2.2.1.below hb5, H3.out.2.2.2.below hb5⟩)
     clear hb5 PR d0 d1 d2 d3 d4 d5 d6 d7 d8 H3
     have PC := Lib.hid (readCells_any (n := c) (i0 := y0 * c) (cc := s.k - y0 * c) (fun w' hw => HT.out w' (H5.out.1.trans hw)) H5.out.2.1 H5.out.2.2.1 HG.out (by
      rw [Y.out.2.2.2.2.1, HC.out.2.2.2.2.2]
      have := Nat.mul_le_mul_right c (show y0 + 1 ≤ rr by omega)
      rw [Nat.succ_mul] at this
      exact this) (by rw [Y.out.2.2.2.2.1]; exact hlc))
     obtain ⟨CK, hCK⟩ : ∃ CK, s.k - y0 * c = CK := ⟨_, rfl⟩
     rw [hCK] at PC ⊢
     clear hCK
     go_wp2_with fail
     refine PC.out.mono ?_
     rintro e' w6 ⟨hg6, ⟨M', z', hq, rfl, hz6, hR6, hl6⟩ | ⟨E, hq, hE, rfl⟩⟩
     · have H6 := Lib.hid (show Gr2 g r w w6 ∧ Rz base r z' 0 w6 ∧ Rw ceV 51 w6 g M' ∧ Sx w6 b s ∧ M'.length = L.length ∧ rdRows c rr N (-1) L t = rdRows c rr (N - (k + 1)) (y0 : Int) M' z' from
        ⟨H5.out.1.trans hg6, hz6, hR6, hg6.rw H5.out.2.2.2 (by have := HB.out.1; omega) (by have := HB.out.2; omega), hl6.trans Y.out.2.2.2.2.1, by rw [HIN.out, hq]; rfl⟩)
       clear hg6 hz6 hR6 hl6 hq PC H5
       go_wp2_with fail
       go_roundw
       case rel => exact ⟨k + 1, (y0 : Int), M', z', by omega, by go_num, rfl, by omega, H6.out.1, H6.out.2.1, H6.out.2.2.1, H6.out.2.2.2.1, H6.out.2.2.2.2.1, H6.out.2.2.2.2.2⟩
       case measure => simp [intOf]; omega
     · have X : RsEnd base g r L.length (rdRows c rr N (-1) L t) w (.returned (.int .i64 E)) w6 := by
        refine ⟨H5.out.1.trans hg6, .inr ⟨E, ?_, hE, rfl⟩⟩
        rw [HIN.out, hq]
        rfl
       clear hg6 hq PC
       go_wp2_with fail
       go_ret
       exact X
  · have hkn : k = N := by omega
    subst hkn
    have X : RsEnd base g r L.length (rdRows c rr k (-1) L t) w (.returned (.int .i64 0)) wr := by
     refine ⟨Y.out.1, .inl ⟨M, zz, ?_, rfl, Y.out.2.1, Y.out.2.2.1, Y.out.2.2.2.2.1⟩⟩
     rw [Y.out.2.2.2.2.2, Nat.sub_self]
     exact rdRows_none _ _ _ _ _
    obtain ⟨A5, n5, c5, hrd⟩ := Y.out.2.1.rd
    have PE := Lib.hid (err_any hrd)
    clear hrd
    go_wp2_with fail
    refine PE.out.mono ?_
    rintro e' w4 ⟨rfl, rfl⟩
    go_wp2_with fail
    go_ret
    exact X
end Go.Proofs.YtikhknnhmnopbaaDoor
