/-
  What the document makes of a row by a call.
-/
import Derived.Test.YtaofkipamliijaaDoorCellRefPut
import Derived.Test.YtaofkipamliijaaDoorCellRefEra
import Derived.Test.YtaofkipamliijaaDoorCellRefDel
import Derived.Test.YtaofkipamliijaaDoorCellKeep
namespace Go.Proofs.YtaofkipamliijaaDoor
open Go.RowKit

theorem ok_row {L : List Ce} {p : Pn} (h : (rowMay L && penMayS p) = true) : RowOk L := (rowMay_iff L).1 (by simp at h; exact h.1)
theorem OpPost.conv {M M' : List Ce} {ok : Bool} {w : World} {e : Ending} {w' : World} (h : OpPost M ok w e w') (hm : ok = true → M = M') : OpPost M' ok w e w' :=
  ⟨fun e1 => by rw [← hm e1]; exact h.1 e1, h.2⟩

set_option maxHeartbeats 1600000 in
theorem want_any {w : World} {A : Option Addr} {n c : Nat} {L : List Ce} (o : Op8) (h : Vs ceV w A n L) (hn : n ≤ 1000000) (hk : o.k = 0 ∨ o.k = 1 ∨ o.k = 2 ∨ o.k = 3) :
    Calls Tryd.prog 20 #[.slice A n c, .agg (opA o)] w (OpPost (doS L o) (rowMay L && penMayS o.p) w) := by
  obtain ⟨w0, hw0⟩ : ∃ w0, w0 = w.alloc (.cells (opA o) 39) := ⟨_, rfl⟩
  obtain ⟨b, hbe⟩ : ∃ b, b = w.heap.size := ⟨_, rfl⟩
  have H := Lib.hid (show Vs ceV w0 A n L ∧ Op8c w0 b o ∧ Below w.heap.size w w0 from by
    rw [hw0, hbe]
    exact ⟨h.alloc _, op8_new w o _, (Below.refl _ _).alloc (Nat.le_refl _) _⟩)
  clear h
  obtain ⟨R, hR⟩ : ∃ R, doS L o = R := ⟨_, rfl⟩
  obtain ⟨ok, hok⟩ : ∃ ok, (rowMay L && penMayS o.p) = ok := ⟨_, rfl⟩
  rw [hR, hok]
  obtain ⟨c0, c1, c2, c3, c4, c5, c6, c7⟩ := H.out.2.1
  rcases hk with hk | hk | hk | hk
  · have HE := Lib.hid (show ok = true → mendS (putR L o.x o.r o.p) = R from fun e => by rw [← hR]; unfold doS; rw [if_pos hk]; exact (put_eq (ok_row (hok.trans e)) _ _ _).symm)
    have HK := Lib.hid hok
    rw [hk] at c0
    unfold opA at hw0 ⊢
    rw [hk] at hw0 ⊢
    clear hR hok hk c2
    go_enter Tryd.func20, Tryd.ntmps20
    go_upto_region 1 with fail
    rw [← hw0, ← hbe]
    clear hw0 hbe
    go_wp2_with fail
    refine (refPut_at o.x o.r o.p H.out.1 hn HK.out rfl).mono ?_
    intro e w1 hp
    have hp2 : OpPost R ok w0 e w1 := hp.conv HE.out
    obtain ⟨A', n', c', rfl, hp3⟩ := hp2.shape
    have HP := Lib.hid (hp3.below H.out.2.2)
    clear hp hp2 hp3 c0 c1 c3 c4 c5 c6 c7
    go_wp2_with fail
    go_ret
    exact HP.out
  · have HE := Lib.hid (show ok = true → mendS (eraseR L o.x o.n o.p) = R from fun e => by rw [← hR]; unfold doS; rw [if_neg (by omega), if_pos hk]; exact (erase_eq (ok_row (hok.trans e)) _ _ _).symm)
    have HK := Lib.hid hok
    rw [hk] at c0
    unfold opA at hw0 ⊢
    rw [hk] at hw0 ⊢
    clear hR hok hk c3
    go_enter Tryd.func20, Tryd.ntmps20
    go_upto_region 1 with fail
    rw [← hw0, ← hbe]
    clear hw0 hbe
    go_wp2_with fail
    refine (refErase_at o.x o.n o.p H.out.1 hn HK.out rfl).mono ?_
    intro e w1 hp
    have hp2 : OpPost R ok w0 e w1 := hp.conv HE.out
    obtain ⟨A', n', c', rfl, hp3⟩ := hp2.shape
    have HP := Lib.hid (hp3.below H.out.2.2)
    clear hp hp2 hp3 c0 c1 c2 c4 c5 c6 c7
    go_wp2_with fail
    go_ret
    exact HP.out
  · have HE := Lib.hid (show ok = true → insRS L o.x o.n o.p = R from fun e => by rw [← hR]; unfold doS; rw [if_neg (by omega), if_neg (by omega), if_pos hk]; exact ins_same (ok_row (hok.trans e)) _ _ _)
    have HK := Lib.hid hok
    rw [hk] at c0
    unfold opA at hw0 ⊢
    rw [hk] at hw0 ⊢
    clear hR hok hk c3
    go_enter Tryd.func20, Tryd.ntmps20
    go_upto_region 1 with fail
    rw [← hw0, ← hbe]
    clear hw0 hbe
    go_wp2_with fail
    refine (refInsert_at o.x o.n o.p H.out.1 hn HK.out rfl).mono ?_
    intro e w1 hp
    have hp2 : OpPost R ok w0 e w1 := hp.conv HE.out
    obtain ⟨A', n', c', rfl, hp3⟩ := hp2.shape
    have HP := Lib.hid (hp3.below H.out.2.2)
    clear hp hp2 hp3 c0 c1 c2 c4 c5 c6 c7
    go_wp2_with fail
    go_ret
    exact HP.out
  · have HE := Lib.hid (show ok = true → delRS L o.x o.n o.p = R from fun e => by rw [← hR]; unfold doS; rw [if_neg (by omega), if_neg (by omega), if_neg (by omega), if_pos hk]; exact del_same (ok_row (hok.trans e)) _ _ _)
    have HK := Lib.hid hok
    rw [hk] at c0
    unfold opA at hw0 ⊢
    rw [hk] at hw0 ⊢
    clear hR hok hk c3
    go_enter Tryd.func20, Tryd.ntmps20
    go_upto_region 1 with fail
    rw [← hw0, ← hbe]
    clear hw0 hbe
    go_wp2_with fail
    refine (refDelete_at o.x o.n o.p H.out.1 hn HK.out rfl).mono ?_
    intro e w1 hp
    have hp2 : OpPost R ok w0 e w1 := hp.conv HE.out
    obtain ⟨A', n', c', rfl, hp3⟩ := hp2.shape
    have HP := Lib.hid (hp3.below H.out.2.2)
    clear hp hp2 hp3 c0 c1 c2 c4 c5 c6 c7
    go_wp2_with fail
    go_ret
    exact HP.out
end Go.Proofs.YtaofkipamliijaaDoor
