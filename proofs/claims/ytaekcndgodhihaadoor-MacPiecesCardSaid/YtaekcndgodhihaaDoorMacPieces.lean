/-
  Proved: MacPieces answers true for all keys, bytes and cuts, over the table of roots that the program's text lays (a tied card).
-/
import Derived.Test.YtaekcndgodhihaaDoorOpen
import Derived.Test.YtaekcndgodhihaaDoorCards
import Derived.Test.YtaekcndgodhihaaDoorTie
import Derived.SevenTiedAt
import Derived.Test.YtaekcndgodhihaaDoorShaTab
import Derived.Test.YtaekcndgodhihaaDoorMacFixed
import Derived.Test.YtaekcndgodhihaaDoorMacGreat
import Derived.Test.YtaekcndgodhihaaDoorMacCode
import Derived.WalkKit
import Derived.Deep.Cut
import Derived.Deep.DeepCutAuto
import Derived.Maps.RangeWalk
namespace Go.Proofs.YtaekcndgodhihaaDoor.macPieces
open Go.ChangeShapes Go.WideShapes Go.ChangeAt Go.RowKit

theorem yieldsIf_sliceHi {P : Program} {ops : Array Oper} {S : World → Prop} {op : Oper} {a : Act} (hw : Region.wanted op (yielded ops a.tmps) = true) (t : TypeId) (x hi : Operand) (ho : op.op = .slice t x none (some hi) none) (vx vhi v : Value)
    (hx : a.eval x = vx) (hhi : a.eval hi = vhi) (hrun : ∀ w, (Instr.sliceAt t vx none (some vhi) none).run P w = .ok v w) : YieldsIf P ops S op v a :=
  .inl ⟨hw, fun w _ => by
    unfold execOp
    simp [ho, hx, hhi, hrun]⟩
theorem yieldsIf_sliceLo {P : Program} {ops : Array Oper} {S : World → Prop} {op : Oper} {a : Act} (hw : Region.wanted op (yielded ops a.tmps) = true) (t : TypeId) (x lo : Operand) (ho : op.op = .slice t x (some lo) none none) (vx vlo v : Value)
    (hx : a.eval x = vx) (hlo : a.eval lo = vlo) (hrun : ∀ w, (Instr.sliceAt t vx (some vlo) none none).run P w = .ok v w) : YieldsIf P ops S op v a :=
  .inl ⟨hw, fun w _ => by
    unfold execOp
    simp [ho, hx, hlo, hrun]⟩
theorem yieldsIf_eql {P : Program} {ops : Array Oper} {S : World → Prop} {op : Oper} {a : Act} (hw : Region.wanted op (yielded ops a.tmps) = true) (t t2 : TypeId) (x y : Operand) (ho : op.op = .binOp .eql t x y t2) (cx cy : Array Value) (v : Value)
    (hx : a.eval x = .agg cx) (hy : a.eval y = .agg cy) (hg : P.eqGuardType P.depth t = false) (hrun : ∀ w, (binOp .eql t (.agg cx) (.agg cy)).run P w = .ok v w) : YieldsIf P ops S op v a :=
  .inl ⟨hw, fun w _ => by
    unfold execOp
    simp [ho, hx, hy, hrun, eqGuard, hg]⟩
theorem yieldsIf_pick {P : Program} {ops : Array Oper} {S : World → Prop} {op : Oper} {a : Act} (hw : Region.wanted op (yielded ops a.tmps) = true) (x y z : Operand) (ho : op.op = .pick x y z) (v : Value)
    (hx : a.eval x = .bool true) (hy : a.eval y = v) : YieldsIf P ops S op v a :=
  .inl ⟨hw, fun w _ => by
    unfold execOp
    simp [ho, hx, hy, asBool]⟩
theorem yieldsIf_assign {P : Program} {ops : Array Oper} {S : World → Prop} {op : Oper} {a : Act} (hw : Region.wanted op (yielded ops a.tmps) = true) (x : Operand) (ho : op.op = .assign x) (v : Value) (hx : a.eval x = v) : YieldsIf P ops S op v a :=
  .inl ⟨hw, fun w _ => by
    unfold execOp
    simp [ho, hx]⟩

/-- Parts that are all of the bytes, laid at b. -/
def Rdy (zs : List Int) (wx : World) (b q : Nat) : Prop := ∃ L', Ps wx (some ⟨b, 0, none⟩) q L' ∧ L'.flatten = zs ∧ q ≤ 2
theorem Rdy.below {zs : List Int} {wx w' : World} {b q : Nat} (h : Rdy zs wx b q) (hb : Below wx.heap.size wx w') : Rdy zs w' b q := by
  obtain ⟨L', h1, h2⟩ := h
  exact ⟨L', Ps.below h1 hb, h2⟩

theorem great_pair (w2 : World) {A : Option Addr} {n c : Nat} {key : List Int} {B : Option Addr} {m d : Nat} {zs : List Int} (hs : Sb w2 A n key) (h8 : B8s key) (hn : n ≤ 140737488351232) (hc : n ≤ c ∧ c ≤ 9223372036854775807)
    (hs2 : Sb w2 B m zs) (h82 : B8s zs) (hm : m ≤ 140737488351232) (hd : m ≤ d ∧ d ≤ 9223372036854775807) :
    Calls Tryd.prog 8 #[.slice (some ⟨w2.heap.size, 0, none⟩) 2 2] (w2.alloc (.cells #[.slice A n c, .slice B m d] 22)) fun e w' =>
      e = .returned (.bool (greatB [key, zs])) ∧ (w2.alloc (.cells #[.slice A n c, .slice B m d] 22)) = w' := by
  have b : Below w2.heap.size w2 (w2.alloc (.cells #[.slice A n c, .slice B m d] 22)) := (Below.refl _ _).alloc (Nat.le_refl _) _
  refine great_any _ ?_ (by omega) (fun l hl => by
    have h1 : l = key ∨ l = zs := by simpa using hl
    rcases h1 with rfl | rfl
    · rw [hs.len]; exact hn
    · rw [hs2.len]; exact hm)
  have hnew := heap_alloc_new w2 (.cells #[.slice A n c, .slice B m d] 22)
  refine Ps.of rfl (fun _ => lt_of_block hnew) fun q hq => ?_
  have hq2 : q = 0 ∨ q = 1 := by omega
  rcases hq2 with rfl | rfl
  · exact ⟨A, n, c, (cell_of_row _ w2.heap.size 0 _ _ _ hnew).trans rfl, hs.below b, hc.1, hc.2, h8⟩
  · exact ⟨B, m, d, (cell_of_row _ w2.heap.size 1 _ _ _ hnew).trans rfl, hs2.below b, hd.1, hd.2, h82⟩

set_option maxRecDepth 100000 in
set_option maxHeartbeats 16000000 in
/-- The walk. -/
theorem walk {A : Option Addr} {n c : Nat} {key : List Int} {B : Option Addr} {m d : Nat} {zs : List Int} {at_ : Int} (w : World) (hr : Roots w) (hs : Sb w A n key) (h8 : U8s key) (hn : n ≤ 140737488351232) (hc : n ≤ c ∧ c ≤ maxLen)
    (hs2 : Sb w B m zs) (h82 : U8s zs) (hm : m ≤ 140737488351232) (hd : m ≤ d ∧ d ≤ maxLen) (_ : (Lit.int .i64 at_).wf = true) :
    Calls Tryd.prog 6 #[.slice A n c, .slice B m d, .int .i64 at_] w fun e w' => e = .returned (.bool true) ∧ Below w.heap.size w w' := by
  unfold maxLen at hc hd
  have HG := Lib.hid (great_pair w hs h8 hn ⟨hc.1, by omega⟩ hs2 h82 hm ⟨hd.1, by omega⟩)
  have H := Lib.hid (show Roots w ∧ (Sb w A n key ∧ B8s key ∧ n ≤ c ∧ c ≤ 9223372036854775807) ∧ (Sb w B m zs ∧ B8s zs ∧ m ≤ d ∧ d ≤ 9223372036854775807) from ⟨hr, ⟨hs, h8, hc.1, by omega⟩, hs2, h82, hd.1, by omega⟩)
  have hdm : d ≤ 9223372036854775807 := by omega
  clear hr hs h8 hn hc hs2 h82 hm hd
  have B1 := Lib.hid (show Below w.heap.size w (w.alloc (.cells #[.slice A n c, .slice B m d] 22)) from (Below.refl _ _).alloc (Nat.le_refl _) _)
  obtain ⟨g1, hg1⟩ : ∃ g, g = greatB [key, zs] := ⟨_, rfl⟩
  rw [← hg1] at HG
  have HGG := Lib.hid hg1
  clear hg1
  cases g1 with
  | true =>
    go_enter Tryd.func6, Tryd.ntmps6
    go_wp2_with fail
    refine HG.out.mono ?_
    rintro e w1 ⟨rfl, rfl⟩
    go_wp2_with fail
    refine (macFixed_any _ (H.out.1.below B1.out)).mono ?_
    rintro e w3 ⟨rfl, hb3⟩
    have b3 := B1.out.trans (hb3.mono B1.out.size)
    clear hb3
    go_wp2_with fail
    go_ret
    exact ⟨rfl, b3⟩
  | false =>
    have HN := Lib.hid (show n ≤ 16384 ∧ m ≤ 16384 from by
      have h2 := great_not HGG.out.symm
      simp at h2
      have h3 := H.out.2.1.1.len
      have h4 := H.out.2.2.1.len
      omega)
    have hm0 : m ≤ 16384 := HN.out.2
    go_enter Tryd.func6, Tryd.ntmps6
    go_wp2_with fail
    refine HG.out.mono ?_
    rintro e w1 ⟨rfl, rfl⟩
    clear HG
    obtain ⟨w1, hw1⟩ : ∃ wq, wq = w.alloc (.cells #[.slice A n c, .slice B m d] 22) := ⟨_, rfl⟩
    rw [← hw1] at B1 ⊢
    clear hw1
    go_upto_region 3 with fail
    go_cut [2] (fun s2 wc => ∃ t : Nat, t ≤ m ∧ s2 = .int .i64 t ∧ wc = w1)
    case first =>
      go_wp2_with fail
      all_goals (go_meet; first | exact ⟨m, Nat.le_refl _, rfl, rfl⟩ | exact ⟨0, Nat.zero_le _, rfl, rfl⟩ | (have h4 := h; rename_i h3; rw [if_neg (by omega)] at h3; exact ⟨at_.toNat, by omega, by rw [Int.toNat_of_nonneg (by omega)], rfl⟩))
    case rest =>
      obtain ⟨t, htm, rfl, rfl⟩ := hcut
      have hsl1 := Lib.hid (fun w' => run_slice_high (P := Tryd.prog) w' 22 5 B m d t Tryd.underlying22 size1 (Nat.le_trans htm H.out.2.2.2.2.1))
      have hsl2 := Lib.hid (fun w' => run_slice_low (P := Tryd.prog) w' 22 5 B m d t Tryd.underlying22 size1 htm)
      obtain ⟨B3, hB3⟩ : ∃ B3, B3 = (if d = t then B else B.map (·.add t)) := ⟨_, rfl⟩
      rw [← hB3] at hsl2
      have HP9 : Hid (∀ wx, Below w.heap.size w wx → Rdy zs (wx.alloc (.cells #[.slice B t d, .slice B3 (m - t) (d - t)] 22)) wx.heap.size 2) := by
        show ∀ wx, _
        intro wx hb
        have b : Below wx.heap.size wx (wx.alloc (.cells #[.slice B t d, .slice B3 (m - t) (d - t)] 22)) := (Below.refl _ _).alloc (Nat.le_refl _) _
        have hnew := heap_alloc_new wx (.cells #[.slice B t d, .slice B3 (m - t) (d - t)] 22)
        obtain ⟨h1, h2, h3, h4⟩ := H.out.2.2
        have hcut := h1.cut htm h3
        rw [← hB3] at hcut
        refine ⟨[zs.take t, zs.drop t], Ps.of rfl (fun _ => lt_of_block hnew) fun q hq => ?_, by simp, by omega⟩
        have hq2 : q = 0 ∨ q = 1 := by omega
        rcases hq2 with rfl | rfl
        · exact ⟨B, t, d, (cell_of_row _ wx.heap.size 0 _ _ _ hnew).trans rfl, ((h1.front htm).below hb).below b, by omega, h4, fun z hz => h2 z (List.mem_of_mem_take hz)⟩
        · exact ⟨B3, m - t, d - t, (cell_of_row _ wx.heap.size 1 _ _ _ hnew).trans rfl, (hcut.below hb).below b, by omega, by omega, fun z hz => h2 z (List.mem_of_mem_drop hz)⟩
      have HP13 : Hid (∀ wx, Below w.heap.size w wx → Rdy zs (wx.alloc (.cells #[.slice B m d] 22)) wx.heap.size 1) := by
        show ∀ wx, _
        intro wx hb
        have b : Below wx.heap.size wx (wx.alloc (.cells #[.slice B m d] 22)) := (Below.refl _ _).alloc (Nat.le_refl _) _
        have hnew := heap_alloc_new wx (.cells #[.slice B m d] 22)
        obtain ⟨h1, h2, h3, h4⟩ := H.out.2.2
        refine ⟨[zs], Ps.of rfl (fun _ => lt_of_block hnew) fun q hq => ?_, by simp, by omega⟩
        obtain rfl : q = 0 := by omega
        exact ⟨B, m, d, (cell_of_row _ wx.heap.size 0 _ _ _ hnew).trans rfl, (h1.below hb).below b, h3, h4, h2⟩
      have HP20 : Hid (∀ wx, Below w.heap.size w wx → Rdy zs (wx.alloc (.cells #[.slice none 0 0, .slice B m d] 22)) wx.heap.size 2) := by
        show ∀ wx, _
        intro wx hb
        have b : Below wx.heap.size wx (wx.alloc (.cells #[.slice none 0 0, .slice B m d] 22)) := (Below.refl _ _).alloc (Nat.le_refl _) _
        have hnew := heap_alloc_new wx (.cells #[.slice none 0 0, .slice B m d] 22)
        obtain ⟨h1, h2, h3, h4⟩ := H.out.2.2
        refine ⟨[[], zs], Ps.of rfl (fun _ => lt_of_block hnew) fun q hq => ?_, by simp, by omega⟩
        have hq2 : q = 0 ∨ q = 1 := by omega
        rcases hq2 with rfl | rfl
        · exact ⟨none, 0, 0, (cell_of_row _ wx.heap.size 0 _ _ _ hnew).trans rfl, Sb.nil _ _, by omega, by omega, fun z hz => by cases hz⟩
        · exact ⟨B, m, d, (cell_of_row _ wx.heap.size 1 _ _ _ hnew).trans rfl, (h1.below hb).below b, h3, h4, h2⟩
      obtain ⟨r, hr⟩ : ∃ r, r = macS key zs := ⟨_, rfl⟩
      have HCODE : Hid (∀ wx b q, Below w.heap.size w wx → Rdy zs wx b q → Calls Tryd.prog 12 #[.slice A n c, .slice (some ⟨b, 0, none⟩) q q] wx fun e w' => e = .returned (.agg (u8A r)) ∧ Below wx.heap.size wx w') := by
        show ∀ wx b q, _
        intro wx b q hb hrdy
        obtain ⟨L', hp, hfl, hq⟩ := hrdy
        rw [hr, ← hfl]
        exact code_any wx (H.out.1.below hb) (H.out.2.1.1.below hb) H.out.2.1.2.1 H.out.2.1.2.2 (by have := HN.out.1; omega) hp (by omega) (by rw [hfl, H.out.2.2.1.len]; omega)
      have heq := Lib.hid (mac_eql r (by rw [hr]; exact macS_len _ _))
      clear hB3 hr
      go_wp2_with fail
      refine wp_region_held_drew (S := fun w' => Below w.heap.size w w') (by kernel_rfl) B1.out.drew (fun hHeld => ?_)
      refine wpAnyH_ready (rs := [0]) (by kernel_rfl) (by simp) (AllReadyH.cons rfl (fun K hK => ?_) AllReadyH.nil)
      rw [if_pos (by rfl)]
      go_simp
      refine (macFixed_any _ (H.out.1.below hHeld)).mono ?_
      rintro e w3 ⟨rfl, hb3⟩
      refine hK.out _ _ (hHeld.trans (hb3.mono hHeld.size)) (fun hHeld => ?_)
      clear hK K hb3
      refine wpAnyH_take (i := 1) (v := .bool true) rfl (by kernel_rfl) (by kernel_rfl) (by kernel_rfl) (fun _ _ _ h => h) (yieldsIf_move (by rfl) (.tmp 17) rfl _ rfl) hHeld ?_
      simp only [Act.put, List.getElem_toArray, List.getElem_cons_succ, List.getElem_cons_zero, List.setIfInBounds_toArray, List.set_cons_succ, List.set_cons_zero]
      refine wpAnyH_take (i := 2) (v := .slice A n c) rfl (by kernel_rfl) (by kernel_rfl) (by kernel_rfl) (fun _ _ _ h => h) (yieldsIf_move (by rfl) (.tmp 0) rfl _ rfl) hHeld ?_
      simp only [Act.put, List.getElem_toArray, List.getElem_cons_succ, List.getElem_cons_zero, List.setIfInBounds_toArray, List.set_cons_succ, List.set_cons_zero]
      refine wpAnyH_take (i := 3) (v := .slice B m d) rfl (by kernel_rfl) (by kernel_rfl) (by kernel_rfl) (fun _ _ _ h => h) (yieldsIf_move (by rfl) (.tmp 1) rfl _ rfl) hHeld ?_
      simp only [Act.put, List.getElem_toArray, List.getElem_cons_succ, List.getElem_cons_zero, List.setIfInBounds_toArray, List.set_cons_succ, List.set_cons_zero]
      refine wpAnyH_take (i := 4) (v := .int .i64 t) rfl (by kernel_rfl) (by kernel_rfl) (by kernel_rfl) (fun _ _ _ h => h) (yieldsIf_move (by rfl) (.tmp 2) rfl _ rfl) hHeld ?_
      simp only [Act.put, List.getElem_toArray, List.getElem_cons_succ, List.getElem_cons_zero, List.setIfInBounds_toArray, List.set_cons_succ, List.set_cons_zero]
      refine wpAnyH_take (i := 6) (v := .slice B m d) rfl (by kernel_rfl) (by kernel_rfl) (by kernel_rfl) (fun _ _ _ h => h) (yieldsIf_move (by rfl) (.tmp 1) rfl _ rfl) hHeld ?_
      simp only [Act.put, List.getElem_toArray, List.getElem_cons_succ, List.getElem_cons_zero, List.setIfInBounds_toArray, List.set_cons_succ, List.set_cons_zero]
      refine wpAnyH_take (i := 7) (v := .int .i64 t) rfl (by kernel_rfl) (by kernel_rfl) (by kernel_rfl) (fun _ _ _ h => h) (yieldsIf_move (by rfl) (.tmp 2) rfl _ rfl) hHeld ?_
      simp only [Act.put, List.getElem_toArray, List.getElem_cons_succ, List.getElem_cons_zero, List.setIfInBounds_toArray, List.set_cons_succ, List.set_cons_zero]
      refine wpAnyH_take (i := 11) (v := .slice A n c) rfl (by kernel_rfl) (by kernel_rfl) (by kernel_rfl) (fun _ _ _ h => h) (yieldsIf_move (by rfl) (.tmp 0) rfl _ rfl) hHeld ?_
      simp only [Act.put, List.getElem_toArray, List.getElem_cons_succ, List.getElem_cons_zero, List.setIfInBounds_toArray, List.set_cons_succ, List.set_cons_zero]
      refine wpAnyH_take (i := 12) (v := .slice B m d) rfl (by kernel_rfl) (by kernel_rfl) (by kernel_rfl) (fun _ _ _ h => h) (yieldsIf_move (by rfl) (.tmp 1) rfl _ rfl) hHeld ?_
      simp only [Act.put, List.getElem_toArray, List.getElem_cons_succ, List.getElem_cons_zero, List.setIfInBounds_toArray, List.set_cons_succ, List.set_cons_zero]
      refine wpAnyH_take (i := 5) (v := .slice B t d) rfl (by kernel_rfl) (by kernel_rfl) (by kernel_rfl) (fun _ _ _ h => h) (yieldsIf_sliceHi (by rfl) 22 (.tmp 20) (.tmp 21) rfl _ _ _ rfl rfl hsl1.out) hHeld ?_
      simp only [Act.put, List.getElem_toArray, List.getElem_cons_succ, List.getElem_cons_zero, List.setIfInBounds_toArray, List.set_cons_succ, List.set_cons_zero]
      refine wpAnyH_take (i := 8) (v := .slice B3 (m - t) (d - t)) rfl (by kernel_rfl) (by kernel_rfl) (by kernel_rfl) (fun _ _ _ h => h) (yieldsIf_sliceLo (by rfl) 22 (.tmp 23) (.tmp 24) rfl _ _ _ rfl rfl hsl2.out) hHeld ?_
      simp only [Act.put, List.getElem_toArray, List.getElem_cons_succ, List.getElem_cons_zero, List.setIfInBounds_toArray, List.set_cons_succ, List.set_cons_zero]
      refine wpAnyH_ready (rs := [9, 13]) (by kernel_rfl) (by simp) (AllReadyH.cons rfl (fun K hK => ?_) (AllReadyH.cons rfl (fun K hK => ?_) AllReadyH.nil))
      rw [if_pos (by rfl)]
      go_simp
      have P1 := HP9.out _ hHeld
      refine hK.out _ _ (hHeld.alloc hHeld.size _) (fun hHeld => ?_)
      clear hK K
      refine wpAnyH_ready (rs := [10, 13]) (by kernel_rfl) (by simp) (AllReadyH.cons rfl (fun K hK => ?_) (AllReadyH.cons rfl (fun K hK => ?_) AllReadyH.nil))
      rw [if_pos (by rfl)]
      go_simp
      refine (HCODE.out _ _ _ hHeld P1).mono ?_
      rintro e w4 ⟨rfl, hb⟩
      refine hK.out _ _ (hHeld.trans (hb.mono hHeld.size)) (fun hHeld => ?_)
      clear hK K hb P1
      refine wpAnyH_ready (rs := [13]) (by kernel_rfl) (by simp) (AllReadyH.cons rfl (fun K hK => ?_) AllReadyH.nil)
      rw [if_pos (by rfl)]
      go_simp
      have P2 := HP13.out _ hHeld
      refine hK.out _ _ (hHeld.alloc hHeld.size _) (fun hHeld => ?_)
      clear hK K
      refine wpAnyH_ready (rs := [14]) (by kernel_rfl) (by simp) (AllReadyH.cons rfl (fun K hK => ?_) AllReadyH.nil)
      rw [if_pos (by rfl)]
      go_simp
      refine (HCODE.out _ _ _ hHeld P2).mono ?_
      rintro e w6 ⟨rfl, hb⟩
      refine hK.out _ _ (hHeld.trans (hb.mono hHeld.size)) (fun hHeld => ?_)
      clear hK K hb P2
      rotate_left
      rw [if_pos (by rfl)]
      go_simp
      have P2 := HP13.out _ hHeld
      rw [World.size_alloc] at P2
      have P1 := P1.below ((Below.refl _ _).alloc (Nat.le_refl _) (.cells #[.slice B m d] 22))
      refine hK.out _ _ (hHeld.alloc hHeld.size _) (fun hHeld => ?_)
      clear hK K
      refine wpAnyH_ready (rs := [10]) (by kernel_rfl) (by simp) (AllReadyH.cons rfl (fun K hK => ?_) AllReadyH.nil)
      rw [if_pos (by rfl)]
      go_simp
      refine (HCODE.out _ _ _ hHeld P1).mono ?_
      rintro e w4 ⟨rfl, hb⟩
      have P2 := P2.below hb
      refine hK.out _ _ (hHeld.trans (hb.mono hHeld.size)) (fun hHeld => ?_)
      clear hK K hb P1
      refine wpAnyH_ready (rs := [14]) (by kernel_rfl) (by simp) (AllReadyH.cons rfl (fun K hK => ?_) AllReadyH.nil)
      rw [if_pos (by rfl)]
      go_simp
      refine (HCODE.out _ _ _ hHeld P2).mono ?_
      rintro e w6 ⟨rfl, hb⟩
      refine hK.out _ _ (hHeld.trans (hb.mono hHeld.size)) (fun hHeld => ?_)
      clear hK K hb P2
      rotate_left
      rw [if_pos (by rfl)]
      go_simp
      have P2 := HP13.out _ hHeld
      refine hK.out _ _ (hHeld.alloc hHeld.size _) (fun hHeld => ?_)
      clear hK K
      refine wpAnyH_ready (rs := [9]) (by kernel_rfl) (by simp) (AllReadyH.cons rfl (fun K hK => ?_) AllReadyH.nil)
      rw [if_pos (by rfl)]
      go_simp
      have P1 := HP9.out _ hHeld
      rw [World.size_alloc] at P1
      have P2 := P2.below ((Below.refl _ _).alloc (Nat.le_refl _) (.cells #[.slice B t d, .slice B3 (m - t) (d - t)] 22))
      refine hK.out _ _ (hHeld.alloc hHeld.size _) (fun hHeld => ?_)
      clear hK K
      refine wpAnyH_ready (rs := [10]) (by kernel_rfl) (by simp) (AllReadyH.cons rfl (fun K hK => ?_) AllReadyH.nil)
      rw [if_pos (by rfl)]
      go_simp
      refine (HCODE.out _ _ _ hHeld P1).mono ?_
      rintro e w4 ⟨rfl, hb⟩
      have P2 := P2.below hb
      refine hK.out _ _ (hHeld.trans (hb.mono hHeld.size)) (fun hHeld => ?_)
      clear hK K hb P1
      refine wpAnyH_ready (rs := [14]) (by kernel_rfl) (by simp) (AllReadyH.cons rfl (fun K hK => ?_) AllReadyH.nil)
      rw [if_pos (by rfl)]
      go_simp
      refine (HCODE.out _ _ _ hHeld P2).mono ?_
      rintro e w6 ⟨rfl, hb⟩
      refine hK.out _ _ (hHeld.trans (hb.mono hHeld.size)) (fun hHeld => ?_)
      clear hK K hb P2
      all_goals
        refine wpAnyH_take (i := 15) (v := .bool true) rfl (by kernel_rfl) (by kernel_rfl) (by kernel_rfl) (fun _ _ _ h => h) (yieldsIf_eql (by rfl) 28 28 (.tmp 27) (.tmp 31) rfl (u8A r) (u8A r) _ rfl rfl (by kernel_rfl) heq.out) hHeld ?_
        simp only [Act.put, List.getElem_toArray, List.getElem_cons_succ, List.getElem_cons_zero, List.setIfInBounds_toArray, List.set_cons_succ, List.set_cons_zero]
        refine wpAnyH_take (i := 16) (v := .bool true) rfl (by kernel_rfl) (by kernel_rfl) (by kernel_rfl) (fun _ _ _ h => h) (yieldsIf_pick (by rfl) (.tmp 18) (.tmp 32) (.const (.bool false)) rfl _ rfl rfl) hHeld ?_
        simp only [Act.put, List.getElem_toArray, List.getElem_cons_succ, List.getElem_cons_zero, List.setIfInBounds_toArray, List.set_cons_succ, List.set_cons_zero]
        refine wpAnyH_take (i := 17) (v := .bool true) rfl (by kernel_rfl) (by kernel_rfl) (by kernel_rfl) (fun _ _ _ h => h) (yieldsIf_move (by rfl) (.tmp 33) rfl _ rfl) hHeld ?_
        simp only [Act.put, List.getElem_toArray, List.getElem_cons_succ, List.getElem_cons_zero, List.setIfInBounds_toArray, List.set_cons_succ, List.set_cons_zero]
        refine wpAnyH_take (i := 18) (v := .slice A n c) rfl (by kernel_rfl) (by kernel_rfl) (by kernel_rfl) (fun _ _ _ h => h) (yieldsIf_move (by rfl) (.tmp 0) rfl _ rfl) hHeld ?_
        simp only [Act.put, List.getElem_toArray, List.getElem_cons_succ, List.getElem_cons_zero, List.setIfInBounds_toArray, List.set_cons_succ, List.set_cons_zero]
        refine wpAnyH_take (i := 19) (v := .slice B m d) rfl (by kernel_rfl) (by kernel_rfl) (by kernel_rfl) (fun _ _ _ h => h) (yieldsIf_move (by rfl) (.tmp 1) rfl _ rfl) hHeld ?_
        simp only [Act.put, List.getElem_toArray, List.getElem_cons_succ, List.getElem_cons_zero, List.setIfInBounds_toArray, List.set_cons_succ, List.set_cons_zero]
        refine wpAnyH_take (i := 22) (v := .slice A n c) rfl (by kernel_rfl) (by kernel_rfl) (by kernel_rfl) (fun _ _ _ h => h) (yieldsIf_move (by rfl) (.tmp 0) rfl _ rfl) hHeld ?_
        simp only [Act.put, List.getElem_toArray, List.getElem_cons_succ, List.getElem_cons_zero, List.setIfInBounds_toArray, List.set_cons_succ, List.set_cons_zero]
        refine wpAnyH_take (i := 23) (v := .slice B m d) rfl (by kernel_rfl) (by kernel_rfl) (by kernel_rfl) (fun _ _ _ h => h) (yieldsIf_move (by rfl) (.tmp 1) rfl _ rfl) hHeld ?_
        simp only [Act.put, List.getElem_toArray, List.getElem_cons_succ, List.getElem_cons_zero, List.setIfInBounds_toArray, List.set_cons_succ, List.set_cons_zero]
        refine wpAnyH_ready (rs := [20, 24]) (by kernel_rfl) (by simp) (AllReadyH.cons rfl (fun K hK => ?_) (AllReadyH.cons rfl (fun K hK => ?_) AllReadyH.nil))
        rw [if_pos (by rfl)]
        go_simp
        have P1 := HP20.out _ hHeld
        refine hK.out _ _ (hHeld.alloc hHeld.size _) (fun hHeld => ?_)
        clear hK K
        refine wpAnyH_ready (rs := [21, 24]) (by kernel_rfl) (by simp) (AllReadyH.cons rfl (fun K hK => ?_) (AllReadyH.cons rfl (fun K hK => ?_) AllReadyH.nil))
        rw [if_pos (by rfl)]
        go_simp
        refine (HCODE.out _ _ _ hHeld P1).mono ?_
        rintro e w7 ⟨rfl, hb⟩
        refine hK.out _ _ (hHeld.trans (hb.mono hHeld.size)) (fun hHeld => ?_)
        clear hK K hb P1
        refine wpAnyH_ready (rs := [24]) (by kernel_rfl) (by simp) (AllReadyH.cons rfl (fun K hK => ?_) AllReadyH.nil)
        rw [if_pos (by rfl)]
        go_simp
        have P2 := HP13.out _ hHeld
        refine hK.out _ _ (hHeld.alloc hHeld.size _) (fun hHeld => ?_)
        clear hK K
        refine wpAnyH_ready (rs := [25]) (by kernel_rfl) (by simp) (AllReadyH.cons rfl (fun K hK => ?_) AllReadyH.nil)
        rw [if_pos (by rfl)]
        go_simp
        refine (HCODE.out _ _ _ hHeld P2).mono ?_
        rintro e w8 ⟨rfl, hb⟩
        refine hK.out _ _ (hHeld.trans (hb.mono hHeld.size)) (fun hHeld => ?_)
        clear hK K hb P2
        rotate_left
        rw [if_pos (by rfl)]
        go_simp
        have P2 := HP13.out _ hHeld
        rw [World.size_alloc] at P2
        have P1 := P1.below ((Below.refl _ _).alloc (Nat.le_refl _) (.cells #[.slice B m d] 22))
        refine hK.out _ _ (hHeld.alloc hHeld.size _) (fun hHeld => ?_)
        clear hK K
        refine wpAnyH_ready (rs := [21]) (by kernel_rfl) (by simp) (AllReadyH.cons rfl (fun K hK => ?_) AllReadyH.nil)
        rw [if_pos (by rfl)]
        go_simp
        refine (HCODE.out _ _ _ hHeld P1).mono ?_
        rintro e w7 ⟨rfl, hb⟩
        have P2 := P2.below hb
        refine hK.out _ _ (hHeld.trans (hb.mono hHeld.size)) (fun hHeld => ?_)
        clear hK K hb P1
        refine wpAnyH_ready (rs := [25]) (by kernel_rfl) (by simp) (AllReadyH.cons rfl (fun K hK => ?_) AllReadyH.nil)
        rw [if_pos (by rfl)]
        go_simp
        refine (HCODE.out _ _ _ hHeld P2).mono ?_
        rintro e w8 ⟨rfl, hb⟩
        refine hK.out _ _ (hHeld.trans (hb.mono hHeld.size)) (fun hHeld => ?_)
        clear hK K hb P2
        rotate_left
        rw [if_pos (by rfl)]
        go_simp
        have P2 := HP13.out _ hHeld
        refine hK.out _ _ (hHeld.alloc hHeld.size _) (fun hHeld => ?_)
        clear hK K
        refine wpAnyH_ready (rs := [20]) (by kernel_rfl) (by simp) (AllReadyH.cons rfl (fun K hK => ?_) AllReadyH.nil)
        rw [if_pos (by rfl)]
        go_simp
        have P1 := HP20.out _ hHeld
        rw [World.size_alloc] at P1
        have P2 := P2.below ((Below.refl _ _).alloc (Nat.le_refl _) (.cells #[.slice none 0 0, .slice B m d] 22))
        refine hK.out _ _ (hHeld.alloc hHeld.size _) (fun hHeld => ?_)
        clear hK K
        refine wpAnyH_ready (rs := [21]) (by kernel_rfl) (by simp) (AllReadyH.cons rfl (fun K hK => ?_) AllReadyH.nil)
        rw [if_pos (by rfl)]
        go_simp
        refine (HCODE.out _ _ _ hHeld P1).mono ?_
        rintro e w7 ⟨rfl, hb⟩
        have P2 := P2.below hb
        refine hK.out _ _ (hHeld.trans (hb.mono hHeld.size)) (fun hHeld => ?_)
        clear hK K hb P1
        refine wpAnyH_ready (rs := [25]) (by kernel_rfl) (by simp) (AllReadyH.cons rfl (fun K hK => ?_) AllReadyH.nil)
        rw [if_pos (by rfl)]
        go_simp
        refine (HCODE.out _ _ _ hHeld P2).mono ?_
        rintro e w8 ⟨rfl, hb⟩
        refine hK.out _ _ (hHeld.trans (hb.mono hHeld.size)) (fun hHeld => ?_)
        clear hK K hb P2
        all_goals
          refine wpAnyH_take (i := 26) (v := .bool true) rfl (by kernel_rfl) (by kernel_rfl) (by kernel_rfl) (fun _ _ _ h => h) (yieldsIf_eql (by rfl) 28 28 (.tmp 38) (.tmp 42) rfl (u8A r) (u8A r) _ rfl rfl (by kernel_rfl) heq.out) hHeld ?_
          simp only [Act.put, List.getElem_toArray, List.getElem_cons_succ, List.getElem_cons_zero, List.setIfInBounds_toArray, List.set_cons_succ, List.set_cons_zero]
          refine wpAnyH_take (i := 27) (v := .bool true) rfl (by kernel_rfl) (by kernel_rfl) (by kernel_rfl) (fun _ _ _ h => h) (yieldsIf_pick (by rfl) (.tmp 34) (.tmp 43) (.const (.bool false)) rfl _ rfl rfl) hHeld ?_
          simp only [Act.put, List.getElem_toArray, List.getElem_cons_succ, List.getElem_cons_zero, List.setIfInBounds_toArray, List.set_cons_succ, List.set_cons_zero]
          refine wpAnyH_take (i := 28) (v := .bool true) rfl (by kernel_rfl) (by kernel_rfl) (by kernel_rfl) (fun _ _ _ h => h) (yieldsIf_assign (by rfl) (.tmp 44) rfl _ rfl) hHeld ?_
          simp only [Act.put, List.getElem_toArray, List.getElem_cons_succ, List.getElem_cons_zero, List.setIfInBounds_toArray, List.set_cons_succ, List.set_cons_zero]
          refine wpAnyH_done (by kernel_rfl) ?_ _
          go_wp2_with fail
          go_ret
          exact ⟨rfl, hHeld⟩

set_option maxRecDepth 100000 in
theorem lifted (os : Os) (started : os.Started) (H : Type) (enc : TypeId × Value → H) :
    ReturnsInHanded {} Tryd.checked os 6 .any (fun w args => (Rows.macPiecesSpec.pre enc Tryd.prog Tryd.f6 [] false w args ∧ laidMetH Tryd.prog laidL w) ∧ sizedMet enc Tryd.prog Tryd.f6 (OpenSpec.ofChange Rows.macPiecesSpec) false w args)
      (Rows.macPiecesSpec.post enc Tryd.prog Tryd.f6 false true false false) := by
  refine returnsInHanded_of_change_and (C := Tryd.checked) (X := fun w _ => laidMetH Tryd.prog laidL w) (fun _ _ _ hh h => h.of_heap hh) own started (by kernel_rfl) Tryd.func6
    (ChangeSpec.witness_shaped (enc := enc) (C := Tryd.checked) (os := os) (X := fun w _ => laidMetH Tryd.prog laidL w) false (World.doorLaid Tryd.prog 400 os) #[.slice none 0 0, .slice none 0 0, .int .i64 0] 8 rfl (World.shaped_of_RefB (by kernel_rfl) (by kernel_rfl)) (by kernel_rfl) (by kernel_rfl) (by kernel_rfl) (door_met os _)) ?_
  intro W base args ds gs before hval0 hW _ hsz0 hL _
  have hsz : (DataW.weightsEach Tryd.prog (Tryd.f6.params.toList ++ Rows.macPiecesSpec.plain.varTypes Tryd.prog) (ds ++ gs)).all (· ≤ reachBytes) = true := hsz0
  clear hsz0
  have hval : ∀ (j : Nat) t v, Tryd.f6.params[j]? = some t → args[j]? = some v → Value.okWide Tryd.prog W .any base t v := hval0
  have hW' := hW
  obtain ⟨p, q, hA0, hV, rfl, _, _⟩ := hW
  have hA : DataW.TrodAll enc Tryd.prog W 0 (fun _ => true) true Tryd.f6.params.toList args.toList ds p := hA0
  rw [Tryd.params6] at hA hval hsz
  obtain ⟨v0, vs0, d0, ds0, p0, q0, hargs, rfl, rfl, h0, r0⟩ := trodAll_cons hA
  obtain ⟨v1, vs1, d1, ds1, p1, q1, rfl, rfl, rfl, h1, r1⟩ := trodAll_cons r0
  obtain ⟨v2, vs2, d2, ds2, p2, q2, rfl, rfl, rfl, h2, r2⟩ := trodAll_cons r1
  obtain ⟨rfl, rfl, rfl⟩ := trodAll_nil r2
  obtain rfl : args = #[v0, v1, v2] := by cases args; simp_all
  obtain ⟨rfl, rfl⟩ := trodVars_none hV
  have lt0 : ∀ x ∈ p0, x.block < W.heap.size := by obtain ⟨m, hm⟩ := h0; exact DataW.trod_lt m _ _ _ hm
  obtain ⟨A0, n0, c0, z0, rfl, s0, u0, l0, g0⟩ := open_bytes_c (hval 0 22 v0 rfl rfl) h0
  have m0 := g0 _ _ 0 hsz rfl rfl
  have lt1 : ∀ x ∈ p1, x.block < W.heap.size := by obtain ⟨m, hm⟩ := h1; exact DataW.trod_lt m _ _ _ hm
  obtain ⟨A1, n1, c1, z1, rfl, s1, u1, l1, g1⟩ := open_bytes_c (hval 1 22 v1 rfl rfl) h1
  have m1 := g1 _ _ 1 hsz rfl rfl
  obtain ⟨a2, rfl, rfl, rfl, w2⟩ := open_int Tryd.underlying3 (hval 2 3 v2 rfl rfl) h2
  clear hA0 hval0
  refine (walk W (roots_of_laid hL) s0 u0 m0 l0 s1 u1 m1 l1 w2).mono fun e W' ⟨he, bel⟩ => ?_
  subst he
  exact ⟨_, rfl, _, _, _, [], _, [], hW', trodAll_mk1 (shut_bool Tryd.underlying4 _), (trodAll_cons_mk (Below.trod laidOut (by kernel_rfl) (of_decide_eq_true (by kernel_rfl)) h0 bel lt0) (trodAll_cons_mk (Below.trod laidOut (by kernel_rfl) (of_decide_eq_true (by kernel_rfl)) h1 bel lt1) (trodAll_cons_mk (shut_int Tryd.underlying3 w2) trodAll_mk0))), rfl, bel.frame _, fun h => by cases h⟩

theorem over : Rows.macPiecesRow.holds Tryd.pinned (OpenSpec.ofChange Rows.macPiecesSpec) :=
  OpenClaim.holds_of_wide 6 Tryd.f6 rfl rfl rfl rfl rfl rfl rfl ⟨rfl, rfl, rfl, rfl, rfl⟩ rfl rfl rfl rfl rfl (by kernel_rfl) Tryd.func6 (by kernel_rfl)
    (of_decide_eq_true (by kernel_rfl)) (by unfold Func.isWrapper; first | (rw [if_pos (by decide +kernel)]; kernel_rfl) | (rw [if_neg (by decide +kernel)]; exact ⟨rfl, rfl⟩))
    (fun os started H enc _ => lifted os started H enc)

theorem proved : Rows.MacPiecesCardSaid :=
  Claim7.holds_tied_plain_at .later [] [.data] true Rows.macPiecesCard.stood.harness false
    over (fun _ h => by cases h) (by kernel_rfl) (fun _ h => by cases h) macPieces_row_tie rfl ⟨rfl, rfl⟩ (by kernel_rfl) rfl
    (fun f fn hf hfn => by
      obtain rfl : f = 6 := Option.some.inj ((show Tryd.prog.funcNamed "spyglass/spyglasslaw04.MacPieces" = some 6 by kernel_rfl).symm.trans hf) |>.symm
      obtain rfl : fn = Tryd.f6 := (Option.some.inj (Tryd.func6.symm.trans hfn)).symm
      exact ⟨by kernel_rfl, fun j t ht => by
        rw [Tryd.params6] at ht
        have hm : t ∈ [22, 22, 3] := by simpa using Array.mem_of_getElem? ht
        have hall : ([22, 22, 3].all fun u => !Tryd.prog.wantsStandIn u) = true := by kernel_rfl
        exact (show Tryd.prog.wantsStandIn t = false by simpa using List.all_eq_true.1 hall t hm)⟩)
    (by kernel_rfl)
end Go.Proofs.YtaekcndgodhihaaDoor.macPieces
