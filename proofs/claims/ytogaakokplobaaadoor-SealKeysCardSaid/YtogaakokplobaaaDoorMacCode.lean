/-
  The contract of Code.
-/
import Derived.Test.YtogaakokplobaaaDoorMacBegin
import Derived.Test.YtogaakokplobaaaDoorMacPts
import Derived.Deep.RegionWith
import Derived.Test.YtogaakokplobaaaDoorShaStill
namespace Go.Proofs.YtogaakokplobaaaDoor
open Go.RowKit

theorem yieldsIf_sliceA {P : Program} {ops : Array Oper} {S : World → Prop} {op : Oper} {a : Act} (hw : Region.wanted op (yielded ops a.tmps) = true) (t : TypeId) (x : Operand) (ho : op.op = .slice t x none none none) (vx v : Value)
    (hx : a.eval x = vx) (hrun : ∀ w, (Instr.sliceAt t vx none none none).run P w = .ok v w) : YieldsIf P ops S op v a :=
  .inl ⟨hw, fun w _ => by
    unfold execOp
    simp [ho, hx, hrun]⟩
theorem run_slA32 (b : Nat) (w : World) : (Instr.sliceAt 46 (.pointer (some ⟨b, 0, none⟩)) none none none).run Tryd.prog w = .ok (.slice (some ⟨b, 0, none⟩) 32 32) w := by
  have e0 : ∀ a : Addr, a.add 0 = a := fun a => by simp [Addr.add]
  simp [Instr.sliceAt, Instr.slice, run_underlying Tryd.underlying46, Instr.sliceBounds, Instr.sureAddr, e0]

set_option maxRecDepth 100000 in
set_option maxHeartbeats 3200000 in
theorem code_any {A : Option Addr} {n c : Nat} {key : List Int} {B : Option Addr} {m d : Nat} {L : List (List Int)} (w : World) (hr : Roots w) (hs : Sb w A n key) (h8 : B8s key) (hc : n ≤ c ∧ c ≤ 9223372036854775807) (hn : n ≤ 1125899906842624)
    (hp : Ps w B m L) (hm : m ≤ 900000) (hl : L.flatten.length ≤ 1125899906842000) :
    Calls Tryd.prog 35 #[.slice A n c, .slice B m d] w fun e w' => e = .returned (.agg (u8A (macS key L.flatten))) ∧ Below w.heap.size w w' := by
  have H := Lib.hid (show Roots w ∧ Sb w A n key ∧ B8s key ∧ (n ≤ c ∧ c ≤ 9223372036854775807) ∧ n ≤ 1125899906842624 ∧ Ps w B m L ∧ L.flatten.length ≤ 1125899906842000 from ⟨hr, hs, h8, hc, hn, hp, hl⟩)
  clear hr hs h8 hc hn hp hl
  go_enter Tryd.func35, Tryd.ntmps35
  go_wp2_with fail
  obtain ⟨w0, hw0⟩ : ∃ w0, w0 = w.alloc (.cells (u8A (List.replicate 32 0)) 46) := ⟨_, rfl⟩
  have H0 : Hid (Blk w0 w.heap.size 46 (u8A (List.replicate 32 0)) ∧ Below w.heap.size w w0 ∧ w0.heap.size = w.heap.size + 1) := by
    rw [hw0]
    exact Lib.hid ⟨Blk.new _ _ _, (Below.refl _ _).alloc (Nat.le_refl _) _, by simp⟩
  have hw0' : w0 = w.alloc (.cells #[Value.int .u8 0, Value.int .u8 0, Value.int .u8 0, Value.int .u8 0, Value.int .u8 0, Value.int .u8 0, Value.int .u8 0, Value.int .u8 0, Value.int .u8 0, Value.int .u8 0, Value.int .u8 0, Value.int .u8 0, Value.int .u8 0, Value.int .u8 0, Value.int .u8 0, Value.int .u8 0, Value.int .u8 0, Value.int .u8 0, Value.int .u8 0, Value.int .u8 0, Value.int .u8 0, Value.int .u8 0, Value.int .u8 0, Value.int .u8 0, Value.int .u8 0, Value.int .u8 0, Value.int .u8 0, Value.int .u8 0, Value.int .u8 0, Value.int .u8 0, Value.int .u8 0, Value.int .u8 0] 46) := hw0
  rw [← hw0']
  clear hw0 hw0'
  refine (begin_any w0 (H.out.1.below H0.out.2.1) (H.out.2.1.below H0.out.2.1) H.out.2.2.1 H.out.2.2.2.1 H.out.2.2.2.2.1).mono ?_
  rintro e w1 ⟨rfl, hb1, hbel1⟩
  have X1 := Lib.hid (show Blk w1 w0.heap.size 71 (u8A (blkS key)) ∧ Below w.heap.size w w1 ∧ Blk w1 w.heap.size 46 (u8A (List.replicate 32 0)) from
    ⟨hb1, H0.out.2.1.trans (hbel1.mono H0.out.2.1.size), H0.out.1.below hbel1 H0.out.1.lt⟩)
  clear hb1 hbel1
  go_wp2_with fail
  refine (lay_any 54 (blkS key) w0.heap.size w1 (by omega) (blkS_len key) (blkS_b H.out.2.2.1) X1.out.1).mono ?_
  rintro e w2 ⟨rfl, hb2, hbel2⟩
  obtain ⟨t, ht⟩ : ∃ t, t = xorL 54 (blkS key) := ⟨_, rfl⟩
  rw [← ht] at hb2
  have HT := Lib.hid (show t.length = 64 ∧ B8s t ∧ t = xorL 54 (blkS key) from ⟨by rw [ht, xorL_len, blkS_len], by rw [ht]; exact xorL_b (by omega) (blkS_b H.out.2.2.1), ht⟩)
  have X2 := Lib.hid (show Blk w2 w1.heap.size 71 (u8A t) ∧ Blk w2 w0.heap.size 71 (u8A (blkS key)) ∧ Below w.heap.size w w2 ∧ Blk w2 w.heap.size 46 (u8A (List.replicate 32 0)) from
    ⟨hb2, X1.out.1.below hbel2 X1.out.1.lt, X1.out.2.1.trans (hbel2.mono X1.out.2.1.size), X1.out.2.2.below hbel2 X1.out.2.2.lt⟩)
  clear hb2 hbel2 ht X1
  have HP2 := Lib.hid (show Ps w2 B m L from Ps.below H.out.2.2.2.2.2.1 (X2.out.2.2.1))
  have HV := Lib.hid (show Pv w2 [.slice (some ⟨w1.heap.size, 0, none⟩) 64 64] [t] from by
    have h1 : Sb w2 (some ⟨w1.heap.size, 0, none⟩) 64 t := ⟨HT.out.1, fun _ => ⟨_, rfl, X2.out.1.lt, fun k hk => by rw [addHead]; exact X2.out.1.cell8 (by rw [HT.out.1]; exact hk)⟩⟩
    have h2 := (Pv.nil w2).snoc h1 (Nat.le_refl _) (by omega) HT.out.2.1
    simpa using h2)
  have hown3 : (w2.alloc (.cells #[.slice (some ⟨w1.heap.size, 0, none⟩) 64 64] 22)).ownsRow w2.heap.size 22 1 (.slice (some ⟨w2.heap.size, 0, none⟩) 1 1) 1 [.slice (some ⟨w1.heap.size, 0, none⟩) 64 64] :=
    World.ownsRow_lit w2 #[.slice (some ⟨w1.heap.size, 0, none⟩) 64 64] 1 (Nat.le_refl _) (by unfold maxLen; omega) rfl
  have HO3 := Lib.hid hown3
  clear hown3
  go_wp2_with (refine wpList_appS rfl (.tmp 12) (.tmp 13) rfl w2 _ (.slice (some ⟨w2.heap.size, 0, none⟩) 1 1) 1 [.slice (some ⟨w1.heap.size, 0, none⟩) 64 64] HO3.out ((Below.refl _ _).alloc (Nat.le_refl _) _) B m d L HP2.out (by omega) rfl rfl ?_; intro A4 c4 w4 news hown4 hpv4 hbel4; have H4 := Lib.hid (And.intro hown4 (And.intro hpv4 hbel4)); clear hown4 hpv4 hbel4)
  have HP4 := Lib.hid (show Ps w4 A4 (1 + m) ([t] ++ L) from Ps.own H4.out.1 (HV.out.append H4.out.2.1) H4.out.2.2)
  have X4 := Lib.hid (show Blk w4 w0.heap.size 71 (u8A (blkS key)) ∧ Below w.heap.size w w4 ∧ Blk w4 w.heap.size 46 (u8A (List.replicate 32 0)) from
    ⟨X2.out.2.1.below H4.out.2.2 X2.out.2.1.lt, X2.out.2.2.1.trans (H4.out.2.2.mono X2.out.2.2.1.size), X2.out.2.2.2.below H4.out.2.2 X2.out.2.2.2.lt⟩)
  clear H4 HV HP2 HO3 X2
  refine (shaSum_any (n := 1 + m) (L := [t] ++ L) w4 (H.out.1.below X4.out.2.1) HP4.out (by have h1 := H.out.2.2.2.2.2.2; have h2 := HT.out.1; rw [show ([t] ++ L).flatten = t ++ L.flatten from rfl, List.length_append]; omega) (by omega)).mono ?_
  rintro e w5 ⟨rfl, hbel5⟩
  obtain ⟨s, hs⟩ : ∃ s, s = shaS ([t] ++ L).flatten := ⟨_, rfl⟩
  rw [← hs]
  have HS := Lib.hid (show s.length = 32 ∧ B8s s ∧ s = shaS (xorL 54 (blkS key) ++ L.flatten) from ⟨by rw [hs]; exact shaS_len _, by rw [hs]; exact shaS_b _, by rw [hs, ← HT.out.2.2]; simp⟩)
  have X5 := Lib.hid (show Blk w5 w0.heap.size 71 (u8A (blkS key)) ∧ Below w.heap.size w w5 ∧ Blk w5 w.heap.size 46 (u8A (List.replicate 32 0)) from
    ⟨X4.out.1.below hbel5 X4.out.1.lt, X4.out.2.1.trans (hbel5.mono X4.out.2.1.size), X4.out.2.2.below hbel5 X4.out.2.2.lt⟩)
  clear hs hbel5 X4 HP4
  have hn5 : Hid (Blk (w5.alloc (.cells (u8A (List.replicate 32 0)) 46)) w5.heap.size 46 (u8A (List.replicate 32 0))) := Blk.new _ _ _
  go_upto_region 4 with (refine wpList_store_row rfl 46 (.tmp 7) (.tmp 16) rfl w5.heap.size (u8A s) rfl rfl 46 (u8A (List.replicate 32 0)) hn5.out (by rw [u8A_size, HS.out.1]; exact info32) (by rw [u8A_size, u8A_size, HS.out.1]; simp) (u8A_one _) ?_)
  have hlt0 := X5.out.1.lt
  have hlt1 := X5.out.2.2.lt
  have X6 := Lib.hid (show Blk ((w5.alloc (.cells (u8A (List.replicate 32 0)) 46)).setRow w5.heap.size (u8A s)) w0.heap.size 71 (u8A (blkS key)) ∧ Below w.heap.size w ((w5.alloc (.cells (u8A (List.replicate 32 0)) 46)).setRow w5.heap.size (u8A s)) ∧ Blk ((w5.alloc (.cells (u8A (List.replicate 32 0)) 46)).setRow w5.heap.size (u8A s)) w.heap.size 46 (u8A (List.replicate 32 0)) ∧ Blk ((w5.alloc (.cells (u8A (List.replicate 32 0)) 46)).setRow w5.heap.size (u8A s)) w5.heap.size 46 (u8A s) from
    ⟨(X5.out.1.alloc _).otherRow _ (Nat.ne_of_lt hlt0), below_setRow (X5.out.2.1.alloc X5.out.2.1.size _) X5.out.2.1.size _, (X5.out.2.2.alloc _).otherRow _ (Nat.ne_of_lt hlt1), hn5.out.setRow _⟩)
  obtain ⟨w6, hw6⟩ : ∃ w6, w6 = (w5.alloc (.cells (u8A (List.replicate 32 0)) 46)).setRow w5.heap.size (u8A s) := ⟨_, rfl⟩
  rw [← hw6] at X6
  have hw6' : w6 = (w5.alloc (.cells #[Value.int .u8 0, Value.int .u8 0, Value.int .u8 0, Value.int .u8 0, Value.int .u8 0, Value.int .u8 0, Value.int .u8 0, Value.int .u8 0, Value.int .u8 0, Value.int .u8 0, Value.int .u8 0, Value.int .u8 0, Value.int .u8 0, Value.int .u8 0, Value.int .u8 0, Value.int .u8 0, Value.int .u8 0, Value.int .u8 0, Value.int .u8 0, Value.int .u8 0, Value.int .u8 0, Value.int .u8 0, Value.int .u8 0, Value.int .u8 0, Value.int .u8 0, Value.int .u8 0, Value.int .u8 0, Value.int .u8 0, Value.int .u8 0, Value.int .u8 0, Value.int .u8 0, Value.int .u8 0] 46)).setRow w5.heap.size (u8A s) := hw6
  rw [← hw6']
  clear hw6 hw6' hn5 X5 hlt0 hlt1
  obtain ⟨u, hu⟩ : ∃ u, u = xorL 92 (blkS key) := ⟨_, rfl⟩
  have HLAY := Lib.hid (show Calls Tryd.prog 49 #[.int .u8 92, .pointer (some ⟨w0.heap.size, 0, none⟩)] w6.drew fun e w' => e = .returned (.slice (some ⟨w6.heap.size, 0, none⟩) 64 64) ∧
      Blk w' w6.heap.size 71 (u8A (xorL 92 (blkS key))) ∧ Below w6.heap.size w6.drew w' from lay_any 92 (blkS key) w0.heap.size w6.drew (by omega) (blkS_len key) (blkS_b H.out.2.2.1) X6.out.1.drew)
  rw [← hu] at HLAY
  have HU := Lib.hid (show u.length = 64 ∧ B8s u ∧ u = xorL 92 (blkS key) from ⟨by rw [hu, xorL_len, blkS_len], by rw [hu]; exact xorL_b (by omega) (blkS_b H.out.2.2.1), hu⟩)
  clear hu
  go_wp2_with fail
  have HSUM : Hid (∀ w7, Blk w7 w6.heap.size 71 (u8A u) → Below w6.heap.size w6.drew w7 →
      Calls Tryd.prog 43 #[.slice (some ⟨w7.heap.size, 0, none⟩) 2 2] (w7.alloc (.cells #[.slice (some ⟨w6.heap.size, 0, none⟩) 64 64, .slice (some ⟨w5.heap.size, 0, none⟩) 32 32] 22)) fun e w' =>
        e = .returned (.agg (u8A (shaS [u, s].flatten))) ∧ Below w7.heap.size w7 w') := by
    show ∀ w7, _
    intro w7 hb7 hbel7
    have b8 : Below w7.heap.size w7 (w7.alloc (.cells #[.slice (some ⟨w6.heap.size, 0, none⟩) 64 64, .slice (some ⟨w5.heap.size, 0, none⟩) 32 32] 22)) := (Below.refl _ _).alloc (Nat.le_refl _) _
    have b0 : Below w.heap.size w w7 := X6.out.2.1.drew.trans (hbel7.mono X6.out.2.1.size)
    have h5 := X6.out.2.2.2.drew.below hbel7 X6.out.2.2.2.lt
    refine (shaSum_any (n := 2) (L := [u, s]) _ ((H.out.1.below b0).below b8) ?_ ?_ (by omega)).mono ?_
    · have hnew := heap_alloc_new w7 (.cells #[.slice (some ⟨w6.heap.size, 0, none⟩) 64 64, .slice (some ⟨w5.heap.size, 0, none⟩) 32 32] 22)
      refine Ps.of rfl (fun _ => lt_of_block hnew) fun k hk => ?_
      have hk2 : k = 0 ∨ k = 1 := by omega
      rcases hk2 with rfl | rfl
      · refine ⟨some ⟨w6.heap.size, 0, none⟩, 64, 64, (cell_of_row _ _ 0 _ _ _ hnew).trans rfl, ?_, Nat.le_refl _, by omega, HU.out.2.1⟩
        have h1 : Sb w7 (some ⟨w6.heap.size, 0, none⟩) 64 u := ⟨HU.out.1, fun _ => ⟨_, rfl, hb7.lt, fun k hk => by rw [addHead]; exact hb7.cell8 (by rw [HU.out.1]; exact hk)⟩⟩
        exact h1.below b8
      · refine ⟨some ⟨w5.heap.size, 0, none⟩, 32, 32, (cell_of_row _ _ 1 _ _ _ hnew).trans rfl, ?_, Nat.le_refl _, by omega, HS.out.2.1⟩
        have h1 : Sb w7 (some ⟨w5.heap.size, 0, none⟩) 32 s := ⟨HS.out.1, fun _ => ⟨_, rfl, h5.lt, fun k hk => by rw [addHead]; exact h5.cell8 (by rw [HS.out.1]; exact hk)⟩⟩
        exact h1.below b8
    · have h1 := HU.out.1
      have h2 := HS.out.1
      simp
      omega
    · rintro e w8 ⟨rfl, hb8⟩
      exact ⟨rfl, b8.trans (hb8.mono b8.size)⟩
  have HFIN : Hid (shaS [u, s].flatten = macS key L.flatten) := by
    show _ = _
    unfold macS
    rw [← HU.out.2.2, ← HS.out.2.2]
    simp
  rw [HFIN.out] at HSUM
  obtain ⟨r, hr⟩ : ∃ r, r = macS key L.flatten := ⟨_, rfl⟩
  rw [← hr] at HSUM
  have HR := Lib.hid (show r.length = 32 ∧ r = macS key L.flatten from ⟨by rw [hr]; exact macS_len _ _, hr⟩)
  clear hr HFIN
  refine wp_region_held_drew (S := fun w' => Below w.heap.size w w' ∧ ∃ cs : Array Value, cs.size = 32 ∧ Blk w' w.heap.size 46 cs) (by kernel_rfl) ⟨X6.out.2.1.drew, u8A (List.replicate 32 0), rfl, X6.out.2.2.1.drew⟩ (fun hHeld => ?_)
  refine wpAnyH_take (i := 0) (v := .func (.func 49) #[] #[.pointer (some ⟨w0.heap.size, 0, none⟩)]) rfl (by kernel_rfl) (by kernel_rfl) (by kernel_rfl) (fun _ _ _ h => h) (yieldsIf_move (by rfl) (.tmp 5) rfl _ rfl) hHeld ?_
  simp only [Act.put]
  refine wpAnyH_take (i := 2) (v := .slice (some ⟨w5.heap.size, 0, none⟩) 32 32) rfl (by kernel_rfl) (by kernel_rfl) (by kernel_rfl) (fun _ _ _ h => h) (yieldsIf_sliceA (by rfl) 46 (.tmp 7) rfl _ _ rfl (run_slA32 w5.heap.size)) hHeld ?_
  simp only [Act.put]
  refine wpAnyH_ready (rs := [1]) (by kernel_rfl) (by simp) (AllReadyH.cons rfl (fun K hK => ?_) AllReadyH.nil)
  rw [if_pos (by rfl)]
  go_simp
  refine HLAY.out.mono ?_
  rintro e w7 ⟨rfl, hb7, hbel7⟩
  have HS7 := Lib.hid (HSUM.out w7 hb7 hbel7)
  have H7 := Lib.hid (show Below w.heap.size w w7 ∧ Blk w7 w.heap.size 46 (u8A (List.replicate 32 0)) from ⟨X6.out.2.1.drew.trans (hbel7.mono X6.out.2.1.size), X6.out.2.2.1.drew.below hbel7 X6.out.2.2.1.lt⟩)
  clear hb7 hbel7
  refine hK.out _ _ ⟨H7.out.1, _, rfl, H7.out.2⟩ (fun hHeld => ?_)
  clear hK K
  refine wpAnyH_ready (rs := [3]) (by kernel_rfl) (by simp) (AllReadyH.cons rfl (fun K hK => ?_) AllReadyH.nil)
  rw [if_pos (by rfl)]
  go_simp
  refine hK.out _ _ ⟨H7.out.1.alloc H7.out.1.size _, _, rfl, H7.out.2.alloc _⟩ (fun hHeld => ?_)
  clear hK K
  refine wpAnyH_ready (rs := [4]) (by kernel_rfl) (by simp) (AllReadyH.cons rfl (fun K hK => ?_) AllReadyH.nil)
  rw [if_pos (by rfl)]
  go_simp
  refine HS7.out.mono ?_
  rintro e w8 ⟨rfl, hbel8⟩
  have H8 := Lib.hid (show Below w.heap.size w w8 ∧ Blk w8 w.heap.size 46 (u8A (List.replicate 32 0)) from ⟨H7.out.1.trans (hbel8.mono H7.out.1.size), H7.out.2.below hbel8 H7.out.2.lt⟩)
  clear hbel8
  refine hK.out _ _ ⟨H8.out.1, _, rfl, H8.out.2⟩ (fun hHeld => ?_)
  clear hK K
  refine wpAnyH_ready (rs := [5]) (by kernel_rfl) (by simp) (AllReadyH.cons rfl (fun K hK => ?_) AllReadyH.nil)
  rw [if_pos (by rfl)]
  refine wp_store_row 46 (.tmp 4) (.tmp 21) rfl w.heap.size (u8A r) rfl rfl 46 (u8A (List.replicate 32 0)) H8.out.2 (by rw [u8A_size, HR.out.1]; exact info32) (by rw [u8A_size, u8A_size, HR.out.1]; simp) (u8A_one _) ?_
  have hres := H8.out.2.setRow (u8A r)
  have hbel := below_setRow H8.out.1 (Nat.le_refl _) (u8A r)
  refine hK.out _ _ ⟨hbel, _, by rw [u8A_size, HR.out.1], hres⟩ (fun _ => ?_)
  refine wpAnyH_done (by kernel_rfl) ?_ _
  clear hK K hHeld
  go_wp2_with fail
  refine bodyPost_ret (v := .agg (u8A r)) (results_cell_row Tryd.results35 _ _ w.heap.size 46 _ (0, 0) _ rfl hres Tryd.underlying46 rfl (by rw [u8A_size, HR.out.1]; exact info32)) rfl ⟨by rw [HR.out.2], hbel⟩

end Go.Proofs.YtogaakokplobaaaDoor
