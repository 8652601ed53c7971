/-
  The contract of turned: the words behind a block.
-/
import Derived.Test.YtogaakokplobaaaDoorShaSpread
namespace Go.Proofs.YtogaakokplobaaaDoor
open Go.RowKit

/-- The table of roots lies where the program lays it. -/
def Roots (w : World) : Prop := 0 < w.heap.size ∧ ∀ k, k < 64 → w.cell? ⟨0, k, none⟩ = some (.int .u32 (rootsL.getD k 0))
theorem Roots.below {w w' : World} (h : Roots w) (hb : Below w.heap.size w w') : Roots w' :=
  ⟨Nat.lt_of_lt_of_le h.1 hb.size, fun k hk => (hb.cell (p := ⟨0, k, none⟩) h.1).trans (h.2 k hk)⟩
theorem rootsL_w : U32s rootsL := by unfold U32s W1; decide

set_option maxRecDepth 100000 in
set_option maxHeartbeats 1600000 in
theorem turned_any (v bs : List Int) (w : World) (hr : Roots w) (hv : v.length = 8) (hvw : U32s v) (hb : bs.length = 64) (h8 : B8s bs) :
    Calls Tryd.prog 51 #[.agg (u32A v), .agg (u8A bs)] w fun e w' => e = .returned (.agg (u32A (comp v bs))) ∧ Below w.heap.size w w' := by
  have H := Lib.hid (And.intro hv (And.intro hvw (And.intro hb (And.intro h8 hr))))
  clear hv hvw hb h8 hr
  go_enter Tryd.func51, Tryd.ntmps51
  go_wp2_with fail
  obtain ⟨w3, hw3⟩ : ∃ w3, w3 = ((w.alloc (Obj.cells (u32A v) 78)).alloc (Obj.cells (u8A bs) 80)).alloc (Obj.cells #[Value.int IntKind.u32 0, Value.int IntKind.u32 0, Value.int IntKind.u32 0, Value.int IntKind.u32 0, Value.int IntKind.u32 0, Value.int IntKind.u32 0, Value.int IntKind.u32 0, Value.int IntKind.u32 0] 78) := ⟨_, rfl⟩
  have hs3 : w3.heap.size = w.heap.size + 1 + 1 + 1 := by rw [hw3]; simp
  have HA := Lib.hid (show Blk w3 w.heap.size 78 (u32A v) ∧ Blk w3 (w.heap.size + 1) 80 (u8A bs) ∧ Blk w3 (w.heap.size + 1 + 1) 78 (u32A (List.replicate 8 0)) ∧ Below w.heap.size w w3 from by
    rw [hw3]
    exact ⟨((Blk.new _ _ _).alloc _).alloc _, (Blk.new' (by simp) _ _).alloc _, Blk.new' (by simp) _ _, (((Below.refl _ _).alloc (Nat.le_refl _) _).alloc (by simp) _).alloc (by simp; omega) _⟩)
  have HS3 := Lib.hid hs3
  clear hs3
  rw [← hw3]
  clear hw3
  obtain ⟨a, ha⟩ : ∃ x, x = v.getD 0 0 := ⟨_, rfl⟩
  obtain ⟨b, hb⟩ : ∃ x, x = v.getD 1 0 := ⟨_, rfl⟩
  obtain ⟨c, hc⟩ : ∃ x, x = v.getD 2 0 := ⟨_, rfl⟩
  obtain ⟨d, hd⟩ : ∃ x, x = v.getD 3 0 := ⟨_, rfl⟩
  obtain ⟨e, he⟩ : ∃ x, x = v.getD 4 0 := ⟨_, rfl⟩
  obtain ⟨f, hf⟩ : ∃ x, x = v.getD 5 0 := ⟨_, rfl⟩
  obtain ⟨g, hg⟩ : ∃ x, x = v.getD 6 0 := ⟨_, rfl⟩
  obtain ⟨h, hh⟩ : ∃ x, x = v.getD 7 0 := ⟨_, rfl⟩
  have c0 : w3.cell? ⟨w.heap.size, 0, none⟩ = some (.int .u32 a) := by rw [ha]; exact HA.out.1.cell32 (by rw [H.out.1]; omega)
  have c1 : w3.cell? ⟨w.heap.size, 1, none⟩ = some (.int .u32 b) := by rw [hb]; exact HA.out.1.cell32 (by rw [H.out.1]; omega)
  have c2 : w3.cell? ⟨w.heap.size, 2, none⟩ = some (.int .u32 c) := by rw [hc]; exact HA.out.1.cell32 (by rw [H.out.1]; omega)
  have c3 : w3.cell? ⟨w.heap.size, 3, none⟩ = some (.int .u32 d) := by rw [hd]; exact HA.out.1.cell32 (by rw [H.out.1]; omega)
  have c4 : w3.cell? ⟨w.heap.size, 4, none⟩ = some (.int .u32 e) := by rw [he]; exact HA.out.1.cell32 (by rw [H.out.1]; omega)
  have c5 : w3.cell? ⟨w.heap.size, 5, none⟩ = some (.int .u32 f) := by rw [hf]; exact HA.out.1.cell32 (by rw [H.out.1]; omega)
  have c6 : w3.cell? ⟨w.heap.size, 6, none⟩ = some (.int .u32 g) := by rw [hg]; exact HA.out.1.cell32 (by rw [H.out.1]; omega)
  have c7 : w3.cell? ⟨w.heap.size, 7, none⟩ = some (.int .u32 h) := by rw [hh]; exact HA.out.1.cell32 (by rw [H.out.1]; omega)
  have HST := Lib.hid (show St.of v = ⟨a, b, c, d, e, f, g, h⟩ by rw [ha, hb, hc, hd, he, hf, hg, hh]; rfl)
  clear ha hb hc hd he hf hg hh
  go_quiet (fail)
  clear c0 c1 c2 c3 c4 c5 c6 c7
  have HQ := Lib.hid (show Blk (w3.drewN nq) w.heap.size 78 (u32A v) ∧ Blk (w3.drewN nq) (w.heap.size + 1) 80 (u8A bs) ∧ Blk (w3.drewN nq) (w.heap.size + 1 + 1) 78 (u32A (List.replicate 8 0)) ∧ Below w.heap.size w (w3.drewN nq) ∧ (w3.drewN nq).heap.size = w.heap.size + 1 + 1 + 1 from ⟨HA.out.1.drewN _, HA.out.2.1.drewN _, HA.out.2.2.1.drewN _, below_drewN' HA.out.2.2.2 _, HS3.out⟩)
  generalize w3.drewN nq = w4 at HQ ⊢
  clear HA HS3
  go_wp2_with (refine wpList_load_row rfl 80 (.tmp 3) rfl (w.heap.size + 1) rfl 80 (u8A bs) (0, 0) _ HQ.out.2.1 Tryd.underlying80 rfl (by rw [u8A_size, H.out.2.2.1]; exact infoB) ?_)
  refine (spread_any bs _ H.out.2.2.1 H.out.2.2.2.1).mono ?_
  rintro e' w5 ⟨rfl, hb5⟩
  have H5 := Lib.hid (show Blk w5 w.heap.size 78 (u32A v) ∧ Blk w5 (w.heap.size + 1 + 1) 78 (u32A (List.replicate 8 0)) ∧ Below w.heap.size w w5 ∧ Roots w5 ∧ w.heap.size + 1 + 1 + 1 ≤ w5.heap.size from by
    have hz := HQ.out.2.2.2.2
    have h1 : Below w.heap.size w w5 := HQ.out.2.2.2.1.trans (hb5.mono (by omega))
    exact ⟨HQ.out.1.below hb5 (by omega), HQ.out.2.2.1.below hb5 (by omega), h1, H.out.2.2.2.2.below h1, by have := hb5.size; omega⟩)
  obtain ⟨ws, hws⟩ : ∃ ws, ws = sched bs 48 := ⟨_, rfl⟩
  rw [← hws]
  have HW := Lib.hid hws
  clear hws hb5 HQ
  go_wp2_with fail
  go_loop [5, 6, 7, 8, 9, 10, 11, 12, 41] (fun a' b' c' d' e' f' g' h' i => ∃ t : Nat, t ≤ 64 ∧ i = .int .i64 t ∧ ∃ st : St, st = rounds ws (St.of v) t ∧ a' = .int .u32 st.a ∧ b' = .int .u32 st.b ∧ c' = .int .u32 st.c ∧ d' = .int .u32 st.d ∧ e' = .int .u32 st.e ∧ f' = .int .u32 st.f ∧ g' = .int .u32 st.g ∧ h' = .int .u32 st.h) (fun _ _ _ _ _ _ _ _ i => 64 - (intOf i).toNat)
  case atStart => exact ⟨0, by omega, rfl, ⟨a, b, c, d, e, f, g, h⟩, HST.out.symm, rfl, rfl, rfl, rfl, rfl, rfl, rfl, rfl⟩
  case round =>
    obtain ⟨t, ht, rfl, st, hst, rfl, rfl, rfl, rfl, rfl, rfl, rfl, rfl⟩ := hrel
    have hok : st.Ok := by rw [hst]; exact rounds_ok _ (St.of_ok H.out.2.1) _
    by_cases hlt : t < 64
    · have hkl : (t : Int) < 64 := by omega
      obtain ⟨a, b, c, d, e, f, g, j⟩ := st
      obtain ⟨wt, hwt⟩ : ∃ x, x = ws.getD t 0 := ⟨_, rfl⟩
      obtain ⟨kt, hkt⟩ : ∃ x, x = rootsL.getD t 0 := ⟨_, rfl⟩
      have hidx : ∀ w, (Instr.index 87 (.agg (u32A ws)) (.int .i64 (t : Int))).run Tryd.prog w = .ok (.int .u32 wt) w := fun w => by
        rw [hwt]; exact run_index_one w _ _ 64 _ t _ Tryd.underlying87 ag32 info1w hlt (u32A_get (by rw [HW.out, sched_len]; exact hlt))
      have hroot : w5.cell? ⟨0, t, none⟩ = some (.int .u32 kt) := by rw [hkt]; exact H5.out.2.2.2.1.2 t hlt
      have X := Lib.hid (And.intro hst (And.intro hok (And.intro hwt hkt)))
      obtain ⟨⟨a1, a2⟩, ⟨b1, b2⟩, ⟨g1, g2⟩, ⟨d1, d2⟩, ⟨e1, e2⟩, ⟨f1, f2⟩, ⟨i1, i2⟩, ⟨j1, j2⟩⟩ := hok
      clear hst hwt hkt
      simp only at a1 a2 b1 b2 g1 g2 d1 d2 e1 e2 f1 f2 i1 i2 j1 j2
      go_wp2_with fail
      refine (right_any e 6 _ ⟨e1, e2⟩ (by omega) (by omega)).mono ?_
      rintro e' w' ⟨rfl, rfl⟩
      go_wp2_with fail
      refine (right_any e 11 _ ⟨e1, e2⟩ (by omega) (by omega)).mono ?_
      rintro e' w' ⟨rfl, rfl⟩
      go_wp2_with fail
      refine (right_any e 25 _ ⟨e1, e2⟩ (by omega) (by omega)).mono ?_
      rintro e' w' ⟨rfl, rfl⟩
      go_wp2_with fail
      refine (right_any a 2 _ ⟨a1, a2⟩ (by omega) (by omega)).mono ?_
      rintro e' w' ⟨rfl, rfl⟩
      go_wp2_with fail
      refine (right_any a 13 _ ⟨a1, a2⟩ (by omega) (by omega)).mono ?_
      rintro e' w' ⟨rfl, rfl⟩
      go_wp2_with fail
      refine (right_any a 22 _ ⟨a1, a2⟩ (by omega) (by omega)).mono ?_
      rintro e' w' ⟨rfl, rfl⟩
      go_wp2_with fail
      go_round
      case rel =>
        refine ⟨t + 1, by omega, by go_num, St.step ⟨a, b, c, d, e, f, g, j⟩ kt wt, ?_, ?_, rfl, rfl, rfl, ?_, rfl, rfl, rfl⟩
        · rw [X.out.2.2.2, X.out.2.2.1, X.out.1]; rfl
        · rw [step_flat, chS_not ⟨e1, e2⟩]; rfl
        · rw [step_flat, chS_not ⟨e1, e2⟩]; rfl
      case measure => simp [intOf]; omega
    · have hge : (64 : Int) ≤ (t : Int) := by omega
      obtain ⟨r, hr⟩ : ∃ r, r = st.l := ⟨_, rfl⟩
      have X := Lib.hid (show r = (rounds ws (St.of v) 64).l from by
        have e : t = 64 := by omega
        rw [hr, hst, e])
      obtain ⟨a, b, c, d, e, f, g, j⟩ := st
      have HR := Lib.hid (show r = [a, b, c, d, e, f, g, j] from hr)
      have hd : decide ((t : Int) < 64) = false := by simp; omega
      clear hst hok ht hlt hr
      go_wp2_with fail
      clear hge hd
      have hlen := H5.out.2.2.2.2
      have XH := Lib.hid hlen
      have hne : w.heap.size ≠ w5.heap.size := by omega
      have hne2 : w.heap.size + 1 + 1 ≠ w5.heap.size := by omega
      have HN := Lib.hid (And.intro hne hne2)
      have HRL := Lib.hid (show r.length = 8 ∧ U32s r from by rw [X.out]; exact ⟨rfl, St.l_w (rounds_ok _ (St.of_ok H.out.2.1) _)⟩)
      clear hne hne2 hlen
      go_loopw [116] (fun i wr => ∃ k : Nat, k ≤ 8 ∧ i = .int .i64 k ∧ Blk wr w5.heap.size 78 (u32A (addK r v k)) ∧ Blk wr w.heap.size 78 (u32A v) ∧ Blk wr (w.heap.size + 1 + 1) 78 (u32A (List.replicate 8 0)) ∧ Below w.heap.size w wr) (fun i _ => 8 - (intOf i).toNat)
      case atStart =>
        refine ⟨0, by omega, rfl, ?_, H5.out.1.alloc _, H5.out.2.1.alloc _, H5.out.2.2.1.alloc (by have := XH.out; omega) _⟩
        show Blk _ _ _ (u32A r)
        rw [HR.out]
        exact Blk.new _ _ _
      case round =>
        obtain ⟨k, hk, rfl, hblk, hbv, hres, hbel⟩ := hrel
        by_cases hlt : k < 8
        · have hkl : (k : Int) < 8 := by omega
          obtain ⟨x, hx⟩ : ∃ x, x = (addK r v k).getD k 0 := ⟨_, rfl⟩
          obtain ⟨y, hy⟩ : ∃ x, x = v.getD k 0 := ⟨_, rfl⟩
          have c1 : wr.cell? ⟨w5.heap.size, k, none⟩ = some (.int .u32 x) := by rw [hx]; exact hblk.cell32 (by rw [addK_len, HRL.out.1]; exact hlt)
          have c2 : wr.cell? ⟨w.heap.size, k, none⟩ = some (.int .u32 y) := by rw [hy]; exact hbv.cell32 (by rw [H.out.1]; exact hlt)
          have hfree := hblk.free k
          have hxw : W1 x := by rw [hx]; exact (addK_w HRL.out.2 _ _).at _
          have hyw : W1 y := by rw [hy]; exact H.out.2.1.at _
          obtain ⟨x1, x2⟩ := hxw
          obtain ⟨y1, y2⟩ := hyw
          have Y := Lib.hid (And.intro hblk (And.intro hbv (And.intro hres (And.intro hbel (And.intro hx hy)))))
          clear hblk hbv hres hbel hx hy
          go_wp2_with fail
          go_region
          go_wp2_with fail
          go_roundw
          case rel =>
            refine ⟨k + 1, by omega, by go_num, ?_, (Y.out.2.1.other _ HN.out.1).drew, (Y.out.2.2.1.other _ HN.out.2).drew, (Y.out.2.2.2.1.setCell (show w.heap.size ≤ w5.heap.size by have := XH.out; omega) _).drew⟩
            have h1 := (Y.out.1.set32 k ((x + y) % 4294967296)).drew
            rw [Y.out.2.2.2.2.1, Y.out.2.2.2.2.2] at h1 ⊢
            exact h1
          case measure => simp [intOf]; omega
        · obtain rfl : k = 8 := by omega
          have hcr : addK r v 8 = comp v bs := by unfold comp; rw [← HW.out, ← X.out]
          rw [hcr] at hblk
          have Y := Lib.hid (And.intro hblk (And.intro hres hbel))
          clear hblk hbv hres hbel hcr hlt hk
          go_wp2_with (first
            | (refine wpList_load_row rfl 78 (.tmp 21) rfl w5.heap.size rfl 78 (u32A (comp v bs)) (0, 0) _ Y.out.1 Tryd.underlying78 rfl (by rw [u32A_size, comp_len]; exact infoW) ?_)
            | (refine wpList_store_row rfl 78 (.tmp 4) (.tmp 128) rfl (w.heap.size + 1 + 1) (u32A (comp v bs)) rfl rfl 78 (u32A (List.replicate 8 0)) Y.out.2.1 (by rw [u32A_size, comp_len]; exact infoW) (by rw [u32A_size, u32A_size, comp_len]; simp) (u32A_one _) ?_))
          refine bodyPost_ret (v := .agg (u32A (comp v bs))) (results_cell_row Tryd.results51 _ _ (w.heap.size + 1 + 1) 78 _ (0, 0) _ rfl (Y.out.2.1.setRow _) Tryd.underlying78 rfl (by rw [u32A_size, comp_len]; exact infoW)) rfl ⟨rfl, below_setRow Y.out.2.2 (by omega) _⟩

end Go.Proofs.YtogaakokplobaaaDoor
