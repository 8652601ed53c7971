/-
  The contract of the reference's block.
-/
import Derived.Test.YtogaakokplobaaaDoorShaRoot
import Derived.Deep.RegionHeld3
namespace Go.Proofs.YtogaakokplobaaaDoor
open Go.RowKit

theorem info37 : (Tryd.prog.info? 77).map (·.size) = some 8 := by kernel_rfl
theorem built48 : Tryd.prog.built 87 [] = some (u32A z64) := by kernel_rfl

theorem addOff (b o j : Nat) : (⟨b, o, none⟩ : Addr).add j = ⟨b, o + j, none⟩ := by unfold Addr.add; split <;> simp_all
theorem spot_none {w : World} {b o : Nat} {sp : Option Nat} {v : Value} (h : w.cell? ⟨b, o, sp⟩ = some v) : sp = none := by
  cases sp with
  | none => rfl
  | some x =>
    unfold World.cell? at h
    split at h <;> simp at h

set_option maxRecDepth 100000 in
set_option maxHeartbeats 3200000 in
theorem refBlock_at (v bs : List Int) (ab ao : Nat) (c : Nat) (w : World) (hv : v.length = 8) (hvw : U32s v) (hs : Sb w (some ⟨ab, ao, none⟩) 64 bs) (h8 : B8s bs) :
    Calls Tryd.prog 55 #[.agg (u32A v), .slice (some ⟨ab, ao, none⟩) 64 c] w fun e w' => e = .returned (.agg (u32A (comp v bs))) ∧ Below w.heap.size w w' := by
  have H := Lib.hid (And.intro hv (And.intro hvw (And.intro hs h8)))
  have hn5 : Hid (Blk (((w.alloc (.cells (u32A v) 77)).alloc (.cells (u32A (List.replicate 8 0)) 77)).alloc (.cells (u32A z64) 87)) (w.heap.size + 1 + 1) 87 (u32A z64)) := Blk.new' (by simp) _ _
  clear hv hvw hs h8
  go_enter Tryd.func55, Tryd.ntmps55
  go_wp2_with (first
    | (refine wpList_build0 rfl 87 rfl _ built48 ?_)
    | (refine wpList_store_row rfl 87 (.tmp 5) (.tmp 27) rfl (w.heap.size + 1 + 1) (u32A z64) rfl rfl 87 (u32A z64) hn5.out info64 rfl (u32A_one _) ?_))
  go_loopw [6] (fun i wr => ∃ t : Nat, t ≤ 16 ∧ i = .int .i64 t ∧ Blk wr w.heap.size 77 (u32A v) ∧ Blk wr (w.heap.size + 1) 77 (u32A (List.replicate 8 0)) ∧ Blk wr (w.heap.size + 1 + 1) 87 (u32A (words0 bs t)) ∧ Below w.heap.size w wr) (fun i _ => 16 - (intOf i).toNat)
  case atStart =>
    refine ⟨0, by omega, rfl, (((Blk.new _ _ _).alloc _).alloc _).otherRow _ (by omega), ((Blk.new' (by simp) _ _).alloc _).otherRow _ (by omega), ?_, below_setRow ((((Below.refl _ _).alloc (Nat.le_refl _) _).alloc (by simp) _).alloc (by simp; omega) _) (by omega) _⟩
    rw [words0_zero]
    exact (Blk.new' (by simp) _ _).setRow _
  case round =>
    clear hn5
    obtain ⟨t, ht, rfl, hbv, hres, hblk, hbel⟩ := hrel
    by_cases hlt : t < 16
    · have hkl : (t : Int) < 16 := by omega
      obtain ⟨b0, hb0⟩ : ∃ x, x = bs.getD (4 * t) 0 := ⟨_, rfl⟩
      obtain ⟨b1, hb1⟩ : ∃ x, x = bs.getD (4 * t + 1) 0 := ⟨_, rfl⟩
      obtain ⟨b2, hb2⟩ : ∃ x, x = bs.getD (4 * t + 2) 0 := ⟨_, rfl⟩
      obtain ⟨b3, hb3⟩ : ∃ x, x = bs.getD (4 * t + 3) 0 := ⟨_, rfl⟩
      have hsw := H.out.2.2.1.below hbel
      have c0 : wr.cell? ⟨ab, ao + (4 * t), none⟩ = some (.int .u8 b0) := by rw [hb0, ← addOff]; exact hsw.cell (by omega)
      have c1 : wr.cell? ⟨ab, ao + (4 * t + 1), none⟩ = some (.int .u8 b1) := by rw [hb1, ← addOff]; exact hsw.cell (by omega)
      have c2 : wr.cell? ⟨ab, ao + (4 * t + 2), none⟩ = some (.int .u8 b2) := by rw [hb2, ← addOff]; exact hsw.cell (by omega)
      have c3 : wr.cell? ⟨ab, ao + (4 * t + 3), none⟩ = some (.int .u8 b3) := by rw [hb3, ← addOff]; exact hsw.cell (by omega)
      have cs : wr.cell? ⟨w.heap.size + 1 + 1, t, none⟩ = some (.int .u32 ((words0 bs t).getD t 0)) := hblk.cell32 (by simp [words0]; omega)
      have hfree := hblk.free t
      have r0 : 0 ≤ b0 ∧ b0 ≤ 255 := by rw [hb0]; exact H.out.2.2.2.at _
      have r1 : 0 ≤ b1 ∧ b1 ≤ 255 := by rw [hb1]; exact H.out.2.2.2.at _
      have r2 : 0 ≤ b2 ∧ b2 ≤ 255 := by rw [hb2]; exact H.out.2.2.2.at _
      have r3 : 0 ≤ b3 ∧ b3 ≤ 255 := by rw [hb3]; exact H.out.2.2.2.at _
      have HWB := Lib.hid (show wordB bs t = b0 * 16777216 + b1 * 65536 + b2 * 256 + b3 by unfold wordB; rw [hb0, hb1, hb2, hb3])
      have Y := Lib.hid (And.intro hbv (And.intro hres (And.intro hblk hbel)))
      obtain ⟨r01, r02⟩ := r0
      obtain ⟨r11, r12⟩ := r1
      obtain ⟨r21, r22⟩ := r2
      obtain ⟨r31, r32⟩ := r3
      clear hb0 hb1 hb2 hb3 hbv hres hblk hbel hsw
      go_wp2_with fail
      go_region
      go_wp2_with fail
      go_roundw
      case rel =>
        refine ⟨t + 1, by omega, by go_num, (Y.out.1.other _ (by simp; omega)).drew, (Y.out.2.1.other _ (by simp)).drew, ?_, (Y.out.2.2.2.setCell (by simp; omega) _).drew⟩
        have h1 := (Y.out.2.2.1.set32 t (wordB bs t)).drew
        rw [words0_next] at h1
        rw [HWB.out] at h1
        exact h1
      case measure => simp [intOf]; omega
    · have HX := Lib.hid (show Blk wr w.heap.size 77 (u32A v) ∧ Blk wr (w.heap.size + 1) 77 (u32A (List.replicate 8 0)) ∧ Blk wr (w.heap.size + 1 + 1) 87 (u32A (sched bs 0)) ∧ Below w.heap.size w wr from by
        refine ⟨hbv, hres, ?_, hbel⟩
        have e : t = 16 := by omega
        rw [e] at hblk
        exact hblk)
      have hd : decide ((t : Int) < 16) = false := by simp; omega
      clear hbv hres hblk hbel ht hlt
      go_wp2_with fail
      clear hd
      go_loopw [7] (fun i wq => ∃ u : Nat, 16 ≤ u ∧ u ≤ 64 ∧ i = .int .i64 u ∧ Blk wq w.heap.size 77 (u32A v) ∧ Blk wq (w.heap.size + 1) 77 (u32A (List.replicate 8 0)) ∧ Blk wq (w.heap.size + 1 + 1) 87 (u32A (sched bs (u - 16))) ∧ Below w.heap.size w wq) (fun i _ => 64 - (intOf i).toNat)
      case atStart => exact ⟨16, by omega, by omega, rfl, HX.out.1, HX.out.2.1, HX.out.2.2.1, HX.out.2.2.2⟩
      case round =>
        clear HX
        obtain ⟨u, hu1, hu2, rfl, hbv, hres, hblk, hbel⟩ := hrel
        by_cases hlt2 : u < 64
        · have hkl : (u : Int) < 64 := by omega
          have hkl2 : (16 : Int) ≤ u := by omega
          obtain ⟨l, hl⟩ : ∃ l, l = sched bs (u - 16) := ⟨_, rfl⟩
          rw [← hl] at hblk
          have hll : l.length = 64 := by rw [hl]; exact sched_len _ _
          have hlw : U32s l := by rw [hl]; exact sched_w _ H.out.2.2.2 _
          obtain ⟨x, hx⟩ : ∃ x, x = l.getD (u - 15) 0 := ⟨_, rfl⟩
          obtain ⟨y, hy⟩ : ∃ x, x = l.getD (u - 2) 0 := ⟨_, rfl⟩
          obtain ⟨p, hp⟩ : ∃ x, x = l.getD (u - 16) 0 := ⟨_, rfl⟩
          obtain ⟨q, hq⟩ : ∃ x, x = l.getD (u - 7) 0 := ⟨_, rfl⟩
          have hxw : W1 x := by rw [hx]; exact hlw.at _
          have hyw : W1 y := by rw [hy]; exact hlw.at _
          have hpw : W1 p := by rw [hp]; exact hlw.at _
          have hqw : W1 q := by rw [hq]; exact hlw.at _
          have c1 : wr.cell? ⟨w.heap.size + 1 + 1, u - 15, none⟩ = some (.int .u32 x) := by rw [hx]; exact hblk.cell32 (by omega)
          have c2 : wr.cell? ⟨w.heap.size + 1 + 1, u - 2, none⟩ = some (.int .u32 y) := by rw [hy]; exact hblk.cell32 (by omega)
          have c3 : wr.cell? ⟨w.heap.size + 1 + 1, u - 16, none⟩ = some (.int .u32 p) := by rw [hp]; exact hblk.cell32 (by omega)
          have c4 : wr.cell? ⟨w.heap.size + 1 + 1, u - 7, none⟩ = some (.int .u32 q) := by rw [hq]; exact hblk.cell32 (by omega)
          have ct : wr.cell? ⟨w.heap.size + 1 + 1, u, none⟩ = some (.int .u32 (l.getD u 0)) := hblk.cell32 (by omega)
          have hfree := hblk.free u
          have Y := Lib.hid (And.intro hbv (And.intro hres (And.intro hblk hbel)))
          have HXY := Lib.hid (And.intro hl (And.intro hx (And.intro hy (And.intro hp hq))))
          have XW := Lib.hid (And.intro hxw hyw)
          obtain ⟨x1, x2⟩ := hxw
          obtain ⟨y1, y2⟩ := hyw
          obtain ⟨p1, p2⟩ := hpw
          obtain ⟨q1, q2⟩ := hqw
          clear hbv hres hblk hbel hl hx hy hp hq hlw hll
          go_wp2_with fail
          refine (refTurned_any x 7 _ XW.out.1 (by omega) (by omega)).mono ?_
          rintro e w' ⟨rfl, rfl⟩
          go_wp2_with fail
          refine (refTurned_any x 18 _ XW.out.1 (by omega) (by omega)).mono ?_
          rintro e w' ⟨rfl, rfl⟩
          go_wp2_with fail
          refine (refTurned_any y 17 _ XW.out.2 (by omega) (by omega)).mono ?_
          rintro e w' ⟨rfl, rfl⟩
          go_wp2_with fail
          refine (refTurned_any y 19 _ XW.out.2 (by omega) (by omega)).mono ?_
          rintro e w' ⟨rfl, rfl⟩
          go_wp2_with fail
          go_region
          go_wp2_with fail
          go_roundw
          case rel =>
            refine ⟨u + 1, by omega, by omega, by go_num, (Y.out.1.other _ (by simp; omega)).drew, (Y.out.2.1.other _ (by simp)).drew, ?_, (Y.out.2.2.2.setCell (by simp; omega) _).drew⟩
            have h1 := (Y.out.2.2.1.set32 u (nextW l (u - 16))).drew
            have e1 : u + 1 - 16 = (u - 16) + 1 := by omega
            have e2 : 16 + (u - 16) = u := by omega
            rw [e1]
            show Blk _ _ _ (u32A ((sched bs (u - 16)).set (16 + (u - 16)) (nextW (sched bs (u - 16)) (u - 16))))
            rw [e2, ← HXY.out.1]
            have e3 : nextW l (u - 16) = (p + q + bits .xor .u32 (bits .xor .u32 (rotL x 7) (rotL x 18)) (x / 8) + bits .xor .u32 (bits .xor .u32 (rotL y 17) (rotL y 19)) (y / 1024)) % 4294967296 := by
              unfold nextW smallS0 smallS1
              have f1 : u - 16 + 1 = u - 15 := by omega
              have f2 : u - 16 + 9 = u - 7 := by omega
              have f3 : u - 16 + 14 = u - 2 := by omega
              rw [f1, f2, f3, ← HXY.out.2.1, ← HXY.out.2.2.1, ← HXY.out.2.2.2.1, ← HXY.out.2.2.2.2]
              omega
            rw [e3] at h1 ⊢
            exact h1
          case measure => simp [intOf]; omega
        · obtain ⟨ws, hws⟩ : ∃ ws, ws = sched bs 48 := ⟨_, rfl⟩
          have HX := Lib.hid (show Blk wr w.heap.size 77 (u32A v) ∧ Blk wr (w.heap.size + 1) 77 (u32A (List.replicate 8 0)) ∧ Blk wr (w.heap.size + 1 + 1) 87 (u32A ws) ∧ Below w.heap.size w wr from by
            refine ⟨hbv, hres, ?_, hbel⟩
            have e : u = 64 := by omega
            rw [e] at hblk
            rw [hws]
            exact hblk)
          have HW := Lib.hid hws
          have hd : decide ((u : Int) < 64) = false := by simp; omega
          clear hbv hres hblk hbel hu1 hu2 hlt2 hws
          go_wp2_with fail
          clear hd
          obtain ⟨a, ha⟩ : ∃ x, x = v.getD 0 0 := ⟨_, rfl⟩
          obtain ⟨b, hb⟩ : ∃ x, x = v.getD 1 0 := ⟨_, rfl⟩
          obtain ⟨cc, hc⟩ : ∃ x, x = v.getD 2 0 := ⟨_, rfl⟩
          obtain ⟨d, hd⟩ : ∃ x, x = v.getD 3 0 := ⟨_, rfl⟩
          obtain ⟨e, he⟩ : ∃ x, x = v.getD 4 0 := ⟨_, rfl⟩
          obtain ⟨f, hf⟩ : ∃ x, x = v.getD 5 0 := ⟨_, rfl⟩
          obtain ⟨g, hg⟩ : ∃ x, x = v.getD 6 0 := ⟨_, rfl⟩
          obtain ⟨h, hh⟩ : ∃ x, x = v.getD 7 0 := ⟨_, rfl⟩
          have c0 : wr.cell? ⟨w.heap.size, 0, none⟩ = some (.int .u32 a) := by rw [ha]; exact HX.out.1.cell32 (by rw [H.out.1]; omega)
          have c1 : wr.cell? ⟨w.heap.size, 1, none⟩ = some (.int .u32 b) := by rw [hb]; exact HX.out.1.cell32 (by rw [H.out.1]; omega)
          have c2 : wr.cell? ⟨w.heap.size, 2, none⟩ = some (.int .u32 cc) := by rw [hc]; exact HX.out.1.cell32 (by rw [H.out.1]; omega)
          have c3 : wr.cell? ⟨w.heap.size, 3, none⟩ = some (.int .u32 d) := by rw [hd]; exact HX.out.1.cell32 (by rw [H.out.1]; omega)
          have c4 : wr.cell? ⟨w.heap.size, 4, none⟩ = some (.int .u32 e) := by rw [he]; exact HX.out.1.cell32 (by rw [H.out.1]; omega)
          have c5 : wr.cell? ⟨w.heap.size, 5, none⟩ = some (.int .u32 f) := by rw [hf]; exact HX.out.1.cell32 (by rw [H.out.1]; omega)
          have c6 : wr.cell? ⟨w.heap.size, 6, none⟩ = some (.int .u32 g) := by rw [hg]; exact HX.out.1.cell32 (by rw [H.out.1]; omega)
          have c7 : wr.cell? ⟨w.heap.size, 7, none⟩ = some (.int .u32 h) := by rw [hh]; exact HX.out.1.cell32 (by rw [H.out.1]; omega)
          have HST := Lib.hid (show St.of v = ⟨a, b, cc, d, e, f, g, h⟩ by rw [ha, hb, hc, hd, he, hf, hg, hh]; rfl)
          clear ha hb hc hd he hf hg hh
          go_quiet (fail)
          clear c0 c1 c2 c3 c4 c5 c6 c7
          have HQ := Lib.hid (show Blk (wr.drewN nq) w.heap.size 77 (u32A v) ∧ Blk (wr.drewN nq) (w.heap.size + 1) 77 (u32A (List.replicate 8 0)) ∧ Blk (wr.drewN nq) (w.heap.size + 1 + 1) 87 (u32A ws) ∧ Below w.heap.size w (wr.drewN nq) from ⟨HX.out.1.drewN _, HX.out.2.1.drewN _, HX.out.2.2.1.drewN _, below_drewN' HX.out.2.2.2 _⟩)
          generalize wr.drewN nq = w4 at HQ ⊢
          clear HX
          go_wp2_with fail
          go_loopw [12, 13, 14, 15, 16, 17, 18, 19, 20] (fun a' b' c' d' e' f' g' h' i wq => ∃ t : Nat, t ≤ 64 ∧ i = .int .i64 t ∧ ∃ st : St, st = rounds ws (St.of v) t ∧ a' = .int .u32 st.a ∧ b' = .int .u32 st.b ∧ c' = .int .u32 st.c ∧ d' = .int .u32 st.d ∧ e' = .int .u32 st.e ∧ f' = .int .u32 st.f ∧ g' = .int .u32 st.g ∧ h' = .int .u32 st.h ∧
            (Blk wq w.heap.size 77 (u32A v) ∧ Blk wq (w.heap.size + 1) 77 (u32A (List.replicate 8 0)) ∧ Blk wq (w.heap.size + 1 + 1) 87 (u32A ws) ∧ Below w.heap.size w wq)) (fun _ _ _ _ _ _ _ _ i _ => 64 - (intOf i).toNat)
          case atStart => exact ⟨0, by omega, rfl, ⟨a, b, cc, d, e, f, g, h⟩, HST.out.symm, rfl, rfl, rfl, rfl, rfl, rfl, rfl, rfl, HQ.out⟩
          case round =>
            clear HQ
            obtain ⟨t, ht, rfl, st, hst, rfl, rfl, rfl, rfl, rfl, rfl, rfl, rfl, hY⟩ := hrel
            have Y := Lib.hid hY
            have hok : st.Ok := by rw [hst]; exact rounds_ok _ (St.of_ok H.out.2.1) _
            clear hY
            by_cases hlt : t < 64
            · have hkl : (t : Int) < 64 := by omega
              obtain ⟨a, b, c', d, e, f, g, j⟩ := st
              obtain ⟨wt, hwt⟩ : ∃ x, x = ws.getD t 0 := ⟨_, rfl⟩
              obtain ⟨kt, hkt⟩ : ∃ x, x = rootsL.getD t 0 := ⟨_, rfl⟩
              have hwl := Lib.hid (show t < ws.length by rw [HW.out, sched_len]; exact hlt)
              have X := Lib.hid (And.intro hst (And.intro hok (And.intro hwt hkt)))
              have SX := Lib.hid (show ∀ w', Below wr.heap.size wr w' → (Below wr.heap.size wr w' ∧ w'.cell? ⟨w.heap.size + 1 + 1, t, none⟩ = some (.int .u32 wt)) from fun w' hb => ⟨hb, by rw [hwt]; exact (Y.out.2.2.1.below hb Y.out.2.2.1.lt).cell32 hwl.out⟩)
              have HK := Lib.hid (show ∀ W : World, Calls Tryd.prog 61 #[.int .i64 t] W fun e w' => e = .returned (.int .u32 kt) ∧ Below W.heap.size W w' from fun W => by rw [hkt]; exact root_any t hlt W)
              obtain ⟨⟨a1, a2⟩, ⟨b1, b2⟩, ⟨g1, g2⟩, ⟨d1, d2⟩, ⟨e1, e2⟩, ⟨f1, f2⟩, ⟨i1, i2⟩, ⟨j1, j2⟩⟩ := hok
              clear hst hwt hkt
              simp only at a1 a2 b1 b2 g1 g2 d1 d2 e1 e2 f1 f2 i1 i2 j1 j2
              go_wp2_with fail
              refine (refTurned_any e 6 _ ⟨e1, e2⟩ (by omega) (by omega)).mono ?_
              rintro e' w' ⟨rfl, rfl⟩
              go_wp2_with fail
              refine (refTurned_any e 11 _ ⟨e1, e2⟩ (by omega) (by omega)).mono ?_
              rintro e' w' ⟨rfl, rfl⟩
              go_wp2_with fail
              refine (refTurned_any e 25 _ ⟨e1, e2⟩ (by omega) (by omega)).mono ?_
              rintro e' w' ⟨rfl, rfl⟩
              go_wp2_with fail
              go_region_held3 (fun w' => Below wr.heap.size wr w' ∧ w'.cell? ⟨w.heap.size + 1 + 1, t, none⟩ = some (.int .u32 wt))
                ((refine SX.out _ ?_; (try go_split_ands); first | assumption | exact (Below.refl _ _).drew))
                ((first
                  | (go_at_call 61; refine (HK.out _).mono ?_; rintro e7 w7 ⟨rfl, hb7⟩; (try go_split_ands); have hb8 : Below wr.heap.size wr w7 := Below.trans (by assumption) (Below.mono hb7 (Below.size (by assumption))))))
              have Z := Lib.hid (show Blk w7 w.heap.size 77 (u32A v) ∧ Blk w7 (w.heap.size + 1) 77 (u32A (List.replicate 8 0)) ∧ Blk w7 (w.heap.size + 1 + 1) 87 (u32A ws) ∧ Below w.heap.size w w7 from
                ⟨Y.out.1.below hb8 Y.out.1.lt, Y.out.2.1.below hb8 Y.out.2.1.lt, Y.out.2.2.1.below hb8 Y.out.2.2.1.lt, Y.out.2.2.2.trans (hb8.mono Y.out.2.2.2.size)⟩)
              clear hb7 hb8 SX HK Y
              rw [show IntKind.u32.wrap (IntKind.u32.wrap (IntKind.u32.wrap (IntKind.u32.wrap (j + bits .xor .u32 (bits .xor .u32 (rotL e 6) (rotL e 11)) (rotL e 25)) + bits .xor .u32 (bits .and .u32 e f) (bits .and .u32 (4294967295 - e) g)) + kt) + wt) = pS ⟨a, b, c', d, e, f, g, j⟩ kt wt by simp only [IntKind.wrap_u32']; rfl]
              obtain ⟨p, hp⟩ : ∃ p, p = pS ⟨a, b, c', d, e, f, g, j⟩ kt wt := ⟨_, rfl⟩
              rw [← hp]
              have HP := Lib.hid hp
              have hpw : W1 p := by rw [hp]; exact mod_w _
              obtain ⟨p1, p2⟩ := hpw
              clear hp
              go_wp2_with fail
              refine (refTurned_any a 2 _ ⟨a1, a2⟩ (by omega) (by omega)).mono ?_
              rintro e' w' ⟨rfl, rfl⟩
              go_wp2_with fail
              refine (refTurned_any a 13 _ ⟨a1, a2⟩ (by omega) (by omega)).mono ?_
              rintro e' w' ⟨rfl, rfl⟩
              go_wp2_with fail
              refine (refTurned_any a 22 _ ⟨a1, a2⟩ (by omega) (by omega)).mono ?_
              rintro e' w' ⟨rfl, rfl⟩
              go_wp2_with fail
              go_roundw
              case rel =>
                refine ⟨t + 1, by omega, by go_num, St.step ⟨a, b, c', d, e, f, g, j⟩ kt wt, ?_, ?_, rfl, rfl, rfl, ?_, rfl, rfl, rfl, Z.out⟩
                · rw [X.out.2.2.2, X.out.2.2.1, X.out.1]; rfl
                · rw [HP.out]; rfl
                · rw [HP.out]; rfl
              case measure => simp [intOf]; omega
            · have hfin : rounds (sched bs 48) (St.of v) 64 = st := by
                have e : t = 64 := by omega
                rw [hst, e, HW.out]
              obtain ⟨a, b, cc, d, e, f, g, j⟩ := st
              have hcl := comp_list hfin
              obtain ⟨x0, hx0⟩ : ∃ x, x = v.getD 0 0 := ⟨_, rfl⟩
              obtain ⟨x1, hx1⟩ : ∃ x, x = v.getD 1 0 := ⟨_, rfl⟩
              obtain ⟨x2, hx2⟩ : ∃ x, x = v.getD 2 0 := ⟨_, rfl⟩
              obtain ⟨x3, hx3⟩ : ∃ x, x = v.getD 3 0 := ⟨_, rfl⟩
              obtain ⟨x4, hx4⟩ : ∃ x, x = v.getD 4 0 := ⟨_, rfl⟩
              obtain ⟨x5, hx5⟩ : ∃ x, x = v.getD 5 0 := ⟨_, rfl⟩
              obtain ⟨x6, hx6⟩ : ∃ x, x = v.getD 6 0 := ⟨_, rfl⟩
              obtain ⟨x7, hx7⟩ : ∃ x, x = v.getD 7 0 := ⟨_, rfl⟩
              rw [← hx0, ← hx1, ← hx2, ← hx3, ← hx4, ← hx5, ← hx6, ← hx7] at hcl
              have q0 : wr.cell? ⟨w.heap.size, 0, none⟩ = some (.int .u32 x0) := by rw [hx0]; exact Y.out.1.cell32 (by rw [H.out.1]; omega)
              have q1 : wr.cell? ⟨w.heap.size, 1, none⟩ = some (.int .u32 x1) := by rw [hx1]; exact Y.out.1.cell32 (by rw [H.out.1]; omega)
              have q2 : wr.cell? ⟨w.heap.size, 2, none⟩ = some (.int .u32 x2) := by rw [hx2]; exact Y.out.1.cell32 (by rw [H.out.1]; omega)
              have q3 : wr.cell? ⟨w.heap.size, 3, none⟩ = some (.int .u32 x3) := by rw [hx3]; exact Y.out.1.cell32 (by rw [H.out.1]; omega)
              have q4 : wr.cell? ⟨w.heap.size, 4, none⟩ = some (.int .u32 x4) := by rw [hx4]; exact Y.out.1.cell32 (by rw [H.out.1]; omega)
              have q5 : wr.cell? ⟨w.heap.size, 5, none⟩ = some (.int .u32 x5) := by rw [hx5]; exact Y.out.1.cell32 (by rw [H.out.1]; omega)
              have q6 : wr.cell? ⟨w.heap.size, 6, none⟩ = some (.int .u32 x6) := by rw [hx6]; exact Y.out.1.cell32 (by rw [H.out.1]; omega)
              have q7 : wr.cell? ⟨w.heap.size, 7, none⟩ = some (.int .u32 x7) := by rw [hx7]; exact Y.out.1.cell32 (by rw [H.out.1]; omega)
              obtain ⟨l0, m0⟩ : W1 x0 := by rw [hx0]; exact H.out.2.1.at _
              obtain ⟨l1, m1⟩ : W1 x1 := by rw [hx1]; exact H.out.2.1.at _
              obtain ⟨l2, m2⟩ : W1 x2 := by rw [hx2]; exact H.out.2.1.at _
              obtain ⟨l3, m3⟩ : W1 x3 := by rw [hx3]; exact H.out.2.1.at _
              obtain ⟨l4, m4⟩ : W1 x4 := by rw [hx4]; exact H.out.2.1.at _
              obtain ⟨l5, m5⟩ : W1 x5 := by rw [hx5]; exact H.out.2.1.at _
              obtain ⟨l6, m6⟩ : W1 x6 := by rw [hx6]; exact H.out.2.1.at _
              obtain ⟨l7, m7⟩ : W1 x7 := by rw [hx7]; exact H.out.2.1.at _
              have HCL := Lib.hid hcl
              have hd : decide ((t : Int) < 64) = false := by simp; omega
              obtain ⟨⟨a1, a2⟩, ⟨b1, b2⟩, ⟨g1, g2⟩, ⟨d1, d2⟩, ⟨e1, e2⟩, ⟨f1, f2⟩, ⟨i1, i2⟩, ⟨j1, j2⟩⟩ := hok
              clear hst hfin hcl hx0 hx1 hx2 hx3 hx4 hx5 hx6 hx7
              simp only at a1 a2 b1 b2 g1 g2 d1 d2 e1 e2 f1 f2 i1 i2 j1 j2
              go_wp2_with (refine wpList_store_row rfl 77 (.tmp 4) (.tmp 224) rfl (w.heap.size + 1) (u32A [(x0 + a) % 4294967296, (x1 + b) % 4294967296, (x2 + cc) % 4294967296, (x3 + d) % 4294967296, (x4 + e) % 4294967296, (x5 + f) % 4294967296, (x6 + g) % 4294967296, (x7 + j) % 4294967296]) rfl rfl 77 (u32A (List.replicate 8 0)) Y.out.2.1 (by rw [u32A_size]; exact info37) (by rw [u32A_size, u32A_size]; rfl) (u32A_one _) ?_)
              refine bodyPost_ret (v := .agg (u32A [(x0 + a) % 4294967296, (x1 + b) % 4294967296, (x2 + cc) % 4294967296, (x3 + d) % 4294967296, (x4 + e) % 4294967296, (x5 + f) % 4294967296, (x6 + g) % 4294967296, (x7 + j) % 4294967296])) (results_cell_row Tryd.results55 _ _ (w.heap.size + 1) 77 _ (0, 0) _ rfl (Y.out.2.1.setRow _) Tryd.underlying77 rfl (by rw [u32A_size]; exact info37)) rfl ⟨by rw [HCL.out], below_setRow Y.out.2.2.2 (by omega) _⟩

theorem refBlock_any (v bs : List Int) (A : Option Addr) (c : Nat) (w : World) (hv : v.length = 8) (hvw : U32s v) (hs : Sb w A 64 bs) (h8 : B8s bs) :
    Calls Tryd.prog 55 #[.agg (u32A v), .slice A 64 c] w fun e w' => e = .returned (.agg (u32A (comp v bs))) ∧ Below w.heap.size w w' := by
  obtain ⟨ad, rfl⟩ := hs.addr (by omega)
  obtain ⟨ab, ao, sp⟩ := ad
  have h0 := hs.cell (k := 0) (by omega)
  have e0 : (⟨ab, ao, sp⟩ : Addr).add 0 = ⟨ab, ao, sp⟩ := by simp [Addr.add]
  rw [e0] at h0
  obtain rfl := spot_none h0
  exact refBlock_at v bs ab ao c w hv hvw hs h8
end Go.Proofs.YtogaakokplobaaaDoor
