/-
  Part 25 of what the laws of emul want: RowsOwnU, RowsOwnV, RowsOwnL.
-/
import Derived.Deep.RegionHeld3
import Derived.Deep.Onto
import Derived.Test.YtikhknnhmnopbaaDoorPj08
import Derived.Test.YtikhknnhmnopbaaDoorPj23
import Derived.Test.YtikhknnhmnopbaaDoorPj24
namespace Go.Proofs.YtikhknnhmnopbaaDoor
open Go.RowKit
theorem rowIn {s : ScR} {S : Sc} {c r y : Nat} {w : World} (h : Vs ceV w s.A s.n S.cells) (hk : s.n ≤ s.k) (hn : s.n = r * c) (hc : 1 ≤ c) (hy : y < r) : Vs ceV w (s.A.map (·.add (y * c * 6))) c (rowAt c S.cells y) := by
 have hle : y * c + c ≤ r * c := by
  have := Nat.mul_le_mul_right c (show y + 1 ≤ r by omega)
  rw [Nat.succ_mul] at this
  omega
 have h1 := h.cut ceV_len (k := y * c) (c := s.k) (by omega) hk
 have h2 := h1.front ceV_len (k := c) (by omega)
 rw [if_neg (by omega)] at h2
 exact h2
set_option maxHeartbeats 3200000 in
set_option maxRecDepth 100000 in
theorem rowOf16_any {s : ScR} {c r y : Nat} (w : World) (hc0 : s.c = (c : Int)) (hn : s.n = r * c) (hk : s.n ≤ s.k) (hc : 1 ≤ c) (hc80 : c ≤ 80) (hr : r ≤ 24) (hy : y < r) :
  Calls Tryd.prog 59 #[.agg (scrA s), .int .i64 y] w fun e w' => e = .returned (.slice (s.A.map (·.add (y * c * 6))) c (s.k - y * c)) ∧ Below w.heap.size w w' := by
 obtain ⟨b, hb⟩ : ∃ b, b = w.heap.size := ⟨_, rfl⟩
 obtain ⟨w1, hw1⟩ : ∃ w1, w1 = w.alloc (.cells (scrA s) 25) := ⟨_, rfl⟩
 have H1 := Lib.hid (show Sx w1 b s ∧ Below w.heap.size w w1 from by
  rw [hw1, hb]
  exact ⟨Sx.new w s, (Below.refl _ _).alloc (Nat.le_refl _) _⟩)
 obtain ⟨a0, a1, a2, a3, a4, a5, a6, a7, a8, _⟩ := sx_cells H1.out.1
 clear a1 a3 a4 a5 a6 a7 a8
 rw [hc0] at a0
 obtain ⟨Y0, hY0⟩ : ∃ Y0 : Nat, Y0 = y * c := ⟨_, rfl⟩
 rw [← hY0]
 have hmul : (y : Int) * (c : Int) = (Y0 : Int) := by rw [hY0]; simp
 have hmul2 : ((y : Int) + 1) * (c : Int) = (Y0 : Int) + (c : Int) := by rw [Int.add_mul, hmul]; omega
 have hle : Y0 + c ≤ s.n := by
  have := Nat.mul_le_mul_right c (show y + 1 ≤ r by omega)
  rw [Nat.succ_mul] at this
  omega
 have hsm : s.n ≤ 24 * 80 := by rw [hn]; exact Nat.mul_le_mul hr hc80
 have q0 : IntKind.i64.wrap ((y : Int) * (c : Int)) = (Y0 : Int) := by rw [hmul, IntKind.wrap_i64]; omega
 have q1 : IntKind.i64.wrap (((y : Int) + 1) * (c : Int)) = (Y0 : Int) + (c : Int) := by rw [hmul2, IntKind.wrap_i64]; omega
 have p0 : (0 : Int) ≤ (Y0 : Int) := by omega
 have p1 : (Y0 : Int) ≤ (Y0 : Int) + (c : Int) := by omega
 have p2 : (Y0 : Int) + (c : Int) ≤ (s.k : Int) := by omega
 have hk1 : ¬ (s.k = Y0) := by omega
 have hlen : ((Y0 : Int) + (c : Int)).toNat - Y0 = c := by omega
 clear hmul hmul2 hY0 hn hc0 hle hsm hk
 unfold scrA at hw1 ⊢
 go_enter Tryd.func59, Tryd.ntmps59
 go_upto_region 1 with fail
 rw [← hw1, ← hb]
 clear hw1 hb
 go_wp2_with fail
 go_ret
 exact ⟨rfl, H1.out.2⟩
set_option maxHeartbeats 1600000 in
theorem equalR_any {w : World} {A A' : Option Addr} {n c c' : Nat} {xs ys : List Ce} (h : Vs ceV w A n xs) (h' : Vs ceV w A' n ys) (hn : n ≤ 1000000) :
  Calls Tryd.prog 61 #[.slice A n c, .slice A' n c'] w fun e w' => e = .returned (.bool (decide (xs = ys))) ∧ ∃ q, w' = w.drewN q := by
 have H := Lib.hid (And.intro h h')
 clear h h'
 go_enter Tryd.func61, Tryd.ntmps61
 go_wp2
 go_loopw [13] (fun i wr => ∃ k q : Nat, k ≤ n ∧ i = .int .i64 k ∧ xs.take k = ys.take k ∧ wr = w.drewN q) (fun i _ => n - (intOf i).toNat)
 case atStart => exact ⟨0, 0, Nat.zero_le _, rfl, by simp, rfl⟩
 case round =>
  obtain ⟨k, q, hk, rfl, hx, rfl⟩ := hrel
  have HX := Lib.hid hx
  clear hx
  by_cases hlt : k < n
  · obtain ⟨ad, rfl⟩ := H.out.1.addr (by omega)
    obtain ⟨ad', rfl⟩ := H.out.2.addr (by omega)
    obtain ⟨a0, a1, a2, a3, a4, a5⟩ := H.out.1.six hlt
    obtain ⟨b0, b1, b2, b3, b4, b5⟩ := H.out.2.six hlt
    have HT := Lib.hid (take_snocC (xs := xs) (ys := ys) (k := k) (by rw [H.out.1.len]; exact hlt) (by rw [H.out.2.len]; exact hlt))
    have hne := fun w => ce_neq (cAt xs k) (cAt ys k) w
    unfold ceA at hne
    generalize cAt xs k = x at a0 a1 a2 a3 a4 a5 HT hne
    generalize cAt ys k = y at b0 b1 b2 b3 b4 b5 HT hne
    have hgd := guardCe
    obtain ⟨B, hB⟩ : ∃ B, decide (x = y) = B := ⟨_, rfl⟩
    rw [hB] at hne
    have HB := Lib.hid hB
    clear hB
    cases B
    · have hd : decide (xs = ys) = false := by
       rw [decide_eq_false_iff_not]
       rintro rfl
       exact (of_decide_eq_false HB.out) (HT.out.1 rfl).2
      have HD := Lib.hid hd
      clear hd
      go_wp2
      go_quiet (fail)
      go_wp2
      go_ret
      exact ⟨retBC HD.out.symm, q + nq, by simp [World.drewN, Nat.add_assoc]⟩
    · have ht := HT.out.2 ⟨HX.out, of_decide_eq_true HB.out⟩
      have HTT := Lib.hid ht
      clear ht HT
      go_wp2
      go_quiet (fail)
      go_wp2
      go_roundw
      case rel => exact ⟨k + 1, q + nq, by omega, by go_num, HTT.out, rfl⟩
      case measure => simp [intOf]; omega
  · have hd : decide (xs = ys) = true := by
     have e1 := HX.out
     rw [List.take_of_length_le (by rw [H.out.1.len]; omega), List.take_of_length_le (by rw [H.out.2.len]; omega)] at e1
     simpa using e1
    have HD := Lib.hid hd
    clear hd
    go_wp2
    go_ret
    exact ⟨retBC HD.out.symm, q, rfl⟩
open Go.RowKit
def Io (base : Nat) (w : World) (A : Option Addr) (n c : Nat) (zs : List Int) : Prop := w.ownsRow base 3 1 (.slice A n c) n (zs.map (Value.int .i64))
theorem Io.below {base : Nat} {w w' : World} {A : Option Addr} {n c : Nat} {zs : List Int} (h : Io base w A n c zs) (hb : Below w.heap.size w w') : Io base w' A n c zs :=
 World.ownsRow.kept h (grownBy_below (row := none) hb) (by cases (Value.slice A n c).ownBlock <;> simp)
theorem Io.ik {base : Nat} {w : World} {A : Option Addr} {n c : Nat} {zs : List Int} (h : Io base w A n c zs) : Ik .i64 w A n zs := Ik.own h
theorem infoInt : (Tryd.prog.info? 3).map (fun i => (i.zero, i.size, i.bytes)) = some (some (.int .i64 0), 1, 8) := by kernel_rfl
def IoOwn (zs : List Int) (w : World) (e : Ending) (w' : World) : Prop := Below w.heap.size w w' ∧ ∃ A c, e = .returned (.slice A zs.length c) ∧ Io w.heap.size w' A zs.length c zs
def toI (ys : List Nat) : List Int := ys.map Int.ofNat
theorem toI_len (ys : List Nat) : (toI ys).length = ys.length := by unfold toI; rw [List.length_map]
set_option maxHeartbeats 6400000 in
set_option maxRecDepth 100000 in
theorem unlikeR_any {sa sb : ScR} {base b : Sc} {c r : Nat} {BL LL : Rws} {w : World} (h : ScIn w sa base) (k : ScIn w sb b) (hA : FitS base c r BL) (hB : FitS b c r LL) :
  Calls Tryd.prog 34 #[.agg (scrA sa), .agg (scrA sb)] w (IoOwn (toI (unlike c r base.cells b.cells)) w) := by
 have HA := Lib.hid (And.intro hA hB)
 have HCR := Lib.hid (show sa.c = (c : Int) ∧ sb.c = (c : Int) ∧ sb.r = (r : Int) from ⟨by rw [← h.c, hA.ec], by rw [← k.c, hB.ec], by rw [← k.r, hB.er]⟩)
 obtain ⟨b3, hb3⟩ : ∃ b3, b3 = w.heap.size := ⟨_, rfl⟩
 obtain ⟨w1, hw1⟩ : ∃ w1, w1 = (w.alloc (.cells (scrA sa) 25)).alloc (.cells (scrA sb) 25) := ⟨_, rfl⟩
 have H0 := Lib.hid (show S2 w w1 b3 sa sb from by
  have h1 := Sx.new w sa
  have h2 := Sx.new (w.alloc (.cells (scrA sa) 25)) sb
  rw [World.size_alloc] at h2
  rw [hb3, hw1]
  exact ⟨h1.below ((Below.refl _ _).alloc (Nat.le_refl _) _), h2, ((Below.refl _ _).alloc (Nat.le_refl _) _).alloc (by simp) _, Nat.le_refl _⟩)
 have HI := Lib.hid (And.intro h k)
 have HSN := Lib.hid (show sa.n = r * c ∧ sb.n = r * c from ⟨by rw [← h.cells.len, hA.el]; exact hA.gk.box.flen, by rw [← k.cells.len, hB.el]; exact hB.gk.box.flen⟩)
 clear h k hA hB
 obtain ⟨d0, d1, d2, d3, d4, d5, d6, d7, d8, _⟩ := sx_cells H0.out.b2
 rw [HCR.out.2.2] at d1
 clear d0 d2 d3 d4 d5 d6 d7 d8
 unfold scrA at hw1 ⊢
 go_enter Tryd.func34, Tryd.ntmps34
 go_upto_region 1 with fail
 rw [← hw1, ← hb3]
 clear hw1 hb3
 have hr24 := HA.out.2.gk.r24
 go_upto_region 3 with fail
 go_loopw [5, 9] (fun v5 v9 wr => ∃ (y : Nat) (A : Option Addr) (m cc : Nat), y ≤ r ∧ v9 = .int .i64 y ∧ v5 = .slice A m cc ∧ m ≤ y ∧ Io w1.heap.size wr A m cc (toI (unTo c base.cells b.cells y)) ∧ Below w1.heap.size w1 wr) (fun _ v _ => r - (intOf v).toNat)
 case atStart => exact ⟨0, none, 0, 0, Nat.zero_le _, rfl, rfl, Nat.le_refl _, (World.ownsRow_nil _ _ _ _ : World.ownsRow _ _ _ _ _ _ []), Below.refl _ _⟩
 case round =>
  obtain ⟨y, A, m, cc, hyr, rfl, rfl, hmy, hio, hbel⟩ := hrel
  have Y := Lib.hid (And.intro hio (And.intro (H0.out.on hbel) hbel))
  clear hio hbel d1
  by_cases hlt : y < r
  · have hyl : (y : Int) < (r : Int) := by omega
    obtain ⟨U, hU⟩ : ∃ U, decide (rowAt c base.cells y = rowAt c b.cells y) = U := ⟨_, rfl⟩
    have HU := Lib.hid hU
    clear hU
    have P1 := Lib.hid (show ∀ w', Below wr.heap.size wr w' → Calls Tryd.prog 59 #[.agg (scrA sa), .int .i64 y] w' fun e w'' => e = .returned (.slice (sa.A.map (·.add (y * c * 6))) c (sa.k - y * c)) ∧ Below wr.heap.size wr w'' from fun w' hb => (rowOf16_any w' HCR.out.1 HSN.out.1 HI.out.1.nk HA.out.2.gk.c1 HA.out.2.gk.c80 hr24 hlt).mono fun _ _ h => ⟨h.1, hb.trans (h.2.mono hb.size)⟩)
    have P2 := Lib.hid (show ∀ w', Below wr.heap.size wr w' → Calls Tryd.prog 59 #[.agg (scrA sb), .int .i64 y] w' fun e w'' => e = .returned (.slice (sb.A.map (·.add (y * c * 6))) c (sb.k - y * c)) ∧ Below wr.heap.size wr w'' from fun w' hb => (rowOf16_any w' HCR.out.2.1 HSN.out.2 HI.out.2.nk HA.out.2.gk.c1 HA.out.2.gk.c80 hr24 hlt).mono fun _ _ h => ⟨h.1, hb.trans (h.2.mono hb.size)⟩)
    have P3 := Lib.hid (show ∀ w', Below wr.heap.size wr w' → Calls Tryd.prog 61 #[.slice (sa.A.map (·.add (y * c * 6))) c (sa.k - y * c), .slice (sb.A.map (·.add (y * c * 6))) c (sb.k - y * c)] w' fun e w'' => e = .returned (.bool U) ∧ Below wr.heap.size wr w'' from fun w' hb => (equalR_any (rowIn ((HI.out.1.cells.below Y.out.2.1.bel).below hb) HI.out.1.nk HSN.out.1 HA.out.2.gk.c1 hlt) (rowIn ((HI.out.2.cells.below Y.out.2.1.bel).below hb) HI.out.2.nk HSN.out.2 HA.out.2.gk.c1 hlt) (by have := HA.out.2.gk.c80; omega)).mono (by rintro e w'' ⟨rfl, q, rfl⟩; exact ⟨by rw [HU.out], belowN hb q⟩))
    have SX := Lib.hid (show ∀ w', Below wr.heap.size wr w' → (Below wr.heap.size wr w' ∧ (w'.cell? ⟨b3, 0, none⟩ = some (.int .i64 sa.c) ∧ w'.cell? ⟨b3, 1, none⟩ = some (.int .i64 sa.r) ∧ w'.cell? ⟨b3, 2, none⟩ = some (.slice sa.A sa.n sa.k) ∧ w'.cell? ⟨b3, 3, none⟩ = some (.int .i64 sa.x) ∧ w'.cell? ⟨b3, 4, none⟩ = some (.int .i64 sa.y) ∧ w'.cell? ⟨b3, 5, none⟩ = some (.bool sa.hid) ∧ w'.cell? ⟨b3, 6, none⟩ = some (.int .u8 sa.mouse) ∧ w'.cell? ⟨b3, 7, none⟩ = some (.string sa.ttl) ∧ w'.cell? ⟨b3, 8, none⟩ = some (.slice sa.T sa.m sa.q) ∧ w'.cell? ⟨(b3 + 1), 0, none⟩ = some (.int .i64 sb.c) ∧ w'.cell? ⟨(b3 + 1), 1, none⟩ = some (.int .i64 sb.r) ∧ w'.cell? ⟨(b3 + 1), 2, none⟩ = some (.slice sb.A sb.n sb.k) ∧ w'.cell? ⟨(b3 + 1), 3, none⟩ = some (.int .i64 sb.x) ∧ w'.cell? ⟨(b3 + 1), 4, none⟩ = some (.int .i64 sb.y) ∧ w'.cell? ⟨(b3 + 1), 5, none⟩ = some (.bool sb.hid) ∧ w'.cell? ⟨(b3 + 1), 6, none⟩ = some (.int .u8 sb.mouse) ∧ w'.cell? ⟨(b3 + 1), 7, none⟩ = some (.string sb.ttl) ∧ w'.cell? ⟨(b3 + 1), 8, none⟩ = some (.slice sb.T sb.m sb.q))) from fun w' hb => by
     have t0 := sx_cells (Y.out.2.1.b1.below hb)
     have t1 := sx_cells (Y.out.2.1.b2.below hb)
     exact ⟨hb, t0.c0, t0.c1, t0.c2, t0.c3, t0.c4, t0.c5, t0.c6, t0.c7, t0.c8, t1.c0, t1.c1, t1.c2, t1.c3, t1.c4, t1.c5, t1.c6, t1.c7, t1.c8⟩)
    unfold scrA at P1 P2
    have hb0 : Below wr.heap.size wr wr := Below.refl _ _
    go_upto_region 5 with fail
    go_region_held3 (fun w' => Below wr.heap.size wr w' ∧ (w'.cell? ⟨b3, 0, none⟩ = some (.int .i64 sa.c) ∧ w'.cell? ⟨b3, 1, none⟩ = some (.int .i64 sa.r) ∧ w'.cell? ⟨b3, 2, none⟩ = some (.slice sa.A sa.n sa.k) ∧ w'.cell? ⟨b3, 3, none⟩ = some (.int .i64 sa.x) ∧ w'.cell? ⟨b3, 4, none⟩ = some (.int .i64 sa.y) ∧ w'.cell? ⟨b3, 5, none⟩ = some (.bool sa.hid) ∧ w'.cell? ⟨b3, 6, none⟩ = some (.int .u8 sa.mouse) ∧ w'.cell? ⟨b3, 7, none⟩ = some (.string sa.ttl) ∧ w'.cell? ⟨b3, 8, none⟩ = some (.slice sa.T sa.m sa.q) ∧ w'.cell? ⟨(b3 + 1), 0, none⟩ = some (.int .i64 sb.c) ∧ w'.cell? ⟨(b3 + 1), 1, none⟩ = some (.int .i64 sb.r) ∧ w'.cell? ⟨(b3 + 1), 2, none⟩ = some (.slice sb.A sb.n sb.k) ∧ w'.cell? ⟨(b3 + 1), 3, none⟩ = some (.int .i64 sb.x) ∧ w'.cell? ⟨(b3 + 1), 4, none⟩ = some (.int .i64 sb.y) ∧ w'.cell? ⟨(b3 + 1), 5, none⟩ = some (.bool sb.hid) ∧ w'.cell? ⟨(b3 + 1), 6, none⟩ = some (.int .u8 sb.mouse) ∧ w'.cell? ⟨(b3 + 1), 7, none⟩ = some (.string sb.ttl) ∧ w'.cell? ⟨(b3 + 1), 8, none⟩ = some (.slice sb.T sb.m sb.q)))
     ((refine SX.out _ ?_; (try go_split_ands); first | assumption | exact Below.drew (by assumption)))
     ((first
      | (go_at_call 59; (try go_split_ands); refine (P2.out _ hb5).mono ?_; rintro e w6 ⟨rfl, hb6⟩)
      | (go_at_call 59; (try go_split_ands); refine (P1.out _ (by assumption)).mono ?_; rintro e w5 ⟨rfl, hb5⟩)
      | (go_at_call 61; (try go_split_ands); refine (P3.out _ (by assumption)).mono ?_; rintro e w7 ⟨rfl, hb7⟩)))
    have Y1 := Lib.hid (show Io w1.heap.size w7 A m cc (toI (unTo c base.cells b.cells y)) ∧ Below w1.heap.size w1 w7 from ⟨Y.out.1.below hb7, Y.out.2.2.trans (hb7.mono Y.out.2.2.size)⟩)
    clear hb5 hb6 hb7 P1 P2 P3 SX Y
    cases U
    · have hE := Lib.hid (show toI (unTo c base.cells b.cells (y + 1)) = toI (unTo c base.cells b.cells y) ++ [(y : Int)] from by rw [unTo_yes (of_decide_eq_false HU.out)]; unfold toI; rw [List.map_append]; rfl)
      have HW := Lib.hid (show Below w7.heap.size w7 (w7.alloc (.cells #[.int .i64 (y : Int)] 3)) from (Below.refl _ _).alloc (Nat.le_refl _) _)
      have HO := Lib.hid (Y1.out.1.below HW.out)
      have HV := Lib.hid (Ik.one .i64 w7 3 (y : Int))
      go_wp2_with (at_builtin; refine wpList_appI _ rfl _ _ 69 rfl w1.heap.size 3 .i64 8 (by omega) Tryd.underlying69 infoInt _ m _ rfl HO.out (some ⟨w7.heap.size, 0, none⟩) 1 1 (m + 1) rfl _ rfl HV.out (by omega) (Nat.le_trans Y1.out.2.size HW.out.size) ?_; intro A4 c4 w8 hown hg8)
      have Y2 := Lib.hid (show Io w1.heap.size w8 A4 (m + 1) c4 (toI (unTo c base.cells b.cells (y + 1))) ∧ Below w1.heap.size w1 w8 from ⟨by unfold Io; rw [hE.out, List.map_append]; exact hown, (Y1.out.2.trans (HW.out.mono Y1.out.2.size)).grown hg8 (Nat.le_trans Y1.out.2.size HW.out.size) (fun k hk => (World.ownsRow.lt HO.out k hk).1)⟩)
      clear hown hg8 HO HV HW
      go_roundw
      case rel => exact ⟨y + 1, A4, m + 1, c4, by omega, by go_num, rfl, by omega, Y2.out.1, Y2.out.2⟩
      case measure => simp [intOf]; omega
    · have hE := Lib.hid (unTo_no (of_decide_eq_true HU.out))
      go_wp2_with fail
      go_roundw
      case rel => exact ⟨y + 1, A, m, cc, by omega, by go_num, rfl, by omega, by rw [hE.out]; exact Y1.out.1, Y1.out.2⟩
      case measure => simp [intOf]; omega
  · have hyr2 : y = r := by omega
    subst hyr2
    have X : IoOwn (toI (unlike c y base.cells b.cells)) w (.returned (.slice A m cc)) wr := by
     have hl : m = (toI (unlike c y base.cells b.cells)).length := by have := (Io.ik Y.out.1).len; rw [← unTo_all]; exact this.symm
     have h1 := Y.out.1
     rw [unTo_all] at h1
     subst hl
     exact ⟨Y.out.2.1.bel, A, cc, rfl, World.ownsRow.mono h1 H0.out.bel.size⟩
    go_wp2_with fail
    go_ret
    exact X
open Go.RowKit
def KeepI (w w' : World) : Prop := ∀ (g : Nat) cs t fr, w.heap[g]? = some (.cells cs t fr) → t ≠ 5 → w'.heap[g]? = some (.cells cs t fr)
theorem KeepI.refl (w : World) : KeepI w w := fun _ _ _ _ h _ => h
theorem KeepI.trans {a b c : World} (h : KeepI a b) (k : KeepI b c) : KeepI a c := fun _ _ _ _ x ht => k _ _ _ _ (h _ _ _ _ x ht) ht
theorem KeepI.below {w w' : World} (h : Below w.heap.size w w') : KeepI w w' := fun g _ _ _ x _ => (h.block g (Array.getElem?_eq_some_iff.1 x).1).trans x
theorem KeepI.onto {base : Nat} {w w' : World} {A : Option Addr} {n c : Nat} {zs : List Int} (hy : By base w A n c zs) (hg : w.grownBy w' (Value.slice A n c).ownBlock) : KeepI w w' := fun g cs t fr x ht => by
 refine (hg.block g (Array.getElem?_eq_some_iff.1 x).1 fun e => ?_).trans x
 rcases hy.own.2 with ⟨h2, _⟩ | ⟨g2, cap2, cur2, hv2, hb2, hgg2, _⟩
 · rw [h2] at e; cases e
 · rw [hv2] at e
   have e2 : g = g2 := by injection e
   subst e2
   rw [x] at hgg2
   injection hgg2 with e3
   injection e3 with e4 e5
   exact ht e5
theorem KeepI.io {b : Nat} {w w' : World} {P : Option Addr} {m cp : Nat} {ks : List Int} (h : KeepI w w') (k : Io b w P m cp ks) : Io b w' P m cp ks := by
 refine ⟨k.1, ?_⟩
 rcases k.2 with h1 | ⟨g, cap, cur, hv, hb, hgg, hr⟩
 · exact .inl h1
 · exact .inr ⟨g, cap, cur, hv, hb, h _ _ _ _ hgg (by decide), hr⟩
theorem KeepI.rw {α : Type} {f : α → List Value} {t : TypeId} {g : Nat} {w w' : World} {L : List α} (h : KeepI w w') (k : Rw f t w g L) (ht : t ≠ 5) : Rw f t w' g L := by
 obtain ⟨r, k⟩ := k
 exact ⟨r, h _ _ _ _ k ht⟩
theorem By.apart {α : Type} {f : α → List Value} {t : TypeId} {base g : Nat} {w : World} {A : Option Addr} {n c : Nat} {zs : List Int} {L : List α} (hy : By base w A n c zs) (k : Rw f t w g L) (ht : t ≠ 5) : (Value.slice A n c).ownBlock ≠ some g := by
 rcases hy.own.2 with ⟨h2, _⟩ | ⟨g2, cap2, cur2, hv2, hb2, hgg2, _⟩
 · rw [h2]; intro e; cases e
 · rw [hv2]
   intro e
   have e2 : g2 = g := by injection e
   subst e2
   obtain ⟨r, h⟩ := k
   rw [h] at hgg2
   injection hgg2 with e3
   injection e3 with e4 e5
   exact ht e5
theorem Rw.onto {α : Type} {f : α → List Value} {t : TypeId} {base g : Nat} {w w' : World} {A : Option Addr} {n c : Nat} {zs : List Int} {L : List α} (k : Rw f t w g L) (ht : t ≠ 5) (hy : By base w A n c zs) (hg : w.grownBy w' (Value.slice A n c).ownBlock) : Rw f t w' g L := k.grown hg (hy.apart k ht)
theorem Rw.apart {α β : Type} {f : α → List Value} {k : β → List Value} {t u : TypeId} {w : World} {g q : Nat} {L : List α} {M : List β} (h : Rw f t w g L) (h' : Rw k u w q M) (hn : t ≠ u) : g ≠ q := by
 rintro rfl
 obtain ⟨r, e⟩ := h
 obtain ⟨r', e'⟩ := h'
 rw [e] at e'
 injection e' with e'
 injection e' with _ e'
 exact hn e'
def Longer (base : Nat) (zs : List Int) (n : Nat) (w : World) (e : Ending) (w' : World) : Prop := Below base w w' ∧ KeepI w w' ∧ ∃ A c, e = .returned (.slice A n c) ∧ By base w' A n c zs
theorem numL_one {k : Int} (h : 0 ≤ k) (h' : k ≤ 255) : numS k 1 = [k] := by
 show numL k 1 = [k]
 have h1 : valL 0 (numL k 1) = k := numL_at k h (by show k < 256; omega)
 have h2 := numL_len k 1
 match numL k 1, h1, h2 with
 | [x], h1, _ => rw [← h1]; simp [valL]
set_option maxHeartbeats 3200000 in
set_option maxRecDepth 100000 in
theorem layBytes_any {base : Nat} {w : World} {A P : Option Addr} {n c m cp b2 : Nat} {zs ks : List Int} (h : By base w A n c zs) (k : Io b2 w P m cp ks) (hb : base ≤ w.heap.size) (hk : ∀ x ∈ ks, 0 ≤ x ∧ x ≤ 255) (hn : n ≤ 200000) (hm : m ≤ 100) :
  Calls Tryd.prog 32 #[.slice A n c, .slice P m cp] w (Longer base (zs ++ ks) (n + m) w) := by
 have HI := Lib.hid (And.intro h (And.intro k (And.intro hb hk)))
 have HL := Lib.hid (show ks.length = m from k.ik.len)
 clear h k hb hk
 go_enter Tryd.func32, Tryd.ntmps32
 go_wp2_with fail
 go_loopw [0, 9] (fun v0 v9 wr => ∃ (j : Nat) (A' : Option Addr) (n' c' : Nat), j ≤ m ∧ n' = n + j ∧ v9 = .int .i64 j ∧ v0 = .slice A' n' c' ∧ By base wr A' n' c' (zs ++ ks.take j) ∧ Below base w wr ∧ KeepI w wr) (fun _ v _ => m - (intOf v).toNat)
 case atStart => exact ⟨0, A, n, c, Nat.zero_le _, rfl, rfl, rfl, by rw [List.take_zero, List.append_nil]; exact HI.out.1, Below.refl _ _, KeepI.refl _⟩
 case round =>
  obtain ⟨j, A1, n1, c1, hj, hn1, rfl, rfl, hy, hbel, hkp⟩ := hrel
  have Y := Lib.hid (And.intro hy (And.intro hbel hkp))
  clear hy hbel hkp
  have HN1 := Lib.hid hn1
  have hn1b : n1 ≤ 200100 := by omega
  clear hn1
  by_cases hlt : j < m
  · have hik := (Y.out.2.2.io HI.out.2.1).ik
    obtain ⟨ad, hA⟩ : ∃ ad, P = some ad := by
     obtain ⟨ad, e, _⟩ := hik.at_ (by omega)
     exact ⟨ad, e⟩
    subst hA
    have hcell := hik.cell hlt
    obtain ⟨x, hx⟩ : ∃ x, x = ks.getD j 0 := ⟨_, rfl⟩
    rw [← hx] at hcell
    have HX := Lib.hid (show (0 ≤ x ∧ x ≤ 255) ∧ ks.take (j + 1) = ks.take j ++ [x] from by
     have hl : j < ks.length := by rw [HL.out]; exact hlt
     refine ⟨?_, ?_⟩
     · rw [hx, getD_lt hl]; exact HI.out.2.2.2 _ (List.getElem_mem _)
     · rw [List.take_add_one, List.getElem?_eq_getElem hl, hx, getD_lt hl]; rfl)
    clear hik hx
    have k1 : IntKind.u64.wrap x = x := by rw [IntKind.wrap_u64]; have := HX.out.1; omega
    go_wp2_with fail
    refine (num_any x 1 _ HX.out.1.1 (by have := HX.out.1; omega)).mono ?_
    intro e w2 h2
    obtain ⟨hb2, A2, c2, rfl, hy2⟩ := num_own h2
    rw [numL_one HX.out.1.1 HX.out.1.2] at hy2 ⊢
    have hbw : base ≤ wr.heap.size := by have := HI.out.2.2.1; have := Y.out.2.1.size; omega
    have H2 := Lib.hid (show By base w2 A1 n1 c1 (zs ++ ks.take j) ∧ Sb w2 A2 1 [x] ∧ Below base w w2 ∧ KeepI w w2 ∧ base ≤ w2.heap.size from ⟨Y.out.1.below hb2, hy2.sb, Y.out.2.1.trans (hb2.mono hbw), Y.out.2.2.trans (KeepI.below hb2), by have := hb2.size; omega⟩)
    clear h2 hb2 hy2 hcell k1 hbw Y
    go_wp2_with (at_builtin; refine wpList_appB _ rfl _ _ rfl base A1 n1 c1 _ rfl H2.out.1 A2 1 c2 (n1 + 1) rfl _ rfl H2.out.2.1 (by omega) H2.out.2.2.2.2 ?_; intro A4 c4 w4 hown hg4)
    have H4 := Lib.hid (show By base w4 A4 (n1 + 1) c4 (zs ++ ks.take (j + 1)) ∧ Below base w w4 ∧ KeepI w w4 from ⟨by rw [HX.out.2, ← List.append_assoc]; exact hown, H2.out.2.2.1.grown hg4 H2.out.2.2.2.2 (fun k hk => H2.out.1.ownB k hk), H2.out.2.2.2.1.trans (KeepI.onto H2.out.1 hg4)⟩)
    clear hown hg4
    go_roundw
    case rel => exact ⟨j + 1, A4, n1 + 1, c4, by omega, by have := HN1.out; omega, by go_num, rfl, H4.out.1, H4.out.2.1, H4.out.2.2⟩
    case measure => simp [intOf]; omega
  · obtain rfl : j = m := by omega
    have hn1 := HN1.out
    subst hn1
    clear HN1 hn1b
    have X : Longer base (zs ++ ks) (n + j) w (.returned (.slice A1 (n + j) c1)) wr := by
     have h1 := Y.out.1
     rw [List.take_of_length_le (by rw [HL.out]; exact Nat.le_refl _)] at h1
     exact ⟨Y.out.2.1, Y.out.2.2, A1, c1, rfl, h1⟩
    go_wp2_with fail
    go_ret
    exact X
set_option maxHeartbeats 3200000 in
set_option maxRecDepth 100000 in
theorem layCell_any {base : Nat} {w : World} {A : Option Addr} {n c : Nat} {zs : List Int} {x : Ce} (h : By base w A n c zs) (hb : base ≤ w.heap.size) (hn : n ≤ 100000) (hr : 0 ≤ x.r ∧ x.r ≤ 2147483647) (hf : 0 ≤ x.p.fg ∧ x.p.fg ≤ 4294967295) (hg : 0 ≤ x.p.bg ∧ x.p.bg ≤ 4294967295) (hs : 0 ≤ x.p.st ∧ x.p.st ≤ 255) :
  Calls Tryd.prog 60 #[.slice A n c, .agg (ceA x)] w (Longer base (zs ++ cellB x) (n + 9) w) := by
 have HR := Lib.hid (And.intro hr (And.intro hf (And.intro hg hs)))
 have k1 : IntKind.u64.wrap x.r = x.r := by rw [IntKind.wrap_u64]; omega
 obtain ⟨b, hb3⟩ : ∃ b, b = w.heap.size := ⟨_, rfl⟩
 obtain ⟨w1, hw1⟩ : ∃ w1, w1 = w.alloc (.cells (ceA x) 51) := ⟨_, rfl⟩
 have H1 := Lib.hid (show Cb w1 b x ∧ Below base w w1 ∧ KeepI w w1 ∧ By base w1 A n c zs ∧ base ≤ w1.heap.size from by
  have hbb : Below w.heap.size w w1 := by rw [hw1]; exact (Below.refl _ _).alloc (Nat.le_refl _) _
  have h2 := hbb.size
  exact ⟨by rw [hw1, hb3]; exact Cb.new w x, hbb.mono hb, KeepI.below hbb, h.below hbb, by omega⟩)
 clear hr hf hg hs h hb
 obtain ⟨d0, d1, d2, d3, d4, d5⟩ := H1.out.1.all
 unfold ceA at hw1 ⊢
 go_enter Tryd.func60, Tryd.ntmps60
 go_upto_region 1 with fail
 rw [← hw1, ← hb3]
 clear hw1 hb3
 go_wp2_with fail
 refine (num_any x.r 4 _ HR.out.1.1 (by have := HR.out.1; omega)).mono ?_
 intro e w2 h2
 obtain ⟨hb2, A2, c2, rfl, hy2⟩ := num_own h2
 rw [num4] at hy2 ⊢
 rw [numL_len] at hy2 ⊢
 have G1 := Lib.hid (show Cb w2 b x ∧ Below base w w2 ∧ KeepI w w2 ∧ By base w2 A (n) c (zs) ∧ base ≤ w2.heap.size ∧ Sb w2 A2 4 (numL x.r 4) from ⟨H1.out.1.below hb2, H1.out.2.1.trans (hb2.mono H1.out.2.2.2.2), H1.out.2.2.1.trans (KeepI.below hb2), H1.out.2.2.2.1.below hb2, Nat.le_trans H1.out.2.2.2.2 hb2.size, hy2.sb⟩)
 clear h2 hb2 hy2 d0 d1 d2 d3 d4 d5 k1 H1
 go_upto_region 2 with (at_builtin; refine wpList_appB _ rfl _ _ rfl base A (n) c _ rfl G1.out.2.2.2.1 A2 4 c2 (n + 4) rfl _ rfl G1.out.2.2.2.2.2 (by omega) G1.out.2.2.2.2.1 ?_; intro A3 c3 w3 hown hg4)
 have H2 := Lib.hid (show Cb w3 b x ∧ Below base w w3 ∧ KeepI w w3 ∧ By base w3 A3 (n + 4) c3 (zs ++ numL x.r 4) ∧ base ≤ w3.heap.size from ⟨G1.out.1.onto (by decide) G1.out.2.2.2.1 hg4, G1.out.2.1.grown hg4 G1.out.2.2.2.2.1 (fun k hk => G1.out.2.2.2.1.ownB k hk), G1.out.2.2.1.trans (KeepI.onto G1.out.2.2.2.1 hg4), hown, Nat.le_trans G1.out.2.2.2.2.1 hg4.size⟩)
 clear hown hg4 G1
 obtain ⟨d0, d1, d2, d3, d4, d5⟩ := H2.out.1.all
 have k1 : IntKind.u64.wrap x.p.fg = x.p.fg := by rw [IntKind.wrap_u64]; have := HR.out.2.1; omega
 go_wp2_with fail
 refine (num_any x.p.fg 2 _ HR.out.2.1.1 (by have := HR.out.2.1; omega)).mono ?_
 intro e w4 h2
 obtain ⟨hb2, A4, c4, rfl, hy2⟩ := num_own h2
 rw [num2] at hy2 ⊢
 rw [numL_len] at hy2 ⊢
 have G2 := Lib.hid (show Cb w4 b x ∧ Below base w w4 ∧ KeepI w w4 ∧ By base w4 A3 (n + 4) c3 (zs ++ numL x.r 4) ∧ base ≤ w4.heap.size ∧ Sb w4 A4 2 (numL x.p.fg 2) from ⟨H2.out.1.below hb2, H2.out.2.1.trans (hb2.mono H2.out.2.2.2.2), H2.out.2.2.1.trans (KeepI.below hb2), H2.out.2.2.2.1.below hb2, Nat.le_trans H2.out.2.2.2.2 hb2.size, hy2.sb⟩)
 clear h2 hb2 hy2 d0 d1 d2 d3 d4 d5 k1 H2
 go_upto_region 3 with (at_builtin; refine wpList_appB _ rfl _ _ rfl base A3 (n + 4) c3 _ rfl G2.out.2.2.2.1 A4 2 c4 (n + 4 + 2) rfl _ rfl G2.out.2.2.2.2.2 (by omega) G2.out.2.2.2.2.1 ?_; intro A5 c5 w5 hown hg4)
 have H3 := Lib.hid (show Cb w5 b x ∧ Below base w w5 ∧ KeepI w w5 ∧ By base w5 A5 (n + 4 + 2) c5 (zs ++ numL x.r 4 ++ numL x.p.fg 2) ∧ base ≤ w5.heap.size from ⟨G2.out.1.onto (by decide) G2.out.2.2.2.1 hg4, G2.out.2.1.grown hg4 G2.out.2.2.2.2.1 (fun k hk => G2.out.2.2.2.1.ownB k hk), G2.out.2.2.1.trans (KeepI.onto G2.out.2.2.2.1 hg4), hown, Nat.le_trans G2.out.2.2.2.2.1 hg4.size⟩)
 clear hown hg4 G2
 obtain ⟨d0, d1, d2, d3, d4, d5⟩ := H3.out.1.all
 have k1 : IntKind.u64.wrap x.p.bg = x.p.bg := by rw [IntKind.wrap_u64]; have := HR.out.2.2.1; omega
 go_wp2_with fail
 refine (num_any x.p.bg 2 _ HR.out.2.2.1.1 (by have := HR.out.2.2.1; omega)).mono ?_
 intro e w6 h2
 obtain ⟨hb2, A6, c6, rfl, hy2⟩ := num_own h2
 rw [num2] at hy2 ⊢
 rw [numL_len] at hy2 ⊢
 have G3 := Lib.hid (show Cb w6 b x ∧ Below base w w6 ∧ KeepI w w6 ∧ By base w6 A5 (n + 4 + 2) c5 (zs ++ numL x.r 4 ++ numL x.p.fg 2) ∧ base ≤ w6.heap.size ∧ Sb w6 A6 2 (numL x.p.bg 2) from ⟨H3.out.1.below hb2, H3.out.2.1.trans (hb2.mono H3.out.2.2.2.2), H3.out.2.2.1.trans (KeepI.below hb2), H3.out.2.2.2.1.below hb2, Nat.le_trans H3.out.2.2.2.2 hb2.size, hy2.sb⟩)
 clear h2 hb2 hy2 d0 d1 d2 d3 d4 d5 k1 H3
 go_upto_region 4 with (at_builtin; refine wpList_appB _ rfl _ _ rfl base A5 (n + 4 + 2) c5 _ rfl G3.out.2.2.2.1 A6 2 c6 (n + 4 + 2 + 2) rfl _ rfl G3.out.2.2.2.2.2 (by omega) G3.out.2.2.2.2.1 ?_; intro A7 c7 w7 hown hg4)
 have H4 := Lib.hid (show Cb w7 b x ∧ Below base w w7 ∧ KeepI w w7 ∧ By base w7 A7 (n + 4 + 2 + 2) c7 (zs ++ numL x.r 4 ++ numL x.p.fg 2 ++ numL x.p.bg 2) ∧ base ≤ w7.heap.size from ⟨G3.out.1.onto (by decide) G3.out.2.2.2.1 hg4, G3.out.2.1.grown hg4 G3.out.2.2.2.2.1 (fun k hk => G3.out.2.2.2.1.ownB k hk), G3.out.2.2.1.trans (KeepI.onto G3.out.2.2.2.1 hg4), hown, Nat.le_trans G3.out.2.2.2.2.1 hg4.size⟩)
 clear hown hg4 G3
 obtain ⟨d0, d1, d2, d3, d4, d5⟩ := H4.out.1.all
 have k1 : IntKind.i64.wrap x.p.st = x.p.st := by rw [IntKind.wrap_i64]; have := HR.out.2.2.2; omega
 obtain ⟨w8, hw8⟩ : ∃ w8, w8 = w7.alloc (.cells #[.int .i64 x.p.st] 3) := ⟨_, rfl⟩
 obtain ⟨g8, hg8⟩ : ∃ g8, g8 = w7.heap.size := ⟨_, rfl⟩
 have H5 := Lib.hid (show Below base w w8 ∧ KeepI w w8 ∧ By base w8 A7 (n + 4 + 2 + 2) c7 (zs ++ numL x.r 4 ++ numL x.p.fg 2 ++ numL x.p.bg 2) ∧ base ≤ w8.heap.size ∧ Io w7.heap.size w8 (some ⟨g8, 0, none⟩) 1 1 [x.p.st] from by
  have hbb : Below w7.heap.size w7 w8 := by rw [hw8]; exact (Below.refl _ _).alloc (Nat.le_refl _) _
  exact ⟨H4.out.2.1.trans (hbb.mono H4.out.2.2.2.2), H4.out.2.2.1.trans (KeepI.below hbb), H4.out.2.2.2.1.below hbb, Nat.le_trans H4.out.2.2.2.2 hbb.size, by rw [hw8, hg8]; exact World.ownsRow_lit w7 #[.int .i64 x.p.st] 1 (Nat.le_refl _) (by unfold maxLen; omega) rfl⟩)
 clear H4
 go_wp2_with fail
 rw [← hw8, ← hg8]
 clear hw8 hg8
 refine (layBytes_any H5.out.2.2.1 H5.out.2.2.2.2 H5.out.2.2.2.1 (fun y hy => by simp at hy; rw [hy]; exact HR.out.2.2.2) (by omega) (by omega)).mono ?_
 rintro e w9 ⟨hb9, hk9, A9, c9, rfl, hy9⟩
 have X : Longer base (zs ++ cellB x) (n + 9) w (.returned (.slice A9 (n + 9) c9)) w9 := by
  have e : cellB x = numL x.r 4 ++ numL x.p.fg 2 ++ numL x.p.bg 2 ++ [x.p.st] := by unfold cellB; simp only [List.append_assoc]
  refine ⟨H5.out.1.trans hb9, H5.out.2.1.trans hk9, A9, c9, rfl, ?_⟩
  rw [e]
  simp only [List.append_assoc] at hy9 ⊢
  exact hy9
 clear hb9 hk9 hy9
 go_wp2_with fail
 go_ret
 exact X
end Go.Proofs.YtikhknnhmnopbaaDoor
