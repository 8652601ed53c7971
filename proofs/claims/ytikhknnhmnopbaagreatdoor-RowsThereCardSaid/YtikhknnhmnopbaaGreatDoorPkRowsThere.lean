/-
  Proved: RowsThere answers true for every two screens, over the tables that the library and the program lay (a tied card).
-/
import Derived.Test.YtikhknnhmnopbaaGreatDoorCards
import Derived.Test.YtikhknnhmnopbaaGreatDoorTie
import Derived.SevenTiedAt
import Derived.WalkKit
import Derived.Deep.RegionHeld3
import Derived.Deep.DeepCutAuto
import Derived.Deep.MidRow
import Derived.Test.YtikhknnhmnopbaaGreatDoorPk01
import Derived.Test.YtikhknnhmnopbaaGreatDoorPk15
import Derived.Test.YtikhknnhmnopbaaGreatDoorPk22
import Derived.Test.YtikhknnhmnopbaaGreatDoorPk25
import Derived.Test.YtikhknnhmnopbaaGreatDoorPk26
import Derived.Test.YtikhknnhmnopbaaGreatDoorPk29
namespace Go.Proofs.YtikhknnhmnopbaaGreatDoor.rowsThere
open Go.ChangeShapes Go.WideShapes Go.ChangeAt Go.RowKit
set_option maxHeartbeats 6400000 in
set_option maxRecDepth 100000 in
theorem walk {sa sb : ScR} {SA SB : Sc} (w : World) (hT : Tabs w) (h : ScIn w sa SA ∧ (PosC SA.cells ∧ StC SA.cells ∧ 0 ≤ SA.mouse)) (k : ScIn w sb SB ∧ (PosC SB.cells ∧ StC SB.cells ∧ 0 ≤ SB.mouse)) :
  Calls Tryz.prog 4 #[.agg (scrA sa), .agg (scrA sb)] w fun e w' => e = .returned (.bool true) ∧ Below w.heap.size w w' := by
 have HT := Lib.hid (fun w' (hb' : Below w.heap.size w w') => hT.below hb' (Nat.le_refl _))
 have HI := Lib.hid (And.intro h.1 k.1)
 have HP := Lib.hid (And.intro h.2 k.2)
 obtain ⟨b3, hb3⟩ : ∃ b3, b3 = w.heap.size := ⟨_, rfl⟩
 obtain ⟨w1, hw1⟩ : ∃ w1, w1 = (w.alloc (.cells (scrA sa) 25)).alloc (.cells (scrA sb) 25) := ⟨_, rfl⟩
 have H1 := Lib.hid (show S2 w w1 b3 sa sb from by
  have h1 := Sx.new w sa
  have h2 := Sx.new (w.alloc (.cells (scrA sa) 25)) sb
  rw [World.size_alloc] at h2
  rw [hb3, hw1]
  exact ⟨h1.below ((Below.refl _ _).alloc (Nat.le_refl _) _), h2, ((Below.refl _ _).alloc (Nat.le_refl _) _).alloc (by simp) _, Nat.le_refl _⟩)
 obtain ⟨G, hG⟩ : ∃ G, greatS sa = G := ⟨_, rfl⟩
 have PG := Lib.hid (great16_any sa w1)
 rw [hG] at PG
 have HG := Lib.hid hG
 clear h hT hG k
 obtain ⟨a0, a1, a2, a3, a4, a5, a6, a7, a8, _⟩ := sx_cells H1.out.b1
 unfold scrA at hw1 PG ⊢
 go_enter Tryz.func4, Tryz.ntmps4
 go_upto_region 1 with fail
 rw [← hw1, ← hb3]
 clear hw1 hb3
 go_wp2_with fail
 refine PG.out.mono ?_
 rintro e w2 ⟨rfl, hb2⟩
 have H2 := Lib.hid (H1.out.on hb2)
 clear hb2 H1 PG a0 a1 a2 a3 a4 a5 a6 a7 a8
 cases G
 rotate_left
 · go_wp2_with fail
   refine (fixed16_any (HT.out _ H2.out.bel)).mono ?_
   rintro e w9 ⟨rfl, hb9⟩
   have Z9 := Lib.hid (Below.trans H2.out.bel (hb9.mono (Below.size H2.out.bel)))
   clear hb9
   go_wp2_with fail
   go_ret
   exact ⟨rfl, Z9.out⟩
 have HNA := Lib.hid (great_no HG.out)
 clear HG
 obtain ⟨G, hG⟩ : ∃ G, greatS sb = G := ⟨_, rfl⟩
 have PG := Lib.hid (great16_any sb w2)
 rw [hG] at PG
 have HG := Lib.hid hG
 clear hG
 obtain ⟨d0, d1, d2, d3, d4, d5, d6, d7, d8, _⟩ := sx_cells H2.out.b2
 unfold scrA at PG
 go_wp2_with fail
 refine PG.out.mono ?_
 rintro e w3 ⟨rfl, hb3⟩
 have H3 := Lib.hid (H2.out.on hb3)
 clear hb3 H2 PG d0 d1 d2 d3 d4 d5 d6 d7 d8
 cases G
 rotate_left
 · go_wp2_with fail
   refine (fixed16_any (HT.out _ H3.out.bel)).mono ?_
   rintro e w9 ⟨rfl, hb9⟩
   have Z9 := Lib.hid (Below.trans H3.out.bel (hb9.mono (Below.size H3.out.bel)))
   clear hb9
   go_wp2_with fail
   go_ret
   exact ⟨rfl, Z9.out⟩
 have HNB := Lib.hid (great_no HG.out)
 clear HG
 have GA := Lib.hid (fun (w' : World) (hb : Below w.heap.size w w') => Got.mk (HI.out.1.below hb) HP.out.1.1 HP.out.1.2.2 (by have := HNA.out; omega) (by have := HNA.out; omega))
 have GB := Lib.hid (fun (w' : World) (hb : Below w.heap.size w w') => Got.mk (HI.out.2.below hb) HP.out.2.1 HP.out.2.2.2 (by have := HNB.out; omega) (by have := HNB.out; omega))
 obtain ⟨a0, a1, a2, a3, a4, a5, a6, a7, a8, _⟩ := sx_cells H3.out.b1
 have PR := Lib.hid (rFits_any (HI.out.1.below H3.out.bel) HP.out.1.2.2 (by have := HNA.out; omega) (by have := HNA.out; omega))
 unfold scrA at PR
 go_wp2_with fail
 refine PR.out.mono ?_
 rintro e w4 ⟨rfl, hb4⟩
 have H4 := Lib.hid (H3.out.on hb4)
 clear hb4 H3 PR a0 a1 a2 a3 a4 a5 a6 a7 a8
 cases hFA : fitsS SA
 · go_wp2_with fail
   refine (fixed16_any (HT.out _ H4.out.bel)).mono ?_
   rintro e w9 ⟨rfl, hb9⟩
   have Z9 := Lib.hid (Below.trans H4.out.bel (hb9.mono (Below.size H4.out.bel)))
   clear hb9
   go_wp2_with fail
   go_ret
   exact ⟨rfl, Z9.out⟩
 have HFA := Lib.hid hFA
 clear hFA
 obtain ⟨d0, d1, d2, d3, d4, d5, d6, d7, d8, _⟩ := sx_cells H4.out.b2
 have PR := Lib.hid (rFits_any (HI.out.2.below H4.out.bel) HP.out.2.2.2 (by have := HNB.out; omega) (by have := HNB.out; omega))
 unfold scrA at PR
 go_wp2_with fail
 refine PR.out.mono ?_
 rintro e w5 ⟨rfl, hb5⟩
 have H5 := Lib.hid (H4.out.on hb5)
 clear hb5 H4 PR d0 d1 d2 d3 d4 d5 d6 d7 d8
 cases hFB : fitsS SB
 · go_wp2_with fail
   refine (fixed16_any (HT.out _ H5.out.bel)).mono ?_
   rintro e w9 ⟨rfl, hb9⟩
   have Z9 := Lib.hid (Below.trans H5.out.bel (hb9.mono (Below.size H5.out.bel)))
   clear hb9
   go_wp2_with fail
   go_ret
   exact ⟨rfl, Z9.out⟩
 have HFB := Lib.hid hFB
 clear hFB
 have HTI := Lib.hid (show U8s SB.title from by rw [HI.out.2.ttl]; exact sL_b _)
 have HEN := Lib.hid (And.intro (enc_there HFA.out HFB.out HP.out.1.1 HP.out.2.1) (enc_u8 (a := SA) HFB.out HP.out.2.1 HP.out.2.2.1 HTI.out))
 have HFU := Lib.hid (And.intro (full_there HFA.out HFB.out HP.out.2.1) (full_u8 HFB.out HP.out.2.1 HP.out.2.2.1 HTI.out))
 obtain ⟨⟨L1, E1⟩, hE⟩ : ∃ q, encR SA SB = q := ⟨_, rfl⟩
 obtain ⟨⟨L2, E2⟩, hF⟩ : ∃ q, fullS SB = q := ⟨_, rfl⟩
 have HE1 := Lib.hid (show E1 = 0 ∧ applyS SA L1 = (SB, 0) ∧ U8s L1 ∧ L1.length ≤ 100000 from by
  have h := HEN.out
  rw [hE] at h
  exact ⟨h.1.1, h.1.2, h.2.1, h.2.2⟩)
 have HE2 := Lib.hid (show E2 = 0 ∧ applyS SA L2 = (SB, 0) ∧ U8s L2 ∧ L2.length ≤ 100000 from by
  have h := HFU.out
  have h2 := h.1.1
  rw [hF] at h2 h
  injection h2 with h3 h4
  refine ⟨h4, ?_, h.2.1, h.2.2⟩
  rw [h3]
  exact h.1.2)
 clear HEN HFU
 obtain ⟨a0, a1, a2, a3, a4, a5, a6, a7, a8, _⟩ := sx_cells H5.out.b1
 obtain ⟨d0, d1, d2, d3, d4, d5, d6, d7, d8, _⟩ := sx_cells H5.out.b2
 have PE := Lib.hid (cEncode_any (HT.out _ H5.out.bel) (GA.out _ H5.out.bel) (GB.out _ H5.out.bel) HP.out.2.2.1)
 rw [hE] at PE
 clear hE
 unfold scrA at PE
 go_wp2_with fail
 refine PE.out.mono ?_
 rintro e w6 ⟨hb6, A1, c1, rfl, hy1⟩
 have X6 := Lib.hid (show S2 w w6 b3 sa sb ∧ Sb w6 A1 L1.length L1 from ⟨H5.out.on hb6, hy1.sb⟩)
 clear hb6 hy1 H5 PE a0 a1 a2 a3 a4 a5 a6 a7 a8 d0 d1 d2 d3 d4 d5 d6 d7 d8
 obtain ⟨d0, d1, d2, d3, d4, d5, d6, d7, d8, _⟩ := sx_cells X6.out.1.b2
 have PE := Lib.hid (cFull_any (HT.out _ X6.out.1.bel) (GB.out _ X6.out.1.bel) HP.out.2.2.1)
 rw [hF] at PE
 clear hF
 unfold scrA at PE
 dsimp only
 go_wp2_with fail
 refine PE.out.mono ?_
 rintro e w7 ⟨hb7, A2, c2, rfl, hy2⟩
 have X7 := Lib.hid (show S2 w w7 b3 sa sb ∧ Sb w7 A1 L1.length L1 ∧ Sb w7 A2 L2.length L2 from ⟨X6.out.1.on hb7, X6.out.2.below hb7, hy2.sb⟩)
 clear hb7 hy2 X6 PE d0 d1 d2 d3 d4 d5 d6 d7 d8
 obtain ⟨rfl, rfl⟩ : E1 = 0 ∧ E2 = 0 := ⟨HE1.out.1, HE2.out.1⟩
 obtain ⟨a0, a1, a2, a3, a4, a5, a6, a7, a8, _⟩ := sx_cells X7.out.1.b1
 have PA := Lib.hid (cApply_any (dc := c1) (HT.out _ X7.out.1.bel) (GA.out _ X7.out.1.bel) X7.out.2.1 HE1.out.2.2.1 (by have := HE1.out.2.2.2; omega))
 unfold ApEnd at PA
 rw [HE1.out.2.1] at PA
 dsimp only at PA
 unfold scrA at PA
 dsimp only
 go_wp2_with fail
 refine PA.out.mono ?_
 rintro e w8 ⟨hb8, s5, rfl, hS5⟩
 obtain ⟨bx, hbx⟩ : ∃ q, q = w8.heap.size := ⟨_, rfl⟩
 obtain ⟨w9, hw9⟩ : ∃ q, q = w8.alloc (.cells (scrA s5) 25) := ⟨_, rfl⟩
 have X9 := Lib.hid (show S2 w w9 b3 sa sb ∧ Sb w9 A2 L2.length L2 ∧ Sx w9 bx s5 ∧ ScIn w9 s5 SB ∧ s5.n ≤ 1920 ∧ s5.m ≤ 16 from by
  have hbb : Below w8.heap.size w8 w9 := by rw [hw9]; exact (Below.refl _ _).alloc (Nat.le_refl _) _
  have h79 : Below w7.heap.size w7 w9 := hb8.trans (hbb.mono hb8.size)
  exact ⟨X7.out.1.on h79, X7.out.2.2.below h79, by rw [hw9, hbx]; exact Sx.new w8 s5, hS5.sc.below hbb, hS5.n, hS5.m⟩)
 clear hb8 hS5 X7 PA a0 a1 a2 a3 a4 a5 a6 a7 a8
 unfold scrA at hw9
 go_upto_region 6 with fail
 rw [← hw9, ← hbx]
 clear hw9 hbx
 obtain ⟨a0, a1, a2, a3, a4, a5, a6, a7, a8, _⟩ := sx_cells X9.out.1.b1
 have PA := Lib.hid (cApply_any (dc := c2) (HT.out _ X9.out.1.bel) (GA.out _ X9.out.1.bel) X9.out.2.1 HE2.out.2.2.1 (by have := HE2.out.2.2.2; omega))
 unfold ApEnd at PA
 rw [HE2.out.2.1] at PA
 dsimp only at PA
 unfold scrA at PA
 go_wp2_with fail
 refine PA.out.mono ?_
 rintro e w10 ⟨hb10, s6, rfl, hS6⟩
 obtain ⟨bv, hbv⟩ : ∃ q, q = w10.heap.size := ⟨_, rfl⟩
 obtain ⟨w11, hw11⟩ : ∃ q, q = w10.alloc (.cells (scrA s6) 25) := ⟨_, rfl⟩
 have X4 := Lib.hid (show S2 w w11 b3 sa sb ∧ Sx w11 bx s5 ∧ Sx w11 bv s6 ∧ ScIn w11 s5 SB ∧ ScIn w11 s6 SB ∧ (s5.n ≤ 1920 ∧ s5.m ≤ 16) ∧ (s6.n ≤ 1920 ∧ s6.m ≤ 16) from by
  have hbb : Below w10.heap.size w10 w11 := by rw [hw11]; exact (Below.refl _ _).alloc (Nat.le_refl _) _
  have h9 : Below w9.heap.size w9 w11 := hb10.trans (hbb.mono hb10.size)
  exact ⟨X9.out.1.on h9, X9.out.2.2.1.below h9, by rw [hw11, hbv]; exact Sx.new w10 s6, X9.out.2.2.2.1.below h9, hS6.sc.below hbb, X9.out.2.2.2.2, hS6.n, hS6.m⟩)
 clear hb10 hS6 X9 PA a0 a1 a2 a3 a4 a5 a6 a7 a8
 unfold scrA at hw11
 go_upto_region 7 with fail
 rw [← hw11, ← hbv]
 clear hw11 hbv
 have SX := Lib.hid (show ∀ w', Below w11.heap.size w11 w' → (Below w11.heap.size w11 w' ∧ (w'.cell? ⟨(b3 + 1), 0, none⟩ = some (.int .i64 sb.c) ∧ w'.cell? ⟨(b3 + 1), 1, none⟩ = some (.int .i64 sb.r) ∧ w'.cell? ⟨(b3 + 1), 2, none⟩ = some (.slice sb.A sb.n sb.k) ∧ w'.cell? ⟨(b3 + 1), 3, none⟩ = some (.int .i64 sb.x) ∧ w'.cell? ⟨(b3 + 1), 4, none⟩ = some (.int .i64 sb.y) ∧ w'.cell? ⟨(b3 + 1), 5, none⟩ = some (.bool sb.hid) ∧ w'.cell? ⟨(b3 + 1), 6, none⟩ = some (.int .u8 sb.mouse) ∧ w'.cell? ⟨(b3 + 1), 7, none⟩ = some (.string sb.ttl) ∧ w'.cell? ⟨(b3 + 1), 8, none⟩ = some (.slice sb.T sb.m sb.q) ∧ w'.cell? ⟨bx, 0, none⟩ = some (.int .i64 s5.c) ∧ w'.cell? ⟨bx, 1, none⟩ = some (.int .i64 s5.r) ∧ w'.cell? ⟨bx, 2, none⟩ = some (.slice s5.A s5.n s5.k) ∧ w'.cell? ⟨bx, 3, none⟩ = some (.int .i64 s5.x) ∧ w'.cell? ⟨bx, 4, none⟩ = some (.int .i64 s5.y) ∧ w'.cell? ⟨bx, 5, none⟩ = some (.bool s5.hid) ∧ w'.cell? ⟨bx, 6, none⟩ = some (.int .u8 s5.mouse) ∧ w'.cell? ⟨bx, 7, none⟩ = some (.string s5.ttl) ∧ w'.cell? ⟨bx, 8, none⟩ = some (.slice s5.T s5.m s5.q) ∧ w'.cell? ⟨bv, 0, none⟩ = some (.int .i64 s6.c) ∧ w'.cell? ⟨bv, 1, none⟩ = some (.int .i64 s6.r) ∧ w'.cell? ⟨bv, 2, none⟩ = some (.slice s6.A s6.n s6.k) ∧ w'.cell? ⟨bv, 3, none⟩ = some (.int .i64 s6.x) ∧ w'.cell? ⟨bv, 4, none⟩ = some (.int .i64 s6.y) ∧ w'.cell? ⟨bv, 5, none⟩ = some (.bool s6.hid) ∧ w'.cell? ⟨bv, 6, none⟩ = some (.int .u8 s6.mouse) ∧ w'.cell? ⟨bv, 7, none⟩ = some (.string s6.ttl) ∧ w'.cell? ⟨bv, 8, none⟩ = some (.slice s6.T s6.m s6.q))) from fun w' hb => by
  have t0 := sx_cells (X4.out.1.b2.below hb)
  have t1 := sx_cells (X4.out.2.1.below hb)
  have t2 := sx_cells (X4.out.2.2.1.below hb)
  exact ⟨hb, t0.c0, t0.c1, t0.c2, t0.c3, t0.c4, t0.c5, t0.c6, t0.c7, t0.c8, t1.c0, t1.c1, t1.c2, t1.c3, t1.c4, t1.c5, t1.c6, t1.c7, t1.c8, t2.c0, t2.c1, t2.c2, t2.c3, t2.c4, t2.c5, t2.c6, t2.c7, t2.c8⟩)
 have P0 := Lib.hid (show ∀ w', Below w11.heap.size w11 w' → Calls Tryz.prog 6 #[] w' fun e w'' => e = .returned (.bool true) ∧ Below w11.heap.size w11 w'' from fun w' hb => (fixed16_any (HT.out _ (X4.out.1.bel.trans (hb.mono X4.out.1.bel.size)))).mono fun _ _ h => ⟨h.1, hb.trans (h.2.mono hb.size)⟩)
 have P5 := Lib.hid (show ∀ w', Below w11.heap.size w11 w' → Calls Tryz.prog 11 #[.agg (scrA s5), .agg (scrA sb)] w' fun e w'' => e = .returned (.bool true) ∧ Below w11.heap.size w11 w'' from fun w' hb => (refSameS_any (X4.out.2.2.2.1.below hb) (HI.out.2.below (X4.out.1.bel.trans (hb.mono X4.out.1.bel.size))) (by have := X4.out.2.2.2.2.2.1; omega) (by have := HNB.out; omega) (by have := X4.out.2.2.2.2.2.1; omega) (by have := HNB.out; omega)).mono fun _ _ h => ⟨h.1, hb.trans (h.2.mono hb.size)⟩)
 have P6 := Lib.hid (show ∀ w', Below w11.heap.size w11 w' → Calls Tryz.prog 11 #[.agg (scrA s6), .agg (scrA sb)] w' fun e w'' => e = .returned (.bool true) ∧ Below w11.heap.size w11 w'' from fun w' hb => (refSameS_any (X4.out.2.2.2.2.1.below hb) (HI.out.2.below (X4.out.1.bel.trans (hb.mono X4.out.1.bel.size))) (by have := X4.out.2.2.2.2.2.2; omega) (by have := HNB.out; omega) (by have := X4.out.2.2.2.2.2.2; omega) (by have := HNB.out; omega)).mono fun _ _ h => ⟨h.1, hb.trans (h.2.mono hb.size)⟩)
 unfold scrA at P5 P6
 have hb0 : Below w11.heap.size w11 w11 := Below.refl _ _
 go_wp2_with fail
 refine (P0.out _ hb0).mono ?_
 rintro e w12 ⟨rfl, hb12⟩
 have HB12 := Lib.hid hb12
 clear hb12 hb0 P0
 obtain ⟨_, hcells⟩ := SX.out _ HB12.out
 go_split_ands
 go_wp2_with fail
 refine (P5.out _ HB12.out).mono ?_
 rintro e w13 ⟨rfl, hb13⟩
 have HB13 := Lib.hid hb13
 clear hb13 P5
 obtain ⟨_, hcells⟩ := SX.out _ HB13.out
 go_split_ands
 go_wp2_with fail
 refine (P6.out _ HB13.out).mono ?_
 rintro e w14 ⟨rfl, hb14⟩
 have HB14 := Lib.hid hb14
 clear hb14 P6
 go_wp2_with fail
 go_ret
 exact ⟨rfl, X4.out.1.bel.trans (HB14.out.mono X4.out.1.bel.size)⟩
set_option maxRecDepth 100000 in
theorem lifted (os : Os) (started : os.Started) (H : Type) (enc : TypeId × Value → H) :
  ReturnsInHanded {} Tryz.checked os 4 .any (fun w args => (Rows.rowsThereSpec.pre enc Tryz.prog Tryz.f4 [] false w args ∧ laidMetH Tryz.prog laidL3 w) ∧ sizedMet enc Tryz.prog Tryz.f4 (OpenSpec.ofChange Rows.rowsThereSpec) false w args)
   (Rows.rowsThereSpec.post enc Tryz.prog Tryz.f4 false true false false) := by
 refine returnsInHanded_of_change_and (C := Tryz.checked) (X := fun w _ => laidMetH Tryz.prog laidL3 w) (fun _ _ _ hh h => h.of_heap hh) own started (by kernel_rfl) Tryz.func4
  (ChangeSpec.witness_shaped (enc := enc) (C := Tryz.checked) (os := os) (X := fun w _ => laidMetH Tryz.prog laidL3 w) false (World.laidAll Tryz.prog os laidL3) #[.agg (scrA scN), .agg (scrA scN)] 8 (World.laidAll_os _ _ _) (start_shaped3 os) (by kernel_rfl) (by kernel_rfl) (by kernel_rfl) (start_met3 os _)) ?_
 intro W base args ds gs before hval0 hW _ hsz0 hL _
 have hsz : (DataW.weightsEach Tryz.prog (Tryz.f4.params.toList ++ Rows.rowsThereSpec.plain.varTypes Tryz.prog) (ds ++ gs)).all (· ≤ reachBytes) = true := hsz0
 clear hsz0
 have hval : ∀ (j : Nat) t v, Tryz.f4.params[j]? = some t → args[j]? = some v → Value.okWide Tryz.prog W .any base t v := hval0
 have hW' := hW
 obtain ⟨p, q, hA0, hV, rfl, _, _⟩ := hW
 have hA : DataW.TrodAll enc Tryz.prog W 0 (fun _ => true) true Tryz.f4.params.toList args.toList ds p := hA0
 rw [Tryz.params4] at hA hval hsz
 obtain ⟨v0, vs0, d0, ds0, p0, q0, hargs, rfl, rfl, h0, r0⟩ := trodAll_cons hA
 obtain ⟨v1, vs1, d1, ds1, p1, q1, rfl, rfl, rfl, h1, r1⟩ := trodAll_cons r0
 obtain ⟨rfl, rfl, rfl⟩ := trodAll_nil r1
 obtain rfl : args = #[v0, v1] := by cases args; simp_all
 obtain ⟨rfl, rfl⟩ := trodVars_none hV
 have lt0 : ∀ x ∈ p0, x.block < W.heap.size := by obtain ⟨m, hm⟩ := h0; exact DataW.trod_lt m _ _ _ hm
 obtain ⟨s0, S0, rfl, s0⟩ := open_screenR (weights_at hsz (j := 0) rfl rfl) (hval 0 25 v0 rfl rfl) h0
 have lt1 : ∀ x ∈ p1, x.block < W.heap.size := by obtain ⟨m, hm⟩ := h1; exact DataW.trod_lt m _ _ _ hm
 obtain ⟨s1, S1, rfl, s1⟩ := open_screenR (weights_at hsz (j := 1) rfl rfl) (hval 1 25 v1 rfl rfl) h1
 clear hA0 hval0
 refine (walk W (tabs_of_laid3 hL) s0 s1).mono fun e W' ⟨he, bel⟩ => ?_
 subst he
 exact ⟨_, rfl, _, _, _, [], _, [], hW', trodAll_mk1 (shut_bool Tryz.underlying4 _), (trodAll_cons_mk (Below.trod laidOut (by kernel_rfl) (of_decide_eq_true (by kernel_rfl)) h0 bel lt0) (trodAll_cons_mk (Below.trod laidOut (by kernel_rfl) (of_decide_eq_true (by kernel_rfl)) h1 bel lt1) trodAll_mk0)), rfl, bel.frame _, fun h => by cases h⟩
theorem over : Rows.rowsThereRow.holds Tryz.pinned (OpenSpec.ofChange Rows.rowsThereSpec) :=
 OpenClaim.holds_of_wide 4 Tryz.f4 rfl rfl rfl rfl rfl rfl rfl ⟨rfl, rfl, rfl, rfl, rfl⟩ rfl rfl rfl rfl rfl (by kernel_rfl) Tryz.func4 (by kernel_rfl)
  (of_decide_eq_true (by kernel_rfl)) (by unfold Func.isWrapper; first | (rw [if_pos (by decide +kernel)]; kernel_rfl) | (rw [if_neg (by decide +kernel)]; exact ⟨rfl, rfl⟩))
  (fun os started H enc _ => lifted os started H enc)
theorem proved : Rows.RowsThereCardSaid :=
 Claim7.holds_tied_plain_at .later [] [.data, .data, .pinned] true Rows.rowsThereCard.stood.harness false
  over (fun _ h => by cases h) (by kernel_rfl) (fun _ h => by cases h) rowsThere_row_tie rfl ⟨rfl, rfl⟩ (by kernel_rfl) rfl
  (fun f fn hf hfn => by
   obtain rfl : f = 4 := Option.some.inj ((show Tryz.prog.funcNamed "spyglass/spyglasslaw16.RowsThere" = some 4 by kernel_rfl).symm.trans hf) |>.symm
   obtain rfl : fn = Tryz.f4 := (Option.some.inj (Tryz.func4.symm.trans hfn)).symm
   exact ⟨by kernel_rfl, fun j t ht => by
    rw [Tryz.params4] at ht
    have hm : t ∈ [25, 25] := by simpa using Array.mem_of_getElem? ht
    have hall : ([25, 25].all fun u => !Tryz.prog.wantsStandIn u) = true := by kernel_rfl
    exact (show Tryz.prog.wantsStandIn t = false by simpa using List.all_eq_true.1 hall t hm)⟩)
  (by kernel_rfl)
end Go.Proofs.YtikhknnhmnopbaaGreatDoor.rowsThere
