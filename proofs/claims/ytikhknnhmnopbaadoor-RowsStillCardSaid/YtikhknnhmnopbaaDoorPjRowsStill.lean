/-
  Proved: RowsStill answers true for every screen and every other cursor, over the tables that the library and the program lay (a tied card).
-/
import Derived.Test.YtikhknnhmnopbaaDoorCards
import Derived.Test.YtikhknnhmnopbaaDoorTie
import Derived.SevenTiedAt
import Derived.WalkKit
import Derived.Deep.RegionHeld3
import Derived.Test.YtikhknnhmnopbaaDoorPj01
import Derived.Test.YtikhknnhmnopbaaDoorPj29
namespace Go.Proofs.YtikhknnhmnopbaaDoor.rowsStill
open Go.ChangeShapes Go.WideShapes Go.ChangeAt Go.RowKit
set_option maxHeartbeats 6400000 in
set_option maxRecDepth 100000 in
theorem walk {s : ScR} {S : Sc} {x y : Int} {hid : Bool} (w : World) (hT : Tabs w) (h : ScIn w s S ∧ (PosC S.cells ∧ StC S.cells ∧ 0 ≤ S.mouse)) (_ : (Lit.int .i64 x).wf = true) (_ : (Lit.int .i64 y).wf = true) (_ : True) :
  Calls Tryd.prog 5 #[.agg (scrA s), .int .i64 x, .int .i64 y, .bool hid] w fun e w' => e = .returned (.bool true) ∧ Below w.heap.size w w' := by
 have HT := Lib.hid (fun w' (hb' : Below w.heap.size w w') => hT.below hb' (Nat.le_refl _))
 have HI := Lib.hid h.1
 have HP := Lib.hid h.2
 obtain ⟨b, hb⟩ : ∃ b, b = w.heap.size := ⟨_, rfl⟩
 obtain ⟨w1, hw1⟩ : ∃ w1, w1 = w.alloc (.cells (scrA s) 25) := ⟨_, rfl⟩
 have H1 := Lib.hid (show Sx w1 b s ∧ Below w.heap.size w w1 from by
  rw [hw1, hb]
  exact ⟨Sx.new w s, (Below.refl _ _).alloc (Nat.le_refl _) _⟩)
 obtain ⟨G, hG⟩ : ∃ G, greatS s = G := ⟨_, rfl⟩
 have PG := Lib.hid (great16_any s w1)
 rw [hG] at PG
 have HG := Lib.hid hG
 clear h hT hG
 obtain ⟨a0, a1, a2, a3, a4, a5, a6, a7, a8, _⟩ := sx_cells H1.out.1
 unfold scrA at hw1 PG ⊢
 go_enter Tryd.func5, Tryd.ntmps5
 go_upto_region 1 with fail
 rw [← hw1, ← hb]
 clear hw1 hb
 go_wp2_with fail
 refine PG.out.mono ?_
 rintro e w2 ⟨rfl, hb2⟩
 have H2 := Lib.hid (show Sx w2 b s ∧ Below w.heap.size w w2 from ⟨H1.out.1.below hb2, H1.out.2.trans (hb2.mono H1.out.2.size)⟩)
 clear hb2 H1 PG a0 a1 a2 a3 a4 a5 a6 a7 a8
 cases G
 rotate_left
 · go_wp2_with fail
   refine (fixed16_any (HT.out _ H2.out.2)).mono ?_
   rintro e w9 ⟨rfl, hb9⟩
   have Z9 := Lib.hid (Below.trans H2.out.2 (hb9.mono (Below.size H2.out.2)))
   clear hb9
   go_wp2_with fail
   go_ret
   exact ⟨rfl, Z9.out⟩
 have HN := Lib.hid (great_no HG.out)
 clear HG
 obtain ⟨a0, a1, a2, a3, a4, a5, a6, a7, a8, _⟩ := sx_cells H2.out.1
 have PR := Lib.hid (rFits_any (HI.out.below H2.out.2) HP.out.2.2 (by have := HN.out; omega) (by have := HN.out; omega))
 unfold scrA at PR
 go_wp2_with fail
 refine PR.out.mono ?_
 rintro e w3 ⟨rfl, hb3⟩
 have H3 := Lib.hid (show Sx w3 b s ∧ Below w.heap.size w w3 from ⟨H2.out.1.below hb3, H2.out.2.trans (hb3.mono H2.out.2.size)⟩)
 clear hb3 H2 PR a0 a1 a2 a3 a4 a5 a6 a7 a8
 obtain ⟨a0, a1, a2, a3, a4, a5, a6, a7, a8, _⟩ := sx_cells H3.out.1
 have PX := Lib.hid (fixed16_any (HT.out _ H3.out.2))
 cases hR : fitsS S
 · go_wp2_with fail
   refine PX.out.mono ?_
   rintro e w9 ⟨rfl, hb9⟩
   have Z9 := Lib.hid (Below.trans H3.out.2 (hb9.mono (Below.size H3.out.2)))
   clear hb9
   go_wp2_with fail
   go_ret
   exact ⟨rfl, Z9.out⟩
 have HR := Lib.hid hR
 clear hR
 by_cases hx0 : x < 0
 · go_wp2_with fail
   refine PX.out.mono ?_
   rintro e w9 ⟨rfl, hb9⟩
   have Z9 := Lib.hid (Below.trans H3.out.2 (hb9.mono (Below.size H3.out.2)))
   clear hb9
   go_wp2_with fail
   go_ret
   exact ⟨rfl, Z9.out⟩
 by_cases hx1 : s.c ≤ x
 · go_wp2_with fail
   refine PX.out.mono ?_
   rintro e w9 ⟨rfl, hb9⟩
   have Z9 := Lib.hid (Below.trans H3.out.2 (hb9.mono (Below.size H3.out.2)))
   clear hb9
   go_wp2_with fail
   go_ret
   exact ⟨rfl, Z9.out⟩
 by_cases hy0 : y < 0
 · go_wp2_with fail
   refine PX.out.mono ?_
   rintro e w9 ⟨rfl, hb9⟩
   have Z9 := Lib.hid (Below.trans H3.out.2 (hb9.mono (Below.size H3.out.2)))
   clear hb9
   go_wp2_with fail
   go_ret
   exact ⟨rfl, Z9.out⟩
 by_cases hy1 : s.r ≤ y
 · go_wp2_with fail
   refine PX.out.mono ?_
   rintro e w9 ⟨rfl, hb9⟩
   have Z9 := Lib.hid (Below.trans H3.out.2 (hb9.mono (Below.size H3.out.2)))
   clear hb9
   go_wp2_with fail
   go_ret
   exact ⟨rfl, Z9.out⟩
 have HXY := Lib.hid (show (0 ≤ x ∧ x < S.c) ∧ (0 ≤ y ∧ y < S.r) from by rw [HI.out.c, HI.out.r]; omega)
 clear PX
 have PC := Lib.hid (refCopyS_any (HI.out.below H3.out.2) (by have := HN.out; omega) (by have := HN.out; omega))
 unfold scrA at PC
 go_wp2_with fail
 refine PC.out.mono ?_
 rintro e w4 ⟨hb4, s3, rfl, hS3, hn3, hm3⟩
 have H4 := Lib.hid (show Sx w4 b s ∧ Below w.heap.size w w4 ∧ ScIn w4 s3 S ∧ s3.n = s.n ∧ s3.m = s.m from ⟨H3.out.1.below hb4, H3.out.2.trans (hb4.mono H3.out.2.size), hS3, hn3, hm3⟩)
 clear hb4 hS3 hn3 hm3 H3 PC a0 a1 a2 a3 a4 a5 a6 a7 a8 hx0 hx1 hy0 hy1
 obtain ⟨q, hq⟩ : ∃ q : ScR, q = { s3 with x := x, y := y, hid := hid } := ⟨_, rfl⟩
 obtain ⟨b5, hb5⟩ : ∃ b5, b5 = w4.heap.size := ⟨_, rfl⟩
 obtain ⟨w5, hw5⟩ : ∃ w5, w5 = w4.alloc (.cells (scrA q) 25) := ⟨_, rfl⟩
 have H5 := Lib.hid (show Sx w5 b s ∧ Sx w5 b5 q ∧ Below w.heap.size w w5 ∧ ScIn w5 q { S with x := x, y := y, hid := hid } ∧ q.n = s.n ∧ q.m = s.m from by
  have hbb : Below w4.heap.size w4 w5 := by rw [hw5]; exact (Below.refl _ _).alloc (Nat.le_refl _) _
  refine ⟨H4.out.1.below hbb, by rw [hw5, hb5]; exact Sx.new w4 q, H4.out.2.1.trans (hbb.mono H4.out.2.1.size), ?_, by rw [hq]; exact H4.out.2.2.2.1, by rw [hq]; exact H4.out.2.2.2.2⟩
  have h1 := H4.out.2.2.1.below hbb
  rw [hq]
  exact { h1 with x := rfl, y := rfl, hid := rfl })
 rw [hq] at hw5
 unfold scrA at hw5
 dsimp only at hw5
 clear hq
 go_upto_region 5 with fail
 rw [← hw5, ← hb5]
 clear hw5 hb5 H4
 have PE := Lib.hid (cEncode_any (HT.out _ H5.out.2.2.1) (Got.mk (HI.out.below H5.out.2.2.1) HP.out.1 HP.out.2.2 (by have := HN.out; omega) (by have := HN.out; omega)) (Got.mk H5.out.2.2.2.1 HP.out.1 HP.out.2.2 (by have := HN.out; have := H5.out.2.2.2.2.1; omega) (by have := HN.out; have := H5.out.2.2.2.2.2; omega)) HP.out.2.1)
 have HE := Lib.hid (still_there HR.out (hid := hid) HXY.out.1 HXY.out.2)
 obtain ⟨a0, a1, a2, a3, a4, a5, a6, a7, a8, _⟩ := sx_cells H5.out.1
 obtain ⟨d0, d1, d2, d3, d4, d5, d6, d7, d8, _⟩ := sx_cells H5.out.2.1
 unfold scrA at PE
 go_wp2_with fail
 refine PE.out.mono ?_
 rintro e w6 ⟨hb6, A6, c6, rfl, hy6⟩
 rw [HE.out.2.1, HE.out.2.2] at *
 rw [show [S.c, S.r, x, y, (if hid = true then (1 : Int) else 0), 0].length = 6 from rfl] at *
 have hsb := hy6.sb
 obtain ⟨ad, hA⟩ : ∃ ad, A6 = some ad := by obtain ⟨ad, e, _⟩ := hsb.at_ (by omega); exact ⟨ad, e⟩
 subst hA
 have H6 := Lib.hid (show Below w.heap.size w w6 ∧ Sb w6 (some ad) 6 [S.c, S.r, x, y, (if hid = true then (1 : Int) else 0), 0] from ⟨H5.out.2.2.1.trans (hb6.mono H5.out.2.2.1.size), hsb⟩)
 clear a0 a1 a2 a3 a4 a5 a6 a7 a8 d0 d1 d2 d3 d4 d5 d6 d7 d8 PE hb6 hy6 hsb H5
 go_upto_region 6 with fail
 go_wp2_with fail
 refine (fixed16_any (HT.out _ H6.out.1)).mono ?_
 rintro e w7 ⟨rfl, hb7⟩
 have H7 := Lib.hid (show Below w.heap.size w w7 ∧ w7.cell? (ad.add 5) = some (.int .u8 0) from ⟨H6.out.1.trans (hb7.mono H6.out.1.size), (H6.out.2.below hb7).cell (k := 5) (by omega)⟩)
 clear hb7 H6
 have hc := H7.out.2
 simp only [Addr.add, Nat.reduceEqDiff, if_false] at hc
 go_wp2_with fail
 trace_state
 go_ret
 exact ⟨rfl, H7.out.1⟩
set_option maxRecDepth 100000 in
theorem lifted (os : Os) (started : os.Started) (H : Type) (enc : TypeId × Value → H) :
  ReturnsInHanded {} Tryd.checked os 5 .any (fun w args => (Rows.rowsStillSpec.pre enc Tryd.prog Tryd.f5 [] false w args ∧ laidMetH Tryd.prog laidL3 w) ∧ sizedMet enc Tryd.prog Tryd.f5 (OpenSpec.ofChange Rows.rowsStillSpec) false w args)
   (Rows.rowsStillSpec.post enc Tryd.prog Tryd.f5 false true false false) := by
 refine returnsInHanded_of_change_and (C := Tryd.checked) (X := fun w _ => laidMetH Tryd.prog laidL3 w) (fun _ _ _ hh h => h.of_heap hh) own started (by kernel_rfl) Tryd.func5
  (ChangeSpec.witness_shaped (enc := enc) (C := Tryd.checked) (os := os) (X := fun w _ => laidMetH Tryd.prog laidL3 w) false (World.laidAll Tryd.prog os laidL3) #[.agg (scrA scN), .int .i64 0, .int .i64 0, .bool false] 8 (World.laidAll_os _ _ _) (start_shaped3 os) (by kernel_rfl) (by kernel_rfl) (by kernel_rfl) (start_met3 os _)) ?_
 intro W base args ds gs before hval0 hW _ hsz0 hL _
 have hsz : (DataW.weightsEach Tryd.prog (Tryd.f5.params.toList ++ Rows.rowsStillSpec.plain.varTypes Tryd.prog) (ds ++ gs)).all (· ≤ reachBytes) = true := hsz0
 clear hsz0
 have hval : ∀ (j : Nat) t v, Tryd.f5.params[j]? = some t → args[j]? = some v → Value.okWide Tryd.prog W .any base t v := hval0
 have hW' := hW
 obtain ⟨p, q, hA0, hV, rfl, _, _⟩ := hW
 have hA : DataW.TrodAll enc Tryd.prog W 0 (fun _ => true) true Tryd.f5.params.toList args.toList ds p := hA0
 rw [Tryd.params5] at hA hval hsz
 obtain ⟨v0, vs0, d0, ds0, p0, q0, hargs, rfl, rfl, h0, r0⟩ := trodAll_cons hA
 obtain ⟨v1, vs1, d1, ds1, p1, q1, rfl, rfl, rfl, h1, r1⟩ := trodAll_cons r0
 obtain ⟨v2, vs2, d2, ds2, p2, q2, rfl, rfl, rfl, h2, r2⟩ := trodAll_cons r1
 obtain ⟨v3, vs3, d3, ds3, p3, q3, rfl, rfl, rfl, h3, r3⟩ := trodAll_cons r2
 obtain ⟨rfl, rfl, rfl⟩ := trodAll_nil r3
 obtain rfl : args = #[v0, v1, v2, v3] := by cases args; simp_all
 obtain ⟨rfl, rfl⟩ := trodVars_none hV
 have lt0 : ∀ x ∈ p0, x.block < W.heap.size := by obtain ⟨m, hm⟩ := h0; exact DataW.trod_lt m _ _ _ hm
 obtain ⟨s0, S0, rfl, s0⟩ := open_screenR (weights_at hsz (j := 0) rfl rfl) (hval 0 25 v0 rfl rfl) h0
 obtain ⟨a1, rfl, rfl, rfl, w1⟩ := open_int Tryd.underlying3 (hval 1 3 v1 rfl rfl) h1
 obtain ⟨a2, rfl, rfl, rfl, w2⟩ := open_int Tryd.underlying3 (hval 2 3 v2 rfl rfl) h2
 have lt3 : ∀ x ∈ p3, x.block < W.heap.size := by obtain ⟨m, hm⟩ := h3; exact DataW.trod_lt m _ _ _ hm
 obtain ⟨k3, rfl, s3⟩ := open_boolh (hval 3 4 v3 rfl rfl) h3
 clear hA0 hval0
 refine (walk W (tabs_of_laid3 hL) s0 w1 w2 s3).mono fun e W' ⟨he, bel⟩ => ?_
 subst he
 exact ⟨_, rfl, _, _, _, [], _, [], hW', trodAll_mk1 (shut_bool Tryd.underlying4 _), (trodAll_cons_mk (Below.trod laidOut (by kernel_rfl) (of_decide_eq_true (by kernel_rfl)) h0 bel lt0) (trodAll_cons_mk (shut_int Tryd.underlying3 w1) (trodAll_cons_mk (shut_int Tryd.underlying3 w2) (trodAll_cons_mk (Below.trod laidOut (by kernel_rfl) (of_decide_eq_true (by kernel_rfl)) h3 bel lt3) trodAll_mk0)))), rfl, bel.frame _, fun h => by cases h⟩
theorem over : Rows.rowsStillRow.holds Tryd.pinned (OpenSpec.ofChange Rows.rowsStillSpec) :=
 OpenClaim.holds_of_wide 5 Tryd.f5 rfl rfl rfl rfl rfl rfl rfl ⟨rfl, rfl, rfl, rfl, rfl⟩ rfl rfl rfl rfl rfl (by kernel_rfl) Tryd.func5 (by kernel_rfl)
  (of_decide_eq_true (by kernel_rfl)) (by unfold Func.isWrapper; first | (rw [if_pos (by decide +kernel)]; kernel_rfl) | (rw [if_neg (by decide +kernel)]; exact ⟨rfl, rfl⟩))
  (fun os started H enc _ => lifted os started H enc)
theorem proved : Rows.RowsStillCardSaid :=
 Claim7.holds_tied_plain_at .later [] [.data, .data, .pinned] true Rows.rowsStillCard.stood.harness false
  over (fun _ h => by cases h) (by kernel_rfl) (fun _ h => by cases h) rowsStill_row_tie rfl ⟨rfl, rfl⟩ (by kernel_rfl) rfl
  (fun f fn hf hfn => by
   obtain rfl : f = 5 := Option.some.inj ((show Tryd.prog.funcNamed "spyglass/spyglasslaw16.RowsStill" = some 5 by kernel_rfl).symm.trans hf) |>.symm
   obtain rfl : fn = Tryd.f5 := (Option.some.inj (Tryd.func5.symm.trans hfn)).symm
   exact ⟨by kernel_rfl, fun j t ht => by
    rw [Tryd.params5] at ht
    have hm : t ∈ [25, 3, 3, 4] := by simpa using Array.mem_of_getElem? ht
    have hall : ([25, 3, 3, 4].all fun u => !Tryd.prog.wantsStandIn u) = true := by kernel_rfl
    exact (show Tryd.prog.wantsStandIn t = false by simpa using List.all_eq_true.1 hall t hm)⟩)
  (by kernel_rfl)
end Go.Proofs.YtikhknnhmnopbaaDoor.rowsStill
