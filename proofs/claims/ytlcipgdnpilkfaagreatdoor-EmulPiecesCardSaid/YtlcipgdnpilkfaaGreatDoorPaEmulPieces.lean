/-
  Proved: EmulPieces answers true for every size, all bytes and all cuts, over the tables that the library and the program lay (a tied card).
-/
import Derived.Test.YtlcipgdnpilkfaaGreatDoorCards
import Derived.Test.YtlcipgdnpilkfaaGreatDoorTie
import Derived.SevenTiedAt
import Derived.WalkKit
import Derived.Test.YtlcipgdnpilkfaaGreatDoorPa01
import Derived.Test.YtlcipgdnpilkfaaGreatDoorPa53
namespace Go.Proofs.YtlcipgdnpilkfaaGreatDoor.emulPieces
open Go.ChangeShapes Go.WideShapes Go.ChangeAt Go.RowKit
set_option maxHeartbeats 6400000 in
set_option maxRecDepth 100000 in
theorem walk {cols rows : Int} {A A' : Option Addr} {n n' c c' : Nat} {zs ys : List Int} (w : World) (hT : Tabs w) (hc0 : (Lit.int .u8 cols).wf = true) (hr0 : (Lit.int .u8 rows).wf = true) (hs0 : Sb w A n zs) (hu0 : U8s zs) (hm0 : n ≤ 140737488351232) (hcc : n ≤ c ∧ c ≤ maxLen) (hs1 : Sb w A' n' ys) (hu1 : U8s ys) (hm1 : n' ≤ 140737488351232) :
  Calls Tryz.prog 7 #[.int .u8 cols, .int .u8 rows, .slice A n c, .slice A' n' c'] w fun e w' => e = .returned (.bool true) ∧ Below w.heap.size w w' := by
 have HU := Lib.hid (show (0 ≤ cols ∧ cols ≤ 255) ∧ (0 ≤ rows ∧ rows ≤ 255) from ⟨bounds_u8 hc0, bounds_u8 hr0⟩)
 have H := Lib.hid (And.intro hs0 (And.intro hs1 (And.intro hu0 hu1)))
 have HT := Lib.hid hT
 clear hs0 hs1 hu0 hu1 hT hc0 hr0
 go_enter Tryz.func7, Tryz.ntmps7
 go_wp2_with fail
 refine (begin12_any (w0 := w) HT.out (Below.refl _ _) HU.out.1 HU.out.2).mono ?_
 rintro e wa1 ⟨hb, g1, x1, y1, rfl, hB⟩
 obtain ⟨es1, hes⟩ : ∃ es, es = (rtV y1).toArray := ⟨_, rfl⟩
 have HE1 := Lib.hid (show es1.size = 116 ∧ es1.all (·.oneCell') = true from by
  have hys : y1.t.tabs.length = 80 := by rw [hB.rt.t]; rfl
  rw [hes]
  exact ⟨by rw [List.size_toArray]; exact rtV_len hys, rt_one _⟩)
 rw [← hes]
 obtain ⟨b1, hbb⟩ : ∃ b, b = wa1.heap.size := ⟨_, rfl⟩
 obtain ⟨wb1, hw⟩ : ∃ w', w' = wa1.alloc (.cells (rtV rt0).toArray 42) := ⟨_, rfl⟩
 have HC1 := Lib.hid (show Below wa1.heap.size wa1 wb1 ∧ RtB wb1 b1 rt0 ∧ b1 = wa1.heap.size from ⟨by rw [hw]; exact (Below.refl _ _).alloc (Nat.le_refl _) _, by rw [hw, hbb]; exact heap_alloc_new wa1 _, hbb⟩)
 have HA1 := Lib.hid (And.intro hb hB)
 clear hb hB hes
 go_upto_region 2 with (first | (refine wpList_store_row rfl 42 (.tmp 10) (.tmp 23) rfl b1 es1 (by rw [hbb]; rfl) rfl 42 (rtV rt0).toArray (by rw [zeroRT, ← hw]; exact HC1.out.2.1) (by rw [HE1.out.1]; exact infoRT1) (by rw [HE1.out.1]; rfl) HE1.out.2 ?_))
 rw [zeroRT, ← hw, ← hbb]
 clear hw hbb
 obtain ⟨wc1, hw⟩ : ∃ w', w' = wb1.setRow b1 es1 := ⟨_, rfl⟩
 have HD1 := Lib.hid (show Below wa1.heap.size wa1 wc1 from by
  rw [hw]
  exact below_setRow HC1.out.1 (Nat.le_of_eq HC1.out.2.2.symm) _)
 rw [← hw]
 clear hw
 have X1 := Lib.hid (show Lw w wc1 g1 x1 (tmNew (colsN cols) (rowsN rows)) ∧ Below w.heap.size w wc1 from ⟨HA1.out.2.lw.below HD1.out, HA1.out.1.trans (HD1.out.mono HA1.out.1.size)⟩)
 clear HA1 HC1 HD1 HE1
 go_wp2_with fail
 refine (begin12_any (w0 := w) HT.out X1.out.2 HU.out.1 HU.out.2).mono ?_
 rintro e wa2 ⟨hb, g2, x2, y2, rfl, hB⟩
 obtain ⟨es2, hes⟩ : ∃ es, es = (rtV y2).toArray := ⟨_, rfl⟩
 have HE2 := Lib.hid (show es2.size = 116 ∧ es2.all (·.oneCell') = true from by
  have hys : y2.t.tabs.length = 80 := by rw [hB.rt.t]; rfl
  rw [hes]
  exact ⟨by rw [List.size_toArray]; exact rtV_len hys, rt_one _⟩)
 rw [← hes]
 obtain ⟨b2, hbb⟩ : ∃ b, b = wa2.heap.size := ⟨_, rfl⟩
 obtain ⟨wb2, hw⟩ : ∃ w', w' = wa2.alloc (.cells (rtV rt0).toArray 42) := ⟨_, rfl⟩
 have HC2 := Lib.hid (show Below wa2.heap.size wa2 wb2 ∧ RtB wb2 b2 rt0 ∧ b2 = wa2.heap.size from ⟨by rw [hw]; exact (Below.refl _ _).alloc (Nat.le_refl _) _, by rw [hw, hbb]; exact heap_alloc_new wa2 _, hbb⟩)
 have HA2 := Lib.hid (And.intro hb hB)
 clear hb hB hes
 go_upto_region 3 with (first | (refine wpList_store_row rfl 42 (.tmp 13) (.tmp 30) rfl b2 es2 (by rw [hbb]; rfl) rfl 42 (rtV rt0).toArray (by rw [zeroRT, ← hw]; exact HC2.out.2.1) (by rw [HE2.out.1]; exact infoRT1) (by rw [HE2.out.1]; rfl) HE2.out.2 ?_))
 rw [zeroRT, ← hw, ← hbb]
 clear hw hbb
 obtain ⟨wc2, hw⟩ : ∃ w', w' = wb2.setRow b2 es2 := ⟨_, rfl⟩
 have HD2 := Lib.hid (show Below wa2.heap.size wa2 wc2 from by
  rw [hw]
  exact below_setRow HC2.out.1 (Nat.le_of_eq HC2.out.2.2.symm) _)
 rw [← hw]
 clear hw
 have X2 := Lib.hid (show Duo w wc2 g1 x1 (tmNew (colsN cols) (rowsN rows)) g2 x2 (tmNew (colsN cols) (rowsN rows)) from by
  have h1 : Below wc1.heap.size wc1 wc2 := HA2.out.1.trans (HD2.out.mono HA2.out.1.size)
  exact Duo.mk' X1.out.1 h1 (HA2.out.2.lw.below HD2.out) HA2.out.2.new)
 clear HA2 HC2 HD2 HE2 X1
 obtain ⟨T0, hT0⟩ : ∃ T0, tmNew (colsN cols) (rowsN rows) = T0 := ⟨_, rfl⟩
 rw [hT0] at X2
 by_cases hn : n ≤ 500
 case neg =>
  go_wp2_with fail
  go_ret
  exact ⟨rfl, X2.out.a.bel⟩
 have HZ := Lib.hid (fun (w' : World) (hb : Below w.heap.size w w') => And.intro (H.out.1.below hb) (fun ad (e : A = some ad) (hn : 0 < n) => (show ad.block < w.heap.size from by subst e; exact H.out.1.lt hn)))
 go_wp2_with fail
 refine (feed_lw HT.out X2.out.a (HZ.out _ X2.out.a.bel).1 H.out.2.2.1 (by omega) (fun ad e hp hq => by have h1 := (HZ.out _ X2.out.a.bel).2 ad e hp; have h2 := X2.out.a.cz.lo _ hq; omega)).mono ?_
 rintro e w3 ⟨rfl, z1, hL, hk⟩
 have X3 := Lib.hid (X2.out.stepA hk hL)
 clear hL hk X2
 go_wp2_with fail
 go_loopw [2, 52] (fun v i wr => ∃ (k p m d : Nat) (B : Option Addr) (x' : CT), k ≤ n' ∧ i = .int .i64 k ∧ v = .slice B m d ∧ p + m = n ∧ m ≤ d ∧ d ≤ maxLen ∧ Sb w B m (zs.drop p) ∧ Duo w wr g1 z1 (T0.feed zs) g2 x' (T0.feed (zs.take p))) (fun _ i _ => n' - (intOf i).toNat)
 case atStart => exact ⟨0, 0, n, c, A, x2, Nat.zero_le _, rfl, rfl, by omega, hcc.1, hcc.2, H.out.1, by rw [List.take_zero]; exact X3.out⟩
 case round =>
  obtain ⟨k, p, m, d, B, x', hk, rfl, rfl, hpm, hmd, hdm, hB, hD⟩ := hrel
  have X := Lib.hid (And.intro hB hD)
  clear hB hD X3 HZ
  by_cases hlt : k < n'
  · have hs := H.out.2.1.below X.out.2.a.bel
    obtain ⟨ad, hA⟩ : ∃ ad, A' = some ad := by obtain ⟨ad, e, _⟩ := hs.at_ (by omega); exact ⟨ad, e⟩
    subst hA
    have hcell := hs.cell hlt
    have hkl : k < ys.length := by rw [hs.len]; exact hlt
    obtain ⟨z, hz⟩ : ∃ z, z = ys.getD k 0 := ⟨_, rfl⟩
    rw [← hz] at hcell
    have hzr : 0 ≤ z ∧ z ≤ 255 := by rw [hz, getD_lt hkl]; exact H.out.2.2.2 _ (List.getElem_mem hkl)
    obtain ⟨K, hK⟩ : ∃ K : Nat, z.tmod 16 = (K : Int) := ⟨(z % 16).toNat, by rw [Int.tmod_eq_emod_of_nonneg hzr.1]; omega⟩
    have hK16 : K < 16 := by have := Int.tmod_lt_of_pos z (show (0 : Int) < 16 by omega); omega
    obtain ⟨J, hJ⟩ : ∃ J : Nat, min (K : Int) (m : Int) = (J : Int) := ⟨min K m, by omega⟩
    have hJm : J ≤ m := by omega
    clear hz hs hkl
    go_wp2_with fail
    clear hK16
    have HO := Lib.hid (show ∀ wx, Below w.heap.size w wx → Sb wx B J ((zs.drop p).take J) from fun wx hb => (X.out.1.below hb).front hJm)
    have hu : U8s ((zs.drop p).take J) := fun y hy => H.out.2.2.1 y (List.mem_of_mem_drop (List.mem_of_mem_take hy))
    refine (feed_lw HT.out X.out.2.b (HO.out _ X.out.2.a.bel) hu (by omega) (fun ad e hp hq => by subst e; have h1 := X.out.1.lt (by omega); have h2 := X.out.2.b.cz.lo _ hq; omega)).mono ?_
    rintro e w4 ⟨rfl, x2', hL, hk2⟩
    have hf : (T0.feed (zs.take p)).feed ((zs.drop p).take J) = T0.feed (zs.take (p + J)) := by rw [← Tm.feed_append, ← List.take_add]
    rw [hf] at hL hk2
    have Y := Lib.hid (X.out.2.stepB hk2 hL)
    have hB2 := Lib.hid (X.out.1.cut (c := d) hJm hmd)
    clear hL hk2 hf hu HO X
    go_wp2_with fail
    go_roundw
    case rel => exact ⟨k + 1, p + J, m - J, d - J, _, x2', by omega, by go_num, rfl, by omega, by omega, by omega, by rw [← List.drop_drop]; exact hB2.out, Y.out⟩
    case measure => simp [intOf]; omega
  · obtain rfl : k = n' := by omega
    go_wp2_with fail
    have HO := Lib.hid (show ∀ wx, Below w.heap.size w wx → Sb wx B m (zs.drop p) from fun wx hb => (X.out.1.below hb))
    have hu : U8s (zs.drop p) := fun y hy => H.out.2.2.1 y (List.mem_of_mem_drop hy)
    refine (feed_lw HT.out X.out.2.b (HO.out _ X.out.2.a.bel) hu (by omega) (fun ad e hp hq => by subst e; have h1 := X.out.1.lt (by omega); have h2 := X.out.2.b.cz.lo _ hq; omega)).mono ?_
    rintro e w4 ⟨rfl, x2', hL, hk2⟩
    have hf : (T0.feed (zs.take p)).feed (zs.drop p) = T0.feed zs := by rw [← Tm.feed_append, List.take_append_drop]
    rw [hf] at hL hk2
    have Y := Lib.hid (X.out.2.stepB hk2 hL)
    clear hL hk2 hf hu HO X
    go_wp2_with fail
    refine (screen_lw Y.out.a).mono ?_
    rintro e w5 ⟨hb5, s1, rfl, hs1⟩
    have Y5 := Lib.hid (And.intro (Y.out.below hb5) hs1)
    clear hb5 hs1 Y
    go_wp2_with fail
    refine (screen_lw Y5.out.1.b).mono ?_
    rintro e w6 ⟨hb6, s2, rfl, hs2⟩
    have Y6 := Lib.hid (And.intro (Y5.out.1.below hb6) (And.intro (Y5.out.2.below hb6) hs2))
    clear hb6 hs2 Y5
    go_wp2_with fail
    refine (refSameS_any Y6.out.2.1.sc Y6.out.2.2.sc (by have := Y6.out.2.1.n; omega) (by have := Y6.out.2.2.n; omega) (by have := Y6.out.2.1.m; omega) (by have := Y6.out.2.2.m; omega)).mono ?_
    rintro e w7 ⟨rfl, hb7⟩
    have Z := Lib.hid (Y6.out.1.a.bel.trans (hb7.mono Y6.out.1.a.bel.size))
    clear hb7 Y6
    go_wp2_with fail
    go_ret
    exact ⟨rfl, Z.out⟩
set_option maxRecDepth 100000 in
theorem lifted (os : Os) (started : os.Started) (H : Type) (enc : TypeId × Value → H) :
  ReturnsInHanded {} Tryz.checked os 7 .any (fun w args => (Rows.emulPiecesSpec.pre enc Tryz.prog Tryz.f7 [] false w args ∧ laidMetH Tryz.prog laidL w) ∧ sizedMet enc Tryz.prog Tryz.f7 (OpenSpec.ofChange Rows.emulPiecesSpec) false w args)
   (Rows.emulPiecesSpec.post enc Tryz.prog Tryz.f7 false true false false) := by
 refine returnsInHanded_of_change_and (C := Tryz.checked) (X := fun w _ => laidMetH Tryz.prog laidL w) (fun _ _ _ hh h => h.of_heap hh) own started (by kernel_rfl) Tryz.func7
  (ChangeSpec.witness_shaped (enc := enc) (C := Tryz.checked) (os := os) (X := fun w _ => laidMetH Tryz.prog laidL w) false (World.laidAll Tryz.prog os laidL) #[.int .u8 0, .int .u8 0, .slice none 0 0, .slice none 0 0] 8 (World.laidAll_os _ _ _) (start_shaped os) (by kernel_rfl) (by kernel_rfl) (by kernel_rfl) (start_met os _)) ?_
 intro W base args ds gs before hval0 hW _ hsz0 hL _
 have hsz : (DataW.weightsEach Tryz.prog (Tryz.f7.params.toList ++ Rows.emulPiecesSpec.plain.varTypes Tryz.prog) (ds ++ gs)).all (· ≤ reachBytes) = true := hsz0
 clear hsz0
 have hval : ∀ (j : Nat) t v, Tryz.f7.params[j]? = some t → args[j]? = some v → Value.okWide Tryz.prog W .any base t v := hval0
 have hW' := hW
 obtain ⟨p, q, hA0, hV, rfl, _, _⟩ := hW
 have hA : DataW.TrodAll enc Tryz.prog W 0 (fun _ => true) true Tryz.f7.params.toList args.toList ds p := hA0
 rw [Tryz.params7] at hA hval hsz
 obtain ⟨v0, vs0, d0, ds0, p0, q0, hargs, rfl, rfl, h0, r0⟩ := trodAll_cons hA
 obtain ⟨v1, vs1, d1, ds1, p1, q1, rfl, rfl, rfl, h1, r1⟩ := trodAll_cons r0
 obtain ⟨v2, vs2, d2, ds2, p2, q2, rfl, rfl, rfl, h2, r2⟩ := trodAll_cons r1
 obtain ⟨v3, vs3, d3, ds3, p3, q3, rfl, rfl, rfl, h3, r3⟩ := trodAll_cons r2
 obtain ⟨rfl, rfl, rfl⟩ := trodAll_nil r3
 obtain rfl : args = #[v0, v1, v2, v3] := by cases args; simp_all
 obtain ⟨rfl, rfl⟩ := trodVars_none hV
 obtain ⟨a0, rfl, rfl, rfl, w0⟩ := open_int Tryz.underlying5 (hval 0 5 v0 rfl rfl) h0
 obtain ⟨a1, rfl, rfl, rfl, w1⟩ := open_int Tryz.underlying5 (hval 1 5 v1 rfl rfl) h1
 have lt2 : ∀ x ∈ p2, x.block < W.heap.size := by obtain ⟨m, hm⟩ := h2; exact DataW.trod_lt m _ _ _ hm
 obtain ⟨A2, n2, c2, z2, rfl, s2, u2, l2, g2⟩ := open_bytes_c (hval 2 36 v2 rfl rfl) h2
 have m2 := g2 _ _ 2 hsz rfl rfl
 have lt3 : ∀ x ∈ p3, x.block < W.heap.size := by obtain ⟨m, hm⟩ := h3; exact DataW.trod_lt m _ _ _ hm
 obtain ⟨A3, n3, c3, z3, rfl, s3, u3, g3⟩ := open_bytes (hval 3 36 v3 rfl rfl) h3
 have m3 := g3 _ _ 3 hsz rfl rfl
 clear hA0 hval0
 refine (walk W (tabs_of_laid hL) w0 w1 s2 u2 m2 l2 s3 u3 m3).mono fun e W' ⟨he, bel⟩ => ?_
 subst he
 exact ⟨_, rfl, _, _, _, [], _, [], hW', trodAll_mk1 (shut_bool Tryz.underlying4 _), (trodAll_cons_mk (shut_int Tryz.underlying5 w0) (trodAll_cons_mk (shut_int Tryz.underlying5 w1) (trodAll_cons_mk (Below.trod laidOut (by kernel_rfl) (of_decide_eq_true (by kernel_rfl)) h2 bel lt2) (trodAll_cons_mk (Below.trod laidOut (by kernel_rfl) (of_decide_eq_true (by kernel_rfl)) h3 bel lt3) trodAll_mk0)))), rfl, bel.frame _, fun h => by cases h⟩
theorem over : Rows.emulPiecesRow.holds Tryz.pinned (OpenSpec.ofChange Rows.emulPiecesSpec) :=
 OpenClaim.holds_of_wide 7 Tryz.f7 rfl rfl rfl rfl rfl rfl rfl ⟨rfl, rfl, rfl, rfl, rfl⟩ rfl rfl rfl rfl rfl (by kernel_rfl) Tryz.func7 (by kernel_rfl)
  (of_decide_eq_true (by kernel_rfl)) (by unfold Func.isWrapper; first | (rw [if_pos (by decide +kernel)]; kernel_rfl) | (rw [if_neg (by decide +kernel)]; exact ⟨rfl, rfl⟩))
  (fun os started H enc _ => lifted os started H enc)
theorem proved : Rows.EmulPiecesCardSaid :=
 Claim7.holds_tied_plain_at .later [] [.data, .data, .pinned] true Rows.emulPiecesCard.stood.harness false
  over (fun _ h => by cases h) (by kernel_rfl) (fun _ h => by cases h) emulPieces_row_tie rfl ⟨rfl, rfl⟩ (by kernel_rfl) rfl
  (fun f fn hf hfn => by
   obtain rfl : f = 7 := Option.some.inj ((show Tryz.prog.funcNamed "spyglass/spyglasslaw12.EmulPieces" = some 7 by kernel_rfl).symm.trans hf) |>.symm
   obtain rfl : fn = Tryz.f7 := (Option.some.inj (Tryz.func7.symm.trans hfn)).symm
   exact ⟨by kernel_rfl, fun j t ht => by
    rw [Tryz.params7] at ht
    have hm : t ∈ [5, 5, 36, 36] := by simpa using Array.mem_of_getElem? ht
    have hall : ([5, 5, 36, 36].all fun u => !Tryz.prog.wantsStandIn u) = true := by kernel_rfl
    exact (show Tryz.prog.wantsStandIn t = false by simpa using List.all_eq_true.1 hall t hm)⟩)
  (by kernel_rfl)
end Go.Proofs.YtlcipgdnpilkfaaGreatDoor.emulPieces
