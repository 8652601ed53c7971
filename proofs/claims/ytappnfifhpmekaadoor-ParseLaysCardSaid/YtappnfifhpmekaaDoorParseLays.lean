/-
  Proved: ParseLays answers true for every act.
-/
import Derived.Test.YtappnfifhpmekaaDoorOpen
import Derived.Test.YtappnfifhpmekaaDoorCards
import Derived.Test.YtappnfifhpmekaaDoorTie
import Derived.SevenTiedAt
import Derived.Test.YtappnfifhpmekaaDoorParseFixed
import Derived.Test.YtappnfifhpmekaaDoorParseIn
import Derived.Test.YtappnfifhpmekaaDoorParseCopy
import Derived.Test.YtappnfifhpmekaaDoorParseRefLay
import Derived.Test.YtappnfifhpmekaaDoorRefSame
import Derived.WalkKit
namespace Go.Proofs.YtappnfifhpmekaaDoor.parseLays
open Go.ChangeShapes Go.WideShapes Go.ChangeAt Go.RowKit

set_option maxHeartbeats 2000000 in
/-- The walk. -/
theorem walk {x : AcR} (w : World) (hT : KnownL w) (h : AcOkIn w x) :
    Calls Tryd.prog 3 #[.agg (acA x)] w fun e w' => e = .returned (.bool true) ∧ Below w.heap.size w w' := by
  obtain ⟨a, P, np, cp, T, nt, ct⟩ := x
  obtain ⟨b, hb⟩ : ∃ b, b = w.heap.size := ⟨_, rfl⟩
  have HB := Lib.hid hb
  have H := Lib.hid h
  have HT := Lib.hid hT
  clear hT
  have H0 : Hid (Bx (w.alloc (.cells #[.int .i64 a.k, .int .i32 a.r, .int .u8 a.m, .int .u8 a.fin, .slice P np cp, .slice T nt ct] 25)) b ⟨a, P, np, cp, T, nt, ct⟩ ∧ Below w.heap.size w (w.alloc (.cells #[.int .i64 a.k, .int .i32 a.r, .int .u8 a.m, .int .u8 a.fin, .slice P np cp, .slice T nt ct] 25))) := Lib.hid (by
    have h1 := Bx.new w ⟨a, P, np, cp, T, nt, ct⟩
    rw [hb]
    exact ⟨h1, (Below.refl _ _).alloc (Nat.le_refl _) _⟩)
  clear h hb
  show Calls _ _ #[.agg #[.int .i64 a.k, .int .i32 a.r, .int .u8 a.m, .int .u8 a.fin, .slice P np cp, .slice T nt ct]] w _
  go_enter Tryd.func3, Tryd.ntmps3
  go_upto_region 1 with fail
  rw [← HB.out]
  generalize (w.alloc (.cells #[.int .i64 a.k, .int .i32 a.r, .int .u8 a.m, .int .u8 a.fin, .slice P np cp, .slice T nt ct] 25)) = w1 at H0 ⊢
  obtain ⟨_, p0, p1, p2, p3, p4, p5⟩ := bx_cells H0.out.1
  simp only at p0 p1 p2 p3 p4 p5
  by_cases hp : np ≤ 1000
  · by_cases ht : nt ≤ 16384
    · go_wp2_with fail
      refine (refCopyA_any (x := ⟨a, P, np, cp, T, nt, ct⟩) (H.out.rd.below H0.out.2) (by simp only; omega) (by simp only; omega)).mono ?_
      rintro e w2 ⟨y, rfl, hya, hyr, hb2⟩
      obtain ⟨a', P', np', cp', T', nt', ct'⟩ := y
      obtain rfl : a' = a := hya
      have hn1 : np' = np := by have h1 := hyr.p.len; have h2 := H.out.rd.p.len; simp only at h1 h2; omega
      have hn2 : nt' = nt := by have h1 := hyr.t.len; have h2 := H.out.rd.t.len; simp only at h1 h2; omega
      subst hn1 hn2
      have H2 : Hid (Bx w2 b ⟨a', P, np', cp, T, nt', ct⟩ ∧ Below w.heap.size w w2 ∧ RdA w2 ⟨a', P', np', cp', T', nt', ct'⟩) := Lib.hid ⟨H0.out.1.below hb2, H0.out.2.trans (hb2.mono H0.out.2.size), hyr⟩
      clear hb2 hyr p0 p1 p2 p3 p4 p5 H0
      dsimp only [acA]
      obtain ⟨g, hg⟩ : ∃ g, g = w2.heap.size := ⟨_, rfl⟩
      have HG := Lib.hid hg
      have H3 : Hid (Bx (w2.alloc (.cells #[.int .i64 a'.k, .int .i32 a'.r, .int .u8 a'.m, .int .u8 a'.fin, .slice P' np' cp', .slice T' nt' ct'] 25)) g ⟨a', P', np', cp', T', nt', ct'⟩ ∧ Bx (w2.alloc (.cells #[.int .i64 a'.k, .int .i32 a'.r, .int .u8 a'.m, .int .u8 a'.fin, .slice P' np' cp', .slice T' nt' ct'] 25)) b ⟨a', P, np', cp, T, nt', ct⟩ ∧ Below w.heap.size w (w2.alloc (.cells #[.int .i64 a'.k, .int .i32 a'.r, .int .u8 a'.m, .int .u8 a'.fin, .slice P' np' cp', .slice T' nt' ct'] 25)) ∧ RdA (w2.alloc (.cells #[.int .i64 a'.k, .int .i32 a'.r, .int .u8 a'.m, .int .u8 a'.fin, .slice P' np' cp', .slice T' nt' ct'] 25)) ⟨a', P', np', cp', T', nt', ct'⟩) := Lib.hid (by
        have h1 := Bx.new w2 ⟨a', P', np', cp', T', nt', ct'⟩
        have hl : Below w2.heap.size w2 (w2.alloc (.cells #[.int .i64 a'.k, .int .i32 a'.r, .int .u8 a'.m, .int .u8 a'.fin, .slice P' np' cp', .slice T' nt' ct'] 25)) := (Below.refl _ _).alloc (Nat.le_refl _) _
        rw [hg]
        exact ⟨h1, H2.out.1.below hl, H2.out.2.1.trans (hl.mono H2.out.2.1.size), H2.out.2.2.below hl⟩)
      clear hg
      go_upto_region 4 with fail
      rw [← HG.out]
      generalize (w2.alloc (.cells #[.int .i64 a'.k, .int .i32 a'.r, .int .u8 a'.m, .int .u8 a'.fin, .slice P' np' cp', .slice T' nt' ct'] 25)) = w3 at H3 ⊢
      clear H2 HG
      obtain ⟨_, p0, p1, p2, p3, p4, p5⟩ := bx_cells H3.out.1
      simp only at p0 p1 p2 p3 p4 p5
      obtain ⟨er, zs, hz, hL⟩ : ∃ (er : Int) (zs : List Int), zs.length ≤ 300 ∧ ∀ w e w', LyPost a' w e w' → ∃ A n c, e = .returned (.tuple #[.slice A n c, .int .i64 er]) ∧ Sb w' A n zs ∧ Below w.heap.size w w' :=
        ⟨_, _, by
          cases hk : layOk a'
          · simp
          · rw [if_pos rfl]; exact lay_len hk, fun w e w' h => h⟩
      have HQ := Lib.hid hL
      have HZ := Lib.hid hz
      clear hz hL
      go_wp2_with fail
      refine (pLay_any (x := ⟨a', P', np', cp', T', nt', ct'⟩) (HT.out.below H3.out.2.2.1 (Nat.le_refl _)) H3.out.2.2.2 H.out.w hp ht).mono ?_
      intro e w4 hly
      obtain ⟨A, n, c, rfl, hs, hb4⟩ := HQ.out _ _ _ hly
      clear hly
      have H4 : Hid (Bx w4 g ⟨a', P', np', cp', T', nt', ct'⟩ ∧ Bx w4 b ⟨a', P, np', cp, T, nt', ct⟩ ∧ Below w.heap.size w w4 ∧ RdA w4 ⟨a', P', np', cp', T', nt', ct'⟩ ∧ Sb w4 A n zs) := Lib.hid ⟨H3.out.1.below hb4, H3.out.2.1.below hb4, H3.out.2.2.1.trans (hb4.mono H3.out.2.2.1.size), H3.out.2.2.2.below hb4, hs⟩
      clear hb4 hs H3 p0 p1 p2 p3 p4 p5
      dsimp only
      go_upto_region 5 with fail
      obtain ⟨_, p0, p1, p2, p3, p4, p5⟩ := bx_cells H4.out.2.1
      simp only at p0 p1 p2 p3 p4 p5
      go_wp2_with fail
      refine (refLay_any (x := ⟨a', P, np', cp, T, nt', ct⟩) (H.out.rd.below H4.out.2.2.1) H.out.w).mono ?_
      intro e w5 hly
      obtain ⟨A', n', c', rfl, hs, hb5⟩ := HQ.out _ _ _ hly
      clear hly
      have H5 : Hid (Bx w5 g ⟨a', P', np', cp', T', nt', ct'⟩ ∧ Bx w5 b ⟨a', P, np', cp, T, nt', ct⟩ ∧ Below w.heap.size w w5 ∧ RdA w5 ⟨a', P', np', cp', T', nt', ct'⟩ ∧ Sb w5 A n zs ∧ Sb w5 A' n' zs) := Lib.hid ⟨H4.out.1.below hb5, H4.out.2.1.below hb5, H4.out.2.2.1.trans (hb5.mono H4.out.2.2.1.size), H4.out.2.2.2.1.below hb5, H4.out.2.2.2.2.below hb5, hs⟩
      clear hb5 hs H4 p0 p1 p2 p3 p4 p5
      dsimp only
      go_upto_region 6 with fail
      clear HQ
      go_wp2_with fail
      refine (fixedP_any w5 (HT.out.t.below H5.out.2.2.1 (Nat.le_refl _))).mono ?_
      rintro e w6 ⟨rfl, hb6⟩
      have H6 : Hid (Bx w6 g ⟨a', P', np', cp', T', nt', ct'⟩ ∧ Bx w6 b ⟨a', P, np', cp, T, nt', ct⟩ ∧ Below w.heap.size w w6 ∧ RdA w6 ⟨a', P', np', cp', T', nt', ct'⟩ ∧ Sb w6 A n zs ∧ Sb w6 A' n' zs) := Lib.hid ⟨H5.out.1.below hb6, H5.out.2.1.below hb6, H5.out.2.2.1.trans (hb6.mono H5.out.2.2.1.size), H5.out.2.2.2.1.below hb6, H5.out.2.2.2.2.1.below hb6, H5.out.2.2.2.2.2.below hb6⟩
      clear hb6 H5
      go_wp2_with fail
      have hnz := HZ.out
      refine (refSame_any H6.out.2.2.2.2.1 H6.out.2.2.2.2.2 (by have := H6.out.2.2.2.2.1.len; omega) (by have := H6.out.2.2.2.2.2.len; omega)).mono ?_
      rintro e w7 ⟨rfl, q, hw7⟩
      have hb7 : Below w6.heap.size w6 w7 := by rw [hw7]; exact below_drewN' (Below.refl _ _) q
      clear hw7
      rw [decide_eq_true (rfl : zs = zs)]
      have H7 : Hid (Bx w7 g ⟨a', P', np', cp', T', nt', ct'⟩ ∧ Bx w7 b ⟨a', P, np', cp, T, nt', ct⟩ ∧ Below w.heap.size w w7 ∧ RdA w7 ⟨a', P', np', cp', T', nt', ct'⟩) := Lib.hid ⟨H6.out.1.below hb7, H6.out.2.1.below hb7, H6.out.2.2.1.trans (hb7.mono H6.out.2.2.1.size), H6.out.2.2.2.1.below hb7⟩
      clear hb7 H6 hnz
      obtain ⟨_, p0, p1, p2, p3, p4, p5⟩ := bx_cells H7.out.1
      obtain ⟨_, q0, q1, q2, q3, q4, q5⟩ := bx_cells H7.out.2.1
      simp only at p0 p1 p2 p3 p4 p5 q0 q1 q2 q3 q4 q5
      go_wp2_with fail
      obtain ⟨w8, hw8⟩ : ∃ w8, w8 = w7.alloc (.cells #[.int .i64 a'.k, .int .i32 a'.r, .int .u8 a'.m, .int .u8 a'.fin, .slice P' np' cp', .slice T' nt' ct'] 25) := ⟨_, rfl⟩
      rw [← hw8]
      obtain ⟨w9, hw9⟩ : ∃ w9, w9 = w8.alloc (.cells #[.int .i64 a'.k, .int .i32 a'.r, .int .u8 a'.m, .int .u8 a'.fin, .slice P np' cp, .slice T nt' ct] 25) := ⟨_, rfl⟩
      rw [← hw9]
      have h8 : w8.heap.size = w7.heap.size + 1 := by rw [hw8]; simp
      have b8 : Below w7.heap.size w7 w8 := by rw [hw8]; exact al_below _ _
      have b9 : Below w8.heap.size w8 w9 := by rw [hw9]; exact al_below _ _
      have r8 : Vs acV w8 (some ⟨w7.heap.size, 0, none⟩) 1 [⟨a', P', np', cp', T', nt', ct'⟩] := by rw [hw8]; exact acts_lit w7 [⟨a', P', np', cp', T', nt', ct'⟩]
      have r9 : Vs acV w9 (some ⟨w7.heap.size + 1, 0, none⟩) 1 [⟨a', P, np', cp, T, nt', ct⟩] := by rw [hw9, ← h8]; exact acts_lit w8 [⟨a', P, np', cp, T, nt', ct⟩]
      have b79 : Below w7.heap.size w7 w9 := b8.trans (b9.mono b8.size)
      have bw9 : Below w.heap.size w w9 := H7.out.2.2.1.trans (b79.mono H7.out.2.2.1.size)
      have A8 : Ats w9 (some ⟨w7.heap.size, 0, none⟩) 1 [⟨a', P', np', cp', T', nt', ct'⟩] := ⟨r8.below b9, fun x hx => by rw [List.mem_singleton.1 hx]; exact H7.out.2.2.2.below b79⟩
      have A9 : Ats w9 (some ⟨w7.heap.size + 1, 0, none⟩) 1 [⟨a', P, np', cp, T, nt', ct⟩] := ⟨r9, fun x hx => by rw [List.mem_singleton.1 hx]; exact H.out.rd.below bw9⟩
      refine (refSameA_any A8 A9 (by omega) (by omega)).mono ?_
      rintro e w10 ⟨rfl, hb⟩
      have HB' := Lib.hid (bw9.trans (hb.mono bw9.size))
      have ha : acts [(⟨a', P', np', cp', T', nt', ct'⟩ : AcR)] = acts [(⟨a', P, np', cp, T, nt', ct⟩ : AcR)] := rfl
      rw [decide_eq_true ha]
      clear hb A8 A9 bw9 b79 r8 r9 b8 b9 h8 hw8 hw9 ha
      go_wp2_with fail
      go_ret
      exact ⟨rfl, HB'.out⟩
    · go_wp2_with fail
      refine (fixedP_any w1 (HT.out.t.below H0.out.2 (Nat.le_refl _))).mono ?_
      rintro e w2 ⟨rfl, hb⟩
      go_wp2_with fail
      go_ret
      exact ⟨rfl, H0.out.2.trans (hb.mono H0.out.2.size)⟩
  · go_wp2_with fail
    refine (fixedP_any w1 (HT.out.t.below H0.out.2 (Nat.le_refl _))).mono ?_
    rintro e w2 ⟨rfl, hb⟩
    go_wp2_with fail
    go_ret
    exact ⟨rfl, H0.out.2.trans (hb.mono H0.out.2.size)⟩

set_option maxRecDepth 100000 in
theorem lifted (os : Os) (started : os.Started) (H : Type) (enc : TypeId × Value → H) :
    ReturnsInHanded {} Tryd.checked os 3 .any (fun w args => (Rows.parseLaysSpec.pre enc Tryd.prog Tryd.f3 [] false w args ∧ laidMetH Tryd.prog laidM w) ∧ sizedMet enc Tryd.prog Tryd.f3 (OpenSpec.ofChange Rows.parseLaysSpec) false w args)
      (Rows.parseLaysSpec.post enc Tryd.prog Tryd.f3 false true false false) := by
  refine returnsInHanded_of_change_and (C := Tryd.checked) (X := fun w _ => laidMetH Tryd.prog laidM w) (fun _ _ _ hh h => h.of_heap hh) own started (by kernel_rfl) Tryd.func3
    (ChangeSpec.witness_shaped (enc := enc) (C := Tryd.checked) (os := os) (X := fun w _ => laidMetH Tryd.prog laidM w) false (World.laidAll Tryd.prog os laidM) #[.agg (acA ac0)] 8 (World.laidAll_os _ _ _) (startM_shaped os) (by kernel_rfl) (by kernel_rfl) (by kernel_rfl) (startM_met os _)) ?_
  intro W base args ds gs before hval0 hW _ hsz0 hL _
  have hsz : (DataW.weightsEach Tryd.prog (Tryd.f3.params.toList ++ Rows.parseLaysSpec.plain.varTypes Tryd.prog) (ds ++ gs)).all (· ≤ reachBytes) = true := hsz0
  clear hsz0
  have hval : ∀ (j : Nat) t v, Tryd.f3.params[j]? = some t → args[j]? = some v → Value.okWide Tryd.prog W .any base t v := hval0
  have hW' := hW
  obtain ⟨p, q, hA0, hV, rfl, _, _⟩ := hW
  have hA : DataW.TrodAll enc Tryd.prog W 0 (fun _ => true) true Tryd.f3.params.toList args.toList ds p := hA0
  rw [Tryd.params3] at hA hval hsz
  obtain ⟨v0, vs0, d0, ds0, p0, q0, hargs, rfl, rfl, h0, r0⟩ := trodAll_cons hA
  obtain ⟨rfl, rfl, rfl⟩ := trodAll_nil r0
  obtain rfl : args = #[v0] := by cases args; simp_all
  obtain ⟨rfl, rfl⟩ := trodVars_none hV
  have lt0 : ∀ x ∈ p0, x.block < W.heap.size := by obtain ⟨m, hm⟩ := h0; exact DataW.trod_lt m _ _ _ hm
  obtain ⟨x0, rfl, s0⟩ := open_act (hval 0 25 v0 rfl rfl) h0
  clear hA0 hval0
  refine (walk W (tabsM_of_laid hL) s0).mono fun e W' ⟨he, bel⟩ => ?_
  subst he
  exact ⟨_, rfl, _, _, _, [], _, [], hW', trodAll_mk1 (shut_bool Tryd.underlying4 _), (trodAll_cons_mk (Below.trod laidOut (by kernel_rfl) (of_decide_eq_true (by kernel_rfl)) h0 bel lt0) trodAll_mk0), rfl, bel.frame _, fun h => by cases h⟩

theorem over : Rows.parseLaysRow.holds Tryd.pinned (OpenSpec.ofChange Rows.parseLaysSpec) :=
  OpenClaim.holds_of_wide 3 Tryd.f3 rfl rfl rfl rfl rfl rfl rfl ⟨rfl, rfl, rfl, rfl, rfl⟩ rfl rfl rfl rfl rfl (by kernel_rfl) Tryd.func3 (by kernel_rfl)
    (of_decide_eq_true (by kernel_rfl)) (by unfold Func.isWrapper; first | (rw [if_pos (by decide +kernel)]; kernel_rfl) | (rw [if_neg (by decide +kernel)]; exact ⟨rfl, rfl⟩))
    (fun os started H enc _ => lifted os started H enc)

theorem proved : Rows.ParseLaysCardSaid :=
  Claim7.holds_tied_plain_at .later [] [.data, .data, .data, .data, .pinned] true Rows.parseLaysCard.stood.harness false
    over (fun _ h => by cases h) (by kernel_rfl) (fun _ h => by cases h) parseLays_row_tie rfl ⟨rfl, rfl⟩ (by kernel_rfl) rfl
    (fun f fn hf hfn => by
      obtain rfl : f = 3 := Option.some.inj ((show Tryd.prog.funcNamed "spyglass/spyglasslaw11.ParseLays" = some 3 by kernel_rfl).symm.trans hf) |>.symm
      obtain rfl : fn = Tryd.f3 := (Option.some.inj (Tryd.func3.symm.trans hfn)).symm
      exact ⟨by kernel_rfl, fun j t ht => by
        rw [Tryd.params3] at ht
        have hm : t ∈ [25] := by simpa using Array.mem_of_getElem? ht
        have hall : ([25].all fun u => !Tryd.prog.wantsStandIn u) = true := by kernel_rfl
        exact (show Tryd.prog.wantsStandIn t = false by simpa using List.all_eq_true.1 hall t hm)⟩)
    (by kernel_rfl)
end Go.Proofs.YtappnfifhpmekaaDoor.parseLays
