/-
  Proved: ParseBounds answers true for all bytes.
-/
import Derived.Test.YtappnfifhpmekaaDoorOpen
import Derived.Test.YtappnfifhpmekaaDoorCards
import Derived.Test.YtappnfifhpmekaaDoorTie
import Derived.SevenTiedAt
import Derived.Test.YtappnfifhpmekaaDoorParseFixed
import Derived.Test.YtappnfifhpmekaaDoorParseIn
import Derived.Test.YtappnfifhpmekaaDoorParseCopy
import Derived.WalkKit
namespace Go.Proofs.YtappnfifhpmekaaDoor.parseBounds
open Go.ChangeShapes Go.WideShapes Go.ChangeAt Go.RowKit

set_option maxHeartbeats 3200000 in
set_option maxRecDepth 100000 in
/-- The walk. -/
theorem walk {A : Option Addr} {n c : Nat} {zs : List Int} (w : World) (hT : Known w) (hs0 : Sb w A n zs) (hu0 : U8s zs) (hm0 : n ≤ 140737488351232) :
    Calls Tryd.prog 6 #[.slice A n c] w fun e w' => e = .returned (.bool true) ∧ Below w.heap.size w w' := by
  have H := Lib.hid (And.intro hs0 hu0)
  have HT := Lib.hid hT
  clear hs0 hu0 hT
  by_cases hbig : n ≤ 16384
  case neg =>
    go_enter Tryd.func6, Tryd.ntmps6
    go_wp2_with fail
    refine (fixedP_any w HT.out).mono ?_
    rintro e w1 ⟨rfl, hb1⟩
    go_wp2_with fail
    go_ret
    exact ⟨rfl, hb1⟩
  go_enter Tryd.func6, Tryd.ntmps6
  go_wp2_with fail
  refine (pActs_any HT.out H.out.1 H.out.2 (by omega)).mono ?_
  rintro e w1 ⟨A1, c1, R, rfl, hA, hR, hc1, hc2, hb1⟩
  have H1 := Lib.hid (And.intro hA hb1)
  have HO : Hid (∀ x ∈ R, AcOk x.a) := Lib.hid (fun x hx => by
    refine acts_ok zs x.a ?_
    rw [← hR]
    exact List.mem_map.2 ⟨x, hx, rfl⟩)
  have hl : R.length ≤ 9223372036854775807 := by unfold maxLen at hc2; omega
  clear hA hb1 hR hc2
  go_wp2_with fail
  go_loopw [15] (fun i wr => ∃ k : Nat, k ≤ R.length ∧ i = .int .i64 k ∧ Below w1.heap.size w1 wr) (fun i _ => R.length - (intOf i).toNat)
  case atStart => exact ⟨0, Nat.zero_le _, rfl, Below.refl _ _⟩
  case round =>
    obtain ⟨k, hk, rfl, hb⟩ := hrel
    have HB := Lib.hid hb
    clear hb
    by_cases hlt : k < R.length
    · have hV := H1.out.1.below HB.out
      obtain ⟨x, ex⟩ : ∃ x, R[k]? = some x := ⟨_, List.getElem?_eq_getElem hlt⟩
      have HX := Lib.hid (And.intro (HO.out x (List.mem_of_getElem? ex)) (hV.rd x (List.mem_of_getElem? ex)))
      obtain ⟨ad, rfl⟩ := hV.row.addr (by omega)
      obtain ⟨a0, a1, a2, a3, a4, a5⟩ := hV.row.sxa ex
      obtain ⟨a, P, np, cp, T', nt, ct⟩ := x
      simp only at a0 a1 a2 a3 a4 a5
      obtain ⟨g, hg⟩ : ∃ g, g = wr.heap.size := ⟨_, rfl⟩
      have HG := Lib.hid hg
      have S1 : Hid (Bx (wr.alloc (.cells #[.int .i64 a.k, .int .i32 a.r, .int .u8 a.m, .int .u8 a.fin, .slice P np cp, .slice T' nt ct] 25)) g ⟨a, P, np, cp, T', nt, ct⟩ ∧ Below w1.heap.size w1 (wr.alloc (.cells #[.int .i64 a.k, .int .i32 a.r, .int .u8 a.m, .int .u8 a.fin, .slice P np cp, .slice T' nt ct] 25)) ∧ Ik .i64 (wr.alloc (.cells #[.int .i64 a.k, .int .i32 a.r, .int .u8 a.m, .int .u8 a.fin, .slice P np cp, .slice T' nt ct] 25)) P np a.ps) := Lib.hid (by
        have h1 := Bx.new wr ⟨a, P, np, cp, T', nt, ct⟩
        have hl : Below wr.heap.size wr (wr.alloc (.cells #[.int .i64 a.k, .int .i32 a.r, .int .u8 a.m, .int .u8 a.fin, .slice P np cp, .slice T' nt ct] 25)) := (Below.refl _ _).alloc (Nat.le_refl _) _
        rw [hg]
        exact ⟨h1, HB.out.trans (hl.mono HB.out.size), HX.out.2.p.below hl⟩)
      clear hg hV
      go_upto_region 6 with fail
      rw [← HG.out]
      generalize (wr.alloc (.cells #[.int .i64 a.k, .int .i32 a.r, .int .u8 a.m, .int .u8 a.fin, .slice P np cp, .slice T' nt ct] 25)) = w2 at S1 ⊢
      clear HG a0 a1 a2 a3 a4 a5
      obtain ⟨_, p0, p1, p2, p3, p4, p5⟩ := bx_cells S1.out.1
      simp only at p0 p1 p2 p3 p4 p5
      have g1 : np ≤ 16 := by have := HX.out.1.n; have := HX.out.2.p.len; simp only at *; omega
      have g2 : nt ≤ 256 := by have := HX.out.1.t; have := HX.out.2.t.len; simp only at *; omega
      obtain ⟨g3, g4⟩ := HX.out.1.k
      simp only at g3 g4
      go_upto_region 9 with fail
      go_loopw [42] (fun i wr => ∃ j : Nat, j ≤ np ∧ i = .int .i64 j ∧ wr = w2) (fun i _ => np - (intOf i).toNat)
      case atStart => exact ⟨0, Nat.zero_le _, rfl, rfl⟩
      case round =>
        obtain ⟨j, hj, rfl, rfl⟩ := hrel
        by_cases hjn : j < np
        · obtain ⟨pa, hpa⟩ : ∃ pa, P = some pa := by obtain ⟨pa, e, _⟩ := S1.out.2.2.at_ (by omega); exact ⟨pa, e⟩
          subst hpa
          have hcell := S1.out.2.2.cell hjn
          obtain ⟨z, hz⟩ : ∃ z, z = a.ps.getD j 0 := ⟨_, rfl⟩
          have hzz : 0 ≤ z ∧ z ≤ 9999 := by
            have hjl : j < a.ps.length := by have := S1.out.2.2.len; omega
            rw [hz, getD_lt hjl]
            exact HX.out.1.p _ (List.getElem_mem hjl)
          rw [← hz] at hcell
          obtain ⟨z0, z1⟩ := hzz
          clear hz
          go_wp2_with fail
          go_roundw
          case rel => exact ⟨j + 1, by omega, by go_num, by trivial⟩
          case measure => simp [intOf]; omega
        · go_wp2_with fail
          go_roundw
          case rel => exact ⟨k + 1, by omega, by go_num, S1.out.2.1⟩
          case measure => simp [intOf]; omega
    · go_wp2_with fail
      refine (fixedP_any wr (HT.out.below (H1.out.2.trans (HB.out.mono H1.out.2.size)) (Nat.le_refl _))).mono ?_
      rintro e w4 ⟨rfl, b4⟩
      have HB2 := Lib.hid (H1.out.2.trans ((HB.out.trans (b4.mono HB.out.size)).mono H1.out.2.size))
      clear b4
      go_wp2_with fail
      refine (pFeed_nil 97 w4).mono ?_
      rintro e w5 ⟨rfl, rfl⟩
      go_wp2_with fail
      go_ret
      exact ⟨rfl, HB2.out⟩

set_option maxRecDepth 100000 in
theorem lifted (os : Os) (started : os.Started) (H : Type) (enc : TypeId × Value → H) :
    ReturnsInHanded {} Tryd.checked os 6 .any (fun w args => (Rows.parseBoundsSpec.pre enc Tryd.prog Tryd.f6 [] false w args ∧ laidMetH Tryd.prog laidL w) ∧ sizedMet enc Tryd.prog Tryd.f6 (OpenSpec.ofChange Rows.parseBoundsSpec) false w args)
      (Rows.parseBoundsSpec.post enc Tryd.prog Tryd.f6 false true false false) := by
  refine returnsInHanded_of_change_and (C := Tryd.checked) (X := fun w _ => laidMetH Tryd.prog laidL w) (fun _ _ _ hh h => h.of_heap hh) own started (by kernel_rfl) Tryd.func6
    (ChangeSpec.witness_shaped (enc := enc) (C := Tryd.checked) (os := os) (X := fun w _ => laidMetH Tryd.prog laidL w) false (World.laidAll Tryd.prog os laidL) #[.slice none 0 0] 8 (World.laidAll_os _ _ _) (start_shaped os) (by kernel_rfl) (by kernel_rfl) (by kernel_rfl) (start_met os _)) ?_
  intro W base args ds gs before hval0 hW _ hsz0 hL _
  have hsz : (DataW.weightsEach Tryd.prog (Tryd.f6.params.toList ++ Rows.parseBoundsSpec.plain.varTypes Tryd.prog) (ds ++ gs)).all (· ≤ reachBytes) = true := hsz0
  clear hsz0
  have hval : ∀ (j : Nat) t v, Tryd.f6.params[j]? = some t → args[j]? = some v → Value.okWide Tryd.prog W .any base t v := hval0
  have hW' := hW
  obtain ⟨p, q, hA0, hV, rfl, _, _⟩ := hW
  have hA : DataW.TrodAll enc Tryd.prog W 0 (fun _ => true) true Tryd.f6.params.toList args.toList ds p := hA0
  rw [Tryd.params6] at hA hval hsz
  obtain ⟨v0, vs0, d0, ds0, p0, q0, hargs, rfl, rfl, h0, r0⟩ := trodAll_cons hA
  obtain ⟨rfl, rfl, rfl⟩ := trodAll_nil r0
  obtain rfl : args = #[v0] := by cases args; simp_all
  obtain ⟨rfl, rfl⟩ := trodVars_none hV
  have lt0 : ∀ x ∈ p0, x.block < W.heap.size := by obtain ⟨m, hm⟩ := h0; exact DataW.trod_lt m _ _ _ hm
  obtain ⟨A0, n0, c0, z0, rfl, s0, u0, g0⟩ := open_bytes (hval 0 23 v0 rfl rfl) h0
  have m0 := g0 _ _ 0 hsz rfl rfl
  clear hA0 hval0
  refine (walk W (tabs_of_laid hL) s0 u0 m0).mono fun e W' ⟨he, bel⟩ => ?_
  subst he
  exact ⟨_, rfl, _, _, _, [], _, [], hW', trodAll_mk1 (shut_bool Tryd.underlying4 _), (trodAll_cons_mk (Below.trod laidOut (by kernel_rfl) (of_decide_eq_true (by kernel_rfl)) h0 bel lt0) trodAll_mk0), rfl, bel.frame _, fun h => by cases h⟩

theorem over : Rows.parseBoundsRow.holds Tryd.pinned (OpenSpec.ofChange Rows.parseBoundsSpec) :=
  OpenClaim.holds_of_wide 6 Tryd.f6 rfl rfl rfl rfl rfl rfl rfl ⟨rfl, rfl, rfl, rfl, rfl⟩ rfl rfl rfl rfl rfl (by kernel_rfl) Tryd.func6 (by kernel_rfl)
    (of_decide_eq_true (by kernel_rfl)) (by unfold Func.isWrapper; first | (rw [if_pos (by decide +kernel)]; kernel_rfl) | (rw [if_neg (by decide +kernel)]; exact ⟨rfl, rfl⟩))
    (fun os started H enc _ => lifted os started H enc)

theorem proved : Rows.ParseBoundsCardSaid :=
  Claim7.holds_tied_plain_at .later [] [.data, .pinned] true Rows.parseBoundsCard.stood.harness false
    over (fun _ h => by cases h) (by kernel_rfl) (fun _ h => by cases h) parseBounds_row_tie rfl ⟨rfl, rfl⟩ (by kernel_rfl) rfl
    (fun f fn hf hfn => by
      obtain rfl : f = 6 := Option.some.inj ((show Tryd.prog.funcNamed "spyglass/spyglasslaw11.ParseBounds" = some 6 by kernel_rfl).symm.trans hf) |>.symm
      obtain rfl : fn = Tryd.f6 := (Option.some.inj (Tryd.func6.symm.trans hfn)).symm
      exact ⟨by kernel_rfl, fun j t ht => by
        rw [Tryd.params6] at ht
        have hm : t ∈ [23] := by simpa using Array.mem_of_getElem? ht
        have hall : ([23].all fun u => !Tryd.prog.wantsStandIn u) = true := by kernel_rfl
        exact (show Tryd.prog.wantsStandIn t = false by simpa using List.all_eq_true.1 hall t hm)⟩)
    (by kernel_rfl)
end Go.Proofs.YtappnfifhpmekaaDoor.parseBounds
