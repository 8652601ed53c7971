/-
  Proved: ShaCuts answers true for all bytes and all cuts, over the table of roots that the program's text lays (a tied card).
-/
import Derived.Test.YtfkfhcpmoghlfaaDoorOpen
import Derived.Test.YtfkfhcpmoghlfaaDoorCards
import Derived.Test.YtfkfhcpmoghlfaaDoorTie
import Derived.SevenTiedAt
import Derived.Test.YtfkfhcpmoghlfaaDoorShaPts
import Derived.Test.YtfkfhcpmoghlfaaDoorShaNone
import Derived.WalkKit
namespace Go.Proofs.YtfkfhcpmoghlfaaDoor.shaCuts
open Go.ChangeShapes Go.WideShapes Go.ChangeAt Go.RowKit

set_option maxRecDepth 100000 in
set_option maxHeartbeats 1600000 in
/-- The walk. -/
theorem walk {A : Option Addr} {n c : Nat} {zs : List Int} {B : Option Addr} {m d : Nat} {ks : List Int} (w : World) (hr : Roots w) (hs : Sb w A n zs) (h8 : U8s zs) (_ : n ≤ 140737488351232) (hc : n ≤ c ∧ c ≤ maxLen) (ht : Si w B m ks) :
    Calls Tryd.prog 4 #[.slice A n c, .slice B m d] w fun e w' => e = .returned (.bool true) ∧ Below w.heap.size w w' := by
  unfold maxLen at hc
  have H := Lib.hid (show Roots w ∧ Sb w A n zs ∧ B8s zs ∧ Si w B m ks ∧ n ≤ c ∧ c ≤ 9223372036854775807 from ⟨hr, hs, h8, ht, hc⟩)
  have hzl := Lib.hid hs.len
  clear hr hs h8 ht hc
  by_cases hn : (16384 : Int) < (n : Int)
  · go_enter Tryd.func4, Tryd.ntmps4
    go_wp2_with fail
    refine (fixed_any _ H.out.1).mono ?_
    rintro e w1 ⟨rfl, hb1⟩
    go_wp2_with fail
    go_ret
    exact ⟨rfl, hb1⟩
  · by_cases hm : (1000 : Int) < (m : Int)
    · go_enter Tryd.func4, Tryd.ntmps4
      go_wp2_with fail
      refine (fixed_any _ H.out.1).mono ?_
      rintro e w1 ⟨rfl, hb1⟩
      go_wp2_with fail
      go_ret
      exact ⟨rfl, hb1⟩
    · have hn2 : n ≤ 16384 := by omega
      have hm2 : m ≤ 1000 := by omega
      go_enter Tryd.func4, Tryd.ntmps4
      go_wp2_with fail
      go_loopw [5, 6, 22] (fun v5 v6 i wr => ∃ (j r c2 c5 : Nat) (A2 A5 : Option Addr) (rest : List Int) (L : List (List Int)) (xs : List Value), j ≤ m ∧ i = .int .i64 j ∧ v6 = .slice A2 r c2 ∧ v5 = .slice A5 j c5 ∧ r ≤ 16384 ∧
        (L.flatten ++ rest = zs ∧ B8s rest ∧ Sb w A2 r rest ∧ r ≤ c2 ∧ c2 ≤ 9223372036854775807 ∧ Pv w xs L ∧ L.length = j) ∧ wr.ownsRow w.heap.size 25 1 (.slice A5 j c5) j xs ∧ Below w.heap.size w wr) (fun _ _ i _ => m - (intOf i).toNat)
      case atStart => exact ⟨0, n, c, 0, A, none, zs, [], [], Nat.zero_le _, rfl, rfl, rfl, hn2, ⟨rfl, H.out.2.2.1, H.out.2.1, H.out.2.2.2.2.1, H.out.2.2.2.2.2, Pv.nil _, rfl⟩, World.ownsRow_nil _ _ _ _, Below.refl _ _⟩
      case round =>
        obtain ⟨j, r, c2, c5, A2, A5, rest, L, xs, hj, rfl, rfl, rfl, hr2, hX, hown, hbel⟩ := hrel
        have X := Lib.hid hX
        have HO := Lib.hid (And.intro hown hbel)
        clear hX hown hbel
        by_cases hlt : j < m
        · have hjl : (j : Int) < (m : Int) := by omega
          obtain ⟨ad, rfl, hblt, hat⟩ := H.out.2.2.2.1.at_ (by omega)
          obtain ⟨v, hv⟩ : ∃ v, v = ks.getD j 0 := ⟨_, rfl⟩
          obtain ⟨hc, hwf⟩ := hat j hlt
          rw [← hv] at hc hwf
          have hcell := (HO.out.2.cell (p := ad.add j) (by rw [addBlock]; exact hblt)).trans hc
          clear hv hc hat hblt hwf
          go_upto_region 8 with fail
          go_cut [9] (fun s9 wc => ∃ t : Nat, t ≤ r ∧ s9 = .int .i64 t ∧ wc = wr)
          case first =>
            go_wp2_with fail
            all_goals (go_meet; first | exact ⟨r, Nat.le_refl _, rfl, rfl⟩ | exact ⟨0, Nat.zero_le _, rfl, rfl⟩ | (have h4 := h; rename_i h3; exact ⟨v.toNat, by omega, by rw [Int.toNat_of_nonneg (by omega)], rfl⟩) | (trace_state; sorry))
          case rest =>
            obtain ⟨t, htr, rfl, rfl⟩ := hcut
            have htl : (t : Int) ≤ (r : Int) := by omega
            have hsl1 := fun w' => run_slice_high (P := Tryd.prog) w' 25 5 A2 r c2 t Tryd.underlying25 size1 (Nat.le_trans htr X.out.2.2.2.1)
            have hsl2 := fun w' => run_slice_low (P := Tryd.prog) w' 25 5 A2 r c2 t Tryd.underlying25 size1 htr
            obtain ⟨A3, hA3⟩ : ∃ A3, A3 = (if c2 = t then A2 else A2.map (·.add t)) := ⟨_, rfl⟩
            rw [← hA3] at hsl2
            have Y := Lib.hid (show (L ++ [rest.take t]).flatten ++ rest.drop t = zs ∧ B8s (rest.drop t) ∧ Sb w A3 (r - t) (rest.drop t) ∧ r - t ≤ c2 - t ∧ c2 - t ≤ 9223372036854775807 ∧ Pv w (xs ++ [.slice A2 t c2]) (L ++ [rest.take t]) ∧ (L ++ [rest.take t]).length = j + 1 from by
              obtain ⟨h1, h2, h3, h4, h5, h6, h7⟩ := X.out
              refine ⟨?_, fun z hz => h2 z (List.mem_of_mem_drop hz), by rw [hA3]; exact h3.cut htr h4, by omega, by omega, h6.snoc (h3.front htr) (by omega) h5 (fun z hz => h2 z (List.mem_of_mem_take hz)), by simp [h7]⟩
              rw [List.flatten_append, ← h1]
              simp)
            clear hA3
            go_wp2_with (refine wpList_app1 rfl (.tmp 31) (.tmp 35) rfl w wc A5 j c5 xs HO.out.1 HO.out.2 A2 t c2 (by omega) rfl rfl ?_; intro A6 c6 w6 hown6 hb6; have H6 := Lib.hid (And.intro hown6 hb6); clear hown6 hb6)
            go_roundw
            case rel => exact ⟨j + 1, r - t, c2 - t, c6, A3, A6, rest.drop t, _, _, by omega, by go_num, rfl, rfl, by omega, Y.out, H6.out.1, H6.out.2⟩
            case measure => simp [intOf]; omega
        · obtain rfl : j = m := by omega
          clear hlt hj
          go_wp2_with fail
          refine (fixed_any _ (H.out.1.below HO.out.2)).mono ?_
          rintro e w1 ⟨rfl, hb1⟩
          have X1 := Lib.hid (show w1.ownsRow w.heap.size 25 1 (.slice A5 j c5) j xs ∧ Below w.heap.size w w1 from ⟨own_belowS HO.out.1 hb1, HO.out.2.trans (hb1.mono HO.out.2.size)⟩)
          go_wp2_with (refine wpList_unguard (by rfl) ?_; refine wpList_app1 rfl (.tmp 43) (.tmp 45) rfl w w1 A5 j c5 xs X1.out.1 X1.out.2 A2 r c2 (by omega) rfl rfl ?_; intro A6 c6 w6 hown6 hb6; have H6 := Lib.hid (And.intro hown6 hb6); clear hown6 hb6)
          have HL := Lib.hid (show (L ++ [rest]).flatten = zs ∧ Pv w (xs ++ [.slice A2 r c2]) (L ++ [rest]) from by
            obtain ⟨h1, h2, h3, h4, h5, h6, h7⟩ := X.out
            exact ⟨by rw [List.flatten_append, ← h1]; simp, h6.snoc h3 h4 h5 h2⟩)
          refine (shaSum_any (n := j + 1) (L := L ++ [rest]) _ (H.out.1.below H6.out.2) (Ps.own H6.out.1 HL.out.2 H6.out.2) (by have h1 := hzl.out; rw [HL.out.1]; omega) (by omega)).mono ?_
          rintro e w2 ⟨rfl, hb2⟩
          rw [HL.out.1]
          have X2 := Lib.hid (show Below w.heap.size w w2 from H6.out.2.trans (hb2.mono H6.out.2.size))
          clear hb2 hb1
          obtain ⟨s, hs⟩ : ∃ s, s = shaS zs := ⟨_, rfl⟩
          rw [← hs]
          have HS := Lib.hid hs
          clear hs
          have heq := shaNone.eql_same s (by rw [HS.out]; exact shaS_len _)
          go_wp2_with fail
          have B3 : Below w.heap.size w (w2.alloc (.cells #[Value.slice A n c] 25)) := X2.out.alloc X2.out.size _
          refine (shaSum_any (n := 1) (L := [zs]) _ (H.out.1.below B3) ?hp (by have h1 := hzl.out; simp; omega) (by omega)).mono ?_
          case hp =>
            refine Ps.of rfl (by simp) fun k hk => ?_
            obtain rfl : k = 0 := by omega
            exact ⟨A, n, c, (cell_of_row _ w2.heap.size 0 _ _ _ (heap_alloc_new w2 _)).trans rfl, H.out.2.1.below B3, H.out.2.2.2.2.1, H.out.2.2.2.2.2, H.out.2.2.1⟩
          rintro e w4 ⟨rfl, hb4⟩
          rw [show ([zs] : List (List Int)).flatten = zs by simp, ← HS.out]
          have X4 := Lib.hid (show Below w.heap.size w w4 from B3.trans (hb4.mono B3.size))
          clear hb4 B3 X2
          go_wp2_with fail
          go_ret
          exact ⟨rfl, X4.out⟩

set_option maxRecDepth 100000 in
theorem lifted (os : Os) (started : os.Started) (H : Type) (enc : TypeId × Value → H) :
    ReturnsInHanded {} Tryd.checked os 4 .any (fun w args => (Rows.shaCutsSpec.pre enc Tryd.prog Tryd.f4 [] false w args ∧ laidMetH Tryd.prog laidL w) ∧ sizedMet enc Tryd.prog Tryd.f4 (OpenSpec.ofChange Rows.shaCutsSpec) false w args)
      (Rows.shaCutsSpec.post enc Tryd.prog Tryd.f4 false true false false) := by
  refine returnsInHanded_of_change_and (C := Tryd.checked) (X := fun w _ => laidMetH Tryd.prog laidL w) (fun _ _ _ hh h => h.of_heap hh) own started (by kernel_rfl) Tryd.func4
    (ChangeSpec.witness_shaped (enc := enc) (C := Tryd.checked) (os := os) (X := fun w _ => laidMetH Tryd.prog laidL w) false (World.doorLaid Tryd.prog 400 os) #[.slice none 0 0, .slice none 0 0] 8 rfl (World.shaped_of_RefB (by kernel_rfl) (by kernel_rfl)) (by kernel_rfl) (by kernel_rfl) (by kernel_rfl) (door_met os _)) ?_
  intro W base args ds gs before hval0 hW _ hsz0 hL _
  have hsz : (DataW.weightsEach Tryd.prog (Tryd.f4.params.toList ++ Rows.shaCutsSpec.plain.varTypes Tryd.prog) (ds ++ gs)).all (· ≤ reachBytes) = true := hsz0
  clear hsz0
  have hval : ∀ (j : Nat) t v, Tryd.f4.params[j]? = some t → args[j]? = some v → Value.okWide Tryd.prog W .any base t v := hval0
  have hW' := hW
  obtain ⟨p, q, hA0, hV, rfl, _, _⟩ := hW
  have hA : DataW.TrodAll enc Tryd.prog W 0 (fun _ => true) true Tryd.f4.params.toList args.toList ds p := hA0
  rw [Tryd.params4] at hA hval hsz
  obtain ⟨v0, vs0, d0, ds0, p0, q0, hargs, rfl, rfl, h0, r0⟩ := trodAll_cons hA
  obtain ⟨v1, vs1, d1, ds1, p1, q1, rfl, rfl, rfl, h1, r1⟩ := trodAll_cons r0
  obtain ⟨rfl, rfl, rfl⟩ := trodAll_nil r1
  obtain rfl : args = #[v0, v1] := by cases args; simp_all
  obtain ⟨rfl, rfl⟩ := trodVars_none hV
  have lt0 : ∀ x ∈ p0, x.block < W.heap.size := by obtain ⟨m, hm⟩ := h0; exact DataW.trod_lt m _ _ _ hm
  obtain ⟨A0, n0, c0, z0, rfl, s0, u0, l0, g0⟩ := open_bytes_c (hval 0 25 v0 rfl rfl) h0
  have m0 := g0 _ _ 0 hsz rfl rfl
  have lt1 : ∀ x ∈ p1, x.block < W.heap.size := by obtain ⟨m, hm⟩ := h1; exact DataW.trod_lt m _ _ _ hm
  obtain ⟨A1, n1, c1, k1, rfl, s1⟩ := open_si (hval 1 32 v1 rfl rfl) h1
  clear hA0 hval0
  refine (walk W (roots_of_laid hL) s0 u0 m0 l0 s1).mono fun e W' ⟨he, bel⟩ => ?_
  subst he
  exact ⟨_, rfl, _, _, _, [], _, [], hW', trodAll_mk1 (shut_bool Tryd.underlying4 _), (trodAll_cons_mk (Below.trod laidOut (by kernel_rfl) (of_decide_eq_true (by kernel_rfl)) h0 bel lt0) (trodAll_cons_mk (Below.trod laidOut (by kernel_rfl) (of_decide_eq_true (by kernel_rfl)) h1 bel lt1) trodAll_mk0)), rfl, bel.frame _, fun h => by cases h⟩

theorem over : Rows.shaCutsRow.holds Tryd.pinned (OpenSpec.ofChange Rows.shaCutsSpec) :=
  OpenClaim.holds_of_wide 4 Tryd.f4 rfl rfl rfl rfl rfl rfl rfl ⟨rfl, rfl, rfl, rfl, rfl⟩ rfl rfl rfl rfl rfl (by kernel_rfl) Tryd.func4 (by kernel_rfl)
    (of_decide_eq_true (by kernel_rfl)) (by unfold Func.isWrapper; first | (rw [if_pos (by decide +kernel)]; kernel_rfl) | (rw [if_neg (by decide +kernel)]; exact ⟨rfl, rfl⟩))
    (fun os started H enc _ => lifted os started H enc)

theorem proved : Rows.ShaCutsCardSaid :=
  Claim7.holds_tied_plain_at .later [] [.data] true Rows.shaCutsCard.stood.harness false
    over (fun _ h => by cases h) (by kernel_rfl) (fun _ h => by cases h) shaCuts_row_tie rfl ⟨rfl, rfl⟩ (by kernel_rfl) rfl
    (fun f fn hf hfn => by
      obtain rfl : f = 4 := Option.some.inj ((show Tryd.prog.funcNamed "spyglass/spyglasslaw03.ShaCuts" = some 4 by kernel_rfl).symm.trans hf) |>.symm
      obtain rfl : fn = Tryd.f4 := (Option.some.inj (Tryd.func4.symm.trans hfn)).symm
      exact ⟨by kernel_rfl, fun j t ht => by
        rw [Tryd.params4] at ht
        have hm : t ∈ [25, 32] := by simpa using Array.mem_of_getElem? ht
        have hall : ([25, 32].all fun u => !Tryd.prog.wantsStandIn u) = true := by kernel_rfl
        exact (show Tryd.prog.wantsStandIn t = false by simpa using List.all_eq_true.1 hall t hm)⟩)
    (by kernel_rfl)
end Go.Proofs.YtfkfhcpmoghlfaaDoor.shaCuts
