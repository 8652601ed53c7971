/-
  Proved: LinksMeans answers true for every row of cells and every table.
-/
import Derived.Test.YtbjgjhhombalpaaOpen
import Derived.Test.YtbjgjhhombalpaaWeights
import Derived.Test.YtbjgjhhombalpaaLinksIn
import Derived.Test.YtbjgjhhombalpaaLinksFixed
import Derived.Test.YtbjgjhhombalpaaLinksRefRight
import Derived.WalkKit
namespace Go.Proofs.Ytbjgjhhombalpaa.linksMeans
open Go.ChangeShapes Go.WideShapes Go.ChangeAt Go.RowKit

theorem canonC_lk {cs : List Ce} {l : List ByteArray} : ∀ x ∈ canonC cs l, 0 ≤ x.p.lk ∧ x.p.lk ≤ (canonL cs l).length := by
  intro x hx
  obtain ⟨c, _, rfl⟩ := List.mem_map.1 hx
  show 0 ≤ numI _ _ ∧ numI _ _ ≤ _
  unfold numI
  split
  · omega
  · have h1 := placeI_ge (canonL cs l) (leadsS l c.p.lk)
    have h2 := placeI_lt (canonL cs l) (leadsS l c.p.lk)
    omega
/-- The number behind Canon: none, or that of the text. -/
theorem num_at {cs : List Ce} {l : List ByteArray} {k : Nat} (hk : k < cs.length) :
    (leadsS l (cAt cs k).p.lk = eT ∧ (cAt (canonC cs l) k).p.lk = 0) ∨
    (leadsS l (cAt cs k).p.lk ≠ eT ∧ ∃ j, j < (canonL cs l).length ∧ (cAt (canonC cs l) k).p.lk = (j : Int) + 1 ∧ sAt (canonL cs l) j = leadsS l (cAt cs k).p.lk) := by
  have e : (cAt (canonC cs l) k).p.lk = numI (canonL cs l) (leadsS l (cAt cs k).p.lk) := by
    rw [cAt_lt (by rw [canonC_len]; exact hk), cAt_lt hk]
    simp [canonC, setLk]
  rw [e]
  by_cases h : leadsS l (cAt cs k).p.lk = eT
  · exact Or.inl ⟨h, by unfold numI; rw [if_pos h]⟩
  · have hm : cAt cs k ∈ cs := by rw [cAt_lt hk]; exact List.getElem_mem _
    obtain ⟨j, hj, e1, e2, _⟩ := placeI_mem ((seq_leads hm).resolve_left h).1
    exact Or.inr ⟨h, j, hj, by unfold numI; rw [if_neg h, e1], e2⟩
set_option maxHeartbeats 2000000 in
/-- The walk. -/
theorem walk {A A' : Option Addr} {n c m c' : Nat} {cs : List Ce} {L : List ByteArray} (w : World) (hc : Vs ceV w A n cs ∧ (∀ x ∈ cs, 0 ≤ x.p.lk ∧ x.p.lk ≤ 65535) ∧ n ≤ c ∧ c ≤ maxLen) (ht : Vs stV w A' m L ∧ (∀ s ∈ L, s.size ≤ 140737488351232) ∧ m ≤ 140737488351232 ∧ m ≤ c' ∧ c' ≤ maxLen) :
    Calls Try.prog 6 #[.slice A n c, .slice A' m c'] w fun e w' => e = .returned (.bool true) ∧ Below w.heap.size w w' := by
  obtain ⟨hc1, hc2, hc3, hc4⟩ := hc
  obtain ⟨ht1, ht2, ht3, ht4, _⟩ := ht
  obtain rfl := hc1.len
  unfold maxLen at hc4
  have H := Lib.hid (And.intro hc1 ht1)
  have HL := Lib.hid (And.intro hc2 ht2)
  clear hc1 hc2 ht1 ht2
  go_enter Try.func6, Try.ntmps6
  go_wp2_with fail
  refine (greatT_any (m := cs.length) H.out.2 ht3 (by omega) HL.out.2).mono ?_
  rintro e w' ⟨rfl, rfl⟩
  cases hg : greatT cs.length L
  · obtain ⟨g1, g2⟩ := greatT_no hg
    have g3 : m ≤ 16384 := by have := sumT_len L; have := H.out.2.len; omega
    clear hg g1
    go_wp2_with fail
    refine (canon_any H.out.1 H.out.2 HL.out.1 HL.out.2 (by omega) (by omega)).mono ?_
    rintro e w1 ⟨hb1, A1, c1, A2, c2, rfl, hC, hT⟩
    have e1 := canonC_len cs L
    rw [e1] at hC ⊢
    clear e1
    have HX := Lib.hid (And.intro hb1 (And.intro hC hT))
    clear hb1 hC hT
    have HN : Hid ((canonL cs L).length ≤ cs.length ∧ (∀ x ∈ canonC cs L, 0 ≤ x.p.lk ∧ x.p.lk ≤ 65535) ∧ ∀ s ∈ canonL cs L, s.size ≤ 140737488351232) := Lib.hid (by
      have h2 := canonL_cells cs L
      refine ⟨by omega, fun x hx => ?_, fun s hs => HL.out.2 s (canonL_may hs).2⟩
      have := canonC_lk x hx
      omega)
    have nM := HN.out.1
    have hc2 := HX.out.2.2.le
    obtain ⟨mm, hmm⟩ : ∃ mm, (canonL cs L).length = mm := ⟨_, rfl⟩
    rw [hmm] at nM hc2 ⊢
    have HMM := Lib.hid hmm
    clear hmm
    go_wp2_with fail
    refine (fixedT_any _).mono ?_
    rintro e w2 ⟨rfl, hb⟩
    have HY := Lib.hid (And.intro (HX.out.1.trans (hb.mono HX.out.1.size)) (And.intro (HX.out.2.1.vs.below hb) (HX.out.2.2.vs.below hb)))
    clear hb HX
    by_cases h16 : m ≤ 16
    · have h16' : (m : Int) ≤ 16 := by omega
      have HO : Hid (ordC (canonC cs L) (canonL cs L) = true) := Lib.hid (by
        rw [ord_is fun c hc => (HN.out.2.1 c hc).1]
        exact ord_again (by rw [H.out.2.len]; exact h16))
      go_wp2_with fail
      refine (right_any (m := mm) HY.out.2.1 (by rw [← HMM.out]; exact HY.out.2.2) HN.out.2.1 HN.out.2.2 (by omega) (by omega) hc2).mono ?_
      rw [HO.out]
      rintro e w3 ⟨rfl, hb⟩
      have HZ := Lib.hid (And.intro (HY.out.1.trans (hb.mono HY.out.1.size)) (And.intro (HY.out.2.1.below hb) (HY.out.2.2.below hb)))
      clear hb HY
      go_wp2_with fail
      go_loop [42] (fun i => ∃ k : Nat, k ≤ cs.length ∧ i = .int .i64 k) (fun i => cs.length - (intOf i).toNat)
      case atStart => exact ⟨0, Nat.zero_le _, rfl⟩
      case round =>
        obtain ⟨k, hk, rfl⟩ := hrel
        by_cases hlt : k < cs.length
        · obtain ⟨ad, rfl⟩ := HZ.out.2.1.addr (by omega)
          obtain ⟨_, _, _, _, _, a5⟩ := HZ.out.2.1.six hlt
          have hv := H.out.1.below HZ.out.1
          obtain ⟨ad', rfl⟩ := hv.addr (by omega)
          obtain ⟨_, _, _, _, _, b5⟩ := hv.six hlt
          have HT := Lib.hid (H.out.2.below HZ.out.1)
          have hlk := HL.out.1 (cAt cs k) (by rw [cAt_lt hlt]; exact List.getElem_mem _)
          have hz0 := hlk.1
          have hz1 := hlk.2
          clear hlk hv
          rcases num_at (l := L) hlt with ⟨h1, h2⟩ | ⟨h1, j, hj, h2, h3⟩
          · rw [h2] at a5
            have H1 := Lib.hid h1
            clear h1 h2
            generalize (cAt cs k).p.lk = z at b5 hz0 hz1 H1
            go_wp2_with fail
            refine (leadsT_any HT.out z hz0 hz1 (by omega) HL.out.2).mono ?_
            rw [H1.out]
            rintro e w' ⟨rfl, rfl⟩
            have he := emp_yes (rfl : eT = eT)
            have he2 : (!(⟨#[]⟩ : ByteArray).toList == eT.toList) = false := by rw [eqBB, decide_eq_true (show (⟨#[]⟩ : ByteArray) = eT from rfl)]; rfl
            go_wp2_with fail
            go_round
            case rel => exact ⟨k + 1, by omega, by go_num⟩
            case measure => simp [intOf]; omega
          · rw [h2] at a5
            have hjm : j < mm := by rw [← HMM.out]; exact hj
            obtain ⟨ad2, rfl⟩ := HZ.out.2.2.addr (by omega)
            have t5 := HZ.out.2.2.str hj
            rw [h3] at t5
            have hm3 : (mm : Int) ≤ 3000 := by omega
            clear h1 h2 h3 hj
            generalize (cAt cs k).p.lk = z at b5 hz0 hz1 t5
            have hjj : ¬ (mm : Int) < (j : Int) + 1 := by omega
            go_wp2_with fail
            refine (leadsT_any HT.out z hz0 hz1 (by omega) HL.out.2).mono ?_
            rintro e w' ⟨rfl, rfl⟩
            generalize leadsS L z = y at t5 ⊢
            have he : (y.toList == y.toList) = true := by simp
            go_wp2_with fail
            go_round
            case rel => exact ⟨k + 1, by omega, by go_num⟩
            case measure => simp [intOf]; omega
        · go_wp2_with fail
          go_ret
          exact ⟨rfl, HZ.out.1⟩
    · have h16' : ¬ (m : Int) ≤ 16 := by omega
      go_wp2_with fail
      go_loop [42] (fun i => ∃ k : Nat, k ≤ cs.length ∧ i = .int .i64 k) (fun i => cs.length - (intOf i).toNat)
      case atStart => exact ⟨0, Nat.zero_le _, rfl⟩
      case round =>
        obtain ⟨k, hk, rfl⟩ := hrel
        by_cases hlt : k < cs.length
        · obtain ⟨ad, rfl⟩ := HY.out.2.1.addr (by omega)
          obtain ⟨_, _, _, _, _, a5⟩ := HY.out.2.1.six hlt
          have hv := H.out.1.below HY.out.1
          obtain ⟨ad', rfl⟩ := hv.addr (by omega)
          obtain ⟨_, _, _, _, _, b5⟩ := hv.six hlt
          have HT := Lib.hid (H.out.2.below HY.out.1)
          have hlk := HL.out.1 (cAt cs k) (by rw [cAt_lt hlt]; exact List.getElem_mem _)
          have hz0 := hlk.1
          have hz1 := hlk.2
          clear hlk hv
          rcases num_at (l := L) hlt with ⟨h1, h2⟩ | ⟨h1, j, hj, h2, h3⟩
          · rw [h2] at a5
            have H1 := Lib.hid h1
            clear h1 h2
            generalize (cAt cs k).p.lk = z at b5 hz0 hz1 H1
            go_wp2_with fail
            refine (leadsT_any HT.out z hz0 hz1 (by omega) HL.out.2).mono ?_
            rw [H1.out]
            rintro e w' ⟨rfl, rfl⟩
            have he := emp_yes (rfl : eT = eT)
            have he2 : (!(⟨#[]⟩ : ByteArray).toList == eT.toList) = false := by rw [eqBB, decide_eq_true (show (⟨#[]⟩ : ByteArray) = eT from rfl)]; rfl
            go_wp2_with fail
            go_round
            case rel => exact ⟨k + 1, by omega, by go_num⟩
            case measure => simp [intOf]; omega
          · rw [h2] at a5
            have hjm : j < mm := by rw [← HMM.out]; exact hj
            obtain ⟨ad2, rfl⟩ := HY.out.2.2.addr (by omega)
            have t5 := HY.out.2.2.str hj
            rw [h3] at t5
            have hm3 : (mm : Int) ≤ 3000 := by omega
            clear h1 h2 h3 hj
            generalize (cAt cs k).p.lk = z at b5 hz0 hz1 t5
            have hjj : ¬ (mm : Int) < (j : Int) + 1 := by omega
            go_wp2_with fail
            refine (leadsT_any HT.out z hz0 hz1 (by omega) HL.out.2).mono ?_
            rintro e w' ⟨rfl, rfl⟩
            generalize leadsS L z = y at t5 ⊢
            have he : (y.toList == y.toList) = true := by simp
            go_wp2_with fail
            go_round
            case rel => exact ⟨k + 1, by omega, by go_num⟩
            case measure => simp [intOf]; omega
        · go_wp2_with fail
          go_ret
          exact ⟨rfl, HY.out.1⟩
  · clear hg
    go_wp2_with fail
    refine (fixedT_any _).mono ?_
    rintro e w1 ⟨rfl, hb⟩
    go_wp2_with fail
    go_ret
    exact ⟨rfl, hb⟩

set_option maxRecDepth 100000 in
theorem lifted (os : Os) (started : os.Started) (H : Type) (enc : TypeId × Value → H) :
    ReturnsInHanded {} Try.checked os 6 .any (Rows.linksMeansSpec.pre6 enc Try.prog Try.f6 Rows.linksMeansRow.domain false) (Rows.linksMeansSpec.post enc Try.prog Try.f6 false true false false) := by
  refine returnsInHanded_of_change_sized (C := Try.checked) own started (by kernel_rfl) Try.func6
    (ChangeSpec.witness6 (enc := enc) (C := Try.checked) false ⟨#[], #[.slice none 0 0, .slice none 0 0], []⟩ 8 (by kernel_rfl) (by kernel_rfl) (by kernel_rfl) (by kernel_rfl)) ?_
  intro W base args ds gs before hval0 hW _ hsz0 _
  have hsz : (DataW.weightsEach Try.prog (Try.f6.params.toList ++ Rows.linksMeansSpec.plain.varTypes Try.prog) (ds ++ gs)).all (· ≤ reachBytes) = true := hsz0
  clear hsz0
  have hval : ∀ (j : Nat) t v, Try.f6.params[j]? = some t → args[j]? = some v → Value.okWide Try.prog W .any base t v := hval0
  have hW' := hW
  obtain ⟨p, q, hA0, hV, rfl, _, _⟩ := hW
  have hA : DataW.TrodAll enc Try.prog W 0 (fun _ => true) true Try.f6.params.toList args.toList ds p := hA0
  rw [Try.params6] at hA hval hsz
  obtain ⟨v0, vs0, d0, ds0, p0, q0, hargs, rfl, rfl, h0, r0⟩ := trodAll_cons hA
  obtain ⟨v1, vs1, d1, ds1, p1, q1, rfl, rfl, rfl, h1, r1⟩ := trodAll_cons r0
  obtain ⟨rfl, rfl, rfl⟩ := trodAll_nil r1
  obtain rfl : args = #[v0, v1] := by cases args; simp_all
  obtain ⟨rfl, rfl⟩ := trodVars_none hV
  have lt0 : ∀ x ∈ p0, x.block < W.heap.size := by obtain ⟨m, hm⟩ := h0; exact DataW.trod_lt m _ _ _ hm
  obtain ⟨A0, n0, c0, L0, rfl, s0⟩ := open_cellsL (hval 0 41 v0 rfl rfl) h0
  have lt1 : ∀ x ∈ p1, x.block < W.heap.size := by obtain ⟨m, hm⟩ := h1; exact DataW.trod_lt m _ _ _ hm
  obtain ⟨A1, n1, c1, L1, rfl, s1⟩ := open_texts (weights_at hsz (j := 1) rfl rfl) (hval 1 23 v1 rfl rfl) h1
  clear hA0 hval0
  refine (walk W s0 s1).mono fun e W' ⟨he, bel⟩ => ?_
  subst he
  exact ⟨_, rfl, _, _, _, [], _, [], hW', trodAll_mk1 (shut_bool Try.underlying4 _), (trodAll_cons_mk (Below.trod laidOut (by kernel_rfl) (of_decide_eq_true (by kernel_rfl)) h0 bel lt0) (trodAll_cons_mk (Below.trod laidOut (by kernel_rfl) (of_decide_eq_true (by kernel_rfl)) h1 bel lt1) trodAll_mk0)), rfl, bel.frame _, fun h => by cases h⟩

theorem over : Rows.linksMeansRow.holds Try.pinned (OpenSpec.ofChange Rows.linksMeansSpec) :=
  OpenClaim.holds_of_wide 6 Try.f6 rfl rfl rfl rfl rfl rfl rfl ⟨rfl, rfl, rfl, rfl, rfl⟩ rfl rfl rfl rfl rfl (by kernel_rfl) Try.func6 (by kernel_rfl)
    (of_decide_eq_true (by kernel_rfl)) (by unfold Func.isWrapper; first | (rw [if_pos (by decide +kernel)]; kernel_rfl) | (rw [if_neg (by decide +kernel)]; exact ⟨rfl, rfl⟩))
    (fun os started H enc _ => lifted os started H enc)

theorem proved : Rows.LinksMeansSaid := over
end Go.Proofs.Ytbjgjhhombalpaa.linksMeans
