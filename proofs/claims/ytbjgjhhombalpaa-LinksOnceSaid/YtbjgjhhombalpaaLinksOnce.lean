/-
  Proved: LinksOnce answers true for every row of cells and every table.
-/
import Derived.Test.YtbjgjhhombalpaaOpen
import Derived.Test.YtbjgjhhombalpaaWeights
import Derived.Test.YtbjgjhhombalpaaLinksIn
import Derived.Test.YtbjgjhhombalpaaLinksFixed
import Derived.Test.YtbjgjhhombalpaaLinksRefRight
import Derived.WalkKit
namespace Go.Proofs.Ytbjgjhhombalpaa.linksOnce
open Go.ChangeShapes Go.WideShapes Go.ChangeAt Go.RowKit

theorem canonC_lk {cs : List Ce} {l : List ByteArray} : ∀ x ∈ canonC cs l, 0 ≤ x.p.lk ∧ x.p.lk ≤ (canonL cs l).length := by
  intro x hx
  obtain ⟨c, _, rfl⟩ := List.mem_map.1 hx
  show 0 ≤ numI _ _ ∧ numI _ _ ≤ _
  unfold numI
  split
  · omega
  · have h1 := placeI_ge (canonL cs l) (leadsS l c.p.lk)
    have h2 := placeI_lt (canonL cs l) (leadsS l c.p.lk)
    omega
/-- What stays as it is: what came in, and what was answered. -/
structure St (w : World) (A : Option Addr) (n : Nat) (cs : List Ce) (A' : Option Addr) (m : Nat) (L : List ByteArray) (A1 A3 : Option Addr) (C : List Ce) (A2 A4 : Option Addr) (M : List ByteArray) (wr : World) : Prop where
  bel : Below w.heap.size w wr
  c0 : Vs ceV wr A n cs
  t0 : Vs stV wr A' m L
  c1 : Vs ceV wr A1 C.length C
  t1 : Vs stV wr A2 M.length M
  c2 : Vs ceV wr A3 C.length C
  t2 : Vs stV wr A4 M.length M
theorem St.below {w : World} {A : Option Addr} {n : Nat} {cs : List Ce} {A' : Option Addr} {m : Nat} {L : List ByteArray} {A1 A3 : Option Addr} {C : List Ce} {A2 A4 : Option Addr} {M : List ByteArray} {wr w' : World} (h : St w A n cs A' m L A1 A3 C A2 A4 M wr) (hb : Below wr.heap.size wr w') : St w A n cs A' m L A1 A3 C A2 A4 M w' :=
  ⟨h.bel.trans (hb.mono h.bel.size), h.c0.below hb, h.t0.below hb, h.c1.below hb, h.t1.below hb, h.c2.below hb, h.t2.below hb⟩
theorem St.drewN {w : World} {A : Option Addr} {n : Nat} {cs : List Ce} {A' : Option Addr} {m : Nat} {L : List ByteArray} {A1 A3 : Option Addr} {C : List Ce} {A2 A4 : Option Addr} {M : List ByteArray} {wr : World} (h : St w A n cs A' m L A1 A3 C A2 A4 M wr) (q : Nat) : St w A n cs A' m L A1 A3 C A2 A4 M (wr.drewN q) :=
  h.below (below_drewN' (Below.refl _ _) q)
set_option maxHeartbeats 2000000 in
/-- The walk. -/
theorem walk {A A' : Option Addr} {n c m c' : Nat} {cs : List Ce} {L : List ByteArray} (w : World) (hc : Vs ceV w A n cs ∧ (∀ x ∈ cs, 0 ≤ x.p.lk ∧ x.p.lk ≤ 65535) ∧ n ≤ c ∧ c ≤ maxLen) (ht : Vs stV w A' m L ∧ (∀ s ∈ L, s.size ≤ 140737488351232) ∧ m ≤ 140737488351232 ∧ m ≤ c' ∧ c' ≤ maxLen) :
    Calls Try.prog 7 #[.slice A n c, .slice A' m c'] w fun e w' => e = .returned (.bool true) ∧ Below w.heap.size w w' := by
  obtain ⟨hc1, hc2, hc3, hc4⟩ := hc
  obtain ⟨ht1, ht2, ht3, ht4, _⟩ := ht
  unfold maxLen at hc4
  have H := Lib.hid (And.intro hc1 ht1)
  have HL := Lib.hid (And.intro hc2 ht2)
  clear hc1 hc2 ht1 ht2
  go_enter Try.func7, Try.ntmps7
  go_wp2_with fail
  refine (greatT_any (m := n) H.out.2 ht3 (by omega) HL.out.2).mono ?_
  rintro e w' ⟨rfl, rfl⟩
  cases hg : greatT n L
  · obtain ⟨g1, g2⟩ := greatT_no hg
    have g3 : m ≤ 16384 := by have := sumT_len L; have := H.out.2.len; omega
    clear hg g1
    go_wp2_with fail
    refine (canon_any H.out.1 H.out.2 HL.out.1 HL.out.2 (by omega) (by omega)).mono ?_
    rintro e w1 ⟨hb1, A1, c1, A2, c2, rfl, hC, hT⟩
    have HX := Lib.hid (And.intro hb1 (And.intro hC hT))
    clear hb1 hC hT
    have HN : Hid ((canonC cs L).length ≤ 3000 ∧ (canonL cs L).length ≤ 3000 ∧ (∀ x ∈ canonC cs L, 0 ≤ x.p.lk ∧ x.p.lk ≤ 65535) ∧ ∀ s ∈ canonL cs L, s.size ≤ 140737488351232) := Lib.hid (by
      have h1 := canonC_len cs L
      have h2 := canonL_cells cs L
      have h3 := H.out.1.len
      refine ⟨by omega, by omega, fun x hx => ?_, fun s hs => HL.out.2 s (canonL_may hs).2⟩
      have := canonC_lk x hx
      omega)
    have HE : Hid (ordC cs L = (decide (m ≤ 16) && decide (canonC cs L = cs) && decide (canonL cs L = L))) := Lib.hid (by
      rw [ord_is fun c hc => (HL.out.1 c hc).1]
      unfold ordS
      rw [H.out.2.len])
    have HCA : Hid (canonC (canonC cs L) (canonL cs L) = canonC cs L ∧ canonL (canonC cs L) (canonL cs L) = canonL cs L) := Lib.hid ⟨canonC_again cs L, canonL_again cs L⟩
    obtain ⟨C, hC⟩ : ∃ C, canonC cs L = C := ⟨_, rfl⟩
    obtain ⟨M, hM⟩ : ∃ M, canonL cs L = M := ⟨_, rfl⟩
    rw [hC, hM] at HCA HE HN HX ⊢
    clear hC hM
    go_wp2_with fail
    refine (canon_any HX.out.2.1.vs HX.out.2.2.vs HN.out.2.2.1 HN.out.2.2.2 (by have := HN.out.1; omega) (by have := HN.out.2.1; omega)).mono ?_
    rw [HCA.out.1, HCA.out.2]
    rintro e w2 ⟨hb2, A3, c3, A4, c4, rfl, hC, hT⟩
    have HY := Lib.hid (And.intro (HX.out.1.trans (hb2.mono HX.out.1.size)) (And.intro (And.intro hC hT) (And.intro (HX.out.2.1.below hb2) (HX.out.2.2.below hb2))))
    clear hb2 hC hT HX
    have nC := HN.out.1
    have nM := HN.out.2.1
    have hVc := H.out.1.below HY.out.1
    have hVt := H.out.2.below HY.out.1
    have HV := Lib.hid (And.intro hVc hVt)
    clear hVc hVt
    have S0 : Hid (St w A n cs A' m L A1 A3 C A2 A4 M w2) := Lib.hid ⟨HY.out.1, HV.out.1, HV.out.2, HY.out.2.2.1.vs, HY.out.2.2.2.vs, HY.out.2.1.1.vs, HY.out.2.1.2.vs⟩
    clear HY HV HCA
    by_cases h16 : m ≤ 16
    · have h16' : (m : Int) ≤ 16 := by omega
      go_wp2_with fail
      refine (sameC_any S0.out.c1 S0.out.c0 (by omega) (by omega)).mono ?_
      rintro e w3 ⟨rfl, q, hw⟩
      have S1 := Lib.hid (hw ▸ S0.out.drewN q)
      clear S0 hw
      obtain ⟨B, hB⟩ : ∃ B, decide (C = cs) = B := ⟨_, rfl⟩
      rw [hB]
      cases B
      · have HO : Hid (ordC cs L = false) := Lib.hid (by rw [HE.out, hB]; simp)
        clear hB
        go_wp2_with fail
        refine (fixedT_any _).mono ?_
        rintro e wa ⟨rfl, hb⟩
        have Sa := Lib.hid (S1.out.below hb)
        clear hb S1
        go_wp2_with fail
        refine (sameC_any Sa.out.c1 Sa.out.c2 (by omega) (by omega)).mono ?_
        rw [decide_eq_true rfl]
        rintro e wb ⟨rfl, q, hw⟩
        have Sb2 := Lib.hid (hw ▸ Sa.out.drewN q)
        clear Sa hw
        go_wp2_with fail
        refine (sameT_any Sb2.out.t1 Sb2.out.t2 (by omega) (by omega)).mono ?_
        rw [decide_eq_true rfl]
        rintro e wd ⟨rfl, q2, hw⟩
        have Sd := Lib.hid (hw ▸ Sb2.out.drewN q2)
        clear Sb2 hw
        go_wp2_with fail
        refine (right_any Sd.out.c0 Sd.out.t0 HL.out.1 HL.out.2 (by omega) (by omega) ht4).mono ?_
        rw [HO.out]
        rintro e we ⟨rfl, hb⟩
        have Se := Lib.hid (Sd.out.below hb)
        clear hb Sd
        go_wp2_with fail
        go_ret
        exact ⟨rfl, Se.out.bel⟩
      · go_wp2_with fail
        refine (sameT_any S1.out.t1 S1.out.t0 (by omega) (by omega)).mono ?_
        rintro e w4 ⟨rfl, q5, hw⟩
        have S2 := Lib.hid (hw ▸ S1.out.drewN q5)
        clear S1 hw
        obtain ⟨B2, hB2⟩ : ∃ B, decide (M = L) = B := ⟨_, rfl⟩
        have HO : Hid (ordC cs L = B2) := Lib.hid (by rw [HE.out, hB, hB2, decide_eq_true h16]; simp)
        rw [hB2]
        clear hB hB2
        cases B2
        · skip
          go_wp2_with fail
          refine (fixedT_any _).mono ?_
          rintro e wa ⟨rfl, hb⟩
          have Sa := Lib.hid (S2.out.below hb)
          clear hb S2
          go_wp2_with fail
          refine (sameC_any Sa.out.c1 Sa.out.c2 (by omega) (by omega)).mono ?_
          rw [decide_eq_true rfl]
          rintro e wb ⟨rfl, q, hw⟩
          have Sb2 := Lib.hid (hw ▸ Sa.out.drewN q)
          clear Sa hw
          go_wp2_with fail
          refine (sameT_any Sb2.out.t1 Sb2.out.t2 (by omega) (by omega)).mono ?_
          rw [decide_eq_true rfl]
          rintro e wd ⟨rfl, q2, hw⟩
          have Sd := Lib.hid (hw ▸ Sb2.out.drewN q2)
          clear Sb2 hw
          go_wp2_with fail
          refine (right_any Sd.out.c0 Sd.out.t0 HL.out.1 HL.out.2 (by omega) (by omega) ht4).mono ?_
          rw [HO.out]
          rintro e we ⟨rfl, hb⟩
          have Se := Lib.hid (Sd.out.below hb)
          clear hb Sd
          go_wp2_with fail
          go_ret
          exact ⟨rfl, Se.out.bel⟩
        · skip
          go_wp2_with fail
          refine (fixedT_any _).mono ?_
          rintro e wa ⟨rfl, hb⟩
          have Sa := Lib.hid (S2.out.below hb)
          clear hb S2
          go_wp2_with fail
          refine (sameC_any Sa.out.c1 Sa.out.c2 (by omega) (by omega)).mono ?_
          rw [decide_eq_true rfl]
          rintro e wb ⟨rfl, q, hw⟩
          have Sb2 := Lib.hid (hw ▸ Sa.out.drewN q)
          clear Sa hw
          go_wp2_with fail
          refine (sameT_any Sb2.out.t1 Sb2.out.t2 (by omega) (by omega)).mono ?_
          rw [decide_eq_true rfl]
          rintro e wd ⟨rfl, q2, hw⟩
          have Sd := Lib.hid (hw ▸ Sb2.out.drewN q2)
          clear Sb2 hw
          go_wp2_with fail
          refine (right_any Sd.out.c0 Sd.out.t0 HL.out.1 HL.out.2 (by omega) (by omega) ht4).mono ?_
          rw [HO.out]
          rintro e we ⟨rfl, hb⟩
          have Se := Lib.hid (Sd.out.below hb)
          clear hb Sd
          go_wp2_with fail
          go_ret
          exact ⟨rfl, Se.out.bel⟩
    · have h16' : ¬ (m : Int) ≤ 16 := by omega
      have HO : Hid (ordC cs L = false) := Lib.hid (by rw [HE.out, decide_eq_false h16]; simp)
      go_wp2_with fail
      refine (fixedT_any _).mono ?_
      rintro e wa ⟨rfl, hb⟩
      have Sa := Lib.hid (S0.out.below hb)
      clear hb S0
      go_wp2_with fail
      refine (sameC_any Sa.out.c1 Sa.out.c2 (by omega) (by omega)).mono ?_
      rw [decide_eq_true rfl]
      rintro e wb ⟨rfl, q, hw⟩
      have Sb2 := Lib.hid (hw ▸ Sa.out.drewN q)
      clear Sa hw
      go_wp2_with fail
      refine (sameT_any Sb2.out.t1 Sb2.out.t2 (by omega) (by omega)).mono ?_
      rw [decide_eq_true rfl]
      rintro e wd ⟨rfl, q2, hw⟩
      have Sd := Lib.hid (hw ▸ Sb2.out.drewN q2)
      clear Sb2 hw
      go_wp2_with fail
      refine (right_any Sd.out.c0 Sd.out.t0 HL.out.1 HL.out.2 (by omega) (by omega) ht4).mono ?_
      rw [HO.out]
      rintro e we ⟨rfl, hb⟩
      have Se := Lib.hid (Sd.out.below hb)
      clear hb Sd
      go_wp2_with fail
      go_ret
      exact ⟨rfl, Se.out.bel⟩
  · clear hg
    go_wp2_with fail
    refine (fixedT_any _).mono ?_
    rintro e w1 ⟨rfl, hb⟩
    go_wp2_with fail
    go_ret
    exact ⟨rfl, hb⟩

set_option maxRecDepth 100000 in
theorem lifted (os : Os) (started : os.Started) (H : Type) (enc : TypeId × Value → H) :
    ReturnsInHanded {} Try.checked os 7 .any (Rows.linksOnceSpec.pre6 enc Try.prog Try.f7 Rows.linksOnceRow.domain false) (Rows.linksOnceSpec.post enc Try.prog Try.f7 false true false false) := by
  refine returnsInHanded_of_change_sized (C := Try.checked) own started (by kernel_rfl) Try.func7
    (ChangeSpec.witness6 (enc := enc) (C := Try.checked) false ⟨#[], #[.slice none 0 0, .slice none 0 0], []⟩ 8 (by kernel_rfl) (by kernel_rfl) (by kernel_rfl) (by kernel_rfl)) ?_
  intro W base args ds gs before hval0 hW _ hsz0 _
  have hsz : (DataW.weightsEach Try.prog (Try.f7.params.toList ++ Rows.linksOnceSpec.plain.varTypes Try.prog) (ds ++ gs)).all (· ≤ reachBytes) = true := hsz0
  clear hsz0
  have hval : ∀ (j : Nat) t v, Try.f7.params[j]? = some t → args[j]? = some v → Value.okWide Try.prog W .any base t v := hval0
  have hW' := hW
  obtain ⟨p, q, hA0, hV, rfl, _, _⟩ := hW
  have hA : DataW.TrodAll enc Try.prog W 0 (fun _ => true) true Try.f7.params.toList args.toList ds p := hA0
  rw [Try.params7] at hA hval hsz
  obtain ⟨v0, vs0, d0, ds0, p0, q0, hargs, rfl, rfl, h0, r0⟩ := trodAll_cons hA
  obtain ⟨v1, vs1, d1, ds1, p1, q1, rfl, rfl, rfl, h1, r1⟩ := trodAll_cons r0
  obtain ⟨rfl, rfl, rfl⟩ := trodAll_nil r1
  obtain rfl : args = #[v0, v1] := by cases args; simp_all
  obtain ⟨rfl, rfl⟩ := trodVars_none hV
  have lt0 : ∀ x ∈ p0, x.block < W.heap.size := by obtain ⟨m, hm⟩ := h0; exact DataW.trod_lt m _ _ _ hm
  obtain ⟨A0, n0, c0, L0, rfl, s0⟩ := open_cellsL (hval 0 41 v0 rfl rfl) h0
  have lt1 : ∀ x ∈ p1, x.block < W.heap.size := by obtain ⟨m, hm⟩ := h1; exact DataW.trod_lt m _ _ _ hm
  obtain ⟨A1, n1, c1, L1, rfl, s1⟩ := open_texts (weights_at hsz (j := 1) rfl rfl) (hval 1 23 v1 rfl rfl) h1
  clear hA0 hval0
  refine (walk W s0 s1).mono fun e W' ⟨he, bel⟩ => ?_
  subst he
  exact ⟨_, rfl, _, _, _, [], _, [], hW', trodAll_mk1 (shut_bool Try.underlying4 _), (trodAll_cons_mk (Below.trod laidOut (by kernel_rfl) (of_decide_eq_true (by kernel_rfl)) h0 bel lt0) (trodAll_cons_mk (Below.trod laidOut (by kernel_rfl) (of_decide_eq_true (by kernel_rfl)) h1 bel lt1) trodAll_mk0)), rfl, bel.frame _, fun h => by cases h⟩

theorem over : Rows.linksOnceRow.holds Try.pinned (OpenSpec.ofChange Rows.linksOnceSpec) :=
  OpenClaim.holds_of_wide 7 Try.f7 rfl rfl rfl rfl rfl rfl rfl ⟨rfl, rfl, rfl, rfl, rfl⟩ rfl rfl rfl rfl rfl (by kernel_rfl) Try.func7 (by kernel_rfl)
    (of_decide_eq_true (by kernel_rfl)) (by unfold Func.isWrapper; first | (rw [if_pos (by decide +kernel)]; kernel_rfl) | (rw [if_neg (by decide +kernel)]; exact ⟨rfl, rfl⟩))
    (fun os started H enc _ => lifted os started H enc)

theorem proved : Rows.LinksOnceSaid := over
end Go.Proofs.Ytbjgjhhombalpaa.linksOnce
