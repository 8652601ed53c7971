/-
  What stands in order: the reference's Right.
-/
import Derived.Test.YtbjgjhhombalpaaLinksRight
import Derived.Test.YtbjgjhhombalpaaCellSame
namespace Go.Proofs.Ytbjgjhhombalpaa
open Go.RowKit

theorem ordS_long {cs : List Ce} {l : List ByteArray} (h : ¬ l.length ≤ 16) : ordS cs l = false := by unfold ordS; rw [decide_eq_false h]; rfl
theorem ordS_else {cs : List Ce} {l : List ByteArray} (h : canonC cs l ≠ cs) : ordS cs l = false := by unfold ordS; rw [decide_eq_false h]; simp
theorem ordS_all {cs : List Ce} {l : List ByteArray} (h1 : l.length ≤ 16) (h2 : canonC cs l = cs) : ordS cs l = decide (canonL cs l = l) := by
  unfold ordS
  rw [decide_eq_true h1, decide_eq_true h2]
  simp
theorem canonC_at {cs : List Ce} {l : List ByteArray} {k : Nat} (hk : k < cs.length) : ∃ q, cAt (canonC cs l) k = setLk (cAt cs k) q := by
  refine ⟨numI (canonL cs l) (leadsS l (cAt cs k).p.lk), ?_⟩
  rw [cAt_lt (by rw [canonC_len]; exact hk), cAt_lt hk]
  simp [canonC]
set_option maxHeartbeats 4000000 in
theorem refRight_any {w : World} {A A' : Option Addr} {n c m c' : Nat} {cs : List Ce} {L : List ByteArray} (h : Vs ceV w A n cs) (h' : Vs stV w A' m L) (hl : ∀ x ∈ cs, 0 ≤ x.p.lk ∧ x.p.lk ≤ 65535) (hs : ∀ s ∈ L, s.size ≤ 140737488351232) (hn : n ≤ 60000) (hm : m ≤ 60000) :
    Calls Try.prog 23 #[.slice A n c, .slice A' m c'] w fun e w' => e = .returned (.bool (ordS cs L)) ∧ Below w.heap.size w w' := by
  obtain rfl := h.len
  obtain rfl := h'.len
  have H := Lib.hid (And.intro h h')
  have HL := Lib.hid (And.intro hl hs)
  clear h h' hl hs
  by_cases h16 : L.length ≤ 16
  · go_enter Try.func23, Try.ntmps23
    go_wp2_with fail
    refine (refCanon_any H.out.1 H.out.2 HL.out.1 HL.out.2 hn hm).mono ?_
    rintro e w1 ⟨hb, A1, c1, A2, c2, rfl, hC, hT⟩
    have e1 := canonC_len cs L
    rw [e1] at hC ⊢
    clear e1
    have X1 := Lib.hid (And.intro hb (And.intro hC hT))
    clear hb hC hT
    go_wp2_with fail
    go_loopw [19] (fun i wr => ∃ (k q : Nat), k ≤ cs.length ∧ i = .int .i64 k ∧ (canonC cs L).take k = cs.take k ∧ wr = w1.drewN q) (fun i _ => cs.length - (intOf i).toNat)
    case atStart => exact ⟨0, 0, Nat.zero_le _, rfl, by simp, rfl⟩
    case round =>
      obtain ⟨k, q, hk, rfl, hx, rfl⟩ := hrel
      have HX := Lib.hid hx
      clear hx
      by_cases hlt : k < cs.length
      · have hv := H.out.1.below X1.out.1
        have hv2 := X1.out.2.1.vs
        obtain ⟨ad, rfl⟩ := H.out.1.addr (by omega)
        obtain ⟨ad', rfl⟩ := hv2.addr (by omega)
        obtain ⟨_, _, _, _, _, a5⟩ := hv.six hlt
        obtain ⟨_, _, _, _, _, b5⟩ := hv2.six hlt
        clear hv hv2
        have HT := Lib.hid (take_snocC (xs := canonC cs L) (ys := cs) (k := k) (by rw [canonC_len]; exact hlt) hlt)
        obtain ⟨z, hz⟩ := canonC_at (l := L) hlt
        have HE : Hid (cAt (canonC cs L) k = cAt cs k ↔ z = (cAt cs k).p.lk) := Lib.hid (by
          rw [hz]
          constructor
          · intro h1
            have := congrArg (fun x : Ce => x.p.lk) h1
            exact this
          · rintro rfl
            rfl)
        have b6 : (cAt (canonC cs L) k).p.lk = z := by rw [hz]; rfl
        rw [b6] at b5
        clear b6 hz
        generalize (cAt cs k).p.lk = y at a5 HE
        obtain ⟨B, hB⟩ : ∃ B, (z == y) = B := ⟨_, rfl⟩
        cases B
        · have HD : Hid (ordS cs L = false) := Lib.hid (ordS_else fun e => by
            have h1 := (HT.out.1 (by rw [e])).2
            have h2 := HE.out.1 h1
            rw [beq_eq_false_iff_ne] at hB
            exact hB h2)
          go_wp2
          go_quiet (fail)
          go_wp2
          go_ret
          exact ⟨retBR HD.out.symm, by have := (below_drewN' X1.out.1 q); exact below_drewN' this _⟩
        · have HTT := Lib.hid (HT.out.2 ⟨HX.out, HE.out.2 (beq_iff_eq.1 hB)⟩)
          go_wp2
          go_quiet (fail)
          go_wp2
          go_roundw
          case rel => exact ⟨k + 1, q + nq, by omega, by go_num, HTT.out, rfl⟩
          case measure => simp [intOf]; omega
      · have e : (canonC cs L) = cs := by
          have e1 := HX.out
          rwa [List.take_of_length_le (by rw [canonC_len]; omega), List.take_of_length_le (by omega)] at e1
        have X : Hid (ordS cs L = decide (canonL cs L = L)) := Lib.hid (ordS_all h16 e)
        have HV : Hid (Vs stV (w1.drewN q) A' L.length L) := Lib.hid ((H.out.2.below X1.out.1).drewN q)
        have HV2 : Hid (Vs stV (w1.drewN q) A2 (canonL cs L).length (canonL cs L)) := Lib.hid (X1.out.2.2.vs.drewN q)
        have HCL : Hid ((canonL cs L).length ≤ cs.length) := Lib.hid (canonL_cells cs L)
        clear e
        go_wp2_with fail
        refine (sameT_any HV2.out HV.out (by have := HCL.out; omega) (by omega)).mono ?_
        rintro e w2 ⟨rfl, q2, rfl⟩
        go_wp2_with fail
        go_ret
        exact ⟨retBR X.out.symm, below_drewN' X1.out.1 _⟩
  · have X : Hid (ordS cs L = false) := Lib.hid (ordS_long h16)
    have hgt : (16 : Int) < (L.length : Int) := by omega
    go_enter Try.func23, Try.ntmps23
    go_wp2_with fail
    go_ret
    exact ⟨retBR X.out.symm, Below.refl _ _⟩
end Go.Proofs.Ytbjgjhhombalpaa
