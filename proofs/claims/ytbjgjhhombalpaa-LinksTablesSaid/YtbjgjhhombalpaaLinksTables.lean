/-
  Proved: LinksTables answers true for every table and every call.
-/
import Derived.Test.YtbjgjhhombalpaaOpen
import Derived.Test.YtbjgjhhombalpaaWeights
import Derived.Test.YtbjgjhhombalpaaLinksIn
import Derived.Test.YtbjgjhhombalpaaLinksFixed
import Derived.Test.YtbjgjhhombalpaaLinksRefRight
import Derived.WalkKit
import Derived.Deep.RegionHeld3
namespace Go.Proofs.Ytbjgjhhombalpaa.linksTables
open Go.ChangeShapes Go.WideShapes Go.ChangeAt Go.RowKit

theorem intern_mem {t : List ByteArray} {u s : ByteArray} (h : s ∈ (internS t u).1) : s ∈ t ∨ s = u := by
  by_cases hm : mayT u = true
  · rcases intern_cases (t := t) hm with ⟨k, hk, _, e⟩ | ⟨_, _, e⟩ | ⟨_, e⟩ <;> rw [e] at h
    · exact List.mem_or_eq_of_mem_set h
    · rcases List.mem_append.1 h with h | h
      · exact Or.inl h
      · exact Or.inr (List.mem_singleton.1 h)
    · cases h
  · rw [internS_no (by simpa using hm)] at h
    cases h
theorem intern_len (t : List ByteArray) (u : ByteArray) : (internS t u).1.length ≤ t.length + 1 := by
  by_cases hm : mayT u = true
  · rcases intern_cases (t := t) hm with ⟨k, hk, _, e⟩ | ⟨_, _, e⟩ | ⟨_, e⟩ <;> rw [e] <;> simp
  · rw [internS_no (by simpa using hm)]
    simp
theorem belowN {B : Nat} {a w : World} (h : Below B a w) (q : Nat) : Below B a (w.drewN q) := below_drewN' h q
/-- What stays: the table, its copy, the call. -/
structure Sv (w : World) (A A5 : Option Addr) (L : List ByteArray) (o : OpT) (b : Nat) (wr : World) : Prop where
  bel : Below w.heap.size w wr
  t : Vs stV wr A L.length L
  own : Vs stV wr A5 L.length L
  ik : Ik .u16 wr o.A o.n o.us
  lt : b < wr.heap.size
  c1 : wr.cell? ⟨b, 1, none⟩ = some (.string o.u)
  c2 : wr.cell? ⟨b, 2, none⟩ = some (.slice o.A o.n o.c)
theorem Sv.below {w : World} {A A5 : Option Addr} {L : List ByteArray} {o : OpT} {b : Nat} {wr w' : World} (h : Sv w A A5 L o b wr) (hb : Below wr.heap.size wr w') : Sv w A A5 L o b w' := by
  have hlt := h.lt
  exact ⟨h.bel.trans (hb.mono h.bel.size), h.t.below hb, h.own.below hb, h.ik.below hb, by have := hb.size; omega, (hb.cell hlt).trans h.c1, (hb.cell hlt).trans h.c2⟩
set_option maxRecDepth 100000 in
set_option maxHeartbeats 4000000 in
/-- The walk. -/
theorem walk {A : Option Addr} {n c : Nat} {L : List ByteArray} {o : OpT} (w : World) (ht : Vs stV w A n L ∧ (∀ s ∈ L, s.size ≤ 140737488351232) ∧ n ≤ 140737488351232 ∧ n ≤ c ∧ c ≤ maxLen) (ho : OpTOk w o) :
    Calls Try.prog 4 #[.slice A n c, .agg (opTA o)] w fun e w' => e = .returned (.bool true) ∧ Below w.heap.size w w' := by
  obtain ⟨ht1, ht2, ht3, ht4, _⟩ := ht
  obtain rfl := ht1.len
  obtain ⟨sw, u, Au, mu, cu, us⟩ := o
  have hus := ho.size
  have hum := Nat.le_trans ho.le ho.max
  simp only at hus hum
  unfold maxLen at hus hum
  obtain ⟨b, hb⟩ : ∃ b, b = w.heap.size := ⟨_, rfl⟩
  have HW : Hid (Below w.heap.size w (w.alloc (.cells #[.bool sw, .string u, .slice Au mu cu] 27)) ∧ Vs stV (w.alloc (.cells #[.bool sw, .string u, .slice Au mu cu] 27)) A L.length L ∧ Ik .u16 (w.alloc (.cells #[.bool sw, .string u, .slice Au mu cu] 27)) Au mu us ∧ b < (w.alloc (.cells #[.bool sw, .string u, .slice Au mu cu] 27)).heap.size ∧
      (w.alloc (.cells #[.bool sw, .string u, .slice Au mu cu] 27)).cell? ⟨b, 1, none⟩ = some (.string u) ∧ (w.alloc (.cells #[.bool sw, .string u, .slice Au mu cu] 27)).cell? ⟨b, 2, none⟩ = some (.slice Au mu cu)) := Lib.hid (by
    have hbl : Below w.heap.size w (w.alloc (.cells #[.bool sw, .string u, .slice Au mu cu] 27)) := (Below.refl _ _).alloc (Nat.le_refl _) _
    refine ⟨hbl, ht1.below hbl, ho.ik.below hbl, by simp [hb], ?_, ?_⟩ <;> rw [hb, cell_of_row _ _ _ _ _ _ (heap_alloc_new w _)] <;> rfl)
  have HB := Lib.hid hb
  have HL := Lib.hid (And.intro ht2 ho.us)
  unfold opTA
  clear ht1 ht2 ho hb
  go_enter Try.func4, Try.ntmps4
  go_wp2_with fail
  rw [← HB.out]
  generalize w.alloc (.cells #[.bool sw, .string u, .slice Au mu cu] 27) = w0 at HW ⊢
  have hc1 := HW.out.2.2.2.2.1
  have hc2 := HW.out.2.2.2.2.2
  refine (greatT_any (A' := none) (m := 0) (c' := 0) HW.out.2.1 ht3 (by omega) HL.out.1).mono ?_
  rintro e w' ⟨rfl, rfl⟩
  by_cases hg : greatT 0 L = false ∧ u.size ≤ 1000 ∧ mu ≤ 1000
  · obtain ⟨hg, hu1, hm1⟩ := hg
    obtain ⟨g1, _⟩ := greatT_no hg
    rw [hg]
    have g3 : L.length ≤ 16384 := by have := sumT_len L; omega
    have hu2 : ¬ (1000 : Int) < (u.size : Int) := by omega
    have hm2 : ¬ (1000 : Int) < (mu : Int) := by omega
    clear hg g1
    go_wp2_with fail
    refine (copyT_any HW.out.2.1 (by omega)).mono ?_
    rintro e w1 ⟨v, rfl, hb1, A5, c5, rfl, hT5⟩
    have S1 : Hid (Sv w A A5 L ⟨sw, u, Au, mu, cu, us⟩ b w1) := Lib.hid ⟨HW.out.1.trans (hb1.mono HW.out.1.size), HW.out.2.1.below hb1, hT5.vs, HW.out.2.2.1.below hb1, by have := hb1.size; have := HW.out.2.2.2.1; omega, (hb1.cell HW.out.2.2.2.1).trans hc1, (hb1.cell HW.out.2.2.2.1).trans hc2⟩
    have hc5 := hT5.le
    clear hb1 hT5 hc1 hc2 HW
    have hc1 := S1.out.c1
    have hc2 := S1.out.c2
    simp only at hc1 hc2
    go_wp2_with fail
    refine (intern_any S1.out.own u (by omega) hc5 (by omega)).mono ?_
    obtain ⟨⟨U, k, z⟩, hX⟩ : ∃ X, internS L u = X := ⟨_, rfl⟩
    have hUl := intern_len L u
    have HUM : Hid (∀ s ∈ U, s.size ≤ 140737488351232) := Lib.hid (fun s hs => by
      rcases intern_mem (t := L) (u := u) (s := s) (by rw [hX]; exact hs) with h | h
      · exact HL.out.1 s h
      · rw [h]; omega)
    rw [hX] at hUl ⊢
    have HXX := Lib.hid hX
    simp only at hUl
    rintro e w2 ⟨v, rfl, hb2, A6, c6, rfl, hT6⟩
    simp only at hT6 ⊢
    have S2 := Lib.hid (And.intro (S1.out.below hb2) (And.intro hT6 hb2))
    clear hb2 hT6 hc1 hc2 hX
    have hc1 := S2.out.1.c1
    have hc2 := S2.out.1.c2
    simp only at hc1 hc2
    go_wp2_with fail
    refine (refIntern_any S2.out.1.t u (by omega) (by omega)).mono ?_
    rw [HXX.out]
    rintro e w3 ⟨v, rfl, hb3, A9, c9, rfl, hT9⟩
    simp only at hT9 ⊢
    have S3 := Lib.hid (And.intro (S2.out.1.below hb3) (And.intro (S2.out.2.1.below hb3) (And.intro hT9.vs (S2.out.2.2.trans (hb3.mono S2.out.2.2.size)))))
    clear hb3 hT9 hc1 hc2 S2
    have hc1 := S3.out.1.c1
    have hc2 := S3.out.1.c2
    simp only at hc1 hc2
    obtain ⟨B, hB⟩ : ∃ B, mayT u = B := ⟨_, rfl⟩
    have HM : Hid (∀ w', Calls Try.prog 16 #[.string u] w' fun e w'' => e = .returned (.bool B) ∧ w' = w'') := Lib.hid (fun w' => by rw [← hB]; exact mayT_any u w' (by omega))
    have HRM : Hid (∀ w', Calls Try.prog 17 #[.string u] w' fun e w'' => e = .returned (.bool B) ∧ w' = w'') := Lib.hid (fun w' => by rw [← hB]; exact refMayT_any u w' (by omega))
    have HF : Hid (∀ w', Below w3.heap.size w3 w' → Calls Try.prog 8 #[] w' fun e w'' => e = .returned (.bool true) ∧ Below w3.heap.size w3 w'') := Lib.hid (fun w' hb => (fixedT_any w').mono fun e w'' h => ⟨h.1, hb.trans (h.2.mono hb.size)⟩)
    have HS1 : Hid (∀ w', Below w3.heap.size w3 w' → Calls Try.prog 12 #[.slice A6 U.length c6, .slice A9 U.length c9] w' fun e w'' => e = .returned (.bool true) ∧ Below w3.heap.size w3 w'') := Lib.hid (fun w' hb => (sameT_any (S3.out.2.1.vs.below hb) (S3.out.2.2.1.below hb) (by omega) (by omega)).mono fun e w'' h => by
      obtain ⟨h1, q, h2⟩ := h
      rw [decide_eq_true rfl] at h1
      exact ⟨h1, by rw [h2]; exact belowN hb q⟩)
    obtain ⟨Z, hZ⟩ : ∃ Z, sweepS L us = Z := ⟨_, rfl⟩
    have hZl : Z.length ≤ 16384 := by have := sweepS_len L us; rw [hZ] at this; omega
    have HSW : Hid (∀ w', Below w3.heap.size w3 w' → Calls Try.prog 10 #[.slice A5 L.length c5, .slice Au mu cu] w' fun e w'' => ∃ A1 c1, e = .returned (.slice A1 Z.length c1) ∧ Vs stV w'' A1 Z.length Z ∧ Below w3.heap.size w3 w'') := Lib.hid (fun w' hb => by
      have S := S3.out.1.below hb
      refine (sweep_any S.own S.ik HL.out.2 (by omega) (by simp only; omega)).mono fun e w'' h => ?_
      rw [hZ] at h
      obtain ⟨v, rfl, hb2, A1, c1, rfl, hT⟩ := h
      exact ⟨A1, c1, rfl, hT.vs, hb.trans (hb2.mono hb.size)⟩)
    have HRS : Hid (∀ (w' : World) (A1 : Option Addr), Vs stV w' A1 Z.length Z → Below w3.heap.size w3 w' → Calls Try.prog 11 #[.slice A L.length c, .slice Au mu cu] w' fun e w'' => ∃ A2 c2, e = .returned (.slice A2 Z.length c2) ∧ (Vs stV w'' A1 Z.length Z ∧ Vs stV w'' A2 Z.length Z) ∧ Below w3.heap.size w3 w'') := Lib.hid (fun w' A1 hv hb => by
      have S := S3.out.1.below hb
      refine (refSweep_any S.t S.ik HL.out.2 (by omega) (by simp only; omega)).mono fun e w'' h => ?_
      rw [hZ] at h
      obtain ⟨v, rfl, hb2, A2, c2, rfl, hT⟩ := h
      exact ⟨A2, c2, rfl, ⟨hv.below hb2, hT.vs⟩, hb.trans (hb2.mono hb.size)⟩)
    have HS2 : Hid (∀ (w' : World) (A1 A2 : Option Addr) (c1 c2 : Nat), (Vs stV w' A1 Z.length Z ∧ Vs stV w' A2 Z.length Z) → Below w3.heap.size w3 w' → Calls Try.prog 12 #[.slice A1 Z.length c1, .slice A2 Z.length c2] w' fun e w'' => e = .returned (.bool true) ∧ Below w3.heap.size w3 w'') := Lib.hid (fun w' A1 A2 c1 c2 hv hb => (sameT_any hv.1 hv.2 (by omega) (by omega)).mono fun e w'' h => by
      obtain ⟨h1, q, h2⟩ := h
      rw [decide_eq_true rfl] at h1
      exact ⟨h1, by rw [h2]; exact belowN hb q⟩)
    have SX : Hid (∀ w', Below w3.heap.size w3 w' → (Below w3.heap.size w3 w' ∧ (w'.cell? ⟨b, 1, none⟩ = some (.string u) ∧ w'.cell? ⟨b, 2, none⟩ = some (.slice Au mu cu)))) := Lib.hid (fun w' hb => by
      have S := S3.out.1.below hb
      exact ⟨hb, S.c1, S.c2⟩)
    have hBB : (B != B) = false := by simp
    have hzz : (z != z) = false := by simp
    have hkk : (k != k) = false := by simp
    have hb0 : Below w3.heap.size w3 w3 := Below.refl _ _
    clear hB hZ
    go_wp2_with fail
    go_region_held3 (fun w' => Below w3.heap.size w3 w' ∧ (w'.cell? ⟨b, 1, none⟩ = some (.string u) ∧ w'.cell? ⟨b, 2, none⟩ = some (.slice Au mu cu)))
      ((refine SX.out _ ?_; (try go_split_ands); first | assumption | exact belowN (by assumption) 1))
      ((first
        | (go_at_call 8; (try go_split_ands); refine (HF.out _ (by assumption)).mono ?_; rintro e w4 ⟨rfl, hb4⟩)
        | (go_at_call 16; (try go_split_ands); refine (HM.out _).mono ?_; rintro e w5 ⟨rfl, rfl⟩)
        | (go_at_call 17; (try go_split_ands); refine (HRM.out _).mono ?_; rintro e w5 ⟨rfl, rfl⟩)
        | (go_at_call 12; (try go_split_ands); (with_reducible refine (HS1.out _ (by assumption)).mono ?_); rintro e w6 ⟨rfl, hb6⟩)
        | (go_at_call 10; (try go_split_ands); refine (HSW.out _ (by assumption)).mono ?_; rintro e w7 ⟨A7, c7, rfl, hv7, hb7⟩)
        | (go_at_call 11; (try go_split_ands); refine (HRS.out _ _ hv7 (by assumption)).mono ?_; rintro e w8 ⟨A8, c8, rfl, ⟨hv8, hv10⟩, hb8⟩)
        | (go_at_call 12; (try go_split_ands); (with_reducible refine (HS2.out _ _ _ _ _ ⟨hv8, hv10⟩ (by assumption)).mono ?_); rintro e w9 ⟨rfl, hb9⟩)))
    have SB := Lib.hid (S3.out.1.below hb9)
    have ST := Lib.hid (show Tx w1.heap.size w9 A6 U.length c6 U ∧ Below w1.heap.size w1 w9 from ⟨S3.out.2.1.below hb9, S3.out.2.2.2.trans (hb9.mono S3.out.2.2.2.size)⟩)
    clear hb4 hb6 hv7 hb7 hb8 hv8 hv10 hb9 hb0 S3 HM HRM HF HS1 HSW HRS HS2 SX hBB hzz hkk hc1 hc2 hZl HXX
    go_wp2_with fail
    go_loopw [87] (fun i wr => ∃ (k1 : Nat) (U1 : List ByteArray), k1 ≤ U.length ∧ i = .int .i64 k1 ∧ (∀ j, k1 ≤ j → sAt U1 j = sAt U j) ∧ Tx w1.heap.size wr A6 U.length c6 U1 ∧ Below w1.heap.size w1 wr) (fun i _ => U.length - (intOf i).toNat)
    case atStart => exact ⟨0, U, Nat.zero_le _, rfl, fun _ _ => rfl, ST.out.1, ST.out.2⟩
    case round =>
      obtain ⟨k1, U1, hk1, rfl, hm, hT, hB1⟩ := hrel
      have S2 := Lib.hid (And.intro hm (And.intro hT hB1))
      clear hm hT hB1 ST SB
      by_cases hlt : k1 < U.length
      · obtain ⟨g, rfl, hg, hgl, hfr⟩ := S2.out.2.1.blk (by omega)
        have hc0 := S2.out.2.1.vs.str hlt
        rw [addHead, S2.out.1 k1 (Nat.le_refl _)] at hc0
        have hf0 := hfr k1
        have hs := HUM.out _ (sAt_mem hlt)
        have HN : Hid (∀ s, Tx w1.heap.size (wr.setCell ⟨g, k1, none⟩ (.string s)) (some ⟨g, 0, none⟩) U.length c6 (U1.set k1 s) ∧ Below w1.heap.size w1 (wr.setCell ⟨g, k1, none⟩ (.string s)) ∧ ∀ j, k1 + 1 ≤ j → sAt (U1.set k1 s) j = sAt U j) := Lib.hid (fun s => by
          refine ⟨(S2.out.2.1.stored k1 s).1, S2.out.2.2.setCell hg _, fun j hj => ?_⟩
          have hl := S2.out.2.1.len
          by_cases hjl : j < U1.length
          · rw [sAt_lt (by rw [List.length_set]; exact hjl), List.getElem_set_ne (by omega), ← sAt_lt hjl]
            exact S2.out.1 j (by omega)
          · rw [sAt_ge (by rw [List.length_set]; omega), sAt_ge (by omega)])
        clear hfr hg
        generalize sAt U k1 = x at hc0 hs
        go_wp2_with fail
        go_roundw
        case rel => exact ⟨k1 + 1, _, by omega, by go_num, (HN.out _).2.2, (HN.out _).1, (HN.out _).2.1⟩
        case measure => simp [intOf]; omega
      · have S := Lib.hid (S1.out.below S2.out.2.2)
        clear S2 S1
        go_wp2_with fail
        refine (sameT_any S.out.own S.out.t (by omega) (by omega)).mono ?_
        rw [decide_eq_true rfl]
        rintro e w11 ⟨rfl, q3, hw⟩
        have hbb : Below w.heap.size w w11 := by rw [hw]; exact belowN S.out.bel q3
        clear hw S
        go_wp2_with fail
        go_ret
        exact ⟨rfl, hbb⟩
  · have X : Hid (greatT 0 L = true ∨ (greatT 0 L = false ∧ (1000 < u.size ∨ (u.size ≤ 1000 ∧ 1000 < mu)))) := Lib.hid (by
      cases h : greatT 0 L
      · refine Or.inr ⟨rfl, ?_⟩
        rw [h] at hg
        by_cases hu : u.size ≤ 1000
        · exact Or.inr ⟨hu, Nat.lt_of_not_le fun x => hg ⟨rfl, hu, x⟩⟩
        · exact Or.inl (by omega)
      · exact Or.inl rfl)
    clear hg
    rcases X.out with h | ⟨h, hu | ⟨hu, hm⟩⟩
    · rw [h]
      clear h X
      go_wp2_with fail
      refine (fixedT_any _).mono ?_
      rintro e w1 ⟨rfl, hb⟩
      have hbb := HW.out.1.trans (hb.mono HW.out.1.size)
      clear hb HW
      go_wp2_with fail
      go_ret
      exact ⟨rfl, hbb⟩
    · rw [h]
      clear h X
      have hu2 : (1000 : Int) < (u.size : Int) := by omega
      go_wp2_with fail
      refine (fixedT_any _).mono ?_
      rintro e w1 ⟨rfl, hb⟩
      have hbb := HW.out.1.trans (hb.mono HW.out.1.size)
      clear hb HW
      go_wp2_with fail
      go_ret
      exact ⟨rfl, hbb⟩
    · rw [h]
      clear h X
      have hu2 : ¬ (1000 : Int) < (u.size : Int) := by omega
      have hm2 : (1000 : Int) < (mu : Int) := by omega
      go_wp2_with fail
      refine (fixedT_any _).mono ?_
      rintro e w1 ⟨rfl, hb⟩
      have hbb := HW.out.1.trans (hb.mono HW.out.1.size)
      clear hb HW
      go_wp2_with fail
      go_ret
      exact ⟨rfl, hbb⟩

set_option maxRecDepth 100000 in
theorem lifted (os : Os) (started : os.Started) (H : Type) (enc : TypeId × Value → H) :
    ReturnsInHanded {} Try.checked os 4 .any (Rows.linksTablesSpec.pre6 enc Try.prog Try.f4 Rows.linksTablesRow.domain false) (Rows.linksTablesSpec.post enc Try.prog Try.f4 false true false false) := by
  refine returnsInHanded_of_change_sized (C := Try.checked) own started (by kernel_rfl) Try.func4
    (ChangeSpec.witness6 (enc := enc) (C := Try.checked) false ⟨#[], #[.slice none 0 0, .agg #[.bool false, .string ByteArray.empty, .slice none 0 0]], []⟩ 8 (by kernel_rfl) (by kernel_rfl) (by kernel_rfl) (by kernel_rfl)) ?_
  intro W base args ds gs before hval0 hW _ hsz0 _
  have hsz : (DataW.weightsEach Try.prog (Try.f4.params.toList ++ Rows.linksTablesSpec.plain.varTypes Try.prog) (ds ++ gs)).all (· ≤ reachBytes) = true := hsz0
  clear hsz0
  have hval : ∀ (j : Nat) t v, Try.f4.params[j]? = some t → args[j]? = some v → Value.okWide Try.prog W .any base t v := hval0
  have hW' := hW
  obtain ⟨p, q, hA0, hV, rfl, _, _⟩ := hW
  have hA : DataW.TrodAll enc Try.prog W 0 (fun _ => true) true Try.f4.params.toList args.toList ds p := hA0
  rw [Try.params4] at hA hval hsz
  obtain ⟨v0, vs0, d0, ds0, p0, q0, hargs, rfl, rfl, h0, r0⟩ := trodAll_cons hA
  obtain ⟨v1, vs1, d1, ds1, p1, q1, rfl, rfl, rfl, h1, r1⟩ := trodAll_cons r0
  obtain ⟨rfl, rfl, rfl⟩ := trodAll_nil r1
  obtain rfl : args = #[v0, v1] := by cases args; simp_all
  obtain ⟨rfl, rfl⟩ := trodVars_none hV
  have lt0 : ∀ x ∈ p0, x.block < W.heap.size := by obtain ⟨m, hm⟩ := h0; exact DataW.trod_lt m _ _ _ hm
  obtain ⟨A0, n0, c0, L0, rfl, s0⟩ := open_texts (weights_at hsz (j := 0) rfl rfl) (hval 0 23 v0 rfl rfl) h0
  have lt1 : ∀ x ∈ p1, x.block < W.heap.size := by obtain ⟨m, hm⟩ := h1; exact DataW.trod_lt m _ _ _ hm
  obtain ⟨o1, rfl, s1⟩ := open_opT (hval 1 27 v1 rfl rfl) h1
  clear hA0 hval0
  refine (walk W s0 s1).mono fun e W' ⟨he, bel⟩ => ?_
  subst he
  exact ⟨_, rfl, _, _, _, [], _, [], hW', trodAll_mk1 (shut_bool Try.underlying4 _), (trodAll_cons_mk (Below.trod laidOut (by kernel_rfl) (of_decide_eq_true (by kernel_rfl)) h0 bel lt0) (trodAll_cons_mk (Below.trod laidOut (by kernel_rfl) (of_decide_eq_true (by kernel_rfl)) h1 bel lt1) trodAll_mk0)), rfl, bel.frame _, fun h => by cases h⟩

theorem over : Rows.linksTablesRow.holds Try.pinned (OpenSpec.ofChange Rows.linksTablesSpec) :=
  OpenClaim.holds_of_wide 4 Try.f4 rfl rfl rfl rfl rfl rfl rfl ⟨rfl, rfl, rfl, rfl, rfl⟩ rfl rfl rfl rfl rfl (by kernel_rfl) Try.func4 (by kernel_rfl)
    (of_decide_eq_true (by kernel_rfl)) (by unfold Func.isWrapper; first | (rw [if_pos (by decide +kernel)]; kernel_rfl) | (rw [if_neg (by decide +kernel)]; exact ⟨rfl, rfl⟩))
    (fun os started H enc _ => lifted os started H enc)

theorem proved : Rows.LinksTablesSaid := over
end Go.Proofs.Ytbjgjhhombalpaa.linksTables
