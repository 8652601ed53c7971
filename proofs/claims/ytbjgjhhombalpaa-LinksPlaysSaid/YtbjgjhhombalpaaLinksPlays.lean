/-
  Proved: LinksPlays answers true for every row of calls.
-/
import Derived.Test.YtbjgjhhombalpaaOpen
import Derived.Test.YtbjgjhhombalpaaLinksIn
import Derived.Test.YtbjgjhhombalpaaLinksFixed
import Derived.Test.YtbjgjhhombalpaaLinksRefRight
import Derived.WalkKit
import Derived.Deep.RegionHeld3
namespace Go.Proofs.Ytbjgjhhombalpaa.linksPlays
open Go.ChangeShapes Go.WideShapes Go.ChangeAt Go.RowKit

theorem intern_16 {t : List ByteArray} (u : ByteArray) (h : t.length ≤ 16) : (internS t u).1.length ≤ 16 := by
  by_cases hm : mayT u = true
  · rcases intern_cases (t := t) hm with ⟨k, hk, _, e⟩ | ⟨_, h2, e⟩ | ⟨_, e⟩ <;> rw [e]
    · simpa using h
    · simp; omega
    · simp
  · rw [internS_no (by simpa using hm)]
    simp
theorem belowN {B : Nat} {a w : World} (h : Below B a w) (q : Nat) : Below B a (w.drewN q) := below_drewN' h q
/-- The three cells of a call at a place. -/
structure Thr (w : World) (ad : Addr) (o : OpT) : Prop where
  c0 : w.cell? ad = some (.bool o.sw)
  c1 : w.cell? ⟨ad.block, ad.off + 1, none⟩ = some (.string o.u)
  c2 : w.cell? ⟨ad.block, ad.off + 2, none⟩ = some (.slice o.A o.n o.c)
theorem vs_thr {w : World} {ad : Addr} {n : Nat} {L : List OpT} (h : Vs opT w (some ad) n L) {k : Nat} {o : OpT} (hk : L[k]? = some o) : Thr w (ad.add (k * 3)) o := by
  have h1 := h.get opT_len hk
  exact ⟨by simpa [addZero] using h1 0 _ rfl, by simpa [addStep] using h1 1 _ rfl, by simpa [addStep] using h1 2 _ rfl⟩
/-- What stays: the calls; the two tables read as one. -/
structure Sp (w : World) (A : Option Addr) (n : Nat) (Lo : List OpT) (A3 A4 : Option Addr) (T : List ByteArray) (wr : World) : Prop where
  bel : Below w.heap.size w wr
  ops : Vs opT wr A n Lo
  t : Vs stV wr A3 T.length T
  m : Vs stV wr A4 T.length T
theorem Sp.below {w : World} {A : Option Addr} {n : Nat} {Lo : List OpT} {A3 A4 : Option Addr} {T : List ByteArray} {wr w' : World} (h : Sp w A n Lo A3 A4 T wr) (hb : Below wr.heap.size wr w') : Sp w A n Lo A3 A4 T w' :=
  ⟨h.bel.trans (hb.mono h.bel.size), h.ops.below hb, h.t.below hb, h.m.below hb⟩
/-- .. and the call that is gone through, in its block. -/
structure Sq (w : World) (A : Option Addr) (n : Nat) (Lo : List OpT) (A3 A4 : Option Addr) (T : List ByteArray) (b : Nat) (u : ByteArray) (Au : Option Addr) (mu cu : Nat) (us : List Int) (wr : World) : Prop where
  sp : Sp w A n Lo A3 A4 T wr
  ik : Ik .u16 wr Au mu us
  lt : b < wr.heap.size
  c1 : wr.cell? ⟨b, 1, none⟩ = some (.string u)
  c2 : wr.cell? ⟨b, 2, none⟩ = some (.slice Au mu cu)
theorem Sq.below {w : World} {A : Option Addr} {n : Nat} {Lo : List OpT} {A3 A4 : Option Addr} {T : List ByteArray} {b : Nat} {u : ByteArray} {Au : Option Addr} {mu cu : Nat} {us : List Int} {wr w' : World} (h : Sq w A n Lo A3 A4 T b u Au mu cu us wr) (hb : Below wr.heap.size wr w') : Sq w A n Lo A3 A4 T b u Au mu cu us w' := by
  have hlt := h.lt
  exact ⟨h.sp.below hb, h.ik.below hb, by have := hb.size; omega, (hb.cell hlt).trans h.c1, (hb.cell hlt).trans h.c2⟩
set_option maxRecDepth 100000 in
set_option maxHeartbeats 4000000 in
/-- The walk. -/
theorem walk {A : Option Addr} {n c : Nat} {Lo : List OpT} (w : World) (hops : Vs opT w A n Lo ∧ (∀ o ∈ Lo, OpTOk w o) ∧ n ≤ c ∧ c ≤ maxLen) :
    Calls Try.prog 3 #[.slice A n c] w fun e w' => e = .returned (.bool true) ∧ Below w.heap.size w w' := by
  obtain ⟨h1, h2, h3, h4⟩ := hops
  unfold maxLen at h4
  have hn : n ≤ 9223372036854775807 := by omega
  have H := Lib.hid (And.intro h1 h2)
  clear h1 h2 h3 h4
  go_enter Try.func3, Try.ntmps3
  go_wp2_with fail
  refine (fixedT_any _).mono ?_
  rintro e w0 ⟨rfl, hb⟩
  have S0 : Hid (Sp w A n Lo none none [] w0) := Lib.hid ⟨hb, H.out.1.below hb, Vs.nil _ _, Vs.nil _ _⟩
  clear hb
  go_wp2_with fail
  go_loopw [3, 4, 18] (fun t m i wr => ∃ (k c3 c4 : Nat) (T : List ByteArray) (A3 A4 : Option Addr), k ≤ n ∧ i = .int .i64 k ∧ t = .slice A3 T.length c3 ∧ m = .slice A4 T.length c4 ∧ T.length ≤ 16 ∧ T.length ≤ c3 ∧ Sp w A n Lo A3 A4 T wr) (fun _ _ i _ => n - (intOf i).toNat)
  case atStart => exact ⟨0, 0, 0, [], none, none, Nat.zero_le _, rfl, rfl, rfl, by simp, Nat.le_refl _, S0.out⟩
  case round =>
    obtain ⟨k, c3, c4, T, A3, A4, hk, rfl, rfl, rfl, hT, hc3, hS⟩ := hrel
    have S := Lib.hid hS
    clear hS S0
    have hTi : (T.length : Int) ≤ 16 := by omega
    by_cases hlt : k < n
    · obtain ⟨o, ho⟩ : ∃ o, Lo[k]? = some o := ⟨_, List.getElem?_eq_getElem (by rw [H.out.1.len]; exact hlt)⟩
      obtain ⟨ad, rfl⟩ := H.out.1.addr (by omega)
      obtain ⟨d0, d1, d2⟩ := vs_thr S.out.ops ho
      have hok := H.out.2 o (List.mem_of_getElem? ho)
      obtain ⟨sw, u, Au, mu, cu, us⟩ := o
      have hus := hok.size
      have hum := Nat.le_trans hok.le hok.max
      unfold maxLen at hus hum
      simp only at d0 d1 d2 hus hum
      obtain ⟨b, hb⟩ : ∃ b, b = wr.heap.size := ⟨_, rfl⟩
      have HQ : Hid (Sq w (some ad) n Lo A3 A4 T b u Au mu cu us (wr.alloc (.cells #[.bool sw, .string u, .slice Au mu cu] 27))) := Lib.hid (by
        have hbl : Below wr.heap.size wr (wr.alloc (.cells #[.bool sw, .string u, .slice Au mu cu] 27)) := (Below.refl _ _).alloc (Nat.le_refl _) _
        refine ⟨S.out.below hbl, hok.ik.below (S.out.bel.trans (hbl.mono S.out.bel.size)), by simp [hb], ?_, ?_⟩ <;> rw [hb, cell_of_row _ _ _ _ _ _ (heap_alloc_new wr _)] <;> rfl)
      have hk9 : (k : Int) ≤ 9223372036854775806 := by omega
      have HB := Lib.hid hb
      have HU := Lib.hid hok.us
      clear hb hok ho
      by_cases hbk : k ≤ 200 ∧ u.size ≤ 1000 ∧ mu ≤ 1000
      · obtain ⟨hk2, hu1, hm1⟩ := hbk
        have hk3 : ¬ (200 : Int) < (k : Int) := by omega
        have hu2 : ¬ (1000 : Int) < (u.size : Int) := by omega
        have hm2 : ¬ (1000 : Int) < (mu : Int) := by omega
        go_wp2_with fail
        rw [← HB.out]
        clear d0 d1 d2
        have HC0 : Hid ((wr.alloc (.cells #[.bool sw, .string u, .slice Au mu cu] 27)).cell? ⟨b, 0, none⟩ = some (.bool sw)) := Lib.hid (by rw [HB.out, cell_of_row _ _ _ _ _ _ (heap_alloc_new wr _)]; rfl)
        generalize wr.alloc (.cells #[.bool sw, .string u, .slice Au mu cu] 27) = w1 at HQ HC0 ⊢
        refine (copyT_any HQ.out.sp.t (by omega)).mono ?_
        rintro e w2 ⟨v, rfl, hb, Aw, cw, rfl, hTw⟩
        have hc0 := (hb.cell (p := ⟨b, 0, none⟩) HQ.out.lt).trans HC0.out
        have Q := Lib.hid (And.intro (HQ.out.below hb) hTw.vs)
        clear hb hTw HQ HC0 S
        have hc1 := Q.out.1.c1
        have hc2 := Q.out.1.c2
        cases sw
        · go_wp2_with fail
          refine (intern_any Q.out.1.sp.t u (by omega) hc3 (by omega)).mono ?_
          obtain ⟨⟨U, q, z⟩, hX⟩ : ∃ X, internS T u = X := ⟨_, rfl⟩
          have hUl := intern_16 u hT
          rw [hX] at hUl ⊢
          have HXX := Lib.hid hX
          simp only at hUl
          rintro e w3 ⟨v, rfl, hb3, A5, c5, rfl, hT5⟩
          simp only at hT5 ⊢
          have Q3 := Lib.hid (And.intro (Q.out.1.below hb3) (And.intro (Q.out.2.below hb3) hT5.vs))
          have hc5 := hT5.le
          clear hb3 hT5 hc1 hc2 hc0 hX Q
          have hc1 := Q3.out.1.c1
          have hc2 := Q3.out.1.c2
          go_wp2_with fail
          refine (refIntern_any Q3.out.1.sp.m u (by omega) (by omega)).mono ?_
          rw [HXX.out]
          rintro e w4 ⟨v, rfl, hb4, A6, c6, rfl, hT6⟩
          simp only at hT6 ⊢
          have Q4 := Lib.hid (And.intro (Q3.out.1.below hb4) (And.intro (Q3.out.2.1.below hb4) (And.intro (Q3.out.2.2.below hb4) hT6.vs)))
          clear hb4 hT6 hc1 hc2 Q3 HXX
          have hzz : (z != z) = false := by simp
          have hqq : (q != q) = false := by simp
          go_wp2_with fail
          refine (sameT_any Q4.out.2.2.1 Q4.out.2.2.2 (by omega) (by omega)).mono ?_
          rw [decide_eq_true rfl]
          rintro e w5 ⟨rfl, r, hw⟩
          have hb : Below w4.heap.size w4 w5 := by rw [hw]; exact belowN (Below.refl _ _) r
          have Q5 := Lib.hid (And.intro (Q4.out.1.below hb) (And.intro (Q4.out.2.1.below hb) (And.intro (Q4.out.2.2.1.below hb) (Q4.out.2.2.2.below hb))))
          clear hb hw Q4
          go_wp2_with fail
          refine (sameT_any Q5.out.1.sp.t Q5.out.2.1 (by omega) (by omega)).mono ?_
          rw [decide_eq_true rfl]
          rintro e w6 ⟨rfl, r2, hw⟩
          have hb : Below w5.heap.size w5 w6 := by rw [hw]; exact belowN (Below.refl _ _) r2
          have Q6 := Lib.hid (And.intro (Q5.out.1.below hb).sp (And.intro (Q5.out.2.2.1.below hb) (Q5.out.2.2.2.below hb)))
          clear hb hw Q5
          by_cases hz : z = 0
          · have hz0 : (z == 0) = true := by rw [hz]; rfl
            clear hz
            have HN : Hid (Sp w (some ad) n Lo A5 A6 U w6) := Lib.hid ⟨Q6.out.1.bel, Q6.out.1.ops, Q6.out.2.1, Q6.out.2.2⟩
            clear Q6
            go_wp2_with fail
            go_roundw
            case rel => exact ⟨k + 1, c5, c6, U, A5, A6, by omega, by go_num, rfl, rfl, hUl, hc5, HN.out⟩
            case measure => simp [intOf]; omega
          · have hz0 : (z == 0) = false := by rw [beq_eq_false_iff_ne]; exact hz
            clear hz
            go_wp2_with fail
            go_roundw
            case rel => exact ⟨k + 1, c3, c4, T, A3, A4, by omega, by go_num, rfl, rfl, hT, hc3, Q6.out.1⟩
            case measure => simp [intOf]; omega
        · obtain ⟨Z, hZ⟩ : ∃ Z, sweepS T us = Z := ⟨_, rfl⟩
          have hZl : Z.length ≤ 16 := by have := sweepS_len T us; rw [hZ] at this; omega
          have HSW : Hid (∀ w', Below w2.heap.size w2 w' → Calls Try.prog 10 #[.slice A3 T.length c3, .slice Au mu cu] w' fun e w'' => ∃ A1 c1, e = .returned (.slice A1 Z.length c1) ∧ (Vs stV w'' A1 Z.length Z ∧ Z.length ≤ c1) ∧ Below w2.heap.size w2 w'') := Lib.hid (fun w' hb => by
            have S := Q.out.1.below hb
            refine (sweep_any S.sp.t S.ik HU.out (by omega) (by omega)).mono fun e w'' h => ?_
            rw [hZ] at h
            obtain ⟨v, rfl, hb2, A1, c1, rfl, hT⟩ := h
            exact ⟨A1, c1, rfl, ⟨hT.vs, hT.le⟩, hb.trans (hb2.mono hb.size)⟩)
          have HRS : Hid (∀ (w' : World) (A1 : Option Addr), Vs stV w' A1 Z.length Z → Below w2.heap.size w2 w' → Calls Try.prog 11 #[.slice A4 T.length c4, .slice Au mu cu] w' fun e w'' => ∃ A2 c2, e = .returned (.slice A2 Z.length c2) ∧ (Vs stV w'' A1 Z.length Z ∧ Vs stV w'' A2 Z.length Z) ∧ Below w2.heap.size w2 w'') := Lib.hid (fun w' A1 hv hb => by
            have S := Q.out.1.below hb
            refine (refSweep_any S.sp.m S.ik HU.out (by omega) (by omega)).mono fun e w'' h => ?_
            rw [hZ] at h
            obtain ⟨v, rfl, hb2, A2, c2, rfl, hT⟩ := h
            exact ⟨A2, c2, rfl, ⟨hv.below hb2, hT.vs⟩, hb.trans (hb2.mono hb.size)⟩)
          have SX : Hid (∀ w', Below w2.heap.size w2 w' → (Below w2.heap.size w2 w' ∧ w'.cell? ⟨b, 2, none⟩ = some (.slice Au mu cu))) := Lib.hid (fun w' hb => ⟨hb, (Q.out.1.below hb).c2⟩)
          have hb0 : Below w2.heap.size w2 w2 := Below.refl _ _
          clear hZ
          go_wp2_with fail
          go_region_held3 (fun w' => Below w2.heap.size w2 w' ∧ w'.cell? ⟨b, 2, none⟩ = some (.slice Au mu cu))
            ((refine SX.out _ ?_; (try go_split_ands); first | assumption | exact belowN (by assumption) 1))
            ((first
              | (go_at_call 10; (try go_split_ands); refine (HSW.out _ (by assumption)).mono ?_; rintro e w7 ⟨A7, c7, rfl, ⟨hv7, hc7⟩, hb7⟩)
              | (go_at_call 11; (try go_split_ands); refine (HRS.out _ _ hv7 (by assumption)).mono ?_; rintro e w8 ⟨A8, c8, rfl, ⟨hv8, hv10⟩, hb8⟩)))
          have Q8 : Hid (Sp w (some ad) n Lo A7 A8 Z w8) := Lib.hid ⟨Q.out.1.sp.bel.trans (hb8.mono Q.out.1.sp.bel.size), Q.out.1.sp.ops.below hb8, hv8, hv10⟩
          clear hb7 hv7 hv8 hv10 hb8 hb0 HSW HRS SX Q hc0 hc1 hc2
          go_wp2_with fail
          refine (sameT_any Q8.out.t Q8.out.m (by omega) (by omega)).mono ?_
          rw [decide_eq_true rfl]
          rintro e w9 ⟨rfl, r, hw⟩
          have hb : Below w8.heap.size w8 w9 := by rw [hw]; exact belowN (Below.refl _ _) r
          have Q9 := Lib.hid (Q8.out.below hb)
          clear hb hw Q8
          go_wp2_with fail
          go_roundw
          case rel => exact ⟨k + 1, c7, c8, Z, A7, A8, by omega, by go_num, rfl, rfl, hZl, hc7, Q9.out⟩
          case measure => simp [intOf]; omega
      · have hbel := HQ.out.sp.bel
        have HBB := Lib.hid hbel
        clear hbel HQ S
        by_cases hk2 : k ≤ 200
        · have hk3 : ¬ (200 : Int) < (k : Int) := by omega
          by_cases hu1 : u.size ≤ 1000
          · have hu2 : ¬ (1000 : Int) < (u.size : Int) := by omega
            have hm2 : (1000 : Int) < (mu : Int) := by
              have : ¬ mu ≤ 1000 := fun x => hbk ⟨hk2, hu1, x⟩
              omega
            clear hbk
            go_wp2_with fail
            go_ret
            exact ⟨rfl, HBB.out⟩
          · have hu2 : (1000 : Int) < (u.size : Int) := by omega
            clear hbk
            go_wp2_with fail
            go_ret
            exact ⟨rfl, HBB.out⟩
        · have hk3 : (200 : Int) < (k : Int) := by omega
          clear hbk
          go_wp2_with fail
          go_ret
          exact ⟨rfl, HBB.out⟩
    · go_wp2_with fail
      go_ret
      exact ⟨rfl, S.out.bel⟩

set_option maxRecDepth 100000 in
theorem lifted (os : Os) (started : os.Started) (H : Type) (enc : TypeId × Value → H) :
    ReturnsInHanded {} Try.checked os 3 .any (Rows.linksPlaysSpec.pre6 enc Try.prog Try.f3 Rows.linksPlaysRow.domain false) (Rows.linksPlaysSpec.post enc Try.prog Try.f3 false true false false) := by
  refine returnsInHanded_of_change_sized (C := Try.checked) own started (by kernel_rfl) Try.func3
    (ChangeSpec.witness6 (enc := enc) (C := Try.checked) false ⟨#[], #[.slice none 0 0], []⟩ 8 (by kernel_rfl) (by kernel_rfl) (by kernel_rfl) (by kernel_rfl)) ?_
  intro W base args ds gs before hval0 hW _ hsz0 _
  have hsz : (DataW.weightsEach Try.prog (Try.f3.params.toList ++ Rows.linksPlaysSpec.plain.varTypes Try.prog) (ds ++ gs)).all (· ≤ reachBytes) = true := hsz0
  clear hsz0
  have hval : ∀ (j : Nat) t v, Try.f3.params[j]? = some t → args[j]? = some v → Value.okWide Try.prog W .any base t v := hval0
  have hW' := hW
  obtain ⟨p, q, hA0, hV, rfl, _, _⟩ := hW
  have hA : DataW.TrodAll enc Try.prog W 0 (fun _ => true) true Try.f3.params.toList args.toList ds p := hA0
  rw [Try.params3] at hA hval hsz
  obtain ⟨v0, vs0, d0, ds0, p0, q0, hargs, rfl, rfl, h0, r0⟩ := trodAll_cons hA
  obtain ⟨rfl, rfl, rfl⟩ := trodAll_nil r0
  obtain rfl : args = #[v0] := by cases args; simp_all
  obtain ⟨rfl, rfl⟩ := trodVars_none hV
  have lt0 : ∀ x ∈ p0, x.block < W.heap.size := by obtain ⟨m, hm⟩ := h0; exact DataW.trod_lt m _ _ _ hm
  obtain ⟨A0, n0, c0, L0, rfl, s0⟩ := open_opTs (hval 0 22 v0 rfl rfl) h0
  clear hA0 hval0
  refine (walk W s0).mono fun e W' ⟨he, bel⟩ => ?_
  subst he
  exact ⟨_, rfl, _, _, _, [], _, [], hW', trodAll_mk1 (shut_bool Try.underlying4 _), (trodAll_cons_mk (Below.trod laidOut (by kernel_rfl) (of_decide_eq_true (by kernel_rfl)) h0 bel lt0) trodAll_mk0), rfl, bel.frame _, fun h => by cases h⟩

theorem over : Rows.linksPlaysRow.holds Try.pinned (OpenSpec.ofChange Rows.linksPlaysSpec) :=
  OpenClaim.holds_of_wide 3 Try.f3 rfl rfl rfl rfl rfl rfl rfl ⟨rfl, rfl, rfl, rfl, rfl⟩ rfl rfl rfl rfl rfl (by kernel_rfl) Try.func3 (by kernel_rfl)
    (of_decide_eq_true (by kernel_rfl)) (by unfold Func.isWrapper; first | (rw [if_pos (by decide +kernel)]; kernel_rfl) | (rw [if_neg (by decide +kernel)]; exact ⟨rfl, rfl⟩))
    (fun os started H enc _ => lifted os started H enc)

theorem proved : Rows.LinksPlaysSaid := over
end Go.Proofs.Ytbjgjhhombalpaa.linksPlays
