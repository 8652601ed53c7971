/-
  The reference's Same of rows of acts.
-/
import Derived.Test.YtappnfifhpmekaaDoorParseMem
import Derived.Test.YtappnfifhpmekaaDoorRefSame
import Derived.LoopTactic
import Derived.BigQuiet
import Derived.Deep.CutBlock
import Derived.Deep.RegionHeld3
namespace Go.Proofs.YtappnfifhpmekaaDoor
open Go.RowKit

theorem retBA {a b : Bool} (h : a = b) : Ending.returned (.bool a) = .returned (.bool b) := by rw [h]
theorem take_snocG {α : Type} {xs ys : List α} {k : Nat} {x y : α} (h1 : xs[k]? = some x) (h2 : ys[k]? = some y) : (xs.take (k + 1) = ys.take (k + 1)) ↔ (xs.take k = ys.take k ∧ x = y) := by
  rw [List.take_add_one, List.take_add_one, h1, h2]
  constructor
  · intro h
    have l1 := (List.getElem?_eq_some_iff.1 h1).1
    have l2 := (List.getElem?_eq_some_iff.1 h2).1
    have h3 := List.append_inj h (by simp; omega)
    exact ⟨h3.1, by simpa using h3.2⟩
  · rintro ⟨e1, e2⟩
    rw [e1, e2]
theorem sxb_two (w : World) (x y : AcR) (t : TypeId) : Sxb ((w.alloc (.cells (acA x) t)).alloc (.cells (acA y) t)).drew w.heap.size x ∧ Sxb ((w.alloc (.cells (acA x) t)).alloc (.cells (acA y) t)).drew (w.heap.size + 1) y ∧ Below w.heap.size w ((w.alloc (.cells (acA x) t)).alloc (.cells (acA y) t)).drew := by
  have d : ∀ {w : World} {b : Nat} {x : AcR}, Sxb w b x → Sxb w.drew b x := fun h => h.below (below_drewN' (Below.refl _ _) 1)
  have h2 := Sxb.new (w.alloc (.cells (acA x) t)) y t
  rw [World.size_alloc] at h2
  refine ⟨d ((Sxb.new w x t).below ((Below.refl _ _).alloc (Nat.le_refl _) _)), d h2, below_drewN' (((Below.refl _ _).alloc (Nat.le_refl _) _).alloc (by simp) _) 1⟩
theorem acs_eq {a b : AcS} : a = b ↔ a.k = b.k ∧ a.r = b.r ∧ a.m = b.m ∧ a.fin = b.fin ∧ a.ps = b.ps ∧ a.tx = b.tx := by
  constructor
  · rintro rfl; exact ⟨rfl, rfl, rfl, rfl, rfl, rfl⟩
  · rintro ⟨h1, h2, h3, h4, h5, h6⟩
    cases a; cases b; simp_all
set_option maxRecDepth 100000 in
set_option maxHeartbeats 4000000 in
theorem refSameA_any {w : World} {A A' : Option Addr} {n n' c c' : Nat} {R R' : List AcR} (h : Ats w A n R) (h' : Ats w A' n' R') (hn : n ≤ 140737488351232) (hn' : n' ≤ 9223372036854775807) :
    Calls Tryd.prog 12 #[.slice A n c, .slice A' n' c'] w fun e w' => e = .returned (.bool (decide (acts R = acts R'))) ∧ Below w.heap.size w w' := by
  by_cases hne : n = n'
  · subst hne
    have H := Lib.hid (And.intro h h')
    clear h h' hn'
    go_enter Tryd.func12, Tryd.ntmps12
    go_wp2
    go_loopw [16] (fun i wr => ∃ k : Nat, k ≤ n ∧ i = .int .i64 k ∧ (acts R).take k = (acts R').take k ∧ Below w.heap.size w wr) (fun i _ => n - (intOf i).toNat)
    case atStart => exact ⟨0, Nat.zero_le _, rfl, by simp, Below.refl _ _⟩
    case round =>
      obtain ⟨k, hk, rfl, hx, hb⟩ := hrel
      have HX := Lib.hid (And.intro hx hb)
      clear hx hb
      by_cases hlt : k < n
      · have hA := H.out.1.below HX.out.2
        have hB := H.out.2.below HX.out.2
        obtain ⟨x, ex⟩ : ∃ x, R[k]? = some x := ⟨_, List.getElem?_eq_getElem (by rw [hA.row.len]; exact hlt)⟩
        obtain ⟨y, ey⟩ : ∃ y, R'[k]? = some y := ⟨_, List.getElem?_eq_getElem (by rw [hB.row.len]; exact hlt)⟩
        obtain ⟨ad, rfl⟩ := hA.row.addr (by omega)
        obtain ⟨ad', rfl⟩ := hB.row.addr (by omega)
        obtain ⟨a0, a1, a2, a3, a4, a5⟩ := hA.row.sxa ex
        obtain ⟨b0, b1, b2, b3, b4, b5⟩ := hB.row.sxa ey
        have HR := Lib.hid (And.intro (hA.rd x (List.mem_of_getElem? ex)) (hB.rd y (List.mem_of_getElem? ey)))
        have HT := Lib.hid (take_snocG (acts_get ex) (acts_get ey))
        go_upto_region 6 with fail
        go_cut [6, 7] from 19 to 26 (fun s6 s7 wc => ∃ g g' : Nat, s6 = .pointer (some ⟨g, 0, none⟩) ∧ s7 = .pointer (some ⟨g', 0, none⟩) ∧ Sxb wc g x ∧ Sxb wc g' y ∧ Below wr.heap.size wr wc)
        case first =>
          have SX : Hid (∀ w', Below wr.heap.size wr w' → (Below wr.heap.size wr w' ∧ (w'.cell? (ad.add (k * 6)) = some (.int .i64 x.a.k) ∧ w'.cell? ⟨(ad.add (k * 6)).block, (ad.add (k * 6)).off + 1, none⟩ = some (.int .i32 x.a.r) ∧ w'.cell? ⟨(ad.add (k * 6)).block, (ad.add (k * 6)).off + 2, none⟩ = some (.int .u8 x.a.m) ∧ w'.cell? ⟨(ad.add (k * 6)).block, (ad.add (k * 6)).off + 3, none⟩ = some (.int .u8 x.a.fin) ∧ w'.cell? ⟨(ad.add (k * 6)).block, (ad.add (k * 6)).off + 4, none⟩ = some (.slice x.P x.np x.cp) ∧ w'.cell? ⟨(ad.add (k * 6)).block, (ad.add (k * 6)).off + 5, none⟩ = some (.slice x.T x.nt x.ct) ∧ w'.cell? (ad'.add (k * 6)) = some (.int .i64 y.a.k) ∧ w'.cell? ⟨(ad'.add (k * 6)).block, (ad'.add (k * 6)).off + 1, none⟩ = some (.int .i32 y.a.r) ∧ w'.cell? ⟨(ad'.add (k * 6)).block, (ad'.add (k * 6)).off + 2, none⟩ = some (.int .u8 y.a.m) ∧ w'.cell? ⟨(ad'.add (k * 6)).block, (ad'.add (k * 6)).off + 3, none⟩ = some (.int .u8 y.a.fin) ∧ w'.cell? ⟨(ad'.add (k * 6)).block, (ad'.add (k * 6)).off + 4, none⟩ = some (.slice y.P y.np y.cp) ∧ w'.cell? ⟨(ad'.add (k * 6)).block, (ad'.add (k * 6)).off + 5, none⟩ = some (.slice y.T y.nt y.ct)))) := Lib.hid (fun w' hb => by
            obtain ⟨a0, a1, a2, a3, a4, a5⟩ := (hA.row.below hb).sxa ex
            obtain ⟨b0, b1, b2, b3, b4, b5⟩ := (hB.row.below hb).sxa ey
            exact ⟨hb, a0, a1, a2, a3, a4, a5, b0, b1, b2, b3, b4, b5⟩)
          have hb0 : Below wr.heap.size wr wr := Below.refl _ _
          clear a0 a1 a2 a3 a4 a5 b0 b1 b2 b3 b4 b5
          go_region_held3 (fun w' => Below wr.heap.size wr w' ∧ (w'.cell? (ad.add (k * 6)) = some (.int .i64 x.a.k) ∧ w'.cell? ⟨(ad.add (k * 6)).block, (ad.add (k * 6)).off + 1, none⟩ = some (.int .i32 x.a.r) ∧ w'.cell? ⟨(ad.add (k * 6)).block, (ad.add (k * 6)).off + 2, none⟩ = some (.int .u8 x.a.m) ∧ w'.cell? ⟨(ad.add (k * 6)).block, (ad.add (k * 6)).off + 3, none⟩ = some (.int .u8 x.a.fin) ∧ w'.cell? ⟨(ad.add (k * 6)).block, (ad.add (k * 6)).off + 4, none⟩ = some (.slice x.P x.np x.cp) ∧ w'.cell? ⟨(ad.add (k * 6)).block, (ad.add (k * 6)).off + 5, none⟩ = some (.slice x.T x.nt x.ct) ∧ w'.cell? (ad'.add (k * 6)) = some (.int .i64 y.a.k) ∧ w'.cell? ⟨(ad'.add (k * 6)).block, (ad'.add (k * 6)).off + 1, none⟩ = some (.int .i32 y.a.r) ∧ w'.cell? ⟨(ad'.add (k * 6)).block, (ad'.add (k * 6)).off + 2, none⟩ = some (.int .u8 y.a.m) ∧ w'.cell? ⟨(ad'.add (k * 6)).block, (ad'.add (k * 6)).off + 3, none⟩ = some (.int .u8 y.a.fin) ∧ w'.cell? ⟨(ad'.add (k * 6)).block, (ad'.add (k * 6)).off + 4, none⟩ = some (.slice y.P y.np y.cp) ∧ w'.cell? ⟨(ad'.add (k * 6)).block, (ad'.add (k * 6)).off + 5, none⟩ = some (.slice y.T y.nt y.ct)))
            ((refine SX.out _ ?_; (try go_split_ands); repeat (first | assumption | (with_reducible refine Below.setCell ?_ (by simp <;> omega) _) | (with_reducible refine Below.alloc ?_ (by simp <;> omega) _) | (refine below_drewN' ?_ 1))))
            (fail)
          all_goals go_wp2_with fail
          all_goals go_meet
          · obtain ⟨z1, z2, z3⟩ := sxb_two wr x y 25
            exact ⟨_, _, rfl, rfl, z1, z2, z3⟩
          · obtain ⟨z1, z2, z3⟩ := sxb_two wr y x 25
            exact ⟨_, _, rfl, rfl, z2, z1, z3⟩
        case rest =>
          obtain ⟨g, g', rfl, rfl, hg, hg', hbc⟩ := hcut
          have HZ := Lib.hid hbc
          have HNO : Hid (x.a ≠ y.a → decide (acts R = acts R') = false) := Lib.hid (fun hxy => by
            rw [decide_eq_false_iff_not]
            intro e
            exact hxy (HT.out.1 (by rw [e])).2)
          have HW := Lib.hid (And.intro (HR.out.1.below hbc) (HR.out.2.below hbc))
          have HS := Lib.hid (And.intro hg hg')
          obtain ⟨_, p0, p1, p2, p3, p4, p5⟩ := hg
          obtain ⟨_, q0, q1, q2, q3, q4, q5⟩ := hg'
          have hxn : x.np ≤ 9223372036854775807 := by have := HW.out.1.lp; have := HW.out.1.mp; unfold maxLen at this; omega
          have hyn : y.np ≤ 9223372036854775807 := by have := HW.out.2.lp; have := HW.out.2.mp; unfold maxLen at this; omega
          have hxt : x.nt ≤ 9223372036854775807 := by have := HW.out.1.lt; have := HW.out.1.mt; unfold maxLen at this; omega
          have hyt : y.nt ≤ 9223372036854775807 := by have := HW.out.2.lt; have := HW.out.2.mt; unfold maxLen at this; omega
          clear hbc HR
          by_cases h1 : x.a.k = y.a.k
          case neg =>
            have e1 : (x.a.k != y.a.k) = true := by simpa using h1
            have HD : Hid (decide (acts R = acts R') = false) := Lib.hid (HNO.out (fun e => h1 (by rw [e])))
            go_wp2_with fail
            go_ret
            exact ⟨retBA HD.out.symm, HX.out.2.trans (HZ.out.mono HX.out.2.size)⟩
          have e1 : (x.a.k != y.a.k) = false := by simpa using h1
          by_cases h2 : x.a.r = y.a.r
          case neg =>
            clear h1
            have e2 : (x.a.r != y.a.r) = true := by simpa using h2
            have HD : Hid (decide (acts R = acts R') = false) := Lib.hid (HNO.out (fun e => h2 (by rw [e])))
            go_wp2_with fail
            go_ret
            exact ⟨retBA HD.out.symm, HX.out.2.trans (HZ.out.mono HX.out.2.size)⟩
          have e2 : (x.a.r != y.a.r) = false := by simpa using h2
          by_cases h3 : x.a.m = y.a.m
          case neg =>
            clear h1 h2
            have e3 : (x.a.m != y.a.m) = true := by simpa using h3
            have HD : Hid (decide (acts R = acts R') = false) := Lib.hid (HNO.out (fun e => h3 (by rw [e])))
            go_wp2_with fail
            go_ret
            exact ⟨retBA HD.out.symm, HX.out.2.trans (HZ.out.mono HX.out.2.size)⟩
          have e3 : (x.a.m != y.a.m) = false := by simpa using h3
          by_cases h4 : x.a.fin = y.a.fin
          case neg =>
            clear h1 h2 h3
            have e4 : (x.a.fin != y.a.fin) = true := by simpa using h4
            have HD : Hid (decide (acts R = acts R') = false) := Lib.hid (HNO.out (fun e => h4 (by rw [e])))
            go_wp2_with fail
            go_ret
            exact ⟨retBA HD.out.symm, HX.out.2.trans (HZ.out.mono HX.out.2.size)⟩
          have e4 : (x.a.fin != y.a.fin) = false := by simpa using h4
          have H4 := Lib.hid (And.intro h1 (And.intro h2 (And.intro h3 h4)))
          clear h1 h2 h3 h4
          by_cases h5 : x.np = y.np
          case neg =>
            have e5 : ((x.np : Int) != (y.np : Int)) = true := by simp; omega
            have HD : Hid (decide (acts R = acts R') = false) := Lib.hid (HNO.out (fun e => h5 (by rw [← HW.out.1.p.len, ← HW.out.2.p.len, e])))
            go_wp2_with fail
            go_ret
            exact ⟨retBA HD.out.symm, HX.out.2.trans (HZ.out.mono HX.out.2.size)⟩
          have e5 : ((x.np : Int) != (y.np : Int)) = false := by simp; omega
          have H5 := Lib.hid h5
          clear h5
          go_wp2_with fail
          refine (refSame_any HW.out.1.t HW.out.2.t hxt hyt).mono ?_
          obtain ⟨B, hB⟩ : ∃ B, decide (x.a.tx = y.a.tx) = B := ⟨_, rfl⟩
          rw [hB]
          rintro e w5 ⟨rfl, d, hw⟩
          have HV : Hid (Below w.heap.size w w5 ∧ Sxb w5 g x ∧ Sxb w5 g' y ∧ Ik .i64 w5 x.P x.np x.a.ps ∧ Ik .i64 w5 y.P y.np y.a.ps) := Lib.hid (by
            have hb5 : Below wc.heap.size wc w5 := by rw [hw]; exact below_drewN' (Below.refl _ _) d
            exact ⟨(HX.out.2.trans (HZ.out.mono HX.out.2.size)).trans (hb5.mono (HX.out.2.trans (HZ.out.mono HX.out.2.size)).size), HS.out.1.below hb5, HS.out.2.below hb5, HW.out.1.p.below hb5, HW.out.2.p.below hb5⟩)
          clear hw p0 p1 p2 p3 p4 p5 q0 q1 q2 q3 q4 q5 e1 e2 e3 e4 e5 HW HS HZ
          have HBB := Lib.hid hB
          clear hB
          cases B
          case false =>
            have HD : Hid (decide (acts R = acts R') = false) := Lib.hid (HNO.out (fun e => of_decide_eq_false HBB.out (by rw [e])))
            go_wp2_with fail
            go_ret
            exact ⟨retBA HD.out.symm, HV.out.1⟩
          obtain ⟨_, p0, p1, p2, p3, p4, p5⟩ := HV.out.2.1
          obtain ⟨_, q0, q1, q2, q3, q4, q5⟩ := HV.out.2.2.1
          go_wp2_with fail
          go_loopw [73] (fun i wx => ∃ j d : Nat, j ≤ x.np ∧ i = .int .i64 j ∧ x.a.ps.take j = y.a.ps.take j ∧ wx = w5.drewN d) (fun i _ => x.np - (intOf i).toNat)
          case atStart => exact ⟨0, 0, Nat.zero_le _, rfl, by simp, rfl⟩
          case round =>
            obtain ⟨j, d2, hj, rfl, hps, rfl⟩ := hrel
            have HPS := Lib.hid hps
            clear hps
            by_cases hjl : j < x.np
            · have hjl2 : j < y.np := by rw [← H5.out]; exact hjl
              obtain ⟨ap, hap⟩ : ∃ ap, x.P = some ap := by obtain ⟨a, e, _⟩ := HV.out.2.2.2.1.at_ (by omega); exact ⟨a, e⟩
              obtain ⟨aq, haq⟩ : ∃ aq, y.P = some aq := by obtain ⟨a, e, _⟩ := HV.out.2.2.2.2.at_ (by omega); exact ⟨a, e⟩
              have t0 := HV.out.2.2.2.1
              have t1 := HV.out.2.2.2.2
              rw [hap] at t0 p4
              rw [haq] at t1 q4
              have u0 := t0.cell hjl
              have u1 := t1.cell hjl2
              have HTS := Lib.hid (take_snocG (xs := x.a.ps) (ys := y.a.ps) (k := j) (x := x.a.ps.getD j 0) (y := y.a.ps.getD j 0) (by rw [getD_lt (by rw [t0.len]; exact hjl)]; exact List.getElem?_eq_getElem _) (by rw [getD_lt (by rw [t1.len]; exact hjl2)]; exact List.getElem?_eq_getElem _))
              clear t0 t1 hap haq
              generalize x.a.ps.getD j 0 = z0 at u0 HTS
              generalize y.a.ps.getD j 0 = z1 at u1 HTS
              obtain ⟨D, hD⟩ : ∃ D, (z0 != z1) = D := ⟨_, rfl⟩
              cases D
              · have HN := Lib.hid (HTS.out.2 ⟨HPS.out, by simpa using hD⟩)
                clear HTS
                go_wp2
                go_quiet (fail)
                go_wp2
                go_roundw
                case rel => exact ⟨j + 1, d2 + nq, by omega, by go_num, HN.out, rfl⟩
                case measure => simp [intOf]; omega
              · have HD : Hid (decide (acts R = acts R') = false) := Lib.hid (HNO.out (fun e => by
                  have e1 := (HTS.out.1 (by rw [e])).2
                  rw [e1] at hD
                  simp at hD))
                go_wp2
                go_quiet (fail)
                go_wp2
                go_ret
                exact ⟨retBA HD.out.symm, below_drewN' (below_drewN' HV.out.1 _) _⟩
            · have HN : Hid ((acts R).take (k + 1) = (acts R').take (k + 1)) := Lib.hid (HT.out.2 ⟨HX.out.1, by
                have e1 := HPS.out
                rw [List.take_of_length_le (by rw [HV.out.2.2.2.1.len]; omega), List.take_of_length_le (by rw [HV.out.2.2.2.2.len]; have := H5.out; omega)] at e1
                exact acs_eq.2 ⟨H4.out.1, H4.out.2.1, H4.out.2.2.1, H4.out.2.2.2, e1, of_decide_eq_true HBB.out⟩⟩)
              go_wp2_with fail
              go_roundw
              case rel => exact ⟨k + 1, by omega, by go_num, HN.out, below_drewN' HV.out.1 _⟩
              case measure => simp [intOf]; omega
      · have HD : Hid (decide (acts R = acts R') = true) := Lib.hid (by
          have e1 := HX.out.1
          rw [List.take_of_length_le (by rw [acts_len, H.out.1.row.len]; omega), List.take_of_length_le (by rw [acts_len, H.out.2.row.len]; omega)] at e1
          simpa using e1)
        go_wp2
        go_ret
        exact ⟨retBA HD.out.symm, HX.out.2⟩
  · have HD : Hid (decide (acts R = acts R') = false) := Lib.hid (by
      rw [decide_eq_false_iff_not]
      intro e
      have := congrArg List.length e
      rw [acts_len, acts_len, h.row.len, h'.row.len] at this
      exact hne this)
    have hne' : ¬ ((n : Int) = (n' : Int)) := by omega
    clear h h'
    go_enter Tryd.func12, Tryd.ntmps12
    go_wp2
    go_ret
    exact ⟨retBA HD.out.symm, Below.refl _ _⟩
end Go.Proofs.YtappnfifhpmekaaDoor
