/-
  Proved: TlvPicks answers true for all lists, known kinds and kinds.
-/
import Derived.Test.YthmlcdmlpmbkcaaOpen
import Derived.Test.YthmlcdmlpmbkcaaTlvFixed
import Derived.Test.YthmlcdmlpmbkcaaTlvSame
import Derived.Test.YthmlcdmlpmbkcaaTlvSmall
import Derived.Test.YthmlcdmlpmbkcaaTlvOpen2
import Derived.Test.YthmlcdmlpmbkcaaTlvIns
import Derived.Test.YthmlcdmlpmbkcaaTlvCopy
import Derived.Test.YthmlcdmlpmbkcaaTlvFlat
import Derived.WalkKit
namespace Go.Proofs.Ythmlcdmlpmbkcaa.tlvPicks
open Go.ChangeShapes Go.WideShapes Go.ChangeAt Go.RowKit

set_option maxRecDepth 100000 in
set_option maxHeartbeats 3200000 in
/-- The walk. -/
theorem walk {A : Option Addr} {n c : Nat} {l : List It} {A' : Option Addr} {n' c' : Nat} {ks : List Int} {kd : Int} (w : World)
    (hs : (∃ m, Its w (fun _ => True) m A n c l) ∧ wfK l ∧ n ≤ 140737488351232) (hk : Si w A' n' ks) (_ : (Lit.int .i64 kd).wf = true) :
    Calls Try.prog 7 #[.slice A n c, .slice A' n' c', .int .i64 kd] w fun e w' => e = .returned (.bool true) ∧ Below w.heap.size w w' := by
  obtain ⟨⟨m, hi⟩, hwf, _⟩ := hs
  have H := Lib.hid (show Its w (fun _ => True) m A n c l ∧ wfK l ∧ Si w A' n' ks from ⟨hi, hwf, hk⟩)
  have HL := Lib.hid hi.len
  obtain ⟨sb, hsb⟩ : ∃ sb, sb = smallB l := ⟨_, rfl⟩
  have HS := Lib.hid hsb
  clear hi hwf hk hsb
  go_enter Try.func7, Try.ntmps7
  go_wp2_with fail
  refine (small_any H.out.1).mono ?_
  rintro e w1 ⟨rfl, hb1⟩
  rw [← HS.out]
  have X1 := Lib.hid hb1
  clear hb1
  cases sb with
  | false =>
    go_wp2_with fail
    refine (fixed_any _).mono ?_
    rintro e w3 ⟨rfl, hb3⟩
    have bb := X1.out.trans (hb3.mono X1.out.size)
    clear hb3
    go_wp2_with fail
    go_ret
    exact ⟨rfl, bb⟩
  | true =>
    by_cases hn' : (1000 : Int) < (n' : Int)
    · go_wp2_with fail
      refine (fixed_any _).mono ?_
      rintro e w3 ⟨rfl, hb3⟩
      have bb := X1.out.trans (hb3.mono X1.out.size)
      clear hb3
      go_wp2_with fail
      go_ret
      exact ⟨rfl, bb⟩
    · have hsm := small_sml HS.out.symm
      have HN := Lib.hid (show n ≤ 400 ∧ n' ≤ 1000 ∧ lenL l from ⟨by have := HL.out; omega, by omega, sml_lenL 4 l hsm.2⟩)
      have HCP := Lib.hid (copyIts_any m w1 _ A n c l (H.out.1.stay X1.out.size fun b _ hlt => X1.out.block b hlt) HN.out.2.2 HN.out.1)
      clear hsm
      go_wp2_with fail
      refine HCP.out.mono ?_
      rintro e w2 ⟨hb2, A2, n2, c2, rfl, hi2⟩
      obtain rfl : n = n2 := HL.out.symm.trans hi2.len
      have X2 := Lib.hid (show Below w.heap.size w w2 ∧ Its w2 (· < w2.heap.size) (m + 1) A2 n c2 l from ⟨X1.out.trans (hb2.mono X1.out.size), (hi2.mono fun b _ h => h).up⟩)
      have HP1 := Lib.hid (pick_walk (c' := c') X2.out.2 (H.out.2.2.below X2.out.1) (by have := HN.out.1; omega) (by have := HN.out.2.1; omega) H.out.2.1 (.inr fun w' A m' c l' hl' hsub hm' => copied_any _ w' _ A m' c l' hl' (lenL_mk fun y hy => lenL_mem HN.out.2.2 (hsub y hy)) (by have := HN.out.1; omega)))
      clear hb2 hi2 HCP hn'
      go_wp2_with fail
      refine HP1.out.mono ?_
      intro e w3 hpp
      obtain ⟨hb3, A3, n3, c3, rfl, hi3⟩ := hpp.flat
      have X3 := Lib.hid (show Below w2.heap.size w2 w3 ∧ Its w3 (Fr w2.heap.size w3) (m + 1) A3 n3 c3 ((pickS ks l).getD []) from ⟨hb3, hi3⟩)
      have hbw3 := X2.out.1.trans (hb3.mono X2.out.1.size)
      have HP2 := Lib.hid (refPick_any (c' := c') (w := w3) (ks := ks) (((H.out.1.below hbw3).mono fun b _ h => h).up) (H.out.2.2.below hbw3) (by have := HN.out.1; omega) (by have := HN.out.2.1; omega))
      clear hpp hb3 hi3 hbw3 HP1
      go_wp2_with fail
      refine HP2.out.mono ?_
      intro e w4 hpp
      obtain ⟨hb4, A4, n4, c4, rfl, hi4⟩ := hpp.flat
      obtain rfl : n3 = n4 := X3.out.2.len.symm.trans hi4.len
      have X4 := Lib.hid (show Below w2.heap.size w2 w4 ∧ Below w3.heap.size w3 w4 ∧ Its w4 (fun _ => True) (m + 1) A4 n3 c4 ((pickS ks l).getD []) from ⟨X3.out.1.trans (hb4.mono X3.out.1.size), hb4, hi4⟩)
      have HG1 := Lib.hid (get_any (w := w4) (kd := kd) ((X2.out.2.below X4.out.1).mono fun b _ h => h) HN.out.2.2 (by have := HN.out.1; omega))
      clear hpp hb4 hi4 HP2
      go_wp2_with fail
      refine HG1.out.mono ?_
      intro e w5 hpp
      obtain ⟨hb5, B, bn, bc, C, cn, cc, rfl, hB, hC⟩ := hpp.flat
      obtain ⟨y, hy⟩ : ∃ y, y = (getS kd l).getD noIt := ⟨_, rfl⟩
      have HY := Lib.hid hy
      rw [← hy] at hB hC ⊢
      obtain ⟨ok, hok⟩ : ∃ ok, ok = (getS kd l).isSome := ⟨_, rfl⟩
      have HOK := Lib.hid hok
      rw [← hok]
      have X5 := Lib.hid (show Below w4.heap.size w4 w5 ∧ Bs w5 (Fr w2.heap.size w5) B bn bc y.bytes ∧ Its w5 (Fr w2.heap.size w5) m C cn cc y.items from ⟨hb5, hB.lower X4.out.1.size, hC.lower X4.out.1.size⟩)
      have hbw5 := X2.out.1.trans ((X4.out.1.trans (hb5.mono X4.out.1.size)).mono X2.out.1.size)
      have hB5 : Below w5.heap.size w5 (w5.alloc (.cells #[.int .i64 y.kind, .bool y.crit, .bool y.lst, .slice B bn bc, .slice C cn cc] 47)) := (Below.refl _ _).alloc (Nat.le_refl _) _
      have HG2 := Lib.hid (refGet_any (w := w5.alloc (.cells #[.int .i64 y.kind, .bool y.crit, .bool y.lst, .slice B bn bc, .slice C cn cc] 47)) (kd := kd) ((((H.out.1.below hbw5).below hB5).mono fun b _ h => h).up) (by have := HN.out.1; omega))
      clear hpp hb5 hB hC hbw5 hB5 HG1 hy hok
      go_wp2_with fail
      refine HG2.out.mono ?_
      intro e w6 hpp
      obtain ⟨hb6, D, dn, dc, E, en, ec, rfl, hD, hE⟩ := hpp.flat
      rw [← HY.out] at hD hE ⊢
      rw [← HOK.out]
      obtain rfl : bn = dn := X5.out.2.1.sb.len.symm.trans hD.sb.len
      obtain rfl : cn = en := X5.out.2.2.len.symm.trans hE.len
      obtain ⟨E1, hE1⟩ : ∃ E1, E1 = pickE (pickS ks l) := ⟨_, rfl⟩
      rw [← hE1]
      obtain ⟨P, hP⟩ : ∃ P, P = (pickS ks l).getD [] := ⟨_, rfl⟩
      rw [← hP] at X3 X4
      have tE : (E1 != E1) = false := by simp
      have tO : (ok != ok) = false := by simp
      have X6 := Lib.hid (show Below (w5.heap.size + 1) (w5.alloc (.cells #[.int .i64 y.kind, .bool y.crit, .bool y.lst, .slice B bn bc, .slice C cn cc] 47)) w6 ∧ Bs w6 (fun _ => True) D bn dc y.bytes ∧ Its w6 (fun _ => True) m E cn ec y.items from ⟨by simpa using hb6, hD, hE⟩)
      clear hpp hb6 hD hE HG2 hE1 hP HY HOK
      go_wp2_with fail
      refine (fixed_any _).mono ?_
      rintro e w7 ⟨rfl, hb7⟩
      have X7 := Lib.hid (show Sit w w2 w5.heap.size w6.heap.size m A3 A4 n3 c3 c4 P y B bn bc C cn cc D dc E ec w7 from by
        have b5W : Below w5.heap.size w5 (w5.alloc (.cells #[.int .i64 y.kind, .bool y.crit, .bool y.lst, .slice B bn bc, .slice C cn cc] 47)) := (Below.refl _ _).alloc (Nat.le_refl _) _
        have b56 : Below w5.heap.size w5 w6 := b5W.trans (X6.out.1.mono (Nat.le_succ _))
        have b6W : Below w6.heap.size w6 (w6.alloc (.cells #[.int .i64 y.kind, .bool y.crit, .bool y.lst, .slice D bn dc, .slice E cn ec] 47)) := (Below.refl _ _).alloc (Nat.le_refl _) _
        have b67 : Below w6.heap.size w6 w7 := b6W.trans (hb7.mono (by simp))
        have b57 := b56.trans (b67.mono b56.size)
        have b47 := X5.out.1.trans (b57.mono X5.out.1.size)
        have b37 := X4.out.2.1.trans (b47.mono X4.out.2.1.size)
        have b27 := X4.out.1.trans (b47.mono X4.out.1.size)
        refine ⟨X2.out.1.trans (b27.mono X2.out.1.size), b27, ?_, Blk5.below (heap_alloc_new w6 _) hb7, X3.out.2.fr b37, X4.out.2.2.below b47, X5.out.2.1.fr b57, X5.out.2.2.fr b57, X6.out.2.1.stay b67.size (fun b _ hlt => b67.block b hlt), X6.out.2.2.below b67⟩
        refine Blk5.below (w := w6) ?_ b67
        rw [X6.out.1.block _ (Nat.lt_succ_self _)]
        exact heap_alloc_new w5 _)
      clear hb7 X3 X4 X5 X6
      have HC7 := Lib.hid (sameIts_any (m + 1) (m + 1) w7 _ _ A3 A4 n3 c3 c4 P X7.out.i3 X7.out.i4)
      go_wp2_with fail
      refine HC7.out.mono ?_
      rintro e w8 ⟨rfl, q, hw8⟩
      have X8 := Lib.hid (show Sit w w2 w5.heap.size w6.heap.size m A3 A4 n3 c3 c4 P y B bn bc C cn cc D dc E ec w8 from X7.out.more (by rw [hw8]; exact below_drewN' (Below.refl _ _) q))
      clear HC7 hw8 X7
      have bWa : Below w8.heap.size w8 (w8.alloc (.cells #[.int .i64 y.kind, .bool y.crit, .bool y.lst, .slice B bn bc, .slice C cn cc] 47)) := (Below.refl _ _).alloc (Nat.le_refl _) _
      have XA := Lib.hid (X8.out.more bWa)
      have hsz : (w8.alloc (.cells #[.int .i64 y.kind, .bool y.crit, .bool y.lst, .slice B bn bc, .slice C cn cc] 47)).heap.size = w8.heap.size + 1 := by simp
      have bWb : Below (w8.alloc (.cells #[.int .i64 y.kind, .bool y.crit, .bool y.lst, .slice B bn bc, .slice C cn cc] 47)).heap.size (w8.alloc (.cells #[.int .i64 y.kind, .bool y.crit, .bool y.lst, .slice B bn bc, .slice C cn cc] 47)) ((w8.alloc (.cells #[.int .i64 y.kind, .bool y.crit, .bool y.lst, .slice B bn bc, .slice C cn cc] 47)).alloc (.cells #[.int .i64 y.kind, .bool y.crit, .bool y.lst, .slice D bn dc, .slice E cn ec] 47)) := (Below.refl _ _).alloc (Nat.le_refl _) _
      have XB := Lib.hid (XA.out.more bWb)
      have I1 := Lib.hid ((one_fr X8.out.yb X8.out.yi X8.out.b2.size).below bWb)
      have hI2 := one_its (S := fun _ => True) XA.out.zb XA.out.zi trivial
      rw [hsz] at hI2
      have HC8 := Lib.hid (sameIts_any (m + 1) (m + 1) _ _ _ _ _ 1 1 1 [y] I1.out hI2)
      obtain ⟨x0, x1, x2, x3, x4⟩ := item_cells X8.out.x12
      obtain ⟨y0, y1, y2, y3, y4⟩ := item_cells XA.out.x14
      clear bWa bWb hsz hI2 I1
      go_wp2_with fail
      refine HC8.out.mono ?_
      rintro e w9 ⟨rfl, q2, hw9⟩
      have X9 := Lib.hid (show Sit w w2 w5.heap.size w6.heap.size m A3 A4 n3 c3 c4 P y B bn bc C cn cc D dc E ec w9 from XB.out.more (by rw [hw9]; exact below_drewN' (Below.refl _ _) q2))
      clear HC8 hw9 XA XB X8 x0 x1 x2 x3 x4 y0 y1 y2 y3 y4
      have HT1 := Lib.hid (turn_any w2.heap.size (m + 1) w9 A3 n3 c3 P X9.out.i3)
      go_wp2_with fail
      refine HT1.out.mono ?_
      rintro e w10 ⟨rfl, hal⟩
      obtain ⟨x0, x1, x2, x3, x4⟩ := item_cells X9.out.x12
      have z0 := hal.int x0
      obtain ⟨p1, z1⟩ := hal.flag x1
      obtain ⟨p2, z2⟩ := hal.flag x2
      have z3 := hal.slice x3
      have z4 := hal.slice x4
      obtain ⟨bs', hbs⟩ := X9.out.yb.alike hal
      obtain ⟨is', his⟩ := X9.out.yi.alike hal
      have X10 := Lib.hid (show Below w.heap.size w w10 ∧ Below w2.heap.size w2 w10 from ⟨X9.out.b0.trans (hal.bel.mono X2.out.1.size), X9.out.b2.trans hal.bel⟩)
      have HT2 := Lib.hid (turn_any w2.heap.size (m + 1) _ _ 1 1 _ (one_fr (x := .mk y.kind p1 p2 bs' is') hbs his X10.out.2.size))
      clear HT1 hal x0 x1 x2 x3 x4 hbs his X9
      go_wp2_with fail
      refine HT2.out.mono ?_
      rintro e w11 ⟨rfl, hal⟩
      have X11 := Lib.hid (show Below w.heap.size w w11 ∧ Below w2.heap.size w2 w11 from by
        have b2 := (X10.out.2.alloc X10.out.2.size _).trans hal.bel
        exact ⟨X2.out.1.trans (b2.mono X2.out.1.size), b2⟩)
      clear HT2 hal z0 z1 z2 z3 z4 X10
      have HC11 := Lib.hid (sameIts_any (m + 1) m w11 _ _ A2 A n c2 c l (X2.out.2.below X11.out.2) (H.out.1.below X11.out.1))
      go_wp2_with fail
      refine HC11.out.mono ?_
      rintro e w12 ⟨rfl, q3, rfl⟩
      have bb := below_drewN' X11.out.1 q3
      clear HC11
      go_wp2_with fail
      go_ret
      exact ⟨rfl, bb⟩

set_option maxRecDepth 100000 in
theorem lifted (os : Os) (started : os.Started) (H : Type) (enc : TypeId × Value → H) :
    ReturnsInHanded {} Try.checked os 7 .any (Rows.tlvPicksSpec.pre6 enc Try.prog Try.f7 Rows.tlvPicksRow.domain false) (Rows.tlvPicksSpec.post enc Try.prog Try.f7 false true false false) := by
  refine returnsInHanded_of_change_sized (C := Try.checked) own started (by kernel_rfl) Try.func7
    (ChangeSpec.witness6 (enc := enc) (C := Try.checked) false ⟨#[], #[.slice none 0 0, .slice none 0 0, .int .i64 0], []⟩ 8 (by kernel_rfl) (by kernel_rfl) (by kernel_rfl) (by kernel_rfl)) ?_
  intro W base args ds gs before hval0 hW _ hsz0 _
  have hsz : (DataW.weightsEach Try.prog (Try.f7.params.toList ++ Rows.tlvPicksSpec.plain.varTypes Try.prog) (ds ++ gs)).all (· ≤ reachBytes) = true := hsz0
  clear hsz0
  have hval : ∀ (j : Nat) t v, Try.f7.params[j]? = some t → args[j]? = some v → Value.okWide Try.prog W .any base t v := hval0
  have hW' := hW
  obtain ⟨p, q, hA0, hV, rfl, _, _⟩ := hW
  have hA : DataW.TrodAll enc Try.prog W 0 (fun _ => true) true Try.f7.params.toList args.toList ds p := hA0
  rw [Try.params7] at hA hval hsz
  obtain ⟨v0, vs0, d0, ds0, p0, q0, hargs, rfl, rfl, h0, r0⟩ := trodAll_cons hA
  obtain ⟨v1, vs1, d1, ds1, p1, q1, rfl, rfl, rfl, h1, r1⟩ := trodAll_cons r0
  obtain ⟨v2, vs2, d2, ds2, p2, q2, rfl, rfl, rfl, h2, r2⟩ := trodAll_cons r1
  obtain ⟨rfl, rfl, rfl⟩ := trodAll_nil r2
  obtain rfl : args = #[v0, v1, v2] := by cases args; simp_all
  obtain ⟨rfl, rfl⟩ := trodVars_none hV
  have lt0 : ∀ x ∈ p0, x.block < W.heap.size := by obtain ⟨m, hm⟩ := h0; exact DataW.trod_lt m _ _ _ hm
  obtain ⟨A0, n0, c0, l0, rfl, s0⟩ := open_items (weights_at hsz (j := 0) rfl rfl) (hval 0 22 v0 rfl rfl) h0
  have lt1 : ∀ x ∈ p1, x.block < W.heap.size := by obtain ⟨m, hm⟩ := h1; exact DataW.trod_lt m _ _ _ hm
  obtain ⟨A1, n1, c1, k1, rfl, s1⟩ := open_si (hval 1 43 v1 rfl rfl) h1
  obtain ⟨a2, rfl, rfl, rfl, w2⟩ := open_int Try.underlying3 (hval 2 3 v2 rfl rfl) h2
  clear hA0 hval0
  refine (walk W s0 s1 w2).mono fun e W' ⟨he, bel⟩ => ?_
  subst he
  exact ⟨_, rfl, _, _, _, [], _, [], hW', trodAll_mk1 (shut_bool Try.underlying4 _), (trodAll_cons_mk (Below.trod laidOut (by kernel_rfl) (of_decide_eq_true (by kernel_rfl)) h0 bel lt0) (trodAll_cons_mk (Below.trod laidOut (by kernel_rfl) (of_decide_eq_true (by kernel_rfl)) h1 bel lt1) (trodAll_cons_mk (shut_int Try.underlying3 w2) trodAll_mk0))), rfl, bel.frame _, fun h => by cases h⟩

theorem over : Rows.tlvPicksRow.holds Try.pinned (OpenSpec.ofChange Rows.tlvPicksSpec) :=
  OpenClaim.holds_of_wide 7 Try.f7 rfl rfl rfl rfl rfl rfl rfl ⟨rfl, rfl, rfl, rfl, rfl⟩ rfl rfl rfl rfl rfl (by kernel_rfl) Try.func7 (by kernel_rfl)
    (of_decide_eq_true (by kernel_rfl)) (by unfold Func.isWrapper; first | (rw [if_pos (by decide +kernel)]; kernel_rfl) | (rw [if_neg (by decide +kernel)]; exact ⟨rfl, rfl⟩))
    (fun os started H enc _ => lifted os started H enc)

theorem proved : Rows.TlvPicksSaid := over
end Go.Proofs.Ythmlcdmlpmbkcaa.tlvPicks
