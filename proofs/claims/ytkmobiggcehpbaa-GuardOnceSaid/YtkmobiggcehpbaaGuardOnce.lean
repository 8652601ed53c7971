/-
  Proved: GuardOnce answers true for every first number and whatever numbers come.
-/
import Derived.Test.YtkmobiggcehpbaaOpen
import Derived.Test.YtkmobiggcehpbaaGuardFixed
import Derived.WalkKit
import Derived.Maps.OwnOps
import Derived.Maps.OwnSet
import Derived.Maps.RangeWalk
namespace Go.Proofs.Ytkmobiggcehpbaa.guardOnce
open Go.ChangeShapes Go.WideShapes Go.ChangeAt Go.RowKit

open Go.Maps

theorem lawK : Keyed Try.prog 29 := int_keyed Try.underlying29
theorem zeroI (w : World) : (zeroValue 3).run Try.prog w = .ok (.int .i64 0) w := by kernel_rfl

/-- What the map reads as: it holds 1 at each key, and each key was taken. -/
structure Ones (L : List Int) (D : DataW Unit) : Prop where
  isMap : IsMap D
  one : ∀ kl z, Maps.has D kl = true → D.atKey kl z = .lit (.int .i64 1)
  key : ∀ x, Maps.has D (.int .u64 x) = true → x ∈ L
theorem Ones.new : Ones [] (.map []) := ⟨isMap_empty, (fun _ _ h => by simp [Maps.has] at h), (fun _ h => by simp [Maps.has] at h)⟩
theorem Ones.zero {L : List Int} {D : DataW Unit} (h : Ones L D) {n c : Int} (hn : n ∉ L) (hat : D.atKey (.int .u64 n) (.lit (.int .i64 0)) = .lit (.int .i64 c)) : c = 0 := by
  have h1 : Maps.has D (.int .u64 n) = false := by
    cases h2 : Maps.has D (.int .u64 n)
    · rfl
    · exact absurd (h.key n h2) hn
  rw [atKey_of_not_has h1] at hat
  injection hat with hat
  injection hat with _ hat
  exact hat.symm
theorem Ones.more {L : List Int} {D : DataW Unit} (h : Ones L D) {n : Int} (hw : (Lit.int .u64 n).wf = true) : Ones (L ++ [n]) (D.put (.int .u64 n) (.lit (.int .i64 1))) := by
  refine ⟨h.isMap.put _ _, fun kl z hk => ?_, fun x hx => ?_⟩
  · by_cases e : kl = .int .u64 n
    · subst e
      exact atKey_put_same (k := .int .u64 n) h.isMap trivial _ _
    · rw [has_put_other e] at hk
      rw [atKey_put_other e]
      exact h.one kl z hk
  · by_cases e : x = n
    · subst e; simp
    · rw [has_put_other (fun e1 => e (by injection e1))] at hx
      exact List.mem_append_left _ (h.key x hx)
theorem Ones.mono {L : List Int} {D : DataW Unit} (h : Ones L D) {L' : List Int} (hL : ∀ x ∈ L, x ∈ L') : Ones L' D := ⟨h.isMap, h.one, fun x hx => hL x (h.key x hx)⟩

set_option maxRecDepth 100000 in
/-- The walk. -/
theorem walk {from_ : Int} {A : Option Addr} {n c : Nat} {zs : List Int} (w : World) (hw : (Lit.int .u64 from_).wf = true) (hs : Sb w A n zs) (h8 : U8s zs) (hnr : n ≤ 140737488351232) (hc : n ≤ c ∧ c ≤ maxLen) :
    Calls Try.prog 4 #[.int .u64 from_, .slice A n c] w fun e w' => e = .returned (.bool true) ∧ Below w.heap.size w w' := by
  obtain ⟨hc1, hc2⟩ := hc
  obtain ⟨hb0, hb1⟩ := bounds_u64 hw
  have H := Lib.hid (show Sb w A n zs ∧ U8s zs from ⟨hs, h8⟩)
  unfold maxLen at hc2
  have hnm : n ≤ 9223372036854775807 := by omega
  have hmm := @run_makeMap Try.prog
  clear hs h8 hw hc1 hc2
  go_enter Try.func4, Try.ntmps4
  go_wp2_with fail
  refine (gNew_any _).mono ?_
  rintro e w1 ⟨rfl, hg, hb⟩
  obtain ⟨g, hge⟩ : ∃ g, g = w.heap.size := ⟨_, rfl⟩
  rw [← hge] at hg ⊢
  have X := Lib.hid (And.intro hg (show Below g w w1 by rw [hge]; exact hb))
  have HG := Lib.hid hge
  clear hg hb hge
  go_wp2_with fail
  refine (guardFixed_any _).mono ?_
  rintro e w2 ⟨rfl, hb⟩
  have X2 := Lib.hid (And.intro (X.out.1.below hb) (X.out.2.trans (hb.mono (by have := X.out.1.lt; omega))))
  clear hb X
  obtain ⟨a, hae⟩ : ∃ a, from_ % 2305843009213693952 = a := ⟨_, rfl⟩
  have htm : from_.tmod 2305843009213693952 = a := by rw [Int.tmod_eq_emod_of_nonneg hb0]; exact hae
  have ha0 : 0 ≤ a := by omega
  have ha1 : a < 2305843009213693952 := by omega
  go_wp2_with fail
  obtain ⟨B, hbe⟩ : ∃ b, b = w2.heap.size := ⟨_, rfl⟩
  rw [← hbe]
  have HB := Lib.hid hbe
  clear hbe
  go_loopw [23] (fun i wr => ∃ (k : Nat) (L : List Int) (D : DataW Unit), k ≤ n ∧ i = .int .i64 k ∧ g < B ∧ Gd 49 wr g L ∧ wr.ownsMap Try.prog 29 (plainElem (H := Unit) Try.prog 3) B k D ∧ Ones L D ∧ Below g w wr) (fun i _ => n - (intOf i).toNat)
  case atStart => exact ⟨0, [], .map [], Nat.zero_le _, rfl, by rw [HB.out]; exact X2.out.1.lt, X2.out.1.alloc _, by rw [HB.out]; exact World.ownsMap_made _ _ _ _, Ones.new, X2.out.2.alloc (Nat.le_of_lt X2.out.1.lt) _⟩
  case round =>
    obtain ⟨k, L, D, hk, rfl, hgB, hX⟩ := hrel
    have Y := Lib.hid hX
    clear hX X2 hae htm hmm
    by_cases hlt : k < n
    · have hkl : (k : Int) < (n : Int) := by omega
      obtain ⟨ad, rfl, hblt, hcz⟩ := H.out.1.at_ (by omega)
      obtain ⟨z, hz⟩ : ∃ z, z = zs.getD k 0 := ⟨_, rfl⟩
      have hzm := H.out.2.getD k
      rw [← hz] at hzm
      obtain ⟨hz0, hz1⟩ := hzm
      have hcell : wr.cell? (ad.add k) = some (.int .u8 z) := by rw [hz]; exact (Y.out.2.2.2.cell (by rw [addBlock, HG.out]; exact hblt)).trans (hcz k hlt)
      clear hz hblt hcz
      by_cases hbig : (2000 : Int) < (k : Int)
      · have HW := Y
        go_wp2_with (first
          | (at_range; refine wpList_range_own _ rfl _ 41 rfl 29 3 lawK Try.underlying41 _ B k _ rfl HW.out.2.1 ?_; intro w0 hrg0 hg0 hs0))
        go_frame
        obtain ⟨r, hr⟩ : ∃ r, r = wr.heap.size := ⟨_, rfl⟩
        rw [← hr] at hrg0 ⊢
        have HR := Lib.hid (show Below g w w0 ∧ g < r ∧ (∀ kl z, Maps.has D kl = true → D.atKey kl z = .lit (.int .i64 1)) from ⟨HW.out.2.2.2.grown hg0 (by have := HW.out.1.lt; omega) (fun j hj => by cases hj), by rw [hr]; exact HW.out.1.lt, HW.out.2.2.1.one⟩)
        have HRG0 := Lib.hid hrg0
        clear hrg0 hg0 hs0 hr HW Y
        go_loopw [10] (fun _ wq => ∃ (left : Lit → Bool) (cnt : Nat), wq.ranges Try.prog 29 (plainElem (H := Unit) Try.prog 3) B r k D left cnt ∧ (∀ z, left z = true → Maps.has D z = true) ∧ Below g w wq) (fun _ wq => wq.rangeLeft B r)
        case atStart => exact ⟨_, _, HRG0.out, fun _ h => h, HR.out.1⟩
        case round =>
          obtain ⟨left, cnt, hrg, hlf, hbel⟩ := hrel
          go_wp2_with (first
            | (at_next; refine wpList_next_ranges_ii _ rfl _ rfl 29 3 .u64 .i64 lawK Try.underlying29 Try.underlying3 B r k _ _ _ rfl hrg ?_ ?_))
          · intro _ _
            go_wp2_with fail
            go_ret
            exact ⟨rfl, by rw [← HG.out]; exact hbel⟩
          · intro x c1 w1 cnt1 hwx hwc hlx hat hrg1 hlt1 hg1 hs1 hen
            obtain rfl : c1 = 1 := by
              have h1 := HR.out.2.2 _ (.lit (.int .i64 0)) (hlf _ hlx)
              rw [hat] at h1
              injection h1 with h1
              injection h1
            have HB2 := Lib.hid (show Below g w w1 ∧ (∀ z, (left z && !z.sameKey (.int .u64 x)) = true → Maps.has D z = true) from ⟨hbel.grown hg1 (by have := hrg.owns.lt; have h2 := HR.out.2.1; have := hbel.size; omega) (fun j hj => by cases hj; have := HR.out.2.1; omega), fun z hz => hlf z (by simp only [Bool.and_eq_true] at hz; exact hz.1)⟩)
            clear hlf hlx hat hg1 hs1 hwx hwc hbel
            go_wp2_with fail
            go_roundw
            case rel => exact ⟨_, cnt1, hrg1, HB2.out.2, HB2.out.1⟩
            case measure => rw [hrg1.left_eq, hrg.left_eq]; exact hlt1
      · go_wp2_with fail
        refine (gTake_any Y.out.1 (a + z) (by omega) (by omega)).mono ?_
        rintro e w4 ⟨rfl, hg, hr⟩
        by_cases he0 : chk (a + z) L = 0
        · have Y2 := Lib.hid (show Gd 49 w4 g (L ++ [a + z]) ∧ Ones L D ∧ Below g w w4 ∧ a + z ∉ L from by
            have h := Y.out
            rw [tk_ok he0] at hg
            exact ⟨hg, h.2.2.1, h.2.2.2.grown hr (Nat.le_of_lt (by have := h.1.lt; have := h.2.2.2.size; omega)) (fun j hj => by cases hj; omega), fun hm => chk_mem hm he0⟩)
          have hown := Y.out.2.1.kept hr (fun e => by injection e with e; omega)
          rw [he0]
          have hwf : (Lit.int .u64 (a + z)).wf = true := WalkArith.wf_u64 (by omega)
          clear hg hr Y he0
          go_wp2_with (first
            | (at_lookup; refine wpList_lookup_own_int _ rfl _ _ 41 rfl 29 3 .i64 lawK Try.underlying41 Try.underlying3 (zeroI _) B k _ rfl hown _ _ rfl (keyOf_int_mk Try.underlying29 hwf) ?_; intro c2 hat hwc; obtain rfl : c2 = 0 := Y2.out.2.1.zero Y2.out.2.2.2 hat; clear hat hwc)
            | (at_mapUpdate; refine wpList_mapUpdate_own _ rfl _ _ _ 41 rfl 29 3 lawK Try.underlying41 _ B k _ rfl hown (by unfold maxLen; omega) _ _ _ rfl rfl (keyOf_int_mk Try.underlying29 hwf) _ [] (plainElem_int Try.underlying3 (WalkArith.wf_i64 (by omega))) ?_; intro w5 hown5 hg5))
          have Y3 := Lib.hid (show Gd 49 w5 g (L ++ [a + z]) ∧ w5.ownsMap Try.prog 29 (plainElem (H := Unit) Try.prog 3) B (k + 1) _ ∧ Ones (L ++ [a + z]) (D.put (.int .u64 (a + z)) (.lit (.int .i64 1))) ∧ Below g w w5 from by
            have h := Y2.out
            exact ⟨h.1.grown hg5 (fun e => by injection e with e; omega), hown5, h.2.1.more hwf, h.2.2.1.grown hg5 (Nat.le_of_lt h.1.lt) (fun j hj => by cases hj; omega)⟩)
          clear hown hown5 hg5 Y2
          go_roundw
          case rel => exact ⟨k + 1, _, _, by omega, by go_num, hgB, Y3.out⟩
          case measure => simp [intOf]; omega
        · have Y2 := Lib.hid (show Gd 49 w4 g L ∧ w4.ownsMap Try.prog 29 (plainElem (H := Unit) Try.prog 3) B (k + 1) D ∧ Ones L D ∧ Below g w w4 from by
            have h := Y.out
            rw [tk_no he0] at hg
            exact ⟨hg, (h.2.1.kept hr (fun e => by injection e with e; omega)).mono (Nat.le_succ _), h.2.2.1, h.2.2.2.grown hr (Nat.le_of_lt (by have := h.1.lt; have := h.2.2.2.size; omega)) (fun j hj => by cases hj; omega)⟩)
          obtain ⟨e0, hee⟩ : ∃ e0, e0 = chk (a + z) L := ⟨_, rfl⟩
          rw [← hee] at he0 ⊢
          have t1 : (e0 == 0) = false := by simpa using he0
          clear hg hr Y he0 hee
          go_wp2_with fail
          go_roundw
          case rel => exact ⟨k + 1, _, _, by omega, by go_num, hgB, Y2.out⟩
          case measure => simp [intOf]; omega
    · have HW := Y
      go_wp2_with (first
        | (at_range; refine wpList_range_own _ rfl _ 41 rfl 29 3 lawK Try.underlying41 _ B k _ rfl HW.out.2.1 ?_; intro w0 hrg0 hg0 hs0))
      go_frame
      obtain ⟨r, hr⟩ : ∃ r, r = wr.heap.size := ⟨_, rfl⟩
      rw [← hr] at hrg0 ⊢
      have HR := Lib.hid (show Below g w w0 ∧ g < r ∧ (∀ kl z, Maps.has D kl = true → D.atKey kl z = .lit (.int .i64 1)) from ⟨HW.out.2.2.2.grown hg0 (by have := HW.out.1.lt; omega) (fun j hj => by cases hj), by rw [hr]; exact HW.out.1.lt, HW.out.2.2.1.one⟩)
      have HRG0 := Lib.hid hrg0
      clear hrg0 hg0 hs0 hr HW Y
      go_loopw [10] (fun _ wq => ∃ (left : Lit → Bool) (cnt : Nat), wq.ranges Try.prog 29 (plainElem (H := Unit) Try.prog 3) B r k D left cnt ∧ (∀ z, left z = true → Maps.has D z = true) ∧ Below g w wq) (fun _ wq => wq.rangeLeft B r)
      case atStart => exact ⟨_, _, HRG0.out, fun _ h => h, HR.out.1⟩
      case round =>
        obtain ⟨left, cnt, hrg, hlf, hbel⟩ := hrel
        go_wp2_with (first
          | (at_next; refine wpList_next_ranges_ii _ rfl _ rfl 29 3 .u64 .i64 lawK Try.underlying29 Try.underlying3 B r k _ _ _ rfl hrg ?_ ?_))
        · intro _ _
          go_wp2_with fail
          go_ret
          exact ⟨rfl, by rw [← HG.out]; exact hbel⟩
        · intro x c1 w1 cnt1 hwx hwc hlx hat hrg1 hlt1 hg1 hs1 hen
          obtain rfl : c1 = 1 := by
            have h1 := HR.out.2.2 _ (.lit (.int .i64 0)) (hlf _ hlx)
            rw [hat] at h1
            injection h1 with h1
            injection h1
          have HB2 := Lib.hid (show Below g w w1 ∧ (∀ z, (left z && !z.sameKey (.int .u64 x)) = true → Maps.has D z = true) from ⟨hbel.grown hg1 (by have := hrg.owns.lt; have h2 := HR.out.2.1; have := hbel.size; omega) (fun j hj => by cases hj; have := HR.out.2.1; omega), fun z hz => hlf z (by simp only [Bool.and_eq_true] at hz; exact hz.1)⟩)
          clear hlf hlx hat hg1 hs1 hwx hwc hbel
          go_wp2_with fail
          go_roundw
          case rel => exact ⟨_, cnt1, hrg1, HB2.out.2, HB2.out.1⟩
          case measure => rw [hrg1.left_eq, hrg.left_eq]; exact hlt1

set_option maxRecDepth 100000 in
theorem lifted (os : Os) (started : os.Started) (H : Type) (enc : TypeId × Value → H) :
    ReturnsInHanded {} Try.checked os 4 .any (Rows.guardOnceSpec.pre6 enc Try.prog Try.f4 Rows.guardOnceRow.domain false) (Rows.guardOnceSpec.post enc Try.prog Try.f4 false true false false) := by
  refine returnsInHanded_of_change_sized (C := Try.checked) own started (by kernel_rfl) Try.func4
    (ChangeSpec.witness6 (enc := enc) (C := Try.checked) false ⟨#[], #[.int .u64 0, .slice none 0 0], []⟩ 8 (by kernel_rfl) (by kernel_rfl) (by kernel_rfl) (by kernel_rfl)) ?_
  intro W base args ds gs before hval0 hW _ hsz0 _
  have hsz : (DataW.weightsEach Try.prog (Try.f4.params.toList ++ Rows.guardOnceSpec.plain.varTypes Try.prog) (ds ++ gs)).all (· ≤ reachBytes) = true := hsz0
  clear hsz0
  have hval : ∀ (j : Nat) t v, Try.f4.params[j]? = some t → args[j]? = some v → Value.okWide Try.prog W .any base t v := hval0
  have hW' := hW
  obtain ⟨p, q, hA0, hV, rfl, _, _⟩ := hW
  have hA : DataW.TrodAll enc Try.prog W 0 (fun _ => true) true Try.f4.params.toList args.toList ds p := hA0
  rw [Try.params4] at hA hval hsz
  obtain ⟨v0, vs0, d0, ds0, p0, q0, hargs, rfl, rfl, h0, r0⟩ := trodAll_cons hA
  obtain ⟨v1, vs1, d1, ds1, p1, q1, rfl, rfl, rfl, h1, r1⟩ := trodAll_cons r0
  obtain ⟨rfl, rfl, rfl⟩ := trodAll_nil r1
  obtain rfl : args = #[v0, v1] := by cases args; simp_all
  obtain ⟨rfl, rfl⟩ := trodVars_none hV
  obtain ⟨a0, rfl, rfl, rfl, w0⟩ := open_int Try.underlying29 (hval 0 29 v0 rfl rfl) h0
  have lt1 : ∀ x ∈ p1, x.block < W.heap.size := by obtain ⟨m, hm⟩ := h1; exact DataW.trod_lt m _ _ _ hm
  obtain ⟨A1, n1, c1, z1, rfl, s1, u1, l1, g1⟩ := open_bytes_c (hval 1 40 v1 rfl rfl) h1
  have m1 := g1 _ _ 1 hsz rfl rfl
  clear hA0 hval0
  refine (walk W w0 s1 u1 m1 l1).mono fun e W' ⟨he, bel⟩ => ?_
  subst he
  exact ⟨_, rfl, _, _, _, [], _, [], hW', trodAll_mk1 (shut_bool Try.underlying4 _), (trodAll_cons_mk (shut_int Try.underlying29 w0) (trodAll_cons_mk (Below.trod laidOut (by kernel_rfl) (of_decide_eq_true (by kernel_rfl)) h1 bel lt1) trodAll_mk0)), rfl, bel.frame _, fun h => by cases h⟩

theorem over : Rows.guardOnceRow.holds Try.pinned (OpenSpec.ofChange Rows.guardOnceSpec) :=
  OpenClaim.holds_of_wide 4 Try.f4 rfl rfl rfl rfl rfl rfl rfl ⟨rfl, rfl, rfl, rfl, rfl⟩ rfl rfl rfl rfl rfl (by kernel_rfl) Try.func4 (by kernel_rfl)
    (of_decide_eq_true (by kernel_rfl)) (by unfold Func.isWrapper; first | (rw [if_pos (by decide +kernel)]; kernel_rfl) | (rw [if_neg (by decide +kernel)]; exact ⟨rfl, rfl⟩))
    (fun os started H enc _ => lifted os started H enc)

theorem proved : Rows.GuardOnceSaid := over
end Go.Proofs.Ytkmobiggcehpbaa.guardOnce
