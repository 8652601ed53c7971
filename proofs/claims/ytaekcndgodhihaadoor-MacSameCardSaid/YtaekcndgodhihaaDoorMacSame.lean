/-
  Proved: MacSame answers true for all bytes, places and bits, over the table of roots that the program's text lays (a tied card).
-/
import Derived.Test.YtaekcndgodhihaaDoorOpen
import Derived.Test.YtaekcndgodhihaaDoorCards
import Derived.Test.YtaekcndgodhihaaDoorTie
import Derived.SevenTiedAt
import Derived.Test.YtaekcndgodhihaaDoorShaTab
import Derived.Test.YtaekcndgodhihaaDoorMacFixed
import Derived.Test.YtaekcndgodhihaaDoorMacHold
import Derived.WalkKit
namespace Go.Proofs.YtaekcndgodhihaaDoor.macSame
open Go.ChangeShapes Go.WideShapes Go.ChangeAt Go.RowKit

theorem shl_one (b : Int) (h : 0 ≤ b ∧ b ≤ 255) : ∃ r : Int, 1 ≤ r ∧ r ≤ 255 ∧ ∀ w, (Op.shift .shl .u8 1 .u8 (b.tmod 8)).run Tryd.prog w = .ok (.int .u8 r) w := by
  have e : b.tmod 8 = b % 8 := Int.tmod_eq_emod_of_nonneg h.1
  have h8 : b % 8 = 0 ∨ b % 8 = 1 ∨ b % 8 = 2 ∨ b % 8 = 3 ∨ b % 8 = 4 ∨ b % 8 = 5 ∨ b % 8 = 6 ∨ b % 8 = 7 := by omega
  rw [e]
  rcases h8 with h | h | h | h | h | h | h | h <;> rw [h]
  · exact ⟨1, by omega, by omega, fun w => by kernel_rfl⟩
  · exact ⟨2, by omega, by omega, fun w => by kernel_rfl⟩
  · exact ⟨4, by omega, by omega, fun w => by kernel_rfl⟩
  · exact ⟨8, by omega, by omega, fun w => by kernel_rfl⟩
  · exact ⟨16, by omega, by omega, fun w => by kernel_rfl⟩
  · exact ⟨32, by omega, by omega, fun w => by kernel_rfl⟩
  · exact ⟨64, by omega, by omega, fun w => by kernel_rfl⟩
  · exact ⟨128, by omega, by omega, fun w => by kernel_rfl⟩
theorem xor8_ne {x r : Int} (hx : 0 ≤ x ∧ x ≤ 255) (hr : 1 ≤ r ∧ r ≤ 255) : bits .xor .u8 x r ≠ x := by
  rw [u8_xor x r hx.1 (by omega) (by omega) (by omega)]
  intro h
  have h1 : x.toNat ^^^ r.toNat = x.toNat := by omega
  have h2 := congrArg (x.toNat ^^^ ·) h1
  simp [← Nat.xor_assoc] at h2
  omega
theorem set_ne {zs : List Int} {k : Nat} {y : Int} (hk : k < zs.length) (h : y ≠ zs.getD k 0) : zs ≠ zs.set k y := fun e => by
  have h1 : zs[k]? = (zs.set k y)[k]? := congrArg (fun l => l[k]?) e
  rw [List.getElem?_set_self hk, List.getElem?_eq_getElem hk] at h1
  injection h1 with h1
  rw [getD_lt hk] at h
  exact h h1.symm

set_option maxRecDepth 100000 in
set_option maxHeartbeats 1600000 in
/-- The walk. -/
theorem walk {A : Option Addr} {n c : Nat} {zs : List Int} {B : Option Addr} {m d : Nat} {ys : List Int} {at_ bit : Int} (w : World) (hr : Roots w) (hs : Sb w A n zs) (h8 : U8s zs) (_ : n ≤ 140737488351232) (_ : n ≤ c ∧ c ≤ maxLen)
    (hs' : Sb w B m ys) (h8' : U8s ys) (_ : m ≤ 140737488351232) (_ : m ≤ d ∧ d ≤ maxLen) (hat : (Lit.int .i64 at_).wf = true) (hbit : (Lit.int .u8 bit).wf = true) :
    Calls Tryd.prog 5 #[.slice A n c, .slice B m d, .int .i64 at_, .int .u8 bit] w fun e w' => e = .returned (.bool true) ∧ Below w.heap.size w w' := by
  have H := Lib.hid (show Roots w ∧ Sb w A n zs ∧ U8s zs ∧ Sb w B m ys ∧ U8s ys from ⟨hr, hs, h8, hs', h8'⟩)
  clear hr hs h8 hs' h8'
  by_cases hbig : (65536 : Int) < (n : Int)
  · go_enter Tryd.func5, Tryd.ntmps5
    go_wp2_with fail
    refine (macFixed_any _ H.out.1).mono ?_
    rintro e w1 ⟨rfl, hb1⟩
    go_wp2_with fail
    go_ret
    exact ⟨rfl, hb1⟩
  by_cases hbig2 : (65536 : Int) < (m : Int)
  · go_enter Tryd.func5, Tryd.ntmps5
    go_wp2_with fail
    refine (macFixed_any _ H.out.1).mono ?_
    rintro e w1 ⟨rfl, hb1⟩
    go_wp2_with fail
    go_ret
    exact ⟨rfl, hb1⟩
  have hn2 : n ≤ 65536 := by omega
  have hm2 : m ≤ 65536 := by omega
  go_enter Tryd.func5, Tryd.ntmps5
  go_wp2_with fail
  refine (copy_any H.out.2.1 (by omega)).mono ?_
  rintro e w1 ⟨g, rfl, hown, hb1⟩
  have X1 := Lib.hid (show Below w.heap.size w w1 ∧ w1.ownsRow w.heap.size 5 1 (.slice (some ⟨g, 0, none⟩) n n) n (zs.map (Value.int .u8)) from ⟨hb1, hown⟩)
  clear hown hb1
  go_wp2_with fail
  refine (macFixed_any _ (H.out.1.below X1.out.1)).mono ?_
  rintro e w2 ⟨rfl, hb2⟩
  have X2 := Lib.hid (show Below w.heap.size w w2 ∧ w2.ownsRow w.heap.size 5 1 (.slice (some ⟨g, 0, none⟩) n n) n (zs.map (Value.int .u8)) from ⟨X1.out.1.trans (hb2.mono X1.out.1.size), own_belowS X1.out.2 hb2⟩)
  clear hb2 X1
  go_wp2_with fail
  refine (macSame_any (H.out.2.1.below X2.out.1) (H.out.2.2.2.1.below X2.out.1) H.out.2.2.1 H.out.2.2.2.2 (by omega) (by omega)).mono ?_
  rintro e w3 ⟨rfl, q3, hw3⟩
  have b3 : Below w2.heap.size w2 w3 := by rw [hw3]; exact below_drewN' (Below.refl _ _) q3
  have X3 := Lib.hid (show Below w.heap.size w w3 ∧ w3.ownsRow w.heap.size 5 1 (.slice (some ⟨g, 0, none⟩) n n) n (zs.map (Value.int .u8)) from ⟨X2.out.1.trans (b3.mono X2.out.1.size), own_belowS X2.out.2 b3⟩)
  clear b3 hw3 X2
  obtain ⟨eq, heq⟩ : ∃ b, b = decide (zs = ys) := ⟨_, rfl⟩
  rw [← heq]
  have HE := Lib.hid heq
  have tE : (eq != eq) = false := by simp
  clear heq
  go_wp2_with fail
  refine (refSame_any (H.out.2.1.below X3.out.1) (H.out.2.2.2.1.below X3.out.1) (by omega) (by omega)).mono ?_
  rintro e w4 ⟨rfl, q4, hw4⟩
  rw [← HE.out]
  have b4 : Below w3.heap.size w3 w4 := by rw [hw4]; exact below_drewN' (Below.refl _ _) q4
  have X4 := Lib.hid (show Below w.heap.size w w4 ∧ w4.ownsRow w.heap.size 5 1 (.slice (some ⟨g, 0, none⟩) n n) n (zs.map (Value.int .u8)) from ⟨X3.out.1.trans (b4.mono X3.out.1.size), own_belowS X3.out.2 b4⟩)
  clear b4 hw4 X3
  go_wp2_with fail
  refine (macSame_any (H.out.2.1.below X4.out.1) (Sb.own X4.out.2) H.out.2.2.1 H.out.2.2.1 (by omega) (by omega)).mono ?_
  rintro e w5 ⟨rfl, q5, hw5⟩
  rw [show decide (zs = zs) = true by simp]
  have b5 : Below w4.heap.size w4 w5 := by rw [hw5]; exact below_drewN' (Below.refl _ _) q5
  have X5 := Lib.hid (show Below w.heap.size w w5 ∧ w5.ownsRow w.heap.size 5 1 (.slice (some ⟨g, 0, none⟩) n n) n (zs.map (Value.int .u8)) from ⟨X4.out.1.trans (b5.mono X4.out.1.size), own_belowS X4.out.2 b5⟩)
  clear b5 hw5 X4
  go_wp2_with fail
  refine (macSame_any (Sb.own X5.out.2) (H.out.2.1.below X5.out.1) H.out.2.2.1 H.out.2.2.1 (by omega) (by omega)).mono ?_
  rintro e w6 ⟨rfl, q6, hw6⟩
  rw [show decide (zs = zs) = true by simp]
  have b6 : Below w5.heap.size w5 w6 := by rw [hw6]; exact below_drewN' (Below.refl _ _) q6
  have X6 := Lib.hid (show Below w.heap.size w w6 ∧ w6.ownsRow w.heap.size 5 1 (.slice (some ⟨g, 0, none⟩) n n) n (zs.map (Value.int .u8)) from ⟨X5.out.1.trans (b6.mono X5.out.1.size), own_belowS X5.out.2 b6⟩)
  clear b6 hw6 X5
  by_cases h0 : at_ < 0
  · go_wp2_with fail
    go_ret
    exact ⟨rfl, X6.out.1⟩
  by_cases h1 : (n : Int) ≤ at_
  · go_wp2_with fail
    go_ret
    exact ⟨rfl, X6.out.1⟩
  obtain ⟨k, rfl⟩ : ∃ k : Nat, at_ = (k : Int) := ⟨at_.toNat, by omega⟩
  have hkn : k < n := by omega
  have hkl : (k : Int) < (n : Int) := by omega
  obtain ⟨x, hx⟩ : ∃ x, x = zs.getD k 0 := ⟨_, rfl⟩
  have hxb : 0 ≤ x ∧ x ≤ 255 := by rw [hx]; exact H.out.2.2.1.getD k
  have hcell : w6.cell? ⟨g, k, none⟩ = some (.int .u8 x) := by rw [hx]; have := (Sb.own X6.out.2).cell hkn; rwa [addHead] at this
  have hfree := X6.out.2.frozenAt k
  have HX := Lib.hid hx
  clear hx h1 h0
  obtain ⟨r, hr1, hr2, hshl⟩ := shl_one bit (bounds_u8 hbit)
  obtain ⟨y, hy⟩ : ∃ y, y = bits .xor .u8 x r := ⟨_, rfl⟩
  have HY := Lib.hid hy
  have HZ := Lib.hid (show y ≠ x ∧ (0 ≤ y ∧ y ≤ 255) from ⟨by rw [hy]; exact xor8_ne hxb ⟨hr1, hr2⟩, by rw [hy]; exact xor8_in hxb ⟨by omega, hr2⟩⟩)
  have hyx : bits .xor .u8 x r = y := hy.symm
  obtain ⟨hx0, hx1⟩ := hxb
  have hg : w.heap.size ≤ g := (own_block X6.out.2).1
  have X7 := Lib.hid (show Below w.heap.size w (w6.setCell ⟨g, k, none⟩ (.int .u8 y)) ∧ Sb (w6.setCell ⟨g, k, none⟩ (.int .u8 y)) (some ⟨g, 0, none⟩) n (zs.set k y) from by
    refine ⟨X6.out.1.setCell hg _, Sb.own (base := w.heap.size) (e := 5) (c := n) ?_⟩
    rw [List.map_set]
    exact (X6.out.2.stored k _).1)
  have HD := Lib.hid (show decide (zs = zs.set k y) = false ∧ decide (zs.set k y = zs) = false ∧ U8s (zs.set k y) from by
    have h1 : zs ≠ zs.set k y := set_ne (by rw [H.out.2.1.len]; exact hkn) (by rw [← HX.out]; exact HZ.out.1)
    refine ⟨by simpa using h1, by simpa using fun e => h1 e.symm, fun z hz => ?_⟩
    rcases List.mem_or_eq_of_mem_set hz with hz | rfl
    · exact H.out.2.2.1 z hz
    · exact HZ.out.2)
  clear hy hg X6 hr1 hr2
  go_wp2_with fail
  refine (macSame_any (H.out.2.1.below X7.out.1) X7.out.2 H.out.2.2.1 HD.out.2.2 (by omega) (by omega)).mono ?_
  rintro e w8 ⟨rfl, q8, hw8⟩
  rw [HD.out.1]
  have b8 : Below (w6.setCell ⟨g, k, none⟩ (.int .u8 y)).heap.size (w6.setCell ⟨g, k, none⟩ (.int .u8 y)) w8 := by rw [hw8]; exact below_drewN' (Below.refl _ _) q8
  have X8 := Lib.hid (show Below w.heap.size w w8 ∧ Sb w8 (some ⟨g, 0, none⟩) n (zs.set k y) from ⟨X7.out.1.trans (b8.mono X7.out.1.size), X7.out.2.below b8⟩)
  clear b8 hw8 X7 hcell hfree hshl hyx
  go_wp2_with fail
  refine (macSame_any X8.out.2 (H.out.2.1.below X8.out.1) HD.out.2.2 H.out.2.2.1 (by omega) (by omega)).mono ?_
  rintro e w9 ⟨rfl, q9, rfl⟩
  rw [HD.out.2.1]
  go_wp2_with fail
  go_ret
  exact ⟨rfl, below_drewN' X8.out.1 q9⟩

set_option maxRecDepth 100000 in
theorem lifted (os : Os) (started : os.Started) (H : Type) (enc : TypeId × Value → H) :
    ReturnsInHanded {} Tryd.checked os 5 .any (fun w args => (Rows.macSameSpec.pre enc Tryd.prog Tryd.f5 [] false w args ∧ laidMetH Tryd.prog laidL w) ∧ sizedMet enc Tryd.prog Tryd.f5 (OpenSpec.ofChange Rows.macSameSpec) false w args)
      (Rows.macSameSpec.post enc Tryd.prog Tryd.f5 false true false false) := by
  refine returnsInHanded_of_change_and (C := Tryd.checked) (X := fun w _ => laidMetH Tryd.prog laidL w) (fun _ _ _ hh h => h.of_heap hh) own started (by kernel_rfl) Tryd.func5
    (ChangeSpec.witness_shaped (enc := enc) (C := Tryd.checked) (os := os) (X := fun w _ => laidMetH Tryd.prog laidL w) false (World.doorLaid Tryd.prog 400 os) #[.slice none 0 0, .slice none 0 0, .int .i64 0, .int .u8 0] 8 rfl (World.shaped_of_RefB (by kernel_rfl) (by kernel_rfl)) (by kernel_rfl) (by kernel_rfl) (by kernel_rfl) (door_met os _)) ?_
  intro W base args ds gs before hval0 hW _ hsz0 hL _
  have hsz : (DataW.weightsEach Tryd.prog (Tryd.f5.params.toList ++ Rows.macSameSpec.plain.varTypes Tryd.prog) (ds ++ gs)).all (· ≤ reachBytes) = true := hsz0
  clear hsz0
  have hval : ∀ (j : Nat) t v, Tryd.f5.params[j]? = some t → args[j]? = some v → Value.okWide Tryd.prog W .any base t v := hval0
  have hW' := hW
  obtain ⟨p, q, hA0, hV, rfl, _, _⟩ := hW
  have hA : DataW.TrodAll enc Tryd.prog W 0 (fun _ => true) true Tryd.f5.params.toList args.toList ds p := hA0
  rw [Tryd.params5] at hA hval hsz
  obtain ⟨v0, vs0, d0, ds0, p0, q0, hargs, rfl, rfl, h0, r0⟩ := trodAll_cons hA
  obtain ⟨v1, vs1, d1, ds1, p1, q1, rfl, rfl, rfl, h1, r1⟩ := trodAll_cons r0
  obtain ⟨v2, vs2, d2, ds2, p2, q2, rfl, rfl, rfl, h2, r2⟩ := trodAll_cons r1
  obtain ⟨v3, vs3, d3, ds3, p3, q3, rfl, rfl, rfl, h3, r3⟩ := trodAll_cons r2
  obtain ⟨rfl, rfl, rfl⟩ := trodAll_nil r3
  obtain rfl : args = #[v0, v1, v2, v3] := by cases args; simp_all
  obtain ⟨rfl, rfl⟩ := trodVars_none hV
  have lt0 : ∀ x ∈ p0, x.block < W.heap.size := by obtain ⟨m, hm⟩ := h0; exact DataW.trod_lt m _ _ _ hm
  obtain ⟨A0, n0, c0, z0, rfl, s0, u0, l0, g0⟩ := open_bytes_c (hval 0 22 v0 rfl rfl) h0
  have m0 := g0 _ _ 0 hsz rfl rfl
  have lt1 : ∀ x ∈ p1, x.block < W.heap.size := by obtain ⟨m, hm⟩ := h1; exact DataW.trod_lt m _ _ _ hm
  obtain ⟨A1, n1, c1, z1, rfl, s1, u1, l1, g1⟩ := open_bytes_c (hval 1 22 v1 rfl rfl) h1
  have m1 := g1 _ _ 1 hsz rfl rfl
  obtain ⟨a2, rfl, rfl, rfl, w2⟩ := open_int Tryd.underlying3 (hval 2 3 v2 rfl rfl) h2
  obtain ⟨a3, rfl, rfl, rfl, w3⟩ := open_int Tryd.underlying5 (hval 3 5 v3 rfl rfl) h3
  clear hA0 hval0
  refine (walk W (roots_of_laid hL) s0 u0 m0 l0 s1 u1 m1 l1 w2 w3).mono fun e W' ⟨he, bel⟩ => ?_
  subst he
  exact ⟨_, rfl, _, _, _, [], _, [], hW', trodAll_mk1 (shut_bool Tryd.underlying4 _), (trodAll_cons_mk (Below.trod laidOut (by kernel_rfl) (of_decide_eq_true (by kernel_rfl)) h0 bel lt0) (trodAll_cons_mk (Below.trod laidOut (by kernel_rfl) (of_decide_eq_true (by kernel_rfl)) h1 bel lt1) (trodAll_cons_mk (shut_int Tryd.underlying3 w2) (trodAll_cons_mk (shut_int Tryd.underlying5 w3) trodAll_mk0)))), rfl, bel.frame _, fun h => by cases h⟩

theorem over : Rows.macSameRow.holds Tryd.pinned (OpenSpec.ofChange Rows.macSameSpec) :=
  OpenClaim.holds_of_wide 5 Tryd.f5 rfl rfl rfl rfl rfl rfl rfl ⟨rfl, rfl, rfl, rfl, rfl⟩ rfl rfl rfl rfl rfl (by kernel_rfl) Tryd.func5 (by kernel_rfl)
    (of_decide_eq_true (by kernel_rfl)) (by unfold Func.isWrapper; first | (rw [if_pos (by decide +kernel)]; kernel_rfl) | (rw [if_neg (by decide +kernel)]; exact ⟨rfl, rfl⟩))
    (fun os started H enc _ => lifted os started H enc)

theorem proved : Rows.MacSameCardSaid :=
  Claim7.holds_tied_plain_at .later [] [.data] true Rows.macSameCard.stood.harness false
    over (fun _ h => by cases h) (by kernel_rfl) (fun _ h => by cases h) macSame_row_tie rfl ⟨rfl, rfl⟩ (by kernel_rfl) rfl
    (fun f fn hf hfn => by
      obtain rfl : f = 5 := Option.some.inj ((show Tryd.prog.funcNamed "spyglass/spyglasslaw04.MacSame" = some 5 by kernel_rfl).symm.trans hf) |>.symm
      obtain rfl : fn = Tryd.f5 := (Option.some.inj (Tryd.func5.symm.trans hfn)).symm
      exact ⟨by kernel_rfl, fun j t ht => by
        rw [Tryd.params5] at ht
        have hm : t ∈ [22, 22, 3, 5] := by simpa using Array.mem_of_getElem? ht
        have hall : ([22, 22, 3, 5].all fun u => !Tryd.prog.wantsStandIn u) = true := by kernel_rfl
        exact (show Tryd.prog.wantsStandIn t = false by simpa using List.all_eq_true.1 hall t hm)⟩)
    (by kernel_rfl)
end Go.Proofs.YtaekcndgodhihaaDoor.macSame
