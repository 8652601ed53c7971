/-
  Proved: WireOne answers true for all bytes.
-/
import Derived.Test.YtjgcfiffbibonaaOpen
import Derived.Test.YtjgcfiffbibonaaWireFixed
import Derived.WalkKit
import Derived.Deep.RegionHeld3
namespace Go.Proofs.Ytjgcfiffbibonaa.wireOne
open Go.ChangeShapes Go.WideShapes Go.ChangeAt Go.RowKit

/-- What every world of the last statement holds: the bytes that came in; old memory. -/
structure Keep (w0 : World) (A : Option Addr) (n : Nat) (zs : List Int) (w : World) : Prop where
  sb : Sb w A n zs
  bel : Below w0.heap.size w0 w
theorem Keep.on {w0 : World} {A : Option Addr} {n : Nat} {zs : List Int} {w w' : World} (h : Keep w0 A n zs w) (hb : Below w.heap.size w w') : Keep w0 A n zs w' := ⟨h.sb.below hb, h.bel.trans (hb.mono h.bel.size)⟩
theorem Keep.drew {w0 : World} {A : Option Addr} {n : Nat} {zs : List Int} {w : World} (h : Keep w0 A n zs w) : Keep w0 A n zs w.drew := ⟨h.sb.drew, h.bel.drew⟩
theorem Keep.drewN {w0 : World} {A : Option Addr} {n : Nat} {zs : List Int} {w : World} (h : Keep w0 A n zs w) (q : Nat) : Keep w0 A n zs (w.drewN q) := ⟨h.sb.drewN q, below_drewN' h.bel q⟩

/-- What Var laid and the front of what came in read as the same bytes. -/
structure Two (w : World) (A A' : Option Addr) (n k : Nat) (ys : List Int) : Prop where
  one : Sb w A n ys
  two : Sb w A' k ys
theorem var_at {V : Int} {k n : Nat} {zs : List Int} {w w' : World} {A A3 : Option Addr} {n3 c3 : Nat} (hk : k ≤ n) (hV : varL V = zs.take k) (hs : Sb w' A n zs) (h : MadeAt 5 (varL V) w A3 n3 c3 w') : Two w' A3 A n3 k (varL V) :=
  ⟨h.sb, by rw [hV]; exact hs.front hk⟩
theorem same_at {w : World} {A A' : Option Addr} {n k c c' : Nat} {ys : List Int} (h : Two w A A' n k ys) (hk : k ≤ 9223372036854775807) :
    Calls Try.prog 13 #[.slice A n c, .slice A' k c'] w fun e w' => e = .returned (.bool true) ∧ ∃ q, w' = w.drewN q := by
  obtain rfl : n = k := h.one.len.symm.trans h.two.len
  exact same_true h.one h.two hk

theorem walk_bad {A : Option Addr} {n c : Nat} {zs : List Int} (w : World) (hs : Sb w A n zs) (hu : U8s zs) (hn : n ≤ 140737488351232) (hE : Hid (fvE 0 zs ≠ 0)) :
    Calls Try.prog 6 #[.slice A n c] w fun e w' => e = .returned (.bool true) ∧ Below w.heap.size w w' := by
  go_enter Try.func6, Try.ntmps6
  go_wp2_with fail
  refine (new_any hs (by omega)).mono ?_
  rintro e w1 ⟨r, A1, n1, c1, rfl, hr, hb⟩
  have hl := hs.len
  obtain rfl : n = n1 := hl.symm.trans hr.sb.len
  have X1 := Lib.hid (And.intro hb hr)
  clear hb hr hl
  go_wp2_with fail
  refine (rvar_any X1.out.2 hu (by omega)).mono ?_
  rintro e w2 ⟨rfl, ⟨A2, n2, c2, hr2⟩, hg⟩
  have hv : var1 zs 0 = (0, zs, fvE 0 zs) := by unfold var1; rw [if_neg (by simp), if_neg hE.out]
  rw [hv] at hr2
  obtain rfl : n = n2 := X1.out.2.sb.len.symm.trans hr2.sb.len
  have X2 := Lib.hid (And.intro (X1.out.1.grown hg X1.out.1.size (fun k hk => by cases hk; exact X1.out.2.lo)) hr2)
  have E := Lib.hid hv
  clear hg hr2 X1
  simp only [E.out]
  obtain ⟨e0, he0⟩ : ∃ e0, e0 = fvE 0 zs := ⟨_, rfl⟩
  rw [← he0] at X2
  have t1 : (e0 != 0) = true := by rw [he0]; simpa using hE.out
  clear he0 hv
  go_wp2_with fail
  refine (err_any X2.out.2).mono ?_
  rintro e w' ⟨rfl, rfl⟩
  go_wp2_with fail
  refine (fixed_any _).mono ?_
  rintro e w3 ⟨rfl, hb3⟩
  have X3 := Lib.hid (And.intro (X2.out.1.trans (hb3.mono X2.out.1.size)) (X2.out.2.below hb3))
  clear hb3 X2
  go_wp2_with fail
  refine (left_any X3.out.2).mono ?_
  rintro e w' ⟨rfl, rfl⟩
  go_wp2
  go_ret
  exact ⟨rfl, X3.out.1⟩

theorem walk_good {A : Option Addr} {n c : Nat} {zs : List Int} (w : World) (hs : Sb w A n zs) (hu : U8s zs) (hn : n ≤ 140737488351232) (hl : n ≤ c ∧ c ≤ maxLen) (hE : Hid (fvE 0 zs = 0)) :
    Calls Try.prog 6 #[.slice A n c] w fun e w' => e = .returned (.bool true) ∧ Below w.heap.size w w' := by
  obtain ⟨hnc, hcm⟩ := hl
  unfold maxLen at hcm
  have hV1 := fvV_nonneg hu
  have hV2 := fvV_lt hu 0 (by omega) hE.out
  have hK0 := fvK_pos hE.out
  have hK1 := fvK_le zs
  have H1 := Lib.hid (var_one hu hE.out)
  have hv : Hid (var1 zs 0 = (fvV zs, zs.drop (fvK zs), 0)) := by show _ = _; unfold var1; rw [if_neg (by simp), if_pos hE.out]
  rw [hs.len] at hK1
  obtain ⟨V, hV⟩ : ∃ V, V = fvV zs := ⟨_, rfl⟩
  obtain ⟨k, hk⟩ : ∃ k, k = fvK zs := ⟨_, rfl⟩
  rw [← hV] at hV1 hV2 H1 hv
  rw [← hk] at hK0 hK1 H1 hv
  have hV3 : V ≤ 18446744073709551615 := by simp at hV2; omega
  clear hV2 hV hk hE
  go_enter Try.func6, Try.ntmps6
  go_wp2_with fail
  refine (new_any hs (by omega)).mono ?_
  rintro e w1 ⟨r, A1, n1, c1, rfl, hr, hb⟩
  obtain rfl : n = n1 := hs.len.symm.trans hr.sb.len
  have X1 := Lib.hid (And.intro hb hr)
  clear hb hr
  go_wp2_with fail
  refine (rvar_any X1.out.2 hu (by omega)).mono ?_
  rintro e w2 ⟨rfl, ⟨A2, n2, c2, hr2⟩, hg⟩
  rw [hv.out] at hr2
  have hl2 := hr2.sb.len
  rw [List.length_drop, hs.len] at hl2
  obtain rfl : n - k = n2 := hl2
  have B2 := X1.out.1.grown hg X1.out.1.size (fun k hk => by cases hk; exact X1.out.2.lo)
  have X2 := Lib.hid (And.intro (Keep.mk (hs.below B2) B2) hr2)
  simp only [hv.out]
  clear hg hr2 X1 B2
  go_wp2_with fail
  refine (err_any X2.out.2).mono ?_
  rintro e w' ⟨rfl, rfl⟩
  go_wp2_with fail
  refine (left_any X2.out.2).mono ?_
  rintro e w' ⟨rfl, rfl⟩
  have K2 := X2.out.1
  have e5 : ((n : Int) - ((n - k : Nat) : Int)) = (k : Int) := by omega
  clear X2 hs
  go_wp2_with fail
  clear e5
  have i1 : (0 : Int) ≤ (k : Int) := by omega
  have i2 : (k : Int) ≤ (c : Int) := by omega
  have i3 : k ≤ c := by omega
  go_region_held3 (fun w' => Keep w A n zs w') (first | assumption | exact Keep.drew (by assumption))
    (first
      | (go_at_call 12; refine (fixed_any _).mono ?_; rintro e w' ⟨rfl, hb⟩; have hk := Keep.on (by assumption) hb)
      | (go_at_call 16; refine (var_any V _ hV1 hV3).mono ?_; rintro e w' ⟨v, rfl, A3, n3, c3, rfl, h3⟩; have hk := Keep.on (by assumption) h3.below; have hx := var_at hK1 H1.out hk.sb h3; clear h3)
      | (go_at_call 13; refine (same_at (by assumption) (by omega)).mono ?_; rintro e w' ⟨rfl, q, rfl⟩; have hk := Keep.drewN (by assumption) q))
  go_wp2
  go_ret
  exact ⟨rfl, Keep.bel (by assumption)⟩

/-- The walk. -/
theorem walk {A : Option Addr} {n c : Nat} {zs : List Int} (w : World) (hs : Sb w A n zs) (hu : U8s zs) (hn : n ≤ 140737488351232) (hl : n ≤ c ∧ c ≤ maxLen) :
    Calls Try.prog 6 #[.slice A n c] w fun e w' => e = .returned (.bool true) ∧ Below w.heap.size w w' := by
  by_cases hE : fvE 0 zs = 0
  · exact walk_good w hs hu hn hl hE
  · exact walk_bad w hs hu hn hE

set_option maxRecDepth 100000 in
theorem lifted (os : Os) (started : os.Started) (H : Type) (enc : TypeId × Value → H) :
    ReturnsInHanded {} Try.checked os 6 .any (Rows.wireOneSpec.pre6 enc Try.prog Try.f6 Rows.wireOneRow.domain false) (Rows.wireOneSpec.post enc Try.prog Try.f6 false true false false) := by
  refine returnsInHanded_of_change_sized (C := Try.checked) own started (by kernel_rfl) Try.func6
    (ChangeSpec.witness6 (enc := enc) (C := Try.checked) false ⟨#[], #[.slice none 0 0], []⟩ 8 (by kernel_rfl) (by kernel_rfl) (by kernel_rfl) (by kernel_rfl)) ?_
  intro W base args ds gs before hval0 hW _ hsz0 _
  have hsz : (DataW.weightsEach Try.prog (Try.f6.params.toList ++ Rows.wireOneSpec.plain.varTypes Try.prog) (ds ++ gs)).all (· ≤ reachBytes) = true := hsz0
  clear hsz0
  have hval : ∀ (j : Nat) t v, Try.f6.params[j]? = some t → args[j]? = some v → Value.okWide Try.prog W .any base t v := hval0
  have hW' := hW
  obtain ⟨p, q, hA0, hV, rfl, _, _⟩ := hW
  have hA : DataW.TrodAll enc Try.prog W 0 (fun _ => true) true Try.f6.params.toList args.toList ds p := hA0
  rw [Try.params6] at hA hval hsz
  obtain ⟨v0, vs0, d0, ds0, p0, q0, hargs, rfl, rfl, h0, r0⟩ := trodAll_cons hA
  obtain ⟨rfl, rfl, rfl⟩ := trodAll_nil r0
  obtain rfl : args = #[v0] := by cases args; simp_all
  obtain ⟨rfl, rfl⟩ := trodVars_none hV
  have lt0 : ∀ x ∈ p0, x.block < W.heap.size := by obtain ⟨m, hm⟩ := h0; exact DataW.trod_lt m _ _ _ hm
  obtain ⟨A0, n0, c0, z0, rfl, s0, u0, l0, g0⟩ := open_bytes_c (hval 0 23 v0 rfl rfl) h0
  have m0 := g0 _ _ 0 hsz rfl rfl
  clear hA0 hval0
  refine (walk W s0 u0 m0 l0).mono fun e W' ⟨he, bel⟩ => ?_
  subst he
  exact ⟨_, rfl, _, _, _, [], _, [], hW', trodAll_mk1 (shut_bool Try.underlying4 _), (trodAll_cons_mk (Below.trod laidOut (by kernel_rfl) (of_decide_eq_true (by kernel_rfl)) h0 bel lt0) trodAll_mk0), rfl, bel.frame _, fun h => by cases h⟩

theorem over : Rows.wireOneRow.holds Try.pinned (OpenSpec.ofChange Rows.wireOneSpec) :=
  OpenClaim.holds_of_wide 6 Try.f6 rfl rfl rfl rfl rfl rfl rfl ⟨rfl, rfl, rfl, rfl, rfl⟩ rfl rfl rfl rfl rfl (by kernel_rfl) Try.func6 (by kernel_rfl)
    (of_decide_eq_true (by kernel_rfl)) (by unfold Func.isWrapper; first | (rw [if_pos (by decide +kernel)]; kernel_rfl) | (rw [if_neg (by decide +kernel)]; exact ⟨rfl, rfl⟩))
    (fun os started H enc _ => lifted os started H enc)

theorem proved : Rows.WireOneSaid := over
end Go.Proofs.Ytjgcfiffbibonaa.wireOne
