/-
  Proved: WireStays answers true for all bytes and all reads.
-/
import Derived.Test.YtjgcfiffbibonaaOpen
import Derived.Test.YtjgcfiffbibonaaWireFixed
import Derived.Test.YtjgcfiffbibonaaWireErr
import Derived.Test.YtjgcfiffbibonaaOpenReads
import Derived.WalkKit
namespace Go.Proofs.Ytjgcfiffbibonaa.wireStays
open Go.ChangeShapes Go.WideShapes Go.ChangeAt Go.RowKit

/-- The world between two calls: old memory, the read that shall go wrong, the reader. -/
structure SInv (w0 : World) (b : Nat) (K N : Int) (base r : Nat) (w : World) : Prop where
  bel : Below w0.heap.size w0 w
  box : w.heap[b]? = some (.cells #[.int .i64 K, .int .i64 N] 41 (0, 0))
  lt : b < base
  lo : w0.heap.size ≤ base
  rd : ∃ A n c zs e, Rd 59 base w r A n c zs e ∧ U8s zs ∧ n ≤ 140737488355328

theorem SInv.step {w0 w w' : World} {b : Nat} {K N : Int} {base r n c : Nat} {A : Option Addr} {zs zs' : List Int} {e e' : Int} (h : SInv w0 b K N base r w) (hr : Rd 59 base w r A n c zs e) (hu : U8s zs) (hn : n ≤ 140737488355328)
    (ht : RdTo 59 base w r zs' e' w') (hz : Tail zs zs') : SInv w0 b K N base r w' := by
  obtain ⟨⟨A', n', c', hr'⟩, hg⟩ := ht
  have hlo := hr.lo
  have hb := lt_of_block h.box
  have h1 := h.lt
  have h2 := h.lo
  refine ⟨h.bel.grown hg h.bel.size (fun k hk => by cases hk; omega), (hg.block b hb (by simp; omega)).trans h.box, h1, h2, A', n', c', zs', e', hr', hz.u8 hu, ?_⟩
  have := hr'.sb.len
  have := hr.sb.len
  have := hz.len
  omega
theorem SInv.cells {w0 w : World} {b : Nat} {K N : Int} {base r : Nat} (h : SInv w0 b K N base r w) : w.cell? ⟨b, 0, none⟩ = some (.int .i64 K) ∧ w.cell? ⟨b, 1, none⟩ = some (.int .i64 N) :=
  ⟨cell_of_row w b 0 _ _ _ h.box, cell_of_row w b 1 _ _ _ h.box⟩

/-- The walk. -/
theorem walk {A B : Option Addr} {n c m d : Nat} {zs : List Int} {K N : Int} {Ks Ns : Nat → Int} (w : World) (hs : Sb w A n zs) (hu : U8s zs) (hn : n ≤ 140737488351232) (hN : -9223372036854775808 ≤ N ∧ N ≤ 9223372036854775807) (ht : Sr w B m Ks Ns) :
    Calls Try.prog 7 #[.slice A n c, .agg #[.int .i64 K, .int .i64 N], .slice B m d] w fun e w' => e = .returned (.bool true) ∧ Below w.heap.size w w' := by
  obtain ⟨hN1, hN2⟩ := hN
  go_enter Try.func7, Try.ntmps7
  go_wp2_with fail
  refine (new_any (hs.alloc _) (by omega)).mono ?_
  rintro e w1 ⟨r, A1, n1, c1, rfl, hr, hb⟩
  have hl := hs.len
  have S1 : Hid (SInv w w.heap.size K N (w.heap.size + 1) r w1) := by
    have hb' : Below (w.heap.size + 1) (w.alloc (.cells #[.int .i64 K, .int .i64 N] 41)) w1 := by simpa using hb
    refine ⟨((Below.refl _ _).alloc (Nat.le_refl _) _).trans (hb'.mono (by omega)), (hb'.block _ (by omega)).trans (heap_alloc_new w _), by omega, by omega, A1, n1, c1, zs, 0, by simpa using hr, hu, ?_⟩
    have := hr.sb.len
    omega
  have T1 := Lib.hid ht
  clear hr hb hl
  go_wp2_with fail
  refine (fixed_any _).mono ?_
  rintro e w2 ⟨rfl, hb2⟩
  have S2 : Hid (SInv w w.heap.size K N (w.heap.size + 1) r w2) := by
    obtain ⟨h1, h2, h3, h4, A', n', c', z', e', h5, h6, h7⟩ := S1.out
    exact ⟨h1.trans (hb2.mono h1.size), (hb2.block _ (lt_of_block h2)).trans h2, h3, h4, A', n', c', z', e', h5.below hb2, h6, h7⟩
  clear hb2 S1 hs ht
  go_wp2
  go_loopw [20] (fun i wr => ∃ k : Nat, k ≤ 3 ∧ i = .int .i64 k ∧ SInv w w.heap.size K N (w.heap.size + 1) r wr) (fun i _ => 3 - (intOf i).toNat)
  case atStart => exact ⟨0, by omega, rfl, S2.out⟩
  case round =>
    clear S2
    obtain ⟨k, hk, rfl, hS⟩ := hrel
    by_cases hlt : k < 3
    · obtain ⟨c0, c1⟩ := hS.cells
      obtain ⟨A3, n3, c3, z3, e3, hr3, hu3, hn3⟩ := hS.rd
      have HS := Lib.hid hS
      clear hS
      by_cases k0 : K = 0
      · have t0 : (K == 0) = true := by simpa using k0
        clear k0
        go_wp2_with fail
        refine (rnum_any hr3 hu3 hn3 N hN2).mono ?_
        rintro e w4 ⟨rfl, hto⟩
        have HS' := Lib.hid (HS.out.step hr3 hu3 hn3 hto (num1_tail _ _ _))
        clear hto c0 c1
        go_wp2
        go_roundw
        case rel => exact ⟨k + 1, by omega, by go_num, HS'.out⟩
        case measure => simp [intOf]; omega
      · have t0 : (K == 0) = false := by simpa using k0
        by_cases k1 : K = 1
        · have t1 : (K == 1) = true := by simpa using k1
          clear k0 k1
          go_wp2_with fail
          refine (rvar_any hr3 hu3 hn3).mono ?_
          rintro e w4 ⟨rfl, hto⟩
          have HS' := Lib.hid (HS.out.step hr3 hu3 hn3 hto (var1_tail _ _))
          clear hto c0 c1
          go_wp2
          go_roundw
          case rel => exact ⟨k + 1, by omega, by go_num, HS'.out⟩
          case measure => simp [intOf]; omega
        · have t1 : (K == 1) = false := by simpa using k1
          by_cases k2 : K = 2
          · have t2 : (K == 2) = true := by simpa using k2
            clear k0 k1 k2
            go_wp2_with fail
            refine (rtext_any hr3 hu3 hn3 N hN2).mono ?_
            rintro e w4 ⟨v, rfl, ⟨A4, n4, c4, rfl, hf⟩, hto⟩
            have HS' := Lib.hid (HS.out.step hr3 hu3 hn3 hto (text1_tail _ _ _))
            clear hto c0 c1 hf
            go_wp2
            go_roundw
            case rel => exact ⟨k + 1, by omega, by go_num, HS'.out⟩
            case measure => simp [intOf]; omega
          · have t2 : (K == 2) = false := by simpa using k2
            clear k0 k1 k2
            go_wp2_with fail
            refine (take_any hr3 hn3 N hN2).mono ?_
            rintro e w4 ⟨v, rfl, ⟨A4, n4, c4, rfl, hf⟩, hto⟩
            have HS' := Lib.hid (HS.out.step hr3 hu3 hn3 hto (take1_tail _ _ _))
            clear hto c0 c1 hf
            go_wp2
            go_roundw
            case rel => exact ⟨k + 1, by omega, by go_num, HS'.out⟩
            case measure => simp [intOf]; omega
    · obtain ⟨A3, n3, c3, z3, e3, hr3, hu3, hn3⟩ := hS.rd
      have BL := Lib.hid hS.bel
      have LO := hS.lo
      clear hS
      go_wp2_with fail
      refine (err_any hr3).mono ?_
      rintro e w' ⟨rfl, rfl⟩
      go_wp2_with fail
      refine (left_any hr3).mono ?_
      rintro e w' ⟨rfl, rfl⟩
      by_cases e0 : e3 = 0
      · have tE : (e3 == 0) = true := by simpa using e0
        clear e0
        go_wp2
        go_ret
        exact ⟨rfl, BL.out⟩
      · have tE : (e3 == 0) = false := by simpa using e0
        have HE := Lib.hid e0
        have hm := T1.out.max
        have HR := Lib.hid hr3
        clear e0 hr3
        go_wp2
        obtain ⟨wo, hwo⟩ : ∃ wo : World, wo = wr := ⟨_, rfl⟩
        rw [← hwo] at BL HR ⊢
        clear hwo
        go_loopw [53] (fun i wx => ∃ k : Nat, k ≤ m ∧ i = .int .i64 k ∧ Below w.heap.size w wx ∧ Rd 59 (w.heap.size + 1) wx r A3 n3 c3 z3 e3) (fun i _ => m - (intOf i).toNat)
        case atStart => exact ⟨0, by omega, rfl, BL.out, HR.out⟩
        case round =>
          clear BL HR
          obtain ⟨j, hj, rfl, bel, hr3⟩ := hrel
          by_cases hlt2 : j < m
          · obtain ⟨ad, rfl⟩ := T1.out.addr (by omega)
            obtain ⟨q0, q1, q2, q3⟩ := (T1.out.below bel).cell hlt2
            rw [← addAdd] at q1
            have q4 : wr.cell? ⟨(ad.add (j * 2)).block, (ad.add (j * 2)).off + 1, none⟩ = some (.int .i64 (Ns j)) := q1
            clear q1
            by_cases h300 : 300 < j
            · go_wp2
              go_ret
              exact ⟨rfl, bel.alloc bel.size _⟩
            · have hr4 := hr3.below ((Below.refl wr.heap.size wr).alloc (Nat.le_refl _) (.cells #[.int .i64 (Ks j), .int .i64 (Ns j)] 41))
              have bel4 := bel.alloc bel.size (.cells #[.int .i64 (Ks j), .int .i64 (Ns j)] 41)
              go_wp2_with (first
                | (go_at_call 19; refine (rnum_err hr4 HE _).mono ?_; rintro e w' ⟨rfl, rfl⟩)
                | (go_at_call 21; refine (rvar_err hr4 HE).mono ?_; rintro e w' ⟨rfl, rfl⟩)
                | (go_at_call 23; refine (rtext_err hr4 HE _).mono ?_; rintro e w' ⟨rfl, rfl⟩)
                | (go_at_call 25; refine (take_err hr4 HE _).mono ?_; rintro e w' ⟨rfl, rfl⟩)
                | (go_at_call 29; refine (err_any hr4).mono ?_; rintro e w' ⟨rfl, rfl⟩)
                | (go_at_call 30; refine (end_err hr4 HE).mono ?_; rintro e w' ⟨rfl, rfl⟩)
                | (go_at_call 27; refine (left_any hr4).mono ?_; rintro e w' ⟨rfl, rfl⟩))
              go_roundw
              case rel => exact ⟨j + 1, by omega, by go_num, bel4, hr4⟩
              case measure => simp [intOf]; omega
          · go_wp2
            go_ret
            exact ⟨rfl, bel⟩

set_option maxRecDepth 100000 in
theorem lifted (os : Os) (started : os.Started) (H : Type) (enc : TypeId × Value → H) :
    ReturnsInHanded {} Try.checked os 7 .any (Rows.wireStaysSpec.pre6 enc Try.prog Try.f7 Rows.wireStaysRow.domain false) (Rows.wireStaysSpec.post enc Try.prog Try.f7 false true false false) := by
  refine returnsInHanded_of_change_sized (C := Try.checked) own started (by kernel_rfl) Try.func7
    (ChangeSpec.witness6 (enc := enc) (C := Try.checked) false ⟨#[], #[.slice none 0 0, .agg #[.int .i64 0, .int .i64 0], .slice none 0 0], []⟩ 8 (by kernel_rfl) (by kernel_rfl) (by kernel_rfl) (by kernel_rfl)) ?_
  intro W base args ds gs before hval0 hW _ hsz0 _
  have hsz : (DataW.weightsEach Try.prog (Try.f7.params.toList ++ Rows.wireStaysSpec.plain.varTypes Try.prog) (ds ++ gs)).all (· ≤ reachBytes) = true := hsz0
  clear hsz0
  have hval : ∀ (j : Nat) t v, Try.f7.params[j]? = some t → args[j]? = some v → Value.okWide Try.prog W .any base t v := hval0
  have hW' := hW
  obtain ⟨p, q, hA0, hV, rfl, _, _⟩ := hW
  have hA : DataW.TrodAll enc Try.prog W 0 (fun _ => true) true Try.f7.params.toList args.toList ds p := hA0
  rw [Try.params7] at hA hval hsz
  obtain ⟨v0, vs0, d0, ds0, p0, q0, hargs, rfl, rfl, h0, r0⟩ := trodAll_cons hA
  obtain ⟨v1, vs1, d1, ds1, p1, q1, rfl, rfl, rfl, h1, r1⟩ := trodAll_cons r0
  obtain ⟨v2, vs2, d2, ds2, p2, q2, rfl, rfl, rfl, h2, r2⟩ := trodAll_cons r1
  obtain ⟨rfl, rfl, rfl⟩ := trodAll_nil r2
  obtain rfl : args = #[v0, v1, v2] := by cases args; simp_all
  obtain ⟨rfl, rfl⟩ := trodVars_none hV
  have lt0 : ∀ x ∈ p0, x.block < W.heap.size := by obtain ⟨m, hm⟩ := h0; exact DataW.trod_lt m _ _ _ hm
  obtain ⟨A0, n0, c0, z0, rfl, s0, u0, g0⟩ := open_bytes (hval 0 23 v0 rfl rfl) h0
  have m0 := g0 _ _ 0 hsz rfl rfl
  have lt1 : ∀ x ∈ p1, x.block < W.heap.size := by obtain ⟨m, hm⟩ := h1; exact DataW.trod_lt m _ _ _ hm
  obtain ⟨K1, N1, rfl, s1⟩ := open_read (hval 1 41 v1 rfl rfl) h1
  have lt2 : ∀ x ∈ p2, x.block < W.heap.size := by obtain ⟨m, hm⟩ := h2; exact DataW.trod_lt m _ _ _ hm
  obtain ⟨A2, n2, c2, K2, N2, rfl, s2⟩ := open_reads (hval 2 35 v2 rfl rfl) h2
  clear hA0 hval0
  refine (walk W s0 u0 m0 s1 s2).mono fun e W' ⟨he, bel⟩ => ?_
  subst he
  exact ⟨_, rfl, _, _, _, [], _, [], hW', trodAll_mk1 (shut_bool Try.underlying4 _), (trodAll_cons_mk (Below.trod laidOut (by kernel_rfl) (of_decide_eq_true (by kernel_rfl)) h0 bel lt0) (trodAll_cons_mk (Below.trod laidOut (by kernel_rfl) (of_decide_eq_true (by kernel_rfl)) h1 bel lt1) (trodAll_cons_mk (Below.trod laidOut (by kernel_rfl) (of_decide_eq_true (by kernel_rfl)) h2 bel lt2) trodAll_mk0))), rfl, bel.frame _, fun h => by cases h⟩

theorem over : Rows.wireStaysRow.holds Try.pinned (OpenSpec.ofChange Rows.wireStaysSpec) :=
  OpenClaim.holds_of_wide 7 Try.f7 rfl rfl rfl rfl rfl rfl rfl ⟨rfl, rfl, rfl, rfl, rfl⟩ rfl rfl rfl rfl rfl (by kernel_rfl) Try.func7 (by kernel_rfl)
    (of_decide_eq_true (by kernel_rfl)) (by unfold Func.isWrapper; first | (rw [if_pos (by decide +kernel)]; kernel_rfl) | (rw [if_neg (by decide +kernel)]; exact ⟨rfl, rfl⟩))
    (fun os started H enc _ => lifted os started H enc)

theorem proved : Rows.WireStaysSaid := over
end Go.Proofs.Ytjgcfiffbibonaa.wireStays
