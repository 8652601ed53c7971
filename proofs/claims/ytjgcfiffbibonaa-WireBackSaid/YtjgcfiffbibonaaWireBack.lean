/-
  Proved: WireBack answers true for every number, every size and all bytes.
-/
import Derived.Test.YtjgcfiffbibonaaOpen
import Derived.Test.YtjgcfiffbibonaaWireFixed
import Derived.Test.YtjgcfiffbibonaaWireBackSpec
import Derived.WalkKit
namespace Go.Proofs.Ytjgcfiffbibonaa.wireBack
open Go.ChangeShapes Go.WideShapes Go.ChangeAt Go.RowKit

theorem len_le {zs : List Int} (h : zs.length ≤ 4096) : (varL zs.length ++ zs).length ≤ 4106 := by
  have := varL_len zs.length
  simp
  omega

/-- What cannot be laid is passed over. -/
theorem walk_out {a0 a1 : Int} {A B : Option Addr} {n c m d : Nat} (w : World) (hm : n ≤ 140737488351232) (hmm : m ≤ 140737488351232) (h : a1 < 1 ∨ 8 < a1 ∨ 4096 < n ∨ 65536 < m) :
    Calls Try.prog 5 #[.int .u64 a0, .int .i64 a1, .slice A n c, .slice B m d] w fun e w' => e = .returned (.bool true) ∧ Below w.heap.size w w' := by
  by_cases h1 : a1 < 1
  · clear h
    go_enter Try.func5, Try.ntmps5
    go_wp2_with (go_at_call 12; refine (fixed_any _).mono ?_; rintro e w1 ⟨rfl, hb⟩)
    go_ret
    exact ⟨rfl, by assumption⟩
  · have h1' : 1 ≤ a1 := by omega
    by_cases h2 : 8 < a1
    · clear h h1
      go_enter Try.func5, Try.ntmps5
      go_wp2_with (go_at_call 12; refine (fixed_any _).mono ?_; rintro e w1 ⟨rfl, hb⟩)
      go_ret
      exact ⟨rfl, by assumption⟩
    · have h2' : a1 ≤ 8 := by omega
      by_cases h3 : (4096 : Int) < (n : Int)
      · clear h h1 h2
        go_enter Try.func5, Try.ntmps5
        go_wp2_with (go_at_call 12; refine (fixed_any _).mono ?_; rintro e w1 ⟨rfl, hb⟩)
        go_ret
        exact ⟨rfl, by assumption⟩
      · have h3' : (n : Int) ≤ 4096 := by omega
        have h4 : (65536 : Int) < (m : Int) := by omega
        clear h h1 h2 h3
        go_enter Try.func5, Try.ntmps5
        go_wp2_with (go_at_call 12; refine (fixed_any _).mono ?_; rintro e w1 ⟨rfl, hb⟩)
        go_ret
        exact ⟨rfl, by assumption⟩

/-- What a number is cut by. -/
theorem wrap_pow {s : Nat} (h : s < 8) : ∃ P, IntKind.u64.wrap (2 ^ (8 * s)) = P ∧ 0 < P ∧ Hid (256 ^ s = P) := by
  have h1 := pow256_le (i := s) (j := 7) (by omega)
  have h2 := pow_pos256 s
  have e7 : (256 : Int) ^ 7 = 72057594037927936 := by decide
  rw [e7] at h1
  refine ⟨256 ^ s, ?_, h2, rfl⟩
  rw [pow8, IntWalk.u64_in _ ⟨by omega, by omega⟩]

theorem walk_cut {a0 : Int} {s : Nat} {A B : Option Addr} {n c m d : Nat} {zs ys : List Int} (w : World) (h0 : 0 ≤ a0) (h0' : a0 ≤ 18446744073709551615) (hs : Sb w A n zs) (ht : Sb w B m ys) (hu : U8s zs) (hv : U8s ys)
    (h1 : 1 ≤ s) (h2 : s < 8) (h3 : n ≤ 4096) (h4 : m ≤ 65536) :
    Calls Try.prog 5 #[.int .u64 a0, .int .i64 s, .slice A n c, .slice B m d] w fun e w' => e = .returned (.bool true) ∧ Below w.heap.size w w' := by
  obtain ⟨P, hP, hp0, hp1⟩ := wrap_pow h2
  have hx0' : 0 ≤ a0 % P := Int.emod_nonneg _ (by omega)
  have hx1' : a0 % P < P := Int.emod_lt_of_pos _ (by omega)
  have hp2 := hp1.out ▸ pow256_le (i := s) (j := 7) (by omega)
  obtain ⟨x, hx⟩ : ∃ x, x = a0 % P := ⟨_, rfl⟩
  have hpp : P ≠ 0 := by omega
  have t1 : (1 : Int) ≤ (s : Int) := by omega
  have t2 : (s : Int) < 8 := by omega
  have t3 : (n : Int) ≤ 4096 := by omega
  have t4 : (m : Int) ≤ 65536 := by omega
  have HX := Lib.hid hx
  have HY : Hid (x < 256 ^ s) := by show _ < _; rw [hx, hp1.out]; exact hx1'
  have hx0 : 0 ≤ x := by omega
  have hx1 : x ≤ 18446744073709551615 := by simp at hp2; omega
  clear hx hx0' hx1' hp2
  go_enter Try.func5, Try.ntmps5
  go_wp2_with fail
  rw [← HX.out]
  clear hP HX
  refine (text_any hs (by omega)).mono ?_
  rintro e w1 ⟨v, rfl, A1, n1, c1, rfl, hm1⟩
  have hle := hs.len
  have e1 : textE zs = 0 := by unfold textE; rw [if_pos (by omega)]
  have e2 : textS zs = varL zs.length ++ zs := by unfold textS; rw [if_pos (by omega)]
  rw [e2] at hm1
  rw [e1]
  have L1 := Lib.hid hm1.len
  have hn1 : n1 ≤ 4106 := by have := len_le (zs := zs) (by omega); have := hm1.len; omega
  have X1 := Lib.hid (And.intro hm1.below (And.intro hm1.sb (And.intro (hs.below hm1.below) (ht.below hm1.below))))
  clear hm1 hle e1 e2
  go_wp2_with fail
  refine (var_any x _ hx0 hx1).mono ?_
  rintro e w2 ⟨v, rfl, A2, n2, c2, rfl, hm2⟩
  have hn2 : n2 ≤ 10 := by have := varL_len x; have := hm2.len; omega
  have D2 := Lib.hid hm2.below
  have O2 := Lib.hid hm2.own
  clear hm2
  go_wp2_with fail
  refine (num_any x s _ hx0 hx1).mono ?_
  rintro e w3 ⟨v, rfl, A3, n3, c3, rfl, hm3⟩
  have e3 : numS x s = numL x s := by unfold numS; rw [if_pos (by omega)]; simp
  rw [e3] at hm3
  have hn3 : n3 ≤ 8 := by have := numL_len x s; have := hm3.len; omega
  have D3 := Lib.hid (D2.out.trans (hm3.below.mono D2.out.size))
  have S3 := Lib.hid hm3.sb
  have O3 := Lib.hid (O2.out.kept (grownBy_below (row := none) hm3.below) (by cases h : (Value.slice A2 n2 c2).ownBlock <;> simp))
  clear hm3 D2 O2 e3
  go_wp2_with (first
    | (at_builtin; refine wpList_app _ rfl (.tmp 49) (.tmp 52) 23 rfl w1.heap.size 5 Try.underlying23 info8 (.slice A2 n2 c2) n2 _ rfl O3.out A3 n3 c3 (numL x s) rfl S3.out (by omega) D3.out.size ?_; intro A4 c4 w4 own4 g4; have D4 := Lib.hid (below_app0 O3.out D3.out D3.out.size g4); have O4 := Lib.hid own4; clear own4 g4)
    | (at_builtin; refine wpList_app _ rfl (.tmp 53) (.tmp 54) 23 rfl w1.heap.size 5 Try.underlying23 info8 (.slice A4 (n2 + n3) c4) (n2 + n3) _ rfl O4.out A1 n1 c1 _ rfl (X1.out.2.1.below D4.out) (by omega) D4.out.size ?_; intro A5 c5 w5 own5 g5; have D5 := Lib.hid (below_app0 O4.out D4.out D4.out.size g5); have O5 := Lib.hid own5; clear own5 g5)
    | (at_builtin; refine wpList_app _ rfl (.tmp 55) (.tmp 56) 23 rfl w1.heap.size 5 Try.underlying23 info8 (.slice A5 (n2 + n3 + n1) c5) (n2 + n3 + n1) _ rfl O5.out B m d _ rfl (X1.out.2.2.2.below D5.out) (by omega) D5.out.size ?_; intro A6 c6 w6 own6 g6; have D6 := Lib.hid (below_app0 O5.out D5.out D5.out.size g6); have O6 := Lib.hid own6; clear own6 g6))
  have S6 := Lib.hid (Sb.own (zs := varL x ++ (numL x s ++ (varL zs.length ++ zs ++ ys))) (by simpa using O6.out))
  have D7 := Lib.hid (X1.out.1.trans (D6.out.mono X1.out.1.size))
  have U := Lib.hid ((show U8s (varL x) from varL_u8 hx0 hx1).append ((show U8s (numL x s) from numL_u8 x s).append (((show U8s (varL zs.length) from varL_u8 (by omega) (by have := hs.len; omega)).append hu).append hv)))
  have E1 := Lib.hid (var_back hx0 hx1 (numL x s ++ (varL zs.length ++ zs ++ ys)))
  have E2 := Lib.hid (num_back hx0 h1 (by omega) HY.out (varL zs.length ++ zs ++ ys))
  have E3 := Lib.hid (text_back zs ys (by have := hs.len; omega))
  have E4 := Lib.hid (take_back ys)
  have LZ := Lib.hid hs.len
  have LY := Lib.hid ht.len
  clear O3 O4 O5 O6 D3 D4 D5 D6 S3 X1 L1 HY
  refine (new_any S6.out (by omega)).mono ?_
  rintro e w7 ⟨r, A7, n7, c7, rfl, hr7, hb7⟩
  have hn7 : n7 ≤ 140737488355328 := by have := hr7.sb.len; have := S6.out.len; omega
  have F7 := Lib.hid (And.intro (D7.out.trans (hb7.mono D7.out.size)) (And.intro hr7 (show w.heap.size ≤ r from Nat.le_trans D7.out.size hr7.lo)))
  clear hr7 hb7 S6 D7
  go_wp2_with fail
  refine (rvar_any F7.out.2.1 U.out hn7).mono ?_
  rintro e w8 ⟨rfl, ⟨A8, n8, c8, hr8⟩, hg8⟩
  rw [E1.out] at hr8
  simp only [E1.out]
  have U8 := Lib.hid ((show U8s (numL x s) from numL_u8 x s).append (((show U8s (varL zs.length) from varL_u8 (by omega) (by have := hs.len; omega)).append hu).append hv))
  have hn8 : n8 ≤ 140737488355328 := by
    have := hr8.sb.len
    have := numL_len x s
    have := len_le (zs := zs) (by have := LZ.out; omega)
    have := LY.out
    simp at *
    omega
  have F8 := Lib.hid (And.intro (F7.out.1.grown hg8 F7.out.1.size (fun k hk => by cases hk; exact F7.out.2.2)) (And.intro hr8 F7.out.2.2))
  clear hr8 hg8 F7 E1 U
  go_wp2_with fail
  refine (rnum_any F8.out.2.1 U8.out hn8 s (by omega)).mono ?_
  rintro e w9 ⟨rfl, ⟨A9, n9, c9, hr9⟩, hg9⟩
  rw [E2.out] at hr9
  simp only [E2.out]
  have U9 := Lib.hid (((show U8s (varL zs.length) from varL_u8 (by omega) (by have := hs.len; omega)).append hu).append hv)
  have hn9 : n9 ≤ 140737488355328 := by
    have := hr9.sb.len
    have := len_le (zs := zs) (by have := LZ.out; omega)
    have := LY.out
    simp at *
    omega
  have F9 := Lib.hid (And.intro (F8.out.1.grown hg9 F8.out.1.size (fun k hk => by cases hk; exact F8.out.2.2)) (And.intro hr9 F8.out.2.2))
  clear hr9 hg9 F8 E2 U8
  go_wp2_with fail
  have hZ := LZ.out
  subst hZ
  refine (rtext_any F9.out.2.1 U9.out hn9 zs.length (by omega)).mono ?_
  rintro e w10 ⟨v, rfl, ⟨A10, n10, c10, rfl, hf10⟩, ⟨B10, m10, d10, hr10⟩, hg10⟩
  rw [E3.out] at hf10 hr10
  obtain rfl : zs.length = n10 := hf10.len
  obtain rfl : m = m10 := LY.out.symm.trans hr10.sb.len
  have F10 := Lib.hid (And.intro (F9.out.1.grown hg10 F9.out.1.size (fun k hk => by cases hk; exact F9.out.2.2)) (And.intro hr10 (And.intro F9.out.2.2 hf10.sb)))
  clear hr10 hg10 F9 E3 U9 hf10
  go_wp2_with fail
  refine (fixed_any _).mono ?_
  rintro e w11 ⟨rfl, hb11⟩
  have F11 := Lib.hid (And.intro (F10.out.1.trans (hb11.mono F10.out.1.size)) (And.intro (F10.out.2.1.below hb11) (And.intro F10.out.2.2.1 (F10.out.2.2.2.below hb11))))
  clear hb11 F10
  go_wp2_with fail
  refine (same_true F11.out.2.2.2 (hs.below F11.out.1) (by omega)).mono ?_
  rintro e w12 ⟨rfl, q, rfl⟩
  go_wp2_with fail
  refine (err_any (F11.out.2.1.drewN q)).mono ?_
  rintro e w' ⟨rfl, rfl⟩
  go_wp2_with fail
  refine (left_any (F11.out.2.1.drewN q)).mono ?_
  rintro e w' ⟨rfl, rfl⟩
  go_wp2_with fail
  refine (take_any (F11.out.2.1.drewN q) (by omega) m (by omega)).mono ?_
  rintro e w13 ⟨v, rfl, ⟨A13, n13, c13, rfl, hf13⟩, ⟨B13, m13, d13, hr13⟩, hg13⟩
  have E5 : take1 ys 0 m = (ys, [], 0) := by rw [← LY.out]; exact E4.out
  rw [E5] at hf13 hr13
  obtain rfl : m = n13 := LY.out.symm.trans hf13.len
  obtain rfl : 0 = m13 := by simpa using hr13.sb.len
  have F13 := Lib.hid (And.intro ((below_drewN' F11.out.1 q).grown hg13 F11.out.1.size (fun k hk => by cases hk; exact F11.out.2.2.1)) (And.intro hr13 hf13.sb))
  clear hr13 hg13 F11 hf13 E5
  go_wp2_with fail
  refine (same_true F13.out.2.2 (ht.below F13.out.1) (by omega)).mono ?_
  rintro e w14 ⟨rfl, q', rfl⟩
  go_wp2_with fail
  refine (end_any (F13.out.2.1.drewN q')).mono ?_
  rintro e w' ⟨rfl, rfl⟩
  have he : endE 0 0 = 0 := by decide
  rw [he]
  have F14 := Lib.hid (below_drewN' F13.out.1 q')
  clear F13
  go_wp2
  go_ret
  exact ⟨rfl, F14.out⟩

theorem walk_full {x : Int} {A B : Option Addr} {n c m d : Nat} {zs ys : List Int} (w : World) (hx0 : 0 ≤ x) (hx1 : x ≤ 18446744073709551615) (hs : Sb w A n zs) (ht : Sb w B m ys) (hu : U8s zs) (hv : U8s ys)
    (h3 : n ≤ 4096) (h4 : m ≤ 65536) :
    Calls Try.prog 5 #[.int .u64 x, .int .i64 8, .slice A n c, .slice B m d] w fun e w' => e = .returned (.bool true) ∧ Below w.heap.size w w' := by
  have t3 : (n : Int) ≤ 4096 := by omega
  have t4 : (m : Int) ≤ 65536 := by omega
  have HY : Hid (x < 256 ^ 8) := by show _ < _; simp; omega
  go_enter Try.func5, Try.ntmps5
  go_wp2_with fail
  refine (text_any hs (by omega)).mono ?_
  rintro e w1 ⟨v, rfl, A1, n1, c1, rfl, hm1⟩
  have hle := hs.len
  have e1 : textE zs = 0 := by unfold textE; rw [if_pos (by omega)]
  have e2 : textS zs = varL zs.length ++ zs := by unfold textS; rw [if_pos (by omega)]
  rw [e2] at hm1
  rw [e1]
  have L1 := Lib.hid hm1.len
  have hn1 : n1 ≤ 4106 := by have := len_le (zs := zs) (by omega); have := hm1.len; omega
  have X1 := Lib.hid (And.intro hm1.below (And.intro hm1.sb (And.intro (hs.below hm1.below) (ht.below hm1.below))))
  clear hm1 hle e1 e2
  go_wp2_with fail
  refine (var_any x _ hx0 hx1).mono ?_
  rintro e w2 ⟨v, rfl, A2, n2, c2, rfl, hm2⟩
  have hn2 : n2 ≤ 10 := by have := varL_len x; have := hm2.len; omega
  have D2 := Lib.hid hm2.below
  have O2 := Lib.hid hm2.own
  clear hm2
  go_wp2_with fail
  refine (num_any x 8 _ hx0 hx1).mono ?_
  rintro e w3 ⟨v, rfl, A3, n3, c3, rfl, hm3⟩
  have e3 : numS x 8 = numL x 8 := by unfold numS; rw [if_pos (by omega)]; simp
  rw [e3] at hm3
  have hn3 : n3 ≤ 8 := by have := numL_len x 8; have := hm3.len; omega
  have D3 := Lib.hid (D2.out.trans (hm3.below.mono D2.out.size))
  have S3 := Lib.hid hm3.sb
  have O3 := Lib.hid (O2.out.kept (grownBy_below (row := none) hm3.below) (by cases h : (Value.slice A2 n2 c2).ownBlock <;> simp))
  clear hm3 D2 O2 e3
  go_wp2_with (first
    | (at_builtin; refine wpList_app _ rfl (.tmp 49) (.tmp 52) 23 rfl w1.heap.size 5 Try.underlying23 info8 (.slice A2 n2 c2) n2 _ rfl O3.out A3 n3 c3 (numL x 8) rfl S3.out (by omega) D3.out.size ?_; intro A4 c4 w4 own4 g4; have D4 := Lib.hid (below_app0 O3.out D3.out D3.out.size g4); have O4 := Lib.hid own4; clear own4 g4)
    | (at_builtin; refine wpList_app _ rfl (.tmp 53) (.tmp 54) 23 rfl w1.heap.size 5 Try.underlying23 info8 (.slice A4 (n2 + n3) c4) (n2 + n3) _ rfl O4.out A1 n1 c1 _ rfl (X1.out.2.1.below D4.out) (by omega) D4.out.size ?_; intro A5 c5 w5 own5 g5; have D5 := Lib.hid (below_app0 O4.out D4.out D4.out.size g5); have O5 := Lib.hid own5; clear own5 g5)
    | (at_builtin; refine wpList_app _ rfl (.tmp 55) (.tmp 56) 23 rfl w1.heap.size 5 Try.underlying23 info8 (.slice A5 (n2 + n3 + n1) c5) (n2 + n3 + n1) _ rfl O5.out B m d _ rfl (X1.out.2.2.2.below D5.out) (by omega) D5.out.size ?_; intro A6 c6 w6 own6 g6; have D6 := Lib.hid (below_app0 O5.out D5.out D5.out.size g6); have O6 := Lib.hid own6; clear own6 g6))
  have S6 := Lib.hid (Sb.own (zs := varL x ++ (numL x 8 ++ (varL zs.length ++ zs ++ ys))) (by simpa using O6.out))
  have D7 := Lib.hid (X1.out.1.trans (D6.out.mono X1.out.1.size))
  have U := Lib.hid ((show U8s (varL x) from varL_u8 hx0 hx1).append ((show U8s (numL x 8) from numL_u8 x 8).append (((show U8s (varL zs.length) from varL_u8 (by omega) (by have := hs.len; omega)).append hu).append hv)))
  have E1 := Lib.hid (var_back hx0 hx1 (numL x 8 ++ (varL zs.length ++ zs ++ ys)))
  have E2 : Hid (num1 (numL x 8 ++ (varL zs.length ++ zs ++ ys)) 0 8 = (x, varL zs.length ++ zs ++ ys, 0)) := (num_back hx0 (s := 8) (by omega) (by omega) HY.out (varL zs.length ++ zs ++ ys))
  have E3 := Lib.hid (text_back zs ys (by have := hs.len; omega))
  have E4 := Lib.hid (take_back ys)
  have LZ := Lib.hid hs.len
  have LY := Lib.hid ht.len
  clear O3 O4 O5 O6 D3 D4 D5 D6 S3 X1 L1 HY
  refine (new_any S6.out (by omega)).mono ?_
  rintro e w7 ⟨r, A7, n7, c7, rfl, hr7, hb7⟩
  have hn7 : n7 ≤ 140737488355328 := by have := hr7.sb.len; have := S6.out.len; omega
  have F7 := Lib.hid (And.intro (D7.out.trans (hb7.mono D7.out.size)) (And.intro hr7 (show w.heap.size ≤ r from Nat.le_trans D7.out.size hr7.lo)))
  clear hr7 hb7 S6 D7
  go_wp2_with fail
  refine (rvar_any F7.out.2.1 U.out hn7).mono ?_
  rintro e w8 ⟨rfl, ⟨A8, n8, c8, hr8⟩, hg8⟩
  rw [E1.out] at hr8
  simp only [E1.out]
  have U8 := Lib.hid ((show U8s (numL x 8) from numL_u8 x 8).append (((show U8s (varL zs.length) from varL_u8 (by omega) (by have := hs.len; omega)).append hu).append hv))
  have hn8 : n8 ≤ 140737488355328 := by
    have := hr8.sb.len
    have := numL_len x 8
    have := len_le (zs := zs) (by have := LZ.out; omega)
    have := LY.out
    simp at *
    omega
  have F8 := Lib.hid (And.intro (F7.out.1.grown hg8 F7.out.1.size (fun k hk => by cases hk; exact F7.out.2.2)) (And.intro hr8 F7.out.2.2))
  clear hr8 hg8 F7 E1 U
  go_wp2_with fail
  refine (rnum_any F8.out.2.1 U8.out hn8 8 (by omega)).mono ?_
  rintro e w9 ⟨rfl, ⟨A9, n9, c9, hr9⟩, hg9⟩
  rw [E2.out] at hr9
  simp only [E2.out]
  have U9 := Lib.hid (((show U8s (varL zs.length) from varL_u8 (by omega) (by have := hs.len; omega)).append hu).append hv)
  have hn9 : n9 ≤ 140737488355328 := by
    have := hr9.sb.len
    have := len_le (zs := zs) (by have := LZ.out; omega)
    have := LY.out
    simp at *
    omega
  have F9 := Lib.hid (And.intro (F8.out.1.grown hg9 F8.out.1.size (fun k hk => by cases hk; exact F8.out.2.2)) (And.intro hr9 F8.out.2.2))
  clear hr9 hg9 F8 E2 U8
  go_wp2_with fail
  have hZ := LZ.out
  subst hZ
  refine (rtext_any F9.out.2.1 U9.out hn9 zs.length (by omega)).mono ?_
  rintro e w10 ⟨v, rfl, ⟨A10, n10, c10, rfl, hf10⟩, ⟨B10, m10, d10, hr10⟩, hg10⟩
  rw [E3.out] at hf10 hr10
  obtain rfl : zs.length = n10 := hf10.len
  obtain rfl : m = m10 := LY.out.symm.trans hr10.sb.len
  have F10 := Lib.hid (And.intro (F9.out.1.grown hg10 F9.out.1.size (fun k hk => by cases hk; exact F9.out.2.2)) (And.intro hr10 (And.intro F9.out.2.2 hf10.sb)))
  clear hr10 hg10 F9 E3 U9 hf10
  go_wp2_with fail
  refine (fixed_any _).mono ?_
  rintro e w11 ⟨rfl, hb11⟩
  have F11 := Lib.hid (And.intro (F10.out.1.trans (hb11.mono F10.out.1.size)) (And.intro (F10.out.2.1.below hb11) (And.intro F10.out.2.2.1 (F10.out.2.2.2.below hb11))))
  clear hb11 F10
  go_wp2_with fail
  refine (same_true F11.out.2.2.2 (hs.below F11.out.1) (by omega)).mono ?_
  rintro e w12 ⟨rfl, q, rfl⟩
  go_wp2_with fail
  refine (err_any (F11.out.2.1.drewN q)).mono ?_
  rintro e w' ⟨rfl, rfl⟩
  go_wp2_with fail
  refine (left_any (F11.out.2.1.drewN q)).mono ?_
  rintro e w' ⟨rfl, rfl⟩
  go_wp2_with fail
  refine (take_any (F11.out.2.1.drewN q) (by omega) m (by omega)).mono ?_
  rintro e w13 ⟨v, rfl, ⟨A13, n13, c13, rfl, hf13⟩, ⟨B13, m13, d13, hr13⟩, hg13⟩
  have E5 : take1 ys 0 m = (ys, [], 0) := by rw [← LY.out]; exact E4.out
  rw [E5] at hf13 hr13
  obtain rfl : m = n13 := LY.out.symm.trans hf13.len
  obtain rfl : 0 = m13 := by simpa using hr13.sb.len
  have F13 := Lib.hid (And.intro ((below_drewN' F11.out.1 q).grown hg13 F11.out.1.size (fun k hk => by cases hk; exact F11.out.2.2.1)) (And.intro hr13 hf13.sb))
  clear hr13 hg13 F11 hf13 E5
  go_wp2_with fail
  refine (same_true F13.out.2.2 (ht.below F13.out.1) (by omega)).mono ?_
  rintro e w14 ⟨rfl, q', rfl⟩
  go_wp2_with fail
  refine (end_any (F13.out.2.1.drewN q')).mono ?_
  rintro e w' ⟨rfl, rfl⟩
  have he : endE 0 0 = 0 := by decide
  rw [he]
  have F14 := Lib.hid (below_drewN' F13.out.1 q')
  clear F13
  go_wp2
  go_ret
  exact ⟨rfl, F14.out⟩

/-- The walk. -/
theorem walk {a0 a1 : Int} {A B : Option Addr} {n c m d : Nat} {zs ys : List Int} (w : World) (w0 : (Lit.int .u64 a0).wf = true) (w1 : (Lit.int .i64 a1).wf = true) (hs : Sb w A n zs) (hu : U8s zs) (hn : n ≤ 140737488351232) (ht : Sb w B m ys) (hv : U8s ys) (hm : m ≤ 140737488351232) :
    Calls Try.prog 5 #[.int .u64 a0, .int .i64 a1, .slice A n c, .slice B m d] w fun e w' => e = .returned (.bool true) ∧ Below w.heap.size w w' := by
  have hb0 := bounds_u64 w0
  by_cases h : a1 < 1 ∨ 8 < a1 ∨ 4096 < n ∨ 65536 < m
  · exact walk_out w hn hm h
  · obtain ⟨s, rfl⟩ : ∃ s : Nat, a1 = s := ⟨a1.toNat, by omega⟩
    by_cases h8 : s < 8
    · exact walk_cut w hb0.1 hb0.2 hs ht hu hv (by omega) h8 (by omega) (by omega)
    · obtain rfl : s = 8 := by omega
      exact walk_full w hb0.1 hb0.2 hs ht hu hv (by omega) (by omega)

set_option maxRecDepth 100000 in
theorem lifted (os : Os) (started : os.Started) (H : Type) (enc : TypeId × Value → H) :
    ReturnsInHanded {} Try.checked os 5 .any (Rows.wireBackSpec.pre6 enc Try.prog Try.f5 Rows.wireBackRow.domain false) (Rows.wireBackSpec.post enc Try.prog Try.f5 false true false false) := by
  refine returnsInHanded_of_change_sized (C := Try.checked) own started (by kernel_rfl) Try.func5
    (ChangeSpec.witness6 (enc := enc) (C := Try.checked) false ⟨#[], #[.int .u64 0, .int .i64 0, .slice none 0 0, .slice none 0 0], []⟩ 8 (by kernel_rfl) (by kernel_rfl) (by kernel_rfl) (by kernel_rfl)) ?_
  intro W base args ds gs before hval0 hW _ hsz0 _
  have hsz : (DataW.weightsEach Try.prog (Try.f5.params.toList ++ Rows.wireBackSpec.plain.varTypes Try.prog) (ds ++ gs)).all (· ≤ reachBytes) = true := hsz0
  clear hsz0
  have hval : ∀ (j : Nat) t v, Try.f5.params[j]? = some t → args[j]? = some v → Value.okWide Try.prog W .any base t v := hval0
  have hW' := hW
  obtain ⟨p, q, hA0, hV, rfl, _, _⟩ := hW
  have hA : DataW.TrodAll enc Try.prog W 0 (fun _ => true) true Try.f5.params.toList args.toList ds p := hA0
  rw [Try.params5] at hA hval hsz
  obtain ⟨v0, vs0, d0, ds0, p0, q0, hargs, rfl, rfl, h0, r0⟩ := trodAll_cons hA
  obtain ⟨v1, vs1, d1, ds1, p1, q1, rfl, rfl, rfl, h1, r1⟩ := trodAll_cons r0
  obtain ⟨v2, vs2, d2, ds2, p2, q2, rfl, rfl, rfl, h2, r2⟩ := trodAll_cons r1
  obtain ⟨v3, vs3, d3, ds3, p3, q3, rfl, rfl, rfl, h3, r3⟩ := trodAll_cons r2
  obtain ⟨rfl, rfl, rfl⟩ := trodAll_nil r3
  obtain rfl : args = #[v0, v1, v2, v3] := by cases args; simp_all
  obtain ⟨rfl, rfl⟩ := trodVars_none hV
  obtain ⟨a0, rfl, rfl, rfl, w0⟩ := open_int Try.underlying22 (hval 0 22 v0 rfl rfl) h0
  obtain ⟨a1, rfl, rfl, rfl, w1⟩ := open_int Try.underlying3 (hval 1 3 v1 rfl rfl) h1
  have lt2 : ∀ x ∈ p2, x.block < W.heap.size := by obtain ⟨m, hm⟩ := h2; exact DataW.trod_lt m _ _ _ hm
  obtain ⟨A2, n2, c2, z2, rfl, s2, u2, g2⟩ := open_bytes (hval 2 23 v2 rfl rfl) h2
  have m2 := g2 _ _ 2 hsz rfl rfl
  have lt3 : ∀ x ∈ p3, x.block < W.heap.size := by obtain ⟨m, hm⟩ := h3; exact DataW.trod_lt m _ _ _ hm
  obtain ⟨A3, n3, c3, z3, rfl, s3, u3, g3⟩ := open_bytes (hval 3 23 v3 rfl rfl) h3
  have m3 := g3 _ _ 3 hsz rfl rfl
  clear hA0 hval0
  refine (walk W w0 w1 s2 u2 m2 s3 u3 m3).mono fun e W' ⟨he, bel⟩ => ?_
  subst he
  exact ⟨_, rfl, _, _, _, [], _, [], hW', trodAll_mk1 (shut_bool Try.underlying4 _), (trodAll_cons_mk (shut_int Try.underlying22 w0) (trodAll_cons_mk (shut_int Try.underlying3 w1) (trodAll_cons_mk (Below.trod laidOut (by kernel_rfl) (of_decide_eq_true (by kernel_rfl)) h2 bel lt2) (trodAll_cons_mk (Below.trod laidOut (by kernel_rfl) (of_decide_eq_true (by kernel_rfl)) h3 bel lt3) trodAll_mk0)))), rfl, bel.frame _, fun h => by cases h⟩

theorem over : Rows.wireBackRow.holds Try.pinned (OpenSpec.ofChange Rows.wireBackSpec) :=
  OpenClaim.holds_of_wide 5 Try.f5 rfl rfl rfl rfl rfl rfl rfl ⟨rfl, rfl, rfl, rfl, rfl⟩ rfl rfl rfl rfl rfl (by kernel_rfl) Try.func5 (by kernel_rfl)
    (of_decide_eq_true (by kernel_rfl)) (by unfold Func.isWrapper; first | (rw [if_pos (by decide +kernel)]; kernel_rfl) | (rw [if_neg (by decide +kernel)]; exact ⟨rfl, rfl⟩))
    (fun os started H enc _ => lifted os started H enc)

theorem proved : Rows.WireBackSaid := over
end Go.Proofs.Ytjgcfiffbibonaa.wireBack
