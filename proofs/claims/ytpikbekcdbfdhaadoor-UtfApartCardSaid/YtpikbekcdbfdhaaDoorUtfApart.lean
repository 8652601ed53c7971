/-
  Proved: UtfApart answers true for all bytes and letters, over the tables that the library and the program lay (a tied card).
-/
import Derived.Test.YtpikbekcdbfdhaaDoorOpen
import Derived.Test.YtpikbekcdbfdhaaDoorCards
import Derived.Test.YtpikbekcdbfdhaaDoorTie
import Derived.SevenTiedAt
import Derived.Test.YtpikbekcdbfdhaaDoorUtfTab
import Derived.Test.YtpikbekcdbfdhaaDoorUtfFixed
import Derived.WalkKit
namespace Go.Proofs.YtpikbekcdbfdhaaDoor.utfApart
open Go.ChangeShapes Go.WideShapes Go.ChangeAt Go.RowKit

theorem sb_ik {w : World} {A : Option Addr} {n : Nat} {zs : List Int} (h : Sb w A n zs) : Ik .u8 w A n zs := ⟨h.len, h.at_⟩
theorem ik_sb {w : World} {A : Option Addr} {n : Nat} {zs : List Int} (h : Ik .u8 w A n zs) : Sb w A n zs := ⟨h.len, h.at_⟩
theorem fold_app (l : List Int) {c : Int} (hc : c < 128) (t : List Int) : foldS [] ((l ++ [c]) ++ t) = (foldS [] l ++ [c]) ++ foldS [] t := by
  rw [List.append_assoc, List.append_assoc]; exact foldS_apart hc t l []
theorem fold_len : ∀ (l o : List Int), (foldS o l).length ≤ 2 * l.length + 1
  | [], o => by unfold foldS endS; split <;> simp
  | b :: l, o => by have h1 := feedS_len o b; have h2 := fold_len l (feedS o b).2; simp only [foldS, List.length_append, List.length_cons]; omega

set_option maxHeartbeats 3200000 in
set_option maxRecDepth 100000 in
/-- The walk. -/
theorem walk {A : Option Addr} {n cc : Nat} {zs : List Int} {c : Int} {B : Option Addr} {m dd : Nat} {ys : List Int} (w : World) (hT : Tabs w) (hs : Sb w A n zs) (h8 : U8s zs) (_ : n ≤ 140737488351232)
    (hc : (Lit.int .u8 c).wf = true) (hs' : Sb w B m ys) (h8' : U8s ys) (_ : m ≤ 140737488351232) :
    Calls Tryd.prog 7 #[.slice A n cc, .int .u8 c, .slice B m dd] w fun e w' => e = .returned (.bool true) ∧ Below w.heap.size w w' := by
  have H := Lib.hid (show Tabs w ∧ Sb w A n zs ∧ U8s zs ∧ Sb w B m ys ∧ U8s ys from ⟨hT, hs, h8, hs', h8'⟩)
  have hcb : 0 ≤ c ∧ c ≤ 255 := bounds_u8 hc
  clear hT hs h8 hs' h8' hc
  by_cases hbig : (400 : Int) < (n : Int)
  · go_enter Tryd.func7, Tryd.ntmps7
    go_wp2_with fail
    refine (utfFixed_any H.out.1).mono ?_
    rintro e w1 ⟨rfl, hb1⟩
    go_wp2_with fail
    go_ret
    exact ⟨rfl, hb1⟩
  by_cases hbig2 : (400 : Int) < (m : Int)
  · go_enter Tryd.func7, Tryd.ntmps7
    go_wp2_with fail
    refine (utfFixed_any H.out.1).mono ?_
    rintro e w1 ⟨rfl, hb1⟩
    go_wp2_with fail
    go_ret
    exact ⟨rfl, hb1⟩
  have hCb : 0 ≤ c % 128 ∧ c % 128 < 128 := by omega
  have hn : n ≤ 400 := by omega
  have hm : m ≤ 400 := by omega
  have HN := Lib.hid (And.intro hn (And.intro hm hCb))
  clear hn hm hCb
  go_enter Tryd.func7, Tryd.ntmps7
  have e0 : Below w.heap.size w (w.alloc (.cells #[] 5)) := (Below.refl _ _).alloc (Nat.le_refl _) _
  have o0 : (w.alloc (.cells #[] 5)).ownsRow w.heap.size 5 1 (.slice (some ⟨w.heap.size, 0, none⟩) 0 0) 0 [] := World.ownsRow_lit w #[] 0 (Nat.le_refl _) (by unfold maxLen; omega) rfl
  have E0 := Lib.hid (And.intro e0 o0)
  clear e0 o0
  go_wp2_with (refine wpList_appI _ rfl (.tmp 20) (.tmp 21) 22 rfl w.heap.size 5 .u8 1 (by omega) Tryd.underlying22 info8 (.slice (some ⟨w.heap.size, 0, none⟩) 0 0) 0 [] rfl E0.out.2 A n cc n (Nat.zero_add _) zs rfl (sb_ik (H.out.2.1.below E0.out.1)) (by have := HN.out; omega) E0.out.1.size ?_)
  intro A1 c1 w1 o1 g1
  have X1 := Lib.hid (show w1.ownsRow w.heap.size 5 1 (.slice A1 n c1) n (zs.map (Value.int .u8)) ∧ Below w.heap.size w w1 from
    ⟨o1, E0.out.1.grown g1 E0.out.1.size (fun k hk => by simp [Value.ownBlock] at hk; omega)⟩)
  clear o1 g1 E0
  generalize c % 128 = C at HN ⊢
  have hw : wrap32 C = C := by have := HN.out; unfold wrap32; omega
  have e1 : Below w.heap.size w (w1.alloc (.cells #[.int .u8 C] 5)) := X1.out.2.alloc X1.out.2.size _
  have E1 := Lib.hid (And.intro e1 (ownI_below X1.out.1 ((Below.refl w1.heap.size w1).alloc (Nat.le_refl _) (.cells #[.int .u8 C] 5))))
  clear e1
  go_wp2_with (refine wpList_appI _ rfl (.tmp 22) (.tmp 24) 22 rfl w.heap.size 5 .u8 1 (by omega) Tryd.underlying22 info8 (.slice A1 n c1) n _ rfl E1.out.2 (some ⟨w1.heap.size, 0, none⟩) 1 1 (n + 1) rfl [C] rfl (Ik.one _ _ _ _) (by have := HN.out; omega) E1.out.1.size ?_)
  intro A2 c2 w2 o2 g2
  have X2 := Lib.hid (show w2.ownsRow w.heap.size 5 1 (.slice A2 (n + 1) c2) (n + 1) ((zs ++ [C]).map (Value.int .u8)) ∧ Below w.heap.size w w2 from
    ⟨by simpa using o2, E1.out.1.grown g2 E1.out.1.size (fun k hk => (E1.out.2.lt k hk).1)⟩)
  clear o2 g2 E1 X1
  go_wp2_with (refine wpList_appI _ rfl (.tmp 25) (.tmp 26) 22 rfl w.heap.size 5 .u8 1 (by omega) Tryd.underlying22 info8 (.slice A2 (n + 1) c2) (n + 1) _ rfl X2.out.1 B m dd (n + 1 + m) rfl ys rfl (sb_ik (H.out.2.2.2.1.below X2.out.2)) (by have := HN.out; omega) X2.out.2.size ?_)
  intro A3 c3 w3 o3 g3
  have X3 := Lib.hid (show Ik .u8 w3 A3 (n + 1 + m) ((zs ++ [C]) ++ ys) ∧ Below w.heap.size w w3 from
    ⟨Ik.own (by simpa using o3), X2.out.2.grown g3 X2.out.2.size (fun k hk => (X2.out.1.lt k hk).1)⟩)
  clear o3 g3 X2
  have o4 : (w3.alloc (.cells #[] 21)).ownsRow w3.heap.size 21 1 (.slice (some ⟨w3.heap.size, 0, none⟩) 0 0) 0 [] := World.ownsRow_lit w3 #[] 0 (Nat.le_refl _) (by unfold maxLen; omega) rfl
  have e4 : Below w.heap.size w (w3.alloc (.cells #[] 21)) := X3.out.2.alloc X3.out.2.size _
  have E4 := Lib.hid (And.intro o4 e4)
  clear o4 e4
  go_wp2_with fail
  refine (runes_any (H.out.1.below E4.out.2 (Nat.le_refl _)) (H.out.2.1.below E4.out.2) H.out.2.2.1 (by have := HN.out; omega)).mono ?_
  rintro e w5 ⟨A5, n5, c5, rfl, o5, b5⟩
  have hz5 : w3.heap.size ≤ (w3.alloc (.cells #[] 21)).heap.size := by simp [World.size_alloc]
  have X5 := Lib.hid (show Ik .i32 w5 A5 n5 (foldS [] zs) ∧ w5.ownsRow w3.heap.size 21 1 (.slice (some ⟨w3.heap.size, 0, none⟩) 0 0) 0 [] ∧ Below w.heap.size w w5 ∧ Below w3.heap.size w3 w5 ∧ n5 ≤ 801 from
    ⟨Ik.own o5, ownI_below E4.out.1 b5, E4.out.2.trans (b5.mono E4.out.2.size), ((Below.refl _ _).alloc (Nat.le_refl _) _).trans (b5.mono hz5), by have h1 := (Ik.own o5).len; have h2 := fold_len zs []; have h3 := H.out.2.1.len; have h4 := HN.out; omega⟩)
  clear o5 b5 hz5 E4
  go_wp2_with (refine wpList_appI _ rfl (.tmp 28) (.tmp 30) 28 rfl w3.heap.size 21 .i32 4 (by omega) Tryd.underlying28 info32 (.slice (some ⟨w3.heap.size, 0, none⟩) 0 0) 0 [] rfl X5.out.2.1 A5 n5 c5 n5 (Nat.zero_add _) (foldS [] zs) rfl X5.out.1 (by have := X5.out.2.2.2.2; omega) X5.out.2.2.2.1.size ?_)
  intro A6 c6 w6 o6 g6
  have X6 := Lib.hid (show w6.ownsRow w3.heap.size 21 1 (.slice A6 n5 c6) n5 ((foldS [] zs).map (Value.int .i32)) ∧ Below w.heap.size w w6 ∧ Below w3.heap.size w3 w6 ∧ n5 ≤ 801 from
    ⟨o6, X5.out.2.2.1.grown g6 X5.out.2.2.1.size (fun k hk => Nat.le_trans X3.out.2.size (X5.out.2.1.lt k hk).1), X5.out.2.2.2.1.grown g6 X5.out.2.2.2.1.size (fun k hk => (X5.out.2.1.lt k hk).1), X5.out.2.2.2.2⟩)
  clear o6 g6 X5
  have e6 : Below w.heap.size w (w6.alloc (.cells #[.int .i32 C] 21)) := X6.out.2.1.alloc X6.out.2.1.size _
  have e6' : Below w3.heap.size w3 (w6.alloc (.cells #[.int .i32 C] 21)) := X6.out.2.2.1.alloc X6.out.2.2.1.size _
  have E6 := Lib.hid (And.intro e6 (And.intro e6' (ownI_below X6.out.1 ((Below.refl w6.heap.size w6).alloc (Nat.le_refl _) (.cells #[.int .i32 C] 21)))))
  clear e6 e6'
  go_wp2_with (refine wpList_appI _ rfl (.tmp 31) (.tmp 34) 28 rfl w3.heap.size 21 .i32 4 (by omega) Tryd.underlying28 info32 (.slice A6 n5 c6) n5 _ rfl E6.out.2.2 (some ⟨w6.heap.size, 0, none⟩) 1 1 (n5 + 1) rfl [C] rfl (Ik.one _ _ _ _) (by have := X6.out.2.2.2; omega) E6.out.2.1.size ?_)
  intro A7 c7 w7 o7 g7
  have X7 := Lib.hid (show w7.ownsRow w3.heap.size 21 1 (.slice A7 (n5 + 1) c7) (n5 + 1) ((foldS [] zs ++ [C]).map (Value.int .i32)) ∧ Below w.heap.size w w7 ∧ Below w3.heap.size w3 w7 ∧ n5 ≤ 801 from
    ⟨by simpa using o7, E6.out.1.grown g7 E6.out.1.size (fun k hk => Nat.le_trans X3.out.2.size (E6.out.2.2.lt k hk).1), E6.out.2.1.grown g7 E6.out.2.1.size (fun k hk => (E6.out.2.2.lt k hk).1), X6.out.2.2.2⟩)
  clear o7 g7 E6 X6
  go_wp2_with fail
  refine (runes_any (H.out.1.below X7.out.2.1 (Nat.le_refl _)) (H.out.2.2.2.1.below X7.out.2.1) H.out.2.2.2.2 (by have := HN.out; omega)).mono ?_
  rintro e w8 ⟨A8, n8, c8, rfl, o8, b8⟩
  have X8 := Lib.hid (show Ik .i32 w8 A8 n8 (foldS [] ys) ∧ w8.ownsRow w3.heap.size 21 1 (.slice A7 (n5 + 1) c7) (n5 + 1) ((foldS [] zs ++ [C]).map (Value.int .i32)) ∧ Below w.heap.size w w8 ∧ Below w3.heap.size w3 w8 ∧ n5 ≤ 801 ∧ n8 ≤ 801 from
    ⟨Ik.own o8, ownI_below X7.out.1 b8, X7.out.2.1.trans (b8.mono X7.out.2.1.size), X7.out.2.2.1.trans (b8.mono X7.out.2.2.1.size), X7.out.2.2.2, by have h1 := (Ik.own o8).len; have h2 := fold_len ys []; have h3 := H.out.2.2.2.1.len; have h4 := HN.out; omega⟩)
  clear o8 b8 X7
  go_wp2_with (refine wpList_appI _ rfl (.tmp 35) (.tmp 37) 28 rfl w3.heap.size 21 .i32 4 (by omega) Tryd.underlying28 info32 (.slice A7 (n5 + 1) c7) (n5 + 1) _ rfl X8.out.2.1 A8 n8 c8 (n5 + 1 + n8) rfl (foldS [] ys) rfl X8.out.1 (by have := X8.out.2.2.2.2; omega) X8.out.2.2.2.1.size ?_)
  intro A9 c9 w9 o9 g9
  have X9 := Lib.hid (show Ik .i32 w9 A9 (n5 + 1 + n8) ((foldS [] zs ++ [C]) ++ foldS [] ys) ∧ Below w.heap.size w w9 ∧ Below w3.heap.size w3 w9 ∧ n5 ≤ 801 ∧ n8 ≤ 801 from
    ⟨Ik.own (by simpa using o9), X8.out.2.2.1.grown g9 X8.out.2.2.1.size (fun k hk => Nat.le_trans X3.out.2.size (X8.out.2.1.lt k hk).1), X8.out.2.2.2.1.grown g9 X8.out.2.2.2.1.size (fun k hk => (X8.out.2.1.lt k hk).1), X8.out.2.2.2.2⟩)
  clear o9 g9 X8
  go_wp2_with fail
  refine (utfFixed_any (H.out.1.below X9.out.2.1 (Nat.le_refl _))).mono ?_
  rintro e w10 ⟨rfl, b10⟩
  have X10 := Lib.hid (show Ik .i32 w10 A9 (n5 + 1 + n8) ((foldS [] zs ++ [C]) ++ foldS [] ys) ∧ Ik .u8 w10 A3 (n + 1 + m) ((zs ++ [C]) ++ ys) ∧ Below w.heap.size w w10 ∧ n5 ≤ 801 ∧ n8 ≤ 801 from
    ⟨X9.out.1.below b10, X3.out.1.below (X9.out.2.2.1.trans (b10.mono X9.out.2.2.1.size)), X9.out.2.1.trans (b10.mono X9.out.2.1.size), X9.out.2.2.2⟩)
  clear b10 X9 X3
  go_wp2_with fail
  have u8 : U8s ((zs ++ [C]) ++ ys) := (H.out.2.2.1.append (fun z hz => by simp at hz; subst hz; have := HN.out; omega)).append H.out.2.2.2.2
  refine (runes_any (H.out.1.below X10.out.2.2.1 (Nat.le_refl _)) (ik_sb X10.out.2.1) u8 (by have := HN.out; omega)).mono ?_
  rintro e w11 ⟨A11, n11, c11, rfl, o11, b11⟩
  have X11 := Lib.hid (show Ik .i32 w11 A11 n11 (foldS [] ((zs ++ [C]) ++ ys)) ∧ Ik .i32 w11 A9 (n5 + 1 + n8) ((foldS [] zs ++ [C]) ++ foldS [] ys) ∧ Below w.heap.size w w11 ∧ n5 + 1 + n8 ≤ 2000 from
    ⟨Ik.own o11, X10.out.1.below b11, X10.out.2.2.1.trans (b11.mono X10.out.2.2.1.size), by have := X10.out.2.2.2; omega⟩)
  clear o11 b11 X10 u8
  have heq := fold_app zs (c := C) HN.out.2.2.2 ys
  have hl11 : n11 = n5 + 1 + n8 := by rw [← X11.out.1.len, heq, X11.out.2.1.len]
  have HS := Lib.hid (utfSame_any (c := c11) (c' := c9) X11.out.1 X11.out.2.1 (by have := X11.out.2.2.2; omega) (by have := X11.out.2.2.2; omega))
  rw [heq, decide_eq_true rfl] at HS
  clear heq hl11
  go_wp2_with fail
  refine HS.out.mono ?_
  rintro e w12 ⟨rfl, q, rfl⟩
  go_wp2_with fail
  go_ret
  exact ⟨rfl, below_drewN' X11.out.2.2.1 q⟩

set_option maxRecDepth 100000 in
theorem lifted (os : Os) (started : os.Started) (H : Type) (enc : TypeId × Value → H) :
    ReturnsInHanded {} Tryd.checked os 7 .any (fun w args => (Rows.utfApartSpec.pre enc Tryd.prog Tryd.f7 [] false w args ∧ laidMetH Tryd.prog laidL w) ∧ sizedMet enc Tryd.prog Tryd.f7 (OpenSpec.ofChange Rows.utfApartSpec) false w args)
      (Rows.utfApartSpec.post enc Tryd.prog Tryd.f7 false true false false) := by
  refine returnsInHanded_of_change_and (C := Tryd.checked) (X := fun w _ => laidMetH Tryd.prog laidL w) (fun _ _ _ hh h => h.of_heap hh) own started (by kernel_rfl) Tryd.func7
    (ChangeSpec.witness_shaped (enc := enc) (C := Tryd.checked) (os := os) (X := fun w _ => laidMetH Tryd.prog laidL w) false (World.laidAll Tryd.prog os laidL) #[.slice none 0 0, .int .u8 0, .slice none 0 0] 8 (World.laidAll_os _ _ _) (start_shaped os) (by kernel_rfl) (by kernel_rfl) (by kernel_rfl) (start_met os _)) ?_
  intro W base args ds gs before hval0 hW _ hsz0 hL _
  have hsz : (DataW.weightsEach Tryd.prog (Tryd.f7.params.toList ++ Rows.utfApartSpec.plain.varTypes Tryd.prog) (ds ++ gs)).all (· ≤ reachBytes) = true := hsz0
  clear hsz0
  have hval : ∀ (j : Nat) t v, Tryd.f7.params[j]? = some t → args[j]? = some v → Value.okWide Tryd.prog W .any base t v := hval0
  have hW' := hW
  obtain ⟨p, q, hA0, hV, rfl, _, _⟩ := hW
  have hA : DataW.TrodAll enc Tryd.prog W 0 (fun _ => true) true Tryd.f7.params.toList args.toList ds p := hA0
  rw [Tryd.params7] at hA hval hsz
  obtain ⟨v0, vs0, d0, ds0, p0, q0, hargs, rfl, rfl, h0, r0⟩ := trodAll_cons hA
  obtain ⟨v1, vs1, d1, ds1, p1, q1, rfl, rfl, rfl, h1, r1⟩ := trodAll_cons r0
  obtain ⟨v2, vs2, d2, ds2, p2, q2, rfl, rfl, rfl, h2, r2⟩ := trodAll_cons r1
  obtain ⟨rfl, rfl, rfl⟩ := trodAll_nil r2
  obtain rfl : args = #[v0, v1, v2] := by cases args; simp_all
  obtain ⟨rfl, rfl⟩ := trodVars_none hV
  have lt0 : ∀ x ∈ p0, x.block < W.heap.size := by obtain ⟨m, hm⟩ := h0; exact DataW.trod_lt m _ _ _ hm
  obtain ⟨A0, n0, c0, z0, rfl, s0, u0, g0⟩ := open_bytes (hval 0 22 v0 rfl rfl) h0
  have m0 := g0 _ _ 0 hsz rfl rfl
  obtain ⟨a1, rfl, rfl, rfl, w1⟩ := open_int Tryd.underlying5 (hval 1 5 v1 rfl rfl) h1
  have lt2 : ∀ x ∈ p2, x.block < W.heap.size := by obtain ⟨m, hm⟩ := h2; exact DataW.trod_lt m _ _ _ hm
  obtain ⟨A2, n2, c2, z2, rfl, s2, u2, g2⟩ := open_bytes (hval 2 22 v2 rfl rfl) h2
  have m2 := g2 _ _ 2 hsz rfl rfl
  clear hA0 hval0
  refine (walk W (tabs_of_laid hL) s0 u0 m0 w1 s2 u2 m2).mono fun e W' ⟨he, bel⟩ => ?_
  subst he
  exact ⟨_, rfl, _, _, _, [], _, [], hW', trodAll_mk1 (shut_bool Tryd.underlying4 _), (trodAll_cons_mk (Below.trod laidOut (by kernel_rfl) (of_decide_eq_true (by kernel_rfl)) h0 bel lt0) (trodAll_cons_mk (shut_int Tryd.underlying5 w1) (trodAll_cons_mk (Below.trod laidOut (by kernel_rfl) (of_decide_eq_true (by kernel_rfl)) h2 bel lt2) trodAll_mk0))), rfl, bel.frame _, fun h => by cases h⟩

theorem over : Rows.utfApartRow.holds Tryd.pinned (OpenSpec.ofChange Rows.utfApartSpec) :=
  OpenClaim.holds_of_wide 7 Tryd.f7 rfl rfl rfl rfl rfl rfl rfl ⟨rfl, rfl, rfl, rfl, rfl⟩ rfl rfl rfl rfl rfl (by kernel_rfl) Tryd.func7 (by kernel_rfl)
    (of_decide_eq_true (by kernel_rfl)) (by unfold Func.isWrapper; first | (rw [if_pos (by decide +kernel)]; kernel_rfl) | (rw [if_neg (by decide +kernel)]; exact ⟨rfl, rfl⟩))
    (fun os started H enc _ => lifted os started H enc)

theorem proved : Rows.UtfApartCardSaid :=
  Claim7.holds_tied_plain_at .later [] [.data, .data, .pinned] true Rows.utfApartCard.stood.harness false
    over (fun _ h => by cases h) (by kernel_rfl) (fun _ h => by cases h) utfApart_row_tie rfl ⟨rfl, rfl⟩ (by kernel_rfl) rfl
    (fun f fn hf hfn => by
      obtain rfl : f = 7 := Option.some.inj ((show Tryd.prog.funcNamed "spyglass/spyglasslaw07.UtfApart" = some 7 by kernel_rfl).symm.trans hf) |>.symm
      obtain rfl : fn = Tryd.f7 := (Option.some.inj (Tryd.func7.symm.trans hfn)).symm
      exact ⟨by kernel_rfl, fun j t ht => by
        rw [Tryd.params7] at ht
        have hm : t ∈ [22, 5, 22] := by simpa using Array.mem_of_getElem? ht
        have hall : ([22, 5, 22].all fun u => !Tryd.prog.wantsStandIn u) = true := by kernel_rfl
        exact (show Tryd.prog.wantsStandIn t = false by simpa using List.all_eq_true.1 hall t hm)⟩)
    (by kernel_rfl)
end Go.Proofs.YtpikbekcdbfdhaaDoor.utfApart
