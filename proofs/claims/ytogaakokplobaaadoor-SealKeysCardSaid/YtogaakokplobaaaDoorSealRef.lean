/-
  Contracts of the reference's Head and Tag, and of seal's tag.
-/
import Derived.Test.YtogaakokplobaaaDoorSealHead
import Derived.Test.YtogaakokplobaaaDoorMacCode
import Derived.Test.YtogaakokplobaaaDoorMacRef
namespace Go.Proofs.YtogaakokplobaaaDoor
open Go.RowKit

theorem ps_one {w : World} {B : Option Addr} {m d : Nat} {zs : List Int} (hb : Sb w B m zs) (hz : B8s zs) (hd : m ≤ d ∧ d ≤ 9223372036854775807) : Ps (w.alloc (.cells #[.slice B m d] 22)) (some ⟨w.heap.size, 0, none⟩) 1 [zs] := by
  have hnew := heap_alloc_new w (.cells #[.slice B m d] 22)
  refine Ps.of rfl (fun _ => lt_of_block hnew) fun k hk => ?_
  obtain rfl : k = 0 := by omega
  exact ⟨B, m, d, (cell_of_row _ _ 0 _ _ _ hnew).trans rfl, hb.alloc _, hd.1, hd.2, hz⟩

set_option maxHeartbeats 1600000 in
theorem refHead_any (h : Hd) (ok : HdOk h) (w : World) : Calls Tryd.prog 26 #[.agg (hdA h)] w fun e w' => ∃ A n c, e = .returned (.slice A n c) ∧ MadeAt 5 (headL h) w A n c w' := by
  obtain ⟨k, d, ep, s⟩ := h
  have hk0 : 0 ≤ k := ok.k0
  have hk1 : k ≤ 255 := ok.k1
  have he0 : 0 ≤ ep := ok.e0
  have he1 : ep ≤ 4294967295 := ok.e1
  have hs0 : 0 ≤ s := ok.s0
  have hs1 : s ≤ 18446744073709551615 := ok.s1
  clear ok
  show Calls _ _ #[.agg #[.int .u8 k, .bool d, .int .u32 ep, .int .u64 s]] w _
  obtain ⟨w0, hw0⟩ : ∃ w0, w0 = w.alloc (.cells #[.int .u8 k, .bool d, .int .u32 ep, .int .u64 s] 26) := ⟨_, rfl⟩
  have X0 := Lib.hid (show Blk w0 w.heap.size 26 (hdA ⟨k, d, ep, s⟩) ∧ Below w.heap.size w w0 from by
    rw [hw0]
    exact ⟨Blk.new _ _ _, (Below.refl _ _).alloc (Nat.le_refl _) _⟩)
  have hlt0 := X0.out.1.lt
  cases d with
  | false =>
    obtain ⟨w2, hw2⟩ : ∃ w2, w2 = w0.alloc (.cells #[.int .u8 k] 5) := ⟨_, rfl⟩
    have X2 := Lib.hid (show Blk w2 w.heap.size 26 (hdA ⟨k, false, ep, s⟩) ∧ MadeAt 5 [k] w0 (some ⟨w.heap.size + 1, 0, none⟩) 1 1 w2 ∧ w2.heap.size = w.heap.size + 1 + 1 from by
      have e1 : w0.heap.size = w.heap.size + 1 := by rw [hw0]; simp
      rw [hw2]
      refine ⟨X0.out.1.alloc _, ?_, by simp [e1]⟩
      have h1 := World.ownsRow_lit (size := 1) (e := 5) w0 #[.int .u8 k] 1 (Nat.le_refl _) (by unfold maxLen; omega) rfl
      have h2 : MadeAt 5 [k] w0 (some ⟨w0.heap.size, 0, none⟩) 1 1 (w0.alloc (.cells #[.int .u8 k] 5)) := MadeAt.mk' h1 ((Below.refl _ _).alloc (Nat.le_refl _) _)
      rw [← e1]
      exact h2)
    rw [hw0] at hw2
    go_enter Tryd.func26, Tryd.ntmps26
    go_upto_region 4 with fail
    rw [← hw2]
    clear hw0 hw2
    have b2 : Below w2.heap.size w2 (w2.alloc (.cells #[.int .u8 0] 5)) := (Below.refl _ _).alloc (Nat.le_refl _) _
    have X3 := Lib.hid (show Blk (w2.alloc (.cells #[.int .u8 0] 5)) w.heap.size 26 (hdA ⟨k, false, ep, s⟩) ∧ MadeAt 5 [k] w0 (some ⟨w.heap.size + 1, 0, none⟩) 1 1 (w2.alloc (.cells #[.int .u8 0] 5)) from ⟨X2.out.1.alloc _, X2.out.2.1.next b2⟩)
    clear b2
    go_wp2_with (at_builtin; refine wpList_app _ rfl (.tmp 12) (.tmp 13) 22 rfl w0.heap.size 5 Tryd.underlying22 info8 (.slice (some ⟨w.heap.size + 1, 0, none⟩) 1 1) 1 _ rfl X3.out.2.own (some ⟨w2.heap.size, 0, none⟩) 1 1 [0] rfl (Sb.one _ _ _) (by omega) X3.out.2.below.size ?_; intro A3 c3 w3 ho3 hg3; have X4 := Lib.hid (show Blk w3 w.heap.size 26 (hdA ⟨k, false, ep, s⟩) ∧ MadeAt 5 ([k] ++ [0]) w0 A3 2 c3 w3 from ⟨X3.out.1.below (below_app0 X3.out.2.own (Below.refl _ _) X3.out.2.below.size hg3) hlt0, X3.out.2.app ho3 hg3⟩); clear ho3 hg3; obtain ⟨g0, g1, g2, g3⟩ := X4.out.1.hd)
    clear g0 g1 g2 g3
    refine (refNum_any ep 4 w3 (by omega) (by omega)).mono ?_
    rintro e w4 ⟨v, rfl, A4, n4, c4, rfl, hm⟩
    have X5 := Lib.hid (show Blk w4 w.heap.size 26 (hdA ⟨k, false, ep, s⟩) ∧ MadeAt 5 ([k] ++ [0]) w0 A3 2 c3 w4 ∧ Sb w4 A4 n4 (numS ep 4) ∧ n4 ≤ 8 from
      ⟨X4.out.1.below hm.below X4.out.1.lt, X4.out.2.next hm.below, hm.sb, by rw [← hm.len]; exact numS_len _ _⟩)
    clear hm X4 X2 X3
    go_wp2_with (at_builtin; refine wpList_app _ rfl (.tmp 15) (.tmp 19) 22 rfl w0.heap.size 5 Tryd.underlying22 info8 (.slice A3 2 c3) 2 _ rfl X5.out.2.1.own A4 n4 c4 _ rfl X5.out.2.2.1 (by have := X5.out.2.2.2; omega) X5.out.2.1.below.size ?_; intro A5 c5 w5 ho5 hg5; have X6 := Lib.hid (show Blk w5 w.heap.size 26 (hdA ⟨k, false, ep, s⟩) ∧ MadeAt 5 (([k] ++ [0]) ++ numS ep 4) w0 A5 (2 + n4) c5 w5 ∧ 2 + n4 ≤ 24 from ⟨X5.out.1.below (below_app0 X5.out.2.1.own (Below.refl _ _) X5.out.2.1.below.size hg5) hlt0, X5.out.2.1.app ho5 hg5, by have := X5.out.2.2.2; omega⟩); clear ho5 hg5; obtain ⟨g0, g1, g2, g3⟩ := X6.out.1.hd)
    clear g0 g1 g2 g3
    refine (refNum_any s 8 w5 (by omega) (by omega)).mono ?_
    rintro e w6 ⟨v, rfl, A6, n6, c6, rfl, hm⟩
    have X7 := Lib.hid (show MadeAt 5 (([k] ++ [0]) ++ numS ep 4) w0 A5 (2 + n4) c5 w6 ∧ Sb w6 A6 n6 (numS s 8) ∧ 2 + n4 ≤ 24 ∧ n6 ≤ 8 from
      ⟨X6.out.2.1.next hm.below, hm.sb, X6.out.2.2, by rw [← hm.len]; exact numS_len _ _⟩)
    clear hm X6
    go_wp2_with (at_builtin; refine wpList_app _ rfl (.tmp 21) (.tmp 24) 22 rfl w0.heap.size 5 Tryd.underlying22 info8 (.slice A5 (2 + n4) c5) (2 + n4) _ rfl X7.out.1.own A6 n6 c6 _ rfl X7.out.2.1 (by have := X7.out.2.2; omega) X7.out.1.below.size ?_; intro A7 c7 w7 ho7 hg7; have X8 := Lib.hid (show MadeAt 5 (headL ⟨k, false, ep, s⟩) w A7 (2 + n4 + n6) c7 w7 from (X7.out.1.app ho7 hg7).base X0.out.2); clear ho7 hg7)
    go_ret
    exact ⟨_, _, _, rfl, X8.out⟩
  | true =>
    obtain ⟨w2, hw2⟩ : ∃ w2, w2 = w0.alloc (.cells #[.int .u8 k] 5) := ⟨_, rfl⟩
    have X2 := Lib.hid (show Blk w2 w.heap.size 26 (hdA ⟨k, true, ep, s⟩) ∧ MadeAt 5 [k] w0 (some ⟨w.heap.size + 1, 0, none⟩) 1 1 w2 ∧ w2.heap.size = w.heap.size + 1 + 1 from by
      have e1 : w0.heap.size = w.heap.size + 1 := by rw [hw0]; simp
      rw [hw2]
      refine ⟨X0.out.1.alloc _, ?_, by simp [e1]⟩
      have h1 := World.ownsRow_lit (size := 1) (e := 5) w0 #[.int .u8 k] 1 (Nat.le_refl _) (by unfold maxLen; omega) rfl
      have h2 : MadeAt 5 [k] w0 (some ⟨w0.heap.size, 0, none⟩) 1 1 (w0.alloc (.cells #[.int .u8 k] 5)) := MadeAt.mk' h1 ((Below.refl _ _).alloc (Nat.le_refl _) _)
      rw [← e1]
      exact h2)
    rw [hw0] at hw2
    go_enter Tryd.func26, Tryd.ntmps26
    go_upto_region 3 with fail
    rw [← hw2]
    clear hw0 hw2
    have b2 : Below w2.heap.size w2 (w2.alloc (.cells #[.int .u8 1] 5)) := (Below.refl _ _).alloc (Nat.le_refl _) _
    have X3 := Lib.hid (show Blk (w2.alloc (.cells #[.int .u8 1] 5)) w.heap.size 26 (hdA ⟨k, true, ep, s⟩) ∧ MadeAt 5 [k] w0 (some ⟨w.heap.size + 1, 0, none⟩) 1 1 (w2.alloc (.cells #[.int .u8 1] 5)) from ⟨X2.out.1.alloc _, X2.out.2.1.next b2⟩)
    clear b2
    go_wp2_with (at_builtin; refine wpList_app _ rfl (.tmp 9) (.tmp 10) 22 rfl w0.heap.size 5 Tryd.underlying22 info8 (.slice (some ⟨w.heap.size + 1, 0, none⟩) 1 1) 1 _ rfl X3.out.2.own (some ⟨w2.heap.size, 0, none⟩) 1 1 [1] rfl (Sb.one _ _ _) (by omega) X3.out.2.below.size ?_; intro A3 c3 w3 ho3 hg3; have X4 := Lib.hid (show Blk w3 w.heap.size 26 (hdA ⟨k, true, ep, s⟩) ∧ MadeAt 5 ([k] ++ [1]) w0 A3 2 c3 w3 from ⟨X3.out.1.below (below_app0 X3.out.2.own (Below.refl _ _) X3.out.2.below.size hg3) hlt0, X3.out.2.app ho3 hg3⟩); clear ho3 hg3; obtain ⟨g0, g1, g2, g3⟩ := X4.out.1.hd)
    clear g0 g1 g2 g3
    refine (refNum_any ep 4 w3 (by omega) (by omega)).mono ?_
    rintro e w4 ⟨v, rfl, A4, n4, c4, rfl, hm⟩
    have X5 := Lib.hid (show Blk w4 w.heap.size 26 (hdA ⟨k, true, ep, s⟩) ∧ MadeAt 5 ([k] ++ [1]) w0 A3 2 c3 w4 ∧ Sb w4 A4 n4 (numS ep 4) ∧ n4 ≤ 8 from
      ⟨X4.out.1.below hm.below X4.out.1.lt, X4.out.2.next hm.below, hm.sb, by rw [← hm.len]; exact numS_len _ _⟩)
    clear hm X4 X2 X3
    go_wp2_with (at_builtin; refine wpList_app _ rfl (.tmp 15) (.tmp 19) 22 rfl w0.heap.size 5 Tryd.underlying22 info8 (.slice A3 2 c3) 2 _ rfl X5.out.2.1.own A4 n4 c4 _ rfl X5.out.2.2.1 (by have := X5.out.2.2.2; omega) X5.out.2.1.below.size ?_; intro A5 c5 w5 ho5 hg5; have X6 := Lib.hid (show Blk w5 w.heap.size 26 (hdA ⟨k, true, ep, s⟩) ∧ MadeAt 5 (([k] ++ [1]) ++ numS ep 4) w0 A5 (2 + n4) c5 w5 ∧ 2 + n4 ≤ 24 from ⟨X5.out.1.below (below_app0 X5.out.2.1.own (Below.refl _ _) X5.out.2.1.below.size hg5) hlt0, X5.out.2.1.app ho5 hg5, by have := X5.out.2.2.2; omega⟩); clear ho5 hg5; obtain ⟨g0, g1, g2, g3⟩ := X6.out.1.hd)
    clear g0 g1 g2 g3
    refine (refNum_any s 8 w5 (by omega) (by omega)).mono ?_
    rintro e w6 ⟨v, rfl, A6, n6, c6, rfl, hm⟩
    have X7 := Lib.hid (show MadeAt 5 (([k] ++ [1]) ++ numS ep 4) w0 A5 (2 + n4) c5 w6 ∧ Sb w6 A6 n6 (numS s 8) ∧ 2 + n4 ≤ 24 ∧ n6 ≤ 8 from
      ⟨X6.out.2.1.next hm.below, hm.sb, X6.out.2.2, by rw [← hm.len]; exact numS_len _ _⟩)
    clear hm X6
    go_wp2_with (at_builtin; refine wpList_app _ rfl (.tmp 21) (.tmp 24) 22 rfl w0.heap.size 5 Tryd.underlying22 info8 (.slice A5 (2 + n4) c5) (2 + n4) _ rfl X7.out.1.own A6 n6 c6 _ rfl X7.out.2.1 (by have := X7.out.2.2; omega) X7.out.1.below.size ?_; intro A7 c7 w7 ho7 hg7; have X8 := Lib.hid (show MadeAt 5 (headL ⟨k, true, ep, s⟩) w A7 (2 + n4 + n6) c7 w7 from (X7.out.1.app ho7 hg7).base X0.out.2); clear ho7 hg7)
    go_ret
    exact ⟨_, _, _, rfl, X8.out⟩

set_option maxHeartbeats 1600000 in
theorem tag_any {A : Option Addr} {n c : Nat} {key : List Int} {B : Option Addr} {m d : Nat} {zs : List Int} (w : World) (hr : Roots w) (hs : Sb w A n key) (h8 : B8s key) (hc : n ≤ c ∧ c ≤ 9223372036854775807) (hn : n ≤ 1125899906842624)
    (hb : Sb w B m zs) (hz : B8s zs) (hd : m ≤ d ∧ d ≤ 9223372036854775807) (hm : m ≤ 1125899906842000) :
    Calls Tryd.prog 25 #[.slice A n c, .slice B m d] w fun e w' => ∃ g, e = .returned (.slice (some ⟨g, 0, none⟩) 16 32) ∧ w.heap.size ≤ g ∧ Sb w' (some ⟨g, 0, none⟩) 16 (tagS key zs) ∧ Below w.heap.size w w' := by
  have H := Lib.hid (show Roots w ∧ Sb w A n key ∧ B8s key ∧ (n ≤ c ∧ c ≤ 9223372036854775807) ∧ n ≤ 1125899906842624 from ⟨hr, hs, h8, hc, hn⟩)
  have HP := Lib.hid (ps_one hb hz hd)
  have hlz := hb.len
  clear hr hs h8 hc hn hb hz hd
  have hb0 : Below w.heap.size w (w.alloc (.cells #[.slice B m d] 22)) := (Below.refl _ _).alloc (Nat.le_refl _) _
  have HC := Lib.hid (code_any (c := c) (d := 1) (w.alloc (.cells #[.slice B m d] 22)) (H.out.1.below hb0) (H.out.2.1.below hb0) H.out.2.2.1 H.out.2.2.2.1 H.out.2.2.2.2 HP.out (by omega) (by simp; omega))
  have HB := Lib.hid hb0
  rw [show ([zs] : List (List Int)).flatten = zs by simp] at HC
  clear hlz hm hb0 HP
  obtain ⟨r, hr⟩ : ∃ r, r = macS key zs := ⟨_, rfl⟩
  have HR := Lib.hid (show r.length = 32 ∧ r = macS key zs from ⟨by rw [hr]; exact macS_len _ _, hr⟩)
  rw [← hr] at HC
  clear hr
  go_enter Tryd.func25, Tryd.ntmps25
  go_wp2_with fail
  refine HC.out.mono ?_
  rintro e w1 ⟨rfl, hb1⟩
  have B1 := Lib.hid (HB.out.trans (hb1.mono HB.out.size))
  clear hb1 HC
  have hn1 : Hid (Blk (w1.alloc (.cells (u8A (List.replicate 32 0)) 46)) w1.heap.size 46 (u8A (List.replicate 32 0))) := Blk.new _ _ _
  go_wp2_with (refine wpList_store_row rfl 46 (.tmp 5) (.tmp 9) rfl w1.heap.size (u8A r) rfl rfl 46 (u8A (List.replicate 32 0)) hn1.out (by rw [u8A_size, HR.out.1]; exact info32) (by rw [u8A_size, u8A_size, HR.out.1]; simp) (u8A_one _) ?_)
  have HF := Lib.hid (show w.heap.size ≤ w1.heap.size ∧ Sb ((w1.alloc (.cells (u8A (List.replicate 32 0)) 46)).setRow w1.heap.size (u8A r)) (some ⟨w1.heap.size, 0, none⟩) 16 (tagS key zs) ∧ Below w.heap.size w ((w1.alloc (.cells (u8A (List.replicate 32 0)) 46)).setRow w1.heap.size (u8A r)) from by
    have h1 := hn1.out.setRow (u8A r)
    have h2 : Sb ((w1.alloc (.cells (u8A (List.replicate 32 0)) 46)).setRow w1.heap.size (u8A r)) (some ⟨w1.heap.size, 0, none⟩) 32 r := ⟨HR.out.1, fun _ => ⟨_, rfl, h1.lt, fun k hk => by rw [addHead]; exact h1.cell8 (by rw [HR.out.1]; exact hk)⟩⟩
    refine ⟨B1.out.size, ?_, below_setRow (B1.out.alloc B1.out.size _) B1.out.size _⟩
    unfold tagS
    rw [← HR.out.2]
    exact h2.front (by omega))
  go_ret
  exact ⟨_, rfl, HF.out⟩

set_option maxHeartbeats 1600000 in
theorem refTag_any {A : Option Addr} {n c : Nat} {key : List Int} {B : Option Addr} {m d : Nat} {zs : List Int} (w : World) (hs : Sb w A n key) (h8 : B8s key) (hc : n ≤ c ∧ c ≤ 9223372036854775807) (hn : n ≤ 1125899906842)
    (hb : Sb w B m zs) (hz : B8s zs) (hd : m ≤ d ∧ d ≤ 9223372036854775807) (hm : m ≤ 1125899906000) :
    Calls Tryd.prog 27 #[.slice A n c, .slice B m d] w fun e w' => ∃ A' c', e = .returned (.slice A' 16 c') ∧ MadeAt 5 (tagS key zs) w A' 16 c' w' := by
  have H := Lib.hid (show Sb w A n key ∧ B8s key ∧ (n ≤ c ∧ c ≤ 9223372036854775807) from ⟨hs, h8, hc⟩)
  have HP := Lib.hid (ps_one hb hz hd)
  have hlz := hb.len
  clear hs h8 hc hb hz hd
  have hb0 : Below w.heap.size w (w.alloc (.cells #[.slice B m d] 22)) := (Below.refl _ _).alloc (Nat.le_refl _) _
  have HC := Lib.hid (refCode_any (c := c) (d := 1) (w.alloc (.cells #[.slice B m d] 22)) (H.out.1.below hb0) H.out.2.1 H.out.2.2 hn HP.out (by omega) (by simp; omega))
  have HB := Lib.hid hb0
  rw [show ([zs] : List (List Int)).flatten = zs by simp] at HC
  clear hlz hm hb0 HP hn
  obtain ⟨r, hr⟩ : ∃ r, r = macS key zs := ⟨_, rfl⟩
  have HR := Lib.hid (show r.length = 32 ∧ r = macS key zs from ⟨by rw [hr]; exact macS_len _ _, hr⟩)
  rw [← hr] at HC
  clear hr
  go_enter Tryd.func27, Tryd.ntmps27
  go_wp2_with fail
  refine HC.out.mono ?_
  rintro e w1 ⟨rfl, hb1⟩
  have B1 := Lib.hid (HB.out.trans (hb1.mono HB.out.size))
  clear hb1 HC
  have hn1 : Hid (Blk (w1.alloc (.cells (u8A (List.replicate 32 0)) 46)) w1.heap.size 46 (u8A (List.replicate 32 0))) := Blk.new _ _ _
  go_wp2_with (refine wpList_store_row rfl 46 (.tmp 5) (.tmp 11) rfl w1.heap.size (u8A r) rfl rfl 46 (u8A (List.replicate 32 0)) hn1.out (by rw [u8A_size, HR.out.1]; exact info32) (by rw [u8A_size, u8A_size, HR.out.1]; simp) (u8A_one _) ?_)
  obtain ⟨w2, hw2⟩ : ∃ w2, w2 = (w1.alloc (.cells (u8A (List.replicate 32 0)) 46)).setRow w1.heap.size (u8A r) := ⟨_, rfl⟩
  have X2 := Lib.hid (show Blk w2 w1.heap.size 46 (u8A r) ∧ Below w.heap.size w w2 ∧ w2.heap.size = w1.heap.size + 1 from by
    rw [hw2]
    exact ⟨hn1.out.setRow (u8A r), below_setRow (B1.out.alloc B1.out.size _) B1.out.size _, by simp [World.setRow]⟩)
  have hw2' : w2 = (w1.alloc (.cells #[Value.int .u8 0, Value.int .u8 0, Value.int .u8 0, Value.int .u8 0, Value.int .u8 0, Value.int .u8 0, Value.int .u8 0, Value.int .u8 0, Value.int .u8 0, Value.int .u8 0, Value.int .u8 0, Value.int .u8 0, Value.int .u8 0, Value.int .u8 0, Value.int .u8 0, Value.int .u8 0, Value.int .u8 0, Value.int .u8 0, Value.int .u8 0, Value.int .u8 0, Value.int .u8 0, Value.int .u8 0, Value.int .u8 0, Value.int .u8 0, Value.int .u8 0, Value.int .u8 0, Value.int .u8 0, Value.int .u8 0, Value.int .u8 0, Value.int .u8 0, Value.int .u8 0, Value.int .u8 0] 46)).setRow w1.heap.size (u8A r) := hw2
  rw [← hw2']
  clear hw2 hw2' hn1
  go_loopw [6, 7] (fun v6 i wr => ∃ (j c6 : Nat) (A6 : Option Addr), j ≤ 16 ∧ i = .int .i64 j ∧ v6 = .slice A6 j c6 ∧ MadeAt 5 (r.take j) w2 A6 j c6 wr) (fun _ i _ => 16 - (intOf i).toNat)
  case atStart =>
    have h1 := World.ownsRow_lit (size := 1) (e := 5) w2 #[] 0 (Nat.le_refl _) (by unfold maxLen; omega) rfl
    have h2 : MadeAt 5 [] w2 (some ⟨w2.heap.size, 0, none⟩) 0 0 (w2.alloc (.cells #[] 5)) := MadeAt.mk' h1 ((Below.refl _ _).alloc (Nat.le_refl _) _)
    rw [X2.out.2.2] at h2
    exact ⟨0, 0, _, by omega, rfl, rfl, h2⟩
  case round =>
    obtain ⟨j, c6, A6, hj, rfl, rfl, hm⟩ := hrel
    have hlt2 := X2.out.1.lt
    by_cases hlt : j < 16
    · have hjl : (j : Int) < 16 := by omega
      obtain ⟨y, hy⟩ : ∃ y, y = r.getD j 0 := ⟨_, rfl⟩
      have hcl := (X2.out.1.below hm.below hlt2).cell8 (k := j) (by rw [HR.out.1]; omega)
      rw [← hy] at hcl
      have HY := Lib.hid (show r.take (j + 1) = r.take j ++ [y] from by
        rw [hy, List.take_succ_eq_append_getElem (by rw [HR.out.1]; omega), getD_lt (by rw [HR.out.1]; omega)])
      have X := Lib.hid (show MadeAt 5 (r.take j) w2 A6 j c6 (wr.alloc (.cells #[.int .u8 y] 5)) from hm.next ((Below.refl _ _).alloc (Nat.le_refl _) _))
      clear hm hy
      go_wp2_with (at_builtin; refine wpList_app _ rfl (.tmp 17) (.tmp 21) 22 rfl w2.heap.size 5 Tryd.underlying22 info8 (.slice A6 j c6) j _ rfl X.out.own (some ⟨wr.heap.size, 0, none⟩) 1 1 [y] rfl (Sb.one _ _ _) (by omega) X.out.below.size ?_; intro A7 c7 w7 ho7 hg7; have X7 := Lib.hid (show MadeAt 5 (r.take (j + 1)) w2 A7 (j + 1) c7 w7 from by rw [HY.out]; exact X.out.app ho7 hg7); clear ho7 hg7)
      go_roundw
      case rel => exact ⟨j + 1, c7, A7, by omega, by go_num, rfl, X7.out⟩
      case measure => simp [intOf]; omega
    · obtain rfl : j = 16 := by omega
      have HF := Lib.hid (show MadeAt 5 (tagS key zs) w A6 16 c6 wr from by
        unfold tagS
        rw [← HR.out.2]
        exact hm.base X2.out.2.1)
      clear hm
      go_wp2_with fail
      go_ret
      exact ⟨_, _, rfl, HF.out⟩

end Go.Proofs.YtogaakokplobaaaDoor
