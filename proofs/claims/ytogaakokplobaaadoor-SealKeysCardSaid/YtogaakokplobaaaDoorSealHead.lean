/-
  Contracts of the small functions of seal and of its reference: may a header be, a header's bytes.
-/
import Derived.Test.YtogaakokplobaaaDoorSealSpec
import Derived.Test.YtogaakokplobaaaDoorMacApp
import Derived.Test.YtogaakokplobaaaDoorShaPts
namespace Go.Proofs.YtogaakokplobaaaDoor
open Go.RowKit

def hdA (h : Hd) : Array Value := #[.int .u8 h.k, .bool h.d, .int .u32 h.e, .int .u64 h.s]
theorem infoH : (Tryd.prog.info? 26).map (·.size) = some 4 := by kernel_rfl

theorem may_no {h : Hd} (hn : ¬ (1 ≤ h.k ∧ h.k ≤ 5 ∧ h.e ≤ 1048576 ∧ h.s ≤ 4611686018427387904)) : mayH h = false := by simpa [mayH] using hn
theorem may_yes {h : Hd} (hy : 1 ≤ h.k ∧ h.k ≤ 5 ∧ h.e ≤ 1048576 ∧ h.s ≤ 4611686018427387904) : mayH h = true := by simpa [mayH] using hy

theorem may_any (h : Hd) (w : World) : Calls Tryd.prog 23 #[.agg (hdA h)] w fun e w' => e = .returned (.bool (mayH h)) ∧ w' = w.alloc (.cells (hdA h) 26) := by
  obtain ⟨k, d, ep, s⟩ := h
  show Calls _ _ #[.agg #[.int .u8 k, .bool d, .int .u32 ep, .int .u64 s]] w fun e w' => e = .returned (.bool (mayH ⟨k, d, ep, s⟩)) ∧ w' = w.alloc (.cells #[.int .u8 k, .bool d, .int .u32 ep, .int .u64 s] 26)
  by_cases h1 : 1 ≤ k
  · by_cases h2 : k ≤ 5
    · by_cases h3 : ep ≤ 1048576
      · by_cases h4 : s ≤ 4611686018427387904
        · rw [show mayH ⟨k, d, ep, s⟩ = true from may_yes ⟨h1, h2, h3, h4⟩]
          go_enter Tryd.func23, Tryd.ntmps23
          go_wp2_with fail
          go_ret
          exact ⟨rfl, rfl⟩
        · rw [show mayH ⟨k, d, ep, s⟩ = false from may_no fun h => h4 h.2.2.2]
          go_enter Tryd.func23, Tryd.ntmps23
          go_wp2_with fail
          go_ret
          exact ⟨rfl, rfl⟩
      · rw [show mayH ⟨k, d, ep, s⟩ = false from may_no fun h => h3 h.2.2.1]
        go_enter Tryd.func23, Tryd.ntmps23
        go_wp2_with fail
        go_ret
        exact ⟨rfl, rfl⟩
    · rw [show mayH ⟨k, d, ep, s⟩ = false from may_no fun h => h2 h.2.1]
      go_enter Tryd.func23, Tryd.ntmps23
      go_wp2_with fail
      go_ret
      exact ⟨rfl, rfl⟩
  · rw [show mayH ⟨k, d, ep, s⟩ = false from may_no fun h => h1 h.1]
    go_enter Tryd.func23, Tryd.ntmps23
    go_wp2_with fail
    go_ret
    exact ⟨rfl, rfl⟩

theorem refMay_any (h : Hd) (w : World) : Calls Tryd.prog 18 #[.agg (hdA h)] w fun e w' => e = .returned (.bool (mayH h)) ∧ w' = w.alloc (.cells (hdA h) 26) := by
  obtain ⟨k, d, ep, s⟩ := h
  show Calls _ _ #[.agg #[.int .u8 k, .bool d, .int .u32 ep, .int .u64 s]] w fun e w' => e = .returned (.bool (mayH ⟨k, d, ep, s⟩)) ∧ w' = w.alloc (.cells #[.int .u8 k, .bool d, .int .u32 ep, .int .u64 s] 26)
  by_cases h1 : 1 ≤ k
  · by_cases h2 : k ≤ 5
    · by_cases h3 : ep ≤ 1048576
      · by_cases h4 : s ≤ 4611686018427387904
        · rw [show mayH ⟨k, d, ep, s⟩ = true from may_yes ⟨h1, h2, h3, h4⟩]
          go_enter Tryd.func18, Tryd.ntmps18
          go_wp2_with fail
          go_ret
          exact ⟨rfl, rfl⟩
        · rw [show mayH ⟨k, d, ep, s⟩ = false from may_no fun h => h4 h.2.2.2]
          go_enter Tryd.func18, Tryd.ntmps18
          go_wp2_with fail
          go_ret
          exact ⟨rfl, rfl⟩
      · rw [show mayH ⟨k, d, ep, s⟩ = false from may_no fun h => h3 h.2.2.1]
        go_enter Tryd.func18, Tryd.ntmps18
        go_wp2_with fail
        go_ret
        exact ⟨rfl, rfl⟩
    · rw [show mayH ⟨k, d, ep, s⟩ = false from may_no fun h => h2 h.2.1]
      go_enter Tryd.func18, Tryd.ntmps18
      go_wp2_with fail
      go_ret
      exact ⟨rfl, rfl⟩
  · rw [show mayH ⟨k, d, ep, s⟩ = false from may_no fun h => h1 h.1]
    go_enter Tryd.func18, Tryd.ntmps18
    go_wp2_with fail
    go_ret
    exact ⟨rfl, rfl⟩

/-! A slice that was made since w0, kept and lengthened. -/
theorem MadeAt.next {e : TypeId} {zs : List Int} {w0 w1 w2 : World} {A : Option Addr} {n c : Nat} (h : MadeAt e zs w0 A n c w1) (hb : Below w1.heap.size w1 w2) : MadeAt e zs w0 A n c w2 :=
  MadeAt.mk' (own_belowS h.own hb) (h.below.trans (hb.mono h.below.size))
theorem MadeAt.app {e : TypeId} {zs news : List Int} {w0 w1 w2 : World} {A A' : Option Addr} {n c m c' : Nat} (h : MadeAt e zs w0 A n c w1) (ho : w2.ownsRow w0.heap.size e 1 (.slice A' (n + m) c') (n + m) (zs.map (Value.int .u8) ++ news.map (Value.int .u8)))
    (hg : w1.grownBy w2 (Value.slice A n c).ownBlock) : MadeAt e (zs ++ news) w0 A' (n + m) c' w2 :=
  MadeAt.mk' (by rw [List.map_append]; exact ho) (below_app0 h.own h.below h.below.size hg)
theorem MadeAt.base {e : TypeId} {zs : List Int} {w w0 w1 : World} {A : Option Addr} {n c : Nat} (h : MadeAt e zs w0 A n c w1) (hb : Below w.heap.size w w0) : MadeAt e zs w A n c w1 :=
  MadeAt.mk' (own_base h.own hb.size) (hb.trans (h.below.mono hb.size))

theorem Blk.hd {w : World} {b : Nat} {t : TypeId} {h : Hd} (hb : Blk w b t (hdA h)) :
    w.cell? ⟨b, 0, none⟩ = some (.int .u8 h.k) ∧ w.cell? ⟨b, 1, none⟩ = some (.bool h.d) ∧ w.cell? ⟨b, 2, none⟩ = some (.int .u32 h.e) ∧ w.cell? ⟨b, 3, none⟩ = some (.int .u64 h.s) :=
  ⟨(hb.cell 0).trans rfl, (hb.cell 1).trans rfl, (hb.cell 2).trans rfl, (hb.cell 3).trans rfl⟩

set_option maxHeartbeats 1600000 in
theorem layHeader_any (h : Hd) (ok : HdOk h) (w : World) : Calls Tryd.prog 24 #[.agg (hdA h)] w fun e w' => ∃ A n c, e = .returned (.slice A n c) ∧ MadeAt 5 (headL h) w A n c w' := by
  have H := Lib.hid (show headL h = ((numS h.k 1 ++ numS (wayB h.d) 1) ++ numS h.e 4) ++ numS h.s 8 from by
    have hw := wayB_in h.d
    rw [numS_one ok.k0 ok.k1, numS_one hw.1 (by omega)]; rfl)
  obtain ⟨k, d, ep, s⟩ := h
  have hk0 : 0 ≤ k := ok.k0
  have hk1 : k ≤ 255 := ok.k1
  have he0 : 0 ≤ ep := ok.e0
  have he1 : ep ≤ 4294967295 := ok.e1
  have hs0 : 0 ≤ s := ok.s0
  have hs1 : s ≤ 18446744073709551615 := ok.s1
  clear ok
  show Calls _ _ #[.agg #[.int .u8 k, .bool d, .int .u32 ep, .int .u64 s]] w _
  obtain ⟨w0, hw0⟩ : ∃ w0, w0 = w.alloc (.cells #[.int .u8 k, .bool d, .int .u32 ep, .int .u64 s] 26) := ⟨_, rfl⟩
  have X0 := Lib.hid (show Blk w0 w.heap.size 26 (hdA ⟨k, d, ep, s⟩) ∧ Below w.heap.size w w0 from by
    rw [hw0]
    exact ⟨Blk.new _ _ _, (Below.refl _ _).alloc (Nat.le_refl _) _⟩)
  cases d with
  | false =>
    go_enter Tryd.func24, Tryd.ntmps24
    go_wp2_with fail
    rw [← hw0]
    clear hw0
    have hlt0 := X0.out.1.lt
    refine (num_any k 1 w0 hk0 (by omega)).mono ?_
    rintro e w1 ⟨v, rfl, A1, n1, c1, rfl, hm⟩
    have X1 := Lib.hid (show Blk w1 w.heap.size 26 (hdA ⟨k, false, ep, s⟩) ∧ MadeAt 5 (numS k 1) w0 A1 n1 c1 w1 ∧ n1 ≤ 8 from
      ⟨X0.out.1.below hm.below hlt0, hm, by rw [← hm.len]; exact numS_len _ _⟩)
    clear hm
    go_wp2_with fail
    refine (num_any 0 1 w1 (by omega) (by omega)).mono ?_
    rintro e w2 ⟨v, rfl, A2, n2, c2, rfl, hm⟩
    have X2 := Lib.hid (show Blk w2 w.heap.size 26 (hdA ⟨k, false, ep, s⟩) ∧ MadeAt 5 (numS k 1) w0 A1 n1 c1 w2 ∧ Sb w2 A2 n2 (numS 0 1) ∧ n1 ≤ 8 ∧ n2 ≤ 8 from
      ⟨X1.out.1.below hm.below X1.out.1.lt, X1.out.2.1.next hm.below, hm.sb, X1.out.2.2, by rw [← hm.len]; exact numS_len _ _⟩)
    clear hm X1
    go_wp2_with (at_builtin; refine wpList_app _ rfl (.tmp 11) (.tmp 13) 22 rfl w0.heap.size 5 Tryd.underlying22 info8 (.slice A1 n1 c1) n1 _ rfl X2.out.2.1.own A2 n2 c2 _ rfl X2.out.2.2.1 (by have := X2.out.2.2.2; omega) X2.out.2.1.below.size ?_; intro A3 c3 w3 ho3 hg3; have X3 := Lib.hid (show Blk w3 w.heap.size 26 (hdA ⟨k, false, ep, s⟩) ∧ MadeAt 5 (numS k 1 ++ numS 0 1) w0 A3 (n1 + n2) c3 w3 ∧ n1 + n2 ≤ 16 from ⟨X2.out.1.below (below_app0 X2.out.2.1.own (Below.refl _ _) X2.out.2.1.below.size hg3) hlt0, X2.out.2.1.app ho3 hg3, by have := X2.out.2.2.2; omega⟩); clear ho3 hg3; obtain ⟨g0, g1, g2, g3⟩ := X3.out.1.hd)
    clear g0 g1 g2 g3
    refine (num_any ep 4 w3 (by omega) (by omega)).mono ?_
    rintro e w4 ⟨v, rfl, A4, n4, c4, rfl, hm⟩
    have X4 := Lib.hid (show Blk w4 w.heap.size 26 (hdA ⟨k, false, ep, s⟩) ∧ MadeAt 5 (numS k 1 ++ numS 0 1) w0 A3 (n1 + n2) c3 w4 ∧ Sb w4 A4 n4 (numS ep 4) ∧ n1 + n2 ≤ 16 ∧ n4 ≤ 8 from
      ⟨X3.out.1.below hm.below X3.out.1.lt, X3.out.2.1.next hm.below, hm.sb, X3.out.2.2, by rw [← hm.len]; exact numS_len _ _⟩)
    clear hm X3
    go_wp2_with (at_builtin; refine wpList_app _ rfl (.tmp 15) (.tmp 19) 22 rfl w0.heap.size 5 Tryd.underlying22 info8 (.slice A3 (n1 + n2) c3) (n1 + n2) _ rfl X4.out.2.1.own A4 n4 c4 _ rfl X4.out.2.2.1 (by have := X4.out.2.2.2; omega) X4.out.2.1.below.size ?_; intro A5 c5 w5 ho5 hg5; have X5 := Lib.hid (show Blk w5 w.heap.size 26 (hdA ⟨k, false, ep, s⟩) ∧ MadeAt 5 ((numS k 1 ++ numS 0 1) ++ numS ep 4) w0 A5 (n1 + n2 + n4) c5 w5 ∧ n1 + n2 + n4 ≤ 24 from ⟨X4.out.1.below (below_app0 X4.out.2.1.own (Below.refl _ _) X4.out.2.1.below.size hg5) hlt0, X4.out.2.1.app ho5 hg5, by have := X4.out.2.2.2; omega⟩); clear ho5 hg5; obtain ⟨g0, g1, g2, g3⟩ := X5.out.1.hd)
    clear g0 g1 g2 g3
    refine (num_any s 8 w5 (by omega) (by omega)).mono ?_
    rintro e w6 ⟨v, rfl, A6, n6, c6, rfl, hm⟩
    have X6 := Lib.hid (show MadeAt 5 ((numS k 1 ++ numS 0 1) ++ numS ep 4) w0 A5 (n1 + n2 + n4) c5 w6 ∧ Sb w6 A6 n6 (numS s 8) ∧ n1 + n2 + n4 ≤ 24 ∧ n6 ≤ 8 from
      ⟨X5.out.2.1.next hm.below, hm.sb, X5.out.2.2, by rw [← hm.len]; exact numS_len _ _⟩)
    clear hm X5
    go_wp2_with (at_builtin; refine wpList_app _ rfl (.tmp 21) (.tmp 24) 22 rfl w0.heap.size 5 Tryd.underlying22 info8 (.slice A5 (n1 + n2 + n4) c5) (n1 + n2 + n4) _ rfl X6.out.1.own A6 n6 c6 _ rfl X6.out.2.1 (by have := X6.out.2.2; omega) X6.out.1.below.size ?_; intro A7 c7 w7 ho7 hg7; have X7 := Lib.hid (show MadeAt 5 (headL ⟨k, false, ep, s⟩) w A7 (n1 + n2 + n4 + n6) c7 w7 from by rw [H.out]; exact (X6.out.1.app ho7 hg7).base X0.out.2); clear ho7 hg7)
    go_ret
    exact ⟨_, _, _, rfl, X7.out⟩
  | true =>
    go_enter Tryd.func24, Tryd.ntmps24
    go_wp2_with fail
    rw [← hw0]
    clear hw0
    have hlt0 := X0.out.1.lt
    refine (num_any k 1 w0 hk0 (by omega)).mono ?_
    rintro e w1 ⟨v, rfl, A1, n1, c1, rfl, hm⟩
    have X1 := Lib.hid (show Blk w1 w.heap.size 26 (hdA ⟨k, true, ep, s⟩) ∧ MadeAt 5 (numS k 1) w0 A1 n1 c1 w1 ∧ n1 ≤ 8 from
      ⟨X0.out.1.below hm.below hlt0, hm, by rw [← hm.len]; exact numS_len _ _⟩)
    clear hm
    go_wp2_with fail
    refine (num_any 1 1 w1 (by omega) (by omega)).mono ?_
    rintro e w2 ⟨v, rfl, A2, n2, c2, rfl, hm⟩
    have X2 := Lib.hid (show Blk w2 w.heap.size 26 (hdA ⟨k, true, ep, s⟩) ∧ MadeAt 5 (numS k 1) w0 A1 n1 c1 w2 ∧ Sb w2 A2 n2 (numS 1 1) ∧ n1 ≤ 8 ∧ n2 ≤ 8 from
      ⟨X1.out.1.below hm.below X1.out.1.lt, X1.out.2.1.next hm.below, hm.sb, X1.out.2.2, by rw [← hm.len]; exact numS_len _ _⟩)
    clear hm X1
    go_wp2_with (at_builtin; refine wpList_app _ rfl (.tmp 11) (.tmp 13) 22 rfl w0.heap.size 5 Tryd.underlying22 info8 (.slice A1 n1 c1) n1 _ rfl X2.out.2.1.own A2 n2 c2 _ rfl X2.out.2.2.1 (by have := X2.out.2.2.2; omega) X2.out.2.1.below.size ?_; intro A3 c3 w3 ho3 hg3; have X3 := Lib.hid (show Blk w3 w.heap.size 26 (hdA ⟨k, true, ep, s⟩) ∧ MadeAt 5 (numS k 1 ++ numS 1 1) w0 A3 (n1 + n2) c3 w3 ∧ n1 + n2 ≤ 16 from ⟨X2.out.1.below (below_app0 X2.out.2.1.own (Below.refl _ _) X2.out.2.1.below.size hg3) hlt0, X2.out.2.1.app ho3 hg3, by have := X2.out.2.2.2; omega⟩); clear ho3 hg3; obtain ⟨g0, g1, g2, g3⟩ := X3.out.1.hd)
    clear g0 g1 g2 g3
    refine (num_any ep 4 w3 (by omega) (by omega)).mono ?_
    rintro e w4 ⟨v, rfl, A4, n4, c4, rfl, hm⟩
    have X4 := Lib.hid (show Blk w4 w.heap.size 26 (hdA ⟨k, true, ep, s⟩) ∧ MadeAt 5 (numS k 1 ++ numS 1 1) w0 A3 (n1 + n2) c3 w4 ∧ Sb w4 A4 n4 (numS ep 4) ∧ n1 + n2 ≤ 16 ∧ n4 ≤ 8 from
      ⟨X3.out.1.below hm.below X3.out.1.lt, X3.out.2.1.next hm.below, hm.sb, X3.out.2.2, by rw [← hm.len]; exact numS_len _ _⟩)
    clear hm X3
    go_wp2_with (at_builtin; refine wpList_app _ rfl (.tmp 15) (.tmp 19) 22 rfl w0.heap.size 5 Tryd.underlying22 info8 (.slice A3 (n1 + n2) c3) (n1 + n2) _ rfl X4.out.2.1.own A4 n4 c4 _ rfl X4.out.2.2.1 (by have := X4.out.2.2.2; omega) X4.out.2.1.below.size ?_; intro A5 c5 w5 ho5 hg5; have X5 := Lib.hid (show Blk w5 w.heap.size 26 (hdA ⟨k, true, ep, s⟩) ∧ MadeAt 5 ((numS k 1 ++ numS 1 1) ++ numS ep 4) w0 A5 (n1 + n2 + n4) c5 w5 ∧ n1 + n2 + n4 ≤ 24 from ⟨X4.out.1.below (below_app0 X4.out.2.1.own (Below.refl _ _) X4.out.2.1.below.size hg5) hlt0, X4.out.2.1.app ho5 hg5, by have := X4.out.2.2.2; omega⟩); clear ho5 hg5; obtain ⟨g0, g1, g2, g3⟩ := X5.out.1.hd)
    clear g0 g1 g2 g3
    refine (num_any s 8 w5 (by omega) (by omega)).mono ?_
    rintro e w6 ⟨v, rfl, A6, n6, c6, rfl, hm⟩
    have X6 := Lib.hid (show MadeAt 5 ((numS k 1 ++ numS 1 1) ++ numS ep 4) w0 A5 (n1 + n2 + n4) c5 w6 ∧ Sb w6 A6 n6 (numS s 8) ∧ n1 + n2 + n4 ≤ 24 ∧ n6 ≤ 8 from
      ⟨X5.out.2.1.next hm.below, hm.sb, X5.out.2.2, by rw [← hm.len]; exact numS_len _ _⟩)
    clear hm X5
    go_wp2_with (at_builtin; refine wpList_app _ rfl (.tmp 21) (.tmp 24) 22 rfl w0.heap.size 5 Tryd.underlying22 info8 (.slice A5 (n1 + n2 + n4) c5) (n1 + n2 + n4) _ rfl X6.out.1.own A6 n6 c6 _ rfl X6.out.2.1 (by have := X6.out.2.2; omega) X6.out.1.below.size ?_; intro A7 c7 w7 ho7 hg7; have X7 := Lib.hid (show MadeAt 5 (headL ⟨k, true, ep, s⟩) w A7 (n1 + n2 + n4 + n6) c7 w7 from by rw [H.out]; exact (X6.out.1.app ho7 hg7).base X0.out.2); clear ho7 hg7)
    go_ret
    exact ⟨_, _, _, rfl, X7.out⟩

end Go.Proofs.YtogaakokplobaaaDoor
