/-
  Proved: ProjectBlank answers true for every size and all features, over the tables that the library and the program lay (a tied card).
-/
import Derived.Test.YtojchkhnalnncaaDoorCards
import Derived.Test.YtojchkhnalnncaaDoorTie
import Derived.SevenTiedAt
import Derived.WalkKit
import Derived.Deep.RegionHeld3
import Derived.Test.YtojchkhnalnncaaDoorPj01
import Derived.Test.YtojchkhnalnncaaDoorPj27
namespace Go.Proofs.YtojchkhnalnncaaDoor.projectBlank
open Go.ChangeShapes Go.WideShapes Go.ChangeAt Go.RowKit
set_option maxHeartbeats 6400000 in
set_option maxRecDepth 100000 in
theorem walk {c r f : Int} (w : World) (hT : Tabs w ∧ CTabs w) (_ : (Lit.int .i64 c).wf = true) (_ : (Lit.int .i64 r).wf = true) (hf : 0 ≤ f ∧ f ≤ 4294967295) :
  Calls Tryd.prog 7 #[.int .i64 c, .int .i64 r, .int .u32 f] w fun e w' => e = .returned (.bool true) ∧ Below w.heap.size w w' := by
 have HT := Lib.hid (fun w' (hb' : Below w.heap.size w w') => And.intro (hT.1.below hb' (Nat.le_refl _)) (hT.2.below hb' (Nat.le_refl _)))
 have HF := Lib.hid (show 0 ≤ f ∧ f < 4294967296 from ⟨hf.1, by omega⟩)
 clear hT hf
 go_enter Tryd.func7, Tryd.ntmps7
 go_wp2_with fail
 refine (pBlank_any (HT.out _ (Below.refl _ _)).1 c r).mono ?_
 rintro e w1 ⟨hb1, ⟨hz, s1, rfl, hS1⟩ | ⟨hz, rfl⟩⟩
 · obtain ⟨b1, hb1q⟩ : ∃ x, x = w1.heap.size := ⟨_, rfl⟩
   obtain ⟨w2, hw2⟩ : ∃ x, x = w1.alloc (.cells (scrA s1) 25) := ⟨_, rfl⟩
   have X2 := Lib.hid (show Sx w2 b1 s1 ∧ Below w.heap.size w w2 ∧ ScOwn w.heap.size w2 s1 (blS c.toNat r.toNat) from by
    have hb : Below w1.heap.size w1 w2 := by rw [hw2]; exact (Below.refl _ _).alloc (Nat.le_refl _) _
    exact ⟨by rw [hw2, hb1q]; exact Sx.new w1 s1, hb1.trans (hb.mono hb1.size), hS1.below hb⟩)
   have HZ := Lib.hid hz
   clear hb1 hS1 hz
   unfold scrA at hw2 ⊢
   go_upto_region 2 with fail
   rw [← hw2, ← hb1q]
   clear hw2 hb1q
   go_wp2_with fail
   refine (rBlank_any c r).mono ?_
   rintro e w3 ⟨hb3, ⟨_, s2, rfl, hS2⟩ | ⟨hz, rfl⟩⟩
   rotate_left
   · exact absurd hz (by rw [HZ.out]; simp)
   obtain ⟨b2, hb2q⟩ : ∃ x, x = w3.heap.size := ⟨_, rfl⟩
   obtain ⟨w4, hw4⟩ : ∃ x, x = w3.alloc (.cells (scrA s2) 25) := ⟨_, rfl⟩
   have X4 := Lib.hid (show Sx w4 b1 s1 ∧ Sx w4 b2 s2 ∧ Below w.heap.size w w4 ∧ ScOwn w.heap.size w4 s1 (blS c.toNat r.toNat) ∧ ScOwn w2.heap.size w4 s2 (blS c.toNat r.toNat) from by
    have hb : Below w3.heap.size w3 w4 := by rw [hw4]; exact (Below.refl _ _).alloc (Nat.le_refl _) _
    have h24 : Below w2.heap.size w2 w4 := hb3.trans (hb.mono hb3.size)
    exact ⟨X2.out.1.below h24, by rw [hw4, hb2q]; exact Sx.new w3 s2, X2.out.2.1.trans (h24.mono X2.out.2.1.size), X2.out.2.2.below h24, hS2.below hb⟩)
   clear hb3 hS2 X2
   unfold scrA at hw4 ⊢
   go_upto_region 3 with fail
   rw [← hw4, ← hb2q]
   clear hw4 hb2q
   have HSZ := Lib.hid (show ∃ c' r' : Nat, c = (c' : Int) ∧ r = (r' : Int) ∧ 1 ≤ c' ∧ c' ≤ 80 ∧ 1 ≤ r' ∧ r' ≤ 24 from size_nat HZ.out)
   have HPJ := Lib.hid (show projS f (blS c.toNat r.toNat) = blS c.toNat r.toNat from by
    obtain ⟨c', r', rfl, rfl, h1, h2, h3, h4⟩ := HSZ.out
    rw [Int.toNat_natCast, Int.toNat_natCast]
    exact bl_proj h1 h2 h3 h4 f)
   have SX := Lib.hid (show ∀ w', Below w4.heap.size w4 w' → (Below w4.heap.size w4 w' ∧ (w'.cell? ⟨b1, 0, none⟩ = some (.int .i64 s1.c) ∧ w'.cell? ⟨b1, 1, none⟩ = some (.int .i64 s1.r) ∧ w'.cell? ⟨b1, 2, none⟩ = some (.slice s1.A s1.n s1.k) ∧ w'.cell? ⟨b1, 3, none⟩ = some (.int .i64 s1.x) ∧ w'.cell? ⟨b1, 4, none⟩ = some (.int .i64 s1.y) ∧ w'.cell? ⟨b1, 5, none⟩ = some (.bool s1.hid) ∧ w'.cell? ⟨b1, 6, none⟩ = some (.int .u8 s1.mouse) ∧ w'.cell? ⟨b1, 7, none⟩ = some (.string s1.ttl) ∧ w'.cell? ⟨b1, 8, none⟩ = some (.slice s1.T s1.m s1.q) ∧ w'.cell? ⟨b2, 0, none⟩ = some (.int .i64 s2.c) ∧ w'.cell? ⟨b2, 1, none⟩ = some (.int .i64 s2.r) ∧ w'.cell? ⟨b2, 2, none⟩ = some (.slice s2.A s2.n s2.k) ∧ w'.cell? ⟨b2, 3, none⟩ = some (.int .i64 s2.x) ∧ w'.cell? ⟨b2, 4, none⟩ = some (.int .i64 s2.y) ∧ w'.cell? ⟨b2, 5, none⟩ = some (.bool s2.hid) ∧ w'.cell? ⟨b2, 6, none⟩ = some (.int .u8 s2.mouse) ∧ w'.cell? ⟨b2, 7, none⟩ = some (.string s2.ttl) ∧ w'.cell? ⟨b2, 8, none⟩ = some (.slice s2.T s2.m s2.q))) from fun w' hb => by
    have t0 := sx_cells (X4.out.1.below hb)
    have t1 := sx_cells (X4.out.2.1.below hb)
    exact ⟨hb, t0.c0, t0.c1, t0.c2, t0.c3, t0.c4, t0.c5, t0.c6, t0.c7, t0.c8, t1.c0, t1.c1, t1.c2, t1.c3, t1.c4, t1.c5, t1.c6, t1.c7, t1.c8⟩)
   have P0 := Lib.hid (show ∀ w', Below w4.heap.size w4 w' → Calls Tryd.prog 9 #[] w' fun e w'' => e = .returned (.bool true) ∧ Below w4.heap.size w4 w'' from fun w' hb => (fixedP_any (HT.out _ (X4.out.2.2.1.trans (hb.mono X4.out.2.2.1.size))).1 (HT.out _ (X4.out.2.2.1.trans (hb.mono X4.out.2.2.1.size))).2).mono fun _ _ h => ⟨h.1, hb.trans (h.2.mono hb.size)⟩)
   have P1 := Lib.hid (show ∀ w', Below w4.heap.size w4 w' → Calls Tryd.prog 11 #[.agg (scrA s1), .int .u32 f] w' fun e w'' => Below w4.heap.size w4 w'' ∧ ∃ s', e = .returned (.agg (scrA s')) ∧ ScIn w'' s' (blS c.toNat r.toNat) ∧ s'.n ≤ 1920 ∧ s'.m ≤ 16 from fun w' hb => by
    refine (pScreen_any (HT.out _ (X4.out.2.2.1.trans (hb.mono X4.out.2.2.1.size))).1 (HT.out _ (X4.out.2.2.1.trans (hb.mono X4.out.2.2.1.size))).2 ((X4.out.2.2.2.1.sc).below hb) (bl_pos _ _) (by have := X4.out.2.2.2.1.n; omega) (by have := X4.out.2.2.2.1.m; omega) HF.out).mono ?_
    rintro e w'' ⟨h1, s', rfl, h2⟩
    rw [HPJ.out] at h2
    exact ⟨hb.trans (h1.mono hb.size), s', rfl, h2.sc, h2.n, h2.m⟩)
   have P2 := Lib.hid (show ∀ w', Below w4.heap.size w4 w' → Calls Tryd.prog 12 #[.agg (scrA s1), .agg (scrA s2)] w' fun e w'' => e = .returned (.bool true) ∧ Below w4.heap.size w4 w'' from fun w' hb => (refSameS_any (X4.out.2.2.2.1.sc.below hb) (X4.out.2.2.2.2.sc.below hb) (by have := X4.out.2.2.2.1.n; omega) (by have := X4.out.2.2.2.2.n; omega) (by have := X4.out.2.2.2.1.m; omega) (by have := X4.out.2.2.2.2.m; omega)).mono fun _ _ h => ⟨h.1, hb.trans (h.2.mono hb.size)⟩)
   have P3 := Lib.hid (show ∀ w' s', Below w4.heap.size w4 w' → ScIn w' s' (blS c.toNat r.toNat) → s'.n ≤ 1920 → s'.m ≤ 16 → Calls Tryd.prog 12 #[.agg (scrA s'), .agg (scrA s1)] w' fun e w'' => e = .returned (.bool true) ∧ Below w4.heap.size w4 w'' from fun w' s' hb h1 h2 h3 => (refSameS_any h1 (X4.out.2.2.2.1.sc.below hb) (by omega) (by have := X4.out.2.2.2.1.n; omega) (by omega) (by have := X4.out.2.2.2.1.m; omega)).mono fun _ _ h => ⟨h.1, hb.trans (h.2.mono hb.size)⟩)
   unfold scrA at P1 P2 P3
   have hb0 : Below w4.heap.size w4 w4 := Below.refl _ _
   go_region_held3 (fun w' => Below w4.heap.size w4 w' ∧ (w'.cell? ⟨b1, 0, none⟩ = some (.int .i64 s1.c) ∧ w'.cell? ⟨b1, 1, none⟩ = some (.int .i64 s1.r) ∧ w'.cell? ⟨b1, 2, none⟩ = some (.slice s1.A s1.n s1.k) ∧ w'.cell? ⟨b1, 3, none⟩ = some (.int .i64 s1.x) ∧ w'.cell? ⟨b1, 4, none⟩ = some (.int .i64 s1.y) ∧ w'.cell? ⟨b1, 5, none⟩ = some (.bool s1.hid) ∧ w'.cell? ⟨b1, 6, none⟩ = some (.int .u8 s1.mouse) ∧ w'.cell? ⟨b1, 7, none⟩ = some (.string s1.ttl) ∧ w'.cell? ⟨b1, 8, none⟩ = some (.slice s1.T s1.m s1.q) ∧ w'.cell? ⟨b2, 0, none⟩ = some (.int .i64 s2.c) ∧ w'.cell? ⟨b2, 1, none⟩ = some (.int .i64 s2.r) ∧ w'.cell? ⟨b2, 2, none⟩ = some (.slice s2.A s2.n s2.k) ∧ w'.cell? ⟨b2, 3, none⟩ = some (.int .i64 s2.x) ∧ w'.cell? ⟨b2, 4, none⟩ = some (.int .i64 s2.y) ∧ w'.cell? ⟨b2, 5, none⟩ = some (.bool s2.hid) ∧ w'.cell? ⟨b2, 6, none⟩ = some (.int .u8 s2.mouse) ∧ w'.cell? ⟨b2, 7, none⟩ = some (.string s2.ttl) ∧ w'.cell? ⟨b2, 8, none⟩ = some (.slice s2.T s2.m s2.q)))
    ((refine SX.out _ ?_; (try go_split_ands); first | assumption | exact Below.drew (by assumption)))
    ((first
     | (go_at_call 9; (try go_split_ands); refine (P0.out _ (by assumption)).mono ?_; rintro e w5 ⟨rfl, hb5⟩)
     | (go_at_call 11; (try go_split_ands); refine (P1.out _ (by assumption)).mono ?_; rintro e w7 ⟨hb7, s7, rfl, hS7, hn7, hm7⟩)
     | (go_at_call 12; (try go_split_ands); refine (P3.out _ s7 hb7 hS7 hn7 hm7).mono ?_; rintro e w8 ⟨rfl, hb8⟩)
     | (go_at_call 12; (try go_split_ands); refine (P2.out _ (by assumption)).mono ?_; rintro e w6 ⟨rfl, hb6⟩)))
   go_wp2_with fail
   go_ret
   exact ⟨rfl, X4.out.2.2.1.trans (hb8.mono X4.out.2.2.1.size)⟩
 · obtain ⟨b1, hb1q⟩ : ∃ x, x = w1.heap.size := ⟨_, rfl⟩
   obtain ⟨w2, hw2⟩ : ∃ x, x = w1.alloc (.cells (scrA scN) 25) := ⟨_, rfl⟩
   have X2 := Lib.hid (show Sx w2 b1 scN ∧ Below w.heap.size w w2 from by
    have hb : Below w1.heap.size w1 w2 := by rw [hw2]; exact (Below.refl _ _).alloc (Nat.le_refl _) _
    exact ⟨by rw [hw2, hb1q]; exact Sx.new w1 scN, hb1.trans (hb.mono hb1.size)⟩)
   have HZ := Lib.hid hz
   clear hb1 hz
   unfold scrA scN at hw2 ⊢
   dsimp only at hw2 ⊢
   go_upto_region 2 with fail
   rw [← hw2, ← hb1q]
   clear hw2 hb1q
   go_wp2_with fail
   refine (rBlank_any c r).mono ?_
   rintro e w3 ⟨hb3, ⟨hz, _⟩ | ⟨_, rfl⟩⟩
   · exact absurd hz (by rw [HZ.out]; simp)
   obtain ⟨b2, hb2q⟩ : ∃ x, x = w3.heap.size := ⟨_, rfl⟩
   obtain ⟨w4, hw4⟩ : ∃ x, x = w3.alloc (.cells (scrA scN) 25) := ⟨_, rfl⟩
   have X4 := Lib.hid (show Sx w4 b1 scN ∧ Sx w4 b2 scN ∧ Below w.heap.size w w4 from by
    have hb : Below w3.heap.size w3 w4 := by rw [hw4]; exact (Below.refl _ _).alloc (Nat.le_refl _) _
    have h24 : Below w2.heap.size w2 w4 := hb3.trans (hb.mono hb3.size)
    exact ⟨X2.out.1.below h24, by rw [hw4, hb2q]; exact Sx.new w3 scN, X2.out.2.trans (h24.mono X2.out.2.size)⟩)
   clear hb3 X2
   unfold scrA scN at hw4 ⊢
   dsimp only at hw4 ⊢
   go_upto_region 3 with fail
   rw [← hw4, ← hb2q]
   clear hw4 hb2q
   have SX := Lib.hid (show ∀ w', Below w4.heap.size w4 w' → (Below w4.heap.size w4 w' ∧ (w'.cell? ⟨b1, 0, none⟩ = some (.int .i64 0) ∧ w'.cell? ⟨b1, 1, none⟩ = some (.int .i64 0) ∧ w'.cell? ⟨b1, 2, none⟩ = some (.slice none 0 0) ∧ w'.cell? ⟨b1, 3, none⟩ = some (.int .i64 0) ∧ w'.cell? ⟨b1, 4, none⟩ = some (.int .i64 0) ∧ w'.cell? ⟨b1, 5, none⟩ = some (.bool false) ∧ w'.cell? ⟨b1, 6, none⟩ = some (.int .u8 0) ∧ w'.cell? ⟨b1, 7, none⟩ = some (.string ⟨#[]⟩) ∧ w'.cell? ⟨b1, 8, none⟩ = some (.slice none 0 0) ∧ w'.cell? ⟨b2, 0, none⟩ = some (.int .i64 0) ∧ w'.cell? ⟨b2, 1, none⟩ = some (.int .i64 0) ∧ w'.cell? ⟨b2, 2, none⟩ = some (.slice none 0 0) ∧ w'.cell? ⟨b2, 3, none⟩ = some (.int .i64 0) ∧ w'.cell? ⟨b2, 4, none⟩ = some (.int .i64 0) ∧ w'.cell? ⟨b2, 5, none⟩ = some (.bool false) ∧ w'.cell? ⟨b2, 6, none⟩ = some (.int .u8 0) ∧ w'.cell? ⟨b2, 7, none⟩ = some (.string ⟨#[]⟩) ∧ w'.cell? ⟨b2, 8, none⟩ = some (.slice none 0 0))) from fun w' hb => by
    have t0 := sx_cells (X4.out.1.below hb)
    have t1 := sx_cells (X4.out.2.1.below hb)
    exact ⟨hb, t0.c0, t0.c1, t0.c2, t0.c3, t0.c4, t0.c5, t0.c6, t0.c7, t0.c8, t1.c0, t1.c1, t1.c2, t1.c3, t1.c4, t1.c5, t1.c6, t1.c7, t1.c8⟩)
   have P0 := Lib.hid (show ∀ w', Below w4.heap.size w4 w' → Calls Tryd.prog 9 #[] w' fun e w'' => e = .returned (.bool true) ∧ Below w4.heap.size w4 w'' from fun w' hb => (fixedP_any (HT.out _ (X4.out.2.2.trans (hb.mono X4.out.2.2.size))).1 (HT.out _ (X4.out.2.2.trans (hb.mono X4.out.2.2.size))).2).mono fun _ _ h => ⟨h.1, hb.trans (h.2.mono hb.size)⟩)
   have P2 := Lib.hid (show ∀ w', Below w4.heap.size w4 w' → Calls Tryd.prog 12 #[.agg (scrA scN), .agg (scrA scN)] w' fun e w'' => e = .returned (.bool true) ∧ Below w4.heap.size w4 w'' from fun w' hb => (refSameS_any (zero_in w') (zero_in w') (by show 0 ≤ _; omega) (by show 0 ≤ _; omega) (by show 0 ≤ _; omega) (by show 0 ≤ _; omega)).mono fun _ _ h => ⟨h.1, hb.trans (h.2.mono hb.size)⟩)
   unfold scrA scN at P2
   dsimp only at P2
   refine wp_region_noPanic ?_
   refine wp_region_held_drew (S := fun w' => Below w4.heap.size w4 w' ∧ (w'.cell? ⟨b1, 0, none⟩ = some (.int .i64 0) ∧ w'.cell? ⟨b1, 1, none⟩ = some (.int .i64 0) ∧ w'.cell? ⟨b1, 2, none⟩ = some (.slice none 0 0) ∧ w'.cell? ⟨b1, 3, none⟩ = some (.int .i64 0) ∧ w'.cell? ⟨b1, 4, none⟩ = some (.int .i64 0) ∧ w'.cell? ⟨b1, 5, none⟩ = some (.bool false) ∧ w'.cell? ⟨b1, 6, none⟩ = some (.int .u8 0) ∧ w'.cell? ⟨b1, 7, none⟩ = some (.string ⟨#[]⟩) ∧ w'.cell? ⟨b1, 8, none⟩ = some (.slice none 0 0) ∧ w'.cell? ⟨b2, 0, none⟩ = some (.int .i64 0) ∧ w'.cell? ⟨b2, 1, none⟩ = some (.int .i64 0) ∧ w'.cell? ⟨b2, 2, none⟩ = some (.slice none 0 0) ∧ w'.cell? ⟨b2, 3, none⟩ = some (.int .i64 0) ∧ w'.cell? ⟨b2, 4, none⟩ = some (.int .i64 0) ∧ w'.cell? ⟨b2, 5, none⟩ = some (.bool false) ∧ w'.cell? ⟨b2, 6, none⟩ = some (.int .u8 0) ∧ w'.cell? ⟨b2, 7, none⟩ = some (.string ⟨#[]⟩) ∧ w'.cell? ⟨b2, 8, none⟩ = some (.slice none 0 0))) (by kernel_rfl) (SX.out _ (Below.refl _ _).drew) (fun hHeld => ?_)
   refine wpAnyH_ready (rs := [0]) (by kernel_rfl) (by simp) (AllReadyH.cons rfl (fun K hK => ?_) AllReadyH.nil)
   rw [if_pos (by rfl)]
   go_simp
   refine (P0.out _ hHeld.1).mono ?_
   rintro e w5 ⟨rfl, hb5⟩
   refine hK.out _ _ (SX.out _ hb5) (fun hHeld => ?_)
   clear hK K
   try simp only [Act.put, List.getElem_toArray, List.getElem_cons_succ, List.getElem_cons_zero]
   try simp only [List.setIfInBounds_toArray]
   try simp only [List.set_cons_succ]
   try simp only [List.set_cons_zero]
   have H5 := Lib.hid hb5
   clear hb5
   refine wpAnyH_take (i := 1) (v := .bool true) rfl (by kernel_rfl) (by kernel_rfl) (by kernel_rfl) (fun _ _ _ h => h) (Or.inl ⟨by rfl, fun wz hSz => ?_⟩) hHeld ?_
   · go_simp
   simp only [Act.put, List.getElem_toArray, List.getElem_cons_succ, List.getElem_cons_zero]
   try simp only [List.setIfInBounds_toArray]
   try simp only [List.set_cons_succ]
   try simp only [List.set_cons_zero]
   refine wpAnyH_take (i := 2) (v := .int .i64 1) rfl (by kernel_rfl) (by kernel_rfl) (by kernel_rfl) (fun _ _ _ h => h) (Or.inl ⟨by rfl, fun wz hSz => ?_⟩) hHeld ?_
   · go_simp
   simp only [Act.put, List.getElem_toArray, List.getElem_cons_succ, List.getElem_cons_zero]
   try simp only [List.setIfInBounds_toArray]
   try simp only [List.set_cons_succ]
   try simp only [List.set_cons_zero]
   refine wpAnyH_take (i := 3) (v := .int .i64 1) rfl (by kernel_rfl) (by kernel_rfl) (by kernel_rfl) (fun _ _ _ h => h) (Or.inl ⟨by rfl, fun wz hSz => ?_⟩) hHeld ?_
   · go_simp
   simp only [Act.put, List.getElem_toArray, List.getElem_cons_succ, List.getElem_cons_zero]
   try simp only [List.setIfInBounds_toArray]
   try simp only [List.set_cons_succ]
   try simp only [List.set_cons_zero]
   refine wpAnyH_take (i := 4) (v := .bool true) rfl (by kernel_rfl) (by kernel_rfl) (by kernel_rfl) (fun _ _ _ h => h) (Or.inl ⟨by rfl, fun wz hSz => ?_⟩) hHeld ?_
   · go_simp
   simp only [Act.put, List.getElem_toArray, List.getElem_cons_succ, List.getElem_cons_zero]
   try simp only [List.setIfInBounds_toArray]
   try simp only [List.set_cons_succ]
   try simp only [List.set_cons_zero]
   refine wpAnyH_take (i := 5) (v := .bool true) rfl (by kernel_rfl) (by kernel_rfl) (by kernel_rfl) (fun _ _ _ h => h) (Or.inl ⟨by rfl, fun wz hSz => ?_⟩) hHeld ?_
   · go_simp
   simp only [Act.put, List.getElem_toArray, List.getElem_cons_succ, List.getElem_cons_zero]
   try simp only [List.setIfInBounds_toArray]
   try simp only [List.set_cons_succ]
   try simp only [List.set_cons_zero]
   refine wpAnyH_take (i := 6) (v := .bool true) rfl (by kernel_rfl) (by kernel_rfl) (by kernel_rfl) (fun _ _ _ h => h) (Or.inl ⟨by rfl, fun wz hSz => ?_⟩) hHeld ?_
   · go_simp
   simp only [Act.put, List.getElem_toArray, List.getElem_cons_succ, List.getElem_cons_zero]
   try simp only [List.setIfInBounds_toArray]
   try simp only [List.set_cons_succ]
   try simp only [List.set_cons_zero]
   refine wpAnyH_take (i := 7) (v := .agg #[.int .i64 0, .int .i64 0, .slice none 0 0, .int .i64 0, .int .i64 0, .bool false, .int .u8 0, .string ⟨#[]⟩, .slice none 0 0]) rfl (by kernel_rfl) (by kernel_rfl) (by kernel_rfl) (fun _ _ _ h => h) (Or.inl ⟨by rfl, fun wz hSz => ?_⟩) hHeld ?_
   · obtain ⟨_, e0, e1, e2, e3, e4, e5, e6, e7, e8, e9, e10, e11, e12, e13, e14, e15, e16, e17⟩ := hSz
     go_simp
   simp only [Act.put, List.getElem_toArray, List.getElem_cons_succ, List.getElem_cons_zero]
   try simp only [List.setIfInBounds_toArray]
   try simp only [List.set_cons_succ]
   try simp only [List.set_cons_zero]
   refine wpAnyH_take (i := 8) (v := .agg #[.int .i64 0, .int .i64 0, .slice none 0 0, .int .i64 0, .int .i64 0, .bool false, .int .u8 0, .string ⟨#[]⟩, .slice none 0 0]) rfl (by kernel_rfl) (by kernel_rfl) (by kernel_rfl) (fun _ _ _ h => h) (Or.inl ⟨by rfl, fun wz hSz => ?_⟩) hHeld ?_
   · obtain ⟨_, e0, e1, e2, e3, e4, e5, e6, e7, e8, e9, e10, e11, e12, e13, e14, e15, e16, e17⟩ := hSz
     go_simp
   simp only [Act.put, List.getElem_toArray, List.getElem_cons_succ, List.getElem_cons_zero]
   try simp only [List.setIfInBounds_toArray]
   try simp only [List.set_cons_succ]
   try simp only [List.set_cons_zero]
   refine wpAnyH_ready (rs := [9]) (by kernel_rfl) (by simp) (AllReadyH.cons rfl (fun K hK => ?_) AllReadyH.nil)
   rw [if_pos (by rfl)]
   go_simp
   refine (P2.out _ hHeld.1).mono ?_
   rintro e w6 ⟨rfl, hb6⟩
   refine hK.out _ _ (SX.out _ hb6) (fun hHeld => ?_)
   clear hK K
   try simp only [Act.put, List.getElem_toArray, List.getElem_cons_succ, List.getElem_cons_zero]
   try simp only [List.setIfInBounds_toArray]
   try simp only [List.set_cons_succ]
   try simp only [List.set_cons_zero]
   have H6 := Lib.hid hb6
   clear hb6
   refine wpAnyH_take (i := 10) (v := .bool true) rfl (by kernel_rfl) (by kernel_rfl) (by kernel_rfl) (fun _ _ _ h => h) (Or.inl ⟨by rfl, fun wz hSz => ?_⟩) hHeld ?_
   · go_simp
   simp only [Act.put, List.getElem_toArray, List.getElem_cons_succ, List.getElem_cons_zero]
   try simp only [List.setIfInBounds_toArray]
   try simp only [List.set_cons_succ]
   try simp only [List.set_cons_zero]
   refine wpAnyH_take (i := 11) (v := .bool true) rfl (by kernel_rfl) (by kernel_rfl) (by kernel_rfl) (fun _ _ _ h => h) (Or.inl ⟨by rfl, fun wz hSz => ?_⟩) hHeld ?_
   · go_simp
   simp only [Act.put, List.getElem_toArray, List.getElem_cons_succ, List.getElem_cons_zero]
   try simp only [List.setIfInBounds_toArray]
   try simp only [List.set_cons_succ]
   try simp only [List.set_cons_zero]
   refine wpAnyH_take (i := 12) (v := .int .i64 1) rfl (by kernel_rfl) (by kernel_rfl) (by kernel_rfl) (fun _ _ _ h => h) (Or.inl ⟨by rfl, fun wz hSz => ?_⟩) hHeld ?_
   · go_simp
   simp only [Act.put, List.getElem_toArray, List.getElem_cons_succ, List.getElem_cons_zero]
   try simp only [List.setIfInBounds_toArray]
   try simp only [List.set_cons_succ]
   try simp only [List.set_cons_zero]
   refine wpAnyH_take (i := 13) (v := .bool true) rfl (by kernel_rfl) (by kernel_rfl) (by kernel_rfl) (fun _ _ _ h => h) (Or.inl ⟨by rfl, fun wz hSz => ?_⟩) hHeld ?_
   · go_simp
   simp only [Act.put, List.getElem_toArray, List.getElem_cons_succ, List.getElem_cons_zero]
   try simp only [List.setIfInBounds_toArray]
   try simp only [List.set_cons_succ]
   try simp only [List.set_cons_zero]
   refine wpAnyH_take (i := 14) (v := .bool true) rfl (by kernel_rfl) (by kernel_rfl) (by kernel_rfl) (fun _ _ _ h => h) (Or.inl ⟨by rfl, fun wz hSz => ?_⟩) hHeld ?_
   · go_simp
   simp only [Act.put, List.getElem_toArray, List.getElem_cons_succ, List.getElem_cons_zero]
   try simp only [List.setIfInBounds_toArray]
   try simp only [List.set_cons_succ]
   try simp only [List.set_cons_zero]
   refine wpAnyH_take (i := 15) (v := undef) rfl (by kernel_rfl) (by kernel_rfl) (by kernel_rfl) (fun _ _ _ h => h) (Or.inr ⟨by rfl, rfl⟩) hHeld ?_
   simp only [Act.put, List.getElem_toArray, List.getElem_cons_succ, List.getElem_cons_zero]
   try simp only [List.setIfInBounds_toArray]
   try simp only [List.set_cons_succ]
   try simp only [List.set_cons_zero]
   refine wpAnyH_take (i := 16) (v := undef) rfl (by kernel_rfl) (by kernel_rfl) (by kernel_rfl) (fun _ _ _ h => h) (Or.inr ⟨by rfl, rfl⟩) hHeld ?_
   simp only [Act.put, List.getElem_toArray, List.getElem_cons_succ, List.getElem_cons_zero]
   try simp only [List.setIfInBounds_toArray]
   try simp only [List.set_cons_succ]
   try simp only [List.set_cons_zero]
   refine wpAnyH_take (i := 17) (v := undef) rfl (by kernel_rfl) (by kernel_rfl) (by kernel_rfl) (fun _ _ _ h => h) (Or.inr ⟨by rfl, rfl⟩) hHeld ?_
   simp only [Act.put, List.getElem_toArray, List.getElem_cons_succ, List.getElem_cons_zero]
   try simp only [List.setIfInBounds_toArray]
   try simp only [List.set_cons_succ]
   try simp only [List.set_cons_zero]
   refine wpAnyH_take (i := 18) (v := undef) rfl (by kernel_rfl) (by kernel_rfl) (by kernel_rfl) (fun _ _ _ h => h) (Or.inr ⟨by rfl, rfl⟩) hHeld ?_
   simp only [Act.put, List.getElem_toArray, List.getElem_cons_succ, List.getElem_cons_zero]
   try simp only [List.setIfInBounds_toArray]
   try simp only [List.set_cons_succ]
   try simp only [List.set_cons_zero]
   refine wpAnyH_take (i := 19) (v := undef) rfl (by kernel_rfl) (by kernel_rfl) (by kernel_rfl) (fun _ _ _ h => h) (Or.inr ⟨by rfl, rfl⟩) hHeld ?_
   simp only [Act.put, List.getElem_toArray, List.getElem_cons_succ, List.getElem_cons_zero]
   try simp only [List.setIfInBounds_toArray]
   try simp only [List.set_cons_succ]
   try simp only [List.set_cons_zero]
   refine wpAnyH_take (i := 20) (v := .bool true) rfl (by kernel_rfl) (by kernel_rfl) (by kernel_rfl) (fun _ _ _ h => h) (Or.inl ⟨by rfl, fun wz hSz => ?_⟩) hHeld ?_
   · go_simp
   simp only [Act.put, List.getElem_toArray, List.getElem_cons_succ, List.getElem_cons_zero]
   try simp only [List.setIfInBounds_toArray]
   try simp only [List.set_cons_succ]
   try simp only [List.set_cons_zero]
   refine wpAnyH_take (i := 21) (v := .bool true) rfl (by kernel_rfl) (by kernel_rfl) (by kernel_rfl) (fun _ _ _ h => h) (Or.inl ⟨by rfl, fun wz hSz => ?_⟩) hHeld ?_
   · go_simp
   simp only [Act.put, List.getElem_toArray, List.getElem_cons_succ, List.getElem_cons_zero]
   try simp only [List.setIfInBounds_toArray]
   try simp only [List.set_cons_succ]
   try simp only [List.set_cons_zero]
   refine wpAnyH_take (i := 22) (v := .bool true) rfl (by kernel_rfl) (by kernel_rfl) (by kernel_rfl) (fun _ _ _ h => h) (Or.inl ⟨by rfl, fun wz hSz => ?_⟩) hHeld ?_
   · go_simp
   simp only [Act.put, List.getElem_toArray, List.getElem_cons_succ, List.getElem_cons_zero]
   try simp only [List.setIfInBounds_toArray]
   try simp only [List.set_cons_succ]
   try simp only [List.set_cons_zero]
   refine wpAnyH_done (by kernel_rfl) ?_ _
   refine NoPanic.normal ?_
   go_wp2_with fail
   go_ret
   exact ⟨rfl, X4.out.2.2.trans (H6.out.mono X4.out.2.2.size)⟩
set_option maxRecDepth 100000 in
theorem lifted (os : Os) (started : os.Started) (H : Type) (enc : TypeId × Value → H) :
  ReturnsInHanded {} Tryd.checked os 7 .any (fun w args => (Rows.projectBlankSpec.pre enc Tryd.prog Tryd.f7 [] false w args ∧ laidMetH Tryd.prog laidL w) ∧ sizedMet enc Tryd.prog Tryd.f7 (OpenSpec.ofChange Rows.projectBlankSpec) false w args)
   (Rows.projectBlankSpec.post enc Tryd.prog Tryd.f7 false true false false) := by
 refine returnsInHanded_of_change_and (C := Tryd.checked) (X := fun w _ => laidMetH Tryd.prog laidL w) (fun _ _ _ hh h => h.of_heap hh) own started (by kernel_rfl) Tryd.func7
  (ChangeSpec.witness_shaped (enc := enc) (C := Tryd.checked) (os := os) (X := fun w _ => laidMetH Tryd.prog laidL w) false (World.laidAll Tryd.prog os laidL) #[.int .i64 0, .int .i64 0, .int .u32 0] 8 (World.laidAll_os _ _ _) (start_shaped os) (by kernel_rfl) (by kernel_rfl) (by kernel_rfl) (start_met os _)) ?_
 intro W base args ds gs before hval0 hW _ hsz0 hL _
 have hsz : (DataW.weightsEach Tryd.prog (Tryd.f7.params.toList ++ Rows.projectBlankSpec.plain.varTypes Tryd.prog) (ds ++ gs)).all (· ≤ reachBytes) = true := hsz0
 clear hsz0
 have hval : ∀ (j : Nat) t v, Tryd.f7.params[j]? = some t → args[j]? = some v → Value.okWide Tryd.prog W .any base t v := hval0
 have hW' := hW
 obtain ⟨p, q, hA0, hV, rfl, _, _⟩ := hW
 have hA : DataW.TrodAll enc Tryd.prog W 0 (fun _ => true) true Tryd.f7.params.toList args.toList ds p := hA0
 rw [Tryd.params7] at hA hval hsz
 obtain ⟨v0, vs0, d0, ds0, p0, q0, hargs, rfl, rfl, h0, r0⟩ := trodAll_cons hA
 obtain ⟨v1, vs1, d1, ds1, p1, q1, rfl, rfl, rfl, h1, r1⟩ := trodAll_cons r0
 obtain ⟨v2, vs2, d2, ds2, p2, q2, rfl, rfl, rfl, h2, r2⟩ := trodAll_cons r1
 obtain ⟨rfl, rfl, rfl⟩ := trodAll_nil r2
 obtain rfl : args = #[v0, v1, v2] := by cases args; simp_all
 obtain ⟨rfl, rfl⟩ := trodVars_none hV
 obtain ⟨a0, rfl, rfl, rfl, w0⟩ := open_int Tryd.underlying3 (hval 0 3 v0 rfl rfl) h0
 obtain ⟨a1, rfl, rfl, rfl, w1⟩ := open_int Tryd.underlying3 (hval 1 3 v1 rfl rfl) h1
 have lt2 : ∀ x ∈ p2, x.block < W.heap.size := by obtain ⟨m, hm⟩ := h2; exact DataW.trod_lt m _ _ _ hm
 obtain ⟨k2, rfl, s2⟩ := open_u32h (hval 2 26 v2 rfl rfl) h2
 clear hA0 hval0
 refine (walk W (both_of_laid hL) w0 w1 s2).mono fun e W' ⟨he, bel⟩ => ?_
 subst he
 exact ⟨_, rfl, _, _, _, [], _, [], hW', trodAll_mk1 (shut_bool Tryd.underlying4 _), (trodAll_cons_mk (shut_int Tryd.underlying3 w0) (trodAll_cons_mk (shut_int Tryd.underlying3 w1) (trodAll_cons_mk (Below.trod laidOut (by kernel_rfl) (of_decide_eq_true (by kernel_rfl)) h2 bel lt2) trodAll_mk0))), rfl, bel.frame _, fun h => by cases h⟩
theorem over : Rows.projectBlankRow.holds Tryd.pinned (OpenSpec.ofChange Rows.projectBlankSpec) :=
 OpenClaim.holds_of_wide 7 Tryd.f7 rfl rfl rfl rfl rfl rfl rfl ⟨rfl, rfl, rfl, rfl, rfl⟩ rfl rfl rfl rfl rfl (by kernel_rfl) Tryd.func7 (by kernel_rfl)
  (of_decide_eq_true (by kernel_rfl)) (by unfold Func.isWrapper; first | (rw [if_pos (by decide +kernel)]; kernel_rfl) | (rw [if_neg (by decide +kernel)]; exact ⟨rfl, rfl⟩))
  (fun os started H enc _ => lifted os started H enc)
theorem proved : Rows.ProjectBlankCardSaid :=
 Claim7.holds_tied_plain_at .later [] [.data, .data, .data, .data, .pinned] true Rows.projectBlankCard.stood.harness false
  over (fun _ h => by cases h) (by kernel_rfl) (fun _ h => by cases h) projectBlank_row_tie rfl ⟨rfl, rfl⟩ (by kernel_rfl) rfl
  (fun f fn hf hfn => by
   obtain rfl : f = 7 := Option.some.inj ((show Tryd.prog.funcNamed "spyglass/spyglasslaw15.ProjectBlank" = some 7 by kernel_rfl).symm.trans hf) |>.symm
   obtain rfl : fn = Tryd.f7 := (Option.some.inj (Tryd.func7.symm.trans hfn)).symm
   exact ⟨by kernel_rfl, fun j t ht => by
    rw [Tryd.params7] at ht
    have hm : t ∈ [3, 3, 26] := by simpa using Array.mem_of_getElem? ht
    have hall : ([3, 3, 26].all fun u => !Tryd.prog.wantsStandIn u) = true := by kernel_rfl
    exact (show Tryd.prog.wantsStandIn t = false by simpa using List.all_eq_true.1 hall t hm)⟩)
  (by kernel_rfl)
end Go.Proofs.YtojchkhnalnncaaDoor.projectBlank
