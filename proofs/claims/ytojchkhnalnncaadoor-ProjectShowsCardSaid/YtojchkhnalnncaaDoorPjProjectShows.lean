/-
  Proved: ProjectShows answers true for every screen and all features, over the tables that the library and the program lay (a tied card).
-/
import Derived.Test.YtojchkhnalnncaaDoorCards
import Derived.Test.YtojchkhnalnncaaDoorTie
import Derived.SevenTiedAt
import Derived.WalkKit
import Derived.Deep.RegionHeld3
import Derived.Test.YtojchkhnalnncaaDoorPj01
import Derived.Test.YtojchkhnalnncaaDoorPj27
namespace Go.Proofs.YtojchkhnalnncaaDoor.projectShows
open Go.ChangeShapes Go.WideShapes Go.ChangeAt Go.RowKit
set_option maxHeartbeats 6400000 in
set_option maxRecDepth 100000 in
theorem walk {s : ScR} {S : Sc} {f : Int} (w : World) (hT : Tabs w ∧ CTabs w) (h : ScIn w s S ∧ PosC S.cells) (hf : 0 ≤ f ∧ f ≤ 4294967295) :
  Calls Tryd.prog 3 #[.agg (scrA s), .int .u32 f] w fun e w' => e = .returned (.bool true) ∧ Below w.heap.size w w' := by
 have HT := Lib.hid (fun w' (hb' : Below w.heap.size w w') => And.intro (hT.1.below hb' (Nat.le_refl _)) (hT.2.below hb' (Nat.le_refl _)))
 have HF := Lib.hid (show 0 ≤ f ∧ f < 4294967296 from ⟨hf.1, by omega⟩)
 have HI := Lib.hid h.1
 have HP := Lib.hid h.2
 obtain ⟨b, hb⟩ : ∃ b, b = w.heap.size := ⟨_, rfl⟩
 obtain ⟨w1, hw1⟩ : ∃ w1, w1 = w.alloc (.cells (scrA s) 25) := ⟨_, rfl⟩
 have H1 := Lib.hid (show Sx w1 b s ∧ Below w.heap.size w w1 from by
  rw [hw1, hb]
  exact ⟨Sx.new w s, (Below.refl _ _).alloc (Nat.le_refl _) _⟩)
 obtain ⟨G, hG⟩ : ∃ G, greatS s = G := ⟨_, rfl⟩
 have PG := Lib.hid (greatP_any s w1)
 rw [hG] at PG
 have HG := Lib.hid hG
 clear h hT hf hG
 obtain ⟨a0, a1, a2, a3, a4, a5, a6, a7, a8, _⟩ := sx_cells H1.out.1
 unfold scrA at hw1 PG ⊢
 go_enter Tryd.func3, Tryd.ntmps3
 go_upto_region 1 with fail
 rw [← hw1, ← hb]
 clear hw1 hb
 go_wp2_with fail
 refine PG.out.mono ?_
 rintro e w2 ⟨rfl, hb2⟩
 have H2 := Lib.hid (show Sx w2 b s ∧ Below w.heap.size w w2 from ⟨H1.out.1.below hb2, H1.out.2.trans (hb2.mono H1.out.2.size)⟩)
 clear hb2 H1 PG a0 a1 a2 a3 a4 a5 a6 a7 a8
 cases G
 rotate_left
 · go_wp2_with fail
   refine (fixedP_any (HT.out _ H2.out.2).1 (HT.out _ H2.out.2).2).mono ?_
   rintro e w9 ⟨rfl, hb9⟩
   have Z9 := Lib.hid (Below.trans H2.out.2 (hb9.mono (Below.size H2.out.2)))
   clear hb9
   go_wp2_with fail
   go_ret
   exact ⟨rfl, Z9.out⟩
 have HN := Lib.hid (great_no HG.out)
 clear HG
 obtain ⟨a0, a1, a2, a3, a4, a5, a6, a7, a8, _⟩ := sx_cells H2.out.1
 have PC := Lib.hid (refCopyS_any (HI.out.below H2.out.2) (by have := HN.out; omega) (by have := HN.out; omega))
 unfold scrA at PC
 go_wp2_with fail
 refine PC.out.mono ?_
 rintro e w8 ⟨hb8, s2, rfl, hS2, hn2, hm2⟩
 obtain ⟨bw, hbw⟩ : ∃ x, x = w8.heap.size := ⟨_, rfl⟩
 obtain ⟨w3, hw3⟩ : ∃ x, x = w8.alloc (.cells (scrA s2) 25) := ⟨_, rfl⟩
 have H3 := Lib.hid (show Sx w3 b s ∧ Sx w3 bw s2 ∧ Below w.heap.size w w3 ∧ ScIn w3 s2 S ∧ s2.n = s.n ∧ s2.m = s.m from by
  have hb : Below w8.heap.size w8 w3 := by rw [hw3]; exact (Below.refl _ _).alloc (Nat.le_refl _) _
  have h23 : Below w2.heap.size w2 w3 := hb8.trans (hb.mono hb8.size)
  exact ⟨H2.out.1.below h23, by rw [hw3, hbw]; exact Sx.new w8 s2, H2.out.2.trans (h23.mono H2.out.2.size), hS2.below hb, hn2, hm2⟩)
 clear hb8 hS2 hn2 hm2 H2 PC a0 a1 a2 a3 a4 a5 a6 a7 a8
 unfold scrA at hw3
 go_upto_region 4 with fail
 rw [← hw3, ← hbw]
 clear hw3 hbw
 obtain ⟨a0, a1, a2, a3, a4, a5, a6, a7, a8, _⟩ := sx_cells H3.out.2.1
 have PS := Lib.hid (pScreen_any (f := f) (HT.out _ H3.out.2.2.1).1 (HT.out _ H3.out.2.2.1).2 H3.out.2.2.2.1 HP.out (by have := HN.out; have := H3.out.2.2.2.2.1; omega) (by have := HN.out; have := H3.out.2.2.2.2.2; omega) HF.out)
 unfold scrA at PS
 go_wp2_with fail
 refine PS.out.mono ?_
 rintro e w4 ⟨hb4, s3, rfl, hS3⟩
 obtain ⟨bp, hbp⟩ : ∃ x, x = w4.heap.size := ⟨_, rfl⟩
 obtain ⟨w5, hw5⟩ : ∃ x, x = w4.alloc (.cells (scrA s3) 25) := ⟨_, rfl⟩
 have H5 := Lib.hid (show Sx w5 b s ∧ Sx w5 bp s3 ∧ Below w3.heap.size w3 w5 ∧ ScOwn w3.heap.size w5 s3 (projS f S) from by
  have hb : Below w4.heap.size w4 w5 := by rw [hw5]; exact (Below.refl _ _).alloc (Nat.le_refl _) _
  have h35 : Below w3.heap.size w3 w5 := hb4.trans (hb.mono hb4.size)
  exact ⟨H3.out.1.below h35, by rw [hw5, hbp]; exact Sx.new w4 s3, h35, hS3.below hb⟩)
 have HB5 := Lib.hid (H3.out.2.2.1.trans (H5.out.2.2.1.mono H3.out.2.2.1.size))
 clear hb4 hS3 PS a0 a1 a2 a3 a4 a5 a6 a7 a8
 unfold scrA at hw5 ⊢
 go_upto_region 5 with fail
 rw [← hw5, ← hbp]
 clear hw5 hbp
 have SX := Lib.hid (show ∀ w', Below w5.heap.size w5 w' → (Below w5.heap.size w5 w' ∧ (w'.cell? ⟨b, 0, none⟩ = some (.int .i64 s.c) ∧ w'.cell? ⟨b, 1, none⟩ = some (.int .i64 s.r) ∧ w'.cell? ⟨b, 2, none⟩ = some (.slice s.A s.n s.k) ∧ w'.cell? ⟨b, 3, none⟩ = some (.int .i64 s.x) ∧ w'.cell? ⟨b, 4, none⟩ = some (.int .i64 s.y) ∧ w'.cell? ⟨b, 5, none⟩ = some (.bool s.hid) ∧ w'.cell? ⟨b, 6, none⟩ = some (.int .u8 s.mouse) ∧ w'.cell? ⟨b, 7, none⟩ = some (.string s.ttl) ∧ w'.cell? ⟨b, 8, none⟩ = some (.slice s.T s.m s.q) ∧ w'.cell? ⟨bp, 0, none⟩ = some (.int .i64 s3.c) ∧ w'.cell? ⟨bp, 1, none⟩ = some (.int .i64 s3.r) ∧ w'.cell? ⟨bp, 2, none⟩ = some (.slice s3.A s3.n s3.k) ∧ w'.cell? ⟨bp, 3, none⟩ = some (.int .i64 s3.x) ∧ w'.cell? ⟨bp, 4, none⟩ = some (.int .i64 s3.y) ∧ w'.cell? ⟨bp, 5, none⟩ = some (.bool s3.hid) ∧ w'.cell? ⟨bp, 6, none⟩ = some (.int .u8 s3.mouse) ∧ w'.cell? ⟨bp, 7, none⟩ = some (.string s3.ttl) ∧ w'.cell? ⟨bp, 8, none⟩ = some (.slice s3.T s3.m s3.q))) from fun w' hb => by
  have t0 := sx_cells (H5.out.1.below hb)
  have t1 := sx_cells (H5.out.2.1.below hb)
  exact ⟨hb, t0.c0, t0.c1, t0.c2, t0.c3, t0.c4, t0.c5, t0.c6, t0.c7, t0.c8, t1.c0, t1.c1, t1.c2, t1.c3, t1.c4, t1.c5, t1.c6, t1.c7, t1.c8⟩)
 have P0 := Lib.hid (show ∀ w', Below w5.heap.size w5 w' → Calls Tryd.prog 9 #[] w' fun e w'' => e = .returned (.bool true) ∧ Below w5.heap.size w5 w'' from fun w' hb => (fixedP_any (HT.out _ (HB5.out.trans (hb.mono HB5.out.size))).1 (HT.out _ (HB5.out.trans (hb.mono HB5.out.size))).2).mono fun _ _ h => ⟨h.1, hb.trans (h.2.mono hb.size)⟩)
 have P1 := Lib.hid (show ∀ w', Below w5.heap.size w5 w' → Calls Tryd.prog 13 #[.agg (scrA s), .int .u32 f] w' fun e w'' => Below w5.heap.size w5 w'' ∧ ∃ s', e = .returned (.agg (scrA s')) ∧ ScIn w'' s' (projS f S) ∧ s'.n ≤ 1920 ∧ s'.m ≤ 16 from fun w' hb => by
  refine (rScreen_any ((HI.out.below HB5.out).below hb) HP.out (by have := HN.out; omega) (by have := HN.out; omega) HF.out).mono ?_
  rintro e w'' ⟨h1, s', rfl, h2⟩
  exact ⟨hb.trans (h1.mono hb.size), s', rfl, h2.sc, h2.n, h2.m⟩)
 have P3 := Lib.hid (show ∀ w' s', Below w5.heap.size w5 w' → ScIn w' s' (projS f S) → s'.n ≤ 1920 → s'.m ≤ 16 → Calls Tryd.prog 12 #[.agg (scrA s3), .agg (scrA s')] w' fun e w'' => e = .returned (.bool true) ∧ Below w5.heap.size w5 w'' from fun w' s' hb h1 h2 h3 => (refSameS_any (H5.out.2.2.2.sc.below hb) h1 (by have := H5.out.2.2.2.n; omega) (by omega) (by have := H5.out.2.2.2.m; omega) (by omega)).mono fun _ _ h => ⟨h.1, hb.trans (h.2.mono hb.size)⟩)
 unfold scrA at P1 P3
 refine wp_region_noPanic ?_
 refine wp_region_held_drew (S := fun w' => Below w5.heap.size w5 w' ∧ (w'.cell? ⟨b, 0, none⟩ = some (.int .i64 s.c) ∧ w'.cell? ⟨b, 1, none⟩ = some (.int .i64 s.r) ∧ w'.cell? ⟨b, 2, none⟩ = some (.slice s.A s.n s.k) ∧ w'.cell? ⟨b, 3, none⟩ = some (.int .i64 s.x) ∧ w'.cell? ⟨b, 4, none⟩ = some (.int .i64 s.y) ∧ w'.cell? ⟨b, 5, none⟩ = some (.bool s.hid) ∧ w'.cell? ⟨b, 6, none⟩ = some (.int .u8 s.mouse) ∧ w'.cell? ⟨b, 7, none⟩ = some (.string s.ttl) ∧ w'.cell? ⟨b, 8, none⟩ = some (.slice s.T s.m s.q) ∧ w'.cell? ⟨bp, 0, none⟩ = some (.int .i64 s3.c) ∧ w'.cell? ⟨bp, 1, none⟩ = some (.int .i64 s3.r) ∧ w'.cell? ⟨bp, 2, none⟩ = some (.slice s3.A s3.n s3.k) ∧ w'.cell? ⟨bp, 3, none⟩ = some (.int .i64 s3.x) ∧ w'.cell? ⟨bp, 4, none⟩ = some (.int .i64 s3.y) ∧ w'.cell? ⟨bp, 5, none⟩ = some (.bool s3.hid) ∧ w'.cell? ⟨bp, 6, none⟩ = some (.int .u8 s3.mouse) ∧ w'.cell? ⟨bp, 7, none⟩ = some (.string s3.ttl) ∧ w'.cell? ⟨bp, 8, none⟩ = some (.slice s3.T s3.m s3.q))) (by kernel_rfl) (SX.out _ (Below.refl _ _).drew) (fun hHeld => ?_)
 refine wpAnyH_ready (rs := [0]) (by kernel_rfl) (by simp) (AllReadyH.cons rfl (fun K hK => ?_) AllReadyH.nil)
 rw [if_pos (by rfl)]
 go_simp
 refine (P0.out _ hHeld.1).mono ?_
 rintro e w6 ⟨rfl, hb6⟩
 refine hK.out _ _ (SX.out _ hb6) (fun hHeld => ?_)
 clear hK K
 try simp only [Act.put, List.getElem_toArray, List.getElem_cons_succ, List.getElem_cons_zero]
 try simp only [List.setIfInBounds_toArray]
 try simp only [List.set_cons_succ]
 try simp only [List.set_cons_zero]
 refine wpAnyH_take (i := 1) (v := .bool false) rfl (by kernel_rfl) (by kernel_rfl) (by kernel_rfl) (fun _ _ _ h => h) (Or.inl ⟨by rfl, fun wz hSz => ?_⟩) hHeld ?_
 · go_simp
 simp only [Act.put, List.getElem_toArray, List.getElem_cons_succ, List.getElem_cons_zero]
 try simp only [List.setIfInBounds_toArray]
 try simp only [List.set_cons_succ]
 try simp only [List.set_cons_zero]
 refine wpAnyH_take (i := 2) (v := .bool false) rfl (by kernel_rfl) (by kernel_rfl) (by kernel_rfl) (fun _ _ _ h => h) (Or.inl ⟨by rfl, fun wz hSz => ?_⟩) hHeld ?_
 · go_simp
 simp only [Act.put, List.getElem_toArray, List.getElem_cons_succ, List.getElem_cons_zero]
 try simp only [List.setIfInBounds_toArray]
 try simp only [List.set_cons_succ]
 try simp only [List.set_cons_zero]
 refine wpAnyH_take (i := 3) (v := .agg #[.int .i64 s3.c, .int .i64 s3.r, .slice s3.A s3.n s3.k, .int .i64 s3.x, .int .i64 s3.y, .bool s3.hid, .int .u8 s3.mouse, .string s3.ttl, .slice s3.T s3.m s3.q]) rfl (by kernel_rfl) (by kernel_rfl) (by kernel_rfl) (fun _ _ _ h => h) (Or.inl ⟨by rfl, fun wz hSz => ?_⟩) hHeld ?_
 · obtain ⟨_, e0, e1, e2, e3, e4, e5, e6, e7, e8, e9, e10, e11, e12, e13, e14, e15, e16, e17⟩ := hSz
   go_simp
 simp only [Act.put, List.getElem_toArray, List.getElem_cons_succ, List.getElem_cons_zero]
 try simp only [List.setIfInBounds_toArray]
 try simp only [List.set_cons_succ]
 try simp only [List.set_cons_zero]
 refine wpAnyH_take (i := 4) (v := .agg #[.int .i64 s.c, .int .i64 s.r, .slice s.A s.n s.k, .int .i64 s.x, .int .i64 s.y, .bool s.hid, .int .u8 s.mouse, .string s.ttl, .slice s.T s.m s.q]) rfl (by kernel_rfl) (by kernel_rfl) (by kernel_rfl) (fun _ _ _ h => h) (Or.inl ⟨by rfl, fun wz hSz => ?_⟩) hHeld ?_
 · obtain ⟨_, e0, e1, e2, e3, e4, e5, e6, e7, e8, e9, e10, e11, e12, e13, e14, e15, e16, e17⟩ := hSz
   go_simp
 simp only [Act.put, List.getElem_toArray, List.getElem_cons_succ, List.getElem_cons_zero]
 try simp only [List.setIfInBounds_toArray]
 try simp only [List.set_cons_succ]
 try simp only [List.set_cons_zero]
 refine wpAnyH_take (i := 5) (v := .int .u32 f) rfl (by kernel_rfl) (by kernel_rfl) (by kernel_rfl) (fun _ _ _ h => h) (Or.inl ⟨by rfl, fun wz hSz => ?_⟩) hHeld ?_
 · go_simp
 simp only [Act.put, List.getElem_toArray, List.getElem_cons_succ, List.getElem_cons_zero]
 try simp only [List.setIfInBounds_toArray]
 try simp only [List.set_cons_succ]
 try simp only [List.set_cons_zero]
 refine wpAnyH_ready (rs := [6]) (by kernel_rfl) (by simp) (AllReadyH.cons rfl (fun K hK => ?_) AllReadyH.nil)
 rw [if_pos (by rfl)]
 go_simp
 refine (P1.out _ hHeld.1).mono ?_
 rintro e w8 ⟨hb8, s8, rfl, hS8, hn8, hm8⟩
 have H8 := Lib.hid (And.intro hb8 (And.intro hS8 (And.intro hn8 hm8)))
 refine hK.out _ _ (SX.out _ hb8) (fun hHeld => ?_)
 clear hK K
 try simp only [Act.put, List.getElem_toArray, List.getElem_cons_succ, List.getElem_cons_zero]
 try simp only [List.setIfInBounds_toArray]
 try simp only [List.set_cons_succ]
 try simp only [List.set_cons_zero]
 clear hb8 hS8 hn8 hm8
 refine wpAnyH_ready (rs := [7]) (by kernel_rfl) (by simp) (AllReadyH.cons rfl (fun K hK => ?_) AllReadyH.nil)
 rw [if_pos (by rfl)]
 go_simp
 refine (P3.out _ s8 H8.out.1 H8.out.2.1 H8.out.2.2.1 H8.out.2.2.2).mono ?_
 rintro e w9 ⟨rfl, hb9⟩
 refine hK.out _ _ (SX.out _ hb9) (fun hHeld => ?_)
 clear hK K
 try simp only [Act.put, List.getElem_toArray, List.getElem_cons_succ, List.getElem_cons_zero]
 try simp only [List.setIfInBounds_toArray]
 try simp only [List.set_cons_succ]
 try simp only [List.set_cons_zero]
 have HW := Lib.hid (show Wk w3 w9 bp s3 (projS f S).cells (projS f S).links from ⟨H5.out.2.1.below hb9, H5.out.2.2.2.cx.below hb9, H5.out.2.2.2.tx.below hb9, H5.out.2.2.1.trans (hb9.mono H5.out.2.2.1.size)⟩)
 have HC3 := Lib.hid (And.intro H5.out.2.2.2.n H5.out.2.2.2.m)
 have HSZ := Lib.hid H5.out.2.2.2.sc.sz
 have HLK := Lib.hid H5.out.2.2.2.sc.links.len
 clear hb9 P0 P1 P3 H8 H5 SX HB5
 refine wpAnyH_take (i := 8) (v := .bool false) rfl (by kernel_rfl) (by kernel_rfl) (by kernel_rfl) (fun _ _ _ h => h) (Or.inl ⟨by rfl, fun wz hSz => ?_⟩) hHeld ?_
 · go_simp
 simp only [Act.put, List.getElem_toArray, List.getElem_cons_succ, List.getElem_cons_zero]
 try simp only [List.setIfInBounds_toArray]
 try simp only [List.set_cons_succ]
 try simp only [List.set_cons_zero]
 refine wpAnyH_take (i := 9) (v := .bool false) rfl (by kernel_rfl) (by kernel_rfl) (by kernel_rfl) (fun _ _ _ h => h) (Or.inl ⟨by rfl, fun wz hSz => ?_⟩) hHeld ?_
 · go_simp
 simp only [Act.put, List.getElem_toArray, List.getElem_cons_succ, List.getElem_cons_zero]
 try simp only [List.setIfInBounds_toArray]
 try simp only [List.set_cons_succ]
 try simp only [List.set_cons_zero]
 refine wpAnyH_done (by kernel_rfl) ?_ _
 refine NoPanic.normal ?_
 have hn3 : s3.n ≤ 1920 := HC3.out.1
 have hm3 : s3.m ≤ 16 := HC3.out.2
 go_upto_region 7 with fail
 clear hHeld
 have c2 := (sx_cells HW.out.sx).c2
 go_wp2_with fail
 clear c2
 go_loopw [30] (fun i wr => ∃ (k : Nat) (L : List Ce), k ≤ s3.n ∧ i = .int .i64 k ∧ Wk w3 wr bp s3 L (projS f S).links) (fun i _ => s3.n - (intOf i).toNat)
 case atStart => exact ⟨0, _, Nat.zero_le _, rfl, HW.out⟩
 case round =>
  obtain ⟨k, L, hk, rfl, hX⟩ := hrel
  have Y := Lib.hid hX
  clear hX HW
  by_cases hlt : k < s3.n
  · have hkl : (k : Int) < (s3.n : Int) := by omega
    obtain ⟨g, hA, r0, f0, hWk⟩ := Y.out.cell hlt 0
    have HK := Lib.hid (show ∀ z, ∃ L', Wk w3 (wr.setCell ⟨g, k * 6, none⟩ (.int .i32 z)) bp s3 L' (projS f S).links from fun z => by
     obtain ⟨g', e, _, _, h⟩ := Y.out.cell hlt z
     rw [hA] at e
     injection e with e
     injection e with e
     subst e
     exact ⟨_, h⟩)
    have c2 := (sx_cells Y.out.sx).c2
    rw [hA] at c2
    have HAA := Lib.hid hA
    clear hWk hA
    go_wp2_with fail
    go_roundw
    case rel => exact (HK.out _).elim fun L' h => ⟨k + 1, L', by omega, by go_num, h⟩
    case measure => simp [intOf]; omega
  · have c8 := (sx_cells Y.out.sx).c8
    have HL0 := Lib.hid (show ∃ L', Wk w3 wr bp s3 L' (projS f S).links from ⟨L, Y.out⟩)
    go_wp2_with fail
    clear c8 Y hlt hk
    go_loopw [46] (fun i wr => ∃ (j : Nat) (L : List Ce) (M : List ByteArray), j ≤ s3.m ∧ i = .int .i64 j ∧ Wk w3 wr bp s3 L M ∧ ∀ q, j ≤ q → q < s3.m → sAt M q = sAt (projS f S).links q) (fun i _ => s3.m - (intOf i).toNat)
    case atStart => exact HL0.out.elim fun L' h => ⟨0, L', _, Nat.zero_le _, rfl, h, fun _ _ _ => rfl⟩
    case round =>
     obtain ⟨j, L, M, hj, rfl, hX, hM⟩ := hrel
     have Y := Lib.hid (And.intro hX hM)
     clear hX HL0 hM
     by_cases hlt : j < s3.m
     · have hkl : (j : Int) < (s3.m : Int) := by omega
       obtain ⟨g, hA, r0, f0, hne, _⟩ := Y.out.1.link hlt eT
       have HLM := Lib.hid Y.out.1.tx.len
       have HK := Lib.hid (show ∀ u, Wk w3 ((wr.drew).setCell ⟨g, j, none⟩ (.string u)) bp s3 L (M.set j u) from fun u => by
        obtain ⟨g', e, _, _, _, h⟩ := (Y.out.1.on (Below.refl _ _).drew).link hlt u
        rw [hA] at e
        injection e with e
        injection e with e
        subst e
        exact h)
       have c8 := (sx_cells Y.out.1.sx).c8
       rw [hA] at c8
       clear hA
       obtain ⟨x, hx⟩ : ∃ x, x = sAt M j := ⟨_, rfl⟩
       rw [← hx] at r0
       have hxs : ¬ 9223372036854775807 < x.size + 1 := by
        have hm : (projS f S).links.length = s3.m := HLK.out
        have := HSZ.out (sAt (projS f S).links j) (sAt_mem (by omega))
        rw [← Y.out.2 j (Nat.le_refl _) hlt, ← hx] at this
        omega
       clear hx
       go_upto_region 15 with fail
       have r1 : wr.drew.cell? ⟨g, j, none⟩ = some (.string x) := r0
       have f1 : wr.drew.frozen? ⟨g, j, none⟩ = false := f0
       have SX := Lib.hid (show ∀ z, (wr.drew.setCell ⟨g, j, none⟩ z).cell? ⟨bp, 8, none⟩ = some (.slice (some ⟨g, 0, none⟩) s3.m s3.q) from fun z => by
        rw [World.cell?_setCell_far _ _ _ _ (by intro e; exact hne e.symm)]
        exact c8)
       have hst : wr.drew.cell? ⟨bp, 8, none⟩ = some (.slice (some ⟨g, 0, none⟩) s3.m s3.q) := c8
       clear r0 f0 c8
       refine wp_region_noPanic ?_
       refine wp_region_held_drew (S := fun w' => w'.cell? ⟨bp, 8, none⟩ = some (.slice (some ⟨g, 0, none⟩) s3.m s3.q)) (by kernel_rfl) hst (fun hHeld => ?_)
       refine wpAnyH_take (i := 0) (v := .pointer (some ⟨bp, 8, none⟩)) rfl (by kernel_rfl) (by kernel_rfl) (by kernel_rfl) (fun _ _ _ h => h) (Or.inl ⟨by rfl, fun wz hSz => ?_⟩) hHeld ?_
       · go_simp
       simp only [Act.put, List.getElem_toArray, List.getElem_cons_zero]
       try simp only [List.setIfInBounds_toArray]
       try simp only [List.set_cons_succ]
       try simp only [List.set_cons_zero]
       refine wpAnyH_take (i := 1) (v := .slice (some ⟨g, 0, none⟩) s3.m s3.q) rfl (by kernel_rfl) (by kernel_rfl) (by kernel_rfl) (fun _ _ _ h => h) (Or.inl ⟨by rfl, fun wz hSz => ?_⟩) hHeld ?_
       · go_simp
       simp only [Act.put, List.getElem_toArray, List.getElem_cons_succ, List.getElem_cons_zero]
       try simp only [List.setIfInBounds_toArray]
       try simp only [List.set_cons_succ]
       try simp only [List.set_cons_zero]
       refine wpAnyH_take (i := 2) (v := .int .i64 j) rfl (by kernel_rfl) (by kernel_rfl) (by kernel_rfl) (fun _ _ _ h => h) (Or.inl ⟨by rfl, fun wz hSz => ?_⟩) hHeld ?_
       · go_simp
       simp only [Act.put, List.getElem_toArray, List.getElem_cons_succ, List.getElem_cons_zero]
       try simp only [List.setIfInBounds_toArray]
       try simp only [List.set_cons_succ]
       try simp only [List.set_cons_zero]
       refine wpAnyH_take (i := 3) (v := .pointer (some ⟨bp, 8, none⟩)) rfl (by kernel_rfl) (by kernel_rfl) (by kernel_rfl) (fun _ _ _ h => h) (Or.inl ⟨by rfl, fun wz hSz => ?_⟩) hHeld ?_
       · go_simp
       simp only [Act.put, List.getElem_toArray, List.getElem_cons_succ, List.getElem_cons_zero]
       try simp only [List.setIfInBounds_toArray]
       try simp only [List.set_cons_succ]
       try simp only [List.set_cons_zero]
       refine wpAnyH_take (i := 4) (v := .slice (some ⟨g, 0, none⟩) s3.m s3.q) rfl (by kernel_rfl) (by kernel_rfl) (by kernel_rfl) (fun _ _ _ h => h) (Or.inl ⟨by rfl, fun wz hSz => ?_⟩) hHeld ?_
       · go_simp
       simp only [Act.put, List.getElem_toArray, List.getElem_cons_succ, List.getElem_cons_zero]
       try simp only [List.setIfInBounds_toArray]
       try simp only [List.set_cons_succ]
       try simp only [List.set_cons_zero]
       refine wpAnyH_take (i := 5) (v := .int .i64 j) rfl (by kernel_rfl) (by kernel_rfl) (by kernel_rfl) (fun _ _ _ h => h) (Or.inl ⟨by rfl, fun wz hSz => ?_⟩) hHeld ?_
       · go_simp
       simp only [Act.put, List.getElem_toArray, List.getElem_cons_succ, List.getElem_cons_zero]
       try simp only [List.setIfInBounds_toArray]
       try simp only [List.set_cons_succ]
       try simp only [List.set_cons_zero]
       refine wpAnyH_take (i := 6) (v := .pointer (some ⟨g, j, none⟩)) rfl (by kernel_rfl) (by kernel_rfl) (by kernel_rfl) (fun _ _ _ h => h) (Or.inl ⟨by rfl, fun wz hSz => ?_⟩) hHeld ?_
       · go_simp
       simp only [Act.put, List.getElem_toArray, List.getElem_cons_succ, List.getElem_cons_zero]
       try simp only [List.setIfInBounds_toArray]
       try simp only [List.set_cons_succ]
       try simp only [List.set_cons_zero]
       refine wpAnyH_ready (rs := [7]) (by kernel_rfl) (by simp) (AllReadyH.cons rfl (fun K hK => ?_) AllReadyH.nil)
       rw [if_pos (by rfl)]
       go_simp
       refine hK.out _ _ (hst) (fun hHeld => ?_)
       clear hK K
       try simp only [Act.put, List.getElem_toArray, List.getElem_cons_succ, List.getElem_cons_zero]
       try simp only [List.setIfInBounds_toArray]
       try simp only [List.set_cons_succ]
       try simp only [List.set_cons_zero]
       refine wpAnyH_take (i := 8) (v := .string (x ++ ⟨#[120]⟩)) rfl (by kernel_rfl) (by kernel_rfl) (by kernel_rfl) (fun _ _ _ h => h) (Or.inl ⟨by rfl, fun wz hSz => ?_⟩) hHeld ?_
       · go_simp
       simp only [Act.put, List.getElem_toArray, List.getElem_cons_succ, List.getElem_cons_zero]
       try simp only [List.setIfInBounds_toArray]
       try simp only [List.set_cons_succ]
       try simp only [List.set_cons_zero]
       refine wpAnyH_take (i := 9) (v := .pointer (some ⟨g, j, none⟩)) rfl (by kernel_rfl) (by kernel_rfl) (by kernel_rfl) (fun _ _ _ h => h) (Or.inl ⟨by rfl, fun wz hSz => ?_⟩) hHeld ?_
       · go_simp
       simp only [Act.put, List.getElem_toArray, List.getElem_cons_succ, List.getElem_cons_zero]
       try simp only [List.setIfInBounds_toArray]
       try simp only [List.set_cons_succ]
       try simp only [List.set_cons_zero]
       refine wpAnyH_ready (rs := [10]) (by kernel_rfl) (by simp) (AllReadyH.cons rfl (fun K hK => ?_) AllReadyH.nil)
       rw [if_pos (by rfl)]
       go_simp
       refine hK.out _ _ (SX.out _) (fun hHeld => ?_)
       clear hK K
       try simp only [Act.put, List.getElem_toArray, List.getElem_cons_succ, List.getElem_cons_zero]
       try simp only [List.setIfInBounds_toArray]
       try simp only [List.set_cons_succ]
       try simp only [List.set_cons_zero]
       refine wpAnyH_done (by kernel_rfl) ?_ _
       refine NoPanic.normal ?_
       have HK2 := Lib.hid (show Wk w3 (wr.setCell ⟨g, j, none⟩ (.string (x ++ (⟨#[120]⟩ : ByteArray)))).drew bp s3 L (M.set j (x ++ (⟨#[120]⟩ : ByteArray))) from by have := HK.out (x ++ (⟨#[120]⟩ : ByteArray)); exact this)
       clear hHeld r1 f1 hst SX hxs
       go_wp2_with fail
       go_roundw
       case rel => exact ⟨j + 1, L, M.set j (x ++ (⟨#[120]⟩ : ByteArray)), by omega, by go_num, HK2.out, fun q hq hq2 => by rw [← Y.out.2 q (by omega) hq2, sAt_set (by rw [HLM.out]; exact hq2), if_neg (by omega)]⟩
       case measure => simp [intOf]; omega
     · have X2 := Lib.hid (show Sx wr bw s2 ∧ Sx wr b s ∧ Below w.heap.size w wr ∧ ScIn wr s2 S from ⟨H3.out.2.1.below Y.out.1.bel, H3.out.1.below Y.out.1.bel, H3.out.2.2.1.trans (Y.out.1.bel.mono H3.out.2.2.1.size), H3.out.2.2.2.1.below Y.out.1.bel⟩)
       have PZ := Lib.hid (refSameS_any X2.out.2.2.2 (HI.out.below X2.out.2.2.1) (by have := HN.out; have := H3.out.2.2.2.2.1; omega) (by have := HN.out; omega) (by have := HN.out; have := H3.out.2.2.2.2.2; omega) (by have := HN.out; omega))
       obtain ⟨a0, a1, a2, a3, a4, a5, a6, a7, a8, _⟩ := sx_cells X2.out.1
       obtain ⟨d0, d1, d2, d3, d4, d5, d6, d7, d8, _⟩ := sx_cells X2.out.2.1
       unfold scrA at PZ
       go_wp2_with fail
       refine PZ.out.mono ?_
       rintro e w12 ⟨rfl, hb12⟩
       have HZ := Lib.hid (X2.out.2.2.1.trans (hb12.mono X2.out.2.2.1.size))
       clear hb12
       go_wp2_with fail
       go_ret
       exact ⟨rfl, HZ.out⟩
set_option maxRecDepth 100000 in
theorem lifted (os : Os) (started : os.Started) (H : Type) (enc : TypeId × Value → H) :
  ReturnsInHanded {} Tryd.checked os 3 .any (fun w args => (Rows.projectShowsSpec.pre enc Tryd.prog Tryd.f3 [] false w args ∧ laidMetH Tryd.prog laidL w) ∧ sizedMet enc Tryd.prog Tryd.f3 (OpenSpec.ofChange Rows.projectShowsSpec) false w args)
   (Rows.projectShowsSpec.post enc Tryd.prog Tryd.f3 false true false false) := by
 refine returnsInHanded_of_change_and (C := Tryd.checked) (X := fun w _ => laidMetH Tryd.prog laidL w) (fun _ _ _ hh h => h.of_heap hh) own started (by kernel_rfl) Tryd.func3
  (ChangeSpec.witness_shaped (enc := enc) (C := Tryd.checked) (os := os) (X := fun w _ => laidMetH Tryd.prog laidL w) false (World.laidAll Tryd.prog os laidL) #[.agg (scrA scN), .int .u32 0] 8 (World.laidAll_os _ _ _) (start_shaped os) (by kernel_rfl) (by kernel_rfl) (by kernel_rfl) (start_met os _)) ?_
 intro W base args ds gs before hval0 hW _ hsz0 hL _
 have hsz : (DataW.weightsEach Tryd.prog (Tryd.f3.params.toList ++ Rows.projectShowsSpec.plain.varTypes Tryd.prog) (ds ++ gs)).all (· ≤ reachBytes) = true := hsz0
 clear hsz0
 have hval : ∀ (j : Nat) t v, Tryd.f3.params[j]? = some t → args[j]? = some v → Value.okWide Tryd.prog W .any base t v := hval0
 have hW' := hW
 obtain ⟨p, q, hA0, hV, rfl, _, _⟩ := hW
 have hA : DataW.TrodAll enc Tryd.prog W 0 (fun _ => true) true Tryd.f3.params.toList args.toList ds p := hA0
 rw [Tryd.params3] at hA hval hsz
 obtain ⟨v0, vs0, d0, ds0, p0, q0, hargs, rfl, rfl, h0, r0⟩ := trodAll_cons hA
 obtain ⟨v1, vs1, d1, ds1, p1, q1, rfl, rfl, rfl, h1, r1⟩ := trodAll_cons r0
 obtain ⟨rfl, rfl, rfl⟩ := trodAll_nil r1
 obtain rfl : args = #[v0, v1] := by cases args; simp_all
 obtain ⟨rfl, rfl⟩ := trodVars_none hV
 have lt0 : ∀ x ∈ p0, x.block < W.heap.size := by obtain ⟨m, hm⟩ := h0; exact DataW.trod_lt m _ _ _ hm
 obtain ⟨s0, S0, rfl, s0⟩ := open_screenP (weights_at hsz (j := 0) rfl rfl) (hval 0 25 v0 rfl rfl) h0
 have lt1 : ∀ x ∈ p1, x.block < W.heap.size := by obtain ⟨m, hm⟩ := h1; exact DataW.trod_lt m _ _ _ hm
 obtain ⟨k1, rfl, s1⟩ := open_u32h (hval 1 26 v1 rfl rfl) h1
 clear hA0 hval0
 refine (walk W (both_of_laid hL) s0 s1).mono fun e W' ⟨he, bel⟩ => ?_
 subst he
 exact ⟨_, rfl, _, _, _, [], _, [], hW', trodAll_mk1 (shut_bool Tryd.underlying4 _), (trodAll_cons_mk (Below.trod laidOut (by kernel_rfl) (of_decide_eq_true (by kernel_rfl)) h0 bel lt0) (trodAll_cons_mk (Below.trod laidOut (by kernel_rfl) (of_decide_eq_true (by kernel_rfl)) h1 bel lt1) trodAll_mk0)), rfl, bel.frame _, fun h => by cases h⟩
theorem over : Rows.projectShowsRow.holds Tryd.pinned (OpenSpec.ofChange Rows.projectShowsSpec) :=
 OpenClaim.holds_of_wide 3 Tryd.f3 rfl rfl rfl rfl rfl rfl rfl ⟨rfl, rfl, rfl, rfl, rfl⟩ rfl rfl rfl rfl rfl (by kernel_rfl) Tryd.func3 (by kernel_rfl)
  (of_decide_eq_true (by kernel_rfl)) (by unfold Func.isWrapper; first | (rw [if_pos (by decide +kernel)]; kernel_rfl) | (rw [if_neg (by decide +kernel)]; exact ⟨rfl, rfl⟩))
  (fun os started H enc _ => lifted os started H enc)
theorem proved : Rows.ProjectShowsCardSaid :=
 Claim7.holds_tied_plain_at .later [] [.data, .data, .data, .data, .pinned] true Rows.projectShowsCard.stood.harness false
  over (fun _ h => by cases h) (by kernel_rfl) (fun _ h => by cases h) projectShows_row_tie rfl ⟨rfl, rfl⟩ (by kernel_rfl) rfl
  (fun f fn hf hfn => by
   obtain rfl : f = 3 := Option.some.inj ((show Tryd.prog.funcNamed "spyglass/spyglasslaw15.ProjectShows" = some 3 by kernel_rfl).symm.trans hf) |>.symm
   obtain rfl : fn = Tryd.f3 := (Option.some.inj (Tryd.func3.symm.trans hfn)).symm
   exact ⟨by kernel_rfl, fun j t ht => by
    rw [Tryd.params3] at ht
    have hm : t ∈ [25, 26] := by simpa using Array.mem_of_getElem? ht
    have hall : ([25, 26].all fun u => !Tryd.prog.wantsStandIn u) = true := by kernel_rfl
    exact (show Tryd.prog.wantsStandIn t = false by simpa using List.all_eq_true.1 hall t hm)⟩)
  (by kernel_rfl)
end Go.Proofs.YtojchkhnalnncaaDoor.projectShows
