/-
  Proved: ProjectPlain answers true for every screen and all features, over the tables that the library and the program lay (a tied card).
-/
import Derived.Test.YtojchkhnalnncaaDoorCards
import Derived.Test.YtojchkhnalnncaaDoorTie
import Derived.SevenTiedAt
import Derived.WalkKit
import Derived.Deep.RegionHeld3
import Derived.Test.YtojchkhnalnncaaDoorPj01
import Derived.Test.YtojchkhnalnncaaDoorPj27
namespace Go.Proofs.YtojchkhnalnncaaDoor.projectPlain
open Go.ChangeShapes Go.WideShapes Go.ChangeAt Go.RowKit
set_option maxHeartbeats 6400000 in
set_option maxRecDepth 100000 in
theorem walk {s : ScR} {S : Sc} {f : Int} (w : World) (hT : Tabs w ∧ CTabs w) (h : ScIn w s S ∧ PosC S.cells) (hf : 0 ≤ f ∧ f ≤ 4294967295) :
  Calls Tryd.prog 6 #[.agg (scrA s), .int .u32 f] w fun e w' => e = .returned (.bool true) ∧ Below w.heap.size w w' := by
 have HT := Lib.hid (fun w' (hb' : Below w.heap.size w w') => And.intro (hT.1.below hb' (Nat.le_refl _)) (hT.2.below hb' (Nat.le_refl _)))
 have HF := Lib.hid (show 0 ≤ f ∧ f < 4294967296 from ⟨hf.1, by omega⟩)
 have HI := Lib.hid h.1
 have HP := Lib.hid h.2
 obtain ⟨b, hb⟩ : ∃ b, b = w.heap.size := ⟨_, rfl⟩
 obtain ⟨w1, hw1⟩ : ∃ w1, w1 = w.alloc (.cells (scrA s) 25) := ⟨_, rfl⟩
 have H1 := Lib.hid (show Sx w1 b s ∧ Below w.heap.size w w1 from by
  rw [hw1, hb]
  exact ⟨Sx.new w s, (Below.refl _ _).alloc (Nat.le_refl _) _⟩)
 obtain ⟨G, hG⟩ : ∃ G, greatS s = G := ⟨_, rfl⟩
 have PG := Lib.hid (greatP_any s w1)
 rw [hG] at PG
 have HG := Lib.hid hG
 clear h hT hf hG
 obtain ⟨a0, a1, a2, a3, a4, a5, a6, a7, a8, _⟩ := sx_cells H1.out.1
 unfold scrA at hw1 PG ⊢
 go_enter Tryd.func6, Tryd.ntmps6
 go_upto_region 1 with fail
 rw [← hw1, ← hb]
 clear hw1 hb
 go_wp2_with fail
 refine PG.out.mono ?_
 rintro e w2 ⟨rfl, hb2⟩
 have H2 := Lib.hid (show Sx w2 b s ∧ Below w.heap.size w w2 from ⟨H1.out.1.below hb2, H1.out.2.trans (hb2.mono H1.out.2.size)⟩)
 clear hb2 H1 PG a0 a1 a2 a3 a4 a5 a6 a7 a8
 cases G
 rotate_left
 · go_wp2_with fail
   refine (fixedP_any (HT.out _ H2.out.2).1 (HT.out _ H2.out.2).2).mono ?_
   rintro e w9 ⟨rfl, hb9⟩
   have Z9 := Lib.hid (Below.trans H2.out.2 (hb9.mono (Below.size H2.out.2)))
   clear hb9
   go_wp2_with fail
   go_ret
   exact ⟨rfl, Z9.out⟩
 have HN := Lib.hid (great_no HG.out)
 clear HG
 obtain ⟨a0, a1, a2, a3, a4, a5, a6, a7, a8, _⟩ := sx_cells H2.out.1
 have PR := Lib.hid (refRightS_any (HI.out.below H2.out.2) (by have := HN.out; omega) (by have := HN.out; omega))
 unfold scrA at PR
 go_wp2_with fail
 refine PR.out.mono ?_
 rintro e w3 ⟨rfl, hb3⟩
 have H3 := Lib.hid (show Sx w3 b s ∧ Below w.heap.size w w3 from ⟨H2.out.1.below hb3, H2.out.2.trans (hb3.mono H2.out.2.size)⟩)
 clear hb3 H2 PR a0 a1 a2 a3 a4 a5 a6 a7 a8
 obtain ⟨a0, a1, a2, a3, a4, a5, a6, a7, a8, _⟩ := sx_cells H3.out.1
 cases hR : rightSc S
 · clear hR
   go_wp2_with fail
   refine (fixedP_any (HT.out _ H3.out.2).1 (HT.out _ H3.out.2).2).mono ?_
   rintro e w9 ⟨rfl, hb9⟩
   have Z9 := Lib.hid (Below.trans H3.out.2 (hb9.mono (Below.size H3.out.2)))
   clear hb9
   go_wp2_with fail
   go_ret
   exact ⟨rfl, Z9.out⟩
 have HR := Lib.hid hR
 clear hR
 by_cases hm : 0 < s.m
 · go_wp2_with fail
   refine (fixedP_any (HT.out _ H3.out.2).1 (HT.out _ H3.out.2).2).mono ?_
   rintro e w9 ⟨rfl, hb9⟩
   have Z9 := Lib.hid (Below.trans H3.out.2 (hb9.mono (Below.size H3.out.2)))
   clear hb9
   go_wp2_with fail
   go_ret
   exact ⟨rfl, Z9.out⟩
 have HM := Lib.hid (show s.m = 0 by omega)
 have hm0 : ¬ (0 : Int) < (s.m : Int) := by omega
 clear hm
 by_cases ht : s.ttl = eT
 rotate_left
 · have he := emp_no ht
   go_wp2_with fail
   refine (fixedP_any (HT.out _ H3.out.2).1 (HT.out _ H3.out.2).2).mono ?_
   rintro e w9 ⟨rfl, hb9⟩
   have Z9 := Lib.hid (Below.trans H3.out.2 (hb9.mono (Below.size H3.out.2)))
   clear hb9
   go_wp2_with fail
   go_ret
   exact ⟨rfl, Z9.out⟩
 have HTT := Lib.hid ht
 have he := emp_yes ht
 clear ht
 by_cases ho : s.mouse = 0
 rotate_left
 · have ho2 : (s.mouse != 0) = true := by simpa using ho
   go_wp2_with fail
   refine (fixedP_any (HT.out _ H3.out.2).1 (HT.out _ H3.out.2).2).mono ?_
   rintro e w9 ⟨rfl, hb9⟩
   have Z9 := Lib.hid (Below.trans H3.out.2 (hb9.mono (Below.size H3.out.2)))
   clear hb9
   go_wp2_with fail
   go_ret
   exact ⟨rfl, Z9.out⟩
 have HO := Lib.hid ho
 have ho2 : (s.mouse != 0) = false := by simpa using ho
 clear ho
 have hn3 : s.n ≤ 3000 := HN.out.1
 go_wp2_with fail
 rename s.m = 0 => hq0
 clear a0 a1 a2 a3 a4 a5 a6 a7 a8 he ho2 hq0
 try clear hm0
 go_loopw [34] (fun i wr => ∃ k : Nat, k ≤ s.n ∧ i = .int .i64 k ∧ Sx wr b s ∧ Below w.heap.size w wr ∧ ∀ c ∈ S.cells.take k, c.wd = 0 ∧ c.p.fg ≤ 16 ∧ c.p.bg ≤ 16) (fun i _ => s.n - (intOf i).toNat)
 case atStart => exact ⟨0, Nat.zero_le _, rfl, H3.out.1, H3.out.2, fun c hc => by cases hc⟩
 case round =>
  obtain ⟨k, hk, rfl, hx, hbw, hpl⟩ := hrel
  have Y := Lib.hid (And.intro hx (And.intro hbw hpl))
  clear hx hbw hpl H3
  by_cases hlt : k < s.n
  · have hkl : (k : Int) < (s.n : Int) := by omega
    have HKS := Lib.hid (show k < S.cells.length from by rw [HI.out.cells.len]; exact hlt)
    obtain ⟨ad, had⟩ := HI.out.cells.addr (by omega)
    obtain ⟨x, hx⟩ : ∃ x, x = cAt S.cells k := ⟨_, rfl⟩
    have hv := HI.out.cells.below Y.out.2.1
    rw [had] at hv
    have hsx := hv.six hlt
    rw [← hx] at hsx
    obtain ⟨d0, d1, d2, d3, d4, d5⟩ := hsx
    have HX := Lib.hid hx
    clear hv hx
    obtain ⟨cb, hcb⟩ : ∃ cb, cb = wr.heap.size := ⟨_, rfl⟩
    obtain ⟨w4, hw4⟩ : ∃ w4, w4 = wr.alloc (.cells (ceA x) 37) := ⟨_, rfl⟩
    have H4 := Lib.hid (show Sx w4 b s ∧ Below w.heap.size w w4 ∧ Cb w4 cb x from by
     rw [hw4, hcb]
     exact ⟨Y.out.1.below ((Below.refl _ _).alloc (Nat.le_refl _) _), Y.out.2.1.alloc Y.out.2.1.size _, Cb.new wr x⟩)
    unfold ceA at hw4
    rw [had]
    go_upto_region 6 with fail
    rw [← hw4, ← hcb]
    clear hw4 hcb d0 d1 d2 d3 d4 d5 had
    obtain ⟨d0, d1, d2, d3, d4, d5⟩ := H4.out.2.2.all
    by_cases h1 : x.wd = 0
    rotate_left
    · have h1b : (x.wd != 0) = true := by simpa using h1
      go_wp2_with fail
      refine (fixedP_any (HT.out _ H4.out.2.1).1 (HT.out _ H4.out.2.1).2).mono ?_
      rintro e w9 ⟨rfl, hb9⟩
      have Z9 := Lib.hid (Below.trans H4.out.2.1 (hb9.mono (Below.size H4.out.2.1)))
      clear hb9
      go_wp2_with fail
      go_ret
      exact ⟨rfl, Z9.out⟩
    have h1b : (x.wd != 0) = false := by simpa using h1
    by_cases h2 : x.p.fg ≤ 16
    rotate_left
    · have h2b : (16 : Int) < x.p.fg := by omega
      clear h1
      go_wp2_with fail
      refine (fixedP_any (HT.out _ H4.out.2.1).1 (HT.out _ H4.out.2.1).2).mono ?_
      rintro e w9 ⟨rfl, hb9⟩
      have Z9 := Lib.hid (Below.trans H4.out.2.1 (hb9.mono (Below.size H4.out.2.1)))
      clear hb9
      go_wp2_with fail
      go_ret
      exact ⟨rfl, Z9.out⟩
    have h2b : ¬ (16 : Int) < x.p.fg := by omega
    by_cases h3 : x.p.bg ≤ 16
    rotate_left
    · have h3b : (16 : Int) < x.p.bg := by omega
      clear h1 h2
      go_wp2_with fail
      refine (fixedP_any (HT.out _ H4.out.2.1).1 (HT.out _ H4.out.2.1).2).mono ?_
      rintro e w9 ⟨rfl, hb9⟩
      have Z9 := Lib.hid (Below.trans H4.out.2.1 (hb9.mono (Below.size H4.out.2.1)))
      clear hb9
      go_wp2_with fail
      go_ret
      exact ⟨rfl, Z9.out⟩
    have h3b : ¬ (16 : Int) < x.p.bg := by omega
    have HPL := Lib.hid (show ∀ c ∈ S.cells.take (k + 1), c.wd = 0 ∧ c.p.fg ≤ 16 ∧ c.p.bg ≤ 16 from fun c hc => by
     rw [List.take_add_one, getElem?_cAt HKS.out] at hc
     rcases List.mem_append.1 hc with hc | hc
     · exact Y.out.2.2 c hc
     · obtain rfl : c = cAt S.cells k := by simpa using hc
       rw [← HX.out]
       exact ⟨h1, h2, h3⟩)
    clear h1 h2 h3
    go_wp2_with fail
    go_roundw
    case rel => exact ⟨k + 1, by omega, by go_num, H4.out.1, H4.out.2.1, HPL.out⟩
    case measure => simp [intOf]; omega
  · have e : k = s.n := by omega
    subst e
    have HPL := Lib.hid (show ∀ c ∈ S.cells, c.wd = 0 ∧ c.p.fg ≤ 16 ∧ c.p.bg ≤ 16 from by
     have := Y.out.2.2
     rw [List.take_of_length_le (by rw [HI.out.cells.len]; exact Nat.le_refl _)] at this
     exact this)
    have HPJ := Lib.hid (show projS f S = S from proj_plain HR.out (List.eq_nil_of_length_eq_zero (by rw [HI.out.links.len]; exact HM.out)) (by rw [HI.out.ttl, HTT.out]; rfl) (by rw [HI.out.mouse]; exact HO.out) HPL.out)
    clear HPL hlt
    go_upto_region 9 with fail
    have SX := Lib.hid (show ∀ w', Below wr.heap.size wr w' → (Below wr.heap.size wr w' ∧ (w'.cell? ⟨b, 0, none⟩ = some (.int .i64 s.c) ∧ w'.cell? ⟨b, 1, none⟩ = some (.int .i64 s.r) ∧ w'.cell? ⟨b, 2, none⟩ = some (.slice s.A s.n s.k) ∧ w'.cell? ⟨b, 3, none⟩ = some (.int .i64 s.x) ∧ w'.cell? ⟨b, 4, none⟩ = some (.int .i64 s.y) ∧ w'.cell? ⟨b, 5, none⟩ = some (.bool s.hid) ∧ w'.cell? ⟨b, 6, none⟩ = some (.int .u8 s.mouse) ∧ w'.cell? ⟨b, 7, none⟩ = some (.string s.ttl) ∧ w'.cell? ⟨b, 8, none⟩ = some (.slice s.T s.m s.q))) from fun w' hb => by
     have t0 := sx_cells (Y.out.1.below hb)
     exact ⟨hb, t0.c0, t0.c1, t0.c2, t0.c3, t0.c4, t0.c5, t0.c6, t0.c7, t0.c8⟩)
    have P0 := Lib.hid (show ∀ w', Below wr.heap.size wr w' → Calls Tryd.prog 9 #[] w' fun e w'' => e = .returned (.bool true) ∧ Below wr.heap.size wr w'' from fun w' hb => (fixedP_any (HT.out _ (Y.out.2.1.trans (hb.mono Y.out.2.1.size))).1 (HT.out _ (Y.out.2.1.trans (hb.mono Y.out.2.1.size))).2).mono fun _ _ h => ⟨h.1, hb.trans (h.2.mono hb.size)⟩)
    have P1 := Lib.hid (show ∀ w', Below wr.heap.size wr w' → Calls Tryd.prog 11 #[.agg (scrA s), .int .u32 f] w' fun e w'' => Below wr.heap.size wr w'' ∧ ∃ s', e = .returned (.agg (scrA s')) ∧ ScIn w'' s' (S) ∧ s'.n ≤ 1920 ∧ s'.m ≤ 16 from fun w' hb => by
     refine (pScreen_any (HT.out _ (Y.out.2.1.trans (hb.mono Y.out.2.1.size))).1 (HT.out _ (Y.out.2.1.trans (hb.mono Y.out.2.1.size))).2 ((HI.out.below Y.out.2.1).below hb) HP.out (by have := HN.out; omega) (by have := HN.out; omega) HF.out).mono ?_
     rintro e w'' ⟨h1, s', rfl, h2⟩
     rw [HPJ.out] at h2
     exact ⟨hb.trans (h1.mono hb.size), s', rfl, h2.sc, h2.n, h2.m⟩)
    have P3 := Lib.hid (show ∀ w' s', Below wr.heap.size wr w' → ScIn w' s' S → s'.n ≤ 1920 → s'.m ≤ 16 → Calls Tryd.prog 12 #[.agg (scrA s'), .agg (scrA s)] w' fun e w'' => e = .returned (.bool true) ∧ Below wr.heap.size wr w'' from fun w' s' hb h1 h2 h3 => (refSameS_any h1 ((HI.out.below Y.out.2.1).below hb) (by omega) (by have := HN.out; omega) (by omega) (by have := HN.out; omega)).mono fun _ _ h => ⟨h.1, hb.trans (h.2.mono hb.size)⟩)
    unfold scrA at P1 P3
    have hb0 : Below wr.heap.size wr wr := Below.refl _ _
    refine wp_region_noPanic ?_
    refine wp_region_held_drew (S := fun w' => Below wr.heap.size wr w' ∧ (w'.cell? ⟨b, 0, none⟩ = some (.int .i64 s.c) ∧ w'.cell? ⟨b, 1, none⟩ = some (.int .i64 s.r) ∧ w'.cell? ⟨b, 2, none⟩ = some (.slice s.A s.n s.k) ∧ w'.cell? ⟨b, 3, none⟩ = some (.int .i64 s.x) ∧ w'.cell? ⟨b, 4, none⟩ = some (.int .i64 s.y) ∧ w'.cell? ⟨b, 5, none⟩ = some (.bool s.hid) ∧ w'.cell? ⟨b, 6, none⟩ = some (.int .u8 s.mouse) ∧ w'.cell? ⟨b, 7, none⟩ = some (.string s.ttl) ∧ w'.cell? ⟨b, 8, none⟩ = some (.slice s.T s.m s.q))) (by kernel_rfl) (SX.out _ (Below.refl _ _).drew) (fun hHeld => ?_)
    refine wpAnyH_ready (rs := [0]) (by kernel_rfl) (by simp) (AllReadyH.cons rfl (fun K hK => ?_) AllReadyH.nil)
    rw [if_pos (by rfl)]
    go_simp
    refine (P0.out _ hHeld.1).mono ?_
    rintro e w5 ⟨rfl, hb5⟩
    refine hK.out _ _ (SX.out _ hb5) (fun hHeld => ?_)
    clear hK K
    try simp only [Act.put, List.getElem_toArray, List.getElem_cons_succ, List.getElem_cons_zero]
    try simp only [List.setIfInBounds_toArray]
    try simp only [List.set_cons_succ]
    try simp only [List.set_cons_zero]
    refine wpAnyH_take (i := 1) (v := .bool true) rfl (by kernel_rfl) (by kernel_rfl) (by kernel_rfl) (fun _ _ _ h => h) (Or.inl ⟨by rfl, fun wz hSz => ?_⟩) hHeld ?_
    · go_simp
    simp only [Act.put, List.getElem_toArray, List.getElem_cons_succ, List.getElem_cons_zero]
    try simp only [List.setIfInBounds_toArray]
    try simp only [List.set_cons_succ]
    try simp only [List.set_cons_zero]
    refine wpAnyH_take (i := 2) (v := .agg #[.int .i64 s.c, .int .i64 s.r, .slice s.A s.n s.k, .int .i64 s.x, .int .i64 s.y, .bool s.hid, .int .u8 s.mouse, .string s.ttl, .slice s.T s.m s.q]) rfl (by kernel_rfl) (by kernel_rfl) (by kernel_rfl) (fun _ _ _ h => h) (Or.inl ⟨by rfl, fun wz hSz => ?_⟩) hHeld ?_
    · obtain ⟨_, e0, e1, e2, e3, e4, e5, e6, e7, e8⟩ := hSz
      go_simp
    simp only [Act.put, List.getElem_toArray, List.getElem_cons_succ, List.getElem_cons_zero]
    try simp only [List.setIfInBounds_toArray]
    try simp only [List.set_cons_succ]
    try simp only [List.set_cons_zero]
    refine wpAnyH_take (i := 3) (v := .int .u32 f) rfl (by kernel_rfl) (by kernel_rfl) (by kernel_rfl) (fun _ _ _ h => h) (Or.inl ⟨by rfl, fun wz hSz => ?_⟩) hHeld ?_
    · go_simp
    simp only [Act.put, List.getElem_toArray, List.getElem_cons_succ, List.getElem_cons_zero]
    try simp only [List.setIfInBounds_toArray]
    try simp only [List.set_cons_succ]
    try simp only [List.set_cons_zero]
    refine wpAnyH_take (i := 5) (v := .agg #[.int .i64 s.c, .int .i64 s.r, .slice s.A s.n s.k, .int .i64 s.x, .int .i64 s.y, .bool s.hid, .int .u8 s.mouse, .string s.ttl, .slice s.T s.m s.q]) rfl (by kernel_rfl) (by kernel_rfl) (by kernel_rfl) (fun _ _ _ h => h) (Or.inl ⟨by rfl, fun wz hSz => ?_⟩) hHeld ?_
    · obtain ⟨_, e0, e1, e2, e3, e4, e5, e6, e7, e8⟩ := hSz
      go_simp
    simp only [Act.put, List.getElem_toArray, List.getElem_cons_succ, List.getElem_cons_zero]
    try simp only [List.setIfInBounds_toArray]
    try simp only [List.set_cons_succ]
    try simp only [List.set_cons_zero]
    refine wpAnyH_ready (rs := [4]) (by kernel_rfl) (by simp) (AllReadyH.cons rfl (fun K hK => ?_) AllReadyH.nil)
    rw [if_pos (by rfl)]
    go_simp
    refine (P1.out _ hHeld.1).mono ?_
    rintro e w7 ⟨hb7, s7, rfl, hS7, hn7, hm7⟩
    have H7 := Lib.hid (And.intro hb7 (And.intro hS7 (And.intro hn7 hm7)))
    refine hK.out _ _ (SX.out _ hb7) (fun hHeld => ?_)
    clear hK K
    try simp only [Act.put, List.getElem_toArray, List.getElem_cons_succ, List.getElem_cons_zero]
    try simp only [List.setIfInBounds_toArray]
    try simp only [List.set_cons_succ]
    try simp only [List.set_cons_zero]
    clear hb7 hS7 hn7 hm7
    refine wpAnyH_ready (rs := [6]) (by kernel_rfl) (by simp) (AllReadyH.cons rfl (fun K hK => ?_) AllReadyH.nil)
    rw [if_pos (by rfl)]
    go_simp
    refine (P3.out _ s7 H7.out.1 H7.out.2.1 H7.out.2.2.1 H7.out.2.2.2).mono ?_
    rintro e w8 ⟨rfl, hb8⟩
    refine hK.out _ _ (SX.out _ hb8) (fun hHeld => ?_)
    clear hK K
    try simp only [Act.put, List.getElem_toArray, List.getElem_cons_succ, List.getElem_cons_zero]
    try simp only [List.setIfInBounds_toArray]
    try simp only [List.set_cons_succ]
    try simp only [List.set_cons_zero]
    have H8 := Lib.hid hb8
    clear hb8
    refine wpAnyH_take (i := 7) (v := .bool true) rfl (by kernel_rfl) (by kernel_rfl) (by kernel_rfl) (fun _ _ _ h => h) (Or.inl ⟨by rfl, fun wz hSz => ?_⟩) hHeld ?_
    · go_simp
    simp only [Act.put, List.getElem_toArray, List.getElem_cons_succ, List.getElem_cons_zero]
    try simp only [List.setIfInBounds_toArray]
    try simp only [List.set_cons_succ]
    try simp only [List.set_cons_zero]
    refine wpAnyH_take (i := 8) (v := .bool true) rfl (by kernel_rfl) (by kernel_rfl) (by kernel_rfl) (fun _ _ _ h => h) (Or.inl ⟨by rfl, fun wz hSz => ?_⟩) hHeld ?_
    · go_simp
    simp only [Act.put, List.getElem_toArray, List.getElem_cons_succ, List.getElem_cons_zero]
    try simp only [List.setIfInBounds_toArray]
    try simp only [List.set_cons_succ]
    try simp only [List.set_cons_zero]
    refine wpAnyH_done (by kernel_rfl) ?_ _
    refine NoPanic.normal ?_
    go_wp2_with fail
    go_ret
    exact ⟨rfl, Y.out.2.1.trans (H8.out.mono Y.out.2.1.size)⟩
set_option maxRecDepth 100000 in
theorem lifted (os : Os) (started : os.Started) (H : Type) (enc : TypeId × Value → H) :
  ReturnsInHanded {} Tryd.checked os 6 .any (fun w args => (Rows.projectPlainSpec.pre enc Tryd.prog Tryd.f6 [] false w args ∧ laidMetH Tryd.prog laidL w) ∧ sizedMet enc Tryd.prog Tryd.f6 (OpenSpec.ofChange Rows.projectPlainSpec) false w args)
   (Rows.projectPlainSpec.post enc Tryd.prog Tryd.f6 false true false false) := by
 refine returnsInHanded_of_change_and (C := Tryd.checked) (X := fun w _ => laidMetH Tryd.prog laidL w) (fun _ _ _ hh h => h.of_heap hh) own started (by kernel_rfl) Tryd.func6
  (ChangeSpec.witness_shaped (enc := enc) (C := Tryd.checked) (os := os) (X := fun w _ => laidMetH Tryd.prog laidL w) false (World.laidAll Tryd.prog os laidL) #[.agg (scrA scN), .int .u32 0] 8 (World.laidAll_os _ _ _) (start_shaped os) (by kernel_rfl) (by kernel_rfl) (by kernel_rfl) (start_met os _)) ?_
 intro W base args ds gs before hval0 hW _ hsz0 hL _
 have hsz : (DataW.weightsEach Tryd.prog (Tryd.f6.params.toList ++ Rows.projectPlainSpec.plain.varTypes Tryd.prog) (ds ++ gs)).all (· ≤ reachBytes) = true := hsz0
 clear hsz0
 have hval : ∀ (j : Nat) t v, Tryd.f6.params[j]? = some t → args[j]? = some v → Value.okWide Tryd.prog W .any base t v := hval0
 have hW' := hW
 obtain ⟨p, q, hA0, hV, rfl, _, _⟩ := hW
 have hA : DataW.TrodAll enc Tryd.prog W 0 (fun _ => true) true Tryd.f6.params.toList args.toList ds p := hA0
 rw [Tryd.params6] at hA hval hsz
 obtain ⟨v0, vs0, d0, ds0, p0, q0, hargs, rfl, rfl, h0, r0⟩ := trodAll_cons hA
 obtain ⟨v1, vs1, d1, ds1, p1, q1, rfl, rfl, rfl, h1, r1⟩ := trodAll_cons r0
 obtain ⟨rfl, rfl, rfl⟩ := trodAll_nil r1
 obtain rfl : args = #[v0, v1] := by cases args; simp_all
 obtain ⟨rfl, rfl⟩ := trodVars_none hV
 have lt0 : ∀ x ∈ p0, x.block < W.heap.size := by obtain ⟨m, hm⟩ := h0; exact DataW.trod_lt m _ _ _ hm
 obtain ⟨s0, S0, rfl, s0⟩ := open_screenP (weights_at hsz (j := 0) rfl rfl) (hval 0 25 v0 rfl rfl) h0
 have lt1 : ∀ x ∈ p1, x.block < W.heap.size := by obtain ⟨m, hm⟩ := h1; exact DataW.trod_lt m _ _ _ hm
 obtain ⟨k1, rfl, s1⟩ := open_u32h (hval 1 26 v1 rfl rfl) h1
 clear hA0 hval0
 refine (walk W (both_of_laid hL) s0 s1).mono fun e W' ⟨he, bel⟩ => ?_
 subst he
 exact ⟨_, rfl, _, _, _, [], _, [], hW', trodAll_mk1 (shut_bool Tryd.underlying4 _), (trodAll_cons_mk (Below.trod laidOut (by kernel_rfl) (of_decide_eq_true (by kernel_rfl)) h0 bel lt0) (trodAll_cons_mk (Below.trod laidOut (by kernel_rfl) (of_decide_eq_true (by kernel_rfl)) h1 bel lt1) trodAll_mk0)), rfl, bel.frame _, fun h => by cases h⟩
theorem over : Rows.projectPlainRow.holds Tryd.pinned (OpenSpec.ofChange Rows.projectPlainSpec) :=
 OpenClaim.holds_of_wide 6 Tryd.f6 rfl rfl rfl rfl rfl rfl rfl ⟨rfl, rfl, rfl, rfl, rfl⟩ rfl rfl rfl rfl rfl (by kernel_rfl) Tryd.func6 (by kernel_rfl)
  (of_decide_eq_true (by kernel_rfl)) (by unfold Func.isWrapper; first | (rw [if_pos (by decide +kernel)]; kernel_rfl) | (rw [if_neg (by decide +kernel)]; exact ⟨rfl, rfl⟩))
  (fun os started H enc _ => lifted os started H enc)
theorem proved : Rows.ProjectPlainCardSaid :=
 Claim7.holds_tied_plain_at .later [] [.data, .data, .data, .data, .pinned] true Rows.projectPlainCard.stood.harness false
  over (fun _ h => by cases h) (by kernel_rfl) (fun _ h => by cases h) projectPlain_row_tie rfl ⟨rfl, rfl⟩ (by kernel_rfl) rfl
  (fun f fn hf hfn => by
   obtain rfl : f = 6 := Option.some.inj ((show Tryd.prog.funcNamed "spyglass/spyglasslaw15.ProjectPlain" = some 6 by kernel_rfl).symm.trans hf) |>.symm
   obtain rfl : fn = Tryd.f6 := (Option.some.inj (Tryd.func6.symm.trans hfn)).symm
   exact ⟨by kernel_rfl, fun j t ht => by
    rw [Tryd.params6] at ht
    have hm : t ∈ [25, 26] := by simpa using Array.mem_of_getElem? ht
    have hall : ([25, 26].all fun u => !Tryd.prog.wantsStandIn u) = true := by kernel_rfl
    exact (show Tryd.prog.wantsStandIn t = false by simpa using List.all_eq_true.1 hall t hm)⟩)
  (by kernel_rfl)
end Go.Proofs.YtojchkhnalnncaaDoor.projectPlain
