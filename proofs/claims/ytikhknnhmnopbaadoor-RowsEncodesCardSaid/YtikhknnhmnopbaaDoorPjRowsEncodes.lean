/-
  Proved: RowsEncodes answers true for every two screens, over the tables that the library and the program lay (a tied card).
-/
import Derived.Test.YtikhknnhmnopbaaDoorCards
import Derived.Test.YtikhknnhmnopbaaDoorTie
import Derived.SevenTiedAt
import Derived.WalkKit
import Derived.Deep.RegionHeld3
import Derived.Deep.DeepCutAuto
import Derived.Test.YtikhknnhmnopbaaDoorPj01
import Derived.Test.YtikhknnhmnopbaaDoorPj29
namespace Go.Proofs.YtikhknnhmnopbaaDoor.rowsEncodes
open Go.ChangeShapes Go.WideShapes Go.ChangeAt Go.RowKit
set_option maxHeartbeats 6400000 in
set_option maxRecDepth 100000 in
theorem walk {sa sb : ScR} {SA SB : Sc} (w : World) (hT : Tabs w) (h : ScIn w sa SA ∧ (PosC SA.cells ∧ StC SA.cells ∧ 0 ≤ SA.mouse)) (k : ScIn w sb SB ∧ (PosC SB.cells ∧ StC SB.cells ∧ 0 ≤ SB.mouse)) :
  Calls Tryd.prog 3 #[.agg (scrA sa), .agg (scrA sb)] w fun e w' => e = .returned (.bool true) ∧ Below w.heap.size w w' := by
 have HT := Lib.hid (fun w' (hb' : Below w.heap.size w w') => hT.below hb' (Nat.le_refl _))
 have HI := Lib.hid (And.intro h.1 k.1)
 have HP := Lib.hid (And.intro h.2 k.2)
 obtain ⟨b3, hb3⟩ : ∃ b3, b3 = w.heap.size := ⟨_, rfl⟩
 obtain ⟨w1, hw1⟩ : ∃ w1, w1 = (w.alloc (.cells (scrA sa) 25)).alloc (.cells (scrA sb) 25) := ⟨_, rfl⟩
 have H1 := Lib.hid (show S2 w w1 b3 sa sb from by
  have h1 := Sx.new w sa
  have h2 := Sx.new (w.alloc (.cells (scrA sa) 25)) sb
  rw [World.size_alloc] at h2
  rw [hb3, hw1]
  exact ⟨h1.below ((Below.refl _ _).alloc (Nat.le_refl _) _), h2, ((Below.refl _ _).alloc (Nat.le_refl _) _).alloc (by simp) _, Nat.le_refl _⟩)
 obtain ⟨G, hG⟩ : ∃ G, greatS sa = G := ⟨_, rfl⟩
 have PG := Lib.hid (great16_any sa w1)
 rw [hG] at PG
 have HG := Lib.hid hG
 clear h hT hG k
 obtain ⟨a0, a1, a2, a3, a4, a5, a6, a7, a8, _⟩ := sx_cells H1.out.b1
 unfold scrA at hw1 PG ⊢
 go_enter Tryd.func3, Tryd.ntmps3
 go_upto_region 1 with fail
 rw [← hw1, ← hb3]
 clear hw1 hb3
 go_wp2_with fail
 refine PG.out.mono ?_
 rintro e w2 ⟨rfl, hb2⟩
 have H2 := Lib.hid (H1.out.on hb2)
 clear hb2 H1 PG a0 a1 a2 a3 a4 a5 a6 a7 a8
 cases G
 rotate_left
 · go_wp2_with fail
   refine (fixed16_any (HT.out _ H2.out.bel)).mono ?_
   rintro e w9 ⟨rfl, hb9⟩
   have Z9 := Lib.hid (Below.trans H2.out.bel (hb9.mono (Below.size H2.out.bel)))
   clear hb9
   go_wp2_with fail
   go_ret
   exact ⟨rfl, Z9.out⟩
 have HNA := Lib.hid (great_no HG.out)
 clear HG
 obtain ⟨G, hG⟩ : ∃ G, greatS sb = G := ⟨_, rfl⟩
 have PG := Lib.hid (great16_any sb w2)
 rw [hG] at PG
 have HG := Lib.hid hG
 clear hG
 obtain ⟨d0, d1, d2, d3, d4, d5, d6, d7, d8, _⟩ := sx_cells H2.out.b2
 unfold scrA at PG
 go_wp2_with fail
 refine PG.out.mono ?_
 rintro e w3 ⟨rfl, hb3⟩
 have H3 := Lib.hid (H2.out.on hb3)
 clear hb3 H2 PG d0 d1 d2 d3 d4 d5 d6 d7 d8
 cases G
 rotate_left
 · go_wp2_with fail
   refine (fixed16_any (HT.out _ H3.out.bel)).mono ?_
   rintro e w9 ⟨rfl, hb9⟩
   have Z9 := Lib.hid (Below.trans H3.out.bel (hb9.mono (Below.size H3.out.bel)))
   clear hb9
   go_wp2_with fail
   go_ret
   exact ⟨rfl, Z9.out⟩
 have HNB := Lib.hid (great_no HG.out)
 clear HG
 have PA := Lib.hid (show ∀ w', Below w3.heap.size w3 w' → Calls Tryd.prog 8 #[.agg (scrA sa)] w' fun e w'' => Below w'.heap.size w' w'' ∧ ∃ s', e = .returned (.agg (scrA s')) ∧ Cpy w'' s' SA sa from fun w' hb => cpy_any ((HI.out.1.below H3.out.bel).below hb) (by have := HNA.out; omega) (by have := HNA.out; omega))
 have PB := Lib.hid (show ∀ w', Below w3.heap.size w3 w' → Calls Tryd.prog 8 #[.agg (scrA sb)] w' fun e w'' => Below w'.heap.size w' w'' ∧ ∃ s', e = .returned (.agg (scrA s')) ∧ Cpy w'' s' SB sb from fun w' hb => cpy_any ((HI.out.2.below H3.out.bel).below hb) (by have := HNB.out; omega) (by have := HNB.out; omega))
 have SX := Lib.hid (show ∀ w', Below w3.heap.size w3 w' → (Below w3.heap.size w3 w' ∧ (w'.cell? ⟨b3, 0, none⟩ = some (.int .i64 sa.c) ∧ w'.cell? ⟨b3, 1, none⟩ = some (.int .i64 sa.r) ∧ w'.cell? ⟨b3, 2, none⟩ = some (.slice sa.A sa.n sa.k) ∧ w'.cell? ⟨b3, 3, none⟩ = some (.int .i64 sa.x) ∧ w'.cell? ⟨b3, 4, none⟩ = some (.int .i64 sa.y) ∧ w'.cell? ⟨b3, 5, none⟩ = some (.bool sa.hid) ∧ w'.cell? ⟨b3, 6, none⟩ = some (.int .u8 sa.mouse) ∧ w'.cell? ⟨b3, 7, none⟩ = some (.string sa.ttl) ∧ w'.cell? ⟨b3, 8, none⟩ = some (.slice sa.T sa.m sa.q) ∧ w'.cell? ⟨(b3 + 1), 0, none⟩ = some (.int .i64 sb.c) ∧ w'.cell? ⟨(b3 + 1), 1, none⟩ = some (.int .i64 sb.r) ∧ w'.cell? ⟨(b3 + 1), 2, none⟩ = some (.slice sb.A sb.n sb.k) ∧ w'.cell? ⟨(b3 + 1), 3, none⟩ = some (.int .i64 sb.x) ∧ w'.cell? ⟨(b3 + 1), 4, none⟩ = some (.int .i64 sb.y) ∧ w'.cell? ⟨(b3 + 1), 5, none⟩ = some (.bool sb.hid) ∧ w'.cell? ⟨(b3 + 1), 6, none⟩ = some (.int .u8 sb.mouse) ∧ w'.cell? ⟨(b3 + 1), 7, none⟩ = some (.string sb.ttl) ∧ w'.cell? ⟨(b3 + 1), 8, none⟩ = some (.slice sb.T sb.m sb.q))) from fun w' hb => by
  have t0 := sx_cells (H3.out.b1.below hb)
  have t1 := sx_cells (H3.out.b2.below hb)
  exact ⟨hb, t0.c0, t0.c1, t0.c2, t0.c3, t0.c4, t0.c5, t0.c6, t0.c7, t0.c8, t1.c0, t1.c1, t1.c2, t1.c3, t1.c4, t1.c5, t1.c6, t1.c7, t1.c8⟩)
 unfold scrA at PA PB
 go_upto_region 3 with fail
 go_cut [5, 6] (fun v5 v6 wc => ∃ (bx bv : Nat) (s5 s6 : ScR), v5 = .pointer (some ⟨bx, 0, none⟩) ∧ v6 = .pointer (some ⟨bv, 0, none⟩) ∧ Below w3.heap.size w3 wc ∧ Cpy wc s5 SA sa ∧ Cpy wc s6 SB sb ∧ Sx wc bx s5 ∧ Sx wc bv s6)
 case first =>
  refine wp_region_noPanic ?_
  refine wp_region_held_drew (S := fun w' => Below w3.heap.size w3 w' ∧ (w'.cell? ⟨b3, 0, none⟩ = some (.int .i64 sa.c) ∧ w'.cell? ⟨b3, 1, none⟩ = some (.int .i64 sa.r) ∧ w'.cell? ⟨b3, 2, none⟩ = some (.slice sa.A sa.n sa.k) ∧ w'.cell? ⟨b3, 3, none⟩ = some (.int .i64 sa.x) ∧ w'.cell? ⟨b3, 4, none⟩ = some (.int .i64 sa.y) ∧ w'.cell? ⟨b3, 5, none⟩ = some (.bool sa.hid) ∧ w'.cell? ⟨b3, 6, none⟩ = some (.int .u8 sa.mouse) ∧ w'.cell? ⟨b3, 7, none⟩ = some (.string sa.ttl) ∧ w'.cell? ⟨b3, 8, none⟩ = some (.slice sa.T sa.m sa.q) ∧ w'.cell? ⟨(b3 + 1), 0, none⟩ = some (.int .i64 sb.c) ∧ w'.cell? ⟨(b3 + 1), 1, none⟩ = some (.int .i64 sb.r) ∧ w'.cell? ⟨(b3 + 1), 2, none⟩ = some (.slice sb.A sb.n sb.k) ∧ w'.cell? ⟨(b3 + 1), 3, none⟩ = some (.int .i64 sb.x) ∧ w'.cell? ⟨(b3 + 1), 4, none⟩ = some (.int .i64 sb.y) ∧ w'.cell? ⟨(b3 + 1), 5, none⟩ = some (.bool sb.hid) ∧ w'.cell? ⟨(b3 + 1), 6, none⟩ = some (.int .u8 sb.mouse) ∧ w'.cell? ⟨(b3 + 1), 7, none⟩ = some (.string sb.ttl) ∧ w'.cell? ⟨(b3 + 1), 8, none⟩ = some (.slice sb.T sb.m sb.q))) (by kernel_rfl) (SX.out _ (Below.refl _ _).drew) (fun hHeld => ?_)
  refine wpAnyH_take (i := 0) (v := .agg #[.int .i64 sa.c, .int .i64 sa.r, .slice sa.A sa.n sa.k, .int .i64 sa.x, .int .i64 sa.y, .bool sa.hid, .int .u8 sa.mouse, .string sa.ttl, .slice sa.T sa.m sa.q]) rfl (by kernel_rfl) (by kernel_rfl) (by kernel_rfl) (fun _ _ _ h => h) (Or.inl ⟨by rfl, fun wz hSz => ?_⟩) hHeld ?_
  · obtain ⟨_, e0, e1, e2, e3, e4, e5, e6, e7, e8, e9, e10, e11, e12, e13, e14, e15, e16, e17⟩ := hSz
    go_simp
  simp only [Act.put, List.getElem_toArray, List.getElem_cons_zero]
  try simp only [List.setIfInBounds_toArray]
  try simp only [List.set_cons_succ]
  try simp only [List.set_cons_zero]
  refine wpAnyH_take (i := 2) (v := .agg #[.int .i64 sb.c, .int .i64 sb.r, .slice sb.A sb.n sb.k, .int .i64 sb.x, .int .i64 sb.y, .bool sb.hid, .int .u8 sb.mouse, .string sb.ttl, .slice sb.T sb.m sb.q]) rfl (by kernel_rfl) (by kernel_rfl) (by kernel_rfl) (fun _ _ _ h => h) (Or.inl ⟨by rfl, fun wz hSz => ?_⟩) hHeld ?_
  · obtain ⟨_, e0, e1, e2, e3, e4, e5, e6, e7, e8, e9, e10, e11, e12, e13, e14, e15, e16, e17⟩ := hSz
    go_simp
  simp only [Act.put, List.getElem_toArray, List.getElem_cons_succ, List.getElem_cons_zero]
  try simp only [List.setIfInBounds_toArray]
  try simp only [List.set_cons_succ]
  try simp only [List.set_cons_zero]
  obtain ⟨w10, hw10⟩ : ∃ q, q = w3.drew := ⟨_, rfl⟩
  have H10 := Lib.hid (show Below w3.heap.size w3 w10 from by rw [hw10]; exact (Below.refl _ _).drew)
  rw [← hw10] at hHeld ⊢
  clear hw10
  refine wpAnyH_ready (rs := [1, 4, 5]) (by kernel_rfl) (by simp) (AllReadyH.cons rfl (fun K hK => ?_) (AllReadyH.cons rfl (fun K hK => ?_) (AllReadyH.cons rfl (fun K hK => ?_) AllReadyH.nil)))
  · rw [if_pos (by rfl)]
    go_simp
    refine (PA.out _ H10.out).mono ?_
    rintro e w11 ⟨hbz, s5, rfl, hcz⟩
    have H11 := Lib.hid (show Below w3.heap.size w3 w11 ∧ Cpy w11 s5 SA sa from ⟨H10.out.trans (hbz.mono H10.out.size), hcz⟩)
    clear hbz hcz
    refine hK.out _ _ (SX.out _ H11.out.1) (fun hHeld => ?_)
    clear hK K H10
    try simp only [Act.put, List.getElem_toArray, List.getElem_cons_succ, List.getElem_cons_zero]
    try simp only [List.setIfInBounds_toArray]
    try simp only [List.set_cons_succ]
    try simp only [List.set_cons_zero]
    refine wpAnyH_ready (rs := [3, 4, 5]) (by kernel_rfl) (by simp) (AllReadyH.cons rfl (fun K hK => ?_) (AllReadyH.cons rfl (fun K hK => ?_) (AllReadyH.cons rfl (fun K hK => ?_) AllReadyH.nil)))
    · rw [if_pos (by rfl)]
      go_simp
      refine (PB.out _ H11.out.1).mono ?_
      rintro e w12 ⟨hbz, s6, rfl, hcz⟩
      have H12 := Lib.hid (show Below w3.heap.size w3 w12 ∧ Cpy w12 s5 SA sa ∧ Cpy w12 s6 SB sb from ⟨H11.out.1.trans (hbz.mono H11.out.1.size), H11.out.2.below hbz, hcz⟩)
      clear hbz hcz
      refine hK.out _ _ (SX.out _ H12.out.1) (fun hHeld => ?_)
      clear hK K H11
      try simp only [Act.put, List.getElem_toArray, List.getElem_cons_succ, List.getElem_cons_zero]
      try simp only [List.setIfInBounds_toArray]
      try simp only [List.set_cons_succ]
      try simp only [List.set_cons_zero]
      refine wpAnyH_ready (rs := [4, 5]) (by kernel_rfl) (by simp) (AllReadyH.cons rfl (fun K hK => ?_) (AllReadyH.cons rfl (fun K hK => ?_) AllReadyH.nil))
      · rw [if_pos (by rfl)]
        go_simp
        obtain ⟨bx, hbx⟩ : ∃ q, q = w12.heap.size := ⟨_, rfl⟩
        obtain ⟨w13, hw13⟩ : ∃ q, q = w12.alloc (.cells #[.int .i64 0, .int .i64 0, .slice none 0 0, .int .i64 0, .int .i64 0, .bool false, .int .u8 0, .string ⟨#[]⟩, .slice none 0 0] 25) := ⟨_, rfl⟩
        have H13 := Lib.hid (show Below w3.heap.size w3 w13 ∧ Cpy w13 s5 SA sa ∧ Cpy w13 s6 SB sb ∧ Nw w3.heap.size w13 bx scN from by
         have hbz : Below w12.heap.size w12 w13 := by rw [hw13]; exact (Below.refl _ _).alloc (Nat.le_refl _) _
         exact ⟨H12.out.1.trans (hbz.mono H12.out.1.size), H12.out.2.1.below hbz, H12.out.2.2.below hbz, ⟨by rw [hw13, hbx]; exact Sx.new w12 scN, by rw [hbx]; exact H12.out.1.size⟩⟩)
        rw [← hw13, ← hbx]
        clear hw13 hbx
        refine hK.out _ _ (SX.out _ H13.out.1) (fun hHeld => ?_)
        clear hK K H12
        try simp only [Act.put, List.getElem_toArray, List.getElem_cons_succ, List.getElem_cons_zero]
        try simp only [List.setIfInBounds_toArray]
        try simp only [List.set_cons_succ]
        try simp only [List.set_cons_zero]
        refine wpAnyH_ready (rs := [5]) (by kernel_rfl) (by simp) (AllReadyH.cons rfl (fun K hK => ?_) AllReadyH.nil)
        · rw [if_pos (by rfl)]
          go_simp
          obtain ⟨bv, hbv⟩ : ∃ q, q = w13.heap.size := ⟨_, rfl⟩
          obtain ⟨w14, hw14⟩ : ∃ q, q = w13.alloc (.cells #[.int .i64 0, .int .i64 0, .slice none 0 0, .int .i64 0, .int .i64 0, .bool false, .int .u8 0, .string ⟨#[]⟩, .slice none 0 0] 25) := ⟨_, rfl⟩
          have H14 := Lib.hid (show Below w3.heap.size w3 w14 ∧ Cpy w14 s5 SA sa ∧ Cpy w14 s6 SB sb ∧ Nw w3.heap.size w14 bx scN ∧ Nw w3.heap.size w14 bv scN ∧ bx ≠ bv from by
           have hbz : Below w13.heap.size w13 w14 := by rw [hw14]; exact (Below.refl _ _).alloc (Nat.le_refl _) _
           exact ⟨H13.out.1.trans (hbz.mono H13.out.1.size), H13.out.2.1.below hbz, H13.out.2.2.1.below hbz, H13.out.2.2.2.below hbz, ⟨by rw [hw14, hbv]; exact Sx.new w13 scN, by rw [hbv]; exact H13.out.1.size⟩, fun e => by have h1 := H13.out.2.2.2.sx.lt; omega⟩)
          rw [← hw14, ← hbv]
          clear hw14 hbv
          refine hK.out _ _ (SX.out _ H14.out.1) (fun hHeld => ?_)
          clear hK K H13
          try simp only [Act.put, List.getElem_toArray, List.getElem_cons_succ, List.getElem_cons_zero]
          try simp only [List.setIfInBounds_toArray]
          try simp only [List.set_cons_succ]
          try simp only [List.set_cons_zero]
          refine wpAnyH_ready (rs := [6]) (by kernel_rfl) (by simp) (AllReadyH.cons rfl (fun K hK => ?_) AllReadyH.nil)
          rw [if_pos (by rfl)]
          refine wp_store_S (.tmp 5) (.tmp 23) rfl bx scN s5 rfl rfl H14.out.2.2.2.1.sx ?_
          intro w15 hsx hgx
          have H15 := Lib.hid (show Below w3.heap.size w3 w15 ∧ Cpy w15 s5 SA sa ∧ Cpy w15 s6 SB sb ∧ Sx w15 bx s5 ∧ Sx w15 bv scN from ⟨H14.out.1.grown hgx H14.out.1.size (fun k hk => by injection hk with hk; have := H14.out.2.2.2.1.lo; omega), H14.out.2.1.store H14.out.2.2.2.1.sx hgx, H14.out.2.2.1.store H14.out.2.2.2.1.sx hgx, hsx, H14.out.2.2.2.2.1.sx.grown hgx (fun e => by injection e with e; exact H14.out.2.2.2.2.2 e)⟩)
          clear hsx hgx
          have HLO := Lib.hid (And.intro H14.out.2.2.2.1.lo (And.intro H14.out.2.2.2.2.1.lo H14.out.2.2.2.2.2))
          refine hK.out _ _ (SX.out _ H15.out.1) (fun hHeld => ?_)
          clear hK K H14
          try simp only [Act.put, List.getElem_toArray, List.getElem_cons_succ, List.getElem_cons_zero]
          try simp only [List.setIfInBounds_toArray]
          try simp only [List.set_cons_succ]
          try simp only [List.set_cons_zero]
          refine wpAnyH_ready (rs := [7]) (by kernel_rfl) (by simp) (AllReadyH.cons rfl (fun K hK => ?_) AllReadyH.nil)
          rw [if_pos (by rfl)]
          refine wp_store_S (.tmp 6) (.tmp 25) rfl bv scN s6 rfl rfl H15.out.2.2.2.2 ?_
          intro w16 hsx hgx
          have H16 := Lib.hid (show Below w3.heap.size w3 w16 ∧ Cpy w16 s5 SA sa ∧ Cpy w16 s6 SB sb ∧ Sx w16 bx s5 ∧ Sx w16 bv s6 from ⟨H15.out.1.grown hgx H15.out.1.size (fun k hk => by injection hk with hk; have := HLO.out.2.1; omega), H15.out.2.1.store H15.out.2.2.2.2 hgx, H15.out.2.2.1.store H15.out.2.2.2.2 hgx, H15.out.2.2.2.1.grown hgx (fun e => by injection e with e; exact HLO.out.2.2 e.symm), hsx⟩)
          clear hsx hgx
          refine hK.out _ _ (SX.out _ H16.out.1) (fun hHeld => ?_)
          clear hK K H15
          try simp only [Act.put, List.getElem_toArray, List.getElem_cons_succ, List.getElem_cons_zero]
          try simp only [List.setIfInBounds_toArray]
          try simp only [List.set_cons_succ]
          try simp only [List.set_cons_zero]
          refine wpAnyH_done (by kernel_rfl) ?_ _
          refine NoPanic.normal ?_
          try go_wp2_with fail
          go_meet
          case rel => exact ⟨_, _, s5, s6, rfl, rfl, H16.out.1, H16.out.2.1, H16.out.2.2.1, H16.out.2.2.2.1, H16.out.2.2.2.2⟩
      · rw [if_pos (by rfl)]
        go_simp
        obtain ⟨bv, hbv⟩ : ∃ q, q = w12.heap.size := ⟨_, rfl⟩
        obtain ⟨w13, hw13⟩ : ∃ q, q = w12.alloc (.cells #[.int .i64 0, .int .i64 0, .slice none 0 0, .int .i64 0, .int .i64 0, .bool false, .int .u8 0, .string ⟨#[]⟩, .slice none 0 0] 25) := ⟨_, rfl⟩
        have H13 := Lib.hid (show Below w3.heap.size w3 w13 ∧ Cpy w13 s5 SA sa ∧ Cpy w13 s6 SB sb ∧ Nw w3.heap.size w13 bv scN from by
         have hbz : Below w12.heap.size w12 w13 := by rw [hw13]; exact (Below.refl _ _).alloc (Nat.le_refl _) _
         exact ⟨H12.out.1.trans (hbz.mono H12.out.1.size), H12.out.2.1.below hbz, H12.out.2.2.below hbz, ⟨by rw [hw13, hbv]; exact Sx.new w12 scN, by rw [hbv]; exact H12.out.1.size⟩⟩)
        rw [← hw13, ← hbv]
        clear hw13 hbv
        refine hK.out _ _ (SX.out _ H13.out.1) (fun hHeld => ?_)
        clear hK K H12
        try simp only [Act.put, List.getElem_toArray, List.getElem_cons_succ, List.getElem_cons_zero]
        try simp only [List.setIfInBounds_toArray]
        try simp only [List.set_cons_succ]
        try simp only [List.set_cons_zero]
        refine wpAnyH_ready (rs := [4]) (by kernel_rfl) (by simp) (AllReadyH.cons rfl (fun K hK => ?_) AllReadyH.nil)
        · rw [if_pos (by rfl)]
          go_simp
          obtain ⟨bx, hbx⟩ : ∃ q, q = w13.heap.size := ⟨_, rfl⟩
          obtain ⟨w14, hw14⟩ : ∃ q, q = w13.alloc (.cells #[.int .i64 0, .int .i64 0, .slice none 0 0, .int .i64 0, .int .i64 0, .bool false, .int .u8 0, .string ⟨#[]⟩, .slice none 0 0] 25) := ⟨_, rfl⟩
          have H14 := Lib.hid (show Below w3.heap.size w3 w14 ∧ Cpy w14 s5 SA sa ∧ Cpy w14 s6 SB sb ∧ Nw w3.heap.size w14 bx scN ∧ Nw w3.heap.size w14 bv scN ∧ bx ≠ bv from by
           have hbz : Below w13.heap.size w13 w14 := by rw [hw14]; exact (Below.refl _ _).alloc (Nat.le_refl _) _
           exact ⟨H13.out.1.trans (hbz.mono H13.out.1.size), H13.out.2.1.below hbz, H13.out.2.2.1.below hbz, ⟨by rw [hw14, hbx]; exact Sx.new w13 scN, by rw [hbx]; exact H13.out.1.size⟩, H13.out.2.2.2.below hbz, fun e => by have h1 := H13.out.2.2.2.sx.lt; omega⟩)
          rw [← hw14, ← hbx]
          clear hw14 hbx
          refine hK.out _ _ (SX.out _ H14.out.1) (fun hHeld => ?_)
          clear hK K H13
          try simp only [Act.put, List.getElem_toArray, List.getElem_cons_succ, List.getElem_cons_zero]
          try simp only [List.setIfInBounds_toArray]
          try simp only [List.set_cons_succ]
          try simp only [List.set_cons_zero]
          refine wpAnyH_ready (rs := [6]) (by kernel_rfl) (by simp) (AllReadyH.cons rfl (fun K hK => ?_) AllReadyH.nil)
          rw [if_pos (by rfl)]
          refine wp_store_S (.tmp 5) (.tmp 23) rfl bx scN s5 rfl rfl H14.out.2.2.2.1.sx ?_
          intro w15 hsx hgx
          have H15 := Lib.hid (show Below w3.heap.size w3 w15 ∧ Cpy w15 s5 SA sa ∧ Cpy w15 s6 SB sb ∧ Sx w15 bx s5 ∧ Sx w15 bv scN from ⟨H14.out.1.grown hgx H14.out.1.size (fun k hk => by injection hk with hk; have := H14.out.2.2.2.1.lo; omega), H14.out.2.1.store H14.out.2.2.2.1.sx hgx, H14.out.2.2.1.store H14.out.2.2.2.1.sx hgx, hsx, H14.out.2.2.2.2.1.sx.grown hgx (fun e => by injection e with e; exact H14.out.2.2.2.2.2 e)⟩)
          clear hsx hgx
          have HLO := Lib.hid (And.intro H14.out.2.2.2.1.lo (And.intro H14.out.2.2.2.2.1.lo H14.out.2.2.2.2.2))
          refine hK.out _ _ (SX.out _ H15.out.1) (fun hHeld => ?_)
          clear hK K H14
          try simp only [Act.put, List.getElem_toArray, List.getElem_cons_succ, List.getElem_cons_zero]
          try simp only [List.setIfInBounds_toArray]
          try simp only [List.set_cons_succ]
          try simp only [List.set_cons_zero]
          refine wpAnyH_ready (rs := [7]) (by kernel_rfl) (by simp) (AllReadyH.cons rfl (fun K hK => ?_) AllReadyH.nil)
          rw [if_pos (by rfl)]
          refine wp_store_S (.tmp 6) (.tmp 25) rfl bv scN s6 rfl rfl H15.out.2.2.2.2 ?_
          intro w16 hsx hgx
          have H16 := Lib.hid (show Below w3.heap.size w3 w16 ∧ Cpy w16 s5 SA sa ∧ Cpy w16 s6 SB sb ∧ Sx w16 bx s5 ∧ Sx w16 bv s6 from ⟨H15.out.1.grown hgx H15.out.1.size (fun k hk => by injection hk with hk; have := HLO.out.2.1; omega), H15.out.2.1.store H15.out.2.2.2.2 hgx, H15.out.2.2.1.store H15.out.2.2.2.2 hgx, H15.out.2.2.2.1.grown hgx (fun e => by injection e with e; exact HLO.out.2.2 e.symm), hsx⟩)
          clear hsx hgx
          refine hK.out _ _ (SX.out _ H16.out.1) (fun hHeld => ?_)
          clear hK K H15
          try simp only [Act.put, List.getElem_toArray, List.getElem_cons_succ, List.getElem_cons_zero]
          try simp only [List.setIfInBounds_toArray]
          try simp only [List.set_cons_succ]
          try simp only [List.set_cons_zero]
          refine wpAnyH_done (by kernel_rfl) ?_ _
          refine NoPanic.normal ?_
          try go_wp2_with fail
          go_meet
          case rel => exact ⟨_, _, s5, s6, rfl, rfl, H16.out.1, H16.out.2.1, H16.out.2.2.1, H16.out.2.2.2.1, H16.out.2.2.2.2⟩
    · rw [if_pos (by rfl)]
      go_simp
      obtain ⟨bx, hbx⟩ : ∃ q, q = w11.heap.size := ⟨_, rfl⟩
      obtain ⟨w12, hw12⟩ : ∃ q, q = w11.alloc (.cells #[.int .i64 0, .int .i64 0, .slice none 0 0, .int .i64 0, .int .i64 0, .bool false, .int .u8 0, .string ⟨#[]⟩, .slice none 0 0] 25) := ⟨_, rfl⟩
      have H12 := Lib.hid (show Below w3.heap.size w3 w12 ∧ Cpy w12 s5 SA sa ∧ Nw w3.heap.size w12 bx scN from by
       have hbz : Below w11.heap.size w11 w12 := by rw [hw12]; exact (Below.refl _ _).alloc (Nat.le_refl _) _
       exact ⟨H11.out.1.trans (hbz.mono H11.out.1.size), H11.out.2.below hbz, ⟨by rw [hw12, hbx]; exact Sx.new w11 scN, by rw [hbx]; exact H11.out.1.size⟩⟩)
      rw [← hw12, ← hbx]
      clear hw12 hbx
      refine hK.out _ _ (SX.out _ H12.out.1) (fun hHeld => ?_)
      clear hK K H11
      try simp only [Act.put, List.getElem_toArray, List.getElem_cons_succ, List.getElem_cons_zero]
      try simp only [List.setIfInBounds_toArray]
      try simp only [List.set_cons_succ]
      try simp only [List.set_cons_zero]
      refine wpAnyH_ready (rs := [3, 5]) (by kernel_rfl) (by simp) (AllReadyH.cons rfl (fun K hK => ?_) (AllReadyH.cons rfl (fun K hK => ?_) AllReadyH.nil))
      · rw [if_pos (by rfl)]
        go_simp
        refine (PB.out _ H12.out.1).mono ?_
        rintro e w13 ⟨hbz, s6, rfl, hcz⟩
        have H13 := Lib.hid (show Below w3.heap.size w3 w13 ∧ Cpy w13 s5 SA sa ∧ Cpy w13 s6 SB sb ∧ Nw w3.heap.size w13 bx scN from ⟨H12.out.1.trans (hbz.mono H12.out.1.size), H12.out.2.1.below hbz, hcz, H12.out.2.2.below hbz⟩)
        clear hbz hcz
        refine hK.out _ _ (SX.out _ H13.out.1) (fun hHeld => ?_)
        clear hK K H12
        try simp only [Act.put, List.getElem_toArray, List.getElem_cons_succ, List.getElem_cons_zero]
        try simp only [List.setIfInBounds_toArray]
        try simp only [List.set_cons_succ]
        try simp only [List.set_cons_zero]
        refine wpAnyH_ready (rs := [5]) (by kernel_rfl) (by simp) (AllReadyH.cons rfl (fun K hK => ?_) AllReadyH.nil)
        · rw [if_pos (by rfl)]
          go_simp
          obtain ⟨bv, hbv⟩ : ∃ q, q = w13.heap.size := ⟨_, rfl⟩
          obtain ⟨w14, hw14⟩ : ∃ q, q = w13.alloc (.cells #[.int .i64 0, .int .i64 0, .slice none 0 0, .int .i64 0, .int .i64 0, .bool false, .int .u8 0, .string ⟨#[]⟩, .slice none 0 0] 25) := ⟨_, rfl⟩
          have H14 := Lib.hid (show Below w3.heap.size w3 w14 ∧ Cpy w14 s5 SA sa ∧ Cpy w14 s6 SB sb ∧ Nw w3.heap.size w14 bx scN ∧ Nw w3.heap.size w14 bv scN ∧ bx ≠ bv from by
           have hbz : Below w13.heap.size w13 w14 := by rw [hw14]; exact (Below.refl _ _).alloc (Nat.le_refl _) _
           exact ⟨H13.out.1.trans (hbz.mono H13.out.1.size), H13.out.2.1.below hbz, H13.out.2.2.1.below hbz, H13.out.2.2.2.below hbz, ⟨by rw [hw14, hbv]; exact Sx.new w13 scN, by rw [hbv]; exact H13.out.1.size⟩, fun e => by have h1 := H13.out.2.2.2.sx.lt; omega⟩)
          rw [← hw14, ← hbv]
          clear hw14 hbv
          refine hK.out _ _ (SX.out _ H14.out.1) (fun hHeld => ?_)
          clear hK K H13
          try simp only [Act.put, List.getElem_toArray, List.getElem_cons_succ, List.getElem_cons_zero]
          try simp only [List.setIfInBounds_toArray]
          try simp only [List.set_cons_succ]
          try simp only [List.set_cons_zero]
          refine wpAnyH_ready (rs := [6]) (by kernel_rfl) (by simp) (AllReadyH.cons rfl (fun K hK => ?_) AllReadyH.nil)
          rw [if_pos (by rfl)]
          refine wp_store_S (.tmp 5) (.tmp 23) rfl bx scN s5 rfl rfl H14.out.2.2.2.1.sx ?_
          intro w15 hsx hgx
          have H15 := Lib.hid (show Below w3.heap.size w3 w15 ∧ Cpy w15 s5 SA sa ∧ Cpy w15 s6 SB sb ∧ Sx w15 bx s5 ∧ Sx w15 bv scN from ⟨H14.out.1.grown hgx H14.out.1.size (fun k hk => by injection hk with hk; have := H14.out.2.2.2.1.lo; omega), H14.out.2.1.store H14.out.2.2.2.1.sx hgx, H14.out.2.2.1.store H14.out.2.2.2.1.sx hgx, hsx, H14.out.2.2.2.2.1.sx.grown hgx (fun e => by injection e with e; exact H14.out.2.2.2.2.2 e)⟩)
          clear hsx hgx
          have HLO := Lib.hid (And.intro H14.out.2.2.2.1.lo (And.intro H14.out.2.2.2.2.1.lo H14.out.2.2.2.2.2))
          refine hK.out _ _ (SX.out _ H15.out.1) (fun hHeld => ?_)
          clear hK K H14
          try simp only [Act.put, List.getElem_toArray, List.getElem_cons_succ, List.getElem_cons_zero]
          try simp only [List.setIfInBounds_toArray]
          try simp only [List.set_cons_succ]
          try simp only [List.set_cons_zero]
          refine wpAnyH_ready (rs := [7]) (by kernel_rfl) (by simp) (AllReadyH.cons rfl (fun K hK => ?_) AllReadyH.nil)
          rw [if_pos (by rfl)]
          refine wp_store_S (.tmp 6) (.tmp 25) rfl bv scN s6 rfl rfl H15.out.2.2.2.2 ?_
          intro w16 hsx hgx
          have H16 := Lib.hid (show Below w3.heap.size w3 w16 ∧ Cpy w16 s5 SA sa ∧ Cpy w16 s6 SB sb ∧ Sx w16 bx s5 ∧ Sx w16 bv s6 from ⟨H15.out.1.grown hgx H15.out.1.size (fun k hk => by injection hk with hk; have := HLO.out.2.1; omega), H15.out.2.1.store H15.out.2.2.2.2 hgx, H15.out.2.2.1.store H15.out.2.2.2.2 hgx, H15.out.2.2.2.1.grown hgx (fun e => by injection e with e; exact HLO.out.2.2 e.symm), hsx⟩)
          clear hsx hgx
          refine hK.out _ _ (SX.out _ H16.out.1) (fun hHeld => ?_)
          clear hK K H15
          try simp only [Act.put, List.getElem_toArray, List.getElem_cons_succ, List.getElem_cons_zero]
          try simp only [List.setIfInBounds_toArray]
          try simp only [List.set_cons_succ]
          try simp only [List.set_cons_zero]
          refine wpAnyH_done (by kernel_rfl) ?_ _
          refine NoPanic.normal ?_
          try go_wp2_with fail
          go_meet
          case rel => exact ⟨_, _, s5, s6, rfl, rfl, H16.out.1, H16.out.2.1, H16.out.2.2.1, H16.out.2.2.2.1, H16.out.2.2.2.2⟩
      · rw [if_pos (by rfl)]
        go_simp
        obtain ⟨bv, hbv⟩ : ∃ q, q = w12.heap.size := ⟨_, rfl⟩
        obtain ⟨w13, hw13⟩ : ∃ q, q = w12.alloc (.cells #[.int .i64 0, .int .i64 0, .slice none 0 0, .int .i64 0, .int .i64 0, .bool false, .int .u8 0, .string ⟨#[]⟩, .slice none 0 0] 25) := ⟨_, rfl⟩
        have H13 := Lib.hid (show Below w3.heap.size w3 w13 ∧ Cpy w13 s5 SA sa ∧ Nw w3.heap.size w13 bx scN ∧ Nw w3.heap.size w13 bv scN ∧ bx ≠ bv from by
         have hbz : Below w12.heap.size w12 w13 := by rw [hw13]; exact (Below.refl _ _).alloc (Nat.le_refl _) _
         exact ⟨H12.out.1.trans (hbz.mono H12.out.1.size), H12.out.2.1.below hbz, H12.out.2.2.below hbz, ⟨by rw [hw13, hbv]; exact Sx.new w12 scN, by rw [hbv]; exact H12.out.1.size⟩, fun e => by have h1 := H12.out.2.2.sx.lt; omega⟩)
        rw [← hw13, ← hbv]
        clear hw13 hbv
        refine hK.out _ _ (SX.out _ H13.out.1) (fun hHeld => ?_)
        clear hK K H12
        try simp only [Act.put, List.getElem_toArray, List.getElem_cons_succ, List.getElem_cons_zero]
        try simp only [List.setIfInBounds_toArray]
        try simp only [List.set_cons_succ]
        try simp only [List.set_cons_zero]
        refine wpAnyH_ready (rs := [3]) (by kernel_rfl) (by simp) (AllReadyH.cons rfl (fun K hK => ?_) AllReadyH.nil)
        · rw [if_pos (by rfl)]
          go_simp
          refine (PB.out _ H13.out.1).mono ?_
          rintro e w14 ⟨hbz, s6, rfl, hcz⟩
          have H14 := Lib.hid (show Below w3.heap.size w3 w14 ∧ Cpy w14 s5 SA sa ∧ Cpy w14 s6 SB sb ∧ Nw w3.heap.size w14 bx scN ∧ Nw w3.heap.size w14 bv scN ∧ bx ≠ bv from ⟨H13.out.1.trans (hbz.mono H13.out.1.size), H13.out.2.1.below hbz, hcz, H13.out.2.2.1.below hbz, H13.out.2.2.2.1.below hbz, H13.out.2.2.2.2⟩)
          clear hbz hcz
          refine hK.out _ _ (SX.out _ H14.out.1) (fun hHeld => ?_)
          clear hK K H13
          try simp only [Act.put, List.getElem_toArray, List.getElem_cons_succ, List.getElem_cons_zero]
          try simp only [List.setIfInBounds_toArray]
          try simp only [List.set_cons_succ]
          try simp only [List.set_cons_zero]
          refine wpAnyH_ready (rs := [6]) (by kernel_rfl) (by simp) (AllReadyH.cons rfl (fun K hK => ?_) AllReadyH.nil)
          rw [if_pos (by rfl)]
          refine wp_store_S (.tmp 5) (.tmp 23) rfl bx scN s5 rfl rfl H14.out.2.2.2.1.sx ?_
          intro w15 hsx hgx
          have H15 := Lib.hid (show Below w3.heap.size w3 w15 ∧ Cpy w15 s5 SA sa ∧ Cpy w15 s6 SB sb ∧ Sx w15 bx s5 ∧ Sx w15 bv scN from ⟨H14.out.1.grown hgx H14.out.1.size (fun k hk => by injection hk with hk; have := H14.out.2.2.2.1.lo; omega), H14.out.2.1.store H14.out.2.2.2.1.sx hgx, H14.out.2.2.1.store H14.out.2.2.2.1.sx hgx, hsx, H14.out.2.2.2.2.1.sx.grown hgx (fun e => by injection e with e; exact H14.out.2.2.2.2.2 e)⟩)
          clear hsx hgx
          have HLO := Lib.hid (And.intro H14.out.2.2.2.1.lo (And.intro H14.out.2.2.2.2.1.lo H14.out.2.2.2.2.2))
          refine hK.out _ _ (SX.out _ H15.out.1) (fun hHeld => ?_)
          clear hK K H14
          try simp only [Act.put, List.getElem_toArray, List.getElem_cons_succ, List.getElem_cons_zero]
          try simp only [List.setIfInBounds_toArray]
          try simp only [List.set_cons_succ]
          try simp only [List.set_cons_zero]
          refine wpAnyH_ready (rs := [7]) (by kernel_rfl) (by simp) (AllReadyH.cons rfl (fun K hK => ?_) AllReadyH.nil)
          rw [if_pos (by rfl)]
          refine wp_store_S (.tmp 6) (.tmp 25) rfl bv scN s6 rfl rfl H15.out.2.2.2.2 ?_
          intro w16 hsx hgx
          have H16 := Lib.hid (show Below w3.heap.size w3 w16 ∧ Cpy w16 s5 SA sa ∧ Cpy w16 s6 SB sb ∧ Sx w16 bx s5 ∧ Sx w16 bv s6 from ⟨H15.out.1.grown hgx H15.out.1.size (fun k hk => by injection hk with hk; have := HLO.out.2.1; omega), H15.out.2.1.store H15.out.2.2.2.2 hgx, H15.out.2.2.1.store H15.out.2.2.2.2 hgx, H15.out.2.2.2.1.grown hgx (fun e => by injection e with e; exact HLO.out.2.2 e.symm), hsx⟩)
          clear hsx hgx
          refine hK.out _ _ (SX.out _ H16.out.1) (fun hHeld => ?_)
          clear hK K H15
          try simp only [Act.put, List.getElem_toArray, List.getElem_cons_succ, List.getElem_cons_zero]
          try simp only [List.setIfInBounds_toArray]
          try simp only [List.set_cons_succ]
          try simp only [List.set_cons_zero]
          refine wpAnyH_done (by kernel_rfl) ?_ _
          refine NoPanic.normal ?_
          try go_wp2_with fail
          go_meet
          case rel => exact ⟨_, _, s5, s6, rfl, rfl, H16.out.1, H16.out.2.1, H16.out.2.2.1, H16.out.2.2.2.1, H16.out.2.2.2.2⟩
    · rw [if_pos (by rfl)]
      go_simp
      obtain ⟨bv, hbv⟩ : ∃ q, q = w11.heap.size := ⟨_, rfl⟩
      obtain ⟨w12, hw12⟩ : ∃ q, q = w11.alloc (.cells #[.int .i64 0, .int .i64 0, .slice none 0 0, .int .i64 0, .int .i64 0, .bool false, .int .u8 0, .string ⟨#[]⟩, .slice none 0 0] 25) := ⟨_, rfl⟩
      have H12 := Lib.hid (show Below w3.heap.size w3 w12 ∧ Cpy w12 s5 SA sa ∧ Nw w3.heap.size w12 bv scN from by
       have hbz : Below w11.heap.size w11 w12 := by rw [hw12]; exact (Below.refl _ _).alloc (Nat.le_refl _) _
       exact ⟨H11.out.1.trans (hbz.mono H11.out.1.size), H11.out.2.below hbz, ⟨by rw [hw12, hbv]; exact Sx.new w11 scN, by rw [hbv]; exact H11.out.1.size⟩⟩)
      rw [← hw12, ← hbv]
      clear hw12 hbv
      refine hK.out _ _ (SX.out _ H12.out.1) (fun hHeld => ?_)
      clear hK K H11
      try simp only [Act.put, List.getElem_toArray, List.getElem_cons_succ, List.getElem_cons_zero]
      try simp only [List.setIfInBounds_toArray]
      try simp only [List.set_cons_succ]
      try simp only [List.set_cons_zero]
      refine wpAnyH_ready (rs := [3, 4]) (by kernel_rfl) (by simp) (AllReadyH.cons rfl (fun K hK => ?_) (AllReadyH.cons rfl (fun K hK => ?_) AllReadyH.nil))
      · rw [if_pos (by rfl)]
        go_simp
        refine (PB.out _ H12.out.1).mono ?_
        rintro e w13 ⟨hbz, s6, rfl, hcz⟩
        have H13 := Lib.hid (show Below w3.heap.size w3 w13 ∧ Cpy w13 s5 SA sa ∧ Cpy w13 s6 SB sb ∧ Nw w3.heap.size w13 bv scN from ⟨H12.out.1.trans (hbz.mono H12.out.1.size), H12.out.2.1.below hbz, hcz, H12.out.2.2.below hbz⟩)
        clear hbz hcz
        refine hK.out _ _ (SX.out _ H13.out.1) (fun hHeld => ?_)
        clear hK K H12
        try simp only [Act.put, List.getElem_toArray, List.getElem_cons_succ, List.getElem_cons_zero]
        try simp only [List.setIfInBounds_toArray]
        try simp only [List.set_cons_succ]
        try simp only [List.set_cons_zero]
        refine wpAnyH_ready (rs := [4]) (by kernel_rfl) (by simp) (AllReadyH.cons rfl (fun K hK => ?_) AllReadyH.nil)
        · rw [if_pos (by rfl)]
          go_simp
          obtain ⟨bx, hbx⟩ : ∃ q, q = w13.heap.size := ⟨_, rfl⟩
          obtain ⟨w14, hw14⟩ : ∃ q, q = w13.alloc (.cells #[.int .i64 0, .int .i64 0, .slice none 0 0, .int .i64 0, .int .i64 0, .bool false, .int .u8 0, .string ⟨#[]⟩, .slice none 0 0] 25) := ⟨_, rfl⟩
          have H14 := Lib.hid (show Below w3.heap.size w3 w14 ∧ Cpy w14 s5 SA sa ∧ Cpy w14 s6 SB sb ∧ Nw w3.heap.size w14 bx scN ∧ Nw w3.heap.size w14 bv scN ∧ bx ≠ bv from by
           have hbz : Below w13.heap.size w13 w14 := by rw [hw14]; exact (Below.refl _ _).alloc (Nat.le_refl _) _
           exact ⟨H13.out.1.trans (hbz.mono H13.out.1.size), H13.out.2.1.below hbz, H13.out.2.2.1.below hbz, ⟨by rw [hw14, hbx]; exact Sx.new w13 scN, by rw [hbx]; exact H13.out.1.size⟩, H13.out.2.2.2.below hbz, fun e => by have h1 := H13.out.2.2.2.sx.lt; omega⟩)
          rw [← hw14, ← hbx]
          clear hw14 hbx
          refine hK.out _ _ (SX.out _ H14.out.1) (fun hHeld => ?_)
          clear hK K H13
          try simp only [Act.put, List.getElem_toArray, List.getElem_cons_succ, List.getElem_cons_zero]
          try simp only [List.setIfInBounds_toArray]
          try simp only [List.set_cons_succ]
          try simp only [List.set_cons_zero]
          refine wpAnyH_ready (rs := [6]) (by kernel_rfl) (by simp) (AllReadyH.cons rfl (fun K hK => ?_) AllReadyH.nil)
          rw [if_pos (by rfl)]
          refine wp_store_S (.tmp 5) (.tmp 23) rfl bx scN s5 rfl rfl H14.out.2.2.2.1.sx ?_
          intro w15 hsx hgx
          have H15 := Lib.hid (show Below w3.heap.size w3 w15 ∧ Cpy w15 s5 SA sa ∧ Cpy w15 s6 SB sb ∧ Sx w15 bx s5 ∧ Sx w15 bv scN from ⟨H14.out.1.grown hgx H14.out.1.size (fun k hk => by injection hk with hk; have := H14.out.2.2.2.1.lo; omega), H14.out.2.1.store H14.out.2.2.2.1.sx hgx, H14.out.2.2.1.store H14.out.2.2.2.1.sx hgx, hsx, H14.out.2.2.2.2.1.sx.grown hgx (fun e => by injection e with e; exact H14.out.2.2.2.2.2 e)⟩)
          clear hsx hgx
          have HLO := Lib.hid (And.intro H14.out.2.2.2.1.lo (And.intro H14.out.2.2.2.2.1.lo H14.out.2.2.2.2.2))
          refine hK.out _ _ (SX.out _ H15.out.1) (fun hHeld => ?_)
          clear hK K H14
          try simp only [Act.put, List.getElem_toArray, List.getElem_cons_succ, List.getElem_cons_zero]
          try simp only [List.setIfInBounds_toArray]
          try simp only [List.set_cons_succ]
          try simp only [List.set_cons_zero]
          refine wpAnyH_ready (rs := [7]) (by kernel_rfl) (by simp) (AllReadyH.cons rfl (fun K hK => ?_) AllReadyH.nil)
          rw [if_pos (by rfl)]
          refine wp_store_S (.tmp 6) (.tmp 25) rfl bv scN s6 rfl rfl H15.out.2.2.2.2 ?_
          intro w16 hsx hgx
          have H16 := Lib.hid (show Below w3.heap.size w3 w16 ∧ Cpy w16 s5 SA sa ∧ Cpy w16 s6 SB sb ∧ Sx w16 bx s5 ∧ Sx w16 bv s6 from ⟨H15.out.1.grown hgx H15.out.1.size (fun k hk => by injection hk with hk; have := HLO.out.2.1; omega), H15.out.2.1.store H15.out.2.2.2.2 hgx, H15.out.2.2.1.store H15.out.2.2.2.2 hgx, H15.out.2.2.2.1.grown hgx (fun e => by injection e with e; exact HLO.out.2.2 e.symm), hsx⟩)
          clear hsx hgx
          refine hK.out _ _ (SX.out _ H16.out.1) (fun hHeld => ?_)
          clear hK K H15
          try simp only [Act.put, List.getElem_toArray, List.getElem_cons_succ, List.getElem_cons_zero]
          try simp only [List.setIfInBounds_toArray]
          try simp only [List.set_cons_succ]
          try simp only [List.set_cons_zero]
          refine wpAnyH_done (by kernel_rfl) ?_ _
          refine NoPanic.normal ?_
          try go_wp2_with fail
          go_meet
          case rel => exact ⟨_, _, s5, s6, rfl, rfl, H16.out.1, H16.out.2.1, H16.out.2.2.1, H16.out.2.2.2.1, H16.out.2.2.2.2⟩
      · rw [if_pos (by rfl)]
        go_simp
        obtain ⟨bx, hbx⟩ : ∃ q, q = w12.heap.size := ⟨_, rfl⟩
        obtain ⟨w13, hw13⟩ : ∃ q, q = w12.alloc (.cells #[.int .i64 0, .int .i64 0, .slice none 0 0, .int .i64 0, .int .i64 0, .bool false, .int .u8 0, .string ⟨#[]⟩, .slice none 0 0] 25) := ⟨_, rfl⟩
        have H13 := Lib.hid (show Below w3.heap.size w3 w13 ∧ Cpy w13 s5 SA sa ∧ Nw w3.heap.size w13 bx scN ∧ Nw w3.heap.size w13 bv scN ∧ bx ≠ bv from by
         have hbz : Below w12.heap.size w12 w13 := by rw [hw13]; exact (Below.refl _ _).alloc (Nat.le_refl _) _
         exact ⟨H12.out.1.trans (hbz.mono H12.out.1.size), H12.out.2.1.below hbz, ⟨by rw [hw13, hbx]; exact Sx.new w12 scN, by rw [hbx]; exact H12.out.1.size⟩, H12.out.2.2.below hbz, fun e => by have h1 := H12.out.2.2.sx.lt; omega⟩)
        rw [← hw13, ← hbx]
        clear hw13 hbx
        refine hK.out _ _ (SX.out _ H13.out.1) (fun hHeld => ?_)
        clear hK K H12
        try simp only [Act.put, List.getElem_toArray, List.getElem_cons_succ, List.getElem_cons_zero]
        try simp only [List.setIfInBounds_toArray]
        try simp only [List.set_cons_succ]
        try simp only [List.set_cons_zero]
        refine wpAnyH_ready (rs := [3]) (by kernel_rfl) (by simp) (AllReadyH.cons rfl (fun K hK => ?_) AllReadyH.nil)
        · rw [if_pos (by rfl)]
          go_simp
          refine (PB.out _ H13.out.1).mono ?_
          rintro e w14 ⟨hbz, s6, rfl, hcz⟩
          have H14 := Lib.hid (show Below w3.heap.size w3 w14 ∧ Cpy w14 s5 SA sa ∧ Cpy w14 s6 SB sb ∧ Nw w3.heap.size w14 bx scN ∧ Nw w3.heap.size w14 bv scN ∧ bx ≠ bv from ⟨H13.out.1.trans (hbz.mono H13.out.1.size), H13.out.2.1.below hbz, hcz, H13.out.2.2.1.below hbz, H13.out.2.2.2.1.below hbz, H13.out.2.2.2.2⟩)
          clear hbz hcz
          refine hK.out _ _ (SX.out _ H14.out.1) (fun hHeld => ?_)
          clear hK K H13
          try simp only [Act.put, List.getElem_toArray, List.getElem_cons_succ, List.getElem_cons_zero]
          try simp only [List.setIfInBounds_toArray]
          try simp only [List.set_cons_succ]
          try simp only [List.set_cons_zero]
          refine wpAnyH_ready (rs := [6]) (by kernel_rfl) (by simp) (AllReadyH.cons rfl (fun K hK => ?_) AllReadyH.nil)
          rw [if_pos (by rfl)]
          refine wp_store_S (.tmp 5) (.tmp 23) rfl bx scN s5 rfl rfl H14.out.2.2.2.1.sx ?_
          intro w15 hsx hgx
          have H15 := Lib.hid (show Below w3.heap.size w3 w15 ∧ Cpy w15 s5 SA sa ∧ Cpy w15 s6 SB sb ∧ Sx w15 bx s5 ∧ Sx w15 bv scN from ⟨H14.out.1.grown hgx H14.out.1.size (fun k hk => by injection hk with hk; have := H14.out.2.2.2.1.lo; omega), H14.out.2.1.store H14.out.2.2.2.1.sx hgx, H14.out.2.2.1.store H14.out.2.2.2.1.sx hgx, hsx, H14.out.2.2.2.2.1.sx.grown hgx (fun e => by injection e with e; exact H14.out.2.2.2.2.2 e)⟩)
          clear hsx hgx
          have HLO := Lib.hid (And.intro H14.out.2.2.2.1.lo (And.intro H14.out.2.2.2.2.1.lo H14.out.2.2.2.2.2))
          refine hK.out _ _ (SX.out _ H15.out.1) (fun hHeld => ?_)
          clear hK K H14
          try simp only [Act.put, List.getElem_toArray, List.getElem_cons_succ, List.getElem_cons_zero]
          try simp only [List.setIfInBounds_toArray]
          try simp only [List.set_cons_succ]
          try simp only [List.set_cons_zero]
          refine wpAnyH_ready (rs := [7]) (by kernel_rfl) (by simp) (AllReadyH.cons rfl (fun K hK => ?_) AllReadyH.nil)
          rw [if_pos (by rfl)]
          refine wp_store_S (.tmp 6) (.tmp 25) rfl bv scN s6 rfl rfl H15.out.2.2.2.2 ?_
          intro w16 hsx hgx
          have H16 := Lib.hid (show Below w3.heap.size w3 w16 ∧ Cpy w16 s5 SA sa ∧ Cpy w16 s6 SB sb ∧ Sx w16 bx s5 ∧ Sx w16 bv s6 from ⟨H15.out.1.grown hgx H15.out.1.size (fun k hk => by injection hk with hk; have := HLO.out.2.1; omega), H15.out.2.1.store H15.out.2.2.2.2 hgx, H15.out.2.2.1.store H15.out.2.2.2.2 hgx, H15.out.2.2.2.1.grown hgx (fun e => by injection e with e; exact HLO.out.2.2 e.symm), hsx⟩)
          clear hsx hgx
          refine hK.out _ _ (SX.out _ H16.out.1) (fun hHeld => ?_)
          clear hK K H15
          try simp only [Act.put, List.getElem_toArray, List.getElem_cons_succ, List.getElem_cons_zero]
          try simp only [List.setIfInBounds_toArray]
          try simp only [List.set_cons_succ]
          try simp only [List.set_cons_zero]
          refine wpAnyH_done (by kernel_rfl) ?_ _
          refine NoPanic.normal ?_
          try go_wp2_with fail
          go_meet
          case rel => exact ⟨_, _, s5, s6, rfl, rfl, H16.out.1, H16.out.2.1, H16.out.2.2.1, H16.out.2.2.2.1, H16.out.2.2.2.2⟩
  · rw [if_pos (by rfl)]
    go_simp
    obtain ⟨bx, hbx⟩ : ∃ q, q = w10.heap.size := ⟨_, rfl⟩
    obtain ⟨w11, hw11⟩ : ∃ q, q = w10.alloc (.cells #[.int .i64 0, .int .i64 0, .slice none 0 0, .int .i64 0, .int .i64 0, .bool false, .int .u8 0, .string ⟨#[]⟩, .slice none 0 0] 25) := ⟨_, rfl⟩
    have H11 := Lib.hid (show Below w3.heap.size w3 w11 ∧ Nw w3.heap.size w11 bx scN from by
     have hbz : Below w10.heap.size w10 w11 := by rw [hw11]; exact (Below.refl _ _).alloc (Nat.le_refl _) _
     exact ⟨H10.out.trans (hbz.mono H10.out.size), ⟨by rw [hw11, hbx]; exact Sx.new w10 scN, by rw [hbx]; exact H10.out.size⟩⟩)
    rw [← hw11, ← hbx]
    clear hw11 hbx
    refine hK.out _ _ (SX.out _ H11.out.1) (fun hHeld => ?_)
    clear hK K H10
    try simp only [Act.put, List.getElem_toArray, List.getElem_cons_succ, List.getElem_cons_zero]
    try simp only [List.setIfInBounds_toArray]
    try simp only [List.set_cons_succ]
    try simp only [List.set_cons_zero]
    refine wpAnyH_ready (rs := [1, 5]) (by kernel_rfl) (by simp) (AllReadyH.cons rfl (fun K hK => ?_) (AllReadyH.cons rfl (fun K hK => ?_) AllReadyH.nil))
    · rw [if_pos (by rfl)]
      go_simp
      refine (PA.out _ H11.out.1).mono ?_
      rintro e w12 ⟨hbz, s5, rfl, hcz⟩
      have H12 := Lib.hid (show Below w3.heap.size w3 w12 ∧ Cpy w12 s5 SA sa ∧ Nw w3.heap.size w12 bx scN from ⟨H11.out.1.trans (hbz.mono H11.out.1.size), hcz, H11.out.2.below hbz⟩)
      clear hbz hcz
      refine hK.out _ _ (SX.out _ H12.out.1) (fun hHeld => ?_)
      clear hK K H11
      try simp only [Act.put, List.getElem_toArray, List.getElem_cons_succ, List.getElem_cons_zero]
      try simp only [List.setIfInBounds_toArray]
      try simp only [List.set_cons_succ]
      try simp only [List.set_cons_zero]
      refine wpAnyH_ready (rs := [3, 5]) (by kernel_rfl) (by simp) (AllReadyH.cons rfl (fun K hK => ?_) (AllReadyH.cons rfl (fun K hK => ?_) AllReadyH.nil))
      · rw [if_pos (by rfl)]
        go_simp
        refine (PB.out _ H12.out.1).mono ?_
        rintro e w13 ⟨hbz, s6, rfl, hcz⟩
        have H13 := Lib.hid (show Below w3.heap.size w3 w13 ∧ Cpy w13 s5 SA sa ∧ Cpy w13 s6 SB sb ∧ Nw w3.heap.size w13 bx scN from ⟨H12.out.1.trans (hbz.mono H12.out.1.size), H12.out.2.1.below hbz, hcz, H12.out.2.2.below hbz⟩)
        clear hbz hcz
        refine hK.out _ _ (SX.out _ H13.out.1) (fun hHeld => ?_)
        clear hK K H12
        try simp only [Act.put, List.getElem_toArray, List.getElem_cons_succ, List.getElem_cons_zero]
        try simp only [List.setIfInBounds_toArray]
        try simp only [List.set_cons_succ]
        try simp only [List.set_cons_zero]
        refine wpAnyH_ready (rs := [5]) (by kernel_rfl) (by simp) (AllReadyH.cons rfl (fun K hK => ?_) AllReadyH.nil)
        · rw [if_pos (by rfl)]
          go_simp
          obtain ⟨bv, hbv⟩ : ∃ q, q = w13.heap.size := ⟨_, rfl⟩
          obtain ⟨w14, hw14⟩ : ∃ q, q = w13.alloc (.cells #[.int .i64 0, .int .i64 0, .slice none 0 0, .int .i64 0, .int .i64 0, .bool false, .int .u8 0, .string ⟨#[]⟩, .slice none 0 0] 25) := ⟨_, rfl⟩
          have H14 := Lib.hid (show Below w3.heap.size w3 w14 ∧ Cpy w14 s5 SA sa ∧ Cpy w14 s6 SB sb ∧ Nw w3.heap.size w14 bx scN ∧ Nw w3.heap.size w14 bv scN ∧ bx ≠ bv from by
           have hbz : Below w13.heap.size w13 w14 := by rw [hw14]; exact (Below.refl _ _).alloc (Nat.le_refl _) _
           exact ⟨H13.out.1.trans (hbz.mono H13.out.1.size), H13.out.2.1.below hbz, H13.out.2.2.1.below hbz, H13.out.2.2.2.below hbz, ⟨by rw [hw14, hbv]; exact Sx.new w13 scN, by rw [hbv]; exact H13.out.1.size⟩, fun e => by have h1 := H13.out.2.2.2.sx.lt; omega⟩)
          rw [← hw14, ← hbv]
          clear hw14 hbv
          refine hK.out _ _ (SX.out _ H14.out.1) (fun hHeld => ?_)
          clear hK K H13
          try simp only [Act.put, List.getElem_toArray, List.getElem_cons_succ, List.getElem_cons_zero]
          try simp only [List.setIfInBounds_toArray]
          try simp only [List.set_cons_succ]
          try simp only [List.set_cons_zero]
          refine wpAnyH_ready (rs := [6]) (by kernel_rfl) (by simp) (AllReadyH.cons rfl (fun K hK => ?_) AllReadyH.nil)
          rw [if_pos (by rfl)]
          refine wp_store_S (.tmp 5) (.tmp 23) rfl bx scN s5 rfl rfl H14.out.2.2.2.1.sx ?_
          intro w15 hsx hgx
          have H15 := Lib.hid (show Below w3.heap.size w3 w15 ∧ Cpy w15 s5 SA sa ∧ Cpy w15 s6 SB sb ∧ Sx w15 bx s5 ∧ Sx w15 bv scN from ⟨H14.out.1.grown hgx H14.out.1.size (fun k hk => by injection hk with hk; have := H14.out.2.2.2.1.lo; omega), H14.out.2.1.store H14.out.2.2.2.1.sx hgx, H14.out.2.2.1.store H14.out.2.2.2.1.sx hgx, hsx, H14.out.2.2.2.2.1.sx.grown hgx (fun e => by injection e with e; exact H14.out.2.2.2.2.2 e)⟩)
          clear hsx hgx
          have HLO := Lib.hid (And.intro H14.out.2.2.2.1.lo (And.intro H14.out.2.2.2.2.1.lo H14.out.2.2.2.2.2))
          refine hK.out _ _ (SX.out _ H15.out.1) (fun hHeld => ?_)
          clear hK K H14
          try simp only [Act.put, List.getElem_toArray, List.getElem_cons_succ, List.getElem_cons_zero]
          try simp only [List.setIfInBounds_toArray]
          try simp only [List.set_cons_succ]
          try simp only [List.set_cons_zero]
          refine wpAnyH_ready (rs := [7]) (by kernel_rfl) (by simp) (AllReadyH.cons rfl (fun K hK => ?_) AllReadyH.nil)
          rw [if_pos (by rfl)]
          refine wp_store_S (.tmp 6) (.tmp 25) rfl bv scN s6 rfl rfl H15.out.2.2.2.2 ?_
          intro w16 hsx hgx
          have H16 := Lib.hid (show Below w3.heap.size w3 w16 ∧ Cpy w16 s5 SA sa ∧ Cpy w16 s6 SB sb ∧ Sx w16 bx s5 ∧ Sx w16 bv s6 from ⟨H15.out.1.grown hgx H15.out.1.size (fun k hk => by injection hk with hk; have := HLO.out.2.1; omega), H15.out.2.1.store H15.out.2.2.2.2 hgx, H15.out.2.2.1.store H15.out.2.2.2.2 hgx, H15.out.2.2.2.1.grown hgx (fun e => by injection e with e; exact HLO.out.2.2 e.symm), hsx⟩)
          clear hsx hgx
          refine hK.out _ _ (SX.out _ H16.out.1) (fun hHeld => ?_)
          clear hK K H15
          try simp only [Act.put, List.getElem_toArray, List.getElem_cons_succ, List.getElem_cons_zero]
          try simp only [List.setIfInBounds_toArray]
          try simp only [List.set_cons_succ]
          try simp only [List.set_cons_zero]
          refine wpAnyH_done (by kernel_rfl) ?_ _
          refine NoPanic.normal ?_
          try go_wp2_with fail
          go_meet
          case rel => exact ⟨_, _, s5, s6, rfl, rfl, H16.out.1, H16.out.2.1, H16.out.2.2.1, H16.out.2.2.2.1, H16.out.2.2.2.2⟩
      · rw [if_pos (by rfl)]
        go_simp
        obtain ⟨bv, hbv⟩ : ∃ q, q = w12.heap.size := ⟨_, rfl⟩
        obtain ⟨w13, hw13⟩ : ∃ q, q = w12.alloc (.cells #[.int .i64 0, .int .i64 0, .slice none 0 0, .int .i64 0, .int .i64 0, .bool false, .int .u8 0, .string ⟨#[]⟩, .slice none 0 0] 25) := ⟨_, rfl⟩
        have H13 := Lib.hid (show Below w3.heap.size w3 w13 ∧ Cpy w13 s5 SA sa ∧ Nw w3.heap.size w13 bx scN ∧ Nw w3.heap.size w13 bv scN ∧ bx ≠ bv from by
         have hbz : Below w12.heap.size w12 w13 := by rw [hw13]; exact (Below.refl _ _).alloc (Nat.le_refl _) _
         exact ⟨H12.out.1.trans (hbz.mono H12.out.1.size), H12.out.2.1.below hbz, H12.out.2.2.below hbz, ⟨by rw [hw13, hbv]; exact Sx.new w12 scN, by rw [hbv]; exact H12.out.1.size⟩, fun e => by have h1 := H12.out.2.2.sx.lt; omega⟩)
        rw [← hw13, ← hbv]
        clear hw13 hbv
        refine hK.out _ _ (SX.out _ H13.out.1) (fun hHeld => ?_)
        clear hK K H12
        try simp only [Act.put, List.getElem_toArray, List.getElem_cons_succ, List.getElem_cons_zero]
        try simp only [List.setIfInBounds_toArray]
        try simp only [List.set_cons_succ]
        try simp only [List.set_cons_zero]
        refine wpAnyH_ready (rs := [3]) (by kernel_rfl) (by simp) (AllReadyH.cons rfl (fun K hK => ?_) AllReadyH.nil)
        · rw [if_pos (by rfl)]
          go_simp
          refine (PB.out _ H13.out.1).mono ?_
          rintro e w14 ⟨hbz, s6, rfl, hcz⟩
          have H14 := Lib.hid (show Below w3.heap.size w3 w14 ∧ Cpy w14 s5 SA sa ∧ Cpy w14 s6 SB sb ∧ Nw w3.heap.size w14 bx scN ∧ Nw w3.heap.size w14 bv scN ∧ bx ≠ bv from ⟨H13.out.1.trans (hbz.mono H13.out.1.size), H13.out.2.1.below hbz, hcz, H13.out.2.2.1.below hbz, H13.out.2.2.2.1.below hbz, H13.out.2.2.2.2⟩)
          clear hbz hcz
          refine hK.out _ _ (SX.out _ H14.out.1) (fun hHeld => ?_)
          clear hK K H13
          try simp only [Act.put, List.getElem_toArray, List.getElem_cons_succ, List.getElem_cons_zero]
          try simp only [List.setIfInBounds_toArray]
          try simp only [List.set_cons_succ]
          try simp only [List.set_cons_zero]
          refine wpAnyH_ready (rs := [6]) (by kernel_rfl) (by simp) (AllReadyH.cons rfl (fun K hK => ?_) AllReadyH.nil)
          rw [if_pos (by rfl)]
          refine wp_store_S (.tmp 5) (.tmp 23) rfl bx scN s5 rfl rfl H14.out.2.2.2.1.sx ?_
          intro w15 hsx hgx
          have H15 := Lib.hid (show Below w3.heap.size w3 w15 ∧ Cpy w15 s5 SA sa ∧ Cpy w15 s6 SB sb ∧ Sx w15 bx s5 ∧ Sx w15 bv scN from ⟨H14.out.1.grown hgx H14.out.1.size (fun k hk => by injection hk with hk; have := H14.out.2.2.2.1.lo; omega), H14.out.2.1.store H14.out.2.2.2.1.sx hgx, H14.out.2.2.1.store H14.out.2.2.2.1.sx hgx, hsx, H14.out.2.2.2.2.1.sx.grown hgx (fun e => by injection e with e; exact H14.out.2.2.2.2.2 e)⟩)
          clear hsx hgx
          have HLO := Lib.hid (And.intro H14.out.2.2.2.1.lo (And.intro H14.out.2.2.2.2.1.lo H14.out.2.2.2.2.2))
          refine hK.out _ _ (SX.out _ H15.out.1) (fun hHeld => ?_)
          clear hK K H14
          try simp only [Act.put, List.getElem_toArray, List.getElem_cons_succ, List.getElem_cons_zero]
          try simp only [List.setIfInBounds_toArray]
          try simp only [List.set_cons_succ]
          try simp only [List.set_cons_zero]
          refine wpAnyH_ready (rs := [7]) (by kernel_rfl) (by simp) (AllReadyH.cons rfl (fun K hK => ?_) AllReadyH.nil)
          rw [if_pos (by rfl)]
          refine wp_store_S (.tmp 6) (.tmp 25) rfl bv scN s6 rfl rfl H15.out.2.2.2.2 ?_
          intro w16 hsx hgx
          have H16 := Lib.hid (show Below w3.heap.size w3 w16 ∧ Cpy w16 s5 SA sa ∧ Cpy w16 s6 SB sb ∧ Sx w16 bx s5 ∧ Sx w16 bv s6 from ⟨H15.out.1.grown hgx H15.out.1.size (fun k hk => by injection hk with hk; have := HLO.out.2.1; omega), H15.out.2.1.store H15.out.2.2.2.2 hgx, H15.out.2.2.1.store H15.out.2.2.2.2 hgx, H15.out.2.2.2.1.grown hgx (fun e => by injection e with e; exact HLO.out.2.2 e.symm), hsx⟩)
          clear hsx hgx
          refine hK.out _ _ (SX.out _ H16.out.1) (fun hHeld => ?_)
          clear hK K H15
          try simp only [Act.put, List.getElem_toArray, List.getElem_cons_succ, List.getElem_cons_zero]
          try simp only [List.setIfInBounds_toArray]
          try simp only [List.set_cons_succ]
          try simp only [List.set_cons_zero]
          refine wpAnyH_done (by kernel_rfl) ?_ _
          refine NoPanic.normal ?_
          try go_wp2_with fail
          go_meet
          case rel => exact ⟨_, _, s5, s6, rfl, rfl, H16.out.1, H16.out.2.1, H16.out.2.2.1, H16.out.2.2.2.1, H16.out.2.2.2.2⟩
    · rw [if_pos (by rfl)]
      go_simp
      obtain ⟨bv, hbv⟩ : ∃ q, q = w11.heap.size := ⟨_, rfl⟩
      obtain ⟨w12, hw12⟩ : ∃ q, q = w11.alloc (.cells #[.int .i64 0, .int .i64 0, .slice none 0 0, .int .i64 0, .int .i64 0, .bool false, .int .u8 0, .string ⟨#[]⟩, .slice none 0 0] 25) := ⟨_, rfl⟩
      have H12 := Lib.hid (show Below w3.heap.size w3 w12 ∧ Nw w3.heap.size w12 bx scN ∧ Nw w3.heap.size w12 bv scN ∧ bx ≠ bv from by
       have hbz : Below w11.heap.size w11 w12 := by rw [hw12]; exact (Below.refl _ _).alloc (Nat.le_refl _) _
       exact ⟨H11.out.1.trans (hbz.mono H11.out.1.size), H11.out.2.below hbz, ⟨by rw [hw12, hbv]; exact Sx.new w11 scN, by rw [hbv]; exact H11.out.1.size⟩, fun e => by have h1 := H11.out.2.sx.lt; omega⟩)
      rw [← hw12, ← hbv]
      clear hw12 hbv
      refine hK.out _ _ (SX.out _ H12.out.1) (fun hHeld => ?_)
      clear hK K H11
      try simp only [Act.put, List.getElem_toArray, List.getElem_cons_succ, List.getElem_cons_zero]
      try simp only [List.setIfInBounds_toArray]
      try simp only [List.set_cons_succ]
      try simp only [List.set_cons_zero]
      refine wpAnyH_ready (rs := [1]) (by kernel_rfl) (by simp) (AllReadyH.cons rfl (fun K hK => ?_) AllReadyH.nil)
      · rw [if_pos (by rfl)]
        go_simp
        refine (PA.out _ H12.out.1).mono ?_
        rintro e w13 ⟨hbz, s5, rfl, hcz⟩
        have H13 := Lib.hid (show Below w3.heap.size w3 w13 ∧ Cpy w13 s5 SA sa ∧ Nw w3.heap.size w13 bx scN ∧ Nw w3.heap.size w13 bv scN ∧ bx ≠ bv from ⟨H12.out.1.trans (hbz.mono H12.out.1.size), hcz, H12.out.2.1.below hbz, H12.out.2.2.1.below hbz, H12.out.2.2.2⟩)
        clear hbz hcz
        refine hK.out _ _ (SX.out _ H13.out.1) (fun hHeld => ?_)
        clear hK K H12
        try simp only [Act.put, List.getElem_toArray, List.getElem_cons_succ, List.getElem_cons_zero]
        try simp only [List.setIfInBounds_toArray]
        try simp only [List.set_cons_succ]
        try simp only [List.set_cons_zero]
        refine wpAnyH_ready (rs := [3]) (by kernel_rfl) (by simp) (AllReadyH.cons rfl (fun K hK => ?_) AllReadyH.nil)
        · rw [if_pos (by rfl)]
          go_simp
          refine (PB.out _ H13.out.1).mono ?_
          rintro e w14 ⟨hbz, s6, rfl, hcz⟩
          have H14 := Lib.hid (show Below w3.heap.size w3 w14 ∧ Cpy w14 s5 SA sa ∧ Cpy w14 s6 SB sb ∧ Nw w3.heap.size w14 bx scN ∧ Nw w3.heap.size w14 bv scN ∧ bx ≠ bv from ⟨H13.out.1.trans (hbz.mono H13.out.1.size), H13.out.2.1.below hbz, hcz, H13.out.2.2.1.below hbz, H13.out.2.2.2.1.below hbz, H13.out.2.2.2.2⟩)
          clear hbz hcz
          refine hK.out _ _ (SX.out _ H14.out.1) (fun hHeld => ?_)
          clear hK K H13
          try simp only [Act.put, List.getElem_toArray, List.getElem_cons_succ, List.getElem_cons_zero]
          try simp only [List.setIfInBounds_toArray]
          try simp only [List.set_cons_succ]
          try simp only [List.set_cons_zero]
          refine wpAnyH_ready (rs := [6]) (by kernel_rfl) (by simp) (AllReadyH.cons rfl (fun K hK => ?_) AllReadyH.nil)
          rw [if_pos (by rfl)]
          refine wp_store_S (.tmp 5) (.tmp 23) rfl bx scN s5 rfl rfl H14.out.2.2.2.1.sx ?_
          intro w15 hsx hgx
          have H15 := Lib.hid (show Below w3.heap.size w3 w15 ∧ Cpy w15 s5 SA sa ∧ Cpy w15 s6 SB sb ∧ Sx w15 bx s5 ∧ Sx w15 bv scN from ⟨H14.out.1.grown hgx H14.out.1.size (fun k hk => by injection hk with hk; have := H14.out.2.2.2.1.lo; omega), H14.out.2.1.store H14.out.2.2.2.1.sx hgx, H14.out.2.2.1.store H14.out.2.2.2.1.sx hgx, hsx, H14.out.2.2.2.2.1.sx.grown hgx (fun e => by injection e with e; exact H14.out.2.2.2.2.2 e)⟩)
          clear hsx hgx
          have HLO := Lib.hid (And.intro H14.out.2.2.2.1.lo (And.intro H14.out.2.2.2.2.1.lo H14.out.2.2.2.2.2))
          refine hK.out _ _ (SX.out _ H15.out.1) (fun hHeld => ?_)
          clear hK K H14
          try simp only [Act.put, List.getElem_toArray, List.getElem_cons_succ, List.getElem_cons_zero]
          try simp only [List.setIfInBounds_toArray]
          try simp only [List.set_cons_succ]
          try simp only [List.set_cons_zero]
          refine wpAnyH_ready (rs := [7]) (by kernel_rfl) (by simp) (AllReadyH.cons rfl (fun K hK => ?_) AllReadyH.nil)
          rw [if_pos (by rfl)]
          refine wp_store_S (.tmp 6) (.tmp 25) rfl bv scN s6 rfl rfl H15.out.2.2.2.2 ?_
          intro w16 hsx hgx
          have H16 := Lib.hid (show Below w3.heap.size w3 w16 ∧ Cpy w16 s5 SA sa ∧ Cpy w16 s6 SB sb ∧ Sx w16 bx s5 ∧ Sx w16 bv s6 from ⟨H15.out.1.grown hgx H15.out.1.size (fun k hk => by injection hk with hk; have := HLO.out.2.1; omega), H15.out.2.1.store H15.out.2.2.2.2 hgx, H15.out.2.2.1.store H15.out.2.2.2.2 hgx, H15.out.2.2.2.1.grown hgx (fun e => by injection e with e; exact HLO.out.2.2 e.symm), hsx⟩)
          clear hsx hgx
          refine hK.out _ _ (SX.out _ H16.out.1) (fun hHeld => ?_)
          clear hK K H15
          try simp only [Act.put, List.getElem_toArray, List.getElem_cons_succ, List.getElem_cons_zero]
          try simp only [List.setIfInBounds_toArray]
          try simp only [List.set_cons_succ]
          try simp only [List.set_cons_zero]
          refine wpAnyH_done (by kernel_rfl) ?_ _
          refine NoPanic.normal ?_
          try go_wp2_with fail
          go_meet
          case rel => exact ⟨_, _, s5, s6, rfl, rfl, H16.out.1, H16.out.2.1, H16.out.2.2.1, H16.out.2.2.2.1, H16.out.2.2.2.2⟩
  · rw [if_pos (by rfl)]
    go_simp
    obtain ⟨bv, hbv⟩ : ∃ q, q = w10.heap.size := ⟨_, rfl⟩
    obtain ⟨w11, hw11⟩ : ∃ q, q = w10.alloc (.cells #[.int .i64 0, .int .i64 0, .slice none 0 0, .int .i64 0, .int .i64 0, .bool false, .int .u8 0, .string ⟨#[]⟩, .slice none 0 0] 25) := ⟨_, rfl⟩
    have H11 := Lib.hid (show Below w3.heap.size w3 w11 ∧ Nw w3.heap.size w11 bv scN from by
     have hbz : Below w10.heap.size w10 w11 := by rw [hw11]; exact (Below.refl _ _).alloc (Nat.le_refl _) _
     exact ⟨H10.out.trans (hbz.mono H10.out.size), ⟨by rw [hw11, hbv]; exact Sx.new w10 scN, by rw [hbv]; exact H10.out.size⟩⟩)
    rw [← hw11, ← hbv]
    clear hw11 hbv
    refine hK.out _ _ (SX.out _ H11.out.1) (fun hHeld => ?_)
    clear hK K H10
    try simp only [Act.put, List.getElem_toArray, List.getElem_cons_succ, List.getElem_cons_zero]
    try simp only [List.setIfInBounds_toArray]
    try simp only [List.set_cons_succ]
    try simp only [List.set_cons_zero]
    refine wpAnyH_ready (rs := [1, 4]) (by kernel_rfl) (by simp) (AllReadyH.cons rfl (fun K hK => ?_) (AllReadyH.cons rfl (fun K hK => ?_) AllReadyH.nil))
    · rw [if_pos (by rfl)]
      go_simp
      refine (PA.out _ H11.out.1).mono ?_
      rintro e w12 ⟨hbz, s5, rfl, hcz⟩
      have H12 := Lib.hid (show Below w3.heap.size w3 w12 ∧ Cpy w12 s5 SA sa ∧ Nw w3.heap.size w12 bv scN from ⟨H11.out.1.trans (hbz.mono H11.out.1.size), hcz, H11.out.2.below hbz⟩)
      clear hbz hcz
      refine hK.out _ _ (SX.out _ H12.out.1) (fun hHeld => ?_)
      clear hK K H11
      try simp only [Act.put, List.getElem_toArray, List.getElem_cons_succ, List.getElem_cons_zero]
      try simp only [List.setIfInBounds_toArray]
      try simp only [List.set_cons_succ]
      try simp only [List.set_cons_zero]
      refine wpAnyH_ready (rs := [3, 4]) (by kernel_rfl) (by simp) (AllReadyH.cons rfl (fun K hK => ?_) (AllReadyH.cons rfl (fun K hK => ?_) AllReadyH.nil))
      · rw [if_pos (by rfl)]
        go_simp
        refine (PB.out _ H12.out.1).mono ?_
        rintro e w13 ⟨hbz, s6, rfl, hcz⟩
        have H13 := Lib.hid (show Below w3.heap.size w3 w13 ∧ Cpy w13 s5 SA sa ∧ Cpy w13 s6 SB sb ∧ Nw w3.heap.size w13 bv scN from ⟨H12.out.1.trans (hbz.mono H12.out.1.size), H12.out.2.1.below hbz, hcz, H12.out.2.2.below hbz⟩)
        clear hbz hcz
        refine hK.out _ _ (SX.out _ H13.out.1) (fun hHeld => ?_)
        clear hK K H12
        try simp only [Act.put, List.getElem_toArray, List.getElem_cons_succ, List.getElem_cons_zero]
        try simp only [List.setIfInBounds_toArray]
        try simp only [List.set_cons_succ]
        try simp only [List.set_cons_zero]
        refine wpAnyH_ready (rs := [4]) (by kernel_rfl) (by simp) (AllReadyH.cons rfl (fun K hK => ?_) AllReadyH.nil)
        · rw [if_pos (by rfl)]
          go_simp
          obtain ⟨bx, hbx⟩ : ∃ q, q = w13.heap.size := ⟨_, rfl⟩
          obtain ⟨w14, hw14⟩ : ∃ q, q = w13.alloc (.cells #[.int .i64 0, .int .i64 0, .slice none 0 0, .int .i64 0, .int .i64 0, .bool false, .int .u8 0, .string ⟨#[]⟩, .slice none 0 0] 25) := ⟨_, rfl⟩
          have H14 := Lib.hid (show Below w3.heap.size w3 w14 ∧ Cpy w14 s5 SA sa ∧ Cpy w14 s6 SB sb ∧ Nw w3.heap.size w14 bx scN ∧ Nw w3.heap.size w14 bv scN ∧ bx ≠ bv from by
           have hbz : Below w13.heap.size w13 w14 := by rw [hw14]; exact (Below.refl _ _).alloc (Nat.le_refl _) _
           exact ⟨H13.out.1.trans (hbz.mono H13.out.1.size), H13.out.2.1.below hbz, H13.out.2.2.1.below hbz, ⟨by rw [hw14, hbx]; exact Sx.new w13 scN, by rw [hbx]; exact H13.out.1.size⟩, H13.out.2.2.2.below hbz, fun e => by have h1 := H13.out.2.2.2.sx.lt; omega⟩)
          rw [← hw14, ← hbx]
          clear hw14 hbx
          refine hK.out _ _ (SX.out _ H14.out.1) (fun hHeld => ?_)
          clear hK K H13
          try simp only [Act.put, List.getElem_toArray, List.getElem_cons_succ, List.getElem_cons_zero]
          try simp only [List.setIfInBounds_toArray]
          try simp only [List.set_cons_succ]
          try simp only [List.set_cons_zero]
          refine wpAnyH_ready (rs := [6]) (by kernel_rfl) (by simp) (AllReadyH.cons rfl (fun K hK => ?_) AllReadyH.nil)
          rw [if_pos (by rfl)]
          refine wp_store_S (.tmp 5) (.tmp 23) rfl bx scN s5 rfl rfl H14.out.2.2.2.1.sx ?_
          intro w15 hsx hgx
          have H15 := Lib.hid (show Below w3.heap.size w3 w15 ∧ Cpy w15 s5 SA sa ∧ Cpy w15 s6 SB sb ∧ Sx w15 bx s5 ∧ Sx w15 bv scN from ⟨H14.out.1.grown hgx H14.out.1.size (fun k hk => by injection hk with hk; have := H14.out.2.2.2.1.lo; omega), H14.out.2.1.store H14.out.2.2.2.1.sx hgx, H14.out.2.2.1.store H14.out.2.2.2.1.sx hgx, hsx, H14.out.2.2.2.2.1.sx.grown hgx (fun e => by injection e with e; exact H14.out.2.2.2.2.2 e)⟩)
          clear hsx hgx
          have HLO := Lib.hid (And.intro H14.out.2.2.2.1.lo (And.intro H14.out.2.2.2.2.1.lo H14.out.2.2.2.2.2))
          refine hK.out _ _ (SX.out _ H15.out.1) (fun hHeld => ?_)
          clear hK K H14
          try simp only [Act.put, List.getElem_toArray, List.getElem_cons_succ, List.getElem_cons_zero]
          try simp only [List.setIfInBounds_toArray]
          try simp only [List.set_cons_succ]
          try simp only [List.set_cons_zero]
          refine wpAnyH_ready (rs := [7]) (by kernel_rfl) (by simp) (AllReadyH.cons rfl (fun K hK => ?_) AllReadyH.nil)
          rw [if_pos (by rfl)]
          refine wp_store_S (.tmp 6) (.tmp 25) rfl bv scN s6 rfl rfl H15.out.2.2.2.2 ?_
          intro w16 hsx hgx
          have H16 := Lib.hid (show Below w3.heap.size w3 w16 ∧ Cpy w16 s5 SA sa ∧ Cpy w16 s6 SB sb ∧ Sx w16 bx s5 ∧ Sx w16 bv s6 from ⟨H15.out.1.grown hgx H15.out.1.size (fun k hk => by injection hk with hk; have := HLO.out.2.1; omega), H15.out.2.1.store H15.out.2.2.2.2 hgx, H15.out.2.2.1.store H15.out.2.2.2.2 hgx, H15.out.2.2.2.1.grown hgx (fun e => by injection e with e; exact HLO.out.2.2 e.symm), hsx⟩)
          clear hsx hgx
          refine hK.out _ _ (SX.out _ H16.out.1) (fun hHeld => ?_)
          clear hK K H15
          try simp only [Act.put, List.getElem_toArray, List.getElem_cons_succ, List.getElem_cons_zero]
          try simp only [List.setIfInBounds_toArray]
          try simp only [List.set_cons_succ]
          try simp only [List.set_cons_zero]
          refine wpAnyH_done (by kernel_rfl) ?_ _
          refine NoPanic.normal ?_
          try go_wp2_with fail
          go_meet
          case rel => exact ⟨_, _, s5, s6, rfl, rfl, H16.out.1, H16.out.2.1, H16.out.2.2.1, H16.out.2.2.2.1, H16.out.2.2.2.2⟩
      · rw [if_pos (by rfl)]
        go_simp
        obtain ⟨bx, hbx⟩ : ∃ q, q = w12.heap.size := ⟨_, rfl⟩
        obtain ⟨w13, hw13⟩ : ∃ q, q = w12.alloc (.cells #[.int .i64 0, .int .i64 0, .slice none 0 0, .int .i64 0, .int .i64 0, .bool false, .int .u8 0, .string ⟨#[]⟩, .slice none 0 0] 25) := ⟨_, rfl⟩
        have H13 := Lib.hid (show Below w3.heap.size w3 w13 ∧ Cpy w13 s5 SA sa ∧ Nw w3.heap.size w13 bx scN ∧ Nw w3.heap.size w13 bv scN ∧ bx ≠ bv from by
         have hbz : Below w12.heap.size w12 w13 := by rw [hw13]; exact (Below.refl _ _).alloc (Nat.le_refl _) _
         exact ⟨H12.out.1.trans (hbz.mono H12.out.1.size), H12.out.2.1.below hbz, ⟨by rw [hw13, hbx]; exact Sx.new w12 scN, by rw [hbx]; exact H12.out.1.size⟩, H12.out.2.2.below hbz, fun e => by have h1 := H12.out.2.2.sx.lt; omega⟩)
        rw [← hw13, ← hbx]
        clear hw13 hbx
        refine hK.out _ _ (SX.out _ H13.out.1) (fun hHeld => ?_)
        clear hK K H12
        try simp only [Act.put, List.getElem_toArray, List.getElem_cons_succ, List.getElem_cons_zero]
        try simp only [List.setIfInBounds_toArray]
        try simp only [List.set_cons_succ]
        try simp only [List.set_cons_zero]
        refine wpAnyH_ready (rs := [3]) (by kernel_rfl) (by simp) (AllReadyH.cons rfl (fun K hK => ?_) AllReadyH.nil)
        · rw [if_pos (by rfl)]
          go_simp
          refine (PB.out _ H13.out.1).mono ?_
          rintro e w14 ⟨hbz, s6, rfl, hcz⟩
          have H14 := Lib.hid (show Below w3.heap.size w3 w14 ∧ Cpy w14 s5 SA sa ∧ Cpy w14 s6 SB sb ∧ Nw w3.heap.size w14 bx scN ∧ Nw w3.heap.size w14 bv scN ∧ bx ≠ bv from ⟨H13.out.1.trans (hbz.mono H13.out.1.size), H13.out.2.1.below hbz, hcz, H13.out.2.2.1.below hbz, H13.out.2.2.2.1.below hbz, H13.out.2.2.2.2⟩)
          clear hbz hcz
          refine hK.out _ _ (SX.out _ H14.out.1) (fun hHeld => ?_)
          clear hK K H13
          try simp only [Act.put, List.getElem_toArray, List.getElem_cons_succ, List.getElem_cons_zero]
          try simp only [List.setIfInBounds_toArray]
          try simp only [List.set_cons_succ]
          try simp only [List.set_cons_zero]
          refine wpAnyH_ready (rs := [6]) (by kernel_rfl) (by simp) (AllReadyH.cons rfl (fun K hK => ?_) AllReadyH.nil)
          rw [if_pos (by rfl)]
          refine wp_store_S (.tmp 5) (.tmp 23) rfl bx scN s5 rfl rfl H14.out.2.2.2.1.sx ?_
          intro w15 hsx hgx
          have H15 := Lib.hid (show Below w3.heap.size w3 w15 ∧ Cpy w15 s5 SA sa ∧ Cpy w15 s6 SB sb ∧ Sx w15 bx s5 ∧ Sx w15 bv scN from ⟨H14.out.1.grown hgx H14.out.1.size (fun k hk => by injection hk with hk; have := H14.out.2.2.2.1.lo; omega), H14.out.2.1.store H14.out.2.2.2.1.sx hgx, H14.out.2.2.1.store H14.out.2.2.2.1.sx hgx, hsx, H14.out.2.2.2.2.1.sx.grown hgx (fun e => by injection e with e; exact H14.out.2.2.2.2.2 e)⟩)
          clear hsx hgx
          have HLO := Lib.hid (And.intro H14.out.2.2.2.1.lo (And.intro H14.out.2.2.2.2.1.lo H14.out.2.2.2.2.2))
          refine hK.out _ _ (SX.out _ H15.out.1) (fun hHeld => ?_)
          clear hK K H14
          try simp only [Act.put, List.getElem_toArray, List.getElem_cons_succ, List.getElem_cons_zero]
          try simp only [List.setIfInBounds_toArray]
          try simp only [List.set_cons_succ]
          try simp only [List.set_cons_zero]
          refine wpAnyH_ready (rs := [7]) (by kernel_rfl) (by simp) (AllReadyH.cons rfl (fun K hK => ?_) AllReadyH.nil)
          rw [if_pos (by rfl)]
          refine wp_store_S (.tmp 6) (.tmp 25) rfl bv scN s6 rfl rfl H15.out.2.2.2.2 ?_
          intro w16 hsx hgx
          have H16 := Lib.hid (show Below w3.heap.size w3 w16 ∧ Cpy w16 s5 SA sa ∧ Cpy w16 s6 SB sb ∧ Sx w16 bx s5 ∧ Sx w16 bv s6 from ⟨H15.out.1.grown hgx H15.out.1.size (fun k hk => by injection hk with hk; have := HLO.out.2.1; omega), H15.out.2.1.store H15.out.2.2.2.2 hgx, H15.out.2.2.1.store H15.out.2.2.2.2 hgx, H15.out.2.2.2.1.grown hgx (fun e => by injection e with e; exact HLO.out.2.2 e.symm), hsx⟩)
          clear hsx hgx
          refine hK.out _ _ (SX.out _ H16.out.1) (fun hHeld => ?_)
          clear hK K H15
          try simp only [Act.put, List.getElem_toArray, List.getElem_cons_succ, List.getElem_cons_zero]
          try simp only [List.setIfInBounds_toArray]
          try simp only [List.set_cons_succ]
          try simp only [List.set_cons_zero]
          refine wpAnyH_done (by kernel_rfl) ?_ _
          refine NoPanic.normal ?_
          try go_wp2_with fail
          go_meet
          case rel => exact ⟨_, _, s5, s6, rfl, rfl, H16.out.1, H16.out.2.1, H16.out.2.2.1, H16.out.2.2.2.1, H16.out.2.2.2.2⟩
    · rw [if_pos (by rfl)]
      go_simp
      obtain ⟨bx, hbx⟩ : ∃ q, q = w11.heap.size := ⟨_, rfl⟩
      obtain ⟨w12, hw12⟩ : ∃ q, q = w11.alloc (.cells #[.int .i64 0, .int .i64 0, .slice none 0 0, .int .i64 0, .int .i64 0, .bool false, .int .u8 0, .string ⟨#[]⟩, .slice none 0 0] 25) := ⟨_, rfl⟩
      have H12 := Lib.hid (show Below w3.heap.size w3 w12 ∧ Nw w3.heap.size w12 bx scN ∧ Nw w3.heap.size w12 bv scN ∧ bx ≠ bv from by
       have hbz : Below w11.heap.size w11 w12 := by rw [hw12]; exact (Below.refl _ _).alloc (Nat.le_refl _) _
       exact ⟨H11.out.1.trans (hbz.mono H11.out.1.size), ⟨by rw [hw12, hbx]; exact Sx.new w11 scN, by rw [hbx]; exact H11.out.1.size⟩, H11.out.2.below hbz, fun e => by have h1 := H11.out.2.sx.lt; omega⟩)
      rw [← hw12, ← hbx]
      clear hw12 hbx
      refine hK.out _ _ (SX.out _ H12.out.1) (fun hHeld => ?_)
      clear hK K H11
      try simp only [Act.put, List.getElem_toArray, List.getElem_cons_succ, List.getElem_cons_zero]
      try simp only [List.setIfInBounds_toArray]
      try simp only [List.set_cons_succ]
      try simp only [List.set_cons_zero]
      refine wpAnyH_ready (rs := [1]) (by kernel_rfl) (by simp) (AllReadyH.cons rfl (fun K hK => ?_) AllReadyH.nil)
      · rw [if_pos (by rfl)]
        go_simp
        refine (PA.out _ H12.out.1).mono ?_
        rintro e w13 ⟨hbz, s5, rfl, hcz⟩
        have H13 := Lib.hid (show Below w3.heap.size w3 w13 ∧ Cpy w13 s5 SA sa ∧ Nw w3.heap.size w13 bx scN ∧ Nw w3.heap.size w13 bv scN ∧ bx ≠ bv from ⟨H12.out.1.trans (hbz.mono H12.out.1.size), hcz, H12.out.2.1.below hbz, H12.out.2.2.1.below hbz, H12.out.2.2.2⟩)
        clear hbz hcz
        refine hK.out _ _ (SX.out _ H13.out.1) (fun hHeld => ?_)
        clear hK K H12
        try simp only [Act.put, List.getElem_toArray, List.getElem_cons_succ, List.getElem_cons_zero]
        try simp only [List.setIfInBounds_toArray]
        try simp only [List.set_cons_succ]
        try simp only [List.set_cons_zero]
        refine wpAnyH_ready (rs := [3]) (by kernel_rfl) (by simp) (AllReadyH.cons rfl (fun K hK => ?_) AllReadyH.nil)
        · rw [if_pos (by rfl)]
          go_simp
          refine (PB.out _ H13.out.1).mono ?_
          rintro e w14 ⟨hbz, s6, rfl, hcz⟩
          have H14 := Lib.hid (show Below w3.heap.size w3 w14 ∧ Cpy w14 s5 SA sa ∧ Cpy w14 s6 SB sb ∧ Nw w3.heap.size w14 bx scN ∧ Nw w3.heap.size w14 bv scN ∧ bx ≠ bv from ⟨H13.out.1.trans (hbz.mono H13.out.1.size), H13.out.2.1.below hbz, hcz, H13.out.2.2.1.below hbz, H13.out.2.2.2.1.below hbz, H13.out.2.2.2.2⟩)
          clear hbz hcz
          refine hK.out _ _ (SX.out _ H14.out.1) (fun hHeld => ?_)
          clear hK K H13
          try simp only [Act.put, List.getElem_toArray, List.getElem_cons_succ, List.getElem_cons_zero]
          try simp only [List.setIfInBounds_toArray]
          try simp only [List.set_cons_succ]
          try simp only [List.set_cons_zero]
          refine wpAnyH_ready (rs := [6]) (by kernel_rfl) (by simp) (AllReadyH.cons rfl (fun K hK => ?_) AllReadyH.nil)
          rw [if_pos (by rfl)]
          refine wp_store_S (.tmp 5) (.tmp 23) rfl bx scN s5 rfl rfl H14.out.2.2.2.1.sx ?_
          intro w15 hsx hgx
          have H15 := Lib.hid (show Below w3.heap.size w3 w15 ∧ Cpy w15 s5 SA sa ∧ Cpy w15 s6 SB sb ∧ Sx w15 bx s5 ∧ Sx w15 bv scN from ⟨H14.out.1.grown hgx H14.out.1.size (fun k hk => by injection hk with hk; have := H14.out.2.2.2.1.lo; omega), H14.out.2.1.store H14.out.2.2.2.1.sx hgx, H14.out.2.2.1.store H14.out.2.2.2.1.sx hgx, hsx, H14.out.2.2.2.2.1.sx.grown hgx (fun e => by injection e with e; exact H14.out.2.2.2.2.2 e)⟩)
          clear hsx hgx
          have HLO := Lib.hid (And.intro H14.out.2.2.2.1.lo (And.intro H14.out.2.2.2.2.1.lo H14.out.2.2.2.2.2))
          refine hK.out _ _ (SX.out _ H15.out.1) (fun hHeld => ?_)
          clear hK K H14
          try simp only [Act.put, List.getElem_toArray, List.getElem_cons_succ, List.getElem_cons_zero]
          try simp only [List.setIfInBounds_toArray]
          try simp only [List.set_cons_succ]
          try simp only [List.set_cons_zero]
          refine wpAnyH_ready (rs := [7]) (by kernel_rfl) (by simp) (AllReadyH.cons rfl (fun K hK => ?_) AllReadyH.nil)
          rw [if_pos (by rfl)]
          refine wp_store_S (.tmp 6) (.tmp 25) rfl bv scN s6 rfl rfl H15.out.2.2.2.2 ?_
          intro w16 hsx hgx
          have H16 := Lib.hid (show Below w3.heap.size w3 w16 ∧ Cpy w16 s5 SA sa ∧ Cpy w16 s6 SB sb ∧ Sx w16 bx s5 ∧ Sx w16 bv s6 from ⟨H15.out.1.grown hgx H15.out.1.size (fun k hk => by injection hk with hk; have := HLO.out.2.1; omega), H15.out.2.1.store H15.out.2.2.2.2 hgx, H15.out.2.2.1.store H15.out.2.2.2.2 hgx, H15.out.2.2.2.1.grown hgx (fun e => by injection e with e; exact HLO.out.2.2 e.symm), hsx⟩)
          clear hsx hgx
          refine hK.out _ _ (SX.out _ H16.out.1) (fun hHeld => ?_)
          clear hK K H15
          try simp only [Act.put, List.getElem_toArray, List.getElem_cons_succ, List.getElem_cons_zero]
          try simp only [List.setIfInBounds_toArray]
          try simp only [List.set_cons_succ]
          try simp only [List.set_cons_zero]
          refine wpAnyH_done (by kernel_rfl) ?_ _
          refine NoPanic.normal ?_
          try go_wp2_with fail
          go_meet
          case rel => exact ⟨_, _, s5, s6, rfl, rfl, H16.out.1, H16.out.2.1, H16.out.2.2.1, H16.out.2.2.2.1, H16.out.2.2.2.2⟩
 case rest =>
 obtain ⟨bx, bv, s5, s6, rfl, rfl, hbw, hca, hcb, hxa, hxb⟩ := hcut
 have X0 := Lib.hid (show Four w wc b3 bx bv sa sb s5 s6 SA SB from ⟨H3.out.bel.trans (hbw.mono H3.out.bel.size), (H3.out.on hbw).b1, (H3.out.on hbw).b2, hxa, hxb, hca, hcb⟩)
 clear hbw hca hcb hxa hxb H3 PA PB SX
 obtain ⟨L1, E1, hE⟩ : ∃ L1 E1, encR SA SB = (L1, E1) := ⟨_, _, rfl⟩
 obtain ⟨L2, E2, hF⟩ : ∃ L2 E2, fullS SB = (L2, E2) := ⟨_, _, rfl⟩
 have GA := Lib.hid (fun (w' : World) (hb : Below w.heap.size w w') => Got.mk (HI.out.1.below hb) HP.out.1.1 HP.out.1.2.2 (by have := HNA.out; omega) (by have := HNA.out; omega))
 have GB := Lib.hid (fun (w' : World) (hb : Below w.heap.size w w') => Got.mk (HI.out.2.below hb) HP.out.2.1 HP.out.2.2.2 (by have := HNB.out; omega) (by have := HNB.out; omega))
 have GX := Lib.hid (fun (w' : World) (hb : Cpy w' s5 SA sa) => Got.mk hb.sc HP.out.1.1 HP.out.1.2.2 (by have := HNA.out; have := hb.n; omega) (by have := HNA.out; have := hb.m; omega))
 have GY := Lib.hid (fun (w' : World) (hb : Cpy w' s6 SB sb) => Got.mk hb.sc HP.out.2.1 HP.out.2.2.2 (by have := HNB.out; have := hb.n; omega) (by have := HNB.out; have := hb.m; omega))
 have PE := Lib.hid (cEncode_any (HT.out _ X0.out.bel) (GX.out _ X0.out.ca) (GY.out _ X0.out.cb) HP.out.2.2.1)
 rw [hE] at PE
 obtain ⟨a0, a1, a2, a3, a4, a5, a6, a7, a8, _⟩ := sx_cells X0.out.x
 obtain ⟨d0, d1, d2, d3, d4, d5, d6, d7, d8, _⟩ := sx_cells X0.out.y
 unfold scrA at PE
 go_wp2_with fail
 refine PE.out.mono ?_
 rintro e w4 ⟨hb4, A1, c1, rfl, hy1⟩
 have X1 := Lib.hid (show Four w w4 b3 bx bv sa sb s5 s6 SA SB ∧ Sb w4 A1 L1.length L1 ∧ L1.length ≤ 9223372036854775807 from ⟨X0.out.on hb4, hy1.sb, hy1.small⟩)
 clear hb4 hy1 X0 PE a0 a1 a2 a3 a4 a5 a6 a7 a8 d0 d1 d2 d3 d4 d5 d6 d7 d8
 obtain ⟨a0, a1, a2, a3, a4, a5, a6, a7, a8, _⟩ := sx_cells X1.out.1.a
 obtain ⟨d0, d1, d2, d3, d4, d5, d6, d7, d8, _⟩ := sx_cells X1.out.1.b'
 have PE := Lib.hid (rEncode_any (GA.out _ X1.out.1.bel) (GB.out _ X1.out.1.bel))
 rw [hE] at PE
 unfold scrA at PE
 go_wp2_with fail
 refine PE.out.mono ?_
 rintro e w5 ⟨hb5, A2, c2, rfl, hy2⟩
 have X2 := Lib.hid (show Four w w5 b3 bx bv sa sb s5 s6 SA SB ∧ Sb w5 A1 L1.length L1 ∧ L1.length ≤ 9223372036854775807 ∧ Sb w5 A2 L1.length L1 from ⟨X1.out.1.on hb5, X1.out.2.1.below hb5, X1.out.2.2, hy2.sb⟩)
 clear hb5 hy2 X1 PE a0 a1 a2 a3 a4 a5 a6 a7 a8 d0 d1 d2 d3 d4 d5 d6 d7 d8 hE
 obtain ⟨d0, d1, d2, d3, d4, d5, d6, d7, d8, _⟩ := sx_cells X2.out.1.y
 have PE := Lib.hid (cFull_any (HT.out _ X2.out.1.bel) (GY.out _ X2.out.1.cb) HP.out.2.2.1)
 rw [hF] at PE
 unfold scrA at PE
 go_wp2_with fail
 refine PE.out.mono ?_
 rintro e w6 ⟨hb6, A3, c3, rfl, hy3⟩
 have X3 := Lib.hid (show Four w w6 b3 bx bv sa sb s5 s6 SA SB ∧ Sb w6 A1 L1.length L1 ∧ L1.length ≤ 9223372036854775807 ∧ Sb w6 A2 L1.length L1 ∧ Sb w6 A3 L2.length L2 ∧ L2.length ≤ 9223372036854775807 from ⟨X2.out.1.on hb6, X2.out.2.1.below hb6, X2.out.2.2.1, X2.out.2.2.2.below hb6, hy3.sb, hy3.small⟩)
 clear hb6 hy3 X2 PE d0 d1 d2 d3 d4 d5 d6 d7 d8
 obtain ⟨d0, d1, d2, d3, d4, d5, d6, d7, d8, _⟩ := sx_cells X3.out.1.b'
 have PE := Lib.hid (rFull_any (GB.out _ X3.out.1.bel))
 rw [hF] at PE
 unfold scrA at PE
 go_wp2_with fail
 refine PE.out.mono ?_
 rintro e w7 ⟨hb7, A4, c4, rfl, hy4⟩
 have X4 := Lib.hid (show Four w w7 b3 bx bv sa sb s5 s6 SA SB ∧ Sb w7 A1 L1.length L1 ∧ L1.length ≤ 9223372036854775807 ∧ Sb w7 A2 L1.length L1 ∧ Sb w7 A3 L2.length L2 ∧ L2.length ≤ 9223372036854775807 ∧ Sb w7 A4 L2.length L2 from ⟨X3.out.1.on hb7, X3.out.2.1.below hb7, X3.out.2.2.1, X3.out.2.2.2.1.below hb7, X3.out.2.2.2.2.1.below hb7, X3.out.2.2.2.2.2, hy4.sb⟩)
 clear hb7 hy4 X3 PE d0 d1 d2 d3 d4 d5 d6 d7 d8 hF
 dsimp only
 go_upto_region 8 with fail
 have SX := Lib.hid (show ∀ w', Below w7.heap.size w7 w' → (Below w7.heap.size w7 w' ∧ (w'.cell? ⟨b3, 0, none⟩ = some (.int .i64 sa.c) ∧ w'.cell? ⟨b3, 1, none⟩ = some (.int .i64 sa.r) ∧ w'.cell? ⟨b3, 2, none⟩ = some (.slice sa.A sa.n sa.k) ∧ w'.cell? ⟨b3, 3, none⟩ = some (.int .i64 sa.x) ∧ w'.cell? ⟨b3, 4, none⟩ = some (.int .i64 sa.y) ∧ w'.cell? ⟨b3, 5, none⟩ = some (.bool sa.hid) ∧ w'.cell? ⟨b3, 6, none⟩ = some (.int .u8 sa.mouse) ∧ w'.cell? ⟨b3, 7, none⟩ = some (.string sa.ttl) ∧ w'.cell? ⟨b3, 8, none⟩ = some (.slice sa.T sa.m sa.q) ∧ w'.cell? ⟨(b3 + 1), 0, none⟩ = some (.int .i64 sb.c) ∧ w'.cell? ⟨(b3 + 1), 1, none⟩ = some (.int .i64 sb.r) ∧ w'.cell? ⟨(b3 + 1), 2, none⟩ = some (.slice sb.A sb.n sb.k) ∧ w'.cell? ⟨(b3 + 1), 3, none⟩ = some (.int .i64 sb.x) ∧ w'.cell? ⟨(b3 + 1), 4, none⟩ = some (.int .i64 sb.y) ∧ w'.cell? ⟨(b3 + 1), 5, none⟩ = some (.bool sb.hid) ∧ w'.cell? ⟨(b3 + 1), 6, none⟩ = some (.int .u8 sb.mouse) ∧ w'.cell? ⟨(b3 + 1), 7, none⟩ = some (.string sb.ttl) ∧ w'.cell? ⟨(b3 + 1), 8, none⟩ = some (.slice sb.T sb.m sb.q) ∧ w'.cell? ⟨bx, 0, none⟩ = some (.int .i64 s5.c) ∧ w'.cell? ⟨bx, 1, none⟩ = some (.int .i64 s5.r) ∧ w'.cell? ⟨bx, 2, none⟩ = some (.slice s5.A s5.n s5.k) ∧ w'.cell? ⟨bx, 3, none⟩ = some (.int .i64 s5.x) ∧ w'.cell? ⟨bx, 4, none⟩ = some (.int .i64 s5.y) ∧ w'.cell? ⟨bx, 5, none⟩ = some (.bool s5.hid) ∧ w'.cell? ⟨bx, 6, none⟩ = some (.int .u8 s5.mouse) ∧ w'.cell? ⟨bx, 7, none⟩ = some (.string s5.ttl) ∧ w'.cell? ⟨bx, 8, none⟩ = some (.slice s5.T s5.m s5.q) ∧ w'.cell? ⟨bv, 0, none⟩ = some (.int .i64 s6.c) ∧ w'.cell? ⟨bv, 1, none⟩ = some (.int .i64 s6.r) ∧ w'.cell? ⟨bv, 2, none⟩ = some (.slice s6.A s6.n s6.k) ∧ w'.cell? ⟨bv, 3, none⟩ = some (.int .i64 s6.x) ∧ w'.cell? ⟨bv, 4, none⟩ = some (.int .i64 s6.y) ∧ w'.cell? ⟨bv, 5, none⟩ = some (.bool s6.hid) ∧ w'.cell? ⟨bv, 6, none⟩ = some (.int .u8 s6.mouse) ∧ w'.cell? ⟨bv, 7, none⟩ = some (.string s6.ttl) ∧ w'.cell? ⟨bv, 8, none⟩ = some (.slice s6.T s6.m s6.q))) from fun w' hb => by
  have t0 := sx_cells (X4.out.1.a.below hb)
  have t1 := sx_cells (X4.out.1.b'.below hb)
  have t2 := sx_cells (X4.out.1.x.below hb)
  have t3 := sx_cells (X4.out.1.y.below hb)
  exact ⟨hb, t0.c0, t0.c1, t0.c2, t0.c3, t0.c4, t0.c5, t0.c6, t0.c7, t0.c8, t1.c0, t1.c1, t1.c2, t1.c3, t1.c4, t1.c5, t1.c6, t1.c7, t1.c8, t2.c0, t2.c1, t2.c2, t2.c3, t2.c4, t2.c5, t2.c6, t2.c7, t2.c8, t3.c0, t3.c1, t3.c2, t3.c3, t3.c4, t3.c5, t3.c6, t3.c7, t3.c8⟩)
 have P0 := Lib.hid (show ∀ w', Below w7.heap.size w7 w' → Calls Tryd.prog 7 #[] w' fun e w'' => e = .returned (.bool true) ∧ Below w7.heap.size w7 w'' from fun w' hb => (fixed16_any (HT.out _ (X4.out.1.bel.trans (hb.mono X4.out.1.bel.size)))).mono fun _ _ h => ⟨h.1, hb.trans (h.2.mono hb.size)⟩)
 have P1 := Lib.hid (show ∀ w', Below w7.heap.size w7 w' → Calls Tryd.prog 13 #[.slice A1 L1.length c1, .slice A2 L1.length c2] w' fun e w'' => e = .returned (.bool true) ∧ Below w7.heap.size w7 w'' from fun w' hb => (refSame_any (X4.out.2.1.below hb) (X4.out.2.2.2.1.below hb) X4.out.2.2.1 X4.out.2.2.1).mono (by rintro e w'' ⟨rfl, q, rfl⟩; exact ⟨by rw [decide_eq_true rfl], belowN hb q⟩))
 have P2 := Lib.hid (show ∀ w', Below w7.heap.size w7 w' → Calls Tryd.prog 13 #[.slice A3 L2.length c3, .slice A4 L2.length c4] w' fun e w'' => e = .returned (.bool true) ∧ Below w7.heap.size w7 w'' from fun w' hb => (refSame_any (X4.out.2.2.2.2.1.below hb) (X4.out.2.2.2.2.2.2.below hb) X4.out.2.2.2.2.2.1 X4.out.2.2.2.2.2.1).mono (by rintro e w'' ⟨rfl, q, rfl⟩; exact ⟨by rw [decide_eq_true rfl], belowN hb q⟩))
 obtain ⟨FA, hFA⟩ : ∃ FA, fitsS SA = FA := ⟨_, rfl⟩
 have P3 := Lib.hid (show ∀ w', Below w7.heap.size w7 w' → Calls Tryd.prog 14 #[.agg (scrA s5)] w' fun e w'' => e = .returned (.bool FA) ∧ Below w7.heap.size w7 w'' from fun w' hb => (cFits_any (HT.out _ (X4.out.1.bel.trans (hb.mono X4.out.1.bel.size))) (X4.out.1.ca.below hb).sc (by have := HNA.out; have := X4.out.1.ca.n; omega) (by have := HNA.out; have := X4.out.1.ca.m; omega)).mono fun _ _ h => ⟨by rw [h.1, hFA], hb.trans (h.2.mono hb.size)⟩)
 have P4 := Lib.hid (show ∀ w', Below w7.heap.size w7 w' → Calls Tryd.prog 15 #[.agg (scrA sa)] w' fun e w'' => e = .returned (.bool FA) ∧ Below w7.heap.size w7 w'' from fun w' hb => (rFits_any (HI.out.1.below (X4.out.1.bel.trans (hb.mono X4.out.1.bel.size))) HP.out.1.2.2 (by have := HNA.out; omega) (by have := HNA.out; omega)).mono fun _ _ h => ⟨by rw [h.1, hFA], hb.trans (h.2.mono hb.size)⟩)
 have P5 := Lib.hid (show ∀ w', Below w7.heap.size w7 w' → Calls Tryd.prog 16 #[.agg (scrA s5), .agg (scrA sa)] w' fun e w'' => e = .returned (.bool true) ∧ Below w7.heap.size w7 w'' from fun w' hb => (refSameS_any (X4.out.1.ca.below hb).sc (HI.out.1.below (X4.out.1.bel.trans (hb.mono X4.out.1.bel.size))) (by have := HNA.out; have := X4.out.1.ca.n; omega) (by have := HNA.out; omega) (by have := HNA.out; have := X4.out.1.ca.m; omega) (by have := HNA.out; omega)).mono fun _ _ h => ⟨h.1, hb.trans (h.2.mono hb.size)⟩)
 have P6 := Lib.hid (show ∀ w', Below w7.heap.size w7 w' → Calls Tryd.prog 16 #[.agg (scrA s6), .agg (scrA sb)] w' fun e w'' => e = .returned (.bool true) ∧ Below w7.heap.size w7 w'' from fun w' hb => (refSameS_any (X4.out.1.cb.below hb).sc (HI.out.2.below (X4.out.1.bel.trans (hb.mono X4.out.1.bel.size))) (by have := HNB.out; have := X4.out.1.cb.n; omega) (by have := HNB.out; omega) (by have := HNB.out; have := X4.out.1.cb.m; omega) (by have := HNB.out; omega)).mono fun _ _ h => ⟨h.1, hb.trans (h.2.mono hb.size)⟩)
 clear hFA
 unfold scrA at P3 P4 P5 P6
 have hb0 : Below w7.heap.size w7 w7 := Below.refl _ _
 have qE : (E1 == E1) = true := by simp
 have qF : (E2 == E2) = true := by simp
 have qB : (FA == FA) = true := by simp
 go_region_held3 (fun w' => Below w7.heap.size w7 w' ∧ (w'.cell? ⟨b3, 0, none⟩ = some (.int .i64 sa.c) ∧ w'.cell? ⟨b3, 1, none⟩ = some (.int .i64 sa.r) ∧ w'.cell? ⟨b3, 2, none⟩ = some (.slice sa.A sa.n sa.k) ∧ w'.cell? ⟨b3, 3, none⟩ = some (.int .i64 sa.x) ∧ w'.cell? ⟨b3, 4, none⟩ = some (.int .i64 sa.y) ∧ w'.cell? ⟨b3, 5, none⟩ = some (.bool sa.hid) ∧ w'.cell? ⟨b3, 6, none⟩ = some (.int .u8 sa.mouse) ∧ w'.cell? ⟨b3, 7, none⟩ = some (.string sa.ttl) ∧ w'.cell? ⟨b3, 8, none⟩ = some (.slice sa.T sa.m sa.q) ∧ w'.cell? ⟨(b3 + 1), 0, none⟩ = some (.int .i64 sb.c) ∧ w'.cell? ⟨(b3 + 1), 1, none⟩ = some (.int .i64 sb.r) ∧ w'.cell? ⟨(b3 + 1), 2, none⟩ = some (.slice sb.A sb.n sb.k) ∧ w'.cell? ⟨(b3 + 1), 3, none⟩ = some (.int .i64 sb.x) ∧ w'.cell? ⟨(b3 + 1), 4, none⟩ = some (.int .i64 sb.y) ∧ w'.cell? ⟨(b3 + 1), 5, none⟩ = some (.bool sb.hid) ∧ w'.cell? ⟨(b3 + 1), 6, none⟩ = some (.int .u8 sb.mouse) ∧ w'.cell? ⟨(b3 + 1), 7, none⟩ = some (.string sb.ttl) ∧ w'.cell? ⟨(b3 + 1), 8, none⟩ = some (.slice sb.T sb.m sb.q) ∧ w'.cell? ⟨bx, 0, none⟩ = some (.int .i64 s5.c) ∧ w'.cell? ⟨bx, 1, none⟩ = some (.int .i64 s5.r) ∧ w'.cell? ⟨bx, 2, none⟩ = some (.slice s5.A s5.n s5.k) ∧ w'.cell? ⟨bx, 3, none⟩ = some (.int .i64 s5.x) ∧ w'.cell? ⟨bx, 4, none⟩ = some (.int .i64 s5.y) ∧ w'.cell? ⟨bx, 5, none⟩ = some (.bool s5.hid) ∧ w'.cell? ⟨bx, 6, none⟩ = some (.int .u8 s5.mouse) ∧ w'.cell? ⟨bx, 7, none⟩ = some (.string s5.ttl) ∧ w'.cell? ⟨bx, 8, none⟩ = some (.slice s5.T s5.m s5.q) ∧ w'.cell? ⟨bv, 0, none⟩ = some (.int .i64 s6.c) ∧ w'.cell? ⟨bv, 1, none⟩ = some (.int .i64 s6.r) ∧ w'.cell? ⟨bv, 2, none⟩ = some (.slice s6.A s6.n s6.k) ∧ w'.cell? ⟨bv, 3, none⟩ = some (.int .i64 s6.x) ∧ w'.cell? ⟨bv, 4, none⟩ = some (.int .i64 s6.y) ∧ w'.cell? ⟨bv, 5, none⟩ = some (.bool s6.hid) ∧ w'.cell? ⟨bv, 6, none⟩ = some (.int .u8 s6.mouse) ∧ w'.cell? ⟨bv, 7, none⟩ = some (.string s6.ttl) ∧ w'.cell? ⟨bv, 8, none⟩ = some (.slice s6.T s6.m s6.q)))
  ((refine SX.out _ ?_; (try go_split_ands); first | assumption | exact Below.drew (by assumption)))
  ((first
   | (go_at_call 7; (try go_split_ands); refine (P0.out _ (by assumption)).mono ?_; rintro e w8 ⟨rfl, hb8⟩)
   | (go_at_call 13; (try go_split_ands); refine (P2.out _ hb9).mono ?_; rintro e w10 ⟨rfl, hb10⟩)
   | (go_at_call 13; (try go_split_ands); refine (P1.out _ hb8).mono ?_; rintro e w9 ⟨rfl, hb9⟩)
   | (go_at_call 14; (try go_split_ands); refine (P3.out _ (by assumption)).mono ?_; rintro e w11 ⟨rfl, hb11⟩)
   | (go_at_call 15; (try go_split_ands); refine (P4.out _ (by assumption)).mono ?_; rintro e w12 ⟨rfl, hb12⟩)
   | (go_at_call 16; (try go_split_ands); refine (P6.out _ hb13).mono ?_; rintro e w14 ⟨rfl, hb14⟩)
   | (go_at_call 16; (try go_split_ands); refine (P5.out _ hb12).mono ?_; rintro e w13 ⟨rfl, hb13⟩)))
 go_wp2_with fail
 go_ret
 exact ⟨rfl, X4.out.1.bel.trans (hb14.mono X4.out.1.bel.size)⟩
set_option maxRecDepth 100000 in
theorem lifted (os : Os) (started : os.Started) (H : Type) (enc : TypeId × Value → H) :
  ReturnsInHanded {} Tryd.checked os 3 .any (fun w args => (Rows.rowsEncodesSpec.pre enc Tryd.prog Tryd.f3 [] false w args ∧ laidMetH Tryd.prog laidL3 w) ∧ sizedMet enc Tryd.prog Tryd.f3 (OpenSpec.ofChange Rows.rowsEncodesSpec) false w args)
   (Rows.rowsEncodesSpec.post enc Tryd.prog Tryd.f3 false true false false) := by
 refine returnsInHanded_of_change_and (C := Tryd.checked) (X := fun w _ => laidMetH Tryd.prog laidL3 w) (fun _ _ _ hh h => h.of_heap hh) own started (by kernel_rfl) Tryd.func3
  (ChangeSpec.witness_shaped (enc := enc) (C := Tryd.checked) (os := os) (X := fun w _ => laidMetH Tryd.prog laidL3 w) false (World.laidAll Tryd.prog os laidL3) #[.agg (scrA scN), .agg (scrA scN)] 8 (World.laidAll_os _ _ _) (start_shaped3 os) (by kernel_rfl) (by kernel_rfl) (by kernel_rfl) (start_met3 os _)) ?_
 intro W base args ds gs before hval0 hW _ hsz0 hL _
 have hsz : (DataW.weightsEach Tryd.prog (Tryd.f3.params.toList ++ Rows.rowsEncodesSpec.plain.varTypes Tryd.prog) (ds ++ gs)).all (· ≤ reachBytes) = true := hsz0
 clear hsz0
 have hval : ∀ (j : Nat) t v, Tryd.f3.params[j]? = some t → args[j]? = some v → Value.okWide Tryd.prog W .any base t v := hval0
 have hW' := hW
 obtain ⟨p, q, hA0, hV, rfl, _, _⟩ := hW
 have hA : DataW.TrodAll enc Tryd.prog W 0 (fun _ => true) true Tryd.f3.params.toList args.toList ds p := hA0
 rw [Tryd.params3] at hA hval hsz
 obtain ⟨v0, vs0, d0, ds0, p0, q0, hargs, rfl, rfl, h0, r0⟩ := trodAll_cons hA
 obtain ⟨v1, vs1, d1, ds1, p1, q1, rfl, rfl, rfl, h1, r1⟩ := trodAll_cons r0
 obtain ⟨rfl, rfl, rfl⟩ := trodAll_nil r1
 obtain rfl : args = #[v0, v1] := by cases args; simp_all
 obtain ⟨rfl, rfl⟩ := trodVars_none hV
 have lt0 : ∀ x ∈ p0, x.block < W.heap.size := by obtain ⟨m, hm⟩ := h0; exact DataW.trod_lt m _ _ _ hm
 obtain ⟨s0, S0, rfl, s0⟩ := open_screenR (weights_at hsz (j := 0) rfl rfl) (hval 0 25 v0 rfl rfl) h0
 have lt1 : ∀ x ∈ p1, x.block < W.heap.size := by obtain ⟨m, hm⟩ := h1; exact DataW.trod_lt m _ _ _ hm
 obtain ⟨s1, S1, rfl, s1⟩ := open_screenR (weights_at hsz (j := 1) rfl rfl) (hval 1 25 v1 rfl rfl) h1
 clear hA0 hval0
 refine (walk W (tabs_of_laid3 hL) s0 s1).mono fun e W' ⟨he, bel⟩ => ?_
 subst he
 exact ⟨_, rfl, _, _, _, [], _, [], hW', trodAll_mk1 (shut_bool Tryd.underlying4 _), (trodAll_cons_mk (Below.trod laidOut (by kernel_rfl) (of_decide_eq_true (by kernel_rfl)) h0 bel lt0) (trodAll_cons_mk (Below.trod laidOut (by kernel_rfl) (of_decide_eq_true (by kernel_rfl)) h1 bel lt1) trodAll_mk0)), rfl, bel.frame _, fun h => by cases h⟩
theorem over : Rows.rowsEncodesRow.holds Tryd.pinned (OpenSpec.ofChange Rows.rowsEncodesSpec) :=
 OpenClaim.holds_of_wide 3 Tryd.f3 rfl rfl rfl rfl rfl rfl rfl ⟨rfl, rfl, rfl, rfl, rfl⟩ rfl rfl rfl rfl rfl (by kernel_rfl) Tryd.func3 (by kernel_rfl)
  (of_decide_eq_true (by kernel_rfl)) (by unfold Func.isWrapper; first | (rw [if_pos (by decide +kernel)]; kernel_rfl) | (rw [if_neg (by decide +kernel)]; exact ⟨rfl, rfl⟩))
  (fun os started H enc _ => lifted os started H enc)
theorem proved : Rows.RowsEncodesCardSaid :=
 Claim7.holds_tied_plain_at .later [] [.data, .data, .pinned] true Rows.rowsEncodesCard.stood.harness false
  over (fun _ h => by cases h) (by kernel_rfl) (fun _ h => by cases h) rowsEncodes_row_tie rfl ⟨rfl, rfl⟩ (by kernel_rfl) rfl
  (fun f fn hf hfn => by
   obtain rfl : f = 3 := Option.some.inj ((show Tryd.prog.funcNamed "spyglass/spyglasslaw16.RowsEncodes" = some 3 by kernel_rfl).symm.trans hf) |>.symm
   obtain rfl : fn = Tryd.f3 := (Option.some.inj (Tryd.func3.symm.trans hfn)).symm
   exact ⟨by kernel_rfl, fun j t ht => by
    rw [Tryd.params3] at ht
    have hm : t ∈ [25, 25] := by simpa using Array.mem_of_getElem? ht
    have hall : ([25, 25].all fun u => !Tryd.prog.wantsStandIn u) = true := by kernel_rfl
    exact (show Tryd.prog.wantsStandIn t = false by simpa using List.all_eq_true.1 hall t hm)⟩)
  (by kernel_rfl)
end Go.Proofs.YtikhknnhmnopbaaDoor.rowsEncodes
