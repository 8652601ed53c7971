/-
  Which acts are bare: no field that the kind doesn't name.
  Which acts may be: the fields that the kind names.
  Which acts may be, by their kinds; what can be laid is bare and may be.
  slices.Grow of none, and slices.Concat of rows of bytes.
  What is laid for an act, by the code: sequences, and all kinds.
  The code of layer 11: Lay.
-/
import Derived.Test.YtappnfifhpmekaaDoorParseRun
import Derived.Test.YtappnfifhpmekaaDoorParseLayBase
import Derived.Lib.AppendZerosOnto
import Derived.Test.YtappnfifhpmekaaDoorParseLayD
namespace Go.Proofs.YtappnfifhpmekaaDoor
open Go.RowKit

abbrev KnownL := TabsL
def bareS (a : AcS) : Bool := decide ((a.k = 1 ∨ a.r = 0) ∧ (a.k = 3 ∨ a.k = 4 ∨ a.m = 0) ∧ (a.k = 2 ∨ a.k = 3 ∨ a.k = 4 ∨ a.fin = 0) ∧ (a.k = 4 ∨ a.ps = []) ∧ (a.k = 5 ∨ a.tx = []))
theorem eqz {l : List Int} {n : Nat} (h : l.length = n) : ((n : Int) == 0) = decide (l = []) := by
  subst h
  cases l with
  | nil => rfl
  | cons a t =>
    rw [decide_eq_false (by simp), beq_eq_false_iff_ne]
    rw [List.length_cons]
    omega
set_option maxHeartbeats 3200000 in
theorem bare_1 {w : World} {r m f : Int} {ps tx : List Int} {P T : Option Addr} {np cp nt ct : Nat} (h : RdA w ⟨⟨1, r, m, f, ps, tx⟩, P, np, cp, T, nt, ct⟩) :
    Calls Tryd.prog 17 #[.agg #[.int .i64 1, .int .i32 r, .int .u8 m, .int .u8 f, .slice P np cp, .slice T nt ct]] w fun e w' => e = .returned (.bool (bareS ⟨1, r, m, f, ps, tx⟩)) ∧ Below w.heap.size w w' := by
  have HN := Lib.hid (And.intro (len0 (show ps.length = np from h.p.len)) (And.intro (len0 (show tx.length = nt from h.t.len)) (eqz (show tx.length = nt from h.t.len))))
  clear h
  obtain ⟨b, hb⟩ : ∃ b, b = w.heap.size := ⟨_, rfl⟩
  have HB := Lib.hid hb
  have H0 : Hid (Bx (w.alloc (.cells #[.int .i64 1, .int .i32 r, .int .u8 m, .int .u8 f, .slice P np cp, .slice T nt ct] 25)) b ⟨⟨1, r, m, f, ps, tx⟩, P, np, cp, T, nt, ct⟩ ∧ Below w.heap.size w (w.alloc (.cells #[.int .i64 1, .int .i32 r, .int .u8 m, .int .u8 f, .slice P np cp, .slice T nt ct] 25))) := Lib.hid (by
    have h1 := Bx.new w ⟨⟨1, r, m, f, ps, tx⟩, P, np, cp, T, nt, ct⟩
    rw [hb]
    exact ⟨h1, (Below.refl _ _).alloc (Nat.le_refl _) _⟩)
  clear hb
  go_enter Tryd.func17, Tryd.ntmps17
  go_upto_region 1 with fail
  rw [← HB.out]
  generalize (w.alloc (.cells #[.int .i64 1, .int .i32 r, .int .u8 m, .int .u8 f, .slice P np cp, .slice T nt ct] 25)) = w1 at H0 ⊢
  obtain ⟨_, p0, p1, p2, p3, p4, p5⟩ := bx_cells H0.out.1
  simp only at p0 p1 p2 p3 p4 p5
  have f1 := H0.out.1.free 1
  have f2 := H0.out.1.free 2
  have f3 := H0.out.1.free 3
  have f4 := H0.out.1.free 4
  have f5 := H0.out.1.free 5
  go_wp2_with fail
  all_goals
    go_ret
    refine ⟨congrArg Ending.returned (congrArg Value.bool ?_), ?_⟩
    · have a1 := HN.out.1
      have a2 := HN.out.2.1
      have a3 := HN.out.2.2
      clear HN H0
      simp only [bareS, ← a1, ← a2]
      simp_all
      try exact a3
      try omega
    · have hg : w.heap.size ≤ b := Nat.le_of_eq HB.out.symm
      first
        | exact H0.out.2
        | exact H0.out.2.setCell hg _
        | exact (H0.out.2.setCell hg _).setCell hg _
        | exact ((H0.out.2.setCell hg _).setCell hg _).setCell hg _
set_option maxHeartbeats 3200000 in
theorem bare_2 {w : World} {r m f : Int} {ps tx : List Int} {P T : Option Addr} {np cp nt ct : Nat} (h : RdA w ⟨⟨2, r, m, f, ps, tx⟩, P, np, cp, T, nt, ct⟩) :
    Calls Tryd.prog 17 #[.agg #[.int .i64 2, .int .i32 r, .int .u8 m, .int .u8 f, .slice P np cp, .slice T nt ct]] w fun e w' => e = .returned (.bool (bareS ⟨2, r, m, f, ps, tx⟩)) ∧ Below w.heap.size w w' := by
  have HN := Lib.hid (And.intro (len0 (show ps.length = np from h.p.len)) (And.intro (len0 (show tx.length = nt from h.t.len)) (eqz (show tx.length = nt from h.t.len))))
  clear h
  obtain ⟨b, hb⟩ : ∃ b, b = w.heap.size := ⟨_, rfl⟩
  have HB := Lib.hid hb
  have H0 : Hid (Bx (w.alloc (.cells #[.int .i64 2, .int .i32 r, .int .u8 m, .int .u8 f, .slice P np cp, .slice T nt ct] 25)) b ⟨⟨2, r, m, f, ps, tx⟩, P, np, cp, T, nt, ct⟩ ∧ Below w.heap.size w (w.alloc (.cells #[.int .i64 2, .int .i32 r, .int .u8 m, .int .u8 f, .slice P np cp, .slice T nt ct] 25))) := Lib.hid (by
    have h1 := Bx.new w ⟨⟨2, r, m, f, ps, tx⟩, P, np, cp, T, nt, ct⟩
    rw [hb]
    exact ⟨h1, (Below.refl _ _).alloc (Nat.le_refl _) _⟩)
  clear hb
  go_enter Tryd.func17, Tryd.ntmps17
  go_upto_region 1 with fail
  rw [← HB.out]
  generalize (w.alloc (.cells #[.int .i64 2, .int .i32 r, .int .u8 m, .int .u8 f, .slice P np cp, .slice T nt ct] 25)) = w1 at H0 ⊢
  obtain ⟨_, p0, p1, p2, p3, p4, p5⟩ := bx_cells H0.out.1
  simp only at p0 p1 p2 p3 p4 p5
  have f1 := H0.out.1.free 1
  have f2 := H0.out.1.free 2
  have f3 := H0.out.1.free 3
  have f4 := H0.out.1.free 4
  have f5 := H0.out.1.free 5
  go_wp2_with fail
  all_goals
    go_ret
    refine ⟨congrArg Ending.returned (congrArg Value.bool ?_), ?_⟩
    · have a1 := HN.out.1
      have a2 := HN.out.2.1
      have a3 := HN.out.2.2
      clear HN H0
      simp only [bareS, ← a1, ← a2]
      simp_all
      try exact a3
      try omega
    · have hg : w.heap.size ≤ b := Nat.le_of_eq HB.out.symm
      first
        | exact H0.out.2
        | exact H0.out.2.setCell hg _
        | exact (H0.out.2.setCell hg _).setCell hg _
        | exact ((H0.out.2.setCell hg _).setCell hg _).setCell hg _
set_option maxHeartbeats 3200000 in
theorem bare_3 {w : World} {r m f : Int} {ps tx : List Int} {P T : Option Addr} {np cp nt ct : Nat} (h : RdA w ⟨⟨3, r, m, f, ps, tx⟩, P, np, cp, T, nt, ct⟩) :
    Calls Tryd.prog 17 #[.agg #[.int .i64 3, .int .i32 r, .int .u8 m, .int .u8 f, .slice P np cp, .slice T nt ct]] w fun e w' => e = .returned (.bool (bareS ⟨3, r, m, f, ps, tx⟩)) ∧ Below w.heap.size w w' := by
  have HN := Lib.hid (And.intro (len0 (show ps.length = np from h.p.len)) (And.intro (len0 (show tx.length = nt from h.t.len)) (eqz (show tx.length = nt from h.t.len))))
  clear h
  obtain ⟨b, hb⟩ : ∃ b, b = w.heap.size := ⟨_, rfl⟩
  have HB := Lib.hid hb
  have H0 : Hid (Bx (w.alloc (.cells #[.int .i64 3, .int .i32 r, .int .u8 m, .int .u8 f, .slice P np cp, .slice T nt ct] 25)) b ⟨⟨3, r, m, f, ps, tx⟩, P, np, cp, T, nt, ct⟩ ∧ Below w.heap.size w (w.alloc (.cells #[.int .i64 3, .int .i32 r, .int .u8 m, .int .u8 f, .slice P np cp, .slice T nt ct] 25))) := Lib.hid (by
    have h1 := Bx.new w ⟨⟨3, r, m, f, ps, tx⟩, P, np, cp, T, nt, ct⟩
    rw [hb]
    exact ⟨h1, (Below.refl _ _).alloc (Nat.le_refl _) _⟩)
  clear hb
  go_enter Tryd.func17, Tryd.ntmps17
  go_upto_region 1 with fail
  rw [← HB.out]
  generalize (w.alloc (.cells #[.int .i64 3, .int .i32 r, .int .u8 m, .int .u8 f, .slice P np cp, .slice T nt ct] 25)) = w1 at H0 ⊢
  obtain ⟨_, p0, p1, p2, p3, p4, p5⟩ := bx_cells H0.out.1
  simp only at p0 p1 p2 p3 p4 p5
  have f1 := H0.out.1.free 1
  have f2 := H0.out.1.free 2
  have f3 := H0.out.1.free 3
  have f4 := H0.out.1.free 4
  have f5 := H0.out.1.free 5
  go_wp2_with fail
  all_goals
    go_ret
    refine ⟨congrArg Ending.returned (congrArg Value.bool ?_), ?_⟩
    · have a1 := HN.out.1
      have a2 := HN.out.2.1
      have a3 := HN.out.2.2
      clear HN H0
      simp only [bareS, ← a1, ← a2]
      simp_all
      try exact a3
      try omega
    · have hg : w.heap.size ≤ b := Nat.le_of_eq HB.out.symm
      first
        | exact H0.out.2
        | exact H0.out.2.setCell hg _
        | exact (H0.out.2.setCell hg _).setCell hg _
        | exact ((H0.out.2.setCell hg _).setCell hg _).setCell hg _
set_option maxHeartbeats 3200000 in
theorem bare_4 {w : World} {r m f : Int} {ps tx : List Int} {P T : Option Addr} {np cp nt ct : Nat} (h : RdA w ⟨⟨4, r, m, f, ps, tx⟩, P, np, cp, T, nt, ct⟩) :
    Calls Tryd.prog 17 #[.agg #[.int .i64 4, .int .i32 r, .int .u8 m, .int .u8 f, .slice P np cp, .slice T nt ct]] w fun e w' => e = .returned (.bool (bareS ⟨4, r, m, f, ps, tx⟩)) ∧ Below w.heap.size w w' := by
  have HN := Lib.hid (And.intro (len0 (show ps.length = np from h.p.len)) (And.intro (len0 (show tx.length = nt from h.t.len)) (eqz (show tx.length = nt from h.t.len))))
  clear h
  obtain ⟨b, hb⟩ : ∃ b, b = w.heap.size := ⟨_, rfl⟩
  have HB := Lib.hid hb
  have H0 : Hid (Bx (w.alloc (.cells #[.int .i64 4, .int .i32 r, .int .u8 m, .int .u8 f, .slice P np cp, .slice T nt ct] 25)) b ⟨⟨4, r, m, f, ps, tx⟩, P, np, cp, T, nt, ct⟩ ∧ Below w.heap.size w (w.alloc (.cells #[.int .i64 4, .int .i32 r, .int .u8 m, .int .u8 f, .slice P np cp, .slice T nt ct] 25))) := Lib.hid (by
    have h1 := Bx.new w ⟨⟨4, r, m, f, ps, tx⟩, P, np, cp, T, nt, ct⟩
    rw [hb]
    exact ⟨h1, (Below.refl _ _).alloc (Nat.le_refl _) _⟩)
  clear hb
  go_enter Tryd.func17, Tryd.ntmps17
  go_upto_region 1 with fail
  rw [← HB.out]
  generalize (w.alloc (.cells #[.int .i64 4, .int .i32 r, .int .u8 m, .int .u8 f, .slice P np cp, .slice T nt ct] 25)) = w1 at H0 ⊢
  obtain ⟨_, p0, p1, p2, p3, p4, p5⟩ := bx_cells H0.out.1
  simp only at p0 p1 p2 p3 p4 p5
  have f1 := H0.out.1.free 1
  have f2 := H0.out.1.free 2
  have f3 := H0.out.1.free 3
  have f4 := H0.out.1.free 4
  have f5 := H0.out.1.free 5
  go_wp2_with fail
  all_goals
    go_ret
    refine ⟨congrArg Ending.returned (congrArg Value.bool ?_), ?_⟩
    · have a1 := HN.out.1
      have a2 := HN.out.2.1
      have a3 := HN.out.2.2
      clear HN H0
      simp only [bareS, ← a1, ← a2]
      simp_all
      try exact a3
      try omega
    · have hg : w.heap.size ≤ b := Nat.le_of_eq HB.out.symm
      first
        | exact H0.out.2
        | exact H0.out.2.setCell hg _
        | exact (H0.out.2.setCell hg _).setCell hg _
        | exact ((H0.out.2.setCell hg _).setCell hg _).setCell hg _
set_option maxHeartbeats 3200000 in
theorem bare_5 {w : World} {r m f : Int} {ps tx : List Int} {P T : Option Addr} {np cp nt ct : Nat} (h : RdA w ⟨⟨5, r, m, f, ps, tx⟩, P, np, cp, T, nt, ct⟩) :
    Calls Tryd.prog 17 #[.agg #[.int .i64 5, .int .i32 r, .int .u8 m, .int .u8 f, .slice P np cp, .slice T nt ct]] w fun e w' => e = .returned (.bool (bareS ⟨5, r, m, f, ps, tx⟩)) ∧ Below w.heap.size w w' := by
  have HN := Lib.hid (And.intro (len0 (show ps.length = np from h.p.len)) (And.intro (len0 (show tx.length = nt from h.t.len)) (eqz (show tx.length = nt from h.t.len))))
  clear h
  obtain ⟨b, hb⟩ : ∃ b, b = w.heap.size := ⟨_, rfl⟩
  have HB := Lib.hid hb
  have H0 : Hid (Bx (w.alloc (.cells #[.int .i64 5, .int .i32 r, .int .u8 m, .int .u8 f, .slice P np cp, .slice T nt ct] 25)) b ⟨⟨5, r, m, f, ps, tx⟩, P, np, cp, T, nt, ct⟩ ∧ Below w.heap.size w (w.alloc (.cells #[.int .i64 5, .int .i32 r, .int .u8 m, .int .u8 f, .slice P np cp, .slice T nt ct] 25))) := Lib.hid (by
    have h1 := Bx.new w ⟨⟨5, r, m, f, ps, tx⟩, P, np, cp, T, nt, ct⟩
    rw [hb]
    exact ⟨h1, (Below.refl _ _).alloc (Nat.le_refl _) _⟩)
  clear hb
  go_enter Tryd.func17, Tryd.ntmps17
  go_upto_region 1 with fail
  rw [← HB.out]
  generalize (w.alloc (.cells #[.int .i64 5, .int .i32 r, .int .u8 m, .int .u8 f, .slice P np cp, .slice T nt ct] 25)) = w1 at H0 ⊢
  obtain ⟨_, p0, p1, p2, p3, p4, p5⟩ := bx_cells H0.out.1
  simp only at p0 p1 p2 p3 p4 p5
  have f1 := H0.out.1.free 1
  have f2 := H0.out.1.free 2
  have f3 := H0.out.1.free 3
  have f4 := H0.out.1.free 4
  have f5 := H0.out.1.free 5
  go_wp2_with fail
  all_goals
    go_ret
    refine ⟨congrArg Ending.returned (congrArg Value.bool ?_), ?_⟩
    · have a1 := HN.out.1
      have a2 := HN.out.2.1
      have a3 := HN.out.2.2
      clear HN H0
      simp only [bareS, ← a1, ← a2]
      simp_all
      try exact a3
      try omega
    · have hg : w.heap.size ≤ b := Nat.le_of_eq HB.out.symm
      first
        | exact H0.out.2
        | exact H0.out.2.setCell hg _
        | exact (H0.out.2.setCell hg _).setCell hg _
        | exact ((H0.out.2.setCell hg _).setCell hg _).setCell hg _
set_option maxHeartbeats 3200000 in
theorem bare_no {w : World} {r m f : Int} {k : Int} {ps tx : List Int} {P T : Option Addr} {np cp nt ct : Nat} (h : RdA w ⟨⟨k, r, m, f, ps, tx⟩, P, np, cp, T, nt, ct⟩) (hk : ¬ k = 1 ∧ ¬ k = 2 ∧ ¬ k = 3 ∧ ¬ k = 4 ∧ ¬ k = 5) :
    Calls Tryd.prog 17 #[.agg #[.int .i64 k, .int .i32 r, .int .u8 m, .int .u8 f, .slice P np cp, .slice T nt ct]] w fun e w' => e = .returned (.bool (bareS ⟨k, r, m, f, ps, tx⟩)) ∧ Below w.heap.size w w' := by
  have HN := Lib.hid (And.intro (len0 (show ps.length = np from h.p.len)) (And.intro (len0 (show tx.length = nt from h.t.len)) (eqz (show tx.length = nt from h.t.len))))
  clear h
  obtain ⟨k1, k2, k3, k4, k5⟩ := hk
  have t1 : (k == 1) = false := beq_eq_false_iff_ne.2 k1
  have t2 : (k == 2) = false := beq_eq_false_iff_ne.2 k2
  have t3 : (k == 3) = false := beq_eq_false_iff_ne.2 k3
  have t4 : (k == 4) = false := beq_eq_false_iff_ne.2 k4
  have t5 : (k == 5) = false := beq_eq_false_iff_ne.2 k5
  have HK := Lib.hid (And.intro k1 (And.intro k2 (And.intro k3 (And.intro k4 k5))))
  obtain ⟨b, hb⟩ : ∃ b, b = w.heap.size := ⟨_, rfl⟩
  have HB := Lib.hid hb
  have H0 : Hid (Bx (w.alloc (.cells #[.int .i64 k, .int .i32 r, .int .u8 m, .int .u8 f, .slice P np cp, .slice T nt ct] 25)) b ⟨⟨k, r, m, f, ps, tx⟩, P, np, cp, T, nt, ct⟩ ∧ Below w.heap.size w (w.alloc (.cells #[.int .i64 k, .int .i32 r, .int .u8 m, .int .u8 f, .slice P np cp, .slice T nt ct] 25))) := Lib.hid (by
    have h1 := Bx.new w ⟨⟨k, r, m, f, ps, tx⟩, P, np, cp, T, nt, ct⟩
    rw [hb]
    exact ⟨h1, (Below.refl _ _).alloc (Nat.le_refl _) _⟩)
  clear hb
  go_enter Tryd.func17, Tryd.ntmps17
  go_upto_region 1 with fail
  rw [← HB.out]
  generalize (w.alloc (.cells #[.int .i64 k, .int .i32 r, .int .u8 m, .int .u8 f, .slice P np cp, .slice T nt ct] 25)) = w1 at H0 ⊢
  obtain ⟨_, p0, p1, p2, p3, p4, p5⟩ := bx_cells H0.out.1
  simp only at p0 p1 p2 p3 p4 p5
  have f1 := H0.out.1.free 1
  have f2 := H0.out.1.free 2
  have f3 := H0.out.1.free 3
  have f4 := H0.out.1.free 4
  have f5 := H0.out.1.free 5
  go_wp2_with fail
  all_goals
    go_ret
    refine ⟨congrArg Ending.returned (congrArg Value.bool ?_), ?_⟩
    · have a1 := HN.out.1
      have a2 := HN.out.2.1
      have a3 := HN.out.2.2
      obtain ⟨k1, k2, k3, k4, k5⟩ := HK.out; clear HN H0
      simp only [bareS, ← a1, ← a2]
      simp_all
      try exact a3
      try omega
    · have hg : w.heap.size ≤ b := Nat.le_of_eq HB.out.symm
      first
        | exact H0.out.2
        | exact H0.out.2.setCell hg _
        | exact (H0.out.2.setCell hg _).setCell hg _
        | exact ((H0.out.2.setCell hg _).setCell hg _).setCell hg _
theorem bare_any {w : World} {x : AcR} (h : RdA w x) : Calls Tryd.prog 17 #[.agg (acA x)] w fun e w' => e = .returned (.bool (bareS x.a)) ∧ Below w.heap.size w w' := by
  obtain ⟨⟨k, r, m, f, ps, tx⟩, P, np, cp, T, nt, ct⟩ := x
  by_cases h1 : k = 1
  · subst h1; exact bare_1 h
  by_cases h2 : k = 2
  · subst h2; exact bare_2 h
  by_cases h3 : k = 3
  · subst h3; exact bare_3 h
  by_cases h4 : k = 4
  · subst h4; exact bare_4 h
  by_cases h5 : k = 5
  · subst h5; exact bare_5 h
  exact bare_no h ⟨h1, h2, h3, h4, h5⟩
end Go.Proofs.YtappnfifhpmekaaDoor

namespace Go.Proofs.YtappnfifhpmekaaDoor
open Go.RowKit

/-! ### Texts -/
def oscOk (zs : List Int) : Bool := decide (zs.length ≤ 256) && zs.all fun z => decide (32 ≤ z)
theorem isControl_any (z : Int) (w : World) : Calls Tryd.prog 48 #[.int .u8 z] w fun e w' => e = .returned (.bool (decide (z < 32))) ∧ w = w' := by
  go_enter Tryd.func48, Tryd.ntmps48
  go_wp2_with fail
  go_ret
  exact ⟨rfl, rfl⟩
set_option maxHeartbeats 1600000 in
theorem indexFunc_any {w : World} {A : Option Addr} {n c : Nat} {zs : List Int} (h : Sb w A n zs) (hn : n ≤ 1000000) (F : Value) (hF : F = .func (.func 48) #[] #[]) :
    Calls Tryd.prog 59 #[.slice A n c, F] w fun e w' => ∃ i : Int, e = .returned (.int .i64 i) ∧ ((∀ z ∈ zs, 32 ≤ z) ∧ i = -1 ∨ (¬ ∀ z ∈ zs, 32 ≤ z) ∧ 0 ≤ i) ∧ w = w' := by
  subst hF
  have H := Lib.hid h
  clear h
  go_enter Tryd.func59, Tryd.ntmps59
  go_wp2_with fail
  go_loopw [8] (fun i wr => ∃ (k : Nat), k ≤ n ∧ i = .int .i64 k ∧ wr = w ∧ ∀ j, j < k → 32 ≤ zs.getD j 0) (fun i _ => n - (intOf i).toNat)
  case atStart => exact ⟨0, Nat.zero_le _, rfl, rfl, fun j hj => absurd hj (Nat.not_lt_zero j)⟩
  case round =>
    obtain ⟨k, hk, rfl, rfl, hall⟩ := hrel
    have X := Lib.hid hall
    clear hall
    by_cases hlt : k < n
    · obtain ⟨ad, hA⟩ : ∃ ad, A = some ad := by obtain ⟨ad, e, _⟩ := H.out.at_ (by omega); exact ⟨ad, e⟩
      subst hA
      have hcell := H.out.cell hlt
      obtain ⟨z, hz⟩ : ∃ z, z = zs.getD k 0 := ⟨_, rfl⟩
      rw [← hz] at hcell
      have HZ := Lib.hid hz
      clear hz
      go_wp2_with fail
      refine (isControl_any z wr).mono ?_
      rintro e w1 ⟨rfl, rfl⟩
      by_cases hz32 : z < 32
      · rw [decide_eq_true hz32]
        have HF := Lib.hid (show ¬ ∀ y ∈ zs, 32 ≤ y from fun hh => by
          have h1 := hh z (by rw [HZ.out, getD_lt (by rw [H.out.len]; exact hlt)]; exact List.getElem_mem _)
          omega)
        clear hz32
        go_wp2_with fail
        go_ret
        refine ⟨(k : Int), rfl, .inr ⟨HF.out, by omega⟩, ?_⟩
        first | rfl | trivial
      · rw [decide_eq_false hz32]
        have HF := Lib.hid (show ∀ j, j < k + 1 → 32 ≤ zs.getD j 0 from fun j hj => by
          by_cases e : j = k
          · rw [e, ← HZ.out]; omega
          · exact X.out j (by omega))
        clear hz32
        go_wp2_with fail
        go_roundw
        case rel => exact ⟨k + 1, by omega, by go_num, by first | rfl | trivial, HF.out⟩
        case measure => simp [intOf]; omega
    · obtain rfl : k = n := by omega
      have HF := Lib.hid (show ∀ z ∈ zs, 32 ≤ z from fun z hz => by
        obtain ⟨j, hj, rfl⟩ := List.mem_iff_getElem.1 hz
        have h1 := X.out j (by rw [← H.out.len]; exact hj)
        rw [getD_lt hj] at h1
        exact h1)
      go_wp2_with fail
      go_ret
      refine ⟨-1, rfl, .inl ⟨HF.out, rfl⟩, ?_⟩
      first | rfl | trivial
theorem containsFunc_any {w : World} {A : Option Addr} {n c : Nat} {zs : List Int} (h : Sb w A n zs) (hn : n ≤ 1000000) (F : Value) (hF : F = .func (.func 48) #[] #[]) :
    Calls Tryd.prog 49 #[.slice A n c, F] w fun e w' => e = .returned (.bool (!zs.all fun z => decide (32 ≤ z))) ∧ w = w' := by
  have X := Lib.hid (indexFunc_any (c := c) h hn F hF)
  clear h hF
  obtain ⟨K, hK⟩ : ∃ K, (zs.all fun z => decide (32 ≤ z)) = K := ⟨_, rfl⟩
  rw [hK]
  have HK := Lib.hid hK
  clear hK
  go_enter Tryd.func49, Tryd.ntmps49
  go_wp2_with fail
  refine X.out.mono ?_
  rintro e w1 ⟨i, rfl, hi, rfl⟩
  rcases hi with ⟨h1, rfl⟩ | ⟨h1, h2⟩
  · have e1 : (zs.all fun z => decide (32 ≤ z)) = true := List.all_eq_true.2 fun z hz => decide_eq_true (h1 z hz)
    obtain rfl : true = K := e1.symm.trans HK.out
    clear X h1 e1 HK
    go_wp2_with fail
    go_ret
    exact ⟨rfl, rfl⟩
  · have e1 : (zs.all fun z => decide (32 ≤ z)) = false := by
      rw [Bool.eq_false_iff]
      exact fun hh => h1 fun z hz => of_decide_eq_true (List.all_eq_true.1 hh z hz)
    obtain rfl : false = K := e1.symm.trans HK.out
    clear X h1 e1 HK
    go_wp2_with fail
    go_ret
    exact ⟨rfl, rfl⟩
theorem mayOsc_any {w : World} {A : Option Addr} {n c : Nat} {zs : List Int} (h : Sb w A n zs) (hn : n ≤ 1000000) :
    Calls Tryd.prog 34 #[.slice A n c] w fun e w' => e = .returned (.bool (oscOk zs)) ∧ w = w' := by
  have hl := h.len
  by_cases hle : n ≤ 256
  · have e1 : oscOk zs = zs.all fun z => decide (32 ≤ z) := by unfold oscOk; rw [decide_eq_true (by omega), Bool.true_and]
    rw [e1]
    obtain ⟨K, hK⟩ : ∃ K, (zs.all fun z => decide (32 ≤ z)) = K := ⟨_, rfl⟩
    have X := Lib.hid (containsFunc_any (c := c) h hn _ rfl)
    rw [hK] at X ⊢
    clear h e1 hl hK
    go_enter Tryd.func34, Tryd.ntmps34
    go_wp2_with fail
    refine X.out.mono ?_
    rintro e w1 ⟨rfl, rfl⟩
    go_wp2_with fail
    go_ret
    exact ⟨by simp, rfl⟩
  · have e1 : oscOk zs = false := by unfold oscOk; rw [decide_eq_false (by omega), Bool.false_and]
    rw [e1]
    clear h e1 hl
    go_enter Tryd.func34, Tryd.ntmps34
    go_wp2_with fail
    go_ret
    exact ⟨rfl, rfl⟩

/-! ### Escape sequences -/
def escOk (m f : Int) : Bool := decide (48 ≤ f ∧ f ≤ 126) && (decide (32 ≤ m ∧ m < 48) || decide (m = 0 ∧ openS f = 0))
/-- An act in its box. -/
structure Bxd (w : World) (b : Nat) (x : AcR) (w1 : World) : Prop where
  bx : Bx w1 b x
  bel : Below w.heap.size w w1
  b0 : w.heap.size ≤ b
  rd : RdA w1 x
theorem Bxd.of {w : World} {x : AcR} (h : RdA w x) : Bxd w w.heap.size x (w.alloc (.cells (acA x) 25)) :=
  ⟨Bx.new w x, (Below.refl _ _).alloc (Nat.le_refl _) _, Nat.le_refl _, h.below ((Below.refl _ _).alloc (Nat.le_refl _) _)⟩
theorem Bxd.below {w w1 w2 : World} {b : Nat} {x : AcR} (h : Bxd w b x w1) (hb : Below w1.heap.size w1 w2) : Bxd w b x w2 := ⟨h.bx.below hb, h.bel.trans (hb.mono h.bel.size), h.b0, h.rd.below hb⟩
set_option maxHeartbeats 3200000 in
theorem mayEsc_any {w : World} {x : AcR} (h : RdA w x) : Calls Tryd.prog 32 #[.agg (acA x)] w fun e w' => e = .returned (.bool (escOk x.a.m x.a.fin)) ∧ Below w.heap.size w w' := by
  obtain ⟨⟨k, r, m, f, ps, tx⟩, P, np, cp, T, nt, ct⟩ := x
  have H0 := Lib.hid (Bxd.of h)
  clear h
  obtain ⟨K, hK⟩ : ∃ K, escOk m f = K := ⟨_, rfl⟩
  simp only
  rw [hK]
  have HK := Lib.hid hK
  clear hK
  show Calls _ _ #[.agg #[.int .i64 k, .int .i32 r, .int .u8 m, .int .u8 f, .slice P np cp, .slice T nt ct]] w _
  go_enter Tryd.func32, Tryd.ntmps32
  go_upto_region 1 with fail
  obtain ⟨b, hb⟩ : ∃ b, b = w.heap.size := ⟨_, rfl⟩
  rw [← hb] at H0 ⊢
  have H1 : Hid (Bxd w b ⟨⟨k, r, m, f, ps, tx⟩, P, np, cp, T, nt, ct⟩ (w.alloc (.cells #[.int .i64 k, .int .i32 r, .int .u8 m, .int .u8 f, .slice P np cp, .slice T nt ct] 25))) := H0
  generalize (w.alloc (.cells #[.int .i64 k, .int .i32 r, .int .u8 m, .int .u8 f, .slice P np cp, .slice T nt ct] 25)) = w1 at H1 ⊢
  clear H0 hb
  obtain ⟨_, p0, p1, p2, p3, p4, p5⟩ := bx_cells H1.out.bx
  simp only at p0 p1 p2 p3 p4 p5
  by_cases c1 : f < 48
  · have hk : K = false := by rw [← HK.out]; unfold escOk; rw [decide_eq_false (by omega), Bool.false_and]
    subst hk
    go_wp2_with fail
    go_ret
    exact ⟨rfl, H1.out.bel⟩
  by_cases c2 : 127 ≤ f
  · have hk : K = false := by rw [← HK.out]; unfold escOk; rw [decide_eq_false (by omega), Bool.false_and]
    subst hk
    go_wp2_with fail
    go_ret
    exact ⟨rfl, H1.out.bel⟩
  have e1 : escOk m f = (decide (32 ≤ m ∧ m < 48) || decide (m = 0 ∧ openS f = 0)) := by unfold escOk; rw [decide_eq_true (by omega), Bool.true_and]
  have HK2 := Lib.hid (e1.symm.trans HK.out)
  clear e1 HK
  by_cases c3 : 32 ≤ m ∧ m < 48
  · have hk : K = true := by rw [← HK2.out, decide_eq_true c3, Bool.true_or]
    subst hk
    have hd : decide (32 ≤ m ∧ m < 48) = true := decide_eq_true c3
    clear HK2 c3
    go_wp2_with fail
    refine (isBetween_any m w1).mono ?_
    rintro e w2 ⟨rfl, rfl⟩
    rw [hd]
    go_wp2_with fail
    go_ret
    exact ⟨rfl, H1.out.bel⟩
  have hd : decide (32 ≤ m ∧ m < 48) = false := decide_eq_false c3
  by_cases c4 : m = 0
  · subst c4
    obtain ⟨o, ho⟩ : ∃ o, openS f = o := ⟨_, rfl⟩
    have hk : K = decide (o = 0) := by rw [← HK2.out, hd, Bool.false_or, ho]; simp
    subst hk
    have HO := Lib.hid ho
    clear HK2 c3 ho
    go_wp2_with fail
    refine (isBetween_any 0 w1).mono ?_
    rintro e w2 ⟨rfl, rfl⟩
    rw [hd]
    go_wp2_with fail
    refine (opened_any f w1).mono ?_
    rintro e w2 ⟨rfl, rfl⟩
    rw [HO.out]
    go_wp2_with fail
    go_ret
    refine ⟨congrArg Ending.returned (congrArg Value.bool ?_), H1.out.bel⟩
    show (o == 0) = decide (o = 0)
    rw [Bool.eq_iff_iff]
    simp
  · have hk : K = false := by rw [← HK2.out, hd, Bool.false_or, decide_eq_false (fun e => c4 e.1)]
    subst hk
    clear HK2 c3
    go_wp2_with fail
    refine (isBetween_any m w1).mono ?_
    rintro e w2 ⟨rfl, rfl⟩
    rw [hd]
    go_wp2_with fail
    go_ret
    refine ⟨congrArg Ending.returned (congrArg Value.bool ?_), H1.out.bel⟩
    first | rfl | exact beq_eq_false_iff_ne.2 c4 | simp [c4]

/-! ### Control sequences -/
def psB (ps : List Int) : Bool := ps.all fun z => decide (0 ≤ z ∧ z ≤ 9999)
def csiOk (m f : Int) (ps : List Int) : Bool := decide (m = 0 ∨ (60 ≤ m ∧ m < 64) ∨ (32 ≤ m ∧ m < 48)) && (psB ps && decide (ps.length ≤ 16 ∧ 64 ≤ f ∧ f < 127))
set_option maxHeartbeats 6400000 in
theorem mayCsi_any {w : World} {x : AcR} (h : RdA w x) (hn : x.np ≤ 1000) : Calls Tryd.prog 33 #[.agg (acA x)] w fun e w' => e = .returned (.bool (csiOk x.a.m x.a.fin x.a.ps)) ∧ Below w.heap.size w w' := by
  obtain ⟨⟨k, r, m, f, ps, tx⟩, P, np, cp, T, nt, ct⟩ := x
  have H0 := Lib.hid (Bxd.of h)
  clear h
  simp only at hn
  obtain ⟨K, hK⟩ : ∃ K, csiOk m f ps = K := ⟨_, rfl⟩
  simp only
  rw [hK]
  have HK := Lib.hid hK
  clear hK
  show Calls _ _ #[.agg #[.int .i64 k, .int .i32 r, .int .u8 m, .int .u8 f, .slice P np cp, .slice T nt ct]] w _
  go_enter Tryd.func33, Tryd.ntmps33
  go_upto_region 1 with fail
  obtain ⟨b, hb⟩ : ∃ b, b = w.heap.size := ⟨_, rfl⟩
  rw [← hb] at H0 ⊢
  have H1 : Hid (Bxd w b ⟨⟨k, r, m, f, ps, tx⟩, P, np, cp, T, nt, ct⟩ (w.alloc (.cells #[.int .i64 k, .int .i32 r, .int .u8 m, .int .u8 f, .slice P np cp, .slice T nt ct] 25))) := H0
  generalize (w.alloc (.cells #[.int .i64 k, .int .i32 r, .int .u8 m, .int .u8 f, .slice P np cp, .slice T nt ct] 25)) = w1 at H1 ⊢
  clear H0 hb
  obtain ⟨_, p0, p1, p2, p3, p4, p5⟩ := bx_cells H1.out.bx
  simp only at p0 p1 p2 p3 p4 p5
  by_cases hm : m = 0 ∨ (60 ≤ m ∧ m < 64) ∨ (32 ≤ m ∧ m < 48)
  case neg =>
    have hk : K = false := by rw [← HK.out]; unfold csiOk; rw [decide_eq_false hm, Bool.false_and]
    subst hk
    have m0 : ¬ m = 0 := fun e => hm (.inl e)
    have d1 : decide (60 ≤ m ∧ m < 64) = false := decide_eq_false fun e => hm (.inr (.inl e))
    have d2 : decide (32 ≤ m ∧ m < 48) = false := decide_eq_false fun e => hm (.inr (.inr e))
    have t0 : (m != 0) = true := bne_iff_ne.2 m0
    clear HK hm
    go_wp2_with fail
    refine (isPrivate_any m w1).mono ?_
    rintro e w2 ⟨rfl, rfl⟩
    rw [d1]
    go_wp2_with fail
    refine (isBetween_any m w1).mono ?_
    rintro e w2 ⟨rfl, rfl⟩
    rw [d2]
    go_wp2_with fail
    go_ret
    exact ⟨rfl, H1.out.bel⟩
  have e1 : csiOk m f ps = (psB ps && decide (ps.length ≤ 16 ∧ 64 ≤ f ∧ f < 127)) := by unfold csiOk; rw [decide_eq_true hm, Bool.true_and]
  have HK2 := Lib.hid (e1.symm.trans HK.out)
  have HI := Lib.hid H1.out.rd.p
  simp only at HI
  clear e1 HK
  go_upto_region 1 with fail
  go_cut [19] from 5 to 19 (fun v wc => v = .bool false ∧ wc = w1)
  case first =>
    by_cases m0 : m = 0
    · subst m0
      clear hm
      go_wp2_with fail
      go_meet
      exact ⟨rfl, rfl⟩
    have t0 : (m != 0) = true := bne_iff_ne.2 m0
    by_cases hp : 60 ≤ m ∧ m < 64
    · have d1 : decide (60 ≤ m ∧ m < 64) = true := decide_eq_true hp
      clear hm hp
      go_wp2_with fail
      refine (isPrivate_any m w1).mono ?_
      rintro e w2 ⟨rfl, rfl⟩
      rw [d1]
      go_wp2_with fail
      go_meet
      exact ⟨rfl, rfl⟩
    · have d1 : decide (60 ≤ m ∧ m < 64) = false := decide_eq_false hp
      have d2 : decide (32 ≤ m ∧ m < 48) = true := decide_eq_true (by omega)
      clear hm hp
      go_wp2_with fail
      refine (isPrivate_any m w1).mono ?_
      rintro e w2 ⟨rfl, rfl⟩
      rw [d1]
      go_wp2_with fail
      refine (isBetween_any m w1).mono ?_
      rintro e w2 ⟨rfl, rfl⟩
      rw [d2]
      go_wp2_with fail
      go_meet
      exact ⟨rfl, rfl⟩
  case rest =>
    obtain ⟨rfl, rfl⟩ := hcut
    clear hm
    go_wp2_with fail
    go_loopw [23] (fun i wr => ∃ (j : Nat), j ≤ np ∧ i = .int .i64 j ∧ wr = wc ∧ ∀ q, q < j → 0 ≤ ps.getD q 0 ∧ ps.getD q 0 ≤ 9999) (fun i _ => np - (intOf i).toNat)
    case atStart => exact ⟨0, Nat.zero_le _, rfl, rfl, fun j hj => absurd hj (Nat.not_lt_zero j)⟩
    case round =>
      obtain ⟨j, hj, rfl, rfl, hall⟩ := hrel
      have X := Lib.hid hall
      clear hall
      have hlen := HI.out.len
      by_cases hlt : j < np
      · obtain ⟨ad, hA⟩ : ∃ ad, P = some ad := by obtain ⟨ad, e, _⟩ := HI.out.at_ (by omega); exact ⟨ad, e⟩
        subst hA
        have hcell := HI.out.cell hlt
        obtain ⟨z, hz⟩ : ∃ z, z = ps.getD j 0 := ⟨_, rfl⟩
        rw [← hz] at hcell
        have HZ := Lib.hid hz
        have hjl : j < ps.length := by omega
        have HJ := Lib.hid hjl
        clear hz hlen hjl
        by_cases hz9 : 0 ≤ z ∧ z ≤ 9999
        · have HF := Lib.hid (show ∀ q, q < j + 1 → 0 ≤ ps.getD q 0 ∧ ps.getD q 0 ≤ 9999 from fun q hq => by
            by_cases e : q = j
            · rw [e, ← HZ.out]; exact hz9
            · exact X.out q (by omega))
          obtain ⟨z0, z9⟩ := hz9
          have y0 : ¬ z < 0 := by omega
          have y9 : ¬ 9999 < z := by omega
          clear z0 z9
          go_wp2_with fail
          go_roundw
          case rel => exact ⟨j + 1, by omega, by go_num, by first | rfl | trivial, HF.out⟩
          case measure => simp [intOf]; omega
        · have hk : K = false := by
            rw [← HK2.out]
            have e2 : psB ps = false := by
              unfold psB
              rw [Bool.eq_false_iff]
              intro hh
              have h1 := List.all_eq_true.1 hh z (by rw [HZ.out, getD_lt HJ.out]; exact List.getElem_mem _)
              exact hz9 (of_decide_eq_true h1)
            rw [e2, Bool.false_and]
          subst hk
          by_cases z0 : z < 0
          · clear hz9
            go_wp2_with fail
            go_ret
            exact ⟨rfl, H1.out.bel⟩
          · have z9 : 9999 < z := by omega
            clear hz9
            go_wp2_with fail
            go_ret
            exact ⟨rfl, H1.out.bel⟩
      · obtain rfl : j = np := by omega
        have e2 : psB ps = true := List.all_eq_true.2 fun z hz => by
          obtain ⟨q, hq, rfl⟩ := List.mem_iff_getElem.1 hz
          have h1 := X.out q (by omega)
          rw [getD_lt hq] at h1
          exact decide_eq_true h1
        have hk : K = decide (j ≤ 16 ∧ 64 ≤ f ∧ f < 127) := by rw [← HK2.out, e2, Bool.true_and, hlen]
        have HKK := Lib.hid hk
        clear hk e2 hlen HK2 X
        go_wp2_with fail
        all_goals
          go_ret
          refine ⟨congrArg Ending.returned (congrArg Value.bool ?_), H1.out.bel⟩
          have hk := HKK.out
          clear HKK H1 HI
          subst hk
          rw [Bool.eq_iff_iff]
          simp
          try omega
end Go.Proofs.YtappnfifhpmekaaDoor

namespace Go.Proofs.YtappnfifhpmekaaDoor
open Go.RowKit

set_option maxHeartbeats 3200000 in
theorem mayAct_1 {w : World} {r m f : Int} {ps tx : List Int} {P T : Option Addr} {np cp nt ct : Nat} (h : RdA w ⟨⟨1, r, m, f, ps, tx⟩, P, np, cp, T, nt, ct⟩) :
    Calls Tryd.prog 18 #[.agg #[.int .i64 1, .int .i32 r, .int .u8 m, .int .u8 f, .slice P np cp, .slice T nt ct]] w fun e w' => e = .returned (.bool (mayS r && decide (32 ≤ r ∧ r ≠ 127))) ∧ Below w.heap.size w w' := by
  have H0 := Lib.hid (Bxd.of h)
  clear h
  obtain ⟨K, hK⟩ : ∃ K, (mayS r && decide (32 ≤ r ∧ r ≠ 127)) = K := ⟨_, rfl⟩
  rw [hK]
  have HK := Lib.hid hK
  clear hK
  go_enter Tryd.func18, Tryd.ntmps18
  go_upto_region 1 with fail
  obtain ⟨b, hb⟩ : ∃ b, b = w.heap.size := ⟨_, rfl⟩
  rw [← hb] at H0 ⊢
  have H1 : Hid (Bxd w b ⟨⟨1, r, m, f, ps, tx⟩, P, np, cp, T, nt, ct⟩ (w.alloc (.cells #[.int .i64 1, .int .i32 r, .int .u8 m, .int .u8 f, .slice P np cp, .slice T nt ct] 25))) := H0
  generalize (w.alloc (.cells #[.int .i64 1, .int .i32 r, .int .u8 m, .int .u8 f, .slice P np cp, .slice T nt ct] 25)) = w1 at H1 ⊢
  clear H0 hb
  obtain ⟨_, p0, p1, p2, p3, p4, p5⟩ := bx_cells H1.out.bx
  simp only at p0 p1 p2 p3 p4 p5
  have X := Lib.hid (mayPrint_any r w1)
  rw [HK.out] at X
  go_wp2_with fail
  refine X.out.mono ?_
  rintro e w2 ⟨rfl, rfl⟩
  clear X
  go_wp2_with fail
  go_ret
  exact ⟨rfl, H1.out.bel⟩
set_option maxHeartbeats 3200000 in
theorem mayAct_2 {w : World} {r m f : Int} {ps tx : List Int} {P T : Option Addr} {np cp nt ct : Nat} (h : RdA w ⟨⟨2, r, m, f, ps, tx⟩, P, np, cp, T, nt, ct⟩) :
    Calls Tryd.prog 18 #[.agg #[.int .i64 2, .int .i32 r, .int .u8 m, .int .u8 f, .slice P np cp, .slice T nt ct]] w fun e w' => e = .returned (.bool (decide (f < 32 ∧ f ≠ 24 ∧ f ≠ 26 ∧ f ≠ 27))) ∧ Below w.heap.size w w' := by
  have H0 := Lib.hid (Bxd.of h)
  clear h
  obtain ⟨K, hK⟩ : ∃ K, (decide (f < 32 ∧ f ≠ 24 ∧ f ≠ 26 ∧ f ≠ 27)) = K := ⟨_, rfl⟩
  rw [hK]
  have HK := Lib.hid hK
  clear hK
  go_enter Tryd.func18, Tryd.ntmps18
  go_upto_region 1 with fail
  obtain ⟨b, hb⟩ : ∃ b, b = w.heap.size := ⟨_, rfl⟩
  rw [← hb] at H0 ⊢
  have H1 : Hid (Bxd w b ⟨⟨2, r, m, f, ps, tx⟩, P, np, cp, T, nt, ct⟩ (w.alloc (.cells #[.int .i64 2, .int .i32 r, .int .u8 m, .int .u8 f, .slice P np cp, .slice T nt ct] 25))) := H0
  generalize (w.alloc (.cells #[.int .i64 2, .int .i32 r, .int .u8 m, .int .u8 f, .slice P np cp, .slice T nt ct] 25)) = w1 at H1 ⊢
  clear H0 hb
  obtain ⟨_, p0, p1, p2, p3, p4, p5⟩ := bx_cells H1.out.bx
  simp only at p0 p1 p2 p3 p4 p5
  go_wp2_with fail
  all_goals
    go_ret
    refine ⟨congrArg Ending.returned (congrArg Value.bool ?_), H1.out.bel⟩
    have hk := HK.out
    clear HK H1
    subst hk
    rw [Bool.eq_iff_iff]
    simp
    try omega
set_option maxHeartbeats 3200000 in
theorem mayAct_3 {w : World} {r m f : Int} {ps tx : List Int} {P T : Option Addr} {np cp nt ct : Nat} (h : RdA w ⟨⟨3, r, m, f, ps, tx⟩, P, np, cp, T, nt, ct⟩) :
    Calls Tryd.prog 18 #[.agg #[.int .i64 3, .int .i32 r, .int .u8 m, .int .u8 f, .slice P np cp, .slice T nt ct]] w fun e w' => e = .returned (.bool (escOk m f)) ∧ Below w.heap.size w w' := by
  have H0 := Lib.hid (Bxd.of h)
  clear h
  obtain ⟨K, hK⟩ : ∃ K, (escOk m f) = K := ⟨_, rfl⟩
  rw [hK]
  have HK := Lib.hid hK
  clear hK
  go_enter Tryd.func18, Tryd.ntmps18
  go_upto_region 1 with fail
  obtain ⟨b, hb⟩ : ∃ b, b = w.heap.size := ⟨_, rfl⟩
  rw [← hb] at H0 ⊢
  have H1 : Hid (Bxd w b ⟨⟨3, r, m, f, ps, tx⟩, P, np, cp, T, nt, ct⟩ (w.alloc (.cells #[.int .i64 3, .int .i32 r, .int .u8 m, .int .u8 f, .slice P np cp, .slice T nt ct] 25))) := H0
  generalize (w.alloc (.cells #[.int .i64 3, .int .i32 r, .int .u8 m, .int .u8 f, .slice P np cp, .slice T nt ct] 25)) = w1 at H1 ⊢
  clear H0 hb
  obtain ⟨_, p0, p1, p2, p3, p4, p5⟩ := bx_cells H1.out.bx
  simp only at p0 p1 p2 p3 p4 p5
  have X := Lib.hid (mayEsc_any (x := ⟨⟨3, r, m, f, ps, tx⟩, P, np, cp, T, nt, ct⟩) H1.out.rd)
  simp only at X
  rw [HK.out] at X
  go_wp2_with fail
  refine X.out.mono ?_
  rintro e w2 ⟨rfl, hb2⟩
  have Y := Lib.hid (H1.out.bel.trans (hb2.mono H1.out.bel.size))
  clear X hb2 p0 p1 p2 p3 p4 p5 H1
  go_wp2_with fail
  go_ret
  exact ⟨rfl, Y.out⟩
set_option maxHeartbeats 3200000 in
theorem mayAct_4 {w : World} {r m f : Int} {ps tx : List Int} {P T : Option Addr} {np cp nt ct : Nat} (h : RdA w ⟨⟨4, r, m, f, ps, tx⟩, P, np, cp, T, nt, ct⟩) (hn : np ≤ 1000) :
    Calls Tryd.prog 18 #[.agg #[.int .i64 4, .int .i32 r, .int .u8 m, .int .u8 f, .slice P np cp, .slice T nt ct]] w fun e w' => e = .returned (.bool (csiOk m f ps)) ∧ Below w.heap.size w w' := by
  have H0 := Lib.hid (Bxd.of h)
  clear h
  obtain ⟨K, hK⟩ : ∃ K, (csiOk m f ps) = K := ⟨_, rfl⟩
  rw [hK]
  have HK := Lib.hid hK
  clear hK
  go_enter Tryd.func18, Tryd.ntmps18
  go_upto_region 1 with fail
  obtain ⟨b, hb⟩ : ∃ b, b = w.heap.size := ⟨_, rfl⟩
  rw [← hb] at H0 ⊢
  have H1 : Hid (Bxd w b ⟨⟨4, r, m, f, ps, tx⟩, P, np, cp, T, nt, ct⟩ (w.alloc (.cells #[.int .i64 4, .int .i32 r, .int .u8 m, .int .u8 f, .slice P np cp, .slice T nt ct] 25))) := H0
  generalize (w.alloc (.cells #[.int .i64 4, .int .i32 r, .int .u8 m, .int .u8 f, .slice P np cp, .slice T nt ct] 25)) = w1 at H1 ⊢
  clear H0 hb
  obtain ⟨_, p0, p1, p2, p3, p4, p5⟩ := bx_cells H1.out.bx
  simp only at p0 p1 p2 p3 p4 p5
  have X := Lib.hid (mayCsi_any (x := ⟨⟨4, r, m, f, ps, tx⟩, P, np, cp, T, nt, ct⟩) H1.out.rd hn)
  simp only at X
  rw [HK.out] at X
  go_wp2_with fail
  refine X.out.mono ?_
  rintro e w2 ⟨rfl, hb2⟩
  have Y := Lib.hid (H1.out.bel.trans (hb2.mono H1.out.bel.size))
  clear X hb2 p0 p1 p2 p3 p4 p5 H1
  go_wp2_with fail
  go_ret
  exact ⟨rfl, Y.out⟩
set_option maxHeartbeats 3200000 in
theorem mayAct_5 {w : World} {r m f : Int} {ps tx : List Int} {P T : Option Addr} {np cp nt ct : Nat} (h : RdA w ⟨⟨5, r, m, f, ps, tx⟩, P, np, cp, T, nt, ct⟩) (hn : nt ≤ 1000000) :
    Calls Tryd.prog 18 #[.agg #[.int .i64 5, .int .i32 r, .int .u8 m, .int .u8 f, .slice P np cp, .slice T nt ct]] w fun e w' => e = .returned (.bool (oscOk tx)) ∧ Below w.heap.size w w' := by
  have H0 := Lib.hid (Bxd.of h)
  clear h
  obtain ⟨K, hK⟩ : ∃ K, (oscOk tx) = K := ⟨_, rfl⟩
  rw [hK]
  have HK := Lib.hid hK
  clear hK
  go_enter Tryd.func18, Tryd.ntmps18
  go_upto_region 1 with fail
  obtain ⟨b, hb⟩ : ∃ b, b = w.heap.size := ⟨_, rfl⟩
  rw [← hb] at H0 ⊢
  have H1 : Hid (Bxd w b ⟨⟨5, r, m, f, ps, tx⟩, P, np, cp, T, nt, ct⟩ (w.alloc (.cells #[.int .i64 5, .int .i32 r, .int .u8 m, .int .u8 f, .slice P np cp, .slice T nt ct] 25))) := H0
  generalize (w.alloc (.cells #[.int .i64 5, .int .i32 r, .int .u8 m, .int .u8 f, .slice P np cp, .slice T nt ct] 25)) = w1 at H1 ⊢
  clear H0 hb
  obtain ⟨_, p0, p1, p2, p3, p4, p5⟩ := bx_cells H1.out.bx
  simp only at p0 p1 p2 p3 p4 p5
  have X := Lib.hid (mayOsc_any (c := ct) H1.out.rd.t hn)
  simp only at X
  rw [HK.out] at X
  go_wp2_with fail
  refine X.out.mono ?_
  rintro e w2 ⟨rfl, rfl⟩
  clear X
  go_wp2_with fail
  go_ret
  exact ⟨rfl, H1.out.bel⟩
set_option maxHeartbeats 3200000 in
theorem mayAct_no {w : World} {r m f : Int} {k : Int} {ps tx : List Int} {P T : Option Addr} {np cp nt ct : Nat} (h : RdA w ⟨⟨k, r, m, f, ps, tx⟩, P, np, cp, T, nt, ct⟩) (hk : ¬ k = 1 ∧ ¬ k = 2 ∧ ¬ k = 3 ∧ ¬ k = 4 ∧ ¬ k = 5) :
    Calls Tryd.prog 18 #[.agg #[.int .i64 k, .int .i32 r, .int .u8 m, .int .u8 f, .slice P np cp, .slice T nt ct]] w fun e w' => e = .returned (.bool (false)) ∧ Below w.heap.size w w' := by
  have H0 := Lib.hid (Bxd.of h)
  clear h
  obtain ⟨K, hK⟩ : ∃ K, (false) = K := ⟨_, rfl⟩
  rw [hK]
  have HK := Lib.hid hK
  clear hK
  obtain ⟨k1, k2, k3, k4, k5⟩ := hk
  have t1 : (k == 1) = false := beq_eq_false_iff_ne.2 k1
  have t2 : (k == 2) = false := beq_eq_false_iff_ne.2 k2
  have t3 : (k == 3) = false := beq_eq_false_iff_ne.2 k3
  have t4 : (k == 4) = false := beq_eq_false_iff_ne.2 k4
  have t5 : (k == 5) = false := beq_eq_false_iff_ne.2 k5
  go_enter Tryd.func18, Tryd.ntmps18
  go_upto_region 1 with fail
  obtain ⟨b, hb⟩ : ∃ b, b = w.heap.size := ⟨_, rfl⟩
  rw [← hb] at H0 ⊢
  have H1 : Hid (Bxd w b ⟨⟨k, r, m, f, ps, tx⟩, P, np, cp, T, nt, ct⟩ (w.alloc (.cells #[.int .i64 k, .int .i32 r, .int .u8 m, .int .u8 f, .slice P np cp, .slice T nt ct] 25))) := H0
  generalize (w.alloc (.cells #[.int .i64 k, .int .i32 r, .int .u8 m, .int .u8 f, .slice P np cp, .slice T nt ct] 25)) = w1 at H1 ⊢
  clear H0 hb
  obtain ⟨_, p0, p1, p2, p3, p4, p5⟩ := bx_cells H1.out.bx
  simp only at p0 p1 p2 p3 p4 p5
  obtain rfl : false = K := HK.out
  go_wp2_with fail
  go_ret
  exact ⟨rfl, H1.out.bel⟩
def mayA (a : AcS) : Bool :=
  if a.k = 1 then mayS a.r && decide (32 ≤ a.r ∧ a.r ≠ 127) else if a.k = 2 then decide (a.fin < 32 ∧ a.fin ≠ 24 ∧ a.fin ≠ 26 ∧ a.fin ≠ 27) else if a.k = 3 then escOk a.m a.fin else if a.k = 4 then csiOk a.m a.fin a.ps else if a.k = 5 then oscOk a.tx else false
theorem mayAct_any {w : World} {x : AcR} (h : RdA w x) (hp : x.np ≤ 1000) (ht : x.nt ≤ 1000000) : Calls Tryd.prog 18 #[.agg (acA x)] w fun e w' => e = .returned (.bool (mayA x.a)) ∧ Below w.heap.size w w' := by
  obtain ⟨⟨k, r, m, f, ps, tx⟩, P, np, cp, T, nt, ct⟩ := x
  simp only at hp ht
  unfold mayA
  simp only
  by_cases h1 : k = 1
  · subst h1; rw [if_pos rfl]; exact mayAct_1 h
  rw [if_neg h1]
  by_cases h2 : k = 2
  · subst h2; rw [if_pos rfl]; exact mayAct_2 h
  rw [if_neg h2]
  by_cases h3 : k = 3
  · subst h3; rw [if_pos rfl]; exact mayAct_3 h
  rw [if_neg h3]
  by_cases h4 : k = 4
  · subst h4; rw [if_pos rfl]; exact mayAct_4 h hp
  rw [if_neg h4]
  by_cases h5 : k = 5
  · subst h5; rw [if_pos rfl]; exact mayAct_5 h ht
  rw [if_neg h5]
  exact mayAct_no h ⟨h1, h2, h3, h4, h5⟩
/-- What can be laid is bare and may be. -/
theorem lay_is {a : AcS} (ha : AcW a) : layOk a = (bareS a && mayA a) := by
  obtain ⟨k, r, m, f, ps, tx⟩ := a
  obtain ⟨m0, m1, f0, f1, _, _⟩ := ha
  simp only at m0 m1 f0 f1
  unfold layOk mayA bareS
  simp only
  by_cases h1 : k = 1
  · subst h1
    rw [if_pos rfl, if_pos rfl, Bool.eq_iff_iff]
    simp
    constructor
    · rintro ⟨⟨⟨a1, a2, a3, a4⟩, a5⟩, a6, a7⟩; exact ⟨⟨a1, a2, a3, a4⟩, a5, a6, a7⟩
    · rintro ⟨⟨a1, a2, a3, a4⟩, a5, a6, a7⟩; exact ⟨⟨⟨a1, a2, a3, a4⟩, a5⟩, a6, a7⟩
  rw [if_neg h1, if_neg h1]
  by_cases h2 : k = 2
  · subst h2
    rw [if_pos rfl, if_pos rfl, Bool.eq_iff_iff]
    simp
    constructor
    · rintro ⟨a1, a2, a3, a4, a5, a6, a7, a8⟩; exact ⟨⟨a1, a2, a3, a4⟩, a5, a6, a7, a8⟩
    · rintro ⟨⟨a1, a2, a3, a4⟩, a5, a6, a7, a8⟩; exact ⟨a1, a2, a3, a4, a5, a6, a7, a8⟩
  rw [if_neg h2, if_neg h2]
  by_cases h3 : k = 3
  · subst h3
    rw [if_pos rfl, if_pos rfl]
    unfold escOk openS
    by_cases hm : m = 0
    · subst hm
      rw [if_pos rfl, Bool.eq_iff_iff]
      simp
      constructor
      · rintro ⟨⟨a1, a2, a3, a4, a5⟩, a6, a7, a8, a9, a10, a11⟩
        refine ⟨⟨a1, a2, a3⟩, ⟨a4, a5⟩, ?_⟩
        rw [if_neg a6, if_neg a7, if_neg (by omega)]
      · rintro ⟨⟨a1, a2, a3⟩, ⟨a4, a5⟩, a6⟩
        refine ⟨⟨a1, a2, a3, a4, a5⟩, ?_⟩
        by_cases b1 : f = 91
        · rw [if_pos b1] at a6; omega
        rw [if_neg b1] at a6
        by_cases b2 : f = 93
        · rw [if_pos b2] at a6; omega
        rw [if_neg b2] at a6
        by_cases b3 : f = 80 ∨ f = 88 ∨ f = 94 ∨ f = 95
        · rw [if_pos b3] at a6; omega
        · omega
    · rw [if_neg hm, Bool.eq_iff_iff]
      simp [hm]
      constructor
      · rintro ⟨⟨a1, a2, a3, a4, a5⟩, a6, a7⟩; exact ⟨⟨a1, a2, a3⟩, ⟨a4, a5⟩, by omega⟩
      · rintro ⟨⟨a1, a2, a3⟩, ⟨a4, a5⟩, a6⟩; exact ⟨⟨a1, a2, a3, a4, a5⟩, by omega⟩
  rw [if_neg h3, if_neg h3]
  by_cases h4 : k = 4
  · subst h4
    rw [if_pos rfl, if_pos rfl]
    unfold csiOk psB
    rw [Bool.eq_iff_iff]
    simp only [Bool.and_eq_true, decide_eq_true_eq, List.all_eq_true]
    constructor
    · rintro ⟨⟨⟨a1, a2, a3, a4, a5⟩, a6⟩, a7⟩; exact ⟨⟨.inr a1, .inr (.inl (by trivial)), .inr (.inr (.inl (by trivial))), .inl (by trivial), .inr a2⟩, by omega, a7, a3, a4, by omega⟩
    · rintro ⟨⟨a1, _, _, _, a2⟩, a6, a7, a3, a4, a5⟩; exact ⟨⟨⟨by omega, by rcases a2 with a2 | a2; omega; exact a2, a3, a4, by omega⟩, by omega⟩, a7⟩
  rw [if_neg h4, if_neg h4]
  by_cases h5 : k = 5
  · subst h5
    rw [if_pos rfl, if_pos rfl]
    unfold oscOk
    rw [Bool.eq_iff_iff]
    simp only [Bool.and_eq_true, decide_eq_true_eq, List.all_eq_true]
    constructor
    · rintro ⟨⟨a1, a2, a3, a4, a5⟩, a6⟩; exact ⟨⟨.inr a1, .inr (.inr a2), .inr (.inr (.inr a3)), .inr a4, .inl (by trivial)⟩, a5, a6⟩
    · rintro ⟨⟨a1, a2, a3, a4, _⟩, a5, a6⟩; exact ⟨⟨by omega, by omega, by omega, by rcases a4 with a4 | a4; omega; exact a4, a5⟩, a6⟩
  rw [if_neg h5, if_neg h5, Bool.and_false]
end Go.Proofs.YtappnfifhpmekaaDoor

namespace Go.Proofs.YtappnfifhpmekaaDoor
open Go.RowKit

/-- Bytes that a call answers. -/
def BtPost (zs : List Int) (w : World) (e : Ending) (w' : World) : Prop := ∃ A n c, e = .returned (.slice A n c) ∧ Sb w' A n zs ∧ Below w.heap.size w w'
set_option maxHeartbeats 3200000 in
theorem grow_any {n : Nat} (h0 : 0 < n) (hn : n ≤ 1000000) (w : World) :
    Calls Tryd.prog 39 #[.slice none 0 0, .int .i64 (n : Int)] w fun e w' => ∃ v, e = .returned v ∧ w'.ownsRow w.heap.size 5 1 v 0 [] ∧ Below w.heap.size w w' := by
  obtain ⟨i0, hi, hz0, hz1, hz2⟩ := info_parts info8
  have hrun : ∀ ty, (Builtin.append_ #[23, 3] ty #[.slice none 0 0, .int .i64 (n : Int)]).run Tryd.prog w = _ := fun ty => Lib.run_append_nil_zeros w 23 3 ty 5 i0 (.int .u8 0) .i64 .i64 Tryd.underlying23 Tryd.underlying3 hi hz0 n h0 (by omega) (by omega) (by rw [hz2]; omega)
  have hG1 : n ≤ grownCap w n 0 5 := grownCap_ge w n 0 5
  have hG2 : grownCap w n 0 5 ≤ maxLen := grownCap_le_maxLen w n 0 5 (by unfold maxLen; omega)
  have hsz : (Builtin.zeroCells (Value.int .u8 0).cells n ++ Builtin.zeroCells (Value.int .u8 0).cells (grownCap w n 0 5 - n)).size = grownCap w n 0 5 * 1 := by
    rw [Array.size_append, size_zeroCells, size_zeroCells]
    show n * 1 + (grownCap w n 0 5 - n) * 1 = _
    omega
  obtain ⟨cur, hcur⟩ : ∃ cur, cur = (Builtin.zeroCells (Value.int .u8 0).cells n ++ Builtin.zeroCells (Value.int .u8 0).cells (grownCap w n 0 5 - n)) := ⟨_, rfl⟩
  obtain ⟨G, hG⟩ : ∃ G, G = grownCap w n 0 5 := ⟨_, rfl⟩
  rw [← hcur, ← hG] at hsz
  rw [← hG] at hG1 hG2
  rw [← hcur, ← hG] at hrun
  have X := Lib.hid (show (w.drew.alloc (.cells cur 5)).ownsRow w.heap.size 5 1 (.slice (some ⟨w.heap.size, 0, none⟩) 0 G) 0 [] ∧ Below w.heap.size w (w.drew.alloc (.cells cur 5)) from
    ⟨World.ownsRow_made w.drew cur G (Nat.le_refl _) hG2 hsz, ((Below.refl _ w).drew).alloc (Nat.le_refl _) _⟩)
  have hG63 : G ≤ 9223372036854775807 := by unfold maxLen at hG2; omega
  have hGi : (0 : Int) ≤ (G : Int) := by omega
  have y1 : ¬ ((n : Int) < 0) := by omega
  have y2 : (0 : Int) < (n : Int) := by omega
  have y3 : wrap64 (n : Int) = (n : Int) := by unfold wrap64; omega
  have y4 : IntKind.i64.wrap (n : Int) = (n : Int) := by rw [IntKind.wrap_i64]; omega
  clear hi hz0 hz1 hz2 hsz hcur hG
  go_enter Tryd.func39, Tryd.ntmps39
  go_wp2_with (at_builtin; refine Lib.wpList_append_run _ rfl _ _ _ _ rfl _ _ rfl rfl _ _ (hrun _) ?_)
  all_goals (go_ret; exact ⟨_, rfl, X.out.1, X.out.2⟩)

/-- The first k of some rows, one behind the other. -/
def catZ (Z : Nat → List Int) : Nat → List Int
  | 0 => []
  | k + 1 => catZ Z k ++ Z k
/-- A row of m slices of bytes. -/
structure Rws3 (w : World) (g m : Nat) (A : Nat → Option Addr) (n c : Nat → Nat) (Z : Nat → List Int) : Prop where
  lt : g < w.heap.size
  cell : ∀ k, k < m → w.cell? ⟨g, k, none⟩ = some (.slice (A k) (n k) (c k))
  sb : ∀ k, k < m → Sb w (A k) (n k) (Z k)
theorem Rws3.below {w w' : World} {g m : Nat} {A : Nat → Option Addr} {n c : Nat → Nat} {Z : Nat → List Int} (h : Rws3 w g m A n c Z) (hb : Below w.heap.size w w') : Rws3 w' g m A n c Z :=
  ⟨Nat.lt_of_lt_of_le h.lt hb.size, fun k hk => (hb.cell (p := ⟨g, k, none⟩) h.lt).trans (h.cell k hk), fun k hk => (h.sb k hk).below hb⟩
theorem catZ_mono {Z : Nat → List Int} {j k : Nat} (h : j ≤ k) : (catZ Z j).length ≤ (catZ Z k).length := by
  induction h with
  | refl => exact Nat.le_refl _
  | step _ ih => exact Nat.le_trans ih (by show _ ≤ (catZ Z _ ++ Z _).length; rw [List.length_append]; omega)
set_option maxHeartbeats 3200000 in
theorem concat_any {w : World} {g m cc : Nat} {A : Nat → Option Addr} {n c : Nat → Nat} {Z : Nat → List Int} (h : Rws3 w g m A n c Z) (hm : m ≤ 1000) (h0 : 0 < (catZ Z m).length) (hl : (catZ Z m).length ≤ 1000000) :
    Calls Tryd.prog 22 #[.slice (some ⟨g, 0, none⟩) m cc] w (BtPost (catZ Z m) w) := by
  have H := Lib.hid (And.intro h (And.intro h0 hl))
  clear h h0 hl
  go_enter Tryd.func22, Tryd.ntmps22
  go_wp2_with fail
  go_loopw [3, 11] (fun s i wr => ∃ (k : Nat), k ≤ m ∧ i = .int .i64 k ∧ s = .int .i64 ((catZ Z k).length : Int) ∧ wr = w) (fun _ i _ => m - (intOf i).toNat)
  case atStart => exact ⟨0, Nat.zero_le _, rfl, rfl, rfl⟩
  case round =>
    obtain ⟨k, hk, rfl, rfl, hw⟩ := hrel
    have hw' := hw.symm
    clear hw
    subst hw'
    by_cases hlt : k < m
    · have hcell := H.out.1.cell k hlt
      have hbz := Lib.hid (show (catZ Z (k + 1)).length = (catZ Z k).length + n k ∧ (catZ Z k).length + n k ≤ 1000000 from by
        have e : (catZ Z (k + 1)).length = (catZ Z k).length + n k := by show (catZ Z k ++ Z k).length = _; rw [List.length_append, (H.out.1.sb k hlt).len]
        exact ⟨e, by rw [← e]; exact Nat.le_trans (catZ_mono (show k + 1 ≤ m by omega)) H.out.2.2⟩)
      obtain ⟨S, hS⟩ : ∃ S, S = (catZ Z k).length := ⟨_, rfl⟩
      rw [← hS] at hbz ⊢
      have y1 : wrap64 ((S : Int) + (n k : Int)) = (S : Int) + (n k : Int) := by have := hbz.out.2; unfold wrap64; omega
      have y2 : IntKind.i64.wrap ((S : Int) + (n k : Int)) = (S : Int) + (n k : Int) := by have := hbz.out.2; rw [IntKind.wrap_i64]; omega
      have y3 : ¬ ((S : Int) + (n k : Int) < 0) := by omega
      clear hS
      go_wp2_with fail
      go_roundw
      case rel => exact ⟨k + 1, by omega, by go_num, by rw [hbz.out.1]; go_num, by first | rfl | trivial⟩
      case measure => simp [intOf]; omega
    · obtain rfl : k = m := by omega
      obtain ⟨S, hS⟩ : ∃ S, S = (catZ Z k).length := ⟨_, rfl⟩
      have HS := Lib.hid (And.intro hS (And.intro (show 0 < S by rw [hS]; exact H.out.2.1) (show S ≤ 1000000 by rw [hS]; exact H.out.2.2)))
      rw [← hS]
      clear hS
      go_wp2_with fail
      refine (grow_any HS.out.2.1 HS.out.2.2 w).mono ?_
      rintro e w1 ⟨v, rfl, hown, hb⟩
      have X1 := Lib.hid (And.intro hown hb)
      clear hown hb
      go_wp2_with fail
      go_loopw [6, 27] (fun v i wr => ∃ (j : Nat), j ≤ k ∧ i = .int .i64 j ∧ wr.ownsRow w.heap.size 5 1 v (catZ Z j).length ((catZ Z j).map (Value.int .u8)) ∧ Below w.heap.size w wr) (fun _ i _ => k - (intOf i).toNat)
      case atStart => exact ⟨0, Nat.zero_le _, rfl, X1.out.1, X1.out.2⟩
      case round =>
        obtain ⟨j, hj, rfl, hown, hb⟩ := hrel
        obtain ⟨Av, cv, rfl, _, _⟩ := own_shape hown
        have X := Lib.hid (And.intro hown hb)
        clear hown hb X1
        by_cases hlt : j < k
        · have hR := H.out.1.below X.out.2
          have hcell := hR.cell j hlt
          have HS2 := Lib.hid (hR.sb j hlt)
          have hbz := Lib.hid (show (catZ Z j).length + n j ≤ 1000000 ∧ (catZ Z (j + 1)).length = (catZ Z j).length + n j from by
            have e : (catZ Z (j + 1)).length = (catZ Z j).length + n j := by show (catZ Z j ++ Z j).length = _; rw [List.length_append, (H.out.1.sb j hlt).len]
            exact ⟨by rw [← e]; exact Nat.le_trans (catZ_mono (show j + 1 ≤ k by omega)) H.out.2.2, e⟩)
          clear hR
          go_wp2_with (refine wpList_app _ rfl (.tmp 31) (.tmp 32) 23 rfl w.heap.size 5 Tryd.underlying23 info8 (.slice Av (catZ Z j).length cv) (catZ Z j).length ((catZ Z j).map (Value.int .u8)) rfl X.out.1 (A j) (n j) (c j) (Z j) rfl HS2.out (by have := hbz.out.1; omega) X.out.2.size ?_)
          intro A6 c6 w6 o6 g6
          rw [← List.map_append] at o6
          have Z6 := Lib.hid (show w6.ownsRow w.heap.size 5 1 (.slice A6 ((catZ Z j).length + n j) c6) (catZ Z (j + 1)).length ((catZ Z (j + 1)).map (Value.int .u8)) ∧ Below w.heap.size w w6 from ⟨by rw [hbz.out.2]; exact o6, X.out.2.grown g6 X.out.2.size (fun q hq => (X.out.1.lt q hq).1)⟩)
          clear o6 g6 X
          go_wp2_with fail
          go_roundw
          case rel => exact ⟨j + 1, by omega, by go_num, Z6.out.1, Z6.out.2⟩
          case measure => simp [intOf]; omega
        · obtain rfl : j = k := by omega
          go_wp2_with fail
          go_ret
          exact ⟨Av, _, cv, rfl, Sb.own X.out.1, X.out.2⟩
end Go.Proofs.YtappnfifhpmekaaDoor

namespace Go.Proofs.YtappnfifhpmekaaDoor
open Go.RowKit

/-! ### Digits -/
def dz (u : Nat) : List Int := (Lib.decDigits u).map fun b => (b.toNat : Int)
theorem dz_low {u : Nat} (h : u < 10) : dz u = [48 + (u : Int)] := by
  unfold dz
  rw [Lib.decDigits, dif_pos h]
  have : (UInt8.ofNat (48 + u)).toNat = 48 + u := by rw [UInt8.toNat_ofNat']; omega
  show [((UInt8.ofNat (48 + u)).toNat : Int)] = _
  rw [this, Int.natCast_add]
  rfl
theorem dz_high {u : Nat} (h : ¬ u < 10) : dz u = dz (u / 10) ++ [48 + ((u % 10 : Nat) : Int)] := by
  unfold dz
  rw [Lib.decDigits, dif_neg h, List.map_append]
  have : (UInt8.ofNat (48 + u % 10)).toNat = 48 + u % 10 := by rw [UInt8.toNat_ofNat']; omega
  show _ ++ [((UInt8.ofNat (48 + u % 10)).toNat : Int)] = _
  rw [this, Int.natCast_add]
  rfl
theorem dec_dz {n : Int} (h0 : 0 ≤ n) (h1 : n ≤ 9999) : dz n.toNat = decS4 n := by
  obtain ⟨u, rfl⟩ : ∃ u : Nat, n = u := ⟨n.toNat, by omega⟩
  rw [Int.toNat_natCast]
  unfold decS4
  by_cases c1 : (u : Int) < 10
  · rw [if_pos c1, dz_low (by omega)]
  rw [if_neg c1]
  by_cases c2 : (u : Int) < 100
  · rw [if_pos c2, dz_high (by omega), dz_low (by omega)]
    simp
  rw [if_neg c2]
  by_cases c3 : (u : Int) < 1000
  · rw [if_pos c3, dz_high (by omega), dz_high (by omega), dz_low (by omega)]
    simp
    omega
  · rw [if_neg c3, dz_high (by omega), dz_high (by omega), dz_high (by omega), dz_low (by omega)]
    simp
    omega
theorem dec_cells {n : Int} (h0 : 0 ≤ n) (h1 : n ≤ 9999) : Lib.byteCells (Lib.itoa n) = (decS4 n).map (Value.int .u8) ∧ (Lib.itoa n).length = (decS4 n).length := by
  have e : Lib.itoa n = Lib.decDigits n.toNat := by unfold Lib.itoa; rw [if_neg (by omega)]
  rw [e, ← dec_dz h0 h1]
  unfold Lib.byteCells dz
  refine ⟨?_, by simp⟩
  rw [List.map_map]
  rfl
/-- One number more, its digits ahead of it or none. -/
theorem sb_lits (w : World) (zs : List Int) (n : Nat) (cs : Array Value) (hc : cs.toList = zs.map (Value.int .u8)) (hl : zs.length = n) : Sb (w.alloc (.cells cs 5)) (some ⟨w.heap.size, 0, none⟩) n zs := by
  refine ⟨hl, fun hn => ⟨_, rfl, by simp, fun k hk => ?_⟩⟩
  rw [addHead, cell_of_row _ _ k _ _ _ (heap_alloc_new w (.cells cs 5)), ← Array.getElem?_toList, hc, List.getElem?_map, List.getElem?_eq_getElem (by omega), getD_lt (by omega)]
  rfl
set_option maxHeartbeats 3200000 in
theorem layEsc_any {w : World} {x : AcR} (h : RdA w x) : Calls Tryd.prog 20 #[.agg (acA x)] w (BtPost (if x.a.m = 0 then [27, x.a.fin] else [27, x.a.m, x.a.fin]) w) := by
  obtain ⟨⟨k, r, m, f, ps, tx⟩, P, np, cp, T, nt, ct⟩ := x
  have H0 := Lib.hid (Bxd.of h)
  clear h
  simp only
  obtain ⟨L, hL⟩ : ∃ L, (if m = 0 then [27, f] else [27, m, f]) = L := ⟨_, rfl⟩
  rw [hL]
  have HL := Lib.hid hL
  clear hL
  show Calls _ _ #[.agg #[.int .i64 k, .int .i32 r, .int .u8 m, .int .u8 f, .slice P np cp, .slice T nt ct]] w _
  go_enter Tryd.func20, Tryd.ntmps20
  go_upto_region 1 with fail
  obtain ⟨b, hb⟩ : ∃ b, b = w.heap.size := ⟨_, rfl⟩
  rw [← hb] at H0 ⊢
  have H1 : Hid (Bxd w b ⟨⟨k, r, m, f, ps, tx⟩, P, np, cp, T, nt, ct⟩ (w.alloc (.cells #[.int .i64 k, .int .i32 r, .int .u8 m, .int .u8 f, .slice P np cp, .slice T nt ct] 25))) := H0
  generalize (w.alloc (.cells #[.int .i64 k, .int .i32 r, .int .u8 m, .int .u8 f, .slice P np cp, .slice T nt ct] 25)) = w1 at H1 ⊢
  clear H0 hb
  obtain ⟨_, p0, p1, p2, p3, p4, p5⟩ := bx_cells H1.out.bx
  simp only at p0 p1 p2 p3 p4 p5
  by_cases m0 : m = 0
  · subst m0
    obtain rfl : [27, f] = L := HL.out
    go_wp2_with fail
    go_ret
    exact ⟨_, 2, 2, rfl, sb_lits w1 [27, f] 2 _ rfl rfl, H1.out.bel.alloc H1.out.bel.size _⟩
  · obtain rfl : [27, m, f] = L := by rw [← HL.out, if_neg m0]
    go_wp2_with fail
    go_ret
    exact ⟨_, 3, 3, rfl, sb_lits w1 [27, m, f] 3 _ rfl rfl, H1.out.bel.alloc H1.out.bel.size _⟩
/-- A row of bytes of one's own, in memory from w1 on. -/
structure Lc (w1 wr : World) (A : Option Addr) (n c : Nat) (zs : List Int) : Prop where
  own : wr.ownsRow w1.heap.size 5 1 (.slice A n c) n (zs.map (Value.int .u8))
  bel : Below w1.heap.size w1 wr
theorem Lc.len {w1 wr : World} {A : Option Addr} {n c : Nat} {zs : List Int} (h : Lc w1 wr A n c zs) : zs.length = n := by have := h.own.1; simpa using this
theorem csi_snoc (ps : List Int) {k : Nat} (hk : k < ps.length) : numsS (ps.take (k + 1)) = numsS (ps.take k) ++ (if k = 0 then [] else [59]) ++ decS4 (ps.getD k 0) := by
  rw [List.take_succ_eq_append_getElem hk, nums_snoc, getD_lt hk]
  congr 2
  by_cases h0 : k = 0
  · subst h0; simp
  · rw [if_neg h0, if_neg]
    intro e
    have h2 : (ps.take k).length = k := by rw [List.length_take]; omega
    rw [e] at h2
    exact h0 h2.symm
set_option maxHeartbeats 6400000 in
theorem layCsi_any {w : World} {x : AcR} (hT : TabsL w) (h : RdA w x) (hn : x.np ≤ 16) (hok : psOk x.a.ps) {pre post : List Int} (hpre : pre = if 60 ≤ x.a.m ∧ x.a.m < 64 then [x.a.m] else []) (hpost : post = if 32 ≤ x.a.m ∧ x.a.m < 48 then [x.a.m] else []) :
    Calls Tryd.prog 21 #[.agg (acA x)] w (BtPost (27 :: 91 :: (pre ++ numsS x.a.ps ++ post ++ [x.a.fin])) w) := by
  obtain ⟨⟨k, r, m, f, ps, tx⟩, P, np, cp, T, nt, ct⟩ := x
  have H0 := Lib.hid (Bxd.of h)
  simp only at hn hok hpre hpost ⊢
  have HP := Lib.hid (And.intro hpre (And.intro hpost (And.intro hok (show pre.length ≤ 1 from by rw [hpre]; split <;> simp))))
  have HT0 := Lib.hid (hT.below ((Below.refl _ _).alloc (Nat.le_refl _) (.cells (acA ⟨⟨k, r, m, f, ps, tx⟩, P, np, cp, T, nt, ct⟩) 25)) (Nat.le_refl _)).p
  clear h hT hpre hpost hok
  show Calls _ _ #[.agg #[.int .i64 k, .int .i32 r, .int .u8 m, .int .u8 f, .slice P np cp, .slice T nt ct]] w _
  go_enter Tryd.func21, Tryd.ntmps21
  go_upto_region 1 with fail
  obtain ⟨b, hb⟩ : ∃ b, b = w.heap.size := ⟨_, rfl⟩
  rw [← hb] at H0 ⊢
  have H1 : Hid (Bxd w b ⟨⟨k, r, m, f, ps, tx⟩, P, np, cp, T, nt, ct⟩ (w.alloc (.cells #[.int .i64 k, .int .i32 r, .int .u8 m, .int .u8 f, .slice P np cp, .slice T nt ct] 25)) ∧ Lib.TabIs Tryd.prog (w.alloc (.cells #[.int .i64 k, .int .i32 r, .int .u8 m, .int .u8 f, .slice P np cp, .slice T nt ct] 25)) "internal/strconv.uint64pow10" .u64 Lib.pow10Tab) := Lib.hid ⟨H0.out, HT0.out⟩
  generalize (w.alloc (.cells #[.int .i64 k, .int .i32 r, .int .u8 m, .int .u8 f, .slice P np cp, .slice T nt ct] 25)) = w1 at H1 ⊢
  clear H0 HT0 hb
  have HTB := Lib.hid (Lib.tabBelow_of_tabIs H1.out.2)
  have HM := Lib.hid (show ∀ wr, Below w1.heap.size w1 wr → (wr.cell? ⟨b, 2, none⟩ = some (.int .u8 m) ∧ wr.cell? ⟨b, 3, none⟩ = some (.int .u8 f) ∧ wr.cell? ⟨b, 4, none⟩ = some (.slice P np cp)) from fun wr hb => by
    have h1 := bx_cells (H1.out.1.bx.below hb)
    exact ⟨h1.c2, h1.c3, h1.c4⟩)
  have S2 := Lib.hid (show Lc w1 (w1.alloc (.cells #[.int .u8 27, .int .u8 91] 5)) (some ⟨w1.heap.size, 0, none⟩) 2 2 [27, 91] from ⟨World.ownsRow_lit w1 #[.int .u8 27, .int .u8 91] 2 (Nat.le_refl _) (by unfold maxLen; omega) rfl, (Below.refl _ _).alloc (Nat.le_refl _) _⟩)
  go_upto_region 2 with fail
  generalize (w1.alloc (.cells #[.int .u8 27, .int .u8 91] 5)) = w2 at S2 ⊢
  obtain ⟨p2, p3, p4⟩ := HM.out w2 S2.out.bel
  by_cases hp : 60 ≤ m ∧ m < 64
  · have hd : decide (60 ≤ m ∧ m < 64) = true := decide_eq_true hp
    have HPr := Lib.hid (show pre = [m] from by rw [HP.out.1, if_pos hp])
    clear hp
    go_wp2_with fail
    refine (isPrivate_any m w2).mono ?_
    rintro e w3 ⟨rfl, rfl⟩
    rw [hd]
    have hs1 := Lib.hid (Sb.one w2 5 m)
    have ho1 := Lib.hid (show (w2.alloc (.cells #[.int .u8 m] 5)).ownsRow w1.heap.size 5 1 (.slice (some ⟨w1.heap.size, 0, none⟩) 2 2) 2 ([27, 91].map (Value.int .u8)) ∧ Below w1.heap.size w1 (w2.alloc (.cells #[.int .u8 m] 5)) from ⟨S2.out.own.alloc _, S2.out.bel.alloc S2.out.bel.size _⟩)
    go_wp2_with (refine wpList_app _ rfl (.tmp 10) (.tmp 13) 23 rfl w1.heap.size 5 Tryd.underlying23 info8 (.slice (some ⟨w1.heap.size, 0, none⟩) 2 2) 2 ([27, 91].map (Value.int .u8)) rfl ho1.out.1 (some ⟨w2.heap.size, 0, none⟩) 1 1 [m] rfl hs1.out (by omega) ho1.out.2.size ?_)
    intro A6 c6 w6 o6 g6
    have Z6 := Lib.hid (show Lc w1 w6 A6 3 c6 (27 :: 91 :: pre) from ⟨by rw [HPr.out]; exact o6, ho1.out.2.grown g6 ho1.out.2.size (fun q hq => (ho1.out.1.lt q hq).1)⟩)
    clear o6 g6 ho1 hs1 S2 p2 p3 p4
    obtain ⟨p2, p3, p4⟩ := HM.out w6 Z6.out.bel
    go_wp2_with fail
    go_loopw [3, 18] (fun v i wr => ∃ (j : Nat) (A : Option Addr) (q c : Nat), j ≤ np ∧ i = .int .i64 j ∧ v = .slice A q c ∧ Lc w1 wr A q c (27 :: 91 :: (pre ++ numsS (ps.take j)))) (fun _ i _ => np - (intOf i).toNat)
    case atStart => exact ⟨0, _, _, _, Nat.zero_le _, rfl, rfl, by rw [List.take_zero]; show Lc w1 _ _ _ _ (27 :: 91 :: (pre ++ [])); rw [List.append_nil]; exact Z6.out⟩
    case round =>
      obtain ⟨j, A, q, c, hj, rfl, rfl, hLc⟩ := hrel
      have X := Lib.hid hLc
      obtain ⟨Z, hZ⟩ : ∃ Z, Z = 27 :: 91 :: (pre ++ numsS (ps.take j)) := ⟨_, rfl⟩
      rw [← hZ] at X
      have HZZ := Lib.hid hZ
      clear hLc Z6 hZ
      have hI := Lib.hid (H1.out.1.rd.p.below X.out.bel)
      have hlen := hI.out.len
      have hq := Lib.hid (show q ≤ 1000 from by
        have h1 := X.out.len
        rw [HZZ.out] at h1
        have h2 := nums_len (l := ps.take j)
        have h3 := HP.out.2.2.2
        simp only [List.length_cons, List.length_append] at h1
        rw [List.length_take] at h2
        omega)
      by_cases hlt : j < np
      · obtain ⟨ad, hA⟩ : ∃ ad, P = some ad := by obtain ⟨ad, e, _⟩ := hI.out.at_ (by simp only; omega); exact ⟨ad, e⟩
        subst hA
        have hcell := hI.out.cell hlt
        simp only at hcell hlen
        obtain ⟨z, hz⟩ : ∃ z, z = ps.getD j 0 := ⟨_, rfl⟩
        rw [← hz] at hcell
        have hz9 : 0 ≤ z ∧ z ≤ 9999 := by rw [hz, getD_lt (by omega)]; exact HP.out.2.2.1 _ (List.getElem_mem _)
        have HD := Lib.hid (dec_cells hz9.1 hz9.2)
        have HZ := Lib.hid (show numsS (ps.take (j + 1)) = numsS (ps.take j) ++ (if j = 0 then [] else [59]) ++ decS4 z from by rw [csi_snoc ps (by omega), hz])
        have HR := Lib.hid (show -9223372036854775808 ≤ z ∧ z ≤ 9223372036854775807 from by omega)
        clear hz hlen hz9
        by_cases hj0 : j = 0
        · have hji : ¬ (0 : Int) < (j : Int) := by omega
          have HJ0 := Lib.hid hj0
          clear hj0
          go_wp2_with fail
          refine (Tryd.strconv_AppendInt_10 w1.heap.size q z HR.out.1 HR.out.2 (.slice A q c) (Z.map (Value.int .u8)) wr X.out.own X.out.bel.size (by have := hq.out; omega) (HTB.out.on X.out.bel)).mono ?_
          rintro e w6 ⟨v, rfl, hown, hb6, _⟩
          obtain ⟨A', c', hv, _, _⟩ := own_shape hown
          subst hv
          rw [HD.out.1, ← List.map_append] at hown
          obtain ⟨q', hq'⟩ : ∃ q', q' = q + (Lib.itoa z).length := ⟨_, rfl⟩
          rw [← hq'] at hown ⊢
          have Z8 := Lib.hid (show Lc w1 w6 A' q' c' (27 :: 91 :: (pre ++ numsS (ps.take (j + 1)))) from by
            refine ⟨?_, X.out.bel.trans hb6⟩
            rw [HZ.out, if_pos HJ0.out]
            have e2 : 27 :: 91 :: (pre ++ (numsS (ps.take j) ++ [] ++ decS4 z)) = Z ++ decS4 z := by rw [HZZ.out]; simp
            rw [e2]
            exact hown)
          clear hown hb6 hq' X
          go_wp2_with fail
          go_roundw
          case rel => exact ⟨j + 1, A', q', c', by omega, by go_num, rfl, Z8.out⟩
          case measure => simp [intOf] <;> omega
        · have hji : (0 : Int) < (j : Int) := by omega
          have hs1 := Lib.hid (Sb.one wr 5 59)
          have ho1 := Lib.hid (show (wr.alloc (.cells #[.int .u8 59] 5)).ownsRow w1.heap.size 5 1 (.slice A q c) q (Z.map (Value.int .u8)) ∧ Below w1.heap.size w1 (wr.alloc (.cells #[.int .u8 59] 5)) from ⟨X.out.own.alloc _, X.out.bel.alloc X.out.bel.size _⟩)
          go_wp2_with (refine wpList_app _ rfl (.tmp 25) (.tmp 26) 23 rfl w1.heap.size 5 Tryd.underlying23 info8 (.slice A q c) q (Z.map (Value.int .u8)) rfl ho1.out.1 (some ⟨wr.heap.size, 0, none⟩) 1 1 [59] rfl hs1.out (by have := hq.out; omega) ho1.out.2.size ?_)
          intro A5 c5 w5 o5 g5
          have X5 := Lib.hid (show w5.ownsRow w1.heap.size 5 1 (.slice A5 (q + 1) c5) (q + 1) ((Z ++ [59]).map (Value.int .u8)) ∧ Below w1.heap.size w1 w5 from ⟨by rw [List.map_append]; exact o5, ho1.out.2.grown g5 ho1.out.2.size (fun q hq => (ho1.out.1.lt q hq).1)⟩)
          clear o5 g5 ho1 hs1 X
          go_wp2_with fail
          refine (Tryd.strconv_AppendInt_10 w1.heap.size (q + 1) z HR.out.1 HR.out.2 (.slice A5 (q + 1) c5) _ w5 X5.out.1 X5.out.2.size (by have := hq.out; omega) (HTB.out.on X5.out.2)).mono ?_
          rintro e w6 ⟨v, rfl, hown, hb6, _⟩
          obtain ⟨A', c', hv, _, _⟩ := own_shape hown
          subst hv
          rw [HD.out.1, ← List.map_append] at hown
          obtain ⟨q', hq'⟩ : ∃ q', q' = (q + 1) + (Lib.itoa z).length := ⟨_, rfl⟩
          rw [← hq'] at hown ⊢
          have Z8 := Lib.hid (show Lc w1 w6 A' q' c' (27 :: 91 :: (pre ++ numsS (ps.take (j + 1)))) from by
            refine ⟨?_, X5.out.2.trans hb6⟩
            rw [HZ.out, if_neg hj0]
            have e2 : 27 :: 91 :: (pre ++ (numsS (ps.take j) ++ [59] ++ decS4 z)) = (Z ++ [59]) ++ decS4 z := by rw [HZZ.out]; simp
            rw [e2]
            exact hown)
          clear hown hb6 hq' X5
          go_wp2_with fail
          go_roundw
          case rel => exact ⟨j + 1, A', q', c', by omega, by go_num, rfl, Z8.out⟩
          case measure => simp [intOf] <;> omega
      · obtain rfl : j = np := by omega
        have hall : ps.take j = ps := List.take_of_length_le (by simp only at hlen; omega)
        have X2 := Lib.hid X.out
        have HZ2 := Lib.hid (show Z = 27 :: 91 :: (pre ++ numsS ps) by rw [HZZ.out, hall])
        clear X hall hlen
        obtain ⟨p2, p3, p4⟩ := HM.out wr X2.out.bel
        by_cases hb : 32 ≤ m ∧ m < 48
        · have hd2 : decide (32 ≤ m ∧ m < 48) = true := decide_eq_true hb
          have HPo := Lib.hid (show post = [m] from by rw [HP.out.2.1, if_pos hb])
          clear hb
          go_wp2_with fail
          refine (isBetween_any m wr).mono ?_
          rintro e w3 ⟨rfl, rfl⟩
          rw [hd2]
          have hs1 := Lib.hid (Sb.one wr 5 m)
          have ho1 := Lib.hid (show (wr.alloc (.cells #[.int .u8 m] 5)).ownsRow w1.heap.size 5 1 (.slice A q c) q (Z.map (Value.int .u8)) ∧ Below w1.heap.size w1 (wr.alloc (.cells #[.int .u8 m] 5)) from ⟨X2.out.own.alloc _, X2.out.bel.alloc X2.out.bel.size _⟩)
          go_wp2_with (refine wpList_app _ rfl (.tmp 35) (.tmp 38) 23 rfl w1.heap.size 5 Tryd.underlying23 info8 (.slice A q c) q (Z.map (Value.int .u8)) rfl ho1.out.1 (some ⟨wr.heap.size, 0, none⟩) 1 1 [m] rfl hs1.out (by have := hq.out; omega) ho1.out.2.size ?_)
          intro A5 c5 w5 o5 g5
          have X5 := Lib.hid (show w5.ownsRow w1.heap.size 5 1 (.slice A5 (q + 1) c5) (q + 1) ((Z ++ [m]).map (Value.int .u8)) ∧ Below w1.heap.size w1 w5 from ⟨by rw [List.map_append]; exact o5, ho1.out.2.grown g5 ho1.out.2.size (fun q hq => (ho1.out.1.lt q hq).1)⟩)
          clear o5 g5 ho1 hs1 X2 p2 p3 p4
          obtain ⟨p2, p3, p4⟩ := HM.out w5 X5.out.2
          have hs1 := Lib.hid (Sb.one w5 5 f)
          have ho1 := Lib.hid (show (w5.alloc (.cells #[.int .u8 f] 5)).ownsRow w1.heap.size 5 1 (.slice A5 (q + 1) c5) (q + 1) ((Z ++ [m]).map (Value.int .u8)) ∧ Below w1.heap.size w1 (w5.alloc (.cells #[.int .u8 f] 5)) from ⟨X5.out.1.alloc _, X5.out.2.alloc X5.out.2.size _⟩)
          go_wp2_with (refine wpList_app _ rfl (.tmp 40) (.tmp 43) 23 rfl w1.heap.size 5 Tryd.underlying23 info8 (.slice A5 (q + 1) c5) (q + 1) ((Z ++ [m]).map (Value.int .u8)) rfl ho1.out.1 (some ⟨w5.heap.size, 0, none⟩) 1 1 [f] rfl hs1.out (by have := hq.out; omega) ho1.out.2.size ?_)
          intro A6 c6 w6 o6 g6
          have Z9 := Lib.hid (show w6.ownsRow w1.heap.size 5 1 (.slice A6 (q + 1 + 1) c6) (q + 1 + 1) ((27 :: 91 :: (pre ++ numsS ps ++ post ++ [f])).map (Value.int .u8)) ∧ Below w.heap.size w w6 from ⟨by
            have e2 : 27 :: 91 :: (pre ++ numsS ps ++ post ++ [f]) = Z ++ [m, f] := by rw [HPo.out, HZ2.out]; simp
            rw [e2, List.map_append]
            exact o6, H1.out.1.bel.trans ((ho1.out.2.grown g6 ho1.out.2.size (fun q hq => (ho1.out.1.lt q hq).1)).mono H1.out.1.bel.size)⟩)
          clear o6 g6 ho1 hs1 X5
          go_wp2_with fail
          go_ret
          exact ⟨A6, _, c6, rfl, Sb.own Z9.out.1, Z9.out.2⟩
        · have hd2 : decide (32 ≤ m ∧ m < 48) = false := decide_eq_false hb
          have HPo := Lib.hid (show post = [] from by rw [HP.out.2.1, if_neg hb])
          clear hb
          go_wp2_with fail
          refine (isBetween_any m wr).mono ?_
          rintro e w3 ⟨rfl, rfl⟩
          rw [hd2]
          have hs1 := Lib.hid (Sb.one wr 5 f)
          have ho1 := Lib.hid (show (wr.alloc (.cells #[.int .u8 f] 5)).ownsRow w1.heap.size 5 1 (.slice A q c) q (Z.map (Value.int .u8)) ∧ Below w1.heap.size w1 (wr.alloc (.cells #[.int .u8 f] 5)) from ⟨X2.out.own.alloc _, X2.out.bel.alloc X2.out.bel.size _⟩)
          go_wp2_with (refine wpList_app _ rfl (.tmp 40) (.tmp 43) 23 rfl w1.heap.size 5 Tryd.underlying23 info8 (.slice A q c) q (Z.map (Value.int .u8)) rfl ho1.out.1 (some ⟨wr.heap.size, 0, none⟩) 1 1 [f] rfl hs1.out (by have := hq.out; omega) ho1.out.2.size ?_)
          intro A6 c6 w6 o6 g6
          have Z9 := Lib.hid (show w6.ownsRow w1.heap.size 5 1 (.slice A6 (q + 1) c6) (q + 1) ((27 :: 91 :: (pre ++ numsS ps ++ post ++ [f])).map (Value.int .u8)) ∧ Below w.heap.size w w6 from ⟨by
            have e2 : 27 :: 91 :: (pre ++ numsS ps ++ post ++ [f]) = Z ++ [f] := by rw [HPo.out, HZ2.out]; simp
            rw [e2, List.map_append]
            exact o6, H1.out.1.bel.trans ((ho1.out.2.grown g6 ho1.out.2.size (fun q hq => (ho1.out.1.lt q hq).1)).mono H1.out.1.bel.size)⟩)
          clear o6 g6 ho1 hs1 X2
          go_wp2_with fail
          go_ret
          exact ⟨A6, _, c6, rfl, Sb.own Z9.out.1, Z9.out.2⟩
  · have hd : decide (60 ≤ m ∧ m < 64) = false := decide_eq_false hp
    have Z6 := Lib.hid (show Lc w1 w2 (some ⟨w1.heap.size, 0, none⟩) 2 2 (27 :: 91 :: pre) from by rw [HP.out.1, if_neg hp]; exact S2.out)
    clear hp
    go_wp2_with fail
    refine (isPrivate_any m w2).mono ?_
    rintro e w3 ⟨rfl, rfl⟩
    rw [hd]
    clear S2
    go_wp2_with fail
    go_loopw [3, 18] (fun v i wr => ∃ (j : Nat) (A : Option Addr) (q c : Nat), j ≤ np ∧ i = .int .i64 j ∧ v = .slice A q c ∧ Lc w1 wr A q c (27 :: 91 :: (pre ++ numsS (ps.take j)))) (fun _ i _ => np - (intOf i).toNat)
    case atStart => exact ⟨0, _, _, _, Nat.zero_le _, rfl, rfl, by rw [List.take_zero]; show Lc w1 _ _ _ _ (27 :: 91 :: (pre ++ [])); rw [List.append_nil]; exact Z6.out⟩
    case round =>
      obtain ⟨j, A, q, c, hj, rfl, rfl, hLc⟩ := hrel
      have X := Lib.hid hLc
      obtain ⟨Z, hZ⟩ : ∃ Z, Z = 27 :: 91 :: (pre ++ numsS (ps.take j)) := ⟨_, rfl⟩
      rw [← hZ] at X
      have HZZ := Lib.hid hZ
      clear hLc Z6 hZ
      have hI := Lib.hid (H1.out.1.rd.p.below X.out.bel)
      have hlen := hI.out.len
      have hq := Lib.hid (show q ≤ 1000 from by
        have h1 := X.out.len
        rw [HZZ.out] at h1
        have h2 := nums_len (l := ps.take j)
        have h3 := HP.out.2.2.2
        simp only [List.length_cons, List.length_append] at h1
        rw [List.length_take] at h2
        omega)
      by_cases hlt : j < np
      · obtain ⟨ad, hA⟩ : ∃ ad, P = some ad := by obtain ⟨ad, e, _⟩ := hI.out.at_ (by simp only; omega); exact ⟨ad, e⟩
        subst hA
        have hcell := hI.out.cell hlt
        simp only at hcell hlen
        obtain ⟨z, hz⟩ : ∃ z, z = ps.getD j 0 := ⟨_, rfl⟩
        rw [← hz] at hcell
        have hz9 : 0 ≤ z ∧ z ≤ 9999 := by rw [hz, getD_lt (by omega)]; exact HP.out.2.2.1 _ (List.getElem_mem _)
        have HD := Lib.hid (dec_cells hz9.1 hz9.2)
        have HZ := Lib.hid (show numsS (ps.take (j + 1)) = numsS (ps.take j) ++ (if j = 0 then [] else [59]) ++ decS4 z from by rw [csi_snoc ps (by omega), hz])
        have HR := Lib.hid (show -9223372036854775808 ≤ z ∧ z ≤ 9223372036854775807 from by omega)
        clear hz hlen hz9
        by_cases hj0 : j = 0
        · have hji : ¬ (0 : Int) < (j : Int) := by omega
          have HJ0 := Lib.hid hj0
          clear hj0
          go_wp2_with fail
          refine (Tryd.strconv_AppendInt_10 w1.heap.size q z HR.out.1 HR.out.2 (.slice A q c) (Z.map (Value.int .u8)) wr X.out.own X.out.bel.size (by have := hq.out; omega) (HTB.out.on X.out.bel)).mono ?_
          rintro e w6 ⟨v, rfl, hown, hb6, _⟩
          obtain ⟨A', c', hv, _, _⟩ := own_shape hown
          subst hv
          rw [HD.out.1, ← List.map_append] at hown
          obtain ⟨q', hq'⟩ : ∃ q', q' = q + (Lib.itoa z).length := ⟨_, rfl⟩
          rw [← hq'] at hown ⊢
          have Z8 := Lib.hid (show Lc w1 w6 A' q' c' (27 :: 91 :: (pre ++ numsS (ps.take (j + 1)))) from by
            refine ⟨?_, X.out.bel.trans hb6⟩
            rw [HZ.out, if_pos HJ0.out]
            have e2 : 27 :: 91 :: (pre ++ (numsS (ps.take j) ++ [] ++ decS4 z)) = Z ++ decS4 z := by rw [HZZ.out]; simp
            rw [e2]
            exact hown)
          clear hown hb6 hq' X
          go_wp2_with fail
          go_roundw
          case rel => exact ⟨j + 1, A', q', c', by omega, by go_num, rfl, Z8.out⟩
          case measure => simp [intOf] <;> omega
        · have hji : (0 : Int) < (j : Int) := by omega
          have hs1 := Lib.hid (Sb.one wr 5 59)
          have ho1 := Lib.hid (show (wr.alloc (.cells #[.int .u8 59] 5)).ownsRow w1.heap.size 5 1 (.slice A q c) q (Z.map (Value.int .u8)) ∧ Below w1.heap.size w1 (wr.alloc (.cells #[.int .u8 59] 5)) from ⟨X.out.own.alloc _, X.out.bel.alloc X.out.bel.size _⟩)
          go_wp2_with (refine wpList_app _ rfl (.tmp 25) (.tmp 26) 23 rfl w1.heap.size 5 Tryd.underlying23 info8 (.slice A q c) q (Z.map (Value.int .u8)) rfl ho1.out.1 (some ⟨wr.heap.size, 0, none⟩) 1 1 [59] rfl hs1.out (by have := hq.out; omega) ho1.out.2.size ?_)
          intro A5 c5 w5 o5 g5
          have X5 := Lib.hid (show w5.ownsRow w1.heap.size 5 1 (.slice A5 (q + 1) c5) (q + 1) ((Z ++ [59]).map (Value.int .u8)) ∧ Below w1.heap.size w1 w5 from ⟨by rw [List.map_append]; exact o5, ho1.out.2.grown g5 ho1.out.2.size (fun q hq => (ho1.out.1.lt q hq).1)⟩)
          clear o5 g5 ho1 hs1 X
          go_wp2_with fail
          refine (Tryd.strconv_AppendInt_10 w1.heap.size (q + 1) z HR.out.1 HR.out.2 (.slice A5 (q + 1) c5) _ w5 X5.out.1 X5.out.2.size (by have := hq.out; omega) (HTB.out.on X5.out.2)).mono ?_
          rintro e w6 ⟨v, rfl, hown, hb6, _⟩
          obtain ⟨A', c', hv, _, _⟩ := own_shape hown
          subst hv
          rw [HD.out.1, ← List.map_append] at hown
          obtain ⟨q', hq'⟩ : ∃ q', q' = (q + 1) + (Lib.itoa z).length := ⟨_, rfl⟩
          rw [← hq'] at hown ⊢
          have Z8 := Lib.hid (show Lc w1 w6 A' q' c' (27 :: 91 :: (pre ++ numsS (ps.take (j + 1)))) from by
            refine ⟨?_, X5.out.2.trans hb6⟩
            rw [HZ.out, if_neg hj0]
            have e2 : 27 :: 91 :: (pre ++ (numsS (ps.take j) ++ [59] ++ decS4 z)) = (Z ++ [59]) ++ decS4 z := by rw [HZZ.out]; simp
            rw [e2]
            exact hown)
          clear hown hb6 hq' X5
          go_wp2_with fail
          go_roundw
          case rel => exact ⟨j + 1, A', q', c', by omega, by go_num, rfl, Z8.out⟩
          case measure => simp [intOf] <;> omega
      · obtain rfl : j = np := by omega
        have hall : ps.take j = ps := List.take_of_length_le (by simp only at hlen; omega)
        have X2 := Lib.hid X.out
        have HZ2 := Lib.hid (show Z = 27 :: 91 :: (pre ++ numsS ps) by rw [HZZ.out, hall])
        clear X hall hlen
        obtain ⟨p2, p3, p4⟩ := HM.out wr X2.out.bel
        by_cases hb : 32 ≤ m ∧ m < 48
        · have hd2 : decide (32 ≤ m ∧ m < 48) = true := decide_eq_true hb
          have HPo := Lib.hid (show post = [m] from by rw [HP.out.2.1, if_pos hb])
          clear hb
          go_wp2_with fail
          refine (isBetween_any m wr).mono ?_
          rintro e w3 ⟨rfl, rfl⟩
          rw [hd2]
          have hs1 := Lib.hid (Sb.one wr 5 m)
          have ho1 := Lib.hid (show (wr.alloc (.cells #[.int .u8 m] 5)).ownsRow w1.heap.size 5 1 (.slice A q c) q (Z.map (Value.int .u8)) ∧ Below w1.heap.size w1 (wr.alloc (.cells #[.int .u8 m] 5)) from ⟨X2.out.own.alloc _, X2.out.bel.alloc X2.out.bel.size _⟩)
          go_wp2_with (refine wpList_app _ rfl (.tmp 35) (.tmp 38) 23 rfl w1.heap.size 5 Tryd.underlying23 info8 (.slice A q c) q (Z.map (Value.int .u8)) rfl ho1.out.1 (some ⟨wr.heap.size, 0, none⟩) 1 1 [m] rfl hs1.out (by have := hq.out; omega) ho1.out.2.size ?_)
          intro A5 c5 w5 o5 g5
          have X5 := Lib.hid (show w5.ownsRow w1.heap.size 5 1 (.slice A5 (q + 1) c5) (q + 1) ((Z ++ [m]).map (Value.int .u8)) ∧ Below w1.heap.size w1 w5 from ⟨by rw [List.map_append]; exact o5, ho1.out.2.grown g5 ho1.out.2.size (fun q hq => (ho1.out.1.lt q hq).1)⟩)
          clear o5 g5 ho1 hs1 X2 p2 p3 p4
          obtain ⟨p2, p3, p4⟩ := HM.out w5 X5.out.2
          have hs1 := Lib.hid (Sb.one w5 5 f)
          have ho1 := Lib.hid (show (w5.alloc (.cells #[.int .u8 f] 5)).ownsRow w1.heap.size 5 1 (.slice A5 (q + 1) c5) (q + 1) ((Z ++ [m]).map (Value.int .u8)) ∧ Below w1.heap.size w1 (w5.alloc (.cells #[.int .u8 f] 5)) from ⟨X5.out.1.alloc _, X5.out.2.alloc X5.out.2.size _⟩)
          go_wp2_with (refine wpList_app _ rfl (.tmp 40) (.tmp 43) 23 rfl w1.heap.size 5 Tryd.underlying23 info8 (.slice A5 (q + 1) c5) (q + 1) ((Z ++ [m]).map (Value.int .u8)) rfl ho1.out.1 (some ⟨w5.heap.size, 0, none⟩) 1 1 [f] rfl hs1.out (by have := hq.out; omega) ho1.out.2.size ?_)
          intro A6 c6 w6 o6 g6
          have Z9 := Lib.hid (show w6.ownsRow w1.heap.size 5 1 (.slice A6 (q + 1 + 1) c6) (q + 1 + 1) ((27 :: 91 :: (pre ++ numsS ps ++ post ++ [f])).map (Value.int .u8)) ∧ Below w.heap.size w w6 from ⟨by
            have e2 : 27 :: 91 :: (pre ++ numsS ps ++ post ++ [f]) = Z ++ [m, f] := by rw [HPo.out, HZ2.out]; simp
            rw [e2, List.map_append]
            exact o6, H1.out.1.bel.trans ((ho1.out.2.grown g6 ho1.out.2.size (fun q hq => (ho1.out.1.lt q hq).1)).mono H1.out.1.bel.size)⟩)
          clear o6 g6 ho1 hs1 X5
          go_wp2_with fail
          go_ret
          exact ⟨A6, _, c6, rfl, Sb.own Z9.out.1, Z9.out.2⟩
        · have hd2 : decide (32 ≤ m ∧ m < 48) = false := decide_eq_false hb
          have HPo := Lib.hid (show post = [] from by rw [HP.out.2.1, if_neg hb])
          clear hb
          go_wp2_with fail
          refine (isBetween_any m wr).mono ?_
          rintro e w3 ⟨rfl, rfl⟩
          rw [hd2]
          have hs1 := Lib.hid (Sb.one wr 5 f)
          have ho1 := Lib.hid (show (wr.alloc (.cells #[.int .u8 f] 5)).ownsRow w1.heap.size 5 1 (.slice A q c) q (Z.map (Value.int .u8)) ∧ Below w1.heap.size w1 (wr.alloc (.cells #[.int .u8 f] 5)) from ⟨X2.out.own.alloc _, X2.out.bel.alloc X2.out.bel.size _⟩)
          go_wp2_with (refine wpList_app _ rfl (.tmp 40) (.tmp 43) 23 rfl w1.heap.size 5 Tryd.underlying23 info8 (.slice A q c) q (Z.map (Value.int .u8)) rfl ho1.out.1 (some ⟨wr.heap.size, 0, none⟩) 1 1 [f] rfl hs1.out (by have := hq.out; omega) ho1.out.2.size ?_)
          intro A6 c6 w6 o6 g6
          have Z9 := Lib.hid (show w6.ownsRow w1.heap.size 5 1 (.slice A6 (q + 1) c6) (q + 1) ((27 :: 91 :: (pre ++ numsS ps ++ post ++ [f])).map (Value.int .u8)) ∧ Below w.heap.size w w6 from ⟨by
            have e2 : 27 :: 91 :: (pre ++ numsS ps ++ post ++ [f]) = Z ++ [f] := by rw [HPo.out, HZ2.out]; simp
            rw [e2, List.map_append]
            exact o6, H1.out.1.bel.trans ((ho1.out.2.grown g6 ho1.out.2.size (fun q hq => (ho1.out.1.lt q hq).1)).mono H1.out.1.bel.size)⟩)
          clear o6 g6 ho1 hs1 X2
          go_wp2_with fail
          go_ret
          exact ⟨A6, _, c6, rfl, Sb.own Z9.out.1, Z9.out.2⟩
end Go.Proofs.YtappnfifhpmekaaDoor

namespace Go.Proofs.YtappnfifhpmekaaDoor
open Go.RowKit

set_option maxHeartbeats 3200000 in
theorem lay_notbare {w : World} {r m f : Int} {k : Int} {ps tx : List Int} {P T : Option Addr} {np cp nt ct : Nat} (hT : TabsL w) (h : RdA w ⟨⟨k, r, m, f, ps, tx⟩, P, np, cp, T, nt, ct⟩) (ha : AcW ⟨k, r, m, f, ps, tx⟩) (_ : np ≤ 1000) (_ : nt ≤ 16384) (hb : bareS ⟨k, r, m, f, ps, tx⟩ = false) :
    Calls Tryd.prog 9 #[.agg (acA ⟨⟨k, r, m, f, ps, tx⟩, P, np, cp, T, nt, ct⟩)] w (LyPost ⟨k, r, m, f, ps, tx⟩ w) := by
  have HB := Lib.hid hb
  have HL := Lib.hid (show layOk ⟨k, r, m, f, ps, tx⟩ = false by rw [lay_is ha, hb, Bool.false_and])
  clear hb
  have H0 := Lib.hid (Bxd.of h)
  have HW := Lib.hid (And.intro ha hT)
  clear h ha hT
  show Calls _ _ #[.agg #[.int .i64 k, .int .i32 r, .int .u8 m, .int .u8 f, .slice P np cp, .slice T nt ct]] w _
  go_enter Tryd.func9, Tryd.ntmps9
  go_upto_region 1 with fail
  obtain ⟨b, hb⟩ : ∃ b, b = w.heap.size := ⟨_, rfl⟩
  rw [← hb] at H0 ⊢
  have H1 : Hid (Bxd w b ⟨⟨k, r, m, f, ps, tx⟩, P, np, cp, T, nt, ct⟩ (w.alloc (.cells #[.int .i64 k, .int .i32 r, .int .u8 m, .int .u8 f, .slice P np cp, .slice T nt ct] 25))) := H0
  generalize (w.alloc (.cells #[.int .i64 k, .int .i32 r, .int .u8 m, .int .u8 f, .slice P np cp, .slice T nt ct] 25)) = w1 at H1 ⊢
  clear H0 hb
  obtain ⟨_, p0, p1, p2, p3, p4, p5⟩ := bx_cells H1.out.bx
  simp only at p0 p1 p2 p3 p4 p5
  have X := Lib.hid (bare_any (x := ⟨⟨k, r, m, f, ps, tx⟩, P, np, cp, T, nt, ct⟩) H1.out.rd)
  simp only at X
  rw [HB.out] at X
  go_wp2_with fail
  refine X.out.mono ?_
  rintro e w2 ⟨rfl, hb2⟩
  have H2 := Lib.hid (H1.out.below hb2)
  clear X hb2 H1 p0 p1 p2 p3 p4 p5
  go_wp2_with fail
  go_ret2
  exact LyPost.no HL.out H2.out.bel
set_option maxHeartbeats 3200000 in
theorem lay_notmay {w : World} {r m f : Int} {k : Int} {ps tx : List Int} {P T : Option Addr} {np cp nt ct : Nat} (hT : TabsL w) (h : RdA w ⟨⟨k, r, m, f, ps, tx⟩, P, np, cp, T, nt, ct⟩) (ha : AcW ⟨k, r, m, f, ps, tx⟩) (hp : np ≤ 1000) (ht : nt ≤ 16384) (hb : bareS ⟨k, r, m, f, ps, tx⟩ = true) (hm : mayA ⟨k, r, m, f, ps, tx⟩ = false) :
    Calls Tryd.prog 9 #[.agg (acA ⟨⟨k, r, m, f, ps, tx⟩, P, np, cp, T, nt, ct⟩)] w (LyPost ⟨k, r, m, f, ps, tx⟩ w) := by
  have HB := Lib.hid hb
  have HM := Lib.hid hm
  have HL := Lib.hid (show layOk ⟨k, r, m, f, ps, tx⟩ = false by rw [lay_is ha, hm, Bool.and_false])
  clear hb hm
  have H0 := Lib.hid (Bxd.of h)
  have HW := Lib.hid (And.intro ha hT)
  clear h ha hT
  show Calls _ _ #[.agg #[.int .i64 k, .int .i32 r, .int .u8 m, .int .u8 f, .slice P np cp, .slice T nt ct]] w _
  go_enter Tryd.func9, Tryd.ntmps9
  go_upto_region 1 with fail
  obtain ⟨b, hb⟩ : ∃ b, b = w.heap.size := ⟨_, rfl⟩
  rw [← hb] at H0 ⊢
  have H1 : Hid (Bxd w b ⟨⟨k, r, m, f, ps, tx⟩, P, np, cp, T, nt, ct⟩ (w.alloc (.cells #[.int .i64 k, .int .i32 r, .int .u8 m, .int .u8 f, .slice P np cp, .slice T nt ct] 25))) := H0
  generalize (w.alloc (.cells #[.int .i64 k, .int .i32 r, .int .u8 m, .int .u8 f, .slice P np cp, .slice T nt ct] 25)) = w1 at H1 ⊢
  clear H0 hb
  obtain ⟨_, p0, p1, p2, p3, p4, p5⟩ := bx_cells H1.out.bx
  simp only at p0 p1 p2 p3 p4 p5
  have X := Lib.hid (bare_any (x := ⟨⟨k, r, m, f, ps, tx⟩, P, np, cp, T, nt, ct⟩) H1.out.rd)
  simp only at X
  rw [HB.out] at X
  go_wp2_with fail
  refine X.out.mono ?_
  rintro e w2 ⟨rfl, hb2⟩
  have H2 := Lib.hid (H1.out.below hb2)
  clear X hb2 H1 p0 p1 p2 p3 p4 p5
  obtain ⟨_, p0, p1, p2, p3, p4, p5⟩ := bx_cells H2.out.bx
  simp only at p0 p1 p2 p3 p4 p5
  have X := Lib.hid (mayAct_any (x := ⟨⟨k, r, m, f, ps, tx⟩, P, np, cp, T, nt, ct⟩) H2.out.rd hp (by simp only; omega))
  simp only at X
  rw [HM.out] at X
  go_wp2_with fail
  refine X.out.mono ?_
  rintro e w3 ⟨rfl, hb3⟩
  have H3 := Lib.hid (H2.out.below hb3)
  clear X hb3 H2 p0 p1 p2 p3 p4 p5
  go_wp2_with fail
  go_ret2
  exact LyPost.no HL.out H3.out.bel
set_option maxHeartbeats 3200000 in
theorem lay_ok1 {w : World} {r m f : Int} {ps tx : List Int} {P T : Option Addr} {np cp nt ct : Nat} (hT : TabsL w) (h : RdA w ⟨⟨1, r, m, f, ps, tx⟩, P, np, cp, T, nt, ct⟩) (ha : AcW ⟨1, r, m, f, ps, tx⟩) (hp : np ≤ 1000) (ht : nt ≤ 16384) (hb : bareS ⟨1, r, m, f, ps, tx⟩ = true) (hm : mayA ⟨1, r, m, f, ps, tx⟩ = true) :
    Calls Tryd.prog 9 #[.agg (acA ⟨⟨1, r, m, f, ps, tx⟩, P, np, cp, T, nt, ct⟩)] w (LyPost ⟨1, r, m, f, ps, tx⟩ w) := by
  have HB := Lib.hid hb
  have HM := Lib.hid hm
  have HL := Lib.hid (show layOk ⟨1, r, m, f, ps, tx⟩ = true by rw [lay_is ha, hb, hm]; rfl)
  clear hb hm
  have H0 := Lib.hid (Bxd.of h)
  have HW := Lib.hid (And.intro ha hT)
  clear h ha hT
  show Calls _ _ #[.agg #[.int .i64 1, .int .i32 r, .int .u8 m, .int .u8 f, .slice P np cp, .slice T nt ct]] w _
  go_enter Tryd.func9, Tryd.ntmps9
  go_upto_region 1 with fail
  obtain ⟨b, hb⟩ : ∃ b, b = w.heap.size := ⟨_, rfl⟩
  rw [← hb] at H0 ⊢
  have H1 : Hid (Bxd w b ⟨⟨1, r, m, f, ps, tx⟩, P, np, cp, T, nt, ct⟩ (w.alloc (.cells #[.int .i64 1, .int .i32 r, .int .u8 m, .int .u8 f, .slice P np cp, .slice T nt ct] 25))) := H0
  generalize (w.alloc (.cells #[.int .i64 1, .int .i32 r, .int .u8 m, .int .u8 f, .slice P np cp, .slice T nt ct] 25)) = w1 at H1 ⊢
  clear H0 hb
  obtain ⟨_, p0, p1, p2, p3, p4, p5⟩ := bx_cells H1.out.bx
  simp only at p0 p1 p2 p3 p4 p5
  have X := Lib.hid (bare_any (x := ⟨⟨1, r, m, f, ps, tx⟩, P, np, cp, T, nt, ct⟩) H1.out.rd)
  simp only at X
  rw [HB.out] at X
  go_wp2_with fail
  refine X.out.mono ?_
  rintro e w2 ⟨rfl, hb2⟩
  have H2 := Lib.hid (H1.out.below hb2)
  clear X hb2 H1 p0 p1 p2 p3 p4 p5
  obtain ⟨_, p0, p1, p2, p3, p4, p5⟩ := bx_cells H2.out.bx
  simp only at p0 p1 p2 p3 p4 p5
  have X := Lib.hid (mayAct_any (x := ⟨⟨1, r, m, f, ps, tx⟩, P, np, cp, T, nt, ct⟩) H2.out.rd hp (by simp only; omega))
  simp only at X
  rw [HM.out] at X
  go_wp2_with fail
  refine X.out.mono ?_
  rintro e w3 ⟨rfl, hb3⟩
  have H3 := Lib.hid (H2.out.below hb3)
  clear X hb3 H2 p0 p1 p2 p3 p4 p5
  obtain ⟨_, p0, p1, p2, p3, p4, p5⟩ := bx_cells H3.out.bx
  simp only at p0 p1 p2 p3 p4 p5
  have hr : mayS r = true := by
    have h1 := HM.out
    simp only [mayA, if_pos] at h1
    exact (Bool.and_eq_true _ _ ▸ h1).1
  have hr2 := mayS_iff.1 hr
  have HR := Lib.hid (show -2147483648 ≤ r ∧ r ≤ 2147483647 by omega)
  clear hr hr2
  go_wp2_with fail
  refine (encode_any w3 r HR.out.1 HR.out.2).mono ?_
  rintro e w4 ⟨v, rfl, A, n, c, rfl, hM⟩
  have Y := Lib.hid hM
  clear hM p0 p1 p2 p3 p4 p5
  go_wp2_with fail
  go_ret2
  exact LyPost.yes HL.out (show Sb w4 A n (encS r) from Sb.own Y.out.own) (H3.out.bel.trans (Y.out.below.mono H3.out.bel.size))
set_option maxHeartbeats 3200000 in
theorem lay_ok2 {w : World} {r m f : Int} {ps tx : List Int} {P T : Option Addr} {np cp nt ct : Nat} (hT : TabsL w) (h : RdA w ⟨⟨2, r, m, f, ps, tx⟩, P, np, cp, T, nt, ct⟩) (ha : AcW ⟨2, r, m, f, ps, tx⟩) (hp : np ≤ 1000) (ht : nt ≤ 16384) (hb : bareS ⟨2, r, m, f, ps, tx⟩ = true) (hm : mayA ⟨2, r, m, f, ps, tx⟩ = true) :
    Calls Tryd.prog 9 #[.agg (acA ⟨⟨2, r, m, f, ps, tx⟩, P, np, cp, T, nt, ct⟩)] w (LyPost ⟨2, r, m, f, ps, tx⟩ w) := by
  have HB := Lib.hid hb
  have HM := Lib.hid hm
  have HL := Lib.hid (show layOk ⟨2, r, m, f, ps, tx⟩ = true by rw [lay_is ha, hb, hm]; rfl)
  clear hb hm
  have H0 := Lib.hid (Bxd.of h)
  have HW := Lib.hid (And.intro ha hT)
  clear h ha hT
  show Calls _ _ #[.agg #[.int .i64 2, .int .i32 r, .int .u8 m, .int .u8 f, .slice P np cp, .slice T nt ct]] w _
  go_enter Tryd.func9, Tryd.ntmps9
  go_upto_region 1 with fail
  obtain ⟨b, hb⟩ : ∃ b, b = w.heap.size := ⟨_, rfl⟩
  rw [← hb] at H0 ⊢
  have H1 : Hid (Bxd w b ⟨⟨2, r, m, f, ps, tx⟩, P, np, cp, T, nt, ct⟩ (w.alloc (.cells #[.int .i64 2, .int .i32 r, .int .u8 m, .int .u8 f, .slice P np cp, .slice T nt ct] 25))) := H0
  generalize (w.alloc (.cells #[.int .i64 2, .int .i32 r, .int .u8 m, .int .u8 f, .slice P np cp, .slice T nt ct] 25)) = w1 at H1 ⊢
  clear H0 hb
  obtain ⟨_, p0, p1, p2, p3, p4, p5⟩ := bx_cells H1.out.bx
  simp only at p0 p1 p2 p3 p4 p5
  have X := Lib.hid (bare_any (x := ⟨⟨2, r, m, f, ps, tx⟩, P, np, cp, T, nt, ct⟩) H1.out.rd)
  simp only at X
  rw [HB.out] at X
  go_wp2_with fail
  refine X.out.mono ?_
  rintro e w2 ⟨rfl, hb2⟩
  have H2 := Lib.hid (H1.out.below hb2)
  clear X hb2 H1 p0 p1 p2 p3 p4 p5
  obtain ⟨_, p0, p1, p2, p3, p4, p5⟩ := bx_cells H2.out.bx
  simp only at p0 p1 p2 p3 p4 p5
  have X := Lib.hid (mayAct_any (x := ⟨⟨2, r, m, f, ps, tx⟩, P, np, cp, T, nt, ct⟩) H2.out.rd hp (by simp only; omega))
  simp only at X
  rw [HM.out] at X
  go_wp2_with fail
  refine X.out.mono ?_
  rintro e w3 ⟨rfl, hb3⟩
  have H3 := Lib.hid (H2.out.below hb3)
  clear X hb3 H2 p0 p1 p2 p3 p4 p5
  obtain ⟨_, p0, p1, p2, p3, p4, p5⟩ := bx_cells H3.out.bx
  simp only at p0 p1 p2 p3 p4 p5
  go_wp2_with fail
  go_ret2
  exact LyPost.yes HL.out (show Sb _ _ _ [f] from Sb.one w3 _ f) (H3.out.bel.alloc H3.out.bel.size _)
set_option maxHeartbeats 3200000 in
theorem lay_ok3 {w : World} {r m f : Int} {ps tx : List Int} {P T : Option Addr} {np cp nt ct : Nat} (hT : TabsL w) (h : RdA w ⟨⟨3, r, m, f, ps, tx⟩, P, np, cp, T, nt, ct⟩) (ha : AcW ⟨3, r, m, f, ps, tx⟩) (hp : np ≤ 1000) (ht : nt ≤ 16384) (hb : bareS ⟨3, r, m, f, ps, tx⟩ = true) (hm : mayA ⟨3, r, m, f, ps, tx⟩ = true) :
    Calls Tryd.prog 9 #[.agg (acA ⟨⟨3, r, m, f, ps, tx⟩, P, np, cp, T, nt, ct⟩)] w (LyPost ⟨3, r, m, f, ps, tx⟩ w) := by
  have HB := Lib.hid hb
  have HM := Lib.hid hm
  have HL := Lib.hid (show layOk ⟨3, r, m, f, ps, tx⟩ = true by rw [lay_is ha, hb, hm]; rfl)
  clear hb hm
  have H0 := Lib.hid (Bxd.of h)
  have HW := Lib.hid (And.intro ha hT)
  clear h ha hT
  show Calls _ _ #[.agg #[.int .i64 3, .int .i32 r, .int .u8 m, .int .u8 f, .slice P np cp, .slice T nt ct]] w _
  go_enter Tryd.func9, Tryd.ntmps9
  go_upto_region 1 with fail
  obtain ⟨b, hb⟩ : ∃ b, b = w.heap.size := ⟨_, rfl⟩
  rw [← hb] at H0 ⊢
  have H1 : Hid (Bxd w b ⟨⟨3, r, m, f, ps, tx⟩, P, np, cp, T, nt, ct⟩ (w.alloc (.cells #[.int .i64 3, .int .i32 r, .int .u8 m, .int .u8 f, .slice P np cp, .slice T nt ct] 25))) := H0
  generalize (w.alloc (.cells #[.int .i64 3, .int .i32 r, .int .u8 m, .int .u8 f, .slice P np cp, .slice T nt ct] 25)) = w1 at H1 ⊢
  clear H0 hb
  obtain ⟨_, p0, p1, p2, p3, p4, p5⟩ := bx_cells H1.out.bx
  simp only at p0 p1 p2 p3 p4 p5
  have X := Lib.hid (bare_any (x := ⟨⟨3, r, m, f, ps, tx⟩, P, np, cp, T, nt, ct⟩) H1.out.rd)
  simp only at X
  rw [HB.out] at X
  go_wp2_with fail
  refine X.out.mono ?_
  rintro e w2 ⟨rfl, hb2⟩
  have H2 := Lib.hid (H1.out.below hb2)
  clear X hb2 H1 p0 p1 p2 p3 p4 p5
  obtain ⟨_, p0, p1, p2, p3, p4, p5⟩ := bx_cells H2.out.bx
  simp only at p0 p1 p2 p3 p4 p5
  have X := Lib.hid (mayAct_any (x := ⟨⟨3, r, m, f, ps, tx⟩, P, np, cp, T, nt, ct⟩) H2.out.rd hp (by simp only; omega))
  simp only at X
  rw [HM.out] at X
  go_wp2_with fail
  refine X.out.mono ?_
  rintro e w3 ⟨rfl, hb3⟩
  have H3 := Lib.hid (H2.out.below hb3)
  clear X hb3 H2 p0 p1 p2 p3 p4 p5
  obtain ⟨_, p0, p1, p2, p3, p4, p5⟩ := bx_cells H3.out.bx
  simp only at p0 p1 p2 p3 p4 p5
  go_wp2_with fail
  refine (layEsc_any (x := ⟨⟨3, r, m, f, ps, tx⟩, P, np, cp, T, nt, ct⟩) H3.out.rd).mono ?_
  rintro e w4 ⟨A, n, c, rfl, hs, hb4⟩
  have Y := Lib.hid (And.intro hs hb4)
  clear hs hb4 p0 p1 p2 p3 p4 p5
  go_wp2_with fail
  go_ret2
  exact LyPost.yes HL.out Y.out.1 (H3.out.bel.trans (Y.out.2.mono H3.out.bel.size))
set_option maxHeartbeats 3200000 in
theorem lay_ok4 {w : World} {r m f : Int} {ps tx : List Int} {P T : Option Addr} {np cp nt ct : Nat} (hT : TabsL w) (h : RdA w ⟨⟨4, r, m, f, ps, tx⟩, P, np, cp, T, nt, ct⟩) (ha : AcW ⟨4, r, m, f, ps, tx⟩) (hp : np ≤ 1000) (ht : nt ≤ 16384) (hb : bareS ⟨4, r, m, f, ps, tx⟩ = true) (hm : mayA ⟨4, r, m, f, ps, tx⟩ = true) :
    Calls Tryd.prog 9 #[.agg (acA ⟨⟨4, r, m, f, ps, tx⟩, P, np, cp, T, nt, ct⟩)] w (LyPost ⟨4, r, m, f, ps, tx⟩ w) := by
  have HB := Lib.hid hb
  have HM := Lib.hid hm
  have HL := Lib.hid (show layOk ⟨4, r, m, f, ps, tx⟩ = true by rw [lay_is ha, hb, hm]; rfl)
  clear hb hm
  have H0 := Lib.hid (Bxd.of h)
  have HW := Lib.hid (And.intro ha hT)
  clear h ha hT
  show Calls _ _ #[.agg #[.int .i64 4, .int .i32 r, .int .u8 m, .int .u8 f, .slice P np cp, .slice T nt ct]] w _
  go_enter Tryd.func9, Tryd.ntmps9
  go_upto_region 1 with fail
  obtain ⟨b, hb⟩ : ∃ b, b = w.heap.size := ⟨_, rfl⟩
  rw [← hb] at H0 ⊢
  have H1 : Hid (Bxd w b ⟨⟨4, r, m, f, ps, tx⟩, P, np, cp, T, nt, ct⟩ (w.alloc (.cells #[.int .i64 4, .int .i32 r, .int .u8 m, .int .u8 f, .slice P np cp, .slice T nt ct] 25))) := H0
  generalize (w.alloc (.cells #[.int .i64 4, .int .i32 r, .int .u8 m, .int .u8 f, .slice P np cp, .slice T nt ct] 25)) = w1 at H1 ⊢
  clear H0 hb
  obtain ⟨_, p0, p1, p2, p3, p4, p5⟩ := bx_cells H1.out.bx
  simp only at p0 p1 p2 p3 p4 p5
  have X := Lib.hid (bare_any (x := ⟨⟨4, r, m, f, ps, tx⟩, P, np, cp, T, nt, ct⟩) H1.out.rd)
  simp only at X
  rw [HB.out] at X
  go_wp2_with fail
  refine X.out.mono ?_
  rintro e w2 ⟨rfl, hb2⟩
  have H2 := Lib.hid (H1.out.below hb2)
  clear X hb2 H1 p0 p1 p2 p3 p4 p5
  obtain ⟨_, p0, p1, p2, p3, p4, p5⟩ := bx_cells H2.out.bx
  simp only at p0 p1 p2 p3 p4 p5
  have X := Lib.hid (mayAct_any (x := ⟨⟨4, r, m, f, ps, tx⟩, P, np, cp, T, nt, ct⟩) H2.out.rd hp (by simp only; omega))
  simp only at X
  rw [HM.out] at X
  go_wp2_with fail
  refine X.out.mono ?_
  rintro e w3 ⟨rfl, hb3⟩
  have H3 := Lib.hid (H2.out.below hb3)
  clear X hb3 H2 p0 p1 p2 p3 p4 p5
  obtain ⟨_, p0, p1, p2, p3, p4, p5⟩ := bx_cells H3.out.bx
  simp only at p0 p1 p2 p3 p4 p5
  have hc : csiOk m f ps = true := HM.out
  have hc2 : (m = 0 ∨ (60 ≤ m ∧ m < 64) ∨ (32 ≤ m ∧ m < 48)) ∧ psOk ps ∧ ps.length ≤ 16 := by
    unfold csiOk psB at hc
    simp only [Bool.and_eq_true, decide_eq_true_eq, List.all_eq_true] at hc
    exact ⟨hc.1, hc.2.1, hc.2.2.1⟩
  have HC := Lib.hid (And.intro hc2 (show np ≤ 16 from by have h1 : ps.length = np := H3.out.rd.p.len; have := hc2.2.2; omega))
  clear hc hc2
  obtain ⟨pre, hpre⟩ : ∃ pre : List Int, pre = if 60 ≤ m ∧ m < 64 then [m] else [] := ⟨_, rfl⟩
  obtain ⟨post, hpost⟩ : ∃ post : List Int, post = if 32 ≤ m ∧ m < 48 then [m] else [] := ⟨_, rfl⟩
  have HS := Lib.hid (show layS ⟨4, r, m, f, ps, tx⟩ = 27 :: 91 :: (pre ++ numsS ps ++ post ++ [f]) from by
    show 27 :: 91 :: ((if 60 ≤ m ∧ m ≤ 63 then [m] else []) ++ numsS ps ++ (if m ≠ 0 ∧ ¬ (60 ≤ m ∧ m ≤ 63) then [m] else []) ++ [f]) = _
    rw [hpre, hpost]
    have h1 := HC.out.1.1
    by_cases c1 : 60 ≤ m ∧ m < 64
    · rw [if_pos (show 60 ≤ m ∧ m ≤ 63 by omega), if_pos c1, if_neg (fun e => e.2 (by omega)), if_neg (by omega)]
    · rw [if_neg (show ¬ (60 ≤ m ∧ m ≤ 63) by omega), if_neg c1]
      by_cases c2 : 32 ≤ m ∧ m < 48
      · rw [if_pos ⟨by omega, by omega⟩, if_pos c2]
      · rw [if_neg (fun e => e.1 (by omega)), if_neg c2])
  have HT3 := Lib.hid (HW.out.2.below H3.out.bel (Nat.le_refl _))
  have X := Lib.hid (layCsi_any (x := ⟨⟨4, r, m, f, ps, tx⟩, P, np, cp, T, nt, ct⟩) HT3.out H3.out.rd HC.out.2 HC.out.1.2.1 hpre hpost)
  simp only at X
  rw [← HS.out] at X
  clear hpre hpost
  go_wp2_with fail
  refine X.out.mono ?_
  rintro e w4 ⟨A, n, c, rfl, hs, hb4⟩
  have Y := Lib.hid (And.intro hs hb4)
  clear hs hb4 p0 p1 p2 p3 p4 p5 X
  go_wp2_with fail
  go_ret2
  exact LyPost.yes HL.out Y.out.1 (H3.out.bel.trans (Y.out.2.mono H3.out.bel.size))
set_option maxHeartbeats 3200000 in
theorem lay_ok5 {w : World} {r m f : Int} {ps tx : List Int} {P T : Option Addr} {np cp nt ct : Nat} (hT : TabsL w) (h : RdA w ⟨⟨5, r, m, f, ps, tx⟩, P, np, cp, T, nt, ct⟩) (ha : AcW ⟨5, r, m, f, ps, tx⟩) (hp : np ≤ 1000) (ht : nt ≤ 16384) (hb : bareS ⟨5, r, m, f, ps, tx⟩ = true) (hm : mayA ⟨5, r, m, f, ps, tx⟩ = true) :
    Calls Tryd.prog 9 #[.agg (acA ⟨⟨5, r, m, f, ps, tx⟩, P, np, cp, T, nt, ct⟩)] w (LyPost ⟨5, r, m, f, ps, tx⟩ w) := by
  have HB := Lib.hid hb
  have HM := Lib.hid hm
  have HL := Lib.hid (show layOk ⟨5, r, m, f, ps, tx⟩ = true by rw [lay_is ha, hb, hm]; rfl)
  clear hb hm
  have H0 := Lib.hid (Bxd.of h)
  have HW := Lib.hid (And.intro ha hT)
  clear h ha hT
  show Calls _ _ #[.agg #[.int .i64 5, .int .i32 r, .int .u8 m, .int .u8 f, .slice P np cp, .slice T nt ct]] w _
  go_enter Tryd.func9, Tryd.ntmps9
  go_upto_region 1 with fail
  obtain ⟨b, hb⟩ : ∃ b, b = w.heap.size := ⟨_, rfl⟩
  rw [← hb] at H0 ⊢
  have H1 : Hid (Bxd w b ⟨⟨5, r, m, f, ps, tx⟩, P, np, cp, T, nt, ct⟩ (w.alloc (.cells #[.int .i64 5, .int .i32 r, .int .u8 m, .int .u8 f, .slice P np cp, .slice T nt ct] 25))) := H0
  generalize (w.alloc (.cells #[.int .i64 5, .int .i32 r, .int .u8 m, .int .u8 f, .slice P np cp, .slice T nt ct] 25)) = w1 at H1 ⊢
  clear H0 hb
  obtain ⟨_, p0, p1, p2, p3, p4, p5⟩ := bx_cells H1.out.bx
  simp only at p0 p1 p2 p3 p4 p5
  have X := Lib.hid (bare_any (x := ⟨⟨5, r, m, f, ps, tx⟩, P, np, cp, T, nt, ct⟩) H1.out.rd)
  simp only at X
  rw [HB.out] at X
  go_wp2_with fail
  refine X.out.mono ?_
  rintro e w2 ⟨rfl, hb2⟩
  have H2 := Lib.hid (H1.out.below hb2)
  clear X hb2 H1 p0 p1 p2 p3 p4 p5
  obtain ⟨_, p0, p1, p2, p3, p4, p5⟩ := bx_cells H2.out.bx
  simp only at p0 p1 p2 p3 p4 p5
  have X := Lib.hid (mayAct_any (x := ⟨⟨5, r, m, f, ps, tx⟩, P, np, cp, T, nt, ct⟩) H2.out.rd hp (by simp only; omega))
  simp only at X
  rw [HM.out] at X
  go_wp2_with fail
  refine X.out.mono ?_
  rintro e w3 ⟨rfl, hb3⟩
  have H3 := Lib.hid (H2.out.below hb3)
  clear X hb3 H2 p0 p1 p2 p3 p4 p5
  obtain ⟨_, p0, p1, p2, p3, p4, p5⟩ := bx_cells H3.out.bx
  simp only at p0 p1 p2 p3 p4 p5
  have hl : tx.length = nt := H3.out.rd.t.len
  have HN := Lib.hid (And.intro hl ht)
  clear hl ht
  have HR := Lib.hid (show ∀ w4, w4 = ((w3.alloc (.cells #[.int .u8 27, .int .u8 93] 5)).alloc (.cells #[.int .u8 7] 5)).alloc (.cells #[.slice (some ⟨w3.heap.size, 0, none⟩) 2 2, .slice T nt ct, .slice (some ⟨w3.heap.size + 1, 0, none⟩) 1 1] 23) →
      Below w3.heap.size w3 w4 ∧ Rws3 w4 (w3.heap.size + 1 + 1) 3 (fun k => if k = 0 then some ⟨w3.heap.size, 0, none⟩ else if k = 1 then T else some ⟨w3.heap.size + 1, 0, none⟩) (fun k => if k = 0 then 2 else if k = 1 then nt else 1) (fun k => if k = 0 then 2 else if k = 1 then ct else 1) (fun k => if k = 0 then [27, 93] else if k = 1 then tx else [7]) from by
    intro w4 e
    have b1 : Below w3.heap.size w3 (w3.alloc (.cells #[.int .u8 27, .int .u8 93] 5)) := (Below.refl _ _).alloc (Nat.le_refl _) _
    have s1 : Sb (w3.alloc (.cells #[.int .u8 27, .int .u8 93] 5)) (some ⟨w3.heap.size, 0, none⟩) 2 [27, 93] := sb_lits w3 [27, 93] 2 _ rfl rfl
    have z1 : (w3.alloc (.cells #[.int .u8 27, .int .u8 93] 5)).heap.size = w3.heap.size + 1 := by simp
    generalize (w3.alloc (.cells #[.int .u8 27, .int .u8 93] 5)) = wa at e b1 s1 z1
    have b2 : Below wa.heap.size wa (wa.alloc (.cells #[.int .u8 7] 5)) := (Below.refl _ _).alloc (Nat.le_refl _) _
    have s2 : Sb (wa.alloc (.cells #[.int .u8 7] 5)) (some ⟨wa.heap.size, 0, none⟩) 1 [7] := Sb.one wa _ 7
    have z2 : (wa.alloc (.cells #[.int .u8 7] 5)).heap.size = wa.heap.size + 1 := by simp
    generalize (wa.alloc (.cells #[.int .u8 7] 5)) = wb at e b2 s2 z2
    have b3 : Below wb.heap.size wb w4 := by rw [e]; exact (Below.refl _ _).alloc (Nat.le_refl _) _
    have hrow : w4.heap[w3.heap.size + 1 + 1]? = some (.cells #[.slice (some ⟨w3.heap.size, 0, none⟩) 2 2, .slice T nt ct, .slice (some ⟨w3.heap.size + 1, 0, none⟩) 1 1] 23 (0, 0)) := by
      rw [show w3.heap.size + 1 + 1 = wb.heap.size by omega, e]; exact heap_alloc_new wb _
    have b23 : Below wa.heap.size wa w4 := b2.trans (b3.mono b2.size)
    have b13 : Below w3.heap.size w3 w4 := b1.trans (b23.mono b1.size)
    rw [z1] at s2
    refine ⟨b13, (Array.getElem?_eq_some_iff.1 hrow).1, fun k hk => ?_, fun k hk => ?_⟩
    · rw [cell_of_row _ _ k _ _ _ hrow]
      have h3 : k = 0 ∨ k = 1 ∨ k = 2 := by omega
      rcases h3 with rfl | rfl | rfl <;> rfl
    · have h3 : k = 0 ∨ k = 1 ∨ k = 2 := by omega
      rcases h3 with rfl | rfl | rfl
      · exact s1.below b23
      · exact H3.out.rd.t.below b13
      · exact s2.below b3)
  have HC := Lib.hid (show catZ (fun k => if k = 0 then [27, 93] else if k = 1 then tx else [7]) 3 = layS ⟨5, r, m, f, ps, tx⟩ from by
    show (([] ++ [27, 93]) ++ tx) ++ [7] = 27 :: 93 :: (tx ++ [7])
    simp)
  have HCl := Lib.hid (show 0 < (layS ⟨5, r, m, f, ps, tx⟩).length ∧ (layS ⟨5, r, m, f, ps, tx⟩).length ≤ 1000000 from by
    show 0 < (27 :: 93 :: (tx ++ [7])).length ∧ (27 :: 93 :: (tx ++ [7])).length ≤ 1000000
    simp only [List.length_cons, List.length_append, List.length_nil]
    have := HN.out
    omega)
  go_wp2_with fail
  obtain ⟨w4, hw4⟩ : ∃ w4, w4 = ((w3.alloc (.cells #[.int .u8 27, .int .u8 93] 5)).alloc (.cells #[.int .u8 7] 5)).alloc (.cells #[.slice (some ⟨w3.heap.size, 0, none⟩) 2 2, .slice T nt ct, .slice (some ⟨w3.heap.size + 1, 0, none⟩) 1 1] 23) := ⟨_, rfl⟩
  rw [← hw4]
  have H4 := Lib.hid (HR.out w4 hw4)
  clear HR hw4 p0 p1 p2 p3 p4 p5
  have X := Lib.hid (concat_any (cc := 3) H4.out.2 (by omega) (by rw [HC.out]; exact HCl.out.1) (by rw [HC.out]; exact HCl.out.2))
  rw [HC.out] at X
  refine X.out.mono ?_
  rintro e w5 ⟨A, n, c, rfl, hs, hb5⟩
  have Y := Lib.hid (show Sb w5 A n (layS ⟨5, r, m, f, ps, tx⟩) ∧ Below w.heap.size w w5 from ⟨hs, (H3.out.bel.trans (H4.out.1.mono H3.out.bel.size)).trans (hb5.mono (Nat.le_trans H3.out.bel.size H4.out.1.size))⟩)
  clear hs hb5 X H4
  go_wp2_with fail
  go_ret2
  exact LyPost.yes HL.out Y.out.1 Y.out.2
theorem pLay_any {w : World} {x : AcR} (hT : KnownL w) (h : RdA w x) (ha : AcW x.a) (hp : x.np ≤ 1000) (ht : x.nt ≤ 16384) : Calls Tryd.prog 9 #[.agg (acA x)] w (LyPost x.a w) := by
  obtain ⟨⟨k, r, m, f, ps, tx⟩, P, np, cp, T, nt, ct⟩ := x
  simp only at hp ht ha
  cases hb : bareS ⟨k, r, m, f, ps, tx⟩
  · exact lay_notbare hT h ha hp ht hb
  cases hm : mayA ⟨k, r, m, f, ps, tx⟩
  · exact lay_notmay hT h ha hp ht hb hm
  by_cases h1 : k = 1
  · subst h1; exact lay_ok1 hT h ha hp ht hb hm
  by_cases h2 : k = 2
  · subst h2; exact lay_ok2 hT h ha hp ht hb hm
  by_cases h3 : k = 3
  · subst h3; exact lay_ok3 hT h ha hp ht hb hm
  by_cases h4 : k = 4
  · subst h4; exact lay_ok4 hT h ha hp ht hb hm
  by_cases h5 : k = 5
  · subst h5; exact lay_ok5 hT h ha hp ht hb hm
  unfold mayA at hm
  simp only at hm
  rw [if_neg h1, if_neg h2, if_neg h3, if_neg h4, if_neg h5] at hm
  cases hm
end Go.Proofs.YtappnfifhpmekaaDoor
