/-
  The contract of what reads an item's first number.
-/
import Derived.Test.YtchpobikbcelfaaTlvGive
import Derived.Laws.BitsAllLaws
import Derived.WalkSmall
namespace Go.Proofs.Ytchpobikbcelfaa
open Go.RowKit

theorem nat_and_two (n : Nat) : n &&& 2 = n / 2 % 2 * 2 := by
  have h1 : (n &&& 2) / 2 = n / 2 &&& 1 := by rw [Nat.and_div_two]
  have h2 : (n &&& 2) % 2 = 0 := by
    have := @Nat.and_mod_two_pow n 2 1
    simpa using this
  rw [Nat.and_one_is_mod] at h1
  omega
theorem and_two_u64 (V : Int) (h0 : 0 ≤ V) (h1 : V ≤ 18446744073709551615) : (bits BinOp.and IntKind.u64 V 2 != 0) = decide (V / 2 % 2 = 1) := by
  have h := bits_and_u64_nat V.toNat 2 (by omega) (by omega)
  rw [nat_and_two, Int.toNat_of_nonneg h0] at h
  have h3 : bits BinOp.and IntKind.u64 V 2 = ((V.toNat / 2 % 2 * 2 : Nat) : Int) := h
  rw [h3]
  by_cases h5 : V / 2 % 2 = 1
  · have h6 : ((V.toNat / 2 % 2 * 2 : Nat) : Int) = 2 := by omega
    rw [h6]; simp [h5]
  · have h6 : ((V.toNat / 2 % 2 * 2 : Nat) : Int) = 0 := by omega
    rw [h6]; simp [h5]
theorem and_one_u64' (V : Int) (h0 : 0 ≤ V) (h1 : V ≤ 18446744073709551615) : (bits BinOp.and IntKind.u64 V 1 != 0) = decide (V % 2 = 1) := by
  rw [and_one_u64 V h0 h1]
  by_cases h5 : V % 2 = 1
  · simp [h5]
  · have h6 : V % 2 = 0 := by omega
    simp [h6]

/-- What readFirst leaves: an item without bytes and items, or a panic. -/
def FirstPost (base : Nat) (w : World) (r : Nat) (zs : List Int) (ahead : Int) (e : Ending) (w' : World) : Prop :=
  if fvE 0 zs ≠ 0 then e = gaveUp (fvE 0 zs) ∧ w.grownBy w' (some r)
  else if 1000 < fvV zs / 4 ∨ fvV zs / 4 ≤ ahead then e = gaveUp 3 ∧ w.grownBy w' (some r)
  else e = .returned (.agg #[.int .i64 (fvV zs / 4), .bool (decide (fvV zs / 2 % 2 = 1)), .bool (decide (fvV zs % 2 = 1)), .slice none 0 0, .slice none 0 0]) ∧ RdTo 84 base w r (zs.drop (fvK zs)) 0 w'

theorem Rd.alloc {t : TypeId} {base : Nat} {w : World} {r : Nat} {A : Option Addr} {n c : Nat} {zs : List Int} {e : Int} (h : Rd t base w r A n c zs e) (o : Obj) : Rd t base (w.alloc o) r A n c zs e :=
  h.below ((Below.refl _ _).alloc (Nat.le_refl _) _)

theorem RdTo.boxed {t : TypeId} {base : Nat} {w w1 w2 : World} {r : Nat} {zs : List Int} {e : Int} {o : Obj} (h : RdTo t base (w.alloc o) r zs e w1) (hr : r < w.heap.size) (hb : Below w.heap.size w1 w2) : RdTo t base w r zs e w2 := by
  obtain ⟨⟨A, n, c, h1⟩, hg⟩ := h
  refine ⟨⟨A, n, c, h1.stay hb.size fun k _ hk => hb.block k (by omega)⟩, ?_⟩
  refine ⟨hb.os.trans hg.os, hb.tape.trans hg.tape, hb.output.trans hg.output, ?_, fun k hk hne => ?_⟩
  · have h2 := hg.size
    have h3 := hb.size
    simp at h2
    omega
  · rw [hb.block k hk, hg.block k (by simp; omega) hne, heap_alloc_old _ _ hk]

theorem readFirst_any {base : Nat} {w : World} {r : Nat} {A : Option Addr} {m c : Nat} {zs : List Int} (h : Rd 84 base w r A m c zs 0) (hu : U8s zs) (hm : m ≤ 140737488355328) (ahead : Int) (ha0 : 0 ≤ ahead) (ha1 : ahead ≤ 1000) :
    Calls Try.prog 43 #[.pointer (some ⟨r, 0, none⟩), .int .i64 ahead] w (FirstPost base w r zs ahead) := by
  have hr := h.lt
  by_cases hE : fvE 0 zs = 0
  · have hv : Hid (var1 zs 0 = (fvV zs, zs.drop (fvK zs), 0)) := by show _ = _; unfold var1; rw [if_neg (by simp), if_pos hE]
    have hV1 := fvV_nonneg hu
    have hV2 := fvV_lt hu 0 (by omega) hE
    obtain ⟨V, hV⟩ : ∃ V, V = fvV zs := ⟨_, rfl⟩
    rw [← hV] at hv hV1 hV2
    have hV3 : V ≤ 18446744073709551615 := by simp at hV2; omega
    have a2 := and_two_u64 V hV1 hV3
    have a1 := and_one_u64' V hV1 hV3
    obtain ⟨b2, hb2⟩ : ∃ b, b = decide (V / 2 % 2 = 1) := ⟨_, rfl⟩
    obtain ⟨b1, hb1⟩ : ∃ b, b = decide (V % 2 = 1) := ⟨_, rfl⟩
    rw [← hb2] at a2
    rw [← hb1] at a1
    have HE := Lib.hid hE
    have HV := Lib.hid (And.intro hV (And.intro hb1 hb2))
    clear hV2 hV hb1 hb2 hE
    have H := Lib.hid h
    have hsz := h.lo
    clear h
    by_cases hb : 1000 < V / 4
    · have HP : ∀ w1, w.grownBy w1 (some r) → FirstPost base w r zs ahead (gaveUp 3) w1 := fun w1 hg => by
        unfold FirstPost
        rw [if_neg (by rw [HE.out]; simp), if_pos (by rw [← HV.out.1]; exact .inl hb)]
        exact ⟨rfl, hg⟩
      have HP := Lib.hid HP
      go_enter Try.func43, Try.ntmps43
      go_wp2_with fail
      refine (rvar_any (H.out.alloc _) hu hm).mono ?_
      rintro e w1 ⟨rfl, ⟨A1, n1, c1, hr1⟩, hg⟩
      rw [hv.out] at hr1 ⊢
      have X := Lib.hid (And.intro hr1 hg)
      clear hr1 hg
      go_wp2_with fail
      refine (err_any X.out.1).mono ?_
      rintro e w' ⟨rfl, rfl⟩
      go_wp2_with fail
      refine (giveUp_ok _).mono ?_
      rintro e w' ⟨rfl, rfl⟩
      go_wp2_with fail
      exact ⟨rfl, HP.out _ (grownBy_trans (grownBy_below ((Below.refl _ _).alloc (Nat.le_refl _) _)) X.out.2)⟩
    by_cases hb' : V / 4 ≤ ahead
    · have HP : ∀ w1, w.grownBy w1 (some r) → FirstPost base w r zs ahead (gaveUp 3) w1 := fun w1 hg => by
        unfold FirstPost
        rw [if_neg (by rw [HE.out]; simp), if_pos (by rw [← HV.out.1]; exact .inr hb')]
        exact ⟨rfl, hg⟩
      have HP := Lib.hid HP
      go_enter Try.func43, Try.ntmps43
      go_wp2_with fail
      refine (rvar_any (H.out.alloc _) hu hm).mono ?_
      rintro e w1 ⟨rfl, ⟨A1, n1, c1, hr1⟩, hg⟩
      rw [hv.out] at hr1 ⊢
      have X := Lib.hid (And.intro hr1 hg)
      clear hr1 hg
      go_wp2_with fail
      refine (err_any X.out.1).mono ?_
      rintro e w' ⟨rfl, rfl⟩
      go_wp2_with fail
      refine (giveUp_ok _).mono ?_
      rintro e w' ⟨rfl, rfl⟩
      go_wp2_with fail
      exact ⟨rfl, HP.out _ (grownBy_trans (grownBy_below ((Below.refl _ _).alloc (Nat.le_refl _) _)) X.out.2)⟩
    · have HP : ∀ w1, RdTo 84 base w r (zs.drop (fvK zs)) 0 w1 → FirstPost base w r zs ahead (.returned (.agg #[.int .i64 (V / 4), .bool b2, .bool b1, .slice none 0 0, .slice none 0 0])) w1 := fun w1 hg => by
        unfold FirstPost
        rw [if_neg (by rw [HE.out]; simp), if_neg (by rw [← HV.out.1]; omega), ← HV.out.1, ← HV.out.2.1, ← HV.out.2.2]
        exact ⟨rfl, hg⟩
      have HP := Lib.hid HP
      go_enter Try.func43, Try.ntmps43
      go_wp2_with fail
      refine (rvar_any (H.out.alloc _) hu hm).mono ?_
      rintro e w1 ⟨rfl, ⟨A1, n1, c1, hr1⟩, hg⟩
      rw [hv.out] at hr1 ⊢
      have hbx := (hg.block w.heap.size (by simp) (by simp; omega)).trans (heap_alloc_new _ _)
      have X := Lib.hid (And.intro hr1 (And.intro hg hbx))
      clear hr1 hg hbx
      go_wp2_with fail
      refine (err_any X.out.1).mono ?_
      rintro e w' ⟨rfl, rfl⟩
      go_wp2_with fail
      refine (giveUp_ok _).mono ?_
      rintro e w' ⟨rfl, rfl⟩
      obtain ⟨x0, x1, x2, x3, x4⟩ := item_cells X.out.2.2
      have y0 := item_free X.out.2.2 0
      have y1 := item_free X.out.2.2 1
      have y2 := item_free X.out.2.2 2
      have y3 := item_free X.out.2.2 3
      have y4 := item_free X.out.2.2 4
      go_wp2_with fail
      refine bodyPost_ret (v := .agg #[.int .i64 (V / 4), .bool b2, .bool b1, .slice none 0 0, .slice none 0 0]) (by simp [results, Try.results43, go_sem, x0, x1, x2, x3, x4]) rfl (HP.out _ (RdTo.boxed ⟨⟨_, _, _, X.out.1⟩, X.out.2.1⟩ hr ?_))
      refine Below.setCell (Below.setCell (Below.setCell (Below.setCell (Below.setCell (Below.refl _ _) ?_ _) ?_ _) ?_ _) ?_ _) ?_ _
      all_goals exact Nat.le_refl _
  · have hv : Hid (var1 zs 0 = (0, zs, fvE 0 zs)) := by show _ = _; unfold var1; rw [if_neg (by simp), if_neg hE]
    obtain ⟨E, hEE⟩ : ∃ E, E = fvE 0 zs := ⟨_, rfl⟩
    have hE' : E ≠ 0 := by rw [hEE]; exact hE
    have HE := Lib.hid (And.intro hE hEE)
    rw [← hEE] at hv
    clear hE hEE
    have H0 := Lib.hid hE'
    clear hE'
    go_enter Try.func43, Try.ntmps43
    go_wp2_with fail
    refine (rvar_any (h.alloc _) hu hm).mono ?_
    rintro e w1 ⟨rfl, ⟨A1, n1, c1, hr1⟩, hg⟩
    rw [hv.out] at hr1 ⊢
    have X := Lib.hid (And.intro hr1 hg)
    clear hr1 hg
    go_wp2_with fail
    refine (err_any X.out.1).mono ?_
    rintro e w' ⟨rfl, rfl⟩
    go_wp2_with fail
    refine (giveUp_bad E H0.out _).mono ?_
    rintro e w' ⟨rfl, rfl⟩
    unfold gaveUp
    have HP : FirstPost base w r zs ahead (gaveUp E) w1 := by
      unfold FirstPost
      rw [if_pos HE.out.1, ← HE.out.2]
      exact ⟨rfl, grownBy_trans (grownBy_below ((Below.refl _ _).alloc (Nat.le_refl _) _)) X.out.2⟩
    exact ⟨rfl, HP⟩

end Go.Proofs.Ytchpobikbcelfaa
