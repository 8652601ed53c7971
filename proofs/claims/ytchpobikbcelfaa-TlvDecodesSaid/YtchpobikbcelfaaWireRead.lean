/-
  Contracts of the reader's Num, Var and Text.
-/
import Derived.Test.YtchpobikbcelfaaWireTake
import Derived.Test.YtchpobikbcelfaaWireFirst
namespace Go.Proofs.Ytchpobikbcelfaa
open Go.RowKit

theorem pow256_le {i j : Nat} (h : i ≤ j) : (256 : Int) ^ i ≤ 256 ^ j := by
  have h1 : (256 : Nat) ^ i ≤ 256 ^ j := Nat.pow_le_pow_right (by omega) h
  have h2 : ((256 ^ i : Nat) : Int) ≤ ((256 ^ j : Nat) : Int) := Int.ofNat_le.2 h1
  simpa using h2

/-- One byte more of a number. -/
theorem shl_step {acc d : Int} (h0 : 0 ≤ acc) (h1 : acc < 72057594037927936) (h2 : 0 ≤ d) (h3 : d ≤ 255) : bits .or .u64 (acc * 256) d = acc * 256 + d := by
  rw [u64_or _ _ (by omega) (by omega) h2 (by omega), nat_join 8]
  · omega
  · omega
  · omega

def NumPost (base : Nat) (w : World) (r : Nat) (q : Int × List Int × Int) (e' : Ending) (w' : World) : Prop :=
  e' = .returned (.int .u64 q.1) ∧ RdTo 84 base w r q.2.1 q.2.2 w'

theorem rvar_any {base : Nat} {w : World} {r : Nat} {A : Option Addr} {m c : Nat} {zs : List Int} {e : Int} (h : Rd 84 base w r A m c zs e) (hu : U8s zs) (hm : m ≤ 140737488355328) :
    Calls Try.prog 52 #[.pointer (some ⟨r, 0, none⟩)] w (NumPost base w r (var1 zs e)) := by
  by_cases h0 : e = 0
  · subst h0
    have hc0 := h.cell0
    have hc1 := h.cell1
    have hf0 := h.free 0
    have hf1 := h.free 1
    have hmc := h.le
    have hcm := h.max
    unfold maxLen at hcm
    have hkl := fvK_le zs
    rw [h.sb.len] at hkl
    by_cases hE : fvE 0 zs = 0
    · obtain ⟨k, hk⟩ : ∃ k, fvK zs = k := ⟨_, rfl⟩
      obtain ⟨V, hV⟩ : ∃ V, fvV zs = V := ⟨_, rfl⟩
      rw [hk] at hkl
      have HP : NumPost base w r (var1 zs 0) (.returned (.int .u64 V)) ((w.setCell ⟨r, 1, none⟩ (.int .i64 0)).setCell ⟨r, 0, none⟩ (.slice (if c = k then A else A.map (·.add k)) (m - k) (c - k))) := by
        unfold var1; rw [if_neg (by simp), if_pos hE, hk, hV]
        exact ⟨rfl, ⟨_, _, _, (h.setErr 0).setRest hkl⟩, grownBy_trans (grownBy_set _ _ _) (grownBy_set _ _ _)⟩
      have HE := Lib.hid hE
      have HV := Lib.hid hV
      have HK := Lib.hid hk
      clear hE hV hk
      by_cases hck : c = k
      · rw [if_pos hck] at HP
        subst hck
        obtain rfl : m = c := by omega
        simp only [Nat.sub_self] at HP
        go_enter Try.func52, Try.ntmps52
        go_wp2_with (first
          | (go_at_call 53; refine (reads_any h).mono ?_; rintro e w' ⟨rfl, rfl⟩)
          | (go_at_call 54; refine (firstVar_ok h.sb hu hm HE HV HK).mono ?_; rintro e w' ⟨rfl, rfl⟩))
        all_goals first | (exfalso; omega) | (go_ret; exact HP)
      · rw [if_neg hck] at HP
        go_enter Try.func52, Try.ntmps52
        go_wp2_with (first
          | (go_at_call 53; refine (reads_any h).mono ?_; rintro e w' ⟨rfl, rfl⟩)
          | (go_at_call 54; refine (firstVar_ok h.sb hu hm HE HV HK).mono ?_; rintro e w' ⟨rfl, rfl⟩))
        all_goals first | (exfalso; omega) | (go_ret; exact HP)
    · obtain ⟨e0, he⟩ : ∃ e0, fvE 0 zs = e0 := ⟨_, rfl⟩
      have HE := Lib.hid hE
      have HP : NumPost base w r (var1 zs 0) (.returned (.int .u64 0)) ((w.setCell ⟨r, 1, none⟩ (.int .i64 e0)).setCell ⟨r, 0, none⟩ (.slice (if c = 0 then A else A.map (·.add 0)) (m - 0) (c - 0))) := by
        unfold var1; rw [if_neg (by simp), if_neg hE, he]
        exact ⟨rfl, ⟨_, _, _, (h.setErr e0).setRest (Nat.zero_le _)⟩, grownBy_trans (grownBy_set _ _ _) (grownBy_set _ _ _)⟩
      have ha : (if c = 0 then A else A.map (·.add 0)) = A := by
        split
        · rfl
        · cases A <;> rfl
      rw [ha, Nat.sub_zero, Nat.sub_zero] at HP
      have HE0 := Lib.hid he
      clear hE he ha
      go_enter Try.func52, Try.ntmps52
      go_wp2_with (first
        | (go_at_call 53; refine (reads_any h).mono ?_; rintro e w' ⟨rfl, rfl⟩)
        | (go_at_call 54; refine (firstVar_bad h.sb hu hm HE HE0).mono ?_; rintro e w' ⟨rfl, rfl⟩))
      go_ret
      exact HP
  · have HP : NumPost base w r (var1 zs e) (.returned (.int .u64 0)) w := by
      unfold var1; rw [if_pos h0]; exact ⟨rfl, RdTo.refl h⟩
    have H : (e == 0) = false := by simpa using h0
    clear h0
    go_enter Try.func52, Try.ntmps52
    go_wp2_with (go_at_call 53; refine (reads_any h).mono ?_; rintro e w' ⟨rfl, rfl⟩)
    go_ret
    exact HP

theorem rtext_any {base : Nat} {w : World} {r : Nat} {A : Option Addr} {m c : Nat} {zs : List Int} {e : Int} (h : Rd 84 base w r A m c zs e) (hu : U8s zs) (hm : m ≤ 140737488355328) (n : Int) (hn : n ≤ 9223372036854775807) :
    Calls Try.prog 44 #[.pointer (some ⟨r, 0, none⟩), .int .i64 n] w (TakePost base w r (text1 zs e n)) := by
  by_cases h0 : e = 0
  · subst h0
    have hc0 := h.cell0
    have hc1 := h.cell1
    have hf0 := h.free 0
    have hf1 := h.free 1
    have hmc := h.le
    have hcm := h.max
    unfold maxLen at hcm
    have hkl := fvK_le zs
    have hl := Lib.hid h.sb.len
    rw [h.sb.len] at hkl
    have hV0 := fvV_nonneg hu
    obtain ⟨k, hk⟩ : ∃ k, fvK zs = k := ⟨_, rfl⟩
    obtain ⟨V, hV⟩ : ∃ V, fvV zs = V := ⟨_, rfl⟩
    rw [hk] at hkl
    rw [hV] at hV0
    by_cases hE : fvE 0 zs = 0
    · have HE := Lib.hid hE
      have HV := Lib.hid hV
      have HK := Lib.hid hk
      clear hE hV hk
      have e00 : ¬ ((0 : Int) ≠ 0) := by simp
      by_cases hlong : n < 0 ∨ n < V
      · have HP : TakePost base w r (text1 zs 0 n) (.returned (.slice none 0 0)) (w.setCell ⟨r, 1, none⟩ (.int .i64 4)) := by
          unfold text1; rw [if_neg e00, HE.out, if_neg e00, HV.out, if_pos hlong]; exact ⟨_, rfl, Fresh.nil _ _ _, RdTo.err h 4⟩
        by_cases hneg : n < 0
        · clear hlong
          go_enter Try.func44, Try.ntmps44
          go_wp2_with (first
            | (go_at_call 53; refine (reads_any h).mono ?_; rintro e w' ⟨rfl, rfl⟩)
            | (go_at_call 54; refine (firstVar_ok h.sb hu hm HE HV HK).mono ?_; rintro e w' ⟨rfl, rfl⟩))
          go_ret
          exact HP
        · have hn0 : 0 ≤ n := by omega
          have hnV : n < V := by omega
          clear hlong hneg
          go_enter Try.func44, Try.ntmps44
          go_wp2_with (first
            | (go_at_call 53; refine (reads_any h).mono ?_; rintro e w' ⟨rfl, rfl⟩)
            | (go_at_call 54; refine (firstVar_ok h.sb hu hm HE HV HK).mono ?_; rintro e w' ⟨rfl, rfl⟩))
          go_ret
          exact HP
      · have hn0 : 0 ≤ n := by omega
        have hnV : V ≤ n := by omega
        by_cases hshort : (m : Int) - k < V
        · have HP : TakePost base w r (text1 zs 0 n) (.returned (.slice none 0 0)) (w.setCell ⟨r, 1, none⟩ (.int .i64 2)) := by
            unfold text1; rw [if_neg e00, HE.out, if_neg e00, HV.out, if_neg hlong, hl.out, HK.out, if_pos hshort]; exact ⟨_, rfl, Fresh.nil _ _ _, RdTo.err h 2⟩
          clear hlong
          go_enter Try.func44, Try.ntmps44
          go_wp2_with (first
            | (go_at_call 53; refine (reads_any h).mono ?_; rintro e w' ⟨rfl, rfl⟩)
            | (go_at_call 54; refine (firstVar_ok h.sb hu hm HE HV HK).mono ?_; rintro e w' ⟨rfl, rfl⟩))
          go_ret
          exact HP
        · have hV1 : V ≤ (m : Int) - k := by omega
          have h2 := h.setRest (k := k) (by omega)
          have HT : Hid (text1 zs 0 n = take1 (zs.drop k) 0 V) := by
            show _ = _
            unfold text1 take1
            rw [if_neg e00, HE.out, if_neg e00, HV.out, if_neg hlong, hl.out, HK.out, if_neg hshort, if_neg e00, if_neg (by omega), if_neg (by rw [List.length_drop, hl.out]; omega)]
          clear hlong hshort
          rw [HT.out]
          clear HT
          by_cases hck : c = k
          · rw [if_pos hck] at h2
            subst hck
            obtain rfl : m = c := by omega
            simp only [Nat.sub_self] at h2
            have HC := Lib.hid (take_any h2 (by omega) V (by omega))
            go_enter Try.func44, Try.ntmps44
            go_wp2_with (first
              | (go_at_call 53; refine (reads_any h).mono ?_; rintro e w' ⟨rfl, rfl⟩)
              | (go_at_call 54; refine (firstVar_ok h.sb hu hm HE HV HK).mono ?_; rintro e w' ⟨rfl, rfl⟩))
            all_goals first | (exfalso; omega) | (refine HC.out.mono ?_; rintro e w2 ⟨v, rfl, hfr, hto⟩; have HP := TakePost.behind ⟨v, rfl, hfr, hto⟩; clear hfr hto HC h2; go_wp2; go_ret; exact HP)
          · rw [if_neg hck] at h2
            have HC := Lib.hid (take_any h2 (by omega) V (by omega))
            go_enter Try.func44, Try.ntmps44
            go_wp2_with (first
              | (go_at_call 53; refine (reads_any h).mono ?_; rintro e w' ⟨rfl, rfl⟩)
              | (go_at_call 54; refine (firstVar_ok h.sb hu hm HE HV HK).mono ?_; rintro e w' ⟨rfl, rfl⟩))
            all_goals first | (exfalso; omega) | (refine HC.out.mono ?_; rintro e w2 ⟨v, rfl, hfr, hto⟩; have HP := TakePost.behind ⟨v, rfl, hfr, hto⟩; clear hfr hto HC h2; go_wp2; go_ret; exact HP)
    · have HE := Lib.hid hE
      obtain ⟨e0, he⟩ : ∃ e0, fvE 0 zs = e0 := ⟨_, rfl⟩
      have HP : TakePost base w r (text1 zs 0 n) (.returned (.slice none 0 0)) (w.setCell ⟨r, 1, none⟩ (.int .i64 e0)) := by
        unfold text1; rw [if_neg (by simp), if_pos hE, he]; exact ⟨_, rfl, Fresh.nil _ _ _, RdTo.err h e0⟩
      have HE0 := Lib.hid he
      have t1 : (e0 != 0) = true := by rw [← he]; simpa using hE
      clear hE he hV hk
      go_enter Try.func44, Try.ntmps44
      go_wp2_with (first
        | (go_at_call 53; refine (reads_any h).mono ?_; rintro e w' ⟨rfl, rfl⟩)
        | (go_at_call 54; refine (firstVar_bad h.sb hu hm HE HE0).mono ?_; rintro e w' ⟨rfl, rfl⟩))
      go_ret
      exact HP
  · have HP : TakePost base w r (text1 zs e n) (.returned (.slice none 0 0)) w := by
      unfold text1; rw [if_pos h0]; exact ⟨_, rfl, Fresh.nil _ _ _, RdTo.refl h⟩
    have H : (e == 0) = false := by simpa using h0
    clear h0
    go_enter Try.func44, Try.ntmps44
    go_wp2_with (go_at_call 53; refine (reads_any h).mono ?_; rintro e w' ⟨rfl, rfl⟩)
    go_ret
    exact HP

end Go.Proofs.Ytchpobikbcelfaa
