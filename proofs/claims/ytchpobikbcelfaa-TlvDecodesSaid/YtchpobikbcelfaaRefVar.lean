/-
  Contract of the reference's reader's Var.
-/
import Derived.Test.YtchpobikbcelfaaRefNum
namespace Go.Proofs.Ytchpobikbcelfaa
open Go.RowKit

theorem fvV_down {zs : List Int} (hu : ∀ z ∈ zs, 0 ≤ z ∧ z ≤ 255) : ∀ i j, fvE i zs = 0 → j < fvK zs →
    fvV (zs.drop j) = zs.getD j 0 % 128 + 128 * (if j + 1 = fvK zs then 0 else fvV (zs.drop (j + 1))) := by
  induction zs with
  | nil => intro i j h; simp [fvE] at h
  | cons d r ih =>
    intro i j h hj
    have hd := hu d (List.mem_cons_self ..)
    have hr : ∀ z ∈ r, 0 ≤ z ∧ z ≤ 255 := fun z hz => hu z (List.mem_cons_of_mem _ hz)
    unfold fvE at h
    split at h
    · omega
    · split at h
      · rename_i hl
        have hk : fvK (d :: r) = 1 := by unfold fvK; rw [if_pos hl]
        rw [hk] at hj ⊢
        obtain rfl : j = 0 := by omega
        simp [fvV, hl]
        omega
      · rename_i hl
        have hk : fvK (d :: r) = fvK r + 1 := by rw [fvK, if_neg hl]
        have hp := fvK_pos h
        rw [hk] at hj ⊢
        cases j with
        | zero =>
          rw [if_neg (by omega)]
          simp [fvV, hl]
        | succ j =>
          have h1 := ih hr (i + 1) j h (by omega)
          simp only [List.drop_succ_cons, List.getD_cons_succ]
          rw [h1]
          congr 2
          by_cases e : j + 1 = fvK r
          · rw [if_pos e, if_pos (by omega)]
          · rw [if_neg e, if_neg (by omega)]
theorem fvV_part {zs : List Int} (hu : ∀ z ∈ zs, 0 ≤ z ∧ z ≤ 255) : ∀ j, j < fvK zs → fvV (zs.drop j) ≤ fvV zs := by
  induction zs with
  | nil => intro j h; simp [fvK] at h
  | cons d r ih =>
    intro j hj
    have hd := hu d (List.mem_cons_self ..)
    have hr : ∀ z ∈ r, 0 ≤ z ∧ z ≤ 255 := fun z hz => hu z (List.mem_cons_of_mem _ hz)
    cases j with
    | zero => simp
    | succ j =>
      by_cases hl : d < 128
      · have hk : fvK (d :: r) = 1 := by unfold fvK; rw [if_pos hl]
        omega
      · have hk : fvK (d :: r) = fvK r + 1 := by rw [fvK, if_neg hl]
        have h1 := ih hr j (by omega)
        have h2 := fvV_nonneg hr
        have h3 : fvV (d :: r) = d % 128 + 128 * fvV r := by rw [fvV, if_neg hl]
        rw [List.drop_succ_cons, h3]
        omega

/-- What has been summed up when t digits are still to come. -/
def upV (zs : List Int) (t : Nat) : Int := if t = fvK zs then 0 else fvV (zs.drop t)
theorem upV_step {zs : List Int} (hu : ∀ z ∈ zs, 0 ≤ z ∧ z ≤ 255) (hE : fvE 0 zs = 0) {t : Nat} (ht : t + 1 ≤ fvK zs) :
    upV zs t = upV zs (t + 1) * 128 + zs.getD t 0 % 128 ∧ 0 ≤ upV zs (t + 1) ∧ upV zs t ≤ 18446744073709551615 := by
  have h1 := fvV_down hu 0 t hE (by omega)
  have h2 := fvV_part hu t (by omega)
  have h3 := fvV_lt hu 0 (by omega) hE
  have e : upV zs t = fvV (zs.drop t) := by unfold upV; rw [if_neg (by omega)]
  rw [e]
  refine ⟨?_, ?_, ?_⟩
  · rw [h1]; unfold upV; omega
  · unfold upV
    split
    · omega
    · exact fvV_nonneg fun z hz => hu z (List.mem_of_mem_drop hz)
  · simp at h3; omega
theorem upV_all {zs : List Int} (hE : fvE 0 zs = 0) : upV zs 0 = fvV zs := by
  have := fvK_pos hE
  unfold upV
  rw [if_neg (by omega), List.drop_zero]
theorem upV_none (zs : List Int) : upV zs (fvK zs) = 0 := by unfold upV; rw [if_pos rfl]

set_option maxHeartbeats 1600000 in
theorem refVarR_any {A : Option Addr} {n c a : Nat} {bs : List Int} {e : Int} (w : World) (hs : Sb w A n bs) (hu : U8s bs) (hc : n ≤ c ∧ c ≤ maxLen) (ha : a ≤ n) (hn : n ≤ 140737488355328) :
    Calls Try.prog 48 #[.agg #[.slice A n c, .int .i64 a, .int .i64 e]] w (RNumPost A n c bs w (var1 (bs.drop a) e)) := by
  have hl := Lib.hid (show (bs.drop a).length = n - a by rw [List.length_drop, hs.len])
  have HB := Lib.hid (fun X Z : Obj => (((Below.refl w.heap.size w).alloc (Nat.le_refl _) X).alloc (by simp) Z).drew)
  have hnc := hc.1
  have hcm := hc.2
  unfold maxLen at hcm
  clear hc
  by_cases h0 : e = 0
  · subst h0
    have HE : Hid (∀ (e' : Int) (w' : World), e' ≠ 0 → fvE 0 (bs.drop a) = e' → Below w.heap.size w w' → RNumPost A n c bs w (var1 (bs.drop a) 0) (.returned (.tuple #[.int .u64 0, .agg #[.slice A n c, .int .i64 a, .int .i64 e']])) w') := by
      intro e' w' h1 h2 hb
      unfold var1; rw [if_neg (by simp), if_neg (by rw [h2]; exact h1), h2]; exact ⟨_, rfl, ⟨a, ha, rfl, rfl⟩, hb⟩
    have HG : Hid (∀ (K : Nat) (w' : World), fvE 0 (bs.drop a) = 0 → fvK (bs.drop a) = K → Below w.heap.size w w' → RNumPost A n c bs w (var1 (bs.drop a) 0) (.returned (.tuple #[.int .u64 (fvV (bs.drop a)), .agg #[.slice A n c, .int .i64 ((a : Int) + K), .int .i64 0]])) w') := by
      intro K w' h1 h2 hb
      have h3 := fvK_le (bs.drop a)
      rw [hl.out] at h3
      unfold var1; rw [if_neg (by simp), if_pos h1, h2]; exact ⟨_, rfl, ⟨a + K, by omega, by simp [List.drop_drop], by simp⟩, hb⟩
    have hs2 := Lib.hid ((hs.alloc (.cells #[.slice A n c, .int .i64 a, .int .i64 0] 78)).alloc (.cells #[.slice none 0 0, .int .i64 0, .int .i64 0] 78))
    go_enter Try.func48, Try.ntmps48
    go_wp2
    go_loop [4] (fun i => ∃ (k : Nat) (acc : Int), a + k ≤ n ∧ i = .int .i64 k ∧ Fv (bs.drop a) k acc) (fun i => n - (intOf i).toNat)
    case atStart => exact ⟨0, 0, by omega, rfl, Fv.start _⟩
    case round =>
      obtain ⟨k, acc, hk, rfl, hf⟩ := hrel
      have hk9 := hf.k9
      by_cases hlt : a + k < n
      · obtain ⟨ad, rfl⟩ := hs.addr (by omega)
        have hcell := hs2.out.cell (k := a + k) (by omega)
        have hd := hu.getD (a + k)
        have eg : (bs.drop a).getD k 0 = bs.getD (a + k) 0 := by simp [List.getD]
        obtain ⟨d, hd'⟩ : ∃ d, d = bs.getD (a + k) 0 := ⟨_, rfl⟩
        rw [← hd'] at hcell hd eg
        have HD := Lib.hid eg.symm
        clear hd' eg
        obtain ⟨hd1, hd2⟩ := hd
        have hkl : k < (bs.drop a).length := by rw [hl.out]; omega
        by_cases hb : badD k d = true
        · have HX := Lib.hid (hf.bad hkl HD.out hb)
          simp only [badD, Bool.or_eq_true, Bool.and_eq_true, decide_eq_true_eq, beq_iff_eq] at hb
          clear hkl
          by_cases hz : k = 9 ∧ 1 < d
          · obtain ⟨z1, z2⟩ := hz
            have t1 : ((k : Int) == 9) = true := by simp; omega
            clear hb z1
            go_wp2
            all_goals first | (exfalso; omega) | skip
            go_region
            go_wp2
            exact bodyPost_ret (v := .tuple #[.int .u64 0, .agg #[.slice (some ad) n c, .int .i64 a, .int .i64 3]]) (by simp [results, Try.results48, go_sem]) rfl (HE.out 3 _ (by omega) HX.out (HB.out _ _))
          · obtain ⟨z1, z2⟩ : 0 < k ∧ d = 0 := by omega
            have t1 : ((k : Int) == 9 && decide (1 < d)) = false := by simp; omega
            have t2 : (d == 0) = true := by simpa using z2
            have z3 : d ≤ 1 := by omega
            have z4 : d ≤ 0 := by omega
            clear hb z2 hz
            by_cases k9 : k = 9
            · have t3 : ((k : Int) == 9) = true := by simp; omega
              clear k9
              go_wp2
              all_goals first | (exfalso; omega) | skip
              go_region
              go_wp2
              exact bodyPost_ret (v := .tuple #[.int .u64 0, .agg #[.slice (some ad) n c, .int .i64 a, .int .i64 3]]) (by simp [results, Try.results48, go_sem]) rfl (HE.out 3 _ (by omega) HX.out (HB.out _ _))
            · have t3 : ((k : Int) == 9) = false := by simp; omega
              clear k9
              go_wp2
              all_goals first | (exfalso; omega) | skip
              go_region
              go_wp2
              exact bodyPost_ret (v := .tuple #[.int .u64 0, .agg #[.slice (some ad) n c, .int .i64 a, .int .i64 3]]) (by simp [results, Try.results48, go_sem]) rfl (HE.out 3 _ (by omega) HX.out (HB.out _ _))
        · have hb' : badD k d = false := by simpa using hb
          have hb2 : ¬ (0 < k ∧ d = 0) ∧ ¬ (k = 9 ∧ 1 < d) := by simp [badD] at hb'; omega
          clear hb
          by_cases h128 : d < 128
          · have HF := Lib.hid (hf.fin hkl HD.out hb' h128)
            have HG' : Hid (∀ w' : World, Below w.heap.size w w' → RNumPost (some ad) n c bs w (var1 (bs.drop a) 0) (.returned (.tuple #[.int .u64 (fvV (bs.drop a)), .agg #[.slice (some ad) n c, .int .i64 ((a : Int) + ((k : Int) + 1)), .int .i64 0]])) w') := by
              intro w' hb
              have h := HG.out (k + 1) w' HF.out.1 HF.out.2.1 hb
              rwa [Int.natCast_add] at h
            clear hb' hkl
            by_cases hk0 : k ≤ 0
            · have t1 : ((k : Int) == 9) = false := by simp; omega
              clear hb2
              go_wp2
              all_goals first | (exfalso; omega) | skip
              go_loop [7, 6] (fun i x => ∃ t : Nat, t ≤ k + 1 ∧ i = .int .i64 ((t : Int) - 1) ∧ x = .int .u64 (upV (bs.drop a) t)) (fun i _ => (intOf i + 1).toNat)
              case atStart => exact ⟨k + 1, Nat.le_refl _, by go_num, by rw [← HF.out.2.1, upV_none]⟩
              case round =>
                obtain ⟨t, ht, rfl, rfl⟩ := hrel
                by_cases htp : 0 < t
                · obtain ⟨t', rfl⟩ : ∃ t', t = t' + 1 := ⟨t - 1, by omega⟩
                  have e1 : ((t' + 1 : Nat) : Int) - 1 = (t' : Int) := by omega
                  rw [e1]
                  have hcell2 := hs2.out.cell (k := a + t') (by omega)
                  obtain ⟨hst, hb1, hb2⟩ := upV_step (zs := bs.drop a) (fun z hz => hu z (List.mem_of_mem_drop hz)) HF.out.1 (t := t') (by have := HF.out.2.1; omega)
                  have hd2' := hu.getD (a + t')
                  have eg2 : (bs.drop a).getD t' 0 = bs.getD (a + t') 0 := by simp [List.getD]
                  rw [eg2] at hst
                  obtain ⟨d', hdd⟩ : ∃ d', d' = bs.getD (a + t') 0 := ⟨_, rfl⟩
                  rw [← hdd] at hcell2 hd2' hst
                  obtain ⟨acc', hacc⟩ : ∃ acc', acc' = upV (bs.drop a) (t' + 1) := ⟨_, rfl⟩
                  rw [← hacc] at hst hb1 ⊢
                  rw [hst] at hb2
                  have HS := Lib.hid hst
                  obtain ⟨hd3, hd4⟩ := hd2'
                  clear hst hdd hacc eg2 e1
                  go_wp2
                  go_round
                  case rel => exact ⟨t', by omega, by go_num, by rw [HS.out]⟩
                  case measure => simp [intOf] <;> omega
                · obtain rfl : t = 0 := by omega
                  have e1 : ((0 : Nat) : Int) - 1 = -1 := by omega
                  rw [e1, upV_all HF.out.1]
                  clear e1
                  go_wp2
                  go_region
                  go_wp2
                  exact bodyPost_ret (v := .tuple #[.int .u64 (fvV (bs.drop a)), .agg #[.slice (some ad) n c, .int .i64 ((a : Int) + ((k : Int) + 1)), .int .i64 0]]) (by simp [results, Try.results48, go_sem]) rfl (HG'.out _ (HB.out _ _))
            · have hk1 : 1 ≤ d := by omega
              have hk2 : 0 < k := by omega
              have t2 : (d == 0) = false := by simp; omega
              by_cases hk8 : k ≤ 8
              · have t1 : ((k : Int) == 9) = false := by simp; omega
                clear hb2 hk0
                go_wp2
                all_goals first | (exfalso; omega) | skip
                go_loop [7, 6] (fun i x => ∃ t : Nat, t ≤ k + 1 ∧ i = .int .i64 ((t : Int) - 1) ∧ x = .int .u64 (upV (bs.drop a) t)) (fun i _ => (intOf i + 1).toNat)
                case atStart => exact ⟨k + 1, Nat.le_refl _, by go_num, by rw [← HF.out.2.1, upV_none]⟩
                case round =>
                  obtain ⟨t, ht, rfl, rfl⟩ := hrel
                  by_cases htp : 0 < t
                  · obtain ⟨t', rfl⟩ : ∃ t', t = t' + 1 := ⟨t - 1, by omega⟩
                    have e1 : ((t' + 1 : Nat) : Int) - 1 = (t' : Int) := by omega
                    rw [e1]
                    have hcell2 := hs2.out.cell (k := a + t') (by omega)
                    obtain ⟨hst, hb1, hb2⟩ := upV_step (zs := bs.drop a) (fun z hz => hu z (List.mem_of_mem_drop hz)) HF.out.1 (t := t') (by have := HF.out.2.1; omega)
                    have hd2' := hu.getD (a + t')
                    have eg2 : (bs.drop a).getD t' 0 = bs.getD (a + t') 0 := by simp [List.getD]
                    rw [eg2] at hst
                    obtain ⟨d', hdd⟩ : ∃ d', d' = bs.getD (a + t') 0 := ⟨_, rfl⟩
                    rw [← hdd] at hcell2 hd2' hst
                    obtain ⟨acc', hacc⟩ : ∃ acc', acc' = upV (bs.drop a) (t' + 1) := ⟨_, rfl⟩
                    rw [← hacc] at hst hb1 ⊢
                    rw [hst] at hb2
                    have HS := Lib.hid hst
                    obtain ⟨hd3, hd4⟩ := hd2'
                    clear hst hdd hacc eg2 e1
                    go_wp2
                    go_round
                    case rel => exact ⟨t', by omega, by go_num, by rw [HS.out]⟩
                    case measure => simp [intOf] <;> omega
                  · obtain rfl : t = 0 := by omega
                    have e1 : ((0 : Nat) : Int) - 1 = -1 := by omega
                    rw [e1, upV_all HF.out.1]
                    clear e1
                    go_wp2
                    go_region
                    go_wp2
                    exact bodyPost_ret (v := .tuple #[.int .u64 (fvV (bs.drop a)), .agg #[.slice (some ad) n c, .int .i64 ((a : Int) + ((k : Int) + 1)), .int .i64 0]]) (by simp [results, Try.results48, go_sem]) rfl (HG'.out _ (HB.out _ _))
              · have hd3 : d ≤ 1 := by omega
                have t1 : ((k : Int) == 9) = true := by simp; omega
                clear hb2 hk0
                go_wp2
                all_goals first | (exfalso; omega) | skip
                go_loop [7, 6] (fun i x => ∃ t : Nat, t ≤ k + 1 ∧ i = .int .i64 ((t : Int) - 1) ∧ x = .int .u64 (upV (bs.drop a) t)) (fun i _ => (intOf i + 1).toNat)
                case atStart => exact ⟨k + 1, Nat.le_refl _, by go_num, by rw [← HF.out.2.1, upV_none]⟩
                case round =>
                  obtain ⟨t, ht, rfl, rfl⟩ := hrel
                  by_cases htp : 0 < t
                  · obtain ⟨t', rfl⟩ : ∃ t', t = t' + 1 := ⟨t - 1, by omega⟩
                    have e1 : ((t' + 1 : Nat) : Int) - 1 = (t' : Int) := by omega
                    rw [e1]
                    have hcell2 := hs2.out.cell (k := a + t') (by omega)
                    obtain ⟨hst, hb1, hb2⟩ := upV_step (zs := bs.drop a) (fun z hz => hu z (List.mem_of_mem_drop hz)) HF.out.1 (t := t') (by have := HF.out.2.1; omega)
                    have hd2' := hu.getD (a + t')
                    have eg2 : (bs.drop a).getD t' 0 = bs.getD (a + t') 0 := by simp [List.getD]
                    rw [eg2] at hst
                    obtain ⟨d', hdd⟩ : ∃ d', d' = bs.getD (a + t') 0 := ⟨_, rfl⟩
                    rw [← hdd] at hcell2 hd2' hst
                    obtain ⟨acc', hacc⟩ : ∃ acc', acc' = upV (bs.drop a) (t' + 1) := ⟨_, rfl⟩
                    rw [← hacc] at hst hb1 ⊢
                    rw [hst] at hb2
                    have HS := Lib.hid hst
                    obtain ⟨hd3, hd4⟩ := hd2'
                    clear hst hdd hacc eg2 e1
                    go_wp2
                    go_round
                    case rel => exact ⟨t', by omega, by go_num, by rw [HS.out]⟩
                    case measure => simp [intOf] <;> omega
                  · obtain rfl : t = 0 := by omega
                    have e1 : ((0 : Nat) : Int) - 1 = -1 := by omega
                    rw [e1, upV_all HF.out.1]
                    clear e1
                    go_wp2
                    go_region
                    go_wp2
                    exact bodyPost_ret (v := .tuple #[.int .u64 (fvV (bs.drop a)), .agg #[.slice (some ad) n c, .int .i64 ((a : Int) + ((k : Int) + 1)), .int .i64 0]]) (by simp [results, Try.results48, go_sem]) rfl (HG'.out _ (HB.out _ _))
          · have HN := Lib.hid (hf.next hkl HD.out hb' (by omega))
            have hk8 : k ≤ 8 := by omega
            have t1 : ((k : Int) == 9) = false := by simp; omega
            have t2 : (d == 0) = false := by simp; omega
            clear hb' hb2 hkl
            go_wp2
            all_goals
              go_round
              case rel => exact ⟨k + 1, _, by omega, by go_num, HN.out⟩
              case measure => simp [intOf] <;> omega
      · have HX := Lib.hid (hf.short (by rw [hl.out]; omega))
        go_wp2
        go_region
        go_wp2
        exact bodyPost_ret (v := .tuple #[.int .u64 0, .agg #[.slice A n c, .int .i64 a, .int .i64 2]]) (by simp [results, Try.results48, go_sem]) rfl (HE.out 2 _ (by omega) HX.out (HB.out _ _))
  · have HP : ∀ w', Below w.heap.size w w' → RNumPost A n c bs w (var1 (bs.drop a) e) (.returned (.tuple #[.int .u64 0, .agg #[.slice A n c, .int .i64 a, .int .i64 e]])) w' := by
      intro w' hb
      unfold var1; rw [if_pos h0]; exact ⟨_, rfl, ⟨a, ha, rfl, rfl⟩, hb⟩
    have t0 : (e != 0) = true := by simpa using h0
    clear h0
    go_enter Try.func48, Try.ntmps48
    go_wp2
    go_region
    go_wp2
    exact bodyPost_ret (v := .tuple #[.int .u64 0, .agg #[.slice A n c, .int .i64 a, .int .i64 e]]) (by simp [results, Try.results48, go_sem]) rfl (HP _ (HB.out _ _))

end Go.Proofs.Ytchpobikbcelfaa
