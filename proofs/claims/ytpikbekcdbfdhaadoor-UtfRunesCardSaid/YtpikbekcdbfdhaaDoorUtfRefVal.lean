/-
  The reference's Valid.
-/
import Derived.Test.YtpikbekcdbfdhaaDoorUtfBegs
namespace Go.Proofs.YtpikbekcdbfdhaaDoor
open Go.RowKit

/-- How many bytes the whole rune at the head has, of fewer than k. -/
def wholeLen (L : List Int) (k : Nat) : Nat := match headS L with
  | some (_, n) => if n < k then n else 0
  | none => 0
theorem wholeLen_step {L : List Int} {k : Nat} (h1 : 1 ≤ k) (h4 : k ≤ 4) (hk : k ≤ L.length) : wholeLen L (k + 1) = if (wholeS (L.take k)).isSome = true then k else wholeLen L k := by
  rw [head_take h1 h4 hk]
  unfold wholeLen
  cases headS L with
  | none => simp
  | some x =>
    obtain ⟨r, n⟩ := x
    simp only
    by_cases h : n = k
    · subst h; simp
    · rw [if_neg h]
      simp only [Option.isSome_none, Bool.false_eq_true, if_false]
      by_cases h2 : n < k
      · rw [if_pos (by omega), if_pos h2]
      · rw [if_neg (by omega), if_neg h2]
theorem wholeLen_end {L : List Int} {k : Nat} (h : 4 < k ∨ L.length < k) : (wholeLen L k = 0 ∧ headS L = none) ∨ (∃ r, headS L = some (r, wholeLen L k) ∧ 1 ≤ wholeLen L k ∧ wholeLen L k ≤ L.length) := by
  unfold wholeLen
  cases hh : headS L with
  | none => exact .inl ⟨rfl, rfl⟩
  | some x =>
    obtain ⟨r, n⟩ := x
    have := head_len hh
    right
    simp only
    rw [if_pos (by omega)]
    exact ⟨r, rfl, by omega, by omega⟩

set_option maxHeartbeats 3200000 in
set_option maxRecDepth 100000 in
theorem refValid_any {w : World} {A : Option Addr} {n c : Nat} {zs : List Int} (hs : Sb w A n zs) (h8 : U8s zs) (hc : n ≤ c) (hn : n ≤ 100000) :
    Calls Tryd.prog 20 #[.slice A n c] w fun e w' => e = .returned (.bool (validS zs)) ∧ Below w.heap.size w w' := by
  obtain ⟨ANS, hANS⟩ : ∃ ANS, validS zs = ANS := ⟨_, rfl⟩
  rw [hANS]
  have H := Lib.hid (show Sb w A n zs ∧ U8s zs ∧ validS zs = ANS ∧ n ≤ c ∧ n ≤ 100000 from ⟨hs, h8, hANS, hc, hn⟩)
  clear hs h8 hANS hc hn
  go_enter Tryd.func20, Tryd.ntmps20
  go_wp2_with fail
  go_loopw [3] (fun i wr => ∃ k : Nat, k ≤ n ∧ i = .int .i64 k ∧ validS (zs.drop k) = ANS ∧ Below w.heap.size w wr) (fun i _ => n - (iOf i).toNat)
  case atStart => exact ⟨0, by omega, rfl, H.out.2.2.1, Below.refl _ _⟩
  case round =>
    obtain ⟨k, hk, rfl, hv, hbw⟩ := hrel
    have X := Lib.hid (And.intro hv hbw)
    clear hv hbw
    have hkn : k ≤ 100000 := by have := H.out.2.2.2.2; omega
    have hnn : n ≤ 100000 := H.out.2.2.2.2
    by_cases hlt : k < n
    · have hkl : (k : Int) < (n : Int) := by omega
      go_wp2_with fail
      obtain ⟨wo, hwo⟩ : ∃ wo, wo = wr := ⟨_, rfl⟩
      rw [← hwo]
      have X' := Lib.hid (show validS (zs.drop k) = ANS ∧ Below w.heap.size w wo from by rw [hwo]; exact X.out)
      clear X hwo
      go_loopw [4, 5] (fun s t wr => ∃ j : Nat, 1 ≤ j ∧ j ≤ 5 ∧ t = .int .i64 j ∧ s = .int .i64 (wholeLen (zs.drop k) j) ∧ Below w.heap.size w wr) (fun _ t _ => 5 - (iOf t).toNat)
      case atStart => exact ⟨1, by omega, by omega, rfl, by
        have h0 : wholeLen (zs.drop k) 1 = 0 := by
          unfold wholeLen
          split
          · rename_i hh; have := head_len hh; rw [if_neg (by omega)]
          · rfl
        rw [h0]; rfl, X'.out.2⟩
      case round =>
        obtain ⟨j, hj1, hj5, rfl, rfl, hbw⟩ := hrel
        have Y := Lib.hid hbw
        clear hbw
        have hlen : (zs.drop k).length = n - k := by rw [List.length_drop, H.out.1.len]
        by_cases hgo : j ≤ 4 ∧ j ≤ n - k
        · have hj4 : (j : Int) ≤ 4 := by omega
          have hjn : (j : Int) ≤ (n : Int) - (k : Int) := by omega
          have hcn := H.out.2.2.2.1
          have hkjn : (k : Int) + (j : Int) ≤ (c : Int) := by omega
          have hck : ¬ c = k := by omega
          have hkc : (k : Int) ≤ (c : Int) := by omega
          have hsub := ((H.out.1.below Y.out).cut (k := k) (by omega) hcn).front (k := j) hgo.2
          rw [if_neg hck] at hsub
          have hj10 : j ≤ 1000000 := by omega
          have HW := whole_any (cc := c - k) hsub (fun z hz => H.out.2.1 z (List.mem_of_mem_drop (List.mem_of_mem_take hz))) hj10
          have hst := wholeLen_step (L := zs.drop k) hj1 hgo.1 (by rw [hlen]; exact hgo.2)
          have hj1' := hj1
          clear hgo hlen hcn hsub hj10
          obtain ⟨M, hM⟩ : ∃ M, M = wholeLen (zs.drop k) j := ⟨_, rfl⟩
          rw [← hM] at hst ⊢
          clear hM
          cases hw : wholeS ((zs.drop k).take j) with
          | none =>
            rw [whole_no hw] at HW
            rw [hw, if_neg (by simp)] at hst
            have HW := Lib.hid HW
            have HST := Lib.hid hst
            clear hst hw
            go_wp2_with fail
            refine HW.out.mono ?_
            rintro e w2 ⟨rfl, hb2⟩
            have Z := Lib.hid (Y.out.trans (hb2.mono Y.out.size))
            clear hb2 HW
            go_wp2_with fail
            go_roundw
            case rel => exact ⟨j + 1, by omega, by omega, by go_num, by rw [HST.out], Z.out⟩
            case measure => simp [iOf]; omega
          | some r =>
            rw [whole_yes hw] at HW
            rw [hw, if_pos (by simp)] at hst
            have HW := Lib.hid HW
            have HST := Lib.hid hst
            clear hst hw
            go_wp2_with fail
            refine HW.out.mono ?_
            rintro e w2 ⟨rfl, hb2⟩
            have Z := Lib.hid (Y.out.trans (hb2.mono Y.out.size))
            clear hb2 HW
            go_wp2_with fail
            go_roundw
            case rel => exact ⟨j + 1, by omega, by omega, by go_num, by rw [HST.out], Z.out⟩
            case measure => simp [iOf]; omega
        · by_cases hj4 : (j : Int) ≤ 4
          · have hjn : ¬ (j : Int) ≤ (n : Int) - (k : Int) := by omega
            have hend := wholeLen_end (L := zs.drop k) (k := j) (by omega)
            obtain ⟨M, hM⟩ : ∃ M, M = wholeLen (zs.drop k) j := ⟨_, rfl⟩
            rw [← hM] at hend ⊢
            clear hM
            have hne : zs.drop k ≠ [] := by intro h; rw [h] at hlen; simp at hlen; omega
            rcases hend with ⟨h0, hh⟩ | ⟨r, hh, hm1, hm2⟩
            · have hM0 : (M : Int) = 0 := by omega
              have HA := Lib.hid (show ANS = false from by rw [← X'.out.1]; exact valid_none hne hh)
              clear hne hh h0 hlen
              go_wp2_with fail
              go_ret
              exact ⟨by rw [HA.out]; rfl, Y.out⟩
            · have hM0 : ¬ (M : Int) = 0 := by omega
              rw [hlen] at hm2
              have HA := Lib.hid (show validS (zs.drop (k + M)) = ANS from by rw [← X'.out.1, valid_head (fun z hz => H.out.2.1 z (List.mem_of_mem_drop hz)) hh, List.drop_drop])
              have hkm : (k : Int) + (M : Int) ≤ 100000 := by omega
              clear hne hh hlen
              go_wp2_with fail
              go_roundw
              case rel => exact ⟨k + M, by omega, by go_num, HA.out, Y.out⟩
              case measure => simp [iOf]; omega
          · skip
            have hend := wholeLen_end (L := zs.drop k) (k := j) (by omega)
            obtain ⟨M, hM⟩ : ∃ M, M = wholeLen (zs.drop k) j := ⟨_, rfl⟩
            rw [← hM] at hend ⊢
            clear hM
            have hne : zs.drop k ≠ [] := by intro h; rw [h] at hlen; simp at hlen; omega
            rcases hend with ⟨h0, hh⟩ | ⟨r, hh, hm1, hm2⟩
            · have hM0 : (M : Int) = 0 := by omega
              have HA := Lib.hid (show ANS = false from by rw [← X'.out.1]; exact valid_none hne hh)
              clear hne hh h0 hlen
              go_wp2_with fail
              go_ret
              exact ⟨by rw [HA.out]; rfl, Y.out⟩
            · have hM0 : ¬ (M : Int) = 0 := by omega
              rw [hlen] at hm2
              have HA := Lib.hid (show validS (zs.drop (k + M)) = ANS from by rw [← X'.out.1, valid_head (fun z hz => H.out.2.1 z (List.mem_of_mem_drop hz)) hh, List.drop_drop])
              have hkm : (k : Int) + (M : Int) ≤ 100000 := by omega
              clear hne hh hlen
              go_wp2_with fail
              go_roundw
              case rel => exact ⟨k + M, by omega, by go_num, HA.out, Y.out⟩
              case measure => simp [iOf]; omega
    · obtain rfl : k = n := by omega
      have HA := Lib.hid (show ANS = true from by rw [← X.out.1, List.drop_of_length_le (by rw [H.out.1.len]; exact Nat.le_refl _)]; exact valid_nil)
      go_wp2_with fail
      go_ret
      exact ⟨by rw [HA.out]; rfl, X.out.2⟩
end Go.Proofs.YtpikbekcdbfdhaaDoor
