/-
  A table swept: the reference's Sweep.
-/
import Derived.Test.YtbjgjhhombalpaaLinksSweep
namespace Go.Proofs.Ytbjgjhhombalpaa
open Go.RowKit

theorem mem_take_snocZ {us : List Int} {k : Nat} {x : Int} (h : k < us.length) : x ∈ us.take (k + 1) ↔ x ∈ us.take k ∨ us.getD k 0 = x := by
  rw [take_snocZ h, List.mem_append, List.mem_singleton]
  exact or_congr Iff.rfl eq_comm
/-- What the reference's loop keeps. -/
structure SwR (w : World) (b : Nat) (i : Nat) (A : Option Addr) (c : Nat) (L : List ByteArray) (us : List Int) (t : Nat) (wr : World) : Prop where
  tx : Tx b wr A i c ((sweepM L us).take i)
  last : t = lastN ((sweepM L us).take i)
  ge : b ≤ wr.heap.size
  bel : Below w.heap.size w wr
theorem SwR.step {w wr w3 : World} {b i c c' : Nat} {A A' : Option Addr} {L : List ByteArray} {us : List Int} {t t' : Nat} {y : ByteArray} (h : SwR w b i A c L us t wr) (hi : i < L.length) (hb : b = w.heap.size) (hy : sAt (sweepM L us) i = y) (ht : t' = if y = eT then t else i + 1)
    (hown : Tx b w3 A' (i + 1) c' ((sweepM L us).take i ++ [y])) (hg : (wr.alloc (.cells #[.string y] 9)).grownBy w3 (Value.slice A i c).ownBlock) : SwR w b (i + 1) A' c' L us t' w3 := by
  have e : (sweepM L us).take (i + 1) = (sweepM L us).take i ++ [y] := by rw [take_snocT (by rw [sweepM_len]; exact hi), hy]
  have hs := hg.size
  simp at hs
  have hge := h.ge
  refine ⟨by rw [e]; exact hown, ?_, by omega, (h.bel.alloc (by omega) _).grown hg (by simp; omega) fun k hk => ?_⟩
  · rw [ht, e, lastN_snoc, ← h.last, List.length_take, sweepM_len]
    split
    · rfl
    · omega
  · have := h.tx.ownB k hk
    omega
set_option maxHeartbeats 1600000 in
theorem refSweep_any {w : World} {A A' : Option Addr} {n c m c' : Nat} {L : List ByteArray} {us : List Int} (h : Vs stV w A n L) (h' : Ik .u16 w A' m us) (hu : ∀ z ∈ us, 0 ≤ z ∧ z ≤ 65535) (hn : n ≤ 60000) (hm : m ≤ 140737488351232) :
    Calls Try.prog 11 #[.slice A n c, .slice A' m c'] w (TxEnd (sweepS L us) w) := by
  obtain ⟨b, hb⟩ : ∃ b, b = w.heap.size := ⟨_, rfl⟩
  have HB := Lib.hid hb
  have H := Lib.hid (And.intro h h')
  have HU := Lib.hid hu
  clear h h' hb hu
  go_enter Try.func11, Try.ntmps11
  go_wp2
  have HS : Hid (SwR w b 0 (some ⟨b, 0, none⟩) 0 L us 0 (w.alloc (.cells #[] 9))) := by
    refine Lib.hid ⟨?_, rfl, by simp [HB.out], (Below.refl _ _).alloc (Nat.le_refl _) _⟩
    rw [HB.out]
    exact Tx.mk' (World.ownsRow_lit w #[] 0 (Nat.le_refl _) (by unfold maxLen; omega) rfl)
  rw [← HB.out] at ⊢
  generalize w.alloc (.cells #[] 9) = w1 at HS ⊢
  go_loopw [5, 6, 7] (fun o e k wr => ∃ (i t c1 : Nat) (A1 : Option Addr), i ≤ n ∧ k = .int .i64 i ∧ e = .int .i64 t ∧ o = .slice A1 i c1 ∧ t ≤ i ∧ SwR w b i A1 c1 L us t wr) (fun _ _ k _ => n - (intOf k).toNat)
  case atStart => exact ⟨0, 0, 0, _, Nat.zero_le _, rfl, rfl, rfl, Nat.le_refl _, HS.out⟩
  case round =>
    obtain ⟨i, t, c1, A1, hi, rfl, rfl, rfl, hti, hS⟩ := hrel
    have HW := Lib.hid hS
    clear hS HS
    by_cases hlt : i < n
    · go_wp2
      go_loop [8, 9] (fun s q => ∃ k : Nat, k ≤ m ∧ q = .int .i64 k ∧ s = .bool (decide ((i : Int) + 1 ∈ us.take k))) (fun _ q => m - (intOf q).toNat)
      case atStart => exact ⟨0, Nat.zero_le _, rfl, by simp⟩
      case round =>
        obtain ⟨k, hk, rfl, rfl⟩ := hrel
        by_cases hkm : k < m
        · have hi2 := H.out.2.below HW.out.bel
          obtain ⟨ad, rfl⟩ : ∃ ad, A' = some ad := by obtain ⟨ad, e, _⟩ := hi2.at_ (by omega); exact ⟨ad, e⟩
          have hc := hi2.cell hkm
          have HT := Lib.hid (mem_take_snocZ (us := us) (k := k) (x := (i : Int) + 1) (by rw [H.out.2.len]; exact hkm))
          have hz := HU.out (us.getD k 0) (by rw [getD_lt (by rw [H.out.2.len]; exact hkm)]; exact List.getElem_mem _)
          clear hi2
          generalize us.getD k 0 = z at hc HT hz
          have hz0 := hz.1
          have hz1 := hz.2
          clear hz
          obtain ⟨B, hB⟩ : ∃ B, decide ((i : Int) + 1 ∈ us.take k) = B := ⟨_, rfl⟩
          rw [hB]
          have HBB := Lib.hid hB
          clear hB
          cases B
          · obtain ⟨D, hD⟩ : ∃ D, (z == (i : Int) + 1) = D := ⟨_, rfl⟩
            have HD : Hid (decide ((i : Int) + 1 ∈ us.take (k + 1)) = D) := Lib.hid (by
              have h1 := of_decide_eq_false HBB.out
              rw [← hD, Bool.eq_iff_iff, decide_eq_true_eq, HT.out, beq_iff_eq]
              exact ⟨fun x => x.resolve_left h1, Or.inr⟩)
            go_wp2
            go_round
            case rel => exact ⟨k + 1, by omega, by go_num, by rw [HD.out]⟩
            case measure => simp [intOf]; omega
          · have HD : Hid (decide ((i : Int) + 1 ∈ us.take (k + 1)) = true) := Lib.hid (by
              rw [decide_eq_true_eq, HT.out]
              exact Or.inl (of_decide_eq_true HBB.out))
            go_wp2
            go_round
            case rel => exact ⟨k + 1, by omega, by go_num, by rw [HD.out]⟩
            case measure => simp [intOf]; omega
        · have e : us.take k = us := List.take_of_length_le (by rw [H.out.2.len]; omega)
          rw [e]
          clear e
          have HL : Hid (i < L.length) := Lib.hid (by rw [H.out.1.len]; exact hlt)
          have HY := Lib.hid (sweepM_at (t := L) (used := us) HL.out)
          obtain ⟨B, hB⟩ : ∃ B, decide ((i : Int) + 1 ∈ us) = B := ⟨_, rfl⟩
          rw [hB]
          have HBB := Lib.hid hB
          clear hB
          have happ := fun (y : ByteArray) => HW.out.tx.below ((Below.refl _ wr).alloc (Nat.le_refl _) (.cells #[.string y] 9))
          have HA := Lib.hid happ
          clear happ
          cases B
          · have HE : Hid (sAt (sweepM L us) i = eT) := Lib.hid (HY.out.trans (if_neg (of_decide_eq_false HBB.out)))
            have he := emp_yes (rfl : eT = eT)
            go_wp2_with (at_builtin; refine wpList_appT _ rfl _ _ rfl b A1 i c1 _ rfl (HA.out eT) (some ⟨wr.heap.size, 0, none⟩) 1 1 (i + 1) rfl [eT] rfl (litT wr eT) (by omega) (by have := HW.out.ge; simp; omega) ?_; intro A2 c2 w3 hown hg3)
            have HN := Lib.hid (HW.out.step HL.out HB.out HE.out (t' := t) (by rw [if_pos rfl]) hown hg3)
            clear hown hg3
            go_wp2_with fail
            go_roundw
            case rel => exact ⟨i + 1, t, c2, A2, by omega, by go_num, rfl, rfl, by omega, HN.out⟩
            case measure => simp [intOf]; omega
          · have hv := H.out.1.below HW.out.bel
            obtain ⟨ad, rfl⟩ := hv.addr (by omega)
            have hc := hv.str hlt
            have HE : Hid (sAt (sweepM L us) i = sAt L i) := Lib.hid (HY.out.trans (if_pos (of_decide_eq_true HBB.out)))
            clear hv
            generalize sAt L i = x at hc HE
            by_cases hx : x = eT
            · have he := emp_yes hx
              have HX := Lib.hid hx
              clear hx
              go_wp2_with (at_builtin; refine wpList_appT _ rfl _ _ rfl b A1 i c1 _ rfl (HA.out x) (some ⟨wr.heap.size, 0, none⟩) 1 1 (i + 1) rfl [x] rfl (litT wr x) (by omega) (by have := HW.out.ge; simp; omega) ?_; intro A2 c2 w3 hown hg3)
              have HN := Lib.hid (HW.out.step HL.out HB.out HE.out (t' := t) (by rw [if_pos HX.out]) hown hg3)
              clear hown hg3
              go_wp2_with fail
              go_roundw
              case rel => exact ⟨i + 1, t, c2, A2, by omega, by go_num, rfl, rfl, by omega, HN.out⟩
              case measure => simp [intOf]; omega
            · have he := emp_no hx
              have HX := Lib.hid hx
              clear hx
              go_wp2_with (at_builtin; refine wpList_appT _ rfl _ _ rfl b A1 i c1 _ rfl (HA.out x) (some ⟨wr.heap.size, 0, none⟩) 1 1 (i + 1) rfl [x] rfl (litT wr x) (by omega) (by have := HW.out.ge; simp; omega) ?_; intro A2 c2 w3 hown hg3)
              have HN := Lib.hid (HW.out.step HL.out HB.out HE.out (t' := i + 1) (by rw [if_neg HX.out]) hown hg3)
              clear hown hg3
              go_wp2_with fail
              go_roundw
              case rel => exact ⟨i + 1, i + 1, c2, A2, by omega, by go_num, by go_num, rfl, by omega, HN.out⟩
              case measure => simp [intOf]; omega
    · obtain rfl : i = n := by omega
      have X : TxEnd (sweepS L us) w (.returned (.slice A1 t c1)) wr := by
        have h1 := HW.out.tx.front (k := t) hti
        have h2 := HW.out.last
        have e : (sweepM L us).take i = sweepM L us := List.take_of_length_le (by rw [sweepM_len, H.out.1.len]; exact Nat.le_refl _)
        rw [e] at h1 h2
        rw [h2] at h1 ⊢
        rw [HB.out] at h1
        exact ⟨_, rfl, h1.post HW.out.bel⟩
      have hle : i ≤ c1 := HW.out.tx.le
      go_wp2_with fail
      go_ret
      exact X
end Go.Proofs.Ytbjgjhhombalpaa
