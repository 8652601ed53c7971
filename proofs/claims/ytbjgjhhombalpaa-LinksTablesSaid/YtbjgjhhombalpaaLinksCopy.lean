/-
  Slices of texts copied (the code's and the reference's), and held against each other.
-/
import Derived.Test.YtbjgjhhombalpaaLinksMem
import Derived.LoopTactic
namespace Go.Proofs.Ytbjgjhhombalpaa
open Go.RowKit

theorem retBM {a b : Bool} (h : a = b) : Ending.returned (.bool a) = .returned (.bool b) := by rw [h]
/-- A call that answers a slice of texts of its own. -/
def TxEnd (L : List ByteArray) (w : World) (e : Ending) (w' : World) : Prop := ∃ v, e = .returned v ∧ TxPost L w v w'

theorem cloneT_any {w : World} {A : Option Addr} {n c : Nat} {L : List ByteArray} (h : Vs stV w A n L) (hn : n ≤ 1000000) :
    Calls Try.prog 27 #[.slice A n c] w (TxEnd L w) := by
  have hrun := fun (w : World) => Lib.run_eql_slice_nil (P := Try.prog) w 23 9 A n c 0 0 Try.underlying23
  cases A with
  | none =>
    have H0 : Hid (n = 0) := Lib.hid (by
      rcases Nat.eq_zero_or_pos n with h0 | h0
      · exact h0
      · obtain ⟨ad, e⟩ := h.addr h0; cases e)
    have X : TxEnd L w (.returned (.slice none 0 0)) w := by
      obtain rfl : L = [] := List.eq_nil_of_length_eq_zero (h.len.trans H0.out)
      exact ⟨_, rfl, (Tx.nil _ _).post (Below.refl _ _)⟩
    clear h
    go_enter Try.func27, Try.ntmps27
    go_wp2_with fail
    go_ret
    exact X
  | some ad =>
    have H := Lib.hid (h.alloc (.cells #[] 9))
    clear h
    go_enter Try.func27, Try.ntmps27
    go_wp2_with (at_builtin; refine wpList_appT _ rfl _ _ rfl w.heap.size (some ⟨w.heap.size, 0, none⟩) 0 0 [] rfl (Tx.mk' (World.ownsRow_lit w #[] 0 (Nat.le_refl _) (by unfold maxLen; omega) rfl)) (some ad) n c n (by omega) L rfl H.out hn (by simp) ?_; intro A' c' w1 hown hg)
    have X : TxEnd L w (.returned (.slice A' n c')) w1 := ⟨_, rfl, hown.post (((Below.refl _ _).alloc (Nat.le_refl _) _).grown hg (by simp) (by intro k hk; have : w.heap.size = k := (by simpa [Value.ownBlock] using hk); omega))⟩
    clear hown hg
    go_ret
    exact X

theorem copyT_any {w : World} {A : Option Addr} {n c : Nat} {L : List ByteArray} (h : Vs stV w A n L) (hn : n ≤ 1000000) :
    Calls Try.prog 9 #[.slice A n c] w (TxEnd L w) := by
  have hmk := make_texts n hn
  have H := Lib.hid (And.intro (h.alloc (.cells (rowV stV (List.replicate n eT)).toArray 9)) (Tx.made w n hn))
  clear h
  go_enter Try.func9, Try.ntmps9
  go_wp2_with (refine wpList_cpyT rfl (.tmp 7) (.tmp 8) rfl w.heap.size w.heap.size n c A rfl rfl _ H.out.2 L H.out.1 ?_; intro w1 hown hb)
  have X : TxEnd L w (.returned (.slice (some ⟨w.heap.size, 0, none⟩) n n)) w1 := ⟨_, rfl, hown.post (((Below.refl _ _).alloc (Nat.le_refl _) _).trans hb)⟩
  clear hown hb
  go_wp2_with fail
  go_ret
  exact X

theorem take_snocS {xs ys : List ByteArray} {k : Nat} (h1 : k < xs.length) (h2 : k < ys.length) : (xs.take (k + 1) = ys.take (k + 1)) ↔ (xs.take k = ys.take k ∧ sAt xs k = sAt ys k) := by
  rw [take_snocT h1, take_snocT h2]
  constructor
  · intro h
    have h3 := List.append_inj h (by simp; omega)
    exact ⟨h3.1, by simpa using h3.2⟩
  · rintro ⟨e1, e2⟩
    rw [e1, e2]
set_option maxHeartbeats 800000 in
theorem sameT_any {w : World} {A A' : Option Addr} {n n' c c' : Nat} {xs ys : List ByteArray} (h : Vs stV w A n xs) (h' : Vs stV w A' n' ys) (hn : n ≤ 140737488351232) (hn' : n' ≤ 9223372036854775807) :
    Calls Try.prog 12 #[.slice A n c, .slice A' n' c'] w fun e w' => e = .returned (.bool (decide (xs = ys))) ∧ ∃ q, w' = w.drewN q := by
  by_cases hne : n = n'
  · subst hne
    have H := Lib.hid (And.intro h h')
    clear h h' hn'
    go_enter Try.func12, Try.ntmps12
    go_wp2
    go_loopw [13] (fun i wr => ∃ k q : Nat, k ≤ n ∧ i = .int .i64 k ∧ xs.take k = ys.take k ∧ wr = w.drewN q) (fun i _ => n - (intOf i).toNat)
    case atStart => exact ⟨0, 0, Nat.zero_le _, rfl, by simp, rfl⟩
    case round =>
      obtain ⟨k, q, hk, rfl, hx, rfl⟩ := hrel
      have HX := Lib.hid hx
      clear hx
      by_cases hlt : k < n
      · obtain ⟨ad, rfl⟩ := H.out.1.addr (by omega)
        obtain ⟨ad', rfl⟩ := H.out.2.addr (by omega)
        have a0 := H.out.1.str hlt
        have b0 := H.out.2.str hlt
        have HT := Lib.hid (take_snocS (xs := xs) (ys := ys) (k := k) (by rw [H.out.1.len]; exact hlt) (by rw [H.out.2.len]; exact hlt))
        generalize sAt xs k = x at a0 HT
        generalize sAt ys k = y at b0 HT
        obtain ⟨B, hB⟩ : ∃ B, (x.toList == y.toList) = B := ⟨_, rfl⟩
        cases B
        · have HD : Hid (decide (xs = ys) = false) := Lib.hid (by
            rw [decide_eq_false_iff_not]
            rintro rfl
            exact (eqBB_no hB) (HT.out.1 rfl).2)
          go_wp2
          go_quiet (fail)
          go_wp2
          go_ret
          exact ⟨retBM HD.out.symm, q + nq, by simp [World.drewN, Nat.add_assoc]⟩
        · have HTT := Lib.hid (HT.out.2 ⟨HX.out, eqBB_yes hB⟩)
          clear HT
          go_wp2
          go_quiet (fail)
          go_wp2
          go_roundw
          case rel => exact ⟨k + 1, q + nq, by omega, by go_num, HTT.out, rfl⟩
          case measure => simp [intOf]; omega
      · have HD : Hid (decide (xs = ys) = true) := Lib.hid (by
          have e1 := HX.out
          rw [List.take_of_length_le (by rw [H.out.1.len]; omega), List.take_of_length_le (by rw [H.out.2.len]; omega)] at e1
          simpa using e1)
        go_wp2
        go_ret
        exact ⟨retBM HD.out.symm, q, rfl⟩
  · have HD : Hid (decide (xs = ys) = false) := Lib.hid (by
      rw [decide_eq_false_iff_not]
      rintro rfl
      exact hne (h.len.symm.trans h'.len))
    have hne' : ¬ ((n : Int) = (n' : Int)) := by omega
    clear h h'
    go_enter Try.func12, Try.ntmps12
    go_wp2
    go_ret
    exact ⟨retBM HD.out.symm, 0, rfl⟩
end Go.Proofs.Ytbjgjhhombalpaa
