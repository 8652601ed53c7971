/-
  The contract of the reference's Padded.
-/
import Derived.Test.YtogaakokplobaaaDoorShaPts
import Derived.Test.YtogaakokplobaaaDoorWireLeaf
namespace Go.Proofs.YtogaakokplobaaaDoor
open Go.RowKit

/-- append of one byte onto a row of the call's own. -/
theorem wpList_appb {ops : Array Oper} {rest : List Oper} {o : Oper} {a : Act} {Q : Exit → Act → World → Prop} (hgd : o.guard = none) (s x : Operand)
    (ho : o.op = .call { callee := .builtin .append, args := #[s, x], argTypes := #[22, 22] })
    (w wr : World) (A : Option Addr) (n c : Nat) (l : List Int) (hown : wr.ownsRow w.heap.size 5 1 (.slice A n c) n (l.map (Value.int .u8))) (hbel : Below w.heap.size w wr) (z : Int) (hn : n ≤ 70368744177664)
    (hs : a.eval s = .slice A n c) (hx : a.eval x = .slice (some ⟨wr.heap.size, 0, none⟩) 1 1)
    (h : ∀ A' c' w', w'.ownsRow w.heap.size 5 1 (.slice A' (n + 1) c') (n + 1) ((l ++ [z]).map (Value.int .u8)) → Below w.heap.size w w' → wpList Tryd.prog ops Q rest (a.put o.dst (.slice A' (n + 1) c')) w') :
    wpList Tryd.prog ops Q (o :: rest) a (wr.alloc (.cells #[.int .u8 z] 5)) := by
  refine wpList_app _ hgd s x 22 ho w.heap.size 5 Tryd.underlying22 info8 (.slice A n c) n _ hs (hown.alloc _) (some ⟨wr.heap.size, 0, none⟩) 1 1 [z] hx (Sb.one wr 5 z) (by omega) (by have := hbel.size; simp; omega) ?_
  intro A' c' w1 hown1 hg
  rw [← List.map_append] at hown1
  exact h A' c' w1 hown1 (below_app hown hbel hbel.size _ hg)

set_option maxRecDepth 100000 in
set_option maxHeartbeats 800000 in
theorem refPadded_any {A : Option Addr} {n c : Nat} {zs : List Int} (w : World) (hs : Sb w A n zs) (hn : n ≤ 1125899906842) :
    Calls Tryd.prog 54 #[.slice A n c] w fun e w' => ∃ v, e = .returned v ∧ ∃ A' n' c', v = .slice A' n' c' ∧ w'.ownsRow w.heap.size 5 1 (.slice A' n' c') n' ((padS zs).map (Value.int .u8)) ∧ Below w.heap.size w w' := by
  obtain ⟨i0, hi, hz0, hz1, hz2⟩ := info_parts info8
  have H := Lib.hid (And.intro hs hs.len)
  clear hs
  go_enter Tryd.func54, Tryd.ntmps54
  go_wp2_with (first
    | (at_make; refine wpList_make_full _ rfl _ _ 22 rfl w.heap.size 5 i0 (.int .u8 0) 1 Tryd.underlying22 hi hz0 hz1 .i64 .i64 (n : Int) (n : Int) n rfl rfl rfl rfl (by rw [hz2]; omega) (by unfold maxLen; omega) (Nat.le_refl _) ?_; intro w1 hown hg)
    | (with_reducible refine wpList_cpy rfl (.tmp 9) (.tmp 10) 22 rfl w.heap.size 5 Tryd.underlying22 size8 w.heap.size n c A rfl rfl _ hown zs (H.out.1.below (Below.grown (Below.refl _ _) hg (Nat.le_refl _) (by intro k hk; cases hk))) ?_; intro w2 hown2 hb2; have X2 := Lib.hid (show w2.ownsRow w.heap.size 5 1 (.slice (some ⟨w.heap.size, 0, none⟩) n n) n (zs.map (Value.int .u8)) ∧ Below w.heap.size w w2 from ⟨hown2, ((Below.refl _ _).grown hg (Nat.le_refl _) (by intro k hk; cases hk)).trans hb2⟩); clear hown2 hb2 hown hg)
    | (refine wpList_appb rfl (.tmp 12) (.tmp 13) rfl w w2 _ n n zs X2.out.1 X2.out.2 128 (by omega) rfl rfl ?_; intro A3 c3 w3 hown3 hb3; have X3 := Lib.hid (And.intro hown3 hb3); clear hown3 hb3))
  go_loopw [3] (fun v3 wr => ∃ (m c4 : Nat) (A4 : Option Addr), n + 1 ≤ m ∧ m ≤ n + 1 + (119 - n % 64) % 64 ∧ v3 = .slice A4 m c4 ∧ wr.ownsRow w.heap.size 5 1 (.slice A4 m c4) m ((zs ++ 128 :: List.replicate (m - (n + 1)) 0).map (Value.int .u8)) ∧ Below w.heap.size w wr) (fun v3 _ => n + 100 - lenOf v3)
  case atStart =>
    refine ⟨n + 1, c3, A3, Nat.le_refl _, by omega, rfl, ?_, X3.out.2⟩
    have h1 := X3.out.1
    rw [Nat.sub_self]
    exact h1
  case round =>
    clear X2 X3
    obtain ⟨m, c4, A4, hm1, hm2, rfl, hown, hbel⟩ := hrel
    have X := Lib.hid (And.intro hown hbel)
    have HM := Lib.hid (And.intro hm1 hm2)
    clear hown hbel
    have hmb : m ≤ 2251799813685 := by omega
    by_cases hlt : m < n + 1 + (119 - n % 64) % 64
    · have hd : (((m : Int) + 8) % 64 != 0) = true := by rw [bne_iff_ne]; omega
      have HL := Lib.hid hlt
      clear hm1 hm2 hlt
      go_wp2_with (refine wpList_appb rfl (.tmp 20) (.tmp 21) rfl w wr A4 m c4 _ X.out.1 X.out.2 0 (by omega) rfl rfl ?_; intro A5 c5 w5 hown5 hb5; have X5 := Lib.hid (And.intro hown5 hb5); clear hown5 hb5)
      go_roundw
      case rel =>
        have h1 := HM.out
        have h2 := HL.out
        refine ⟨m + 1, c5, A5, by omega, by omega, rfl, ?_, X5.out.2⟩
        have h3 := X5.out.1
        have e : zs ++ 128 :: List.replicate (m - (n + 1)) 0 ++ [0] = zs ++ 128 :: List.replicate (m + 1 - (n + 1)) (0 : Int) := by
          have e2 : m + 1 - (n + 1) = (m - (n + 1)) + 1 := by omega
          rw [e2, List.replicate_succ']
          simp
        rw [e] at h3
        exact h3
      case measure =>
        have h1 := HM.out
        show n + 100 - (m + 1) < n + 100 - m
        omega
    · have hd : (((m : Int) + 8) % 64 != 0) = false := by rw [bne_eq_false_iff_eq]; omega
      have HE := Lib.hid (show m = n + 1 + (119 - n % 64) % 64 by omega)
      obtain ⟨pre, hpre⟩ : ∃ pre, pre = zs ++ 128 :: List.replicate (m - (n + 1)) (0 : Int) := ⟨_, rfl⟩
      rw [← hpre] at X
      have HP := Lib.hid hpre
      clear hm1 hm2 hlt hpre
      go_wp2_with fail
      clear hd
      go_loopw [3, 5] (fun v3 i wq => ∃ (j c5 : Nat) (A5 : Option Addr), j ≤ 8 ∧ i = .int .i64 j ∧ v3 = .slice A5 (m + j) c5 ∧ wq.ownsRow w.heap.size 5 1 (.slice A5 (m + j) c5) (m + j) ((pre ++ (lenB n).take j).map (Value.int .u8)) ∧ Below w.heap.size w wq) (fun _ i _ => 8 - (intOf i).toNat)
      case atStart =>
        refine ⟨0, c4, A4, by omega, rfl, rfl, ?_, X.out.2⟩
        rw [List.take_zero, List.append_nil]
        exact X.out.1
      case round =>
        clear X
        obtain ⟨j, c5, A5, hj, rfl, rfl, hown, hbel⟩ := hrel
        have Y := Lib.hid (And.intro hown hbel)
        clear hown hbel
        by_cases hlt : j < 8
        · have hjl : (j : Int) < 8 := by omega
          go_wp2_with (refine wpList_appb rfl (.tmp 31) (.tmp 39) rfl w wr A5 (m + j) c5 _ Y.out.1 Y.out.2 _ (by omega) rfl rfl ?_; intro A6 c6 w6 hown6 hb6; have X6 := Lib.hid (And.intro hown6 hb6); clear hown6 hb6)
          go_roundw
          case rel =>
            refine ⟨j + 1, c6, A6, by omega, by go_num, rfl, ?_, X6.out.2⟩
            have h3 := X6.out.1
            have e : pre ++ (lenB n).take j ++ [(n : Int) * 8 / 2 ^ (56 - 8 * j) % 256] = pre ++ (lenB n).take (j + 1) := by
              rw [List.take_succ_eq_append_getElem (by rw [lenB_len]; exact hlt), List.append_assoc]
              have h4 := lenB_at n j hlt
              rw [getD_of (by rw [lenB_len]; exact hlt)] at h4
              rw [h4, Int.mul_comm]
            rw [e] at h3
            exact h3
          case measure => simp [intOf]; omega
        · obtain rfl : j = 8 := by omega
          have Z := Lib.hid (show wr.ownsRow w.heap.size 5 1 (.slice A5 (m + 8) c5) (m + 8) ((padS zs).map (Value.int .u8)) ∧ Below w.heap.size w wr from by
            refine ⟨?_, Y.out.2⟩
            have h1 := Y.out.1
            rw [List.take_of_length_le (by rw [lenB_len]; omega), HP.out, HE.out] at h1
            have e : padS zs = zs ++ 128 :: List.replicate (n + 1 + (119 - n % 64) % 64 - (n + 1)) 0 ++ lenB n := by
              unfold padS
              have e2 : n + 1 + (119 - n % 64) % 64 - (n + 1) = (119 - n % 64) % 64 := by omega
              rw [H.out.2, e2]
            rw [e, HE.out]
            exact h1)
          clear Y hlt hj
          go_wp2_with fail
          go_ret
          exact ⟨_, rfl, A5, m + 8, c5, rfl, Z.out⟩
end Go.Proofs.YtogaakokplobaaaDoor
