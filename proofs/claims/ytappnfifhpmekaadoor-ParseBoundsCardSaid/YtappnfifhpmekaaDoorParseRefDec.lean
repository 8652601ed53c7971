/-
  A number's digits: the reference's decimal; and bytes appended to a row of the call's own.
-/
import Derived.Test.YtappnfifhpmekaaDoorParseMem
import Derived.Test.YtappnfifhpmekaaDoorWireLeaf
import Derived.LoopTactic
namespace Go.Proofs.YtappnfifhpmekaaDoor
open Go.RowKit

/-- A slice of bytes in memory of the call's own. -/
structure By (base : Nat) (w : World) (A : Option Addr) (n c : Nat) (zs : List Int) : Prop where
  len : zs.length = n
  le : n ≤ c
  max : c ≤ maxLen
  own : w.ownsRow base 5 1 (.slice A n c) n (zs.map (Value.int .u8))
section
variable {base : Nat} {w w' : World} {A : Option Addr} {n c : Nat} {zs : List Int}

theorem By.mk' (h : w.ownsRow base 5 1 (.slice A n c) n (zs.map (Value.int .u8))) : By base w A n c zs := by
  obtain ⟨A', c', e, h1, h2⟩ := own_shape h
  injection e with e1 e2 e3
  subst e1 e3
  exact ⟨by have := h.1; simpa using this, h1, h2, h⟩
theorem By.sb (h : By base w A n c zs) : Sb w A n zs := Sb.own h.own
theorem By.lower {B : Nat} (h : By base w A n c zs) (hB : B ≤ base) : By B w A n c zs := ⟨h.len, h.le, h.max, own_base h.own hB⟩
theorem By.keep (h : By base w A n c zs) (hs : ∀ g, base ≤ g → g < w.heap.size → w'.heap[g]? = w.heap[g]?) : By base w' A n c zs := by
  refine ⟨h.len, h.le, h.max, h.own.1, ?_⟩
  rcases h.own.2 with h1 | ⟨g, cap, cur, hv, hb, hg, hr⟩
  · exact .inl h1
  · exact .inr ⟨g, cap, cur, hv, hb, (hs g hb (Array.getElem?_eq_some_iff.1 hg).1).trans hg, hr⟩
theorem By.below (h : By base w A n c zs) (hb : Below w.heap.size w w') : By base w' A n c zs := h.keep fun g _ hg => hb.block g hg
theorem By.ownB (h : By base w A n c zs) : ∀ k, (Value.slice A n c).ownBlock = some k → base ≤ k := by
  intro k hk
  rcases h.own.2 with ⟨h1, _⟩ | ⟨g, cap, cur, hv, hb, _⟩
  · rw [h1] at hk; cases hk
  · rw [hv] at hk
    injection hk with hk
    rw [← hk]
    exact hb
theorem By.lit (w : World) (zs : List Int) (n : Nat) (cs : Array Value) (hc : cs.toList = zs.map (Value.int .u8)) (hl : zs.length = n) (hm : n ≤ 1000) : By w.heap.size (w.alloc (.cells cs 5)) (some ⟨w.heap.size, 0, none⟩) n n zs := by
  refine By.mk' ?_
  rw [← hc]
  exact World.ownsRow_lit w cs n (Nat.le_refl _) (by unfold maxLen; omega) (by have := congrArg List.length hc; simp at this; omega)
end

/-- append onto a slice of bytes of the call's own. -/
theorem wpList_appB (w : World) {ops : Array Oper} {rest : List Oper} {o : Oper} {a : Act} {Q : Exit → Act → World → Prop} (hgd : o.guard = none) (s x : Operand)
    (ho : o.op = .call { callee := .builtin .append, args := #[s, x], argTypes := #[23, 23] }) (base : Nat)
    (A0 : Option Addr) (n c0 : Nat) (L : List Int) (hs : a.eval s = .slice A0 n c0) (hown : By base w A0 n c0 L)
    (A : Option Addr) (m c k : Nat) (hk : n + m = k) (M : List Int) (hx : a.eval x = .slice A m c) (hr : Sb w A m M) (h63 : k ≤ 140737488355328) (hbase : base ≤ w.heap.size)
    (h : ∀ A' c' w', By base w' A' k c' (L ++ M) → w.grownBy w' (Value.slice A0 n c0).ownBlock → wpList Tryd.prog ops Q rest (a.put o.dst (.slice A' k c')) w') : wpList Tryd.prog ops Q (o :: rest) a w := by
  subst hk
  exact wpList_app w hgd s x _ ho base 5 Tryd.underlying23 info8 _ n _ hs hown.own A m c M hx hr h63 hbase fun A' c' w' h1 h2 => h A' c' w' (By.mk' (by rw [List.map_append]; exact h1)) h2

/-- What stands ahead of the last digit. -/
def decPre (m : Int) : List Int := if m = 0 then [] else decS4 m
theorem dec_split {m : Int} (h0 : 0 ≤ m) (h1 : m ≤ 9999) : decS4 m = decPre (m / 10) ++ [48 + m % 10] := by
  unfold decPre decS4
  by_cases g1 : m < 10
  · rw [if_pos g1, if_pos (by omega), show m % 10 = m by omega]; rfl
  rw [if_neg g1, if_neg (show ¬ m / 10 = 0 by omega)]
  by_cases g2 : m < 100
  · rw [if_pos g2, if_pos (by omega)]; rfl
  rw [if_neg g2, if_neg (show ¬ m / 10 < 10 by omega)]
  by_cases g3 : m < 1000
  · rw [if_pos g3, if_pos (by omega), show m / 10 / 10 = m / 100 by omega]; rfl
  rw [if_neg g3, if_neg (show ¬ m / 10 < 100 by omega), if_pos (by omega), show m / 10 / 100 = m / 1000 by omega, show m / 10 / 10 % 10 = m / 100 % 10 by omega]
  rfl
theorem decS4_len (m : Int) : 1 ≤ (decS4 m).length ∧ (decS4 m).length ≤ 4 := by
  unfold decS4
  split
  · simp
  · split
    · simp
    · split <;> simp
/-- What decimal answers: bytes. -/
def ByEnd (zs : List Int) (w : World) (e : Ending) (w' : World) : Prop := ∃ A c, e = .returned (.slice A zs.length c) ∧ Sb w' A zs.length zs ∧ Below w.heap.size w w'
set_option maxHeartbeats 1600000 in
theorem decimal_any (n : Int) (w : World) (h0 : -9223372036854775808 ≤ n) (h1 : n ≤ 9223372036854775807) :
    Calls Tryd.prog 25 #[.int .i64 n] w (ByEnd (if 0 ≤ n ∧ n ≤ 9999 then decS4 n else []) w) := by
  by_cases hc : 0 ≤ n ∧ n ≤ 9999
  · rw [if_pos hc]
    obtain ⟨h2, h3⟩ := hc
    clear h0 h1
    have HS := Lib.hid (dec_split h2 h3)
    obtain ⟨b, hb⟩ : ∃ b, b = w.heap.size := ⟨_, rfl⟩
    have HB := Lib.hid hb
    clear hb
    obtain ⟨m0, hm0⟩ : ∃ m, n / 10 = m := ⟨_, rfl⟩
    obtain ⟨d0, hd0⟩ : ∃ d, n % 10 = d := ⟨_, rfl⟩
    have t1 : n.tdiv 10 = m0 := by rw [Int.tdiv_eq_ediv_of_nonneg h2]; exact hm0
    have t2 : n.tmod 10 = d0 := by rw [Int.tmod_eq_emod_of_nonneg h2]; exact hd0
    have b1 : 0 ≤ m0 := by omega
    have b2 : m0 ≤ 999 := by omega
    have b3 : 0 ≤ d0 := by omega
    have b4 : d0 ≤ 9 := by omega
    have HM := Lib.hid (And.intro hm0 hd0)
    go_enter Tryd.func25, Tryd.ntmps25
    go_wp2
    rw [← HB.out]
    have H0 : Hid (decS4 n = decPre m0 ++ [48 + d0] ∧ Sb (w.alloc (.cells #[.int .u8 (48 + d0)] 5)) (some ⟨b, 0, none⟩) 1 [48 + d0] ∧ Below w.heap.size w (w.alloc (.cells #[.int .u8 (48 + d0)] 5))) := Lib.hid (by
      rw [HB.out]
      exact ⟨by rw [HS.out, HM.out.1, HM.out.2], Sb.one w _ _, (Below.refl _ _).alloc (Nat.le_refl _) _⟩)
    clear HM HS t1 t2
    generalize w.alloc (.cells #[.int .u8 (48 + d0)] 5) = w1 at H0 ⊢
    go_loopw [0, 3] (fun a o wr => ∃ (m : Int) (A : Option Addr) (l c : Nat) (zs : List Int), a = .int .i64 m ∧ 0 ≤ m ∧ m ≤ 999 ∧ o = .slice A l c ∧ decS4 n = decPre m ++ zs ∧ Sb wr A l zs ∧ Below w.heap.size w wr) (fun a _ _ => (intOf a).toNat)
    case atStart => exact ⟨m0, _, 1, 1, [48 + d0], rfl, b1, b2, rfl, H0.out.1, H0.out.2.1, H0.out.2.2⟩
    case round =>
      obtain ⟨m, A, l, c, zs, rfl, c0, c1, rfl, hz, hsb, hbl⟩ := hrel
      have Y := Lib.hid (And.intro hz (And.intro hsb hbl))
      clear hz hsb hbl H0
      by_cases hm : 0 < m
      · obtain ⟨m1, hm1⟩ : ∃ m1, m / 10 = m1 := ⟨_, rfl⟩
        obtain ⟨d1, hd1⟩ : ∃ d1, m % 10 = d1 := ⟨_, rfl⟩
        have t1 : m.tdiv 10 = m1 := by rw [Int.tdiv_eq_ediv_of_nonneg c0]; exact hm1
        have t2 : m.tmod 10 = d1 := by rw [Int.tmod_eq_emod_of_nonneg c0]; exact hd1
        have e1 : 0 ≤ m1 := by omega
        have e2 : m1 ≤ 999 := by omega
        have e3 : m1 < m := by omega
        have e4 : 0 ≤ d1 := by omega
        have e5 : d1 ≤ 9 := by omega
        have hl : l ≤ 4 := by
          have q1 := congrArg List.length Y.out.1
          have q2 := decS4_len n
          have q3 := Y.out.2.1.len
          rw [List.length_append] at q1
          omega
        have HN : Hid (decS4 n = decPre m1 ++ ([48 + d1] ++ zs)) := Lib.hid (by
          have q := Y.out.1
          have e : decPre m = decS4 m := by unfold decPre; rw [if_neg (by omega)]
          rw [e, dec_split c0 (by omega), hm1, hd1, List.append_assoc] at q
          exact q)
        have hlit := By.lit wr [48 + d1] 1 #[.int .u8 (48 + d1)] rfl rfl (by omega)
        have HL := Lib.hid hlit
        obtain ⟨l1, hl1⟩ : ∃ l1, 1 + l = l1 := ⟨_, rfl⟩
        have HL1 := Lib.hid hl1
        clear hlit hm1 hd1 hl1
        go_wp2_with (at_builtin; refine wpList_appB _ rfl _ _ rfl wr.heap.size (some ⟨wr.heap.size, 0, none⟩) 1 1 [48 + d1] rfl HL.out A l c l1 HL1.out zs rfl (Y.out.2.1.alloc _) (by have := HL1.out; omega) (by simp) ?_; intro A2 c2 w3 hown hg3)
        have HZ : Hid (Sb w3 A2 l1 ([48 + d1] ++ zs) ∧ Below w.heap.size w w3) := Lib.hid ⟨hown.sb, (Y.out.2.2.alloc Y.out.2.2.size _).grown hg3 (by have := Y.out.2.2.size; simp; omega) fun k hk => by have := HL.out.ownB k hk; have := Y.out.2.2.size; omega⟩
        clear hown hg3 t1 t2
        go_wp2_with fail
        go_roundw
        case rel => exact ⟨m1, A2, l1, c2, _, rfl, e1, e2, rfl, HN.out, HZ.out.1, HZ.out.2⟩
        case measure => simp [intOf]; omega
      · have e : m = 0 := by omega
        have X : ByEnd (decS4 n) w (.returned (.slice A l c)) wr := by
          have q := Y.out.1
          rw [e, show decPre 0 = [] from rfl, List.nil_append] at q
          rw [q]
          obtain rfl := Y.out.2.1.len
          exact ⟨A, c, rfl, Y.out.2.1, Y.out.2.2⟩
        clear e
        go_wp2_with fail
        go_ret
        exact X
  · rw [if_neg hc]
    have X : ByEnd [] w (.returned (.slice none 0 0)) w := ⟨none, 0, rfl, Sb.nil _ _, Below.refl _ _⟩
    by_cases hn : n < 0
    · clear hc
      go_enter Tryd.func25, Tryd.ntmps25
      go_wp2
      go_ret
      exact X
    · have hg : 9999 < n := by omega
      clear hc
      go_enter Tryd.func25, Tryd.ntmps25
      go_wp2
      go_ret
      exact X
end Go.Proofs.YtappnfifhpmekaaDoor
