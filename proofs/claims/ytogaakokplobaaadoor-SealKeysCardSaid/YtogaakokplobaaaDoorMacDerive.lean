/-
  The contract of Derive: what is told lies in a row of the call's own, each piece apart from it.
-/
import Derived.Test.YtogaakokplobaaaDoorMacRefTold
import Derived.Test.YtogaakokplobaaaDoorMacCode
namespace Go.Proofs.YtogaakokplobaaaDoor
open Go.RowKit

/-- mac's length: a number's bytes. -/
theorem length_any (n : Nat) (w : World) (hn : n ≤ 140737488351232) : Calls Tryd.prog 39 #[.int .i64 n] w fun e w' => ∃ v, e = .returned v ∧ Made 5 (varL n) w v w' := by
  have H := Lib.hid (var_any (n : Int) w (by omega) (by omega))
  go_enter Tryd.func39, Tryd.ntmps39
  go_wp2_with fail
  refine H.out.mono ?_
  rintro e w1 ⟨v, rfl, hm⟩
  have HM := Lib.hid hm
  clear hm
  go_wp2_with fail
  go_ret
  exact ⟨_, rfl, HM.out⟩

/-- A row of the call's own of slices of bytes, each of which lies apart from the row. -/
structure Rw (wr : World) (base : Nat) (A : Option Addr) (n c : Nat) (xs : List Value) (L : List (List Int)) : Prop where
  own : wr.ownsRow base 22 1 (.slice A n c) n xs
  len : xs.length = L.length
  at_ : ∀ j, j < L.length → ∃ A' m c', xs[j]? = some (.slice A' m c') ∧ Sb wr A' m (L.getD j []) ∧ m ≤ c' ∧ c' ≤ 9223372036854775807 ∧ B8s (L.getD j []) ∧ (0 < m → A'.map (·.block) ≠ A.map (·.block))
section
variable {wr w' : World} {base : Nat} {A : Option Addr} {n c : Nat} {xs : List Value} {L : List (List Int)}

theorem Rw.below (h : Rw wr base A n c xs L) (hb : Below wr.heap.size wr w') : Rw w' base A n c xs L :=
  ⟨own_belowS h.own hb, h.len, fun j hj => by
    obtain ⟨A', m, c', h1, h2, h3⟩ := h.at_ j hj
    exact ⟨A', m, c', h1, h2.below hb, h3⟩⟩
theorem Rw.ps (h : Rw wr base A n c xs L) : Ps wr A n L := by
  have hl : L.length = n := by have h1 := h.own.1; have h2 := h.len; simp at h1; omega
  refine ⟨hl, fun hn => ?_⟩
  rcases h.own.2 with ⟨h3, h4⟩ | ⟨g, cap, cur, hv, hb', hg, hle, hm, hs, ht⟩
  · omega
  · injection hv with hA _ hc
    subst hA
    refine ⟨_, rfl, (Array.getElem?_eq_some_iff.1 hg).1, fun k hk => ?_⟩
    obtain ⟨A', m, c', e1, e2, e3, e4, e5, _⟩ := h.at_ k (by omega)
    refine ⟨A', m, c', ?_, e2, e3, e4, e5⟩
    rw [addHead, cell_of_row wr g k cur 22 (0, 0) hg]
    have h5 := e1
    rw [← ht, List.getElem?_take, if_pos (by omega)] at h5
    simpa using h5
/-- Two pieces more. -/
theorem Rw.two {B : Option Addr} {d : Nat} (h : Rw wr base A n c xs L) {A1 A2 : Option Addr} {m1 c1 m2 c2 : Nat} {z1 z2 : List Int}
    (ho : w'.ownsRow base 22 1 (.slice B (n + 2) d) (n + 2) (xs ++ [.slice A1 m1 c1, .slice A2 m2 c2])) (hg : wr.grownBy w' (Value.slice A n c).ownBlock)
    (hw : B.map (·.block) = (Value.slice A n c).ownBlock ∨ B.map (·.block) = some wr.heap.size)
    (h1 : Sb wr A1 m1 z1 ∧ m1 ≤ c1 ∧ c1 ≤ 9223372036854775807 ∧ B8s z1 ∧ (0 < m1 → A1.map (·.block) ≠ A.map (·.block)))
    (h2 : Sb wr A2 m2 z2 ∧ m2 ≤ c2 ∧ c2 ≤ 9223372036854775807 ∧ B8s z2 ∧ (0 < m2 → A2.map (·.block) ≠ A.map (·.block))) : Rw w' base B (n + 2) d (xs ++ [.slice A1 m1 c1, .slice A2 m2 c2]) (L ++ [z1, z2]) := by
  rw [mownBlock_map] at hg hw
  have key : ∀ {A' : Option Addr} {m c' : Nat} {z : List Int}, (Sb wr A' m z ∧ m ≤ c' ∧ c' ≤ 9223372036854775807 ∧ B8s z ∧ (0 < m → A'.map (·.block) ≠ A.map (·.block))) →
      Sb w' A' m z ∧ m ≤ c' ∧ c' ≤ 9223372036854775807 ∧ B8s z ∧ (0 < m → A'.map (·.block) ≠ B.map (·.block)) := by
    rintro A' m c' z ⟨e1, e2, e3, e4, e5⟩
    refine ⟨e1.grown hg fun ad had hm e => e5 hm (by rw [had]; exact e.symm), e2, e3, e4, fun hm e => ?_⟩
    obtain ⟨ad, had, hlt, _⟩ := e1.at_ hm
    rcases hw with hw | hw
    · exact e5 hm (e.trans hw)
    · rw [hw, had] at e
      simp at e
      omega
  have hlL := h.len
  refine ⟨ho, by simp [h.len], fun j hj => ?_⟩
  by_cases hlt : j < L.length
  · obtain ⟨A', m, c', e1, e2⟩ := h.at_ j hlt
    refine ⟨A', m, c', by rw [List.getElem?_append_left (by omega)]; exact e1, ?_⟩
    rw [getD_append_left hlt]
    exact key e2
  · simp at hj
    rw [getD_append_right (by omega)]
    have hj2 : j = L.length ∨ j = L.length + 1 := by omega
    rcases hj2 with rfl | rfl
    · exact ⟨A1, m1, c1, by rw [List.getElem?_append_right (by omega), hlL, Nat.sub_self]; rfl, by rw [Nat.sub_self]; exact key h1⟩
    · exact ⟨A2, m2, c2, by rw [List.getElem?_append_right (by omega), hlL, Nat.add_sub_cancel_left]; rfl, by rw [Nat.add_sub_cancel_left]; exact key h2⟩
end

/-- What is told, piece by piece. -/
def tellL (l : List Int) (L : List (List Int)) : List (List Int) := [varL l.length, l] ++ (L.map fun z => [varL z.length, z]).flatten
theorem tellL_flat (l : List Int) (L : List (List Int)) : (tellL l L).flatten = toldS l L := by
  have key : ∀ L : List (List Int), ((L.map fun z => [varL z.length, z]).flatten).flatten = (L.map fun z => varL z.length ++ z).flatten := by
    intro L
    induction L with
    | nil => rfl
    | cons z L ih =>
      simp only [List.map_cons, List.flatten_cons, List.flatten_append, ih]
      simp
  unfold tellL toldS
  rw [List.flatten_append, key]
  simp
theorem tellL_snoc (l : List Int) {L : List (List Int)} {j : Nat} (hj : j < L.length) : tellL l (L.take (j + 1)) = tellL l (L.take j) ++ [varL ((L.getD j []).length : Int), L.getD j []] := by
  unfold tellL
  rw [List.take_succ_eq_append_getElem hj, List.map_append, List.flatten_append]
  simp [List.getD, List.getElem?_eq_getElem hj]

set_option maxRecDepth 100000 in
set_option maxHeartbeats 3200000 in
theorem derive_any {A : Option Addr} {n c : Nat} {key : List Int} {s : ByteArray} {B : Option Addr} {m d : Nat} {L : List (List Int)} (w : World) (hr : Roots w) (hk : Sb w A n key) (h8 : B8s key) (hc : n ≤ c ∧ c ≤ 9223372036854775807) (hn : n ≤ 1125899906842)
    (hp : Ps w B m L) (hs : s.size ≤ 16384) (hl : m + L.flatten.length ≤ 16384) :
    Calls Tryd.prog 31 #[.slice A n c, .string s, .slice B m d] w fun e w' => e = .returned (.agg (u8A (macS key (toldS (strL s) L)))) ∧ Below w.heap.size w w' := by
  have H := Lib.hid (show Roots w ∧ Sb w A n key ∧ B8s key ∧ (n ≤ c ∧ c ≤ 9223372036854775807) ∧ Ps w B m L ∧ (toldS (strL s) L).length ≤ 200000 from ⟨hr, hk, h8, hc, hp, by
    have h1 := toldS_len (strL s) L
    have h2 := strL_len s
    have h3 := hp.len
    omega⟩)
  have HL := Lib.hid hl
  have hm0 : m ≤ 16384 := by omega
  clear hr hk h8 hc hp hl
  go_enter Tryd.func31, Tryd.ntmps31
  go_wp2_with fail
  obtain ⟨w0, hw0⟩ : ∃ w0, w0 = w.alloc (.cells (u8A (List.replicate 32 0)) 46) := ⟨_, rfl⟩
  have H0 : Hid (Blk w0 w.heap.size 46 (u8A (List.replicate 32 0)) ∧ Below w.heap.size w w0 ∧ w.heap.size < w0.heap.size) := by
    rw [hw0]
    exact Lib.hid ⟨Blk.new _ _ _, (Below.refl _ _).alloc (Nat.le_refl _) _, by simp⟩
  have hw0' : w0 = w.alloc (.cells #[Value.int .u8 0, Value.int .u8 0, Value.int .u8 0, Value.int .u8 0, Value.int .u8 0, Value.int .u8 0, Value.int .u8 0, Value.int .u8 0, Value.int .u8 0, Value.int .u8 0, Value.int .u8 0, Value.int .u8 0, Value.int .u8 0, Value.int .u8 0, Value.int .u8 0, Value.int .u8 0, Value.int .u8 0, Value.int .u8 0, Value.int .u8 0, Value.int .u8 0, Value.int .u8 0, Value.int .u8 0, Value.int .u8 0, Value.int .u8 0, Value.int .u8 0, Value.int .u8 0, Value.int .u8 0, Value.int .u8 0, Value.int .u8 0, Value.int .u8 0, Value.int .u8 0, Value.int .u8 0] 46) := hw0
  rw [← hw0']
  clear hw0 hw0'
  refine (length_any s.size w0 (by omega)).mono ?_
  rintro e w1 ⟨v, rfl, A1, n1, c1, rfl, hm1⟩
  have X1 := Lib.hid (show Below w0.heap.size w0 w1 ∧ Sb w1 A1 n1 (varL (s.size : Int)) ∧ (n1 ≤ c1 ∧ c1 ≤ 9223372036854775807) from
    ⟨hm1.below, hm1.sb, hm1.le, by have := hm1.max; unfold maxLen at this; omega⟩)
  clear hm1
  obtain ⟨c2, w2, hconv, hbel2, hsb2, hc2a, hc2b⟩ := strBytes w1 s (by omega)
  have X2 := Lib.hid (show Below w0.heap.size w0 w2 ∧ Sb w2 A1 n1 (varL (s.size : Int)) ∧ Sb w2 (some ⟨w1.heap.size, 0, none⟩) s.size (strL s) ∧ s.size ≤ c2 ∧ c2 ≤ 9223372036854775807 from
    ⟨X1.out.1.trans (hbel2.mono X1.out.1.size), X1.out.2.1.below hbel2, hsb2, hc2a, hc2b⟩)
  clear hbel2 hsb2 hc2a hc2b
  go_wp2_with fail
  go_loopw [7, 18] (fun v7 i wr => ∃ (j p c7 : Nat) (A7 : Option Addr) (xs : List Value), j ≤ m ∧ i = .int .i64 j ∧ v7 = .slice A7 p c7 ∧ p = 2 + 2 * j ∧ Rw wr w0.heap.size A7 p c7 xs (tellL (strL s) (L.take j)) ∧ Below w0.heap.size w0 wr) (fun _ i _ => m - (intOf i).toNat)
  case atStart =>
    have hsz := X2.out.1.size
    have hx : ∀ {A' : Option Addr} {m' : Nat} {z : List Int}, Sb w2 A' m' z → 0 < m' → A'.map (·.block) ≠ (some (⟨w2.heap.size, 0, none⟩ : Addr)).map (·.block) := by
      intro A' m' z h hm e
      obtain ⟨ad, rfl, hlt, _⟩ := h.at_ hm
      simp at e
      omega
    refine ⟨0, 2, 2, some ⟨w2.heap.size, 0, none⟩, [.slice A1 n1 c1, .slice (some ⟨w1.heap.size, 0, none⟩) s.size c2], Nat.zero_le _, rfl, rfl, rfl, ⟨World.ownsRow_lit w2 #[.slice A1 n1 c1, .slice (some ⟨w1.heap.size, 0, none⟩) s.size c2] 2 hsz (by unfold maxLen; omega) rfl, rfl, fun j hj => ?_⟩, X2.out.1.alloc hsz _⟩
    have hj2 : j = 0 ∨ j = 1 := by
      have : (tellL (strL s) (L.take 0)).length = 2 := rfl
      omega
    rcases hj2 with rfl | rfl
    · refine ⟨A1, n1, c1, rfl, ?_, X1.out.2.2.1, X1.out.2.2.2, ?_, hx X2.out.2.1⟩
      · show Sb _ _ _ (varL ((strL s).length : Int))
        rw [strL_len]
        exact X2.out.2.1.alloc _
      · exact varL_b ⟨by omega, by rw [strL_len]; omega⟩
    · exact ⟨some ⟨w1.heap.size, 0, none⟩, s.size, c2, rfl, X2.out.2.2.1.alloc _, X2.out.2.2.2.1, X2.out.2.2.2.2, strL_b s, hx X2.out.2.2.1⟩
  case round =>
    clear X1 X2 hconv
    obtain ⟨j, p, c7, A7, xs, hj, rfl, rfl, hpj, hrw, hbel⟩ := hrel
    have X := Lib.hid (show Rw wr w0.heap.size A7 p c7 xs (tellL (strL s) (L.take j)) ∧ Below w0.heap.size w0 wr ∧ Below w.heap.size w wr ∧ p = 2 + 2 * j from ⟨hrw, hbel, H0.out.2.1.trans (hbel.mono H0.out.2.1.size), hpj⟩)
    have hp9 : p ≤ 40000 := by omega
    clear hrw hbel hpj
    by_cases hlt : j < m
    · have hjl : (j : Int) < (m : Int) := by omega
      obtain ⟨ad, rfl, hblt, hat⟩ := H.out.2.2.2.2.1.at_ (by omega)
      obtain ⟨A', m', c', hc, hsb, hmc, hcm, hb8⟩ := hat j hlt
      have hjL : j < L.length := by rw [H.out.2.2.2.2.1.len]; exact hlt
      have hcell := (X.out.2.2.1.cell (p := ad.add j) (by rw [addBlock]; exact hblt)).trans hc
      have hm' : m' ≤ 16384 := by
        have h1 := flat_take hjL
        have h2 := flat_take_le L (j + 1)
        have h3 := HL.out
        have h4 := hsb.len
        omega
      have HS := Lib.hid (show Sb w A' m' (L.getD j []) ∧ m' ≤ c' ∧ c' ≤ 9223372036854775807 ∧ B8s (L.getD j []) ∧ tellL (strL s) (L.take (j + 1)) = tellL (strL s) (L.take j) ++ [varL (m' : Int), L.getD j []] from ⟨hsb, hmc, hcm, hb8, by rw [tellL_snoc _ hjL, hsb.len]⟩)
      clear hsb hat hblt hc hjL hmc hcm hb8
      go_wp2_with fail
      refine (length_any m' wr (by omega)).mono ?_
      rintro e w3 ⟨v, rfl, A3, n3, c3, rfl, hm3⟩
      have b4 : Below w3.heap.size w3 (w3.alloc (.cells #[.slice A3 n3 c3, .slice A' m' c'] 22)) := (Below.refl _ _).alloc (Nat.le_refl _) _
      have hA7 : ∀ b, A7.map (·.block) = some b → w0.heap.size ≤ b ∧ b < wr.heap.size := fun b e => X.out.1.own.lt b (by rw [mownBlock_map]; exact e)
      have X3 := Lib.hid (show Rw (w3.alloc (.cells #[.slice A3 n3 c3, .slice A' m' c'] 22)) w0.heap.size A7 p c7 xs (tellL (strL s) (L.take j)) ∧ Below w0.heap.size w0 (w3.alloc (.cells #[.slice A3 n3 c3, .slice A' m' c'] 22)) ∧
          (Sb (w3.alloc (.cells #[.slice A3 n3 c3, .slice A' m' c'] 22)) A3 n3 (varL (m' : Int)) ∧ n3 ≤ c3 ∧ c3 ≤ 9223372036854775807 ∧ B8s (varL (m' : Int)) ∧ (0 < n3 → A3.map (·.block) ≠ A7.map (·.block))) ∧
          (Sb (w3.alloc (.cells #[.slice A3 n3 c3, .slice A' m' c'] 22)) A' m' (L.getD j []) ∧ m' ≤ c' ∧ c' ≤ 9223372036854775807 ∧ B8s (L.getD j []) ∧ (0 < m' → A'.map (·.block) ≠ A7.map (·.block))) from by
        refine ⟨(X.out.1.below hm3.below).below b4, (X.out.2.1.trans (hm3.below.mono X.out.2.1.size)).trans (b4.mono (X.out.2.1.trans (hm3.below.mono X.out.2.1.size)).size), ⟨hm3.sb.below b4, hm3.le, by have := hm3.max; unfold maxLen at this; omega, varL_b ⟨by omega, by omega⟩, fun hn e => ?_⟩, ⟨((HS.out.1.below X.out.2.2.1).below hm3.below).below b4, HS.out.2.1, HS.out.2.2.1, HS.out.2.2.2.1, fun hn e => ?_⟩⟩
        · obtain ⟨ad3, rfl, _⟩ := hm3.sb.at_ hn
          have h1 := (own_block hm3.own).1
          have h2 := (hA7 ad3.block e.symm).2
          omega
        · obtain ⟨ad3, rfl, hlt3, _⟩ := HS.out.1.at_ hn
          have h2 := (hA7 ad3.block e.symm).1
          have h3 := H0.out.2.2
          omega)
      have hbase : w0.heap.size ≤ (w3.alloc (.cells #[.slice A3 n3 c3, .slice A' m' c'] 22)).heap.size := X3.out.2.1.size
      have hnews : ∀ (q : Nat) (u : Value), ([.slice A3 n3 c3, .slice A' m' c'] : List Value)[q]? = some u → (w3.alloc (.cells #[.slice A3 n3 c3, .slice A' m' c'] 22)).cell? ((⟨w3.heap.size, 0, none⟩ : Addr).add q) = some u := by
        intro q u hu
        rw [addHead, cell_of_row _ _ q _ _ _ (heap_alloc_new w3 (.cells #[.slice A3 n3 c3, .slice A' m' c'] 22))]
        simpa using hu
      have hone : ∀ u ∈ ([.slice A3 n3 c3, .slice A' m' c'] : List Value), u.oneCell' = true := by
        intro u hu
        simp at hu
        rcases hu with rfl | rfl <;> rfl
      have HN := Lib.hid (And.intro hnews hone)
      clear hm3 b4 hA7 hnews hone
      go_wp2_with (at_builtin; refine wpList_mappw _ rfl (.tmp 22) (.tmp 27) 59 rfl w0.heap.size 22 (.slice none 0 0) 1 24 Tryd.underlying59 infoS rfl (by decide) (.slice A7 p c7) p xs rfl X3.out.1.own ⟨w3.heap.size, 0, none⟩ 2 2 [.slice A3 n3 c3, .slice A' m' c'] rfl rfl HN.out.1 HN.out.2 (by unfold maxLen; omega) (by omega) hbase ?_; intro A8 c8 w8 ho8 hg8 hw8; have R8 := Lib.hid (show Rw w8 w0.heap.size A8 (p + 2) c8 (xs ++ [.slice A3 n3 c3, .slice A' m' c']) (tellL (strL s) (L.take (j + 1))) ∧ Below w0.heap.size w0 w8 from ⟨by rw [HS.out.2.2.2.2]; exact X3.out.1.two ho8 hg8 hw8 X3.out.2.2.1 X3.out.2.2.2, below_app0 X3.out.1.own X3.out.2.1 X3.out.2.1.size hg8⟩); clear ho8 hg8 hw8 hbase)
      go_roundw
      case rel => exact ⟨j + 1, p + 2, c8, A8, _, by omega, by go_num, rfl, by have := X.out.2.2.2; omega, R8.out.1, R8.out.2⟩
      case measure => simp [intOf]; omega
    · obtain rfl : j = m := by omega
      have hjm : decide ((j : Int) < (j : Int)) = false := by simp
      have X4 := Lib.hid (show Ps wr A7 p (tellL (strL s) L) ∧ Below w.heap.size w wr ∧ Blk wr w.heap.size 46 (u8A (List.replicate 32 0)) from by
        have e : L.take j = L := List.take_of_length_le (by rw [H.out.2.2.2.2.1.len]; omega)
        have h1 := X.out.1.ps
        rw [e] at h1
        exact ⟨h1, X.out.2.2.1, H0.out.1.below X.out.2.1 H0.out.1.lt⟩)
      have HC := Lib.hid (code_any (c := c) (d := c7) wr (H.out.1.below X4.out.2.1) (H.out.2.1.below X4.out.2.1) H.out.2.2.1 H.out.2.2.2.1 (by omega) X4.out.1 (by omega) (by rw [tellL_flat]; have := H.out.2.2.2.2.2; omega))
      rw [tellL_flat] at HC
      obtain ⟨r, hr⟩ : ∃ r, r = macS key (toldS (strL s) L) := ⟨_, rfl⟩
      rw [← hr] at HC
      have HR := Lib.hid (show r.length = 32 ∧ r = macS key (toldS (strL s) L) from ⟨by rw [hr]; exact macS_len _ _, hr⟩)
      clear hr X hlt hj
      go_wp2_with fail
      refine HC.out.mono ?_
      rintro e w5 ⟨rfl, hb5⟩
      have X5 := Lib.hid (show Blk w5 w.heap.size 46 (u8A (List.replicate 32 0)) ∧ Below w.heap.size w w5 from ⟨X4.out.2.2.below hb5 X4.out.2.2.lt, X4.out.2.1.trans (hb5.mono X4.out.2.1.size)⟩)
      clear hb5 HC X4
      go_wp2_with (refine wpList_store_row rfl 46 (.tmp 6) (.tmp 32) rfl w.heap.size (u8A r) rfl rfl 46 (u8A (List.replicate 32 0)) X5.out.1 (by rw [u8A_size, HR.out.1]; exact info32) (by rw [u8A_size, u8A_size, HR.out.1]; simp) (u8A_one _) ?_)
      refine bodyPost_ret (v := .agg (u8A r)) (results_cell_row Tryd.results31 _ _ w.heap.size 46 _ (0, 0) _ rfl (X5.out.1.setRow _) Tryd.underlying46 rfl (by rw [u8A_size, HR.out.1]; exact info32)) rfl ⟨by rw [HR.out.2], below_setRow X5.out.2 (Nat.le_refl _) _⟩

theorem parts_b {w : World} {B : Option Addr} {m : Nat} {L : List (List Int)} (h : Ps w B m L) : ∀ l ∈ L, B8s l := fun l hl => by
  obtain ⟨q, hq, rfl⟩ := List.getElem_of_mem hl
  obtain ⟨_, _, hel⟩ := h.at_ (by rw [← h.len]; omega)
  obtain ⟨_, _, _, _, _, _, _, h8⟩ := hel.2 q (by rw [← h.len]; exact hq)
  rwa [List.getD, List.getElem?_eq_getElem hq] at h8

theorem told_b {s : ByteArray} {L : List (List Int)} (hs : s.size ≤ 16384) (hpb : ∀ l ∈ L, B8s l) (hl : L.flatten.length ≤ 16384) : B8s (toldS (strL s) L) := by
  intro z hz
  unfold toldS at hz
  rcases List.mem_append.1 hz with hz | hz
  · rcases List.mem_append.1 hz with hz | hz
    · exact varL_b ⟨by omega, by rw [strL_len]; omega⟩ z hz
    · exact strL_b s z hz
  · obtain ⟨l, hl1, hz⟩ := List.mem_flatten.1 hz
    obtain ⟨x, hx, rfl⟩ := List.mem_map.1 hl1
    rcases List.mem_append.1 hz with hz | hz
    · refine varL_b ⟨by omega, ?_⟩ z hz
      have h4 : x.length ≤ L.flatten.length := (List.sublist_flatten_of_mem hx).length_le
      omega
    · exact hpb x hx z hz

end Go.Proofs.YtogaakokplobaaaDoor
