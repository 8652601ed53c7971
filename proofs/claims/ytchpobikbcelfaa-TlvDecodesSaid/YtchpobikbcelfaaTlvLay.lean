/-
  Contracts of what lays a list that is in order.
-/
import Derived.Test.YtchpobikbcelfaaTlvEncode
namespace Go.Proofs.Ytchpobikbcelfaa
open Go.RowKit

theorem firstNumber_any (k : Int) (c s : Bool) (B : Option Addr) (bn bc : Nat) (C : Option Addr) (cn cc : Nat) (w : World) (h0 : 0 ≤ k) (h1 : k ≤ 1000) :
    Calls Try.prog 38 #[iv k c s B bn bc C cn cc] w fun e w' => e = .returned (.int .u64 (fnum k c s)) ∧ Below w.heap.size w w' := by
  have HB : Hid (∀ o, Below w.heap.size w (w.alloc o)) := fun o => (Below.refl _ _).alloc (Nat.le_refl _) o
  cases c <;> cases s <;> unfold fnum <;> simp only [if_true, Bool.false_eq_true, if_false, Int.add_zero]
  all_goals
    go_enter Try.func38, Try.ntmps38
    go_wp2
    go_ret
    exact ⟨rfl, HB.out _⟩

theorem sb_grown {w w' : World} {A : Option Addr} {n : Nat} {zs : List Int} {row : Option Nat} (h : Sb w A n zs) (hg : w.grownBy w' row) (hr : ∀ ad, A = some ad → row ≠ some ad.block) : Sb w' A n zs :=
  h.keep hg.size fun p _ hA hp => World.cell?_of_block (hg.block _ hp fun e => by
    cases hA' : A with
    | none => rw [hA'] at hA; cases hA
    | some ad =>
      rw [hA'] at hA
      have e2 : ad.block = p.block := by simpa using hA
      exact hr ad hA' (by rw [e2]; exact e.symm))
def LayPost (w : World) (l : List It) (e : Ending) (w' : World) : Prop :=
  ∃ v, e = .returned (.tuple #[v, .int .i64 (if (itsB l).length ≤ 4096 then 0 else 4)]) ∧ Made 5 (if (itsB l).length ≤ 4096 then itsB l else []) w v w'
theorem LayPost.long {w w' : World} {l : List It} (h : 4096 < (itsB l).length) (hb : Below w.heap.size w w') : LayPost w l (.returned (.tuple #[.slice none 0 0, .int .i64 4])) w' := by
  refine ⟨_, by rw [if_neg (by omega)], ?_⟩
  rw [if_neg (by omega)]
  exact Made.mk (World.ownsRow_nil _ _ _ _) hb

/-- The world within a round: what has been laid; the round's own item. -/
structure LW (w : World) (A : Option Addr) (m c : Nat) (acc : List Int) (bx : Nat) (cs : Array Value) (w1 : World) : Prop where
  own : w1.ownsRow w.heap.size 5 1 (.slice A m c) m (acc.map (Value.int .u8))
  bel : Below w.heap.size w w1
  box : w1.heap[bx]? = some (.cells cs 47 (0, 0))
theorem LW.below {w w1 w2 : World} {A : Option Addr} {m c : Nat} {acc : List Int} {bx : Nat} {cs : Array Value} (h : LW w A m c acc bx cs w1) (hb : Below w1.heap.size w1 w2) : LW w A m c acc bx cs w2 :=
  ⟨own_below h.own hb, h.bel.trans (hb.mono h.bel.size), (hb.block _ (lt_of_block h.box)).trans h.box⟩

set_option maxHeartbeats 1000000 in
theorem lay_any (d : Nat) : ∀ (w : World) (S : Nat → Prop) (A : Option Addr) (n cap : Nat) (l : List It), Its w S d A n cap l → okL l → fewL l → l.length ≤ 64 →
    Calls Try.prog 28 #[.slice A n cap] w (LayPost w l) := by
  induction d with
  | zero =>
    intro w S A n cap l hi hok hfew hlen
    obtain ⟨rfl, rfl, _⟩ := hi
    have HP : LayPost w [] (.returned (.tuple #[.slice none 0 0, .int .i64 0])) w := by
      refine ⟨_, by rw [itsB_nil]; rfl, ?_⟩
      rw [itsB_nil]
      exact Made.nil _ _
    clear hok hfew hlen
    go_enter Try.func28, Try.ntmps28
    go_wp2
    go_loopw [4, 14] (fun v i wr => i = .int .i64 (0 : Nat) ∧ v = .slice none 0 0 ∧ wr = w) (fun _ i _ => 0)
    case atStart => exact ⟨rfl, rfl, rfl⟩
    case round =>
      obtain ⟨rfl, rfl, rfl⟩ := hrel
      go_wp2_with fail
      go_ret2
      exact HP
  | succ d ih =>
    intro w S A n cap l hi hok hfew hlen
    have hl := hi.len
    rw [hl] at hlen
    have HL := Lib.hid hl
    have IH := Lib.hid ih
    clear ih hl
    go_enter Try.func28, Try.ntmps28
    go_wp2
    go_loopw [4, 14] (fun v i wr => ∃ (k m c' : Nat) (A' : Option Addr), k ≤ n ∧ i = .int .i64 k ∧ v = .slice A' m c' ∧ m ≤ k * 5000 ∧
      wr.ownsRow w.heap.size 5 1 (.slice A' m c') m ((itsB (l.take k)).map (Value.int .u8)) ∧ Below w.heap.size w wr) (fun _ i _ => n - (intOf i).toNat)
    case atStart => exact ⟨0, 0, 0, none, Nat.zero_le _, rfl, rfl, by omega, by simpa [itsB_nil] using World.ownsRow_nil w w.heap.size 5 1, Below.refl _ _⟩
    case round =>
      obtain ⟨k, m, c', A', hk, rfl, rfl, hm, hown, hbel⟩ := hrel
      by_cases hlt : k < n
      · obtain ⟨x, hx⟩ : ∃ x, l[k]? = some x := ⟨_, List.getElem?_eq_getElem (by rw [HL.out]; exact hlt)⟩
        have hmem : x ∈ l := List.mem_of_getElem? hx
        have hxok := (okI_eq x).1 (okL_mem hok hmem)
        have hxfew := (fewI_eq x).1 (fewL_mem hfew hmem)
        have hk0 : 0 ≤ x.kind := by omega
        have hk1 : x.kind ≤ 1000 := hxok.2.1
        have hiw : Its wr S (d + 1) A n cap l := hi.stay hbel.size fun b _ hb => hbel.block b hb
        obtain ⟨ad, B, bn, bc, C, cn, cc, rfl, hS, hblt, hat⟩ := hiw.get hx
        have h0 := hat.c0
        have h1 := hat.c1
        have h2 := hat.c2
        have h3 := hat.c3
        have h4 := hat.c4
        have hbn : bn ≤ 4096 := by have := hat.b.sb.len; omega
        have HLW : ∀ cs, LW w A' m c' (itsB (l.take k)) wr.heap.size cs (wr.alloc (.cells cs 47)) := fun cs =>
          ⟨hown.alloc _, hbel.alloc hbel.size _, heap_alloc_new _ _⟩
        have OB := Lib.hid fun k hk => (hown.lt k hk).2
        have HB : Hid (x.inner.length ≤ (itsB l).length) := Nat.le_trans (itB_inner x) (itsB_mem hmem)
        have X := Lib.hid (And.intro hat (And.intro HLW (And.intro hx (And.intro hxok (And.intro hxfew hmem)))))
        obtain ⟨ys, hys⟩ : ∃ ys, ys = x.inner := ⟨_, rfl⟩
        rw [← hys] at HB
        have HY := Lib.hid hys
        have HO := Lib.hid (And.intro hok (And.intro hfew hi))
        clear hok hfew hi hown hbel hat hS hblt hiw hx hmem hxok hxfew hys HLW
        cases hxl : x.lst with
        | true =>
          have HX := Lib.hid hxl
          rw [hxl] at h2
          clear hxl
          go_wp2_with fail
          refine (IH.out _ S C cn cc x.items (X.out.1.i.alloc _) X.out.2.2.2.1.2.2.2.2.2 X.out.2.2.2.2.1.2 X.out.2.2.2.2.1.1).mono ?_
          rintro e w3 ⟨v3, rfl, A3, n3, c3, rfl, hm3⟩
          have e3 : ys = itsB x.items := by rw [HY.out]; unfold It.inner; rw [if_pos HX.out]
          rw [← e3] at hm3 ⊢
          have Y := Lib.hid ((X.out.2.1 _).below hm3.below)
          have SZ : Hid (wr.heap.size ≤ w3.heap.size) := by have h5 := hm3.below.size; show _ ≤ _; simp at h5; omega
          by_cases hL0 : ys.length ≤ 4096
          · rw [if_pos hL0] at hm3 ⊢
            have hn3 : n3 ≤ 4096 := by have := hm3.len; omega
            have YB := hm3.sb
            have E3 := Lib.hid e3
            clear hm3 e3 h0 h1 h2 h3 h4
            go_wp2_with fail
            refine (text_any YB (by omega)).mono ?_
            rintro e w4 ⟨v4, rfl, A4, n4, c4, rfl, hm4⟩
            have hA4 : ∀ ad, A4 = some ad → wr.heap.size ≤ ad.block := fun ad e => by
              have h5 := (own_block (ad := ad) (by rw [← e]; exact hm4.own)).1
              have h6 := SZ.out
              exact Nat.le_trans h6 h5
            have Z := Lib.hid (And.intro (Y.out.below hm4.below) (And.intro hm4.sb hA4))
            have hz4 := hm4.len
            clear hm4 hA4
            by_cases hL : ys.length ≤ 4096
            · have e1 : textE ys = 0 := by unfold textE; rw [if_pos hL]
              have e2 : textS ys = varL ys.length ++ ys := by unfold textS; rw [if_pos hL]
              rw [e1]
              have hn4 : n4 ≤ 4106 := by rw [e2] at hz4; have := varL_len (ys.length : Int); simp at hz4; omega
              have E2 := Lib.hid e2
              clear e1 e2 hz4
              obtain ⟨b0, b1, b2, b3, b4⟩ := item_cells Z.out.1.box
              go_wp2_with fail
              refine (firstNumber_any _ _ _ _ _ _ _ _ _ _ hk0 hk1).mono ?_
              rintro e w5 ⟨rfl, hb5⟩
              have Z5 := Lib.hid (And.intro (Z.out.1.below hb5) (Z.out.2.1.below hb5))
              clear hb5 b0 b1 b2 b3 b4
              have FB := fnum_bounds x.crit true hk0 hk1
              go_wp2_with fail
              refine (var_any _ _ FB.1 (by omega)).mono ?_
              rintro e w6 ⟨v6, rfl, A6, n6, c6, rfl, hm6⟩
              have hn6 : n6 ≤ 10 := by have := hm6.len; have := varL_len (fnum x.kind x.crit true); omega
              have W6 := Lib.hid (And.intro (Z5.out.1.below hm6.below) (And.intro (Z5.out.2.below hm6.below) hm6.sb))
              clear hm6
              go_wp2_with (first
                | (at_builtin; refine wpList_app _ rfl (.tmp 40) (.tmp 43) 26 rfl w.heap.size 5 Try.underlying26 info8 (.slice A' m c') m _ rfl W6.out.1.own A6 n6 c6 _ rfl W6.out.2.2 (by omega) W6.out.1.bel.size ?_; intro A7 c7 w7 hown7 hg7; have V7 := Lib.hid (And.intro hown7 (And.intro (below_app0 W6.out.1.own W6.out.1.bel W6.out.1.bel.size hg7) (sb_grown W6.out.2.1 hg7 (fun ad e1 e2 => by have h5 := Z.out.2.2 ad e1; have h6 := OB.out _ e2; omega)))); clear hown7 hg7)
                | (at_builtin; refine wpList_app _ rfl (.tmp 44) (.tmp 45) 26 rfl w.heap.size 5 Try.underlying26 info8 (.slice A7 (m + n6) c7) (m + n6) _ rfl V7.out.1 A4 n4 c4 _ rfl V7.out.2.2 (by omega) V7.out.2.1.size ?_; intro A8 c8 w8 hown8 hg8; have V8 := Lib.hid (And.intro hown8 (below_app0 V7.out.1 V7.out.2.1 V7.out.2.1.size hg8)); clear hown8 hg8))
              go_roundw
              case rel =>
                have h5 := V8.out.1
                rw [← List.map_append, E2.out, ← List.map_append, ← HX.out, ← itsB_take X.out.2.2.1 HY.out] at h5
                exact ⟨k + 1, m + n6 + n4, c8, A8, by omega, by go_num, rfl, by omega, h5, V8.out.2⟩
              case measure => simp [intOf]; omega
            · have e1 : textE ys = 4 := by unfold textE; rw [if_neg hL]
              rw [e1]
              have HP : LayPost w l (.returned (.tuple #[.slice none 0 0, .int .i64 4])) w4 := LayPost.long (by have := HB.out; omega) Z.out.1.bel
              clear e1
              go_wp2_with fail
              go_ret2
              exact HP
          · rw [if_neg hL0] at hm3 ⊢
            have HP : LayPost w l (.returned (.tuple #[.slice none 0 0, .int .i64 4])) w3 := LayPost.long (by have := HB.out; omega) Y.out.bel
            clear hm3 e3 h0 h1 h2 h3 h4 hL0
            go_wp2_with fail
            go_ret2
            exact HP
        | false =>
          have HX := Lib.hid hxl
          rw [hxl] at h2
          clear hxl
          have e3 : ys = x.bytes := by rw [HY.out]; unfold It.inner; rw [if_neg (by simp [HX.out])]
          have YB : Sb (wr.alloc (.cells #[.int .i64 x.kind, .bool x.crit, .bool false, .slice B bn bc, .slice C cn cc] 47)) B bn ys := by rw [e3]; exact X.out.1.b.sb.alloc _
          have SZ : Hid (wr.heap.size ≤ (wr.alloc (.cells #[.int .i64 x.kind, .bool x.crit, .bool false, .slice B bn bc, .slice C cn cc] 47)).heap.size) := by show _ ≤ _; simp
          have Y := Lib.hid (X.out.2.1 #[.int .i64 x.kind, .bool x.crit, .bool false, .slice B bn bc, .slice C cn cc])
          have E3 := Lib.hid e3
          clear e3
          go_wp2_with fail
          refine (text_any YB (by omega)).mono ?_
          rintro e w4 ⟨v4, rfl, A4, n4, c4, rfl, hm4⟩
          have hA4 : ∀ ad, A4 = some ad → wr.heap.size ≤ ad.block := fun ad e => by
            have h5 := (own_block (ad := ad) (by rw [← e]; exact hm4.own)).1
            have h6 := SZ.out
            exact Nat.le_trans h6 h5
          have Z := Lib.hid (And.intro (Y.out.below hm4.below) (And.intro hm4.sb hA4))
          have hz4 := hm4.len
          clear hm4 hA4
          by_cases hL : ys.length ≤ 4096
          · have e1 : textE ys = 0 := by unfold textE; rw [if_pos hL]
            have e2 : textS ys = varL ys.length ++ ys := by unfold textS; rw [if_pos hL]
            rw [e1]
            have hn4 : n4 ≤ 4106 := by rw [e2] at hz4; have := varL_len (ys.length : Int); simp at hz4; omega
            have E2 := Lib.hid e2
            clear e1 e2 hz4
            obtain ⟨b0, b1, b2, b3, b4⟩ := item_cells Z.out.1.box
            go_wp2_with fail
            refine (firstNumber_any _ _ _ _ _ _ _ _ _ _ hk0 hk1).mono ?_
            rintro e w5 ⟨rfl, hb5⟩
            have Z5 := Lib.hid (And.intro (Z.out.1.below hb5) (Z.out.2.1.below hb5))
            clear hb5 b0 b1 b2 b3 b4
            have FB := fnum_bounds x.crit false hk0 hk1
            go_wp2_with fail
            refine (var_any _ _ FB.1 (by omega)).mono ?_
            rintro e w6 ⟨v6, rfl, A6, n6, c6, rfl, hm6⟩
            have hn6 : n6 ≤ 10 := by have := hm6.len; have := varL_len (fnum x.kind x.crit false); omega
            have W6 := Lib.hid (And.intro (Z5.out.1.below hm6.below) (And.intro (Z5.out.2.below hm6.below) hm6.sb))
            clear hm6
            go_wp2_with (first
              | (at_builtin; refine wpList_app _ rfl (.tmp 40) (.tmp 43) 26 rfl w.heap.size 5 Try.underlying26 info8 (.slice A' m c') m _ rfl W6.out.1.own A6 n6 c6 _ rfl W6.out.2.2 (by omega) W6.out.1.bel.size ?_; intro A7 c7 w7 hown7 hg7; have V7 := Lib.hid (And.intro hown7 (And.intro (below_app0 W6.out.1.own W6.out.1.bel W6.out.1.bel.size hg7) (sb_grown W6.out.2.1 hg7 (fun ad e1 e2 => by have h5 := Z.out.2.2 ad e1; have h6 := OB.out _ e2; omega)))); clear hown7 hg7)
              | (at_builtin; refine wpList_app _ rfl (.tmp 44) (.tmp 45) 26 rfl w.heap.size 5 Try.underlying26 info8 (.slice A7 (m + n6) c7) (m + n6) _ rfl V7.out.1 A4 n4 c4 _ rfl V7.out.2.2 (by omega) V7.out.2.1.size ?_; intro A8 c8 w8 hown8 hg8; have V8 := Lib.hid (And.intro hown8 (below_app0 V7.out.1 V7.out.2.1 V7.out.2.1.size hg8)); clear hown8 hg8))
            go_roundw
            case rel =>
              have h5 := V8.out.1
              rw [← List.map_append, E2.out, ← List.map_append, ← HX.out, ← itsB_take X.out.2.2.1 HY.out] at h5
              exact ⟨k + 1, m + n6 + n4, c8, A8, by omega, by go_num, rfl, by omega, h5, V8.out.2⟩
            case measure => simp [intOf]; omega
          · have e1 : textE ys = 4 := by unfold textE; rw [if_neg hL]
            rw [e1]
            have HP : LayPost w l (.returned (.tuple #[.slice none 0 0, .int .i64 4])) w4 := LayPost.long (by have := HB.out; omega) Z.out.1.bel
            clear e1
            go_wp2_with fail
            go_ret2
            exact HP
      · have hz : l.take k = l := List.take_of_length_le (by have := HL.out; omega)
        rw [hz] at hown
        have hml : (itsB l).length = m := by have := hown.1; simpa using this
        have HM := Lib.hid hml
        have HO := Lib.hid (And.intro hown hbel)
        clear hz hml hown hbel hok hfew hi
        by_cases h4 : m ≤ 4096
        · have HP : LayPost w l (.returned (.tuple #[.slice A' m c', .int .i64 0])) wr := by
            refine ⟨_, by rw [if_pos (by rw [HM.out]; exact h4)], ?_⟩
            rw [if_pos (by rw [HM.out]; exact h4)]
            exact Made.mk HO.out.1 HO.out.2
          go_wp2_with fail
          go_ret2
          exact HP
        · have HP : LayPost w l (.returned (.tuple #[.slice none 0 0, .int .i64 4])) wr := LayPost.long (by rw [HM.out]; omega) HO.out.2
          go_wp2_with fail
          go_ret2
          exact HP

end Go.Proofs.Ytchpobikbcelfaa
