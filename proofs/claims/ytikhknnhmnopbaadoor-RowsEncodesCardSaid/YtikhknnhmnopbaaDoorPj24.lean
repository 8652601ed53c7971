/-
  Part 24 of what the laws of emul want: ParseRefDec, RowsCell, RowsDiff.
-/
import Derived.LoopTactic
import Derived.Lib.AppendStr
import Derived.Deep.RegionHeld3
import Derived.Deep.DeepCutAuto
import Derived.Test.YtikhknnhmnopbaaDoorPj02
import Derived.Test.YtikhknnhmnopbaaDoorPj11
import Derived.Test.YtikhknnhmnopbaaDoorPj15
import Derived.Test.YtikhknnhmnopbaaDoorPj23
namespace Go.Proofs.YtikhknnhmnopbaaDoor
open Go.RowKit
structure By (base : Nat) (w : World) (A : Option Addr) (n c : Nat) (zs : List Int) : Prop where
 len : zs.length = n
 le : n ≤ c
 max : c ≤ maxLen
 own : w.ownsRow base 5 1 (.slice A n c) n (zs.map (Value.int .u8))
section
variable {base : Nat} {w w' : World} {A : Option Addr} {n c : Nat} {zs : List Int}
theorem By.mk' (h : w.ownsRow base 5 1 (.slice A n c) n (zs.map (Value.int .u8))) : By base w A n c zs := by
 obtain ⟨A', c', e, h1, h2⟩ := own_shape h
 injection e with e1 e2 e3
 subst e1 e3
 exact ⟨by have := h.1; simpa using this, h1, h2, h⟩
theorem By.sb (h : By base w A n c zs) : Sb w A n zs := Sb.own h.own
theorem By.lower {B : Nat} (h : By base w A n c zs) (hB : B ≤ base) : By B w A n c zs := ⟨h.len, h.le, h.max, own_base h.own hB⟩
theorem By.keep (h : By base w A n c zs) (hs : ∀ g, base ≤ g → g < w.heap.size → w'.heap[g]? = w.heap[g]?) : By base w' A n c zs := by
 refine ⟨h.len, h.le, h.max, h.own.1, ?_⟩
 rcases h.own.2 with h1 | ⟨g, cap, cur, hv, hb, hg, hr⟩
 · exact .inl h1
 · exact .inr ⟨g, cap, cur, hv, hb, (hs g hb (Array.getElem?_eq_some_iff.1 hg).1).trans hg, hr⟩
theorem By.below (h : By base w A n c zs) (hb : Below w.heap.size w w') : By base w' A n c zs := h.keep fun g _ hg => hb.block g hg
theorem By.ownB (h : By base w A n c zs) : ∀ k, (Value.slice A n c).ownBlock = some k → base ≤ k := by
 intro k hk
 rcases h.own.2 with ⟨h1, _⟩ | ⟨g, cap, cur, hv, hb, _⟩
 · rw [h1] at hk; cases hk
 · rw [hv] at hk
   injection hk with hk
   rw [← hk]
   exact hb
theorem By.lit (w : World) (zs : List Int) (n : Nat) (cs : Array Value) (hc : cs.toList = zs.map (Value.int .u8)) (hl : zs.length = n) (hm : n ≤ 1000) : By w.heap.size (w.alloc (.cells cs 5)) (some ⟨w.heap.size, 0, none⟩) n n zs := by
 refine By.mk' ?_
 rw [← hc]
 exact World.ownsRow_lit w cs n (Nat.le_refl _) (by unfold maxLen; omega) (by have := congrArg List.length hc; simp at this; omega)
end
theorem wpList_appB (w : World) {ops : Array Oper} {rest : List Oper} {o : Oper} {a : Act} {Q : Exit → Act → World → Prop} (hgd : o.guard = none) (s x : Operand)
  (ho : o.op = .call { callee := .builtin .append, args := #[s, x], argTypes := #[29, 29] }) (base : Nat)
  (A0 : Option Addr) (n c0 : Nat) (L : List Int) (hs : a.eval s = .slice A0 n c0) (hown : By base w A0 n c0 L)
  (A : Option Addr) (m c k : Nat) (hk : n + m = k) (M : List Int) (hx : a.eval x = .slice A m c) (hr : Sb w A m M) (h63 : k ≤ 140737488355328) (hbase : base ≤ w.heap.size)
  (h : ∀ A' c' w', By base w' A' k c' (L ++ M) → w.grownBy w' (Value.slice A0 n c0).ownBlock → wpList Tryd.prog ops Q rest (a.put o.dst (.slice A' k c')) w') : wpList Tryd.prog ops Q (o :: rest) a w := by
 subst hk
 exact wpList_app w hgd s x _ ho base 5 Tryd.underlying29 info8 _ n _ hs hown.own A m c M hx hr h63 hbase fun A' c' w' h1 h2 => h A' c' w' (By.mk' (by rw [List.map_append]; exact h1)) h2
open Go.RowKit
def ByOwn (zs : List Int) (w : World) (e : Ending) (w' : World) : Prop := Below w.heap.size w w' ∧ ∃ A c, e = .returned (.slice A zs.length c) ∧ By w.heap.size w' A zs.length c zs
theorem num_own {n size : Int} {w : World} {e : Ending} {w' : World} (h : ∃ v, e = .returned v ∧ Made 5 (numS n size) w v w') : ByOwn (numS n size) w e w' := by
 obtain ⟨v, rfl, A, m, c, rfl, hm⟩ := h
 obtain rfl := hm.len
 exact ⟨hm.below, A, c, rfl, ⟨rfl, hm.le, hm.max, hm.own⟩⟩
theorem num4 (x : Int) : numS x 4 = numL x 4 := rfl
theorem num2 (x : Int) : numS x 2 = numL x 2 := rfl
set_option maxHeartbeats 3200000 in
set_option maxRecDepth 100000 in
theorem rCell_any {x : Ce} (w : World) (hr : 0 ≤ x.r ∧ x.r ≤ 2147483647) (hf : 0 ≤ x.p.fg ∧ x.p.fg ≤ 4294967295) (hg : 0 ≤ x.p.bg ∧ x.p.bg ≤ 4294967295) :
  Calls Tryd.prog 36 #[.agg (ceA x)] w (ByOwn (cellB x) w) := by
 have HR := Lib.hid (And.intro hr (And.intro hf hg))
 have k1 : IntKind.u64.wrap x.r = x.r := by rw [IntKind.wrap_u64]; omega
 obtain ⟨b, hb⟩ : ∃ b, b = w.heap.size := ⟨_, rfl⟩
 obtain ⟨w1, hw1⟩ : ∃ w1, w1 = w.alloc (.cells (ceA x) 51) := ⟨_, rfl⟩
 have H1 := Lib.hid (show Cb w1 b x ∧ Below w.heap.size w w1 ∧ b < w1.heap.size from by
  rw [hw1, hb]
  exact ⟨Cb.new w x, (Below.refl _ _).alloc (Nat.le_refl _) _, by simp⟩)
 clear hr hf hg
 obtain ⟨d0, d1, d2, d3, d4, d5⟩ := H1.out.1.all
 unfold ceA at hw1 ⊢
 go_enter Tryd.func36, Tryd.ntmps36
 go_upto_region 1 with fail
 rw [← hw1, ← hb]
 clear hw1 hb
 go_wp2_with fail
 refine (refNum_any x.r 4 _ HR.out.1.1 (by have := HR.out.1; omega)).mono ?_
 intro e w2 h2
 obtain ⟨hb2, A2, c2, rfl, hy2⟩ := num_own h2
 rw [num4] at hy2 ⊢
 rw [numL_len] at hy2 ⊢
 have H2 := Lib.hid (show Cb w2 b x ∧ Below w1.heap.size w1 w2 ∧ By w1.heap.size w2 A2 4 c2 (numL x.r 4) from ⟨H1.out.1.below hb2, hb2, hy2⟩)
 clear h2 hb2 hy2 d0 d1 d2 d3 d4 d5 k1
 obtain ⟨d0, d1, d2, d3, d4, d5⟩ := H2.out.1.all
 have k1 : IntKind.u64.wrap x.p.fg = x.p.fg := by rw [IntKind.wrap_u64]; have := HR.out.2.1; omega
 go_wp2_with fail
 refine (refNum_any x.p.fg 2 _ HR.out.2.1.1 (by have := HR.out.2.1; omega)).mono ?_
 intro e w3 h3
 obtain ⟨hb3, A3, c3, rfl, hy3⟩ := num_own h3
 rw [num2] at hy3 ⊢
 rw [numL_len] at hy3 ⊢
 have HA := Lib.hid (show Cb w3 b x ∧ Below w1.heap.size w1 w3 ∧ By w1.heap.size w3 A2 4 c2 (numL x.r 4) ∧ Sb w3 A3 2 (numL x.p.fg 2) from ⟨H2.out.1.below hb3, H2.out.2.1.trans (hb3.mono H2.out.2.1.size), H2.out.2.2.below hb3, hy3.sb⟩)
 clear h3 hb3 hy3 H2 d0 d1 d2 d3 d4 d5 k1
 go_upto_region 3 with (at_builtin; refine wpList_appB _ rfl _ _ rfl w1.heap.size A2 4 c2 _ rfl HA.out.2.2.1 A3 2 c3 6 rfl _ rfl HA.out.2.2.2 (by omega) HA.out.2.1.size ?_; intro A4 c4 w4 hown hg4)
 have H3 := Lib.hid (show Cb w4 b x ∧ Below w1.heap.size w1 w4 ∧ By w1.heap.size w4 A4 6 c4 (numL x.r 4 ++ numL x.p.fg 2) from ⟨HA.out.1.grown hg4 (fun e => by have := HA.out.2.2.1.ownB b e; have := H1.out.2.2; omega), HA.out.2.1.grown hg4 HA.out.2.1.size (fun k hk => HA.out.2.2.1.ownB k hk), hown⟩)
 clear hown hg4 HA
 obtain ⟨d0, d1, d2, d3, d4, d5⟩ := H3.out.1.all
 have k1 : IntKind.u64.wrap x.p.bg = x.p.bg := by rw [IntKind.wrap_u64]; have := HR.out.2.2; omega
 go_wp2_with fail
 refine (refNum_any x.p.bg 2 _ HR.out.2.2.1 (by have := HR.out.2.2; omega)).mono ?_
 intro e w5 h3
 obtain ⟨hb3, A3, c3, rfl, hy3⟩ := num_own h3
 rw [num2] at hy3 ⊢
 rw [numL_len] at hy3 ⊢
 have HA := Lib.hid (show Cb w5 b x ∧ Below w1.heap.size w1 w5 ∧ By w1.heap.size w5 A4 6 c4 (numL x.r 4 ++ numL x.p.fg 2) ∧ Sb w5 A3 2 (numL x.p.bg 2) from ⟨H3.out.1.below hb3, H3.out.2.1.trans (hb3.mono H3.out.2.1.size), H3.out.2.2.below hb3, hy3.sb⟩)
 clear h3 hb3 hy3 H3 d0 d1 d2 d3 d4 d5 k1
 go_upto_region 4 with (at_builtin; refine wpList_appB _ rfl _ _ rfl w1.heap.size A4 6 c4 _ rfl HA.out.2.2.1 A3 2 c3 8 rfl _ rfl HA.out.2.2.2 (by omega) HA.out.2.1.size ?_; intro A6 c6 w6 hown hg4)
 have H4 := Lib.hid (show Cb w6 b x ∧ Below w1.heap.size w1 w6 ∧ By w1.heap.size w6 A6 8 c6 (numL x.r 4 ++ numL x.p.fg 2 ++ numL x.p.bg 2) from ⟨HA.out.1.grown hg4 (fun e => by have := HA.out.2.2.1.ownB b e; have := H1.out.2.2; omega), HA.out.2.1.grown hg4 HA.out.2.1.size (fun k hk => HA.out.2.2.1.ownB k hk), hown⟩)
 clear hown hg4 HA
 obtain ⟨d0, d1, d2, d3, d4, d5⟩ := H4.out.1.all
 have HV := Lib.hid (show Sb (w6.alloc (.cells #[.int .u8 x.p.st] 5)) (some ⟨w6.heap.size, 0, none⟩) 1 [x.p.st] from (By.lit w6 [x.p.st] 1 #[.int .u8 x.p.st] rfl rfl (by omega)).sb)
 have HA := Lib.hid (show Below w6.heap.size w6 (w6.alloc (.cells #[.int .u8 x.p.st] 5)) from (Below.refl _ _).alloc (Nat.le_refl _) _)
 have HA2 := Lib.hid (H4.out.2.2.below HA.out)
 go_wp2_with (at_builtin; refine wpList_appB _ rfl _ _ rfl w1.heap.size A6 8 c6 _ rfl HA2.out (some ⟨w6.heap.size, 0, none⟩) 1 1 9 rfl _ rfl HV.out (by omega) (Nat.le_trans H4.out.2.1.size HA.out.size) ?_; intro A8 c8 w8 hown hg8)
 have HE := Lib.hid (show Below w.heap.size w w8 ∧ By w.heap.size w8 A8 9 c8 (cellB x) from by
  have h1 : Below w1.heap.size w1 w8 := (H4.out.2.1.trans (HA.out.mono H4.out.2.1.size)).grown hg8 (Nat.le_trans H4.out.2.1.size HA.out.size) (fun k hk => HA2.out.ownB k hk)
  refine ⟨H1.out.2.1.trans (h1.mono H1.out.2.1.size), ?_⟩
  have e : cellB x = numL x.r 4 ++ numL x.p.fg 2 ++ numL x.p.bg 2 ++ [x.p.st] := by unfold cellB; simp only [List.append_assoc]
  rw [e]
  exact hown.lower H1.out.2.1.size)
 clear hown hg8
 have X : ByOwn (cellB x) w (.returned (.slice A8 9 c8)) w8 := ⟨HE.out.1, A8, c8, by rw [cellB_len], by rw [cellB_len]; exact HE.out.2⟩
 go_ret
 exact X
open Go.RowKit
theorem strCells_is (t : ByteArray) : Lib.strCells t = (sL t).map (Value.int .u8) := by
 unfold Lib.strCells sL
 rw [List.map_map]
 rfl
theorem wpList_appStr (w : World) {ops : Array Oper} {rest : List Oper} {o : Oper} {a : Act} {Q : Exit → Act → World → Prop} (hgd : o.guard = none) (s x : Operand)
  (ho : o.op = .call { callee := .builtin .append, args := #[s, x], argTypes := #[29, 9] }) (base : Nat)
  (A0 : Option Addr) (n c0 : Nat) (L : List Int) (hs : a.eval s = .slice A0 n c0) (hown : By base w A0 n c0 L) (t : ByteArray) (hx : a.eval x = .string t) (hn : n ≤ 1000000) (ht : t.size ≤ 1000000) (hbase : base ≤ w.heap.size)
  (h : ∀ A' c' w', By base w' A' (n + t.size) c' (L ++ sL t) → w.grownBy w' (Value.slice A0 n c0).ownBlock → wpList Tryd.prog ops Q rest (a.put o.dst (.slice A' (n + t.size) c')) w') : wpList Tryd.prog ops Q (o :: rest) a w := by
 obtain ⟨i0, hi, hz0, hz1, hz2⟩ := info_parts info8
 refine Lib.wpList_append_own_string w hgd s x 29 9 ho base 5 i0 Tryd.underlying29 Tryd.underlying9 hi hz0 hz1 hz2 _ n _ hs hown.own t hx (by unfold maxLen; omega) (by omega) hbase ?_
 intro v' w' h1 h2 _
 obtain ⟨A', c', rfl, _⟩ := own_shape h1
 exact h A' c' w' (By.mk' (by rw [List.map_append, ← strCells_is]; exact h1)) h2
def unTo (c : Nat) (L M : List Ce) (y : Nat) : List Nat := (List.range y).filter fun z => decide (rowAt c L z ≠ rowAt c M z)
theorem unTo_all (c r : Nat) (L M : List Ce) : unTo c L M r = unlike c r L M := rfl
theorem unTo_yes {c : Nat} {L M : List Ce} {y : Nat} (h : rowAt c L y ≠ rowAt c M y) : unTo c L M (y + 1) = unTo c L M y ++ [y] := by
 unfold unTo
 rw [List.range_succ, List.filter_append]
 simp [h]
theorem unTo_no {c : Nat} {L M : List Ce} {y : Nat} (h : rowAt c L y = rowAt c M y) : unTo c L M (y + 1) = unTo c L M y := by
 unfold unTo
 rw [List.range_succ, List.filter_append]
 simp [h]
theorem unTo_len (c : Nat) (L M : List Ce) (y : Nat) : (unTo c L M y).length ≤ y := by
 unfold unTo
 have := List.length_filter_le (fun z => decide (rowAt c L z ≠ rowAt c M z)) (List.range y)
 rwa [List.length_range] at this
theorem rowBy_len {c r : Nat} {LL : Rws} (h : Box c r LL) {y : Nat} (hy : y < r) : (rowBy c LL.flatten y).length = 1 + 9 * c := by
 unfold rowBy
 rw [List.length_cons, rowAt_flat h hy, List.length_flatMap]
 have e : (lAt LL y).map (fun a => (cellB a).length) = List.replicate c 9 := by
  rw [List.eq_replicate_iff]
  exact ⟨by rw [List.length_map]; exact h.row y hy, fun z hz => by obtain ⟨a, _, rfl⟩ := List.mem_map.1 hz; exact cellB_len a⟩
 rw [e, List.sum_replicate_nat]
 omega
theorem By.grownO {base : Nat} {w w' : World} {A : Option Addr} {n c : Nat} {zs : List Int} (h : By base w A n c zs) {row : Option Nat} (hg : w.grownBy w' row) (hne : ∀ g, (Value.slice A n c).ownBlock = some g → row = some g → False) : By base w' A n c zs := by
 refine ⟨h.len, h.le, h.max, h.own.1, ?_⟩
 rcases h.own.2 with h1 | ⟨g, cap, cur, hv, hb, hgg, hr⟩
 · exact .inl h1
 · exact .inr ⟨g, cap, cur, hv, hb, (hg.block g (Array.getElem?_eq_some_iff.1 hgg).1 (fun e => hne g (by rw [hv]; rfl) e.symm)).trans hgg, hr⟩
theorem un_len {c r : Nat} {LL : Rws} (h : Box c r LL) : ∀ (ys : List Nat), (∀ y ∈ ys, y < r) → (ys.flatMap (rowBy c LL.flatten)).length = ys.length * (1 + 9 * c)
 | [], _ => by simp
 | y :: ys, hy => by
  rw [List.flatMap_cons, List.length_append, rowBy_len h (hy y (by simp)), un_len h ys (fun z hz => hy z (by simp [hz])), List.length_cons, Nat.add_mul, Nat.one_mul, Nat.add_comm]
theorem unTo_lt {c : Nat} {L M : List Ce} {y z : Nat} (h : z ∈ unTo c L M y) : z < y := by
 unfold unTo at h
 have := (List.mem_filter.1 h).1
 simpa using this
set_option maxHeartbeats 6400000 in
set_option maxRecDepth 100000 in
theorem rDiff_any {sa sb : ScR} {base b : Sc} {c r : Nat} {BL LL : Rws} {fl : Int} {w : World} (h : ScIn w sa base) (k : ScIn w sb b) (hA : FitS base c r BL) (hB : FitS b c r LL) (hx : 0 ≤ b.x ∧ b.x ≤ 255) (hy : 0 ≤ b.y ∧ b.y ≤ 255) (hf : fl = 0 ∨ fl = 4) :
  Calls Tryd.prog 21 #[.agg (scrA sa), .agg (scrA sb), .int .i64 fl] w (ByOwn (diffS base b fl) w) := by
 have HA := Lib.hid (And.intro hA hB)
 have HXY := Lib.hid (show (0 ≤ sb.x ∧ sb.x ≤ 255) ∧ (0 ≤ sb.y ∧ sb.y ≤ 255) from by rw [← k.x, ← k.y]; exact ⟨hx, hy⟩)
 have HF := Lib.hid hf
 have HCR := Lib.hid (show sb.c = (c : Int) ∧ sb.r = (r : Int) from ⟨by rw [← k.c, hB.ec], by rw [← k.r, hB.er]⟩)
 obtain ⟨b3, hb3⟩ : ∃ b3, b3 = w.heap.size := ⟨_, rfl⟩
 obtain ⟨w1, hw1⟩ : ∃ w1, w1 = (w.alloc (.cells (scrA sa) 25)).alloc (.cells (scrA sb) 25) := ⟨_, rfl⟩
 have H0 := Lib.hid (show S2 w w1 b3 sa sb from by
  have h1 := Sx.new w sa
  have h2 := Sx.new (w.alloc (.cells (scrA sa) 25)) sb
  rw [World.size_alloc] at h2
  rw [hb3, hw1]
  exact ⟨h1.below ((Below.refl _ _).alloc (Nat.le_refl _) _), h2, ((Below.refl _ _).alloc (Nat.le_refl _) _).alloc (by simp) _, Nat.le_refl _⟩)
 have HI0 := Lib.hid (And.intro h k)
 have HI := Lib.hid (show ScIn w1 sa base ∧ ScIn w1 sb b from ⟨h.below H0.out.bel, k.below H0.out.bel⟩)
 obtain ⟨T, hT⟩ : ∃ T : Bool, T = decide (sb.ttl ≠ sa.ttl) := ⟨_, rfl⟩
 have HT := Lib.hid (show (T = true ↔ b.title ≠ base.title) from by
  rw [hT, k.ttl, h.ttl, decide_eq_true_eq]
  exact ⟨fun e e2 => e (sL_inj e2), fun e e2 => e (by rw [e2])⟩)
 have hte : (sb.ttl.toList == sa.ttl.toList) = !T := by rw [eqBB, hT]; simp
 clear h k hA hB hx hy hf hT
 obtain ⟨e0, e1, e2, e3, e4, e5, e6, e7, e8, _⟩ := sx_cells H0.out.b1
 obtain ⟨d0, d1, d2, d3, d4, d5, d6, d7, d8, _⟩ := sx_cells H0.out.b2
 clear e0 e1 e3 e4 e5 e6 e8 d6 d8
 unfold scrA at hw1 ⊢
 go_enter Tryd.func21, Tryd.ntmps21
 go_upto_region 1 with fail
 rw [← hw1, ← hb3]
 clear hw1 hb3
 obtain ⟨HID, hHID⟩ : ∃ HID, sb.hid = HID := ⟨_, rfl⟩
 rw [hHID] at d5
 have HHH := Lib.hid hHID
 clear hHID
 have hf9 : 0 ≤ fl ∧ fl ≤ 4 := by have := HF.out; omega
 go_upto_if 14 with fail
 go_cut [2] from 15 to 16 (fun v2 wc => v2 = .int .i64 (fl + (if HID = true then 1 else 0)) ∧ wc = w1)
 case first =>
  cases HID
  · go_wp2_with fail
    go_meet
    case rel => exact ⟨by simp, rfl⟩
  · go_wp2_with fail
    go_meet
    case rel => exact ⟨by simp, rfl⟩
 case rest =>
 obtain ⟨rfl, rfl⟩ := hcut
 obtain ⟨F1, hF1⟩ : ∃ F1, fl + (if HID = true then 1 else 0) = F1 := ⟨_, rfl⟩
 rw [hF1]
 have hf1 : 0 ≤ F1 ∧ F1 ≤ 5 := by rw [← hF1]; split <;> omega
 have HF1 := Lib.hid hF1
 clear hF1
 go_upto_if 22 with fail
 go_cut [2] from 23 to 24 (fun v2 wz => v2 = .int .i64 (F1 + (if T = true then 2 else 0)) ∧ wz = wc)
 case first =>
  cases T
  · go_wp2_with fail
    go_meet
    case rel => exact ⟨by simp, rfl⟩
  · go_wp2_with fail
    go_meet
    case rel => exact ⟨by simp, rfl⟩
 case rest =>
 obtain ⟨rfl, hwz⟩ := hcut
 obtain rfl := hwz.symm
 clear hwz
 obtain ⟨w1, rfl⟩ : ∃ x, x = wc := ⟨_, rfl⟩
 obtain ⟨F2, hF2⟩ : ∃ F2, F1 + (if T = true then 2 else 0) = F2 := ⟨_, rfl⟩
 rw [hF2]
 have hf2 : 0 ≤ F2 ∧ F2 ≤ 7 := by rw [← hF2]; split <;> omega
 have HF2 := Lib.hid (show F2 = fl + (if b.hid = true then 1 else 0) + (if b.title ≠ base.title then 2 else 0) from by
  have e : (if T = true then (2 : Int) else 0) = if b.title ≠ base.title then 2 else 0 := by
   by_cases ht : T = true
   · rw [if_pos ht, if_pos (HT.out.1 ht)]
   · rw [if_neg ht, if_neg (fun e => ht (HT.out.2 e))]
  rw [← hF2, ← HF1.out, e, HI.out.2.hid, HHH.out])
 clear hF2 hf1 hf9 HF1
 obtain ⟨hc, hr⟩ := HCR.out
 have hcb := HA.out.2.gk.c80
 have hrb := HA.out.2.gk.r24
 rw [hc] at d0
 rw [hr] at d1
 clear hc hr
 have u0 : IntKind.u8.wrap (c : Int) = (c : Int) := by rw [IntKind.wrap_u8]; omega
 have u1 : IntKind.u8.wrap (r : Int) = (r : Int) := by rw [IntKind.wrap_u8]; omega
 have u2 : IntKind.u8.wrap sb.x = sb.x := by rw [IntKind.wrap_u8]; have := HXY.out.1; omega
 have u3 : IntKind.u8.wrap sb.y = sb.y := by rw [IntKind.wrap_u8]; have := HXY.out.2; omega
 have u4 : IntKind.u8.wrap F2 = F2 := by rw [IntKind.wrap_u8]; omega
 have HTL := Lib.hid (show sb.ttl.size ≤ 64 ∧ b.title = sL sb.ttl ∧ b.title.length = sb.ttl.size from by
  have := HA.out.2.ti
  have e := HI.out.2.ttl
  rw [e, sL_len] at this
  exact ⟨this, e, by rw [e, sL_len]⟩)
 obtain ⟨P5, hP5⟩ : ∃ P5 : List Int, P5 = [(c : Int), (r : Int), sb.x, sb.y, F2] := ⟨_, rfl⟩
 have HP5 := Lib.hid hP5
 obtain ⟨w2, hw2⟩ : ∃ w2, w2 = w1.alloc (.cells #[.int .u8 (c : Int), .int .u8 (r : Int), .int .u8 sb.x, .int .u8 sb.y, .int .u8 F2] 5) := ⟨_, rfl⟩
 have H2 := Lib.hid (show By w1.heap.size w2 (some ⟨w1.heap.size, 0, none⟩) 5 5 P5 ∧ Below w1.heap.size w1 w2 from by
  rw [hw2, hP5]
  exact ⟨By.lit w1 _ 5 _ rfl rfl (by omega), (Below.refl _ _).alloc (Nat.le_refl _) _⟩)
 clear hP5
 go_upto_region 7 with fail
 rw [← hw2]
 clear hw2 u0 u1 u2 u3 u4 d0 d1 d2 d3 d4 d5 d7 e2 e7 hte
 go_upto_if 40 with fail
 go_cut [8] from 41 to 51 (fun v8 wz => ∃ A n cc, v8 = .slice A n cc ∧ By w1.heap.size wz A n cc (P5 ++ (if b.title ≠ base.title then (b.title.length : Int) :: b.title else [])) ∧ Below w1.heap.size w1 wz)
 case first =>
  cases T
  · go_wp2_with fail
    go_meet
    case rel => exact ⟨_, _, _, rfl, by rw [if_neg (fun e => by have := HT.out.2 e; cases this), List.append_nil]; exact H2.out.1, H2.out.2⟩
  · have HTY := Lib.hid (HT.out.1 rfl)
    have d7 := (sx_cells (H0.out.on H2.out.2).b2).c7
    have u5 : IntKind.u8.wrap (sb.ttl.size : Int) = (sb.ttl.size : Int) := by rw [IntKind.wrap_u8]; have := HTL.out.1; omega
    have ht64 : sb.ttl.size ≤ 64 := HTL.out.1
    have HV := Lib.hid (show Sb (w2.alloc (.cells #[.int .u8 (sb.ttl.size : Int)] 5)) (some ⟨w2.heap.size, 0, none⟩) 1 [(sb.ttl.size : Int)] from (By.lit w2 [(sb.ttl.size : Int)] 1 #[.int .u8 (sb.ttl.size : Int)] rfl rfl (by omega)).sb)
    have HW := Lib.hid (show Below w2.heap.size w2 (w2.alloc (.cells #[.int .u8 (sb.ttl.size : Int)] 5)) from (Below.refl _ _).alloc (Nat.le_refl _) _)
    have HW2 := Lib.hid (H2.out.1.below HW.out)
    go_upto_region 9 with (at_builtin; refine wpList_appB _ rfl _ _ rfl w1.heap.size (some ⟨w1.heap.size, 0, none⟩) 5 5 _ rfl HW2.out (some ⟨w2.heap.size, 0, none⟩) 1 1 6 rfl _ rfl HV.out (by omega) (Nat.le_trans H2.out.2.size HW.out.size) ?_; intro A4 c4 w4 hown hg4)
    have H4 := Lib.hid (show By w1.heap.size w4 A4 6 c4 (P5 ++ [(sb.ttl.size : Int)]) ∧ Below w1.heap.size w1 w4 from ⟨hown, (H2.out.2.trans (HW.out.mono H2.out.2.size)).grown hg4 (Nat.le_trans H2.out.2.size HW.out.size) (fun k hk => HW2.out.ownB k hk)⟩)
    clear hown hg4 d7 u5 HV HW HW2
    have d7 := (sx_cells (H0.out.on H4.out.2).b2).c7
    go_wp2_with (at_builtin; refine wpList_appStr _ rfl _ _ rfl w1.heap.size A4 6 c4 _ rfl H4.out.1 sb.ttl rfl (by omega) (by omega) H4.out.2.size ?_; intro A5 c5 w5 hown hg5)
    have H5 := Lib.hid (show By w1.heap.size w5 A5 (6 + sb.ttl.size) c5 (P5 ++ (if b.title ≠ base.title then (b.title.length : Int) :: b.title else [])) ∧ Below w1.heap.size w1 w5 from by
     refine ⟨?_, H4.out.2.grown hg5 H4.out.2.size (fun k hk => H4.out.1.ownB k hk)⟩
     rw [if_pos HTY.out, HTL.out.2.2, HTL.out.2.1]
     rw [List.append_assoc] at hown
     exact hown)
    clear hown hg5 d7
    go_meet
    case rel => exact ⟨_, _, _, rfl, H5.out.1, H5.out.2⟩
 case rest =>
 obtain ⟨A8, n8, c8, rfl, h1, h2⟩ := hcut
 have W8 := Lib.hid (And.intro h1 h2)
 clear h1 h2 H2
 have HLT8 := Lib.hid (fun q hq => (W8.out.1.own.lt q hq).2)
 have HN8 := Lib.hid (show n8 ≤ 1000 from by
  have h1 := W8.out.1.len
  rw [HP5.out] at h1
  have h2 := HTL.out
  by_cases e : b.title ≠ base.title
  · rw [if_pos e] at h1; simp at h1; omega
  · rw [if_neg e] at h1; simp at h1; omega)
 obtain ⟨w10, hw10⟩ : ∃ w10, w10 = wc.alloc (.cells #[] 5) := ⟨_, rfl⟩
 have W10 := Lib.hid (show S2 w w10 b3 sa sb ∧ By w1.heap.size w10 A8 n8 c8 (P5 ++ (if b.title ≠ base.title then (b.title.length : Int) :: b.title else [])) ∧ Below w1.heap.size w1 w10 ∧ By wc.heap.size w10 (some ⟨wc.heap.size, 0, none⟩) 0 0 [] ∧ wc.heap.size ≤ w10.heap.size from by
  have hb : Below wc.heap.size wc w10 := by rw [hw10]; exact (Below.refl _ _).alloc (Nat.le_refl _) _
  exact ⟨(H0.out.on W8.out.2).on hb, W8.out.1.below hb, W8.out.2.trans (hb.mono W8.out.2.size), by rw [hw10]; exact By.lit wc [] 0 #[] rfl rfl (by omega), hb.size⟩)
 have WZ := Lib.hid (show ∀ w', Below wc.heap.size w10 w' → By w1.heap.size w' A8 n8 c8 (P5 ++ (if b.title ≠ base.title then (b.title.length : Int) :: b.title else [])) ∧ S2 w w' b3 sa sb ∧ Below w.heap.size w w' from fun w' hb => by
  have hb2 : Below wc.heap.size wc w' := by
   have h1 : Below wc.heap.size wc w10 := by rw [hw10]; exact (Below.refl _ _).alloc (Nat.le_refl _) _
   exact h1.trans hb
  exact ⟨W8.out.1.below hb2, (H0.out.on W8.out.2).on hb2, ((H0.out.on W8.out.2).on hb2).bel⟩)
 go_upto_region 13 with fail
 rw [← hw10]
 clear hw10 W8
 go_loopw [9, 10, 11] (fun v9 v10 v11 wr => ∃ (y : Nat) (A : Option Addr) (m cc : Nat), y ≤ r ∧ v11 = .int .i64 y ∧ v10 = .int .i64 ((unTo c base.cells b.cells y).length : Int) ∧ v9 = .slice A m cc ∧ By wc.heap.size wr A m cc ((unTo c base.cells b.cells y).flatMap (rowBy c b.cells)) ∧ Below wc.heap.size w10 wr) (fun _ _ v _ => r - (intOf v).toNat)
 case atStart => exact ⟨0, _, 0, 0, Nat.zero_le _, rfl, rfl, rfl, W10.out.2.2.2.1, Below.refl _ _ |>.mono W10.out.2.2.2.2⟩
 case round =>
  obtain ⟨y, A, m, cc, hyr, rfl, rfl, rfl, hby, hbel⟩ := hrel
  have Y := Lib.hid (And.intro hby (And.intro hbel (WZ.out _ hbel)))
  clear hby hbel
  obtain ⟨e0, e1, e2, e3, e4, e5, e6, e7, e8, _⟩ := sx_cells Y.out.2.2.2.1.b1
  obtain ⟨d0, d1, d2, d3, d4, d5, d6, d7, d8, _⟩ := sx_cells Y.out.2.2.2.1.b2
  clear e0 e1 e3 e4 e5 e6 e7 e8 d3 d4 d5 d6 d7 d8
  rw [HCR.out.1] at d0
  rw [HCR.out.2] at d1
  by_cases hlt : y < r
  · have hyl : (y : Int) < (r : Int) := by omega
    obtain ⟨Y0, hY0⟩ : ∃ Y0 : Nat, Y0 = y * c := ⟨_, rfl⟩
    have hmul : (y : Int) * (c : Int) = (Y0 : Int) := by rw [hY0]; simp
    have hsn : sa.n = r * c ∧ sb.n = r * c := ⟨by rw [← HI.out.1.cells.len, HA.out.1.el]; exact HA.out.1.gk.box.flen, by rw [← HI.out.2.cells.len, HA.out.2.el]; exact HA.out.2.gk.box.flen⟩
    have hle : Y0 + c ≤ r * c := by
     have := Nat.mul_le_mul_right c (show y + 1 ≤ r by omega)
     rw [Nat.succ_mul] at this
     omega
    have hsm := HA.out.2.gk.small
    have q0 : IntKind.i64.wrap ((y : Int) * (c : Int)) = (Y0 : Int) := by rw [hmul, IntKind.wrap_i64]; omega
    have q1 : IntKind.i64.wrap ((Y0 : Int) + (c : Int)) = (Y0 : Int) + (c : Int) := by rw [IntKind.wrap_i64]; omega
    have p0 : (0 : Int) ≤ (Y0 : Int) := by omega
    have p1 : (Y0 : Int) ≤ (Y0 : Int) + (c : Int) := by omega
    have p2 : (Y0 : Int) + (c : Int) ≤ (sa.k : Int) := by have := HI.out.1.nk; omega
    have p3 : (Y0 : Int) + (c : Int) ≤ (sb.k : Int) := by have := HI.out.2.nk; omega
    have HY := Lib.hid (And.intro hY0 (And.intro hsn hle))
    clear hmul hY0 hsn hle hsm
    have hc1 := HA.out.2.gk.c1
    have hk1 : ¬ (sa.k = Y0) := by omega
    have hk2 : ¬ (sb.k = Y0) := by omega
    have V1 := Lib.hid (show Vs ceV wr (sa.A.map (·.add (Y0 * 6))) c (rowAt c base.cells y) from by
     have h1 := (HI0.out.1.cells.below Y.out.2.2.2.2).cut ceV_len (k := Y0) (c := sa.k) (by have := HY.out.2.1.1; have := HY.out.2.2; omega) HI0.out.1.nk
     have h2 := h1.front ceV_len (k := c) (by have := HY.out.2.1.1; have := HY.out.2.2; omega)
     rw [if_neg hk1] at h2
     rw [HY.out.1] at h2 ⊢
     exact h2)
    have V2 := Lib.hid (show Vs ceV wr (sb.A.map (·.add (Y0 * 6))) c (rowAt c b.cells y) from by
     have h1 := (HI0.out.2.cells.below Y.out.2.2.2.2).cut ceV_len (k := Y0) (c := sb.k) (by have := HY.out.2.1.2; have := HY.out.2.2; omega) HI0.out.2.nk
     have h2 := h1.front ceV_len (k := c) (by have := HY.out.2.1.2; have := HY.out.2.2; omega)
     rw [if_neg hk2] at h2
     rw [HY.out.1] at h2 ⊢
     exact h2)
    have hlen : ((Y0 : Int) + (c : Int)).toNat - Y0 = c := by omega
    obtain ⟨U, hU⟩ : ∃ U, decide (rowAt c base.cells y = rowAt c b.cells y) = U := ⟨_, rfl⟩
    have HU := Lib.hid hU
    go_upto_region 15 with fail
    go_region_held3 (fun w' => w'.cell? ⟨b3, 2, none⟩ = some (.slice sa.A sa.n sa.k) ∧ w'.cell? ⟨b3 + 1, 0, none⟩ = some (.int .i64 (c : Int)) ∧ w'.cell? ⟨b3 + 1, 2, none⟩ = some (.slice sb.A sb.n sb.k))
     (exact ⟨e2, d0, d2⟩)
     ((first
      | (go_at_call 35; refine (sameC_any (V1.out.drewN 1) (V2.out.drewN 1) (by omega) (by omega)).mono ?_; rintro e wq ⟨rfl, q, rfl⟩; rw [hU])))
    obtain ⟨w11, hw11⟩ : ∃ x, x = wr.drewN (1 + q) := ⟨_, rfl⟩
    have Y1 := Lib.hid (show By wc.heap.size w11 A m cc ((unTo c base.cells b.cells y).flatMap (rowBy c b.cells)) ∧ Below wc.heap.size w10 w11 ∧ S2 w w11 b3 sa sb ∧ Below w.heap.size w w11 from by
     have hb : Below wr.heap.size wr w11 := by rw [hw11]; exact belowN (Below.refl _ _) (1 + q)
     have hb2 : Below wc.heap.size w10 w11 := Y.out.2.1.trans (hb.mono (Nat.le_trans W10.out.2.2.2.2 Y.out.2.1.size))
     exact ⟨Y.out.1.below hb, hb2, (WZ.out _ hb2).2.1, (WZ.out _ hb2).2.2⟩)
    rw [← hw11]
    clear hw11 V1 V2 e2 d0 d1 d2 Y hlen hU q0 q1 p0 p1 p2 p3 hk1 hk2 hc1
    cases U
    · have hE := Lib.hid (unTo_yes (of_decide_eq_false HU.out))
      have HML := Lib.hid (show m ≤ 100000 from by
       have h1 := Y1.out.1.len
       rw [HA.out.2.el, un_len HA.out.2.gk.box _ (fun z hz => by have := unTo_lt hz; omega)] at h1
       have h2 := unTo_len c base.cells LL.flatten y
       have h3 := HA.out.2.gk.c80
       have h4 := HA.out.2.gk.r24
       have h5 : (unTo c base.cells LL.flatten y).length * (1 + 9 * c) ≤ 24 * 721 := Nat.mul_le_mul (by omega) (by omega)
       omega)
      have hm5 := HML.out
      obtain ⟨u, hu⟩ : ∃ u, u = (unTo c base.cells b.cells y).length := ⟨_, rfl⟩
      have hu24 : u ≤ 24 := by rw [hu]; have := unTo_len c base.cells b.cells y; have := HA.out.2.gk.r24; omega
      rw [← hu]
      have HUU := Lib.hid (show ((unTo c base.cells b.cells (y + 1)).length : Int) = (u : Int) + 1 from by rw [hE.out, List.length_append, ← hu]; simp)
      clear hu
      obtain ⟨L0, hL0⟩ : ∃ L0, L0 = (unTo c base.cells b.cells y).flatMap (rowBy c b.cells) := ⟨_, rfl⟩
      have HL0 := Lib.hid hL0
      rw [← hL0] at Y1
      clear hL0
      have uy : IntKind.u8.wrap (y : Int) = (y : Int) := by rw [IntKind.wrap_u8]; have := HA.out.2.gk.r24; omega
      have HV := Lib.hid (show Sb (w11.alloc (.cells #[.int .u8 (y : Int)] 5)) (some ⟨w11.heap.size, 0, none⟩) 1 [(y : Int)] from (By.lit w11 [(y : Int)] 1 #[.int .u8 (y : Int)] rfl rfl (by omega)).sb)
      have HW := Lib.hid (show Below w11.heap.size w11 (w11.alloc (.cells #[.int .u8 (y : Int)] 5)) from (Below.refl _ _).alloc (Nat.le_refl _) _)
      have HW2 := Lib.hid (Y1.out.1.below HW.out)
      have HZ := Lib.hid (show wc.heap.size ≤ w11.heap.size from Nat.le_trans W10.out.2.2.2.2 Y1.out.2.1.size)
      go_upto_region 18 with (at_builtin; refine wpList_appB _ rfl _ _ rfl wc.heap.size A m cc _ rfl HW2.out (some ⟨w11.heap.size, 0, none⟩) 1 1 (m + 1) rfl _ rfl HV.out (by omega) (Nat.le_trans HZ.out HW.out.size) ?_; intro A4 c4 w4 hown hg4)
      have H4 := Lib.hid (show By wc.heap.size w4 A4 (m + 1) c4 (L0 ++ (y : Int) :: ((rowAt c b.cells y).take 0).flatMap cellB) ∧ Below wc.heap.size w10 w4 from ⟨hown, (Y1.out.2.1.trans (HW.out.mono HZ.out)).grown hg4 (Nat.le_trans HZ.out HW.out.size) (fun k hk => HW2.out.ownB k hk)⟩)
      clear hown hg4 HV HW HW2 uy Y1 HZ
      go_upto_region 19 with fail
      have hcc := HA.out.2.gk.c80
      go_loopw [9, 12] (fun v9 v12 wr => ∃ (x : Nat) (A : Option Addr) (m cc : Nat), x ≤ c ∧ v12 = .int .i64 x ∧ v9 = .slice A m cc ∧ m ≤ 100001 + 9 * x ∧ By wc.heap.size wr A m cc (L0 ++ (y : Int) :: ((rowAt c b.cells y).take x).flatMap cellB) ∧ Below wc.heap.size w10 wr) (fun _ v _ => c - (intOf v).toNat)
      case atStart => exact ⟨0, A4, m + 1, c4, Nat.zero_le _, rfl, rfl, by omega, H4.out.1, H4.out.2⟩
      case round =>
       obtain ⟨x, A5, m5, c5, hx, rfl, rfl, hm5b, h1, h2⟩ := hrel
       have X := Lib.hid (And.intro h1 (And.intro h2 (WZ.out _ h2)))
       clear h1 h2 H4
       obtain ⟨d0, d1, d2, d3, d4, d5, d6, d7, d8, _⟩ := sx_cells X.out.2.2.2.1.b2
       clear d1 d3 d4 d5 d6 d7 d8
       rw [HCR.out.1] at d0
       by_cases hxl : x < c
       · have hxl2 : (x : Int) < (c : Int) := by omega
         have hmul : (y : Int) * (c : Int) = (Y0 : Int) := by rw [HY.out.1]; simp
         have hsm := HA.out.2.gk.small
         have q0 : IntKind.i64.wrap ((y : Int) * (c : Int)) = (Y0 : Int) := by rw [hmul, IntKind.wrap_i64]; have := HY.out.2.2; omega
         have q1 : IntKind.i64.wrap ((Y0 : Int) + (x : Int)) = ((Y0 + x : Nat) : Int) := by rw [IntKind.wrap_i64]; have := HY.out.2.2; omega
         obtain ⟨K, hK⟩ : ∃ K, K = Y0 + x := ⟨_, rfl⟩
         rw [← hK] at q1
         have hKn : K < sb.n := by have := HY.out.2.1.2; have := HY.out.2.2; omega
         have hKi : (K : Int) < (sb.n : Int) := by omega
         obtain ⟨ad, had⟩ := HI0.out.2.cells.addr (by omega)
         have hv := HI0.out.2.cells.below X.out.2.2.2.2
         rw [had] at hv
         have hs6 := hv.six hKn
         obtain ⟨z, hz⟩ : ∃ z, z = cAt b.cells K := ⟨_, rfl⟩
         rw [← hz] at hs6
         obtain ⟨a0, a1, a2, a3, a4, a5⟩ := hs6
         rw [had] at d2
         have hzr : (rowAt c b.cells y)[x]? = some z := by
          have hbl : b.cells.length = r * c := by rw [HI0.out.2.cells.len]; exact HY.out.2.1.2
          have hKl : K < b.cells.length := by rw [hbl]; have := HY.out.2.2; omega
          unfold rowAt
          rw [List.getElem?_take, if_pos hxl, List.getElem?_drop, ← HY.out.1, ← hK, hz]
          exact getElem?_cAt hKl
         have HZF := Lib.hid (show FitC z from by
          have h1 := HA.out.2.fit y hlt
          rw [HA.out.2.el, rowAt_flat HA.out.2.gk.box hlt] at hzr
          exact h1 z (List.mem_of_getElem? hzr))
         have HTK := Lib.hid (show (rowAt c b.cells y).take (x + 1) = (rowAt c b.cells y).take x ++ [z] from by rw [List.take_add_one, hzr]; rfl)
         clear hv had hz hzr hmul hK hsm
         go_wp2_with fail
         refine (rCell_any (x := z) _ ⟨HZF.out.rune.1, by have := HZF.out.rune; omega⟩ ⟨HZF.out.fg0, by have := HZF.out.fg; omega⟩ ⟨HZF.out.bg0, by have := HZF.out.bg; omega⟩).mono ?_
         rintro e w6 ⟨hb6, A6, c6, rfl, hy6⟩
         rw [cellB_len] at hy6 ⊢
         have HZB := Lib.hid (show wc.heap.size ≤ wr.heap.size from Nat.le_trans W10.out.2.2.2.2 X.out.2.1.size)
         have X6 := Lib.hid (show By wc.heap.size w6 A5 m5 c5 (L0 ++ (y : Int) :: ((rowAt c b.cells y).take x).flatMap cellB) ∧ Sb w6 A6 9 (cellB z) ∧ Below wc.heap.size w10 w6 ∧ wc.heap.size ≤ w6.heap.size from ⟨X.out.1.below hb6, hy6.sb, X.out.2.1.trans (hb6.mono HZB.out), Nat.le_trans HZB.out hb6.size⟩)
         clear hb6 hy6 X a0 a1 a2 a3 a4 a5 d0 d2 q0 q1 hKn hKi
         go_upto_region 20 with (at_builtin; refine wpList_appB _ rfl _ _ rfl wc.heap.size A5 m5 c5 _ rfl X6.out.1 A6 9 c6 (m5 + 9) rfl _ rfl X6.out.2.1 (by omega) X6.out.2.2.2 ?_; intro A7 c7 w7 hown hg7)
         have X7 := Lib.hid (show By wc.heap.size w7 A7 (m5 + 9) c7 (L0 ++ (y : Int) :: ((rowAt c b.cells y).take (x + 1)).flatMap cellB) ∧ Below wc.heap.size w10 w7 from by
          refine ⟨?_, X6.out.2.2.1.grown hg7 X6.out.2.2.2 (fun k hk => X6.out.1.ownB k hk)⟩
          rw [HTK.out, List.flatMap_append]
          have e : [z].flatMap cellB = cellB z := by simp
          rw [e]
          rw [List.append_assoc, List.cons_append] at hown
          exact hown)
         clear hown hg7 X6
         go_wp2_with fail
         go_roundw
         case rel => exact ⟨x + 1, A7, m5 + 9, c7, by omega, by go_num, rfl, by omega, X7.out.1, X7.out.2⟩
         case measure => simp [intOf]; omega
       · have hxc : x = c := by omega
         have HFIN := Lib.hid (show By wc.heap.size wr A5 m5 c5 ((unTo c base.cells b.cells (y + 1)).flatMap (rowBy c b.cells)) from by
          have h1 := X.out.1
          have hbl : (rowAt c b.cells y).length = c := by rw [HA.out.2.el, rowAt_flat HA.out.2.gk.box hlt]; exact HA.out.2.gk.box.row y hlt
          rw [hxc, List.take_of_length_le (by omega)] at h1
          rw [hE.out, List.flatMap_append, ← HL0.out]
          have e : [y].flatMap (rowBy c b.cells) = rowBy c b.cells y := by simp
          rw [e]
          exact h1)
         go_wp2_with fail
         go_roundw
         case rel => exact ⟨y + 1, A5, m5, c5, by omega, by go_num, by rw [HUU.out], rfl, HFIN.out, X.out.2.1⟩
         case measure => simp [intOf]; omega
    · have hE := Lib.hid (unTo_no (of_decide_eq_true HU.out))
      go_wp2_with fail
      go_roundw
      case rel => exact ⟨y + 1, A, m, cc, by omega, by go_num, by rw [hE.out], rfl, by rw [hE.out]; exact Y1.out.1, Y1.out.2.1⟩
      case measure => simp [intOf]; omega
  · have hyr2 : y = r := by omega
    subst hyr2
    have HML := Lib.hid (show m ≤ 100000 from by
     have h1 := Y.out.1.len
     rw [HA.out.2.el, un_len HA.out.2.gk.box _ (fun z hz => unTo_lt hz)] at h1
     have h2 := unTo_len c base.cells LL.flatten y
     have h3 := HA.out.2.gk.c80
     have h4 := HA.out.2.gk.r24
     have h5 : (unTo c base.cells LL.flatten y).length * (1 + 9 * c) ≤ 24 * 721 := Nat.mul_le_mul (by omega) (by omega)
     omega)
    have HUL := Lib.hid (unTo_all c y base.cells b.cells)
    rw [HUL.out] at Y ⊢
    obtain ⟨u, hu⟩ : ∃ u, u = (unlike c y base.cells b.cells).length := ⟨_, rfl⟩
    have hu24 : u ≤ 24 := by rw [hu, ← HUL.out]; have := unTo_len c base.cells b.cells y; have := HA.out.2.gk.r24; omega
    have HU := Lib.hid hu
    rw [← hu]
    clear hu
    have uu : IntKind.u8.wrap (u : Int) = (u : Int) := by rw [IntKind.wrap_u8]; omega
    have hm5 := HML.out
    have hn8 := HN8.out
    obtain ⟨TI, hTI⟩ : ∃ TI, TI = (if b.title ≠ base.title then (b.title.length : Int) :: b.title else []) := ⟨_, rfl⟩
    have HTI := Lib.hid hTI
    rw [← hTI] at Y
    clear hTI e2 d0 d2
    have HV := Lib.hid (show Sb (wr.alloc (.cells #[.int .u8 (u : Int)] 5)) (some ⟨wr.heap.size, 0, none⟩) 1 [(u : Int)] from (By.lit wr [(u : Int)] 1 #[.int .u8 (u : Int)] rfl rfl (by omega)).sb)
    have HW := Lib.hid (show Below wr.heap.size wr (wr.alloc (.cells #[.int .u8 (u : Int)] 5)) from (Below.refl _ _).alloc (Nat.le_refl _) _)
    have HB1 := Lib.hid (show w1.heap.size ≤ wr.heap.size from by have h1 := W10.out.2.2.1.size; have h2 := Y.out.2.1.size; omega)
    have HO := Lib.hid (Y.out.2.2.1.below HW.out)
    have HR := Lib.hid (Y.out.1.below HW.out)
    go_upto_region 23 with (at_builtin; refine wpList_appB _ rfl _ _ rfl w1.heap.size A8 n8 c8 _ rfl HO.out (some ⟨wr.heap.size, 0, none⟩) 1 1 (n8 + 1) rfl _ rfl HV.out (by omega) (Nat.le_trans HB1.out HW.out.size) ?_; intro A4 c4 w4 hown hg4)
    have H4 := Lib.hid (show By w1.heap.size w4 A4 (n8 + 1) c4 (P5 ++ TI ++ [(u : Int)]) ∧ Sb w4 A m ((unlike c y base.cells b.cells).flatMap (rowBy c b.cells)) ∧ Below w.heap.size w w4 ∧ w1.heap.size ≤ w4.heap.size from by
     have hs := hg4.size
     refine ⟨hown, (HR.out.grownO hg4 (fun g e e2 => ?_)).sb, (Y.out.2.2.2.2.trans (HW.out.mono Y.out.2.2.2.2.size)).grown hg4 (Nat.le_trans Y.out.2.2.2.2.size HW.out.size) (fun k hk => by have h1 := HO.out.ownB k hk; have h2 := H0.out.bel.size; omega), Nat.le_trans HB1.out (Nat.le_trans HW.out.size hs)⟩
     have h1 := HR.out.ownB g e
     have h2 := HLT8.out g e2
     omega)
    clear hown hg4 HV HW HO HR uu Y
    go_wp2_with (at_builtin; refine wpList_appB _ rfl _ _ rfl w1.heap.size A4 (n8 + 1) c4 _ rfl H4.out.1 A m cc (n8 + 1 + m) rfl _ rfl H4.out.2.1 (by omega) H4.out.2.2.2 ?_; intro A6 c6 w6 hown hg6)
    have X : ByOwn (diffS base b fl) w (.returned (.slice A6 (n8 + 1 + m) c6)) w6 := by
     have e : diffS base b fl = P5 ++ TI ++ [(u : Int)] ++ (unlike c y base.cells b.cells).flatMap (rowBy c b.cells) := by
      unfold diffS
      rw [HP5.out, HTI.out, HU.out, HA.out.2.ec, HA.out.2.er, Int.toNat_natCast, Int.toNat_natCast, HF2.out, HI0.out.2.x, HI0.out.2.y]
      simp only [List.append_assoc, List.cons_append, List.nil_append]
     have hl := hown.len
     rw [← e] at hown hl
     refine ⟨H4.out.2.2.1.grown hg6 H4.out.2.2.1.size (fun k hk => by have h1 := H4.out.1.ownB k hk; have h2 := H0.out.bel.size; omega), A6, c6, by rw [hl], ?_⟩
     rw [hl]
     exact hown.lower H0.out.bel.size
    clear hown hg6
    go_ret
    exact X
end Go.Proofs.YtikhknnhmnopbaaDoor
