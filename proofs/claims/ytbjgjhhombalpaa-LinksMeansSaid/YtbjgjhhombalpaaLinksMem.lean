/-
  Rows of texts: read, copied, appended to, stored into.
-/
import Derived.Test.YtbjgjhhombalpaaLinksSpec
import Derived.Test.YtbjgjhhombalpaaCellSame
import Derived.Laws.CopyOwn
import Derived.Deep.OwnRows
namespace Go.Proofs.Ytbjgjhhombalpaa
open Go.RowKit

theorem eqBB (a b : ByteArray) : (a.toList == b.toList) = decide (a = b) := by
  rw [Bool.eq_iff_iff]
  simp only [ByteArray.toList_eq, beq_iff_eq, decide_eq_true_eq]
  exact ⟨fun h => WideShapes.bytes_inj h, fun h => by rw [h]⟩
theorem eqBB_yes {a b : ByteArray} (h : (a.toList == b.toList) = true) : a = b := by rw [eqBB] at h; exact of_decide_eq_true h
theorem eqBB_no {a b : ByteArray} (h : (a.toList == b.toList) = false) : a ≠ b := by rw [eqBB] at h; exact of_decide_eq_false h
theorem empB (x : ByteArray) : x.toList.isEmpty = decide (x = eT) := by
  rw [Bool.eq_iff_iff, decide_eq_true_eq, List.isEmpty_iff, ByteArray.toList_eq]
  exact ⟨fun h => WideShapes.bytes_inj h, fun h => by rw [h]; rfl⟩
theorem emp_yes {x : ByteArray} (h : x = eT) : (!x.toList.isEmpty) = false := by rw [empB, decide_eq_true h]; rfl
theorem emp_no {x : ByteArray} (h : x ≠ eT) : (!x.toList.isEmpty) = true := by rw [empB, decide_eq_false h]; rfl
def stV (s : ByteArray) : List Value := [.string s]
theorem stV_len (s : ByteArray) : (stV s).length = 1 := rfl
theorem rowT_len (L : List ByteArray) : (rowV stV L).length = L.length := by rw [rowV_len stV_len, Nat.mul_one]
theorem one_st (L : List ByteArray) : ∀ v ∈ rowV stV L, v.oneCell' = true := by
  induction L with
  | nil => intro v hv; cases hv
  | cons c L ih =>
    intro v hv
    rcases List.mem_append.1 hv with hv | hv
    · rw [List.mem_singleton.1 hv]; rfl
    · exact ih v hv
theorem rowT_map (L : List ByteArray) : rowV stV L = L.map Value.string := by
  induction L with
  | nil => rfl
  | cons c L ih => rw [rowV, ih]; rfl
theorem rowT_get {L : List ByteArray} {k : Nat} (h : k < L.length) : (rowV stV L)[k]? = some (.string (sAt L k)) := by
  rw [rowT_map, List.getElem?_map, getElem?_sAt h]
  rfl
theorem rowT_set (L : List ByteArray) (k : Nat) (s : ByteArray) : (rowV stV L).set k (.string s) = rowV stV (L.set k s) := by
  rw [rowT_map, rowT_map, List.map_set]
theorem Vs.str {w : World} {ad : Addr} {n : Nat} {L : List ByteArray} (h : Vs stV w (some ad) n L) {k : Nat} (hk : k < n) : w.cell? (ad.add k) = some (.string (sAt L k)) :=
  h.news _ _ (rowT_get (by rw [h.len]; exact hk))

theorem infoTx : (Try.prog.info? 9).map (fun i => (i.zero, i.size, i.bytes)) = some (some (.string eT), 1, 16) := by kernel_rfl
theorem infoTx1 : (Try.prog.info? 9).map (·.size) = some 1 := by kernel_rfl

/-- A slice of texts in memory of the call's own. -/
structure Tx (base : Nat) (w : World) (A : Option Addr) (n c : Nat) (L : List ByteArray) : Prop where
  len : L.length = n
  le : n ≤ c
  max : c ≤ maxLen
  own : w.ownsRow base 9 1 (.slice A n c) n (rowV stV L)
section
variable {base : Nat} {w w' : World} {A : Option Addr} {n c : Nat} {L : List ByteArray}

theorem Tx.mk' (h : w.ownsRow base 9 1 (.slice A n c) n (rowV stV L)) : Tx base w A n c L := by
  obtain ⟨A', c', e, h1, h2⟩ := own_shape h
  injection e with e1 e2 e3
  subst e1 e3
  exact ⟨by have := h.1; rw [rowT_len] at this; omega, h1, h2, h⟩
theorem Tx.vs (h : Tx base w A n c L) : Vs stV w A n L := own_vs h.len h.own
theorem Tx.lower {B : Nat} (h : Tx base w A n c L) (hB : B ≤ base) : Tx B w A n c L := ⟨h.len, h.le, h.max, own_base h.own hB⟩
theorem Tx.nil (base : Nat) (w : World) : Tx base w none 0 0 [] := ⟨rfl, Nat.le_refl _, by unfold maxLen; omega, World.ownsRow_nil _ _ _ _⟩
theorem Tx.keep (h : Tx base w A n c L) (hs : ∀ g, base ≤ g → g < w.heap.size → w'.heap[g]? = w.heap[g]?) : Tx base w' A n c L := by
  refine ⟨h.len, h.le, h.max, h.own.1, ?_⟩
  rcases h.own.2 with h1 | ⟨g, cap, cur, hv, hb, hg, hr⟩
  · exact .inl h1
  · exact .inr ⟨g, cap, cur, hv, hb, (hs g hb (Array.getElem?_eq_some_iff.1 hg).1).trans hg, hr⟩
theorem Tx.below (h : Tx base w A n c L) (hb : Below w.heap.size w w') : Tx base w' A n c L := h.keep fun g _ hg => hb.block g hg
theorem Tx.drewN (h : Tx base w A n c L) (q : Nat) : Tx base (w.drewN q) A n c L := h.keep fun _ _ _ => rfl
/-- Its block, if there is a text in it. -/
theorem Tx.blk (h : Tx base w A n c L) (hn : 0 < n) : ∃ g, A = Option.some ⟨g, 0, none⟩ ∧ base ≤ g ∧ g < w.heap.size ∧ (∀ k, w.frozen? ⟨g, k, none⟩ = false) := by
  obtain ⟨g, e, hb, _, _, hR⟩ := own_some hn h.own
  exact ⟨g, e, hb, hR.lt, fun k => hR.free k⟩
theorem Tx.grown (h : Tx base w A n c L) {row : Option Nat} (hg : w.grownBy w' row) (hne : ∀ g, A = Option.some ⟨g, 0, none⟩ → row ≠ Option.some g) : Tx base w' A n c L := by
  refine ⟨h.len, h.le, h.max, h.own.1, ?_⟩
  rcases h.own.2 with h1 | ⟨g, cap, cur, hv, hb, hgg, hr⟩
  · exact .inl h1
  · injection hv with hA
    exact .inr ⟨g, cap, cur, by rw [hA]; simp_all, hb, (hg.block g (Array.getElem?_eq_some_iff.1 hgg).1 (fun e => hne g hA e.symm)).trans hgg, hr⟩
theorem Tx.ownB (h : Tx base w A n c L) : ∀ k, (Value.slice A n c).ownBlock = Option.some k → base ≤ k := by
  intro k hk
  rcases h.own.2 with ⟨h1, _⟩ | ⟨g, cap, cur, hv, hb, _⟩
  · rw [h1] at hk
    cases hk
  · rw [hv] at hk
    injection hk with hk
    rw [← hk]
    exact hb
/-- A text stored into it. -/
theorem Tx.stored {g : Nat} (h : Tx base w (Option.some ⟨g, 0, none⟩) n c L) (k : Nat) (s : ByteArray) :
    Tx base (w.setCell ⟨g, k, none⟩ (.string s)) (Option.some ⟨g, 0, none⟩) n c (L.set k s) ∧ w.grownBy (w.setCell ⟨g, k, none⟩ (.string s)) (Option.some g) := by
  refine ⟨⟨by rw [List.length_set]; exact h.len, h.le, h.max, by rw [rowT_len, List.length_set]; have := h.len; omega, ?_⟩, grownBy_set w ⟨g, k, none⟩ _⟩
  rcases h.own.2 with ⟨h1, _⟩ | ⟨g', cap, cur, hv, hb, hgg, hle, hm, hs, ht⟩
  · cases h1
  · injection hv with hA _ hc
    injection hA with hA
    injection hA with hA
    subst hA
    subst hc
    refine .inr ⟨g, c, cur.setIfInBounds k (.string s), rfl, hb, ?_, hle, hm, by simpa using hs, ?_⟩
    · exact heap_setCell_same w g k _ _ _ hgg
    · rw [← rowT_set, ← ht, Array.toList_setIfInBounds, List.take_set]
theorem Tx.front (h : Tx base w A n c L) {k : Nat} (hk : k ≤ n) : Tx base w A k c (L.take k) := by
  have hl := h.len
  refine ⟨by rw [List.length_take]; omega, Nat.le_trans hk h.le, h.max, by rw [rowT_len, List.length_take]; omega, ?_⟩
  rcases h.own.2 with ⟨h1, h2⟩ | ⟨g', cap, cur, hv, hb, hgg, hle, hm, hs, ht⟩
  · injection h1 with hA _ hc
    exact .inl ⟨by rw [hA, hc, show k = 0 by omega], by omega⟩
  · injection hv with hA _ hc
    refine .inr ⟨g', cap, cur, by rw [hA, hc], hb, hgg, by omega, hm, hs, ?_⟩
    rw [Nat.mul_one] at ht ⊢
    have e := rowV_take stV_len L k
    rw [Nat.mul_one] at e
    rw [← e, ← ht, List.take_take, Nat.min_eq_left hk]
end

theorem litT (w : World) (u : ByteArray) : Vs stV (w.alloc (.cells #[.string u] 9)) (some ⟨w.heap.size, 0, none⟩) 1 [u] := (made_rw (f := stV) w 9 [u]).vs
/-- What a call answers: a slice of texts of its own. -/
def TxPost (L : List ByteArray) (w : World) (v : Value) (w' : World) : Prop := Below w.heap.size w w' ∧ ∃ A c, v = .slice A L.length c ∧ Tx w.heap.size w' A L.length c L
theorem Tx.post {w w' : World} {A : Option Addr} {n c : Nat} {L : List ByteArray} (h : Tx w.heap.size w' A n c L) (hb : Below w.heap.size w w') : TxPost L w (.slice A n c) w' := by
  obtain rfl := h.len
  exact ⟨hb, A, c, rfl, h⟩

/-- append onto a slice of texts of the call's own, of any slice of texts. -/
theorem wpList_appT (w : World) {ops : Array Oper} {rest : List Oper} {o : Oper} {a : Act} {Q : Exit → Act → World → Prop} (hgd : o.guard = none) (s x : Operand)
    (ho : o.op = .call { callee := .builtin .append, args := #[s, x], argTypes := #[23, 23] }) (base : Nat)
    (A0 : Option Addr) (n c0 : Nat) (L : List ByteArray) (hs : a.eval s = .slice A0 n c0) (hown : Tx base w A0 n c0 L)
    (A : Option Addr) (m c k : Nat) (hk : n + m = k) (M : List ByteArray) (hx : a.eval x = .slice A m c) (hr : Vs stV w A m M) (h63 : k ≤ 1000000) (hbase : base ≤ w.heap.size)
    (h : ∀ A' c' w', Tx base w' A' k c' (L ++ M) → w.grownBy w' (Value.slice A0 n c0).ownBlock → wpList Try.prog ops Q rest (a.put o.dst (.slice A' k c')) w') : wpList Try.prog ops Q (o :: rest) a w :=
  wpList_app_V w hgd s x _ ho stV_len one_st base 9 (.string eT) 16 (by omega) Try.underlying23 infoTx rfl (by omega) _ n L hs hown.own A m c k hk M hx hr h63 hbase
    fun A' c' w' h1 h2 => h A' c' w' (Tx.mk' h1) h2

theorem made_texts (n : Nat) : madeCells (Value.string eT).cells (n * 1) = (rowV stV (List.replicate n eT)).toArray := made_cells stV_len (by omega) eT n
/-- A new slice of n empty texts. -/
theorem make_texts (n : Nat) (hn : n ≤ 1000000) (w : World) :
    (Instr.makeSlice 23 (.int .i64 (n : Int)) (.int .i64 (n : Int))).run Try.prog w = .ok (.slice (some ⟨w.heap.size, 0, none⟩) n n) (w.alloc (.cells (rowV stV (List.replicate n eT)).toArray 9)) := by
  obtain ⟨i0, hi, hz0, hz1, hz2⟩ := info_parts infoTx
  have hr := run_make (P := Try.prog) w 23 9 i0 _ Try.underlying23 hi hz0 .i64 .i64 n n (by omega) (Int.le_refl _) (by rw [hz2]; omega) (by omega)
  rw [hr, hz1]
  simp only [Int.toNat_natCast]
  rw [made_texts]
theorem Tx.made (w : World) (n : Nat) (hn : n ≤ 1000000) : Tx w.heap.size (w.alloc (.cells (rowV stV (List.replicate n eT)).toArray 9)) (some ⟨w.heap.size, 0, none⟩) n n (List.replicate n eT) := by
  have h := World.ownsRow_lit (base := w.heap.size) (e := 9) (size := 1) w (rowV stV (List.replicate n eT)).toArray n (Nat.le_refl _) (by unfold maxLen; omega) (by simp [rowT_len])
  exact Tx.mk' h
/-- copy of a slice of texts over a whole slice of the call's own that is as long. -/
theorem wpList_cpyT {w : World} {ops : Array Oper} {rest : List Oper} {o : Oper} {a : Act} {Q : Exit → Act → World → Prop} (hgd : o.guard = none) (d s : Operand)
    (ho : o.op = .call { callee := .builtin .copy, args := #[d, s], argTypes := #[23, 23] }) (base : Nat)
    (g n c : Nat) (A : Option Addr) (hd : a.eval d = .slice (some ⟨g, 0, none⟩) n n) (hs : a.eval s = .slice A n c) (L : List ByteArray) (hown : Tx base w (some ⟨g, 0, none⟩) n n L)
    (M : List ByteArray) (hr : Vs stV w A n M)
    (h : ∀ w', Tx base w' (some ⟨g, 0, none⟩) n n M → Below base w w' → wpList Try.prog ops Q rest (a.put o.dst (goInt n)) w') : wpList Try.prog ops Q (o :: rest) a w := by
  rcases hown.own.2 with ⟨h1, _⟩ | ⟨g', cap, cur, h1, hb, hg, hle, hm, hcs, _⟩
  · cases h1
  · injection h1 with h2 _ h3
    injection h2 with h2
    injection h2 with h2
    subst h2
    subst h3
    have hl := hr.len
    have hlen : (rowV stV M).length = n := by rw [rowT_len, hl]
    have hcur : cur.toList.length = n := by simpa using hcs
    have key := wpList_copy_splice (P := Try.prog) (w := w) (ops := ops) (rest := rest) (o := o) (a := a) (Q := Q) hgd d s _ _ ho 9 Try.underlying23 infoTx1 (some ⟨g, 0, none⟩) A n n n c hd hs g 0 cur.toList 9 (by simpa using hg) (rowV stV M) (by rw [hlen]; simp)
      (fun hp => ⟨rfl, by
        obtain ⟨ad, rfl⟩ := hr.addr (by omega)
        exact ⟨ad, rfl, hr.news⟩⟩) (by omega) (one_st _) base w (Below.refl _ _) hb
    rw [hlen] at key
    refine key fun w' hh hbel => h w' (Tx.mk' ⟨by rw [hlen, Nat.mul_one], .inr ⟨g, n, _, rfl, hb, hh.out, Nat.le_refl _, hm, ?_, ?_⟩⟩) hbel
    · simp [splice, hcur, hlen]
    · have : List.drop ((rowV stV M).length) cur.toList = [] := List.drop_eq_nil_of_le (by omega)
      simp [splice, this]
      rw [List.take_of_length_le (by omega)]
end Go.Proofs.Ytbjgjhhombalpaa
