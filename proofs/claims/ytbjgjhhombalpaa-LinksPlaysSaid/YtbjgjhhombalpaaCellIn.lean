/-
  How colours, pens, cells, rows and calls that came in are opened.
-/
import Derived.Test.YtbjgjhhombalpaaOpen
import Derived.Test.YtbjgjhhombalpaaCellMem
import Derived.Deep.Fields
import Derived.Deep.Slices
import Derived.OpenShut
namespace Go.Proofs.Ytbjgjhhombalpaa
open Go.ChangeShapes Go.WideShapes Go.ChangeAt Go.RowKit Go.Deep

theorem cellsPn : Try.prog.cellsOf 49 = 4 := by kernel_rfl
theorem cellsCe : Try.prog.cellsOf 51 = 6 := by kernel_rfl
theorem cellsCo : Try.prog.cellsOf 47 = 1 := by kernel_rfl
theorem cells_8 : Try.prog.cellsOf 5 = 1 := by kernel_rfl
theorem cells_16 : Try.prog.cellsOf 31 = 1 := by kernel_rfl
theorem cells_i32 : Try.prog.cellsOf 21 = 1 := by kernel_rfl
theorem cells_i : Try.prog.cellsOf 3 = 1 := by kernel_rfl

section
variable {H : Type} {enc : TypeId × Value → H} {W : World} {base fuel : Nat} {spare : Nat → Bool} {held : Bool} {cs : List Value} {x : DataW H × List MemPlace}

theorem trod_pen (h : DataW.trod enc Try.prog W base spare held fuel 49 cs = some x) : ∃ p : Pn, cs = [.int .u32 p.fg, .int .u32 p.bg, .int .u8 p.st, .int .u16 p.lk] := by
  obtain ⟨ys, n1, hn1, hys, hcl, hyl, hf⟩ := DataW.trod_struct Try.underlying49 h
  rw [cellsPn] at hcl
  match cs, hcl with
  | [v0, v1, v2, v3], _ =>
    match ys, hyl with
    | [y0, y1, y2, y3], _ =>
      have f0 : DataW.trod enc Try.prog W base spare held n1 47 [v0] = some y0 := by simpa [cellsCo] using hf 0 _ rfl
      have f1 : DataW.trod enc Try.prog W base spare held n1 47 [v1] = some y1 := by simpa [cellsCo] using hf 1 _ rfl
      have f2 : DataW.trod enc Try.prog W base spare held n1 5 [v2] = some y2 := by simpa [cells_8] using hf 2 _ rfl
      have f3 : DataW.trod enc Try.prog W base spare held n1 31 [v3] = some y3 := by simpa [cells_16] using hf 3 _ rfl
      obtain ⟨a, e0, _, _⟩ := DataW.trod_int Try.underlying47 f0
      obtain ⟨b, e1, _, _⟩ := DataW.trod_int Try.underlying47 f1
      obtain ⟨c, e2, _, _⟩ := DataW.trod_int Try.underlying5 f2
      obtain ⟨d, e3, _, _⟩ := DataW.trod_int Try.underlying31 f3
      injection e0 with e0
      injection e1 with e1
      injection e2 with e2
      injection e3 with e3
      subst e0 e1 e2 e3
      exact ⟨⟨a, b, c, d⟩, rfl⟩
theorem trod_cell (h : DataW.trod enc Try.prog W base spare held fuel 51 cs = some x) : ∃ c : Ce, cs = ceV c := by
  obtain ⟨ys, n1, hn1, hys, hcl, hyl, hf⟩ := DataW.trod_struct Try.underlying51 h
  rw [cellsCe] at hcl
  match cs, hcl with
  | [v0, v1, v2, v3, v4, v5], _ =>
    match ys, hyl with
    | [y0, y1, y2], _ =>
      have f0 : DataW.trod enc Try.prog W base spare held n1 21 [v0] = some y0 := by simpa [cells_i32] using hf 0 _ rfl
      have f1 : DataW.trod enc Try.prog W base spare held n1 5 [v1] = some y1 := by simpa [cells_8] using hf 1 _ rfl
      have f2 : DataW.trod enc Try.prog W base spare held n1 49 [v2, v3, v4, v5] = some y2 := by simpa [cellsPn] using hf 2 _ rfl
      obtain ⟨a, e0, _, _⟩ := DataW.trod_int Try.underlying21 f0
      obtain ⟨b, e1, _, _⟩ := DataW.trod_int Try.underlying5 f1
      obtain ⟨p, e2⟩ := trod_pen f2
      injection e0 with e0
      injection e1 with e1
      simp only [List.cons.injEq, and_true] at e2
      obtain ⟨e2, e3, e4, e5⟩ := e2
      subst e0 e1 e2 e3 e4 e5
      exact ⟨⟨a, b, p⟩, rfl⟩

/-- A call: its kind, its numbers, its rune, its pen. -/
structure Op8 where
  k : Int
  x : Int
  n : Int
  r : Int
  p : Pn
def opV (o : Op8) : List Value := [.int .i64 o.k, .int .i64 o.x, .int .i64 o.n, .int .i32 o.r, .int .u32 o.p.fg, .int .u32 o.p.bg, .int .u8 o.p.st, .int .u16 o.p.lk]
def opA (o : Op8) : Array Value := #[.int .i64 o.k, .int .i64 o.x, .int .i64 o.n, .int .i32 o.r, .int .u32 o.p.fg, .int .u32 o.p.bg, .int .u8 o.p.st, .int .u16 o.p.lk]
structure OpOk (o : Op8) : Prop where
  x0 : -9223372036854775808 ≤ o.x
  x1 : o.x ≤ 9223372036854775807
  n0 : -9223372036854775808 ≤ o.n
  n1 : o.n ≤ 9223372036854775807
theorem opV_len (o : Op8) : (opV o).length = 8 := rfl
end

section
variable {H : Type} {enc : TypeId × Value → H} {W : World} {base : Nat} {v : Value} {d : DataW H} {p : List MemPlace}

theorem open_col (hv : Value.okWide Try.prog W .any base 47 v) (h : DataW.Trod enc Try.prog W 0 (fun _ => true) true 47 v d p) : ∃ k : Int, v = .int .u32 k ∧ True := by
  obtain ⟨a, rfl, _, _, _⟩ := open_int Try.underlying47 hv h
  exact ⟨a, rfl, trivial⟩
theorem open_pen (hv : Value.okWide Try.prog W .any base 49 v) (h : DataW.Trod enc Try.prog W 0 (fun _ => true) true 49 v d p) : ∃ q : Pn, v = .agg (pnA q) ∧ True := by
  obtain ⟨cs, rfl, _⟩ := okWide_struct Try.underlying49 hv
  obtain ⟨fuel, hf⟩ := h
  obtain ⟨q, e⟩ := trod_pen hf
  obtain ⟨l⟩ := cs
  refine ⟨q, ?_, trivial⟩
  rw [show l = _ from e]
  rfl
theorem open_cell (hv : Value.okWide Try.prog W .any base 51 v) (h : DataW.Trod enc Try.prog W 0 (fun _ => true) true 51 v d p) : ∃ c : Ce, v = .agg (ceA c) ∧ True := by
  obtain ⟨cs, rfl, _⟩ := okWide_struct Try.underlying51 hv
  obtain ⟨fuel, hf⟩ := h
  obtain ⟨q, e⟩ := trod_cell hf
  obtain ⟨l⟩ := cs
  refine ⟨q, ?_, trivial⟩
  rw [show l = _ from e]
  rfl
end

/-- Records that lie one behind the other. -/
theorem vs_of {α : Type} {f : α → List Value} {d : Nat} (hf : ∀ a, (f a).length = d) {w : World} {ad : Addr} {Q : α → Prop} : ∀ (n : Nat), (∀ k, k < n → ∃ a, Q a ∧ ∀ j v, (f a)[j]? = some v → w.cell? (ad.add (k * d + j)) = some v) →
    ∃ L : List α, L.length = n ∧ (∀ a ∈ L, Q a) ∧ ∀ j v, (rowV f L)[j]? = some v → w.cell? (ad.add j) = some v := by
  intro n
  induction n with
  | zero => intro _; exact ⟨[], rfl, (fun a h => by cases h), fun j v hj => by simp [rowV] at hj⟩
  | succ n ih =>
    intro h
    obtain ⟨L, h1, h2, h3⟩ := ih fun k hk => h k (by omega)
    obtain ⟨a, hq, ha⟩ := h n (by omega)
    refine ⟨L ++ [a], by simp [h1], fun b hb => ?_, fun j v hj => ?_⟩
    · rcases List.mem_append.1 hb with hb | hb
      · exact h2 b hb
      · rw [List.mem_singleton.1 hb]; exact hq
    · rw [rowV_append] at hj
      have hl := rowV_len hf L
      rw [h1] at hl
      rcases Nat.lt_or_ge j (n * d) with hlt | hge
      · rw [List.getElem?_append_left (by omega)] at hj
        exact h3 j v hj
      · rw [List.getElem?_append_right (by omega), hl] at hj
        have e : rowV f [a] = f a := by simp [rowV]
        rw [e] at hj
        have := ha _ _ hj
        rwa [show n * d + (j - n * d) = j by omega] at this
theorem open_rows {α : Type} {f : α → List Value} {d0 : Nat} (hf : ∀ a, (f a).length = d0) (hd : 0 < d0) {Q : α → Prop} {H : Type} {enc : TypeId × Value → H} {W : World} {base : Nat} {v : Value} {d : DataW H} {p : List MemPlace} (t e : TypeId) (ht : Try.prog.underlying t = some (.slice e)) (he : Try.prog.cellsOf e = d0)
    (htrod : ∀ (fuel : Nat) (cs : List Value) (x : DataW H × List MemPlace), DataW.trod enc Try.prog W 0 (fun _ => true) true fuel e cs = some x → ∃ a : α, cs = f a ∧ Q a)
    (hv : Value.okWide Try.prog W .any base t v) (h : DataW.Trod enc Try.prog W 0 (fun _ => true) true t v d p) :
    ∃ A n c L, v = .slice A n c ∧ Vs f W A n L ∧ (∀ a ∈ L, Q a) ∧ n ≤ c ∧ c ≤ maxLen := by
  obtain ⟨A, n, c, rfl⟩ := okWide_slice ht hv
  obtain ⟨fuel, hx⟩ := h
  rcases open_slice ht hx with ⟨hcs, _⟩ | ⟨a, len, cap, m, n1, D, Pl, hcs, hb, hl, hm, hmm, _, hi⟩
  · simp [Value.cells] at hcs
    obtain ⟨rfl, rfl, rfl⟩ := hcs
    exact ⟨none, 0, 0, [], rfl, Vs.nil _ _, (fun _ h => by cases h), Nat.le_refl _, by unfold maxLen; omega⟩
  · simp [Value.cells] at hcs
    obtain ⟨rfl, rfl, rfl⟩ := hcs
    simp only [if_true] at hmm
    subst hmm
    obtain ⟨L, h1, h2, h3⟩ := vs_of hf (w := W) (ad := a) (Q := Q) n fun k hk => by
      obtain ⟨cs', hc, ht'⟩ := hi k (by omega)
      rw [he] at hc
      obtain ⟨_, hcl, hat⟩ := World.cells?_some hc
      obtain ⟨q, e1, hq⟩ := htrod _ _ _ ht'
      refine ⟨q, hq, fun j v hj => ?_⟩
      have hjl : j < d0 := by
        have := (List.getElem?_eq_some_iff.1 hj).1
        rwa [hf] at this
      rw [← Go.Deep.add_add, hat j hjl, e1]
      exact hj
    refine ⟨some a, n, _, L, rfl, ⟨h1, fun hn => ⟨a, rfl, ?_, h3⟩⟩, h2, hl, hm⟩
    have hr : 0 < (rowV f L).length := by rw [rowV_len hf, h1]; exact Nat.mul_pos hn hd
    have h0 := h3 0 _ (List.getElem?_eq_getElem hr)
    have := World.block_lt_of_cell? W _ h0
    rwa [addBlock] at this
/-- A row of cells that came in. -/
theorem open_cells {H : Type} {enc : TypeId × Value → H} {W : World} {base : Nat} {v : Value} {d : DataW H} {p : List MemPlace} (hv : Value.okWide Try.prog W .any base 41 v) (h : DataW.Trod enc Try.prog W 0 (fun _ => true) true 41 v d p) :
    ∃ A n c L, v = .slice A n c ∧ Vs ceV W A n L ∧ n ≤ c ∧ c ≤ maxLen := by
  obtain ⟨A, n, c, L, h1, h2, _, h3⟩ := open_rows (Q := fun _ => True) ceV_len (by omega) _ _ Try.underlying41 cellsCe (fun _ _ _ ht => (trod_cell ht).elim fun c hc => ⟨c, hc, trivial⟩) hv h
  exact ⟨A, n, c, L, h1, h2, h3⟩
end Go.Proofs.Ytbjgjhhombalpaa
