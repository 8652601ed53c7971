/-
  How tables, cells and calls that came in are opened.
-/
import Derived.Test.YtbjgjhhombalpaaLinksMem
import Derived.Test.YtbjgjhhombalpaaCellIn
import Derived.Test.YtbjgjhhombalpaaInts
import Derived.SliceStrings
import Derived.ChangeMaps5
namespace Go.Proofs.Ytbjgjhhombalpaa
open Go.ChangeShapes Go.WideShapes Go.ChangeAt Go.RowKit Go.Deep

theorem cellsStr : Try.prog.cellsOf 9 = 1 := by kernel_rfl
theorem bytesStr : Try.prog.bytesOf 9 = 16 := by kernel_rfl
theorem cellsBool : Try.prog.cellsOf 4 = 1 := by kernel_rfl
theorem cellsU16s : Try.prog.cellsOf 25 = 1 := by kernel_rfl
theorem cellsOp10 : Try.prog.cellsOf 27 = 3 := by kernel_rfl

theorem weights_strs {H : Type} {P : Program} {e : TypeId} {ss : List ByteArray} {s : ByteArray} (h : s ∈ ss) : s.data.toList.length ∈ DataW.weightsAll P e (strs (H := H) ss) := by
  induction ss with
  | nil => cases h
  | cons a ss ih =>
    show _ ∈ DataW.weights P e (.lit (.string a.data.toList)) ++ DataW.weightsAll P e (strs ss)
    rcases List.mem_cons.1 h with rfl | h
    · exact List.mem_append_left _ (by simp [DataW.weights])
    · exact List.mem_append_right _ (ih h)
/-- A table that came in. -/
theorem open_texts {H : Type} {enc : TypeId × Value → H} {W : World} {base : Nat} {v : Value} {d : DataW H} {p : List MemPlace} (hw : ∀ x ∈ d.weights Try.prog 23, x ≤ reachBytes) (hv : Value.okWide Try.prog W .any base 23 v)
    (h : DataW.Trod enc Try.prog W 0 (fun _ => true) true 23 v d p) :
    ∃ A n c L, v = .slice A n c ∧ Vs stV W A n L ∧ (∀ s ∈ L, s.size ≤ 140737488351232) ∧ n ≤ 140737488351232 ∧ n ≤ c ∧ c ≤ maxLen := by
  obtain ⟨A, n, c, rfl⟩ := okWide_slice Try.underlying23 hv
  obtain ⟨fuel, hf⟩ := h
  rcases open_strings Try.underlying23 Try.underlying9 cellsStr hf with ⟨hcs, _⟩ | ⟨a, len, cap, ss, hcs, _, hl, hm, hz, hx, hcell, hsz⟩
  · simp [Value.cells] at hcs
    obtain ⟨rfl, rfl, rfl⟩ := hcs
    exact ⟨none, 0, 0, [], rfl, Vs.nil _ _, (fun _ h => by cases h), by omega, Nat.le_refl _, by unfold maxLen; omega⟩
  · simp [Value.cells] at hcs
    obtain ⟨rfl, rfl, rfl⟩ := hcs
    have hzl : ss.length = c := by simpa using hz
    have hlen : (ss.take n).length = n := by simp; omega
    simp only [Prod.mk.injEq] at hx
    have hd := hx.1
    have key : ∀ x ∈ ((strs (H := H) (ss.take n)).length + (strs (H := H) (ss.drop n)).length) * 16 :: (DataW.weightsAll Try.prog 9 (strs (H := H) (ss.take n)) ++ DataW.weightsAll Try.prog 9 (strs (H := H) (ss.drop n))), x ≤ reachBytes := by
      intro x hx'
      refine hw x ?_
      rw [hd]
      simp only [DataW.weights, Try.underlying23, bytesStr]
      exact hx'
    refine ⟨some a, n, c, ss.take n, rfl, ⟨hlen, fun hn => ⟨a, rfl, ?_, fun j v hj => ?_⟩⟩, fun s hs => ?_, ?_, hl, hm⟩
    · have h0 := hcell 0 (by omega)
      have := World.block_lt_of_cell? W _ h0
      rwa [addBlock] at this
    · have hjl := (List.getElem?_eq_some_iff.1 hj).1
      rw [rowT_len, hlen] at hjl
      rw [rowT_get (by rw [hlen]; exact hjl)] at hj
      injection hj with hj
      rw [hcell j (by omega), ← hj]
      congr 2
      unfold sAt
      simp only [List.getD, List.getElem?_take, if_pos hjl]
      rfl
    · have h1 := key _ (List.mem_cons_of_mem _ (List.mem_append_left _ (weights_strs hs)))
      unfold reachBytes at h1
      simpa using h1
    · have h1 := key _ List.mem_cons_self
      simp only [strs, List.length_map, List.length_take, List.length_drop, reachBytes] at h1
      omega

section
variable {H : Type} {enc : TypeId × Value → H} {W : World} {base fuel : Nat} {spare : Nat → Bool} {held : Bool} {cs : List Value} {x : DataW H × List MemPlace}

theorem trod_cellL (h : DataW.trod enc Try.prog W base spare held fuel 51 cs = some x) : ∃ c : Ce, cs = ceV c ∧ 0 ≤ c.p.lk ∧ c.p.lk ≤ 65535 := by
  obtain ⟨c, rfl⟩ := trod_cell h
  refine ⟨c, rfl, ?_⟩
  obtain ⟨ys, n1, hn1, hys, hcl, hyl, hf⟩ := DataW.trod_struct Try.underlying51 h
  match ys, hyl with
  | [y0, y1, y2], _ =>
    have f2 : DataW.trod enc Try.prog W base spare held n1 49 [.int .u32 c.p.fg, .int .u32 c.p.bg, .int .u8 c.p.st, .int .u16 c.p.lk] = some y2 := by simpa [cellsPn, ceV] using hf 2 _ rfl
    obtain ⟨zs, n2, hn2, hzs, hcl2, hzl, hf2⟩ := DataW.trod_struct Try.underlying49 f2
    match zs, hzl with
    | [z0, z1, z2, z3], _ =>
      have f3 : DataW.trod enc Try.prog W base spare held n2 31 [.int .u16 c.p.lk] = some z3 := by simpa [cells_16] using hf2 3 _ rfl
      obtain ⟨d, e3, _, w3⟩ := DataW.trod_int Try.underlying31 f3
      injection e3 with e3
      injection e3 with _ e3
      rw [e3]
      exact bounds_u16 w3
theorem trod_u16s (h : DataW.trod enc Try.prog W base (fun _ => true) held fuel 25 cs = some x) : ∃ A n c zs, cs = [.slice A n c] ∧ Ik .u16 W A n zs ∧ (∀ z ∈ zs, 0 ≤ z ∧ z ≤ 65535) ∧ n ≤ c ∧ c ≤ maxLen := by
  rcases open_ints Try.underlying25 Try.underlying31 cells16 h with ⟨hcs, _⟩ | ⟨a, n, c, zs, hcs, _, hl, hm, hz, hx, hcell, hwz⟩
  · exact ⟨none, 0, 0, [], hcs, Ik.nil _ _ _, (fun _ h => by simp at h), Nat.le_refl _, by unfold maxLen; omega⟩
  · have hzl : zs.length = c := by simpa using hz
    have hlen : (zs.take n).length = n := by simp; omega
    refine ⟨some a, n, c, zs.take n, hcs, ⟨hlen, fun hn => ⟨a, rfl, ?_, fun k hk => ?_⟩⟩, fun z hz => ?_, hl, hm⟩
    · have h0 := hcell 0 (by omega)
      have := World.block_lt_of_cell? W _ h0
      rwa [addBlock] at this
    · rw [hcell k (by omega), getD_lt (by omega), getD_lt (by omega)]
      simp
    · exact bounds_u16 (hwz z (List.mem_of_mem_take hz))

/-- A call: is it a sweep, the text, what is used. -/
structure OpT where
  sw : Bool
  u : ByteArray
  A : Option Addr
  n : Nat
  c : Nat
  us : List Int
def opT (o : OpT) : List Value := [.bool o.sw, .string o.u, .slice o.A o.n o.c]
def opTA (o : OpT) : Array Value := #[.bool o.sw, .string o.u, .slice o.A o.n o.c]
theorem opT_len (o : OpT) : (opT o).length = 3 := rfl
structure OpTOk (W : World) (o : OpT) : Prop where
  size : o.u.size ≤ maxLen
  ik : Ik .u16 W o.A o.n o.us
  us : ∀ z ∈ o.us, 0 ≤ z ∧ z ≤ 65535
  le : o.n ≤ o.c
  max : o.c ≤ maxLen
theorem trod_opT (h : DataW.trod enc Try.prog W base (fun _ => true) held fuel 27 cs = some x) : ∃ o : OpT, cs = opT o ∧ OpTOk W o := by
  obtain ⟨ys, n1, hn1, hys, hcl, hyl, hf⟩ := DataW.trod_struct Try.underlying27 h
  rw [cellsOp10] at hcl
  match cs, hcl with
  | [v0, v1, v2], _ =>
    match ys, hyl with
    | [y0, y1, y2], _ =>
      have f0 : DataW.trod enc Try.prog W base (fun _ => true) held n1 4 [v0] = some y0 := by simpa [cellsBool] using hf 0 _ rfl
      have f1 : DataW.trod enc Try.prog W base (fun _ => true) held n1 9 [v1] = some y1 := by simpa [cellsStr] using hf 1 _ rfl
      have f2 : DataW.trod enc Try.prog W base (fun _ => true) held n1 25 [v2] = some y2 := by simpa [cellsU16s] using hf 2 _ rfl
      obtain ⟨b, e0, _⟩ := DataW.trod_bool Try.underlying4 f0
      obtain ⟨s, e1, _, hs⟩ := DataW.trod_string Try.underlying9 f1
      obtain ⟨A, n, c, zs, e2, h1, h2, h3, h4⟩ := trod_u16s f2
      injection e0 with e0
      injection e1 with e1
      injection e2 with e2
      subst e0 e1 e2
      exact ⟨⟨b, s, A, n, c, zs⟩, rfl, hs, h1, h2, h3, h4⟩
end

/-- Cells that came in. -/
theorem open_cellsL {H : Type} {enc : TypeId × Value → H} {W : World} {base : Nat} {v : Value} {d : DataW H} {p : List MemPlace} (hv : Value.okWide Try.prog W .any base 41 v) (h : DataW.Trod enc Try.prog W 0 (fun _ => true) true 41 v d p) :
    ∃ A n c L, v = .slice A n c ∧ Vs ceV W A n L ∧ (∀ x ∈ L, 0 ≤ x.p.lk ∧ x.p.lk ≤ 65535) ∧ n ≤ c ∧ c ≤ maxLen :=
  open_rows (Q := fun c : Ce => 0 ≤ c.p.lk ∧ c.p.lk ≤ 65535) ceV_len (by omega) _ _ Try.underlying41 cellsCe (fun _ _ _ ht => trod_cellL ht) hv h
/-- Calls that came in. -/
theorem open_opTs {H : Type} {enc : TypeId × Value → H} {W : World} {base : Nat} {v : Value} {d : DataW H} {p : List MemPlace} (hv : Value.okWide Try.prog W .any base 22 v) (h : DataW.Trod enc Try.prog W 0 (fun _ => true) true 22 v d p) :
    ∃ A n c L, v = .slice A n c ∧ Vs opT W A n L ∧ (∀ o ∈ L, OpTOk W o) ∧ n ≤ c ∧ c ≤ maxLen :=
  open_rows opT_len (by omega) _ _ Try.underlying22 cellsOp10 (fun _ _ _ ht => trod_opT ht) hv h
theorem open_opT {H : Type} {enc : TypeId × Value → H} {W : World} {base : Nat} {v : Value} {d : DataW H} {p : List MemPlace} (hv : Value.okWide Try.prog W .any base 27 v) (h : DataW.Trod enc Try.prog W 0 (fun _ => true) true 27 v d p) :
    ∃ o : OpT, v = .agg (opTA o) ∧ OpTOk W o := by
  obtain ⟨cs, rfl, _⟩ := okWide_struct Try.underlying27 hv
  obtain ⟨fuel, hf⟩ := h
  obtain ⟨q, e, hq⟩ := trod_opT hf
  obtain ⟨l⟩ := cs
  refine ⟨q, ?_, hq⟩
  rw [show l = _ from e]
  rfl
end Go.Proofs.Ytbjgjhhombalpaa
