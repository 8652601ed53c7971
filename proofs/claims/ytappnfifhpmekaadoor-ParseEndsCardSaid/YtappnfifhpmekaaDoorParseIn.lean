/-
  How acts that came in are opened.
-/
import Derived.Test.YtappnfifhpmekaaDoorOpen
import Derived.Test.YtappnfifhpmekaaDoorParseRefDec
import Derived.Test.YtappnfifhpmekaaDoorParseLayBase
import Derived.Test.YtappnfifhpmekaaDoorRecsIn
import Derived.Deep.Fields
import Derived.Deep.Slices
import Derived.OpenShut
namespace Go.Proofs.YtappnfifhpmekaaDoor
open Go.ChangeShapes Go.WideShapes Go.ChangeAt Go.RowKit Go.Deep

theorem cellsAct : Tryd.prog.cellsOf 25 = 6 := by kernel_rfl
theorem cellsIntP : Tryd.prog.cellsOf 3 = 1 := by kernel_rfl
theorem cellsI32P : Tryd.prog.cellsOf 21 = 1 := by kernel_rfl
theorem cellsU8P : Tryd.prog.cellsOf 5 = 1 := by kernel_rfl
theorem cellsIntsP : Tryd.prog.cellsOf 22 = 1 := by kernel_rfl
theorem cellsU8sP : Tryd.prog.cellsOf 23 = 1 := by kernel_rfl

section
variable {H : Type} {enc : TypeId × Value → H} {W : World} {base fuel : Nat} {held : Bool} {cs : List Value} {x : DataW H × List MemPlace}

theorem trod_nums {t e : TypeId} {q : IntKind} (ht : Tryd.prog.underlying t = some (.slice e)) (he : Tryd.prog.underlying e = some (.int q)) (hc : Tryd.prog.cellsOf e = 1)
    (h : DataW.trod enc Tryd.prog W base (fun _ => true) held fuel t cs = some x) : ∃ A n c zs, cs = [.slice A n c] ∧ Ik q W A n zs ∧ (∀ z ∈ zs, (Lit.int q z).wf = true) ∧ n ≤ c ∧ c ≤ maxLen := by
  rcases open_ints ht he hc h with ⟨hcs, _⟩ | ⟨a, n, c, zs, hcs, _, hl, hm, hz, hx, hcell, hwz⟩
  · exact ⟨none, 0, 0, [], hcs, Ik.nil _ _ _, (fun _ h => by simp at h), Nat.le_refl _, by unfold maxLen; omega⟩
  · have hzl : zs.length = c := by simpa using hz
    have hlen : (zs.take n).length = n := by simp; omega
    refine ⟨some a, n, c, zs.take n, hcs, ⟨hlen, fun hn => ⟨a, rfl, ?_, fun k hk => ?_⟩⟩, fun z hz => hwz z (List.mem_of_mem_take hz), hl, hm⟩
    · have h0 := hcell 0 (by omega)
      have := World.block_lt_of_cell? W _ h0
      rwa [addBlock] at this
    · rw [hcell k (by omega), getD_lt (by omega), getD_lt (by omega)]
      simp
theorem sb_of_ik {w : World} {A : Option Addr} {n : Nat} {zs : List Int} (h : Ik .u8 w A n zs) : Sb w A n zs := ⟨h.len, h.at_⟩
/-- What is known of an act that came in. -/
structure AcOkIn (w : World) (x : AcR) : Prop where
  rd : RdA w x
  w : AcW x.a
  k : (Lit.int .i64 x.a.k).wf = true
  r : (Lit.int .i32 x.a.r).wf = true
theorem trod_act (h : DataW.trod enc Tryd.prog W base (fun _ => true) held fuel 25 cs = some x) : ∃ x : AcR, cs = acV x ∧ AcOkIn W x := by
  obtain ⟨ys, n1, hn1, hys, hcl, hyl, hf⟩ := DataW.trod_struct Tryd.underlying25 h
  rw [cellsAct] at hcl
  match cs, hcl with
  | [v0, v1, v2, v3, v4, v5], _ =>
    match ys, hyl with
    | [y0, y1, y2, y3, y4, y5], _ =>
      have f0 : DataW.trod enc Tryd.prog W base (fun _ => true) held n1 3 [v0] = some y0 := by simpa [cellsIntP] using hf 0 _ rfl
      have f1 : DataW.trod enc Tryd.prog W base (fun _ => true) held n1 21 [v1] = some y1 := by simpa [cellsI32P] using hf 1 _ rfl
      have f2 : DataW.trod enc Tryd.prog W base (fun _ => true) held n1 5 [v2] = some y2 := by simpa [cellsU8P] using hf 2 _ rfl
      have f3 : DataW.trod enc Tryd.prog W base (fun _ => true) held n1 5 [v3] = some y3 := by simpa [cellsU8P] using hf 3 _ rfl
      have f4 : DataW.trod enc Tryd.prog W base (fun _ => true) held n1 22 [v4] = some y4 := by simpa [cellsIntsP] using hf 4 _ rfl
      have f5 : DataW.trod enc Tryd.prog W base (fun _ => true) held n1 23 [v5] = some y5 := by simpa [cellsU8sP] using hf 5 _ rfl
      obtain ⟨k, e0, _, w0⟩ := DataW.trod_int Tryd.underlying3 f0
      obtain ⟨r, e1, _, w1⟩ := DataW.trod_int Tryd.underlying21 f1
      obtain ⟨m, e2, _, w2⟩ := DataW.trod_int Tryd.underlying5 f2
      obtain ⟨f, e3, _, w3⟩ := DataW.trod_int Tryd.underlying5 f3
      obtain ⟨P, np, cp, ps, e4, hp, hpw, hp1, hp2⟩ := trod_nums Tryd.underlying22 Tryd.underlying3 cellsIntP f4
      obtain ⟨T, nt, ct, tx, e5, ht, htw, ht1, ht2⟩ := trod_nums Tryd.underlying23 Tryd.underlying5 cellsU8P f5
      injection e0 with e0
      injection e1 with e1
      injection e2 with e2
      injection e3 with e3
      injection e4 with e4
      injection e5 with e5
      subst e0 e1 e2 e3 e4 e5
      have b2 := bounds_u8 w2
      have b3 := bounds_u8 w3
      exact ⟨⟨⟨k, r, m, f, ps, tx⟩, P, np, cp, T, nt, ct⟩, rfl, ⟨hp, sb_of_ik ht, hp1, hp2, ht1, ht2⟩, ⟨b2.1, b2.2, b3.1, b3.2, fun z hz => bounds_u8 (htw z hz), fun z hz => bounds_i64 (hpw z hz)⟩, w0, w1⟩
end
section
variable {H : Type} {enc : TypeId × Value → H} {W : World} {base : Nat} {v : Value} {d : DataW H} {p : List MemPlace}

/-- An act that came in by value. -/
theorem open_act (hv : Value.okWide Tryd.prog W .any base 25 v) (h : DataW.Trod enc Tryd.prog W 0 (fun _ => true) true 25 v d p) : ∃ x : AcR, v = .agg (acA x) ∧ AcOkIn W x := by
  obtain ⟨cs, rfl, _⟩ := okWide_struct Tryd.underlying25 hv
  obtain ⟨fuel, hf⟩ := h
  obtain ⟨q, e, hq⟩ := trod_act hf
  obtain ⟨l⟩ := cs
  refine ⟨q, ?_, hq⟩
  rw [show l = _ from e]
  rfl
/-- Acts that came in. -/
theorem open_acts (hv : Value.okWide Tryd.prog W .any base 35 v) (h : DataW.Trod enc Tryd.prog W 0 (fun _ => true) true 35 v d p) : ∃ A n c R, v = .slice A n c ∧ Vs acV W A n R ∧ (∀ x ∈ R, AcOkIn W x) ∧ n ≤ c ∧ c ≤ maxLen :=
  open_rows acV_len (by omega) _ _ Tryd.underlying35 cellsAct (fun _ _ _ ht => trod_act ht) hv h
end
end Go.Proofs.YtappnfifhpmekaaDoor
