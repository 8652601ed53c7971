/-
  How the arguments of WireReads and WireStays are opened: a read, a slice of reads.
-/
import Derived.Test.YtjgcfiffbibonaaOpen
import Derived.Lib.SmallJoins
import Derived.Deep.SlicePairs
namespace Go.Proofs.Ytjgcfiffbibonaa
open Go.ChangeShapes Go.WideShapes Go.ChangeAt Go.RowKit Go.Joins Go.Deep

theorem cellsRead : Try.prog.cellsOf 41 = 2 := by kernel_rfl
theorem cellsI : Try.prog.cellsOf 3 = 1 := by kernel_rfl

/-- A row of reads: each one's kind and number. -/
structure Sr (w : World) (A : Option Addr) (n : Nat) (K N : Nat → Int) : Prop where
  at_ : 0 < n → ∃ ad, A = some ad ∧ ad.block < w.heap.size ∧ ∀ k, k < n → w.cell? (ad.add (k * 2)) = some (.int .i64 (K k)) ∧ w.cell? (ad.add (k * 2 + 1)) = some (.int .i64 (N k)) ∧ -9223372036854775808 ≤ N k ∧ N k ≤ 9223372036854775807
  max : n ≤ 9223372036854775807

theorem Sr.below {w w' : World} {A : Option Addr} {n : Nat} {K N : Nat → Int} (h : Sr w A n K N) (hb : Below w.heap.size w w') : Sr w' A n K N :=
  ⟨fun hn => by
    obtain ⟨ad, rfl, hlt, hc⟩ := h.at_ hn
    refine ⟨ad, rfl, Nat.lt_of_lt_of_le hlt hb.size, fun k hk => ?_⟩
    obtain ⟨h1, h2, h3⟩ := hc k hk
    exact ⟨(hb.cell (by rw [addBlock]; exact hlt)).trans h1, (hb.cell (by rw [addBlock]; exact hlt)).trans h2, h3⟩, h.max⟩
theorem Sr.addr {w : World} {A : Option Addr} {n : Nat} {K N : Nat → Int} (h : Sr w A n K N) (hn : 0 < n) : ∃ ad, A = some ad := by obtain ⟨ad, e, _⟩ := h.at_ hn; exact ⟨ad, e⟩
theorem Sr.cell {w : World} {ad : Addr} {n : Nat} {K N : Nat → Int} (h : Sr w (some ad) n K N) {k : Nat} (hk : k < n) :
    w.cell? (ad.add (k * 2)) = some (.int .i64 (K k)) ∧ w.cell? (ad.add (k * 2 + 1)) = some (.int .i64 (N k)) ∧ -9223372036854775808 ≤ N k ∧ N k ≤ 9223372036854775807 := by
  obtain ⟨ad', e, _, hc⟩ := h.at_ (by omega)
  injection e with e
  subst e
  exact hc k hk

theorem intAt {H : Type} {enc : TypeId × Value → H} {W : World} {base m : Nat} {sp : Nat → Bool} {hd : Bool} {v : Value} {x : DataW H × List MemPlace} (h : DataW.trod enc Try.prog W base sp hd m 3 [v] = some x) :
    ∃ k : Int, v = .int .i64 k ∧ -9223372036854775808 ≤ k ∧ k ≤ 9223372036854775807 := by
  obtain ⟨k, h1, _, h2⟩ := DataW.trod_int Try.underlying3 h
  exact ⟨k, by simpa using h1, bounds_i64 h2⟩

theorem open_read {H : Type} {enc : TypeId × Value → H} {W : World} {base : Nat} {v : Value} {d : DataW H} {p : List MemPlace} (hv : Value.okWide Try.prog W .any base 41 v)
    (h : DataW.Trod enc Try.prog W 0 (fun _ => true) true 41 v d p) : ∃ K N : Int, v = .agg #[.int .i64 K, .int .i64 N] ∧ -9223372036854775808 ≤ N ∧ N ≤ 9223372036854775807 := by
  obtain ⟨c0, c1, y0, y1, m, rfl, rfl, rfl, h0, h1⟩ := open_agg2 Try.underlying41 (by kernel_rfl) cellsRead hv h
  obtain ⟨K, rfl, _⟩ := intAt h0
  obtain ⟨N, rfl, h2⟩ := intAt h1
  exact ⟨K, N, rfl, h2⟩

theorem open_reads {H : Type} {enc : TypeId × Value → H} {W : World} {base : Nat} {v : Value} {d : DataW H} {p : List MemPlace} (hv : Value.okWide Try.prog W .any base 35 v)
    (h : DataW.Trod enc Try.prog W 0 (fun _ => true) true 35 v d p) : ∃ A n c K N, v = .slice A n c ∧ Sr W A n K N := by
  obtain ⟨A, n, c, rfl⟩ := okWide_slice Try.underlying35 hv
  obtain ⟨fuel, hf⟩ := h
  rcases open_slice_pairs Try.underlying35 Try.underlying41 cellsRead rfl rfl cellsI cellsI hf with ⟨hcs, _⟩ | ⟨a, len, cap, m, q, V0, V1, D0, D1, P0, P1, hcs, _, hl, hm, hmm, _, hc⟩
  · simp [Value.cells] at hcs
    obtain ⟨rfl, rfl, rfl⟩ := hcs
    exact ⟨none, 0, 0, fun _ => 0, fun _ => 0, rfl, fun h => absurd h (by omega), by omega⟩
  · simp [Value.cells] at hcs
    obtain ⟨rfl, rfl, rfl⟩ := hcs
    have hmm' : m = c := by simpa using hmm
    subst hmm'
    have num : ∀ i, i < m → ∃ kn : Int × Int, W.cell? (a.add (i * 2)) = some (.int .i64 kn.1) ∧ W.cell? (a.add (i * 2 + 1)) = some (.int .i64 kn.2) ∧ -9223372036854775808 ≤ kn.2 ∧ kn.2 ≤ 9223372036854775807 := by
      intro i hi
      obtain ⟨h0, h1, h2, h3⟩ := hc i hi
      obtain ⟨k0, e0, _⟩ := intAt h2
      obtain ⟨k1, e1, b1⟩ := intAt h3
      exact ⟨(k0, k1), by rw [h0, e0], by rw [h1, e1], b1⟩
    obtain ⟨f, hf⟩ := choose_lt num
    refine ⟨some a, n, m, fun i => (f i).1, fun i => (f i).2, rfl, fun hn => ⟨a, rfl, ?_, fun k hk => hf k (by omega)⟩, by unfold maxLen at hm; omega⟩
    have h0 := (hf 0 (by omega)).1
    have := World.block_lt_of_cell? W _ h0
    rwa [addBlock] at this

end Go.Proofs.Ytjgcfiffbibonaa
