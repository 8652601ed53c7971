/-
  What every world of WireReads holds: the reader, and beside it the reference's reader in a box, with the same still to read and the same error.
-/
import Derived.Test.YtjgcfiffbibonaaRefText
import Derived.Test.YtjgcfiffbibonaaWireErr
import Derived.Test.YtjgcfiffbibonaaWireFixed
namespace Go.Proofs.Ytjgcfiffbibonaa
open Go.RowKit

theorem text1_mem {zs : List Int} {e n z : Int} (h : z ∈ (text1 zs e n).1) : z ∈ zs := by
  unfold text1 at h
  split at h
  · cases h
  · split at h
    · cases h
    · split at h
      · cases h
      · split at h
        · cases h
        · exact List.mem_of_mem_drop (List.mem_of_mem_take h)

/-- Both readers, at one place. -/
structure KB (w0 : World) (A : Option Addr) (n c : Nat) (bs : List Int) (bm base r : Nat) (A' : Option Addr) (c' a : Nat) (e : Int) (w : World) : Prop where
  rd : Rd 59 base w r A' (n - a) c' (bs.drop a) e
  box : w.heap[bm]? = some (.cells #[.slice A n c, .int .i64 a, .int .i64 e] 39 (0, 0))
  ha : a ≤ n
  bel : Below w0.heap.size w0 w
  ord : r < bm
  lo : w0.heap.size ≤ base

section
variable {w0 : World} {A : Option Addr} {n c : Nat} {bs : List Int} {bm base r : Nat} {A' : Option Addr} {c' a : Nat} {e : Int} {w w' : World}
theorem KB.lt (h : KB w0 A n c bs bm base r A' c' a e w) : bm < w.heap.size := lt_of_block h.box
theorem KB.on (h : KB w0 A n c bs bm base r A' c' a e w) (hb : Below w.heap.size w w') : KB w0 A n c bs bm base r A' c' a e w' :=
  ⟨h.rd.below hb, (hb.block _ h.lt).trans h.box, h.ha, h.bel.trans (hb.mono h.bel.size), h.ord, h.lo⟩
theorem KB.drew (h : KB w0 A n c bs bm base r A' c' a e w) : KB w0 A n c bs bm base r A' c' a e w.drew := h.on ((Below.refl _ _).drew)
/-- A store beyond both. -/
theorem KB.set (h : KB w0 A n c bs bm base r A' c' a e w) {p : Addr} (hp : bm < p.block) (u : Value) : KB w0 A n c bs bm base r A' c' a e (w.setCell p u) := by
  have h1 := h.ord
  have h2 := h.lo
  have h3 := h.rd.lo
  exact ⟨h.rd.stay (by simp) fun k _ hk => heap_setCell_other w p k u (by omega), (heap_setCell_other w p bm u (by omega)).trans h.box, h.ha, h.bel.setCell (by omega) u, h.ord, h.lo⟩
/-- A store ahead of both. -/
theorem KB.ahead (h : KB w0 A n c bs bm base r A' c' a e w) {p : Addr} (hp : p.block < base) (hp' : w0.heap.size ≤ p.block) (u : Value) : KB w0 A n c bs bm base r A' c' a e (w.setCell p u) := by
  have h1 := h.ord
  have h3 := h.rd.lo
  exact ⟨h.rd.stay (by simp) fun k hk _ => heap_setCell_other w p k u (by omega), (heap_setCell_other w p bm u (by omega)).trans h.box, h.ha, h.bel.setCell hp' u, h.ord, h.lo⟩
/-- Behind a call to the reader: the box is as it was. -/
theorem KB.call (h : KB w0 A n c bs bm base r A' c' a e w) {zs' : List Int} {e' : Int} (ht : RdTo 59 base w r zs' e' w') :
    w'.heap[bm]? = some (.cells #[.slice A n c, .int .i64 a, .int .i64 e] 39 (0, 0)) ∧ Below w0.heap.size w0 w' := by
  have h1 := h.ord
  have h2 := h.lo
  have h3 := h.rd.lo
  exact ⟨(ht.2.block bm h.lt (by simp; omega)).trans h.box, h.bel.grown ht.2 h.bel.size (fun k hk => by cases hk; omega)⟩
/-- Both have moved on. -/
theorem KB.next (h : KB w0 A n c bs bm base r A' c' a e w) {q1 : List Int} {q2 : Int} {w2 w3 : World} {a2 : Nat} (ht : RdTo 59 base w r q1 q2 w2) (hb : Below w2.heap.size w2 w3) (hn : bs.length = n) (ha2 : a2 ≤ n) (hd : bs.drop a2 = q1) :
    ∃ A2 c2, KB w0 A n c bs bm base r A2 c2 a2 q2 (((w3.setCell ⟨bm, 0, none⟩ (.slice A n c)).setCell ⟨bm, 1, none⟩ (.int .i64 a2)).setCell ⟨bm, 2, none⟩ (.int .i64 q2)) := by
  obtain ⟨hbox, hbel⟩ := h.call ht
  obtain ⟨⟨A2, n2, c2, hr⟩, hg⟩ := ht
  have h1 := h.ord
  have h2 := h.lo
  have h3 := h.rd.lo
  subst hd
  have hl := hr.sb.len
  rw [List.length_drop, hn] at hl
  subst hl
  have hlt := lt_of_block hbox
  have b3 := (hb.block bm hlt).trans hbox
  have bb : w0.heap.size ≤ bm := by omega
  refine ⟨A2, c2, ((hr.below hb).stay (by simp) fun k _ hk => ?_), ?_, ha2, ((((hbel.trans (hb.mono hbel.size)).setCell bb _).setCell bb _).setCell bb _), h.ord, h.lo⟩
  · rw [heap_setCell_other _ _ _ _ (by simp; omega), heap_setCell_other _ _ _ _ (by simp; omega), heap_setCell_other _ _ _ _ (by simp; omega)]
  · have x1 := heap_setCell_same w3 bm 0 _ _ (.slice A n c) b3
    have x2 := heap_setCell_same _ bm 1 _ _ (.int .i64 a2) x1
    have x3 := heap_setCell_same _ bm 2 _ _ (.int .i64 q2) x2
    rw [x3]
    rfl
end

/-- What was read, in new memory, twice. -/
structure KS (W : Nat) (A1 : Option Addr) (n1 c1 : Nat) (A2 : Option Addr) (c2 : Nat) (ys : List Int) (w : World) : Prop where
  own1 : w.ownsRow W 5 1 (.slice A1 n1 c1) n1 (ys.map (Value.int .u8))
  own2 : w.ownsRow W 5 1 (.slice A2 n1 c2) n1 (ys.map (Value.int .u8))
  u8 : U8s ys
section
variable {W : Nat} {A1 : Option Addr} {n1 c1 : Nat} {A2 : Option Addr} {c2 : Nat} {ys : List Int} {w w' : World}
theorem KS.on (h : KS W A1 n1 c1 A2 c2 ys w) (hb : Below w.heap.size w w') : KS W A1 n1 c1 A2 c2 ys w' :=
  ⟨h.own1.kept (grownBy_below (row := none) hb) (by cases h : (Value.slice A1 n1 c1).ownBlock <;> simp), h.own2.kept (grownBy_below (row := none) hb) (by cases h : (Value.slice A2 n1 c2).ownBlock <;> simp), h.u8⟩
theorem KS.set (h : KS W A1 n1 c1 A2 c2 ys w) {p : Addr} (hp : p.block < W) (u : Value) : KS W A1 n1 c1 A2 c2 ys (w.setCell p u) :=
  ⟨ownsRow_setCell_below h.own1 hp u, ownsRow_setCell_below h.own2 hp u, h.u8⟩
theorem KS.nil (W : Nat) (w : World) : KS W none 0 0 none 0 [] w := ⟨World.ownsRow_nil _ _ _ _, World.ownsRow_nil _ _ _ _, U8s.nil⟩
end

/-- A row of the call's own whose bytes are turned one by one. -/
def KO (W : Nat) (A1 : Option Addr) (n1 c1 : Nat) (w : World) : Prop := ∃ ys : List Int, U8s ys ∧ w.ownsRow W 5 1 (.slice A1 n1 c1) n1 (ys.map (Value.int .u8))
theorem KO.step {W n1 c1 : Nat} {A1 : Option Addr} {w : World} (h : KO W A1 n1 c1 w) {j : Nat} (hj : j < n1) :
    ∃ g z, A1 = some ⟨g, 0, none⟩ ∧ W ≤ g ∧ w.cell? ⟨g, j, none⟩ = some (.int .u8 z) ∧ 0 ≤ z ∧ z ≤ 255 ∧ w.frozen? ⟨g, j, none⟩ = false ∧
      ∀ u : Int, 0 ≤ u → u ≤ 255 → KO W A1 n1 c1 (w.setCell ⟨g, j, none⟩ (.int .u8 u)) := by
  obtain ⟨ys, hu, ho⟩ := h
  have hl : ys.length = n1 := by have := ho.1; simpa using this
  rcases ho.2 with ⟨_, h4⟩ | ⟨g, cap, cur, hv, hb, hg, _⟩
  · omega
  · injection hv with hA _ hc
    subst hA
    subst hc
    refine ⟨g, ys.getD j 0, rfl, hb, ?_, (hu.getD j).1, (hu.getD j).2, ho.frozenAt j, fun u h0 h1 => ⟨ys.set j u, fun z hz => ?_, ?_⟩⟩
    · rw [ho.cellAt j (by omega), List.getElem?_map, List.getElem?_eq_getElem (by omega), getD_lt (by omega)]; rfl
    · rcases List.mem_or_eq_of_mem_set hz with hz | rfl
      · exact hu z hz
      · exact ⟨h0, h1⟩
    · rw [List.map_set]
      exact (ho.stored j (.int .u8 u)).1

/-- All that the test behind a call asks. -/
def KK (w0 : World) (A : Option Addr) (n c : Nat) (bs : List Int) (bm base r : Nat) (A' : Option Addr) (c' a : Nat) (e : Int) (W : Nat) (A1 : Option Addr) (n1 c1 : Nat) (A2 : Option Addr) (c2 : Nat) (ys : List Int) (w : World) : Prop :=
  KB w0 A n c bs bm base r A' c' a e w ∧ KS W A1 n1 c1 A2 c2 ys w
section
variable {w0 : World} {A : Option Addr} {n c : Nat} {bs : List Int} {bm base r : Nat} {A' : Option Addr} {c' a : Nat} {e : Int} {W : Nat} {A1 : Option Addr} {n1 c1 : Nat} {A2 : Option Addr} {c2 : Nat} {ys : List Int} {w w' : World}
theorem KK.on (h : KK w0 A n c bs bm base r A' c' a e W A1 n1 c1 A2 c2 ys w) (hb : Below w.heap.size w w') : KK w0 A n c bs bm base r A' c' a e W A1 n1 c1 A2 c2 ys w' := ⟨h.1.on hb, h.2.on hb⟩
theorem KK.drew (h : KK w0 A n c bs bm base r A' c' a e W A1 n1 c1 A2 c2 ys w) : KK w0 A n c bs bm base r A' c' a e W A1 n1 c1 A2 c2 ys w.drew := h.on ((Below.refl _ _).drew)
theorem KK.drewN (h : KK w0 A n c bs bm base r A' c' a e W A1 n1 c1 A2 c2 ys w) (q : Nat) : KK w0 A n c bs bm base r A' c' a e W A1 n1 c1 A2 c2 ys (w.drewN q) := h.on (below_drewN' (Below.refl _ _) q)
theorem KK.cells (h : KK w0 A n c bs bm base r A' c' a e W A1 n1 c1 A2 c2 ys w) : KK w0 A n c bs bm base r A' c' a e W A1 n1 c1 A2 c2 ys w ∧
    w.cell? ⟨bm, 0, none⟩ = some (.slice A n c) ∧ w.cell? ⟨bm, 1, none⟩ = some (.int .i64 a) ∧ w.cell? ⟨bm, 2, none⟩ = some (.int .i64 e) :=
  ⟨h, (box_cells h.1.box).1, (box_cells h.1.box).2.1, (box_cells h.1.box).2.2.1⟩
theorem KK.same (h : KK w0 A n c bs bm base r A' c' a e W A1 n1 c1 A2 c2 ys w) (hn : n1 ≤ 9223372036854775807) :
    Calls Try.prog 13 #[.slice A1 n1 c1, .slice A2 n1 c2] w fun e w' => e = .returned (.bool true) ∧ ∃ q, w' = w.drewN q :=
  same_true (Sb.own h.2.own1) (Sb.own h.2.own2) hn
end

/-- Both readers, wherever they are. -/
def KX (w0 : World) (A : Option Addr) (n c : Nat) (bs : List Int) (bm base r : Nat) (w : World) : Prop := ∃ A' c' a e, KB w0 A n c bs bm base r A' c' a e w
theorem KB.kx {w0 : World} {A : Option Addr} {n c : Nat} {bs : List Int} {bm base r : Nat} {A' : Option Addr} {c' a : Nat} {e : Int} {w : World} (h : KB w0 A n c bs bm base r A' c' a e w) : KX w0 A n c bs bm base r w := ⟨A', c', a, e, h⟩

end Go.Proofs.Ytjgcfiffbibonaa
