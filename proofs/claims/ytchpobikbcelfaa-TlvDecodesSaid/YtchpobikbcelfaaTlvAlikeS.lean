/-
  Memory in which bytes and flags were written over, in blocks of a kind alone: items still lie where items lay. (As TlvAlike, with a kind of blocks for a base; a text imports one of the two.)
-/
import Derived.Test.YtchpobikbcelfaaTlvFree
import Derived.Test.YtchpobikbcelfaaTlvCopied
namespace Go.Proofs.Ytchpobikbcelfaa
open Go.RowKit

/-- A byte stays a byte, a flag a flag; all else is what it was. -/
def vAlike (v v' : Value) : Prop := v' = v ∨ (∃ z z', v = .int .u8 z ∧ v' = .int .u8 z' ∧ 0 ≤ z' ∧ z' ≤ 255) ∨ (∃ b b', v = .bool b ∧ v' = .bool b')
theorem vAlike.trans {a b c : Value} (h : vAlike a b) (h' : vAlike b c) : vAlike a c := by
  rcases h with rfl | ⟨z, z', rfl, rfl, h1⟩ | ⟨p, p', rfl, rfl⟩
  · exact h'
  · rcases h' with rfl | ⟨y, y', _, rfl, h2⟩ | ⟨p, p', e, _⟩
    · exact .inr (.inl ⟨z, z', rfl, rfl, h1⟩)
    · exact .inr (.inl ⟨z, y', rfl, rfl, h2⟩)
    · cases e
  · rcases h' with rfl | ⟨y, y', e, _⟩ | ⟨q, q', _, rfl⟩
    · exact .inr (.inr ⟨p, p', rfl, rfl⟩)
    · cases e
    · exact .inr (.inr ⟨p, q', rfl, rfl⟩)

structure Alike (S : Nat → Prop) (w w' : World) : Prop where
  os : w'.os = w.os
  tape : w'.tape = w.tape
  output : w'.output = w.output
  size : w'.heap.size = w.heap.size
  out : ∀ b, ¬ S b → w'.heap[b]? = w.heap[b]?
  free : ∀ a, w'.frozen? a = w.frozen? a
  cell : ∀ a v, w.cell? a = some v → ∃ v', w'.cell? a = some v' ∧ vAlike v v'
theorem Alike.refl (S : Nat → Prop) (w : World) : Alike S w w := ⟨rfl, rfl, rfl, rfl, fun _ _ => rfl, fun _ => rfl, fun _ v h => ⟨v, h, .inl rfl⟩⟩
theorem Alike.trans {S : Nat → Prop} {a b c : World} (h : Alike S a b) (h' : Alike S b c) : Alike S a c :=
  ⟨h'.os.trans h.os, h'.tape.trans h.tape, h'.output.trans h.output, h'.size.trans h.size, fun k hk => (h'.out k hk).trans (h.out k hk), fun x => (h'.free x).trans (h.free x), fun x v hx => by
    obtain ⟨v1, h1, h2⟩ := h.cell x v hx
    obtain ⟨v2, h3, h4⟩ := h'.cell x v1 h1
    exact ⟨v2, h3, h2.trans h4⟩⟩
theorem Alike.drew {S : Nat → Prop} {w w' : World} (h : Alike S w w') : Alike S w w'.drew := ⟨h.os, h.tape, h.output, h.size, h.out, h.free, h.cell⟩
theorem Alike.set {S : Nat → Prop} {w : World} {a : Addr} {v v' : Value} (hc : w.cell? a = some v) (hv : vAlike v v') (hb : S a.block) : Alike S w (w.setCell a v') :=
  ⟨rfl, rfl, rfl, by simp, fun k hk => heap_setCell_other w a k v' fun e => hk (e ▸ hb), fun _ => by simp, fun x u hx => by
    by_cases e : a = x
    · subst e
      rw [hc] at hx
      injection hx with hx
      subst hx
      exact ⟨v', World.cell?_setCell_same' w a v' (by rw [hc]; rfl), hv⟩
    · exact ⟨u, (World.cell?_setCell_other (h := e) ..).trans hx, .inl rfl⟩⟩
/-- Below every block of the kind. -/
theorem Alike.below {S : Nat → Prop} {w w' : World} (h : Alike S w w') {B : Nat} (hB : ∀ b, S b → B ≤ b) : Below B w w' :=
  ⟨h.os, h.tape, h.output, Nat.le_of_eq h.size.symm, fun k hk => h.out k fun hs => by have := hB k hs; omega⟩

/-- Memory of the kind that can be written. -/
def Fr (S : Nat → Prop) (w : World) (b : Nat) : Prop := S b ∧ Free w b
section
variable {base : Nat → Prop} {w w' : World}

theorem Fr.alike {b : Nat} (h : Fr base w b) (ha : Alike base w w') : Fr base w' b := ⟨h.1, fun k => (ha.free _).trans (h.2 k)⟩

theorem Sb.alike {A : Option Addr} {n : Nat} {zs : List Int} (h : Sb w A n zs) (h8 : U8s zs) (ha : Alike base w w') : ∃ zs', Sb w' A n zs' ∧ U8s zs' := by
  rcases Nat.eq_zero_or_pos n with h0 | h0
  · subst h0
    obtain rfl : zs = [] := List.eq_nil_of_length_eq_zero h.len
    exact ⟨[], ⟨rfl, fun h => absurd h (by omega)⟩, U8s.nil⟩
  obtain ⟨ad, rfl, hlt, hc⟩ := h.at_ h0
  have key : ∀ k, ∃ z : Int, k < n → w'.cell? (ad.add k) = some (.int .u8 z) ∧ 0 ≤ z ∧ z ≤ 255 := fun k => by
    by_cases hk : k < n
    · obtain ⟨v', h1, h2⟩ := ha.cell _ _ (hc k hk)
      have h3 := h8.getD k
      rcases h2 with rfl | ⟨z, z', _, rfl, h4⟩ | ⟨p, p', e, _⟩
      · exact ⟨_, fun _ => ⟨h1, h3⟩⟩
      · exact ⟨z', fun _ => ⟨h1, h4⟩⟩
      · cases e
    · exact ⟨0, fun h => absurd h hk⟩
  obtain ⟨f, hf⟩ := Classical.axiomOfChoice key
  refine ⟨(List.range n).map f, ⟨by simp, fun _ => ⟨ad, rfl, Nat.lt_of_lt_of_le hlt (Nat.le_of_eq ha.size.symm), fun k hk => ?_⟩⟩, fun z hz => ?_⟩
  · rw [(hf k hk).1]
    simp [List.getD, List.getElem?_map, List.getElem?_range hk]
  · obtain ⟨k, hk, rfl⟩ := List.mem_map.1 hz
    exact (hf k (List.mem_range.1 hk)).2

theorem Bs.alike {B : Option Addr} {bn bc : Nat} {zs : List Int} (h : Bs w (Fr base w) B bn bc zs) (ha : Alike base w w') : ∃ zs', Bs w' (Fr base w') B bn bc zs' := by
  obtain ⟨zs', h1, h2⟩ := h.sb.alike h.u8 ha
  exact ⟨zs', h1, h2, h.le, h.max, h.lt, fun ad e hn => (h.at_ ad e hn).alike ha⟩

theorem RowP.alike {R R' : Option Addr → Nat → Nat → List It → Prop} (hR : ∀ C cn cc i, R C cn cc i → ∃ i', R' C cn cc i') (ha : Alike base w w') (ad : Addr) :
    ∀ (l : List It) (xs : List Value) (o : Nat), RowP R w (Fr base w) l xs → (∀ j v, xs[j]? = some v → w.cell? (ad.add (o + j)) = some v) →
      ∃ l' xs', l'.length = l.length ∧ RowP R' w' (Fr base w') l' xs' ∧ ∀ j v, xs'[j]? = some v → w'.cell? (ad.add (o + j)) = some v := by
  intro l
  induction l with
  | nil =>
    intro xs o h hc
    exact ⟨[], [], rfl, rfl, fun j v hj => by simp at hj⟩
  | cons x l ih =>
    intro xs o h hc
    obtain ⟨B, bn, bc, C, cn, cc, ys, rfl, h1, h2, h3⟩ := h
    obtain ⟨zs', hz⟩ := h1.alike ha
    obtain ⟨i', hi⟩ := hR _ _ _ _ h2
    obtain ⟨l', xs', e1, e2, e3⟩ := ih ys (o + 5) h3 (fun j v hj => by
      have h4 := hc (5 + j) v (by rw [List.getElem?_append_right (by simp [It.cs])]; simpa [It.cs] using hj)
      rwa [← Nat.add_assoc] at h4)
    have c0 := hc 0 (.int .i64 x.kind) rfl
    have c1 := hc 1 (.bool x.crit) rfl
    have c2 := hc 2 (.bool x.lst) rfl
    have c3 := hc 3 (.slice B bn bc) rfl
    have c4 := hc 4 (.slice C cn cc) rfl
    obtain ⟨v0, d0, a0⟩ := ha.cell _ _ c0
    obtain ⟨v1, d1, a1⟩ := ha.cell _ _ c1
    obtain ⟨v2, d2, a2⟩ := ha.cell _ _ c2
    obtain ⟨v3, d3, a3⟩ := ha.cell _ _ c3
    obtain ⟨v4, d4, a4⟩ := ha.cell _ _ c4
    obtain rfl : v0 = .int .i64 x.kind := by
      rcases a0 with h | ⟨_, _, e, _⟩ | ⟨_, _, e, _⟩
      · exact h
      · cases e
      · cases e
    obtain rfl : v3 = .slice B bn bc := by
      rcases a3 with h | ⟨_, _, e, _⟩ | ⟨_, _, e, _⟩
      · exact h
      · cases e
      · cases e
    obtain rfl : v4 = .slice C cn cc := by
      rcases a4 with h | ⟨_, _, e, _⟩ | ⟨_, _, e, _⟩
      · exact h
      · cases e
      · cases e
    obtain ⟨p1, rfl⟩ : ∃ p, v1 = .bool p := by
      rcases a1 with h | ⟨_, _, e, _⟩ | ⟨_, p, _, h⟩
      · exact ⟨_, h⟩
      · cases e
      · exact ⟨p, h⟩
    obtain ⟨p2, rfl⟩ : ∃ p, v2 = .bool p := by
      rcases a2 with h | ⟨_, _, e, _⟩ | ⟨_, p, _, h⟩
      · exact ⟨_, h⟩
      · cases e
      · exact ⟨p, h⟩
    refine ⟨.mk x.kind p1 p2 zs' i' :: l', (It.mk x.kind p1 p2 zs' i').cs B bn bc C cn cc ++ xs', by simp [e1], ⟨B, bn, bc, C, cn, cc, xs', rfl, hz, hi, e2⟩, fun j v hj => ?_⟩
    rcases j with _ | _ | _ | _ | _ | j
    · simp [It.cs] at hj; subst hj; exact d0
    · simp [It.cs] at hj; subst hj; exact d1
    · simp [It.cs] at hj; subst hj; exact d2
    · simp [It.cs] at hj; subst hj; exact d3
    · simp [It.cs] at hj; subst hj; exact d4
    · have h5 := e3 j v (by simpa [It.cs] using hj)
      rw [show o + (j + 1 + 1 + 1 + 1 + 1) = o + 5 + j from by omega]
      exact h5

/-- Items lie where items lay. -/
theorem Its.alike {d : Nat} {A : Option Addr} {n c : Nat} {l : List It} (h : Its w (Fr base w) d A n c l) (ha : Alike base w w') : ∃ l', Its w' (Fr base w') d A n c l' := by
  induction d generalizing A n c l with
  | zero => exact ⟨[], h.1, rfl, h.2.2⟩
  | succ d ih =>
    obtain ⟨h1, h2, h3, h4⟩ := h
    rcases Nat.eq_zero_or_pos n with h0 | h0
    · subst h0
      exact ⟨[], rfl, h2, h3, fun h => absurd h (by omega)⟩
    · obtain ⟨ad, xs, rfl, h5, h6, h7, h8⟩ := h4 h0
      obtain ⟨l', xs', e1, e2, e3⟩ := RowP.alike (R' := Its w' (Fr base w') d) (fun C cn cc i hi => ih hi) ha ad l xs 0 h7 (fun j v hj => by rw [Nat.zero_add]; exact h8 j v hj)
      exact ⟨l', e1.trans h1, h2, h3, fun _ => ⟨ad, xs', rfl, h5.alike ha, Nat.lt_of_lt_of_le h6 (Nat.le_of_eq ha.size.symm), e2, fun j v hj => by have := e3 j v hj; rwa [Nat.zero_add] at this⟩⟩
end

end Go.Proofs.Ytchpobikbcelfaa
