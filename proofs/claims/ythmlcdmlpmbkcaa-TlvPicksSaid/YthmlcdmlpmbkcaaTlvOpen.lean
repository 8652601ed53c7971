/-
  How items that came in are opened: a slice of items reads as a list, all the way down.
-/
import Derived.Test.YthmlcdmlpmbkcaaOpen
import Derived.Test.YthmlcdmlpmbkcaaTlvMem
import Derived.Deep.Fields
namespace Go.Proofs.Ythmlcdmlpmbkcaa
open Go.ChangeShapes Go.WideShapes Go.ChangeAt Go.RowKit Go.Deep

/-- The kinds are ints. -/
def wfK (l : List It) : Prop := ∀ x ∈ l, (Lit.int .i64 x.kind).wf = true

theorem cells47 : Try.prog.cellsOf 47 = 5 := by kernel_rfl

theorem bytes47 : Try.prog.bytesOf 47 = 64 := by kernel_rfl
theorem cellsI : Try.prog.cellsOf 3 = 1 := by kernel_rfl
theorem cellsB : Try.prog.cellsOf 4 = 1 := by kernel_rfl
theorem cellsS8 : Try.prog.cellsOf 26 = 1 := by kernel_rfl
theorem cellsSI : Try.prog.cellsOf 22 = 1 := by kernel_rfl

section
variable {H : Type} {enc : TypeId × Value → H} {P : Program} {w : World} {base fuel : Nat} {spare : Nat → Bool} {held : Bool} {t : TypeId} {v : Value} {x : DataW H × List MemPlace}

theorem trod_int1 {k : IntKind} (ht : P.underlying t = some (.int k)) (h : DataW.trod enc P w base spare held fuel t [v] = some x) : ∃ n, v = .int k n ∧ x = (.lit (.int k n), []) ∧ (Lit.int k n).wf = true := by
  obtain ⟨n, h1, h2, h3⟩ := DataW.trod_int ht h
  exact ⟨n, by simpa using h1, h2, h3⟩
theorem trod_bool1 (ht : P.underlying t = some .bool) (h : DataW.trod enc P w base spare held fuel t [v] = some x) : ∃ b, v = .bool b := by
  obtain ⟨b, h1, _⟩ := DataW.trod_bool ht h
  exact ⟨b, by simpa using h1⟩
end

theorem weights_at {H : Type} {P : Program} {ts : List TypeId} {ds : List (DataW H)} (h : (DataW.weightsEach P ts ds).all (· ≤ reachBytes) = true) {j : Nat} {t : TypeId} {d : DataW H} (ht : ts[j]? = some t) (hd : ds[j]? = some d) : ∀ x ∈ d.weights P t, x ≤ reachBytes :=
  fun x hx => by simpa using List.all_eq_true.1 h x (DataW.weights_mem_each ht hd x hx)
theorem weights_all {H : Type} {P : Program} {e : TypeId} : ∀ {ds : List (DataW H)} {d : DataW H}, d ∈ ds → ∀ x ∈ d.weights P e, x ∈ DataW.weightsAll P e ds := by
  intro ds
  induction ds with
  | nil => intro d hd; cases hd
  | cons a r ih =>
    intro d hd x hx
    rw [DataW.weightsAll]
    rcases List.mem_cons.1 hd with rfl | hd
    · exact List.mem_append_left _ hx
    · exact List.mem_append_right _ (ih hd x hx)

/-- Items one behind the other, each with its five cells. -/
theorem its_of {w : World} {S : Nat → Prop} {d : Nat} {ad : Addr} (n : Nat) (h : ∀ k, k < n → ∃ x B bn bc C cn cc, At w S d ad k x B bn bc C cn cc ∧ (Lit.int .i64 x.kind).wf = true) :
    ∃ l xs, l.length = n ∧ wfK l ∧ RowP (Its w S d) w S l xs ∧ ∀ j v, xs[j]? = some v → w.cell? (ad.add j) = some v := by
  induction n with
  | zero => exact ⟨[], [], rfl, (fun x hx => by cases hx), rfl, fun j v hj => by simp at hj⟩
  | succ n ih =>
    obtain ⟨l, xs, h1, h2, h3, h4⟩ := ih fun k hk => h k (by omega)
    obtain ⟨x, B, bn, bc, C, cn, cc, hat, hwf⟩ := h n (by omega)
    refine ⟨l ++ [x], xs ++ x.cs B bn bc C cn cc, by simp [h1], fun y hy => ?_, h3.snoc hat.b hat.i, fun j v hj => ?_⟩
    · rcases List.mem_append.1 hy with hy | hy
      · exact h2 y hy
      · rw [List.mem_singleton.1 hy]; exact hwf
    · have hl := h3.len
      rcases Nat.lt_or_ge j xs.length with hlt | hge
      · rw [List.getElem?_append_left hlt] at hj
        exact h4 j v hj
      · rw [List.getElem?_append_right hge] at hj
        obtain ⟨i, rfl⟩ : ∃ i, j = n * 5 + i := ⟨j - n * 5, by omega⟩
        have e : n * 5 + i - xs.length = i := by omega
        rw [e] at hj
        unfold It.cs at hj
        match i, hj with
        | 0, hj => simp at hj; rw [← hj]; exact hat.c0
        | 1, hj => simp at hj; rw [← hj, ← addOut]; exact hat.c1
        | 2, hj => simp at hj; rw [← hj, ← addOut]; exact hat.c2
        | 3, hj => simp at hj; rw [← hj, ← addOut]; exact hat.c3
        | 4, hj => simp at hj; rw [← hj, ← addOut]; exact hat.c4
        | i + 5, hj => simp at hj

section
variable {H : Type} {enc : TypeId × Value → H} {W : World} {base : Nat}

/-- The bytes of an item that came in. -/
theorem bytes_in {m : Nat} {v : Value} {y : DataW H × List MemPlace} (h : DataW.trod enc Try.prog W base (fun _ => true) true m 26 [v] = some y) (hw : ∀ x ∈ y.1.weights Try.prog 26, x ≤ reachBytes) :
    ∃ A n c zs, v = .slice A n c ∧ Bs W (fun _ => True) A n c zs := by
  rcases open_ints Try.underlying26 Try.underlying5 cells8 h with ⟨hcs, _⟩ | ⟨a, len, cap, zs, hcs, _, hl, hm, hz, hx, hcell, hwz⟩
  · injection hcs with hcs
    exact ⟨none, 0, 0, [], hcs, Sb.nil _ _, U8s.nil, Nat.le_refl _, by unfold maxLen; omega, by omega, fun _ _ _ => trivial⟩
  · injection hcs with hcs
    have hzl : zs.length = cap := by simpa using hz
    have hlen : (zs.take len).length = len := by simp; omega
    refine ⟨some a, len, cap, zs.take len, hcs, ⟨hlen, fun hn => ⟨a, rfl, ?_, fun k hk => ?_⟩⟩, fun z hz => bounds_u8 (hwz z (List.mem_of_mem_take hz)), hl, hm, ?_, fun _ _ _ => trivial⟩
    · have h0 := hcell 0 (by omega)
      have := World.block_lt_of_cell? W _ h0
      rwa [addBlock] at this
    · rw [hcell k (by omega), getD_lt (by omega), getD_lt (by omega)]
      simp
    · rw [hx] at hw
      have h1 := hw ((zs.take len).length * 1 + (zs.drop len).length * 1) (by
        simp only [DataW.weights, Try.underlying26, bytes8, lits, List.length_map]
        rw [← Nat.add_mul]
        exact List.mem_cons_self ..)
      rw [hlen] at h1
      simp only [List.length_drop, reachBytes] at h1
      omega

theorem its_in : ∀ (m : Nat) {v : Value} {y : DataW H × List MemPlace}, DataW.trod enc Try.prog W base (fun _ => true) true m 22 [v] = some y → (∀ x ∈ y.1.weights Try.prog 22, x ≤ reachBytes) →
    ∃ A n c l, v = .slice A n c ∧ Its W (fun _ => True) m A n c l ∧ wfK l ∧ n ≤ 140737488351232 := by
  intro m
  induction m using Nat.strongRecOn with
  | _ m ih =>
    intro v y h hw
    rcases DataW.trod_slice Try.underlying22 h with ⟨hcs, _⟩ | ⟨a, len, cap, elems, rest, n0, hm0, hcs, hx, _, hl, hm, hlen, hel, _, _⟩
    · injection hcs with hcs
      refine ⟨none, 0, 0, [], hcs, ?_, (fun x hx => by cases hx), by omega⟩
      cases m with
      | zero => exact ⟨rfl, rfl, by unfold maxLen; omega⟩
      | succ m => exact ⟨rfl, Nat.le_refl _, by unfold maxLen; omega, fun h => absurd h (by omega)⟩
    · injection hcs with hcs
      rw [hx] at hw
      simp only [DataW.weights, Try.underlying22] at hw
      rw [cells47] at hel
      have hat : ∀ k, k < len → ∃ x B bn bc C cn cc, At W (fun _ => True) n0 a k x B bn bc C cn cc ∧ (Lit.int .i64 x.kind).wf = true := by
        intro k hk
        obtain ⟨el, hek⟩ : ∃ el, elems[k]? = some el := ⟨_, List.getElem?_eq_getElem (by omega)⟩
        have h1 := hel k hk
        rw [hek] at h1
        obtain ⟨cs, hcs1, hcs2⟩ := Option.bind_eq_some_iff.1 h1
        obtain ⟨_, hcl, hcc⟩ := World.cells?_some hcs1
        obtain ⟨ys, n1, hn1, hys, _, hyl, hf⟩ := DataW.trod_struct Try.underlying47 hcs2
        match cs, hcl with
        | [v0, v1, v2, v3, v4], _ =>
          match ys, hyl with
          | [y0, y1, y2, y3, y4], _ =>
            have f0 : DataW.trod enc Try.prog W base (fun _ => true) true n1 3 [v0] = some y0 := by simpa [cellsI] using hf 0 _ rfl
            have f1 : DataW.trod enc Try.prog W base (fun _ => true) true n1 4 [v1] = some y1 := by simpa [cellsB] using hf 1 _ rfl
            have f2 : DataW.trod enc Try.prog W base (fun _ => true) true n1 4 [v2] = some y2 := by simpa [cellsB] using hf 2 _ rfl
            have f3 : DataW.trod enc Try.prog W base (fun _ => true) true n1 26 [v3] = some y3 := by simpa [cellsS8] using hf 3 _ rfl
            have f4 : DataW.trod enc Try.prog W base (fun _ => true) true n1 22 [v4] = some y4 := by simpa [cellsSI] using hf 4 _ rfl
            have hel1 : ∀ x ∈ el.1.weights Try.prog 47, x ≤ reachBytes := fun x hx =>
              hw x (List.mem_cons_of_mem _ (List.mem_append_left _ (weights_all (List.mem_map.2 ⟨el, List.mem_of_getElem? hek, rfl⟩) x hx)))
            have hwe : el.1.weights Try.prog 47 = DataW.weightsEach Try.prog [3, 4, 4, 26, 22] [y0.1, y1.1, y2.1, y3.1, y4.1] := by
              rw [hys]
              simp [DataW.weights, Try.underlying47]
            rw [hwe] at hel1
            obtain ⟨kd, rfl, _, hkw⟩ := trod_int1 Try.underlying3 f0
            obtain ⟨cr, rfl⟩ := trod_bool1 Try.underlying4 f1
            obtain ⟨ls, rfl⟩ := trod_bool1 Try.underlying4 f2
            obtain ⟨B, bn, bc, zs, rfl, hb⟩ := bytes_in f3 fun x hx => hel1 x (DataW.weights_mem_each (j := 3) rfl rfl x hx)
            obtain ⟨C, cn, cc, i, rfl, hi, _⟩ := ih n1 (by omega) f4 fun x hx => hel1 x (DataW.weights_mem_each (j := 4) rfl rfl x hx)
            refine ⟨.mk kd cr ls zs i, B, bn, bc, C, cn, cc, ⟨?_, ?_, ?_, ?_, ?_, hb, ?_⟩, hkw⟩
            · exact hcc 0 (by omega)
            · exact hcc 1 (by omega)
            · exact hcc 2 (by omega)
            · exact hcc 3 (by omega)
            · exact hcc 4 (by omega)
            · rw [hn1]; exact hi.up
      obtain ⟨l, xs, g1, g2, g3, g4⟩ := its_of len hat
      refine ⟨some a, len, cap, l, hcs, ?_, g2, ?_⟩
      · rw [hm0]
        refine ⟨g1, hl, hm, fun hn => ⟨a, xs, rfl, trivial, ?_, g3, g4⟩⟩
        obtain ⟨x, B, bn, bc, C, cn, cc, h0, _⟩ := hat 0 hn
        have := World.block_lt_of_cell? W _ h0.c0
        rwa [addBlock] at this
      · have h1 := hw _ (List.mem_cons_self ..)
        rw [bytes47, List.length_map, List.length_map, hlen] at h1
        simp only [reachBytes] at h1
        omega

/-- A slice of items that came in. -/
theorem open_items {v : Value} {d : DataW H} {p : List MemPlace} (hw : ∀ x ∈ d.weights Try.prog 22, x ≤ reachBytes) (hv : Value.okWide Try.prog W .any base 22 v)
    (h : DataW.Trod enc Try.prog W 0 (fun _ => true) true 22 v d p) : ∃ A n c l, v = .slice A n c ∧ (∃ m, Its W (fun _ => True) m A n c l) ∧ wfK l ∧ n ≤ 140737488351232 := by
  obtain ⟨A, n, c, rfl⟩ := okWide_slice Try.underlying22 hv
  obtain ⟨fuel, hf⟩ := h
  obtain ⟨A', n', c', l, e, h1, h2, h3⟩ := its_in fuel (v := .slice A n c) (by simpa [Value.cells] using hf) hw
  injection e with e1 e2 e3
  subst e1
  subst e2
  subst e3
  exact ⟨A, n, c, l, rfl, ⟨fuel, h1⟩, h2, h3⟩
end

end Go.Proofs.Ythmlcdmlpmbkcaa
