/-
  Rows of records: made, appended to, copied, stored over.
-/
import Derived.Test.YtappnfifhpmekaaDoorRecs
import Derived.Laws.AppendOwnNone
import Derived.BigQuiet
namespace Go.Proofs.YtappnfifhpmekaaDoor
open Go.RowKit

section
variable {P : Program} {α : Type} {f : α → List Value} {d : Nat}

theorem run_copy_V (w : World) (dT sT ty elem : TypeId) (hf : ∀ a, (f a).length = d) (h1 : ∀ M : List α, ∀ v ∈ rowV f M, v.oneCell' = true) (hu : P.underlying dT = some (.slice elem)) (hs : (P.info? elem).map (·.size) = some d)
    (g k dLen dCap : Nat) (dp sp : Option Addr) (sLen sCap : Nat) (t : TypeId) (L M : List α) (hR : Rw f t w g L) (hn : M.length = Nat.min sLen dLen) (hS : Vs f w sp M.length M) (hd : 0 < M.length → dp = some ⟨g, k * d, none⟩) (hfit : k + M.length ≤ L.length) :
    ∃ w', (Builtin.copy_ #[dT, sT] ty #[.slice dp dLen dCap, .slice sp sLen sCap]).run P w = .ok (goInt M.length) w' ∧ Rw f t w' g (L.take k ++ (M ++ L.drop (k + M.length))) ∧ w.grownBy w' (some g) := by
  cases hq : P.info? elem with
  | none => simp [hq] at hs
  | some i =>
    have hi : i.size = d := by simpa [hq] using hs
    by_cases h0 : M.length = 0
    · obtain rfl : M = [] := List.eq_nil_of_length_eq_zero h0
      have hl : ∀ (x : Addr), (loadCells x 0).run P w = .ok #[] w := fun x => by simpa using run_loadCells_list (P := P) w x [] (by simp)
      have hn' : Nat.min sLen dLen = 0 := hn.symm
      refine ⟨w, ?_, by simpa using hR, World.grownBy.refl w _⟩
      cases dp <;> cases sp <;> simp [Builtin.copy_, run_underlying hu, Builtin.lenOf, Builtin.firstCells, sizeOf, typeInfo, hq, hn', storeCells, hl]
    · obtain rfl := hd (by omega)
      obtain ⟨ad, rfl⟩ := hS.addr (by omega)
      have hl := run_loadCells_list (P := P) w ad (rowV f M) hS.news
      rw [rowV_len hf] at hl
      have hth := hR.there hf hfit
      have hst := run_storeCells_cells (P := P) g (k * d) (rowV f M) 0 w (fun j hj => by rw [rowV_len hf] at hj; simpa using (hth j hj).1) (fun j hj => by rw [rowV_len hf] at hj; simpa using (hth j hj).2) (h1 M)
      obtain ⟨e1, e2⟩ := hR.stored hf hfit
      refine ⟨_, ?_, e1, e2⟩
      simp only [Nat.add_zero] at hst
      simp [Builtin.copy_, run_underlying hu, Builtin.lenOf, Builtin.firstCells, sizeOf, typeInfo, hq, hi, ← hn, hl, hst]

theorem wpList_copy_V {w : World} {ops : Array Oper} {rest : List Oper} {o : Oper} {a : Act} {Q : Exit → Act → World → Prop} (hgd : o.guard = none) (x y : Operand) (dT sT : TypeId)
    (ho : o.op = .call { callee := .builtin .copy, args := #[x, y], argTypes := #[dT, sT] }) (elem : TypeId) (hf : ∀ a, (f a).length = d) (h1 : ∀ M : List α, ∀ v ∈ rowV f M, v.oneCell' = true) (hu : P.underlying dT = some (.slice elem)) (hs : (P.info? elem).map (·.size) = some d)
    (g k dLen dCap : Nat) (dp sp : Option Addr) (sLen sCap : Nat) (hx : a.eval x = .slice dp dLen dCap) (hy : a.eval y = .slice sp sLen sCap)
    (t : TypeId) (L M : List α) (hR : Rw f t w g L) (hn : M.length = Nat.min sLen dLen) (hS : Vs f w sp M.length M) (hd : 0 < M.length → dp = some ⟨g, k * d, none⟩) (hfit : k + M.length ≤ L.length)
    (h : ∀ w', Rw f t w' g (L.take k ++ (M ++ L.drop (k + M.length))) → w.grownBy w' (some g) → wpList P ops Q rest (a.put o.dst (goInt M.length)) w') : wpList P ops Q (o :: rest) a w := by
  obtain ⟨w', hrun, h2, h3⟩ := run_copy_V (P := P) w dT sT o.type elem hf h1 hu hs g k dLen dCap dp sp sLen sCap t L M hR hn hS hd hfit
  refine wpList_plain hgd fun K hK => ?_
  unfold Oper.wp
  simp [execOp, ho, resolve, invoke, builtin, hx, hy, hrun, Result.andThen]
  exact hK _ _ (h w' h2 h3)

/-- A record stored into a row. -/
theorem wpList_store_V {w : World} {ops : Array Oper} {rest : List Oper} {o : Oper} {a : Act} {Q : Exit → Act → World → Prop} (hgd : o.guard = none) (ty : TypeId) (x y : Operand) (ho : o.op = .store ty x y)
    (hf : ∀ a, (f a).length = d) (h1 : ∀ M : List α, ∀ v ∈ rowV f M, v.oneCell' = true) (hi : (P.info? ty).map (·.size) = some d)
    (g off k : Nat) (c : α) (cells : Array Value) (hx : a.eval x = .pointer (some ⟨g, off, none⟩)) (hoff : off = k * d) (hy : a.eval y = .agg cells) (hcs : cells.toList = f c)
    (t : TypeId) (L : List α) (hR : Rw f t w g L) (hk : k < L.length)
    (h : ∀ w', Rw f t w' g (L.set k c) → w.grownBy w' (some g) → wpList P ops Q rest (a.put o.dst undef) w') : wpList P ops Q (o :: rest) a w := by
  subst hoff
  have hsz : cells.size = d := by rw [← hf c, ← hcs, Array.length_toList]
  have hone : rowV f [c] = f c := by simp [rowV]
  obtain ⟨e1, e2⟩ := hR.stored hf (k := k) (M := [c]) (by simp; omega)
  refine wpList_store_mid hgd ty x y ho g (k * d) cells hx hy (by rw [hsz]; simpa using hR.there hf (k := k) (m := 1) (by omega)) (by rw [hsz]; exact hi) ?_ ?_
  · rw [Array.all_eq_true_iff_forall_mem]
    intro v hv
    exact h1 [c] v (by rw [hone, ← hcs]; simpa using hv)
  · rw [hcs, ← hone]
    refine h _ ?_ e2
    have e : L.set k c = L.take k ++ ([c] ++ L.drop (k + [c].length)) := by rw [List.set_eq_take_append_cons_drop, if_pos hk]; rfl
    rw [e]
    exact e1

/-- append onto a row of the call's own, of any slice of records. -/
theorem wpList_app_V (w : World) {ops : Array Oper} {rest : List Oper} {o : Oper} {a : Act} {Q : Exit → Act → World → Prop} (hgd : o.guard = none) (s x : Operand) (t : TypeId)
    (ho : o.op = .call { callee := .builtin .append, args := #[s, x], argTypes := #[t, t] }) (hf : ∀ a, (f a).length = d) (h1 : ∀ M : List α, ∀ v ∈ rowV f M, v.oneCell' = true)
    (base : Nat) (e : TypeId) (z : Value) (b8 : Nat) (hb8 : b8 ≤ 64) (ht : P.underlying t = some (.slice e)) (hi : (P.info? e).map (fun i => (i.zero, i.size, i.bytes)) = some (some z, d, b8)) (hzs : z.cells.size = d) (hd0 : 0 < d)
    (v : Value) (n : Nat) (L : List α) (hs : a.eval s = v) (hown : w.ownsRow base e d v n (rowV f L))
    (A : Option Addr) (m c k : Nat) (hk : n + m = k) (M : List α) (hx : a.eval x = .slice A m c) (hr : Vs f w A m M) (h63 : k ≤ 1000000) (hbase : base ≤ w.heap.size)
    (h : ∀ A' c' w', w'.ownsRow base e d (.slice A' k c') k (rowV f (L ++ M)) → w.grownBy w' v.ownBlock → wpList P ops Q rest (a.put o.dst (.slice A' k c')) w') : wpList P ops Q (o :: rest) a w := by
  subst hk
  obtain ⟨i0, hi, hz0, hz1, hz2⟩ := info_parts hi
  have hk : ∀ v' w', w'.ownsRow base e d v' (n + m) (rowV f (L ++ M)) → w.grownBy w' v.ownBlock → wpList P ops Q rest (a.put o.dst v') w' := by
    intro v' w' h1 h2
    obtain ⟨A', c', rfl, _⟩ := own_shape h1
    exact h A' c' w' h1 h2
  have h8 : (n + m) * b8 ≤ 1000000 * 64 := Nat.mul_le_mul h63 hb8
  rw [rowV_append] at hk
  cases A with
  | none =>
    have hm : m = 0 := by
      rcases Nat.eq_zero_or_pos m with h0 | h0
      · exact h0
      · obtain ⟨ad, e1⟩ := hr.addr h0
        cases e1
    subst hm
    have hn : M = [] := List.eq_nil_of_length_eq_zero hr.len
    subst hn
    refine wpList_plain hgd fun K hK => ?_
    have hrun := run_app_nil (P := P) w base t o.type e i0 d ht hi v n _ hown c
    unfold Oper.wp
    simp [execOp, ho, resolve, invoke, builtin, hs, hx, hrun, Result.andThen]
    exact hK _ _ (hk v w (by simpa [rowV] using hown) (World.grownBy.refl w _))
  | some ad =>
    exact wpList_append_own w hgd s x t ho base e i0 z d b8 ht hi hz0 hz1 hz2 hzs hd0 v n _ hs hown ad m c (rowV f M) hx (by rw [rowV_len hf, hr.len]) hr.news (h1 M)
      (by unfold maxLen; omega) (by omega) hbase fun v' w' h1 h2 _ => hk v' w' h1 h2
/-- Where the records of a row of the call's own lie. -/
theorem own_vs {w : World} {base : Nat} {e : TypeId} {A : Option Addr} {n c : Nat} {L : List α} (hl : L.length = n) (h : w.ownsRow base e d (.slice A n c) n (rowV f L)) : Vs f w A n L := by
  refine ⟨hl, fun hn => ?_⟩
  rcases h.2 with ⟨h3, h4⟩ | ⟨g, cap, cur, hv, hb, hg, hle, hm, hs, ht⟩
  · omega
  · injection hv with hA _ hc
    subst hA
    exact ⟨_, rfl, (Array.getElem?_eq_some_iff.1 hg).1, h.cells (g := g) rfl⟩
/-- Such a row, of at least one record: its block. -/
theorem own_some {w : World} {base : Nat} {e : TypeId} {A : Option Addr} {n c : Nat} {L : List α} (hn : 0 < n) (h : w.ownsRow base e d (.slice A n c) n (rowV f L)) : ∃ g, A = some ⟨g, 0, none⟩ ∧ base ≤ g ∧ n ≤ c ∧ c ≤ maxLen ∧ Rw f e w g L := by
  have h0 := h
  rcases h.2 with ⟨h3, h4⟩ | ⟨g, cap, cur, hv, hb, hg, hle, hm, hs, ht⟩
  · omega
  · injection hv with hA _ hc
    subst hA
    subst hc
    exact ⟨g, rfl, hb, hle, hm, own_rw h0⟩
end

theorem made_cells {α : Type} {f : α → List Value} {d : Nat} (hf : ∀ a, (f a).length = d) (hd : 0 < d) (z : α) (n : Nat) : madeCells (f z).toArray (n * d) = (rowV f (List.replicate n z)).toArray := by
  apply Array.ext'
  apply List.ext_getElem?
  intro i
  unfold madeCells
  simp only [Array.toList_map, Array.toList_range, List.getElem?_map]
  by_cases hi : i < n * d
  · have h1 : i / d < n := (Nat.div_lt_iff_lt_mul hd).2 hi
    have h2 : i % d < (f z).length := by rw [hf]; exact Nat.mod_lt _ hd
    have h3 := rowV_get hf (L := List.replicate n z) (k := i / d) (a := z) (by simp [h1]) (j := i % d) (List.getElem?_eq_getElem h2)
    rw [Nat.div_add_mod' i d] at h3
    rw [h3]
    simp [hi, hf]
    have h4 : i % d < (f z).length := h2
    simp [h4]
  · rw [List.getElem?_eq_none (l := rowV f (List.replicate n z)) (by rw [rowV_len hf, List.length_replicate]; omega), List.getElem?_eq_none (l := List.range (n * d)) (by rw [List.length_range]; omega)]
    rfl
theorem make_any {e : TypeId} {P : Program} {α : Type} {f : α → List Value} {d b8 : Nat} (t : TypeId) (ht : P.underlying t = some (.slice e)) (z : α) (hf : ∀ a, (f a).length = d) (hd : 0 < d) (hb8 : b8 ≤ 64)
    (hi : (P.info? e).map (fun i => (i.zero, i.size, i.bytes)) = some (some (.agg (f z).toArray), d, b8)) (n : Nat) (hn : n ≤ 1000000) (w : World) :
    (Instr.makeSlice t (.int .i64 (n : Int)) (.int .i64 (n : Int))).run P w = .ok (.slice (some ⟨w.heap.size, 0, none⟩) n n) (w.alloc (.cells (rowV f (List.replicate n z)).toArray e)) := by
  obtain ⟨i0, hi, hz0, hz1, hz2⟩ := info_parts hi
  have h1 : (i0.bytes : Int) * (n : Int) ≤ 281474976710656 := by
    have h2 : i0.bytes * n ≤ 64 * 1000000 := Nat.mul_le_mul (by omega) hn
    have : ((i0.bytes * n : Nat) : Int) ≤ 281474976710656 := by omega
    rwa [Int.natCast_mul] at this
  have hr := run_make (P := P) w t e i0 _ ht hi hz0 .i64 .i64 n n (by omega) (Int.le_refl _) h1 (by omega)
  rw [hr, hz1]
  simp only [Int.toNat_natCast]
  rw [show (Value.agg (f z).toArray).cells = (f z).toArray from rfl, made_cells hf hd z n]
theorem made_rw {α : Type} {f : α → List Value} (w : World) (e : TypeId) (L : List α) : Rw f e (w.alloc (.cells (rowV f L).toArray e)) w.heap.size L := ⟨[], by rw [List.append_nil]; exact heap_alloc_new w _⟩
end Go.Proofs.YtappnfifhpmekaaDoor
