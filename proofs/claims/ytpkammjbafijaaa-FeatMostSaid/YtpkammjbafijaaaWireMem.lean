/-
  What the proofs of the layer wire say of memory: a slice of bytes that reads as a list of numbers, a reader's two fields in one block, and how both are kept while other memory is made or written.
-/
import Derived.WalkKit
import Derived.Deep.Draws
import Derived.Lib.Hide
import Derived.Laws.AppendOwnNone
import Derived.Laws.CopyOwn
namespace Go.Proofs.Ytpkammjbafijaaa
open Go.RowKit

theorem addBlock (a : Addr) (k : Nat) : (a.add k).block = a.block := by unfold Addr.add; split <;> rfl
theorem addAdd (a : Addr) (i j : Nat) : (a.add i).add j = a.add (i + j) := by
  unfold Addr.add
  by_cases hi : i = 0 <;> by_cases hj : j = 0 <;> simp [hi, hj, Nat.add_assoc]
theorem addHead (g j : Nat) : (⟨g, 0, none⟩ : Addr).add j = ⟨g, j, none⟩ := by unfold Addr.add; split <;> simp_all

/-- A slice of n bytes at the address A reads as zs. Of a slice without elements nothing is asked. -/
structure Sb (w : World) (A : Option Addr) (n : Nat) (zs : List Int) : Prop where
  len : zs.length = n
  at_ : 0 < n → ∃ ad, A = some ad ∧ ad.block < w.heap.size ∧ ∀ k, k < n → w.cell? (ad.add k) = some (.int .u8 (zs.getD k 0))

/-- Numbers that fit a byte. -/
def U8s (zs : List Int) : Prop := ∀ z ∈ zs, 0 ≤ z ∧ z ≤ 255

theorem getD_lt {zs : List Int} {k : Nat} (h : k < zs.length) : zs.getD k 0 = zs[k] := by simp [List.getD, List.getElem?_eq_getElem h]
theorem getD_ge {zs : List Int} {k : Nat} (h : zs.length ≤ k) : zs.getD k 0 = 0 := by simp [List.getD, List.getElem?_eq_none h]
theorem U8s.nil : U8s [] := fun _ h => by cases h
theorem U8s.getD {zs : List Int} (h : U8s zs) (k : Nat) : 0 ≤ zs.getD k 0 ∧ zs.getD k 0 ≤ 255 := by
  by_cases hk : k < zs.length
  · rw [getD_lt hk]; exact h _ (List.getElem_mem hk)
  · rw [getD_ge (by omega)]; omega
theorem U8s.drop {zs : List Int} (h : U8s zs) (k : Nat) : U8s (zs.drop k) := fun z hz => h z (List.mem_of_mem_drop hz)
theorem U8s.take {zs : List Int} (h : U8s zs) (k : Nat) : U8s (zs.take k) := fun z hz => h z (List.mem_of_mem_take hz)
theorem U8s.append {xs ys : List Int} (h : U8s xs) (h' : U8s ys) : U8s (xs ++ ys) := fun z hz => by
  rcases List.mem_append.1 hz with hz | hz
  · exact h z hz
  · exact h' z hz

section
variable {w w' : World} {A : Option Addr} {n : Nat} {zs : List Int}

theorem Sb.nil (w : World) (A : Option Addr) : Sb w A 0 [] := ⟨rfl, fun h => absurd h (by omega)⟩
theorem Sb.keep (h : Sb w A n zs) (hs : w.heap.size ≤ w'.heap.size) (hk : ∀ p : Addr, 0 < n → A.map (·.block) = some p.block → p.block < w.heap.size → w'.cell? p = w.cell? p) : Sb w' A n zs :=
  ⟨h.len, fun hn => by
    obtain ⟨ad, rfl, hb, hc⟩ := h.at_ hn
    exact ⟨ad, rfl, by omega, fun k hkn => (hk (ad.add k) hn (by simp [addBlock]) (by rw [addBlock]; exact hb)).trans (hc k hkn)⟩⟩
theorem Sb.below (h : Sb w A n zs) (hb : Below w.heap.size w w') : Sb w' A n zs := h.keep hb.size fun _ _ _ hp => hb.cell hp
theorem Sb.drewN (h : Sb w A n zs) (q : Nat) : Sb (w.drewN q) A n zs := ⟨h.len, h.at_⟩
theorem Sb.drew (h : Sb w A n zs) : Sb w.drew A n zs := ⟨h.len, h.at_⟩
theorem Sb.alloc (h : Sb w A n zs) (o : Obj) : Sb (w.alloc o) A n zs := h.below ((Below.refl _ _).alloc (Nat.le_refl _) o)
theorem Sb.grown (h : Sb w A n zs) {row : Option Nat} (hg : w.grownBy w' row) (hne : ∀ ad, A = some ad → 0 < n → row ≠ some ad.block) : Sb w' A n zs :=
  h.keep hg.size fun p hn hA hp => World.cell?_of_block (hg.block p.block hp (fun e => by
    cases A with
    | none => simp at hA
    | some ad => simp at hA; exact hne ad rfl hn (by rw [← e, hA])))
theorem Sb.cut (h : Sb w A n zs) {k c : Nat} (hk : k ≤ n) (hc : n ≤ c) : Sb w (if c = k then A else A.map (·.add k)) (n - k) (zs.drop k) := by
  refine ⟨by rw [List.length_drop, h.len], fun hn => ?_⟩
  obtain ⟨ad, rfl, hb, hcell⟩ := h.at_ (by omega)
  rw [if_neg (by omega)]
  refine ⟨ad.add k, rfl, by rw [addBlock]; exact hb, fun j hj => ?_⟩
  rw [addAdd, hcell (k + j) (by omega)]
  congr 2
  have := h.len
  rw [getD_lt (by omega), getD_lt (by simp; omega)]
  simp
theorem Sb.front (h : Sb w A n zs) {k : Nat} (hk : k ≤ n) : Sb w A k (zs.take k) := by
  refine ⟨by rw [List.length_take, h.len]; omega, fun hn => ?_⟩
  obtain ⟨ad, rfl, hb, hcell⟩ := h.at_ (by omega)
  refine ⟨ad, rfl, hb, fun j hj => ?_⟩
  rw [hcell j (by omega)]
  congr 2
  have := h.len
  rw [getD_lt (by omega), getD_lt (by simp; omega)]
  simp
theorem Sb.addr (h : Sb w A n zs) (hn : 0 < n) : ∃ ad, A = some ad := by obtain ⟨ad, e, _⟩ := h.at_ hn; exact ⟨ad, e⟩
/-- At an address that is known: where the elements lie. -/
theorem Sb.cell {ad : Addr} (h : Sb w (some ad) n zs) {k : Nat} (hk : k < n) : w.cell? (ad.add k) = some (.int .u8 (zs.getD k 0)) := by
  obtain ⟨ad', e, _, hc⟩ := h.at_ (by omega)
  injection e with e
  subst e
  exact hc k hk
theorem Sb.lt {ad : Addr} (h : Sb w (some ad) n zs) (hn : 0 < n) : ad.block < w.heap.size := by
  obtain ⟨ad', e, hb, _⟩ := h.at_ hn
  injection e with e
  subst e
  exact hb

/-- A row of the call's own reads as its numbers. -/
theorem Sb.own {base : Nat} {e : TypeId} {c : Nat} (h : w.ownsRow base e 1 (.slice A n c) n (zs.map (Value.int .u8))) : Sb w A n zs := by
  have hl : zs.length = n := by have := h.1; simpa using this
  refine ⟨hl, fun hn => ?_⟩
  obtain ⟨_, h2⟩ := h
  rcases h2 with ⟨h3, h4⟩ | ⟨g, cap, cur, hv, hb, hg, hle, hm, hs, ht⟩
  · omega
  · injection hv with hA _ hc
    subst hA
    refine ⟨_, rfl, (Array.getElem?_eq_some_iff.1 hg).1, fun k hk => ?_⟩
    rw [addHead, cell_of_row w g k cur e (0, 0) hg]
    have h5 : (zs.map (Value.int .u8))[k]? = some (Value.int .u8 (zs.getD k 0)) := by
      rw [List.getElem?_map, List.getElem?_eq_getElem (by omega), getD_lt (by omega)]; rfl
    rw [← ht, List.getElem?_take, if_pos (by omega)] at h5
    simpa using h5
end

theorem Sb.news {w : World} {ad : Addr} {n : Nat} {zs : List Int} (h : Sb w (some ad) n zs) : ∀ (j : Nat) (u : Value), (zs.map (Value.int .u8))[j]? = some u → w.cell? (ad.add j) = some u := by
  intro j u hu
  have hj : j < zs.length := by
    rcases Nat.lt_or_ge j zs.length with hlt | hge
    · exact hlt
    · rw [List.getElem?_eq_none (by simpa using hge)] at hu; cases hu
  have hl := h.len
  rw [h.cell (k := j) (by omega), getD_lt hj]
  rw [List.getElem?_map, List.getElem?_eq_getElem hj] at hu
  simpa using hu
theorem oneCells (zs : List Int) : ∀ u ∈ zs.map (Value.int .u8), u.oneCell' = true := by
  intro u hu
  obtain ⟨z, _, rfl⟩ := List.mem_map.1 hu
  rfl

/-- The one byte that is laid for an append. -/
theorem Sb.one (w : World) (e : TypeId) (z : Int) : Sb (w.alloc (.cells #[.int .u8 z] e)) (some ⟨w.heap.size, 0, none⟩) 1 [z] := by
  refine ⟨rfl, fun _ => ⟨_, rfl, by simp, fun k hk => ?_⟩⟩
  obtain rfl : k = 0 := by omega
  rw [addHead, cell_of_row _ _ 0 _ _ _ (heap_alloc_new w (.cells #[.int .u8 z] e))]
  rfl

/-- What an owned slice looks like. -/
theorem own_shape {w : World} {base : Nat} {e : TypeId} {size : Nat} {v : Value} {n : Nat} {xs : List Value} (h : w.ownsRow base e size v n xs) : ∃ A c, v = .slice A n c ∧ n ≤ c ∧ c ≤ maxLen := by
  rcases h.2 with ⟨rfl, rfl⟩ | ⟨g, cap, cur, rfl, _, _, h1, h2, _⟩
  · exact ⟨none, 0, rfl, Nat.le_refl _, by unfold maxLen; omega⟩
  · exact ⟨_, cap, rfl, h1, h2⟩

theorem run_app_nil {P : Program} (w : World) (base : Nat) (t ty e : TypeId) (i : TypeInfo) (size : Nat) (ht : P.underlying t = some (.slice e)) (hi : P.info? e = some i)
    (v : Value) (n : Nat) (xs : List Value) (hown : w.ownsRow base e size v n xs) (c : Nat) : (Builtin.append_ #[t, t] ty #[v, .slice none 0 c]).run P w = .ok v w := by
  rcases hown.2 with ⟨rfl, rfl⟩ | ⟨g, cap, cur, rfl, _, _, hnc, _⟩
  · simp [Builtin.append_, run_underlying ht, sizeOf, typeInfo, hi, Builtin.lenOf, Builtin.firstCells]
  · simp [Builtin.append_, run_underlying ht, sizeOf, typeInfo, hi, Builtin.lenOf, Builtin.firstCells, hnc, storeCells]

/-- append onto a row of the call's own, whatever slice of bytes stands behind: nil, empty or not. -/
theorem wpList_app {P : Program} (w : World) {ops : Array Oper} {rest : List Oper} {o : Oper} {a : Act} {Q : Exit → Act → World → Prop} (hgd : o.guard = none) (s x : Operand) (t : TypeId)
    (ho : o.op = .call { callee := .builtin .append, args := #[s, x], argTypes := #[t, t] })
    (base : Nat) (e : TypeId) (ht : P.underlying t = some (.slice e)) (hi : (P.info? e).map (fun i => (i.zero, i.size, i.bytes)) = some (some (.int .u8 0), 1, 1))
    (v : Value) (n : Nat) (xs : List Value) (hs : a.eval s = v) (hown : w.ownsRow base e 1 v n xs)
    (A : Option Addr) (m c : Nat) (news : List Int) (hx : a.eval x = .slice A m c) (hr : Sb w A m news) (h63 : n + m ≤ 140737488355328) (hbase : base ≤ w.heap.size)
    (h : ∀ A' c' w', w'.ownsRow base e 1 (.slice A' (n + m) c') (n + m) (xs ++ news.map (Value.int .u8)) → w.grownBy w' v.ownBlock → wpList P ops Q rest (a.put o.dst (.slice A' (n + m) c')) w') : wpList P ops Q (o :: rest) a w := by
  obtain ⟨i0, hi, hz0, hz1, hz2⟩ := info_parts hi
  have hk : ∀ v' w', w'.ownsRow base e 1 v' (n + m) (xs ++ news.map (Value.int .u8)) → w.grownBy w' v.ownBlock → wpList P ops Q rest (a.put o.dst v') w' := by
    intro v' w' h1 h2
    obtain ⟨A', c', rfl, _⟩ := own_shape h1
    exact h A' c' w' h1 h2
  cases A with
  | none =>
    have hm : m = 0 := by
      rcases Nat.eq_zero_or_pos m with h0 | h0
      · exact h0
      · obtain ⟨ad, h1⟩ := hr.addr h0
        cases h1
    subst hm
    have hn : news = [] := List.eq_nil_of_length_eq_zero hr.len
    subst hn
    refine wpList_plain hgd fun K hK => ?_
    have hrun := run_app_nil (P := P) w base t o.type e i0 1 ht hi v n xs hown c
    unfold Oper.wp
    simp [execOp, ho, resolve, invoke, builtin, hs, hx, hrun, Result.andThen]
    exact hK _ _ (hk v w (by simpa using hown) (World.grownBy.refl w _))
  | some ad =>
    exact wpList_append_own w hgd s x t ho base e i0 (.int .u8 0) 1 1 ht hi hz0 hz1 hz2 rfl (by decide) v n xs hs hown ad m c (news.map (Value.int .u8)) hx (by simp [hr.len]) hr.news (oneCells _)
      (by unfold maxLen; omega) (by omega) hbase fun v' w' h1 h2 _ => hk v' w' h1 h2

/-- copy of a slice of bytes over a whole row of the call's own that is as long. -/
theorem wpList_cpy {P : Program} {w : World} {ops : Array Oper} {rest : List Oper} {o : Oper} {a : Act} {Q : Exit → Act → World → Prop} (hgd : o.guard = none) (d s : Operand) (t : TypeId)
    (ho : o.op = .call { callee := .builtin .copy, args := #[d, s], argTypes := #[t, t] }) (base : Nat) (e : TypeId) (hu : P.underlying t = some (.slice e)) (hsz : (P.info? e).map (·.size) = some 1)
    (g n c : Nat) (A : Option Addr) (hd : a.eval d = .slice (some ⟨g, 0, none⟩) n n) (hs : a.eval s = .slice A n c) (xs : List Value) (hown : w.ownsRow base e 1 (.slice (some ⟨g, 0, none⟩) n n) n xs)
    (zs : List Int) (hr : Sb w A n zs)
    (h : ∀ w', w'.ownsRow base e 1 (.slice (some ⟨g, 0, none⟩) n n) n (zs.map (Value.int .u8)) → Below base w w' → wpList P ops Q rest (a.put o.dst (goInt n)) w') : wpList P ops Q (o :: rest) a w := by
  rcases hown.2 with ⟨h1, _⟩ | ⟨g', cap, cur, h1, hb, hg, hle, hm, hcs, _⟩
  · cases h1
  · injection h1 with h2 _ h3
    injection h2 with h2
    injection h2 with h2
    subst h2
    subst h3
    have hl := hr.len
    have hlen : (zs.map (Value.int .u8)).length = n := by simpa using hl
    have hcur : cur.toList.length = n := by simpa using hcs
    have key := wpList_copy_splice (P := P) (w := w) (ops := ops) (rest := rest) (o := o) (a := a) (Q := Q) hgd d s t t ho e hu hsz (some ⟨g, 0, none⟩) A n n n c hd hs g 0 cur.toList e (by simpa using hg) (zs.map (Value.int .u8)) (by rw [hlen]; simp)
      (fun hp => ⟨rfl, by
        obtain ⟨ad, rfl⟩ := hr.addr (by omega)
        exact ⟨ad, rfl, hr.news⟩⟩) (by omega) (oneCells _) base w (Below.refl _ _) hb
    rw [hlen] at key
    refine key fun w' hh hbel => h w' ⟨by simpa using hl, .inr ⟨g, n, _, rfl, hb, hh.out, Nat.le_refl _, hm, ?_, ?_⟩⟩ hbel
    · simp [splice, hcur, hl]
    · have : List.drop (zs.length) cur.toList = [] := List.drop_eq_nil_of_le (by omega)
      simp [splice, this]
      rw [List.take_of_length_le (by simp [hl])]

/-- An append onto a row of the call's own leaves old memory as it was. -/
theorem below_app {B : Nat} {w wr w2 : World} {e : TypeId} {size : Nat} {v : Value} {n : Nat} {xs : List Value} (hown : wr.ownsRow B e size v n xs) (hbel : Below B w wr) (hB : B ≤ wr.heap.size) (o : Obj)
    (hg : (wr.alloc o).grownBy w2 v.ownBlock) : Below B w w2 :=
  (hbel.alloc hB o).grown hg (by simp; omega) fun k hk => (hown.lt k hk).1
theorem below_app0 {B : Nat} {w wr w2 : World} {e : TypeId} {size : Nat} {v : Value} {n : Nat} {xs : List Value} (hown : wr.ownsRow B e size v n xs) (hbel : Below B w wr) (hB : B ≤ wr.heap.size)
    (hg : wr.grownBy w2 v.ownBlock) : Below B w w2 :=
  hbel.grown hg hB fun k hk => (hown.lt k hk).1

/-- A slice in new memory (or nil) that reads as zs; nothing that was there has turned. -/
structure MadeAt (e : TypeId) (zs : List Int) (w : World) (A : Option Addr) (n c : Nat) (w' : World) : Prop where
  len : zs.length = n
  le : n ≤ c
  max : c ≤ maxLen
  own : w'.ownsRow w.heap.size e 1 (.slice A n c) n (zs.map (Value.int .u8))
  below : Below w.heap.size w w'

/-- What is owned from a block on is owned from an earlier one on. -/
theorem own_base {w : World} {B B' : Nat} {e : TypeId} {size : Nat} {v : Value} {n : Nat} {xs : List Value} (h : w.ownsRow B e size v n xs) (hB : B' ≤ B) : w.ownsRow B' e size v n xs := by
  refine ⟨h.1, ?_⟩
  rcases h.2 with h | ⟨g, cap, cur, h1, h2, h3⟩
  · exact .inl h
  · exact .inr ⟨g, cap, cur, h1, by omega, h3⟩

/-- What a call made. -/
def Made (e : TypeId) (zs : List Int) (w : World) (v : Value) (w' : World) : Prop :=
  ∃ (A : Option Addr) (n c : Nat), v = .slice A n c ∧ MadeAt e zs w A n c w'

theorem MadeAt.mk' {e : TypeId} {zs : List Int} {w w' : World} {A : Option Addr} {n c : Nat} (h : w'.ownsRow w.heap.size e 1 (.slice A n c) n (zs.map (Value.int .u8))) (hb : Below w.heap.size w w') : MadeAt e zs w A n c w' := by
  obtain ⟨A', c', e1, h1, h2⟩ := own_shape h
  injection e1 with _ _ e1
  subst e1
  exact ⟨by simpa using h.1, h1, h2, h, hb⟩
theorem Made.mk {e : TypeId} {zs : List Int} {w w' : World} {A : Option Addr} {n c : Nat} (h : w'.ownsRow w.heap.size e 1 (.slice A n c) n (zs.map (Value.int .u8))) (hb : Below w.heap.size w w') : Made e zs w (.slice A n c) w' :=
  ⟨A, n, c, rfl, MadeAt.mk' h hb⟩
theorem Made.nil (e : TypeId) (w : World) : Made e [] w (.slice none 0 0) w := Made.mk (World.ownsRow_nil _ _ _ _) (Below.refl _ _)
theorem MadeAt.sb {e : TypeId} {zs : List Int} {w w' : World} {A : Option Addr} {n c : Nat} (h : MadeAt e zs w A n c w') : Sb w' A n zs := Sb.own h.own

/-- A slice in memory that was made since w (or nil), which reads as zs. -/
structure FreshAt (e : TypeId) (zs : List Int) (w : World) (A : Option Addr) (n c : Nat) (w' : World) : Prop where
  len : zs.length = n
  le : n ≤ c
  max : c ≤ maxLen
  own : w'.ownsRow w.heap.size e 1 (.slice A n c) n (zs.map (Value.int .u8))
def Fresh (e : TypeId) (zs : List Int) (w : World) (v : Value) (w' : World) : Prop := ∃ (A : Option Addr) (n c : Nat), v = .slice A n c ∧ FreshAt e zs w A n c w'
theorem MadeAt.fresh {e : TypeId} {zs : List Int} {w w' : World} {A : Option Addr} {n c : Nat} (h : MadeAt e zs w A n c w') : FreshAt e zs w A n c w' := ⟨h.len, h.le, h.max, h.own⟩
theorem Fresh.nil (e : TypeId) (w w' : World) : Fresh e [] w (.slice none 0 0) w' := ⟨none, 0, 0, rfl, rfl, Nat.le_refl _, by unfold maxLen; omega, World.ownsRow_nil _ _ _ _⟩
theorem FreshAt.sb {e : TypeId} {zs : List Int} {w w' : World} {A : Option Addr} {n c : Nat} (h : FreshAt e zs w A n c w') : Sb w' A n zs := Sb.own h.own
theorem FreshAt.setCell {e : TypeId} {zs : List Int} {w w' : World} {A : Option Addr} {n c : Nat} (h : FreshAt e zs w A n c w') {a : Addr} (ha : a.block < w.heap.size) (u : Value) : FreshAt e zs w A n c (w'.setCell a u) :=
  ⟨h.len, h.le, h.max, ownsRow_setCell_below h.own ha u⟩

theorem FreshAt.head {e : TypeId} {zs : List Int} {w w' : World} {A : Option Addr} {n c : Nat} (h : FreshAt e zs w A n c w') (hn : 0 < n) :
    ∃ g, A = some ⟨g, 0, none⟩ ∧ w.heap.size ≤ g ∧ g < w'.heap.size ∧ ∀ k, k < n → w'.cell? ⟨g, k, none⟩ = some (.int .u8 (zs.getD k 0)) := by
  rcases h.own.2 with ⟨h3, h4⟩ | ⟨g, cap, cur, hv, hb, hg, _⟩
  · omega
  · injection hv with hA _ hc
    subst hA
    refine ⟨g, rfl, hb, (Array.getElem?_eq_some_iff.1 hg).1, fun k hk => ?_⟩
    have := h.sb.cell hk
    rwa [addHead] at this
/-- A row that is laid at once. -/
theorem Sb.lit (w : World) (e : TypeId) (zs : List Int) (n : Nat) (cs : Array Value) (hc : cs.toList = zs.map (Value.int .u8)) (hl : zs.length = n) (hm : n ≤ maxLen) : Sb (w.alloc (.cells cs e)) (some ⟨w.heap.size, 0, none⟩) n zs := by
  have hs : cs.size = n * 1 := by rw [← Array.length_toList, hc]; simp [hl]
  have h := World.ownsRow_lit (size := 1) (e := e) w cs n (Nat.le_refl _) hm hs
  rw [hc] at h
  exact Sb.own h

theorem own_block {w : World} {base : Nat} {e : TypeId} {n c : Nat} {xs : List Value} {ad : Addr} (h : w.ownsRow base e 1 (.slice (some ad) n c) n xs) : base ≤ ad.block ∧ ad.block < w.heap.size :=
  h.lt ad.block rfl

/-- A reader in the block r: what it has still to read, and its error. What it reads lies in a block from base on and ahead of r. -/
structure Rd (t : TypeId) (base : Nat) (w : World) (r : Nat) (A : Option Addr) (n c : Nat) (zs : List Int) (e : Int) : Prop where
  blk : w.heap[r]? = some (.cells #[.slice A n c, .int .i64 e] t (0, 0))
  sb : Sb w A n zs
  le : n ≤ c
  max : c ≤ maxLen
  lo : base ≤ r
  at_ : ∀ ad, A = some ad → base ≤ ad.block ∧ ad.block < r

section
variable {t : TypeId} {base : Nat} {w w' : World} {r : Nat} {A : Option Addr} {n c : Nat} {zs : List Int} {e : Int}

theorem Rd.lt (h : Rd t base w r A n c zs e) : r < w.heap.size := lt_of_block h.blk
theorem Rd.cell0 (h : Rd t base w r A n c zs e) : w.cell? ⟨r, 0, none⟩ = some (.slice A n c) := by simp [World.cell?, h.blk]
theorem Rd.cell1 (h : Rd t base w r A n c zs e) : w.cell? ⟨r, 1, none⟩ = some (.int .i64 e) := by simp [World.cell?, h.blk]
theorem Rd.free (h : Rd t base w r A n c zs e) (k : Nat) : w.frozen? ⟨r, k, none⟩ = false := by simp [World.frozen?, h.blk]
/-- What lies from base up to r is as it was. -/
theorem Rd.stay (h : Rd t base w r A n c zs e) (hs : w.heap.size ≤ w'.heap.size) (hk : ∀ k, base ≤ k → k ≤ r → w'.heap[k]? = w.heap[k]?) : Rd t base w' r A n c zs e :=
  ⟨(hk r h.lo (Nat.le_refl _)).trans h.blk, h.sb.keep hs fun p _ hA _ => World.cell?_of_block (hk _ (by
    cases hA' : A with
    | none => rw [hA'] at hA; cases hA
    | some ad => rw [hA'] at hA; simp at hA; rw [← hA]; exact (h.at_ ad hA').1) (by
    cases hA' : A with
    | none => rw [hA'] at hA; cases hA
    | some ad => rw [hA'] at hA; simp at hA; rw [← hA]; exact Nat.le_of_lt (h.at_ ad hA').2)), h.le, h.max, h.lo, h.at_⟩
theorem Rd.below (h : Rd t base w r A n c zs e) (hb : Below w.heap.size w w') : Rd t base w' r A n c zs e :=
  h.stay hb.size fun k _ hk => hb.block k (Nat.lt_of_le_of_lt hk h.lt)
theorem Rd.drewN (h : Rd t base w r A n c zs e) (q : Nat) : Rd t base (w.drewN q) r A n c zs e := ⟨h.blk, h.sb.drewN q, h.le, h.max, h.lo, h.at_⟩
theorem Rd.drew (h : Rd t base w r A n c zs e) : Rd t base w.drew r A n c zs e := ⟨h.blk, h.sb.drew, h.le, h.max, h.lo, h.at_⟩
/-- Another error. -/
theorem Rd.setErr (h : Rd t base w r A n c zs e) (e' : Int) : Rd t base (w.setCell ⟨r, 1, none⟩ (.int .i64 e')) r A n c zs e' := by
  refine ⟨heap_setCell_same w r 1 _ t _ h.blk, h.sb.keep (by simp) fun p _ hA _ => World.cell?_of_block (heap_setCell_other w _ _ _ ?_), h.le, h.max, h.lo, h.at_⟩
  cases hA' : A with
  | none => rw [hA'] at hA; cases hA
  | some ad =>
    rw [hA'] at hA; simp at hA
    have := (h.at_ ad hA').2
    rw [← hA]
    intro e1
    have e2 : ad.block = r := by first | exact e1 | exact e1.symm
    omega
/-- The first k bytes have been read. -/
theorem Rd.setRest (h : Rd t base w r A n c zs e) {k : Nat} (hk : k ≤ n) :
    Rd t base (w.setCell ⟨r, 0, none⟩ (.slice (if c = k then A else A.map (·.add k)) (n - k) (c - k))) r (if c = k then A else A.map (·.add k)) (n - k) (c - k) (zs.drop k) e := by
  have hle := h.le
  have hat : ∀ ad, (if c = k then A else A.map (·.add k)) = some ad → base ≤ ad.block ∧ ad.block < r := by
    intro ad hA
    split at hA
    · exact h.at_ ad hA
    · cases A with
      | none => cases hA
      | some a0 =>
        simp at hA
        subst hA
        rw [addBlock]
        exact h.at_ a0 rfl
  have hsb := h.sb.cut hk hle
  refine ⟨heap_setCell_same w r 0 _ t _ h.blk, hsb.keep (by simp) fun p _ hA _ => World.cell?_of_block (heap_setCell_other w _ _ _ ?_), by omega, by have := h.max; omega, h.lo, hat⟩
  cases hA' : (if c = k then A else A.map (·.add k)) with
  | none => rw [hA'] at hA; cases hA
  | some ad =>
    rw [hA'] at hA; simp at hA
    have := (hat ad hA').2
    rw [← hA]
    intro e1
    have e2 : ad.block = r := by first | exact e1 | exact e1.symm
    omega

/-- What a call to a reader left: the reader with what it has still to read and its error; nothing else that was there has turned. -/
def RdTo (t : TypeId) (base : Nat) (w : World) (r : Nat) (zs : List Int) (e : Int) (w' : World) : Prop := (∃ A n c, Rd t base w' r A n c zs e) ∧ w.grownBy w' (some r)
theorem RdTo.below {B : Nat} {w0 : World} (h : RdTo t base w r zs e w') (hb : Below B w0 w) (hB : B ≤ w.heap.size) (hr : B ≤ r) : Below B w0 w' :=
  hb.grown h.2 hB (fun k hk => by cases hk; exact hr)
theorem RdTo.refl (h : Rd t base w r A n c zs e) : RdTo t base w r zs e w := ⟨⟨A, n, c, h⟩, World.grownBy.refl w _⟩
theorem grownBy_set (w : World) (a : Addr) (u : Value) : w.grownBy (w.setCell a u) (some a.block) :=
  ⟨rfl, rfl, rfl, by simp, fun k _ hk => heap_setCell_other w a k u (fun e => hk (by simp [e]))⟩
theorem grownBy_trans {a b c : World} {row : Option Nat} (h : a.grownBy b row) (k : b.grownBy c row) : a.grownBy c row :=
  ⟨k.os.trans h.os, k.tape.trans h.tape, k.output.trans h.output, Nat.le_trans h.size k.size, fun i hi hr => (k.block i (Nat.lt_of_lt_of_le hi h.size) hr).trans (h.block i hi hr)⟩
theorem grownBy_below {a b : World} {row : Option Nat} (h : Below a.heap.size a b) : a.grownBy b row := ⟨h.os, h.tape, h.output, h.size, fun k hk _ => h.block k hk⟩
theorem RdTo.err (h : Rd t base w r A n c zs e) (e' : Int) : RdTo t base w r zs e' (w.setCell ⟨r, 1, none⟩ (.int .i64 e')) := ⟨⟨_, _, _, h.setErr e'⟩, grownBy_set _ _ _⟩
end

theorem below_drewN' {B : Nat} {a w : World} (h : Below B a w) (q : Nat) : Below B a (w.drewN q) := ⟨h.os, h.tape, h.output, h.size, h.block⟩
end Go.Proofs.Ytpkammjbafijaaa
