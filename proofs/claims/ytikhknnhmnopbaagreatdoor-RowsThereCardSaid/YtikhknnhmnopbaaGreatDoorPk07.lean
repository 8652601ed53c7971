/-
  Part 7 of what the laws of emul want: ColorSpec, ProjSpec, UtfDec, EmulTitleS, Ints, IntsApp, UtfMem, UtfWord.
-/
import Derived.Laws.BitsAllLaws
import Derived.Lib.TrimUEq
import Derived.Laws.Cover4
import Derived.Laws.AppendOwnNone
import Derived.Laws.BytesArg
import Derived.Laws.RangeAny
import Derived.LoopTactic
import Derived.Lib.ValidLaws
import Derived.Lib.EndianBits
import Derived.Deep.QuietTactic
import Derived.BigQuiet
import Derived.Test.YtikhknnhmnopbaaGreatDoorPk01
import Derived.Test.YtikhknnhmnopbaaGreatDoorPk02
import Derived.Test.YtikhknnhmnopbaaGreatDoorPk06
namespace Go.Proofs.YtikhknnhmnopbaaGreatDoor
def threeS (c : Int) : Prop := 16777216 ≤ c ∧ c < 33554432
instance (c : Int) : Decidable (threeS c) := by unfold threeS; infer_instance
def scZero : Sc := ⟨0, 0, [], 0, 0, false, 0, [], []⟩
theorem w32 : widthS 32 = 1 := by decide +kernel
theorem leads_none {n : Int} : leadsS [] n = eT := by
 have e : textI [] n = eT := by unfold textI; split <;> rfl
 unfold leadsS
 rw [e]
 split <;> rfl
theorem canonL_none (cs : List Ce) : canonL cs [] = [] := by
 unfold canonL seqT
 induction cs with
 | nil => rfl
 | cons c cs ih => rw [List.map_cons, List.foldl_cons, leads_none, addT_old (.inl rfl)]; exact ih
theorem ord_none {cs : List Ce} (h : ∀ c ∈ cs, c.p.lk = 0) : ordS cs [] = true := by
 unfold ordS
 simp only [Bool.and_eq_true, decide_eq_true_eq]
 refine ⟨⟨by decide, ?_⟩, canonL_none cs⟩
 unfold canonC
 rw [canonL_none]
 conv => rhs; rw [← List.map_id cs]
 apply List.map_congr_left
 intro c hc
 rw [leads_none]
 have e : numI [] eT = 0 := by unfold numI; rw [if_pos rfl]
 rw [e]
 have := h c hc
 obtain ⟨r, wd, fg, bg, st, lk⟩ := c
 simp only at this
 subst this
 rfl
theorem ord_zero {cs : List Ce} (h : ordS cs [] = true) : ∀ c ∈ cs, c.p.lk = 0 := by
 unfold ordS at h
 simp only [Bool.and_eq_true, decide_eq_true_eq] at h
 obtain ⟨⟨_, h2⟩, _⟩ := h
 unfold canonC at h2
 intro c hc
 have : cs.map (fun c => setLk c (numI (canonL cs []) (leadsS [] c.p.lk))) = cs.map id := by rw [h2, List.map_id]
 have e := congrArg (fun c => c.p.lk) (List.map_inj_left.1 this c hc)
 rw [leads_none] at e
 have e0 : numI (canonL cs []) eT = 0 := by unfold numI; rw [if_pos rfl]
 rw [e0] at e
 exact e.symm
def PosC (L : List Ce) : Prop := ∀ c ∈ L, 0 ≤ c.p.fg ∧ 0 ≤ c.p.bg
open Go.RowKit
def decS (L : List Int) : Int × Nat := match headS L with
 | some (r, n) => (r, n)
 | none => (65533, 1)
theorem headN {L : List Int} (hne : L ≠ []) : headS L = if szF (L.getD 0 0) = 1 then some (L.getD 0 0, 1)
  else if szF (L.getD 0 0) = 2 ∧ 2 ≤ L.length ∧ okF (L.getD 0 0) (L.getD 1 0) = true then some (v2 (L.getD 0 0) (L.getD 1 0), 2)
  else if szF (L.getD 0 0) = 3 ∧ 3 ≤ L.length ∧ okF (L.getD 0 0) (L.getD 1 0) = true ∧ ctF (L.getD 2 0) = true then some (v3 (L.getD 0 0) (L.getD 1 0) (L.getD 2 0), 3)
  else if szF (L.getD 0 0) = 4 ∧ 4 ≤ L.length ∧ okF (L.getD 0 0) (L.getD 1 0) = true ∧ ctF (L.getD 2 0) = true ∧ ctF (L.getD 3 0) = true then some (v4 (L.getD 0 0) (L.getD 1 0) (L.getD 2 0) (L.getD 3 0), 4)
  else none := by
 rcases L with _ | ⟨a, _ | ⟨b, _ | ⟨c, _ | ⟨d, t⟩⟩⟩⟩
 · exact absurd rfl hne
 all_goals simp [headS]
set_option maxHeartbeats 1600000 in
theorem dec_nat (n x0 x1 x2 x3 : Nat) (h0 : x0 < 256) (h1 : x1 < 256) (h2 : x2 < 256) (h3 : x3 < 256) (hn : 1 ≤ n) {L : List Int} (hl : L.length = n) (e0 : L.getD 0 0 = x0) (e1 : L.getD 1 0 = x1) (e2 : L.getD 2 0 = x2) (e3 : L.getD 3 0 = x3) :
  ((Lib.decodeN n x0 x1 x2 x3).1 : Int) = (decS L).1 ∧ (Lib.decodeN n x0 x1 x2 x3).2 = (decS L).2 := by
 have hne : L ≠ [] := fun e => by subst e; simp at hl; omega
 unfold decS
 rw [headN hne, e0, e1, e2, e3, hl]
 rcases first_sz x0 h0 with ⟨hX, hsz⟩ | ⟨hX, hsz⟩ | ⟨X, hX, hX2, hX240, hm, hs2, hs4, hlo, hhi, h5⟩
 · rw [Lib.ascii_eq _ _ _ _ _ hX, if_pos hsz]
   exact ⟨rfl, rfl⟩
 · rw [Lib.bad_eq _ _ _ _ _ h0 hX, hsz]
   simp
 · have hs := Lib.slow_eq n x0 x1 x2 x3 hn h1 h2 h3 (by rw [hX]; exact hX240)
   rw [hX, hm] at hs
   rw [← hs]
   have hok : okF x0 x1 = decide (loF x0 ≤ x1 ∧ x1 ≤ hiF x0) := rfl
   rw [hok, ← hlo, ← hhi]
   clear hs hlo hhi hm hok
   generalize Lib.accLo (X / 16) = lo
   generalize Lib.accHi (X / 16) = hi
   unfold Lib.slowN ctF v2 v3 v4
   have hs : szF x0 = 2 ∨ szF x0 = 3 ∨ szF x0 = 4 := by omega
   rcases hs with hs | hs | hs <;> rw [hs] <;> simp only [Nat.reduceEqDiff, if_false, false_and, true_and, decide_eq_true_eq, Nat.reduceLeDiff, if_true, Nat.le_refl]
   · split
     · rw [if_neg (by omega)]; exact ⟨rfl, rfl⟩
     · split
       · rw [if_neg (by omega)]; exact ⟨rfl, rfl⟩
       · rw [if_pos (by omega)]; simp
   · split
     · rw [if_neg (by omega)]; exact ⟨rfl, rfl⟩
     · split
       · rw [if_neg (by omega)]; exact ⟨rfl, rfl⟩
       · split
         · rw [if_neg (by omega)]; exact ⟨rfl, rfl⟩
         · rw [if_pos (by omega)]; simp
   · split
     · rw [if_neg (by omega)]; exact ⟨rfl, rfl⟩
     · split
       · rw [if_neg (by omega)]; exact ⟨rfl, rfl⟩
       · split
         · rw [if_neg (by omega)]; exact ⟨rfl, rfl⟩
         · split
           · rw [if_neg (by omega)]; exact ⟨rfl, rfl⟩
           · rw [if_pos (by omega)]; simp
theorem sL_getD (s : ByteArray) (k : Nat) : ((s.data.toList.getD k 0).toNat : Int) = (sL s).getD k 0 := by
 unfold sL
 rw [List.getD, List.getD, List.getElem?_map]
 cases s.data.toList[k]? <;> rfl
theorem dec_at (s : ByteArray) (pos : Nat) (h : pos < s.size) : ((Utf8.decode s pos).1 : Int) = (decS ((sL s).drop pos)).1 ∧ (Utf8.decode s pos).2 = (decS ((sL s).drop pos)).2 := by
 rw [Lib.decode_N]
 have hg : ∀ k, ((sL s).drop pos).getD k 0 = (sL s).getD (pos + k) 0 := fun k => by simp [List.getD]
 refine dec_nat _ _ _ _ _ (UInt8.toNat_lt _) (UInt8.toNat_lt _) (UInt8.toNat_lt _) (UInt8.toNat_lt _) ?_ ?_ ?_ ?_ ?_ ?_
 · have : s.data.toList.length = s.size := rfl
   omega
 · rw [List.length_drop, sL_len]; rfl
 · rw [hg, sL_getD]; rfl
 · rw [hg, sL_getD]
 · rw [hg, sL_getD]
 · rw [hg, sL_getD]
theorem encAll_split (ls : List Int) (k : Nat) : encAll ls = encAll (ls.take k) ++ encAll (ls.drop k) := by
 unfold encAll
 rw [List.map_take, List.map_drop, ← List.flatten_append, List.take_append_drop]
open Go.ChangeShapes Go.WideShapes Go.ChangeAt Go.RowKit
structure Ik (q : IntKind) (w : World) (A : Option Addr) (n : Nat) (zs : List Int) : Prop where
 len : zs.length = n
 at_ : 0 < n → ∃ ad, A = some ad ∧ ad.block < w.heap.size ∧ ∀ k, k < n → w.cell? (ad.add k) = some (.int q (zs.getD k 0))
section
variable {q : IntKind} {w w' : World} {A : Option Addr} {n : Nat} {zs : List Int}
theorem Ik.nil (q : IntKind) (w : World) (A : Option Addr) : Ik q w A 0 [] := ⟨rfl, fun h => absurd h (by omega)⟩
theorem Ik.keep (h : Ik q w A n zs) (hs : w.heap.size ≤ w'.heap.size) (hk : ∀ p : Addr, 0 < n → A.map (·.block) = some p.block → p.block < w.heap.size → w'.cell? p = w.cell? p) : Ik q w' A n zs :=
 ⟨h.len, fun hn => by
  obtain ⟨ad, rfl, hb, hc⟩ := h.at_ hn
  exact ⟨ad, rfl, by omega, fun k hkn => (hk (ad.add k) hn (by simp [addBlock]) (by rw [addBlock]; exact hb)).trans (hc k hkn)⟩⟩
theorem Ik.below (h : Ik q w A n zs) (hb : Below w.heap.size w w') : Ik q w' A n zs := h.keep hb.size fun _ _ _ hp => hb.cell hp
theorem Ik.grown (h : Ik q w A n zs) {row : Option Nat} (hg : w.grownBy w' row) (hne : ∀ ad, A = some ad → 0 < n → row ≠ some ad.block) : Ik q w' A n zs :=
 h.keep hg.size fun p hn hA hp => World.cell?_of_block (hg.block p.block hp (fun e => by
  cases A with
  | none => simp at hA
  | some ad => simp at hA; exact hne ad rfl hn (by rw [← e, hA])))
end
open Go.RowKit
theorem Ik.own {q : IntKind} {w : World} {A : Option Addr} {n : Nat} {zs : List Int} {base : Nat} {e : TypeId} {c : Nat} (h : w.ownsRow base e 1 (.slice A n c) n (zs.map (Value.int q))) : Ik q w A n zs := by
 have hl : zs.length = n := by have := h.1; simpa using this
 refine ⟨hl, fun hn => ?_⟩
 obtain ⟨_, h2⟩ := h
 rcases h2 with ⟨h3, h4⟩ | ⟨g, cap, cur, hv, hb, hg, hle, hm, hs, ht⟩
 · omega
 · injection hv with hA _ hc
   subst hA
   refine ⟨_, rfl, (Array.getElem?_eq_some_iff.1 hg).1, fun k hk => ?_⟩
   rw [addHead, cell_of_row w g k cur e (0, 0) hg]
   have h5 : (zs.map (Value.int q))[k]? = some (Value.int q (zs.getD k 0)) := by
    rw [List.getElem?_map, List.getElem?_eq_getElem (by omega), getD_lt (by omega)]; rfl
   rw [← ht, List.getElem?_take, if_pos (by omega)] at h5
   simpa using h5
theorem Ik.cell {q : IntKind} {w : World} {n : Nat} {zs : List Int} {ad : Addr} (h : Ik q w (some ad) n zs) {k : Nat} (hk : k < n) : w.cell? (ad.add k) = some (.int q (zs.getD k 0)) := by
 obtain ⟨ad', e, _, hc⟩ := h.at_ (by omega)
 injection e with e
 subst e
 exact hc k hk
theorem Ik.news {q : IntKind} {w : World} {ad : Addr} {n : Nat} {zs : List Int} (h : Ik q w (some ad) n zs) : ∀ (j : Nat) (u : Value), (zs.map (Value.int q))[j]? = some u → w.cell? (ad.add j) = some u := by
 intro j u hu
 have hj : j < zs.length := by
  rcases Nat.lt_or_ge j zs.length with hlt | hge
  · exact hlt
  · rw [List.getElem?_eq_none (by simpa using hge)] at hu; cases hu
 have hl := h.len
 rw [h.cell (k := j) (by omega), getD_lt hj]
 rw [List.getElem?_map, List.getElem?_eq_getElem hj] at hu
 simpa using hu
theorem oneCellsI (q : IntKind) (zs : List Int) : ∀ u ∈ zs.map (Value.int q), u.oneCell' = true := by
 intro u hu
 obtain ⟨z, _, rfl⟩ := List.mem_map.1 hu
 rfl
theorem Ik.one (q : IntKind) (w : World) (e : TypeId) (z : Int) : Ik q (w.alloc (.cells #[.int q z] e)) (some ⟨w.heap.size, 0, none⟩) 1 [z] := by
 refine ⟨rfl, fun _ => ⟨_, rfl, by simp, fun k hk => ?_⟩⟩
 obtain rfl : k = 0 := by omega
 rw [addHead, cell_of_row _ _ 0 _ _ _ (heap_alloc_new w (.cells #[.int q z] e))]
 rfl
theorem wpList_appI {P : Program} (w : World) {ops : Array Oper} {rest : List Oper} {o : Oper} {a : Act} {Q : Exit → Act → World → Prop} (hgd : o.guard = none) (s x : Operand) (t : TypeId)
  (ho : o.op = .call { callee := .builtin .append, args := #[s, x], argTypes := #[t, t] })
  (base : Nat) (e : TypeId) (q : IntKind) (b8 : Nat) (hb8 : b8 ≤ 8) (ht : P.underlying t = some (.slice e)) (hi : (P.info? e).map (fun i => (i.zero, i.size, i.bytes)) = some (some (.int q 0), 1, b8))
  (v : Value) (n : Nat) (xs : List Value) (hs : a.eval s = v) (hown : w.ownsRow base e 1 v n xs)
  (A : Option Addr) (m c k : Nat) (hk : n + m = k) (news : List Int) (hx : a.eval x = .slice A m c) (hr : Ik q w A m news) (h63 : k ≤ 1000000) (hbase : base ≤ w.heap.size)
  (h : ∀ A' c' w', w'.ownsRow base e 1 (.slice A' k c') k (xs ++ news.map (Value.int q)) → w.grownBy w' v.ownBlock → wpList P ops Q rest (a.put o.dst (.slice A' k c')) w') : wpList P ops Q (o :: rest) a w := by
 subst hk
 obtain ⟨i0, hi, hz0, hz1, hz2⟩ := info_parts hi
 have hk : ∀ v' w', w'.ownsRow base e 1 v' (n + m) (xs ++ news.map (Value.int q)) → w.grownBy w' v.ownBlock → wpList P ops Q rest (a.put o.dst v') w' := by
  intro v' w' h1 h2
  obtain ⟨A', c', rfl, _⟩ := own_shape h1
  exact h A' c' w' h1 h2
 have h8 : (n + m) * b8 ≤ 1000000 * 8 := Nat.mul_le_mul h63 hb8
 cases A with
 | none =>
  have hm : m = 0 := by
   rcases Nat.eq_zero_or_pos m with h0 | h0
   · exact h0
   · obtain ⟨ad, e1, _⟩ := hr.at_ h0
     cases e1
  subst hm
  have hn : news = [] := List.eq_nil_of_length_eq_zero hr.len
  subst hn
  refine wpList_plain hgd fun K hK => ?_
  have hrun := run_app_nil (P := P) w base t o.type e i0 1 ht hi v n xs hown c
  unfold Oper.wp
  simp [execOp, ho, resolve, invoke, builtin, hs, hx, hrun, Result.andThen]
  exact hK _ _ (hk v w (by simpa using hown) (World.grownBy.refl w _))
 | some ad =>
  exact wpList_append_own w hgd s x t ho base e i0 (.int q 0) 1 b8 ht hi hz0 hz1 hz2 rfl (by decide) v n xs hs hown ad m c (news.map (Value.int q)) hx (by simp [hr.len]) hr.news (oneCellsI q _)
   (by unfold maxLen; omega) (by omega) hbase fun v' w' h1 h2 _ => hk v' w' h1 h2
open Go.RowKit
theorem sL_nums {zs : List Int} (h : U8s zs) : sL (strOfNums zs) = zs := by
 rw [sL, strOfNums_data, List.map_map]
 conv => rhs; rw [← List.map_id zs]
 apply List.map_congr_left
 intro z hz
 have := h z hz
 simp [Function.comp]
 omega
theorem conv_any {w : World} {A : Option Addr} {n c : Nat} {zs : List Int} (h : Sb w A n zs) (dst : TypeId) (hd : Tryz.prog.underlying dst = some .string) :
  (convert 26 dst (.slice A n c)).run Tryz.prog w = .ok (.string (strOfNums zs)) w := by
 by_cases hn : n = 0
 · subst hn
   obtain rfl : zs = [] := List.eq_nil_of_length_eq_zero h.len
   cases A with
   | none => exact run_convert_bytes_nil w _ _ Tryz.underlying26 Tryz.underlying5 0 c dst hd
   | some ad =>
    rw [run_convert_bytes_string w _ dst _ _ 0 c Tryz.underlying26 Tryz.underlying5 hd, run_bytesToString w _ 0 c [] (by simpa using run_loadCells_list (P := Tryz.prog) w ad [] (fun j v hj => by simp at hj))]
    rfl
 · obtain ⟨ad, rfl⟩ := h.addr (by omega)
   have hl : (loadCells ad n).run Tryz.prog w = .ok (zs.map (Value.int .u8)).toArray w := by
    have := run_loadCells_list (P := Tryz.prog) w ad (zs.map (Value.int .u8)) (fun j v hj => h.news j v hj)
    simpa [h.len] using this
   rw [run_convert_bytes_string w _ dst _ _ n c Tryz.underlying26 Tryz.underlying5 hd, run_bytesToString w _ n c zs hl, foldl_push_bytes]
   simp [strOfNums, ByteArray.empty, ByteArray.emptyWithCapacity]
   rfl
def It (w : World) (it : Nat) (s : ByteArray) (pos : Nat) : Prop := w.heap[it]? = some (.stringIter s pos)
theorem It.lt {w : World} {it : Nat} {s : ByteArray} {pos : Nat} (h : It w it s pos) : it < w.heap.size := (Array.getElem?_eq_some_iff.1 h).1
theorem It.below {w w' : World} {it : Nat} {s : ByteArray} {pos : Nat} (h : It w it s pos) (hb : Below w.heap.size w w') : It w' it s pos := (hb.block it h.lt).trans h
theorem It.pos {w : World} {it : Nat} {s : ByteArray} {pos : Nat} (h : It w it s pos) : w.iterPos it = pos := by
 unfold World.iterPos; rw [h]
theorem It.next {w : World} {it : Nat} {s : ByteArray} {pos : Nat} (h : It w it s pos) (hp : pos < s.size) : ∃ w', It w' it s (pos + (Utf8.decode s pos).2) ∧ w.grownBy w' (some it) ∧ w'.heap.size = w.heap.size ∧
  ∀ ty, (Instr.next (.pointer (some ⟨it, 0, none⟩)) true ty).run Tryz.prog w = .ok (.tuple #[.bool true, .int .i64 pos, .int .i32 (Utf8.decode s pos).1]) w' := by
 refine ⟨{ w with heap := w.heap.setIfInBounds it (.stringIter s (pos + (Utf8.decode s pos).2)) }, ?_, ⟨rfl, rfl, rfl, by simp, fun k hk hne => ?_⟩, by simp, fun ty => ?_⟩
 · have := h.lt
   simp [It, this]
 · have : it ≠ k := fun e => hne (by rw [e])
   simp [this]
 · have h' : w.heap[it]? = some (.stringIter s pos) := h
   simp only [Instr.next, getObj, setObj, Sem.run_bind, Sem.run, h', Result.andThen, hp, if_true]
   simp [goInt]
theorem It.done {w : World} {it : Nat} {s : ByteArray} {pos : Nat} (h : It w it s pos) (hp : ¬ pos < s.size) (ty : TypeId) : (Instr.next (.pointer (some ⟨it, 0, none⟩)) true ty).run Tryz.prog w = .ok (.tuple #[.bool false]) w := by
 have h' : w.heap[it]? = some (.stringIter s pos) := h
 simp [Instr.next, getObj, Sem.run, h', hp]
theorem info32 : (Tryz.prog.info? 21).map (fun i => (i.zero, i.size, i.bytes)) = some (some (.int .i32 0), 1, 4) := by kernel_rfl
theorem ownI_below {w w' : World} {base : Nat} {e : TypeId} {size : Nat} {v : Value} {n : Nat} {xs : List Value} (h : w.ownsRow base e size v n xs) (hb : Below w.heap.size w w') : w'.ownsRow base e size v n xs :=
 h.kept (grownBy_below (row := none) hb) (by cases v.ownBlock <;> simp)
open Go.RowKit
theorem valid_asc : ∀ (k : Nat) (L : List Int), U8s L → (∀ z ∈ L.take k, z < 128) → validS L = validS (L.drop k)
 | 0, L, _, _ => rfl
 | k + 1, [], _, _ => by simp
 | k + 1, a :: L, h8, h => by
  have ha : a < 128 := h a (by simp)
  have hh : headS (a :: L) = some (a, 1) := by
   have hs := szF1.2 ha
   rcases L with _ | ⟨b, _ | ⟨c, _ | ⟨d, t⟩⟩⟩ <;> simp [headS, hs]
  rw [valid_head h8 hh]
  exact valid_asc k L (fun z hz => h8 z (by simp [hz])) (fun z hz => h z (by simp [hz]))
def Asc (L : List Int) (k : Nat) : Prop := ∀ z ∈ L.take k, z < 128
theorem Asc.add {L : List Int} {a b : Nat} (ha : Asc L a) (hb : Asc (L.drop a) b) : Asc L (a + b) := by
 intro z hz
 rw [List.take_add] at hz
 rcases List.mem_append.1 hz with h | h
 · exact ha z h
 · exact hb z h
def wordN (L : List Int) : Nat := Lib.leNat ((L.take 8).map fun z => UInt8.ofNat z.toNat)
theorem wordN_lt (L : List Int) : wordN L < 18446744073709551616 := by
 have h := Lib.leNat_lt ((L.take 8).map fun z => UInt8.ofNat z.toNat)
 have hl : ((L.take 8).map fun z => UInt8.ofNat z.toNat).length ≤ 8 := by simp; omega
 have : (256 : Nat) ^ ((L.take 8).map fun z => UInt8.ofNat z.toNat).length ≤ 256 ^ 8 := Nat.pow_le_pow_right (by omega) hl
 unfold wordN
 omega
theorem wordN_asc {L : List Int} (h8 : U8s L) (hl : 8 ≤ L.length) : wordN L &&& 9259542123273814144 = 0 ↔ Asc L 8 := by
 have h := Lib.leNat_mask ((L.take 8).map fun z => UInt8.ofNat z.toNat)
 have hlen : ((L.take 8).map fun z => UInt8.ofNat z.toNat).length = 8 := by simp; omega
 rw [hlen, Lib.maskN8] at h
 unfold wordN
 rw [h]
 constructor
 · intro h' z hz
   have h1 := h' _ (List.mem_map.2 ⟨z, hz, rfl⟩)
   have h2 := h8 z (List.mem_of_mem_take hz)
   have h3 : (UInt8.ofNat z.toNat).toNat = z.toNat := by simp; omega
   omega
 · intro h' b hb
   obtain ⟨z, hz, rfl⟩ := List.mem_map.1 hb
   have h1 := h' z hz
   have h2 := h8 z (List.mem_of_mem_take hz)
   have h3 : (UInt8.ofNat z.toNat).toNat = z.toNat := by simp; omega
   omega
set_option maxHeartbeats 8000000 in
set_option maxRecDepth 100000 in
theorem word_any {w : World} {A : Option Addr} {n c : Nat} {L : List Int} (hs : Sb w A n L) (h8 : U8s L) (hn : 8 ≤ n) (hm : n ≤ 1000000) :
  Calls Tryz.prog 107 #[.slice A n c] w fun e w' => e = .returned (.int .u64 (wordN L)) ∧ ∃ q, w' = w.drewN q := by
 obtain ⟨ad, rfl⟩ := hs.addr (by omega)
 obtain ⟨x0, x1, x2, x3, x4, x5, x6, x7, T, rfl⟩ : ∃ x0 x1 x2 x3 x4 x5 x6 x7 T, L = x0 :: x1 :: x2 :: x3 :: x4 :: x5 :: x6 :: x7 :: T := by
  have := hs.len
  match L, this with
  | x0 :: x1 :: x2 :: x3 :: x4 :: x5 :: x6 :: x7 :: T, _ => exact ⟨x0, x1, x2, x3, x4, x5, x6, x7, T, rfl⟩
  | [], h | [_], h | [_, _], h | [_, _, _], h | [_, _, _, _], h | [_, _, _, _, _], h | [_, _, _, _, _, _], h | [_, _, _, _, _, _, _], h => simp at h; omega
 have b0 := h8 x0 (by simp); have b1 := h8 x1 (by simp); have b2 := h8 x2 (by simp); have b3 := h8 x3 (by simp)
 have b4 := h8 x4 (by simp); have b5 := h8 x5 (by simp); have b6 := h8 x6 (by simp); have b7 := h8 x7 (by simp)
 have k0 : w.cell? ad = some (.int .u8 x0) := by have := hs.cell (k := 0) (by omega); unfold Addr.add at this; simpa using this
 have kk : ∀ j x, 0 < j → j < n → (x0 :: x1 :: x2 :: x3 :: x4 :: x5 :: x6 :: x7 :: T).getD j 0 = x → w.cell? ⟨ad.block, ad.off + j, none⟩ = some (.int .u8 x) := fun j x h0 hj hx => by
  have := hs.cell (k := j) hj
  unfold Addr.add at this
  rw [if_neg (by omega)] at this
  rw [this, hx]
 have k1 := kk 1 x1 (by omega) (by omega) rfl
 have k2 := kk 2 x2 (by omega) (by omega) rfl
 have k3 := kk 3 x3 (by omega) (by omega) rfl
 have k4 := kk 4 x4 (by omega) (by omega) rfl
 have k5 := kk 5 x5 (by omega) (by omega) rfl
 have k6 := kk 6 x6 (by omega) (by omega) rfl
 have k7 := kk 7 x7 (by omega) (by omega) rfl
 have hv : ((wordN (x0 :: x1 :: x2 :: x3 :: x4 :: x5 :: x6 :: x7 :: T) : Nat) : Int) = x0 + x1 * 256 + x2 * 65536 + x3 * 16777216 + x4 * 4294967296 + x5 * 1099511627776 + x6 * 281474976710656 + x7 * 72057594037927936 := by
  have e : ∀ x : Int, 0 ≤ x ∧ x ≤ 255 → ((UInt8.ofNat x.toNat).toNat : Int) = x := fun x hx => by simp; omega
  have e0 := e x0 b0; have e1 := e x1 b1; have e2 := e x2 b2; have e3 := e x3 b3
  have e4 := e x4 b4; have e5 := e x5 b5; have e6 := e x6 b6; have e7 := e x7 b7
  simp only [wordN, List.take_succ_cons, List.take_zero, List.map_cons, List.map_nil, Lib.leNat]
  push_cast
  omega
 rw [hv]
 clear hv kk h8 hs
 have q0 : (0 : Int) < (n : Int) := by omega
 have q1 : (1 : Int) < (n : Int) := by omega
 have q2 : (2 : Int) < (n : Int) := by omega
 have q3 : (3 : Int) < (n : Int) := by omega
 have q4 : (4 : Int) < (n : Int) := by omega
 have q5 : (5 : Int) < (n : Int) := by omega
 have q6 : (6 : Int) < (n : Int) := by omega
 have q7 : (7 : Int) < (n : Int) := by omega
 clear hn hm
 go_enter Tryz.func107, Tryz.ntmps107
 go_wp2
 go_quiet (fail)
 go_wp2
 go_ret
 refine ⟨?_, _, rfl⟩
 simp (disch := omega) only [u64_or8, u64_or16, u64_or24, u64_or32, u64_or40, u64_or48, u64_or56]
 rfl
end Go.Proofs.YtikhknnhmnopbaaGreatDoor
