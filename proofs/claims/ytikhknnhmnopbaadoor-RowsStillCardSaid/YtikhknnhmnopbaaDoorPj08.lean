/-
  Part 8 of what the laws of emul want: IntsApp, UtfMem, UtfWord.
-/
import Derived.Laws.AppendOwnNone
import Derived.Laws.BytesArg
import Derived.Laws.RangeAny
import Derived.LoopTactic
import Derived.Lib.ValidLaws
import Derived.Lib.EndianBits
import Derived.Deep.QuietTactic
import Derived.BigQuiet
import Derived.Laws.BitsAllLaws
import Derived.Test.YtikhknnhmnopbaaDoorPj01
import Derived.Test.YtikhknnhmnopbaaDoorPj02
import Derived.Test.YtikhknnhmnopbaaDoorPj07
namespace Go.Proofs.YtikhknnhmnopbaaDoor
open Go.RowKit
theorem Ik.own {q : IntKind} {w : World} {A : Option Addr} {n : Nat} {zs : List Int} {base : Nat} {e : TypeId} {c : Nat} (h : w.ownsRow base e 1 (.slice A n c) n (zs.map (Value.int q))) : Ik q w A n zs := by
 have hl : zs.length = n := by have := h.1; simpa using this
 refine ⟨hl, fun hn => ?_⟩
 obtain ⟨_, h2⟩ := h
 rcases h2 with ⟨h3, h4⟩ | ⟨g, cap, cur, hv, hb, hg, hle, hm, hs, ht⟩
 · omega
 · injection hv with hA _ hc
   subst hA
   refine ⟨_, rfl, (Array.getElem?_eq_some_iff.1 hg).1, fun k hk => ?_⟩
   rw [addHead, cell_of_row w g k cur e (0, 0) hg]
   have h5 : (zs.map (Value.int q))[k]? = some (Value.int q (zs.getD k 0)) := by
    rw [List.getElem?_map, List.getElem?_eq_getElem (by omega), getD_lt (by omega)]; rfl
   rw [← ht, List.getElem?_take, if_pos (by omega)] at h5
   simpa using h5
theorem Ik.cell {q : IntKind} {w : World} {n : Nat} {zs : List Int} {ad : Addr} (h : Ik q w (some ad) n zs) {k : Nat} (hk : k < n) : w.cell? (ad.add k) = some (.int q (zs.getD k 0)) := by
 obtain ⟨ad', e, _, hc⟩ := h.at_ (by omega)
 injection e with e
 subst e
 exact hc k hk
theorem Ik.news {q : IntKind} {w : World} {ad : Addr} {n : Nat} {zs : List Int} (h : Ik q w (some ad) n zs) : ∀ (j : Nat) (u : Value), (zs.map (Value.int q))[j]? = some u → w.cell? (ad.add j) = some u := by
 intro j u hu
 have hj : j < zs.length := by
  rcases Nat.lt_or_ge j zs.length with hlt | hge
  · exact hlt
  · rw [List.getElem?_eq_none (by simpa using hge)] at hu; cases hu
 have hl := h.len
 rw [h.cell (k := j) (by omega), getD_lt hj]
 rw [List.getElem?_map, List.getElem?_eq_getElem hj] at hu
 simpa using hu
theorem oneCellsI (q : IntKind) (zs : List Int) : ∀ u ∈ zs.map (Value.int q), u.oneCell' = true := by
 intro u hu
 obtain ⟨z, _, rfl⟩ := List.mem_map.1 hu
 rfl
theorem Ik.one (q : IntKind) (w : World) (e : TypeId) (z : Int) : Ik q (w.alloc (.cells #[.int q z] e)) (some ⟨w.heap.size, 0, none⟩) 1 [z] := by
 refine ⟨rfl, fun _ => ⟨_, rfl, by simp, fun k hk => ?_⟩⟩
 obtain rfl : k = 0 := by omega
 rw [addHead, cell_of_row _ _ 0 _ _ _ (heap_alloc_new w (.cells #[.int q z] e))]
 rfl
theorem wpList_appI {P : Program} (w : World) {ops : Array Oper} {rest : List Oper} {o : Oper} {a : Act} {Q : Exit → Act → World → Prop} (hgd : o.guard = none) (s x : Operand) (t : TypeId)
  (ho : o.op = .call { callee := .builtin .append, args := #[s, x], argTypes := #[t, t] })
  (base : Nat) (e : TypeId) (q : IntKind) (b8 : Nat) (hb8 : b8 ≤ 8) (ht : P.underlying t = some (.slice e)) (hi : (P.info? e).map (fun i => (i.zero, i.size, i.bytes)) = some (some (.int q 0), 1, b8))
  (v : Value) (n : Nat) (xs : List Value) (hs : a.eval s = v) (hown : w.ownsRow base e 1 v n xs)
  (A : Option Addr) (m c k : Nat) (hk : n + m = k) (news : List Int) (hx : a.eval x = .slice A m c) (hr : Ik q w A m news) (h63 : k ≤ 1000000) (hbase : base ≤ w.heap.size)
  (h : ∀ A' c' w', w'.ownsRow base e 1 (.slice A' k c') k (xs ++ news.map (Value.int q)) → w.grownBy w' v.ownBlock → wpList P ops Q rest (a.put o.dst (.slice A' k c')) w') : wpList P ops Q (o :: rest) a w := by
 subst hk
 obtain ⟨i0, hi, hz0, hz1, hz2⟩ := info_parts hi
 have hk : ∀ v' w', w'.ownsRow base e 1 v' (n + m) (xs ++ news.map (Value.int q)) → w.grownBy w' v.ownBlock → wpList P ops Q rest (a.put o.dst v') w' := by
  intro v' w' h1 h2
  obtain ⟨A', c', rfl, _⟩ := own_shape h1
  exact h A' c' w' h1 h2
 have h8 : (n + m) * b8 ≤ 1000000 * 8 := Nat.mul_le_mul h63 hb8
 cases A with
 | none =>
  have hm : m = 0 := by
   rcases Nat.eq_zero_or_pos m with h0 | h0
   · exact h0
   · obtain ⟨ad, e1, _⟩ := hr.at_ h0
     cases e1
  subst hm
  have hn : news = [] := List.eq_nil_of_length_eq_zero hr.len
  subst hn
  refine wpList_plain hgd fun K hK => ?_
  have hrun := run_app_nil (P := P) w base t o.type e i0 1 ht hi v n xs hown c
  unfold Oper.wp
  simp [execOp, ho, resolve, invoke, builtin, hs, hx, hrun, Result.andThen]
  exact hK _ _ (hk v w (by simpa using hown) (World.grownBy.refl w _))
 | some ad =>
  exact wpList_append_own w hgd s x t ho base e i0 (.int q 0) 1 b8 ht hi hz0 hz1 hz2 rfl (by decide) v n xs hs hown ad m c (news.map (Value.int q)) hx (by simp [hr.len]) hr.news (oneCellsI q _)
   (by unfold maxLen; omega) (by omega) hbase fun v' w' h1 h2 _ => hk v' w' h1 h2
open Go.RowKit
theorem sL_nums {zs : List Int} (h : U8s zs) : sL (strOfNums zs) = zs := by
 rw [sL, strOfNums_data, List.map_map]
 conv => rhs; rw [← List.map_id zs]
 apply List.map_congr_left
 intro z hz
 have := h z hz
 simp [Function.comp]
 omega
theorem conv_any {w : World} {A : Option Addr} {n c : Nat} {zs : List Int} (h : Sb w A n zs) (dst : TypeId) (hd : Tryd.prog.underlying dst = some .string) :
  (convert 29 dst (.slice A n c)).run Tryd.prog w = .ok (.string (strOfNums zs)) w := by
 by_cases hn : n = 0
 · subst hn
   obtain rfl : zs = [] := List.eq_nil_of_length_eq_zero h.len
   cases A with
   | none => exact run_convert_bytes_nil w _ _ Tryd.underlying29 Tryd.underlying5 0 c dst hd
   | some ad =>
    rw [run_convert_bytes_string w _ dst _ _ 0 c Tryd.underlying29 Tryd.underlying5 hd, run_bytesToString w _ 0 c [] (by simpa using run_loadCells_list (P := Tryd.prog) w ad [] (fun j v hj => by simp at hj))]
    rfl
 · obtain ⟨ad, rfl⟩ := h.addr (by omega)
   have hl : (loadCells ad n).run Tryd.prog w = .ok (zs.map (Value.int .u8)).toArray w := by
    have := run_loadCells_list (P := Tryd.prog) w ad (zs.map (Value.int .u8)) (fun j v hj => h.news j v hj)
    simpa [h.len] using this
   rw [run_convert_bytes_string w _ dst _ _ n c Tryd.underlying29 Tryd.underlying5 hd, run_bytesToString w _ n c zs hl, foldl_push_bytes]
   simp [strOfNums, ByteArray.empty, ByteArray.emptyWithCapacity]
   rfl
def It (w : World) (it : Nat) (s : ByteArray) (pos : Nat) : Prop := w.heap[it]? = some (.stringIter s pos)
theorem It.lt {w : World} {it : Nat} {s : ByteArray} {pos : Nat} (h : It w it s pos) : it < w.heap.size := (Array.getElem?_eq_some_iff.1 h).1
theorem It.below {w w' : World} {it : Nat} {s : ByteArray} {pos : Nat} (h : It w it s pos) (hb : Below w.heap.size w w') : It w' it s pos := (hb.block it h.lt).trans h
theorem It.pos {w : World} {it : Nat} {s : ByteArray} {pos : Nat} (h : It w it s pos) : w.iterPos it = pos := by
 unfold World.iterPos; rw [h]
theorem It.next {w : World} {it : Nat} {s : ByteArray} {pos : Nat} (h : It w it s pos) (hp : pos < s.size) : ∃ w', It w' it s (pos + (Utf8.decode s pos).2) ∧ w.grownBy w' (some it) ∧ w'.heap.size = w.heap.size ∧
  ∀ ty, (Instr.next (.pointer (some ⟨it, 0, none⟩)) true ty).run Tryd.prog w = .ok (.tuple #[.bool true, .int .i64 pos, .int .i32 (Utf8.decode s pos).1]) w' := by
 refine ⟨{ w with heap := w.heap.setIfInBounds it (.stringIter s (pos + (Utf8.decode s pos).2)) }, ?_, ⟨rfl, rfl, rfl, by simp, fun k hk hne => ?_⟩, by simp, fun ty => ?_⟩
 · have := h.lt
   simp [It, this]
 · have : it ≠ k := fun e => hne (by rw [e])
   simp [this]
 · have h' : w.heap[it]? = some (.stringIter s pos) := h
   simp only [Instr.next, getObj, setObj, Sem.run_bind, Sem.run, h', Result.andThen, hp, if_true]
   simp [goInt]
theorem It.done {w : World} {it : Nat} {s : ByteArray} {pos : Nat} (h : It w it s pos) (hp : ¬ pos < s.size) (ty : TypeId) : (Instr.next (.pointer (some ⟨it, 0, none⟩)) true ty).run Tryd.prog w = .ok (.tuple #[.bool false]) w := by
 have h' : w.heap[it]? = some (.stringIter s pos) := h
 simp [Instr.next, getObj, Sem.run, h', hp]
theorem info32 : (Tryd.prog.info? 21).map (fun i => (i.zero, i.size, i.bytes)) = some (some (.int .i32 0), 1, 4) := by kernel_rfl
theorem ownI_below {w w' : World} {base : Nat} {e : TypeId} {size : Nat} {v : Value} {n : Nat} {xs : List Value} (h : w.ownsRow base e size v n xs) (hb : Below w.heap.size w w') : w'.ownsRow base e size v n xs :=
 h.kept (grownBy_below (row := none) hb) (by cases v.ownBlock <;> simp)
open Go.RowKit
theorem valid_asc : ∀ (k : Nat) (L : List Int), U8s L → (∀ z ∈ L.take k, z < 128) → validS L = validS (L.drop k)
 | 0, L, _, _ => rfl
 | k + 1, [], _, _ => by simp
 | k + 1, a :: L, h8, h => by
  have ha : a < 128 := h a (by simp)
  have hh : headS (a :: L) = some (a, 1) := by
   have hs := szF1.2 ha
   rcases L with _ | ⟨b, _ | ⟨c, _ | ⟨d, t⟩⟩⟩ <;> simp [headS, hs]
  rw [valid_head h8 hh]
  exact valid_asc k L (fun z hz => h8 z (by simp [hz])) (fun z hz => h z (by simp [hz]))
def Asc (L : List Int) (k : Nat) : Prop := ∀ z ∈ L.take k, z < 128
theorem Asc.add {L : List Int} {a b : Nat} (ha : Asc L a) (hb : Asc (L.drop a) b) : Asc L (a + b) := by
 intro z hz
 rw [List.take_add] at hz
 rcases List.mem_append.1 hz with h | h
 · exact ha z h
 · exact hb z h
def wordN (L : List Int) : Nat := Lib.leNat ((L.take 8).map fun z => UInt8.ofNat z.toNat)
theorem wordN_lt (L : List Int) : wordN L < 18446744073709551616 := by
 have h := Lib.leNat_lt ((L.take 8).map fun z => UInt8.ofNat z.toNat)
 have hl : ((L.take 8).map fun z => UInt8.ofNat z.toNat).length ≤ 8 := by simp; omega
 have : (256 : Nat) ^ ((L.take 8).map fun z => UInt8.ofNat z.toNat).length ≤ 256 ^ 8 := Nat.pow_le_pow_right (by omega) hl
 unfold wordN
 omega
theorem wordN_asc {L : List Int} (h8 : U8s L) (hl : 8 ≤ L.length) : wordN L &&& 9259542123273814144 = 0 ↔ Asc L 8 := by
 have h := Lib.leNat_mask ((L.take 8).map fun z => UInt8.ofNat z.toNat)
 have hlen : ((L.take 8).map fun z => UInt8.ofNat z.toNat).length = 8 := by simp; omega
 rw [hlen, Lib.maskN8] at h
 unfold wordN
 rw [h]
 constructor
 · intro h' z hz
   have h1 := h' _ (List.mem_map.2 ⟨z, hz, rfl⟩)
   have h2 := h8 z (List.mem_of_mem_take hz)
   have h3 : (UInt8.ofNat z.toNat).toNat = z.toNat := by simp; omega
   omega
 · intro h' b hb
   obtain ⟨z, hz, rfl⟩ := List.mem_map.1 hb
   have h1 := h' z hz
   have h2 := h8 z (List.mem_of_mem_take hz)
   have h3 : (UInt8.ofNat z.toNat).toNat = z.toNat := by simp; omega
   omega
set_option maxHeartbeats 8000000 in
set_option maxRecDepth 100000 in
theorem word_any {w : World} {A : Option Addr} {n c : Nat} {L : List Int} (hs : Sb w A n L) (h8 : U8s L) (hn : 8 ≤ n) (hm : n ≤ 1000000) :
  Calls Tryd.prog 107 #[.slice A n c] w fun e w' => e = .returned (.int .u64 (wordN L)) ∧ ∃ q, w' = w.drewN q := by
 obtain ⟨ad, rfl⟩ := hs.addr (by omega)
 obtain ⟨x0, x1, x2, x3, x4, x5, x6, x7, T, rfl⟩ : ∃ x0 x1 x2 x3 x4 x5 x6 x7 T, L = x0 :: x1 :: x2 :: x3 :: x4 :: x5 :: x6 :: x7 :: T := by
  have := hs.len
  match L, this with
  | x0 :: x1 :: x2 :: x3 :: x4 :: x5 :: x6 :: x7 :: T, _ => exact ⟨x0, x1, x2, x3, x4, x5, x6, x7, T, rfl⟩
  | [], h | [_], h | [_, _], h | [_, _, _], h | [_, _, _, _], h | [_, _, _, _, _], h | [_, _, _, _, _, _], h | [_, _, _, _, _, _, _], h => simp at h; omega
 have b0 := h8 x0 (by simp); have b1 := h8 x1 (by simp); have b2 := h8 x2 (by simp); have b3 := h8 x3 (by simp)
 have b4 := h8 x4 (by simp); have b5 := h8 x5 (by simp); have b6 := h8 x6 (by simp); have b7 := h8 x7 (by simp)
 have k0 : w.cell? ad = some (.int .u8 x0) := by have := hs.cell (k := 0) (by omega); unfold Addr.add at this; simpa using this
 have kk : ∀ j x, 0 < j → j < n → (x0 :: x1 :: x2 :: x3 :: x4 :: x5 :: x6 :: x7 :: T).getD j 0 = x → w.cell? ⟨ad.block, ad.off + j, none⟩ = some (.int .u8 x) := fun j x h0 hj hx => by
  have := hs.cell (k := j) hj
  unfold Addr.add at this
  rw [if_neg (by omega)] at this
  rw [this, hx]
 have k1 := kk 1 x1 (by omega) (by omega) rfl
 have k2 := kk 2 x2 (by omega) (by omega) rfl
 have k3 := kk 3 x3 (by omega) (by omega) rfl
 have k4 := kk 4 x4 (by omega) (by omega) rfl
 have k5 := kk 5 x5 (by omega) (by omega) rfl
 have k6 := kk 6 x6 (by omega) (by omega) rfl
 have k7 := kk 7 x7 (by omega) (by omega) rfl
 have hv : ((wordN (x0 :: x1 :: x2 :: x3 :: x4 :: x5 :: x6 :: x7 :: T) : Nat) : Int) = x0 + x1 * 256 + x2 * 65536 + x3 * 16777216 + x4 * 4294967296 + x5 * 1099511627776 + x6 * 281474976710656 + x7 * 72057594037927936 := by
  have e : ∀ x : Int, 0 ≤ x ∧ x ≤ 255 → ((UInt8.ofNat x.toNat).toNat : Int) = x := fun x hx => by simp; omega
  have e0 := e x0 b0; have e1 := e x1 b1; have e2 := e x2 b2; have e3 := e x3 b3
  have e4 := e x4 b4; have e5 := e x5 b5; have e6 := e x6 b6; have e7 := e x7 b7
  simp only [wordN, List.take_succ_cons, List.take_zero, List.map_cons, List.map_nil, Lib.leNat]
  push_cast
  omega
 rw [hv]
 clear hv kk h8 hs
 have q0 : (0 : Int) < (n : Int) := by omega
 have q1 : (1 : Int) < (n : Int) := by omega
 have q2 : (2 : Int) < (n : Int) := by omega
 have q3 : (3 : Int) < (n : Int) := by omega
 have q4 : (4 : Int) < (n : Int) := by omega
 have q5 : (5 : Int) < (n : Int) := by omega
 have q6 : (6 : Int) < (n : Int) := by omega
 have q7 : (7 : Int) < (n : Int) := by omega
 clear hn hm
 go_enter Tryd.func107, Tryd.ntmps107
 go_wp2
 go_quiet (fail)
 go_wp2
 go_ret
 refine ⟨?_, _, rfl⟩
 simp (disch := omega) only [u64_or8, u64_or16, u64_or24, u64_or32, u64_or40, u64_or48, u64_or56]
 rfl
end Go.Proofs.YtikhknnhmnopbaaDoor
