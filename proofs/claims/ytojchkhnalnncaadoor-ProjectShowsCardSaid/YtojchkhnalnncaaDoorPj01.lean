/-
  Part 1 of what the laws of emul want: WireMem, Open, UtfSpec, UtfEnc, UtfShelf, UtfTab.
-/
import Derived.WalkKit
import Derived.Deep.Draws
import Derived.Lib.Hide
import Derived.Laws.AppendOwnNone
import Derived.Laws.CopyOwn
import Derived.Test.YtojchkhnalnncaaDoorRows
import Derived.ProofKit
import Derived.OpenShut
import Derived.ChangeOld
import Derived.SizedLaws
import Derived.Lib.DecodeNEq
import Derived.Shelf.Small.Utf8
import Derived.Test.YtojchkhnalnncaaDoorProg
import Derived.Lib.LaidU8T
import Derived.Lib.LaidTab
import Derived.LaidMore
import Derived.Lay
import Derived.Stop.Joined
import Derived.Handed
namespace Go.Proofs.YtojchkhnalnncaaDoor
open Go.RowKit
theorem addBlock (a : Addr) (k : Nat) : (a.add k).block = a.block := by unfold Addr.add; split <;> rfl
theorem addAdd (a : Addr) (i j : Nat) : (a.add i).add j = a.add (i + j) := by
 unfold Addr.add
 by_cases hi : i = 0 <;> by_cases hj : j = 0 <;> simp [hi, hj, Nat.add_assoc]
theorem addHead (g j : Nat) : (⟨g, 0, none⟩ : Addr).add j = ⟨g, j, none⟩ := by unfold Addr.add; split <;> simp_all
structure Sb (w : World) (A : Option Addr) (n : Nat) (zs : List Int) : Prop where
 len : zs.length = n
 at_ : 0 < n → ∃ ad, A = some ad ∧ ad.block < w.heap.size ∧ ∀ k, k < n → w.cell? (ad.add k) = some (.int .u8 (zs.getD k 0))
def U8s (zs : List Int) : Prop := ∀ z ∈ zs, 0 ≤ z ∧ z ≤ 255
theorem getD_lt {zs : List Int} {k : Nat} (h : k < zs.length) : zs.getD k 0 = zs[k] := by simp [List.getD, List.getElem?_eq_getElem h]
theorem getD_ge {zs : List Int} {k : Nat} (h : zs.length ≤ k) : zs.getD k 0 = 0 := by simp [List.getD, List.getElem?_eq_none h]
theorem U8s.nil : U8s [] := fun _ h => by cases h
theorem U8s.getD {zs : List Int} (h : U8s zs) (k : Nat) : 0 ≤ zs.getD k 0 ∧ zs.getD k 0 ≤ 255 := by
 by_cases hk : k < zs.length
 · rw [getD_lt hk]; exact h _ (List.getElem_mem hk)
 · rw [getD_ge (by omega)]; omega
theorem U8s.drop {zs : List Int} (h : U8s zs) (k : Nat) : U8s (zs.drop k) := fun z hz => h z (List.mem_of_mem_drop hz)
theorem U8s.append {xs ys : List Int} (h : U8s xs) (h' : U8s ys) : U8s (xs ++ ys) := fun z hz => by
 rcases List.mem_append.1 hz with hz | hz
 · exact h z hz
 · exact h' z hz
section
variable {w w' : World} {A : Option Addr} {n : Nat} {zs : List Int}
theorem Sb.nil (w : World) (A : Option Addr) : Sb w A 0 [] := ⟨rfl, fun h => absurd h (by omega)⟩
theorem Sb.keep (h : Sb w A n zs) (hs : w.heap.size ≤ w'.heap.size) (hk : ∀ p : Addr, 0 < n → A.map (·.block) = some p.block → p.block < w.heap.size → w'.cell? p = w.cell? p) : Sb w' A n zs :=
 ⟨h.len, fun hn => by
  obtain ⟨ad, rfl, hb, hc⟩ := h.at_ hn
  exact ⟨ad, rfl, by omega, fun k hkn => (hk (ad.add k) hn (by simp [addBlock]) (by rw [addBlock]; exact hb)).trans (hc k hkn)⟩⟩
theorem Sb.below (h : Sb w A n zs) (hb : Below w.heap.size w w') : Sb w' A n zs := h.keep hb.size fun _ _ _ hp => hb.cell hp
theorem Sb.drew (h : Sb w A n zs) : Sb w.drew A n zs := ⟨h.len, h.at_⟩
theorem Sb.grown (h : Sb w A n zs) {row : Option Nat} (hg : w.grownBy w' row) (hne : ∀ ad, A = some ad → 0 < n → row ≠ some ad.block) : Sb w' A n zs :=
 h.keep hg.size fun p hn hA hp => World.cell?_of_block (hg.block p.block hp (fun e => by
  cases A with
  | none => simp at hA
  | some ad => simp at hA; exact hne ad rfl hn (by rw [← e, hA])))
theorem Sb.cut (h : Sb w A n zs) {k c : Nat} (hk : k ≤ n) (hc : n ≤ c) : Sb w (if c = k then A else A.map (·.add k)) (n - k) (zs.drop k) := by
 refine ⟨by rw [List.length_drop, h.len], fun hn => ?_⟩
 obtain ⟨ad, rfl, hb, hcell⟩ := h.at_ (by omega)
 rw [if_neg (by omega)]
 refine ⟨ad.add k, rfl, by rw [addBlock]; exact hb, fun j hj => ?_⟩
 rw [addAdd, hcell (k + j) (by omega)]
 congr 2
 have := h.len
 rw [getD_lt (by omega), getD_lt (by simp; omega)]
 simp
theorem Sb.front (h : Sb w A n zs) {k : Nat} (hk : k ≤ n) : Sb w A k (zs.take k) := by
 refine ⟨by rw [List.length_take, h.len]; omega, fun hn => ?_⟩
 obtain ⟨ad, rfl, hb, hcell⟩ := h.at_ (by omega)
 refine ⟨ad, rfl, hb, fun j hj => ?_⟩
 rw [hcell j (by omega)]
 congr 2
 have := h.len
 rw [getD_lt (by omega), getD_lt (by simp; omega)]
 simp
theorem Sb.addr (h : Sb w A n zs) (hn : 0 < n) : ∃ ad, A = some ad := by obtain ⟨ad, e, _⟩ := h.at_ hn; exact ⟨ad, e⟩
theorem Sb.cell {ad : Addr} (h : Sb w (some ad) n zs) {k : Nat} (hk : k < n) : w.cell? (ad.add k) = some (.int .u8 (zs.getD k 0)) := by
 obtain ⟨ad', e, _, hc⟩ := h.at_ (by omega)
 injection e with e
 subst e
 exact hc k hk
theorem Sb.lt {ad : Addr} (h : Sb w (some ad) n zs) (hn : 0 < n) : ad.block < w.heap.size := by
 obtain ⟨ad', e, hb, _⟩ := h.at_ hn
 injection e with e
 subst e
 exact hb
theorem Sb.own {base : Nat} {e : TypeId} {c : Nat} (h : w.ownsRow base e 1 (.slice A n c) n (zs.map (Value.int .u8))) : Sb w A n zs := by
 have hl : zs.length = n := by have := h.1; simpa using this
 refine ⟨hl, fun hn => ?_⟩
 obtain ⟨_, h2⟩ := h
 rcases h2 with ⟨h3, h4⟩ | ⟨g, cap, cur, hv, hb, hg, hle, hm, hs, ht⟩
 · omega
 · injection hv with hA _ hc
   subst hA
   refine ⟨_, rfl, (Array.getElem?_eq_some_iff.1 hg).1, fun k hk => ?_⟩
   rw [addHead, cell_of_row w g k cur e (0, 0) hg]
   have h5 : (zs.map (Value.int .u8))[k]? = some (Value.int .u8 (zs.getD k 0)) := by
    rw [List.getElem?_map, List.getElem?_eq_getElem (by omega), getD_lt (by omega)]; rfl
   rw [← ht, List.getElem?_take, if_pos (by omega)] at h5
   simpa using h5
end
theorem Sb.news {w : World} {ad : Addr} {n : Nat} {zs : List Int} (h : Sb w (some ad) n zs) : ∀ (j : Nat) (u : Value), (zs.map (Value.int .u8))[j]? = some u → w.cell? (ad.add j) = some u := by
 intro j u hu
 have hj : j < zs.length := by
  rcases Nat.lt_or_ge j zs.length with hlt | hge
  · exact hlt
  · rw [List.getElem?_eq_none (by simpa using hge)] at hu; cases hu
 have hl := h.len
 rw [h.cell (k := j) (by omega), getD_lt hj]
 rw [List.getElem?_map, List.getElem?_eq_getElem hj] at hu
 simpa using hu
theorem oneCells (zs : List Int) : ∀ u ∈ zs.map (Value.int .u8), u.oneCell' = true := by
 intro u hu
 obtain ⟨z, _, rfl⟩ := List.mem_map.1 hu
 rfl
theorem own_shape {w : World} {base : Nat} {e : TypeId} {size : Nat} {v : Value} {n : Nat} {xs : List Value} (h : w.ownsRow base e size v n xs) : ∃ A c, v = .slice A n c ∧ n ≤ c ∧ c ≤ maxLen := by
 rcases h.2 with ⟨rfl, rfl⟩ | ⟨g, cap, cur, rfl, _, _, h1, h2, _⟩
 · exact ⟨none, 0, rfl, Nat.le_refl _, by unfold maxLen; omega⟩
 · exact ⟨_, cap, rfl, h1, h2⟩
theorem run_app_nil {P : Program} (w : World) (base : Nat) (t ty e : TypeId) (i : TypeInfo) (size : Nat) (ht : P.underlying t = some (.slice e)) (hi : P.info? e = some i)
  (v : Value) (n : Nat) (xs : List Value) (hown : w.ownsRow base e size v n xs) (c : Nat) : (Builtin.append_ #[t, t] ty #[v, .slice none 0 c]).run P w = .ok v w := by
 rcases hown.2 with ⟨rfl, rfl⟩ | ⟨g, cap, cur, rfl, _, _, hnc, _⟩
 · simp [Builtin.append_, run_underlying ht, sizeOf, typeInfo, hi, Builtin.lenOf, Builtin.firstCells]
 · simp [Builtin.append_, run_underlying ht, sizeOf, typeInfo, hi, Builtin.lenOf, Builtin.firstCells, hnc, storeCells]
theorem own_base {w : World} {B B' : Nat} {e : TypeId} {size : Nat} {v : Value} {n : Nat} {xs : List Value} (h : w.ownsRow B e size v n xs) (hB : B' ≤ B) : w.ownsRow B' e size v n xs := by
 refine ⟨h.1, ?_⟩
 rcases h.2 with h | ⟨g, cap, cur, h1, h2, h3⟩
 · exact .inl h
 · exact .inr ⟨g, cap, cur, h1, by omega, h3⟩
theorem Sb.lit (w : World) (e : TypeId) (zs : List Int) (n : Nat) (cs : Array Value) (hc : cs.toList = zs.map (Value.int .u8)) (hl : zs.length = n) (hm : n ≤ maxLen) : Sb (w.alloc (.cells cs e)) (some ⟨w.heap.size, 0, none⟩) n zs := by
 have hs : cs.size = n * 1 := by rw [← Array.length_toList, hc]; simp [hl]
 have h := World.ownsRow_lit (size := 1) (e := e) w cs n (Nat.le_refl _) hm hs
 rw [hc] at h
 exact Sb.own h
theorem own_block {w : World} {base : Nat} {e : TypeId} {n c : Nat} {xs : List Value} {ad : Addr} (h : w.ownsRow base e 1 (.slice (some ad) n c) n xs) : base ≤ ad.block ∧ ad.block < w.heap.size :=
 h.lt ad.block rfl
section
variable {t : TypeId} {base : Nat} {w w' : World} {r : Nat} {A : Option Addr} {n c : Nat} {zs : List Int} {e : Int}
theorem grownBy_set (w : World) (a : Addr) (u : Value) : w.grownBy (w.setCell a u) (some a.block) :=
 ⟨rfl, rfl, rfl, by simp, fun k _ hk => heap_setCell_other w a k u (fun e => hk (by simp [e]))⟩
theorem grownBy_trans {a b c : World} {row : Option Nat} (h : a.grownBy b row) (k : b.grownBy c row) : a.grownBy c row :=
 ⟨k.os.trans h.os, k.tape.trans h.tape, k.output.trans h.output, Nat.le_trans h.size k.size, fun i hi hr => (k.block i (Nat.lt_of_lt_of_le hi h.size) hr).trans (h.block i hi hr)⟩
theorem grownBy_below {a b : World} {row : Option Nat} (h : Below a.heap.size a b) : a.grownBy b row := ⟨h.os, h.tape, h.output, h.size, fun k hk _ => h.block k hk⟩
end
theorem below_drewN' {B : Nat} {a w : World} (h : Below B a w) (q : Nat) : Below B a (w.drewN q) := ⟨h.os, h.tape, h.output, h.size, h.block⟩
open Go.ChangeShapes Go.WideShapes Go.ChangeAt Go.RowKit
theorem own : ownKnob Tryd.prog.godebug = none := by kernel_rfl
theorem laidOut : laidOutB Tryd.prog = true := by kernel_rfl
def szF (a : Int) : Nat := if a < 128 then 1 else if a < 194 then 0 else if a < 224 then 2 else if a < 240 then 3 else if a < 245 then 4 else 0
def loF (a : Int) : Int := if a = 224 then 160 else if a = 240 then 144 else 128
def hiF (a : Int) : Int := if a = 237 then 159 else if a = 244 then 143 else 191
def okF (a x : Int) : Bool := decide (loF a ≤ x ∧ x ≤ hiF a)
def ctF (x : Int) : Bool := decide (128 ≤ x ∧ x ≤ 191)
def v2 (a b : Int) : Int := a % 32 * 64 + b % 64
def v3 (a b c : Int) : Int := a % 16 * 4096 + b % 64 * 64 + c % 64
def v4 (a b c d : Int) : Int := a % 8 * 262144 + b % 64 * 4096 + c % 64 * 64 + d % 64
def wholeS : List Int → Option Int
 | [a] => if szF a = 1 then some a else none
 | [a, b] => if szF a = 2 ∧ okF a b = true then some (v2 a b) else none
 | [a, b, c] => if szF a = 3 ∧ okF a b = true ∧ ctF c = true then some (v3 a b c) else none
 | [a, b, c, d] => if szF a = 4 ∧ okF a b = true ∧ ctF c = true ∧ ctF d = true then some (v4 a b c d) else none
 | _ => none
def begS : List Int → Bool
 | [a] => decide (2 ≤ szF a)
 | [a, b] => decide (3 ≤ szF a ∧ okF a b = true)
 | [a, b, c] => decide (4 ≤ szF a ∧ okF a b = true ∧ ctF c = true)
 | _ => false
def headS : List Int → Option (Int × Nat)
 | [] => none
 | [a] => if szF a = 1 then some (a, 1) else none
 | [a, b] => if szF a = 1 then some (a, 1) else if szF a = 2 ∧ okF a b = true then some (v2 a b, 2) else none
 | [a, b, c] => if szF a = 1 then some (a, 1) else if szF a = 2 ∧ okF a b = true then some (v2 a b, 2) else if szF a = 3 ∧ okF a b = true ∧ ctF c = true then some (v3 a b c, 3) else none
 | a :: b :: c :: d :: _ => if szF a = 1 then some (a, 1) else if szF a = 2 ∧ okF a b = true then some (v2 a b, 2) else if szF a = 3 ∧ okF a b = true ∧ ctF c = true then some (v3 a b c, 3)
   else if szF a = 4 ∧ okF a b = true ∧ ctF c = true ∧ ctF d = true then some (v4 a b c d, 4) else none
def begLen : List Int → Nat
 | [] => 0
 | [a] => if 2 ≤ szF a then 1 else 0
 | [a, b] => if 3 ≤ szF a ∧ okF a b = true then 2 else if 2 ≤ szF a then 1 else 0
 | a :: b :: c :: _ => if 4 ≤ szF a ∧ okF a b = true ∧ ctF c = true then 3 else if 3 ≤ szF a ∧ okF a b = true then 2 else if 2 ≤ szF a then 1 else 0
theorem szF_le (a : Int) : szF a = 0 ∨ szF a = 1 ∨ szF a = 2 ∨ szF a = 3 ∨ szF a = 4 := by
 unfold szF; repeat' split
 all_goals simp
theorem szF1 {a : Int} : szF a = 1 ↔ a < 128 := by unfold szF; repeat' split
                                                   all_goals simp <;> omega
theorem szF2 {a : Int} : szF a = 2 ↔ 194 ≤ a ∧ a < 224 := by unfold szF; repeat' split
                                                             all_goals simp <;> omega
theorem szF3 {a : Int} : szF a = 3 ↔ 224 ≤ a ∧ a < 240 := by unfold szF; repeat' split
                                                             all_goals simp <;> omega
theorem szF4 {a : Int} : szF a = 4 ↔ 240 ≤ a ∧ a < 245 := by unfold szF; repeat' split
                                                             all_goals simp <;> omega
theorem okF_iff {a x : Int} : okF a x = true ↔ loF a ≤ x ∧ x ≤ hiF a := by simp [okF]
theorem ctF_iff {x : Int} : ctF x = true ↔ 128 ≤ x ∧ x ≤ 191 := by simp [ctF]
theorem loF_ge (a : Int) : 128 ≤ loF a ∧ loF a ≤ 160 := by unfold loF; repeat' split
                                                           all_goals omega
theorem hiF_le (a : Int) : 143 ≤ hiF a ∧ hiF a ≤ 191 := by unfold hiF; repeat' split
                                                           all_goals omega
theorem lo_hi (a : Int) : okF a (loF a) = true := by rw [okF_iff]; unfold loF hiF; repeat' split
                                                     all_goals omega
def feed1 (b : Int) : List Int × List Int := if szF b = 1 then ([b], []) else if 2 ≤ szF b then ([], [b]) else ([65533], [])
def feedS (o : List Int) (b : Int) : List Int × List Int :=
 match wholeS (o ++ [b]) with
 | some r => ([r], [])
 | none => if begS (o ++ [b]) = true then ([], o ++ [b]) else if o = [] then ([65533], []) else (65533 :: (feed1 b).1, (feed1 b).2)
def endS (o : List Int) : List Int := if o = [] then [] else [65533]
def foldS : List Int → List Int → List Int
 | o, [] => endS o
 | o, b :: t => (feedS o b).1 ++ foldS (feedS o b).2 t
theorem feedS_nil (b : Int) : feedS [] b = feed1 b := by
 rcases szF_le b with h | h | h | h | h <;> simp [feedS, feed1, wholeS, begS, h]
def Op (o : List Int) : Prop := o = [] ∨ begS o = true
theorem Op.len {o : List Int} (h : Op o) : o.length ≤ 3 := by
 rcases h with rfl | h
 · simp
 · rcases o with _ | ⟨a, _ | ⟨b, _ | ⟨c, _ | ⟨d, t⟩⟩⟩⟩ <;> simp [begS] at h ⊢
theorem feed1_op (b : Int) : Op (feed1 b).2 := by
 rcases szF_le b with h | h | h | h | h <;> simp [feed1, Op, begS, h]
theorem feedS_op (o : List Int) (b : Int) : Op (feedS o b).2 := by
 unfold feedS
 split
 · exact .inl rfl
 · split
   · exact .inr (by assumption)
   · split
     · exact .inl rfl
     · exact feed1_op b
theorem feed1_len (b : Int) : (feed1 b).1.length ≤ 1 := by
 rcases szF_le b with h | h | h | h | h <;> simp [feed1, h]
theorem feedS_len (o : List Int) (b : Int) : (feedS o b).1.length ≤ 2 := by
 unfold feedS
 split
 · simp
 · split
   · simp
   · split
     · simp
     · have := feed1_len b; simp; omega
theorem foldS_more {o : List Int} {b : Int} (t : List Int) (h : wholeS (o ++ [b]) = none) (h' : begS (o ++ [b]) = true) : foldS o (b :: t) = foldS (o ++ [b]) t := by simp [foldS, feedS, h, h']
theorem foldS_nil (b : Int) (t : List Int) : foldS [] (b :: t) = (feed1 b).1 ++ foldS (feed1 b).2 t := by rw [foldS, feedS_nil]
theorem foldS_fall {o : List Int} {b : Int} (t : List Int) (h : wholeS (o ++ [b]) = none) (h' : begS (o ++ [b]) = false) (ho : o ≠ []) : foldS o (b :: t) = 65533 :: foldS [] (b :: t) := by
 rw [foldS_nil]
 simp [foldS, feedS, h, h', ho]
theorem foldS_bad {b : Int} (t : List Int) (h : szF b = 0) : foldS [] (b :: t) = 65533 :: foldS [] t := by simp [foldS, feedS_nil, feed1, h]
set_option maxHeartbeats 1600000 in
theorem fold_head {L : List Int} {r : Int} {n : Nat} (h : headS L = some (r, n)) : foldS [] L = r :: foldS [] (L.drop n) ∧ begLen L + 1 = n ∧ n ≤ L.length := by
 rcases L with _ | ⟨a, _ | ⟨b, _ | ⟨c, _ | ⟨d, t⟩⟩⟩⟩
 · cases h
 all_goals
  rcases szF_le a with ha | ha | ha | ha | ha <;> simp [headS, ha] at h <;>
  (try obtain ⟨h0, h⟩ := h) <;> (try obtain ⟨rfl, rfl⟩ := h) <;> simp [foldS, feedS, wholeS, begS, begLen, ha] <;> simp_all
theorem fall1 {a b : Int} (t : List Int) (ha : 2 ≤ szF a) (h : wholeS [a, b] = none) (h' : begS [a, b] = false) : foldS [] (a :: b :: t) = 65533 :: foldS [] (b :: t) := by
 have e : wholeS ([] ++ [a]) = none := by simp [wholeS]; omega
 rw [foldS_more (o := []) _ e (by simpa [begS] using ha)]
 exact foldS_fall (o := [a]) _ h h' (by simp)
theorem fall2 {a b c : Int} (t : List Int) (ha : 3 ≤ szF a) (hb : okF a b = true) (h : wholeS [a, b, c] = none) (h' : begS [a, b, c] = false) : foldS [] (a :: b :: c :: t) = 65533 :: foldS [] (c :: t) := by
 have e : wholeS ([] ++ [a]) = none := by simp [wholeS]; omega
 have e2 : wholeS ([a] ++ [b]) = none := by simp [wholeS]; intro; omega
 rw [foldS_more (o := []) _ e (by simp [begS]; omega), List.nil_append, foldS_more _ e2 (by simp [begS, ha, hb])]
 exact foldS_fall (o := [a, b]) _ h h' (by simp)
theorem fall3 {a b c d : Int} (t : List Int) (ha : szF a = 4) (hb : okF a b = true) (hc : ctF c = true) (h : wholeS [a, b, c, d] = none) : foldS [] (a :: b :: c :: d :: t) = 65533 :: foldS [] (d :: t) := by
 have e : wholeS ([] ++ [a]) = none := by simp [wholeS, ha]
 have e2 : wholeS ([a] ++ [b]) = none := by simp [wholeS, ha]
 have e3 : wholeS ([a, b] ++ [c]) = none := by simp [wholeS, ha]
 rw [foldS_more (o := []) _ e (by simp [begS, ha]), List.nil_append, foldS_more _ e2 (by simp [begS, ha, hb]), List.singleton_append, foldS_more _ e3 (by simp [begS, ha, hb, hc])]
 exact foldS_fall (o := [a, b, c]) _ h (by simp [begS]) (by simp)
theorem okct {a b : Int} (h : okF a b = true) : 128 ≤ b ∧ b ≤ 191 := by
 have h1 := okF_iff.1 h; have := loF_ge a; have := hiF_le a; omega
set_option maxHeartbeats 1600000 in
theorem fold_none {L : List Int} (hne : L ≠ []) (h : headS L = none) : foldS [] L = 65533 :: foldS [] (L.drop (max 1 (begLen L))) ∧ begLen L ≤ L.length ∧ begLen L ≤ 3 ∧ ∀ j, 1 ≤ j → j < begLen L → 128 ≤ L.getD j 0 ∧ L.getD j 0 ≤ 191 := by
 rcases L with _ | ⟨a, _ | ⟨b, _ | ⟨c, t⟩⟩⟩
 · exact absurd rfl hne
 · rcases szF_le a with ha | ha | ha | ha | ha <;> simp [headS, ha] at h
   · exact ⟨by simp [foldS, feedS, wholeS, begS, begLen, ha, endS], by simp [begLen, ha], by simp [begLen, ha], fun j h1 h2 => by simp [begLen, ha] at h2⟩
   all_goals exact ⟨by simp [foldS, feedS, wholeS, begS, begLen, ha, endS], by simp [begLen, ha], by simp [begLen, ha], fun j h1 h2 => by simp [begLen, ha] at h2; omega⟩
 · rcases szF_le a with ha | ha | ha | ha | ha <;> simp [headS, ha] at h
   · exact ⟨by rw [foldS_bad _ ha]; simp [begLen, ha], by simp [begLen, ha], by simp [begLen, ha], fun j h1 h2 => by simp [begLen, ha] at h2⟩
   · exact ⟨by rw [fall1 _ (by omega) (by simp [wholeS, h]) (by simp [begS, ha])]; simp [begLen, ha], by simp [begLen, ha], by simp [begLen, ha], fun j h1 h2 => by simp [begLen, ha] at h2; omega⟩
   all_goals
    cases hb : okF a b
    · exact ⟨by rw [fall1 _ (by omega) (by simp [wholeS, hb]) (by simp [begS, hb])]; simp [begLen, ha, hb], by simp [begLen, ha, hb], by simp [begLen, ha, hb], fun j h1 h2 => by simp [begLen, ha, hb] at h2; omega⟩
    · exact ⟨by simp [foldS, feedS, wholeS, begS, begLen, ha, endS, hb], by simp [begLen, ha, hb], by simp [begLen, ha, hb], fun j h1 h2 => by
       simp [begLen, ha, hb] at h2; obtain rfl : j = 1 := by omega
       exact okct hb⟩
 · have h' : szF a ≠ 1 ∧ ¬ (szF a = 2 ∧ okF a b = true) ∧ ¬ (szF a = 3 ∧ okF a b = true ∧ ctF c = true) := by
    cases t <;> simp only [headS] at h <;> (refine ⟨?_, ?_, ?_⟩ <;> intro hx <;> simp [hx] at h)
   rcases szF_le a with ha | ha | ha | ha | ha
   · exact ⟨by rw [foldS_bad _ ha]; simp [begLen, ha], by simp [begLen, ha], by simp [begLen, ha], fun j h1 h2 => by simp [begLen, ha] at h2⟩
   · exact absurd ha h'.1
   · have hb : okF a b = false := by have := h'.2.1; simpa [ha] using this
     exact ⟨by rw [fall1 _ (by omega) (by simp [wholeS, hb]) (by simp [begS, hb])]; simp [begLen, ha], by simp [begLen, ha], by simp [begLen, ha], fun j h1 h2 => by simp [begLen, ha] at h2; omega⟩
   · cases hb : okF a b
     · exact ⟨by rw [fall1 _ (by omega) (by simp [wholeS, hb]) (by simp [begS, hb])]; simp [begLen, ha, hb], by simp [begLen, ha, hb], by simp [begLen, ha, hb], fun j h1 h2 => by simp [begLen, ha, hb] at h2; omega⟩
     · have hc : ctF c = false := by have := h'.2.2; simpa [ha, hb] using this
       exact ⟨by rw [fall2 _ (by omega) hb (by simp [wholeS, hc]) (by simp [begS, hc])]; simp [begLen, ha, hb], by simp [begLen, ha, hb], by simp [begLen, ha, hb], fun j h1 h2 => by
        simp [begLen, ha, hb] at h2; obtain rfl : j = 1 := by omega
        exact okct hb⟩
   · cases hb : okF a b
     · exact ⟨by rw [fall1 _ (by omega) (by simp [wholeS, hb]) (by simp [begS, hb])]; simp [begLen, ha, hb], by simp [begLen, ha, hb], by simp [begLen, ha, hb], fun j h1 h2 => by simp [begLen, ha, hb] at h2; omega⟩
     cases hc : ctF c
     · exact ⟨by rw [fall2 _ (by omega) hb (by simp [wholeS, hc]) (by simp [begS, hc])]; simp [begLen, ha, hb, hc], by simp [begLen, ha, hb, hc], by simp [begLen, ha, hb, hc], fun j h1 h2 => by
        simp [begLen, ha, hb, hc] at h2; obtain rfl : j = 1 := by omega
        exact okct hb⟩
     refine ⟨?_, by simp [begLen, ha, hb, hc], by simp [begLen, ha, hb, hc], fun j h1 h2 => ?_⟩
     · cases t with
       | nil => simp [foldS, feedS, wholeS, begS, begLen, ha, endS, hb, hc]
       | cons d t =>
        have hd : ctF d = false := by simpa [headS, ha, hb, hc] using h
        rw [fall3 _ ha hb hc (by simp [wholeS, hd])]
        simp [begLen, ha, hb, hc]
     · simp [begLen, ha, hb, hc] at h2
       have hj : j = 1 ∨ j = 2 := by omega
       rcases hj with rfl | rfl
       · exact okct hb
       · exact ctF_iff.1 hc
theorem head_take {L : List Int} {k : Nat} (h1 : 1 ≤ k) (h4 : k ≤ 4) (hk : k ≤ L.length) : wholeS (L.take k) = (match headS L with | some (r, n) => if n = k then some r else none | none => none) := by
 have hk' : k = 1 ∨ k = 2 ∨ k = 3 ∨ k = 4 := by omega
 rcases L with _ | ⟨a, _ | ⟨b, _ | ⟨c, _ | ⟨d, t⟩⟩⟩⟩
 · simp at hk; omega
 all_goals
  simp at hk
  rcases hk' with rfl | rfl | rfl | rfl <;> (first | (exfalso; omega) | skip) <;>
  rcases szF_le a with ha | ha | ha | ha | ha <;> simp only [headS, ha, wholeS, List.take] <;> (try simp) <;> (repeat' split) <;> simp_all
theorem head_len {L : List Int} {r : Int} {n : Nat} (h : headS L = some (r, n)) : 1 ≤ n ∧ n ≤ 4 ∧ n ≤ L.length := by
 obtain ⟨_, h2, h3⟩ := fold_head h
 refine ⟨by omega, ?_, h3⟩
 have : begLen L ≤ 3 := by
  rcases L with _ | ⟨a, _ | ⟨b, _ | ⟨c, t⟩⟩⟩ <;> simp [begLen] <;> (repeat' split) <;> omega
 omega
def mayS (r : Int) : Bool := decide (0 ≤ r ∧ r ≤ 55295 ∨ 57344 ≤ r ∧ r ≤ 1114111)
def fixS (r : Int) : Int := if mayS r = true then r else 65533
def encS (r : Int) : List Int :=
 if mayS r = true then
  (if r < 128 then [r] else if r < 2048 then [192 + r / 64, 128 + r % 64] else if r < 65536 then [224 + r / 4096, 128 + r / 64 % 64, 128 + r % 64]
   else [240 + r / 262144, 128 + r / 4096 % 64, 128 + r / 64 % 64, 128 + r % 64])
 else [239, 191, 189]
theorem mayS_iff {r : Int} : mayS r = true ↔ 0 ≤ r ∧ r ≤ 55295 ∨ 57344 ≤ r ∧ r ≤ 1114111 := by simp [mayS]
theorem may_fix (r : Int) : mayS (fixS r) = true := by
 unfold fixS; split
 · assumption
 · decide
theorem encS_fix (r : Int) : encS (fixS r) = encS r := by
 unfold fixS; split
 · rfl
 · rename_i h; simp only [encS, if_neg h]; decide
theorem encS_len (r : Int) : 1 ≤ (encS r).length ∧ (encS r).length ≤ 4 := by
 unfold encS; repeat' split
 all_goals simp
theorem enc1 {r : Int} (h0 : 0 ≤ r) (h : r < 128) : encS r = [r] := by
 have : mayS r = true := mayS_iff.2 (by omega)
 simp [encS, this, h]
theorem enc2 {r : Int} (h0 : 128 ≤ r) (h : r < 2048) : encS r = [192 + r / 64, 128 + r % 64] := by
 have : mayS r = true := mayS_iff.2 (by omega)
 have h1 : ¬ r < 128 := by omega
 simp [encS, this, h, h1]
theorem enc3 {r : Int} (h : 2048 ≤ r ∧ r < 55296 ∨ 57343 < r ∧ r < 65536) : encS r = [224 + r / 4096, 128 + r / 64 % 64, 128 + r % 64] := by
 have : mayS r = true := mayS_iff.2 (by omega)
 have h1 : ¬ r < 128 := by omega
 have h2 : ¬ r < 2048 := by omega
 have h3 : r < 65536 := by omega
 simp [encS, this, h1, h2, h3]
theorem enc4 {r : Int} (h : 65536 ≤ r ∧ r ≤ 1114111) : encS r = [240 + r / 262144, 128 + r / 4096 % 64, 128 + r / 64 % 64, 128 + r % 64] := by
 have : mayS r = true := mayS_iff.2 (by omega)
 have h1 : ¬ r < 128 := by omega
 have h2 : ¬ r < 2048 := by omega
 have h3 : ¬ r < 65536 := by omega
 simp [encS, this, h1, h2, h3]
theorem enc_bad {r : Int} (h : mayS r = false) : encS r = [239, 191, 189] := by simp [encS, h]
theorem may_cases {r : Int} (h : mayS r = true) : (0 ≤ r ∧ r < 128) ∨ (128 ≤ r ∧ r < 2048) ∨ (2048 ≤ r ∧ r < 55296 ∨ 57343 < r ∧ r < 65536) ∨ (65536 ≤ r ∧ r ≤ 1114111) := by
 have := mayS_iff.1 h; omega
theorem okF_2 {a x : Int} (ha : szF a = 2) : okF a x = ctF x := by
 have := szF2.1 ha
 unfold okF ctF loF hiF
 rw [if_neg (by omega), if_neg (by omega), if_neg (by omega), if_neg (by omega)]
set_option maxHeartbeats 1600000 in
theorem head_enc {r : Int} (h : mayS r = true) (t : List Int) : headS (encS r ++ t) = some (r, (encS r).length) := by
 rcases may_cases h with h1 | h1 | h1 | h1
 · rw [enc1 h1.1 h1.2]
   have ha : szF r = 1 := szF1.2 h1.2
   rcases t with _ | ⟨b, _ | ⟨c, _ | ⟨d, t⟩⟩⟩ <;> simp [headS, ha]
 · rw [enc2 h1.1 h1.2]
   have ha : szF (192 + r / 64) = 2 := szF2.2 (by omega)
   have hb : okF (192 + r / 64) (128 + r % 64) = true := by rw [okF_2 ha, ctF_iff]; omega
   have hv : v2 (192 + r / 64) (128 + r % 64) = r := by unfold v2; omega
   rcases t with _ | ⟨c, _ | ⟨d, t⟩⟩ <;> simp [headS, ha, hb, hv]
 · rw [enc3 h1]
   have ha : szF (224 + r / 4096) = 3 := szF3.2 (by omega)
   have hb : okF (224 + r / 4096) (128 + r / 64 % 64) = true := by
    rw [okF_iff]; unfold loF hiF
    repeat' split
    all_goals omega
   have hc : ctF (128 + r % 64) = true := by rw [ctF_iff]; omega
   have hv : v3 (224 + r / 4096) (128 + r / 64 % 64) (128 + r % 64) = r := by unfold v3; omega
   rcases t with _ | ⟨d, t⟩ <;> simp [headS, ha, hb, hc, hv]
 · rw [enc4 h1]
   have ha : szF (240 + r / 262144) = 4 := szF4.2 (by omega)
   have hb : okF (240 + r / 262144) (128 + r / 4096 % 64) = true := by
    rw [okF_iff]; unfold loF hiF
    repeat' split
    all_goals omega
   have hc : ctF (128 + r / 64 % 64) = true := by rw [ctF_iff]; omega
   have hd : ctF (128 + r % 64) = true := by rw [ctF_iff]; omega
   have hv : v4 (240 + r / 262144) (128 + r / 4096 % 64) (128 + r / 64 % 64) (128 + r % 64) = r := by unfold v4; omega
   simp [headS, ha, hb, hc, hd, hv]
theorem whole_enc {r : Int} (h : mayS r = true) : wholeS (encS r) = some r := by
 have h1 := head_enc h []
 rw [List.append_nil] at h1
 have := encS_len r
 have h2 := head_take (L := encS r) (k := (encS r).length) (by omega) (by omega) (by omega)
 rw [h1, List.take_length] at h2
 simpa using h2
set_option maxHeartbeats 1600000 in
theorem enc_whole {L : List Int} {r : Int} (hb : ∀ z ∈ L, 0 ≤ z ∧ z ≤ 255) (h : wholeS L = some r) : encS r = L ∧ mayS r = true := by
 rcases L with _ | ⟨a, _ | ⟨b, _ | ⟨c, _ | ⟨d, _ | ⟨e, t⟩⟩⟩⟩⟩ <;> simp only [wholeS] at h
 · cases h
 · split at h
   · rename_i hc; cases h
     have h0 := hb r (by simp)
     have h1 := szF1.1 hc
     exact ⟨enc1 h0.1 h1, mayS_iff.2 (by omega)⟩
   · cases h
 · split at h
   · rename_i hc; cases h
     have h1 := szF2.1 hc.1
     have h2 := hc.2
     rw [okF_2 hc.1, ctF_iff] at h2
     have e : 128 ≤ v2 a b ∧ v2 a b < 2048 := by unfold v2; omega
     refine ⟨?_, mayS_iff.2 (by omega)⟩
     rw [enc2 e.1 e.2]
     unfold v2
     simp only [List.cons.injEq, and_true]
     omega
   · cases h
 · split at h
   · rename_i hc; cases h
     obtain ⟨hc1, hc2, hc3⟩ := hc
     have h1 := szF3.1 hc1
     have h2 := okF_iff.1 hc2
     have h3 := ctF_iff.1 hc3
     have e : 2048 ≤ v3 a b c ∧ v3 a b c < 55296 ∨ 57343 < v3 a b c ∧ v3 a b c < 65536 := by
      unfold loF hiF at h2; unfold v3
      repeat' split at h2
      all_goals omega
     refine ⟨?_, mayS_iff.2 (by omega)⟩
     rw [enc3 e]
     have h4 := okct hc2
     unfold v3
     simp only [List.cons.injEq, and_true]
     omega
   · cases h
 · split at h
   · rename_i hc; cases h
     obtain ⟨hc1, hc2, hc3, hc4⟩ := hc
     have h1 := szF4.1 hc1
     have h2 := okF_iff.1 hc2
     have h3 := ctF_iff.1 hc3
     have h3' := ctF_iff.1 hc4
     have e : 65536 ≤ v4 a b c d ∧ v4 a b c d ≤ 1114111 := by
      unfold loF hiF at h2; unfold v4
      repeat' split at h2
      all_goals omega
     refine ⟨?_, mayS_iff.2 (by omega)⟩
     rw [enc4 e]
     have h4 := okct hc2
     unfold v4
     simp only [List.cons.injEq, and_true]
     omega
   · cases h
 · cases h
def encAll (l : List Int) : List Int := (l.map encS).flatten
theorem encAll_cons (r : Int) (l : List Int) : encAll (r :: l) = encS r ++ encAll l := by simp [encAll]
theorem encAll_snoc (r : Int) (l : List Int) : encAll (l ++ [r]) = encAll l ++ encS r := by simp [encAll]
theorem fold_encAll : ∀ l : List Int, foldS [] (encAll l) = l.map fixS
 | [] => rfl
 | r :: l => by
  have h := head_enc (may_fix r) (encAll l)
  rw [encS_fix] at h
  rw [encAll_cons, (fold_head h).1, List.drop_left, fold_encAll l]
  rfl
def validS (L : List Int) : Bool := decide (encAll (foldS [] L) = L)
theorem valid_nil : validS [] = true := rfl
theorem head_split {L : List Int} {r : Int} {n : Nat} (hb : ∀ z ∈ L, 0 ≤ z ∧ z ≤ 255) (h : headS L = some (r, n)) : wholeS (L.take n) = some r ∧ L = encS r ++ L.drop n ∧ mayS r = true := by
 obtain ⟨h1, h4, hn⟩ := head_len h
 have h2 := head_take h1 h4 hn
 rw [h] at h2
 simp at h2
 obtain ⟨e, hm⟩ := enc_whole (fun z hz => hb z (List.mem_of_mem_take hz)) h2
 exact ⟨h2, by rw [e, List.take_append_drop], hm⟩
theorem valid_head {L : List Int} {r : Int} {n : Nat} (hb : ∀ z ∈ L, 0 ≤ z ∧ z ≤ 255) (h : headS L = some (r, n)) : validS L = validS (L.drop n) := by
 obtain ⟨_, e, _⟩ := head_split hb h
 unfold validS
 rw [(fold_head h).1, encAll_cons]
 congr 1
 apply propext
 constructor
 · intro he
   rw [e, List.append_cancel_left_eq] at he
   have : (encS r ++ List.drop n L).drop n = L.drop n := by rw [← e]
   rw [this] at he
   exact he
 · intro he
   rw [he, ← e]
theorem valid_none {L : List Int} (hne : L ≠ []) (h : headS L = none) : validS L = false := by
 unfold validS
 rw [(fold_none hne h).1, encAll_cons]
 simp only [decide_eq_false_iff_not]
 intro he
 have h2 := head_enc (r := 65533) (by decide) (encAll (foldS [] (L.drop (max 1 (begLen L)))))
 rw [he, h] at h2
 cases h2
end Go.Proofs.YtojchkhnalnncaaDoor
namespace Go.Proofs
open Go.Shelf
def Tryd.lays119_ren : Go.Shelf.Ren := ⟨fun | 119 => 75 | n => n, fun | 21 => 21 | 4 => 4 | n => n, fun | n => n⟩
theorem Tryd.lays119 : Go.Proofs.Lays.n119 Tryd.prog Tryd.lays119_ren := {
 mixed := by kernel_rfl
 f119 := Tryd.func75.trans (congrArg some (by kernel_rfl))
 t4 := Tryd.underlying4
 a4 := Tryd.isAgg4
 z4 := Tryd.sizeOf4
 v4 := Tryd.zeroValue4
 t21 := Tryd.underlying21
 a21 := Tryd.isAgg21
 z21 := Tryd.sizeOf21
 v21 := Tryd.zeroValue21 }
theorem Tryd.utf8_ValidRune (r : Int) (w : World) :
  Calls Tryd.prog 75 #[.int .i32 r] w fun e w' => e = .returned (.bool (Lib.validRune r)) ∧ w' = w := Any.utf8_ValidRune Tryd.lays119 r w
end Go.Proofs
namespace Go.Proofs.YtojchkhnalnncaaDoor
open Go.ChangeShapes Go.WideShapes Go.ChangeAt Go.RowKit
def stL : List (Int × Int × Int) := [(0, 31, 0), (127, 159, 0), (768, 879, 0), (8203, 8207, 0), (65024, 65039, 0), (4352, 4447, 2), (11904, 12350, 2), (12353, 42191, 2), (44032, 55203, 2), (63744, 64255, 2), (65072, 65135, 2), (65280, 65376, 2), (65504, 65510, 2), (127744, 128591, 2), (131072, 262141, 2)]
def stCells : List Value := (stL.map fun x => [Value.int .i32 x.1, Value.int .i32 x.2.1, Value.int .i64 x.2.2]).flatten
structure Tabs (w : World) : Prop where
 u8 : Lib.Utf8Tabs 1 2 w
 st : ∃ t fr, w.heap[0]? = some (.cells stCells.toArray t fr)
theorem Tabs.below {w w' : World} (h : Tabs w) {B : Nat} (hb : Below B w w') (hB : w.heap.size ≤ B) : Tabs w' := by
 have hb' : Below w.heap.size w w' := ⟨hb.os, hb.tape, hb.output, hb.size, fun k hk => hb.block k (by omega)⟩
 obtain ⟨t, fr, hs⟩ := h.st
 have hl : 0 < w.heap.size := (Array.getElem?_eq_some_iff.1 hs).1
 exact ⟨Utf8Tabs_below h.u8 hb', t, fr, (hb'.block _ hl).trans hs⟩
abbrev laidL : List (String × DataW Unit) := [("unicode/utf8.acceptRanges", Rows.laid_unicode_utf8_acceptRanges), ("spyglass/utf.stretches", Rows.laid_spyglass_utf_stretches), ("spyglass/color.sixteen", Rows.laid_spyglass_color_sixteen), ("spyglass/color.levels", Rows.laid_spyglass_color_levels), ("unicode/utf8.first", Rows.laid_unicode_utf8_first)]
def ren8 : Go.Shelf.Ren := ⟨fun n => n, fun | 5 => 5 | 119 => 128 | 138 => 130 | 139 => 131 | n => n, fun | 3 => 1 | 4 => 2 | n => n⟩
theorem u8t : U8Types Tryd.prog ren8 where
 t5 := Tryd.underlying5
 t119 := Tryd.underlying128
 t138 := Tryd.underlying130
 t139 := Tryd.underlying131
theorem u8x : U8Extra Tryd.prog ren8 where
 n3 := by kernel_rfl
 n4 := by kernel_rfl
 y3 := by kernel_rfl
 y4 := by kernel_rfl
 c5 := by kernel_rfl
 c119 := by kernel_rfl
 c138 := by kernel_rfl
theorem firstEq : Rows.laid_unicode_utf8_first = Lib.firstData := by kernel_rfl
theorem acceptEq : (Rows.laid_unicode_utf8_acceptRanges : DataW Unit) = Lib.acceptData := by kernel_rfl
theorem str_three {H : Type} {enc : TypeId × Value → H} {w : World} {base : Nat} {sp : Nat → Bool} {held : Bool} {fuel : Nat} {cs : List Value} {a b c : Int} {p : List MemPlace}
  (h : DataW.trod enc Tryd.prog w base sp held fuel 112 cs = some (.agg [.lit (.int .i32 a), .lit (.int .i32 b), .lit (.int .i64 c)], p)) : cs = [.int .i32 a, .int .i32 b, .int .i64 c] := by
 have c1 : Tryd.prog.cellsOf 21 = 1 := by kernel_rfl
 have c1' : Tryd.prog.cellsOf 3 = 1 := by kernel_rfl
 have c3 : Tryd.prog.cellsOf 112 = 3 := by kernel_rfl
 obtain ⟨xs, n, rfl, hx, hl, hxl, hall⟩ := DataW.trod_struct Tryd.underlying112 h
 have hxs : xs.map (·.1) = [.lit (.int .i32 a), .lit (.int .i32 b), .lit (.int .i64 c)] := by
  have := congrArg Prod.fst hx
  simpa using this.symm
 have hzl : xs.length = 3 := by have := congrArg List.length hxs; simpa using this
 rw [c3] at hl
 obtain ⟨x0, x1, x2, rfl⟩ : ∃ x0 x1 x2, xs = [x0, x1, x2] := by
  rcases xs with _ | ⟨x0, _ | ⟨x1, _ | ⟨x2, _ | ⟨x3, t⟩⟩⟩⟩ <;> simp at hzl
  exact ⟨x0, x1, x2, rfl⟩
 obtain ⟨v0, v1, v2, rfl⟩ : ∃ v0 v1 v2, cs = [v0, v1, v2] := by
  rcases cs with _ | ⟨x0, _ | ⟨x1, _ | ⟨x2, _ | ⟨x3, t⟩⟩⟩⟩ <;> simp at hl
  exact ⟨x0, x1, x2, rfl⟩
 simp at hxs
 have h0 := hall 0 _ rfl
 have h1 := hall 1 _ rfl
 have h2 := hall 2 _ rfl
 simp [c1] at h0 h1
 simp [c1'] at h2
 obtain ⟨z0, e0, f0, _⟩ := DataW.trod_int Tryd.underlying21 h0
 obtain ⟨z1, e1, f1, _⟩ := DataW.trod_int Tryd.underlying21 h1
 obtain ⟨z2, e2, f2, _⟩ := DataW.trod_int Tryd.underlying3 h2
 simp_all
theorem stretch_cells {w : World} {fuel : Nat} {cs : List Value} {p : List MemPlace}
  (h : DataW.trod (fun _ => ()) Tryd.prog w 0 (fun _ => true) false fuel 113 cs = some (Rows.laid_spyglass_utf_stretches, p)) : cs = stCells := by
 have c45 : Tryd.prog.cellsOf 113 = 45 := by kernel_rfl
 have c3 : Tryd.prog.cellsOf 112 = 3 := by kernel_rfl
 have hl : cs.length = 45 := by
  obtain ⟨xs, m, _, _, hl, _⟩ := DataW.trod_array Tryd.underlying113 h
  rw [hl, c45]
 have he : ∀ i, (hi : i < 15) → (cs.drop (i * 3)).take 3 = (let x := stL.getD i (0, 0, 0); [Value.int .i32 x.1, Value.int .i32 x.2.1, Value.int .i64 x.2.2]) := by
  intro i hi
  obtain ⟨fuel', d, q, hdi, hd'⟩ := Lib.array_elem Tryd.underlying113 h i hi
  rw [c3] at hd'
  have e : d = (let x := stL.getD i (0, 0, 0); DataW.agg [.lit (.int .i32 x.1), .lit (.int .i32 x.2.1), .lit (.int .i64 x.2.2)]) := by
   have h15 : i = 0 ∨ i = 1 ∨ i = 2 ∨ i = 3 ∨ i = 4 ∨ i = 5 ∨ i = 6 ∨ i = 7 ∨ i = 8 ∨ i = 9 ∨ i = 10 ∨ i = 11 ∨ i = 12 ∨ i = 13 ∨ i = 14 := by omega
   rcases h15 with rfl | rfl | rfl | rfl | rfl | rfl | rfl | rfl | rfl | rfl | rfl | rfl | rfl | rfl | rfl <;> (cases hdi; rfl)
  subst e
  exact str_three hd'
 have key : ∀ (n i : Nat) (cs : List Value), cs.length = 3 * n → (∀ k, k < n → (cs.drop (k * 3)).take 3 = (let x := (stL.drop i).getD k (0, 0, 0); [Value.int .i32 x.1, Value.int .i32 x.2.1, Value.int .i64 x.2.2])) → i + n = 15 →
   cs = ((stL.drop i).map fun x => [Value.int .i32 x.1, Value.int .i32 x.2.1, Value.int .i64 x.2.2]).flatten := by
  intro n
  induction n with
  | zero => intro i cs hc _ hi; obtain rfl : i = 15 := by omega
            rw [List.drop_of_length_le (show stL.length ≤ 15 from Nat.le_refl 15)]; simpa using hc
  | succ n ih =>
   intro i cs hc hk hi
   have h0 := hk 0 (by omega)
   have hlen : i < stL.length := by show i < 15; omega
   rw [List.drop_eq_getElem_cons hlen] at h0 ⊢
   have h2 := ih (i + 1) (cs.drop 3) (by simp [hc]; omega) (fun k hk' => by
    have := hk (k + 1) (by omega)
    rw [List.drop_drop, show 3 + k * 3 = (k + 1) * 3 by omega]
    rw [this, List.drop_eq_getElem_cons hlen]; rfl) (by omega)
   simp only [List.map_cons, List.flatten_cons, ← h2]
   simp only [Nat.zero_mul, List.drop_zero] at h0
   conv => lhs; rw [← List.take_append_drop 3 cs]
   rw [h0]; rfl
 exact key 15 0 _ (by rw [hl]) (fun k hk => he k hk) rfl
theorem tabs_of_laid {W : World} (h : laidMetH Tryd.prog laidL W) : Tabs W := by
 rw [MakeChecks.laidMetH_plain _ _ _ (by kernel_rfl)] at h
 have h3 : Lib.VarReads Tryd.prog W "unicode/utf8.first" Lib.firstData := firstEq ▸ Lib.laidMet.reads h (by simp [laidL])
 have h4 : Lib.VarReads Tryd.prog W "unicode/utf8.acceptRanges" Lib.acceptData := acceptEq ▸ Lib.laidMet.reads h (by simp [laidL])
 have h5 : Lib.VarReads Tryd.prog W "spyglass/utf.stretches" Rows.laid_spyglass_utf_stretches := Lib.laidMet.reads h (by simp [laidL])
 refine ⟨utf8Tabs_of_readsT u8t u8x h3 h4, ?_⟩
 obtain ⟨g, t, cs, fuel, p, hg, hty, hvar, hd⟩ := h5
 obtain rfl := Option.some.inj ((show Tryd.prog.globalNamed "spyglass/utf.stretches" = some 0 by kernel_rfl).symm.trans hg)
 obtain rfl := Option.some.inj ((show (Tryd.prog.globals[0]?).map (·.type) = some 113 by kernel_rfl).symm.trans hty)
 have hcs : cs.toList = stCells := stretch_cells hd
 unfold World.var? at hvar
 rw [hg] at hvar
 simp only [Option.bind_some] at hvar
 split at hvar
 · rename_i c t' fr hc
   cases hvar
   exact ⟨t', fr, by rw [hc, ← hcs]⟩
 · cases hvar
theorem start_shaped (os : Os) : (World.laidAll Tryd.prog os laidL).Shaped Tryd.prog := World.shaped_of_ZipB (by kernel_rfl) (by kernel_rfl)
theorem start_met (os : Os) (args : Array Value) : laidMetH Tryd.prog laidL ((World.laidAll Tryd.prog os laidL).forCall (fun _ _ => 0) ⟨#[], args, []⟩).memory := by
 rw [MakeChecks.laidMetH_plain _ _ _ (by kernel_rfl)]; exact laidMet_laidAll _ (by kernel_rfl) (by kernel_rfl)
end Go.Proofs.YtojchkhnalnncaaDoor
