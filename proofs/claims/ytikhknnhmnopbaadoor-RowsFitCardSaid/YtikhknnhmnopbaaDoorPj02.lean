/-
  Part 2 of what the laws of emul want: UtfEnc, UtfShelf, UtfTab, UtfFull, UtfBegin, UtfWid, WireLeaf, CellSpec.
-/
import Derived.Shelf.Small.Utf8
import Derived.Test.YtikhknnhmnopbaaDoorProg
import Derived.Lib.LaidU8T
import Derived.Test.YtikhknnhmnopbaaDoorRows
import Derived.Lib.LaidTab
import Derived.LaidMore
import Derived.Lay
import Derived.Stop.Joined
import Derived.Handed
import Derived.WalkKit
import Derived.RegionTactic
import Derived.Deep.Draws
import Derived.Deep.QuietTactic
import Derived.Lib.Hide
import Derived.LoopTactic
import Derived.Deep.CutBlock
import Derived.Laws.Rows
import Derived.BigQuiet
import Derived.Laws.CopyOwn
import Derived.WalkSpells
import Derived.Test.YtikhknnhmnopbaaDoorPj01
namespace Go.Proofs.YtikhknnhmnopbaaDoor
def mayS (r : Int) : Bool := decide (0 ≤ r ∧ r ≤ 55295 ∨ 57344 ≤ r ∧ r ≤ 1114111)
def fixS (r : Int) : Int := if mayS r = true then r else 65533
def encS (r : Int) : List Int :=
 if mayS r = true then
  (if r < 128 then [r] else if r < 2048 then [192 + r / 64, 128 + r % 64] else if r < 65536 then [224 + r / 4096, 128 + r / 64 % 64, 128 + r % 64]
   else [240 + r / 262144, 128 + r / 4096 % 64, 128 + r / 64 % 64, 128 + r % 64])
 else [239, 191, 189]
theorem mayS_iff {r : Int} : mayS r = true ↔ 0 ≤ r ∧ r ≤ 55295 ∨ 57344 ≤ r ∧ r ≤ 1114111 := by simp [mayS]
theorem may_fix (r : Int) : mayS (fixS r) = true := by
 unfold fixS; split
 · assumption
 · decide
theorem encS_fix (r : Int) : encS (fixS r) = encS r := by
 unfold fixS; split
 · rfl
 · rename_i h; simp only [encS, if_neg h]; decide
theorem encS_len (r : Int) : 1 ≤ (encS r).length ∧ (encS r).length ≤ 4 := by
 unfold encS; repeat' split
 all_goals simp
theorem enc1 {r : Int} (h0 : 0 ≤ r) (h : r < 128) : encS r = [r] := by
 have : mayS r = true := mayS_iff.2 (by omega)
 simp [encS, this, h]
theorem enc2 {r : Int} (h0 : 128 ≤ r) (h : r < 2048) : encS r = [192 + r / 64, 128 + r % 64] := by
 have : mayS r = true := mayS_iff.2 (by omega)
 have h1 : ¬ r < 128 := by omega
 simp [encS, this, h, h1]
theorem enc3 {r : Int} (h : 2048 ≤ r ∧ r < 55296 ∨ 57343 < r ∧ r < 65536) : encS r = [224 + r / 4096, 128 + r / 64 % 64, 128 + r % 64] := by
 have : mayS r = true := mayS_iff.2 (by omega)
 have h1 : ¬ r < 128 := by omega
 have h2 : ¬ r < 2048 := by omega
 have h3 : r < 65536 := by omega
 simp [encS, this, h1, h2, h3]
theorem enc4 {r : Int} (h : 65536 ≤ r ∧ r ≤ 1114111) : encS r = [240 + r / 262144, 128 + r / 4096 % 64, 128 + r / 64 % 64, 128 + r % 64] := by
 have : mayS r = true := mayS_iff.2 (by omega)
 have h1 : ¬ r < 128 := by omega
 have h2 : ¬ r < 2048 := by omega
 have h3 : ¬ r < 65536 := by omega
 simp [encS, this, h1, h2, h3]
theorem enc_bad {r : Int} (h : mayS r = false) : encS r = [239, 191, 189] := by simp [encS, h]
theorem may_cases {r : Int} (h : mayS r = true) : (0 ≤ r ∧ r < 128) ∨ (128 ≤ r ∧ r < 2048) ∨ (2048 ≤ r ∧ r < 55296 ∨ 57343 < r ∧ r < 65536) ∨ (65536 ≤ r ∧ r ≤ 1114111) := by
 have := mayS_iff.1 h; omega
theorem okF_2 {a x : Int} (ha : szF a = 2) : okF a x = ctF x := by
 have := szF2.1 ha
 unfold okF ctF loF hiF
 rw [if_neg (by omega), if_neg (by omega), if_neg (by omega), if_neg (by omega)]
set_option maxHeartbeats 1600000 in
theorem head_enc {r : Int} (h : mayS r = true) (t : List Int) : headS (encS r ++ t) = some (r, (encS r).length) := by
 rcases may_cases h with h1 | h1 | h1 | h1
 · rw [enc1 h1.1 h1.2]
   have ha : szF r = 1 := szF1.2 h1.2
   rcases t with _ | ⟨b, _ | ⟨c, _ | ⟨d, t⟩⟩⟩ <;> simp [headS, ha]
 · rw [enc2 h1.1 h1.2]
   have ha : szF (192 + r / 64) = 2 := szF2.2 (by omega)
   have hb : okF (192 + r / 64) (128 + r % 64) = true := by rw [okF_2 ha, ctF_iff]; omega
   have hv : v2 (192 + r / 64) (128 + r % 64) = r := by unfold v2; omega
   rcases t with _ | ⟨c, _ | ⟨d, t⟩⟩ <;> simp [headS, ha, hb, hv]
 · rw [enc3 h1]
   have ha : szF (224 + r / 4096) = 3 := szF3.2 (by omega)
   have hb : okF (224 + r / 4096) (128 + r / 64 % 64) = true := by
    rw [okF_iff]; unfold loF hiF
    repeat' split
    all_goals omega
   have hc : ctF (128 + r % 64) = true := by rw [ctF_iff]; omega
   have hv : v3 (224 + r / 4096) (128 + r / 64 % 64) (128 + r % 64) = r := by unfold v3; omega
   rcases t with _ | ⟨d, t⟩ <;> simp [headS, ha, hb, hc, hv]
 · rw [enc4 h1]
   have ha : szF (240 + r / 262144) = 4 := szF4.2 (by omega)
   have hb : okF (240 + r / 262144) (128 + r / 4096 % 64) = true := by
    rw [okF_iff]; unfold loF hiF
    repeat' split
    all_goals omega
   have hc : ctF (128 + r / 64 % 64) = true := by rw [ctF_iff]; omega
   have hd : ctF (128 + r % 64) = true := by rw [ctF_iff]; omega
   have hv : v4 (240 + r / 262144) (128 + r / 4096 % 64) (128 + r / 64 % 64) (128 + r % 64) = r := by unfold v4; omega
   simp [headS, ha, hb, hc, hd, hv]
theorem whole_enc {r : Int} (h : mayS r = true) : wholeS (encS r) = some r := by
 have h1 := head_enc h []
 rw [List.append_nil] at h1
 have := encS_len r
 have h2 := head_take (L := encS r) (k := (encS r).length) (by omega) (by omega) (by omega)
 rw [h1, List.take_length] at h2
 simpa using h2
set_option maxHeartbeats 1600000 in
theorem enc_whole {L : List Int} {r : Int} (hb : ∀ z ∈ L, 0 ≤ z ∧ z ≤ 255) (h : wholeS L = some r) : encS r = L ∧ mayS r = true := by
 rcases L with _ | ⟨a, _ | ⟨b, _ | ⟨c, _ | ⟨d, _ | ⟨e, t⟩⟩⟩⟩⟩ <;> simp only [wholeS] at h
 · cases h
 · split at h
   · rename_i hc; cases h
     have h0 := hb r (by simp)
     have h1 := szF1.1 hc
     exact ⟨enc1 h0.1 h1, mayS_iff.2 (by omega)⟩
   · cases h
 · split at h
   · rename_i hc; cases h
     have h1 := szF2.1 hc.1
     have h2 := hc.2
     rw [okF_2 hc.1, ctF_iff] at h2
     have e : 128 ≤ v2 a b ∧ v2 a b < 2048 := by unfold v2; omega
     refine ⟨?_, mayS_iff.2 (by omega)⟩
     rw [enc2 e.1 e.2]
     unfold v2
     simp only [List.cons.injEq, and_true]
     omega
   · cases h
 · split at h
   · rename_i hc; cases h
     obtain ⟨hc1, hc2, hc3⟩ := hc
     have h1 := szF3.1 hc1
     have h2 := okF_iff.1 hc2
     have h3 := ctF_iff.1 hc3
     have e : 2048 ≤ v3 a b c ∧ v3 a b c < 55296 ∨ 57343 < v3 a b c ∧ v3 a b c < 65536 := by
      unfold loF hiF at h2; unfold v3
      repeat' split at h2
      all_goals omega
     refine ⟨?_, mayS_iff.2 (by omega)⟩
     rw [enc3 e]
     have h4 := okct hc2
     unfold v3
     simp only [List.cons.injEq, and_true]
     omega
   · cases h
 · split at h
   · rename_i hc; cases h
     obtain ⟨hc1, hc2, hc3, hc4⟩ := hc
     have h1 := szF4.1 hc1
     have h2 := okF_iff.1 hc2
     have h3 := ctF_iff.1 hc3
     have h3' := ctF_iff.1 hc4
     have e : 65536 ≤ v4 a b c d ∧ v4 a b c d ≤ 1114111 := by
      unfold loF hiF at h2; unfold v4
      repeat' split at h2
      all_goals omega
     refine ⟨?_, mayS_iff.2 (by omega)⟩
     rw [enc4 e]
     have h4 := okct hc2
     unfold v4
     simp only [List.cons.injEq, and_true]
     omega
   · cases h
 · cases h
def encAll (l : List Int) : List Int := (l.map encS).flatten
theorem encAll_cons (r : Int) (l : List Int) : encAll (r :: l) = encS r ++ encAll l := by simp [encAll]
theorem encAll_snoc (r : Int) (l : List Int) : encAll (l ++ [r]) = encAll l ++ encS r := by simp [encAll]
theorem fold_encAll : ∀ l : List Int, foldS [] (encAll l) = l.map fixS
 | [] => rfl
 | r :: l => by
  have h := head_enc (may_fix r) (encAll l)
  rw [encS_fix] at h
  rw [encAll_cons, (fold_head h).1, List.drop_left, fold_encAll l]
  rfl
def validS (L : List Int) : Bool := decide (encAll (foldS [] L) = L)
theorem valid_nil : validS [] = true := rfl
theorem head_split {L : List Int} {r : Int} {n : Nat} (hb : ∀ z ∈ L, 0 ≤ z ∧ z ≤ 255) (h : headS L = some (r, n)) : wholeS (L.take n) = some r ∧ L = encS r ++ L.drop n ∧ mayS r = true := by
 obtain ⟨h1, h4, hn⟩ := head_len h
 have h2 := head_take h1 h4 hn
 rw [h] at h2
 simp at h2
 obtain ⟨e, hm⟩ := enc_whole (fun z hz => hb z (List.mem_of_mem_take hz)) h2
 exact ⟨h2, by rw [e, List.take_append_drop], hm⟩
theorem valid_head {L : List Int} {r : Int} {n : Nat} (hb : ∀ z ∈ L, 0 ≤ z ∧ z ≤ 255) (h : headS L = some (r, n)) : validS L = validS (L.drop n) := by
 obtain ⟨_, e, _⟩ := head_split hb h
 unfold validS
 rw [(fold_head h).1, encAll_cons]
 congr 1
 apply propext
 constructor
 · intro he
   rw [e, List.append_cancel_left_eq] at he
   have : (encS r ++ List.drop n L).drop n = L.drop n := by rw [← e]
   rw [this] at he
   exact he
 · intro he
   rw [he, ← e]
theorem valid_none {L : List Int} (hne : L ≠ []) (h : headS L = none) : validS L = false := by
 unfold validS
 rw [(fold_none hne h).1, encAll_cons]
 simp only [decide_eq_false_iff_not]
 intro he
 have h2 := head_enc (r := 65533) (by decide) (encAll (foldS [] (L.drop (max 1 (begLen L)))))
 rw [he, h] at h2
 cases h2
end Go.Proofs.YtikhknnhmnopbaaDoor
namespace Go.Proofs
open Go.Shelf
def Tryd.lays119_ren : Go.Shelf.Ren := ⟨fun | 119 => 98 | n => n, fun | 21 => 21 | 4 => 4 | n => n, fun | n => n⟩
theorem Tryd.lays119 : Go.Proofs.Lays.n119 Tryd.prog Tryd.lays119_ren := {
 mixed := by kernel_rfl
 f119 := Tryd.func98.trans (congrArg some (by kernel_rfl))
 t4 := Tryd.underlying4
 a4 := Tryd.isAgg4
 z4 := Tryd.sizeOf4
 v4 := Tryd.zeroValue4
 t21 := Tryd.underlying21
 a21 := Tryd.isAgg21
 z21 := Tryd.sizeOf21
 v21 := Tryd.zeroValue21 }
theorem Tryd.utf8_ValidRune (r : Int) (w : World) :
  Calls Tryd.prog 98 #[.int .i32 r] w fun e w' => e = .returned (.bool (Lib.validRune r)) ∧ w' = w := Any.utf8_ValidRune Tryd.lays119 r w
end Go.Proofs
namespace Go.Proofs.YtikhknnhmnopbaaDoor
open Go.ChangeShapes Go.WideShapes Go.ChangeAt Go.RowKit
def stL : List (Int × Int × Int) := [(0, 31, 0), (127, 159, 0), (768, 879, 0), (8203, 8207, 0), (65024, 65039, 0), (4352, 4447, 2), (11904, 12350, 2), (12353, 42191, 2), (44032, 55203, 2), (63744, 64255, 2), (65072, 65135, 2), (65280, 65376, 2), (65504, 65510, 2), (127744, 128591, 2), (131072, 262141, 2)]
def stCells : List Value := (stL.map fun x => [Value.int .i32 x.1, Value.int .i32 x.2.1, Value.int .i64 x.2.2]).flatten
structure Tabs (w : World) : Prop where
 u8 : Lib.Utf8Tabs 1 2 w
 st : ∃ t fr, w.heap[0]? = some (.cells stCells.toArray t fr)
theorem Tabs.below {w w' : World} (h : Tabs w) {B : Nat} (hb : Below B w w') (hB : w.heap.size ≤ B) : Tabs w' := by
 have hb' : Below w.heap.size w w' := ⟨hb.os, hb.tape, hb.output, hb.size, fun k hk => hb.block k (by omega)⟩
 obtain ⟨t, fr, hs⟩ := h.st
 have hl : 0 < w.heap.size := (Array.getElem?_eq_some_iff.1 hs).1
 exact ⟨Utf8Tabs_below h.u8 hb', t, fr, (hb'.block _ hl).trans hs⟩
def ren8 : Go.Shelf.Ren := ⟨fun n => n, fun | 5 => 5 | 119 => 157 | 138 => 159 | 139 => 160 | n => n, fun | 3 => 1 | 4 => 2 | n => n⟩
theorem u8t : U8Types Tryd.prog ren8 where
 t5 := Tryd.underlying5
 t119 := Tryd.underlying157
 t138 := Tryd.underlying159
 t139 := Tryd.underlying160
theorem u8x : U8Extra Tryd.prog ren8 where
 n3 := by kernel_rfl
 n4 := by kernel_rfl
 y3 := by kernel_rfl
 y4 := by kernel_rfl
 c5 := by kernel_rfl
 c119 := by kernel_rfl
 c138 := by kernel_rfl
theorem firstEq : Rows.laid_unicode_utf8_first = Lib.firstData := by kernel_rfl
theorem acceptEq : (Rows.laid_unicode_utf8_acceptRanges : DataW Unit) = Lib.acceptData := by kernel_rfl
theorem str_three {H : Type} {enc : TypeId × Value → H} {w : World} {base : Nat} {sp : Nat → Bool} {held : Bool} {fuel : Nat} {cs : List Value} {a b c : Int} {p : List MemPlace}
  (h : DataW.trod enc Tryd.prog w base sp held fuel 148 cs = some (.agg [.lit (.int .i32 a), .lit (.int .i32 b), .lit (.int .i64 c)], p)) : cs = [.int .i32 a, .int .i32 b, .int .i64 c] := by
 have c1 : Tryd.prog.cellsOf 21 = 1 := by kernel_rfl
 have c1' : Tryd.prog.cellsOf 3 = 1 := by kernel_rfl
 have c3 : Tryd.prog.cellsOf 148 = 3 := by kernel_rfl
 obtain ⟨xs, n, rfl, hx, hl, hxl, hall⟩ := DataW.trod_struct Tryd.underlying148 h
 have hxs : xs.map (·.1) = [.lit (.int .i32 a), .lit (.int .i32 b), .lit (.int .i64 c)] := by
  have := congrArg Prod.fst hx
  simpa using this.symm
 have hzl : xs.length = 3 := by have := congrArg List.length hxs; simpa using this
 rw [c3] at hl
 obtain ⟨x0, x1, x2, rfl⟩ : ∃ x0 x1 x2, xs = [x0, x1, x2] := by
  rcases xs with _ | ⟨x0, _ | ⟨x1, _ | ⟨x2, _ | ⟨x3, t⟩⟩⟩⟩ <;> simp at hzl
  exact ⟨x0, x1, x2, rfl⟩
 obtain ⟨v0, v1, v2, rfl⟩ : ∃ v0 v1 v2, cs = [v0, v1, v2] := by
  rcases cs with _ | ⟨x0, _ | ⟨x1, _ | ⟨x2, _ | ⟨x3, t⟩⟩⟩⟩ <;> simp at hl
  exact ⟨x0, x1, x2, rfl⟩
 simp at hxs
 have h0 := hall 0 _ rfl
 have h1 := hall 1 _ rfl
 have h2 := hall 2 _ rfl
 simp [c1] at h0 h1
 simp [c1'] at h2
 obtain ⟨z0, e0, f0, _⟩ := DataW.trod_int Tryd.underlying21 h0
 obtain ⟨z1, e1, f1, _⟩ := DataW.trod_int Tryd.underlying21 h1
 obtain ⟨z2, e2, f2, _⟩ := DataW.trod_int Tryd.underlying3 h2
 simp_all
theorem stretch_cells {w : World} {fuel : Nat} {cs : List Value} {p : List MemPlace}
  (h : DataW.trod (fun _ => ()) Tryd.prog w 0 (fun _ => true) false fuel 149 cs = some (Rows.laid_spyglass_utf_stretches, p)) : cs = stCells := by
 have c45 : Tryd.prog.cellsOf 149 = 45 := by kernel_rfl
 have c3 : Tryd.prog.cellsOf 148 = 3 := by kernel_rfl
 have hl : cs.length = 45 := by
  obtain ⟨xs, m, _, _, hl, _⟩ := DataW.trod_array Tryd.underlying149 h
  rw [hl, c45]
 have he : ∀ i, (hi : i < 15) → (cs.drop (i * 3)).take 3 = (let x := stL.getD i (0, 0, 0); [Value.int .i32 x.1, Value.int .i32 x.2.1, Value.int .i64 x.2.2]) := by
  intro i hi
  obtain ⟨fuel', d, q, hdi, hd'⟩ := Lib.array_elem Tryd.underlying149 h i hi
  rw [c3] at hd'
  have e : d = (let x := stL.getD i (0, 0, 0); DataW.agg [.lit (.int .i32 x.1), .lit (.int .i32 x.2.1), .lit (.int .i64 x.2.2)]) := by
   have h15 : i = 0 ∨ i = 1 ∨ i = 2 ∨ i = 3 ∨ i = 4 ∨ i = 5 ∨ i = 6 ∨ i = 7 ∨ i = 8 ∨ i = 9 ∨ i = 10 ∨ i = 11 ∨ i = 12 ∨ i = 13 ∨ i = 14 := by omega
   rcases h15 with rfl | rfl | rfl | rfl | rfl | rfl | rfl | rfl | rfl | rfl | rfl | rfl | rfl | rfl | rfl <;> (cases hdi; rfl)
  subst e
  exact str_three hd'
 have key : ∀ (n i : Nat) (cs : List Value), cs.length = 3 * n → (∀ k, k < n → (cs.drop (k * 3)).take 3 = (let x := (stL.drop i).getD k (0, 0, 0); [Value.int .i32 x.1, Value.int .i32 x.2.1, Value.int .i64 x.2.2])) → i + n = 15 →
   cs = ((stL.drop i).map fun x => [Value.int .i32 x.1, Value.int .i32 x.2.1, Value.int .i64 x.2.2]).flatten := by
  intro n
  induction n with
  | zero => intro i cs hc _ hi; obtain rfl : i = 15 := by omega
            rw [List.drop_of_length_le (show stL.length ≤ 15 from Nat.le_refl 15)]; simpa using hc
  | succ n ih =>
   intro i cs hc hk hi
   have h0 := hk 0 (by omega)
   have hlen : i < stL.length := by show i < 15; omega
   rw [List.drop_eq_getElem_cons hlen] at h0 ⊢
   have h2 := ih (i + 1) (cs.drop 3) (by simp [hc]; omega) (fun k hk' => by
    have := hk (k + 1) (by omega)
    rw [List.drop_drop, show 3 + k * 3 = (k + 1) * 3 by omega]
    rw [this, List.drop_eq_getElem_cons hlen]; rfl) (by omega)
   simp only [List.map_cons, List.flatten_cons, ← h2]
   simp only [Nat.zero_mul, List.drop_zero] at h0
   conv => lhs; rw [← List.take_append_drop 3 cs]
   rw [h0]; rfl
 exact key 15 0 _ (by rw [hl]) (fun k hk => he k hk) rfl
open Go.RowKit
def sL (s : ByteArray) : List Int := s.data.toList.map fun b => (b.toNat : Int)
theorem sL_len (s : ByteArray) : (sL s).length = s.size := by simp [sL]
theorem sL_b (s : ByteArray) : ∀ z ∈ sL s, 0 ≤ z ∧ z ≤ 255 := fun z hz => by
 obtain ⟨b, _, rfl⟩ := List.mem_map.1 hz
 have := b.toNat_lt; omega
theorem begN {L : List Int} : begS L = decide (1 ≤ L.length ∧ L.length < szF (L.getD 0 0) ∧ (2 ≤ L.length → okF (L.getD 0 0) (L.getD 1 0) = true) ∧ (3 ≤ L.length → ctF (L.getD 2 0) = true)) := by
 rcases L with _ | ⟨a, _ | ⟨b, _ | ⟨c, _ | ⟨d, t⟩⟩⟩⟩
 · simp [begS]
 · simp [begS]; omega
 · simp [begS]
   by_cases h : okF a b = true <;> simp [h] ; omega
 · simp [begS]
   by_cases h : okF a b = true <;> by_cases h' : ctF c = true <;> simp [h, h'] ; omega
 · simp [begS]
   intro h; rcases szF_le a with e | e | e | e | e <;> omega
theorem first_sz (x : Nat) (h : x < 256) : (Lib.firstT x = 240 ∧ szF x = 1) ∨ (Lib.firstT x = 241 ∧ szF x = 0) ∨
  (∃ X, Lib.firstT x = X ∧ 2 ≤ X ∧ X < 240 ∧ X % 8 = szF x ∧ 2 ≤ szF x ∧ szF x ≤ 4 ∧ (Lib.accLo (X / 16) : Int) = loF x ∧ (Lib.accHi (X / 16) : Int) = hiF x ∧ X / 16 < 5) := by
 have key : ∀ y : Fin 256, (Lib.firstT y.val = 240 ∧ szF y.val = 1) ∨ (Lib.firstT y.val = 241 ∧ szF y.val = 0) ∨
   (2 ≤ Lib.firstT y.val ∧ Lib.firstT y.val < 240 ∧ Lib.firstT y.val % 8 = szF y.val ∧ 2 ≤ szF y.val ∧ szF y.val ≤ 4 ∧ (Lib.accLo (Lib.firstT y.val / 16) : Int) = loF y.val ∧ (Lib.accHi (Lib.firstT y.val / 16) : Int) = hiF y.val ∧ Lib.firstT y.val / 16 < 5) := by decide +kernel
 rcases key ⟨x, h⟩ with h | h | h
 · exact .inl h
 · exact .inr (.inl h)
 · exact .inr (.inr ⟨_, rfl, h⟩)
open Go.RowKit
def iOf : Value → Int
 | .int _ x => x
 | _ => 0
open Go.RowKit
def inSt (r : Int) : List (Int × Int × Int) → Int
 | [] => 1
 | x :: l => if x.1 ≤ r ∧ r ≤ x.2.1 then x.2.2 else inSt r l
def widthS (r : Int) : Int := if mayS r = true then inSt r stL else 0
theorem valid_may (r : Int) : Lib.validRune r = mayS r := by
 unfold Lib.validRune mayS
 rw [Bool.eq_iff_iff]
 simp
 omega
theorem idx_st (k : Nat) (hk : k < 15) (w : World) : (Instr.index 149 (.agg stCells.toArray) (.int .i64 (k : Int))).run Tryd.prog w =
  .ok (.agg #[.int .i32 (stL.getD k (0, 0, 0)).1, .int .i32 (stL.getD k (0, 0, 0)).2.1, .int .i64 (stL.getD k (0, 0, 0)).2.2]) w := by
 have h15 : k = 0 ∨ k = 1 ∨ k = 2 ∨ k = 3 ∨ k = 4 ∨ k = 5 ∨ k = 6 ∨ k = 7 ∨ k = 8 ∨ k = 9 ∨ k = 10 ∨ k = 11 ∨ k = 12 ∨ k = 13 ∨ k = 14 := by omega
 rcases h15 with rfl | rfl | rfl | rfl | rfl | rfl | rfl | rfl | rfl | rfl | rfl | rfl | rfl | rfl | rfl <;> (show _ = _; kernel_rfl)
theorem infoSt : (Tryd.prog.info? 149).map (·.size) = some stCells.toArray.size := by kernel_rfl
set_option maxHeartbeats 1600000 in
theorem width_any {w : World} (r : Int) (hT : Tabs w) :
  Calls Tryd.prog 74 #[.int .i32 r] w fun e w' => e = .returned (.int .i64 (widthS r)) ∧ Below w.heap.size w w' := by
 have H := Lib.hid (And.intro hT (valid_may r))
 clear hT
 cases hm : mayS r
 · have HV := Lib.hid (H.out.2.trans hm)
   go_enter Tryd.func74, Tryd.ntmps74
   go_wp2_with fail
   refine (Tryd.utf8_ValidRune r w).mono ?_
   rintro e w1 ⟨rfl, rfl⟩
   rw [HV.out]
   go_wp2_with fail
   go_ret
   exact ⟨by simp [widthS, hm], Below.refl _ _⟩
 · have HV := Lib.hid (H.out.2.trans hm)
   obtain ⟨t, fr, hst⟩ := H.out.1.st
   have HS := Lib.hid hst
   clear hst
   obtain ⟨ANS, hA⟩ : ∃ ANS, inSt r stL = ANS := ⟨_, rfl⟩
   have HA := Lib.hid hA
   clear hA
   go_enter Tryd.func74, Tryd.ntmps74
   go_wp2_with fail
   refine (Tryd.utf8_ValidRune r w).mono ?_
   rintro e w1 ⟨rfl, rfl⟩
   rw [HV.out]
   go_wp2_with (refine wpList_load_row rfl 149 (.global 0) rfl 0 rfl t stCells.toArray fr _ HS.out Tryd.underlying149 rfl infoSt ?_)
   generalize hcs : stCells.toArray = CS
   go_loopw [9] (fun i wr => ∃ k : Nat, k ≤ 15 ∧ i = .int .i64 k ∧ inSt r (stL.drop k) = ANS ∧ Below w1.heap.size w1 wr) (fun i _ => 15 - (iOf i).toNat)
   case atStart => exact ⟨0, by omega, rfl, HA.out, Below.refl _ _⟩
   case round =>
    obtain ⟨k, hk, rfl, hst, hbw⟩ := hrel
    have HW := Lib.hid (And.intro hst hbw)
    clear hst hbw
    by_cases hlt : k < 15
    · have hkl : (k : Int) < 15 := by omega
      obtain ⟨lo, hi, co, he⟩ : ∃ lo hi co, stL.getD k (0, 0, 0) = (lo, hi, co) := ⟨_, _, _, rfl⟩
      have hidx := idx_st k hlt
      rw [he, hcs] at hidx
      have hd : stL.drop k = (lo, hi, co) :: stL.drop (k + 1) := by
       have hl : k < stL.length := hlt
       rw [List.drop_eq_getElem_cons hl, ← he]; simp [List.getD, List.getElem?_eq_getElem hl]
      have HD := Lib.hid hd
      clear hd he
      by_cases h1 : lo ≤ r
      · have h1' : decide (lo ≤ r) = true := by simpa using h1
        by_cases h2 : r ≤ hi
        · have h2' : decide (r ≤ hi) = true := by simpa using h2
          go_wp2_with fail
          go_ret
          have := HW.out.1
          rw [HD.out] at this
          simp only [inSt, h1, h2, and_self, if_true] at this
          exact ⟨by simp [widthS, hm, HA.out, this], HW.out.2.alloc HW.out.2.size _⟩
        · have h2' : decide (r ≤ hi) = false := by simpa using h2
          go_wp2_with fail
          go_roundw
          case rel =>
           have := HW.out.1
           rw [HD.out] at this
           simp only [inSt, h2, and_false, if_false] at this
           exact ⟨k + 1, by omega, by go_num, this, HW.out.2.alloc HW.out.2.size _⟩
          case measure => simp [iOf]; omega
      · have h1' : decide (lo ≤ r) = false := by simpa using h1
        go_wp2_with fail
        go_roundw
        case rel =>
         have := HW.out.1
         rw [HD.out] at this
         simp only [inSt, h1, false_and, if_false] at this
         exact ⟨k + 1, by omega, by go_num, this, HW.out.2.alloc HW.out.2.size _⟩
        case measure => simp [iOf]; omega
    · obtain rfl : k = 15 := by omega
      go_wp2_with fail
      go_ret
      have := HW.out.1
      exact ⟨by simp only [widthS, hm, if_true, HA.out, ← this]; rfl, HW.out.2⟩
open Go.RowKit
theorem retI {k : IntKind} {a b : Int} (h : a = b) : Ending.returned (.int k a) = .returned (.int k b) := by rw [h]
theorem err_any {base : Nat} {w : World} {r : Nat} {A : Option Addr} {n c : Nat} {zs : List Int} {e : Int} (h : Rd 96 base w r A n c zs e) :
  Calls Tryd.prog 50 #[.pointer (some ⟨r, 0, none⟩)] w fun e' w' => e' = .returned (.int .i64 e) ∧ w = w' := by
 have h1 := h.cell1
 clear h
 go_enter Tryd.func50, Tryd.ntmps50
 go_wp2
 go_ret
 exact ⟨rfl, rfl⟩
theorem left_any {base : Nat} {w : World} {r : Nat} {A : Option Addr} {n c : Nat} {zs : List Int} {e : Int} (h : Rd 96 base w r A n c zs e) :
  Calls Tryd.prog 86 #[.pointer (some ⟨r, 0, none⟩)] w fun e' w' => e' = .returned (.int .i64 n) ∧ w = w' := by
 have h1 := h.cell0
 clear h
 go_enter Tryd.func86, Tryd.ntmps86
 go_wp2
 go_ret
 exact ⟨rfl, rfl⟩
theorem reads_any {base : Nat} {w : World} {r : Nat} {A : Option Addr} {n c : Nat} {zs : List Int} {e : Int} (h : Rd 96 base w r A n c zs e) :
  Calls Tryd.prog 83 #[.pointer (some ⟨r, 0, none⟩)] w fun e' w' => e' = .returned (.bool (e == 0)) ∧ w = w' := by
 go_enter Tryd.func83, Tryd.ntmps83
 go_wp2_with (go_at_call 50; refine (err_any h).mono ?_; rintro e w' ⟨rfl, rfl⟩)
 go_ret
 exact ⟨rfl, rfl⟩
theorem sizeMay_any (n : Int) (w : World) : Calls Tryd.prog 84 #[.int .i64 n] w fun e w' => e = .returned (.bool (decide (1 ≤ n ∧ n ≤ 8))) ∧ w = w' := by
 by_cases h1 : 1 ≤ n
 · by_cases h2 : n ≤ 8
   · go_enter Tryd.func84, Tryd.ntmps84
     go_wp2
     go_ret
     exact ⟨by simp [h1, h2], rfl⟩
   · go_enter Tryd.func84, Tryd.ntmps84
     go_wp2
     go_ret
     exact ⟨by simp [h2], rfl⟩
 · go_enter Tryd.func84, Tryd.ntmps84
   go_wp2
   go_ret
   exact ⟨by simp; omega, rfl⟩
def endE (e : Int) (n : Nat) : Int := if e = 0 then (if n = 0 then 0 else 6) else e
theorem end_any {base : Nat} {w : World} {r : Nat} {A : Option Addr} {n c : Nat} {zs : List Int} {e : Int} (h : Rd 96 base w r A n c zs e) :
  Calls Tryd.prog 54 #[.pointer (some ⟨r, 0, none⟩)] w fun e' w' => e' = .returned (.int .i64 (endE e n)) ∧ w = w' := by
 by_cases h0 : e = 0
 · subst h0
   by_cases hn : 0 < n
   · go_enter Tryd.func54, Tryd.ntmps54
     go_wp2_with (first | (go_at_call 50; refine (err_any h).mono ?_; rintro e w' ⟨rfl, rfl⟩) | (go_at_call 86; refine (left_any h).mono ?_; rintro e w' ⟨rfl, rfl⟩))
     go_ret
     exact ⟨retI (by unfold endE; rw [if_pos rfl, if_neg (by omega)]), rfl⟩
   · go_enter Tryd.func54, Tryd.ntmps54
     go_wp2_with (first | (go_at_call 50; refine (err_any h).mono ?_; rintro e w' ⟨rfl, rfl⟩) | (go_at_call 86; refine (left_any h).mono ?_; rintro e w' ⟨rfl, rfl⟩))
     go_ret
     exact ⟨retI (by unfold endE; rw [if_pos rfl, if_pos (by omega)]), rfl⟩
 · have H : (e == 0) = false := by simpa using h0
   have H' : (e != 0) = true := by simpa using h0
   have HH := Lib.hid h0
   clear h0
   go_enter Tryd.func54, Tryd.ntmps54
   go_wp2_with (first | (go_at_call 50; refine (err_any h).mono ?_; rintro e w' ⟨rfl, rfl⟩))
   go_ret
   exact ⟨retI (by unfold endE; rw [if_neg HH.out]), rfl⟩
theorem info8 : (Tryd.prog.info? 5).map (fun i => (i.zero, i.size, i.bytes)) = some (some (.int .u8 0), 1, 1) := by kernel_rfl
theorem clone_any {w : World} {A : Option Addr} {n c : Nat} {zs : List Int} (h : Sb w A n zs) (hn : n ≤ 140737488355328) :
  Calls Tryd.prog 55 #[.slice A n c] w fun e w' => ∃ v, e = .returned v ∧ Made 5 zs w v w' := by
 have hrun := fun (w : World) => Lib.run_eql_slice_nil (P := Tryd.prog) w 29 5 A n c 0 0 Tryd.underlying29
 cases A with
 | none =>
  have hz : n = 0 := by
   rcases Nat.eq_zero_or_pos n with h0 | h0
   · exact h0
   · obtain ⟨ad, h1⟩ := h.addr h0
     cases h1
  subst hz
  obtain rfl : zs = [] := List.eq_nil_of_length_eq_zero h.len
  go_enter Tryd.func55, Tryd.ntmps55
  go_wp2
  go_ret
  exact ⟨_, rfl, Made.nil _ _⟩
 | some ad =>
  have hl := h.len
  go_enter Tryd.func55, Tryd.ntmps55
  go_wp2_with (at_builtin; refine wpList_app _ rfl _ _ 29 rfl w.heap.size 5 Tryd.underlying29 info8 (.slice (some ⟨w.heap.size, 0, none⟩) 0 0) 0 [] rfl (World.ownsRow_lit w #[] 0 (Nat.le_refl _) (by unfold maxLen; omega) rfl) (some ad) n c zs rfl (h.alloc _) (by omega) (by simp) ?_; intro A' c' w1 hown hg; simp only [Nat.zero_add, List.nil_append] at hown)
  have H := Made.mk (w := w) hown (((Below.refl _ _).alloc (Nat.le_refl _) _).grown hg (by simp) (by intro k hk; have : w.heap.size = k := (by simpa [Value.ownBlock] using hk); omega))
  clear hown hg
  go_ret
  exact ⟨_, rfl, H⟩
theorem size8 : (Tryd.prog.info? 5).map (·.size) = some 1 := by kernel_rfl
structure Pn where
 fg : Int
 bg : Int
 st : Int
 lk : Int
structure Ce where
 r : Int
 wd : Int
 p : Pn
theorem Pn.ext' {a b : Pn} (h1 : a.fg = b.fg) (h2 : a.bg = b.bg) (h3 : a.st = b.st) (h4 : a.lk = b.lk) : a = b := by cases a; cases b; simp_all
theorem Ce.ext' {a b : Ce} (h1 : a.r = b.r) (h2 : a.wd = b.wd) (h3 : a.p = b.p) : a = b := by cases a; cases b; simp_all
instance : DecidableEq Pn := fun a b =>
 if h : a.fg = b.fg ∧ a.bg = b.bg ∧ a.st = b.st ∧ a.lk = b.lk then isTrue (Pn.ext' h.1 h.2.1 h.2.2.1 h.2.2.2) else isFalse fun e => h (by rw [e]; exact ⟨rfl, rfl, rfl, rfl⟩)
instance : DecidableEq Ce := fun a b =>
 if h : a.r = b.r ∧ a.wd = b.wd ∧ a.p = b.p then isTrue (Ce.ext' h.1 h.2.1 h.2.2) else isFalse fun e => h (by rw [e]; exact ⟨rfl, rfl, rfl⟩)
def pn0 : Pn := ⟨0, 0, 0, 0⟩
def ce0 : Ce := ⟨0, 0, pn0⟩
def colMay (c : Int) : Bool := decide (c ≤ 256 ∨ (16777216 ≤ c ∧ c ≤ 33554431))
def penMayS (p : Pn) : Bool := colMay p.fg && colMay p.bg
def cellMay (c : Ce) : Bool := penMayS c.p && ((decide (c.wd = 0) && decide (widthS c.r = 1)) || (decide (c.wd = 1) && decide (widthS c.r = 2)) || (decide (c.wd = 2) && decide (c.r = 0)))
def blankS (p : Pn) : Ce := ⟨32, 0, ⟨0, p.bg, 0, 0⟩⟩
def rightS (c : Ce) : Ce := ⟨0, 2, c.p⟩
def cAt (L : List Ce) (i : Nat) : Ce := L.getD i ce0
def OkAt (L : List Ce) (i : Nat) : Prop :=
 cellMay (cAt L i) = true ∧ ((cAt L i).wd = 1 → i + 1 < L.length ∧ cAt L (i + 1) = rightS (cAt L i)) ∧ ((cAt L i).wd = 2 → 0 < i ∧ (cAt L (i - 1)).wd = 1)
structure RowOk (L : List Ce) : Prop where
 pos : 1 ≤ L.length
 le : L.length ≤ 80
 at_ : ∀ i, i < L.length → OkAt L i
noncomputable def rowMay (L : List Ce) : Bool := @decide (RowOk L) (Classical.propDecidable _)
theorem rowMay_iff (L : List Ce) : rowMay L = true ↔ RowOk L := by unfold rowMay; exact @decide_eq_true_iff _ (Classical.propDecidable _)
theorem rowMay_not (L : List Ce) : rowMay L = false ↔ ¬ RowOk L := by rw [← rowMay_iff]; simp
theorem cAt_lt {L : List Ce} {i : Nat} (h : i < L.length) : cAt L i = L[i] := by simp [cAt, List.getD, List.getElem?_eq_getElem h]
theorem cAt_mem {L : List Ce} {i : Nat} (h : i < L.length) : cAt L i ∈ L := by rw [cAt_lt h]; exact List.getElem_mem h
theorem row_ext {L M : List Ce} (hl : L.length = M.length) (h : ∀ i, i < L.length → cAt L i = cAt M i) : L = M := by
 apply List.ext_getElem hl
 intro i h1 h2
 rw [← cAt_lt h1, ← cAt_lt h2, h i h1]
theorem cAt_set (L : List Ce) (k : Nat) (c : Ce) (i : Nat) : cAt (L.set k c) i = if i = k ∧ i < L.length then c else cAt L i := by
 unfold cAt
 simp only [List.getD, List.getElem?_set]
 by_cases h : k = i
 · subst h
   by_cases h2 : k < L.length
   · simp [h2]
   · simp [h2]
 · simp [h, Ne.symm h]
theorem cAt_append (L M : List Ce) (i : Nat) : cAt (L ++ M) i = if i < L.length then cAt L i else cAt M (i - L.length) := by
 unfold cAt
 simp only [List.getD]
 by_cases h : i < L.length
 · rw [List.getElem?_append_left h, if_pos h]
 · rw [List.getElem?_append_right (by omega), if_neg h]
theorem cAt_take (L : List Ce) (k i : Nat) : cAt (L.take k) i = if i < k then cAt L i else ce0 := by
 unfold cAt
 simp only [List.getD, List.getElem?_take]
 split <;> simp
theorem cAt_drop (L : List Ce) (k i : Nat) : cAt (L.drop k) i = cAt L (k + i) := by
 unfold cAt
 simp [List.getD]
theorem cAt_replicate (n : Nat) (c : Ce) (i : Nat) : cAt (List.replicate n c) i = if i < n then c else ce0 := by
 unfold cAt
 simp only [List.getD, List.getElem?_replicate]
 split <;> simp
def overS (L : List Ce) (x : Nat) (M : List Ce) : List Ce := L.take x ++ (M ++ L.drop (x + M.length))
theorem overS_length {L : List Ce} {x : Nat} {M : List Ce} (h : x + M.length ≤ L.length) : (overS L x M).length = L.length := by simp [overS]; omega
theorem cAt_overS {L : List Ce} {x : Nat} {M : List Ce} (h : x + M.length ≤ L.length) (i : Nat) : cAt (overS L x M) i = if x ≤ i ∧ i < x + M.length then cAt M (i - x) else cAt L i := by
 unfold overS
 rw [cAt_append, cAt_append, List.length_take, cAt_take, cAt_drop, Nat.min_eq_left (by omega)]
 by_cases h1 : i < x
 · simp only [h1, if_true]
   rw [if_neg (by omega)]
 · rw [if_neg h1]
   by_cases h2 : i < x + M.length
   · rw [if_pos (by omega), if_pos ⟨by omega, h2⟩]
   · rw [if_neg (by omega), if_neg (by omega)]
     congr 1
     omega
abbrev Pc := Ce × Int
end Go.Proofs.YtikhknnhmnopbaaDoor
