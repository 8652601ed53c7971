/-
  Part 2 of what the laws of emul want: UtfEnc, UtfShelf, UtfTab, UtfFull.
-/
import Derived.Shelf.Small.Utf8
import Derived.Shelf.Utf8.AppendRune
import Derived.Shelf.Utf8.AppendRunePlain
import Derived.Shelf.Unicode.DecodeSlow
import Derived.Shelf.Unicode.DecodeAny
import Derived.Test.YtlcipgdnpilkfaaGreatDoorProg
import Derived.Lib.LaidU8
import Derived.Lib.LaidTab
import Derived.LaidMore
import Derived.Lay
import Derived.Stop.Joined
import Derived.Handed
import Derived.WalkKit
import Derived.RegionTactic
import Derived.Deep.Draws
import Derived.Deep.QuietTactic
import Derived.Lib.Hide
import Derived.Test.YtlcipgdnpilkfaaGreatDoorPa01
namespace Go.Proofs.YtlcipgdnpilkfaaGreatDoor
def mayS (r : Int) : Bool := decide (0 ≤ r ∧ r ≤ 55295 ∨ 57344 ≤ r ∧ r ≤ 1114111)
def fixS (r : Int) : Int := if mayS r = true then r else 65533
def encS (r : Int) : List Int :=
 if mayS r = true then
  (if r < 128 then [r] else if r < 2048 then [192 + r / 64, 128 + r % 64] else if r < 65536 then [224 + r / 4096, 128 + r / 64 % 64, 128 + r % 64]
   else [240 + r / 262144, 128 + r / 4096 % 64, 128 + r / 64 % 64, 128 + r % 64])
 else [239, 191, 189]
theorem mayS_iff {r : Int} : mayS r = true ↔ 0 ≤ r ∧ r ≤ 55295 ∨ 57344 ≤ r ∧ r ≤ 1114111 := by simp [mayS]
theorem may_fix (r : Int) : mayS (fixS r) = true := by
 unfold fixS; split
 · assumption
 · decide
theorem encS_fix (r : Int) : encS (fixS r) = encS r := by
 unfold fixS; split
 · rfl
 · rename_i h; simp only [encS, if_neg h]; decide
theorem encS_len (r : Int) : 1 ≤ (encS r).length ∧ (encS r).length ≤ 4 := by
 unfold encS; repeat' split
 all_goals simp
theorem enc1 {r : Int} (h0 : 0 ≤ r) (h : r < 128) : encS r = [r] := by
 have : mayS r = true := mayS_iff.2 (by omega)
 simp [encS, this, h]
theorem enc2 {r : Int} (h0 : 128 ≤ r) (h : r < 2048) : encS r = [192 + r / 64, 128 + r % 64] := by
 have : mayS r = true := mayS_iff.2 (by omega)
 have h1 : ¬ r < 128 := by omega
 simp [encS, this, h, h1]
theorem enc3 {r : Int} (h : 2048 ≤ r ∧ r < 55296 ∨ 57343 < r ∧ r < 65536) : encS r = [224 + r / 4096, 128 + r / 64 % 64, 128 + r % 64] := by
 have : mayS r = true := mayS_iff.2 (by omega)
 have h1 : ¬ r < 128 := by omega
 have h2 : ¬ r < 2048 := by omega
 have h3 : r < 65536 := by omega
 simp [encS, this, h1, h2, h3]
theorem enc4 {r : Int} (h : 65536 ≤ r ∧ r ≤ 1114111) : encS r = [240 + r / 262144, 128 + r / 4096 % 64, 128 + r / 64 % 64, 128 + r % 64] := by
 have : mayS r = true := mayS_iff.2 (by omega)
 have h1 : ¬ r < 128 := by omega
 have h2 : ¬ r < 2048 := by omega
 have h3 : ¬ r < 65536 := by omega
 simp [encS, this, h1, h2, h3]
theorem enc_bad {r : Int} (h : mayS r = false) : encS r = [239, 191, 189] := by simp [encS, h]
theorem may_cases {r : Int} (h : mayS r = true) : (0 ≤ r ∧ r < 128) ∨ (128 ≤ r ∧ r < 2048) ∨ (2048 ≤ r ∧ r < 55296 ∨ 57343 < r ∧ r < 65536) ∨ (65536 ≤ r ∧ r ≤ 1114111) := by
 have := mayS_iff.1 h; omega
theorem okF_2 {a x : Int} (ha : szF a = 2) : okF a x = ctF x := by
 have := szF2.1 ha
 unfold okF ctF loF hiF
 rw [if_neg (by omega), if_neg (by omega), if_neg (by omega), if_neg (by omega)]
set_option maxHeartbeats 1600000 in
theorem head_enc {r : Int} (h : mayS r = true) (t : List Int) : headS (encS r ++ t) = some (r, (encS r).length) := by
 rcases may_cases h with h1 | h1 | h1 | h1
 · rw [enc1 h1.1 h1.2]
   have ha : szF r = 1 := szF1.2 h1.2
   rcases t with _ | ⟨b, _ | ⟨c, _ | ⟨d, t⟩⟩⟩ <;> simp [headS, ha]
 · rw [enc2 h1.1 h1.2]
   have ha : szF (192 + r / 64) = 2 := szF2.2 (by omega)
   have hb : okF (192 + r / 64) (128 + r % 64) = true := by rw [okF_2 ha, ctF_iff]; omega
   have hv : v2 (192 + r / 64) (128 + r % 64) = r := by unfold v2; omega
   rcases t with _ | ⟨c, _ | ⟨d, t⟩⟩ <;> simp [headS, ha, hb, hv]
 · rw [enc3 h1]
   have ha : szF (224 + r / 4096) = 3 := szF3.2 (by omega)
   have hb : okF (224 + r / 4096) (128 + r / 64 % 64) = true := by
    rw [okF_iff]; unfold loF hiF
    repeat' split
    all_goals omega
   have hc : ctF (128 + r % 64) = true := by rw [ctF_iff]; omega
   have hv : v3 (224 + r / 4096) (128 + r / 64 % 64) (128 + r % 64) = r := by unfold v3; omega
   rcases t with _ | ⟨d, t⟩ <;> simp [headS, ha, hb, hc, hv]
 · rw [enc4 h1]
   have ha : szF (240 + r / 262144) = 4 := szF4.2 (by omega)
   have hb : okF (240 + r / 262144) (128 + r / 4096 % 64) = true := by
    rw [okF_iff]; unfold loF hiF
    repeat' split
    all_goals omega
   have hc : ctF (128 + r / 64 % 64) = true := by rw [ctF_iff]; omega
   have hd : ctF (128 + r % 64) = true := by rw [ctF_iff]; omega
   have hv : v4 (240 + r / 262144) (128 + r / 4096 % 64) (128 + r / 64 % 64) (128 + r % 64) = r := by unfold v4; omega
   simp [headS, ha, hb, hc, hd, hv]
set_option maxHeartbeats 1600000 in
theorem enc_whole {L : List Int} {r : Int} (hb : ∀ z ∈ L, 0 ≤ z ∧ z ≤ 255) (h : wholeS L = some r) : encS r = L ∧ mayS r = true := by
 rcases L with _ | ⟨a, _ | ⟨b, _ | ⟨c, _ | ⟨d, _ | ⟨e, t⟩⟩⟩⟩⟩ <;> simp only [wholeS] at h
 · cases h
 · split at h
   · rename_i hc; cases h
     have h0 := hb r (by simp)
     have h1 := szF1.1 hc
     exact ⟨enc1 h0.1 h1, mayS_iff.2 (by omega)⟩
   · cases h
 · split at h
   · rename_i hc; cases h
     have h1 := szF2.1 hc.1
     have h2 := hc.2
     rw [okF_2 hc.1, ctF_iff] at h2
     have e : 128 ≤ v2 a b ∧ v2 a b < 2048 := by unfold v2; omega
     refine ⟨?_, mayS_iff.2 (by omega)⟩
     rw [enc2 e.1 e.2]
     unfold v2
     simp only [List.cons.injEq, and_true]
     omega
   · cases h
 · split at h
   · rename_i hc; cases h
     obtain ⟨hc1, hc2, hc3⟩ := hc
     have h1 := szF3.1 hc1
     have h2 := okF_iff.1 hc2
     have h3 := ctF_iff.1 hc3
     have e : 2048 ≤ v3 a b c ∧ v3 a b c < 55296 ∨ 57343 < v3 a b c ∧ v3 a b c < 65536 := by
      unfold loF hiF at h2; unfold v3
      repeat' split at h2
      all_goals omega
     refine ⟨?_, mayS_iff.2 (by omega)⟩
     rw [enc3 e]
     have h4 := okct hc2
     unfold v3
     simp only [List.cons.injEq, and_true]
     omega
   · cases h
 · split at h
   · rename_i hc; cases h
     obtain ⟨hc1, hc2, hc3, hc4⟩ := hc
     have h1 := szF4.1 hc1
     have h2 := okF_iff.1 hc2
     have h3 := ctF_iff.1 hc3
     have h3' := ctF_iff.1 hc4
     have e : 65536 ≤ v4 a b c d ∧ v4 a b c d ≤ 1114111 := by
      unfold loF hiF at h2; unfold v4
      repeat' split at h2
      all_goals omega
     refine ⟨?_, mayS_iff.2 (by omega)⟩
     rw [enc4 e]
     have h4 := okct hc2
     unfold v4
     simp only [List.cons.injEq, and_true]
     omega
   · cases h
 · cases h
def encAll (l : List Int) : List Int := (l.map encS).flatten
theorem encAll_cons (r : Int) (l : List Int) : encAll (r :: l) = encS r ++ encAll l := by simp [encAll]
theorem encAll_snoc (r : Int) (l : List Int) : encAll (l ++ [r]) = encAll l ++ encS r := by simp [encAll]
theorem fold_encAll : ∀ l : List Int, foldS [] (encAll l) = l.map fixS
 | [] => rfl
 | r :: l => by
  have h := head_enc (may_fix r) (encAll l)
  rw [encS_fix] at h
  rw [encAll_cons, (fold_head h).1, List.drop_left, fold_encAll l]
  rfl
def validS (L : List Int) : Bool := decide (encAll (foldS [] L) = L)
theorem head_split {L : List Int} {r : Int} {n : Nat} (hb : ∀ z ∈ L, 0 ≤ z ∧ z ≤ 255) (h : headS L = some (r, n)) : wholeS (L.take n) = some r ∧ L = encS r ++ L.drop n ∧ mayS r = true := by
 obtain ⟨h1, h4, hn⟩ := head_len h
 have h2 := head_take h1 h4 hn
 rw [h] at h2
 simp at h2
 obtain ⟨e, hm⟩ := enc_whole (fun z hz => hb z (List.mem_of_mem_take hz)) h2
 exact ⟨h2, by rw [e, List.take_append_drop], hm⟩
theorem valid_head {L : List Int} {r : Int} {n : Nat} (hb : ∀ z ∈ L, 0 ≤ z ∧ z ≤ 255) (h : headS L = some (r, n)) : validS L = validS (L.drop n) := by
 obtain ⟨_, e, _⟩ := head_split hb h
 unfold validS
 rw [(fold_head h).1, encAll_cons]
 congr 1
 apply propext
 constructor
 · intro he
   rw [e, List.append_cancel_left_eq] at he
   have : (encS r ++ List.drop n L).drop n = L.drop n := by rw [← e]
   rw [this] at he
   exact he
 · intro he
   rw [he, ← e]
theorem valid_none {L : List Int} (hne : L ≠ []) (h : headS L = none) : validS L = false := by
 unfold validS
 rw [(fold_none hne h).1, encAll_cons]
 simp only [decide_eq_false_iff_not]
 intro he
 have h2 := head_enc (r := 65533) (by decide) (encAll (foldS [] (L.drop (max 1 (begLen L)))))
 rw [he, h] at h2
 cases h2
end Go.Proofs.YtlcipgdnpilkfaaGreatDoor
namespace Go.Proofs
open Go.Shelf
def Tryz.lays119_ren : Go.Shelf.Ren := ⟨fun | 119 => 156 | n => n, fun | 21 => 21 | 4 => 4 | n => n, fun | n => n⟩
theorem Tryz.lays119 : Go.Proofs.Lays.n119 Tryz.prog Tryz.lays119_ren := {
 mixed := by kernel_rfl
 f119 := Tryz.func156.trans (congrArg some (by kernel_rfl))
 t4 := Tryz.underlying4
 a4 := Tryz.isAgg4
 z4 := Tryz.sizeOf4
 v4 := Tryz.zeroValue4
 t21 := Tryz.underlying21
 a21 := Tryz.isAgg21
 z21 := Tryz.sizeOf21
 v21 := Tryz.zeroValue21 }
theorem Tryz.utf8_ValidRune (r : Int) (w : World) :
  Calls Tryz.prog 156 #[.int .i32 r] w fun e w' => e = .returned (.bool (Lib.validRune r)) ∧ w' = w := Any.utf8_ValidRune Tryz.lays119 r w
open Go.RowKit in
def Tryz.lays260_ren : Go.Shelf.Ren := ⟨fun | 260 => 249 | n => n, fun | 9 => 9 | 21 => 21 | 3 => 3 | 4 => 4 | 5 => 5 | 119 => 229 | 0 => 0 | 46 => 217 | 139 => 232 | 138 => 231 | n => n, fun | 3 => 2 | 4 => 3 | n => n⟩
theorem Tryz.lays260 : Go.Proofs.Lays.n260 Tryz.prog Tryz.lays260_ren := {
 mixed := by kernel_rfl
 f260 := Tryz.func249.trans (congrArg some (by kernel_rfl))
 t0 := Tryz.underlying0
 a0 := Tryz.isAgg0
 z0 := Tryz.sizeOf0
 v0 := Tryz.zeroValue0
 t3 := Tryz.underlying3
 a3 := Tryz.isAgg3
 z3 := Tryz.sizeOf3
 v3 := Tryz.zeroValue3
 t4 := Tryz.underlying4
 a4 := Tryz.isAgg4
 z4 := Tryz.sizeOf4
 v4 := Tryz.zeroValue4
 t5 := Tryz.underlying5
 a5 := Tryz.isAgg5
 z5 := Tryz.sizeOf5
 v5 := Tryz.zeroValue5
 t9 := Tryz.underlying9
 a9 := Tryz.isAgg9
 z9 := Tryz.sizeOf9
 v9 := Tryz.zeroValue9
 t21 := Tryz.underlying21
 a21 := Tryz.isAgg21
 z21 := Tryz.sizeOf21
 v21 := Tryz.zeroValue21
 t46 := Tryz.underlying217
 a46 := Tryz.isAgg217
 z46 := Tryz.sizeOf217
 v46 := Tryz.zeroValue217
 t119 := Tryz.underlying229
 a119 := Tryz.isAgg229
 z119 := Tryz.sizeOf229
 t138 := Tryz.underlying231
 a138 := Tryz.isAgg231
 z138 := Tryz.sizeOf231
 v138 := Tryz.zeroValue231
 t139 := Tryz.underlying232
 a139 := Tryz.isAgg232
 z139 := Tryz.sizeOf232
 v139 := Tryz.zeroValue232
 g3 := by kernel_rfl
 g4 := by kernel_rfl }
def Tryz.lays197_ren : Go.Shelf.Ren := ⟨fun | 197 => 213 | 260 => 249 | n => n, fun | 9 => 9 | 21 => 21 | 3 => 3 | 4 => 4 | 5 => 5 | 105 => 199 | 119 => 229 | 0 => 0 | 46 => 217 | 139 => 232 | 138 => 231 | n => n, fun | 3 => 2 | 4 => 3 | n => n⟩
theorem Tryz.lays197 : Go.Proofs.Lays.n197 Tryz.prog Tryz.lays197_ren := {
 mixed := by kernel_rfl
 f197 := Tryz.func213.trans (congrArg some (by kernel_rfl))
 f260 := Tryz.func249.trans (congrArg some (by kernel_rfl))
 t0 := Tryz.underlying0
 a0 := Tryz.isAgg0
 z0 := Tryz.sizeOf0
 v0 := Tryz.zeroValue0
 t3 := Tryz.underlying3
 a3 := Tryz.isAgg3
 z3 := Tryz.sizeOf3
 v3 := Tryz.zeroValue3
 t4 := Tryz.underlying4
 a4 := Tryz.isAgg4
 z4 := Tryz.sizeOf4
 v4 := Tryz.zeroValue4
 t5 := Tryz.underlying5
 a5 := Tryz.isAgg5
 z5 := Tryz.sizeOf5
 v5 := Tryz.zeroValue5
 t9 := Tryz.underlying9
 a9 := Tryz.isAgg9
 z9 := Tryz.sizeOf9
 v9 := Tryz.zeroValue9
 t21 := Tryz.underlying21
 a21 := Tryz.isAgg21
 z21 := Tryz.sizeOf21
 v21 := Tryz.zeroValue21
 t46 := Tryz.underlying217
 a46 := Tryz.isAgg217
 z46 := Tryz.sizeOf217
 v46 := Tryz.zeroValue217
 t105 := Tryz.underlying199
 a105 := Tryz.isAgg199
 z105 := Tryz.sizeOf199
 v105 := Tryz.zeroValue199
 t119 := Tryz.underlying229
 a119 := Tryz.isAgg229
 z119 := Tryz.sizeOf229
 t138 := Tryz.underlying231
 a138 := Tryz.isAgg231
 z138 := Tryz.sizeOf231
 v138 := Tryz.zeroValue231
 t139 := Tryz.underlying232
 a139 := Tryz.isAgg232
 z139 := Tryz.sizeOf232
 v139 := Tryz.zeroValue232
 g3 := by kernel_rfl
 g4 := by kernel_rfl }
open Go.RowKit Go.Lib in
theorem Tryz.utf8_DecodeRuneInString (s : ByteArray) (w : World) (hT : Lib.Utf8Tabs 2 3 w) :
  Calls Tryz.prog 213 #[.string s] w fun e w' => e = .returned (.tuple #[.int .i32 (Lib.decodeGo s).1, .int .i64 (Lib.decodeGo s).2]) ∧ Below w.heap.size w w' := Any.utf8_DecodeRuneInString Tryz.lays197 s w hT
end Go.Proofs
namespace Go.Proofs.YtlcipgdnpilkfaaGreatDoor
open Go.ChangeShapes Go.WideShapes Go.ChangeAt Go.RowKit
def stL : List (Int × Int × Int) := [(0, 31, 0), (127, 159, 0), (768, 879, 0), (8203, 8207, 0), (65024, 65039, 0), (4352, 4447, 2), (11904, 12350, 2), (12353, 42191, 2), (44032, 55203, 2), (63744, 64255, 2), (65072, 65135, 2), (65280, 65376, 2), (65504, 65510, 2), (127744, 128591, 2), (131072, 262141, 2)]
def stCells : List Value := (stL.map fun x => [Value.int .i32 x.1, Value.int .i32 x.2.1, Value.int .i64 x.2.2]).flatten
structure Tabs (w : World) : Prop where
 u8 : Lib.Utf8Tabs 2 3 w
 st : ∃ t fr, w.heap[0]? = some (.cells stCells.toArray t fr)
theorem Tabs.below {w w' : World} (h : Tabs w) {B : Nat} (hb : Below B w w') (hB : w.heap.size ≤ B) : Tabs w' := by
 have hb' : Below w.heap.size w w' := ⟨hb.os, hb.tape, hb.output, hb.size, fun k hk => hb.block k (by omega)⟩
 obtain ⟨t, fr, hs⟩ := h.st
 have hl : 0 < w.heap.size := (Array.getElem?_eq_some_iff.1 hs).1
 exact ⟨Utf8Tabs_below h.u8 hb', t, fr, (hb'.block _ hl).trans hs⟩
abbrev laidL : List (String × DataW Unit) := [("unicode/utf8.acceptRanges", Rows.laid_unicode_utf8_acceptRanges), ("spyglass/utf.stretches", Rows.laid_spyglass_utf_stretches), ("unicode/utf8.first", Rows.laid_unicode_utf8_first)]
theorem u8x : U8Extra Tryz.prog Tryz.lays260_ren where
 n3 := by kernel_rfl
 n4 := by kernel_rfl
 y3 := by kernel_rfl
 y4 := by kernel_rfl
 c5 := by kernel_rfl
 c119 := by kernel_rfl
 c138 := by kernel_rfl
theorem firstEq : Rows.laid_unicode_utf8_first = Lib.firstData := by kernel_rfl
theorem acceptEq : (Rows.laid_unicode_utf8_acceptRanges : DataW Unit) = Lib.acceptData := by kernel_rfl
theorem str_three {H : Type} {enc : TypeId × Value → H} {w : World} {base : Nat} {sp : Nat → Bool} {held : Bool} {fuel : Nat} {cs : List Value} {a b c : Int} {p : List MemPlace}
  (h : DataW.trod enc Tryz.prog w base sp held fuel 174 cs = some (.agg [.lit (.int .i32 a), .lit (.int .i32 b), .lit (.int .i64 c)], p)) : cs = [.int .i32 a, .int .i32 b, .int .i64 c] := by
 have c1 : Tryz.prog.cellsOf 21 = 1 := by kernel_rfl
 have c1' : Tryz.prog.cellsOf 3 = 1 := by kernel_rfl
 have c3 : Tryz.prog.cellsOf 174 = 3 := by kernel_rfl
 obtain ⟨xs, n, rfl, hx, hl, hxl, hall⟩ := DataW.trod_struct Tryz.underlying174 h
 have hxs : xs.map (·.1) = [.lit (.int .i32 a), .lit (.int .i32 b), .lit (.int .i64 c)] := by
  have := congrArg Prod.fst hx
  simpa using this.symm
 have hzl : xs.length = 3 := by have := congrArg List.length hxs; simpa using this
 rw [c3] at hl
 obtain ⟨x0, x1, x2, rfl⟩ : ∃ x0 x1 x2, xs = [x0, x1, x2] := by
  rcases xs with _ | ⟨x0, _ | ⟨x1, _ | ⟨x2, _ | ⟨x3, t⟩⟩⟩⟩ <;> simp at hzl
  exact ⟨x0, x1, x2, rfl⟩
 obtain ⟨v0, v1, v2, rfl⟩ : ∃ v0 v1 v2, cs = [v0, v1, v2] := by
  rcases cs with _ | ⟨x0, _ | ⟨x1, _ | ⟨x2, _ | ⟨x3, t⟩⟩⟩⟩ <;> simp at hl
  exact ⟨x0, x1, x2, rfl⟩
 simp at hxs
 have h0 := hall 0 _ rfl
 have h1 := hall 1 _ rfl
 have h2 := hall 2 _ rfl
 simp [c1] at h0 h1
 simp [c1'] at h2
 obtain ⟨z0, e0, f0, _⟩ := DataW.trod_int Tryz.underlying21 h0
 obtain ⟨z1, e1, f1, _⟩ := DataW.trod_int Tryz.underlying21 h1
 obtain ⟨z2, e2, f2, _⟩ := DataW.trod_int Tryz.underlying3 h2
 simp_all
theorem stretch_cells {w : World} {fuel : Nat} {cs : List Value} {p : List MemPlace}
  (h : DataW.trod (fun _ => ()) Tryz.prog w 0 (fun _ => true) false fuel 175 cs = some (Rows.laid_spyglass_utf_stretches, p)) : cs = stCells := by
 have c45 : Tryz.prog.cellsOf 175 = 45 := by kernel_rfl
 have c3 : Tryz.prog.cellsOf 174 = 3 := by kernel_rfl
 have hl : cs.length = 45 := by
  obtain ⟨xs, m, _, _, hl, _⟩ := DataW.trod_array Tryz.underlying175 h
  rw [hl, c45]
 have he : ∀ i, (hi : i < 15) → (cs.drop (i * 3)).take 3 = (let x := stL.getD i (0, 0, 0); [Value.int .i32 x.1, Value.int .i32 x.2.1, Value.int .i64 x.2.2]) := by
  intro i hi
  obtain ⟨fuel', d, q, hdi, hd'⟩ := Lib.array_elem Tryz.underlying175 h i hi
  rw [c3] at hd'
  have e : d = (let x := stL.getD i (0, 0, 0); DataW.agg [.lit (.int .i32 x.1), .lit (.int .i32 x.2.1), .lit (.int .i64 x.2.2)]) := by
   have h15 : i = 0 ∨ i = 1 ∨ i = 2 ∨ i = 3 ∨ i = 4 ∨ i = 5 ∨ i = 6 ∨ i = 7 ∨ i = 8 ∨ i = 9 ∨ i = 10 ∨ i = 11 ∨ i = 12 ∨ i = 13 ∨ i = 14 := by omega
   rcases h15 with rfl | rfl | rfl | rfl | rfl | rfl | rfl | rfl | rfl | rfl | rfl | rfl | rfl | rfl | rfl <;> (cases hdi; rfl)
  subst e
  exact str_three hd'
 have key : ∀ (n i : Nat) (cs : List Value), cs.length = 3 * n → (∀ k, k < n → (cs.drop (k * 3)).take 3 = (let x := (stL.drop i).getD k (0, 0, 0); [Value.int .i32 x.1, Value.int .i32 x.2.1, Value.int .i64 x.2.2])) → i + n = 15 →
   cs = ((stL.drop i).map fun x => [Value.int .i32 x.1, Value.int .i32 x.2.1, Value.int .i64 x.2.2]).flatten := by
  intro n
  induction n with
  | zero => intro i cs hc _ hi; obtain rfl : i = 15 := by omega
            rw [List.drop_of_length_le (show stL.length ≤ 15 from Nat.le_refl 15)]; simpa using hc
  | succ n ih =>
   intro i cs hc hk hi
   have h0 := hk 0 (by omega)
   have hlen : i < stL.length := by show i < 15; omega
   rw [List.drop_eq_getElem_cons hlen] at h0 ⊢
   have h2 := ih (i + 1) (cs.drop 3) (by simp [hc]; omega) (fun k hk' => by
    have := hk (k + 1) (by omega)
    rw [List.drop_drop, show 3 + k * 3 = (k + 1) * 3 by omega]
    rw [this, List.drop_eq_getElem_cons hlen]; rfl) (by omega)
   simp only [List.map_cons, List.flatten_cons, ← h2]
   simp only [Nat.zero_mul, List.drop_zero] at h0
   conv => lhs; rw [← List.take_append_drop 3 cs]
   rw [h0]; rfl
 exact key 15 0 _ (by rw [hl]) (fun k hk => he k hk) rfl
theorem tabs_of_laid {W : World} (h : laidMetH Tryz.prog laidL W) : Tabs W := by
 rw [MakeChecks.laidMetH_plain _ _ _ (by kernel_rfl)] at h
 have h3 : Lib.VarReads Tryz.prog W "unicode/utf8.first" Lib.firstData := firstEq ▸ Lib.laidMet.reads h (by simp [laidL])
 have h4 : Lib.VarReads Tryz.prog W "unicode/utf8.acceptRanges" Lib.acceptData := acceptEq ▸ Lib.laidMet.reads h (by simp [laidL])
 have h5 : Lib.VarReads Tryz.prog W "spyglass/utf.stretches" Rows.laid_spyglass_utf_stretches := Lib.laidMet.reads h (by simp [laidL])
 refine ⟨utf8Tabs_of_reads Tryz.lays260 u8x h3 h4, ?_⟩
 obtain ⟨g, t, cs, fuel, p, hg, hty, hvar, hd⟩ := h5
 obtain rfl := Option.some.inj ((show Tryz.prog.globalNamed "spyglass/utf.stretches" = some 0 by kernel_rfl).symm.trans hg)
 obtain rfl := Option.some.inj ((show (Tryz.prog.globals[0]?).map (·.type) = some 175 by kernel_rfl).symm.trans hty)
 have hcs : cs.toList = stCells := stretch_cells hd
 unfold World.var? at hvar
 rw [hg] at hvar
 simp only [Option.bind_some] at hvar
 split at hvar
 · rename_i c t' fr hc
   cases hvar
   exact ⟨t', fr, by rw [hc, ← hcs]⟩
 · cases hvar
theorem start_shaped (os : Os) : (World.laidAll Tryz.prog os laidL).Shaped Tryz.prog := World.shaped_of_ZipB (by kernel_rfl) (by kernel_rfl)
theorem start_met (os : Os) (args : Array Value) : laidMetH Tryz.prog laidL ((World.laidAll Tryz.prog os laidL).forCall (fun _ _ => 0) ⟨#[], args, []⟩).memory := by
 rw [MakeChecks.laidMetH_plain _ _ _ (by kernel_rfl)]; exact laidMet_laidAll _ (by kernel_rfl) (by kernel_rfl)
open Go.RowKit
def sL (s : ByteArray) : List Int := s.data.toList.map fun b => (b.toNat : Int)
theorem sL_len (s : ByteArray) : (sL s).length = s.size := by simp [sL]
theorem sL_b (s : ByteArray) : ∀ z ∈ sL s, 0 ≤ z ∧ z ≤ 255 := fun z hz => by
 obtain ⟨b, _, rfl⟩ := List.mem_map.1 hz
 have := b.toNat_lt; omega
theorem sL_get {s : ByteArray} {k : Nat} (h : k < s.size) : (sL s).getD k 0 = ((s.get! k).toNat : Int) := by
 rw [Utf8W.get!_of_lt s k h]
 simp [sL, List.getD, List.getElem?_eq_getElem (show k < s.data.toList.length from h)]
 rfl
theorem begN {L : List Int} : begS L = decide (1 ≤ L.length ∧ L.length < szF (L.getD 0 0) ∧ (2 ≤ L.length → okF (L.getD 0 0) (L.getD 1 0) = true) ∧ (3 ≤ L.length → ctF (L.getD 2 0) = true)) := by
 rcases L with _ | ⟨a, _ | ⟨b, _ | ⟨c, _ | ⟨d, t⟩⟩⟩⟩
 · simp [begS]
 · simp [begS]; omega
 · simp [begS]
   by_cases h : okF a b = true <;> simp [h] ; omega
 · simp [begS]
   by_cases h : okF a b = true <;> by_cases h' : ctF c = true <;> simp [h, h'] ; omega
 · simp [begS]
   intro h; rcases szF_le a with e | e | e | e | e <;> omega
theorem first_sz (x : Nat) (h : x < 256) : (Lib.firstT x = 240 ∧ szF x = 1) ∨ (Lib.firstT x = 241 ∧ szF x = 0) ∨
  (∃ X, Lib.firstT x = X ∧ 2 ≤ X ∧ X < 240 ∧ X % 8 = szF x ∧ 2 ≤ szF x ∧ szF x ≤ 4 ∧ (Lib.accLo (X / 16) : Int) = loF x ∧ (Lib.accHi (X / 16) : Int) = hiF x ∧ X / 16 < 5) := by
 have key : ∀ y : Fin 256, (Lib.firstT y.val = 240 ∧ szF y.val = 1) ∨ (Lib.firstT y.val = 241 ∧ szF y.val = 0) ∨
   (2 ≤ Lib.firstT y.val ∧ Lib.firstT y.val < 240 ∧ Lib.firstT y.val % 8 = szF y.val ∧ 2 ≤ szF y.val ∧ szF y.val ≤ 4 ∧ (Lib.accLo (Lib.firstT y.val / 16) : Int) = loF y.val ∧ (Lib.accHi (Lib.firstT y.val / 16) : Int) = hiF y.val ∧ Lib.firstT y.val / 16 < 5) := by decide +kernel
 rcases key ⟨x, h⟩ with h | h | h
 · exact .inl h
 · exact .inr (.inl h)
 · exact .inr (.inr ⟨_, rfl, h⟩)
set_option maxHeartbeats 1600000 in
set_option maxRecDepth 100000 in
theorem full_any {w : World} (s : ByteArray) (hT : Tabs w) (h0 : 0 < s.size) :
  Calls Tryz.prog 248 #[.string s] w fun e w' => e = .returned (.bool (!begS (sL s))) ∧ Below w.heap.size w w' := by
 obtain ⟨B, hB⟩ : ∃ B, begS (sL s) = B := ⟨_, rfl⟩
 rw [hB]
 rw [begN, sL_len, sL_get h0] at hB
 have hz0 : (0 : Int) < (s.size : Int) := by omega
 obtain ⟨x0, hx0⟩ : ∃ x0, s.get! 0 = x0 := ⟨_, rfl⟩
 have hs0 : s[0]'h0 = x0 := by rw [← hx0]; exact (Utf8W.get!_of_lt s 0 h0).symm
 have l0 := x0.toNat_lt
 rw [hx0] at hB
 have hc0 := hT.u8.1 x0.toNat (by omega)
 rcases first_sz x0.toNat l0 with ⟨hX, hsz⟩ | ⟨hX, hsz⟩ | ⟨X, hX, hX2, hX240, hm, hs2, hs4, hlo, hhi, h5⟩
 · have hBf : B = false := by rw [← hB]; simp; omega
   rw [hX] at hc0
   clear hT hB hX
   subst hBf
   go_enter Tryz.func248, Tryz.ntmps248
   go_wp2
   go_ret
   exact ⟨rfl, Below.refl _ _⟩
 · have hBf : B = false := by rw [← hB]; simp; omega
   rw [hX] at hc0
   clear hT hB hX
   subst hBf
   go_enter Tryz.func248, Tryz.ntmps248
   go_wp2
   go_ret
   exact ⟨rfl, Below.refl _ _⟩
 · have ha := hT.u8.2 (X / 16) (by omega)
   rw [hX] at hc0
   clear hT
   have hXc : X = 2 ∨ X = 19 ∨ X = 3 ∨ X = 35 ∨ X = 52 ∨ X = 4 ∨ X = 68 := by have := Lib.firstT_cases x0.toNat; omega
   clear hX
   have hB' : B = decide (s.size < X % 8 ∧ (2 ≤ s.size → okF x0.toNat ((sL s).getD 1 0) = true) ∧ (3 ≤ s.size → ctF ((sL s).getD 2 0) = true)) := by rw [← hB, hm]; simp only [show 1 ≤ s.size by omega, true_and]
   clear hB
   by_cases hn : X % 8 ≤ s.size
   · have hBf : B = false := by rw [hB']; simp; omega
     clear hB'
     subst hBf
     rcases hXc with rfl | rfl | rfl | rfl | rfl | rfl | rfl
     all_goals
      simp only [Nat.reduceMod] at hn
      have hnz := Int.ofNat_le.2 hn
      go_enter Tryz.func248, Tryz.ntmps248
      go_wp2
      go_ret
      exact ⟨rfl, Below.refl _ _⟩
   have hn' : s.size < X % 8 := by omega
   simp only [hn', true_and] at hB'
   obtain ⟨ha0, ha1⟩ := ha
   rw [hlo] at ha0
   rw [hhi] at ha1
   have hl1 := loF_ge x0.toNat
   have hh1 := hiF_le x0.toNat
   have hok : ∀ y : Int, okF x0.toNat y = decide (loF x0.toNat ≤ y ∧ y ≤ hiF x0.toNat) := fun y => rfl
   generalize loF x0.toNat = lo at ha0 hl1 hok
   generalize hiF x0.toNat = hi at ha1 hh1 hok
   clear hlo hhi hm hs2 hs4
   by_cases hs1 : s.size = 1
   · have hBt : B = true := by rw [hB', hs1]; simp
     clear hB' hok
     subst hBt
     have hd1 : decide ((1 : Int) < (s.size : Int)) = false := by simp; omega
     have hd2 : decide ((2 : Int) < (s.size : Int)) = false := by simp; omega
     rcases hXc with rfl | rfl | rfl | rfl | rfl | rfl | rfl
     all_goals
      simp only [Nat.reduceMod, Nat.reduceDiv, Nat.reduceMul, Nat.reduceAdd] at hn hn' ha0 ha1
      have hnz := Int.ofNat_lt.2 hn'
      go_enter Tryz.func248, Tryz.ntmps248
      go_wp2
      go_quiet (fail)
      go_wp2
      go_ret
      exact ⟨rfl, below_drewN' ((Below.refl _ _).alloc (Nat.le_refl _) _) _⟩
   have hx1' := sL_get (s := s) (k := 1) (by omega)
   obtain ⟨x1, hx1⟩ : ∃ x1, s.get! 1 = x1 := ⟨_, rfl⟩
   have hs1' : s[1]'(by omega) = x1 := by rw [← hx1]; exact (Utf8W.get!_of_lt s 1 (by omega)).symm
   have hz1 : (1 : Int) < (s.size : Int) := by omega
   have hd1 : decide ((1 : Int) < (s.size : Int)) = true := by simp; omega
   rw [hx1] at hx1'
   rw [hx1', hok] at hB'
   clear hok hx1'
   have hXc' : X = 19 ∨ X = 3 ∨ X = 35 ∨ X = 52 ∨ X = 4 ∨ X = 68 := by omega
   clear hXc
   by_cases hb1 : (x1.toNat : Int) < lo
   · have hBt : B = false := by rw [hB']; simp; omega
     clear hB'
     subst hBt
     have hdl : decide ((x1.toNat : Int) < lo) = true := by simpa using hb1
     rcases hXc' with rfl | rfl | rfl | rfl | rfl | rfl
     all_goals
      simp only [Nat.reduceMod, Nat.reduceDiv, Nat.reduceMul, Nat.reduceAdd] at hn hn' ha0 ha1
      have hnz := Int.ofNat_lt.2 hn'
      go_enter Tryz.func248, Tryz.ntmps248
      go_wp2
      go_quiet (fail)
      go_wp2
      go_ret
      exact ⟨rfl, below_drewN' ((Below.refl _ _).alloc (Nat.le_refl _) _) _⟩
   have hdl : decide ((x1.toNat : Int) < lo) = false := by simpa using hb1
   by_cases hb2 : hi < (x1.toNat : Int)
   · have hBt : B = false := by rw [hB']; simp; omega
     clear hB'
     subst hBt
     have hdh : decide (hi < (x1.toNat : Int)) = true := by simpa using hb2
     rcases hXc' with rfl | rfl | rfl | rfl | rfl | rfl
     all_goals
      simp only [Nat.reduceMod, Nat.reduceDiv, Nat.reduceMul, Nat.reduceAdd] at hn hn' ha0 ha1
      have hnz := Int.ofNat_lt.2 hn'
      go_enter Tryz.func248, Tryz.ntmps248
      go_wp2
      go_quiet (fail)
      go_wp2
      go_ret
      exact ⟨rfl, below_drewN' ((Below.refl _ _).alloc (Nat.le_refl _) _) _⟩
   have hdh : decide (hi < (x1.toNat : Int)) = false := by simpa using hb2
   have hin : lo ≤ (x1.toNat : Int) ∧ (x1.toNat : Int) ≤ hi := by omega
   simp only [hin, and_self, decide_true, implies_true, true_and] at hB'
   by_cases hs2 : s.size = 2
   · have hBt : B = true := by rw [hB', hs2]; simp
     clear hB'
     subst hBt
     have hd2 : ¬ ((2 : Int) < (s.size : Int)) := by omega
     rcases hXc' with rfl | rfl | rfl | rfl | rfl | rfl
     all_goals
      simp only [Nat.reduceMod, Nat.reduceDiv, Nat.reduceMul, Nat.reduceAdd] at hn hn' ha0 ha1
      have hnz := Int.ofNat_lt.2 hn'
      go_enter Tryz.func248, Tryz.ntmps248
      go_wp2
      go_quiet (fail)
      go_wp2
      go_ret
      exact ⟨rfl, below_drewN' ((Below.refl _ _).alloc (Nat.le_refl _) _) _⟩
   have hx2' := sL_get (s := s) (k := 2) (by omega)
   obtain ⟨x2, hx2⟩ : ∃ x2, s.get! 2 = x2 := ⟨_, rfl⟩
   have hs2' : s[2]'(by omega) = x2 := by rw [← hx2]; exact (Utf8W.get!_of_lt s 2 (by omega)).symm
   have hz2 : (2 : Int) < (s.size : Int) := by omega
   rw [hx2] at hx2'
   rw [hx2'] at hB'
   clear hx2'
   have hXc : X = 52 ∨ X = 4 ∨ X = 68 := by omega
   clear hXc'
   have hc3 : 3 ≤ s.size := by omega
   have hc2 : ctF (x2.toNat : Int) = decide (128 ≤ (x2.toNat : Int) ∧ (x2.toNat : Int) ≤ 191) := rfl
   rw [hc2] at hB'
   clear hc2
   by_cases hb3 : (x2.toNat : Int) < 128
   · have hBt : B = false := by rw [hB']; simp; omega
     clear hB'
     subst hBt
     rcases hXc with rfl | rfl | rfl
     all_goals
      simp only [Nat.reduceMod, Nat.reduceDiv, Nat.reduceMul, Nat.reduceAdd] at hn hn' ha0 ha1
      have hnz := Int.ofNat_lt.2 hn'
      go_enter Tryz.func248, Tryz.ntmps248
      go_wp2
      go_quiet (fail)
      go_wp2
      go_ret
      exact ⟨rfl, below_drewN' ((Below.refl _ _).alloc (Nat.le_refl _) _) _⟩
   by_cases hb4 : 191 < (x2.toNat : Int)
   · have hBt : B = false := by rw [hB']; simp; omega
     clear hB'
     subst hBt
     rcases hXc with rfl | rfl | rfl
     all_goals
      simp only [Nat.reduceMod, Nat.reduceDiv, Nat.reduceMul, Nat.reduceAdd] at hn hn' ha0 ha1
      have hnz := Int.ofNat_lt.2 hn'
      go_enter Tryz.func248, Tryz.ntmps248
      go_wp2
      go_quiet (fail)
      go_wp2
      go_ret
      exact ⟨rfl, below_drewN' ((Below.refl _ _).alloc (Nat.le_refl _) _) _⟩
   have hBt : B = true := by rw [hB']; simp; omega
   clear hB'
   subst hBt
   rcases hXc with rfl | rfl | rfl
   all_goals
    simp only [Nat.reduceMod, Nat.reduceDiv, Nat.reduceMul, Nat.reduceAdd] at hn hn' ha0 ha1
    have hnz := Int.ofNat_lt.2 hn'
    go_enter Tryz.func248, Tryz.ntmps248
    go_wp2
    go_quiet (fail)
    go_wp2
    go_ret
    exact ⟨rfl, below_drewN' ((Below.refl _ _).alloc (Nat.le_refl _) _) _⟩
theorem unfinished_any {w : World} (s : ByteArray) (hT : Tabs w) (h0 : 0 < s.size) :
  Calls Tryz.prog 212 #[.string s] w fun e w' => e = .returned (.bool (begS (sL s))) ∧ Below w.heap.size w w' := by
 have H := Lib.hid (full_any s hT h0)
 clear hT h0
 obtain ⟨B, hB⟩ : ∃ B, begS (sL s) = B := ⟨_, rfl⟩
 rw [hB] at H ⊢
 go_enter Tryz.func212, Tryz.ntmps212
 go_wp2_with fail
 refine H.out.mono ?_
 rintro e w1 ⟨rfl, hb1⟩
 go_wp2_with fail
 go_ret
 exact ⟨by cases B <;> rfl, hb1⟩
end Go.Proofs.YtlcipgdnpilkfaaGreatDoor
