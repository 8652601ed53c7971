/-
  The contract of fixed: the chapter's examples.
-/
import Derived.Test.YtpikbekcdbfdhaaDoorUtfRuns
import Derived.Test.YtpikbekcdbfdhaaDoorUtfSame
import Derived.Test.YtpikbekcdbfdhaaDoorUtfWid
namespace Go.Proofs.YtpikbekcdbfdhaaDoor
open Go.RowKit

theorem Ik.lit (q : IntKind) (w : World) (e : TypeId) (zs : List Int) (n : Nat) (cs : Array Value) (hc : cs.toList = zs.map (Value.int q)) (hl : zs.length = n) : Ik q (w.alloc (.cells cs e)) (some ⟨w.heap.size, 0, none⟩) n zs := by
  refine ⟨hl, fun _ => ⟨_, rfl, by simp, fun k hk => ?_⟩⟩
  rw [addHead, cell_of_row _ _ k _ _ _ (heap_alloc_new w (.cells cs e)), ← Array.getElem?_toList, hc, List.getElem?_map, List.getD, List.getElem?_eq_getElem (by omega)]
  rfl
theorem Runs.ik {zs : List Int} {w w' : World} {A : Option Addr} {n c : Nat} {e : TypeId} (h : w'.ownsRow w.heap.size e 1 (.slice A n c) n (zs.map (Value.int .i32))) : Ik .i32 w' A n zs := Ik.own h
theorem fold_kat1 : foldS [] [65, 226, 130, 172] = [65, 8364] := by decide
theorem fold_kat2 : foldS [] [192, 128] = [65533, 65533] := by decide
theorem width_kat1 : widthS 19968 = 2 := by decide
theorem width_kat2 : widthS 769 = 0 := by decide

set_option maxHeartbeats 1600000 in
set_option maxRecDepth 100000 in
theorem utfFixed_any {w : World} (hT : Tabs w) :
    Calls Tryd.prog 10 #[] w fun e w' => e = .returned (.bool true) ∧ Below w.heap.size w w' := by
  have H := Lib.hid hT
  clear hT
  go_enter Tryd.func10, Tryd.ntmps10
  go_wp2_with fail
  have a1 : Below w.heap.size w (w.alloc (.cells #[.int .u8 65, .int .u8 226, .int .u8 130, .int .u8 172] 5)) := (Below.refl _ _).alloc (Nat.le_refl _) _
  have s1 := Sb.lit w 5 [65, 226, 130, 172] 4 #[.int .u8 65, .int .u8 226, .int .u8 130, .int .u8 172] rfl rfl (by unfold maxLen; omega)
  refine (runes_any (c := 4) (H.out.below a1 (Nat.le_refl _)) s1 (fun z hz => by simp at hz; omega) (by omega)).mono ?_
  rintro e w1 ⟨A1, n1, c1, rfl, ho1, hb1⟩
  rw [fold_kat1] at ho1
  have Y1 := Lib.hid (And.intro (Ik.own ho1) (a1.trans (hb1.mono a1.size)))
  have z1 := (Ik.own ho1).len
  simp at z1
  clear a1 s1 ho1 hb1
  subst z1
  go_wp2_with fail
  refine (utfSame_any (c := c1) (c' := 2) (Y1.out.1.below ((Below.refl _ _).alloc (Nat.le_refl _) _)) (Ik.lit .i32 w1 21 [65, 8364] 2 #[.int .i32 65, .int .i32 8364] rfl rfl) (by omega) (by omega)).mono ?_
  rintro e w2 ⟨rfl, q, rfl⟩
  have Y2 := Lib.hid (below_drewN' (Y1.out.2.alloc Y1.out.2.size (.cells #[.int .i32 65, .int .i32 8364] 21)) q)
  clear Y1
  generalize (w1.alloc (.cells #[.int .i32 65, .int .i32 8364] 21)).drewN q = w2 at Y2 ⊢
  simp only [decide_true]
  go_wp2_with fail
  have s2 := Sb.lit w2 5 [192, 128] 2 #[.int .u8 192, .int .u8 128] rfl rfl (by unfold maxLen; omega)
  have a2 := Y2.out.alloc Y2.out.size (.cells #[.int .u8 192, .int .u8 128] 5)
  refine (runes_any (c := 2) (H.out.below a2 (Nat.le_refl _)) s2 (fun z hz => by simp at hz; omega) (by omega)).mono ?_
  rintro e w3 ⟨A3, n3, c3, rfl, ho3, hb3⟩
  rw [fold_kat2] at ho3
  have Y3 := Lib.hid (And.intro (Ik.own ho3) (a2.trans (hb3.mono a2.size)))
  have z3 := (Ik.own ho3).len
  simp at z3
  clear a2 s2 ho3 hb3 Y2
  subst z3
  go_wp2_with fail
  refine (utfSame_any (c := c3) (c' := 2) (Y3.out.1.below ((Below.refl _ _).alloc (Nat.le_refl _) _)) (Ik.lit .i32 w3 21 [65533, 65533] 2 #[.int .i32 65533, .int .i32 65533] rfl rfl) (by omega) (by omega)).mono ?_
  rintro e w4 ⟨rfl, q4, rfl⟩
  have Y4 := Lib.hid (below_drewN' (Y3.out.2.alloc Y3.out.2.size (.cells #[.int .i32 65533, .int .i32 65533] 21)) q4)
  clear Y3
  generalize (w3.alloc (.cells #[.int .i32 65533, .int .i32 65533] 21)).drewN q4 = w4 at Y4 ⊢
  simp only [decide_true]
  go_wp2_with fail
  refine (width_any 19968 (H.out.below Y4.out (Nat.le_refl _))).mono ?_
  rintro e w5 ⟨rfl, hb5⟩
  have Y5 := Lib.hid (Y4.out.trans (hb5.mono Y4.out.size))
  clear Y4 hb5
  rw [width_kat1]
  go_wp2_with fail
  refine (width_any 769 (H.out.below Y5.out (Nat.le_refl _))).mono ?_
  rintro e w6 ⟨rfl, hb6⟩
  rw [width_kat2]
  go_wp2_with fail
  go_ret
  exact ⟨rfl, Y5.out.trans (hb6.mono Y5.out.size)⟩
end Go.Proofs.YtpikbekcdbfdhaaDoor
