/-
  Part 33 of what the laws of emul want: EmulAct, EmulFirst.
-/
import Derived.Test.YtlcipgdnpilkfaaGreatDoorPa18
import Derived.Test.YtlcipgdnpilkfaaGreatDoorPa32
namespace Go.Proofs.YtlcipgdnpilkfaaGreatDoor
open Go.RowKit
section
variable {B : Nat} {w : World} {g : Nat} {x : CT} {A : Option Addr} {n c : Nat} {ps : List Int}
theorem newCell (w : World) (cs : Array Value) (t : TypeId) (k : Nat) {v : Value} (h : cs[k]? = some v) : (w.alloc (.cells cs t)).cell? ⟨w.heap.size, k, none⟩ = some v := by
 have hb : (w.alloc (.cells cs t)).heap[w.heap.size]? = some (.cells cs t) := heap_alloc_new w _
 rw [cell_of_row _ _ k _ _ _ hb]
 exact h
def endsS (a : AcS) : Bool := if a.k = 2 then true else if a.k = 3 then true else if a.k = 4 then decide (a.m ≠ 0 ∨ (a.fin ≠ 109 ∧ a.fin ≠ 98)) else false
set_option maxRecDepth 100000 in
theorem endsFull_any (y : AcR) (w : World) : Calls Tryz.prog 49 #[.agg (acA y)] w fun e w' => e = .returned (.bool (endsS y.a)) ∧ Below w.heap.size w w' := by
 obtain ⟨a, P, np, cp, T, nt, ct⟩ := y
 obtain ⟨k, r, m, f, ps, tx⟩ := a
 have HB := Lib.hid (show Below w.heap.size w (w.alloc (.cells (acA ⟨⟨k, r, m, f, ps, tx⟩, P, np, cp, T, nt, ct⟩) 62)) from (Below.refl _ _).alloc (Nat.le_refl _) _)
 unfold acA at HB ⊢
 unfold endsS
 simp only at HB ⊢
 by_cases h2 : k = 2
 · subst h2
   go_enter Tryz.func49, Tryz.ntmps49
   go_wp2_with fail
   go_ret
   exact ⟨rfl, HB.out⟩
 by_cases h3 : k = 3
 · subst h3
   go_enter Tryz.func49, Tryz.ntmps49
   go_wp2_with fail
   go_ret
   exact ⟨rfl, HB.out⟩
 rw [if_neg h2, if_neg h3]
 by_cases h4 : k = 4
 · subst h4
   rw [if_pos rfl]
   by_cases hm : m = 0
   · subst hm
     by_cases h109 : f = 109
     · subst h109
       go_enter Tryz.func49, Tryz.ntmps49
       go_wp2_with fail
       go_ret
       exact ⟨rfl, HB.out⟩
     by_cases h98 : f = 98
     · subst h98
       go_enter Tryz.func49, Tryz.ntmps49
       go_wp2_with fail
       go_ret
       exact ⟨rfl, HB.out⟩
     rw [show decide ((0 : Int) ≠ 0 ∨ (f ≠ 109 ∧ f ≠ 98)) = true from decide_eq_true (.inr ⟨h109, h98⟩)]
     have g1 : (f != 109) = true := bne_iff_ne.2 h109
     have g2 : (f != 98) = true := bne_iff_ne.2 h98
     go_enter Tryz.func49, Tryz.ntmps49
     go_wp2_with fail
     go_ret
     exact ⟨rfl, HB.out⟩
   · rw [show decide (m ≠ 0 ∨ (f ≠ 109 ∧ f ≠ 98)) = true from decide_eq_true (.inl hm)]
     have g1 : (m != 0) = true := bne_iff_ne.2 hm
     go_enter Tryz.func49, Tryz.ntmps49
     go_wp2_with fail
     go_ret
     exact ⟨rfl, HB.out⟩
 rw [if_neg h4]
 go_enter Tryz.func49, Tryz.ntmps49
 go_wp2_with fail
 go_ret
 exact ⟨rfl, HB.out⟩
set_option maxRecDepth 100000 in
theorem mayActs_any (y : AcR) (hI : Ik .i64 w y.P y.np y.a.ps) (ht : y.a.tx.length = y.nt) (hnp : y.np ≤ 4611686018427387904) : Calls Tryz.prog 48 #[.agg (acA y)] w fun e w' => e = .returned (.bool (mayAct y.a)) ∧ Below w.heap.size w w' := by
 obtain ⟨a, P, np, cp, T, nt, ct⟩ := y
 obtain ⟨kk, r, m, f, ps, tx⟩ := a
 obtain ⟨W, hW⟩ : ∃ W, W = w.alloc (.cells (acA ⟨⟨kk, r, m, f, ps, tx⟩, P, np, cp, T, nt, ct⟩) 62) := ⟨_, rfl⟩
 have HB := Lib.hid (show Below w.heap.size w W from by rw [hW]; exact (Below.refl _ _).alloc (Nat.le_refl _) _)
 have HI := Lib.hid (show Ik .i64 W P np ps from hI.below HB.out)
 have hlen := hI.len
 have a4 : W.cell? ⟨w.heap.size, 4, none⟩ = some (.slice P np cp) := by rw [hW]; exact newCell w _ _ 4 rfl
 have a5 : W.cell? ⟨w.heap.size, 5, none⟩ = some (.slice T nt ct) := by rw [hW]; exact newCell w _ _ 5 rfl
 unfold acA at hW ⊢
 simp only at hW ⊢
 clear hI
 have ht : tx.length = nt := ht
 have hnp : np ≤ 4611686018427387904 := hnp
 go_enter Tryz.func48, Tryz.ntmps48
 go_wp2_with fail
 rw [← hW]
 clear hW
 go_loopw [8] (fun i wr => wr = W ∧ ∃ k : Nat, k ≤ np ∧ i = .int .i64 k ∧ ∀ j, j < k → 0 ≤ ps.getD j 0 ∧ ps.getD j 0 ≤ 9999) (fun i _ => np - (intOf i).toNat)
 case atStart => exact ⟨rfl, 0, Nat.zero_le _, rfl, fun j hj => absurd hj (by omega)⟩
 case round =>
  obtain ⟨rfl, k, hk, rfl, hall⟩ := hrel
  have HALL := Lib.hid hall
  clear hall
  by_cases hlt : k < np
  · obtain ⟨ad, rfl, _, hcl⟩ := HI.out.at_ (by omega)
    have hcell := hcl k hlt
    clear hcl
    have k1 : (k : Int) < (np : Int) := by omega
    obtain ⟨z, hz⟩ : ∃ z, ps.getD k 0 = z := ⟨_, rfl⟩
    rw [hz] at hcell
    by_cases hr : 0 ≤ z ∧ z ≤ 9999
    · obtain ⟨hr0, hr1⟩ := hr
      have g0 : ¬ z < 0 := by omega
      have g1 : ¬ 9999 < z := by omega
      go_wp2_with fail
      go_roundw
      case rel => exact ⟨trivial, k + 1, by omega, by go_num, fun j hj => by
       by_cases e : j = k
       · rw [e, hz]; exact ⟨hr0, hr1⟩
       · exact HALL.out j (by omega)⟩
      case measure => simp [intOf]; omega
    · have HN := Lib.hid (show mayAct ⟨kk, r, m, f, ps, tx⟩ = false from by
       unfold mayAct
       have : ps.all (fun z => decide (0 ≤ z) && decide (z ≤ 9999)) = false := by
        rw [List.all_eq_false]
        refine ⟨z, ?_, by simp; omega⟩
        rw [← hz, getD_lt (by rw [hlen]; exact hlt)]
        exact List.getElem_mem _
       show (decide (ps.length ≤ 16) && decide (tx.length ≤ 256) && ps.all (fun z => decide (0 ≤ z) && decide (z ≤ 9999))) = false
       rw [this, Bool.and_false])
      clear hz
      by_cases g0 : z < 0
      · go_wp2_with fail
        go_ret
        exact ⟨by rw [HN.out]; rfl, HB.out⟩
      · have g1 : 9999 < z := by omega
        go_wp2_with fail
        go_ret
        exact ⟨by rw [HN.out]; rfl, HB.out⟩
  · obtain rfl : k = np := by omega
    have HE := Lib.hid (show mayAct ⟨kk, r, m, f, ps, tx⟩ = (decide ((k : Int) ≤ 16) && decide ((nt : Int) ≤ 256)) from by
     show (decide (ps.length ≤ 16) && decide (tx.length ≤ 256) && ps.all (fun z => decide (0 ≤ z) && decide (z ≤ 9999))) = _
     have h1 : ps.all (fun z => decide (0 ≤ z) && decide (z ≤ 9999)) = true := by
      rw [List.all_eq_true]
      intro z hz
      obtain ⟨j, hj, e⟩ := List.getElem_of_mem hz
      have := HALL.out j (by omega)
      rw [getD_lt hj, e] at this
      simp; exact this
     rw [h1, Bool.and_true, hlen, ht]
     congr 1 <;> (apply decide_eq_decide.2; omega))
    clear HALL
    by_cases g1 : (k : Int) ≤ 16
    · by_cases g2 : (nt : Int) ≤ 256
      · rw [decide_eq_true g1, decide_eq_true g2] at HE
        go_wp2_with fail
        go_ret
        exact ⟨by rw [HE.out]; rfl, HB.out⟩
      · rw [decide_eq_true g1, decide_eq_false g2] at HE
        go_wp2_with fail
        go_ret
        exact ⟨by rw [HE.out]; rfl, HB.out⟩
    · rw [decide_eq_false g1] at HE
      go_wp2_with fail
      go_ret
      exact ⟨by rw [HE.out]; rfl, HB.out⟩
end
open Go.RowKit
section
variable {B : Nat} {w : World} {g : Nat} {x : CT} {A : Option Addr} {n c : Nat} {ps : List Int}
def rowB (k : Nat) : List Bool := (List.range 80).map fun i => decide (i ≠ 0 ∧ i % 8 = 0 ∧ i < 8 * (k + 1))
def rowK (k : Nat) : Array Value := ((rowB k).map Value.bool).toArray
theorem rowB_step : ∀ k : Fin 9, (rowB k.1).set (8 * (k.1 + 1)) true = rowB (k.1 + 1) := by decide +kernel
theorem rowB_at : ∀ k : Fin 9, (rowB k.1)[8 * (k.1 + 1)]? = some false := by decide +kernel
theorem rowB_end : rowB 9 = tabs0 := by decide +kernel
theorem rowB_len (k : Nat) : (rowB k).length = 80 := by simp [rowB]
theorem rowK_zero : Tryz.zeroCells34 = rowK 0 := by kernel_rfl
theorem info80 (k : Nat) : (Tryz.prog.info? 34).map (·.size) = some (rowK k).size := by
 have e : (rowK k).size = 80 := by simp [rowK, rowB_len]
 exact (show (Tryz.prog.info? 34).map (·.size) = some 80 from by kernel_rfl).trans (by rw [e])
theorem rowK_one (k : Nat) : (rowK k).all (·.oneCell') = true := by
 rw [Array.all_eq_true_iff_forall_mem]
 intro v hv
 obtain ⟨b, _, rfl⟩ := List.mem_map.1 (by simpa [rowK] using hv : v ∈ (rowB k).map Value.bool)
 rfl
set_option maxRecDepth 100000 in
theorem firstTabs_any (w : World) : Calls Tryz.prog 39 #[] w fun e w' => e = .returned (.agg (tabs0.map Value.bool).toArray) ∧ Below w.heap.size w w' := by
 have hw2 : (w.alloc (.cells Tryz.zeroCells34 34)).heap.size = w.heap.size + 1 := by simp
 obtain ⟨W, hW⟩ : ∃ W, W = (w.alloc (.cells Tryz.zeroCells34 34)).alloc (.cells Tryz.zeroCells34 34) := ⟨_, rfl⟩
 have HW := Lib.hid (show Below w.heap.size w W ∧ W.heap[w.heap.size]? = some (.cells (rowK 0) 34 (0, 0)) ∧ W.heap[w.heap.size + 1]? = some (.cells (rowK 0) 34 (0, 0)) from by
  rw [hW, rowK_zero]
  refine ⟨((Below.refl _ _).alloc (Nat.le_refl _) _).alloc (by simp) _, (Below.heap_alloc _ _ _ (by simp)).trans (heap_alloc_new w _), ?_⟩
  have e := heap_alloc_new (w.alloc (.cells (rowK 0) 34)) (.cells (rowK 0) 34)
  rw [show (w.alloc (.cells (rowK 0) 34)).heap.size = w.heap.size + 1 from by simp] at e
  exact e)
 go_enter Tryz.func39, Tryz.ntmps39
 go_wp2_with fail
 rw [← hW]
 clear hW hw2
 go_loopw [2] (fun i wr => ∃ (k m : Nat), k ≤ 9 ∧ m = 8 * (k + 1) ∧ i = .int .i64 m ∧ Below w.heap.size w wr ∧ wr.heap[w.heap.size]? = some (.cells (rowK 0) 34 (0, 0)) ∧ wr.heap[w.heap.size + 1]? = some (.cells (rowK k) 34 (0, 0))) (fun i _ => 80 - (intOf i).toNat)
 case atStart => exact ⟨0, 8, by omega, rfl, rfl, HW.out.1, HW.out.2.1, HW.out.2.2⟩
 case round =>
  obtain ⟨k, m, hk, hm, rfl, hb, h0, h1⟩ := hrel
  have HB := Lib.hid hb
  have H0 := Lib.hid h0
  have H1 := Lib.hid h1
  by_cases hlt : k < 9
  · have ec : wr.cell? ⟨w.heap.size + 1, m, none⟩ = some (.bool false) := by
     rw [cell_of_row _ _ m _ _ _ h1, hm]
     have := rowB_at ⟨k, hlt⟩
     simpa [rowK] using this
    have ef : wr.frozen? ⟨w.heap.size + 1, m, none⟩ = false := frozen_of_row _ _ m _ _ h1
    have m0 : (0 : Int) ≤ (m : Int) := by omega
    have m1 : (m : Int) < 80 := by omega
    have hbn : Below w.heap.size w (wr.setCell ⟨w.heap.size + 1, m, none⟩ (.bool true)) := hb.setCell (p := ⟨w.heap.size + 1, m, none⟩) (by show w.heap.size ≤ w.heap.size + 1; omega) _
    have h0n : (wr.setCell ⟨w.heap.size + 1, m, none⟩ (.bool true)).heap[w.heap.size]? = some (.cells (rowK 0) 34 (0, 0)) := (heap_setCell_other wr _ w.heap.size _ (by show w.heap.size ≠ w.heap.size + 1; omega)).trans h0
    have h1n : (wr.setCell ⟨w.heap.size + 1, m, none⟩ (.bool true)).heap[w.heap.size + 1]? = some (.cells (rowK (k + 1)) 34 (0, 0)) := by
     rw [heap_setCell_same wr _ m _ _ _ h1]
     have := rowB_step ⟨k, hlt⟩
     simp only at this
     have e : (rowK k).setIfInBounds m (.bool true) = rowK (k + 1) := by
      unfold rowK
      rw [← this, hm, List.setIfInBounds_toArray, List.map_set]
     rw [e]
    have HN := Lib.hid (And.intro hbn (And.intro h0n h1n))
    have HMm := Lib.hid hm
    clear hm hb h0 h1 hbn h0n h1n
    go_wp2_with fail
    go_roundw
    case rel => exact ⟨k + 1, m + 8, by omega, by rw [HMm.out]; omega, by go_num, HN.out.1, HN.out.2.1, HN.out.2.2⟩
    case measure => simp [intOf]; omega
  · obtain rfl : k = 9 := by omega
    obtain rfl : m = 80 := by omega
    clear hb h0 h1
    go_wp2_with (first | (refine wpList_load_row rfl 34 (.tmp 1) rfl (w.heap.size + 1) rfl 34 _ (0, 0) _ H1.out Tryz.underlying34 rfl (info80 9) ?_) | (refine wpList_store_row rfl 34 (.tmp 0) (.tmp 9) rfl w.heap.size (rowK 9) rfl rfl 34 _ H0.out (info80 9) (by simp [rowK, rowB_len]) (rowK_one 9) ?_))
    have hR : (wr.setRow w.heap.size (rowK 9)).heap[w.heap.size]? = some (.cells (rowK 9) 34 (0, 0)) := setRow_heap wr _ _ _ _ _ H0.out
    refine bodyPost_ret (results_cell_row rfl _ _ w.heap.size 34 (rowK 9) (0, 0) _ rfl hR Tryz.underlying34 rfl (info80 9)) rfl ?_
    exact ⟨by unfold rowK; rw [rowB_end], below_setRow HB.out (Nat.le_refl _) _⟩
end
end Go.Proofs.YtlcipgdnpilkfaaGreatDoor
