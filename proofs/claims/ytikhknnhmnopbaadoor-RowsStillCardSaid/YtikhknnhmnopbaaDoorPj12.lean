/-
  Part 12 of what the laws of emul want: EmulNew, LinksCopy, LinksMay, LinksText, LinksCells, LinksSweep.
-/
import Derived.LoopTactic
import Derived.IntWalk
import Derived.WalkKit
import Derived.Test.YtikhknnhmnopbaaDoorPj05
import Derived.Test.YtikhknnhmnopbaaDoorPj07
import Derived.Test.YtikhknnhmnopbaaDoorPj08
import Derived.Test.YtikhknnhmnopbaaDoorPj11
namespace Go.Proofs.YtikhknnhmnopbaaDoor
open Go.RowKit
section
variable {B : Nat} {w : World} {g : Nat} {x : CT} {A : Option Addr} {n c : Nat} {ps : List Int}
theorem wpList_buildTwo {P : Program} {ops : Array Oper} {rest : List Oper} {o : Oper} {a : Act} {w : World} {Q : Exit → Act → World → Prop} (hg : o.guard = none) (t : TypeId) (i j : Nat) (x y : Operand) (ho : o.op = .build t #[(i, x), (j, y)])
  (v u : Value) (hx : a.eval x = v) (hy : a.eval y = u) (cells : Array Value) (hb : P.built t [(i, v), (j, u)] = some cells) (h : wpList P ops Q rest (a.put o.dst (.agg cells)) w) : wpList P ops Q (o :: rest) a w := by
 have e : (#[(i, x), (j, y)].map fun (p : Nat × Operand) => (p.1, a.eval p.2)).toList = [(i, v), (j, u)] := by simp [hx, hy]
 exact wpList_build hg t #[(i, x), (j, y)] ho (by rw [e, hb]; rfl) (by rw [e, hb]; exact h)
def CT.born (c r q1 k1 q2 k2 p : Nat) (S : Nat → Prop) : CT := { begT c r q1 k1 q2 k2 with pd := p, PS := S }
theorem built_term (c r q1 k1 q2 k2 p : Nat) (S : Nat → Prop) : Tryd.prog.built 113 [(0, .pointer (some ⟨p, 0, none⟩)), (1, .agg (stC (begT c r q1 k1 q2 k2)).toArray)] = some (ctV (CT.born c r q1 k1 q2 k2 p S)).toArray := by kernel_rfl
theorem Cz.born {B : Nat} {w w' : World} {c r q1 k1 q2 k2 p : Nat} {S : Nat → Prop} (h1 : 1 ≤ c) (h2 : c ≤ 80) (h3 : 1 ≤ r) (h4 : r ≤ 24) (hB : B ≤ w.heap.size) (hw : w' = w.alloc (.cells (ctV (CT.born c r q1 k1 q2 k2 p S)).toArray 113)) (hp : Pz B w p pa0 S) (hq1 : B ≤ q1) (hq2 : B ≤ q2) (hne : q1 ≠ q2)
  (hk1 : r * c ≤ k1) (hm1 : k1 ≤ maxLen) (hk2 : r * c ≤ k2) (hm2 : k2 ≤ maxLen) (hr1 : Rw ceV 51 w q1 (blankR c r).flatten) (hr2 : Rw ceV 51 w q2 (blankR c r).flatten) : Cz B w' w.heap.size (CT.born c r q1 k1 q2 k2 p S) := by
 have hb : Below w.heap.size w w' := by rw [hw]; exact (Below.refl _ _).alloc (Nat.le_refl _) _
 have F := TmOk.fresh h1 h2 h3 h4
 exact ⟨by rw [hw]; exact heap_alloc_new w _, hB, F, hr1.below hb, hq1, rfl, ⟨hk1, hm1⟩, hr2.below hb, hq2, rfl, ⟨hk2, hm2⟩, hne, hp.kept hb.size fun q hq => hb.block q (hp.hi q hq), Tx.nil B w', rfl, fun s hs => by cases hs⟩
def NewT (c r : Int) (w : World) (e : Ending) (w' : World) : Prop :=
 Below w.heap.size w w' ∧ ((sizeOk c r = true ∧ ∃ B g x, e = .returned (.tuple #[.pointer (some ⟨g, 0, none⟩), .int .i64 0]) ∧ w.heap.size ≤ B ∧ Cz B w' g x ∧ x.t = tmNew c.toNat r.toNat) ∨ (sizeOk c r = false ∧ e = .returned (.tuple #[.pointer none, .int .i64 1])))
set_option maxRecDepth 100000 in
set_option maxHeartbeats 1600000 in
theorem newT_any (hT : Tabs w) (c r : Int) : Calls Tryd.prog 37 #[.int .i64 c, .int .i64 r] w (NewT c r w) := by
 have HT := Lib.hid hT
 have HN := Lib.hid (gNew_any (c := c) (r := r) w)
 cases hs : sizeOk c r
 · rw [new_no hs] at HN
   have HS := Lib.hid hs
   clear hs hT
   go_enter Tryd.func37, Tryd.ntmps37
   go_wp2_with fail
   refine HN.out.mono ?_
   rintro e w2 hP
   obtain ⟨rfl, hb⟩ := hP.2 rfl
   have HB := Lib.hid hb
   clear hP hb
   have X := Lib.hid (show Gb (w2.alloc (.cells (gV 0 0 none 0 0) 61)) w2.heap.size gr0 ∧ Below w.heap.size w (w2.alloc (.cells (gV 0 0 none 0 0) 61)) from ⟨gb_new w2 gr0, HB.out.alloc HB.out.size _⟩)
   unfold gV at *
   go_wp2_with (refine wpList_store_G rfl (.tmp 6) (.tmp 12) rfl w2.heap.size gr0 gr0 rfl rfl X.out.1 ?_; intro w3 hG3 hg3)
   have hb3 := X.out.2.grown hg3 X.out.2.size (by intro k hk; injection hk with hk; have := HB.out.size; omega)
   go_ret2
   exact ⟨hb3, .inr ⟨HS.out, rfl⟩⟩
 · have hz := hs
   unfold sizeOk at hz
   simp only [decide_eq_true_eq] at hz
   obtain ⟨cc, rfl⟩ : ∃ k : Nat, c = (k : Int) := ⟨c.toNat, by omega⟩
   obtain ⟨rr, rfl⟩ : ∃ k : Nat, r = (k : Int) := ⟨r.toNat, by omega⟩
   have h1 : 1 ≤ cc := by omega
   have h2 : cc ≤ 80 := by omega
   have h3 : 1 ≤ rr := by omega
   have h4 : rr ≤ 24 := by omega
   rw [new_yes hs] at HN
   have HBG := Lib.hid (fun w' : World => beginT_any h1 h2 h3 h4 w')
   have HH := Lib.hid (And.intro h1 (And.intro h2 (And.intro h3 h4)))
   have HS := Lib.hid hs
   clear hs hz h1 h2 h3 h4 hT
   go_enter Tryd.func37, Tryd.ntmps37
   go_wp2_with fail
   refine HN.out.mono ?_
   rintro e w2 hP
   obtain ⟨v, rfl, hb, q, k, hv, hq, hk, hm, hR⟩ := hP.1 _ _ _ rfl
   injection hv with hv
   subst hv
   have HB := Lib.hid hb
   clear hP hb hq hk hm hR
   have X := Lib.hid (show Gb (w2.alloc (.cells (gV 0 0 none 0 0) 61)) w2.heap.size gr0 ∧ Below w.heap.size w (w2.alloc (.cells (gV 0 0 none 0 0) 61)) from ⟨gb_new w2 gr0, HB.out.alloc HB.out.size _⟩)
   unfold gV at *
   go_wp2_with (refine wpList_store_G rfl (.tmp 6) (.tmp 12) rfl w2.heap.size gr0 ⟨_, _, some ⟨q, 0, none⟩, _, k⟩ rfl rfl X.out.1 ?_; intro w3 hG3 hg3)
   have hb3 := X.out.2.grown hg3 X.out.2.size (by intro k hk; injection hk with hk; have := HB.out.size; omega)
   have H3 := Lib.hid hb3
   clear hG3 hg3 hb3 X
   refine (pNew_any (HT.out.below H3.out (Nat.le_refl _))).mono ?_
   rintro e w4 ⟨p, S, rfl, hp, hb4⟩
   have H4 := Lib.hid (And.intro hp hb4)
   clear hp hb4
   go_wp2_with fail
   refine (HBG.out _).mono ?_
   rintro e w5 ⟨q1, k1, q2, k2, rfl, hb5, hq1, hq2, hne, hk1, hm1, hk2, hm2, hr1, hr2⟩
   have h34 : w3.heap.size ≤ w4.heap.size := H4.out.2.size
   have h45 : w4.heap.size ≤ w5.heap.size := hb5.size
   have HC := Lib.hid (Cz.born (B := w3.heap.size) (p := p) (S := S) HH.out.1 HH.out.2.1 HH.out.2.2.1 HH.out.2.2.2 (by omega) rfl (H4.out.1.kept hb5.size fun b hb => hb5.block b (H4.out.1.hi b hb)) (by omega) (by omega) hne hk1 hm1 hk2 hm2 hr1 hr2)
   have hsz : w.heap.size ≤ w3.heap.size := H3.out.size
   have HW := Lib.hid (show Below w.heap.size w (w5.alloc (.cells (ctV (CT.born cc rr q1 k1 q2 k2 p S)).toArray 113)) from ((H3.out.trans (H4.out.2.mono hsz)).trans (hb5.mono (by omega))).alloc (by omega) _)
   have hbt := built_term cc rr q1 k1 q2 k2 p S
   obtain ⟨cs, hcs⟩ : ∃ cs, cs = (ctV (CT.born cc rr q1 k1 q2 k2 p S)).toArray := ⟨_, rfl⟩
   obtain ⟨ds, hds⟩ : ∃ ds, ds = (stC (begT cc rr q1 k1 q2 k2)).toArray := ⟨_, rfl⟩
   rw [← hcs, ← hds] at hbt
   rw [← hcs] at HC HW
   rw [← hds]
   have HD := Lib.hid hbt
   clear hbt hcs hds hb5 hq1 hq2 hne hk1 hm1 hk2 hm2 hr1 hr2 h34 h45
   go_wp2_with (refine wpList_buildTwo rfl 113 0 1 (.tmp 17) (.tmp 20) rfl (.pointer (some ⟨p, 0, none⟩)) (.agg ds) rfl rfl cs HD.out ?_)
   go_ret2
   exact ⟨HW.out, .inl ⟨HS.out, w3.heap.size, w5.heap.size, CT.born cc rr q1 k1 q2 k2 p S, rfl, hsz, HC.out, by rw [Int.toNat_natCast, Int.toNat_natCast]; rfl⟩⟩
end
open Go.RowKit
theorem retBM {a b : Bool} (h : a = b) : Ending.returned (.bool a) = .returned (.bool b) := by rw [h]
theorem take_snocS {xs ys : List ByteArray} {k : Nat} (h1 : k < xs.length) (h2 : k < ys.length) : (xs.take (k + 1) = ys.take (k + 1)) ↔ (xs.take k = ys.take k ∧ sAt xs k = sAt ys k) := by
 rw [take_snocT h1, take_snocT h2]
 constructor
 · intro h
   have h3 := List.append_inj h (by simp; omega)
   exact ⟨h3.1, by simpa using h3.2⟩
 · rintro ⟨e1, e2⟩
   rw [e1, e2]
set_option maxHeartbeats 800000 in
theorem sameT_any {w : World} {A A' : Option Addr} {n n' c c' : Nat} {xs ys : List ByteArray} (h : Vs stV w A n xs) (h' : Vs stV w A' n' ys) (hn : n ≤ 140737488351232) (hn' : n' ≤ 9223372036854775807) :
  Calls Tryd.prog 27 #[.slice A n c, .slice A' n' c'] w fun e w' => e = .returned (.bool (decide (xs = ys))) ∧ ∃ q, w' = w.drewN q := by
 by_cases hne : n = n'
 · subst hne
   have H := Lib.hid (And.intro h h')
   clear h h' hn'
   go_enter Tryd.func27, Tryd.ntmps27
   go_wp2
   go_loopw [13] (fun i wr => ∃ k q : Nat, k ≤ n ∧ i = .int .i64 k ∧ xs.take k = ys.take k ∧ wr = w.drewN q) (fun i _ => n - (intOf i).toNat)
   case atStart => exact ⟨0, 0, Nat.zero_le _, rfl, by simp, rfl⟩
   case round =>
    obtain ⟨k, q, hk, rfl, hx, rfl⟩ := hrel
    have HX := Lib.hid hx
    clear hx
    by_cases hlt : k < n
    · obtain ⟨ad, rfl⟩ := H.out.1.addr (by omega)
      obtain ⟨ad', rfl⟩ := H.out.2.addr (by omega)
      have a0 := H.out.1.str hlt
      have b0 := H.out.2.str hlt
      have HT := Lib.hid (take_snocS (xs := xs) (ys := ys) (k := k) (by rw [H.out.1.len]; exact hlt) (by rw [H.out.2.len]; exact hlt))
      generalize sAt xs k = x at a0 HT
      generalize sAt ys k = y at b0 HT
      obtain ⟨B, hB⟩ : ∃ B, (x.toList == y.toList) = B := ⟨_, rfl⟩
      cases B
      · have HD : Hid (decide (xs = ys) = false) := Lib.hid (by
         rw [decide_eq_false_iff_not]
         rintro rfl
         exact (eqBB_no hB) (HT.out.1 rfl).2)
        go_wp2
        go_quiet (fail)
        go_wp2
        go_ret
        exact ⟨retBM HD.out.symm, q + nq, by simp [World.drewN, Nat.add_assoc]⟩
      · have HTT := Lib.hid (HT.out.2 ⟨HX.out, eqBB_yes hB⟩)
        clear HT
        go_wp2
        go_quiet (fail)
        go_wp2
        go_roundw
        case rel => exact ⟨k + 1, q + nq, by omega, by go_num, HTT.out, rfl⟩
        case measure => simp [intOf]; omega
    · have HD : Hid (decide (xs = ys) = true) := Lib.hid (by
       have e1 := HX.out
       rw [List.take_of_length_le (by rw [H.out.1.len]; omega), List.take_of_length_le (by rw [H.out.2.len]; omega)] at e1
       simpa using e1)
      go_wp2
      go_ret
      exact ⟨retBM HD.out.symm, q, rfl⟩
 · have HD : Hid (decide (xs = ys) = false) := Lib.hid (by
    rw [decide_eq_false_iff_not]
    rintro rfl
    exact hne (h.len.symm.trans h'.len))
   have hne' : ¬ ((n : Int) = (n' : Int)) := by omega
   clear h h'
   go_enter Tryd.func27, Tryd.ntmps27
   go_wp2
   go_ret
   exact ⟨retBM HD.out.symm, 0, rfl⟩
open Go.RowKit
theorem retBL {a b : Bool} (h : a = b) : Ending.returned (.bool a) = .returned (.bool b) := by rw [h]
theorem take_snocB (s : ByteArray) (k : Nat) (h : k < s.size) : s.data.toList.take (k + 1) = s.data.toList.take k ++ [s[k]] := by
 rw [List.take_succ_eq_append_getElem (by simpa using h)]
 rfl
theorem mayT_short {s : ByteArray} (h : s.size < 1 ∨ 64 < s.size) : mayT s = false := by
 cases hm : mayT s with
 | false => rfl
 | true => have := mayT_size hm; omega
def okB (l : List UInt8) : Bool := l.all fun c => decide (33 ≤ c.toNat) && decide (c.toNat ≤ 126)
theorem okB_snoc (l : List UInt8) (c : UInt8) : okB (l ++ [c]) = (okB l && (decide (33 ≤ c.toNat) && decide (c.toNat ≤ 126))) := by simp [okB, List.all_append]
theorem mayT_is {s : ByteArray} (h1 : 1 ≤ s.size) (h2 : s.size ≤ 64) : mayT s = okB s.data.toList := by unfold mayT okB; simp [h1, h2]
theorem okB_take {l : List UInt8} (k : Nat) (h : okB (l.take k) = false) : okB l = false := by
 cases hm : okB l with
 | false => rfl
 | true =>
  rw [← List.take_append_drop k l] at hm
  unfold okB at h hm
  rw [List.all_append, h] at hm
  cases hm
set_option maxHeartbeats 400000 in
theorem mayT_any (s : ByteArray) (w : World) (hs : s.size ≤ 140737488351232) :
  Calls Tryd.prog 71 #[.string s] w fun e w' => e = .returned (.bool (mayT s)) ∧ w = w' := by
 by_cases h1 : 1 ≤ s.size
 · by_cases h2 : s.size ≤ 64
   · have HM := Lib.hid (mayT_is h1 h2)
     go_enter Tryd.func71, Tryd.ntmps71
     go_wp2
     go_loop [14] (fun i => ∃ k : Nat, k ≤ s.size ∧ i = .int .i64 k ∧ okB (s.data.toList.take k) = true) (fun i => s.size - (intOf i).toNat)
     case atStart => exact ⟨0, Nat.zero_le _, rfl, rfl⟩
     case round =>
      obtain ⟨k, hk, rfl, ho⟩ := hrel
      have HO := Lib.hid ho
      clear ho
      by_cases hlt : k < s.size
      · have hsn := okB_snoc (s.data.toList.take k) s[k]
        rw [← take_snocB s k hlt, HO.out] at hsn
        have HS := Lib.hid hsn
        clear hsn
        by_cases hb : 33 ≤ s[k].toNat ∧ s[k].toNat ≤ 126
        · have HB := Lib.hid hb
          have hb1 := hb.1
          have hb2 := hb.2
          clear hb
          go_wp2
          go_round
          case rel => exact ⟨k + 1, by omega, by go_num, by rw [HS.out]; simp [HB.out.1, HB.out.2]⟩
          case measure => simp [intOf]; omega
        · have HR : Hid (mayT s = false) := by
           refine Lib.hid ?_
           rw [HM.out]
           refine okB_take (k + 1) ?_
           rw [HS.out]
           simp
           omega
          by_cases hb1 : 33 ≤ s[k].toNat
          · have hb2 : ¬ s[k].toNat ≤ 126 := fun x => hb ⟨hb1, x⟩
            clear hb
            go_wp2
            go_ret
            exact ⟨retBL HR.out.symm, rfl⟩
          · clear hb
            go_wp2
            go_ret
            exact ⟨retBL HR.out.symm, rfl⟩
      · have HR : Hid (mayT s = true) := by
         refine Lib.hid ?_
         rw [HM.out, ← HO.out, List.take_of_length_le (by simp; omega)]
        go_wp2
        go_ret
        exact ⟨retBL HR.out.symm, rfl⟩
   · have HR := Lib.hid (mayT_short (s := s) (Or.inr (by omega)))
     go_enter Tryd.func71, Tryd.ntmps71
     go_wp2
     go_ret
     exact ⟨retBL HR.out.symm, rfl⟩
 · have HR := Lib.hid (mayT_short (s := s) (Or.inl (by omega)))
   go_enter Tryd.func71, Tryd.ntmps71
   go_wp2
   go_ret
   exact ⟨retBL HR.out.symm, rfl⟩
set_option maxHeartbeats 400000 in
theorem refMayT_any (s : ByteArray) (w : World) (hs : s.size ≤ 140737488351232) :
  Calls Tryd.prog 109 #[.string s] w fun e w' => e = .returned (.bool (mayT s)) ∧ w = w' := by
 by_cases h1 : 1 ≤ s.size
 · have h0 : ((s.size : Int) == 0) = false := by rw [beq_eq_false_iff_ne]; omega
   by_cases h2 : s.size ≤ 64
   · have HM := Lib.hid (mayT_is h1 h2)
     go_enter Tryd.func109, Tryd.ntmps109
     go_wp2
     go_loop [3] (fun i => ∃ k : Nat, k ≤ s.size ∧ i = .int .i64 k ∧ okB (s.data.toList.take k) = true) (fun i => s.size - (intOf i).toNat)
     case atStart => exact ⟨0, Nat.zero_le _, rfl, rfl⟩
     case round =>
      obtain ⟨k, hk, rfl, ho⟩ := hrel
      have HO := Lib.hid ho
      clear ho
      by_cases hlt : k < s.size
      · have hsn := okB_snoc (s.data.toList.take k) s[k]
        rw [← take_snocB s k hlt, HO.out] at hsn
        have HS := Lib.hid hsn
        clear hsn
        by_cases hb : 33 ≤ s[k].toNat ∧ s[k].toNat ≤ 126
        · have HB := Lib.hid hb
          have hb1 := hb.1
          have hb2 := hb.2
          clear hb
          go_wp2
          go_round
          case rel => exact ⟨k + 1, by omega, by go_num, by rw [HS.out]; simp [HB.out.1, HB.out.2]⟩
          case measure => simp [intOf]; omega
        · have HR : Hid (mayT s = false) := by
           refine Lib.hid ?_
           rw [HM.out]
           refine okB_take (k + 1) ?_
           rw [HS.out]
           simp
           omega
          by_cases hb1 : 33 ≤ s[k].toNat
          · have hb2 : ¬ s[k].toNat ≤ 126 := fun x => hb ⟨hb1, x⟩
            clear hb
            go_wp2
            go_ret
            exact ⟨retBL HR.out.symm, rfl⟩
          · clear hb
            go_wp2
            go_ret
            exact ⟨retBL HR.out.symm, rfl⟩
      · have HR : Hid (mayT s = true) := by
         refine Lib.hid ?_
         rw [HM.out, ← HO.out, List.take_of_length_le (by simp; omega)]
        go_wp2
        go_ret
        exact ⟨retBL HR.out.symm, rfl⟩
   · have HR := Lib.hid (mayT_short (s := s) (Or.inr (by omega)))
     go_enter Tryd.func109, Tryd.ntmps109
     go_wp2
     go_ret
     exact ⟨retBL HR.out.symm, rfl⟩
 · have HR := Lib.hid (mayT_short (s := s) (Or.inl (by omega)))
   have h0 : ((s.size : Int) == 0) = true := by rw [beq_iff_eq]; omega
   go_enter Tryd.func109, Tryd.ntmps109
   go_wp2
   go_ret
   exact ⟨retBL HR.out.symm, rfl⟩
open Go.RowKit
theorem retSL {a b : ByteArray} (h : a = b) : Ending.returned (.string a) = .returned (.string b) := by rw [h]
theorem textI_no {t : List ByteArray} {z : Int} (h : z < 1 ∨ (t.length : Int) < z) : textI t z = eT := by unfold textI; rw [if_pos h]
theorem textI_yes {t : List ByteArray} {z : Int} (h1 : 1 ≤ z) (h2 : z ≤ t.length) : textI t z = sAt t (z.toNat - 1) := by unfold textI; rw [if_neg (by omega)]
set_option maxHeartbeats 400000 in
theorem textT_any {w : World} {A : Option Addr} {n c : Nat} {L : List ByteArray} (h : Vs stV w A n L) (z : Int) (h0 : 0 ≤ z) (h1 : z ≤ 65535) (hn : n ≤ 140737488351232) :
  Calls Tryd.prog 93 #[.slice A n c, .int .u16 z] w fun e w' => e = .returned (.string (textI L z)) ∧ w = w' := by
 have HL := Lib.hid h.len
 by_cases hz : z < 1
 · have HR : Hid (textI L z = eT) := Lib.hid (textI_no (Or.inl hz))
   clear h
   go_enter Tryd.func93, Tryd.ntmps93
   go_wp2
   go_ret
   exact ⟨retSL HR.out.symm, rfl⟩
 · by_cases hl : (n : Int) < z
   · have HR : Hid (textI L z = eT) := Lib.hid (textI_no (Or.inr (by rw [HL.out]; exact hl)))
     clear h
     go_enter Tryd.func93, Tryd.ntmps93
     go_wp2
     go_ret
     exact ⟨retSL HR.out.symm, rfl⟩
   · obtain ⟨k, rfl⟩ : ∃ k : Nat, z = (k : Int) + 1 := ⟨(z - 1).toNat, by omega⟩
     have hk : k < n := by omega
     obtain ⟨ad, rfl⟩ := h.addr (by omega)
     have hc := h.str hk
     have HR : Hid (textI L ((k : Int) + 1) = sAt L k) := Lib.hid (by
      rw [textI_yes (by omega) (by rw [HL.out]; omega)]
      congr 1)
     clear h HL
     generalize sAt L k = x at hc HR
     go_enter Tryd.func93, Tryd.ntmps93
     go_wp2
     go_ret
     exact ⟨retSL HR.out.symm, rfl⟩
theorem leadsS_no {t : List ByteArray} {z : Int} (h : textI t z = eT) : leadsS t z = eT := by unfold leadsS; rw [h, eT_not]; rfl
set_option maxHeartbeats 800000 in
theorem leadsT_any {w : World} {A : Option Addr} {n c : Nat} {L : List ByteArray} (h : Vs stV w A n L) (z : Int) (h0 : 0 ≤ z) (h1 : z ≤ 65535) (hn : n ≤ 140737488351232) (hs : ∀ s ∈ L, s.size ≤ 140737488351232) :
  Calls Tryd.prog 100 #[.slice A n c, .int .u16 z] w fun e w' => e = .returned (.string (leadsS L z)) ∧ w = w' := by
 have HL := Lib.hid h.len
 by_cases hz : z = 0
 · have HR : Hid (leadsS L z = eT) := Lib.hid (leadsS_no (textI_no (Or.inl (by omega))))
   clear h hs
   subst hz
   go_enter Tryd.func100, Tryd.ntmps100
   go_wp2
   go_ret
   exact ⟨retSL HR.out.symm, rfl⟩
 · by_cases hl : (n : Int) < z
   · have HR : Hid (leadsS L z = eT) := Lib.hid (leadsS_no (textI_no (Or.inr (by rw [HL.out]; exact hl))))
     clear h hs
     have hz' : (z == 0) = false := by simpa using hz
     go_enter Tryd.func100, Tryd.ntmps100
     go_wp2
     go_ret
     exact ⟨retSL HR.out.symm, rfl⟩
   · obtain ⟨k, rfl⟩ : ∃ k : Nat, z = (k : Int) + 1 := ⟨(z - 1).toNat, by omega⟩
     have hk : k < n := by omega
     obtain ⟨ad, rfl⟩ := h.addr (by omega)
     have hc := h.str hk
     have hx := hs _ (sAt_mem (l := L) (k := k) (by rw [HL.out]; exact hk))
     have HR : Hid (leadsS L ((k : Int) + 1) = if mayT (sAt L k) = true then sAt L k else eT) := Lib.hid (by
      unfold leadsS
      rw [textI_yes (by omega) (by rw [HL.out]; omega)]
      rfl)
     clear h HL hs hz
     have hz' : ((k : Int) + 1 == 0) = false := by simp; omega
     generalize sAt L k = x at hc HR hx
     obtain ⟨B, hB⟩ : ∃ B, mayT x = B := ⟨_, rfl⟩
     have HB := Lib.hid hB
     clear hB
     go_enter Tryd.func100, Tryd.ntmps100
     go_wp2_with fail
     refine (refMayT_any x _ hx).mono ?_
     rintro e w' ⟨rfl, rfl⟩
     rw [HB.out]
     cases B
     · have HRR : Hid (leadsS L ((k : Int) + 1) = eT) := Lib.hid (by rw [HR.out, HB.out]; rfl)
       go_wp2_with fail
       go_ret
       exact ⟨retSL HRR.out.symm, rfl⟩
     · have HRR : Hid (leadsS L ((k : Int) + 1) = x) := Lib.hid (by rw [HR.out, HB.out]; rfl)
       go_wp2_with fail
       go_ret
       exact ⟨retSL HRR.out.symm, rfl⟩
open Go.RowKit
structure Cx (base : Nat) (w : World) (A : Option Addr) (n c : Nat) (L : List Ce) : Prop where
 len : L.length = n
 le : n ≤ c
 max : c ≤ maxLen
 own : 0 < n → ∃ g, A = some ⟨g, 0, none⟩ ∧ base ≤ g ∧ Rw ceV 51 w g L
section
variable {base : Nat} {w w' : World} {A : Option Addr} {n c : Nat} {L : List Ce}
theorem Cx.vs (h : Cx base w A n c L) : Vs ceV w A n L := by
 refine ⟨h.len, fun hn => ?_⟩
 obtain ⟨g, rfl, _, hR⟩ := h.own hn
 have := hR.vs
 rw [h.len] at this
 exact this.at_ hn
theorem Cx.lower {B : Nat} (h : Cx base w A n c L) (hB : B ≤ base) : Cx B w A n c L := ⟨h.len, h.le, h.max, fun hn => by obtain ⟨g, e, hb, hR⟩ := h.own hn; exact ⟨g, e, by omega, hR⟩⟩
theorem Cx.keep (h : Cx base w A n c L) (hs : ∀ g, base ≤ g → g < w.heap.size → w'.heap[g]? = w.heap[g]?) : Cx base w' A n c L :=
 ⟨h.len, h.le, h.max, fun hn => by obtain ⟨g, e, hb, hR⟩ := h.own hn; exact ⟨g, e, hb, hR.kept (hs g hb hR.lt)⟩⟩
theorem Cx.below (h : Cx base w A n c L) (hb : Below w.heap.size w w') : Cx base w' A n c L := h.keep fun g _ hg => hb.block g hg
end
def CxEnd (L : List Ce) (w : World) (e : Ending) (w' : World) : Prop := Below w.heap.size w w' ∧ ∃ A c, e = .returned (.slice A L.length c) ∧ Cx w.heap.size w' A L.length c L
theorem cloneCx_any {w : World} {A : Option Addr} {n c : Nat} {L : List Ce} (h : Vs ceV w A n L) (hn : n ≤ 1000000) :
  Calls Tryd.prog 92 #[.slice A n c] w (CxEnd L w) := by
 have hrun := fun (w : World) => Lib.run_eql_slice_nil (P := Tryd.prog) w 22 51 A n c 0 0 Tryd.underlying22
 cases A with
 | none =>
  have H0 : Hid (n = 0) := Lib.hid (by
   rcases Nat.eq_zero_or_pos n with h0 | h0
   · exact h0
   · obtain ⟨ad, e⟩ := h.addr h0; cases e)
  have X : CxEnd L w (.returned (.slice none 0 0)) w := by
   obtain rfl : L = [] := List.eq_nil_of_length_eq_zero (h.len.trans H0.out)
   exact ⟨Below.refl _ _, none, 0, rfl, rfl, Nat.le_refl _, by unfold maxLen; omega, fun hn => absurd hn (by decide)⟩
  clear h
  go_enter Tryd.func92, Tryd.ntmps92
  go_wp2_with fail
  go_ret
  exact X
 | some ad =>
  have H := Lib.hid (h.alloc (.cells #[] 51))
  clear h
  go_enter Tryd.func92, Tryd.ntmps92
  go_wp2_with (at_builtin; refine wpList_app_V _ rfl _ _ 22 rfl ceV_len one_ce w.heap.size 51 _ 20 (by omega) Tryd.underlying22 infoCe3 rfl (by omega) (.slice (some ⟨w.heap.size, 0, none⟩) 0 0) 0 [] rfl (World.ownsRow_lit w #[] 0 (Nat.le_refl _) (by unfold maxLen; omega) rfl) (some ad) n c n (by omega) L rfl H.out hn (by simp) ?_; intro A' c' w1 hown hg)
  have X : CxEnd L w (.returned (.slice A' n c')) w1 := by
   obtain ⟨A2, c2, e2, hle, hmx⟩ := own_shape hown
   injection e2 with _ _ e2
   subst e2
   have hl := H.out.len
   refine ⟨((Below.refl _ _).alloc (Nat.le_refl _) _).grown hg (by simp) (by intro k hk; have : w.heap.size = k := (by simpa [Value.ownBlock] using hk); omega), A', c', by rw [hl], ⟨rfl, by omega, hmx, fun h0 => ?_⟩⟩
   obtain ⟨g, e, hb, _, _, hR⟩ := own_some (by omega) hown
   exact ⟨g, e, hb, hR⟩
  clear hown hg
  go_ret
  exact X
theorem row_setLk (z : Int) : ∀ (L : List Ce) (k : Nat), k < L.length → (rowV ceV L).set (k * 6 + 5) (.int .u16 z) = rowV ceV (L.set k (setLk (cAt L k) z)) := by
 intro L
 induction L with
 | nil => intro k hk; simp at hk
 | cons a L ih =>
  intro k hk
  cases k with
  | zero =>
   show (ceV a ++ rowV ceV L).set 5 _ = ceV (setLk a z) ++ rowV ceV L
   rw [List.set_append_left _ _ (by rw [ceV_len]; omega)]
   rfl
  | succ k =>
   have := ih k (by simpa using hk)
   show (ceV a ++ rowV ceV L).set ((k + 1) * 6 + 5) _ = ceV a ++ rowV ceV (L.set k (setLk (cAt L k) z))
   rw [List.set_append_right _ _ (by rw [ceV_len]; omega), ceV_len, ← this, show (k + 1) * 6 + 5 - 6 = k * 6 + 5 by omega]
theorem Rw.setLk {t : TypeId} {w : World} {g : Nat} {L : List Ce} (h : Rw ceV t w g L) {k : Nat} (hk : k < L.length) (z : Int) :
  Rw ceV t (w.setCell ⟨g, k * 6 + 5, none⟩ (.int .u16 z)) g (L.set k (Go.Proofs.YtikhknnhmnopbaaDoor.setLk (cAt L k) z)) := by
 obtain ⟨r, h⟩ := h
 refine ⟨r, ?_⟩
 rw [heap_setCell_same w g (k * 6 + 5) _ _ _ h, ← row_setLk z L k hk]
 congr 2
 rw [List.setIfInBounds_toArray, List.set_append_left]
 rw [rowV_len ceV_len]
 omega
def partC (cs : List Ce) (t : List ByteArray) (k : Nat) : List Ce := (cs.take k).map (fun c => setLk c (numI (canonL cs t) (leadsS t c.p.lk))) ++ cs.drop k
theorem partC_len (cs : List Ce) (t : List ByteArray) {k : Nat} (hk : k ≤ cs.length) : (partC cs t k).length = cs.length := by simp [partC]; omega
theorem partC_zero (cs : List Ce) (t : List ByteArray) : partC cs t 0 = cs := by simp [partC]
theorem partC_all (cs : List Ce) (t : List ByteArray) : partC cs t cs.length = canonC cs t := by simp [partC, canonC]
theorem partC_at {cs : List Ce} {t : List ByteArray} {k : Nat} (hk : k < cs.length) : cAt (partC cs t k) k = cAt cs k := by
 have h : (partC cs t k)[k]? = cs[k]? := by
  unfold partC
  rw [List.getElem?_append_right (by simp; omega), List.length_map, List.length_take, List.getElem?_drop]
  congr 1
  omega
 rw [getElem?_cAt hk, getElem?_cAt (by rw [partC_len cs t (by omega)]; exact hk)] at h
 exact Option.some.inj h
theorem partC_step {cs : List Ce} {t : List ByteArray} {k : Nat} (hk : k < cs.length) :
  (partC cs t k).set k (setLk (cAt cs k) (numI (canonL cs t) (leadsS t (cAt cs k).p.lk))) = partC cs t (k + 1) := by
 unfold partC
 have hl : ((cs.take k).map (fun c => setLk c (numI (canonL cs t) (leadsS t c.p.lk)))).length = k := by simp; omega
 rw [List.set_append_right _ _ (by omega), hl, Nat.sub_self, List.drop_eq_getElem_cons hk, List.set_cons_zero, List.take_succ_eq_append_getElem hk, List.map_append, List.append_assoc]
 rw [cAt_lt hk]
 rfl
theorem canonL_take {cs : List Ce} {t : List ByteArray} {k : Nat} (hk : k < cs.length) : canonL (cs.take (k + 1)) t = addT (canonL (cs.take k) t) (leadsS t (cAt cs k).p.lk) := by
 unfold canonL seqT
 rw [List.take_succ_eq_append_getElem hk, List.map_append, List.foldl_append, cAt_lt hk]
 rfl
theorem canonL_pre (cs : List Ce) (t : List ByteArray) (k : Nat) : ∃ m, canonL cs t = canonL (cs.take k) t ++ m := by
 obtain ⟨m, e⟩ := fold_pre (seqT (cs.drop k) t) (canonL (cs.take k) t)
 refine ⟨m, ?_⟩
 rw [← e]
 unfold canonL
 conv => lhs; rw [← List.take_append_drop k cs]
 unfold seqT
 rw [List.map_append, List.foldl_append]
theorem num_take {cs : List Ce} {t : List ByteArray} {k : Nat} (hk : k < cs.length) (hx : leadsS t (cAt cs k).p.lk ≠ eT) :
  numI (canonL cs t) (leadsS t (cAt cs k).p.lk) = placeI (canonL (cs.take (k + 1)) t) (leadsS t (cAt cs k).p.lk) + 1 := by
 obtain ⟨m, e⟩ := canonL_pre cs t (k + 1)
 have hin : leadsS t (cAt cs k).p.lk ∈ canonL (cs.take (k + 1)) t := by
  rw [canonL_take hk]
  rcases addT_cases (canonL (cs.take k) t) (leadsS t (cAt cs k).p.lk) with ⟨h1, e1⟩ | ⟨_, e1⟩ <;> rw [e1]
  · exact h1.resolve_left hx
  · simp
 unfold numI
 rw [if_neg hx, e, placeI_append hin]
theorem num_none {cs : List Ce} {t : List ByteArray} {z : Int} (hx : leadsS t z = eT) : numI (canonL cs t) (leadsS t z) = 0 := by unfold numI; rw [if_pos hx]
open Go.RowKit
theorem text_some {t : List ByteArray} {z : Int} (h : textI t z ≠ eT) : ∃ k : Nat, z = (k : Int) + 1 ∧ k < t.length ∧ textI t z = sAt t k := by
 unfold textI at h ⊢
 by_cases h1 : z < 1 ∨ (t.length : Int) < z
 · rw [if_pos h1] at h; exact absurd rfl h
 · refine ⟨z.toNat - 1, by omega, by omega, if_neg h1⟩
end Go.Proofs.YtikhknnhmnopbaaDoor
