/-
  Part 15 of what the laws of emul want: LinksRefCanon, LinksRight, EmulRight, EmulNils, EmulLinkS, EmulOtherS, EmulLead, EmulFd, EmulScrS, ProjCells.
-/
import Derived.Deep.DeepCutAuto
import Derived.Laws.EntriesVeiled
import Derived.WalkKit
import Derived.Deep.RegionWith
import Derived.Laws.Strings
import Derived.Deep.RegionHeld3
import Derived.Deep.QuietTactic
import Derived.Laws.Rows
import Derived.Laws.BitsAllLaws
import Derived.WalkSpells
import Derived.BigQuiet
import Derived.Handy
import Derived.Test.YtikhknnhmnopbaaDoorRows
import Derived.Lib.LaidU8
import Derived.Lib.LaidTab
import Derived.LaidMore
import Derived.Lay
import Derived.Stop.Joined
import Derived.Handed
import Derived.Test.YtikhknnhmnopbaaDoorPj01
import Derived.Test.YtikhknnhmnopbaaDoorPj02
import Derived.Test.YtikhknnhmnopbaaDoorPj07
import Derived.Test.YtikhknnhmnopbaaDoorPj08
import Derived.Test.YtikhknnhmnopbaaDoorPj10
import Derived.Test.YtikhknnhmnopbaaDoorPj11
import Derived.Test.YtikhknnhmnopbaaDoorPj12
import Derived.Test.YtikhknnhmnopbaaDoorPj13
import Derived.Test.YtikhknnhmnopbaaDoorPj14
namespace Go.Proofs.YtikhknnhmnopbaaDoor
open Go.RowKit
def partD (cs : List Ce) (t : List ByteArray) (k : Nat) : List Ce := (cs.take k).map (fun c => setLk c (numI (canonL cs t) (leadsS t c.p.lk))) ++ List.replicate (cs.length - k) ce0
theorem partD_len (cs : List Ce) (t : List ByteArray) {k : Nat} (hk : k ≤ cs.length) : (partD cs t k).length = cs.length := by simp [partD]; omega
theorem partD_zero (cs : List Ce) (t : List ByteArray) : partD cs t 0 = List.replicate cs.length ce0 := by simp [partD]
theorem partD_all (cs : List Ce) (t : List ByteArray) : partD cs t cs.length = canonC cs t := by simp [partD, canonC]
theorem partD_step {cs : List Ce} {t : List ByteArray} {k : Nat} (hk : k < cs.length) :
  (partD cs t k).set k (setLk (cAt cs k) (numI (canonL cs t) (leadsS t (cAt cs k).p.lk))) = partD cs t (k + 1) := by
 unfold partD
 have hl : ((cs.take k).map (fun c => setLk c (numI (canonL cs t) (leadsS t c.p.lk)))).length = k := by simp; omega
 have hr : List.replicate (cs.length - k) ce0 = ce0 :: List.replicate (cs.length - (k + 1)) ce0 := by
  rw [← List.replicate_succ]
  congr 1
  omega
 rw [List.set_append_right _ _ (by omega), hl, Nat.sub_self, hr, List.set_cons_zero, List.take_succ_eq_append_getElem hk, List.map_append, List.append_assoc]
 rw [cAt_lt hk]
 rfl
theorem cAt_setK {C : List Ce} {k : Nat} (hk : k < C.length) (c : Ce) : cAt (C.set k c) k = c := by
 rw [cAt_lt (by rw [List.length_set]; exact hk), List.getElem_set_self]
theorem wpList_store_lk {w : World} {ops : Array Oper} {rest : List Oper} {o : Oper} {a : Act} {Q : Exit → Act → World → Prop} (hgd : o.guard = none) (x y : Operand) (ho : o.op = .store 47 x y)
  (g off k : Nat) (z : Int) (hx : a.eval x = .pointer (some ⟨g, off, none⟩)) (hoff : off = k * 6 + 5) (hy : a.eval y = .int .u16 z) (C : List Ce) (hR : Rw ceV 51 w g C) (hk : k < C.length)
  (h : ∀ w', Rw ceV 51 w' g (C.set k (setLk (cAt C k) z)) → w.grownBy w' (some g) → wpList Tryd.prog ops Q rest (a.put o.dst undef) w') : wpList Tryd.prog ops Q (o :: rest) a w := by
 subst hoff
 have hc := hR.cell (rowV_get ceV_len (getElem?_cAt hk) (j := 5) rfl)
 have hf := hR.free (k * 6 + 5)
 have hrun : (Instr.storeAt 47 (.pointer (some ⟨g, k * 6 + 5, none⟩)) (.int .u16 z)).run Tryd.prog w = .ok () (w.setCell ⟨g, k * 6 + 5, none⟩ (.int .u16 z)) := by
  simp [go_sem, hc, hf]
 refine wpList_plain hgd fun K hK => ?_
 unfold Oper.wp
 simp [execOp, ho, hx, hy, hrun, Result.andThen]
 exact hK _ _ (h _ (hR.setLk hk z) (grownBy_set w ⟨g, k * 6 + 5, none⟩ _))
structure Rl (b : Nat) (A7 : Option Addr) (m c7 : Nat) (l : List ByteArray) (w wr : World) : Prop where
 tx : Tx b wr A7 m c7 l
 bel : Below b w wr
 ge : b ≤ wr.heap.size
theorem Rl.more {b m c7 c' : Nat} {A7 A' : Option Addr} {l : List ByteArray} {w wr w3 : World} {x : ByteArray} (h : Rl b A7 m c7 l w wr) (hown : Tx b w3 A' (m + 1) c' (l ++ [x])) (hg : (wr.alloc (.cells #[.string x] 9)).grownBy w3 (Value.slice A7 m c7).ownBlock) : Rl b A' (m + 1) c' (l ++ [x]) w w3 := by
 have hge := h.ge
 have hs3 := hg.size
 simp at hs3
 exact ⟨hown, (h.bel.alloc hge _).grown hg (by simp; omega) fun k hk => h.tx.ownB k hk, by omega⟩
structure Rc (b g : Nat) (C : List Ce) (A7 : Option Addr) (m c7 : Nat) (l : List ByteArray) (w wr : World) : Prop where
 rl : Rl b A7 m c7 l w wr
 row : Rw ceV 51 wr g C
 ge : b ≤ g
theorem rw_not_tx {base g n c : Nat} {w : World} {A : Option Addr} {C : List Ce} {L : List ByteArray} (h : Rw ceV 51 w g C) (h' : Tx base w A n c L) : (Value.slice A n c).ownBlock ≠ some g := by
 intro hk
 obtain ⟨r, hR⟩ := h
 rcases h'.own.2 with ⟨h1, _⟩ | ⟨g2, cap, cur, hv, _, hg, _⟩
 · rw [h1] at hk; cases hk
 · rw [hv] at hk
   injection hk with hk
   have hk' : g2 = g := hk
   subst hk'
   rw [hR] at hg
   injection hg with hg
   injection hg with _ hg _
   exact absurd hg (by decide)
theorem Rc.turn {b g m c7 : Nat} {C C' : List Ce} {A7 : Option Addr} {l : List ByteArray} {w wr w2 : World} (h : Rc b g C A7 m c7 l w wr) (hR : Rw ceV 51 w2 g C') (hg : wr.grownBy w2 (some g)) : Rc b g C' A7 m c7 l w w2 := by
 have hge := h.rl.ge
 have hs := hg.size
 refine ⟨⟨h.rl.tx.grown hg fun g2 e e2 => ?_, h.rl.bel.grown hg hge fun k hk => by injection hk with hk; have := h.ge; omega, by omega⟩, hR, h.ge⟩
 injection e2 with e2
 exact rw_not_tx h.row h.rl.tx (by rw [e, e2]; rfl)
set_option maxHeartbeats 4000000 in
theorem refCanon_any {w : World} {A A' : Option Addr} {n c m c' : Nat} {cs : List Ce} {L : List ByteArray} (h : Vs ceV w A n cs) (h' : Vs stV w A' m L) (hl : ∀ x ∈ cs, 0 ≤ x.p.lk ∧ x.p.lk ≤ 65535) (hs : ∀ s ∈ L, s.size ≤ 140737488351232) (hn : n ≤ 60000) (hm : m ≤ 60000) :
  Calls Tryd.prog 77 #[.slice A n c, .slice A' m c'] w (CnPost (canonC cs L) (canonL cs L) w) := by
 obtain rfl := h.len
 have hmk := make_any (P := Tryd.prog) 22 Tryd.underlying22 ce0 ceV_len (by omega) (b8 := 20) (by omega) infoCe3 cs.length (by omega)
 have H := Lib.hid (And.intro h h')
 have HL := Lib.hid (And.intro hl hs)
 clear h h' hl hs
 obtain ⟨b, hb⟩ : ∃ b, b = w.heap.size := ⟨_, rfl⟩
 have HB := Lib.hid hb
 clear hb
 go_enter Tryd.func77, Tryd.ntmps77
 go_wp2
 have HS : Hid (Rl b (some ⟨b, 0, none⟩) 0 0 (canonL (cs.take 0) L) w (w.alloc (.cells #[] 9))) := by
  refine Lib.hid ⟨?_, by rw [HB.out]; exact (Below.refl _ _).alloc (Nat.le_refl _) _, by simp [HB.out]⟩
  rw [HB.out]
  exact Tx.mk' (World.ownsRow_lit w #[] 0 (Nat.le_refl _) (by unfold maxLen; omega) rfl)
 rw [← HB.out] at ⊢
 generalize w.alloc (.cells #[] 9) = w1 at HS ⊢
 go_loopw [6, 7] (fun o i wr => ∃ (k m7 c7 : Nat) (A7 : Option Addr), k ≤ cs.length ∧ m7 ≤ k ∧ i = .int .i64 k ∧ o = .slice A7 m7 c7 ∧ Rl b A7 m7 c7 (canonL (cs.take k) L) w wr) (fun _ i _ => cs.length - (intOf i).toNat)
 case atStart => exact ⟨0, 0, 0, _, Nat.zero_le _, Nat.le_refl _, rfl, rfl, HS.out⟩
 case round =>
  obtain ⟨k, m7, c7, A7, hk, hmk7, rfl, rfl, hX⟩ := hrel
  have Y := Lib.hid hX
  clear hX HS
  by_cases hlt : k < cs.length
  · have hb' := Below.mono Y.out.bel (show w.heap.size ≤ b by rw [HB.out]; exact Nat.le_refl _)
    have hv := H.out.2.below hb'
    obtain ⟨ad, rfl⟩ := H.out.1.addr (by omega)
    obtain ⟨_, _, _, _, _, hc5⟩ := (H.out.1.below hb').six hlt
    have hlk := HL.out.1 (cAt cs k) (by rw [cAt_lt hlt]; exact List.getElem_mem _)
    have HCL := Lib.hid (canonL_take (cs := cs) (t := L) hlt)
    have HV := Lib.hid hv
    clear hv hb'
    generalize (cAt cs k).p.lk = z at hlk hc5 HCL
    have hz0 := hlk.1
    have hz1 := hlk.2
    clear hlk
    go_wp2_with fail
    refine (leadsT_any HV.out z hz0 hz1 (by omega) HL.out.2).mono ?_
    rintro e w' ⟨rfl, rfl⟩
    generalize leadsS L z = x at HCL ⊢
    obtain ⟨l, hl⟩ : ∃ l, canonL (cs.take k) L = l := ⟨_, rfl⟩
    rw [hl] at HCL Y
    clear hl
    by_cases hx : x = eT
    · have he := emp_yes hx
      have HN : Hid (Rl b A7 m7 c7 (canonL (cs.take (k + 1)) L) w wr) := Lib.hid (by rw [HCL.out, addT_old (Or.inl hx)]; exact Y.out)
      clear hx
      go_wp2_with fail
      go_roundw
      case rel => exact ⟨k + 1, m7, c7, A7, by omega, by omega, by go_num, rfl, HN.out⟩
      case measure => simp [intOf]; omega
    · have he := emp_no hx
      have HX := Lib.hid hx
      clear hx
      go_wp2_with fail
      refine (placeT_any Y.out.tx.vs x (by omega)).mono ?_
      rintro e w' ⟨rfl, rfl⟩
      by_cases hp : placeI l x = -1
      · have HP := Lib.hid (placeI_none.1 hp)
        rw [hp]
        clear hp
        go_wp2_with (at_builtin; refine wpList_appT _ rfl _ _ rfl b A7 m7 c7 l rfl (Y.out.tx.below ((Below.refl _ _).alloc (Nat.le_refl _) _)) (some ⟨wr.heap.size, 0, none⟩) 1 1 (m7 + 1) rfl [x] rfl (litT wr x) (by omega) (by have := Y.out.ge; simp; omega) ?_; intro A2 c2 w3 hown hg3)
        have HN : Hid (Rl b A2 (m7 + 1) c2 (canonL (cs.take (k + 1)) L) w w3) := Lib.hid (by rw [HCL.out, addT_new HX.out HP.out]; exact Y.out.more hown hg3)
        clear hown hg3
        go_wp2_with fail
        go_roundw
        case rel => exact ⟨k + 1, m7 + 1, c2, A2, by omega, by omega, by go_num, rfl, HN.out⟩
        case measure => simp [intOf]; omega
      · have hp0 : 0 ≤ placeI l x := by have := placeI_ge l x; omega
        have HN : Hid (Rl b A7 m7 c7 (canonL (cs.take (k + 1)) L) w wr) := Lib.hid (by rw [HCL.out, addT_old (Or.inr (mem_place.1 hp))]; exact Y.out)
        clear hp
        generalize placeI l x = y at hp0 ⊢
        go_wp2_with fail
        go_roundw
        case rel => exact ⟨k + 1, m7, c7, A7, by omega, by omega, by go_num, rfl, HN.out⟩
        case measure => simp [intOf]; omega
  · have e : cs.take k = cs := List.take_of_length_le (by omega)
    rw [e] at Y
    obtain rfl := Y.out.tx.len
    clear e
    go_wp2
    obtain ⟨g, hg⟩ : ∃ g, g = wr.heap.size := ⟨_, rfl⟩
    rw [← hg]
    have HS2 : Hid (Rc b g (partD cs L 0) A7 (canonL cs L).length c7 (canonL cs L) w (wr.alloc (.cells (rowV ceV (List.replicate cs.length ce0)).toArray 51))) := Lib.hid (by
     have hge := Y.out.ge
     refine ⟨⟨Y.out.tx.below ((Below.refl _ _).alloc (Nat.le_refl _) _), Y.out.bel.alloc hge _, by simp; omega⟩, ?_, by omega⟩
     rw [partD_zero, hg]
     exact made_rw wr 51 (List.replicate cs.length ce0))
    clear hg
    generalize wr.alloc (.cells (rowV ceV (List.replicate cs.length ce0)).toArray 51) = w2 at HS2 ⊢
    go_loopw [44] (fun i wr => ∃ (k : Nat), k ≤ cs.length ∧ i = .int .i64 k ∧ Rc b g (partD cs L k) A7 (canonL cs L).length c7 (canonL cs L) w wr) (fun i _ => cs.length - (intOf i).toNat)
    case atStart => exact ⟨0, Nat.zero_le _, rfl, HS2.out⟩
    case round =>
     obtain ⟨k, hk, rfl, hX⟩ := hrel
     have Y := Lib.hid hX
     clear hX HS2
     by_cases hlt : k < cs.length
     · obtain ⟨ad, rfl⟩ := H.out.1.addr (by omega)
       have HSX : Hid (∀ wx, Below b w wx → Six wx (ad.add (k * 6)) (cAt cs k)) := Lib.hid (fun wx hb => (H.out.1.below (Below.mono hb (by rw [HB.out]; exact Nat.le_refl _))).six hlt)
       have HVX : Hid (∀ wx, Below b w wx → Vs stV wx A' m L) := Lib.hid (fun wx hb => H.out.2.below (Below.mono hb (by rw [HB.out]; exact Nat.le_refl _)))
       obtain ⟨hc0, hc1, hc2, hc3, hc4, hc5⟩ := HSX.out _ Y.out.rl.bel
       have hlk := HL.out.1 (cAt cs k) (by rw [cAt_lt hlt]; exact List.getElem_mem _)
       have HST := Lib.hid (partD_step (cs := cs) (t := L) hlt)
       have HCN : Hid ((partD cs L k).length = cs.length) := Lib.hid (partD_len cs L hk)
       have HML : Hid ((canonL cs L).length ≤ cs.length) := Lib.hid (canonL_cells cs L)
       generalize hC : partD cs L k = C at HST HCN Y
       clear hC
       generalize hx : cAt cs k = x at HSX hc0 hc1 hc2 hc3 hc4 hc5 hlk HST
       clear hx
       have hz0 := hlk.1
       have hz1 := hlk.2
       clear hlk
       go_wp2_with (first
        | (refine wpList_store_V rfl 51 (.tmp 53) (.tmp 52) rfl ceV_len one_ce infoCe g _ k x _ rfl rfl rfl rfl 51 C Y.out.row (by rw [HCN.out]; exact hlt) ?_; intro w3 hR3 hg3; have Y3 := Lib.hid (Y.out.turn hR3 hg3); clear hR3 hg3 Y hc0 hc1 hc2 hc3 hc4 hc5)
        | (refine wpList_store_lk rfl (.tmp 58) _ rfl g _ k 0 rfl rfl rfl _ Y3.out.row (by rw [List.length_set, HCN.out]; exact hlt) ?_; intro w4 hR4 hg4; have Y4 := Lib.hid (Y3.out.turn hR4 hg4); clear hR4 hg4 Y3; rw [cAt_setK (by rw [HCN.out]; exact hlt), List.set_set] at Y4; obtain ⟨_, _, _, _, _, hd5⟩ := HSX.out w4 Y4.out.rl.bel; have HV := HVX.out w4 Y4.out.rl.bel))
       refine (leadsT_any HV x.p.lk hz0 hz1 (by omega) HL.out.2).mono ?_
       rintro e w' ⟨rfl, rfl⟩
       generalize leadsS L x.p.lk = y at HST ⊢
       by_cases hy : y = eT
       · have he := emp_yes hy
         have HN : Hid (Rc b g (partD cs L (k + 1)) A7 (canonL cs L).length c7 (canonL cs L) w w4) := Lib.hid (by
          have h1 := HST.out
          unfold numI at h1
          rw [if_pos hy] at h1
          rw [← h1]
          exact Y4.out)
         clear hy Y4 HV
         go_wp2_with fail
         go_roundw
         case rel => exact ⟨k + 1, by omega, by go_num, HN.out⟩
         case measure => simp [intOf]; omega
       · have he := emp_no hy
         have HY := Lib.hid hy
         clear hy HV
         go_wp2_with fail
         refine (placeT_any Y4.out.rl.tx.vs y (by have := HML.out; omega)).mono ?_
         rintro e w' ⟨rfl, rfl⟩
         have q0 := placeI_ge (canonL cs L) y
         have q1 := placeI_lt (canonL cs L) y
         have q2 : placeI (canonL cs L) y ≤ 60000 := by have := HML.out; omega
         clear q1
         have HNU : Hid (numI (canonL cs L) y = placeI (canonL cs L) y + 1) := Lib.hid (by unfold numI; rw [if_neg HY.out])
         generalize placeI (canonL cs L) y = q at q0 q2 HNU ⊢
         have q3 : 0 ≤ q + 1 := by omega
         go_wp2_with (refine wpList_store_lk rfl (.tmp 78) (.tmp 75) rfl g _ k _ rfl rfl rfl _ Y4.out.row (by rw [List.length_set, HCN.out]; exact hlt) ?_; intro w5 hR5 hg5; have Y5 := Lib.hid (Y4.out.turn hR5 hg5); clear hR5 hg5)
         have HN : Hid (Rc b g (partD cs L (k + 1)) A7 (canonL cs L).length c7 (canonL cs L) w w5) := Lib.hid (by
          have h1 := Y5.out
          rw [cAt_setK (by rw [HCN.out]; exact hlt), List.set_set] at h1
          rw [← HST.out, HNU.out]
          exact h1)
         clear Y4 Y5
         go_wp2_with fail
         go_roundw
         case rel => exact ⟨k + 1, by omega, by go_num, HN.out⟩
         case measure => simp [intOf]; omega
     · obtain rfl : k = cs.length := by omega
       have X : CnPost (canonC cs L) (canonL cs L) w (.returned (.tuple #[.slice (some ⟨g, 0, none⟩) cs.length cs.length, .slice A7 (canonL cs L).length c7])) wr := by
        have h1 := Y.out
        rw [partD_all] at h1
        have e2 := canonC_len cs L
        have hge := h1.ge
        rw [HB.out] at h1 hge
        refine ⟨h1.rl.bel, some ⟨g, 0, none⟩, cs.length, A7, c7, by rw [e2], ⟨rfl, by rw [e2]; exact Nat.le_refl _, by unfold maxLen; omega, fun _ => ⟨g, rfl, hge, h1.row⟩⟩, h1.rl.tx⟩
       clear Y
       go_wp2_with fail
       go_ret2
       exact X
open Go.RowKit
theorem retBR {a b : Bool} (h : a = b) : Ending.returned (.bool a) = .returned (.bool b) := by rw [h]
theorem comeS_append (m : Nat) (xs ys : List Ce) : comeS m (xs ++ ys) = (comeS m xs).bind fun k => comeS k ys := by
 induction xs generalizing m with
 | nil => rfl
 | cons a xs ih =>
  rw [List.cons_append, comeS, comeS]
  split
  · rfl
  · exact ih _
theorem comeS_step {cs : List Ce} {k t : Nat} (hk : k < cs.length) (h : comeS 0 (cs.take k) = some t) : comeS 0 (cs.take (k + 1)) = if (t : Int) + 1 < (cAt cs k).p.lk then none else some (max t (cAt cs k).p.lk.toNat) := by
 rw [List.take_succ_eq_append_getElem hk, comeS_snoc, h, cAt_lt hk]
 rfl
theorem comeS_none {cs : List Ce} {k : Nat} (h : comeS 0 (cs.take k) = none) : comeS 0 cs = none := by
 rw [← List.take_append_drop k cs, comeS_append, h]
 rfl
theorem ord_long {cs : List Ce} {l : List ByteArray} (h : ¬ l.length ≤ 16) : ordC cs l = false := by unfold ordC; rw [decide_eq_false h]; rfl
theorem ord_bad {cs : List Ce} {l : List ByteArray} {s : ByteArray} (hs : s ∈ l) (h : mayT s = false) : ordC cs l = false := by
 unfold ordC
 rw [decide_eq_false (show ¬ ∀ s ∈ l, mayT s = true from fun x => by rw [x s hs] at h; cases h)]
 simp
theorem ord_twice {cs : List Ce} {l : List ByteArray} (h : ¬ l.Nodup) : ordC cs l = false := by
 unfold ordC
 rw [decide_eq_false h]
 simp
theorem ord_come {cs : List Ce} {l : List ByteArray} (h : comeS 0 cs = none) : ordC cs l = false := by unfold ordC; rw [h]; simp
theorem ord_all {cs : List Ce} {l : List ByteArray} {t : Nat} (h1 : l.length ≤ 16) (h2 : ∀ s ∈ l, mayT s = true) (h3 : l.Nodup) (h4 : comeS 0 cs = some t) : ordC cs l = decide ((t : Int) = (l.length : Int)) := by
 unfold ordC
 rw [decide_eq_true h1, decide_eq_true h2, decide_eq_true h3, h4]
 simp only [Bool.and_true, Bool.true_and, Option.some.injEq]
 rw [decide_eq_decide]
 omega
theorem nodup_take_snoc {l : List ByteArray} {k : Nat} (hk : k < l.length) (h : (l.take k).Nodup) (hn : sAt l k ∉ l.take k) : (l.take (k + 1)).Nodup := by
 rw [take_snocT hk, List.nodup_append]
 refine ⟨h, by simp, fun x hx y hy e => hn ?_⟩
 rw [← List.mem_singleton.1 hy, ← e]
 exact hx
set_option maxHeartbeats 4000000 in
theorem lRight_any {w : World} {A A' : Option Addr} {n c m c' : Nat} {cs : List Ce} {L : List ByteArray} (h : Vs ceV w A n cs) (h' : Vs stV w A' m L) (hl : ∀ x ∈ cs, 0 ≤ x.p.lk ∧ x.p.lk ≤ 65535) (hs : ∀ s ∈ L, s.size ≤ 140737488351232) (hn : n ≤ 60000) (hm : m ≤ 60000) (hmc : m ≤ c') :
  Calls Tryd.prog 40 #[.slice A n c, .slice A' m c'] w fun e w' => e = .returned (.bool (ordC cs L)) ∧ Below w.heap.size w w' := by
 obtain rfl := h.len
 obtain rfl := h'.len
 have H := Lib.hid (And.intro h h')
 have HL := Lib.hid (And.intro hl hs)
 clear h h' hl hs
 by_cases h16 : L.length ≤ 16
 · go_enter Tryd.func40, Tryd.ntmps40
   go_wp2
   go_loop [16] (fun i => ∃ k : Nat, k ≤ L.length ∧ i = .int .i64 k ∧ (∀ s ∈ L.take k, mayT s = true) ∧ (L.take k).Nodup) (fun i => L.length - (intOf i).toNat)
   case atStart => exact ⟨0, Nat.zero_le _, rfl, by simp, by simp⟩
   case round =>
    obtain ⟨k, hk, rfl, h1, h2⟩ := hrel
    have Y := Lib.hid (And.intro h1 h2)
    clear h1 h2
    by_cases hlt : k < L.length
    · obtain ⟨ad, rfl⟩ := H.out.2.addr (by omega)
      have hc := H.out.2.str hlt
      have hx := HL.out.2 _ (sAt_mem hlt)
      have HM := Lib.hid (sAt_mem hlt)
      have HT := Lib.hid (take_snocT hlt)
      have HND := Lib.hid (nodup_take_snoc hlt Y.out.2)
      have HF := Lib.hid (H.out.2.front stV_len (k := k) hk)
      have hin : Hid (sAt L k ∈ L.take k → ¬ L.Nodup) := Lib.hid (fun hi hd => not_in_take hd hlt hi)
      generalize sAt L k = x at hc hx HM HT HND hin
      go_wp2_with fail
      refine (mayT_any x _ hx).mono ?_
      rintro e w' ⟨rfl, rfl⟩
      cases hmx : mayT x
      · have X : Hid (ordC cs L = false) := Lib.hid (ord_bad HM.out hmx)
        clear hmx
        go_wp2_with fail
        go_ret
        exact ⟨retBR X.out.symm, Below.refl _ _⟩
      · have HMX := Lib.hid hmx
        clear hmx
        go_wp2_with fail
        refine (hasT_any HF.out x (by omega)).mono ?_
        rintro e w' ⟨rfl, rfl⟩
        by_cases hp : x ∈ L.take k
        · have X : Hid (ordC cs L = false) := Lib.hid (ord_twice (hin.out hp))
          have e1 : decide (0 ≤ placeI (L.take k) x) = true := by
           obtain ⟨j, _, e, _, _⟩ := placeI_mem hp
           rw [e]; simp
          rw [e1]
          clear e1 hp
          go_wp2_with fail
          go_ret
          exact ⟨retBR X.out.symm, Below.refl _ _⟩
        · have e1 : decide (0 ≤ placeI (L.take k) x) = false := by rw [placeI_none.2 hp]; decide
          rw [e1]
          have HP := Lib.hid hp
          clear e1 hp
          go_wp2_with fail
          go_round
          case rel =>
           refine ⟨k + 1, by omega, by go_num, ?_, HND.out HP.out⟩
           rw [HT.out]
           intro s hs
           rcases List.mem_append.1 hs with hs | hs
           · exact Y.out.1 s hs
           · rw [List.mem_singleton.1 hs]; exact HMX.out
          case measure => simp [intOf]; omega
    · have e : L.take k = L := List.take_of_length_le (by omega)
      rw [e] at Y
      clear e
      go_wp2_with fail
      go_loopw [7, 34] (fun o i wr => ∃ (k t : Nat), k ≤ cs.length ∧ t ≤ 65535 ∧ i = .int .i64 k ∧ o = .int .i64 t ∧ comeS 0 (cs.take k) = some t ∧ Below w.heap.size w wr) (fun _ i _ => cs.length - (intOf i).toNat)
      case atStart => exact ⟨0, 0, Nat.zero_le _, by omega, rfl, rfl, rfl, Below.refl _ _⟩
      case round =>
       obtain ⟨k, t, hk, ht, rfl, rfl, hcm, hb⟩ := hrel
       have Z := Lib.hid (And.intro hcm hb)
       clear hcm hb
       by_cases hlt : k < cs.length
       · obtain ⟨ad, rfl⟩ := H.out.1.addr (by omega)
         obtain ⟨hc0, hc1, hc2, hc3, hc4, hc5⟩ := (H.out.1.below Z.out.2).six hlt
         have hlk := HL.out.1 (cAt cs k) (by rw [cAt_lt hlt]; exact List.getElem_mem _)
         have HC := Lib.hid (comeS_step hlt Z.out.1)
         generalize cAt cs k = x at hc0 hc1 hc2 hc3 hc4 hc5 hlk HC
         obtain ⟨q, hq⟩ : ∃ q : Nat, x.p.lk = (q : Int) := ⟨x.p.lk.toNat, by omega⟩
         rw [hq] at hc5 hlk HC
         have hq1 : q ≤ 65535 := by omega
         have HB1 := Lib.hid (Z.out.2.alloc Z.out.2.size (.cells #[.int .i32 x.r, .int .u8 x.wd, .int .u32 x.p.fg, .int .u32 x.p.bg, .int .u8 x.p.st, .int .u16 q] 51))
         clear hlk hq
         by_cases hgt : (t : Int) + 1 < (q : Int)
         · have X : Hid (ordC cs L = false) := Lib.hid (ord_come (comeS_none (HC.out.trans (if_pos hgt))))
           go_wp2_with fail
           go_ret
           exact ⟨retBR X.out.symm, HB1.out⟩
         · have HC1 : Hid (comeS 0 (cs.take (k + 1)) = some (max t q)) := Lib.hid (HC.out.trans (if_neg hgt))
           have hmax : max (t : Int) (q : Int) = ((max t q : Nat) : Int) := by omega
           have htq : max t q ≤ 65535 := by omega
           generalize max t q = t' at HC1 hmax htq
           go_wp2_with fail
           go_roundw
           case rel => exact ⟨k + 1, t', by omega, htq, by go_num, rfl, HC1.out, HB1.out⟩
           case measure => simp [intOf]; omega
       · have e : cs.take k = cs := List.take_of_length_le (by omega)
         have X : Hid (ordC cs L = decide ((t : Int) = (L.length : Int))) := Lib.hid (ord_all h16 Y.out.1 Y.out.2 (by rw [← e]; exact Z.out.1))
         clear e
         go_wp2_with fail
         go_ret
         exact ⟨retBR (X.out.trans (by first | rfl | (rw [Bool.eq_iff_iff]; simp))).symm, Z.out.2⟩
 · have X : Hid (ordC cs L = false) := Lib.hid (ord_long h16)
   have hgt : (16 : Int) < (L.length : Int) := by omega
   go_enter Tryd.func40, Tryd.ntmps40
   go_wp2_with fail
   go_ret
   exact ⟨retBR X.out.symm, Below.refl _ _⟩
open Go.RowKit
structure ScR where
 c : Int
 r : Int
 A : Option Addr
 n : Nat
 k : Nat
 x : Int
 y : Int
 hid : Bool
 mouse : Int
 ttl : ByteArray
 T : Option Addr
 m : Nat
 q : Nat
def scrA (s : ScR) : Array Value := #[.int .i64 s.c, .int .i64 s.r, .slice s.A s.n s.k, .int .i64 s.x, .int .i64 s.y, .bool s.hid, .int .u8 s.mouse, .string s.ttl, .slice s.T s.m s.q]
structure ScIn (w : World) (s : ScR) (S : Sc) : Prop where
 c : S.c = s.c
 r : S.r = s.r
 x : S.x = s.x
 y : S.y = s.y
 hid : S.hid = s.hid
 mouse : S.mouse = s.mouse
 ttl : S.title = sL s.ttl
 cells : Vs ceV w s.A s.n S.cells
 links : Vs stV w s.T s.m S.links
 nk : s.n ≤ s.k
 n9 : s.n ≤ 9223372036854775807
 mq : s.m ≤ s.q
 lk : ∀ x ∈ S.cells, 0 ≤ x.p.lk ∧ x.p.lk ≤ 65535
 sz : ∀ u ∈ S.links, u.size ≤ 140737488351232
 tz : s.ttl.size ≤ 140737488351232
theorem ScIn.below {w w' : World} {s : ScR} {S : Sc} (h : ScIn w s S) (hb : Below w.heap.size w w') : ScIn w' s S := { h with cells := h.cells.below hb, links := h.links.below hb }
theorem right_is (S : Sc) : rightSc S = (gridMay S.c S.r S.cells && ordS S.cells S.links && tMay S.title && decide (S.mouse ≤ 2) && decide (0 ≤ S.x) && decide (S.x < S.c) && decide (0 ≤ S.y) && decide (S.y < S.r)) := by
 unfold rightSc tMay
 rw [Bool.eq_iff_iff]
 simp only [Bool.and_eq_true, decide_eq_true_eq]
 constructor
 · rintro ⟨⟨⟨⟨⟨⟨h1, h2⟩, h3⟩, h4⟩, h5⟩, h6⟩, h7⟩
   exact ⟨⟨⟨⟨⟨⟨⟨h1, h2⟩, ⟨⟨h5, h6⟩, h7⟩⟩, h4⟩, h3.1⟩, h3.2.1⟩, h3.2.2.1⟩, h3.2.2.2⟩
 · rintro ⟨⟨⟨⟨⟨⟨⟨h1, h2⟩, ⟨⟨h5, h6⟩, h7⟩⟩, h4⟩, h8⟩, h9⟩, h10⟩, h11⟩
   exact ⟨⟨⟨⟨⟨⟨h1, h2⟩, h8, h9, h10, h11⟩, h4⟩, h5⟩, h6⟩, h7⟩
set_option maxHeartbeats 6400000 in
set_option maxRecDepth 100000 in
theorem rightT_any {w : World} {s : ScR} {S : Sc} (hT : Tabs w) (h : ScIn w s S) (hn : s.n ≤ 60000) (hm : s.m ≤ 60000) :
  Calls Tryd.prog 23 #[.agg (scrA s)] w fun e w' => e = .returned (.bool (rightSc S)) ∧ Below w.heap.size w w' := by
 have HR := Lib.hid (right_is S)
 generalize rightSc S = RS at HR ⊢
 have HT := Lib.hid hT
 have HS := Lib.hid h
 obtain ⟨b, hb⟩ : ∃ b, b = w.heap.size := ⟨_, rfl⟩
 obtain ⟨w1, hw1⟩ : ∃ w1, w1 = w.alloc (.cells (scrA s) 25) := ⟨_, rfl⟩
 obtain ⟨w2, hw2⟩ : ∃ w2, w2 = w1.alloc (.cells (gV s.c s.r s.A s.n s.k) 61) := ⟨_, rfl⟩
 have hb1 : Below w.heap.size w w1 := by rw [hw1]; exact (Below.refl _ _).alloc (Nat.le_refl _) _
 have hb2 : Below w.heap.size w w2 := by rw [hw2]; exact hb1.alloc hb1.size _
 have h12 : Below w1.heap.size w1 w2 := by rw [hw2]; exact (Below.refl _ _).alloc (Nat.le_refl _) _
 have hlt : b < w1.heap.size := by rw [hw1, hb]; simp
 have H1 : ∀ k v, (scrA s)[k]? = some v → w1.cell? ⟨b, k, none⟩ = some v := fun k v hv => by
  rw [hw1, hb]
  exact newCell w _ _ k hv
 have HC := Lib.hid (show ∀ w', Below w2.heap.size w2 w' → w'.cell? ⟨b, 0, none⟩ = some (.int .i64 s.c) ∧ w'.cell? ⟨b, 1, none⟩ = some (.int .i64 s.r) ∧ w'.cell? ⟨b, 2, none⟩ = some (.slice s.A s.n s.k) ∧ w'.cell? ⟨b, 3, none⟩ = some (.int .i64 s.x) ∧ w'.cell? ⟨b, 4, none⟩ = some (.int .i64 s.y) ∧ w'.cell? ⟨b, 6, none⟩ = some (.int .u8 s.mouse) ∧ w'.cell? ⟨b, 7, none⟩ = some (.string s.ttl) ∧ w'.cell? ⟨b, 8, none⟩ = some (.slice s.T s.m s.q) from fun w' hb' => by
  have hs := h12.size
  have hc : ∀ k, w'.cell? ⟨b, k, none⟩ = w1.cell? ⟨b, k, none⟩ := fun k => (hb'.cell (p := ⟨b, k, none⟩) (by show b < _; omega)).trans (h12.cell (p := ⟨b, k, none⟩) hlt)
  simp only [hc]
  exact ⟨H1 0 _ rfl, H1 1 _ rfl, H1 2 _ rfl, H1 3 _ rfl, H1 4 _ rfl, H1 6 _ rfl, H1 7 _ rfl, H1 8 _ rfl⟩)
 have c0 : w1.cell? ⟨b, 0, none⟩ = some (.int .i64 s.c) := H1 0 _ rfl
 have c1 : w1.cell? ⟨b, 1, none⟩ = some (.int .i64 s.r) := H1 1 _ rfl
 have c2 : w1.cell? ⟨b, 2, none⟩ = some (.slice s.A s.n s.k) := H1 2 _ rfl
 have HBZ := Lib.hid hb2
 have HM := Lib.hid (gMay_any (c := s.c) (r := s.r) (k := s.k) (HS.out.cells.below hb2) (HT.out.below hb2 (Nat.le_refl _)) HS.out.nk HS.out.n9)
 have HLK := Lib.hid (fun w' (hb' : Below w.heap.size w w') => lRight_any (c := s.k) (HS.out.cells.below hb') (HS.out.links.below hb') HS.out.lk HS.out.sz hn hm HS.out.mq)
 rw [ord_is (fun x hx => (HS.out.lk x hx).1)] at HLK
 have HTM := Lib.hid (fun w' (hb' : Below w.heap.size w w') => titleMay_any s.ttl (HT.out.below hb' (Nat.le_refl _)) HS.out.tz)
 rw [HS.out.c, HS.out.r, HS.out.x, HS.out.y, HS.out.mouse, HS.out.ttl] at HR
 obtain ⟨MM, hMM⟩ : ∃ MM, gridMay s.c s.r S.cells = MM := ⟨_, rfl⟩
 obtain ⟨OO, hOO⟩ : ∃ OO, ordS S.cells S.links = OO := ⟨_, rfl⟩
 obtain ⟨TT, hTT⟩ : ∃ TT, tMay (sL s.ttl) = TT := ⟨_, rfl⟩
 rw [hMM] at HM HR
 rw [hOO] at HLK HR
 rw [hTT] at HTM HR
 clear hT h hb1 h12 hlt H1 hMM hOO hTT hb2 hn hm
 have hgv : gV s.c s.r s.A s.n s.k = #[.int .i64 s.c, .int .i64 s.r, .slice s.A s.n s.k] := rfl
 rw [hgv] at hw2 HM
 clear hgv
 unfold scrA at hw1 ⊢
 go_enter Tryd.func23, Tryd.ntmps23
 go_upto_region 1 with fail
 rw [← hw1, ← hb]
 clear hw1 hb
 go_upto_region 2 with fail
 obtain ⟨b2, hbb⟩ : ∃ b2, b2 = w1.heap.size := ⟨_, rfl⟩
 have HD := Lib.hid (show w2.cell? ⟨b2, 0, none⟩ = some (.int .i64 s.c) ∧ w2.cell? ⟨b2, 1, none⟩ = some (.int .i64 s.r) ∧ w2.cell? ⟨b2, 2, none⟩ = some (.slice s.A s.n s.k) from by
  rw [hw2, hbb]
  exact ⟨newCell w1 _ _ 0 rfl, newCell w1 _ _ 1 rfl, newCell w1 _ _ 2 rfl⟩)
 rw [← hw2, ← hbb]
 clear hw2 hbb c0 c1 c2
 obtain ⟨d0, d1, d2⟩ := HD.out
 go_wp2_with fail
 refine HM.out.mono ?_
 rintro e w3 ⟨rfl, hb3⟩
 have H3 := Lib.hid (HBZ.out.trans (hb3.mono HBZ.out.size))
 have H23 := Lib.hid hb3
 obtain ⟨a0, a1, a2, a3, a4, a6, a7, a8⟩ := HC.out w3 hb3
 clear hb3 d0 d1 d2
 cases MM
 · have E := Lib.hid (show RS = false from by rw [HR.out]; simp)
   go_wp2_with fail
   go_ret
   exact ⟨by rw [E.out]; rfl, H3.out⟩
 go_wp2_with fail
 refine (HLK.out w3 H3.out).mono ?_
 rintro e w4 ⟨rfl, hb4⟩
 have H4 := Lib.hid (H3.out.trans (hb4.mono H3.out.size))
 have H24 := Lib.hid (H23.out.trans (hb4.mono H23.out.size))
 clear hb4 a0 a1 a2 a3 a4 a6 a7 a8
 obtain ⟨a0, a1, a2, a3, a4, a6, a7, a8⟩ := HC.out w4 H24.out
 cases OO
 · have E := Lib.hid (show RS = false from by rw [HR.out]; simp)
   go_wp2_with fail
   go_ret
   exact ⟨by rw [E.out]; rfl, H4.out⟩
 go_wp2_with fail
 refine (HTM.out w4 H4.out).mono ?_
 rintro e w5 ⟨rfl, hb5⟩
 have H5 := Lib.hid (H4.out.trans (hb5.mono H4.out.size))
 have H25 := Lib.hid (H24.out.trans (hb5.mono H24.out.size))
 clear hb5 a0 a1 a2 a3 a4 a6 a7 a8
 obtain ⟨a0, a1, a2, a3, a4, a6, a7, a8⟩ := HC.out w5 H25.out
 cases TT
 · have E := Lib.hid (show RS = false from by rw [HR.out]; simp)
   go_wp2_with fail
   go_ret
   exact ⟨by rw [E.out]; rfl, H5.out⟩
 by_cases hm : s.mouse ≤ 2
 case neg =>
  have E := Lib.hid (show RS = false from by rw [HR.out, decide_eq_false hm]; simp)
  go_wp2_with fail
  go_ret
  exact ⟨by rw [E.out]; rfl, H5.out⟩
 by_cases hx0 : 0 ≤ s.x
 case neg =>
  have E := Lib.hid (show RS = false from by rw [HR.out, decide_eq_false hx0]; simp)
  go_wp2_with fail
  go_ret
  exact ⟨by rw [E.out]; rfl, H5.out⟩
 by_cases hx1 : s.x < s.c
 case neg =>
  have E := Lib.hid (show RS = false from by rw [HR.out, decide_eq_false hx1]; simp)
  go_wp2_with fail
  go_ret
  exact ⟨by rw [E.out]; rfl, H5.out⟩
 by_cases hy0 : 0 ≤ s.y
 case neg =>
  have E := Lib.hid (show RS = false from by rw [HR.out, decide_eq_false hy0]; simp)
  go_wp2_with fail
  go_ret
  exact ⟨by rw [E.out]; rfl, H5.out⟩
 by_cases hy1 : s.y < s.r
 case neg =>
  have E := Lib.hid (show RS = false from by rw [HR.out, decide_eq_false hy1]; simp)
  go_wp2_with fail
  go_ret
  exact ⟨by rw [E.out, decide_eq_false (Int.not_lt.2 hy1)]; rfl, H5.out⟩
 have E := Lib.hid (show RS = true from by rw [HR.out, decide_eq_true hm, decide_eq_true hx0, decide_eq_true hx1, decide_eq_true hy0, decide_eq_true hy1]; rfl)
 go_wp2_with fail
 go_ret
 exact ⟨by rw [E.out]; rfl, H5.out⟩
open Go.RowKit
section
variable {B : Nat} {w : World} {g : Nat} {x : CT} {A : Option Addr} {n c : Nat} {ps : List Int}
theorem scZ_one : scZ.all (·.oneCell') = true := by
 rw [Array.all_eq_true_iff_forall_mem]
 intro v hv
 simp only [scZ, List.mem_toArray, List.mem_cons, List.not_mem_nil, or_false] at hv
 rcases hv with rfl | rfl | rfl | rfl | rfl | rfl | rfl | rfl | rfl <;> rfl
set_option maxRecDepth 100000 in
theorem screenNil_any (w : World) : Calls Tryd.prog 38 #[.pointer none] w fun e w' => e = .returned (.agg scZ) ∧ Below w.heap.size w w' := by
 obtain ⟨w1, hw1⟩ : ∃ w1, w1 = w.alloc (.cells scZ 25) := ⟨_, rfl⟩
 have H1 := Lib.hid (show Below w.heap.size w w1 ∧ w1.heap[w.heap.size]? = some (.cells scZ 25 (0, 0)) from by rw [hw1]; exact ⟨(Below.refl _ _).alloc (Nat.le_refl _) _, heap_alloc_new w _⟩)
 unfold scZ at hw1
 go_enter Tryd.func38, Tryd.ntmps38
 go_upto_region 1 with fail
 rw [← hw1]
 clear hw1
 go_wp2_with (refine wpList_store_row rfl 25 (.tmp 2) (.tmp 8) rfl w.heap.size scZ rfl rfl 25 scZ H1.out.2 info56 rfl scZ_one ?_)
 refine bodyPost_ret (results_cell_row rfl _ _ w.heap.size 25 scZ (0, 0) _ rfl (setRow_heap w1 _ _ _ _ _ H1.out.2) Tryd.underlying25 rfl info56) rfl ?_
 exact ⟨rfl, below_setRow H1.out.1 (Nat.le_refl _) _⟩
end
def PRow (P : Int → Prop) (L : List Ce) : Prop := ∀ c ∈ L, P c.p.lk
def PRws (P : Int → Prop) (LL : Rws) : Prop := ∀ L ∈ LL, PRow P L
section
variable {P : Int → Prop} {L M : List Ce} {LL : Rws}
theorem prow_rep {n : Nat} {c : Ce} (h : P c.p.lk) : PRow P (List.replicate n c) := fun d hd => by rw [List.eq_of_mem_replicate hd]; exact h
theorem prws_blank (h0 : P 0) (c r : Nat) : PRws P (blankR c r) := fun L hL => by rw [List.eq_of_mem_replicate hL]; exact prow_rep h0
theorem prws_flat (h : PRws P LL) : ∀ c ∈ LL.flatten, P c.p.lk := fun c hc => by
 obtain ⟨L, hL, hc⟩ := List.mem_flatten.1 hc
 exact h L hL c hc
end
theorem leads_inv {t : List ByteArray} {n : Int} (h : leadsS t n ≠ eT) : ∃ k : Nat, n = (k : Int) + 1 ∧ k < t.length ∧ sAt t k ≠ eT := by
 by_cases h1 : n < 1 ∨ (t.length : Int) < n
 · exact absurd (leads_out h1) h
 · refine ⟨n.toNat - 1, by omega, by omega, fun e => h ?_⟩
   unfold leadsS textI
   rw [if_neg h1, e, if_neg (by rw [eT_not]; simp)]
/-! ### Links that lead somewhere -/
def LkP (tb : List ByteArray) (n : Int) : Prop := n = 0 ∨ leadsS tb n ≠ eT
structure LkOk (t : Tm) : Prop where
 main : PRws (LkP t.table) t.main
 other : PRws (LkP t.table) t.other
 pen : LkP t.table t.now.pen.lk
 sav : LkP t.table t.sav.pen.lk
namespace LkOk
variable {t u : Tm}
theorem shown (h : LkOk t) : PRws (LkP t.table) t.shown := by unfold Tm.shown; split; exact h.other; exact h.main
theorem fresh (c r : Nat) : LkOk (tmNew c r) := ⟨prws_blank (.inl rfl) c r, prws_blank (.inl rfl) c r, .inl rfl, .inl rfl⟩
end LkOk
open Go.RowKit
section
variable {B : Nat} {w : World} {g : Nat} {x : CT}
theorem LkP.rng {tb : List ByteArray} {n : Int} (h : LkP tb n) (ht : tb.length ≤ 16) : 0 ≤ n ∧ n ≤ 65535 := by
 rcases h with rfl | h
 · omega
 · obtain ⟨k, rfl, hk, _⟩ := leads_inv h
   omega
end
open Go.RowKit
theorem u8_nil : U8s [] := fun z hz => by cases hz
structure Sane (t : Tm) : Prop where
 lk : LkOk t
 tx : U8s t.p.tx
namespace Sane
variable {t : Tm}
theorem fresh (c r : Nat) : Sane (tmNew c r) := ⟨LkOk.fresh c r, u8_nil⟩
end Sane
open Go.RowKit
theorem numI_rng (l : List ByteArray) (s : ByteArray) : 0 ≤ numI l s ∧ numI l s ≤ l.length := by
 unfold numI
 have h1 := placeI_ge l s
 have h2 := placeI_lt l s
 split <;> omega
section
variable {B : Nat} {w : World} {g : Nat} {x : CT}
structure ScOwn (base : Nat) (w : World) (s : ScR) (S : Sc) : Prop where
 sc : ScIn w s S
 cx : Cx base w s.A s.n s.k S.cells
 tx : Tx base w s.T s.m s.q S.links
 n : s.n ≤ 1920
 m : s.m ≤ 16
theorem ScOwn.below {base : Nat} {w w' : World} {s : ScR} {S : Sc} (h : ScOwn base w s S) (hb : Below w.heap.size w w') : ScOwn base w' s S := ⟨h.sc.below hb, h.cx.below hb, h.tx.below hb, h.n, h.m⟩
theorem screenS_any (h : Cz B w g x) (hs : Sane x.t) : Calls Tryd.prog 38 #[.pointer (some ⟨g, 0, none⟩)] w fun e w' => Below w.heap.size w w' ∧ ∃ s : ScR, e = .returned (.agg (scrA s)) ∧ ScOwn w.heap.size w' s x.t.screen := by
 have htb := h.ok.tbl
 refine (screen_any h fun ce hce => (prws_flat hs.lk.shown ce hce).rng htb).mono ?_
 rintro e w' ⟨hb, A, c, A', c', rfl, hc, ht⟩
 have hl := canonL_le x.t.shown.flatten x.t.table
 have hcl : (canonC x.t.shown.flatten x.t.table).length ≤ 1920 := by rw [canonC_len, h.ok.shown.box.flen]; exact h.ok.shown.small
 have hml := h.ok.title
 have htl : x.ttl.size ≤ 64 := by rw [← sL_len, h.tl]; exact hml.1
 refine ⟨hb, ⟨x.t.c, x.t.r, A, _, c, x.t.now.x, x.t.now.y, x.t.hid, x.t.mouse, x.ttl, A', _, c'⟩, rfl, ⟨⟨rfl, rfl, rfl, rfl, rfl, rfl, h.tl.symm, hc.vs, ht.vs, hc.le, by show (canonC _ _).length ≤ _; omega, ht.le, ?_, ?_, by show x.ttl.size ≤ _; omega⟩, hc, ht, hcl, by show (canonL _ _).length ≤ 16; omega⟩⟩
 · intro y hy
   obtain ⟨z, _, rfl⟩ := List.mem_map.1 hy
   have := numI_rng (canonL x.t.shown.flatten x.t.table) (leadsS x.t.table z.p.lk)
   show 0 ≤ numI _ _ ∧ numI _ _ ≤ 65535
   omega
 · intro u hu
   have := h.bs u (canonL_may hu).2
   omega
structure ScC (w : World) (b : Nat) (s : ScR) : Prop where
 c0 : w.cell? ⟨b, 0, none⟩ = some (.int .i64 s.c)
 c1 : w.cell? ⟨b, 1, none⟩ = some (.int .i64 s.r)
 c2 : w.cell? ⟨b, 2, none⟩ = some (.slice s.A s.n s.k)
 c3 : w.cell? ⟨b, 3, none⟩ = some (.int .i64 s.x)
 c4 : w.cell? ⟨b, 4, none⟩ = some (.int .i64 s.y)
 c5 : w.cell? ⟨b, 5, none⟩ = some (.bool s.hid)
 c6 : w.cell? ⟨b, 6, none⟩ = some (.int .u8 s.mouse)
 c7 : w.cell? ⟨b, 7, none⟩ = some (.string s.ttl)
 c8 : w.cell? ⟨b, 8, none⟩ = some (.slice s.T s.m s.q)
 lt : b < w.heap.size
theorem ScC.new (w : World) (s : ScR) : ScC (w.alloc (.cells (scrA s) 25)) w.heap.size s :=
 ⟨newCell w _ _ 0 rfl, newCell w _ _ 1 rfl, newCell w _ _ 2 rfl, newCell w _ _ 3 rfl, newCell w _ _ 4 rfl, newCell w _ _ 5 rfl, newCell w _ _ 6 rfl, newCell w _ _ 7 rfl, newCell w _ _ 8 rfl, by simp⟩
theorem ScC.keep {w w' : World} {b : Nat} {s : ScR} (h : ScC w b s) (hs : w.heap.size ≤ w'.heap.size) (hb : w'.heap[b]? = w.heap[b]?) : ScC w' b s := by
 have hc : ∀ k, w'.cell? ⟨b, k, none⟩ = w.cell? ⟨b, k, none⟩ := fun k => World.cell?_of_block hb
 exact ⟨(hc 0).trans h.c0, (hc 1).trans h.c1, (hc 2).trans h.c2, (hc 3).trans h.c3, (hc 4).trans h.c4, (hc 5).trans h.c5, (hc 6).trans h.c6, (hc 7).trans h.c7, (hc 8).trans h.c8, Nat.lt_of_lt_of_le h.lt hs⟩
theorem ScC.below {w w' : World} {b : Nat} {s : ScR} (h : ScC w b s) (hb : Below w.heap.size w w') : ScC w' b s := h.keep hb.size (hb.block b h.lt)
end
open Go.RowKit
abbrev Cb (w : World) (g : Nat) (x : Ce) : Prop := Rw ceV 51 w g [x]
theorem Cb.new (w : World) (x : Ce) : Cb (w.alloc (.cells (ceA x) 51)) w.heap.size x := made_rw (f := ceV) w 51 [x]
theorem Cb.all {w : World} {g : Nat} {x : Ce} (h : Cb w g x) : w.cell? ⟨g, 0, none⟩ = some (.int .i32 x.r) ∧ w.cell? ⟨g, 1, none⟩ = some (.int .u8 x.wd) ∧ w.cell? ⟨g, 2, none⟩ = some (.int .u32 x.p.fg) ∧ w.cell? ⟨g, 3, none⟩ = some (.int .u32 x.p.bg) ∧ w.cell? ⟨g, 4, none⟩ = some (.int .u8 x.p.st) ∧ w.cell? ⟨g, 5, none⟩ = some (.int .u16 x.p.lk) :=
 ⟨h.cell (j := 0) rfl, h.cell (j := 1) rfl, h.cell (j := 2) rfl, h.cell (j := 3) rfl, h.cell (j := 4) rfl, h.cell (j := 5) rfl⟩
theorem Cx.grownP {base : Nat} {w w' : World} {A : Option Addr} {n c : Nat} {L : List Ce} (h : Cx base w A n c L) {row : Option Nat} (hg : w.grownBy w' row) (hne : 0 < n → ∀ g, A = some ⟨g, 0, none⟩ → row ≠ some g) : Cx base w' A n c L :=
 ⟨h.len, h.le, h.max, fun hn => by obtain ⟨g, e, hb, hR⟩ := h.own hn; exact ⟨g, e, hb, hR.grown hg (hne hn g e)⟩⟩
end Go.Proofs.YtikhknnhmnopbaaDoor
