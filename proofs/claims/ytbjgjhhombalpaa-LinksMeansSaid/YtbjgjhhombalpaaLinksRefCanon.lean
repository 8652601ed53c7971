/-
  Cells numbered anew: the reference's Canon.
-/
import Derived.Test.YtbjgjhhombalpaaLinksCanon2
import Derived.Test.YtbjgjhhombalpaaLinksIdx
namespace Go.Proofs.Ytbjgjhhombalpaa
open Go.RowKit

/-- The cells of the reference: the first k numbered anew, zeros behind. -/
def partD (cs : List Ce) (t : List ByteArray) (k : Nat) : List Ce := (cs.take k).map (fun c => setLk c (numI (canonL cs t) (leadsS t c.p.lk))) ++ List.replicate (cs.length - k) ce0
theorem partD_len (cs : List Ce) (t : List ByteArray) {k : Nat} (hk : k ≤ cs.length) : (partD cs t k).length = cs.length := by simp [partD]; omega
theorem partD_zero (cs : List Ce) (t : List ByteArray) : partD cs t 0 = List.replicate cs.length ce0 := by simp [partD]
theorem partD_all (cs : List Ce) (t : List ByteArray) : partD cs t cs.length = canonC cs t := by simp [partD, canonC]
theorem partD_step {cs : List Ce} {t : List ByteArray} {k : Nat} (hk : k < cs.length) :
    (partD cs t k).set k (setLk (cAt cs k) (numI (canonL cs t) (leadsS t (cAt cs k).p.lk))) = partD cs t (k + 1) := by
  unfold partD
  have hl : ((cs.take k).map (fun c => setLk c (numI (canonL cs t) (leadsS t c.p.lk)))).length = k := by simp; omega
  have hr : List.replicate (cs.length - k) ce0 = ce0 :: List.replicate (cs.length - (k + 1)) ce0 := by
    rw [← List.replicate_succ]
    congr 1
    omega
  rw [List.set_append_right _ _ (by omega), hl, Nat.sub_self, hr, List.set_cons_zero, List.take_succ_eq_append_getElem hk, List.map_append, List.append_assoc]
  rw [cAt_lt hk]
  rfl
theorem cAt_setK {C : List Ce} {k : Nat} (hk : k < C.length) (c : Ce) : cAt (C.set k c) k = c := by
  rw [cAt_lt (by rw [List.length_set]; exact hk), List.getElem_set_self]

/-- A number stored into a cell of a row, at the operation. -/
theorem wpList_store_lk {w : World} {ops : Array Oper} {rest : List Oper} {o : Oper} {a : Act} {Q : Exit → Act → World → Prop} (hgd : o.guard = none) (x y : Operand) (ho : o.op = .store 31 x y)
    (g off k : Nat) (z : Int) (hx : a.eval x = .pointer (some ⟨g, off, none⟩)) (hoff : off = k * 6 + 5) (hy : a.eval y = .int .u16 z) (C : List Ce) (hR : Rw ceV 51 w g C) (hk : k < C.length)
    (h : ∀ w', Rw ceV 51 w' g (C.set k (setLk (cAt C k) z)) → w.grownBy w' (some g) → wpList Try.prog ops Q rest (a.put o.dst undef) w') : wpList Try.prog ops Q (o :: rest) a w := by
  subst hoff
  have hc := hR.cell (rowV_get ceV_len (getElem?_cAt hk) (j := 5) rfl)
  have hf := hR.free (k * 6 + 5)
  have hrun : (Instr.storeAt 31 (.pointer (some ⟨g, k * 6 + 5, none⟩)) (.int .u16 z)).run Try.prog w = .ok () (w.setCell ⟨g, k * 6 + 5, none⟩ (.int .u16 z)) := by
    simp [go_sem, hc, hf]
  refine wpList_plain hgd fun K hK => ?_
  unfold Oper.wp
  simp [execOp, ho, hx, hy, hrun, Result.andThen]
  exact hK _ _ (h _ (hR.setLk hk z) (grownBy_set w ⟨g, k * 6 + 5, none⟩ _))
/-- What the reference's first loop keeps: the links. -/
structure Rl (b : Nat) (A7 : Option Addr) (m c7 : Nat) (l : List ByteArray) (w wr : World) : Prop where
  tx : Tx b wr A7 m c7 l
  bel : Below b w wr
  ge : b ≤ wr.heap.size
theorem Rl.more {b m c7 c' : Nat} {A7 A' : Option Addr} {l : List ByteArray} {w wr w3 : World} {x : ByteArray} (h : Rl b A7 m c7 l w wr) (hown : Tx b w3 A' (m + 1) c' (l ++ [x])) (hg : (wr.alloc (.cells #[.string x] 9)).grownBy w3 (Value.slice A7 m c7).ownBlock) : Rl b A' (m + 1) c' (l ++ [x]) w w3 := by
  have hge := h.ge
  have hs3 := hg.size
  simp at hs3
  exact ⟨hown, (h.bel.alloc hge _).grown hg (by simp; omega) fun k hk => h.tx.ownB k hk, by omega⟩
/-- What its second loop keeps: the cells besides. -/
structure Rc (b g : Nat) (C : List Ce) (A7 : Option Addr) (m c7 : Nat) (l : List ByteArray) (w wr : World) : Prop where
  rl : Rl b A7 m c7 l w wr
  row : Rw ceV 51 wr g C
  ge : b ≤ g
theorem rw_not_tx {base g n c : Nat} {w : World} {A : Option Addr} {C : List Ce} {L : List ByteArray} (h : Rw ceV 51 w g C) (h' : Tx base w A n c L) : (Value.slice A n c).ownBlock ≠ some g := by
  intro hk
  obtain ⟨r, hR⟩ := h
  rcases h'.own.2 with ⟨h1, _⟩ | ⟨g2, cap, cur, hv, _, hg, _⟩
  · rw [h1] at hk; cases hk
  · rw [hv] at hk
    injection hk with hk
    have hk' : g2 = g := hk
    subst hk'
    rw [hR] at hg
    injection hg with hg
    injection hg with _ hg _
    exact absurd hg (by decide)
theorem Rc.turn {b g m c7 : Nat} {C C' : List Ce} {A7 : Option Addr} {l : List ByteArray} {w wr w2 : World} (h : Rc b g C A7 m c7 l w wr) (hR : Rw ceV 51 w2 g C') (hg : wr.grownBy w2 (some g)) : Rc b g C' A7 m c7 l w w2 := by
  have hge := h.rl.ge
  have hs := hg.size
  refine ⟨⟨h.rl.tx.grown hg fun g2 e e2 => ?_, h.rl.bel.grown hg hge fun k hk => by injection hk with hk; have := h.ge; omega, by omega⟩, hR, h.ge⟩
  injection e2 with e2
  exact rw_not_tx h.row h.rl.tx (by rw [e, e2]; rfl)
theorem Rc.setLk {b g m c7 k : Nat} {C : List Ce} {A7 : Option Addr} {l : List ByteArray} {w wr : World} (h : Rc b g C A7 m c7 l w wr) (hk : k < C.length) (z : Int) :
    Rc b g (C.set k (Go.Proofs.Ytbjgjhhombalpaa.setLk (cAt C k) z)) A7 m c7 l w (wr.setCell ⟨g, k * 6 + 5, none⟩ (.int .u16 z)) :=
  h.turn (h.row.setLk hk z) (grownBy_set wr ⟨g, k * 6 + 5, none⟩ _)

set_option maxHeartbeats 4000000 in
theorem refCanon_any {w : World} {A A' : Option Addr} {n c m c' : Nat} {cs : List Ce} {L : List ByteArray} (h : Vs ceV w A n cs) (h' : Vs stV w A' m L) (hl : ∀ x ∈ cs, 0 ≤ x.p.lk ∧ x.p.lk ≤ 65535) (hs : ∀ s ∈ L, s.size ≤ 140737488351232) (hn : n ≤ 60000) (hm : m ≤ 60000) :
    Calls Try.prog 20 #[.slice A n c, .slice A' m c'] w (CnPost (canonC cs L) (canonL cs L) w) := by
  obtain rfl := h.len
  have hmk := make_any (P := Try.prog) 41 Try.underlying41 ce0 ceV_len (by omega) (b8 := 20) (by omega) infoCe3 cs.length (by omega)
  have H := Lib.hid (And.intro h h')
  have HL := Lib.hid (And.intro hl hs)
  clear h h' hl hs
  obtain ⟨b, hb⟩ : ∃ b, b = w.heap.size := ⟨_, rfl⟩
  have HB := Lib.hid hb
  clear hb
  go_enter Try.func20, Try.ntmps20
  go_wp2
  have HS : Hid (Rl b (some ⟨b, 0, none⟩) 0 0 (canonL (cs.take 0) L) w (w.alloc (.cells #[] 9))) := by
    refine Lib.hid ⟨?_, by rw [HB.out]; exact (Below.refl _ _).alloc (Nat.le_refl _) _, by simp [HB.out]⟩
    rw [HB.out]
    exact Tx.mk' (World.ownsRow_lit w #[] 0 (Nat.le_refl _) (by unfold maxLen; omega) rfl)
  rw [← HB.out] at ⊢
  generalize w.alloc (.cells #[] 9) = w1 at HS ⊢
  go_loopw [6, 7] (fun o i wr => ∃ (k m7 c7 : Nat) (A7 : Option Addr), k ≤ cs.length ∧ m7 ≤ k ∧ i = .int .i64 k ∧ o = .slice A7 m7 c7 ∧ Rl b A7 m7 c7 (canonL (cs.take k) L) w wr) (fun _ i _ => cs.length - (intOf i).toNat)
  case atStart => exact ⟨0, 0, 0, _, Nat.zero_le _, Nat.le_refl _, rfl, rfl, HS.out⟩
  case round =>
    obtain ⟨k, m7, c7, A7, hk, hmk7, rfl, rfl, hX⟩ := hrel
    have Y := Lib.hid hX
    clear hX HS
    by_cases hlt : k < cs.length
    · have hb' := Below.mono Y.out.bel (show w.heap.size ≤ b by rw [HB.out]; exact Nat.le_refl _)
      have hv := H.out.2.below hb'
      obtain ⟨ad, rfl⟩ := H.out.1.addr (by omega)
      obtain ⟨_, _, _, _, _, hc5⟩ := (H.out.1.below hb').six hlt
      have hlk := HL.out.1 (cAt cs k) (by rw [cAt_lt hlt]; exact List.getElem_mem _)
      have HCL := Lib.hid (canonL_take (cs := cs) (t := L) hlt)
      have HV := Lib.hid hv
      clear hv hb'
      generalize (cAt cs k).p.lk = z at hlk hc5 HCL
      have hz0 := hlk.1
      have hz1 := hlk.2
      clear hlk
      go_wp2_with fail
      refine (leadsT_any HV.out z hz0 hz1 (by omega) HL.out.2).mono ?_
      rintro e w' ⟨rfl, rfl⟩
      generalize leadsS L z = x at HCL ⊢
      obtain ⟨l, hl⟩ : ∃ l, canonL (cs.take k) L = l := ⟨_, rfl⟩
      rw [hl] at HCL Y
      clear hl
      by_cases hx : x = eT
      · have he := emp_yes hx
        have HN : Hid (Rl b A7 m7 c7 (canonL (cs.take (k + 1)) L) w wr) := Lib.hid (by rw [HCL.out, addT_old (Or.inl hx)]; exact Y.out)
        clear hx
        go_wp2_with fail
        go_roundw
        case rel => exact ⟨k + 1, m7, c7, A7, by omega, by omega, by go_num, rfl, HN.out⟩
        case measure => simp [intOf]; omega
      · have he := emp_no hx
        have HX := Lib.hid hx
        clear hx
        go_wp2_with fail
        refine (placeT_any Y.out.tx.vs x (by omega)).mono ?_
        rintro e w' ⟨rfl, rfl⟩
        by_cases hp : placeI l x = -1
        · have HP := Lib.hid (placeI_none.1 hp)
          rw [hp]
          clear hp
          go_wp2_with (at_builtin; refine wpList_appT _ rfl _ _ rfl b A7 m7 c7 l rfl (Y.out.tx.below ((Below.refl _ _).alloc (Nat.le_refl _) _)) (some ⟨wr.heap.size, 0, none⟩) 1 1 (m7 + 1) rfl [x] rfl (litT wr x) (by omega) (by have := Y.out.ge; simp; omega) ?_; intro A2 c2 w3 hown hg3)
          have HN : Hid (Rl b A2 (m7 + 1) c2 (canonL (cs.take (k + 1)) L) w w3) := Lib.hid (by rw [HCL.out, addT_new HX.out HP.out]; exact Y.out.more hown hg3)
          clear hown hg3
          go_wp2_with fail
          go_roundw
          case rel => exact ⟨k + 1, m7 + 1, c2, A2, by omega, by omega, by go_num, rfl, HN.out⟩
          case measure => simp [intOf]; omega
        · have hp0 : 0 ≤ placeI l x := by have := placeI_ge l x; omega
          have HN : Hid (Rl b A7 m7 c7 (canonL (cs.take (k + 1)) L) w wr) := Lib.hid (by rw [HCL.out, addT_old (Or.inr (mem_place.1 hp))]; exact Y.out)
          clear hp
          generalize placeI l x = y at hp0 ⊢
          go_wp2_with fail
          go_roundw
          case rel => exact ⟨k + 1, m7, c7, A7, by omega, by omega, by go_num, rfl, HN.out⟩
          case measure => simp [intOf]; omega
    · have e : cs.take k = cs := List.take_of_length_le (by omega)
      rw [e] at Y
      obtain rfl := Y.out.tx.len
      clear e
      go_wp2
      obtain ⟨g, hg⟩ : ∃ g, g = wr.heap.size := ⟨_, rfl⟩
      rw [← hg]
      have HS2 : Hid (Rc b g (partD cs L 0) A7 (canonL cs L).length c7 (canonL cs L) w (wr.alloc (.cells (rowV ceV (List.replicate cs.length ce0)).toArray 51))) := Lib.hid (by
        have hge := Y.out.ge
        refine ⟨⟨Y.out.tx.below ((Below.refl _ _).alloc (Nat.le_refl _) _), Y.out.bel.alloc hge _, by simp; omega⟩, ?_, by omega⟩
        rw [partD_zero, hg]
        exact made_rw wr 51 (List.replicate cs.length ce0))
      clear hg
      generalize wr.alloc (.cells (rowV ceV (List.replicate cs.length ce0)).toArray 51) = w2 at HS2 ⊢
      go_loopw [44] (fun i wr => ∃ (k : Nat), k ≤ cs.length ∧ i = .int .i64 k ∧ Rc b g (partD cs L k) A7 (canonL cs L).length c7 (canonL cs L) w wr) (fun i _ => cs.length - (intOf i).toNat)
      case atStart => exact ⟨0, Nat.zero_le _, rfl, HS2.out⟩
      case round =>
        obtain ⟨k, hk, rfl, hX⟩ := hrel
        have Y := Lib.hid hX
        clear hX HS2
        by_cases hlt : k < cs.length
        · obtain ⟨ad, rfl⟩ := H.out.1.addr (by omega)
          have HSX : Hid (∀ wx, Below b w wx → Six wx (ad.add (k * 6)) (cAt cs k)) := Lib.hid (fun wx hb => (H.out.1.below (Below.mono hb (by rw [HB.out]; exact Nat.le_refl _))).six hlt)
          have HVX : Hid (∀ wx, Below b w wx → Vs stV wx A' m L) := Lib.hid (fun wx hb => H.out.2.below (Below.mono hb (by rw [HB.out]; exact Nat.le_refl _)))
          obtain ⟨hc0, hc1, hc2, hc3, hc4, hc5⟩ := HSX.out _ Y.out.rl.bel
          have hlk := HL.out.1 (cAt cs k) (by rw [cAt_lt hlt]; exact List.getElem_mem _)
          have HST := Lib.hid (partD_step (cs := cs) (t := L) hlt)
          have HCN : Hid ((partD cs L k).length = cs.length) := Lib.hid (partD_len cs L hk)
          have HML : Hid ((canonL cs L).length ≤ cs.length) := Lib.hid (canonL_cells cs L)
          generalize hC : partD cs L k = C at HST HCN Y
          clear hC
          generalize hx : cAt cs k = x at HSX hc0 hc1 hc2 hc3 hc4 hc5 hlk HST
          clear hx
          have hz0 := hlk.1
          have hz1 := hlk.2
          clear hlk
          go_wp2_with (first
            | (refine wpList_store_V rfl 51 (.tmp 53) (.tmp 52) rfl ceV_len one_ce infoCe g _ k x _ rfl rfl rfl rfl 51 C Y.out.row (by rw [HCN.out]; exact hlt) ?_; intro w3 hR3 hg3; have Y3 := Lib.hid (Y.out.turn hR3 hg3); clear hR3 hg3 Y hc0 hc1 hc2 hc3 hc4 hc5)
            | (refine wpList_store_lk rfl (.tmp 58) _ rfl g _ k 0 rfl rfl rfl _ Y3.out.row (by rw [List.length_set, HCN.out]; exact hlt) ?_; intro w4 hR4 hg4; have Y4 := Lib.hid (Y3.out.turn hR4 hg4); clear hR4 hg4 Y3; rw [cAt_setK (by rw [HCN.out]; exact hlt), List.set_set] at Y4; obtain ⟨_, _, _, _, _, hd5⟩ := HSX.out w4 Y4.out.rl.bel; have HV := HVX.out w4 Y4.out.rl.bel))
          refine (leadsT_any HV x.p.lk hz0 hz1 (by omega) HL.out.2).mono ?_
          rintro e w' ⟨rfl, rfl⟩
          generalize leadsS L x.p.lk = y at HST ⊢
          by_cases hy : y = eT
          · have he := emp_yes hy
            have HN : Hid (Rc b g (partD cs L (k + 1)) A7 (canonL cs L).length c7 (canonL cs L) w w4) := Lib.hid (by
              have h1 := HST.out
              unfold numI at h1
              rw [if_pos hy] at h1
              rw [← h1]
              exact Y4.out)
            clear hy Y4 HV
            go_wp2_with fail
            go_roundw
            case rel => exact ⟨k + 1, by omega, by go_num, HN.out⟩
            case measure => simp [intOf]; omega
          · have he := emp_no hy
            have HY := Lib.hid hy
            clear hy HV
            go_wp2_with fail
            refine (placeT_any Y4.out.rl.tx.vs y (by have := HML.out; omega)).mono ?_
            rintro e w' ⟨rfl, rfl⟩
            have q0 := placeI_ge (canonL cs L) y
            have q1 := placeI_lt (canonL cs L) y
            have q2 : placeI (canonL cs L) y ≤ 60000 := by have := HML.out; omega
            clear q1
            have HNU : Hid (numI (canonL cs L) y = placeI (canonL cs L) y + 1) := Lib.hid (by unfold numI; rw [if_neg HY.out])
            generalize placeI (canonL cs L) y = q at q0 q2 HNU ⊢
            have q3 : 0 ≤ q + 1 := by omega
            go_wp2_with (refine wpList_store_lk rfl (.tmp 78) (.tmp 75) rfl g _ k _ rfl rfl rfl _ Y4.out.row (by rw [List.length_set, HCN.out]; exact hlt) ?_; intro w5 hR5 hg5; have Y5 := Lib.hid (Y4.out.turn hR5 hg5); clear hR5 hg5)
            have HN : Hid (Rc b g (partD cs L (k + 1)) A7 (canonL cs L).length c7 (canonL cs L) w w5) := Lib.hid (by
              have h1 := Y5.out
              rw [cAt_setK (by rw [HCN.out]; exact hlt), List.set_set] at h1
              rw [← HST.out, HNU.out]
              exact h1)
            clear Y4 Y5
            go_wp2_with fail
            go_roundw
            case rel => exact ⟨k + 1, by omega, by go_num, HN.out⟩
            case measure => simp [intOf]; omega
        · obtain rfl : k = cs.length := by omega
          have X : CnPost (canonC cs L) (canonL cs L) w (.returned (.tuple #[.slice (some ⟨g, 0, none⟩) cs.length cs.length, .slice A7 (canonL cs L).length c7])) wr := by
            have h1 := Y.out
            rw [partD_all] at h1
            have e2 := canonC_len cs L
            have hge := h1.ge
            rw [HB.out] at h1 hge
            refine ⟨h1.rl.bel, some ⟨g, 0, none⟩, cs.length, A7, c7, by rw [e2], ⟨rfl, by rw [e2]; exact Nat.le_refl _, by unfold maxLen; omega, fun _ => ⟨g, rfl, hge, h1.row⟩⟩, h1.rl.tx⟩
          clear Y
          go_wp2_with fail
          go_ret2
          exact X
end Go.Proofs.Ytbjgjhhombalpaa
