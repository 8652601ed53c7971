/-
  The reference's Insert.
-/
import Derived.Test.YtflnocgahdlojaaDoorCellRefPc
import Derived.Test.YtflnocgahdlojaaDoorCellRefRow
import Derived.LoopTactic
namespace Go.Proofs.YtflnocgahdlojaaDoor
open Go.RowKit

/-- The row of pieces that is put together, and what stays known beside it. -/
structure Out (w w3 : World) (g1 b : Nat) (p : Pn) (L : List Ce) (wr : World) (A : Option Addr) (m c : Nat) (Q : List Pc) : Prop where
  bel : Below w.heap.size w wr
  pen : Pen4 wr b p
  rwp : Rw pcV 87 wr g1 (piecesS L)
  own : wr.ownsRow w3.heap.size 87 7 (.slice A m c) m (rowV pcV Q)
  sz : w3.heap.size ≤ wr.heap.size
  hb : b < w3.heap.size
  hg : g1 < w3.heap.size
  w3 : w.heap.size ≤ w3.heap.size
  ln : Q.length = m
theorem Out.below {w w3 wr w' : World} {g1 b : Nat} {p : Pn} {L : List Ce} {A : Option Addr} {m c : Nat} {Q : List Pc} (h : Out w w3 g1 b p L wr A m c Q) (hb : Below wr.heap.size wr w') : Out w w3 g1 b p L w' A m c Q :=
  ⟨h.bel.trans (hb.mono h.bel.size), h.pen.below hb, h.rwp.below hb, h.own.kept (grownBy_below (row := none) hb) (by cases (Value.slice A m c).ownBlock <;> simp), Nat.le_trans h.sz hb.size, h.hb, h.hg, h.w3, h.ln⟩
theorem Out.app {w w3 wr w' : World} {g1 b : Nat} {p : Pn} {L : List Ce} {A A' : Option Addr} {m m' c c' : Nat} {Q Q' : List Pc} (h : Out w w3 g1 b p L wr A m c Q)
    (ho : w'.ownsRow w3.heap.size 87 7 (.slice A' m' c') m' (rowV pcV Q')) (hg : wr.grownBy w' (Value.slice A m c).ownBlock) (hl : Q'.length = m') : Out w w3 g1 b p L w' A' m' c' Q' :=
  ⟨Below.grown h.bel hg h.bel.size (fun k hk => by have := (h.own.lt k hk).1; have := h.w3; omega), h.pen.grown hg (fun e => by have := (h.own.lt _ e).1; have := h.hb; omega),
    h.rwp.grown hg (fun e => by have := (h.own.lt _ e).1; have := h.hg; omega), ho, Nat.le_trans h.sz hg.size, h.hb, h.hg, h.w3, hl⟩
theorem vs_one (w : World) (cs : Array Value) (t : TypeId) (x : Pc) (h : cs.toList = pcV x) : Vs pcV (w.alloc (.cells cs t)) (some ⟨w.heap.size, 0, none⟩) 1 [x] := by
  have h2 := (made_rw (f := pcV) w t [x]).vs
  have e : rowV pcV [x] = cs.toList := by rw [h]; simp [rowV]
  rw [e] at h2
  simpa using h2
theorem Rw.seven {w : World} {t : TypeId} {g : Nat} {P : List Pc} (h : Rw pcV t w g P) {k : Nat} (hk : k < P.length) : w.cell? ⟨g, k * 7, none⟩ = some (.int .i32 (pAt P k).1.r) ∧ w.cell? ⟨g, k * 7 + 1, none⟩ = some (.int .u8 (pAt P k).1.wd) ∧
    w.cell? ⟨g, k * 7 + 2, none⟩ = some (.int .u32 (pAt P k).1.p.fg) ∧ w.cell? ⟨g, k * 7 + 3, none⟩ = some (.int .u32 (pAt P k).1.p.bg) ∧ w.cell? ⟨g, k * 7 + 4, none⟩ = some (.int .u8 (pAt P k).1.p.st) ∧ w.cell? ⟨g, k * 7 + 5, none⟩ = some (.int .u16 (pAt P k).1.p.lk) ∧ w.cell? ⟨g, k * 7 + 6, none⟩ = some (.int .i64 (pAt P k).2) := by
  have h1 := h.get pcV_len (getElem?_pAt hk)
  exact ⟨h1 0 _ rfl, h1 1 _ rfl, h1 2 _ rfl, h1 3 _ rfl, h1 4 _ rfl, h1 5 _ rfl, h1 6 _ rfl⟩
theorem take_snocP (P : List Pc) {k : Nat} (h : k < P.length) : P.take (k + 1) = P.take k ++ [pAt P k] := by rw [List.take_add_one, getElem?_pAt h]; rfl
theorem rep_snocP (k : Nat) (x : Pc) : List.replicate (k + 1) x = List.replicate k x ++ [x] := List.replicate_succ'
theorem insR_len {L : List Ce} {a k : Nat} (p : Pn) (h : a + k ≤ L.length) : (insertR L a k p).length = L.length := by simp [insertR, piecesS_length]; omega
theorem delR_len {L : List Ce} {a k : Nat} (p : Pn) (h : a + k ≤ L.length) : (deleteR L a k p).length = L.length := by simp [deleteR, piecesS_length]; omega
theorem pc_from {L : List Ce} {P : List Pc} (hP : ∀ q ∈ P, q ∈ piecesS L ∨ q.2 = -10) (hL : L.length ≤ 80) : ∀ i, i < P.length → -1000 ≤ (pAt P i).2 ∧ (pAt P i).2 ≤ 1000 := by
  intro i hi
  have hm : pAt P i ∈ P := by
    have := getElem?_pAt hi
    exact List.mem_of_getElem? this
  rcases hP _ hm with h | h
  · obtain ⟨j, hj, he⟩ := List.getElem_of_mem h
    have hjl : j < L.length := by rw [piecesS_length] at hj; exact hj
    have h2 := pAt_piecesS hjl
    have h3 : pAt (piecesS L) j = pAt P i := by rw [← he]; simp [pAt, List.getD, List.getElem?_eq_getElem hj]
    rw [h3] at h2
    rw [h2]
    simp
    omega
  · rw [h]; omega
theorem insR_from {L : List Ce} {a k : Nat} (p : Pn) (hL : L.length ≤ 80) : ∀ i, i < (insertR L a k p).length → -1000 ≤ (pAt (insertR L a k p) i).2 ∧ (pAt (insertR L a k p) i).2 ≤ 1000 := by
  refine pc_from (fun q hq => ?_) hL
  unfold insertR at hq
  rcases List.mem_append.1 hq with h | h
  · exact .inl (List.mem_of_mem_take h)
  · rcases List.mem_append.1 h with h | h
    · rw [List.eq_of_mem_replicate h]; exact .inr rfl
    · exact .inl (List.mem_of_mem_drop (List.mem_of_mem_take h))
theorem delR_from {L : List Ce} {a k : Nat} (p : Pn) (hL : L.length ≤ 80) : ∀ i, i < (deleteR L a k p).length → -1000 ≤ (pAt (deleteR L a k p) i).2 ∧ (pAt (deleteR L a k p) i).2 ≤ 1000 := by
  refine pc_from (fun q hq => ?_) hL
  unfold deleteR at hq
  rcases List.mem_append.1 hq with h | h
  · exact .inl (List.mem_of_mem_take h)
  · rcases List.mem_append.1 h with h | h
    · exact .inl (List.mem_of_mem_drop h)
    · rw [List.eq_of_mem_replicate h]; exact .inr rfl
def insRS (L : List Ce) (x y : Int) (p : Pn) : List Ce := if 0 ≤ x ∧ x < L.length ∧ 1 ≤ y then mendS (insertR L x.toNat (min y (L.length - x)).toNat p) else L
def delRS (L : List Ce) (x y : Int) (p : Pn) : List Ce := if 0 ≤ x ∧ x < L.length ∧ 1 ≤ y then mendS (deleteR L x.toNat (min y (L.length - x)).toNat p) else L
/-- The length of a slice. -/
def lenOfS : Value → Nat
  | .slice _ n _ => n
  | _ => 0
set_option maxHeartbeats 3200000 in
set_option maxRecDepth 100000 in
theorem refInsert_at {w : World} {A : Option Addr} {n c : Nat} {L R : List Ce} (x y : Int) (p : Pn) (h : Vs ceV w A n L) (hn : n ≤ 1000000) {ok : Bool} (hok : (rowMay L && penMayS p) = ok) (hres : insRS L x y p = R) :
    Calls Tryd.prog 58 #[.slice A n c, .int .i64 x, .int .i64 y, .agg (pnA p)] w (OpPost R ok w) := by
  have HK := Lib.hid hok
  have HR := Lib.hid hres
  obtain ⟨w0, hw0⟩ : ∃ w0, w0 = w.alloc (.cells (pnA p) 29) := ⟨_, rfl⟩
  obtain ⟨b, hbe⟩ : ∃ b, b = w.heap.size := ⟨_, rfl⟩
  have H := Lib.hid (show Vs ceV w0 A n L ∧ Pen4 w0 b p ∧ Below w.heap.size w w0 ∧ w.heap.size = b from by
    rw [hw0, hbe]
    exact ⟨h.alloc _, pen4_new w p _, (Below.refl _ _).alloc (Nat.le_refl _) _, rfl⟩)
  have HL := Lib.hid h.len
  clear h hok hres
  unfold pnA at hw0
  go_enter Tryd.func58, Tryd.ntmps58
  unfold pnA
  go_upto_region 1 with fail
  rw [← hw0, ← hbe]
  clear hw0 hbe
  go_wp2_with fail
  refine (refRowMay_any H.out.1 (by omega)).mono ?_
  rintro e w1 ⟨rfl, hb⟩
  have X1 := Lib.hid (show Below w.heap.size w w1 ∧ Vs ceV w1 A n L ∧ Pen4 w1 b p from ⟨H.out.2.2.1.trans (hb.mono H.out.2.2.1.size), H.out.1.below hb, H.out.2.1.below hb⟩)
  clear hb
  obtain ⟨M1, hM1⟩ : ∃ M1, rowMay L = M1 := ⟨_, rfl⟩
  rw [hM1]
  have HM1 := Lib.hid hM1
  clear hM1
  cases M1
  · have hf : ok = false := by have := HK.out; rw [HM1.out] at this; simpa using this.symm
    subst hf
    have HP : Hid (OpPost R false w (.returned (.slice none 0 0)) w1) := ⟨fun e => (by cases e), fun _ => ⟨rfl, X1.out.1⟩⟩
    go_wp2_with fail
    go_ret
    exact HP.out
  obtain ⟨c0, c1, c2, c3, _⟩ := X1.out.2.2
  go_wp2_with fail
  refine (refPenMay_any p _).mono ?_
  rintro e w2 ⟨rfl, hb⟩
  have X := Lib.hid (show Below w.heap.size w w2 ∧ Vs ceV w2 A n L ∧ Pen4 w2 b p from ⟨X1.out.1.trans (hb.mono X1.out.1.size), X1.out.2.1.below hb, X1.out.2.2.below hb⟩)
  clear hb c0 c1 c2 c3 X1 H
  obtain ⟨M1, hM1⟩ : ∃ M1, penMayS p = M1 := ⟨_, rfl⟩
  rw [hM1]
  have HM2 := Lib.hid hM1
  clear hM1
  cases M1
  · have hf : ok = false := by have := HK.out; rw [HM2.out] at this; simpa using this.symm
    subst hf
    have HP : Hid (OpPost R false w (.returned (.slice none 0 0)) w2) := ⟨fun e => (by cases e), fun _ => ⟨rfl, X.out.1⟩⟩
    go_wp2_with fail
    go_ret
    exact HP.out
  have hf : ok = true := by have := HK.out; rw [HM1.out, HM2.out] at this; simpa using this.symm
  subst hf
  have hn80 : n ≤ 80 := by rw [← HL.out]; exact ((rowMay_iff L).1 HM1.out).le
  have hn1 : 1 ≤ n := by rw [← HL.out]; exact ((rowMay_iff L).1 HM1.out).pos
  by_cases hx1 : 0 ≤ x
  · by_cases hx2 : x < (n : Int)
    · by_cases hy : y < 1
      · have HPC : Hid (R = L) := by show R = L; rw [← HR.out]; unfold insRS; rw [if_neg (by have := HL.out; omega)]
        have HV2 := Lib.hid (X.out.2.1.alloc (.cells #[] 41))
        go_wp2_with (at_builtin; refine wpList_app_V _ rfl (.tmp 33) (.tmp 34) 22 rfl ceV_len one_ce w2.heap.size 41 _ 20 (by omega) Tryd.underlying22 infoCe3 rfl (by omega) (.slice (some ⟨w2.heap.size, 0, none⟩) 0 0) 0 [] rfl (World.ownsRow_lit w2 #[] 0 (Nat.le_refl _) (by unfold maxLen; omega) rfl) A n c n (by omega) L rfl HV2.out (by omega) (by simp) ?_; intro A' c' w5 hown hg; simp only [List.nil_append] at hown)
        obtain ⟨g5, rfl, hb5, hle5, hm5, hR5⟩ := own_some (by omega) hown
        have HP : Hid (OpPost R true w (.returned (.slice (some ⟨g5, 0, none⟩) n c')) w5) := by
          have hbw : Below w2.heap.size w2 w5 := ((Below.refl _ _).alloc (Nat.le_refl _) _).grown hg (by simp) (by intro k hk; have : w2.heap.size = k := (by simpa [Value.ownBlock] using hk); omega)
          rw [HPC.out]
          exact ⟨fun _ => ⟨X.out.1.trans (hbw.mono X.out.1.size), g5, c', by rw [HL.out], Nat.le_trans X.out.1.size hb5, by rw [HL.out]; exact hle5, hm5, hR5⟩, fun e => (by cases e)⟩
        clear hown hg hR5
        go_wp2_with fail
        go_ret
        exact HP.out
      · obtain ⟨a, rfl⟩ : ∃ a : Nat, x = (a : Int) := ⟨x.toNat, by omega⟩
        have ha : a < n := by omega
        obtain ⟨K, hmin⟩ : ∃ K : Nat, min y ((n : Int) - (a : Int)) = (K : Int) := ⟨(min y ((n : Int) - (a : Int))).toNat, by omega⟩
        have HMIN := Lib.hid hmin
        have hK1 : 1 ≤ K := by omega
        have hK2 : a + K ≤ n := by omega
        have HPC := Lib.hid (show mendS (insertR L a K p) = R from by rw [← HR.out]; unfold insRS; rw [if_pos (by have := HL.out; omega), HL.out, Int.toNat_natCast, show (min y ((n : Int) - (a : Int))).toNat = K by omega])
        have hy1 : 1 ≤ y := by omega
        clear hmin
        obtain ⟨d0, d1, d2, d3, _⟩ := X.out.2.2
        go_wp2_with fail
        refine (pieces_any X.out.2.1 (by omega)).mono ?_
        rintro e w3 ⟨hb, g1, c1, rfl, hg1, hk1, hm1, hR1⟩
        rw [piecesS_length, HL.out]
        rw [piecesS_length, HL.out] at hk1
        have Y := Lib.hid (show Below w.heap.size w w3 ∧ Pen4 w3 b p ∧ Rw pcV 87 w3 g1 (piecesS L) ∧ b < w3.heap.size ∧ g1 < w3.heap.size from ⟨X.out.1.trans (hb.mono X.out.1.size), X.out.2.2.below hb, hR1, by have := X.out.2.2.lt; have := hb.size; omega, hR1.lt⟩)
        have hvv := hR1.vs
        rw [piecesS_length, HL.out] at hvv
        have HVF := Lib.hid ((hvv.front pcV_len (k := a) (by omega)).alloc (.cells #[] 87))
        have HB3 := Lib.hid (show Below w3.heap.size w3 (w3.alloc (.cells #[] 87)) from (Below.refl _ _).alloc (Nat.le_refl _) _)
        have HBk := Lib.hid (show ∀ w' : World, Calls Tryd.prog 41 #[.agg #[.int .u32 p.fg, .int .u32 p.bg, .int .u8 p.st, .int .u16 p.lk]] w' fun e w'' => e = .returned (.agg #[.int .i32 32, .int .u8 0, .int .u32 0, .int .u32 p.bg, .int .u8 0, .int .u16 0]) ∧ Below w'.heap.size w' w'' from fun w' => refBlank_any p w')
        clear hb hg1 hR1 hm1 hvv d0 d1 d2 d3 X
        have hka : (a : Int) ≤ (c1 : Int) := by omega
        have hka2 : a ≤ c1 := by omega
        go_wp2_with (at_builtin; refine wpList_app_V _ rfl (.tmp 38) (.tmp 41) 84 rfl pcV_len one_pc w3.heap.size 87 _ 32 (by omega) Tryd.underlying84 infoPc3 rfl (by omega) (.slice (some ⟨w3.heap.size, 0, none⟩) 0 0) 0 [] rfl (World.ownsRow_lit w3 #[] 0 (Nat.le_refl _) (by unfold maxLen; omega) rfl) (some ⟨g1, 0, none⟩) a c1 a (by omega) ((piecesS L).take a) rfl HVF.out (by omega) (by simp) ?_; intro A' c' w5 hown hg)
        rw [List.nil_append] at hown
        have Z := Lib.hid (show Out w w3 g1 b p L w5 A' a c' ((piecesS L).take a) from ⟨Below.grown (Y.out.1.trans (HB3.out.mono Y.out.1.size)) hg (by have := Y.out.1.size; simp; omega) (fun k hk => by have : w3.heap.size = k := (by simpa [Value.ownBlock] using hk); have := Y.out.1.size; omega),
          (Y.out.2.1.below HB3.out).grown hg (fun e => by have : w3.heap.size = b := (by simpa [Value.ownBlock] using e); have := Y.out.2.2.2.1; omega), (Y.out.2.2.1.below HB3.out).grown hg (fun e => by have : w3.heap.size = g1 := (by simpa [Value.ownBlock] using e); have := Y.out.2.2.2.2; omega),
          hown, Nat.le_trans HB3.out.size hg.size, Y.out.2.2.2.1, Y.out.2.2.2.2, Y.out.1.size, by rw [List.length_take, piecesS_length, HL.out]; omega⟩)
        clear hown hg HVF hka hka2
        go_loopw [10, 11] (fun s i wr => ∃ (j : Nat) (A1 : Option Addr) (c1' m : Nat), j ≤ K ∧ i = .int .i64 j ∧ s = .slice A1 m c1' ∧ m = a + j ∧ Out w w3 g1 b p L wr A1 m c1' ((piecesS L).take a ++ List.replicate j (blankS p, -10))) (fun _ i _ => K - (intOf i).toNat)
        case atStart => exact ⟨0, A', c', a, Nat.zero_le _, rfl, rfl, by omega, by simpa using Z.out⟩
        case round =>
          obtain ⟨j, A1, c1', m, hj, rfl, rfl, hm, hO⟩ := hrel
          have Z := Lib.hid hO
          have hmA : m ≤ a + j := by omega
          have hmB : a + j ≤ m := by omega
          clear hO hm
          by_cases hjK : j < K
          · have d1 : decide ((j : Int) < y) = true := by have := HMIN.out; simp; omega
            have d2 : decide ((m : Int) < (n : Int)) = true := by simp; omega
            have d3 : (j : Int) < y := by have := HMIN.out; omega
            have d4 : (m : Int) < (n : Int) := by omega
            obtain ⟨d0, d1, d2, d3, _⟩ := Z.out.pen
            go_wp2_with fail
            refine (HBk.out _).mono ?_
            rintro e wq ⟨rfl, hb⟩
            have OW := Lib.hid (Z.out.below hb)
            clear hb d0 d1 d2 d3
            go_wp2_with (at_builtin; refine wpList_app_V _ rfl (.tmp 55) (.tmp 59) 84 rfl pcV_len one_pc w3.heap.size 87 _ 32 (by omega) Tryd.underlying84 infoPc3 rfl (by omega) _ m ((piecesS L).take a ++ List.replicate j (blankS p, (-10 : Int))) rfl (OW.out.below ((Below.refl _ _).alloc (Nat.le_refl _) _)).own (some ⟨wq.heap.size, 0, none⟩) 1 1 (m + 1) (by omega) [(blankS p, -10)] rfl (vs_one _ _ _ _ rfl) (by omega) (OW.out.below ((Below.refl _ _).alloc (Nat.le_refl _) _)).sz ?_; intro A' c' w5 hown hg)
            have Z2 := Lib.hid (show Out w w3 g1 b p L w5 A' (m + 1) c' (((piecesS L).take a ++ List.replicate (j + 1) (blankS p, (-10 : Int)))) from (OW.out.below ((Below.refl _ _).alloc (Nat.le_refl _) _)).app (by have h := hown; rw [show ((piecesS L).take a ++ List.replicate j (blankS p, (-10 : Int))) ++ [(blankS p, (-10 : Int))] = ((piecesS L).take a ++ List.replicate (j + 1) (blankS p, (-10 : Int))) from by rw [rep_snocP]; simp only [List.append_assoc]] at h; exact h) hg (by have := Z.out.ln; rw [show ((piecesS L).take a ++ List.replicate (j + 1) (blankS p, (-10 : Int))) = ((piecesS L).take a ++ List.replicate j (blankS p, (-10 : Int))) ++ [(blankS p, (-10 : Int))] from by rw [rep_snocP]; simp only [List.append_assoc], List.length_append, this]; simp; try omega))
            clear hown hg OW
            go_wp2_with fail
            go_roundw
            case rel => exact ⟨j + 1, A', c', m + 1, by omega, by go_num, rfl, by omega, Z2.out⟩
            case measure => simp [intOf]; omega
          · obtain rfl : j = K := by omega
            have HJ := Lib.hid (show y ≤ (j : Int) ∨ (n : Int) ≤ (m : Int) from by have := HMIN.out; omega)
            have HQ := Lib.hid Z.out
            by_cases d1 : (j : Int) < y
            · have d2 : (n : Int) ≤ (m : Int) := by have := HJ.out; omega
              go_wp2_with fail
              go_loopw [10, 12] (fun s i wr => ∃ (t : Nat) (A1 : Option Addr) (c1' m : Nat), a + j + t ≤ n ∧ i = .int .i64 ((a + t : Nat) : Int) ∧ s = .slice A1 m c1' ∧ m = a + j + t ∧ Out w w3 g1 b p L wr A1 m c1' ((piecesS L).take a ++ (List.replicate j (blankS p, -10) ++ ((piecesS L).drop a).take t))) (fun s _ _ => n - lenOfS s)
              case atStart => exact ⟨0, A1, c1', m, by omega, by simp, rfl, by omega, by simpa using HQ.out⟩
              case round =>
                obtain ⟨t, A1, c1', m, ht, rfl, rfl, hm, hO⟩ := hrel
                have Z := Lib.hid hO
                have hmA2 : m ≤ a + j + t := by omega
                have hmB2 : a + j + t ≤ m := by omega
                clear hO HQ HJ hm
                by_cases hlt : a + j + t < n
                · exfalso; omega
                · have hmn : n = m := by omega
                  subst hmn
                  have hvv := own_vs Z.out.ln Z.out.own
                  have HV := Lib.hid (show Vs pcV wr A1 n (insertR L a j p) ∧ ∀ (i : Nat), i < n → -1000 ≤ (pAt (insertR L a j p) i).2 ∧ (pAt (insertR L a j p) i).2 ≤ 1000 from by
                    have e : (piecesS L).take a ++ (List.replicate j (blankS p, -10) ++ ((piecesS L).drop a).take t) = insertR L a j p := by unfold insertR; rw [HL.out, show n - (a + j) = t by omega]
                    rw [e] at hvv
                    refine ⟨by exact hvv, fun i hi => insR_from p (by rw [HL.out]; exact hn80) i (by rw [insR_len p (by rw [HL.out]; exact hK2), HL.out]; omega)⟩)
                  clear hvv
                  go_wp2_with fail
                  refine (mend_any (c := c1') HV.out.1 (by omega) HV.out.2).mono ?_
                  rintro e w9 ⟨hb, g9, c9, rfl, hg9, hk9, hm9, hR9⟩
                  have HP : Hid (OpPost R true w (.returned (.slice (some ⟨g9, 0, none⟩) (mendS (insertR L a j p)).length c9)) w9) := by
                    refine ⟨fun _ => ⟨Z.out.bel.trans (hb.mono Z.out.bel.size), g9, c9, by rw [HPC.out], Nat.le_trans Z.out.bel.size hg9, by rw [← HPC.out]; exact hk9, hm9, by rw [← HPC.out]; exact hR9⟩, fun e => (by cases e)⟩
                  clear hb hg9 hk9 hm9 hR9
                  go_wp2_with fail
                  go_ret
                  exact HP.out
            · have d2 : y ≤ (j : Int) := by omega
              go_wp2_with fail
              go_loopw [10, 12] (fun s i wr => ∃ (t : Nat) (A1 : Option Addr) (c1' m : Nat), a + j + t ≤ n ∧ i = .int .i64 ((a + t : Nat) : Int) ∧ s = .slice A1 m c1' ∧ m = a + j + t ∧ Out w w3 g1 b p L wr A1 m c1' ((piecesS L).take a ++ (List.replicate j (blankS p, -10) ++ ((piecesS L).drop a).take t))) (fun s _ _ => n - lenOfS s)
              case atStart => exact ⟨0, A1, c1', m, by omega, by simp, rfl, by omega, by simpa using HQ.out⟩
              case round =>
                obtain ⟨t, A1, c1', m, ht, rfl, rfl, hm, hO⟩ := hrel
                have Z := Lib.hid hO
                have hmA2 : m ≤ a + j + t := by omega
                have hmB2 : a + j + t ≤ m := by omega
                clear hO HQ HJ hm
                by_cases hlt : a + j + t < n
                · have d4 : (m : Int) < (n : Int) := by omega
                  have HKP := Lib.hid (show a + t < (piecesS L).length from by rw [piecesS_length, HL.out]; omega)
                  obtain ⟨z, hz⟩ : ∃ z, z = pAt (piecesS L) (a + t) := ⟨_, rfl⟩
                  have h7 := Z.out.rwp.seven HKP.out
                  rw [← hz] at h7
                  obtain ⟨z0, z1, z2, z3, z4, z5, z6⟩ := h7
                  have HZ := Lib.hid (show ((piecesS L).drop a).take (t + 1) = ((piecesS L).drop a).take t ++ [z] from by rw [take_snocP _ (by rw [List.length_drop]; have := HKP.out; omega), pAt_drop, hz])
                  have hz7 : a + t < n := by omega
                  obtain ⟨wq, hwq⟩ : ∃ wq, wq = wr := ⟨_, rfl⟩
                  have OW := Lib.hid Z.out
                  subst hwq
                  clear hz
                  go_wp2_with (at_builtin; refine wpList_app_V _ rfl (.tmp 69) (.tmp 74) 84 rfl pcV_len one_pc w3.heap.size 87 _ 32 (by omega) Tryd.underlying84 infoPc3 rfl (by omega) _ m ((piecesS L).take a ++ (List.replicate j (blankS p, -10) ++ ((piecesS L).drop a).take t)) rfl (OW.out.below ((Below.refl _ _).alloc (Nat.le_refl _) _)).own (some ⟨wq.heap.size, 0, none⟩) 1 1 (m + 1) (by omega) [z] rfl (vs_one _ _ _ _ rfl) (by omega) (OW.out.below ((Below.refl _ _).alloc (Nat.le_refl _) _)).sz ?_; intro A' c' w5 hown hg)
                  have Z2 := Lib.hid (show Out w w3 g1 b p L w5 A' (m + 1) c' ((piecesS L).take a ++ (List.replicate j (blankS p, -10) ++ ((piecesS L).drop a).take (t + 1))) from (OW.out.below ((Below.refl _ _).alloc (Nat.le_refl _) _)).app (by rw [HZ.out]; have h := hown; simp only [List.append_assoc] at h ⊢; exact h) hg (by have := Z.out.ln; rw [HZ.out]; simp only [List.length_append, List.length_singleton] at this ⊢; omega))
                  clear hown hg OW z0 z1 z2 z3 z4 z5 z6
                  go_wp2_with fail
                  go_roundw
                  case rel => exact ⟨t + 1, A', c', m + 1, by omega, by go_num, rfl, by omega, Z2.out⟩
                  case measure => simp [lenOfS]; omega
                · have hmn : n = m := by omega
                  subst hmn
                  have hvv := own_vs Z.out.ln Z.out.own
                  have HV := Lib.hid (show Vs pcV wr A1 n (insertR L a j p) ∧ ∀ (i : Nat), i < n → -1000 ≤ (pAt (insertR L a j p) i).2 ∧ (pAt (insertR L a j p) i).2 ≤ 1000 from by
                    have e : (piecesS L).take a ++ (List.replicate j (blankS p, -10) ++ ((piecesS L).drop a).take t) = insertR L a j p := by unfold insertR; rw [HL.out, show n - (a + j) = t by omega]
                    rw [e] at hvv
                    refine ⟨by exact hvv, fun i hi => insR_from p (by rw [HL.out]; exact hn80) i (by rw [insR_len p (by rw [HL.out]; exact hK2), HL.out]; omega)⟩)
                  clear hvv
                  go_wp2_with fail
                  refine (mend_any (c := c1') HV.out.1 (by omega) HV.out.2).mono ?_
                  rintro e w9 ⟨hb, g9, c9, rfl, hg9, hk9, hm9, hR9⟩
                  have HP : Hid (OpPost R true w (.returned (.slice (some ⟨g9, 0, none⟩) (mendS (insertR L a j p)).length c9)) w9) := by
                    refine ⟨fun _ => ⟨Z.out.bel.trans (hb.mono Z.out.bel.size), g9, c9, by rw [HPC.out], Nat.le_trans Z.out.bel.size hg9, by rw [← HPC.out]; exact hk9, hm9, by rw [← HPC.out]; exact hR9⟩, fun e => (by cases e)⟩
                  clear hb hg9 hk9 hm9 hR9
                  go_wp2_with fail
                  go_ret
                  exact HP.out
    · have hx3 : (n : Int) ≤ x := by omega
      have HPC : Hid (R = L) := by show R = L; rw [← HR.out]; unfold insRS; rw [if_neg (by have := HL.out; omega)]
      have HV2 := Lib.hid (X.out.2.1.alloc (.cells #[] 41))
      go_wp2_with (at_builtin; refine wpList_app_V _ rfl (.tmp 33) (.tmp 34) 22 rfl ceV_len one_ce w2.heap.size 41 _ 20 (by omega) Tryd.underlying22 infoCe3 rfl (by omega) (.slice (some ⟨w2.heap.size, 0, none⟩) 0 0) 0 [] rfl (World.ownsRow_lit w2 #[] 0 (Nat.le_refl _) (by unfold maxLen; omega) rfl) A n c n (by omega) L rfl HV2.out (by omega) (by simp) ?_; intro A' c' w5 hown hg; simp only [List.nil_append] at hown)
      obtain ⟨g5, rfl, hb5, hle5, hm5, hR5⟩ := own_some (by omega) hown
      have HP : Hid (OpPost R true w (.returned (.slice (some ⟨g5, 0, none⟩) n c')) w5) := by
        have hbw : Below w2.heap.size w2 w5 := ((Below.refl _ _).alloc (Nat.le_refl _) _).grown hg (by simp) (by intro k hk; have : w2.heap.size = k := (by simpa [Value.ownBlock] using hk); omega)
        rw [HPC.out]
        exact ⟨fun _ => ⟨X.out.1.trans (hbw.mono X.out.1.size), g5, c', by rw [HL.out], Nat.le_trans X.out.1.size hb5, by rw [HL.out]; exact hle5, hm5, hR5⟩, fun e => (by cases e)⟩
      clear hown hg hR5
      go_wp2_with fail
      go_ret
      exact HP.out
  · have hx2 : x < 0 := by omega
    have HPC : Hid (R = L) := by show R = L; rw [← HR.out]; unfold insRS; rw [if_neg (by have := HL.out; omega)]
    have HV2 := Lib.hid (X.out.2.1.alloc (.cells #[] 41))
    go_wp2_with (at_builtin; refine wpList_app_V _ rfl (.tmp 33) (.tmp 34) 22 rfl ceV_len one_ce w2.heap.size 41 _ 20 (by omega) Tryd.underlying22 infoCe3 rfl (by omega) (.slice (some ⟨w2.heap.size, 0, none⟩) 0 0) 0 [] rfl (World.ownsRow_lit w2 #[] 0 (Nat.le_refl _) (by unfold maxLen; omega) rfl) A n c n (by omega) L rfl HV2.out (by omega) (by simp) ?_; intro A' c' w5 hown hg; simp only [List.nil_append] at hown)
    obtain ⟨g5, rfl, hb5, hle5, hm5, hR5⟩ := own_some (by omega) hown
    have HP : Hid (OpPost R true w (.returned (.slice (some ⟨g5, 0, none⟩) n c')) w5) := by
      have hbw : Below w2.heap.size w2 w5 := ((Below.refl _ _).alloc (Nat.le_refl _) _).grown hg (by simp) (by intro k hk; have : w2.heap.size = k := (by simpa [Value.ownBlock] using hk); omega)
      rw [HPC.out]
      exact ⟨fun _ => ⟨X.out.1.trans (hbw.mono X.out.1.size), g5, c', by rw [HL.out], Nat.le_trans X.out.1.size hb5, by rw [HL.out]; exact hle5, hm5, hR5⟩, fun e => (by cases e)⟩
    clear hown hg hR5
    go_wp2_with fail
    go_ret
    exact HP.out
end Go.Proofs.YtflnocgahdlojaaDoor
