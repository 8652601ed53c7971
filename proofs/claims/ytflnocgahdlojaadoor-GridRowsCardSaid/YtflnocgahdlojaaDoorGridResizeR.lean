/-
  The reference's Resize.
-/
import Derived.Test.YtflnocgahdlojaaDoorGridRefA
namespace Go.Proofs.YtflnocgahdlojaaDoor
open Go.RowKit

/-- A row of the answer; the rows ahead of q; a row after j cells. -/
def resL (cs : Nat) (LL : Rws) (y : Nat) : List Ce := if y < LL.length then resRow cs (lAt LL y) else blanksS cs pn0
def resQ (cs : Nat) (LL : Rws) (q : Nat) : Rws := (List.range q).map (resL cs LL)
theorem resQ_snoc (cs : Nat) (LL : Rws) (q : Nat) : resQ cs LL (q + 1) = resQ cs LL q ++ [resL cs LL q] := by unfold resQ; rw [List.range_succ, List.map_append]; rfl
theorem resQ_len (cs : Nat) (LL : Rws) (q : Nat) : (resQ cs LL q).length = q := by simp [resQ]
theorem resQ_all (cs rs : Nat) (LL : Rws) : resQ cs LL rs = resizeS cs rs LL := rfl
theorem resL_len (cs : Nat) (LL : Rws) (q : Nat) : (resL cs LL q).length = cs := by
  unfold resL
  split
  · exact resRow_len _ _
  · exact blanks_len _ _
def cellR (cs : Nat) (L : List Ce) (i : Nat) : Ce := if (cAt L i).wd = 1 ∧ i + 1 = cs then blankS (cAt L i).p else cAt L i
def rK (cs : Nat) (L : List Ce) (j : Nat) : List Ce := (List.range cs).map fun (i : Nat) => if i < j then cellR cs L i else blankS pn0
theorem rK_len (cs : Nat) (L : List Ce) (j : Nat) : (rK cs L j).length = cs := by simp [rK]
theorem rK_at {cs : Nat} {L : List Ce} {j i : Nat} (h : i < cs) : cAt (rK cs L j) i = if i < j then cellR cs L i else blankS pn0 := by
  unfold cAt rK
  simp [List.getD, h]
theorem rK_zero (cs : Nat) (L : List Ce) : rK cs L 0 = blanksS cs pn0 := row_ext (by rw [rK_len, blanks_len]) fun i hi => by
  rw [rK_len] at hi
  rw [rK_at hi, if_neg (by omega)]
  unfold blanksS
  rw [cAt_replicate, if_pos hi]
theorem rK_set {cs : Nat} {L : List Ce} {j : Nat} (h : j < cs) : (rK cs L j).set j (cellR cs L j) = rK cs L (j + 1) := row_ext (by rw [List.length_set, rK_len, rK_len]) fun i hi => by
  rw [List.length_set, rK_len] at hi
  rw [cAt_set, rK_len, rK_at hi, rK_at hi]
  by_cases e : i = j
  · subst e; rw [if_pos ⟨rfl, hi⟩, if_pos (by omega)]
  · rw [if_neg (fun e2 => e e2.1)]
    by_cases e2 : i < j
    · rw [if_pos e2, if_pos (by omega)]
    · rw [if_neg e2, if_neg (by omega)]
theorem rK_all {cs : Nat} {L : List Ce} (h : RowOk L) {j : Nat} (hj : j = cs ∨ j = L.length) (hj2 : j ≤ L.length) : rK cs L j = resRow cs L := row_ext (by rw [rK_len, resRow_len]) fun i hi => by
  rw [rK_len] at hi
  rw [rK_at hi, resRow_at h hi]
  unfold cellR
  by_cases e : i < L.length
  · rw [if_pos (by omega), if_pos e]
  · rw [if_neg e]
    by_cases e2 : i < j
    · omega
    · rw [if_neg e2]

theorem Bld.stored {w1 wr w' : World} {A : Option Addr} {m c g2 : Nat} {S : List Sl} {LL : Rws} {M : List Ce} (h : Bld w1 wr A m c S LL) (hg : wr.grownBy w' (some g2)) (hb : w1.heap.size ≤ g2) (hR : Rw ceV 41 wr g2 M)
    (hno : ∀ i gi, i < LL.length → (sAt S i).A = some ⟨gi, 0, none⟩ → gi ≠ g2) : Bld w1 w' A m c S LL := by
  refine ⟨h.bel.grown hg h.bel.size (by intro k hk; injection hk with hk; omega), h.own.kept hg ?_, ⟨h.ls.len, fun i hi => ?_⟩, h.ln⟩
  · cases hv : (Value.slice A m c).ownBlock with
    | none => exact .inl rfl
    | some j => exact .inr fun e => rw_apart (own_type h.own hv) hR (by decide) (by injection e)
  · obtain ⟨gi, h1, h2, h3, h4, h5, h6⟩ := h.ls.at_ i hi
    exact ⟨gi, h1, h2, h3, h4, h5, h6.grown hg (fun e => hno i gi hi h2 (by injection e with e; exact e.symm))⟩

set_option maxHeartbeats 6400000 in
set_option maxRecDepth 100000 in
theorem refResize_any {w : World} {A : Option Addr} {n k : Nat} {c r : Int} {L : List Ce} (x y : Int) (h : Vs ceV w A n L) (hk : n ≤ k) (hn : n ≤ 9223372036854775807) :
    Calls Tryd.prog 36 #[.agg (gV c r A n k), .int .i64 x, .int .i64 y] w (GPost (resG c r L x y) w) := by
  obtain ⟨w0, hw0⟩ : ∃ w0, w0 = (w.alloc (.cells (gV c r A n k) 24)).alloc (.cells (gV 0 0 none 0 0) 24) := ⟨_, rfl⟩
  obtain ⟨b, hbe⟩ : ∃ b, b = w.heap.size := ⟨_, rfl⟩
  have H := Lib.hid (show Vs ceV w0 A n L ∧ Gb w0 b ⟨c, r, A, n, k⟩ ∧ Gb w0 (b + 1) gr0 ∧ Below w.heap.size w w0 ∧ b = w.heap.size from by
    have b1 := below1 w (.cells (gV c r A n k) 24)
    have h3 := gb_new (w.alloc (.cells (gV c r A n k) 24)) gr0
    rw [alloc_size] at h3
    have b3 := b1.alloc b1.size (.cells (gV 0 0 none 0 0) 24)
    rw [hw0, hbe]
    exact ⟨h.below b3, (gb_new w ⟨c, r, A, n, k⟩).below (below1 _ _), h3, b3, rfl⟩)
  have HL := Lib.hid (And.intro h.len hk)
  clear h
  obtain ⟨ok, hok⟩ : ∃ ok, (gridMay c r L && sizeOk x y) = ok := ⟨_, rfl⟩
  have HOK := Lib.hid hok
  clear hok
  obtain ⟨LL, hLL⟩ : ∃ LL, rowsS c.toNat r.toNat L = LL := ⟨_, rfl⟩
  have HLL := Lib.hid hLL
  clear hLL
  obtain ⟨G, hG⟩ : ∃ G, resG c r L x y = G := ⟨_, rfl⟩
  rw [hG]
  have HG := Lib.hid hG
  clear hG
  obtain ⟨m, hm⟩ : ∃ m, gridMay c r L = m := ⟨_, rfl⟩
  have HM := Lib.hid hm
  clear hm
  obtain ⟨c0, c1, c2, _⟩ := H.out.2.1.g3
  unfold gV at hw0
  go_enter Tryd.func36, Tryd.ntmps36
  unfold gV
  go_upto_region 1 with fail
  rw [← hw0, ← hbe]
  clear hw0 hbe
  go_wp2_with fail
  refine (refRows_any H.out.1 hk hn HM.out HLL.out).mono ?_
  rintro e w1 ⟨hyes, hno⟩
  clear c0 c1 c2
  cases m
  · obtain ⟨rfl, hb⟩ := hno rfl
    have HF := Lib.hid (show ok = false from by have := HOK.out; rw [HM.out] at this; simpa using this.symm)
    have X := Lib.hid (show Below w.heap.size w w1 ∧ Gb w1 (b + 1) gr0 from ⟨H.out.2.2.2.1.trans (hb.mono H.out.2.2.2.1.size), H.out.2.2.1.below hb⟩)
    have X := Lib.hid (And.intro X.out.1 (And.intro X.out.2 trivial))
    clear hyes hno hb
    go_wp2_with (refine wpList_store_G rfl (.tmp 6) (.tmp 36) rfl (b + 1) gr0 gr0 rfl rfl X.out.2.1 ?_; intro w5 hG5 hg5)
    refine bodyPost_ret (retG Tryd.results36 hG5 rfl) rfl ?_
    rw [← HG.out, resG_no (HOK.out.trans HF.out)]
    exact GPost.no ⟨rfl, X.out.1.grown hg5 X.out.1.size (by intro k hk; injection hk with hk; have := H.out.2.2.2.2; omega)⟩
  · obtain ⟨hb, g, k', S, rfl, hg, hk1, hk2, htb⟩ := hyes rfl
    have X := Lib.hid (show Below w.heap.size w w1 ∧ Gb w1 (b + 1) gr0 ∧ Gb w1 b ⟨c, r, A, n, k⟩ ∧ Tb w1 w.heap.size g S LL from ⟨H.out.2.2.2.1.trans (hb.mono H.out.2.2.2.1.size), H.out.2.2.1.below hb, H.out.2.1.below hb, htb.base H.out.2.2.2.1.size⟩)
    clear hyes hno hb hg htb
    obtain ⟨T9, hT9⟩ : ∃ T9, sizeOk x y = T9 := ⟨_, rfl⟩
    cases T9
    · have HF := Lib.hid (show ok = false from by have := HOK.out; rw [HM.out, hT9] at this; simpa using this.symm)
      unfold sizeOk at hT9
      have hS2 := of_decide_eq_false hT9
      clear hT9
      by_cases h1 : x < 1
      · clear hS2
        go_wp2_with (refine wpList_store_G rfl (.tmp 6) (.tmp 36) rfl (b + 1) gr0 gr0 rfl rfl X.out.2.1 ?_; intro w5 hG5 hg5)
        refine bodyPost_ret (retG Tryd.results36 hG5 rfl) rfl ?_
        rw [← HG.out, resG_no (HOK.out.trans HF.out)]
        exact GPost.no ⟨rfl, X.out.1.grown hg5 X.out.1.size (by intro k hk; injection hk with hk; have := H.out.2.2.2.2; omega)⟩
      · have h1' : 1 ≤ x := by omega
        by_cases h2 : 80 < x
        · clear hS2
          go_wp2_with (refine wpList_store_G rfl (.tmp 6) (.tmp 36) rfl (b + 1) gr0 gr0 rfl rfl X.out.2.1 ?_; intro w5 hG5 hg5)
          refine bodyPost_ret (retG Tryd.results36 hG5 rfl) rfl ?_
          rw [← HG.out, resG_no (HOK.out.trans HF.out)]
          exact GPost.no ⟨rfl, X.out.1.grown hg5 X.out.1.size (by intro k hk; injection hk with hk; have := H.out.2.2.2.2; omega)⟩
        · have h2' : x ≤ 80 := by omega
          by_cases h3 : y < 1
          · clear hS2
            go_wp2_with (refine wpList_store_G rfl (.tmp 6) (.tmp 36) rfl (b + 1) gr0 gr0 rfl rfl X.out.2.1 ?_; intro w5 hG5 hg5)
            refine bodyPost_ret (retG Tryd.results36 hG5 rfl) rfl ?_
            rw [← HG.out, resG_no (HOK.out.trans HF.out)]
            exact GPost.no ⟨rfl, X.out.1.grown hg5 X.out.1.size (by intro k hk; injection hk with hk; have := H.out.2.2.2.2; omega)⟩
          · have h3' : 1 ≤ y := by omega
            have h4 : 24 < y := by omega
            clear hS2
            go_wp2_with (refine wpList_store_G rfl (.tmp 6) (.tmp 36) rfl (b + 1) gr0 gr0 rfl rfl X.out.2.1 ?_; intro w5 hG5 hg5)
            refine bodyPost_ret (retG Tryd.results36 hG5 rfl) rfl ?_
            rw [← HG.out, resG_no (HOK.out.trans HF.out)]
            exact GPost.no ⟨rfl, X.out.1.grown hg5 X.out.1.size (by intro k hk; injection hk with hk; have := H.out.2.2.2.2; omega)⟩
    · obtain ⟨cn, rn, LL', rfl, rfl, hL', hrows, hgk⟩ := ((gridMay_iff _ _ _).1 HM.out).parts
      obtain rfl : LL' = LL := hrows.symm.trans HLL.out
      obtain ⟨cs, rs, rfl, rfl, hs1, hs2, hs3, hs4⟩ := size_nat hT9
      have HP := Lib.hid (show L = LL'.flatten ∧ Gk cn rn LL' ∧ G = some (cs, rs, resizeS cs rs LL') from ⟨hL', hgk, by rw [← HG.out]; unfold resG; rw [if_pos ⟨HM.out, hT9⟩, hrows]; rfl⟩)
      rw [hgk.box.len] at hk1 ⊢
      clear hL' hrows hgk hT9
      have h24 := HP.out.2.1.r24
      have hc1 := HP.out.2.1.c1
      have hc2 := HP.out.2.1.c80
      have i1 : (1 : Int) ≤ (cs : Int) := by omega
      have i2 : (cs : Int) ≤ 80 := by omega
      have i3 : (1 : Int) ≤ (rs : Int) := by omega
      have i4 : (rs : Int) ≤ 24 := by omega
      go_upto_region 5 with fail
      obtain ⟨wa, hwa⟩ : ∃ wa, wa = w1.alloc (.cells #[] 22) := ⟨_, rfl⟩
      obtain ⟨ba, hba⟩ : ∃ ba, ba = w1.heap.size := ⟨_, rfl⟩
      have X0 := Lib.hid (show Bld w1 wa (some ⟨ba, 0, none⟩) 0 0 [] (resQ cs LL' 0) from by
        rw [hwa, hba]
        exact ⟨below1 w1 _, World.ownsRow_lit w1 #[] 0 (Nat.le_refl _) (by unfold maxLen; omega) rfl, Ls.nil _ _, rfl⟩)
      rw [← hwa, ← hba]
      clear hwa hba
      go_wp2_with fail
      go_loopw [9, 10] (fun o i wr => ∃ (q : Nat) (Ao : Option Addr) (co : Nat) (S2 : List Sl), q ≤ rs ∧ i = .int .i64 q ∧ o = .slice Ao q co ∧ Bld w1 wr Ao q co S2 (resQ cs LL' q)) (fun _ i _ => rs - (intOf i).toNat)
      case atStart => exact ⟨0, _, 0, [], Nat.zero_le _, rfl, rfl, X0.out⟩
      case round =>
        obtain ⟨q, Ao, co, S2, hq, rfl, rfl, hbl⟩ := hrel
        have Y := Lib.hid hbl
        clear hbl
        by_cases hlt : q < rs
        · have hkl : (q : Int) < (rs : Int) := by omega
          go_wp2_with fail
          refine (refBlanks_any pn0 (by omega)).mono ?_
          rintro e w3 ⟨hb, g2, k2', rfl, hg2, hm1, hm3, hR⟩
          have e9 : (blanksS cs pn0).length = cs := blanks_len _ _
          rw [e9] at hm1 ⊢
          have V := Lib.hid (show Bld w1 w3 Ao q co S2 (resQ cs LL' q) ∧ Rw ceV 41 w3 g2 (blanksS cs pn0) ∧ w1.heap.size ≤ g2 from ⟨Y.out.below hb, hR, Nat.le_trans Y.out.bel.size hg2⟩)
          have HCA := Lib.hid (And.intro hm1 hm3)
          have HNO := Lib.hid (show ∀ i gi, i < (resQ cs LL' q).length → (sAt S2 i).A = some ⟨gi, 0, none⟩ → gi ≠ g2 from fun i gi hi e => by
            obtain ⟨gj, _, h2, _, _, _, h6⟩ := Y.out.ls.at_ i hi
            rw [e] at h2
            injection h2 with h2
            injection h2 with h2
            have := h6.lt
            omega)
          clear hb hg2 hm1 hm3 hR e9 Y
          by_cases hqr : q < rn
          · have hqi : (q : Int) < (rn : Int) := by omega
            have HQ := Lib.hid (show q < LL'.length ∧ RowOk (lAt LL' q) ∧ (lAt LL' q).length = cn ∧ resL cs LL' q = resRow cs (lAt LL' q) from by
              have e1 : q < LL'.length := by rw [HP.out.2.1.box.len]; exact hqr
              exact ⟨e1, HP.out.2.1.ok q hqr, HP.out.2.1.box.row q hqr, by unfold resL; rw [if_pos e1]⟩)
            obtain ⟨s, hs⟩ : ∃ s, s = sAt S q := ⟨_, rfl⟩
            have HO := Lib.hid (show ∀ w', Below w1.heap.size w1 w' → w'.cell? ⟨g, q, none⟩ = some (.slice s.A s.n s.k) ∧ OwnRow w' w.heap.size s (lAt LL' q) ∧ Gb w' b ⟨cn, rn, A, n, k⟩ from fun w' hb => by
              rw [hs]
              exact ⟨(X.out.2.2.2.below hb).cell HQ.out.1, (X.out.2.2.2.below hb).ls.at_ q HQ.out.1, X.out.2.2.1.below hb⟩)
            clear hs
            obtain ⟨g3, _, hsA, hsn, hsk, hsm, hrw3⟩ := (HO.out _ (Below.refl _ _)).2.1
            rw [HQ.out.2.2.1] at hsn
            obtain ⟨sA, sn, sk⟩ := s
            dsimp only at hsA hsn hsk hsm HO
            subst hsA hsn
            have HG3 := Lib.hid (show g3 < g2 ∧ Vs ceV w1 (some ⟨g3, 0, none⟩) sn (lAt LL' q) from ⟨Nat.lt_of_lt_of_le hrw3.lt V.out.2.2, (HO.out _ (Below.refl _ _)).2.1.vs⟩)
            clear hrw3
            obtain ⟨cz, hcz⟩ : ∃ cz, cs = cz + 1 := ⟨cs - 1, by omega⟩
            have v7 : IntKind.i64.wrap ((cs : Int) - 1) = (cz : Int) := by rw [IntKind.wrap_i64]; omega
            have HCZ := Lib.hid hcz
            clear hcz
            go_upto_region 10 with fail
            go_loopw [12] (fun i wr => ∃ j : Nat, j ≤ cs ∧ j ≤ sn ∧ i = .int .i64 j ∧ Bld w1 wr Ao q co S2 (resQ cs LL' q) ∧ Rw ceV 41 wr g2 (rK cs (lAt LL' q) j)) (fun i _ => sn - (intOf i).toNat)
            case atStart => exact ⟨0, Nat.zero_le _, Nat.zero_le _, rfl, V.out.1, by rw [rK_zero]; exact V.out.2.1⟩
            case round =>
              obtain ⟨j, hj1, hj2, rfl, hbl, hR⟩ := hrel
              obtain ⟨wo, rfl⟩ : ∃ wo, wo = wr := ⟨_, rfl⟩
              have U := Lib.hid (And.intro hbl hR)
              clear hbl hR
              obtain ⟨c0, c1, c2, _⟩ := (HO.out _ U.out.1.bel).2.2.g3
              by_cases e1 : j < cs
              · have e1i : (j : Int) < (cs : Int) := by omega
                by_cases e2 : j < sn
                · have e2i : (j : Int) < (sn : Int) := by omega
                  have z1 := (HO.out _ U.out.1.bel).1
                  have HS6 := (HG3.out.2.below U.out.1.bel).six e2
                  rw [addH] at HS6
                  have HJ := Lib.hid (show cellR cs (lAt LL' q) j = if (cAt (lAt LL' q) j).wd = 1 ∧ j + 1 = cs then blankS (cAt (lAt LL' q) j).p else cAt (lAt LL' q) j from rfl)
                  generalize cAt (lAt LL' q) j = d at HS6 HJ
                  obtain ⟨a0, a1, a2, a3, a4, a5⟩ := HS6
                  dsimp only at a1 a2 a3 a4 a5
                  clear c1 c2
                  have HST := Lib.hid (show ∀ (w' : World) (d' : Ce), Rw ceV 41 w' g2 ((rK cs (lAt LL' q) j).set j d') → Six w' ⟨g2, j * 6, none⟩ d' from fun w' d' h5 => by
                    have h6 := h5.vs.six (k := j) (by rw [List.length_set, rK_len]; exact e1)
                    rw [addH, cAt_set, if_pos ⟨rfl, by rw [rK_len]; exact e1⟩] at h6
                    exact h6)
                  by_cases hw : d.wd = 1
                  · have hwb : (d.wd == 1) = true := by rw [hw]; rfl
                    by_cases he : j = cz
                    · have heb : ((j : Int) == (cz : Int)) = true := by rw [he]; simp
                      have HD := Lib.hid (show cellR cs (lAt LL' q) j = blankS d.p from by rw [HJ.out, if_pos ⟨hw, by have := HCZ.out; omega⟩])
                      clear he hw
                      go_wp2_with (refine wpList_store_V rfl 41 (.tmp 72) (.tmp 71) rfl ceV_len one_ce infoCe g2 _ j d _ rfl rfl rfl rfl 41 _ U.out.2 (by rw [rK_len]; exact e1) ?_; intro w5 hR5 hg5; obtain ⟨b0, b1, b2, b3, b4, b5⟩ := HST.out _ _ hR5; dsimp only at b1 b2 b3 b4 b5)
                      have U5 := Lib.hid (show Bld w1 w5 Ao q co S2 (resQ cs LL' q) ∧ Rw ceV 41 w5 g2 ((rK cs (lAt LL' q) j).set j d) from ⟨U.out.1.stored hg5 V.out.2.2 (show Rw ceV 41 wo g2 _ from U.out.2) (HNO.out), hR5⟩)
                      clear hR5 hg5 a0 a1 a2 a3 a4 a5 z1 c0
                      refine (refBlank_any d.p _).mono ?_
                      rintro e w6 ⟨rfl, hb⟩
                      have U6 := Lib.hid (show Bld w1 w6 Ao q co S2 (resQ cs LL' q) ∧ Rw ceV 41 w6 g2 ((rK cs (lAt LL' q) j).set j d) from ⟨U5.out.1.below hb, U5.out.2.below hb⟩)
                      clear hb b0 b1 b2 b3 b4 b5
                      go_wp2_with (refine wpList_store_V rfl 41 (.tmp 93) (.tmp 92) rfl ceV_len one_ce infoCe g2 _ j (blankS d.p) _ rfl rfl rfl rfl 41 _ U6.out.2 (by rw [List.length_set, rK_len]; exact e1) ?_; intro w7 hR7 hg7; rw [List.set_set, ← HD.out, rK_set e1] at hR7)
                      have U7 := Lib.hid (show Bld w1 w7 Ao q co S2 (resQ cs LL' q) ∧ Rw ceV 41 w7 g2 (rK cs (lAt LL' q) (j + 1)) from ⟨U6.out.1.stored hg7 V.out.2.2 (show Rw ceV 41 w6 g2 _ from U6.out.2) HNO.out, hR7⟩)
                      clear hR7 hg7
                      go_wp2_with fail
                      go_roundw
                      case rel => exact ⟨j + 1, by omega, by omega, by go_num, U7.out⟩
                      case measure => simp [intOf]; omega
                    · have heb : ((j : Int) == (cz : Int)) = false := by simp; omega
                      have HD := Lib.hid (show (rK cs (lAt LL' q) j).set j d = rK cs (lAt LL' q) (j + 1) from by rw [← rK_set e1, HJ.out, if_neg (by have := HCZ.out; omega)])
                      clear hw he
                      go_wp2_with (refine wpList_store_V rfl 41 (.tmp 72) (.tmp 71) rfl ceV_len one_ce infoCe g2 _ j d _ rfl rfl rfl rfl 41 _ U.out.2 (by rw [rK_len]; exact e1) ?_; intro w5 hR5 hg5; obtain ⟨b0, b1, b2, b3, b4, b5⟩ := HST.out _ _ hR5; dsimp only at b1 b2 b3 b4 b5)
                      have U5 := Lib.hid (show Bld w1 w5 Ao q co S2 (resQ cs LL' q) ∧ Rw ceV 41 w5 g2 ((rK cs (lAt LL' q) j).set j d) from ⟨U.out.1.stored hg5 V.out.2.2 (show Rw ceV 41 wo g2 _ from U.out.2) (HNO.out), hR5⟩)
                      clear hR5 hg5
                      have U7 := Lib.hid (And.intro U5.out.1 (show Rw ceV 41 w5 g2 (rK cs (lAt LL' q) (j + 1)) from by rw [← HD.out]; exact U5.out.2))
                      try go_wp2_with fail
                      go_roundw
                      case rel => exact ⟨j + 1, by omega, by omega, by go_num, U7.out⟩
                      case measure => simp [intOf]; omega
                  · have hwb : (d.wd == 1) = false := by simpa using hw
                    have HD := Lib.hid (show (rK cs (lAt LL' q) j).set j d = rK cs (lAt LL' q) (j + 1) from by rw [← rK_set e1, HJ.out, if_neg (fun e => hw e.1)])
                    clear hw
                    go_wp2_with (refine wpList_store_V rfl 41 (.tmp 72) (.tmp 71) rfl ceV_len one_ce infoCe g2 _ j d _ rfl rfl rfl rfl 41 _ U.out.2 (by rw [rK_len]; exact e1) ?_; intro w5 hR5 hg5; obtain ⟨b0, b1, b2, b3, b4, b5⟩ := HST.out _ _ hR5; dsimp only at b1 b2 b3 b4 b5)
                    have U5 := Lib.hid (show Bld w1 w5 Ao q co S2 (resQ cs LL' q) ∧ Rw ceV 41 w5 g2 ((rK cs (lAt LL' q) j).set j d) from ⟨U.out.1.stored hg5 V.out.2.2 (show Rw ceV 41 wo g2 _ from U.out.2) (HNO.out), hR5⟩)
                    clear hR5 hg5
                    have U7 := Lib.hid (And.intro U5.out.1 (show Rw ceV 41 w5 g2 (rK cs (lAt LL' q) (j + 1)) from by rw [← HD.out]; exact U5.out.2))
                    try go_wp2_with fail
                    go_roundw
                    case rel => exact ⟨j + 1, by omega, by omega, by go_num, U7.out⟩
                    case measure => simp [intOf]; omega
                · have e2i : (sn : Int) ≤ (j : Int) := by omega
                  have HE := Lib.hid (show Bld w1 wo Ao q co S2 (resQ cs LL' q) ∧ OwnRow wo w1.heap.size ⟨some ⟨g2, 0, none⟩, cs, k2'⟩ (resL cs LL' q) from ⟨U.out.1, by
                    have h5 := U.out.2
                    rw [rK_all HQ.out.2.1 (.inr (by rw [HQ.out.2.2.1]; omega)) (by rw [HQ.out.2.2.1]; omega), ← HQ.out.2.2.2] at h5
                    exact OwnRow.mk' V.out.2.2 (resL_len _ _ _).symm HCA.out.1 HCA.out.2 h5⟩)
                  have h1w := below1 wo (.cells #[.slice (some ⟨g2, 0, none⟩) cs k2'] 22)
                  have HW := Lib.hid (show Bld w1 (wo.alloc (.cells #[.slice (some ⟨g2, 0, none⟩) cs k2'] 22)) Ao q co S2 (resQ cs LL' q) ∧ OwnRow (wo.alloc (.cells #[.slice (some ⟨g2, 0, none⟩) cs k2'] 22)) w1.heap.size ⟨some ⟨g2, 0, none⟩, cs, k2'⟩ (resL cs LL' q) ∧ Vs slV (wo.alloc (.cells #[.slice (some ⟨g2, 0, none⟩) cs k2'] 22)) (some ⟨wo.heap.size, 0, none⟩) 1 [⟨some ⟨g2, 0, none⟩, cs, k2'⟩] from
                    ⟨HE.out.1.below h1w, HE.out.2.below h1w, vs_oneS wo _ ⟨some ⟨g2, 0, none⟩, cs, k2'⟩⟩)
                  clear h1w
                  go_wp2_with (at_builtin; refine wpList_app_V _ rfl (.tmp 94) (.tmp 96) 35 rfl slV_len one_sl w1.heap.size 22 _ 24 (by omega) Tryd.underlying35 infoSl3 rfl (by omega) (.slice Ao q co) q S2 rfl HW.out.1.own (some ⟨wo.heap.size, 0, none⟩) 1 1 (q + 1) rfl [⟨some ⟨g2, 0, none⟩, cs, k2'⟩] rfl HW.out.2.2 (by omega) HW.out.1.bel.size ?_; intro A5 c5 w5 hown hg)
                  have Z2 := Lib.hid (show Bld w1 w5 A5 (q + 1) c5 (S2 ++ [⟨some ⟨g2, 0, none⟩, cs, k2'⟩]) (resQ cs LL' (q + 1)) from by
                    have h9 := HW.out.1.app HW.out.2.1 hown hg rfl
                    rw [← resQ_snoc] at h9
                    exact h9)
                  clear hown hg HW
                  go_wp2_with fail
                  go_roundw
                  case rel => exact ⟨q + 1, A5, c5, _, by omega, by go_num, rfl, Z2.out⟩
                  case measure => simp [intOf]; omega
              · have e1i : (cs : Int) ≤ (j : Int) := by omega
                have HE := Lib.hid (show Bld w1 wo Ao q co S2 (resQ cs LL' q) ∧ OwnRow wo w1.heap.size ⟨some ⟨g2, 0, none⟩, cs, k2'⟩ (resL cs LL' q) from ⟨U.out.1, by
                  have h5 := U.out.2
                  rw [rK_all HQ.out.2.1 (.inl (by omega)) (by rw [HQ.out.2.2.1]; omega), ← HQ.out.2.2.2] at h5
                  exact OwnRow.mk' V.out.2.2 (resL_len _ _ _).symm HCA.out.1 HCA.out.2 h5⟩)
                have h1w := below1 wo (.cells #[.slice (some ⟨g2, 0, none⟩) cs k2'] 22)
                have HW := Lib.hid (show Bld w1 (wo.alloc (.cells #[.slice (some ⟨g2, 0, none⟩) cs k2'] 22)) Ao q co S2 (resQ cs LL' q) ∧ OwnRow (wo.alloc (.cells #[.slice (some ⟨g2, 0, none⟩) cs k2'] 22)) w1.heap.size ⟨some ⟨g2, 0, none⟩, cs, k2'⟩ (resL cs LL' q) ∧ Vs slV (wo.alloc (.cells #[.slice (some ⟨g2, 0, none⟩) cs k2'] 22)) (some ⟨wo.heap.size, 0, none⟩) 1 [⟨some ⟨g2, 0, none⟩, cs, k2'⟩] from
                  ⟨HE.out.1.below h1w, HE.out.2.below h1w, vs_oneS wo _ ⟨some ⟨g2, 0, none⟩, cs, k2'⟩⟩)
                clear h1w
                go_wp2_with (at_builtin; refine wpList_app_V _ rfl (.tmp 94) (.tmp 96) 35 rfl slV_len one_sl w1.heap.size 22 _ 24 (by omega) Tryd.underlying35 infoSl3 rfl (by omega) (.slice Ao q co) q S2 rfl HW.out.1.own (some ⟨wo.heap.size, 0, none⟩) 1 1 (q + 1) rfl [⟨some ⟨g2, 0, none⟩, cs, k2'⟩] rfl HW.out.2.2 (by omega) HW.out.1.bel.size ?_; intro A5 c5 w5 hown hg)
                have Z2 := Lib.hid (show Bld w1 w5 A5 (q + 1) c5 (S2 ++ [⟨some ⟨g2, 0, none⟩, cs, k2'⟩]) (resQ cs LL' (q + 1)) from by
                  have h9 := HW.out.1.app HW.out.2.1 hown hg rfl
                  rw [← resQ_snoc] at h9
                  exact h9)
                clear hown hg HW
                go_wp2_with fail
                go_roundw
                case rel => exact ⟨q + 1, A5, c5, _, by omega, by go_num, rfl, Z2.out⟩
                case measure => simp [intOf]; omega
          · have hqi : (rn : Int) ≤ (q : Int) := by omega
            have HE := Lib.hid (show Bld w1 w3 Ao q co S2 (resQ cs LL' q) ∧ OwnRow w3 w1.heap.size ⟨some ⟨g2, 0, none⟩, cs, k2'⟩ (resL cs LL' q) from ⟨V.out.1, by
              have h5 := V.out.2.1
              have e5 : resL cs LL' q = blanksS cs pn0 := by unfold resL; rw [if_neg (by rw [HP.out.2.1.box.len]; exact hqr)]
              rw [← e5] at h5
              exact OwnRow.mk' V.out.2.2 (resL_len _ _ _).symm HCA.out.1 HCA.out.2 h5⟩)
            go_upto_region 10 with fail
            go_loopw [12] (fun i wr => i = .int .i64 0 ∧ wr = w3) (fun _ _ => 0)
            case atStart => exact ⟨rfl, rfl⟩
            case round =>
              obtain ⟨rfl, hwr⟩ := hrel
              have hwr := hwr.symm
              subst hwr
              have h1w := below1 w3 (.cells #[.slice (some ⟨g2, 0, none⟩) cs k2'] 22)
              have HW := Lib.hid (show Bld w1 (w3.alloc (.cells #[.slice (some ⟨g2, 0, none⟩) cs k2'] 22)) Ao q co S2 (resQ cs LL' q) ∧ OwnRow (w3.alloc (.cells #[.slice (some ⟨g2, 0, none⟩) cs k2'] 22)) w1.heap.size ⟨some ⟨g2, 0, none⟩, cs, k2'⟩ (resL cs LL' q) ∧ Vs slV (w3.alloc (.cells #[.slice (some ⟨g2, 0, none⟩) cs k2'] 22)) (some ⟨w3.heap.size, 0, none⟩) 1 [⟨some ⟨g2, 0, none⟩, cs, k2'⟩] from
                ⟨HE.out.1.below h1w, HE.out.2.below h1w, vs_oneS w3 _ ⟨some ⟨g2, 0, none⟩, cs, k2'⟩⟩)
              clear h1w
              go_wp2_with (at_builtin; refine wpList_app_V _ rfl (.tmp 94) (.tmp 96) 35 rfl slV_len one_sl w1.heap.size 22 _ 24 (by omega) Tryd.underlying35 infoSl3 rfl (by omega) (.slice Ao q co) q S2 rfl HW.out.1.own (some ⟨w3.heap.size, 0, none⟩) 1 1 (q + 1) rfl [⟨some ⟨g2, 0, none⟩, cs, k2'⟩] rfl HW.out.2.2 (by omega) HW.out.1.bel.size ?_; intro A5 c5 w5 hown hg)
              have Z2 := Lib.hid (show Bld w1 w5 A5 (q + 1) c5 (S2 ++ [⟨some ⟨g2, 0, none⟩, cs, k2'⟩]) (resQ cs LL' (q + 1)) from by
                have h9 := HW.out.1.app HW.out.2.1 hown hg rfl
                rw [← resQ_snoc] at h9
                exact h9)
              clear hown hg HW
              go_wp2_with fail
              go_roundw
              case rel => exact ⟨q + 1, A5, c5, _, by omega, by go_num, rfl, Z2.out⟩
              case measure => simp [intOf]; omega
        · obtain rfl : q = rs := by omega
          obtain ⟨g5, rfl, hg1, hg2, hg3, htb⟩ := Y.out.tb (by omega)
          have HTB := Lib.hid htb
          have HE := Lib.hid (show G = some (cs, q, resQ cs LL' q) from HP.out.2.2)
          clear htb
          go_wp2_with fail
          refine (refOf_any (k := co) HTB.out (show Box cs q (resQ cs LL' q) from resize_box cs q LL') hs1 hs2 hs3 hs4).mono ?_
          rintro e w7 ⟨hb, g3, k3, rfl, hg3', hk3, hk4, hR⟩
          have hbw := X.out.1.trans (Y.out.bel.mono X.out.1.size)
          have Y7 := Lib.hid (show Below w.heap.size w w7 ∧ Gb w7 (b + 1) gr0 ∧ Rw ceV 41 w7 g3 (resQ cs LL' q).flatten ∧ wr.heap.size ≤ g3 ∧ w.heap.size ≤ g3 from ⟨hbw.trans (hb.mono hbw.size), (X.out.2.1.below Y.out.bel).below hb, hR, hg3', Nat.le_trans hbw.size hg3'⟩)
          obtain ⟨N, hN⟩ : ∃ N, N = (resQ cs LL' q).flatten.length := ⟨_, rfl⟩
          rw [← hN] at hk3 ⊢
          have HN := Lib.hid hN
          have hlt6 := (X.out.2.1.below Y.out.bel).lt
          clear hb hR hg3' hN hbw
          go_wp2_with (refine wpList_store_G rfl (.tmp 6) (.tmp 99) rfl (b + 1) gr0 ⟨cs, q, some ⟨g3, 0, none⟩, N, k3⟩ rfl rfl Y7.out.2.1 ?_; intro w8 hG8 hg8)
          refine bodyPost_ret (retG Tryd.results36 hG8 rfl) rfl ?_
          rw [HE.out]
          exact GPost.yes ⟨Y7.out.1.grown hg8 Y7.out.1.size (by intro k hk; injection hk with hk; have := H.out.2.2.2.2; omega), g3, k3, by rw [HN.out], Y7.out.2.2.2.2, by rw [← HN.out]; exact hk3, hk4, Y7.out.2.2.1.grown hg8 (by have := Y7.out.2.2.2.1; simp; omega)⟩
end Go.Proofs.YtflnocgahdlojaaDoor
