/-
  The contract of the reference's list.
-/
import Derived.Test.YtchpobikbcelfaaTlvRefMem
import Derived.Deep.LoopGhost
import Derived.Deep.QuietTactic
import Derived.BigQuiet
import Derived.Deep.Cut
namespace Go.Proofs.Ytchpobikbcelfaa
open Go.RowKit

section
variable {w : World} {d : Nat} {A : Option Addr} {n c a : Nat} {A9 : Option Addr} {m c9 : Nat} {acc : List It} {xs : List Value} {wr w' : World}

theorem LInv.append {A' : Option Addr} {c' : Nat} (h : LInv w d A n c a A9 m c9 acc xs wr) {x : It} {B : Option Addr} {bn bc : Nat} {C : Option Addr} {cn cc : Nat}
    (hb : Bs wr (fun b => w.heap.size ≤ b ∧ b ≠ w.heap.size + 1 ∧ A9.map (·.block) ≠ some b) B bn bc x.bytes) (hi : Its wr (fun b => w.heap.size ≤ b ∧ b ≠ w.heap.size + 1 ∧ A9.map (·.block) ≠ some b) d C cn cc x.items)
    (ho : w'.ownsRow w.heap.size 47 5 (.slice A' (m + 1) c') (m + 1) (xs ++ x.cs B bn bc C cn cc)) (hg : wr.grownBy w' (Value.slice A9 m c9).ownBlock)
    (hw : A'.map (·.block) = (Value.slice A9 m c9).ownBlock ∨ A'.map (·.block) = some wr.heap.size) : LInv w d A n c a A' (m + 1) c' (acc ++ [x]) (xs ++ x.cs B bn bc C cn cc) w' :=
  ⟨(hg.block _ (lt_of_block h.box) (fun e => h.row.ne (by rw [ownBlock_map] at e; exact e.symm))).trans h.box, below_app0 h.row.own h.bel h.bel.size hg, h.row.snoc (lt_of_block h.box) hb hi ho hg hw⟩
theorem LInv.fresh (h : LInv w d A n c a A9 m c9 acc xs wr) {b : Nat} (hb : wr.heap.size < b) : w.heap.size ≤ b ∧ b ≠ w.heap.size + 1 ∧ A9.map (·.block) ≠ some b :=
  ⟨by have := h.bel.size; omega, by have := lt_of_block h.box; omega, fun e => by have := (h.row.own.lt b (by rw [ownBlock_map]; exact e)).2; omega⟩
end

/-- The contract, at a depth. -/
def ListC (d : Nat) : Prop := ∀ (D : Int), D + d = 4 → 1 ≤ D → ∀ (w : World) (A : Option Addr) (n c : Nat) (zs : List Int) (cnt : Int), Sb w A n zs → U8s zs → n ≤ c ∧ c ≤ maxLen → n ≤ 4096 → 0 ≤ cnt → cnt ≤ 64 →
    Calls Try.prog 32 #[.slice A n c, .int .i64 D, .int .i64 cnt] w (LPost w d (decL D cnt 0 zs))

set_option maxRecDepth 100000 in
set_option maxHeartbeats 8000000 in
theorem list_step (d : Nat) (ih : ∀ d', d = d' + 1 → ListC d') : ListC d := by
  intro D hD hD1 w A n c zs cnt hs hu hc hn hc0 hc1
  have IH := Lib.hid ih
  have H := Lib.hid (show Sb w A n zs ∧ U8s zs ∧ (n ≤ c ∧ c ≤ maxLen) from ⟨hs, hu, hc⟩)
  have HN := Lib.hid (And.intro hc0 hc1)
  clear ih hs hu hc hc0 hc1
  go_enter Try.func32, Try.ntmps32
  go_wp2_with fail
  go_loopg [2, 9, 11] n (fun k v2 v9 v11 wr => ∃ (a m c9 : Nat) (A9 : Option Addr) (acc : List It) (xs : List Value) (cn K : Int), v2 = .int .i64 cn ∧ v9 = .slice A9 m c9 ∧ v11 = .int .u64 K ∧ a ≤ n ∧ n - a ≤ k ∧ 0 ≤ cn ∧ cn ≤ 64 ∧ (m : Int) ≤ cn ∧ 0 ≤ K ∧ K ≤ 1000 ∧
    decL D cnt 0 zs = (decL D cn K (zs.drop a)).pres acc ∧ LInv w d A n c a A9 m c9 acc xs wr)
  case atStart =>
    refine ⟨0, 0, 0, _, [], [], cnt, 0, rfl, rfl, rfl, Nat.zero_le _, Nat.le_refl _, HN.out.1, HN.out.2, by have := HN.out.1; omega, Int.le_refl _, by omega, by rw [DR.pres_nil]; rfl, ?_⟩
    refine ⟨?_, ((Below.refl _ _).alloc (Nat.le_refl _) _).alloc (by simp) _, ?_⟩
    · have h1 := heap_alloc_new (w.alloc (.cells #[] 47)) (.cells #[.slice A n c, .int .i64 0, .int .i64 0] 78)
      simpa using h1
    · refine LRow.below (w := w.alloc (.cells #[] 47)) ⟨World.ownsRow_lit w #[] 0 (Nat.le_refl _) (by unfold maxLen; omega) rfl, by simp, rfl⟩ ((Below.refl _ _).alloc (Nat.le_refl _) _)
  case round =>
    obtain ⟨a, m, c9, A9, acc, xs, cn, K, rfl, rfl, rfl, ha, hk, hc0, hc1, hm, hK0, hK1, hdec, hinv⟩ := hrel
    have I := Lib.hid hinv
    have HD := Lib.hid (And.intro hdec hk)
    have hmx : c ≤ 9223372036854775807 := by have := H.out.2.2.2; unfold maxLen at this; omega
    have hn2 : n ≤ 140737488355328 := by omega
    obtain ⟨x0, x1, x2, _⟩ := box_cells hinv.box
    clear hinv hdec hk
    go_wp2_with fail
    refine (refLeft_any wr ha hn2).mono ?_
    rintro e w1 ⟨rfl, hb1⟩
    have I1 := Lib.hid (I.out.below hb1)
    clear hb1 x0 x1 x2
    by_cases hz : a = n
    · have HP : Hid (∀ w', Below w1.heap.size w1 w' → LPost w d (decL D cnt 0 zs) (.returned (.tuple #[.slice A9 m c9, .int .i64 cn, .int .i64 0])) w') := fun w' hb => by
        have e : zs.drop a = [] := List.drop_eq_nil_of_le (by rw [H.out.1.len]; omega)
        rw [HD.out.1, e, decL_nil]
        have h2 := I1.out.below hb
        exact ⟨h2.bel, A9, m, c9, rfl, by simpa [DR.pres] using h2.row.its⟩
      subst hz
      rw [Nat.sub_self]
      go_wp2_with fail
      refine bodyPost_ret (v := .tuple #[.slice A9 m c9, .int .i64 cn, .int .i64 0]) (by simp [results, Try.results32, go_sem]) rfl ?_
      exact HP.out _ (Below.refl _ _)
    · have hlt : (0 : Int) < ((n - a : Nat) : Int) := by omega
      obtain ⟨x0, x1, x2, xf⟩ := box_cells I1.out.box
      have h0 : Hid (zs.drop a ≠ []) := by
        intro e
        have := congrArg List.length e
        simp [H.out.1.len] at this
        omega
      have hU : Hid (U8s (zs.drop a)) := H.out.2.1.drop a
      clear hz
      go_wp2_with fail
      refine (refVarR_any (e := 0) w1 (H.out.1.below I1.out.bel) H.out.2.1 H.out.2.2 ha hn2).mono ?_
      rintro e w2 ⟨u, rfl, ⟨a2, ha2, hd2, rfl⟩, hb2⟩
      obtain ⟨V, hV⟩ : ∃ V, V = (var1 (zs.drop a) 0).1 := ⟨_, rfl⟩
      obtain ⟨E, hE⟩ : ∃ E, E = (var1 (zs.drop a) 0).2.2 := ⟨_, rfl⟩
      rw [← hV, ← hE]
      have HV := Lib.hid (And.intro hV (And.intro hE hd2))
      have I2 := Lib.hid (I1.out.below hb2)
      clear hV hE hd2 hb2 x0 x1 x2 xf
      obtain ⟨x0, x1, x2, xf⟩ := box_cells I2.out.box
      by_cases hE0 : E = 0
      · subst hE0
        have h1 : fvE 0 (zs.drop a) = 0 := by
          rcases Classical.em (fvE 0 (zs.drop a) = 0) with h | h
          · exact h
          · have h5 := HV.out.2.1
            unfold var1 at h5
            rw [if_neg (by simp), if_neg h] at h5
            exact absurd h5.symm h
        have hVV : V = fvV (zs.drop a) := by
          rw [HV.out.1]; unfold var1; rw [if_neg (by simp), if_pos h1]
        have hd2 : zs.drop a2 = (zs.drop a).drop (fvK (zs.drop a)) := by
          rw [HV.out.2.2]; unfold var1; rw [if_neg (by simp), if_pos h1]
        have hV0 : 0 ≤ V := by rw [hVV]; exact fvV_nonneg hU.out
        have hV1 : V ≤ 18446744073709551615 := by
          have := fvV_lt hU.out 0 (by omega) h1
          rw [hVV]; simp at this; omega
        have e4 : IntKind.u64.wrap (V.tdiv 4) = V / 4 := by rw [Int.tdiv_eq_ediv_of_nonneg hV0, IntKind.wrap_u64]; omega
        have e2 : IntKind.u64.wrap (V.tmod 2) = V % 2 := by rw [Int.tmod_eq_emod_of_nonneg hV0, IntKind.wrap_u64]; omega
        have e8 : IntKind.u64.wrap (V.tmod 4) = V % 4 := by rw [Int.tmod_eq_emod_of_nonneg hV0, IntKind.wrap_u64]; omega
        have G := Lib.hid (show fvE 0 (zs.drop a) = 0 ∧ V = fvV (zs.drop a) ∧ zs.drop a2 = (zs.drop a).drop (fvK (zs.drop a)) ∧ 0 ≤ V ∧ V ≤ 18446744073709551615 ∧ IntKind.u64.wrap (V.tdiv 4) = V / 4 ∧ IntKind.u64.wrap (V.tmod 2) = V % 2 ∧ IntKind.u64.wrap (V.tmod 4) = V % 4 from ⟨h1, hVV, hd2, hV0, hV1, e4, e2, e8⟩)
        have HP3 : Hid (1000 < V / 4 ∨ V / 4 ≤ K → ∀ w', Below w.heap.size w w' → LPost w d (decL D cnt 0 zs) (.returned (.tuple #[.slice none 0 0, .int .i64 cn, .int .i64 3])) w') := fun h2 w' hb => by
          rw [HD.out.1, dec_e2 hU.out h0.out G.out.1 (by rw [← G.out.2.1]; exact h2)]
          exact ⟨hb, cn, rfl⟩
        have HB : Hid (Below w.heap.size w (put3 w2 (w.heap.size + 1) (.slice A n c) (.int .i64 a2) (.int .i64 0))) := put3_below I2.out.bel (Nat.le_succ _)
        obtain ⟨y0, y1, y2, yf⟩ := box_cells (put3_blk (v0 := .slice A n c) (v1 := .int .i64 a2) (v2 := .int .i64 0) I2.out.box)
        unfold put3 at y0 y1 y2 yf
        clear h1 hVV hd2 hV0 hV1 e4 e2 e8
        by_cases g1 : V / 4 < 1
        · have t1 : decide (IntKind.u64.wrap (V.tdiv 4) < 1) = true := by rw [G.out.2.2.2.2.2.1]; simpa using g1
          have H3 := Lib.hid (HP3.out (.inr (by omega)))
          clear g1
          go_wp2_with fail
          refine bodyPost_ret (v := .tuple #[.slice none 0 0, .int .i64 cn, .int .i64 3]) (by simp [results, Try.results32, go_sem]) rfl ?_
          exact H3.out _ HB.out
        have t1 : decide (IntKind.u64.wrap (V.tdiv 4) < 1) = false := by rw [G.out.2.2.2.2.2.1]; simpa using g1
        by_cases g2 : 1000 < V / 4
        · have t2 : decide (1000 < IntKind.u64.wrap (V.tdiv 4)) = true := by rw [G.out.2.2.2.2.2.1]; simpa using g2
          have H3 := Lib.hid (HP3.out (.inl g2))
          clear g1 g2
          go_wp2_with fail
          refine bodyPost_ret (v := .tuple #[.slice none 0 0, .int .i64 cn, .int .i64 3]) (by simp [results, Try.results32, go_sem]) rfl ?_
          exact H3.out _ HB.out
        have t2 : decide (1000 < IntKind.u64.wrap (V.tdiv 4)) = false := by rw [G.out.2.2.2.2.2.1]; simpa using g2
        by_cases g3 : V / 4 ≤ K
        · have t3 : decide (IntKind.u64.wrap (V.tdiv 4) ≤ K) = true := by rw [G.out.2.2.2.2.2.1]; simpa using g3
          have H3 := Lib.hid (HP3.out (.inr g3))
          clear g1 g2 g3
          go_wp2_with fail
          refine bodyPost_ret (v := .tuple #[.slice none 0 0, .int .i64 cn, .int .i64 3]) (by simp [results, Try.results32, go_sem]) rfl ?_
          exact H3.out _ HB.out
        have t3 : decide (IntKind.u64.wrap (V.tdiv 4) ≤ K) = false := by rw [G.out.2.2.2.2.2.1]; simpa using g3
        have H2 := Lib.hid (show ¬ (1000 < fvV (zs.drop a) / 4 ∨ fvV (zs.drop a) / 4 ≤ K) ∧ 1 ≤ V / 4 ∧ V / 4 ≤ 1000 from ⟨by rw [← G.out.2.1]; omega, by omega, by omega⟩)
        clear g1 g2 g3
        by_cases g4 : cn = 64
        · have hgt : (64 : Int) < cn + 1 := by omega
          have H3 : Hid (∀ w', Below w.heap.size w w' → LPost w d (decL D cnt 0 zs) (.returned (.tuple #[.slice none 0 0, .int .i64 (cn + 1), .int .i64 4])) w') := fun w' hb => by
            rw [HD.out.1, dec_e3 hU.out h0.out G.out.1 H2.out.1 g4]
            exact ⟨hb, cn + 1, rfl⟩
          clear g4
          go_wp2_with fail
          refine bodyPost_ret (v := .tuple #[.slice none 0 0, .int .i64 (cn + 1), .int .i64 4]) (by simp [results, Try.results32, go_sem]) rfl ?_
          exact H3.out _ HB.out
        have hle : cn + 1 ≤ 64 := by omega
        have H4 := Lib.hid g4
        clear g4
        by_cases g5 : V % 2 = 1 ∧ 4 ≤ D
        · have t4 : V.tmod 2 = 1 := by rw [Int.tmod_eq_emod_of_nonneg G.out.2.2.2.1]; exact g5.1
          have t5 : D = 4 := by omega
          have H3 : Hid (∀ w', Below w.heap.size w w' → LPost w d (decL D cnt 0 zs) (.returned (.tuple #[.slice none 0 0, .int .i64 (cn + 1), .int .i64 5])) w') := fun w' hb => by
            rw [HD.out.1, dec_e4 hU.out h0.out G.out.1 H2.out.1 H4.out (by rw [← G.out.2.1]; exact g5)]
            exact ⟨hb, cn + 1, rfl⟩
          clear g5
          subst t5
          go_wp2_with fail
          refine bodyPost_ret (v := .tuple #[.slice none 0 0, .int .i64 (cn + 1), .int .i64 5]) (by simp [results, Try.results32, go_sem]) rfl ?_
          exact H3.out _ HB.out
        · have g5' : ¬ (fvV (zs.drop a) % 2 = 1 ∧ 4 ≤ D) := by rw [← G.out.2.1]; exact g5
          have H5 := Lib.hid g5'
          have I3 := Lib.hid ((I2.out.put a2).below ((Below.refl _ _).alloc (Nat.le_refl _) (.cells #[] 5)))
          have S3 := Lib.hid (H.out.1.below I3.out.bel)
          obtain ⟨z0, z1, z2, zf⟩ := box_cells I3.out.box
          unfold put3 at z0 z1 z2 zf
          have T : Hid (Calls Try.prog 49 #[.agg #[.slice A n c, .int .i64 a2, .int .i64 0], .int .i64 4096] ((put3 w2 (w.heap.size + 1) (.slice A n c) (.int .i64 a2) (.int .i64 0)).alloc (.cells #[] 5)) (RTakePost A n c zs ((put3 w2 (w.heap.size + 1) (.slice A n c) (.int .i64 a2) (.int .i64 0)).alloc (.cells #[] 5)) (text1 (zs.drop a2) 0 4096))) :=
            refTextR_any (e := 0) _ S3.out H.out.2.1 H.out.2.2 ha2 hn2 4096 (by omega) (by omega)
          obtain ⟨q, hq⟩ : ∃ q, q = text1 (zs.drop a2) 0 4096 := ⟨_, rfl⟩
          rw [← hq] at T
          have HQ := Lib.hid hq
          have hwW : Hid (put3 w2 (w.heap.size + 1) (.slice A n c) (.int .i64 a2) (.int .i64 0) = ((w2.setCell ⟨w.heap.size + 1, 0, none⟩ (.slice A n c)).setCell ⟨w.heap.size + 1, 1, none⟩ (.int .i64 a2)).setCell ⟨w.heap.size + 1, 2, none⟩ (.int .i64 0)) := rfl
          rw [hwW.out] at T
          have hbad : Hid (q.2.2 ≠ 0 → ∀ w', Below w.heap.size w w' → LPost w d (decL D cnt 0 zs) (.returned (.tuple #[.slice none 0 0, .int .i64 (cn + 1), .int .i64 q.2.2])) w') := fun h5 w' hb => by
            have e5 : q = text1 ((zs.drop a).drop (fvK (zs.drop a))) 0 4096 := by rw [HQ.out, G.out.2.2.1]
            rw [HD.out.1, dec_e5 hU.out h0.out G.out.1 H2.out.1 H4.out H5.out (by rw [← e5]; exact h5), ← e5]
            exact ⟨hb, cn + 1, rfl⟩
          clear hq g5'
          by_cases g6 : V % 2 = 1
          · have t4 : V.tmod 2 = 1 := by rw [Int.tmod_eq_emod_of_nonneg G.out.2.2.2.1]; exact g6
            have t5 : ¬ D = 4 := fun e => g5 ⟨g6, by omega⟩
            clear g5
            go_wp2_with fail
            refine T.out.mono ?_
            rintro e w4 ⟨v, u, rfl, ⟨A4, n4, c4, rfl, hm⟩, ⟨a3, ha3, hd3, rfl⟩⟩
            have I4 := Lib.hid (I3.out.below hm.below)
            have M4 := Lib.hid hm
            clear hm z0 z1 z2 zf y0 y1 y2 yf
            obtain ⟨z0, z1, z2, zf⟩ := box_cells I4.out.box
            by_cases g7 : q.2.2 = 0
            · have hu2 : U8s (zs.drop a2) := H.out.2.1.drop _
              have H6 := Lib.hid (show (text1 (zs.drop a2) 0 4096).2.2 = 0 from by rw [← HQ.out]; exact g7)
              obtain ⟨g1, g2, g3, g4⟩ := text1_parts hu2 (Int.le_refl 4096) H6.out
              have g5 := (text1_ok hu2 (Int.le_refl 4096) H6.out).1
              obtain ⟨q1, q2, q3⟩ := q
              obtain rfl : q3 = 0 := g7
              rw [← HQ.out] at g1 g2 g3 g4 g5
              have HG2 := Lib.hid (And.intro g1 (And.intro g2 (And.intro g3 (And.intro g4 g5))))
              have I5 := Lib.hid (I4.out.put a3)
              obtain ⟨y0, y1, y2, yf⟩ := box_cells I5.out.box
              unfold put3 at y0 y1 y2 yf
              clear hu2 g1 g2 g3 g4 g5 hbad y0 y1 y2 yf x0 x1 x2 xf
              go_upto_region 18 with fail
              have I6 : Hid (LInv w d A n c a3 A9 m c9 acc xs (((w4.setCell ⟨w.heap.size + 1, 0, none⟩ (.slice A n c)).setCell ⟨w.heap.size + 1, 1, none⟩ (.int .i64 a3)).setCell ⟨w.heap.size + 1, 2, none⟩ (.int .i64 0))) := I5
              clear I5 z0 z1 z2 zf
              have hsz : w4.heap.size ≤ (((w4.setCell ⟨w.heap.size + 1, 0, none⟩ (.slice A n c)).setCell ⟨w.heap.size + 1, 1, none⟩ (.int .i64 a3)).setCell ⟨w.heap.size + 1, 2, none⟩ (.int .i64 0)).heap.size := by simp
              have hbs : ∀ k, k ≠ w.heap.size + 1 → (((w4.setCell ⟨w.heap.size + 1, 0, none⟩ (.slice A n c)).setCell ⟨w.heap.size + 1, 1, none⟩ (.int .i64 a3)).setCell ⟨w.heap.size + 1, 2, none⟩ (.int .i64 0)).heap[k]? = w4.heap[k]? := fun k hk => put3_other (v0 := .slice A n c) (v1 := .int .i64 a3) (v2 := .int .i64 0) hk
              generalize ((w4.setCell ⟨w.heap.size + 1, 0, none⟩ (.slice A n c)).setCell ⟨w.heap.size + 1, 1, none⟩ (.int .i64 a3)).setCell ⟨w.heap.size + 1, 2, none⟩ (.int .i64 0) = w5 at I6 hsz hbs ⊢
              have HB5 : Hid (Bs w5 (fun b => w.heap.size ≤ b ∧ b ≠ w.heap.size + 1 ∧ A9.map (·.block) ≠ some b) A4 n4 c4 q1) := by
                have h1 := bs_fresh (b0 := w2.heap.size) M4.out.fresh HG2.out.2.2.1 HG2.out.2.2.2.2 (by simp)
                exact (h1.mono fun b hb _ => I2.out.fresh hb.1).stay hsz fun b hb _ => hbs b hb.2.1
              clear hsz hbs
              obtain ⟨_, _, y2, yf⟩ := box_cells I6.out.box
              obtain ⟨K0, hK0⟩ : ∃ k, k = V / 4 := ⟨_, rfl⟩
              obtain ⟨b2, hb2⟩ : ∃ b, b = decide (2 ≤ V.tmod 4) := ⟨_, rfl⟩
              have eK : IntKind.u64.wrap (V.tdiv 4) = K0 := by rw [hK0]; exact G.out.2.2.2.2.2.1
              have eC : decide (2 ≤ V.tmod 4) = b2 := hb2.symm
              have hK00 : 1 ≤ K0 := by rw [hK0]; exact H2.out.2.1
              have hK01 : K0 ≤ 1000 := by rw [hK0]; exact H2.out.2.2
              have hcr : decide (V / 2 % 2 = 1) = b2 := by
                rw [hb2, Int.tmod_eq_emod_of_nonneg G.out.2.2.2.1, decide_eq_decide]; omega
              have HK := Lib.hid (And.intro hK0 (And.intro hb2 hcr))
              clear hK0 hb2 hcr t1 t2 t3
              have hd3' : zs.drop a3 = q2 := hd3
              have HD3 := Lib.hid hd3'
              have hms : n - a3 < n - a := by
                have h1 := HG2.out.2.1
                rw [← hd3', List.length_drop, List.length_drop, H.out.1.len] at h1
                have h2 := congrArg List.length G.out.2.2.1
                simp only [List.length_drop, H.out.1.len] at h2
                omega
              clear hd3 hd3'
              obtain ⟨d', hd'⟩ : ∃ d', d = d' + 1 := ⟨d - 1, by omega⟩
              have b6 : Below w5.heap.size w5 (w5.alloc (.cells #[.int .i64 K0, .bool b2, .bool true, .slice none 0 0, .slice none 0 0] 47)) := (Below.refl _ _).alloc (Nat.le_refl _) _
              have HBX : Hid ((w5.alloc (.cells #[.int .i64 K0, .bool b2, .bool true, .slice none 0 0, .slice none 0 0] 47)).heap[w5.heap.size]? = some (.cells #[.int .i64 K0, .bool b2, .bool true, .slice none 0 0, .slice none 0 0] 47 (0, 0))) := heap_alloc_new _ _
              have HSZ : Hid ((w5.alloc (.cells #[.int .i64 K0, .bool b2, .bool true, .slice none 0 0, .slice none 0 0] 47)).heap.size = w5.heap.size + 1) := by show _ = _; simp
              have hln : n4 ≤ 4096 := by have := M4.out.len; have := HG2.out.2.2.2.2; omega
              have HC := Lib.hid (IH.out d' hd' (D + 1) (by omega) (by omega) _ A4 n4 c4 q1 (cn + 1) (HB5.out.sb.below b6) HG2.out.2.2.1 ⟨M4.out.le, M4.out.max⟩ hln (by omega) hle)
              have B6 := Lib.hid b6
              have HDD := Lib.hid hd'
              have HIN : Hid (decL D cnt 0 zs = ((decL (D + 1) (cn + 1) 0 q1).upon fun c' l => (decL D c' K0 (zs.drop a3)).pre (mkIt V [] l)).pres acc) := by
                have e5 : text1 ((zs.drop a).drop (fvK (zs.drop a))) 0 4096 = (q1, q2, 0) := by rw [← G.out.2.2.1]; exact HQ.out.symm
                show _ = _
                rw [HD.out.1, dec_in hU.out h0.out G.out.1 H2.out.1 H4.out H5.out (by rw [e5]) (by rw [← G.out.2.1]; exact g6), e5, HD3.out, HK.out.1, ← G.out.2.1]
              clear b6 hln hd'
              go_wp2_with fail
              refine HC.out.mono ?_
              intro e w7 hpost
              clear y2 yf HC
              cases hin : decL (D + 1) (cn + 1) 0 q1 with
              | bad c1 E =>
                rw [hin] at hpost
                obtain ⟨hb7, c7, rfl⟩ := hpost
                have hne := dec_ne _ q1 (Nat.le_refl _) HG2.out.2.2.1 _ _ _ _ _ hin
                have tE : (E != 0) = true := by simpa using hne
                have HP : Hid (LPost w d (decL D cnt 0 zs) (.returned (.tuple #[.slice none 0 0, .int .i64 c7, .int .i64 E])) w7) := by
                  show LPost _ _ _ _ _
                  rw [HIN.out, hin]
                  exact ⟨(I6.out.bel.trans (B6.out.mono I6.out.bel.size)).trans (hb7.mono (by have h1 := I6.out.bel.size; rw [HSZ.out]; omega)), c7, rfl⟩
                clear hne hin hb7
                go_wp2_with fail
                refine bodyPost_ret (v := .tuple #[.slice none 0 0, .int .i64 c7, .int .i64 E]) (by simp [results, Try.results32, go_sem]) rfl ?_
                exact HP.out
              | ok c1 l1 =>
                rw [hin] at hpost
                obtain ⟨hb7, A6, n6, c6, rfl, hits⟩ := hpost
                have hle2 := dec_le HG2.out.2.2.2.2 HG2.out.2.2.1 (Int.le_refl 0) hle hin
                have hc1 : 0 ≤ c1 ∧ c1 ≤ 64 ∧ ((m + 1 : Nat) : Int) ≤ c1 := by omega
                have hxb := (hb7.block _ (by rw [HSZ.out]; omega)).trans HBX.out
                have B7 := Lib.hid (show Below w5.heap.size w5 w7 from B6.out.trans (hb7.mono (by rw [HSZ.out]; omega)))
                have hin2 := HIN.out
                rw [hin] at hin2
                simp only [DR.upon] at hin2
                rw [DR.pres_pre] at hin2
                have HIN2 := Lib.hid hin2
                have b8 : Below w5.heap.size w5 ((w7.setCell ⟨w5.heap.size, 4, none⟩ (.slice A6 n6 c6)).alloc (.cells #[.int .i64 K0, .bool b2, .bool true, .slice none 0 0, .slice A6 n6 c6] 47)) := (B7.out.setCell (Nat.le_refl _) _).alloc (by have := B7.out.size; simpa using this) _
                have hits8 : Its ((w7.setCell ⟨w5.heap.size, 4, none⟩ (.slice A6 n6 c6)).alloc (.cells #[.int .i64 K0, .bool b2, .bool true, .slice none 0 0, .slice A6 n6 c6] 47)) (fun b => w.heap.size ≤ b ∧ b ≠ w.heap.size + 1 ∧ A9.map (·.block) ≠ some b) d A6 n6 c6 l1 := by
                  rw [HDD.out]
                  refine (hits.stay (by simp) fun b hb hlt => ?_).mono fun b hb _ => I6.out.fresh (by have h1 := HSZ.out; have h2 : _ ≤ b := hb; omega)
                  have h1 := HSZ.out
                  have h2 : _ ≤ b := hb
                  rw [heap_alloc_old _ _ (by simpa using hlt)]
                  exact heap_setCell_other _ _ _ _ (by simp; omega)
                have I8 := Lib.hid (And.intro (I6.out.below b8) hits8)
                have hV6 : It.cs (mkIt V [] l1) none 0 0 A6 n6 c6 = [.int .i64 K0, .bool b2, .bool true, .slice none 0 0, .slice A6 n6 c6] := by
                  unfold It.cs
                  rw [mk_kind, mk_crit, mk_lst, ← HK.out.1, HK.out.2.2, show decide (V % 2 = 1) = true from by simpa using g6]
                have HV6 := Lib.hid hV6
                have hsz8 := (I6.out.below b8).bel.size
                have hown := (I6.out.below b8).row.own
                have hone := oneCellsAt (w7.setCell ⟨w5.heap.size, 4, none⟩ (.slice A6 n6 c6)) [.int .i64 K0, .bool b2, .bool true, .slice none 0 0, .slice A6 n6 c6] 47
                have hall : ∀ u ∈ ([.int .i64 K0, .bool b2, .bool true, .slice none 0 0, .slice A6 n6 c6] : List Value), u.oneCell' = true := by rw [← hV6]; exact oneItem _ _ _ _ _ _ _
                obtain ⟨x0, x1, x2, x3, x4⟩ := item_cells hxb
                have y4 := item_free hxb 4
                have hlt5 : w5.heap.size < w7.heap.size := lt_of_block hxb
                clear hV6 b8 hits8 hits hin hin2 hb7 hxb hle2
                go_wp2_with (at_builtin; refine wpList_appw _ rfl (.tmp 105) (.tmp 107) 22 rfl w.heap.size 47 _ 5 64 Try.underlying22 info47 rfl (by omega) (.slice A9 m c9) m xs rfl hown ⟨w7.heap.size, 0, none⟩ 1 1 ([.int .i64 K0, .bool b2, .bool true, .slice none 0 0, .slice A6 n6 c6] : List Value) rfl rfl (by simpa using hone) hall (by unfold maxLen; omega) (by omega) hsz8 ?_; intro A8 c8 w8 hown8 hg8 hw8; have R8 := Lib.hid (I8.out.1.append (x := mkIt V [] l1) (bs_none _ _) I8.out.2 (by rw [HV6.out]; exact hown8) hg8 hw8); clear hown8 hg8 hw8 hown hone hall hsz8)
                go_roundg (n - a3)
                case measure => have := HD.out.2; omega
                case rel =>
                  exact ⟨a3, m + 1, c8, A8, acc ++ [mkIt V [] l1], _, c1, K0, rfl, rfl, rfl, ha3, Nat.le_refl _, hc1.1, hc1.2.1, hc1.2.2, by omega, by omega, HIN2.out, R8.out⟩
            · have t7 : (q.2.2 != 0) = true := by simpa using g7
              have HB4 : Hid (Below w.heap.size w (put3 w4 (w.heap.size + 1) (.slice A n c) (.int .i64 a3) (.int .i64 q.2.2))) := put3_below I4.out.bel (Nat.le_succ _)
              have H3 := Lib.hid (hbad.out g7)
              obtain ⟨y0, y1, y2, yf⟩ := box_cells (put3_blk (v0 := .slice A n c) (v1 := .int .i64 a3) (v2 := .int .i64 q.2.2) I4.out.box)
              unfold put3 at y0 y1 y2 yf
              clear g7
              go_wp2_with fail
              go_quiet (fail)
              go_wp2_with fail
              refine bodyPost_ret (v := .tuple #[.slice none 0 0, .int .i64 (cn + 1), .int .i64 q.2.2]) (by simp [results, Try.results32, go_sem]) rfl ?_
              exact H3.out _ (below_drewN' HB4.out _)
          · have t4 : ¬ V.tmod 2 = 1 := by rw [Int.tmod_eq_emod_of_nonneg G.out.2.2.2.1]; exact g6
            clear g5
            go_wp2_with fail
            refine T.out.mono ?_
            rintro e w4 ⟨v, u, rfl, ⟨A4, n4, c4, rfl, hm⟩, ⟨a3, ha3, hd3, rfl⟩⟩
            have I4 := Lib.hid (I3.out.below hm.below)
            have M4 := Lib.hid hm
            clear hm z0 z1 z2 zf y0 y1 y2 yf
            obtain ⟨z0, z1, z2, zf⟩ := box_cells I4.out.box
            by_cases g7 : q.2.2 = 0
            · have hu2 : U8s (zs.drop a2) := H.out.2.1.drop _
              have H6 := Lib.hid (show (text1 (zs.drop a2) 0 4096).2.2 = 0 from by rw [← HQ.out]; exact g7)
              obtain ⟨g1, g2, g3, g4⟩ := text1_parts hu2 (Int.le_refl 4096) H6.out
              have g5 := (text1_ok hu2 (Int.le_refl 4096) H6.out).1
              obtain ⟨q1, q2, q3⟩ := q
              obtain rfl : q3 = 0 := g7
              rw [← HQ.out] at g1 g2 g3 g4 g5
              have HG2 := Lib.hid (And.intro g1 (And.intro g2 (And.intro g3 (And.intro g4 g5))))
              have I5 := Lib.hid (I4.out.put a3)
              obtain ⟨y0, y1, y2, yf⟩ := box_cells I5.out.box
              unfold put3 at y0 y1 y2 yf
              clear hu2 g1 g2 g3 g4 g5 hbad y0 y1 y2 yf x0 x1 x2 xf
              go_upto_region 18 with fail
              have I6 : Hid (LInv w d A n c a3 A9 m c9 acc xs (((w4.setCell ⟨w.heap.size + 1, 0, none⟩ (.slice A n c)).setCell ⟨w.heap.size + 1, 1, none⟩ (.int .i64 a3)).setCell ⟨w.heap.size + 1, 2, none⟩ (.int .i64 0))) := I5
              clear I5 z0 z1 z2 zf
              have hsz : w4.heap.size ≤ (((w4.setCell ⟨w.heap.size + 1, 0, none⟩ (.slice A n c)).setCell ⟨w.heap.size + 1, 1, none⟩ (.int .i64 a3)).setCell ⟨w.heap.size + 1, 2, none⟩ (.int .i64 0)).heap.size := by simp
              have hbs : ∀ k, k ≠ w.heap.size + 1 → (((w4.setCell ⟨w.heap.size + 1, 0, none⟩ (.slice A n c)).setCell ⟨w.heap.size + 1, 1, none⟩ (.int .i64 a3)).setCell ⟨w.heap.size + 1, 2, none⟩ (.int .i64 0)).heap[k]? = w4.heap[k]? := fun k hk => put3_other (v0 := .slice A n c) (v1 := .int .i64 a3) (v2 := .int .i64 0) hk
              generalize ((w4.setCell ⟨w.heap.size + 1, 0, none⟩ (.slice A n c)).setCell ⟨w.heap.size + 1, 1, none⟩ (.int .i64 a3)).setCell ⟨w.heap.size + 1, 2, none⟩ (.int .i64 0) = w5 at I6 hsz hbs ⊢
              have HB5 : Hid (Bs w5 (fun b => w.heap.size ≤ b ∧ b ≠ w.heap.size + 1 ∧ A9.map (·.block) ≠ some b) A4 n4 c4 q1) := by
                have h1 := bs_fresh (b0 := w2.heap.size) M4.out.fresh HG2.out.2.2.1 HG2.out.2.2.2.2 (by simp)
                exact (h1.mono fun b hb _ => I2.out.fresh hb.1).stay hsz fun b hb _ => hbs b hb.2.1
              clear hsz hbs
              obtain ⟨_, _, y2, yf⟩ := box_cells I6.out.box
              obtain ⟨K0, hK0⟩ : ∃ k, k = V / 4 := ⟨_, rfl⟩
              obtain ⟨b2, hb2⟩ : ∃ b, b = decide (2 ≤ V.tmod 4) := ⟨_, rfl⟩
              have eK : IntKind.u64.wrap (V.tdiv 4) = K0 := by rw [hK0]; exact G.out.2.2.2.2.2.1
              have eC : decide (2 ≤ V.tmod 4) = b2 := hb2.symm
              have hK00 : 1 ≤ K0 := by rw [hK0]; exact H2.out.2.1
              have hK01 : K0 ≤ 1000 := by rw [hK0]; exact H2.out.2.2
              have hcr : decide (V / 2 % 2 = 1) = b2 := by
                rw [hb2, Int.tmod_eq_emod_of_nonneg G.out.2.2.2.1, decide_eq_decide]; omega
              have HK := Lib.hid (And.intro hK0 (And.intro hb2 hcr))
              clear hK0 hb2 hcr t1 t2 t3
              have hd3' : zs.drop a3 = q2 := hd3
              have HD3 := Lib.hid hd3'
              have hms : n - a3 < n - a := by
                have h1 := HG2.out.2.1
                rw [← hd3', List.length_drop, List.length_drop, H.out.1.len] at h1
                have h2 := congrArg List.length G.out.2.2.1
                simp only [List.length_drop, H.out.1.len] at h2
                omega
              clear hd3 hd3'
              go_upto_region 28 with fail
              have hV6 : It.cs (mkIt V q1 []) A4 n4 c4 none 0 0 = [.int .i64 K0, .bool b2, .bool false, .slice A4 n4 c4, .slice none 0 0] := by
                unfold It.cs
                rw [mk_kind, mk_crit, mk_lst, ← HK.out.1, HK.out.2.2, show decide (V % 2 = 1) = false from by simpa using g6]
              have HV6 := Lib.hid hV6
              have b7 : Below w5.heap.size w5 ((w5.alloc (.cells #[.int .i64 K0, .bool b2, .bool false, .slice A4 n4 c4, .slice none 0 0] 47)).alloc (.cells #[.int .i64 K0, .bool b2, .bool false, .slice A4 n4 c4, .slice none 0 0] 47)) := ((Below.refl _ _).alloc (Nat.le_refl _) _).alloc (by simp) _
              have I7 := Lib.hid (And.intro (I6.out.below b7) (HB5.out.stay b7.size fun b _ hlt => b7.block b hlt))
              have hsz7 := (I6.out.below b7).bel.size
              have hown := (I6.out.below b7).row.own
              have hone := oneCellsAt (w5.alloc (.cells #[.int .i64 K0, .bool b2, .bool false, .slice A4 n4 c4, .slice none 0 0] 47)) [.int .i64 K0, .bool b2, .bool false, .slice A4 n4 c4, .slice none 0 0] 47
              have hall : ∀ u ∈ ([.int .i64 K0, .bool b2, .bool false, .slice A4 n4 c4, .slice none 0 0] : List Value), u.oneCell' = true := by rw [← hV6]; exact oneItem _ _ _ _ _ _ _
              clear hV6 b7 y2 yf
              go_wp2_with (at_builtin; refine wpList_appw _ rfl (.tmp 105) (.tmp 107) 22 rfl w.heap.size 47 _ 5 64 Try.underlying22 info47 rfl (by omega) (.slice A9 m c9) m xs rfl hown ⟨w5.heap.size + 1, 0, none⟩ 1 1 ([.int .i64 K0, .bool b2, .bool false, .slice A4 n4 c4, .slice none 0 0] : List Value) rfl rfl (by simpa using hone) hall (by unfold maxLen; omega) (by omega) hsz7 ?_; intro A8 c8 w8 hown8 hg8 hw8; have R8 := Lib.hid (I7.out.1.append (x := mkIt V q1 []) I7.out.2 (its_none _ _ _) (by rw [HV6.out]; exact hown8) hg8 hw8); clear hown8 hg8 hw8 hown hone hall hsz7)
              go_roundg (n - a3)
              case measure => have := HD.out.2; omega
              case rel =>
                have e5 : text1 ((zs.drop a).drop (fvK (zs.drop a))) 0 4096 = (q1, q2, 0) := by rw [← G.out.2.2.1]; exact HQ.out.symm
                refine ⟨a3, m + 1, c8, A8, acc ++ [mkIt V q1 []], _, cn + 1, K0, rfl, rfl, rfl, ha3, Nat.le_refl _, by omega, by omega, by omega, by omega, by omega, ?_, R8.out⟩
                rw [HD.out.1, dec_leaf hU.out h0.out G.out.1 H2.out.1 H4.out H5.out (by rw [e5]) (by rw [← G.out.2.1]; exact g6), e5, DR.pres_pre, HD3.out, HK.out.1, ← G.out.2.1]
            · have t7 : (q.2.2 != 0) = true := by simpa using g7
              have HB4 : Hid (Below w.heap.size w (put3 w4 (w.heap.size + 1) (.slice A n c) (.int .i64 a3) (.int .i64 q.2.2))) := put3_below I4.out.bel (Nat.le_succ _)
              have H3 := Lib.hid (hbad.out g7)
              obtain ⟨y0, y1, y2, yf⟩ := box_cells (put3_blk (v0 := .slice A n c) (v1 := .int .i64 a3) (v2 := .int .i64 q.2.2) I4.out.box)
              unfold put3 at y0 y1 y2 yf
              clear g7
              go_wp2_with fail
              go_quiet (fail)
              go_wp2_with fail
              refine bodyPost_ret (v := .tuple #[.slice none 0 0, .int .i64 (cn + 1), .int .i64 q.2.2]) (by simp [results, Try.results32, go_sem]) rfl ?_
              exact H3.out _ (below_drewN' HB4.out _)
      · have tE : (E != 0) = true := by simpa using hE0
        go_wp2_with fail
        have HP : Hid (∀ w', Below w.heap.size w w' → LPost w d (decL D cnt 0 zs) (.returned (.tuple #[.slice none 0 0, .int .i64 cn, .int .i64 E])) w') := fun w' hb => by
          have h1 : fvE 0 (zs.drop a) ≠ 0 := fun e0 => hE0 (by rw [HV.out.2.1]; unfold var1; rw [if_neg (by simp), if_pos e0])
          have h2 : E = fvE 0 (zs.drop a) := by rw [HV.out.2.1]; unfold var1; rw [if_neg (by simp), if_neg h1]
          rw [HD.out.1, dec_e1 hU.out h0.out h1, h2]
          exact ⟨hb, cn, rfl⟩
        have HB : Hid (Below w.heap.size w (put3 w2 (w.heap.size + 1) (.slice A n c) (.int .i64 a2) (.int .i64 E))) := put3_below I2.out.bel (Nat.le_succ _)
        obtain ⟨y0, y1, y2, yf⟩ := box_cells (put3_blk (v0 := .slice A n c) (v1 := .int .i64 a2) (v2 := .int .i64 E) I2.out.box)
        unfold put3 at y0 y1 y2 yf
        go_quiet (fail)
        go_wp2_with fail
        refine bodyPost_ret (v := .tuple #[.slice none 0 0, .int .i64 cn, .int .i64 E]) (by simp [results, Try.results32, go_sem]) rfl ?_
        exact HP.out _ (below_drewN' HB.out _)

end Go.Proofs.Ytchpobikbcelfaa
