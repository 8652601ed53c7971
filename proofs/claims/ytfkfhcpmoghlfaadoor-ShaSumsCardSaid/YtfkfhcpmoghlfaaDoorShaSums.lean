/-
  Proved: ShaSums answers true for all slices of slices of bytes, over the table of roots that the program's text lays (a tied card).
-/
import Derived.Test.YtfkfhcpmoghlfaaDoorOpen
import Derived.Test.YtfkfhcpmoghlfaaDoorCards
import Derived.Test.YtfkfhcpmoghlfaaDoorTie
import Derived.SevenTiedAt
import Derived.Test.YtfkfhcpmoghlfaaDoorShaPts
import Derived.Test.YtfkfhcpmoghlfaaDoorShaNone
import Derived.Test.YtfkfhcpmoghlfaaDoorShaRefSum
import Derived.Test.YtfkfhcpmoghlfaaDoorShaParts
import Derived.Test.YtfkfhcpmoghlfaaDoorShaSize
import Derived.Test.YtfkfhcpmoghlfaaDoorShaSameAll
import Derived.WalkKit
namespace Go.Proofs.YtfkfhcpmoghlfaaDoor.shaSums
open Go.ChangeShapes Go.WideShapes Go.ChangeAt Go.RowKit

/-- The first j places of a row hold copies of the first j lists, each in a block of its own behind the row's. -/
def Copied (w : World) (G : Nat) (xs : List Value) (L : List (List Int)) (j : Nat) : Prop :=
  ∀ k, k < j → ∃ g m, xs[k]? = some (.slice (some ⟨g, 0, none⟩) m m) ∧ G < g ∧ Sb w (some ⟨g, 0, none⟩) m (L.getD k []) ∧ m ≤ 9223372036854775807 ∧ B8s (L.getD k [])
theorem Copied.below {w w' : World} {G : Nat} {xs : List Value} {L : List (List Int)} {j : Nat} (h : Copied w G xs L j) (hb : Below w.heap.size w w') : Copied w' G xs L j := fun k hk => by
  obtain ⟨g, m, h1, h2, h3, h4⟩ := h k hk
  exact ⟨g, m, h1, h2, h3.below hb, h4⟩
theorem Copied.stored {w : World} {G : Nat} {xs : List Value} {L : List (List Int)} {j g m : Nat} (h : Copied w G xs L j) (hx : j < xs.length) (hg : G < g) (hs : Sb w (some ⟨g, 0, none⟩) m (L.getD j [])) (hm : m ≤ 9223372036854775807) (h8 : B8s (L.getD j [])) :
    Copied (w.setCell ⟨G, j, none⟩ (.slice (some ⟨g, 0, none⟩) m m)) G (xs.set j (.slice (some ⟨g, 0, none⟩) m m)) L (j + 1) := fun k hk => by
  have far : ∀ {g' m' : Nat} {z : List Int}, G < g' → Sb w (some ⟨g', 0, none⟩) m' z → Sb (w.setCell ⟨G, j, none⟩ (.slice (some ⟨g, 0, none⟩) m m)) (some ⟨g', 0, none⟩) m' z := fun hlt hz =>
    hz.grown (grownBy_set w _ _) (fun ad had _ e => by
      simp only [Option.some.injEq] at had e
      subst had
      simp only at e
      omega)
  by_cases hkj : k = j
  · subst hkj
    exact ⟨g, m, by rw [List.getElem?_set_self hx], hg, far hg hs, hm, h8⟩
  · obtain ⟨g', m', h1, h2, h3, h4⟩ := h k (by omega)
    exact ⟨g', m', by rw [List.getElem?_set_ne (fun e => hkj e.symm)]; exact h1, h2, far h2 h3, h4⟩
theorem Copied.all {w : World} {G : Nat} {xs : List Value} {L : List (List Int)} {j : Nat} (h : Copied w G xs L j) (hx : xs.length = j) (hL : L.length = j) : Pv w xs L :=
  ⟨hx.trans hL.symm, fun k hk => by
    obtain ⟨g, m, h1, _, h3, h4, h5⟩ := h k (by omega)
    exact ⟨_, m, m, h1, h3, Nat.le_refl _, h4, h5⟩⟩

set_option maxRecDepth 100000 in
set_option maxHeartbeats 1600000 in
/-- The walk. -/
theorem walk {A : Option Addr} {n c : Nat} {L : List (List Int)} (w : World) (hr : Roots w) (hp : Ps w A n L ∧ n ≤ 140737488351232 ∧ (∀ l ∈ L, l.length ≤ 140737488351232)) :
    Calls Tryd.prog 3 #[.slice A n c] w fun e w' => e = .returned (.bool true) ∧ Below w.heap.size w w' := by
  obtain ⟨i0, hi, hz0, hz1, hz2⟩ := info_parts infoS
  have H := Lib.hid (show Roots w ∧ Ps w A n L ∧ (∀ l ∈ L, l.length ≤ 140737488351232) from ⟨hr, hp.1, hp.2.2⟩)
  have hn := hp.2.1
  clear hr hp
  go_enter Tryd.func3, Tryd.ntmps3
  go_wp2_with fail
  refine (size_any _ H.out.2.1 hn H.out.2.2).mono ?_
  rintro e w1 ⟨⟨r, rfl, hr⟩, rfl⟩
  by_cases hbig : (16384 : Int) < r
  · clear hr
    go_wp2_with fail
    refine (fixed_any _ H.out.1).mono ?_
    rintro e w2 ⟨rfl, hb1⟩
    go_wp2_with fail
    go_ret
    exact ⟨rfl, hb1⟩
  · have hn2 := (hr (by omega)).1
    have hf2 := Lib.hid (hr (by omega)).2
    clear hr
    go_wp2_with (first
      | (at_make; refine wpList_make_full _ rfl _ _ 22 rfl w1.heap.size 25 i0 (.slice none 0 0) 1 Tryd.underlying22 hi hz0 hz1 .i64 .i64 (n : Int) (n : Int) n rfl rfl rfl rfl (by rw [hz2]; omega) (by unfold maxLen; omega) (Nat.le_refl _) ?_; intro w2 hown hg))
    obtain ⟨x0, hx0⟩ : ∃ x, x = (madeCells (Value.slice none 0 0).cells (n * 1)).toList := ⟨_, rfl⟩
    have X2 := Lib.hid (show w2.ownsRow w1.heap.size 25 1 (.slice (some ⟨w1.heap.size, 0, none⟩) n n) n x0 ∧ Below w1.heap.size w1 w2 from by
      rw [hx0]
      exact ⟨hown, (Below.refl _ _).grown hg (Nat.le_refl _) (by intro k hk; cases hk)⟩)
    clear hown hg hx0
    go_loopw [14] (fun i wr => ∃ (j : Nat) (xs : List Value), j ≤ n ∧ i = .int .i64 j ∧ wr.ownsRow w1.heap.size 25 1 (.slice (some ⟨w1.heap.size, 0, none⟩) n n) n xs ∧ Copied wr w1.heap.size xs L j ∧ Below w1.heap.size w1 wr) (fun i _ => n - (intOf i).toNat)
    case atStart => exact ⟨0, x0, Nat.zero_le _, rfl, X2.out.1, fun k hk => absurd hk (by omega), X2.out.2⟩
    case round =>
      clear X2
      obtain ⟨j, xs, hj, rfl, hown, hcp, hbel⟩ := hrel
      have X := Lib.hid (show wr.ownsRow w1.heap.size 25 1 (.slice (some ⟨w1.heap.size, 0, none⟩) n n) n xs ∧ Copied wr w1.heap.size xs L j ∧ Below w1.heap.size w1 wr from ⟨hown, hcp, hbel⟩)
      have hxl := Lib.hid (show xs.length = n from by have := hown.1; simpa using this)
      have hG := Lib.hid (show w1.heap.size < wr.heap.size from by
        rcases hown.2 with ⟨h, _⟩ | ⟨g, cap, cur, hv, _, hg, _⟩
        · simp at h
        · injection hv with hA
          injection hA with hA
          injection hA with hA
          subst hA
          exact (Array.getElem?_eq_some_iff.1 hg).1)
      clear hown hcp hbel
      by_cases hlt : j < n
      · have hjl : (j : Int) < (n : Int) := by omega
        obtain ⟨ad, rfl, hblt, hel⟩ := H.out.2.1.at_ (by omega)
        obtain ⟨A', m, c', hc, hsb, _, hcm, hb8⟩ := hel j hlt
        have hcell := (X.out.2.2.cell (p := ad.add j) (by rw [addBlock]; exact hblt)).trans hc
        have hjL : j < L.length := by rw [H.out.2.1.len]; exact hlt
        have hm : m ≤ 140737488351232 := by
          rw [← hsb.len]
          refine H.out.2.2 _ ?_
          rw [List.getD, List.getElem?_eq_getElem hjL]
          exact List.getElem_mem hjL
        have HS := Lib.hid (And.intro (hsb.below X.out.2.2) hb8)
        clear hsb hb8 hel hblt hjL hc
        go_wp2_with fail
        refine (copy_any HS.out.1 (by omega)).mono ?_
        rintro e w2 ⟨g, rfl, hownc, hb2⟩
        have Y := Lib.hid (show w2.ownsRow w1.heap.size 25 1 (.slice (some ⟨w1.heap.size, 0, none⟩) n n) n xs ∧ Copied w2 w1.heap.size xs L j ∧ Below w1.heap.size w1 w2 ∧ w1.heap.size < g ∧ Sb w2 (some ⟨g, 0, none⟩) m (L.getD j []) from by
          refine ⟨own_belowS X.out.1 hb2, X.out.2.1.below hb2, X.out.2.2.trans (hb2.mono (Nat.le_of_lt hG.out)), ?_, Sb.own hownc⟩
          have h1 := hG.out
          rcases hownc.2 with ⟨h, _⟩ | ⟨g', cap, cur, hv, h2, _⟩
          · simp at h
          · injection hv with hA
            injection hA with hA
            injection hA with hA
            subst hA
            omega)
        have hcG : w2.cell? ⟨w1.heap.size, j, none⟩ = some (xs[j]'(by rw [hxl.out]; exact hlt)) := by
          rw [Y.out.1.cellAt j (by omega), List.getElem?_eq_getElem]
        have hfG := Y.out.1.frozenAt j
        clear hownc hb2 hcell
        go_wp2_with fail
        go_roundw
        case rel => exact ⟨j + 1, xs.set j _, by omega, by go_num, (Y.out.1.stored j _).1, Y.out.2.1.stored (by rw [hxl.out]; exact hlt) Y.out.2.2.2.1 Y.out.2.2.2.2 (by omega) HS.out.2, Y.out.2.2.1.setCell (Nat.le_refl _) _⟩
        case measure => simp [intOf]; omega
      · obtain rfl : j = n := by omega
        have HP := Lib.hid (X.out.2.1.all hxl.out H.out.2.1.len)
        clear hlt hj
        go_wp2_with fail
        refine (fixed_any _ (H.out.1.below X.out.2.2)).mono ?_
        rintro e w3 ⟨rfl, hb3⟩
        have X3 := Lib.hid (show Ps w3 (some ⟨w1.heap.size, 0, none⟩) j L ∧ Below w1.heap.size w1 w3 from ⟨Ps.own (own_belowS X.out.1 hb3) HP.out hb3, X.out.2.2.trans (hb3.mono X.out.2.2.size)⟩)
        clear hb3
        go_wp2_with fail
        refine (shaSum_any (n := j) (L := L) _ (H.out.1.below X3.out.2) X3.out.1 (by have := hf2.out; omega) (by omega)).mono ?_
        rintro e w4 ⟨rfl, hb4⟩
        have X4 := Lib.hid (show Ps w4 (some ⟨w1.heap.size, 0, none⟩) j L ∧ Below w1.heap.size w1 w4 from ⟨X3.out.1.below hb4, X3.out.2.trans (hb4.mono X3.out.2.size)⟩)
        clear hb4 X3
        obtain ⟨s, hs⟩ : ∃ s, s = shaS L.flatten := ⟨_, rfl⟩
        rw [← hs]
        have HSS := Lib.hid hs
        clear hs
        have heq := shaNone.eql_same s (by rw [HSS.out]; exact shaS_len _)
        go_wp2_with fail
        refine (refSum_any (n := j) (L := L) _ (H.out.2.1.below X4.out.2) (by have := hf2.out; omega) (by omega)).mono ?_
        rintro e w5 ⟨rfl, hb5⟩
        rw [← HSS.out]
        have X5 := Lib.hid (show Ps w5 (some ⟨w1.heap.size, 0, none⟩) j L ∧ Below w1.heap.size w1 w5 from ⟨X4.out.1.below hb5, X4.out.2.trans (hb5.mono X4.out.2.size)⟩)
        clear hb5 X4
        go_wp2_with fail
        refine (sameAll_any _ X5.out.1 (H.out.2.1.below X5.out.2) (by omega)).mono ?_
        rintro e w6 ⟨rfl, q, rfl⟩
        go_wp2_with fail
        go_ret
        exact ⟨rfl, below_drewN' X5.out.2 q⟩

set_option maxRecDepth 100000 in
theorem lifted (os : Os) (started : os.Started) (H : Type) (enc : TypeId × Value → H) :
    ReturnsInHanded {} Tryd.checked os 3 .any (fun w args => (Rows.shaSumsSpec.pre enc Tryd.prog Tryd.f3 [] false w args ∧ laidMetH Tryd.prog laidL w) ∧ sizedMet enc Tryd.prog Tryd.f3 (OpenSpec.ofChange Rows.shaSumsSpec) false w args)
      (Rows.shaSumsSpec.post enc Tryd.prog Tryd.f3 false true false false) := by
  refine returnsInHanded_of_change_and (C := Tryd.checked) (X := fun w _ => laidMetH Tryd.prog laidL w) (fun _ _ _ hh h => h.of_heap hh) own started (by kernel_rfl) Tryd.func3
    (ChangeSpec.witness_shaped (enc := enc) (C := Tryd.checked) (os := os) (X := fun w _ => laidMetH Tryd.prog laidL w) false (World.doorLaid Tryd.prog 400 os) #[.slice none 0 0] 8 rfl (World.shaped_of_RefB (by kernel_rfl) (by kernel_rfl)) (by kernel_rfl) (by kernel_rfl) (by kernel_rfl) (door_met os _)) ?_
  intro W base args ds gs before hval0 hW _ hsz0 hL _
  have hsz : (DataW.weightsEach Tryd.prog (Tryd.f3.params.toList ++ Rows.shaSumsSpec.plain.varTypes Tryd.prog) (ds ++ gs)).all (· ≤ reachBytes) = true := hsz0
  clear hsz0
  have hval : ∀ (j : Nat) t v, Tryd.f3.params[j]? = some t → args[j]? = some v → Value.okWide Tryd.prog W .any base t v := hval0
  have hW' := hW
  obtain ⟨p, q, hA0, hV, rfl, _, _⟩ := hW
  have hA : DataW.TrodAll enc Tryd.prog W 0 (fun _ => true) true Tryd.f3.params.toList args.toList ds p := hA0
  rw [Tryd.params3] at hA hval hsz
  obtain ⟨v0, vs0, d0, ds0, p0, q0, hargs, rfl, rfl, h0, r0⟩ := trodAll_cons hA
  obtain ⟨rfl, rfl, rfl⟩ := trodAll_nil r0
  obtain rfl : args = #[v0] := by cases args; simp_all
  obtain ⟨rfl, rfl⟩ := trodVars_none hV
  have lt0 : ∀ x ∈ p0, x.block < W.heap.size := by obtain ⟨m, hm⟩ := h0; exact DataW.trod_lt m _ _ _ hm
  obtain ⟨A0, n0, c0, L0, rfl, s0⟩ := open_parts (weights_at hsz (j := 0) rfl rfl) (hval 0 22 v0 rfl rfl) h0
  clear hA0 hval0
  refine (walk W (roots_of_laid hL) s0).mono fun e W' ⟨he, bel⟩ => ?_
  subst he
  exact ⟨_, rfl, _, _, _, [], _, [], hW', trodAll_mk1 (shut_bool Tryd.underlying4 _), (trodAll_cons_mk (Below.trod laidOut (by kernel_rfl) (of_decide_eq_true (by kernel_rfl)) h0 bel lt0) trodAll_mk0), rfl, bel.frame _, fun h => by cases h⟩

theorem over : Rows.shaSumsRow.holds Tryd.pinned (OpenSpec.ofChange Rows.shaSumsSpec) :=
  OpenClaim.holds_of_wide 3 Tryd.f3 rfl rfl rfl rfl rfl rfl rfl ⟨rfl, rfl, rfl, rfl, rfl⟩ rfl rfl rfl rfl rfl (by kernel_rfl) Tryd.func3 (by kernel_rfl)
    (of_decide_eq_true (by kernel_rfl)) (by unfold Func.isWrapper; first | (rw [if_pos (by decide +kernel)]; kernel_rfl) | (rw [if_neg (by decide +kernel)]; exact ⟨rfl, rfl⟩))
    (fun os started H enc _ => lifted os started H enc)

theorem proved : Rows.ShaSumsCardSaid :=
  Claim7.holds_tied_plain_at .later [] [.data] true Rows.shaSumsCard.stood.harness false
    over (fun _ h => by cases h) (by kernel_rfl) (fun _ h => by cases h) shaSums_row_tie rfl ⟨rfl, rfl⟩ (by kernel_rfl) rfl
    (fun f fn hf hfn => by
      obtain rfl : f = 3 := Option.some.inj ((show Tryd.prog.funcNamed "spyglass/spyglasslaw03.ShaSums" = some 3 by kernel_rfl).symm.trans hf) |>.symm
      obtain rfl : fn = Tryd.f3 := (Option.some.inj (Tryd.func3.symm.trans hfn)).symm
      exact ⟨by kernel_rfl, fun j t ht => by
        rw [Tryd.params3] at ht
        have hm : t ∈ [22] := by simpa using Array.mem_of_getElem? ht
        have hall : ([22].all fun u => !Tryd.prog.wantsStandIn u) = true := by kernel_rfl
        exact (show Tryd.prog.wantsStandIn t = false by simpa using List.all_eq_true.1 hall t hm)⟩)
    (by kernel_rfl)
end Go.Proofs.YtfkfhcpmoghlfaaDoor.shaSums
