/-
  Proved: UtfValid answers true for all bytes, over the tables that the library and the program lay (a tied card).
-/
import Derived.Test.YtpikbekcdbfdhaaDoorOpen
import Derived.Test.YtpikbekcdbfdhaaDoorCards
import Derived.Test.YtpikbekcdbfdhaaDoorTie
import Derived.SevenTiedAt
import Derived.Test.YtpikbekcdbfdhaaDoorUtfTab
import Derived.Test.YtpikbekcdbfdhaaDoorUtfVals
import Derived.Test.YtpikbekcdbfdhaaDoorUtfFixed
import Derived.Test.YtpikbekcdbfdhaaDoorUtfLay
import Derived.Test.YtpikbekcdbfdhaaDoorRefSame
import Derived.Test.YtpikbekcdbfdhaaDoorUtfSame
import Derived.WalkKit
namespace Go.Proofs.YtpikbekcdbfdhaaDoor.utfValid
open Go.ChangeShapes Go.WideShapes Go.ChangeAt Go.RowKit

theorem fold_length : ∀ (l o : List Int), (foldS o l).length ≤ 2 * l.length + 1
  | [], o => by unfold foldS endS; split <;> simp
  | b :: l, o => by have h1 := feedS_len o b; have h2 := fold_length l (feedS o b).2; simp only [foldS, List.length_append, List.length_cons]; omega
theorem encAll_len : ∀ l : List Int, (encAll l).length ≤ 4 * l.length
  | [] => by simp [encAll]
  | r :: l => by have h1 := encS_len r; have h2 := encAll_len l; rw [encAll_cons, List.length_append, List.length_cons]; omega
theorem encAll_take {l : List Int} {k : Nat} (h : k < l.length) : encAll (l.take (k + 1)) = encAll (l.take k) ++ encS (l.getD k 0) := by
  rw [List.take_succ_eq_append_getElem h, encAll_snoc, getD_lt h]
/-- What is told is a rune that may be. -/
theorem fold_rng : ∀ (k : Nat) (L : List Int), L.length ≤ k → U8s L → ∀ z ∈ foldS [] L, 0 ≤ z ∧ z ≤ 1114111
  | 0, [], _, _, z, hz => by simp [foldS, endS] at hz
  | 0, _ :: _, h, _, _, _ => by simp at h
  | k + 1, L, h, h8, z, hz => by
    by_cases hne : L = []
    · subst hne; simp [foldS, endS] at hz
    · cases hh : headS L with
      | none =>
        have h1 := fold_none hne hh
        rw [h1.1] at hz
        rcases List.mem_cons.1 hz with rfl | hz
        · omega
        · exact fold_rng k _ (by simp; omega) (fun z hz => h8 z (List.mem_of_mem_drop hz)) z hz
      | some x =>
        obtain ⟨r, n⟩ := x
        have h1 := fold_head hh
        have h2 := head_len hh
        have h3 := mayS_iff.1 (head_split h8 hh).2.2
        rw [h1.1] at hz
        rcases List.mem_cons.1 hz with rfl | hz
        · omega
        · exact fold_rng k _ (by simp; omega) (fun z hz => h8 z (List.mem_of_mem_drop hz)) z hz

set_option maxHeartbeats 3200000 in
set_option maxRecDepth 100000 in
/-- The walk. -/
theorem walk {A : Option Addr} {n c : Nat} {zs : List Int} (w : World) (hT : Tabs w) (hs : Sb w A n zs) (h8 : U8s zs) (_ : n ≤ 140737488351232) (hc : n ≤ c ∧ c ≤ maxLen) :
    Calls Tryd.prog 6 #[.slice A n c] w fun e w' => e = .returned (.bool true) ∧ Below w.heap.size w w' := by
  have H := Lib.hid (show Tabs w ∧ Sb w A n zs ∧ U8s zs ∧ n ≤ c from ⟨hT, hs, h8, hc.1⟩)
  clear hT hs h8 hc
  by_cases hbig : (400 : Int) < (n : Int)
  · go_enter Tryd.func6, Tryd.ntmps6
    go_wp2_with fail
    refine (utfFixed_any H.out.1).mono ?_
    rintro e w1 ⟨rfl, hb1⟩
    go_wp2_with fail
    go_ret
    exact ⟨rfl, hb1⟩
  have HN := Lib.hid (show n ≤ 400 by omega)
  go_enter Tryd.func6, Tryd.ntmps6
  go_wp2_with fail
  refine (runes_any H.out.1 H.out.2.1 H.out.2.2.1 (by have := HN.out; omega)).mono ?_
  rintro e w1 ⟨A1, n1, c1, rfl, o1, b1⟩
  obtain ⟨R, hR⟩ : ∃ R, R = foldS [] zs := ⟨_, rfl⟩
  rw [← hR] at o1
  have X1 := Lib.hid (show Ik .i32 w1 A1 n1 R ∧ Below w.heap.size w w1 ∧ R = foldS [] zs ∧ n1 ≤ 801 ∧ (∀ z ∈ R, 0 ≤ z ∧ z ≤ 1114111) from
    ⟨Ik.own o1, b1, hR, by have h1 := (Ik.own o1).len; have h2 := fold_length zs []; have h3 := H.out.2.1.len; have h4 := HN.out; rw [hR] at h1; omega, by rw [hR]; exact fold_rng zs.length zs (Nat.le_refl _) H.out.2.2.1⟩)
  have hn1 : n1 ≤ 801 := X1.out.2.2.2.1
  clear o1 b1 hR
  go_wp2_with fail
  go_loopw [3, 13] (fun v i wr => ∃ k : Nat, k ≤ n1 ∧ i = .int .i64 k ∧ wr.ownsRow w1.heap.size 5 1 v (encAll (R.take k)).length ((encAll (R.take k)).map (Value.int .u8)) ∧ Below w1.heap.size w1 wr) (fun _ i _ => n1 - (iOf i).toNat)
  case atStart => exact ⟨0, by omega, rfl, by simpa [encAll] using World.ownsRow_nil _ _ _ _, Below.refl _ _⟩
  case round =>
    obtain ⟨k, hk, rfl, hown, hbw⟩ := hrel
    obtain ⟨Av, cv, rfl, _, _⟩ := own_shape hown
    have Y := Lib.hid (And.intro hown hbw)
    clear hown hbw
    have hel : (encAll (R.take k)).length ≤ 3204 := by have h1 := encAll_len (R.take k); have h2 : (R.take k).length ≤ 801 := by simp; omega
                                                       omega
    obtain ⟨T, hT⟩ : ∃ T, T = encAll (R.take k) := ⟨_, rfl⟩
    rw [← hT] at Y hel
    rw [← hT]
    obtain ⟨tl, htl⟩ : ∃ tl, tl = T.length := ⟨_, rfl⟩
    rw [← htl] at Y hel
    rw [← htl]
    have HT := Lib.hid (And.intro hT (And.intro htl hel))
    clear hT htl hel
    by_cases hlt : k < n1
    · have hkl : (k : Int) < (n1 : Int) := by omega
      have hik := X1.out.1.below Y.out.2
      obtain ⟨ad, rfl⟩ := ik_addr hik (by omega)
      have hcell := hik.cell hlt
      have hkR : k < R.length := by rw [X1.out.1.len]; exact hlt
      obtain ⟨r, hr⟩ : ∃ r, r = R.getD k 0 := ⟨_, rfl⟩
      have hrr : 0 ≤ r ∧ r ≤ 1114111 := by rw [hr, getD_lt hkR]; exact X1.out.2.2.2.2 _ (List.getElem_mem hkR)
      rw [← hr] at hcell
      have HR := Lib.hid (show encAll (R.take (k + 1)) = T ++ encS r ∧ 0 ≤ r ∧ r ≤ 1114111 from ⟨by rw [encAll_take hkR, ← hr, HT.out.1], hrr⟩)
      clear hr hrr hkR hik
      go_wp2_with fail
      refine (encode_any wr r (by have := HR.out; omega) (by have := HR.out; omega)).mono ?_
      rintro e w2 ⟨v, rfl, A2, n2, c2, rfl, hm2⟩
      have Z := Lib.hid (show Ik .u8 w2 A2 n2 (encS r) ∧ w2.ownsRow w1.heap.size 5 1 (.slice Av tl cv) tl (T.map (Value.int .u8)) ∧ Below w1.heap.size w1 w2 ∧ n2 ≤ 4 from
        ⟨Ik.own hm2.own, ownI_below Y.out.1 hm2.below, Y.out.2.trans (hm2.below.mono Y.out.2.size), by rw [← hm2.len]; exact (encS_len r).2⟩)
      clear hm2
      go_wp2_with (refine wpList_appI _ rfl (.tmp 17) (.tmp 19) 22 rfl w1.heap.size 5 .u8 1 (by omega) Tryd.underlying22 info8 (.slice Av tl cv) tl _ rfl Z.out.2.1 A2 n2 c2 (tl + n2) rfl (encS r) rfl Z.out.1 (by have h1 := Z.out.2.2.2; have h2 := HT.out.2.2; omega) Z.out.2.2.1.size ?_)
      intro A3 c3 w3 o3 g3
      have V := Lib.hid (show w3.ownsRow w1.heap.size 5 1 (.slice A3 (tl + n2) c3) (encAll (R.take (k + 1))).length ((encAll (R.take (k + 1))).map (Value.int .u8)) ∧ Below w1.heap.size w1 w3 from
        ⟨by rw [HR.out.1, List.length_append, ← HT.out.2.1, Z.out.1.len]; simpa using o3, Z.out.2.2.1.grown g3 Z.out.2.2.1.size (fun k hk => (Z.out.2.1.lt k hk).1)⟩)
      clear o3 g3 Z
      go_wp2_with fail
      go_roundw
      case rel => exact ⟨k + 1, by omega, by go_num, V.out.1, V.out.2⟩
      case measure => simp [iOf]; omega
    · obtain rfl : k = n1 := by omega
      have hTf : T = encAll (foldS [] zs) := by rw [HT.out.1, ← X1.out.2.2.1, List.take_of_length_le (by rw [X1.out.1.len]; exact Nat.le_refl _)]
      have HF := Lib.hid hTf
      have hbw := X1.out.2.1.trans (Y.out.2.mono X1.out.2.1.size)
      have B := Lib.hid (And.intro hbw (Sb.own Y.out.1))
      clear hTf hbw
      go_wp2_with fail
      refine (utfFixed_any (H.out.1.below B.out.1 (Nat.le_refl _))).mono ?_
      rintro e w4 ⟨rfl, b4⟩
      have B4 := Lib.hid (show Below w.heap.size w w4 ∧ Sb w4 Av tl T from ⟨B.out.1.trans (b4.mono B.out.1.size), B.out.2.below b4⟩)
      clear b4 B
      go_wp2_with fail
      refine (utfValid_any (H.out.1.below B4.out.1 (Nat.le_refl _)) (H.out.2.1.below B4.out.1) H.out.2.2.1 H.out.2.2.2 (by have := HN.out; omega)).mono ?_
      rintro e w5 ⟨rfl, b5⟩
      have B5 := Lib.hid (show Below w.heap.size w w5 ∧ Sb w5 Av tl T from ⟨B4.out.1.trans (b5.mono B4.out.1.size), B4.out.2.below b5⟩)
      clear b5 B4
      have HSM := refSame_any (c := cv) (c' := c) B5.out.2 (H.out.2.1.below B5.out.1) (by have := HT.out.2.2; omega) (by have := HN.out; omega)
      rw [show decide (T = zs) = validS zs by rw [HF.out]; rfl] at HSM
      have HSM := Lib.hid HSM
      obtain ⟨V, hV⟩ : ∃ V, validS zs = V := ⟨_, rfl⟩
      rw [hV] at HSM ⊢
      clear hV
      go_wp2_with fail
      refine HSM.out.mono ?_
      rintro e w6 ⟨rfl, q, rfl⟩
      go_wp2_with fail
      go_ret
      exact ⟨by simp, below_drewN' B5.out.1 q⟩

set_option maxRecDepth 100000 in
theorem lifted (os : Os) (started : os.Started) (H : Type) (enc : TypeId × Value → H) :
    ReturnsInHanded {} Tryd.checked os 6 .any (fun w args => (Rows.utfValidSpec.pre enc Tryd.prog Tryd.f6 [] false w args ∧ laidMetH Tryd.prog laidL w) ∧ sizedMet enc Tryd.prog Tryd.f6 (OpenSpec.ofChange Rows.utfValidSpec) false w args)
      (Rows.utfValidSpec.post enc Tryd.prog Tryd.f6 false true false false) := by
  refine returnsInHanded_of_change_and (C := Tryd.checked) (X := fun w _ => laidMetH Tryd.prog laidL w) (fun _ _ _ hh h => h.of_heap hh) own started (by kernel_rfl) Tryd.func6
    (ChangeSpec.witness_shaped (enc := enc) (C := Tryd.checked) (os := os) (X := fun w _ => laidMetH Tryd.prog laidL w) false (World.laidAll Tryd.prog os laidL) #[.slice none 0 0] 8 (World.laidAll_os _ _ _) (start_shaped os) (by kernel_rfl) (by kernel_rfl) (by kernel_rfl) (start_met os _)) ?_
  intro W base args ds gs before hval0 hW _ hsz0 hL _
  have hsz : (DataW.weightsEach Tryd.prog (Tryd.f6.params.toList ++ Rows.utfValidSpec.plain.varTypes Tryd.prog) (ds ++ gs)).all (· ≤ reachBytes) = true := hsz0
  clear hsz0
  have hval : ∀ (j : Nat) t v, Tryd.f6.params[j]? = some t → args[j]? = some v → Value.okWide Tryd.prog W .any base t v := hval0
  have hW' := hW
  obtain ⟨p, q, hA0, hV, rfl, _, _⟩ := hW
  have hA : DataW.TrodAll enc Tryd.prog W 0 (fun _ => true) true Tryd.f6.params.toList args.toList ds p := hA0
  rw [Tryd.params6] at hA hval hsz
  obtain ⟨v0, vs0, d0, ds0, p0, q0, hargs, rfl, rfl, h0, r0⟩ := trodAll_cons hA
  obtain ⟨rfl, rfl, rfl⟩ := trodAll_nil r0
  obtain rfl : args = #[v0] := by cases args; simp_all
  obtain ⟨rfl, rfl⟩ := trodVars_none hV
  have lt0 : ∀ x ∈ p0, x.block < W.heap.size := by obtain ⟨m, hm⟩ := h0; exact DataW.trod_lt m _ _ _ hm
  obtain ⟨A0, n0, c0, z0, rfl, s0, u0, l0, g0⟩ := open_bytes_c (hval 0 22 v0 rfl rfl) h0
  have m0 := g0 _ _ 0 hsz rfl rfl
  clear hA0 hval0
  refine (walk W (tabs_of_laid hL) s0 u0 m0 l0).mono fun e W' ⟨he, bel⟩ => ?_
  subst he
  exact ⟨_, rfl, _, _, _, [], _, [], hW', trodAll_mk1 (shut_bool Tryd.underlying4 _), (trodAll_cons_mk (Below.trod laidOut (by kernel_rfl) (of_decide_eq_true (by kernel_rfl)) h0 bel lt0) trodAll_mk0), rfl, bel.frame _, fun h => by cases h⟩

theorem over : Rows.utfValidRow.holds Tryd.pinned (OpenSpec.ofChange Rows.utfValidSpec) :=
  OpenClaim.holds_of_wide 6 Tryd.f6 rfl rfl rfl rfl rfl rfl rfl ⟨rfl, rfl, rfl, rfl, rfl⟩ rfl rfl rfl rfl rfl (by kernel_rfl) Tryd.func6 (by kernel_rfl)
    (of_decide_eq_true (by kernel_rfl)) (by unfold Func.isWrapper; first | (rw [if_pos (by decide +kernel)]; kernel_rfl) | (rw [if_neg (by decide +kernel)]; exact ⟨rfl, rfl⟩))
    (fun os started H enc _ => lifted os started H enc)

theorem proved : Rows.UtfValidCardSaid :=
  Claim7.holds_tied_plain_at .later [] [.data, .data, .pinned] true Rows.utfValidCard.stood.harness false
    over (fun _ h => by cases h) (by kernel_rfl) (fun _ h => by cases h) utfValid_row_tie rfl ⟨rfl, rfl⟩ (by kernel_rfl) rfl
    (fun f fn hf hfn => by
      obtain rfl : f = 6 := Option.some.inj ((show Tryd.prog.funcNamed "spyglass/spyglasslaw07.UtfValid" = some 6 by kernel_rfl).symm.trans hf) |>.symm
      obtain rfl : fn = Tryd.f6 := (Option.some.inj (Tryd.func6.symm.trans hfn)).symm
      exact ⟨by kernel_rfl, fun j t ht => by
        rw [Tryd.params6] at ht
        have hm : t ∈ [22] := by simpa using Array.mem_of_getElem? ht
        have hall : ([22].all fun u => !Tryd.prog.wantsStandIn u) = true := by kernel_rfl
        exact (show Tryd.prog.wantsStandIn t = false by simpa using List.all_eq_true.1 hall t hm)⟩)
    (by kernel_rfl)
end Go.Proofs.YtpikbekcdbfdhaaDoor.utfValid
