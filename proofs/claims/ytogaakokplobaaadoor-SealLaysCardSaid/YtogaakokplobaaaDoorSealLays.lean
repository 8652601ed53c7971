/-
  Proved: SealLays answers true for all keys, headers and bodies, over the table of roots that the program's text lays (a tied card).
-/
import Derived.Test.YtogaakokplobaaaDoorOpen
import Derived.Test.YtogaakokplobaaaDoorCards
import Derived.Test.YtogaakokplobaaaDoorTie
import Derived.SevenTiedAt
import Derived.Test.YtogaakokplobaaaDoorShaTab
import Derived.Test.YtogaakokplobaaaDoorSealHdEq
import Derived.Test.YtogaakokplobaaaDoorSealIn
import Derived.WalkKit
namespace Go.Proofs.YtogaakokplobaaaDoor.sealLays
open Go.ChangeShapes Go.WideShapes Go.ChangeAt Go.RowKit

set_option maxRecDepth 100000 in
set_option maxHeartbeats 3200000 in
/-- The walk. -/
theorem walk {A : Option Addr} {n c : Nat} {key : List Int} {h : Hd} {B : Option Addr} {m d : Nat} {zs : List Int} (w : World) (hr : Roots w) (hs : Sb w A n key) (h8 : U8s key) (hn : n ≤ 140737488351232) (hc : n ≤ c ∧ c ≤ maxLen)
    (hok : HdOk h) (hs' : Sb w B m zs) (h8' : U8s zs) (hm : m ≤ 140737488351232) (hd : m ≤ d ∧ d ≤ maxLen) :
    Calls Tryd.prog 3 #[.slice A n c, .agg (hdA h), .slice B m d] w fun e w' => e = .returned (.bool true) ∧ Below w.heap.size w w' := by
  unfold maxLen at hc hd
  have H := Lib.hid (show Roots w ∧ Sb w A n key ∧ B8s key ∧ (n ≤ c ∧ c ≤ 9223372036854775807) ∧ Sb w B m zs ∧ B8s zs ∧ (m ≤ d ∧ d ≤ 9223372036854775807) ∧ HdOk h from ⟨hr, hs, h8, ⟨hc.1, by omega⟩, hs', h8', ⟨hd.1, by omega⟩, hok⟩)
  clear hr hs h8 hs' h8' hc hd hok
  obtain ⟨w0, hw0⟩ : ∃ w0, w0 = w.alloc (.cells (hdA h) 26) := ⟨_, rfl⟩
  have X0 := Lib.hid (show Below w.heap.size w w0 ∧ Blk w0 w.heap.size 26 (hdA h) from by rw [hw0]; exact ⟨(Below.refl _ _).alloc (Nat.le_refl _) _, Blk.new _ _ _⟩)
  by_cases hbig : (1000 : Int) < (n : Int)
  · go_enter Tryd.func3, Tryd.ntmps3
    go_wp2_with fail
    rw [← hw0]
    clear hw0
    refine (sealFixed_any _ (H.out.1.below X0.out.1)).mono ?_
    rintro e w1 ⟨rfl, hb1⟩
    have b1 := X0.out.1.trans (hb1.mono X0.out.1.size)
    go_wp2_with fail
    go_ret
    exact ⟨rfl, b1⟩
  by_cases hbig2 : (16384 : Int) < (m : Int)
  · go_enter Tryd.func3, Tryd.ntmps3
    go_wp2_with fail
    rw [← hw0]
    clear hw0
    refine (sealFixed_any _ (H.out.1.below X0.out.1)).mono ?_
    rintro e w1 ⟨rfl, hb1⟩
    have b1 := X0.out.1.trans (hb1.mono X0.out.1.size)
    go_wp2_with fail
    go_ret
    exact ⟨rfl, b1⟩
  go_enter Tryd.func3, Tryd.ntmps3
  go_wp2_with fail
  rw [← hw0]
  clear hw0
  refine (copy_any (H.out.2.1.below X0.out.1) (by omega)).mono ?_
  rintro e w1 ⟨g1, rfl, hown1, hb1⟩
  have X1 := Lib.hid (show Below w.heap.size w w1 ∧ Blk w1 w.heap.size 26 (hdA h) ∧ Sb w1 (some ⟨g1, 0, none⟩) n key from ⟨X0.out.1.trans (hb1.mono X0.out.1.size), X0.out.2.below hb1 X0.out.2.lt, Sb.own hown1⟩)
  clear hown1 hb1 X0
  go_wp2_with fail
  refine (copy_any (H.out.2.2.2.2.1.below X1.out.1) (by omega)).mono ?_
  rintro e w2 ⟨g2, rfl, hown2, hb2⟩
  have X2 := Lib.hid (show Below w.heap.size w w2 ∧ Blk w2 w.heap.size 26 (hdA h) ∧ Sb w2 (some ⟨g1, 0, none⟩) n key ∧ Sb w2 (some ⟨g2, 0, none⟩) m zs from ⟨X1.out.1.trans (hb2.mono X1.out.1.size), X1.out.2.1.below hb2 X1.out.2.1.lt, X1.out.2.2.below hb2, Sb.own hown2⟩)
  clear hown2 hb2 X1
  go_wp2_with (refine wpList_load_row rfl 26 (.tmp 4) rfl w.heap.size rfl 26 (hdA h) (0, 0) _ X2.out.2.1 Tryd.underlying26 rfl infoH ?_)
  refine (seal_any (c := n) (d := m) h H.out.2.2.2.2.2.2.2 w2 (H.out.1.below X2.out.1) X2.out.2.2.1 H.out.2.2.1 (by have := H.out.2.2.2.1; omega) (by omega) X2.out.2.2.2 H.out.2.2.2.2.2.1 (by omega)).mono ?_
  rintro e w3 ⟨A3, n3, c3, rfl, hm3⟩
  have X3 := Lib.hid (show Below w.heap.size w w3 ∧ Blk w3 w.heap.size 26 (hdA h) ∧ Sb w3 (some ⟨g1, 0, none⟩) n key ∧ Sb w3 (some ⟨g2, 0, none⟩) m zs ∧ Sb w3 A3 n3 (sealS key h zs).1 ∧ n3 ≤ 9223372036854775807 from ⟨X2.out.1.trans (hm3.below.mono X2.out.1.size), X2.out.2.1.below hm3.below X2.out.2.1.lt, X2.out.2.2.1.below hm3.below, X2.out.2.2.2.below hm3.below, hm3.sb, by have h1 := hm3.max; have h2 := hm3.le; unfold maxLen at h1; omega⟩)
  clear hm3 X2
  go_wp2_with (refine wpList_load_row rfl 26 (.tmp 4) rfl w.heap.size rfl 26 (hdA h) (0, 0) _ X3.out.2.1 Tryd.underlying26 rfl infoH ?_)
  refine (refSeal_any (c := c) (d := d) h H.out.2.2.2.2.2.2.2 w3 (H.out.1.below X3.out.1) (H.out.2.1.below X3.out.1) H.out.2.2.1 H.out.2.2.2.1 (by omega) (H.out.2.2.2.2.1.below X3.out.1) H.out.2.2.2.2.2.1 (by omega)).mono ?_
  rintro e w4 ⟨A4, n4, c4, rfl, hm4⟩
  have X4 := Lib.hid (show Below w.heap.size w w4 ∧ Sb w4 (some ⟨g1, 0, none⟩) n key ∧ Sb w4 (some ⟨g2, 0, none⟩) m zs ∧ Sb w4 A3 n3 (sealS key h zs).1 ∧ n3 ≤ 9223372036854775807 ∧ Sb w4 A4 n4 (sealS key h zs).1 ∧ n4 ≤ 9223372036854775807 from ⟨X3.out.1.trans (hm4.below.mono X3.out.1.size), X3.out.2.2.1.below hm4.below, X3.out.2.2.2.1.below hm4.below, X3.out.2.2.2.2.1.below hm4.below, X3.out.2.2.2.2.2, hm4.sb, by have h1 := hm4.max; have h2 := hm4.le; unfold maxLen at h1; omega⟩)
  clear hm4 X3
  obtain ⟨s1, hs1⟩ : ∃ s, s = (sealS key h zs).1 := ⟨_, rfl⟩
  obtain ⟨s2, hs2⟩ : ∃ s, s = (sealS key h zs).2 := ⟨_, rfl⟩
  rw [← hs1] at X4
  rw [← hs2]
  clear hs1 hs2
  go_wp2_with fail
  refine (sealFixed_any _ (H.out.1.below X4.out.1)).mono ?_
  rintro e w5 ⟨rfl, hb5⟩
  have X5 := Lib.hid (show Below w.heap.size w w5 ∧ Sb w5 (some ⟨g1, 0, none⟩) n key ∧ Sb w5 (some ⟨g2, 0, none⟩) m zs ∧ Sb w5 A3 n3 s1 ∧ n3 ≤ 9223372036854775807 ∧ Sb w5 A4 n4 s1 ∧ n4 ≤ 9223372036854775807 from ⟨X4.out.1.trans (hb5.mono X4.out.1.size), X4.out.2.1.below hb5, X4.out.2.2.1.below hb5, X4.out.2.2.2.1.below hb5, X4.out.2.2.2.2.1, X4.out.2.2.2.2.2.1.below hb5, X4.out.2.2.2.2.2.2⟩)
  clear hb5 X4
  go_wp2_with fail
  refine (refSame_any X5.out.2.2.2.1 X5.out.2.2.2.2.2.1 X5.out.2.2.2.2.1 X5.out.2.2.2.2.2.2).mono ?_
  rintro e w6 ⟨rfl, q6, hw6⟩
  rw [show decide (s1 = s1) = true by simp]
  have X6 := Lib.hid (show Below w.heap.size w w6 ∧ Sb w6 (some ⟨g1, 0, none⟩) n key ∧ Sb w6 (some ⟨g2, 0, none⟩) m zs from by
    have b6 : Below w5.heap.size w5 w6 := by rw [hw6]; exact below_drewN' (Below.refl _ _) q6
    exact ⟨X5.out.1.trans (b6.mono X5.out.1.size), X5.out.2.1.below b6, X5.out.2.2.1.below b6⟩)
  clear hw6 X5
  go_wp2_with fail
  refine (refSame_any X6.out.2.1 (H.out.2.1.below X6.out.1) (by omega) (by omega)).mono ?_
  rintro e w7 ⟨rfl, q7, hw7⟩
  rw [show decide (key = key) = true by simp]
  have X7 := Lib.hid (show Below w.heap.size w w7 ∧ Sb w7 (some ⟨g2, 0, none⟩) m zs from by
    have b7 : Below w6.heap.size w6 w7 := by rw [hw7]; exact below_drewN' (Below.refl _ _) q7
    exact ⟨X6.out.1.trans (b7.mono X6.out.1.size), X6.out.2.2.below b7⟩)
  clear hw7 X6
  go_wp2_with fail
  refine (refSame_any X7.out.2 (H.out.2.2.2.2.1.below X7.out.1) (by omega) (by omega)).mono ?_
  rintro e w8 ⟨rfl, q8, rfl⟩
  rw [show decide (zs = zs) = true by simp]
  have b8 := below_drewN' X7.out.1 q8
  clear X7
  go_wp2_with fail
  go_ret
  exact ⟨rfl, b8⟩

set_option maxRecDepth 100000 in
theorem lifted (os : Os) (started : os.Started) (H : Type) (enc : TypeId × Value → H) :
    ReturnsInHanded {} Tryd.checked os 3 .any (fun w args => (Rows.sealLaysSpec.pre enc Tryd.prog Tryd.f3 [] false w args ∧ laidMetH Tryd.prog laidL w) ∧ sizedMet enc Tryd.prog Tryd.f3 (OpenSpec.ofChange Rows.sealLaysSpec) false w args)
      (Rows.sealLaysSpec.post enc Tryd.prog Tryd.f3 false true false false) := by
  refine returnsInHanded_of_change_and (C := Tryd.checked) (X := fun w _ => laidMetH Tryd.prog laidL w) (fun _ _ _ hh h => h.of_heap hh) own started (by kernel_rfl) Tryd.func3
    (ChangeSpec.witness_shaped (enc := enc) (C := Tryd.checked) (os := os) (X := fun w _ => laidMetH Tryd.prog laidL w) false (World.doorLaid Tryd.prog 400 os) #[.slice none 0 0, .agg #[.int .u8 0, .bool false, .int .u32 0, .int .u64 0], .slice none 0 0] 8 rfl (World.shaped_of_RefB (by kernel_rfl) (by kernel_rfl)) (by kernel_rfl) (by kernel_rfl) (by kernel_rfl) (door_met os _)) ?_
  intro W base args ds gs before hval0 hW _ hsz0 hL _
  have hsz : (DataW.weightsEach Tryd.prog (Tryd.f3.params.toList ++ Rows.sealLaysSpec.plain.varTypes Tryd.prog) (ds ++ gs)).all (· ≤ reachBytes) = true := hsz0
  clear hsz0
  have hval : ∀ (j : Nat) t v, Tryd.f3.params[j]? = some t → args[j]? = some v → Value.okWide Tryd.prog W .any base t v := hval0
  have hW' := hW
  obtain ⟨p, q, hA0, hV, rfl, _, _⟩ := hW
  have hA : DataW.TrodAll enc Tryd.prog W 0 (fun _ => true) true Tryd.f3.params.toList args.toList ds p := hA0
  rw [Tryd.params3] at hA hval hsz
  obtain ⟨v0, vs0, d0, ds0, p0, q0, hargs, rfl, rfl, h0, r0⟩ := trodAll_cons hA
  obtain ⟨v1, vs1, d1, ds1, p1, q1, rfl, rfl, rfl, h1, r1⟩ := trodAll_cons r0
  obtain ⟨v2, vs2, d2, ds2, p2, q2, rfl, rfl, rfl, h2, r2⟩ := trodAll_cons r1
  obtain ⟨rfl, rfl, rfl⟩ := trodAll_nil r2
  obtain rfl : args = #[v0, v1, v2] := by cases args; simp_all
  obtain ⟨rfl, rfl⟩ := trodVars_none hV
  have lt0 : ∀ x ∈ p0, x.block < W.heap.size := by obtain ⟨m, hm⟩ := h0; exact DataW.trod_lt m _ _ _ hm
  obtain ⟨A0, n0, c0, z0, rfl, s0, u0, l0, g0⟩ := open_bytes_c (hval 0 22 v0 rfl rfl) h0
  have m0 := g0 _ _ 0 hsz rfl rfl
  have lt1 : ∀ x ∈ p1, x.block < W.heap.size := by obtain ⟨m, hm⟩ := h1; exact DataW.trod_lt m _ _ _ hm
  obtain ⟨g1, rfl, s1⟩ := open_header (hval 1 26 v1 rfl rfl) h1
  have lt2 : ∀ x ∈ p2, x.block < W.heap.size := by obtain ⟨m, hm⟩ := h2; exact DataW.trod_lt m _ _ _ hm
  obtain ⟨A2, n2, c2, z2, rfl, s2, u2, l2, g2⟩ := open_bytes_c (hval 2 22 v2 rfl rfl) h2
  have m2 := g2 _ _ 2 hsz rfl rfl
  clear hA0 hval0
  refine (walk W (roots_of_laid hL) s0 u0 m0 l0 s1 s2 u2 m2 l2).mono fun e W' ⟨he, bel⟩ => ?_
  subst he
  exact ⟨_, rfl, _, _, _, [], _, [], hW', trodAll_mk1 (shut_bool Tryd.underlying4 _), (trodAll_cons_mk (Below.trod laidOut (by kernel_rfl) (of_decide_eq_true (by kernel_rfl)) h0 bel lt0) (trodAll_cons_mk (Below.trod laidOut (by kernel_rfl) (of_decide_eq_true (by kernel_rfl)) h1 bel lt1) (trodAll_cons_mk (Below.trod laidOut (by kernel_rfl) (of_decide_eq_true (by kernel_rfl)) h2 bel lt2) trodAll_mk0))), rfl, bel.frame _, fun h => by cases h⟩

theorem over : Rows.sealLaysRow.holds Tryd.pinned (OpenSpec.ofChange Rows.sealLaysSpec) :=
  OpenClaim.holds_of_wide 3 Tryd.f3 rfl rfl rfl rfl rfl rfl rfl ⟨rfl, rfl, rfl, rfl, rfl⟩ rfl rfl rfl rfl rfl (by kernel_rfl) Tryd.func3 (by kernel_rfl)
    (of_decide_eq_true (by kernel_rfl)) (by unfold Func.isWrapper; first | (rw [if_pos (by decide +kernel)]; kernel_rfl) | (rw [if_neg (by decide +kernel)]; exact ⟨rfl, rfl⟩))
    (fun os started H enc _ => lifted os started H enc)

theorem proved : Rows.SealLaysCardSaid :=
  Claim7.holds_tied_plain_at .later [] [.data] true Rows.sealLaysCard.stood.harness false
    over (fun _ h => by cases h) (by kernel_rfl) (fun _ h => by cases h) sealLays_row_tie rfl ⟨rfl, rfl⟩ (by kernel_rfl) rfl
    (fun f fn hf hfn => by
      obtain rfl : f = 3 := Option.some.inj ((show Tryd.prog.funcNamed "spyglass/spyglasslaw06.SealLays" = some 3 by kernel_rfl).symm.trans hf) |>.symm
      obtain rfl : fn = Tryd.f3 := (Option.some.inj (Tryd.func3.symm.trans hfn)).symm
      exact ⟨by kernel_rfl, fun j t ht => by
        rw [Tryd.params3] at ht
        have hm : t ∈ [22, 26, 22] := by simpa using Array.mem_of_getElem? ht
        have hall : ([22, 26, 22].all fun u => !Tryd.prog.wantsStandIn u) = true := by kernel_rfl
        exact (show Tryd.prog.wantsStandIn t = false by simpa using List.all_eq_true.1 hall t hm)⟩)
    (by kernel_rfl)
end Go.Proofs.YtogaakokplobaaaDoor.sealLays
