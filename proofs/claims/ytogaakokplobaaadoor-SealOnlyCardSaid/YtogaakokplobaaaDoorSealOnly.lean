/-
  Proved: SealOnly answers true for all keys and bytes, over the table of roots that the program's text lays (a tied card).
-/
import Derived.Test.YtogaakokplobaaaDoorOpen
import Derived.Test.YtogaakokplobaaaDoorCards
import Derived.Test.YtogaakokplobaaaDoorTie
import Derived.SevenTiedAt
import Derived.Test.YtogaakokplobaaaDoorShaTab
import Derived.Test.YtogaakokplobaaaDoorSealHdEq
import Derived.WalkKit
namespace Go.Proofs.YtogaakokplobaaaDoor.sealOnly
open Go.ChangeShapes Go.WideShapes Go.ChangeAt Go.RowKit

set_option maxRecDepth 100000 in
set_option maxHeartbeats 3200000 in
/-- The walk. -/
theorem walk {A : Option Addr} {n c : Nat} {key : List Int} {B : Option Addr} {m d : Nat} {zs : List Int} (w : World) (hr : Roots w) (hs : Sb w A n key) (h8 : U8s key) (_ : n ≤ 140737488351232) (hc : n ≤ c ∧ c ≤ maxLen)
    (hs' : Sb w B m zs) (h8' : U8s zs) (_ : m ≤ 140737488351232) (hd : m ≤ d ∧ d ≤ maxLen) :
    Calls Tryd.prog 6 #[.slice A n c, .slice B m d] w fun e w' => e = .returned (.bool true) ∧ Below w.heap.size w w' := by
  unfold maxLen at hc hd
  have H := Lib.hid (show Roots w ∧ Sb w A n key ∧ B8s key ∧ (n ≤ c ∧ c ≤ 9223372036854775807) ∧ Sb w B m zs ∧ B8s zs ∧ (m ≤ d ∧ d ≤ 9223372036854775807) from ⟨hr, hs, h8, ⟨hc.1, by omega⟩, hs', h8', ⟨hd.1, by omega⟩⟩)
  clear hr hs h8 hs' h8' hc hd
  by_cases hbig : (1000 : Int) < (n : Int)
  · go_enter Tryd.func6, Tryd.ntmps6
    go_wp2_with fail
    refine (sealFixed_any _ H.out.1).mono ?_
    rintro e w1 ⟨rfl, hb1⟩
    go_wp2_with fail
    go_ret
    exact ⟨rfl, hb1⟩
  by_cases hbig2 : (16384 : Int) < (m : Int)
  · go_enter Tryd.func6, Tryd.ntmps6
    go_wp2_with fail
    refine (sealFixed_any _ H.out.1).mono ?_
    rintro e w1 ⟨rfl, hb1⟩
    go_wp2_with fail
    go_ret
    exact ⟨rfl, hb1⟩
  have HC := open_any (c := c) (d := d) w H.out.1 H.out.2.1 H.out.2.2.1 H.out.2.2.2.1 (by omega) H.out.2.2.2.2.1 H.out.2.2.2.2.2.1 (by omega) H.out.2.2.2.2.2.2
  have hok := openS_ok (key := key) H.out.2.2.2.2.2.1
  have hle := openS_len key zs
  have hzl := H.out.2.2.2.2.1.len
  have hnot := @open_not key zs
  have hso := @seal_open key zs H.out.2.2.2.2.2.1
  unfold OpenPost at HC
  obtain ⟨o, ho⟩ : ∃ o, o = openS key zs := ⟨_, rfl⟩
  rw [← ho] at HC hok hnot hso hle
  clear ho
  obtain ⟨h, bd, r⟩ := o
  dsimp only at HC hok hnot hso hle
  have HC := Lib.hid HC
  have HO := Lib.hid (show (HdOk h ∧ B8s bd) ∧ bd.length ≤ 16384 from ⟨hok, by omega⟩)
  clear hok hle hzl
  by_cases he : r = 0
  · subst he
    have hS := Lib.hid (hso rfl)
    clear hnot hso
    go_enter Tryd.func6, Tryd.ntmps6
    go_wp2_with fail
    refine HC.out.mono ?_
    rintro e w1 ⟨A1, n1, c1, rfl, hm1⟩
    have X1 := Lib.hid hm1
    clear hm1 HC
    have hn1 : Hid (Blk (w1.alloc (.cells #[.int .u8 0, .bool false, .int .u32 0, .int .u64 0] 26)) w1.heap.size 26 (hdA hd0)) := Blk.new _ _ _
    go_upto_region 4 with (refine wpList_store_row rfl 26 (.tmp 5) (.tmp 23) rfl w1.heap.size (hdA h) rfl rfl 26 (hdA hd0) hn1.out infoH rfl (hdA_one _) ?_)
    obtain ⟨w2, hw2⟩ : ∃ w2, w2 = (w1.alloc (.cells #[.int .u8 0, .bool false, .int .u32 0, .int .u64 0] 26)).setRow w1.heap.size (hdA h) := ⟨_, rfl⟩
    have X2 := Lib.hid (show Below w.heap.size w w2 ∧ Sb w2 A1 n1 bd ∧ (n1 ≤ c1 ∧ c1 ≤ 9223372036854775807) ∧ n1 ≤ 140737488351232 ∧ Blk w2 w1.heap.size 26 (hdA h) from by
      have h1 : Below w1.heap.size w1 w2 := by rw [hw2]; exact below_setRow ((Below.refl _ _).alloc (Nat.le_refl _) _) (Nat.le_refl _) _
      have h2 := X1.out.max
      unfold maxLen at h2
      refine ⟨X1.out.below.trans (h1.mono X1.out.below.size), X1.out.sb.below h1, ⟨X1.out.le, by omega⟩, by have h3 := HO.out.2; have h4 := X1.out.len; omega, by rw [hw2]; exact hn1.out.setRow _⟩)
    rw [← hw2]
    clear hw2 hn1 X1
    have HS := Lib.hid (seal_any (c := c) (d := c1) h HO.out.1.1 w2 (H.out.1.below X2.out.1) (H.out.2.1.below X2.out.1) H.out.2.2.1 H.out.2.2.2.1 (by omega) X2.out.2.1 HO.out.1.2 X2.out.2.2.2.1)
    go_wp2_with (refine wpList_load_row rfl 26 (.tmp 5) rfl w1.heap.size rfl 26 (hdA h) (0, 0) _ X2.out.2.2.2.2 Tryd.underlying26 rfl infoH ?_)
    refine HS.out.mono ?_
    rintro e w3 ⟨A3, n3, c3, rfl, hm3⟩
    rw [hS.out] at hm3 ⊢
    have X3 := Lib.hid (show Below w.heap.size w w3 ∧ Sb w3 A3 n3 zs ∧ n3 ≤ c3 ∧ c3 ≤ 9223372036854775807 from ⟨X2.out.1.trans (hm3.below.mono X2.out.1.size), hm3.sb, hm3.le, by have := hm3.max; unfold maxLen at this; omega⟩)
    clear hm3 HS X2
    go_wp2_with fail
    refine (sealFixed_any _ (H.out.1.below X3.out.1)).mono ?_
    rintro e w4 ⟨rfl, hb4⟩
    have X4 := Lib.hid (show Below w.heap.size w w4 ∧ Sb w4 A3 n3 zs ∧ n3 ≤ c3 ∧ c3 ≤ 9223372036854775807 from ⟨X3.out.1.trans (hb4.mono X3.out.1.size), X3.out.2.1.below hb4, X3.out.2.2⟩)
    clear hb4 X3
    go_wp2_with fail
    refine (refSame_any X4.out.2.1 (H.out.2.2.2.2.1.below X4.out.1) (by have := X4.out.2.2; omega) (by omega)).mono ?_
    rintro e w5 ⟨rfl, q5, rfl⟩
    rw [show decide (zs = zs) = true by simp]
    have b5 := below_drewN' X4.out.1 q5
    clear X4
    go_wp2_with fail
    go_ret
    exact ⟨rfl, b5⟩
  · obtain ⟨rfl, rfl⟩ := hnot he
    have hdr : (r != 0) = true := by simpa using he
    clear hso he
    go_enter Tryd.func6, Tryd.ntmps6
    go_wp2_with fail
    refine HC.out.mono ?_
    rintro e w1 ⟨A1, n1, c1, rfl, hm1⟩
    obtain rfl : n1 = 0 := by have := hm1.len; simpa using this.symm
    have X1 := Lib.hid hm1.below
    clear hm1 HC
    have hn1 : Hid (Blk (w1.alloc (.cells #[.int .u8 0, .bool false, .int .u32 0, .int .u64 0] 26)) w1.heap.size 26 (hdA hd0)) := Blk.new _ _ _
    go_upto_region 4 with (refine wpList_store_row rfl 26 (.tmp 5) (.tmp 23) rfl w1.heap.size (hdA hd0) rfl rfl 26 (hdA hd0) hn1.out infoH rfl (hdA_one _) ?_)
    obtain ⟨w2, hw2⟩ : ∃ w2, w2 = (w1.alloc (.cells #[.int .u8 0, .bool false, .int .u32 0, .int .u64 0] 26)).setRow w1.heap.size (hdA hd0) := ⟨_, rfl⟩
    have X2 := Lib.hid (show Below w.heap.size w w2 ∧ Blk w2 w1.heap.size 26 (hdA hd0) from by
      have h1 : Below w1.heap.size w1 w2 := by rw [hw2]; exact below_setRow ((Below.refl _ _).alloc (Nat.le_refl _) _) (Nat.le_refl _) _
      exact ⟨X1.out.trans (h1.mono X1.out.size), by rw [hw2]; exact hn1.out.setRow _⟩)
    rw [← hw2]
    clear hw2 hn1 X1
    go_wp2_with fail
    refine (sealFixed_any _ (H.out.1.below X2.out.1)).mono ?_
    rintro e w3 ⟨rfl, hb3⟩
    have X3 := Lib.hid (show Below w.heap.size w w3 ∧ Blk w3 w1.heap.size 26 (hdA hd0) from ⟨X2.out.1.trans (hb3.mono X2.out.1.size), X2.out.2.below hb3 X2.out.2.lt⟩)
    clear hb3 X2
    go_wp2_with (refine wpList_unguard (by rfl) ?_; refine wpList_load_row rfl 26 (.tmp 5) rfl w1.heap.size rfl 26 #[.int .u8 0, .bool false, .int .u32 0, .int .u64 0] (0, 0) _ X3.out.2 Tryd.underlying26 rfl infoH ?_)
    go_ret
    exact ⟨rfl, X3.out.1⟩

set_option maxRecDepth 100000 in
theorem lifted (os : Os) (started : os.Started) (H : Type) (enc : TypeId × Value → H) :
    ReturnsInHanded {} Tryd.checked os 6 .any (fun w args => (Rows.sealOnlySpec.pre enc Tryd.prog Tryd.f6 [] false w args ∧ laidMetH Tryd.prog laidL w) ∧ sizedMet enc Tryd.prog Tryd.f6 (OpenSpec.ofChange Rows.sealOnlySpec) false w args)
      (Rows.sealOnlySpec.post enc Tryd.prog Tryd.f6 false true false false) := by
  refine returnsInHanded_of_change_and (C := Tryd.checked) (X := fun w _ => laidMetH Tryd.prog laidL w) (fun _ _ _ hh h => h.of_heap hh) own started (by kernel_rfl) Tryd.func6
    (ChangeSpec.witness_shaped (enc := enc) (C := Tryd.checked) (os := os) (X := fun w _ => laidMetH Tryd.prog laidL w) false (World.doorLaid Tryd.prog 400 os) #[.slice none 0 0, .slice none 0 0] 8 rfl (World.shaped_of_RefB (by kernel_rfl) (by kernel_rfl)) (by kernel_rfl) (by kernel_rfl) (by kernel_rfl) (door_met os _)) ?_
  intro W base args ds gs before hval0 hW _ hsz0 hL _
  have hsz : (DataW.weightsEach Tryd.prog (Tryd.f6.params.toList ++ Rows.sealOnlySpec.plain.varTypes Tryd.prog) (ds ++ gs)).all (· ≤ reachBytes) = true := hsz0
  clear hsz0
  have hval : ∀ (j : Nat) t v, Tryd.f6.params[j]? = some t → args[j]? = some v → Value.okWide Tryd.prog W .any base t v := hval0
  have hW' := hW
  obtain ⟨p, q, hA0, hV, rfl, _, _⟩ := hW
  have hA : DataW.TrodAll enc Tryd.prog W 0 (fun _ => true) true Tryd.f6.params.toList args.toList ds p := hA0
  rw [Tryd.params6] at hA hval hsz
  obtain ⟨v0, vs0, d0, ds0, p0, q0, hargs, rfl, rfl, h0, r0⟩ := trodAll_cons hA
  obtain ⟨v1, vs1, d1, ds1, p1, q1, rfl, rfl, rfl, h1, r1⟩ := trodAll_cons r0
  obtain ⟨rfl, rfl, rfl⟩ := trodAll_nil r1
  obtain rfl : args = #[v0, v1] := by cases args; simp_all
  obtain ⟨rfl, rfl⟩ := trodVars_none hV
  have lt0 : ∀ x ∈ p0, x.block < W.heap.size := by obtain ⟨m, hm⟩ := h0; exact DataW.trod_lt m _ _ _ hm
  obtain ⟨A0, n0, c0, z0, rfl, s0, u0, l0, g0⟩ := open_bytes_c (hval 0 22 v0 rfl rfl) h0
  have m0 := g0 _ _ 0 hsz rfl rfl
  have lt1 : ∀ x ∈ p1, x.block < W.heap.size := by obtain ⟨m, hm⟩ := h1; exact DataW.trod_lt m _ _ _ hm
  obtain ⟨A1, n1, c1, z1, rfl, s1, u1, l1, g1⟩ := open_bytes_c (hval 1 22 v1 rfl rfl) h1
  have m1 := g1 _ _ 1 hsz rfl rfl
  clear hA0 hval0
  refine (walk W (roots_of_laid hL) s0 u0 m0 l0 s1 u1 m1 l1).mono fun e W' ⟨he, bel⟩ => ?_
  subst he
  exact ⟨_, rfl, _, _, _, [], _, [], hW', trodAll_mk1 (shut_bool Tryd.underlying4 _), (trodAll_cons_mk (Below.trod laidOut (by kernel_rfl) (of_decide_eq_true (by kernel_rfl)) h0 bel lt0) (trodAll_cons_mk (Below.trod laidOut (by kernel_rfl) (of_decide_eq_true (by kernel_rfl)) h1 bel lt1) trodAll_mk0)), rfl, bel.frame _, fun h => by cases h⟩

theorem over : Rows.sealOnlyRow.holds Tryd.pinned (OpenSpec.ofChange Rows.sealOnlySpec) :=
  OpenClaim.holds_of_wide 6 Tryd.f6 rfl rfl rfl rfl rfl rfl rfl ⟨rfl, rfl, rfl, rfl, rfl⟩ rfl rfl rfl rfl rfl (by kernel_rfl) Tryd.func6 (by kernel_rfl)
    (of_decide_eq_true (by kernel_rfl)) (by unfold Func.isWrapper; first | (rw [if_pos (by decide +kernel)]; kernel_rfl) | (rw [if_neg (by decide +kernel)]; exact ⟨rfl, rfl⟩))
    (fun os started H enc _ => lifted os started H enc)

theorem proved : Rows.SealOnlyCardSaid :=
  Claim7.holds_tied_plain_at .later [] [.data] true Rows.sealOnlyCard.stood.harness false
    over (fun _ h => by cases h) (by kernel_rfl) (fun _ h => by cases h) sealOnly_row_tie rfl ⟨rfl, rfl⟩ (by kernel_rfl) rfl
    (fun f fn hf hfn => by
      obtain rfl : f = 6 := Option.some.inj ((show Tryd.prog.funcNamed "spyglass/spyglasslaw06.SealOnly" = some 6 by kernel_rfl).symm.trans hf) |>.symm
      obtain rfl : fn = Tryd.f6 := (Option.some.inj (Tryd.func6.symm.trans hfn)).symm
      exact ⟨by kernel_rfl, fun j t ht => by
        rw [Tryd.params6] at ht
        have hm : t ∈ [22, 22] := by simpa using Array.mem_of_getElem? ht
        have hall : ([22, 22].all fun u => !Tryd.prog.wantsStandIn u) = true := by kernel_rfl
        exact (show Tryd.prog.wantsStandIn t = false by simpa using List.all_eq_true.1 hall t hm)⟩)
    (by kernel_rfl)
end Go.Proofs.YtogaakokplobaaaDoor.sealOnly
