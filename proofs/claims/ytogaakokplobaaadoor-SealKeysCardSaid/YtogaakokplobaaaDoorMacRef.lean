/-
  The contract of the reference's Code.
-/
import Derived.Test.YtogaakokplobaaaDoorMacSpec
import Derived.Test.YtogaakokplobaaaDoorMacBegin
import Derived.Test.YtogaakokplobaaaDoorMacPts
import Derived.Test.YtogaakokplobaaaDoorMacApp
import Derived.Test.YtogaakokplobaaaDoorShaRefSum
import Derived.Deep.Cut
import Derived.Deep.DeepCutAuto
namespace Go.Proofs.YtogaakokplobaaaDoor
open Go.RowKit

theorem builtK : Tryd.prog.built 71 [] = some (u8A (List.replicate 64 0)) := by kernel_rfl

set_option maxRecDepth 100000 in
set_option maxHeartbeats 3200000 in
theorem refCode_any {A : Option Addr} {n c : Nat} {key : List Int} {B : Option Addr} {m d : Nat} {L : List (List Int)} (w : World) (hs : Sb w A n key) (h8 : B8s key) (hc : n ≤ c ∧ c ≤ 9223372036854775807) (hn : n ≤ 1125899906842)
    (hp : Ps w B m L) (hm : m ≤ 900000) (hl : L.flatten.length ≤ 1125899906000) :
    Calls Tryd.prog 36 #[.slice A n c, .slice B m d] w fun e w' => e = .returned (.agg (u8A (macS key L.flatten))) ∧ Below w.heap.size w w' := by
  have H := Lib.hid (show Sb w A n key ∧ B8s key ∧ (n ≤ c ∧ c ≤ 9223372036854775807) ∧ Ps w B m L ∧ L.flatten.length ≤ 1125899906000 ∧ key.length ≤ 1125899906842 from ⟨hs, h8, hc, hp, hl, by rw [hs.len]; exact hn⟩)
  clear hs h8 hc hp hl
  have hn0 : Hid (Blk ((w.alloc (.cells (u8A (List.replicate 32 0)) 46)).alloc (.cells (u8A (List.replicate 64 0)) 71)) (w.heap.size + 1) 71 (u8A (List.replicate 64 0))) := Blk.new' (by simp) _ _
  go_enter Tryd.func36, Tryd.ntmps36
  go_upto_region 2 with (first
    | (refine wpList_build0 rfl 71 rfl _ builtK ?_)
    | (refine wpList_store_row rfl 71 (.tmp 5) (.tmp 15) rfl (w.heap.size + 1) (u8A (List.replicate 64 0)) rfl rfl 71 (u8A (List.replicate 64 0)) hn0.out (by rw [u8A_size]; exact infoA64) rfl (u8A_one _) ?_))
  obtain ⟨w2, hw2⟩ : ∃ w2, w2 = ((w.alloc (.cells (u8A (List.replicate 32 0)) 46)).alloc (.cells (u8A (List.replicate 64 0)) 71)).setRow (w.heap.size + 1) (u8A (List.replicate 64 0)) := ⟨_, rfl⟩
  have X2 : Hid (Blk w2 w.heap.size 46 (u8A (List.replicate 32 0)) ∧ Blk w2 (w.heap.size + 1) 71 (u8A (List.replicate 64 0)) ∧ Below w.heap.size w w2) := by
    rw [hw2]
    exact Lib.hid ⟨((Blk.new _ _ _).alloc _).otherRow _ (by simp), hn0.out.setRow _, below_setRow (((Below.refl _ _).alloc (Nat.le_refl _) _).alloc (by simp) _) (Nat.le_succ _) _⟩
  have hw2' : w2 = ((w.alloc (.cells #[Value.int .u8 0, Value.int .u8 0, Value.int .u8 0, Value.int .u8 0, Value.int .u8 0, Value.int .u8 0, Value.int .u8 0, Value.int .u8 0, Value.int .u8 0, Value.int .u8 0, Value.int .u8 0, Value.int .u8 0, Value.int .u8 0, Value.int .u8 0, Value.int .u8 0, Value.int .u8 0, Value.int .u8 0, Value.int .u8 0, Value.int .u8 0, Value.int .u8 0, Value.int .u8 0, Value.int .u8 0, Value.int .u8 0, Value.int .u8 0, Value.int .u8 0, Value.int .u8 0, Value.int .u8 0, Value.int .u8 0, Value.int .u8 0, Value.int .u8 0, Value.int .u8 0, Value.int .u8 0] 46)).alloc (.cells #[Value.int .u8 0, Value.int .u8 0, Value.int .u8 0, Value.int .u8 0, Value.int .u8 0, Value.int .u8 0, Value.int .u8 0, Value.int .u8 0, Value.int .u8 0, Value.int .u8 0, Value.int .u8 0, Value.int .u8 0, Value.int .u8 0, Value.int .u8 0, Value.int .u8 0, Value.int .u8 0, Value.int .u8 0, Value.int .u8 0, Value.int .u8 0, Value.int .u8 0, Value.int .u8 0, Value.int .u8 0, Value.int .u8 0, Value.int .u8 0, Value.int .u8 0, Value.int .u8 0, Value.int .u8 0, Value.int .u8 0, Value.int .u8 0, Value.int .u8 0, Value.int .u8 0, Value.int .u8 0, Value.int .u8 0, Value.int .u8 0, Value.int .u8 0, Value.int .u8 0, Value.int .u8 0, Value.int .u8 0, Value.int .u8 0, Value.int .u8 0, Value.int .u8 0, Value.int .u8 0, Value.int .u8 0, Value.int .u8 0, Value.int .u8 0, Value.int .u8 0, Value.int .u8 0, Value.int .u8 0, Value.int .u8 0, Value.int .u8 0, Value.int .u8 0, Value.int .u8 0, Value.int .u8 0, Value.int .u8 0, Value.int .u8 0, Value.int .u8 0, Value.int .u8 0, Value.int .u8 0, Value.int .u8 0, Value.int .u8 0, Value.int .u8 0, Value.int .u8 0, Value.int .u8 0, Value.int .u8 0] 71)).setRow (w.heap.size + 1) (u8A (List.replicate 64 0)) := hw2
  rw [← hw2']
  clear hw2 hw2' hn0
  go_upto_if 18 with fail
  go_cut [] (fun wc => Blk wc w.heap.size 46 (u8A (List.replicate 32 0)) ∧ Blk wc (w.heap.size + 1) 71 (u8A (blkS key)) ∧ Below w.heap.size w wc)
  case first =>
    by_cases h64 : (64 : Int) < (n : Int)
    · have HK := Lib.hid (show blkS key = padZ (shaS key) from by unfold blkS keyB; rw [if_pos (by rw [H.out.1.len]; omega)])
      go_wp2_with fail
      have B3 : Hid (Below w2.heap.size w2 (w2.alloc (.cells #[.slice A n c] 22))) := (Below.refl _ _).alloc (Nat.le_refl _) _
      refine (refSum_any (n := 1) (L := [key]) _ ?hp (by have := H.out.2.2.2.2.2; simpa using this) (by omega)).mono ?_
      case hp =>
        have hnew := heap_alloc_new w2 (.cells #[.slice A n c] 22)
        refine Ps.of rfl (fun _ => lt_of_block hnew) fun k hk => ?_
        obtain rfl : k = 0 := by omega
        exact ⟨A, n, c, (cell_of_row _ w2.heap.size 0 _ _ _ hnew).trans rfl, (H.out.1.below X2.out.2.2).below B3.out, H.out.2.2.1.1, H.out.2.2.1.2, H.out.2.1⟩
      rintro e w3 ⟨rfl, hb3⟩
      rw [show ([key] : List (List Int)).flatten = key by simp]
      obtain ⟨s, hs⟩ : ∃ s, s = shaS key := ⟨_, rfl⟩
      rw [← hs] at HK ⊢
      have HS := Lib.hid (show s.length = 32 from by rw [hs]; exact shaS_len _)
      clear hs
      have X3 := Lib.hid (show Blk w3 w.heap.size 46 (u8A (List.replicate 32 0)) ∧ Blk w3 (w.heap.size + 1) 71 (u8A (List.replicate 64 0)) ∧ Below w.heap.size w w3 from by
        have b := B3.out.trans (hb3.mono B3.out.size)
        exact ⟨X2.out.1.below b X2.out.1.lt, X2.out.2.1.below b X2.out.2.1.lt, X2.out.2.2.trans (b.mono X2.out.2.2.size)⟩)
      clear hb3 B3
      have hn3 : Hid (Blk (w3.alloc (.cells (u8A (List.replicate 32 0)) 46)) w3.heap.size 46 (u8A (List.replicate 32 0))) := Blk.new _ _ _
      go_wp2_with (refine wpList_store_row rfl 46 (.tmp 6) (.tmp 21) rfl w3.heap.size (u8A s) rfl rfl 46 (u8A (List.replicate 32 0)) hn3.out (by rw [u8A_size, HS.out]; exact info32) (by rw [u8A_size, u8A_size, HS.out]; simp) (u8A_one _) ?_)
      have hlt3 := Lib.hid (show w.heap.size < w3.heap.size ∧ w.heap.size + 1 < w3.heap.size from ⟨X3.out.1.lt, X3.out.2.1.lt⟩)
      go_loopw [7] (fun i wr => ∃ k : Nat, k ≤ 32 ∧ i = .int .i64 k ∧ Blk wr w.heap.size 46 (u8A (List.replicate 32 0)) ∧ Blk wr (w.heap.size + 1) 71 (u8A (padZ (s.take k))) ∧ Blk wr w3.heap.size 46 (u8A s) ∧ Below w.heap.size w wr) (fun i _ => 32 - (intOf i).toNat)
      case atStart =>
        have h1 := hlt3.out
        exact ⟨0, by omega, rfl, (X3.out.1.alloc _).otherRow _ (by omega), by rw [List.take_zero, padZ_nil]; exact (X3.out.2.1.alloc _).otherRow _ (by omega), hn3.out.setRow _, below_setRow (X3.out.2.2.alloc (by omega) _) (by omega) _⟩
      case round =>
        clear hn3
        obtain ⟨k, hk, rfl, hres, hkb, hsb, hbel⟩ := hrel
        have Y := Lib.hid (And.intro hres (And.intro hkb (And.intro hsb hbel)))
        by_cases hlt : k < 32
        · have hkl : (k : Int) < 32 := by omega
          obtain ⟨x, hx⟩ : ∃ x, x = s.getD k 0 := ⟨_, rfl⟩
          have c0 := hsb.cell8 (k := k) (by rw [HS.out]; exact hlt)
          rw [← hx] at c0
          have c1 := hkb.cell8 (k := k) (by rw [padZ_len (by simp; omega)]; omega)
          have f1 := hkb.free k
          have HX := Lib.hid hx
          have hlt64 : (k : Int) < 64 := by omega
          clear hres hkb hsb hbel hx
          go_wp2_with fail
          go_roundw
          case rel =>
            have h1 := hlt3.out
            refine ⟨k + 1, by omega, by go_num, Y.out.1.other _ (by simp), ?_, Y.out.2.2.1.other _ (by simp; omega), Y.out.2.2.2.setCell (by simp) _⟩
            have h2 := Y.out.2.1.set8 k x
            rw [HX.out, padZ_set s k (by rw [HS.out]; exact hlt) (by rw [HS.out]; omega)] at h2
            rw [HX.out]
            exact h2
          case measure => simp [intOf]; omega
        · obtain rfl : k = 32 := by omega
          have e : s.take 32 = s := List.take_of_length_le (by rw [HS.out]; omega)
          rw [e, ← HK.out] at Y
          clear hres hkb hsb hbel hlt hk e
          go_wp2_with fail
          go_meet
          exact ⟨Y.out.1, Y.out.2.1, Y.out.2.2.2⟩
    · have HK := Lib.hid (show blkS key = padZ key ∧ n ≤ 64 from ⟨by unfold blkS keyB; rw [if_neg (by rw [H.out.1.len]; omega)], by omega⟩)
      have hnl : n ≤ 64 := by omega
      go_wp2_with fail
      go_loopw [8] (fun i wr => ∃ k : Nat, k ≤ n ∧ i = .int .i64 k ∧ Blk wr w.heap.size 46 (u8A (List.replicate 32 0)) ∧ Blk wr (w.heap.size + 1) 71 (u8A (padZ (key.take k))) ∧ Below w.heap.size w wr) (fun i _ => n - (intOf i).toNat)
      case atStart => exact ⟨0, by omega, rfl, X2.out.1, by rw [List.take_zero, padZ_nil]; exact X2.out.2.1, X2.out.2.2⟩
      case round =>
        obtain ⟨k, hk, rfl, hres, hkb, hbel⟩ := hrel
        have Y := Lib.hid (And.intro hres (And.intro hkb hbel))
        by_cases hlt : k < n
        · have hkl : (k : Int) < (n : Int) := by omega
          obtain ⟨ad, rfl, hblt, hat⟩ := H.out.1.at_ (by omega)
          obtain ⟨x, hx⟩ : ∃ x, x = key.getD k 0 := ⟨_, rfl⟩
          have c0 := (hbel.cell (p := ad.add k) (by rw [addBlock]; exact hblt)).trans (hat k hlt)
          rw [← hx] at c0
          have c1 := hkb.cell8 (k := k) (by rw [padZ_len (by simp; omega)]; omega)
          have f1 := hkb.free k
          have HX := Lib.hid hx
          have hlt64 : (k : Int) < 64 := by omega
          clear hres hkb hbel hx hat
          go_wp2_with fail
          go_roundw
          case rel =>
            refine ⟨k + 1, by omega, by go_num, Y.out.1.other _ (by simp), ?_, Y.out.2.2.setCell (by simp) _⟩
            have h2 := Y.out.2.1.set8 k x
            rw [HX.out, padZ_set key k (by rw [H.out.1.len]; exact hlt) (by rw [H.out.1.len]; omega)] at h2
            rw [HX.out]
            exact h2
          case measure => simp [intOf]; omega
        · obtain rfl : k = n := by omega
          have e : key.take k = key := List.take_of_length_le (by rw [H.out.1.len]; omega)
          rw [e, ← HK.out.1] at Y
          clear hres hkb hbel hlt hk e
          go_wp2_with fail
          go_meet
          exact ⟨Y.out.1, Y.out.2.1, Y.out.2.2⟩
  case rest =>
    obtain ⟨hres, hkb, hbel⟩ := hcut
    obtain ⟨k, hk⟩ : ∃ k, k = blkS key := ⟨_, rfl⟩
    rw [← hk] at hkb
    have HK := Lib.hid (show k.length = 64 ∧ B8s k ∧ k = blkS key from ⟨by rw [hk]; exact blkS_len _, by rw [hk]; exact blkS_b H.out.2.1, hk⟩)
    have XC := Lib.hid (And.intro hres (And.intro hkb hbel))
    clear hk hres hkb hbel X2
    go_wp2_with fail
    go_loopw [9, 10, 11] (fun v9 v10 i wr => ∃ (j c9 c10 : Nat) (A9 A10 : Option Addr), j ≤ 64 ∧ i = .int .i64 j ∧ v9 = .slice A9 j c9 ∧ v10 = .slice A10 j c10 ∧
      RS w wr 46 71 (u8A (List.replicate 32 0)) (u8A k) A9 j c9 (xorL 54 (k.take j)) A10 j c10 (xorL 92 (k.take j))) (fun _ _ i _ => 64 - (intOf i).toNat)
    case atStart =>
      have hz := XC.out.2.1.lt
      refine ⟨0, 0, 0, _, _, by omega, rfl, rfl, rfl, ?_⟩
      refine ⟨?_, ?_, ?_, (XC.out.1.alloc _).alloc _, (XC.out.2.1.alloc _).alloc _, (XC.out.2.2.alloc XC.out.2.2.size _).alloc (by have := XC.out.2.2.size; simp; omega) _⟩
      · exact (World.ownsRow_lit (base := w.heap.size + 2) (e := 5) (size := 1) wc #[] 0 (by omega) (by unfold maxLen; omega) rfl).alloc _
      · have h1 := World.ownsRow_lit (base := w.heap.size + 2) (e := 5) (size := 1) (wc.alloc (.cells #[] 5)) #[] 0 (by simp; omega) (by unfold maxLen; omega) rfl
        have e1 : (wc.alloc (.cells #[] 5)).heap.size = wc.heap.size + 1 := by simp
        rw [e1] at h1
        exact h1
      · intro b e e'
        simp at e e'
        omega
    case round =>
      obtain ⟨j, c9, c10, A9, A10, hj, rfl, rfl, rfl, hrs⟩ := hrel
      have R := Lib.hid hrs
      by_cases hlt : j < 64
      · have hjl : (j : Int) < 64 := by omega
        obtain ⟨y, hy⟩ : ∃ y, y = k.getD j 0 := ⟨_, rfl⟩
        have hyb : 0 ≤ y ∧ y ≤ 255 := by rw [hy]; exact HK.out.2.1.at j
        have c1 := hrs.b1.cell8 (k := j) (by rw [HK.out.1]; exact hlt)
        rw [← hy] at c1
        have hsz := hrs.size
        have HY := Lib.hid (show xorL 54 (k.take (j + 1)) = xorL 54 (k.take j) ++ [bits .xor .u8 y 54] ∧ xorL 92 (k.take (j + 1)) = xorL 92 (k.take j) ++ [bits .xor .u8 y 92] ∧ y = k.getD j 0 from by
          rw [hy]
          exact ⟨xorL_snoc 54 k j (by rw [HK.out.1]; exact hlt), xorL_snoc 92 k j (by rw [HK.out.1]; exact hlt), rfl⟩)
        obtain ⟨hy0, hy1⟩ := hyb
        have RA := Lib.hid (hrs.below ((Below.refl _ _).alloc (Nat.le_refl _) (.cells #[.int .u8 (bits .xor .u8 y 54)] 5)))
        clear hrs hy
        go_wp2_with (first
          | (at_builtin; refine wpList_mappv _ rfl (.tmp 49) (.tmp 54) 22 rfl (w.heap.size + 2) 5 Tryd.underlying22 info8 (.slice A9 j c9) j _ rfl RA.out.o (some ⟨wr.heap.size, 0, none⟩) 1 1 [bits .xor .u8 y 54] rfl (Sb.one _ _ _) (by omega) (by simp; omega) ?_; intro A5 c5 w5 ho5 hg5 hw5; have R5 := Lib.hid (RA.out.app (ys := xorL 54 (k.take j) ++ [bits .xor .u8 y 54]) (by rw [List.map_append]; exact ho5) hg5 hw5); have c2 : w5.cell? ⟨w.heap.size + 1, j, none⟩ = some (.int .u8 y) := (by have h1 := R5.out.b1.cell8 (k := j) (by rw [HK.out.1]; exact hlt); rw [← HY.out.2.2] at h1; exact h1); have hsz5 := R5.out.size; have RB := Lib.hid (R5.out.swap.below ((Below.refl _ _).alloc (Nat.le_refl _) (.cells #[.int .u8 (bits .xor .u8 y 92)] 5))); clear ho5 hg5 hw5)
          | (at_builtin; refine wpList_mappv _ rfl (.tmp 56) (.tmp 61) 22 rfl (w.heap.size + 2) 5 Tryd.underlying22 info8 (.slice A10 j c10) j _ rfl RB.out.o (some ⟨w5.heap.size, 0, none⟩) 1 1 [bits .xor .u8 y 92] rfl (Sb.one _ _ _) (by omega) (by simp; omega) ?_; intro A6 c6 w6 ho6 hg6 hw6; have R6 := Lib.hid (RB.out.app (ys := xorL 92 (k.take j) ++ [bits .xor .u8 y 92]) (by rw [List.map_append]; exact ho6) hg6 hw6); clear ho6 hg6 hw6 c2 hsz5))
        go_roundw
        case rel => exact ⟨j + 1, c5, c6, A5, A6, by omega, by go_num, rfl, rfl, by rw [HY.out.1, HY.out.2.1]; exact R6.out.swap⟩
        case measure => simp [intOf]; omega
      · have HJ := Lib.hid (show j = 64 from by omega)
        have hge : (64 : Int) ≤ (j : Int) := by omega
        have hdj : decide ((j : Int) < 64) = false := by simpa using hge
        have R2 := Lib.hid (show RS w wr 46 71 (u8A (List.replicate 32 0)) (u8A k) A9 j c9 (xorL 54 k) A10 j c10 (xorL 92 k) from by
          have e : k.take j = k := List.take_of_length_le (by rw [HK.out.1, HJ.out]; omega)
          have h1 := hrs
          rw [e] at h1
          exact h1)
        clear hrs R hlt hj XC
        go_wp2_with fail
        clear hge hdj
        obtain ⟨jo, rfl⟩ : ∃ jo : Nat, jo = j := ⟨_, rfl⟩
        obtain ⟨wo, rfl⟩ : ∃ wo : World, wo = wr := ⟨_, rfl⟩
        go_loopw [9, 12] (fun v9 i wr => ∃ (j p c9 : Nat) (A9 : Option Addr), j ≤ m ∧ i = .int .i64 j ∧ v9 = .slice A9 p c9 ∧ p = 64 + (L.take j).flatten.length ∧
          RS w wr 46 71 (u8A (List.replicate 32 0)) (u8A k) A9 p c9 (xorL 54 k ++ (L.take j).flatten) A10 jo c10 (xorL 92 k)) (fun _ i _ => m - (intOf i).toNat)
        case atStart => exact ⟨0, jo, c9, A9, Nat.zero_le _, rfl, rfl, by simp [HJ.out], by simpa using R2.out⟩
        case round =>
          obtain ⟨j, p, c9, A9, hj, rfl, rfl, hp, hrs⟩ := hrel
          have R := Lib.hid (And.intro hrs hp)
          clear hp
          by_cases hlt : j < m
          · have hjl : (j : Int) < (m : Int) := by omega
            obtain ⟨ad, rfl, hblt, hat⟩ := H.out.2.2.2.1.at_ (by omega)
            obtain ⟨A', m', c', hc, hsb, hmc, hcm, hb8⟩ := hat j hlt
            have hjL : j < L.length := by rw [H.out.2.2.2.1.len]; exact hlt
            have hcell := (hrs.bel.cell (p := ad.add j) (by rw [addBlock]; exact hblt)).trans hc
            have XL := Lib.hid (show (L.take (j + 1)).flatten = (L.take j).flatten ++ L.getD j [] ∧ Sb wr A' m' (L.getD j []) from ⟨by
              rw [List.take_succ_eq_append_getElem hjL, List.flatten_append]
              simp [List.getD, List.getElem?_eq_getElem hjL], hsb.below hrs.bel⟩)
            have hpm : p + m' ≤ 1125899906064 := by
              have h1 := congrArg List.length XL.out.1
              simp only [List.length_append] at h1
              have h3 : (L.take (j + 1)).flatten.length ≤ L.flatten.length := by
                have h4 := congrArg (fun l => l.flatten.length) (List.take_append_drop (j + 1) L)
                simp only [List.flatten_append, List.length_append] at h4
                omega
              have h5 := H.out.2.2.2.2.1
              have h6 := R.out.2
              have h7 := XL.out.2.len
              omega
            have hsz := hrs.size
            clear hsb hb8 hat hblt hc hjL hrs
            go_wp2_with (at_builtin; refine wpList_mappv _ rfl (.tmp 69) (.tmp 73) 22 rfl (w.heap.size + 2) 5 Tryd.underlying22 info8 (.slice A9 p c9) p _ rfl R.out.1.o A' m' c' _ rfl XL.out.2 (by omega) hsz ?_; intro A5 c5 w5 ho5 hg5 hw5; have R5 := Lib.hid (R.out.1.app (ys := (xorL 54 k ++ (L.take j).flatten) ++ L.getD j []) (by rw [List.map_append]; exact ho5) hg5 hw5); clear ho5 hg5 hw5)
            go_roundw
            case rel =>
              refine ⟨j + 1, p + m', c5, A5, by omega, by go_num, rfl, ?_, ?_⟩
              · rw [XL.out.1, List.length_append, R.out.2, XL.out.2.len]; omega
              · rw [XL.out.1, ← List.append_assoc]; exact R5.out
            case measure => simp [intOf]; omega
          · obtain rfl : j = m := by omega
            have R3 := Lib.hid (show RS w wr 46 71 (u8A (List.replicate 32 0)) (u8A k) A9 p c9 (xorL 54 k ++ L.flatten) A10 jo c10 (xorL 92 k) ∧ p = 64 + L.flatten.length from by
              have e : L.take j = L := List.take_of_length_le (by rw [H.out.2.2.2.1.len]; omega)
              have h1 := R.out
              rw [e] at h1
              exact h1)
            clear hrs R hlt hj R2
            go_wp2_with fail
            obtain ⟨zi, hzi⟩ : ∃ z, z = xorL 54 k ++ L.flatten := ⟨_, rfl⟩
            rw [← hzi] at R3
            have HZ := Lib.hid (show zi.length = p ∧ B8s zi ∧ zi = xorL 54 k ++ L.flatten ∧ p ≤ c9 ∧ c9 ≤ 9223372036854775807 from by
              obtain ⟨A', c', e1, h1, h2⟩ := own_shape R3.out.1.o
              injection e1 with _ _ e1
              subst e1
              unfold maxLen at h2
              refine ⟨(Sb.own R3.out.1.o).len, ?_, hzi, h1, h2⟩
              rw [hzi]
              intro z hz
              rcases List.mem_append.1 hz with hz | hz
              · exact xorL_b (by omega) HK.out.2.1 z hz
              · exact flat_b (fun l hl => by
                  obtain ⟨q, hq, rfl⟩ := List.getElem_of_mem hl
                  obtain ⟨_, _, hel⟩ := H.out.2.2.2.1.at_ (by rw [← H.out.2.2.2.1.len]; omega)
                  obtain ⟨_, _, _, _, _, _, _, h8⟩ := hel.2 q (by rw [← H.out.2.2.2.1.len]; exact hq)
                  rwa [List.getD, List.getElem?_eq_getElem hq] at h8) z hz)
            have b4 : Below wr.heap.size wr (wr.alloc (.cells #[.slice A9 p c9] 22)) := (Below.refl _ _).alloc (Nat.le_refl _) _
            refine (refSum_any (n := 1) (L := [zi]) _ ?hp (by have h1 := R3.out.2; have h2 := H.out.2.2.2.2.1; have h3 := HZ.out.1; simp; omega) (by omega)).mono ?_
            case hp =>
              have hnew := heap_alloc_new wr (.cells #[.slice A9 p c9] 22)
              refine Ps.of rfl (fun _ => lt_of_block hnew) fun q hq => ?_
              obtain rfl : q = 0 := by omega
              exact ⟨A9, p, c9, (cell_of_row _ wr.heap.size 0 _ _ _ hnew).trans rfl, (Sb.own R3.out.1.o).below b4, HZ.out.2.2.2.1, HZ.out.2.2.2.2, HZ.out.2.1⟩
            rintro e w4 ⟨rfl, hb4⟩
            rw [show ([zi] : List (List Int)).flatten = zi by simp]
            obtain ⟨s, hs⟩ : ∃ s, s = shaS zi := ⟨_, rfl⟩
            rw [← hs]
            have HS := Lib.hid (show s.length = 32 ∧ B8s s ∧ s = shaS (xorL 54 k ++ L.flatten) from ⟨by rw [hs]; exact shaS_len _, by rw [hs]; exact shaS_b _, by rw [hs, hzi]⟩)
            have R4 := Lib.hid (show RS w w4 46 71 (u8A (List.replicate 32 0)) (u8A k) A10 jo c10 (xorL 92 k) none 0 0 [] ∧ (∀ b, A10.map (·.block) = some b → b < w4.heap.size) from by
              have h1 := (R3.out.1.swap.below b4).below hb4
              refine ⟨⟨h1.o, World.ownsRow_nil _ _ _ _, (fun b _ e => by cases e), h1.b0, h1.b1, h1.bel⟩, fun b e => (h1.o.lt b (by rw [mownBlock_map]; exact e)).2⟩)
            clear hs hzi hb4 b4 R3 HZ
            have hn4 : Hid (Blk (w4.alloc (.cells (u8A (List.replicate 32 0)) 46)) w4.heap.size 46 (u8A (List.replicate 32 0))) := Blk.new _ _ _
            go_wp2_with (refine wpList_store_row rfl 46 (.tmp 13) (.tmp 77) rfl w4.heap.size (u8A s) rfl rfl 46 (u8A (List.replicate 32 0)) hn4.out (by rw [u8A_size, HS.out.1]; exact info32) (by rw [u8A_size, u8A_size, HS.out.1]; simp) (u8A_one _) ?_)
            go_loopw [10, 14] (fun v10 i wr => ∃ (t p c10 : Nat) (A10 : Option Addr), t ≤ 32 ∧ i = .int .i64 t ∧ v10 = .slice A10 p c10 ∧ p = 64 + t ∧
              RS w wr 46 71 (u8A (List.replicate 32 0)) (u8A k) A10 p c10 (xorL 92 k ++ s.take t) none 0 0 [] ∧ Blk wr w4.heap.size 46 (u8A s) ∧ (∀ b, A10.map (·.block) = some b → b ≠ w4.heap.size)) (fun _ i _ => 32 - (intOf i).toNat)
            case atStart =>
              have hb5 : Below w4.heap.size w4 ((w4.alloc (.cells (u8A (List.replicate 32 0)) 46)).setRow w4.heap.size (u8A s)) := below_setRow ((Below.refl _ _).alloc (Nat.le_refl _) _) (Nat.le_refl _) _
              exact ⟨0, jo, c10, A10, by omega, rfl, rfl, by rw [HJ.out], by rw [List.take_zero, List.append_nil]; exact R4.out.1.below hb5, hn4.out.setRow _, fun b e => by have := R4.out.2 b e; omega⟩
            case round =>
              clear hn4
              obtain ⟨t, p, c10, A10, ht, rfl, rfl, hp, hrs, hsb, hneb⟩ := hrel
              have R := Lib.hid (show RS w wr 46 71 (u8A (List.replicate 32 0)) (u8A k) A10 p c10 (xorL 92 k ++ s.take t) none 0 0 [] ∧ Blk wr w4.heap.size 46 (u8A s) ∧ (∀ b, A10.map (·.block) = some b → b ≠ w4.heap.size) ∧ p = 64 + t from ⟨hrs, hsb, hneb, hp⟩)
              have hp96 : p ≤ 96 := by omega
              clear hneb hp
              by_cases hlt : t < 32
              · have htl : (t : Int) < 32 := by omega
                obtain ⟨y, hy⟩ : ∃ y, y = s.getD t 0 := ⟨_, rfl⟩
                have c1 := hsb.cell8 (k := t) (by rw [HS.out.1]; exact hlt)
                rw [← hy] at c1
                have hsz := hrs.size
                have HY := Lib.hid (show s.take (t + 1) = s.take t ++ [y] from by
                  rw [hy, List.take_succ_eq_append_getElem (by rw [HS.out.1]; exact hlt), getD_lt (by rw [HS.out.1]; exact hlt)])
                have RA := Lib.hid (hrs.below ((Below.refl _ _).alloc (Nat.le_refl _) (.cells #[.int .u8 y] 5)))
                clear hrs hsb hy
                go_wp2_with (at_builtin; refine wpList_mappv _ rfl (.tmp 82) (.tmp 86) 22 rfl (w.heap.size + 2) 5 Tryd.underlying22 info8 (.slice A10 p c10) p _ rfl RA.out.o (some ⟨wr.heap.size, 0, none⟩) 1 1 [y] rfl (Sb.one _ _ _) (by omega) (by simp; omega) ?_; intro A5 c5 w5 ho5 hg5 hw5; have R5 := Lib.hid (show RS w w5 46 71 (u8A (List.replicate 32 0)) (u8A k) A5 (p + 1) c5 ((xorL 92 k ++ s.take t) ++ [y]) none 0 0 [] ∧ Blk w5 w4.heap.size 46 (u8A s) ∧ (∀ b, A5.map (·.block) = some b → b ≠ w4.heap.size) from ⟨RA.out.app (by rw [List.map_append]; exact ho5) hg5 hw5, (by have hb := R.out.2.1; exact (hg5.block _ (by have := hb.lt; simp; omega) (fun e => by rw [mownBlock_map] at e; exact R.out.2.2.1 _ e.symm rfl)).trans (hb.alloc _)), (by rw [mownBlock_map] at hw5; intro b e; rcases hw5 with hw | hw; exact R.out.2.2.1 b (hw ▸ e); (have h1 := R.out.2.1.lt; rw [hw] at e; injection e with e; simp at e; omega))⟩); clear ho5 hg5 hw5)
                go_roundw
                case rel => exact ⟨t + 1, p + 1, c5, A5, by omega, by go_num, rfl, by have := R.out.2.2.2; omega, by rw [HY.out, ← List.append_assoc]; exact R5.out.1, R5.out.2.1, R5.out.2.2⟩
                case measure => simp [intOf]; omega
              · have hge : (32 : Int) ≤ (t : Int) := by omega
                have hdj : decide ((t : Int) < 32) = false := by simpa using hge
                obtain ⟨zo, hzo⟩ : ∃ z, z = xorL 92 k ++ s := ⟨_, rfl⟩
                have R6 := Lib.hid (show RS w wr 46 71 (u8A (List.replicate 32 0)) (u8A k) A10 p c10 zo none 0 0 [] from by
                  have e : s.take t = s := List.take_of_length_le (by rw [HS.out.1]; omega)
                  have h1 := hrs
                  rw [e, ← hzo] at h1
                  exact h1)
                have HZ := Lib.hid (show zo.length = p ∧ B8s zo ∧ zo = xorL 92 k ++ s ∧ p ≤ c10 ∧ c10 ≤ 9223372036854775807 from by
                  obtain ⟨A', c', e1, h1, h2⟩ := own_shape R6.out.o
                  injection e1 with _ _ e1
                  subst e1
                  unfold maxLen at h2
                  refine ⟨(Sb.own R6.out.o).len, ?_, hzo, h1, h2⟩
                  rw [hzo]
                  intro z hz
                  rcases List.mem_append.1 hz with hz | hz
                  · exact xorL_b (by omega) HK.out.2.1 z hz
                  · exact HS.out.2.1 z hz)
                clear hrs hsb R hlt ht hzo
                go_wp2_with fail
                clear hge hdj
                have b5 : Below wr.heap.size wr (wr.alloc (.cells #[.slice A10 p c10] 22)) := (Below.refl _ _).alloc (Nat.le_refl _) _
                refine (refSum_any (n := 1) (L := [zo]) _ ?hq (by have h3 := HZ.out.1; simp; omega) (by omega)).mono ?_
                case hq =>
                  have hnew := heap_alloc_new wr (.cells #[.slice A10 p c10] 22)
                  refine Ps.of rfl (fun _ => lt_of_block hnew) fun q hq => ?_
                  obtain rfl : q = 0 := by omega
                  exact ⟨A10, p, c10, (cell_of_row _ wr.heap.size 0 _ _ _ hnew).trans rfl, (Sb.own R6.out.o).below b5, HZ.out.2.2.2.1, HZ.out.2.2.2.2, HZ.out.2.1⟩
                rintro e w7 ⟨rfl, hb7⟩
                rw [show ([zo] : List (List Int)).flatten = zo by simp]
                obtain ⟨r, hr⟩ : ∃ r, r = shaS zo := ⟨_, rfl⟩
                rw [← hr]
                have HR := Lib.hid (show r.length = 32 ∧ r = macS key L.flatten from ⟨by rw [hr]; exact shaS_len _, by rw [hr, HZ.out.2.2.1, HS.out.2.2, HK.out.2.2]; rfl⟩)
                have R7 := Lib.hid ((R6.out.below b5).below hb7)
                clear hr hb7 b5 R6 HZ
                go_wp2_with (refine wpList_store_row rfl 46 (.tmp 4) (.tmp 90) rfl w.heap.size (u8A r) rfl rfl 46 (u8A (List.replicate 32 0)) R7.out.b0 (by rw [u8A_size, HR.out.1]; exact info32) (by rw [u8A_size, u8A_size, HR.out.1]; simp) (u8A_one _) ?_)
                refine bodyPost_ret (v := .agg (u8A r)) (results_cell_row Tryd.results36 _ _ w.heap.size 46 _ (0, 0) _ rfl (R7.out.b0.setRow _) Tryd.underlying46 rfl (by rw [u8A_size, HR.out.1]; exact info32)) rfl ⟨by rw [HR.out.2], below_setRow R7.out.bel (Nat.le_refl _) _⟩

end Go.Proofs.YtogaakokplobaaaDoor
