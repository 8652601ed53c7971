/-
  The contract of the reference's Sum.
-/
import Derived.Test.YtogaakokplobaaaDoorShaBlock
import Derived.Test.YtogaakokplobaaaDoorShaPad
import Derived.Test.YtogaakokplobaaaDoorShaRefOut
import Derived.Laws.OwnMore
import Derived.Maps.RangeWalk
import Derived.Test.YtogaakokplobaaaDoorShaStill
namespace Go.Proofs.YtogaakokplobaaaDoor
open Go.RowKit

theorem built27 : Tryd.prog.built 46 [] = some (u8A (List.replicate 32 0)) := by kernel_rfl
theorem padS_b {zs : List Int} (h : B8s zs) : B8s (padS zs) := fun z hz => by
  simp only [padS, List.mem_append, List.mem_cons] at hz
  rcases hz with (hz | hz | hz) | hz
  · exact h z hz
  · subst hz; omega
  · have := List.eq_of_mem_replicate hz; omega
  · exact lenB_b _ z hz
theorem flat_b {L : List (List Int)} (h : ∀ l ∈ L, B8s l) : B8s L.flatten := fun z hz => by
  obtain ⟨l, hl, hzl⟩ := List.mem_flatten.1 hz
  exact h l hl z hzl

set_option maxRecDepth 100000 in
set_option maxHeartbeats 3200000 in
theorem refSum_any {A : Option Addr} {n c : Nat} {L : List (List Int)} (w : World) (hp : Ps w A n L) (hl : L.flatten.length ≤ 1125899906842) (hn : n ≤ 9223372036854775807) :
    Calls Tryd.prog 44 #[.slice A n c] w fun e w' => e = .returned (.agg (u8A (shaS L.flatten))) ∧ Below w.heap.size w w' := by
  have H := Lib.hid (And.intro hp hl)
  clear hp hl
  have hw0 : (w.alloc (.cells (u8A (List.replicate 32 0)) 46)).heap.size = w.heap.size + 1 := by simp
  go_enter Tryd.func44, Tryd.ntmps44
  go_wp2_with fail
  go_loopw [3, 4] (fun v3 i wr => ∃ (k m c3 : Nat) (A3 : Option Addr), k ≤ n ∧ i = .int .i64 k ∧ v3 = .slice A3 m c3 ∧ m = (L.take k).flatten.length ∧ wr.ownsRow (w.heap.size + 1) 5 1 (.slice A3 m c3) m ((L.take k).flatten.map (Value.int .u8)) ∧ Blk wr w.heap.size 46 (u8A (List.replicate 32 0)) ∧ Below w.heap.size w wr) (fun _ i _ => n - (intOf i).toNat)
  case atStart =>
    refine ⟨0, 0, 0, _, Nat.zero_le _, rfl, rfl, rfl, ?_, (Blk.new _ _ _).alloc _, ((Below.refl _ _).alloc (Nat.le_refl _) _).alloc (by simp) _⟩
    have h1 := World.ownsRow_lit (base := w.heap.size + 1) (e := 5) (size := 1) (w.alloc (.cells (u8A (List.replicate 32 0)) 46)) #[] 0 (by rw [hw0]; exact Nat.le_refl _) (by unfold maxLen; omega) rfl
    rw [hw0] at h1
    exact h1
  case round =>
    obtain ⟨k, m, c3, A3, hk, rfl, rfl, hm, hown, hres, hbel⟩ := hrel
    have X := Lib.hid (And.intro hown (And.intro hres hbel))
    have HM := Lib.hid hm
    clear hown hres hbel hm
    by_cases hlt : k < n
    · have hkl : (k : Int) < (n : Int) := by omega
      obtain ⟨ad, rfl, hblt, hel⟩ := H.out.1.at_ (by omega)
      obtain ⟨A', m', c', hc, hsb, hmc, hcm, hb8⟩ := hel k hlt
      have hcell := (X.out.2.2.cell (p := ad.add k) (by rw [addBlock]; exact hblt)).trans hc
      have HS := Lib.hid (And.intro (hsb.below X.out.2.2) hsb.len)
      have XL := Lib.hid (show (L.take (k + 1)).flatten = (L.take k).flatten ++ L.getD k [] from by
        have hkL : k < L.length := by rw [H.out.1.len]; exact hlt
        rw [List.take_succ_eq_append_getElem hkL, List.flatten_append]
        simp [List.getD, List.getElem?_eq_getElem hkL])
      have hml : m + m' ≤ 1125899906842 := by
        have h1 := congrArg List.length XL.out
        simp only [List.length_append] at h1
        have h3 : (L.take (k + 1)).flatten.length ≤ L.flatten.length := by
          have h4 := congrArg (fun l => l.flatten.length) (List.take_append_drop (k + 1) L)
          simp only [List.flatten_append, List.length_append] at h4
          omega
        have h5 := H.out.2
        have h6 := HM.out
        have h7 := HS.out.2
        omega
      clear hsb hb8 hel hblt hc
      go_wp2_with (refine wpList_app _ rfl (.tmp 17) (.tmp 21) 22 rfl (w.heap.size + 1) 5 Tryd.underlying22 info8 (.slice A3 m c3) m _ rfl X.out.1 A' m' c' _ rfl HS.out.1 (by omega) (by have := X.out.2.1.lt; omega) ?_; intro A5 c5 w5 hown5 hg5; have H5 := Lib.hid (And.intro hown5 hg5); clear hown5 hg5)
      go_roundw
      case rel =>
        have h1 := H5.out.1
        rw [← List.map_append, ← XL.out] at h1
        have hbelow : Below (w.heap.size + 1) wr w5 := below_app0 X.out.1 (Below.refl _ _) (by have := X.out.2.1.lt; omega) H5.out.2
        refine ⟨k + 1, m + m', c5, A5, by omega, by go_num, rfl, ?_, h1, X.out.2.1.below hbelow (by omega), X.out.2.2.trans (hbelow.mono (by omega))⟩
        rw [XL.out, List.length_append, HM.out, HS.out.2]
      case measure => simp [intOf]; omega
    · have Y := Lib.hid (show wr.ownsRow (w.heap.size + 1) 5 1 (.slice A3 m c3) m (L.flatten.map (Value.int .u8)) ∧ Blk wr w.heap.size 46 (u8A (List.replicate 32 0)) ∧ Below w.heap.size w wr ∧ m ≤ 1125899906842 from by
        have e : L.take k = L := List.take_of_length_le (by rw [H.out.1.len]; omega)
        have h1 := X.out
        have h2 := HM.out
        have h3 := H.out.2
        rw [e] at h1 h2
        exact ⟨h1.1, h1.2.1, h1.2.2, by omega⟩)
      have hd : decide ((k : Int) < (n : Int)) = false := by simp; omega
      have hge : (n : Int) ≤ (k : Int) := by omega
      clear X HM hlt hk
      go_wp2_with fail
      refine (refPadded_any _ (Sb.own Y.out.1) Y.out.2.2.2).mono ?_
      rintro e w2 ⟨v, rfl, Ap, np, cp, rfl, hownp, hb2⟩
      clear hd hge
      obtain ⟨ps, hps⟩ : ∃ ps, ps = padS L.flatten := ⟨_, rfl⟩
      rw [← hps] at hownp
      have Z := Lib.hid (show Sb w2 Ap np ps ∧ np ≤ cp ∧ ps.length = np ∧ Blk w2 w.heap.size 46 (u8A (List.replicate 32 0)) ∧ Below w.heap.size w w2 from by
        obtain ⟨_, _, e3, h4, _⟩ := own_shape hownp
        have h5 : np ≤ cp := by injection e3 with _ _ e5; omega
        have h6 := (Sb.own hownp).len
        exact ⟨Sb.own hownp, h5, h6, Y.out.2.1.below hb2 Y.out.2.1.lt, Y.out.2.2.1.trans (hb2.mono Y.out.2.2.1.size)⟩)
      have HPS := Lib.hid hps
      have hpl := Lib.hid (show np % 64 = 0 ∧ np ≤ 1125899906971 from by
        have h1 := Z.out.2.2.1
        have h2 := padS_len L.flatten
        have h3 := H.out.2
        rw [← hps, h1] at h2
        constructor
        · omega
        · split at h2 <;> omega)
      clear hownp hb2 Y hps
      have hn6 : Hid (Blk (w2.alloc (.cells (u32A (List.replicate 8 0)) 77)) w2.heap.size 77 (u32A (List.replicate 8 0))) := Blk.new _ _ _
      go_wp2_with (first
        | (refine wpList_store_row rfl 77 (.tmp 6) (.tmp 25) rfl w2.heap.size (u32A iv) rfl rfl 77 (u32A (List.replicate 8 0)) hn6.out info37 rfl (u32A_one _) ?_))
      have HG := Lib.hid (show w.heap.size < w2.heap.size from Z.out.2.2.2.1.lt)
      go_loopw [7] (fun i wr => ∃ p : Nat, p ≤ np ∧ p % 64 = 0 ∧ i = .int .i64 p ∧ Blk wr w.heap.size 46 (u8A (List.replicate 32 0)) ∧ Blk wr w2.heap.size 77 (u32A (blkN ps (p / 64))) ∧ Below w2.heap.size w2 wr) (fun i _ => np - (intOf i).toNat)
      case atStart =>
        exact ⟨0, Nat.zero_le _, rfl, rfl, (Z.out.2.2.2.1.alloc _).otherRow _ (Nat.ne_of_lt HG.out), (Blk.new _ _ _).setRow _, below_setRow ((Below.refl _ _).alloc (Nat.le_refl _) _) (Nat.le_refl _) _⟩
      case round =>
        clear hn6
        obtain ⟨p, hp1, hp2, rfl, hres, hnow, hbel⟩ := hrel
        have X := Lib.hid (And.intro hres (And.intro hnow hbel))
        clear hres hnow hbel
        by_cases hlt : p < np
        · have hlt2 : (p : Int) < (np : Int) := by omega
          have hp64 : p + 64 ≤ np := by have := hpl.out.1; omega
          have hpm : np ≤ 1125899906971 := hpl.out.2
          have HP2 := Lib.hid hp2
          obtain ⟨V, hV⟩ : ∃ V, V = blkN ps (p / 64) := ⟨_, rfl⟩
          obtain ⟨blk, hblk⟩ : ∃ b, b = (ps.drop p).take 64 := ⟨_, rfl⟩
          obtain ⟨A6, hA6⟩ : ∃ A6, A6 = (if cp = p then Ap else Ap.map (·.add p)) := ⟨_, rfl⟩
          have hsl := fun w' => run_slice_both (P := Tryd.prog) w' 22 5 Ap np cp p ((p : Int) + 64) 64 Tryd.underlying22 size1 rfl (by have := Z.out.2.1; omega)
          rw [← hA6] at hsl
          rw [← hV] at X
          have HV := Lib.hid (show V.length = 8 ∧ U32s V ∧ blk.length = 64 ∧ B8s blk ∧ Sb wr A6 64 blk ∧ comp V blk = blkN ps ((p + 64) / 64) from by
            have h1 := ((Z.out.1.cut (c := cp) (k := p) hp1 Z.out.2.1).front (k := 64) (by omega)).below X.out.2.2
            rw [← hA6, ← hblk] at h1
            have hb : B8s ps := by rw [HPS.out]; exact padS_b (flat_b fun l hl => by
              obtain ⟨j, hj, rfl⟩ := List.getElem_of_mem hl
              obtain ⟨_, _, hel⟩ := H.out.1.at_ (by rw [← H.out.1.len]; omega)
              obtain ⟨_, _, _, _, _, _, _, h8⟩ := hel.2 j (by rw [← H.out.1.len]; exact hj)
              rwa [List.getD, List.getElem?_eq_getElem hj] at h8)
            refine ⟨by rw [hV]; exact blkN_len _ _, by rw [hV]; exact blkN_w _ _, by rw [hblk, List.length_take, List.length_drop, Z.out.2.2.1]; omega, by rw [hblk]; exact fun z hz => hb z (List.mem_of_mem_drop (List.mem_of_mem_take hz)), h1, ?_⟩
            have e1 : (p + 64) / 64 = p / 64 + 1 := by omega
            have e2 : 64 * (p / 64) = p := by omega
            rw [e1, hV, hblk]
            simp only [blkN, e2])
          clear hV hblk hA6 hp2 hlt
          go_wp2_with fail
          refine wp_region_still_tail 6 (by kernel_rfl) (by kernel_rfl) ?_
          change wpStill _ _ wr.drew (fun a' => wpList _ _ _ _ a' wr.drew) _ _
          have X2 := Lib.hid (show Blk wr.drew w.heap.size 46 (u8A (List.replicate 32 0)) ∧ Blk wr.drew w2.heap.size 77 (u32A V) ∧ Below w2.heap.size w2 wr.drew ∧ Sb wr.drew A6 64 blk from ⟨X.out.1.drew, X.out.2.1.drew, X.out.2.2.drew, HV.out.2.2.2.2.1.drew⟩)
          generalize wr.drew = w5 at X2 ⊢
          clear X
          refine wpStill_yields (S := fun w' => Blk w' w2.heap.size 77 (u32A V)) (yieldsIf_row (by rfl) 77 (.tmp 6) rfl w2.heap.size rfl 77 (u32A V) _ (fun _ h => h) Tryd.underlying77 rfl (by rw [u32A_size, HV.out.1]; exact info37)) X2.out.2.1 ?_
          go_frame
          refine wpStill_yields (S := fun _ => True) (yieldsIf_move (by rfl) (.tmp 5) rfl _ rfl) trivial ?_
          go_frame
          refine wpStill_yields (S := fun _ => True) (yieldsIf_move (by rfl) (.tmp 7) rfl _ rfl) trivial ?_
          go_frame
          refine wpStill_yields (S := fun _ => True) (yieldsIf_move (by rfl) (.tmp 7) rfl _ rfl) trivial ?_
          go_frame
          refine wpStill_yields (S := fun _ => True) (yieldsIf_add (by rfl) 3 3 (.tmp 35) (.const (.int .i64 64)) rfl (.int .i64 p) (.int .i64 64) (.int .i64 ((p : Int) + 64)) rfl rfl (run_add64 p (by omega))) trivial ?_
          go_frame
          refine wpStill_yields (S := fun _ => True) (yieldsIf_slice (by rfl) 22 (.tmp 33) (.tmp 34) (.tmp 36) rfl (.slice Ap np cp) (.int .i64 p) (.int .i64 ((p : Int) + 64)) (.slice A6 64 (cp - p)) rfl rfl rfl hsl) trivial ?_
          go_frame
          refine wpStill_nil ?_
          simp only [List.drop_succ_cons, List.drop_zero]
          clear hsl
          go_wp2_with fail
          refine (refBlock_any V blk A6 (cp - p) _ HV.out.1 HV.out.2.1 X2.out.2.2.2 HV.out.2.2.2.1).mono ?_
          rintro e w6 ⟨rfl, hb6⟩
          have H6 := Lib.hid (show Blk w6 w.heap.size 46 (u8A (List.replicate 32 0)) ∧ Blk w6 w2.heap.size 77 (u32A V) ∧ Below w2.heap.size w2 w6 from
            ⟨X2.out.1.below hb6 X2.out.1.lt, X2.out.2.1.below hb6 X2.out.2.1.lt, X2.out.2.2.1.trans (hb6.mono X2.out.2.2.1.size)⟩)
          clear hb6 X2
          go_wp2_with (refine wpList_store_row rfl 77 (.tmp 6) (.tmp 38) rfl w2.heap.size (u32A (comp V blk)) rfl rfl 77 (u32A V) H6.out.2.1 (by rw [u32A_size, comp_len]; exact info37) (by rw [u32A_size, u32A_size, comp_len, HV.out.1]) (u32A_one _) ?_)
          go_roundw
          case rel =>
            have hz := HG.out
            refine ⟨p + 64, hp64, by have := HP2.out; omega, by go_num, H6.out.1.otherRow _ (by omega), ?_, below_setRow H6.out.2.2 (Nat.le_refl _) _⟩
            rw [← HV.out.2.2.2.2.2]
            exact H6.out.2.1.setRow _
          case measure => simp [intOf]; omega
        · have hpe : p = np := by omega
          obtain ⟨V, hV⟩ : ∃ V, V = blkN ps (p / 64) := ⟨_, rfl⟩
          rw [← hV] at X
          have HV := Lib.hid (show V.length = 8 ∧ U32s V ∧ shaS L.flatten = outR V 8 from by
            refine ⟨by rw [hV]; exact blkN_len _ _, by rw [hV]; exact blkN_w _ _, ?_⟩
            rw [outR_all, shaS, ← HPS.out, Z.out.2.2.1, hV, hpe])
          have hge : (np : Int) ≤ (p : Int) := by omega
          have hn8 : Hid (Blk (wr.alloc (.cells (u8A (List.replicate 32 0)) 46)) wr.heap.size 46 (u8A (List.replicate 32 0))) := Blk.new _ _ _
          have HX := Lib.hid (show Blk wr w.heap.size 46 (u8A (List.replicate 32 0)) ∧ Blk wr w2.heap.size 77 (u32A V) ∧ Below w.heap.size w wr from ⟨X.out.1, X.out.2.1, Z.out.2.2.2.2.trans (X.out.2.2.mono Z.out.2.2.2.2.size)⟩)
          clear X hV hpe hp1 hp2 hlt
          go_wp2_with (first
            | (refine wpList_build0 rfl 46 rfl _ built27 ?_)
            | (refine wpList_store_row rfl 46 (.tmp 8) (.tmp 39) rfl wr.heap.size (u8A (List.replicate 32 0)) rfl rfl 46 (u8A (List.replicate 32 0)) hn8.out (by rw [u8A_size]; exact info32) rfl (u8A_one _) ?_))
          clear hge
          have HO := Lib.hid (show w.heap.size < wr.heap.size ∧ w2.heap.size < wr.heap.size from ⟨HX.out.1.lt, HX.out.2.1.lt⟩)
          obtain ⟨wo, rfl⟩ : ∃ wo : World, wo = wr := ⟨_, rfl⟩
          go_loopw [9] (fun i wq => ∃ t : Nat, t ≤ 8 ∧ i = .int .i64 t ∧ Blk wq w.heap.size 46 (u8A (List.replicate 32 0)) ∧ Blk wq w2.heap.size 77 (u32A V) ∧ Blk wq wo.heap.size 46 (u8A (outR V t)) ∧ Below w.heap.size w wq) (fun i _ => 8 - (intOf i).toNat)
          case atStart =>
            have h1 := HO.out
            exact ⟨0, by omega, rfl, (HX.out.1.alloc _).otherRow _ (by omega), (HX.out.2.1.alloc _).otherRow _ (by omega), (Blk.new _ _ _).setRow _, below_setRow (HX.out.2.2.alloc (by omega) _) (by omega) _⟩
          case round =>
            clear hn8 HX
            obtain ⟨t, ht, rfl, hres, hnow, hout, hbel⟩ := hrel
            have Y := Lib.hid (And.intro hres (And.intro hnow (And.intro hout hbel)))
            by_cases hlt : t < 8
            · have hkl : (t : Int) < 8 := by omega
              obtain ⟨x, hx⟩ : ∃ x, x = V.getD t 0 := ⟨_, rfl⟩
              have hxw : W1 x := by rw [hx]; exact HV.out.2.1.at _
              have c0 := hnow.cell32 (k := t) (by rw [HV.out.1]; exact hlt)
              rw [← hx] at c0
              have d0 := hout.cell8 (k := 4 * t) (by rw [outR_len]; omega)
              have d1 := hout.cell8 (k := 4 * t + 1) (by rw [outR_len]; omega)
              have d2 := hout.cell8 (k := 4 * t + 2) (by rw [outR_len]; omega)
              have d3 := hout.cell8 (k := 4 * t + 3) (by rw [outR_len]; omega)
              have f0 := hout.free (4 * t)
              have f1 := hout.free (4 * t + 1)
              have f2 := hout.free (4 * t + 2)
              have f3 := hout.free (4 * t + 3)
              have HXX := Lib.hid hx
              have hn1 : wo.heap.size ≠ w2.heap.size := by have := HO.out; omega
              have hn2 : w2.heap.size ≠ wo.heap.size := by have := HO.out; omega
              obtain ⟨x1, x2⟩ := hxw
              clear hres hnow hout hbel hx
              go_wp2_with fail
              go_roundw
              case rel =>
                have hz := HO.out
                have z1 : w.heap.size ≠ wo.heap.size := by omega
                have z2 : w2.heap.size ≠ wo.heap.size := by omega
                have z3 : w.heap.size ≤ wo.heap.size := by omega
                have e0 : x / 16777216 % 256 = x / 16777216 := by omega
                refine ⟨t + 1, by omega, by go_num, (((Y.out.1.other _ z1).other _ z1).other _ z1).other _ z1, (((Y.out.2.1.other _ z2).other _ z2).other _ z2).other _ z2, ?_, (((Y.out.2.2.2.setCell z3 _).setCell z3 _).setCell z3 _).setCell z3 _⟩
                have h := (((Y.out.2.2.1.set8 (4 * t) (x / 16777216)).set8 (4 * t + 1) (x / 65536 % 256)).set8 (4 * t + 2) (x / 256 % 256)).set8 (4 * t + 3) (x % 256)
                simp only [outR]
                rw [← HXX.out, e0]
                exact h
              case measure => simp [intOf]; omega
            · obtain rfl : t = 8 := by omega
              clear hres hnow hout hbel hlt ht
              go_wp2_with (first
                | (refine wpList_load_row rfl 46 (.tmp 8) rfl wo.heap.size rfl 46 (u8A (outR V 8)) (0, 0) _ Y.out.2.2.1 Tryd.underlying46 rfl (by rw [u8A_size, outR_len]; exact info32) ?_)
                | (refine wpList_store_row rfl 46 (.tmp 2) (.tmp 78) rfl w.heap.size (u8A (outR V 8)) rfl rfl 46 (u8A (List.replicate 32 0)) Y.out.1 (by rw [u8A_size, outR_len]; exact info32) (by rw [u8A_size, u8A_size, outR_len]; simp) (u8A_one _) ?_))
              refine bodyPost_ret (v := .agg (u8A (outR V 8))) (results_cell_row Tryd.results44 _ _ w.heap.size 46 _ (0, 0) _ rfl (Y.out.1.setRow _) Tryd.underlying46 rfl (by rw [u8A_size, outR_len]; exact info32)) rfl ⟨by rw [HV.out.2.2], below_setRow Y.out.2.2.2 (Nat.le_refl _) _⟩
end Go.Proofs.YtogaakokplobaaaDoor
