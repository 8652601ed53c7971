/-
  The contracts of the reference's Told and Derive.
-/
import Derived.Test.YtogaakokplobaaaDoorMacStr
import Derived.Test.YtogaakokplobaaaDoorMacRef
namespace Go.Proofs.YtogaakokplobaaaDoor
open Go.RowKit

theorem infoU8 : ∃ i, Tryd.prog.info? 5 = some i ∧ i.zero = some (.int .u8 0) ∧ i.size = 1 ∧ i.bytes = 1 := by
  obtain ⟨i, h1, h2, h3, h4⟩ := info_parts info8
  exact ⟨i, h1, h2, h3, h4⟩

set_option maxRecDepth 100000 in
set_option maxHeartbeats 1600000 in
theorem refTold_any {s : ByteArray} {B : Option Addr} {m d : Nat} {L : List (List Int)} (w : World) (hp : Ps w B m L) (hs : s.size ≤ 16384) (hl : m + L.flatten.length ≤ 16384) :
    Calls Tryd.prog 40 #[.string s, .slice B m d] w fun e w' => ∃ v, e = .returned v ∧ Made 5 (toldS (strL s) L) w v w' := by
  obtain ⟨i0, hi, hz0, hz1, hz2⟩ := infoU8
  have H := Lib.hid (show Ps w B m L ∧ m + L.flatten.length ≤ 16384 ∧ (∀ j, (toldK (strL s) L j).length ≤ 200000) from ⟨hp, hl, fun j => by
    have h1 := toldK_len (strL s) L j
    have h2 := strL_len s
    have h3 := hp.len
    omega⟩)
  have hm0 : m ≤ 16384 := by omega
  clear hp hl
  have hvar := Lib.hid (refVar_any (s.size : Int) w (by omega) (by omega))
  go_enter Tryd.func40, Tryd.ntmps40
  go_wp2_with fail
  refine hvar.out.mono ?_
  rintro e w1 ⟨v1, rfl, A1, n1, c1, rfl, hm1⟩
  have HM1 := Lib.hid hm1
  have HN1 := Lib.hid (show n1 ≤ 10 from by have h1 := hm1.len; have h2 := varL_len (s.size : Int); omega)
  clear hm1 hvar
  go_wp2_with (refine Lib.wpList_append_own_string _ rfl (.tmp 11) (.tmp 12) 22 9 rfl w.heap.size 5 i0 Tryd.underlying22 Tryd.underlying9 hi hz0 hz1 hz2 (.slice A1 n1 c1) n1 _ rfl HM1.out.own s rfl (by have := HN1.out; unfold maxLen; omega) (by have := HN1.out; omega) HM1.out.below.size ?_; intro v2 w2 hown2 hg2 _; have H2 := Lib.hid (And.intro hown2 hg2); clear hown2 hg2)
  obtain ⟨A2, c2, rfl, _⟩ := own_shape H2.out.1
  have X2 := Lib.hid (show w2.ownsRow w.heap.size 5 1 (.slice A2 (n1 + s.size) c2) (n1 + s.size) ((toldK (strL s) L 0).map (Value.int .u8)) ∧ Below w.heap.size w w2 from by
    refine ⟨?_, below_app0 HM1.out.own HM1.out.below HM1.out.below.size H2.out.2⟩
    rw [toldK_zero, List.map_append, strL_len]
    have h1 := H2.out.1
    rw [strL_cells] at h1
    exact h1)
  clear H2 HM1
  go_wp2_with fail
  go_loopw [5, 6] (fun v5 i wr => ∃ (j p c5 : Nat) (A5 : Option Addr), j ≤ m ∧ i = .int .i64 j ∧ v5 = .slice A5 p c5 ∧ wr.ownsRow w.heap.size 5 1 (.slice A5 p c5) p ((toldK (strL s) L j).map (Value.int .u8)) ∧ Below w.heap.size w wr) (fun _ i _ => m - (intOf i).toNat)
  case atStart => exact ⟨0, n1 + s.size, c2, A2, Nat.zero_le _, rfl, rfl, X2.out.1, X2.out.2⟩
  case round =>
    clear X2
    obtain ⟨j, p, c5, A5, hj, rfl, rfl, hown, hbel⟩ := hrel
    have X := Lib.hid (show wr.ownsRow w.heap.size 5 1 (.slice A5 p c5) p ((toldK (strL s) L j).map (Value.int .u8)) ∧ Below w.heap.size w wr ∧ p ≤ 200000 from ⟨hown, hbel, by
      have h1 := H.out.2.2 j
      have h2 := hown.1
      simp at h2
      omega⟩)
    clear hown hbel
    by_cases hlt : j < m
    · have hjl : (j : Int) < (m : Int) := by omega
      obtain ⟨ad, rfl, hblt, hat⟩ := H.out.1.at_ (by omega)
      obtain ⟨A', m', c', hc, hsb, _, _, _⟩ := hat j hlt
      have hjL : j < L.length := by rw [H.out.1.len]; exact hlt
      have hcell := (X.out.2.1.cell (p := ad.add j) (by rw [addBlock]; exact hblt)).trans hc
      have HS := Lib.hid (show Sb w A' m' (L.getD j []) ∧ toldK (strL s) L (j + 1) = (toldK (strL s) L j ++ varL (m' : Int)) ++ L.getD j [] ∧ w.cell? (ad.add j) = some (.slice A' m' c') ∧ ad.block < w.heap.size from ⟨hsb, by rw [toldK_snoc _ hjL, hsb.len], hc, hblt⟩)
      have hm' : m' ≤ 16384 := by
        have h1 := flat_take hjL
        have h2 := flat_take_le L (j + 1)
        have h3 := H.out.2.1
        have h4 := hsb.len
        omega
      have hvar := Lib.hid (refVar_any (m' : Int) wr (by omega) (by omega))
      clear hsb hat hblt hc hjL
      go_wp2_with fail
      refine hvar.out.mono ?_
      rintro e w3 ⟨v3, rfl, A3, n3, c3, rfl, hm3⟩
      have X3 := Lib.hid (show w3.ownsRow w.heap.size 5 1 (.slice A5 p c5) p ((toldK (strL s) L j).map (Value.int .u8)) ∧ Below w.heap.size w w3 ∧ Sb w3 A3 n3 (varL (m' : Int)) ∧ n3 ≤ 10 from
        ⟨own_belowS X.out.1 hm3.below, X.out.2.1.trans (hm3.below.mono X.out.2.1.size), hm3.sb, by have h1 := hm3.len; have h2 := varL_len (m' : Int); omega⟩)
      have hn3 : n3 ≤ 10 := X3.out.2.2.2
      have hp2 : p ≤ 200000 := X.out.2.2
      clear hm3 hvar hcell
      go_wp2_with (first
        | (at_builtin; refine wpList_app _ rfl (.tmp 20) (.tmp 27) 22 rfl w.heap.size 5 Tryd.underlying22 info8 (.slice A5 p c5) p _ rfl X3.out.1 A3 n3 c3 _ rfl X3.out.2.2.1 (by omega) X3.out.2.1.size ?_; intro A6 c6 w6 hown6 hg6; have X6 := Lib.hid (show w6.ownsRow w.heap.size 5 1 (.slice A6 (p + n3) c6) (p + n3) ((toldK (strL s) L j ++ varL (m' : Int)).map (Value.int .u8)) ∧ Below w.heap.size w w6 from ⟨by rw [List.map_append]; exact hown6, below_app0 X3.out.1 X3.out.2.1 X3.out.2.1.size hg6⟩); have hcell6 := (X6.out.2.cell (p := ad.add j) (by rw [addBlock]; exact HS.out.2.2.2)).trans HS.out.2.2.1; have HS6 := Lib.hid (HS.out.1.below X6.out.2); clear hown6 hg6)
        | (at_builtin; refine wpList_app _ rfl (.tmp 29) (.tmp 33) 22 rfl w.heap.size 5 Tryd.underlying22 info8 (.slice A6 (p + n3) c6) (p + n3) _ rfl X6.out.1 A' m' c' _ rfl HS6.out (by omega) X6.out.2.size ?_; intro A7 c7 w7 hown7 hg7; have X7 := Lib.hid (show w7.ownsRow w.heap.size 5 1 (.slice A7 (p + n3 + m') c7) (p + n3 + m') ((toldK (strL s) L (j + 1)).map (Value.int .u8)) ∧ Below w.heap.size w w7 from ⟨by rw [HS.out.2.1, List.map_append]; exact hown7, below_app0 X6.out.1 X6.out.2 X6.out.2.size hg7⟩); clear hown7 hg7 hcell6))
      go_roundw
      case rel => exact ⟨j + 1, p + n3 + m', c7, A7, by omega, by go_num, rfl, X7.out.1, X7.out.2⟩
      case measure => simp [intOf]; omega
    · obtain rfl : j = m := by omega
      have HF := Lib.hid (show Made 5 (toldS (strL s) L) w (.slice A5 p c5) wr from by
        have e : toldK (strL s) L j = toldS (strL s) L := by rw [← H.out.1.len]; exact toldK_all _ _
        have h1 := X.out.1
        rw [e] at h1
        exact Made.mk h1 X.out.2.1)
      clear X hlt hj
      go_wp2_with fail
      go_ret
      exact ⟨_, rfl, HF.out⟩

set_option maxRecDepth 100000 in
set_option maxHeartbeats 1600000 in
theorem refDerive_any {A : Option Addr} {n c : Nat} {key : List Int} {s : ByteArray} {B : Option Addr} {m d : Nat} {L : List (List Int)} (w : World) (hk : Sb w A n key) (h8 : B8s key) (hc : n ≤ c ∧ c ≤ 9223372036854775807) (hn : n ≤ 1125899906842)
    (hp : Ps w B m L) (hpb : ∀ l ∈ L, B8s l) (hs : s.size ≤ 16384) (hl : m + L.flatten.length ≤ 16384) :
    Calls Tryd.prog 32 #[.slice A n c, .string s, .slice B m d] w fun e w' => e = .returned (.agg (u8A (macS key (toldS (strL s) L)))) ∧ Below w.heap.size w w' := by
  have H := Lib.hid (show Sb w A n key ∧ B8s key ∧ (n ≤ c ∧ c ≤ 9223372036854775807) ∧ Ps w B m L ∧ (toldS (strL s) L).length ≤ 200000 ∧ B8s (toldS (strL s) L) from ⟨hk, h8, hc, hp, by
    have h1 := toldS_len (strL s) L
    have h2 := strL_len s
    have h3 := hp.len
    omega, by
    intro z hz
    unfold toldS at hz
    rcases List.mem_append.1 hz with hz | hz
    · rcases List.mem_append.1 hz with hz | hz
      · exact varL_b ⟨by omega, by rw [strL_len]; omega⟩ z hz
      · exact strL_b s z hz
    · obtain ⟨l, hl1, hz⟩ := List.mem_flatten.1 hz
      obtain ⟨x, hx, rfl⟩ := List.mem_map.1 hl1
      rcases List.mem_append.1 hz with hz | hz
      · refine varL_b ⟨by omega, ?_⟩ z hz
        have h4 : x.length ≤ L.flatten.length := (List.sublist_flatten_of_mem hx).length_le
        omega
      · exact hpb x hx z hz⟩)
  have HT : Hid (∀ w1, Below w.heap.size w w1 → Calls Tryd.prog 40 #[.string s, .slice B m d] w1 fun e w' => ∃ v, e = .returned v ∧ Made 5 (toldS (strL s) L) w1 v w') := by
    show ∀ w1, _
    intro w1 hb
    exact refTold_any w1 (Ps.below H.out.2.2.2.1 hb) hs hl
  clear hk h8 hc hp hpb
  go_enter Tryd.func32, Tryd.ntmps32
  go_wp2_with fail
  obtain ⟨w0, hw0⟩ : ∃ w0, w0 = w.alloc (.cells (u8A (List.replicate 32 0)) 46) := ⟨_, rfl⟩
  have H0 : Hid (Blk w0 w.heap.size 46 (u8A (List.replicate 32 0)) ∧ Below w.heap.size w w0) := by
    rw [hw0]
    exact Lib.hid ⟨Blk.new _ _ _, (Below.refl _ _).alloc (Nat.le_refl _) _⟩
  have hw0' : w0 = w.alloc (.cells #[Value.int .u8 0, Value.int .u8 0, Value.int .u8 0, Value.int .u8 0, Value.int .u8 0, Value.int .u8 0, Value.int .u8 0, Value.int .u8 0, Value.int .u8 0, Value.int .u8 0, Value.int .u8 0, Value.int .u8 0, Value.int .u8 0, Value.int .u8 0, Value.int .u8 0, Value.int .u8 0, Value.int .u8 0, Value.int .u8 0, Value.int .u8 0, Value.int .u8 0, Value.int .u8 0, Value.int .u8 0, Value.int .u8 0, Value.int .u8 0, Value.int .u8 0, Value.int .u8 0, Value.int .u8 0, Value.int .u8 0, Value.int .u8 0, Value.int .u8 0, Value.int .u8 0, Value.int .u8 0] 46) := hw0
  rw [← hw0']
  clear hw0 hw0'
  refine (HT.out w0 H0.out.2).mono ?_
  rintro e w1 ⟨v, rfl, A1, n1, c1, rfl, hm1⟩
  obtain ⟨tl, htl⟩ : ∃ t, t = toldS (strL s) L := ⟨_, rfl⟩
  rw [← htl] at hm1 H
  have HTL := Lib.hid htl
  have X1 := Lib.hid (show Blk w1 w.heap.size 46 (u8A (List.replicate 32 0)) ∧ Below w.heap.size w w1 ∧ Sb w1 A1 n1 tl ∧ (n1 ≤ c1 ∧ c1 ≤ 9223372036854775807) from
    ⟨H0.out.1.below hm1.below H0.out.1.lt, H0.out.2.trans (hm1.below.mono H0.out.2.size), hm1.sb, hm1.le, by have := hm1.max; unfold maxLen at this; omega⟩)
  clear hm1 H0 HT htl
  have B2 := Lib.hid (show Below w1.heap.size w1 (w1.alloc (.cells #[.slice A1 n1 c1] 22)) from (Below.refl _ _).alloc (Nat.le_refl _) _)
  have HC := Lib.hid (refCode_any (c := c) (d := 1) (m := 1) (L := [tl]) (B := some ⟨w1.heap.size, 0, none⟩) (w1.alloc (.cells #[.slice A1 n1 c1] 22)) ((H.out.1.below X1.out.2.1).below B2.out) H.out.2.1 H.out.2.2.1 hn (by
    have hnew := heap_alloc_new w1 (.cells #[.slice A1 n1 c1] 22)
    refine Ps.of rfl (fun _ => lt_of_block hnew) fun q hq => ?_
    obtain rfl : q = 0 := by omega
    exact ⟨A1, n1, c1, (cell_of_row _ w1.heap.size 0 _ _ _ hnew).trans rfl, X1.out.2.2.1.below B2.out, X1.out.2.2.2.1, X1.out.2.2.2.2, H.out.2.2.2.2.2⟩) (by omega) (by have := H.out.2.2.2.2.1; simp; omega))
  rw [show ([tl] : List (List Int)).flatten = tl by simp] at HC
  obtain ⟨r, hr⟩ : ∃ r, r = macS key tl := ⟨_, rfl⟩
  rw [← hr] at HC
  have HR := Lib.hid (show r.length = 32 ∧ r = macS key tl from ⟨by rw [hr]; exact macS_len _ _, hr⟩)
  clear hr
  go_wp2_with fail
  refine HC.out.mono ?_
  rintro e w3 ⟨rfl, hb3⟩
  have X3 := Lib.hid (show Blk w3 w.heap.size 46 (u8A (List.replicate 32 0)) ∧ Below w.heap.size w w3 from by
    have b := B2.out.trans (hb3.mono B2.out.size)
    exact ⟨X1.out.1.below b X1.out.1.lt, X1.out.2.1.trans (b.mono X1.out.2.1.size)⟩)
  clear hb3 HC B2 X1
  go_wp2_with (refine wpList_store_row rfl 46 (.tmp 6) (.tmp 12) rfl w.heap.size (u8A r) rfl rfl 46 (u8A (List.replicate 32 0)) X3.out.1 (by rw [u8A_size, HR.out.1]; exact info32) (by rw [u8A_size, u8A_size, HR.out.1]; simp) (u8A_one _) ?_)
  refine bodyPost_ret (v := .agg (u8A r)) (results_cell_row Tryd.results32 _ _ w.heap.size 46 _ (0, 0) _ rfl (X3.out.1.setRow _) Tryd.underlying46 rfl (by rw [u8A_size, HR.out.1]; exact info32)) rfl ⟨by rw [HR.out.2, HTL.out], below_setRow X3.out.2 (Nat.le_refl _) _⟩

end Go.Proofs.YtogaakokplobaaaDoor
