/-
  Proved: SealTurned answers true for all keys, headers, bodies, places and changes, over the table of roots that the program's text lays (a tied card).
-/
import Derived.Test.YtogaakokplobaaaDoorOpen
import Derived.Test.YtogaakokplobaaaDoorCards
import Derived.Test.YtogaakokplobaaaDoorTie
import Derived.SevenTiedAt
import Derived.Test.YtogaakokplobaaaDoorShaTab
import Derived.Test.YtogaakokplobaaaDoorSealHdEq
import Derived.Test.YtogaakokplobaaaDoorSealIn
import Derived.WalkKit
namespace Go.Proofs.YtogaakokplobaaaDoor.sealTurned
open Go.ChangeShapes Go.WideShapes Go.ChangeAt Go.RowKit

theorem xor8_ne {x r : Int} (hx : 0 ≤ x ∧ x ≤ 255) (hr : 1 ≤ r ∧ r ≤ 255) : bits .xor .u8 x r ≠ x := by
  rw [u8_xor x r hx.1 (by omega) (by omega) (by omega)]
  intro h
  have h1 : x.toNat ^^^ r.toNat = x.toNat := by omega
  have h2 := congrArg (x.toNat ^^^ ·) h1
  simp [← Nat.xor_assoc] at h2
  omega
theorem own_head {w : World} {base : Nat} {e : TypeId} {A : Option Addr} {n c : Nat} {xs : List Value} (h : w.ownsRow base e 1 (.slice A n c) n xs) (hn : 0 < n) : ∃ g, A = some ⟨g, 0, none⟩ := by
  rcases h.2 with ⟨h1, _⟩ | ⟨g, cap, cur, hv, _⟩
  · simp at h1
    omega
  · injection hv with hv
    exact ⟨g, hv⟩

set_option maxRecDepth 100000 in
set_option maxHeartbeats 6400000 in
/-- The walk. -/
theorem walk {A : Option Addr} {n c : Nat} {key : List Int} {h : Hd} {B : Option Addr} {m d : Nat} {zs : List Int} {at_ by_ : Int} (w : World) (hr : Roots w) (hs : Sb w A n key) (h8 : U8s key) (hn : n ≤ 140737488351232) (hc : n ≤ c ∧ c ≤ maxLen)
    (hok : HdOk h) (hs' : Sb w B m zs) (h8' : U8s zs) (hm : m ≤ 140737488351232) (hd : m ≤ d ∧ d ≤ maxLen) (hat : (Lit.int .u8 at_).wf = true) (hby : (Lit.int .u8 by_).wf = true) :
    Calls Tryd.prog 7 #[.slice A n c, .agg (hdA h), .slice B m d, .int .u8 at_, .int .u8 by_] w fun e w' => e = .returned (.bool true) ∧ Below w.heap.size w w' := by
  unfold maxLen at hc hd
  have H := Lib.hid (show Roots w ∧ Sb w A n key ∧ B8s key ∧ (n ≤ c ∧ c ≤ 9223372036854775807) ∧ Sb w B m zs ∧ B8s zs ∧ (m ≤ d ∧ d ≤ 9223372036854775807) ∧ HdOk h from ⟨hr, hs, h8, ⟨hc.1, by omega⟩, hs', h8', ⟨hd.1, by omega⟩, hok⟩)
  have hzl := hs'.len
  clear hr hs h8 hs' h8' hc hd hok
  obtain ⟨w0, hw0⟩ : ∃ w0, w0 = w.alloc (.cells (hdA h) 26) := ⟨_, rfl⟩
  have X0 := Lib.hid (show Below w.heap.size w w0 ∧ Blk w0 w.heap.size 26 (hdA h) from by rw [hw0]; exact ⟨(Below.refl _ _).alloc (Nat.le_refl _) _, Blk.new _ _ _⟩)
  by_cases hbig : (1000 : Int) < (n : Int)
  · go_enter Tryd.func7, Tryd.ntmps7
    go_wp2_with fail
    rw [← hw0]
    clear hw0
    refine (sealFixed_any _ (H.out.1.below X0.out.1)).mono ?_
    rintro e w1 ⟨rfl, hb1⟩
    have b1 := X0.out.1.trans (hb1.mono X0.out.1.size)
    go_wp2_with fail
    go_ret
    exact ⟨rfl, b1⟩
  by_cases hbig2 : (16384 : Int) < (m : Int)
  · go_enter Tryd.func7, Tryd.ntmps7
    go_wp2_with fail
    rw [← hw0]
    clear hw0
    refine (sealFixed_any _ (H.out.1.below X0.out.1)).mono ?_
    rintro e w1 ⟨rfl, hb1⟩
    have b1 := X0.out.1.trans (hb1.mono X0.out.1.size)
    go_wp2_with fail
    go_ret
    exact ⟨rfl, b1⟩
  have hb8 := bounds_u8 hby
  have ha8 := bounds_u8 hat
  clear hat hby
  by_cases he : (sealS key h zs).2 = 0
  · obtain ⟨hmay, hbl, hse⟩ := seal_fits he
    have HS := Lib.hid (show mayH h = true ∧ zs.length ≤ 512 ∧ sealS key h zs = (dgS key h zs, 0) from ⟨hmay, hbl, hse⟩)
    clear he hmay hse
    obtain ⟨k1, d1, e1, s1⟩ := h
    by_cases h0 : by_ = 0
    · subst h0
      clear hb8 ha8
      go_enter Tryd.func7, Tryd.ntmps7
      go_upto_region 3 with fail
      rw [← hw0]
      clear hw0
      go_wp2_with (refine wpList_load_row rfl 26 (.tmp 6) rfl w.heap.size rfl 26 (hdA ⟨k1, d1, e1, s1⟩) (0, 0) _ X0.out.2 Tryd.underlying26 rfl infoH ?_)
      refine (seal_any (c := c) (d := d) ⟨k1, d1, e1, s1⟩ H.out.2.2.2.2.2.2.2 w0 (H.out.1.below X0.out.1) (H.out.2.1.below X0.out.1) H.out.2.2.1 H.out.2.2.2.1 (by omega) (H.out.2.2.2.2.1.below X0.out.1) H.out.2.2.2.2.2.1 (by omega)).mono ?_
      rintro e w1 ⟨A1, n1, c1, rfl, hm1⟩
      rw [HS.out.2.2] at hm1 ⊢
      have Y1 := Lib.hid (show Below w.heap.size w w1 ∧ Blk w1 w.heap.size 26 (hdA ⟨k1, d1, e1, s1⟩) from ⟨X0.out.1.trans (hm1.below.mono X0.out.1.size), X0.out.2.below hm1.below X0.out.2.lt⟩)
      clear hm1 X0
      go_wp2_with fail
      refine (sealFixed_any _ (H.out.1.below Y1.out.1)).mono ?_
      rintro e w2 ⟨rfl, hbf⟩
      have Y2 := Lib.hid (show Below w.heap.size w w2 ∧ Blk w2 w.heap.size 26 (hdA ⟨k1, d1, e1, s1⟩) from ⟨Y1.out.1.trans (hbf.mono Y1.out.1.size), Y1.out.2.below hbf Y1.out.2.lt⟩)
      clear hbf Y1
      have bz := Y2.out.1
      clear Y2
      go_wp2_with fail
      go_ret
      exact ⟨rfl, bz⟩
    · have hne : (by_ == 0) = false := by simpa using h0
      obtain ⟨b1, b2⟩ := hb8
      have X0L := Lib.hid (show w.heap.size < w0.heap.size from X0.out.2.lt)
      obtain ⟨q, hq, hq15⟩ : ∃ q : Nat, at_.tmod 16 = (q : Int) ∧ q ≤ 15 := ⟨(at_ % 16).toNat, by rw [Int.tmod_eq_emod_of_nonneg ha8.1]; omega, by omega⟩
      go_enter Tryd.func7, Tryd.ntmps7
      go_upto_region 3 with fail
      rw [← hw0]
      clear hw0
      go_wp2_with (refine wpList_load_row rfl 26 (.tmp 6) rfl w.heap.size rfl 26 (hdA ⟨k1, d1, e1, s1⟩) (0, 0) _ X0.out.2 Tryd.underlying26 rfl infoH ?_)
      refine (seal_any (c := c) (d := d) ⟨k1, d1, e1, s1⟩ H.out.2.2.2.2.2.2.2 w0 (H.out.1.below X0.out.1) (H.out.2.1.below X0.out.1) H.out.2.2.1 H.out.2.2.2.1 (by omega) (H.out.2.2.2.2.1.below X0.out.1) H.out.2.2.2.2.2.1 (by omega)).mono ?_
      rintro e w1 ⟨A1, n1, c1, rfl, hm1⟩
      rw [HS.out.2.2] at hm1 ⊢
      have hn1 : n1 = 30 + m := by have h1 := hm1.len; rw [dgS_len] at h1; omega
      subst hn1
      obtain ⟨g, rfl⟩ := own_head hm1.own (by omega)
      have Y1 := Lib.hid (show Below w.heap.size w w1 ∧ Blk w1 w.heap.size 26 (hdA ⟨k1, d1, e1, s1⟩) ∧ w1.ownsRow w0.heap.size 5 1 (.slice (some ⟨g, 0, none⟩) (30 + m) c1) (30 + m) ((dgS key ⟨k1, d1, e1, s1⟩ zs).map (Value.int .u8)) ∧ (30 + m ≤ c1 ∧ c1 ≤ 9223372036854775807) from ⟨X0.out.1.trans (hm1.below.mono X0.out.1.size), X0.out.2.below hm1.below X0.out.2.lt, hm1.own, ⟨hm1.le, by have h1 := hm1.max; unfold maxLen at h1; omega⟩⟩)
      clear hm1 X0
      have hm512 : m ≤ 512 := by omega
      obtain ⟨kk, hkk⟩ : ∃ kk, kk = 29 + m - q := ⟨_, rfl⟩
      have hki : (kk : Int) = 29 + m - q := by omega
      obtain ⟨y, hy⟩ : ∃ y, y = (dgS key ⟨k1, d1, e1, s1⟩ zs).getD kk 0 := ⟨_, rfl⟩
      have hcell : w1.cell? ⟨g, kk, none⟩ = some (.int .u8 y) := by rw [hy]; have := (Sb.own Y1.out.2.2.1).cell (k := kk) (by omega); rwa [addHead] at this
      have hfree := (Y1.out.2.2.1).frozenAt kk
      have hyb : 0 ≤ y ∧ y ≤ 255 := by rw [hy]; exact (show U8s (dgS key ⟨k1, d1, e1, s1⟩ zs) from dgS_b H.out.2.2.2.2.2.2.2 H.out.2.2.2.2.2.1).getD kk
      go_upto_region 7 with fail
      rw [show (30 : Int) + (m : Int) - 1 - (q : Int) = ((kk : Nat) : Int) from by omega]
      have hkl : (kk : Int) < 30 + (m : Int) := by omega
      obtain ⟨z, hz⟩ : ∃ z, z = bits .xor .u8 y by_ := ⟨_, rfl⟩
      have HZ := Lib.hid (show z ≠ y ∧ (0 ≤ z ∧ z ≤ 255) from ⟨by rw [hz]; exact xor8_ne hyb ⟨by omega, b2⟩, by rw [hz]; exact xor8_in hyb ⟨b1, b2⟩⟩)
      have hyx : bits .xor .u8 y by_ = z := hz.symm
      have HT := Lib.hid (open_turned (key := key) (i := kk) (y := z) H.out.2.2.2.2.2.2.2 HS.out.1 HS.out.2.1 (by omega) (by omega) (by rw [← hy]; exact HZ.out.1))
      have HU := Lib.hid (show B8s ((dgS key ⟨k1, d1, e1, s1⟩ zs).set kk z) from fun v hv => by
        rcases List.mem_or_eq_of_mem_set hv with hv | rfl
        · exact dgS_b H.out.2.2.2.2.2.2.2 H.out.2.2.2.2.2.1 v hv
        · exact HZ.out.2)
      have hg := (own_block Y1.out.2.2.1).1
      have h0lt : w.heap.size < w0.heap.size := X0L.out
      obtain ⟨w2, hw2⟩ : ∃ w2, w2 = w1.setCell ⟨g, kk, none⟩ (.int .u8 z) := ⟨_, rfl⟩
      have Y2 := Lib.hid (show Below w.heap.size w w2 ∧ Blk w2 w.heap.size 26 (hdA ⟨k1, d1, e1, s1⟩) ∧ Sb w2 (some ⟨g, 0, none⟩) (30 + m) ((dgS key ⟨k1, d1, e1, s1⟩ zs).set kk z) ∧ (30 + m ≤ c1 ∧ c1 ≤ 9223372036854775807) from by
        rw [hw2]
        refine ⟨Y1.out.1.setCell (p := ⟨g, kk, none⟩) (by show w.heap.size ≤ g; have : w0.heap.size ≤ g := hg; omega) _, (heap_setCell_other _ _ _ _ (by show w.heap.size ≠ g; have : w0.heap.size ≤ g := hg; omega)).trans Y1.out.2.1, Sb.own (base := w0.heap.size) (e := 5) (c := c1) ?_, Y1.out.2.2.2⟩
        rw [List.map_set]
        exact (Y1.out.2.2.1.stored kk _).1)
      clear hg hki hy hz b1 Y1 hq hkk
      go_upto_region 8 with fail
      rw [← hw2]
      clear hw2 hcell hfree hyx hkl
      go_wp2_with fail
      refine (open_any (c := c) (d := c1) w2 (H.out.1.below Y2.out.1) (H.out.2.1.below Y2.out.1) H.out.2.2.1 H.out.2.2.2.1 (by omega) Y2.out.2.2.1 HU.out (by omega) Y2.out.2.2.2).mono ?_
      rintro e w3 ⟨A3, n3, c3, rfl, hm3⟩
      rw [HT.out.1] at hm3 ⊢
      obtain rfl : n3 = 0 := by have := hm3.len; simpa using this.symm
      have Y21 := Lib.hid (show Below w.heap.size w w3 ∧ Blk w3 w.heap.size 26 (hdA ⟨k1, d1, e1, s1⟩) ∧ Sb w3 (some ⟨g, 0, none⟩) (30 + m) ((dgS key ⟨k1, d1, e1, s1⟩ zs).set kk z) ∧ (30 + m ≤ c1 ∧ c1 ≤ 9223372036854775807) from ⟨Y2.out.1.trans (hm3.below.mono Y2.out.1.size), Y2.out.2.1.below hm3.below Y2.out.2.1.lt, Y2.out.2.2.1.below hm3.below, Y2.out.2.2.2⟩)
      clear hm3 Y2
      have hn1 : Hid (Blk (w3.alloc (.cells #[.int .u8 0, .bool false, .int .u32 0, .int .u64 0] 26)) w3.heap.size 26 (hdA hd0)) := Blk.new _ _ _
      go_upto_region 9 with (refine wpList_store_row rfl 26 (.tmp 14) (.tmp 76) rfl w3.heap.size (hdA hd0) rfl rfl 26 (hdA hd0) hn1.out infoH rfl (hdA_one _) ?_)
      obtain ⟨w4, hw⟩ : ∃ wz, wz = (w3.alloc (.cells #[.int .u8 0, .bool false, .int .u32 0, .int .u64 0] 26)).setRow w3.heap.size (hdA hd0) := ⟨_, rfl⟩
      have Y22 := Lib.hid (show Below w.heap.size w w4 ∧ Blk w4 w.heap.size 26 (hdA ⟨k1, d1, e1, s1⟩) ∧ Sb w4 (some ⟨g, 0, none⟩) (30 + m) ((dgS key ⟨k1, d1, e1, s1⟩ zs).set kk z) ∧ (30 + m ≤ c1 ∧ c1 ≤ 9223372036854775807) ∧ Blk w4 w3.heap.size 26 (hdA hd0) from by
        have h1 : Below w3.heap.size w3 w4 := by rw [hw]; exact below_setRow ((Below.refl _ _).alloc (Nat.le_refl _) _) (Nat.le_refl _) _
        exact ⟨Y21.out.1.trans (h1.mono Y21.out.1.size), Y21.out.2.1.below h1 Y21.out.2.1.lt, Y21.out.2.2.1.below h1, Y21.out.2.2.2, by rw [hw]; exact hn1.out.setRow _⟩)
      rw [← hw]
      clear hw hn1 Y21
      go_wp2_with fail
      refine (peek_any (d := c1) w4 Y22.out.2.2.1 HU.out (by omega) Y22.out.2.2.2.1).mono ?_
      rintro e w5 ⟨rfl, hb5⟩
      rw [HT.out.2]
      have Y23 := Lib.hid (show Below w.heap.size w w5 ∧ Blk w5 w.heap.size 26 (hdA ⟨k1, d1, e1, s1⟩) ∧ Sb w5 (some ⟨g, 0, none⟩) (30 + m) ((dgS key ⟨k1, d1, e1, s1⟩ zs).set kk z) ∧ (30 + m ≤ c1 ∧ c1 ≤ 9223372036854775807) ∧ Blk w5 w3.heap.size 26 (hdA hd0) from ⟨Y22.out.1.trans (hb5.mono Y22.out.1.size), Y22.out.2.1.below hb5 Y22.out.2.1.lt, Y22.out.2.2.1.below hb5, Y22.out.2.2.2.1, Y22.out.2.2.2.2.below hb5 Y22.out.2.2.2.2.lt⟩)
      clear hb5 Y22
      have hn1 : Hid (Blk (w5.alloc (.cells #[.int .u8 0, .bool false, .int .u32 0, .int .u64 0] 26)) w5.heap.size 26 (hdA hd0)) := Blk.new _ _ _
      go_upto_region 10 with (refine wpList_store_row rfl 26 (.tmp 17) (.tmp 82) rfl w5.heap.size (hdA ⟨k1, d1, e1, s1⟩) rfl rfl 26 (hdA hd0) hn1.out infoH rfl (hdA_one _) ?_)
      obtain ⟨w6, hw⟩ : ∃ wz, wz = (w5.alloc (.cells #[.int .u8 0, .bool false, .int .u32 0, .int .u64 0] 26)).setRow w5.heap.size (hdA ⟨k1, d1, e1, s1⟩) := ⟨_, rfl⟩
      have Y24 := Lib.hid (show Below w.heap.size w w6 ∧ Blk w6 w.heap.size 26 (hdA ⟨k1, d1, e1, s1⟩) ∧ Sb w6 (some ⟨g, 0, none⟩) (30 + m) ((dgS key ⟨k1, d1, e1, s1⟩ zs).set kk z) ∧ (30 + m ≤ c1 ∧ c1 ≤ 9223372036854775807) ∧ Blk w6 w3.heap.size 26 (hdA hd0) ∧ Blk w6 w5.heap.size 26 (hdA ⟨k1, d1, e1, s1⟩) from by
        have h1 : Below w5.heap.size w5 w6 := by rw [hw]; exact below_setRow ((Below.refl _ _).alloc (Nat.le_refl _) _) (Nat.le_refl _) _
        exact ⟨Y23.out.1.trans (h1.mono Y23.out.1.size), Y23.out.2.1.below h1 Y23.out.2.1.lt, Y23.out.2.2.1.below h1, Y23.out.2.2.2.1, Y23.out.2.2.2.2.below h1 Y23.out.2.2.2.2.lt, by rw [hw]; exact hn1.out.setRow _⟩)
      rw [← hw]
      clear hw hn1 Y23
      go_wp2_with fail
      refine (sealFixed_any _ (H.out.1.below Y24.out.1)).mono ?_
      rintro e w7 ⟨rfl, hbf⟩
      have Y25 := Lib.hid (show Below w.heap.size w w7 ∧ Blk w7 w.heap.size 26 (hdA ⟨k1, d1, e1, s1⟩) ∧ Blk w7 w3.heap.size 26 (hdA hd0) ∧ Blk w7 w5.heap.size 26 (hdA ⟨k1, d1, e1, s1⟩) from ⟨Y24.out.1.trans (hbf.mono Y24.out.1.size), Y24.out.2.1.below hbf Y24.out.2.1.lt, Y24.out.2.2.2.2.1.below hbf Y24.out.2.2.2.2.1.lt, Y24.out.2.2.2.2.2.below hbf Y24.out.2.2.2.2.2.lt⟩)
      clear hbf Y24
      have bz := Y25.out.1
      go_wp2_with (first | refine wpList_unguard (by rfl) ?_; refine wpList_load_row rfl 26 (.tmp 14) rfl w3.heap.size rfl 26 #[.int .u8 0, .bool false, .int .u32 0, .int .u64 0] (0, 0) _ Y25.out.2.2.1 Tryd.underlying26 rfl infoH ?_ | refine wpList_unguard (by rfl) ?_; refine wpList_load_row rfl 26 (.tmp 17) rfl w5.heap.size rfl 26 #[.int .u8 k1, .bool d1, .int .u32 e1, .int .u64 s1] (0, 0) _ Y25.out.2.2.2 Tryd.underlying26 rfl infoH ?_ | refine wpList_unguard (by rfl) ?_; refine wpList_load_row rfl 26 (.tmp 6) rfl w.heap.size rfl 26 #[.int .u8 k1, .bool d1, .int .u32 e1, .int .u64 s1] (0, 0) _ Y25.out.2.1 Tryd.underlying26 rfl infoH ?_)
      go_ret
      exact ⟨rfl, bz⟩
  · obtain ⟨hnil, hor⟩ := seal_not he
    obtain ⟨r, hr⟩ : ∃ r, r = (sealS key h zs).2 := ⟨_, rfl⟩
    have HR := Lib.hid hr
    rw [← hr] at he
    have HS := Lib.hid hnil
    have hdr : (r != 0) = true := by simpa using he
    clear he hr hnil hor ha8
    go_enter Tryd.func7, Tryd.ntmps7
    go_upto_region 3 with fail
    rw [← hw0]
    clear hw0
    go_wp2_with (refine wpList_load_row rfl 26 (.tmp 6) rfl w.heap.size rfl 26 (hdA h) (0, 0) _ X0.out.2 Tryd.underlying26 rfl infoH ?_)
    refine (seal_any (c := c) (d := d) h H.out.2.2.2.2.2.2.2 w0 (H.out.1.below X0.out.1) (H.out.2.1.below X0.out.1) H.out.2.2.1 H.out.2.2.2.1 (by omega) (H.out.2.2.2.2.1.below X0.out.1) H.out.2.2.2.2.2.1 (by omega)).mono ?_
    rintro e w1 ⟨A1, n1, c1, rfl, hm1⟩
    rw [HS.out] at hm1
    rw [← HR.out]
    obtain rfl : n1 = 0 := by have := hm1.len; simpa using this.symm
    have Y1 := Lib.hid (show Below w.heap.size w w1 ∧ Blk w1 w.heap.size 26 (hdA h) from ⟨X0.out.1.trans (hm1.below.mono X0.out.1.size), X0.out.2.below hm1.below X0.out.2.lt⟩)
    clear hm1 X0
    go_wp2_with fail
    refine (sealFixed_any _ (H.out.1.below Y1.out.1)).mono ?_
    rintro e w2 ⟨rfl, hbf⟩
    have Y2 := Lib.hid (show Below w.heap.size w w2 ∧ Blk w2 w.heap.size 26 (hdA h) from ⟨Y1.out.1.trans (hbf.mono Y1.out.1.size), Y1.out.2.below hbf Y1.out.2.lt⟩)
    clear hbf Y1
    have bz := Y2.out.1
    clear Y2
    by_cases h0 : by_ = 0
    · subst h0
      go_wp2_with fail
      go_ret
      exact ⟨rfl, bz⟩
    · have hne : (by_ == 0) = false := by simpa using h0
      go_wp2_with fail
      go_ret
      exact ⟨rfl, bz⟩

set_option maxRecDepth 100000 in
theorem lifted (os : Os) (started : os.Started) (H : Type) (enc : TypeId × Value → H) :
    ReturnsInHanded {} Tryd.checked os 7 .any (fun w args => (Rows.sealTurnedSpec.pre enc Tryd.prog Tryd.f7 [] false w args ∧ laidMetH Tryd.prog laidL w) ∧ sizedMet enc Tryd.prog Tryd.f7 (OpenSpec.ofChange Rows.sealTurnedSpec) false w args)
      (Rows.sealTurnedSpec.post enc Tryd.prog Tryd.f7 false true false false) := by
  refine returnsInHanded_of_change_and (C := Tryd.checked) (X := fun w _ => laidMetH Tryd.prog laidL w) (fun _ _ _ hh h => h.of_heap hh) own started (by kernel_rfl) Tryd.func7
    (ChangeSpec.witness_shaped (enc := enc) (C := Tryd.checked) (os := os) (X := fun w _ => laidMetH Tryd.prog laidL w) false (World.doorLaid Tryd.prog 400 os) #[.slice none 0 0, .agg #[.int .u8 0, .bool false, .int .u32 0, .int .u64 0], .slice none 0 0, .int .u8 0, .int .u8 0] 8 rfl (World.shaped_of_RefB (by kernel_rfl) (by kernel_rfl)) (by kernel_rfl) (by kernel_rfl) (by kernel_rfl) (door_met os _)) ?_
  intro W base args ds gs before hval0 hW _ hsz0 hL _
  have hsz : (DataW.weightsEach Tryd.prog (Tryd.f7.params.toList ++ Rows.sealTurnedSpec.plain.varTypes Tryd.prog) (ds ++ gs)).all (· ≤ reachBytes) = true := hsz0
  clear hsz0
  have hval : ∀ (j : Nat) t v, Tryd.f7.params[j]? = some t → args[j]? = some v → Value.okWide Tryd.prog W .any base t v := hval0
  have hW' := hW
  obtain ⟨p, q, hA0, hV, rfl, _, _⟩ := hW
  have hA : DataW.TrodAll enc Tryd.prog W 0 (fun _ => true) true Tryd.f7.params.toList args.toList ds p := hA0
  rw [Tryd.params7] at hA hval hsz
  obtain ⟨v0, vs0, d0, ds0, p0, q0, hargs, rfl, rfl, h0, r0⟩ := trodAll_cons hA
  obtain ⟨v1, vs1, d1, ds1, p1, q1, rfl, rfl, rfl, h1, r1⟩ := trodAll_cons r0
  obtain ⟨v2, vs2, d2, ds2, p2, q2, rfl, rfl, rfl, h2, r2⟩ := trodAll_cons r1
  obtain ⟨v3, vs3, d3, ds3, p3, q3, rfl, rfl, rfl, h3, r3⟩ := trodAll_cons r2
  obtain ⟨v4, vs4, d4, ds4, p4, q4, rfl, rfl, rfl, h4, r4⟩ := trodAll_cons r3
  obtain ⟨rfl, rfl, rfl⟩ := trodAll_nil r4
  obtain rfl : args = #[v0, v1, v2, v3, v4] := by cases args; simp_all
  obtain ⟨rfl, rfl⟩ := trodVars_none hV
  have lt0 : ∀ x ∈ p0, x.block < W.heap.size := by obtain ⟨m, hm⟩ := h0; exact DataW.trod_lt m _ _ _ hm
  obtain ⟨A0, n0, c0, z0, rfl, s0, u0, l0, g0⟩ := open_bytes_c (hval 0 22 v0 rfl rfl) h0
  have m0 := g0 _ _ 0 hsz rfl rfl
  have lt1 : ∀ x ∈ p1, x.block < W.heap.size := by obtain ⟨m, hm⟩ := h1; exact DataW.trod_lt m _ _ _ hm
  obtain ⟨g1, rfl, s1⟩ := open_header (hval 1 26 v1 rfl rfl) h1
  have lt2 : ∀ x ∈ p2, x.block < W.heap.size := by obtain ⟨m, hm⟩ := h2; exact DataW.trod_lt m _ _ _ hm
  obtain ⟨A2, n2, c2, z2, rfl, s2, u2, l2, g2⟩ := open_bytes_c (hval 2 22 v2 rfl rfl) h2
  have m2 := g2 _ _ 2 hsz rfl rfl
  obtain ⟨a3, rfl, rfl, rfl, w3⟩ := open_int Tryd.underlying5 (hval 3 5 v3 rfl rfl) h3
  obtain ⟨a4, rfl, rfl, rfl, w4⟩ := open_int Tryd.underlying5 (hval 4 5 v4 rfl rfl) h4
  clear hA0 hval0
  refine (walk W (roots_of_laid hL) s0 u0 m0 l0 s1 s2 u2 m2 l2 w3 w4).mono fun e W' ⟨he, bel⟩ => ?_
  subst he
  exact ⟨_, rfl, _, _, _, [], _, [], hW', trodAll_mk1 (shut_bool Tryd.underlying4 _), (trodAll_cons_mk (Below.trod laidOut (by kernel_rfl) (of_decide_eq_true (by kernel_rfl)) h0 bel lt0) (trodAll_cons_mk (Below.trod laidOut (by kernel_rfl) (of_decide_eq_true (by kernel_rfl)) h1 bel lt1) (trodAll_cons_mk (Below.trod laidOut (by kernel_rfl) (of_decide_eq_true (by kernel_rfl)) h2 bel lt2) (trodAll_cons_mk (shut_int Tryd.underlying5 w3) (trodAll_cons_mk (shut_int Tryd.underlying5 w4) trodAll_mk0))))), rfl, bel.frame _, fun h => by cases h⟩

theorem over : Rows.sealTurnedRow.holds Tryd.pinned (OpenSpec.ofChange Rows.sealTurnedSpec) :=
  OpenClaim.holds_of_wide 7 Tryd.f7 rfl rfl rfl rfl rfl rfl rfl ⟨rfl, rfl, rfl, rfl, rfl⟩ rfl rfl rfl rfl rfl (by kernel_rfl) Tryd.func7 (by kernel_rfl)
    (of_decide_eq_true (by kernel_rfl)) (by unfold Func.isWrapper; first | (rw [if_pos (by decide +kernel)]; kernel_rfl) | (rw [if_neg (by decide +kernel)]; exact ⟨rfl, rfl⟩))
    (fun os started H enc _ => lifted os started H enc)

theorem proved : Rows.SealTurnedCardSaid :=
  Claim7.holds_tied_plain_at .later [] [.data] true Rows.sealTurnedCard.stood.harness false
    over (fun _ h => by cases h) (by kernel_rfl) (fun _ h => by cases h) sealTurned_row_tie rfl ⟨rfl, rfl⟩ (by kernel_rfl) rfl
    (fun f fn hf hfn => by
      obtain rfl : f = 7 := Option.some.inj ((show Tryd.prog.funcNamed "spyglass/spyglasslaw06.SealTurned" = some 7 by kernel_rfl).symm.trans hf) |>.symm
      obtain rfl : fn = Tryd.f7 := (Option.some.inj (Tryd.func7.symm.trans hfn)).symm
      exact ⟨by kernel_rfl, fun j t ht => by
        rw [Tryd.params7] at ht
        have hm : t ∈ [22, 26, 22, 5, 5] := by simpa using Array.mem_of_getElem? ht
        have hall : ([22, 26, 22, 5, 5].all fun u => !Tryd.prog.wantsStandIn u) = true := by kernel_rfl
        exact (show Tryd.prog.wantsStandIn t = false by simpa using List.all_eq_true.1 hall t hm)⟩)
    (by kernel_rfl)
end Go.Proofs.YtogaakokplobaaaDoor.sealTurned
