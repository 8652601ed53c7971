/-
  Part 30 of what the laws of emul want: WireRead, RowsRdr, RowsRdC, RowsRdCs.
-/
import Derived.Laws.BitsAllLaws
import Derived.Test.YtikhknnhmnopbaaDoorPj02
import Derived.Test.YtikhknnhmnopbaaDoorPj22
import Derived.Test.YtikhknnhmnopbaaDoorPj25
import Derived.Test.YtikhknnhmnopbaaDoorPj28
import Derived.Test.YtikhknnhmnopbaaDoorPj29
namespace Go.Proofs.YtikhknnhmnopbaaDoor
open Go.RowKit
theorem pow256_le {i j : Nat} (h : i ≤ j) : (256 : Int) ^ i ≤ 256 ^ j := by
 have h1 : (256 : Nat) ^ i ≤ 256 ^ j := Nat.pow_le_pow_right (by omega) h
 have h2 : ((256 ^ i : Nat) : Int) ≤ ((256 ^ j : Nat) : Int) := Int.ofNat_le.2 h1
 simpa using h2
theorem shl_step {acc d : Int} (h0 : 0 ≤ acc) (h1 : acc < 72057594037927936) (h2 : 0 ≤ d) (h3 : d ≤ 255) : bits .or .u64 (acc * 256) d = acc * 256 + d := by
 rw [u64_or _ _ (by omega) (by omega) h2 (by omega), nat_join 8]
 · omega
 · omega
 · omega
def NumPost (base : Nat) (w : World) (r : Nat) (q : Int × List Int × Int) (e' : Ending) (w' : World) : Prop :=
 e' = .returned (.int .u64 q.1) ∧ RdTo 96 base w r q.2.1 q.2.2 w'
theorem rnum_any {base : Nat} {w : World} {r : Nat} {A : Option Addr} {m c : Nat} {zs : List Int} {e : Int} (h : Rd 96 base w r A m c zs e) (hu : U8s zs) (hm : m ≤ 140737488355328) (n : Int) (hn : n ≤ 9223372036854775807) :
  Calls Tryd.prog 49 #[.pointer (some ⟨r, 0, none⟩), .int .i64 n] w (NumPost base w r (num1 zs e n)) := by
 by_cases h0 : e = 0
 · subst h0
   by_cases h1 : 1 ≤ n ∧ n ≤ 8
   · have hb : decide (1 ≤ n ∧ n ≤ 8) = true := by simpa using h1
     have hq := Lib.hid (num1_of_take (zs := zs) (n := n) (by omega))
     go_enter Tryd.func49, Tryd.ntmps49
     go_wp2_with (first
      | (go_at_call 83; refine (reads_any h).mono ?_; rintro e w' ⟨rfl, rfl⟩)
      | (go_at_call 84; refine (sizeMay_any _ _).mono ?_; rintro e w' ⟨rfl, rfl⟩))
     refine (take_any h hm n hn).mono ?_
     rintro e w1 ⟨v, rfl, ⟨A1, n1, c1, rfl, hf⟩, hto⟩
     have HP : NumPost base w r (num1 zs 0 n) (.returned (.int .u64 (valL 0 (take1 zs 0 n).1))) w1 := by
      rw [hq.out]; exact ⟨rfl, hto⟩
     have hl := Lib.hid hf.len
     have hlen := take1_len zs (n := n) (by omega)
     have hu1 : U8s (take1 zs 0 n).1 := fun z hz => hu z (take1_mem hz)
     obtain ⟨ys, hys⟩ : ∃ ys, ys = (take1 zs 0 n).1 := ⟨_, rfl⟩
     rw [← hys] at hf hl HP hlen hu1
     have hsb := hf.sb
     have hn1 : n1 ≤ 8 := by have := hl.out; omega
     clear hys hto hf hlen hq hb h1 hn
     go_wp2
     go_loop [21, 5] (fun i x => ∃ k : Nat, k ≤ n1 ∧ i = .int .i64 k ∧ x = .int .u64 (valL 0 (ys.take k))) (fun i _ => n1 - (intOf i).toNat)
     case atStart => exact ⟨0, Nat.zero_le _, rfl, rfl⟩
     case round =>
      obtain ⟨k, hk, rfl, rfl⟩ := hrel
      by_cases hlt : k < n1
      · obtain ⟨ad, rfl⟩ := hsb.addr (by omega)
        have hc := hsb.cell hlt
        have hd := hu1.getD k
        have hstep := valL_step (zs := ys) (k := k) (by have := hl.out; omega)
        have hbd := valL_bound (zs := ys.take k) (fun z hz => hu1 z (List.mem_of_mem_take hz)) 0 (by omega)
        have hpow := pow256_le (i := (ys.take k).length) (j := 7) (by simp; omega)
        have e7 : (256 : Int) ^ 7 = 72057594037927936 := by decide
        rw [e7] at hpow
        obtain ⟨d, hd'⟩ : ∃ d, d = ys.getD k 0 := ⟨_, rfl⟩
        rw [← hd'] at hc hd hstep
        obtain ⟨acc, ha⟩ : ∃ acc, acc = valL 0 (ys.take k) := ⟨_, rfl⟩
        rw [← ha] at hbd hstep ⊢
        obtain ⟨hb1, hb2⟩ := hbd
        have hb3 : acc < 72057594037927936 := by omega
        obtain ⟨hd1, hd2⟩ := hd
        have HS := Lib.hid (hstep.trans (shl_step hb1 hb3 hd1 hd2).symm)
        clear hstep hpow hb2 hd' ha e7
        go_wp2
        go_round
        case rel => exact ⟨k + 1, by omega, by go_num, by rw [HS.out]⟩
        case measure => simp [intOf]; omega
      · have hz : ys.take k = ys := List.take_of_length_le (by have := hl.out; omega)
        rw [hz]
        clear hz
        go_wp2
        go_ret
        exact HP
   · have hb : decide (1 ≤ n ∧ n ≤ 8) = false := by simpa using h1
     have HP : NumPost base w r (num1 zs 0 n) (.returned (.int .u64 0)) (w.setCell ⟨r, 1, none⟩ (.int .i64 1)) := by
      unfold num1; rw [if_neg (by simp), if_pos (by omega)]; exact ⟨rfl, RdTo.err h 1⟩
     have hc1 := h.cell1
     have hf := h.free 1
     go_enter Tryd.func49, Tryd.ntmps49
     go_wp2_with (first
      | (go_at_call 83; refine (reads_any h).mono ?_; rintro e w' ⟨rfl, rfl⟩)
      | (go_at_call 84; refine (sizeMay_any _ _).mono ?_; rintro e w' ⟨rfl, rfl⟩))
     go_ret
     exact HP
 · have HP : NumPost base w r (num1 zs e n) (.returned (.int .u64 0)) w := by
    unfold num1; rw [if_pos h0]; exact ⟨rfl, RdTo.refl h⟩
   have H : (e == 0) = false := by simpa using h0
   clear h0
   go_enter Tryd.func49, Tryd.ntmps49
   go_wp2_with (go_at_call 83; refine (reads_any h).mono ?_; rintro e w' ⟨rfl, rfl⟩)
   go_ret
   exact HP
open Go.RowKit
structure Rz (base r : Nat) (zs : List Int) (e : Int) (w : World) : Prop where
 rd : ∃ A n c, Rd 96 base w r A n c zs e
 u8 : U8s zs
 len : zs.length ≤ 140737488355328
theorem Rz.below {base r : Nat} {zs : List Int} {e : Int} {w w' : World} (h : Rz base r zs e w) (hb : Below w.heap.size w w') : Rz base r zs e w' := ⟨by obtain ⟨A, n, c, h1⟩ := h.rd; exact ⟨A, n, c, h1.below hb⟩, h.u8, h.len⟩
theorem Rz.lt {base r : Nat} {zs : List Int} {e : Int} {w : World} (h : Rz base r zs e w) : r < w.heap.size := by obtain ⟨A, n, c, h1⟩ := h.rd; exact h1.lt
theorem Rz.lo {base r : Nat} {zs : List Int} {e : Int} {w : World} (h : Rz base r zs e w) : base ≤ r := by obtain ⟨A, n, c, h1⟩ := h.rd; exact h1.lo
theorem Rz.grown {base r : Nat} {zs : List Int} {e : Int} {w w' : World} (h : Rz base r zs e w) {g : Nat} (hg : w.grownBy w' (some g)) (hne : g < base ∨ r < g) : Rz base r zs e w' :=
 ⟨by obtain ⟨A, n, c, h1⟩ := h.rd; exact ⟨A, n, c, h1.stay hg.size fun k h2 h3 => hg.block k (Nat.lt_of_le_of_lt h3 h1.lt) (by intro e; injection e with e; omega)⟩, h.u8, h.len⟩
theorem num1_rest (zs : List Int) (e n : Int) : (num1 zs e n).2.1 = zs ∨ (num1 zs e n).2.1 = zs.drop n.toNat := by
 unfold num1
 split
 · exact .inl rfl
 · split
   · exact .inl rfl
   · split
     · exact .inl rfl
     · exact .inr rfl
theorem num1_u8 {zs : List Int} (h : U8s zs) (e n : Int) : U8s (num1 zs e n).2.1 := by
 rcases num1_rest zs e n with h1 | h1 <;> rw [h1]
 · exact h
 · exact fun z hz => h z (List.mem_of_mem_drop hz)
theorem num1_len (zs : List Int) (e n : Int) : (num1 zs e n).2.1.length ≤ zs.length := by
 rcases num1_rest zs e n with h1 | h1 <;> rw [h1]
 · exact Nat.le_refl _
 · rw [List.length_drop]; omega
theorem num1_bd {zs : List Int} (h : U8s zs) (e : Int) (k : Nat) : 0 ≤ (num1 zs e k).1 ∧ (num1 zs e k).1 < 256 ^ k := by
 have h0 : (0 : Int) < 256 ^ k := Int.pow_pos (by omega)
 unfold num1
 split
 · exact ⟨Int.le_refl _, h0⟩
 · split
   · exact ⟨Int.le_refl _, h0⟩
   · split
     · exact ⟨Int.le_refl _, h0⟩
     · rename_i h3
       have h1 := valL_bound (zs := zs.take k) (fun z hz => h z (List.mem_of_mem_take hz)) 0 (by omega)
       have e1 : (zs.take k).length = k := by rw [List.length_take]; omega
       rw [e1] at h1
       rw [Int.toNat_natCast]
       refine ⟨h1.1, ?_⟩
       have := h1.2
       omega
theorem num1_err {zs : List Int} {e : Int} (h : e ≠ 0) (n : Int) : num1 zs e n = (0, zs, e) := by unfold num1; rw [if_pos h]
theorem num1_short {zs : List Int} {k : Nat} (h1 : 1 ≤ k) (h8 : k ≤ 8) (h : zs.length < k) : num1 zs 0 k = (0, zs, 2) := by unfold num1; rw [if_neg (by simp), if_neg (by omega), if_pos (by omega)]
theorem num1_ok {zs : List Int} {k : Nat} (h1 : 1 ≤ k) (h8 : k ≤ 8) (h : k ≤ zs.length) : num1 zs 0 k = (valL 0 (zs.take k), zs.drop k, 0) := by unfold num1; rw [if_neg (by simp), if_neg (by omega), if_neg (by omega), Int.toNat_natCast]
theorem rzNum_any {base r : Nat} {zs : List Int} {e : Int} {w : World} (h : Rz base r zs e w) (k : Nat) (hk : k ≤ 8) :
  Calls Tryd.prog 49 #[.pointer (some ⟨r, 0, none⟩), .int .i64 (k : Int)] w fun e' w' => e' = .returned (.int .u64 (num1 zs e k).1) ∧ Rz base r (num1 zs e k).2.1 (num1 zs e k).2.2 w' ∧ w.grownBy w' (some r) := by
 obtain ⟨A, n, c, hr⟩ := h.rd
 refine (rnum_any hr h.u8 (by have := hr.sb.len; have := h.len; omega) (k : Int) (by omega)).mono ?_
 rintro e' w' ⟨h1, ⟨A', n', c', h2⟩, h3⟩
 exact ⟨h1, ⟨⟨A', n', c', h2⟩, num1_u8 h.u8 _ _, Nat.le_trans (num1_len _ _ _) h.len⟩, h3⟩
set_option maxHeartbeats 1600000 in
set_option maxRecDepth 100000 in
theorem readByte_any {base r : Nat} {zs : List Int} {e : Int} {w : World} (h : Rz base r zs e w) :
  Calls Tryd.prog 48 #[.pointer (some ⟨r, 0, none⟩)] w fun e' w' => e' = .returned (.int .i64 (num1 zs e 1).1) ∧ Rz base r (num1 zs e 1).2.1 (num1 zs e 1).2.2 w' ∧ w.grownBy w' (some r) := by
 have P := Lib.hid (rzNum_any h 1 (by omega))
 have hb := num1_bd h.u8 e 1
 have e1 : ((1 : Nat) : Int) = 1 := rfl
 rw [e1] at P hb
 obtain ⟨q, hq⟩ : ∃ q, num1 zs e 1 = q := ⟨_, rfl⟩
 rw [hq] at P hb ⊢
 obtain ⟨v, z, f⟩ := q
 have hv : IntKind.i64.wrap v = v := by rw [IntKind.wrap_i64]; have := hb.1; have := hb.2; simp at *; omega
 clear hb hq h e1
 go_enter Tryd.func48, Tryd.ntmps48
 go_wp2_with fail
 refine P.out.mono ?_
 rintro e' w' ⟨rfl, h1, h2⟩
 have H := Lib.hid (And.intro h1 h2)
 clear h1 h2
 dsimp only
 go_wp2_with fail
 go_ret
 exact ⟨rfl, H.out.1, H.out.2⟩
open Go.RowKit
def q1S (zs : List Int) (e : Int) := num1 zs e 4
def q2S (zs : List Int) (e : Int) := num1 (q1S zs e).2.1 (q1S zs e).2.2 2
def q3S (zs : List Int) (e : Int) := num1 (q2S zs e).2.1 (q2S zs e).2.2 2
def q4S (zs : List Int) (e : Int) := num1 (q3S zs e).2.1 (q3S zs e).2.2 1
def rcS (zs : List Int) (e : Int) : Ce := ⟨i32S (q1S zs e).1, 0, ⟨(q2S zs e).1, (q3S zs e).1, (q4S zs e).1, 0⟩⟩
theorem rc_ok {zs : List Int} (h : 9 ≤ zs.length) : (q4S zs 0).2.1 = zs.drop 9 ∧ (q4S zs 0).2.2 = 0 ∧ rcS zs 0 = cellOf zs := by
 have e1 : q1S zs 0 = (valL 0 (zs.take 4), zs.drop 4, 0) := num1_ok (k := 4) (by omega) (by omega) (by omega)
 have e2 : q2S zs 0 = (valL 0 ((zs.drop 4).take 2), zs.drop 6, 0) := by
  unfold q2S
  rw [e1]
  have := num1_ok (zs := zs.drop 4) (k := 2) (by omega) (by omega) (by rw [List.length_drop]; omega)
  rw [List.drop_drop] at this
  exact this
 have e3 : q3S zs 0 = (valL 0 ((zs.drop 6).take 2), zs.drop 8, 0) := by
  unfold q3S
  rw [e2]
  have := num1_ok (zs := zs.drop 6) (k := 2) (by omega) (by omega) (by rw [List.length_drop]; omega)
  rw [List.drop_drop] at this
  exact this
 have e4 : q4S zs 0 = (valL 0 ((zs.drop 8).take 1), zs.drop 9, 0) := by
  unfold q4S
  rw [e3]
  have := num1_ok (zs := zs.drop 8) (k := 1) (by omega) (by omega) (by rw [List.length_drop]; omega)
  rw [List.drop_drop] at this
  exact this
 have e5 : valL 0 ((zs.drop 8).take 1) = zs.getD 8 0 := by
  have hl : 8 < zs.length := by omega
  rw [List.drop_eq_getElem_cons hl, List.take_succ_cons, List.take_zero, List.getD_eq_getElem?_getD, List.getElem?_eq_getElem hl]
  simp [valL]
 refine ⟨by rw [e4], by rw [e4], ?_⟩
 unfold rcS cellOf
 rw [e1, e2, e3, e4, e5]
theorem rc_short {zs : List Int} (h : zs.length < 9) : (q4S zs 0).2.2 = 2 := by
 have he : (2 : Int) ≠ 0 := by decide
 by_cases h1 : zs.length < 4
 · have e1 : q1S zs 0 = (0, zs, 2) := num1_short (k := 4) (by omega) (by omega) h1
   unfold q4S q3S q2S
   rw [e1, num1_err he, num1_err he, num1_err he]
 have e1 : q1S zs 0 = (valL 0 (zs.take 4), zs.drop 4, 0) := num1_ok (k := 4) (by omega) (by omega) (by omega)
 by_cases h2 : zs.length < 6
 · have e2 : q2S zs 0 = (0, zs.drop 4, 2) := by
    unfold q2S
    rw [e1]
    exact num1_short (k := 2) (by omega) (by omega) (by rw [List.length_drop]; omega)
   unfold q4S q3S
   rw [e2, num1_err he, num1_err he]
 have e2 : q2S zs 0 = (valL 0 ((zs.drop 4).take 2), zs.drop 6, 0) := by
  unfold q2S
  rw [e1]
  have := num1_ok (zs := zs.drop 4) (k := 2) (by omega) (by omega) (by rw [List.length_drop]; omega)
  rw [List.drop_drop] at this
  exact this
 by_cases h3 : zs.length < 8
 · have e3 : q3S zs 0 = (0, zs.drop 6, 2) := by
    unfold q3S
    rw [e2]
    exact num1_short (k := 2) (by omega) (by omega) (by rw [List.length_drop]; omega)
   unfold q4S
   rw [e3, num1_err he]
 have e3 : q3S zs 0 = (valL 0 ((zs.drop 6).take 2), zs.drop 8, 0) := by
  unfold q3S
  rw [e2]
  have := num1_ok (zs := zs.drop 6) (k := 2) (by omega) (by omega) (by rw [List.length_drop]; omega)
  rw [List.drop_drop] at this
  exact this
 unfold q4S
 rw [e3]
 have := num1_short (zs := zs.drop 8) (k := 1) (by omega) (by omega) (by rw [List.length_drop]; omega)
 have e5 : ((1 : Nat) : Int) = 1 := rfl
 rw [e5] at this
 rw [this]
theorem i32_of {v : Int} (h : 0 ≤ v) (h' : v < 4294967296) : IntKind.i32.wrap v = i32S v := by
 rw [IntKind.wrap_i32]
 unfold i32S
 split <;> omega
theorem Cb.set {w : World} {g : Nat} {x y : Ce} {k : Nat} {v : Value} (h : Cb w g x) (e : (ceV x).set k v = ceV y) (hk : k < 6) : Cb (w.setCell ⟨g, k, none⟩ v) g y := by
 obtain ⟨r, h⟩ := h
 refine ⟨r, ?_⟩
 rw [heap_setCell_same w g k _ _ _ h]
 have e1 : rowV ceV [x] = ceV x := by simp [rowV]
 have e2 : rowV ceV [y] = ceV y := by simp [rowV]
 have e3 : ((rowV ceV [x] ++ r).toArray.setIfInBounds k v) = (rowV ceV [y] ++ r).toArray := by
  rw [List.setIfInBounds_toArray, e1, e2, List.set_append_left _ _ (by rw [ceV_len]; exact hk), e]
 rw [e3]
theorem grownBy_far {a b c : World} {row : Option Nat} {g : Nat} (h : a.grownBy b row) (k : b.grownBy c (some g)) (hg : a.heap.size ≤ g) : a.grownBy c row :=
 ⟨k.os.trans h.os, k.tape.trans h.tape, k.output.trans h.output, Nat.le_trans h.size k.size, fun i hi hr => (k.block i (Nat.lt_of_lt_of_le hi h.size) (fun e => by injection e with e; omega)).trans (h.block i hi hr)⟩
set_option maxHeartbeats 3200000 in
set_option maxRecDepth 100000 in
theorem readCell_any {base r : Nat} {zs : List Int} {e : Int} {w : World} (h : Rz base r zs e w) :
  Calls Tryd.prog 104 #[.pointer (some ⟨r, 0, none⟩)] w fun e' w' => e' = .returned (.agg (ceA (rcS zs e))) ∧ Rz base r (q4S zs e).2.1 (q4S zs e).2.2 w' ∧ w.grownBy w' (some r) := by
 obtain ⟨b, hb⟩ : ∃ b, b = w.heap.size := ⟨_, rfl⟩
 obtain ⟨w1, hw1⟩ : ∃ w1, w1 = (w.alloc (.cells (ceA ce0) 51)).alloc (.cells (ceA ce0) 51) := ⟨_, rfl⟩
 have H1 := Lib.hid (show Cb w1 b ce0 ∧ Cb w1 (b + 1) ce0 ∧ Rz base r zs e w1 ∧ w.grownBy w1 (some r) ∧ r < b ∧ w.heap.size ≤ b from by
  have h1 := Cb.new w ce0
  have h2 := Cb.new (w.alloc (.cells (ceA ce0) 51)) ce0
  rw [World.size_alloc] at h2
  have hb1 : Below w.heap.size w w1 := by rw [hw1]; exact ((Below.refl _ _).alloc (Nat.le_refl _) _).alloc (by simp) _
  rw [hb]
  exact ⟨by rw [hw1]; exact h1.below ((Below.refl _ _).alloc (Nat.le_refl _) _), by rw [hw1]; exact h2, h.below hb1, (grownBy_below hb1 : w.grownBy w1 (some r)), h.lt, Nat.le_refl _⟩)
 have HU := Lib.hid h.u8
 clear h
 unfold ceA ce0 pn0 at hw1
 dsimp only at hw1
 go_enter Tryd.func104, Tryd.ntmps104
 go_upto_region 2 with fail
 rw [← hw1, ← hb]
 clear hw1 hb
 have P := Lib.hid (rzNum_any H1.out.2.2.1 4 (by omega))
 have hbd := num1_bd H1.out.2.2.1.u8 (e) 4
 have e1 : ((4 : Nat) : Int) = 4 := rfl
 rw [e1] at P hbd
 rw [show num1 (zs) (e) 4 = q1S zs e from rfl] at P hbd
 have hv : IntKind.i32.wrap (q1S zs e).1 = i32S (q1S zs e).1 := by
  exact i32_of hbd.1 (by have := hbd.2; simp at this; omega)
 clear e1 hbd
 go_wp2_with fail
 refine P.out.mono ?_
 rintro e' w2 ⟨rfl, h1, h2⟩
 have G := Lib.hid (show Cb w2 b ce0 ∧ Cb w2 (b + 1) ce0 ∧ Rz base r (q1S zs e).2.1 (q1S zs e).2.2 w2 ∧ w.grownBy w2 (some r) ∧ r < b ∧ w.heap.size ≤ b from
  ⟨H1.out.1.grown h2 (fun e => by injection e with e; have := H1.out.2.2.2.2.1; omega), H1.out.2.1.grown h2 (fun e => by injection e with e; have := H1.out.2.2.2.2.1; omega), h1, grownBy_trans H1.out.2.2.2.1 h2, H1.out.2.2.2.2⟩)
 clear h1 h2 P H1
 have hfz := G.out.2.1.free 0
 have hcl := G.out.2.1.cell (j := 0) rfl
 try dsimp only at hcl
 obtain ⟨w3, hws⟩ : ∃ q, q = w2.setCell ⟨b + 1, 0, none⟩ (.int .i32 (i32S (q1S zs e).1)) := ⟨_, rfl⟩
 have H2 := Lib.hid (show Cb w3 b ce0 ∧ Cb w3 (b + 1) ⟨i32S (q1S zs e).1, 0, ⟨0, 0, 0, 0⟩⟩ ∧ Rz base r (q1S zs e).2.1 (q1S zs e).2.2 w3 ∧ w.grownBy w3 (some r) ∧ r < b ∧ w.heap.size ≤ b from by
  have hg : w2.grownBy w3 (some (b + 1)) := by rw [hws]; exact grownBy_set w2 ⟨b + 1, 0, none⟩ _
  have hlt := G.out.2.2.2.2.1
  have hle := G.out.2.2.2.2.2
  have hbs := G.out.2.1.lt
  refine ⟨G.out.1.grown hg (fun e => by injection e with e; omega), by rw [hws]; exact G.out.2.1.set rfl (by omega), G.out.2.2.1.grown hg (.inr (by omega)), grownBy_far G.out.2.2.2.1 hg (by omega), hlt, hle⟩)
 go_upto_region 3 with fail
 rw [← hws]
 clear hws hfz hcl hv G
 have P := Lib.hid (rzNum_any H2.out.2.2.1 2 (by omega))
 have hbd := num1_bd H2.out.2.2.1.u8 ((q1S zs e).2.2) 2
 have e1 : ((2 : Nat) : Int) = 2 := rfl
 rw [e1] at P hbd
 rw [show num1 ((q1S zs e).2.1) ((q1S zs e).2.2) 2 = q2S zs e from rfl] at P hbd
 have hv : IntKind.u32.wrap (q2S zs e).1 = (q2S zs e).1 := by
  rw [IntKind.wrap_u32]; have := hbd.1; have := hbd.2; simp at *; omega
 clear e1 hbd
 go_wp2_with fail
 refine P.out.mono ?_
 rintro e' w4 ⟨rfl, h1, h2⟩
 have G := Lib.hid (show Cb w4 b ce0 ∧ Cb w4 (b + 1) ⟨i32S (q1S zs e).1, 0, ⟨0, 0, 0, 0⟩⟩ ∧ Rz base r (q2S zs e).2.1 (q2S zs e).2.2 w4 ∧ w.grownBy w4 (some r) ∧ r < b ∧ w.heap.size ≤ b from
  ⟨H2.out.1.grown h2 (fun e => by injection e with e; have := H2.out.2.2.2.2.1; omega), H2.out.2.1.grown h2 (fun e => by injection e with e; have := H2.out.2.2.2.2.1; omega), h1, grownBy_trans H2.out.2.2.2.1 h2, H2.out.2.2.2.2⟩)
 clear h1 h2 P H2
 have hfz := G.out.2.1.free 2
 have hcl := G.out.2.1.cell (j := 2) rfl
 try dsimp only at hcl
 obtain ⟨w5, hws⟩ : ∃ q, q = w4.setCell ⟨b + 1, 2, none⟩ (.int .u32 ((q2S zs e).1)) := ⟨_, rfl⟩
 have H3 := Lib.hid (show Cb w5 b ce0 ∧ Cb w5 (b + 1) ⟨i32S (q1S zs e).1, 0, ⟨(q2S zs e).1, 0, 0, 0⟩⟩ ∧ Rz base r (q2S zs e).2.1 (q2S zs e).2.2 w5 ∧ w.grownBy w5 (some r) ∧ r < b ∧ w.heap.size ≤ b from by
  have hg : w4.grownBy w5 (some (b + 1)) := by rw [hws]; exact grownBy_set w4 ⟨b + 1, 2, none⟩ _
  have hlt := G.out.2.2.2.2.1
  have hle := G.out.2.2.2.2.2
  have hbs := G.out.2.1.lt
  refine ⟨G.out.1.grown hg (fun e => by injection e with e; omega), by rw [hws]; exact G.out.2.1.set rfl (by omega), G.out.2.2.1.grown hg (.inr (by omega)), grownBy_far G.out.2.2.2.1 hg (by omega), hlt, hle⟩)
 go_upto_region 4 with fail
 rw [← hws]
 clear hws hfz hcl hv G
 have P := Lib.hid (rzNum_any H3.out.2.2.1 2 (by omega))
 have hbd := num1_bd H3.out.2.2.1.u8 ((q2S zs e).2.2) 2
 have e1 : ((2 : Nat) : Int) = 2 := rfl
 rw [e1] at P hbd
 rw [show num1 ((q2S zs e).2.1) ((q2S zs e).2.2) 2 = q3S zs e from rfl] at P hbd
 have hv : IntKind.u32.wrap (q3S zs e).1 = (q3S zs e).1 := by
  rw [IntKind.wrap_u32]; have := hbd.1; have := hbd.2; simp at *; omega
 clear e1 hbd
 go_wp2_with fail
 refine P.out.mono ?_
 rintro e' w6 ⟨rfl, h1, h2⟩
 have G := Lib.hid (show Cb w6 b ce0 ∧ Cb w6 (b + 1) ⟨i32S (q1S zs e).1, 0, ⟨(q2S zs e).1, 0, 0, 0⟩⟩ ∧ Rz base r (q3S zs e).2.1 (q3S zs e).2.2 w6 ∧ w.grownBy w6 (some r) ∧ r < b ∧ w.heap.size ≤ b from
  ⟨H3.out.1.grown h2 (fun e => by injection e with e; have := H3.out.2.2.2.2.1; omega), H3.out.2.1.grown h2 (fun e => by injection e with e; have := H3.out.2.2.2.2.1; omega), h1, grownBy_trans H3.out.2.2.2.1 h2, H3.out.2.2.2.2⟩)
 clear h1 h2 P H3
 have hfz := G.out.2.1.free 3
 have hcl := G.out.2.1.cell (j := 3) rfl
 try dsimp only at hcl
 obtain ⟨w7, hws⟩ : ∃ q, q = w6.setCell ⟨b + 1, 3, none⟩ (.int .u32 ((q3S zs e).1)) := ⟨_, rfl⟩
 have H4 := Lib.hid (show Cb w7 b ce0 ∧ Cb w7 (b + 1) ⟨i32S (q1S zs e).1, 0, ⟨(q2S zs e).1, (q3S zs e).1, 0, 0⟩⟩ ∧ Rz base r (q3S zs e).2.1 (q3S zs e).2.2 w7 ∧ w.grownBy w7 (some r) ∧ r < b ∧ w.heap.size ≤ b from by
  have hg : w6.grownBy w7 (some (b + 1)) := by rw [hws]; exact grownBy_set w6 ⟨b + 1, 3, none⟩ _
  have hlt := G.out.2.2.2.2.1
  have hle := G.out.2.2.2.2.2
  have hbs := G.out.2.1.lt
  refine ⟨G.out.1.grown hg (fun e => by injection e with e; omega), by rw [hws]; exact G.out.2.1.set rfl (by omega), G.out.2.2.1.grown hg (.inr (by omega)), grownBy_far G.out.2.2.2.1 hg (by omega), hlt, hle⟩)
 go_upto_region 5 with fail
 rw [← hws]
 clear hws hfz hcl hv G
 have P := Lib.hid (rzNum_any H4.out.2.2.1 1 (by omega))
 have hbd := num1_bd H4.out.2.2.1.u8 ((q3S zs e).2.2) 1
 have e1 : ((1 : Nat) : Int) = 1 := rfl
 rw [e1] at P hbd
 rw [show num1 ((q3S zs e).2.1) ((q3S zs e).2.2) 1 = q4S zs e from rfl] at P hbd
 have hv : IntKind.u8.wrap (q4S zs e).1 = (q4S zs e).1 := by
  rw [IntKind.wrap_u8]; have := hbd.1; have := hbd.2; simp at *; omega
 clear e1 hbd
 go_wp2_with fail
 refine P.out.mono ?_
 rintro e' w8 ⟨rfl, h1, h2⟩
 have G := Lib.hid (show Cb w8 b ce0 ∧ Cb w8 (b + 1) ⟨i32S (q1S zs e).1, 0, ⟨(q2S zs e).1, (q3S zs e).1, 0, 0⟩⟩ ∧ Rz base r (q4S zs e).2.1 (q4S zs e).2.2 w8 ∧ w.grownBy w8 (some r) ∧ r < b ∧ w.heap.size ≤ b from
  ⟨H4.out.1.grown h2 (fun e => by injection e with e; have := H4.out.2.2.2.2.1; omega), H4.out.2.1.grown h2 (fun e => by injection e with e; have := H4.out.2.2.2.2.1; omega), h1, grownBy_trans H4.out.2.2.2.1 h2, H4.out.2.2.2.2⟩)
 clear h1 h2 P H4
 have hfz := G.out.2.1.free 4
 have hcl := G.out.2.1.cell (j := 4) rfl
 try dsimp only at hcl
 obtain ⟨w9, hws⟩ : ∃ q, q = w8.setCell ⟨b + 1, 4, none⟩ (.int .u8 ((q4S zs e).1)) := ⟨_, rfl⟩
 have H5 := Lib.hid (show Cb w9 b ce0 ∧ Cb w9 (b + 1) ⟨i32S (q1S zs e).1, 0, ⟨(q2S zs e).1, (q3S zs e).1, (q4S zs e).1, 0⟩⟩ ∧ Rz base r (q4S zs e).2.1 (q4S zs e).2.2 w9 ∧ w.grownBy w9 (some r) ∧ r < b ∧ w.heap.size ≤ b from by
  have hg : w8.grownBy w9 (some (b + 1)) := by rw [hws]; exact grownBy_set w8 ⟨b + 1, 4, none⟩ _
  have hlt := G.out.2.2.2.2.1
  have hle := G.out.2.2.2.2.2
  have hbs := G.out.2.1.lt
  refine ⟨G.out.1.grown hg (fun e => by injection e with e; omega), by rw [hws]; exact G.out.2.1.set rfl (by omega), G.out.2.2.1.grown hg (.inr (by omega)), grownBy_far G.out.2.2.2.1 hg (by omega), hlt, hle⟩)
 go_upto_region 6 with fail
 rw [← hws]
 clear hws hfz hcl hv G
 obtain ⟨d0, d1, d2, d3, d4, d5⟩ := H5.out.2.1.all
 go_wp2_with (refine wpList_store_V rfl 51 (.tmp 2) (.tmp 23) rfl ceV_len one_ce infoCe b _ 0 (rcS zs e) _ rfl (by omega) rfl rfl 51 [ce0] H5.out.1 (by decide) ?_; intro w10 hR hg)
 have H6 := Lib.hid (show Rz base r (q4S zs e).2.1 (q4S zs e).2.2 w10 ∧ w.grownBy w10 (some r) from ⟨H5.out.2.2.1.grown hg (.inr H5.out.2.2.2.2.1), grownBy_far H5.out.2.2.2.1 hg H5.out.2.2.2.2.2⟩)
 clear hg d0 d1 d2 d3 d4 d5
 obtain ⟨y0, y1, y2, y3, y4, y5⟩ := Cb.all (x := rcS zs e) hR
 exact bodyPost_ret (v := .agg (ceA (rcS zs e))) (by simp [results, Tryd.results104, ceA, go_sem, y0, y1, y2, y3, y4, y5]) rfl ⟨rfl, H6.out.1, H6.out.2⟩
open Go.RowKit
structure Gr2 (g r : Nat) (w w' : World) : Prop where
 os : w'.os = w.os
 tape : w'.tape = w.tape
 output : w'.output = w.output
 size : w.heap.size ≤ w'.heap.size
 block : ∀ k, k < w.heap.size → k ≠ g → k ≠ r → w'.heap[k]? = w.heap[k]?
theorem Gr2.refl (g r : Nat) (w : World) : Gr2 g r w w := ⟨rfl, rfl, rfl, Nat.le_refl _, fun _ _ _ _ => rfl⟩
theorem Gr2.trans {g r : Nat} {a b c : World} (h : Gr2 g r a b) (k : Gr2 g r b c) : Gr2 g r a c :=
 ⟨k.os.trans h.os, k.tape.trans h.tape, k.output.trans h.output, Nat.le_trans h.size k.size, fun i hi h1 h2 => (k.block i (Nat.lt_of_lt_of_le hi h.size) h1 h2).trans (h.block i hi h1 h2)⟩
theorem Gr2.of1 {g r : Nat} {w w' : World} (h : w.grownBy w' (some r)) : Gr2 g r w w' := ⟨h.os, h.tape, h.output, h.size, fun k hk _ h2 => h.block k hk (by intro e; injection e with e; exact h2 e)⟩
theorem Gr2.of2 {g r : Nat} {w w' : World} (h : w.grownBy w' (some g)) : Gr2 g r w w' := ⟨h.os, h.tape, h.output, h.size, fun k hk h1 _ => h.block k hk (by intro e; injection e with e; exact h1 e)⟩
theorem Gr2.below {g r : Nat} {w w' : World} (h : Below w.heap.size w w') : Gr2 g r w w' := ⟨h.os, h.tape, h.output, h.size, fun k hk _ _ => h.block k hk⟩
theorem Gr2.toBelow {g r B : Nat} {w w' : World} (h : Gr2 g r w w') (hg : B ≤ g) (hr : B ≤ r) (hB : B ≤ w.heap.size) : Below B w w' := ⟨h.os, h.tape, h.output, h.size, fun k hk => h.block k (by omega) (by omega) (by omega)⟩
theorem Gr2.rw {α : Type} {f : α → List Value} {t : TypeId} {g r q : Nat} {w w' : World} {L : List α} (h : Gr2 g r w w') (k : Rw f t w q L) (h1 : q ≠ g) (h2 : q ≠ r) : Rw f t w' q L := k.kept (h.block q k.lt h1 h2)
theorem okC_may {c : Ce} (h : c.p.fg < 65536) (h' : c.p.bg < 65536) : okC c = cellMay c := by
 unfold okC
 cases hm : cellMay c
 · rfl
 · have h1 : penMayS c.p = true := by unfold cellMay at hm; simp only [Bool.and_eq_true] at hm; exact hm.1
   unfold penMayS colMay at h1
   simp only [Bool.and_eq_true, decide_eq_true_eq] at h1
   rw [decide_eq_true (show c.p.fg ≤ 256 by omega), decide_eq_true (show c.p.bg ≤ 256 by omega)]
   rfl
def CsEnd (base g r n i0 : Nat) (L : List Ce) (zs : List Int) (w : World) (e' : Ending) (w' : World) : Prop :=
 Gr2 g r w w' ∧ ((∃ L' zs', rdIn n i0 L zs = .ok (L', zs') ∧ e' = .returned (.int .i64 0) ∧ Rz base r zs' 0 w' ∧ Rw ceV 51 w' g L' ∧ L'.length = L.length) ∨ (∃ E : Int, rdIn n i0 L zs = .error E ∧ E ≠ 0 ∧ e' = .returned (.int .i64 E)))
theorem rc_bd {zs : List Int} (h : U8s zs) (e : Int) : (rcS zs e).p.fg < 65536 ∧ (rcS zs e).p.bg < 65536 := by
 have h1 : U8s (q1S zs e).2.1 := num1_u8 h _ _
 have h2 : U8s (q2S zs e).2.1 := num1_u8 h1 _ _
 exact ⟨(num1_bd h1 _ 2).2, (num1_bd h2 _ 2).2⟩
set_option maxHeartbeats 6400000 in
set_option maxRecDepth 100000 in
theorem readCells_any {base g r n i0 cc : Nat} {L : List Ce} {zs : List Int} {w : World} (hT : ∀ w', Gr2 g r w w' → Tabs w') (h : Rz base r zs 0 w) (hR : Rw ceV 51 w g L) (hg : g < base ∨ r < g) (hn : i0 + n ≤ L.length) (hl : L.length ≤ 4000) :
  Calls Tryd.prog 85 #[.pointer (some ⟨r, 0, none⟩), .slice (some ⟨g, i0 * 6, none⟩) n cc] w (CsEnd base g r n i0 L zs w) := by
 have HT := Lib.hid hT
 have HG := Lib.hid (And.intro hg (And.intro hn hl))
 have H0 := Lib.hid (And.intro h hR)
 have hn8 : n ≤ 4000 := by omega
 clear hT h hR hg hn hl
 go_enter Tryd.func85, Tryd.ntmps85
 go_wp2_with fail
 go_loopw [10] (fun v wr => ∃ (i : Nat) (M : List Ce) (zz : List Int), i ≤ n ∧ v = .int .i64 i ∧ Gr2 g r w wr ∧ Rz base r zz 0 wr ∧ Rw ceV 51 wr g M ∧ M.length = L.length ∧ rdIn n i0 L zs = rdIn (n - i) (i0 + i) M zz) (fun v _ => n - (intOf v).toNat)
 case atStart => exact ⟨0, L, zs, Nat.zero_le _, rfl, Gr2.refl _ _ _, H0.out.1, H0.out.2, rfl, rfl⟩
 case round =>
  obtain ⟨i, M, zz, hi, rfl, h1, h2, h3, h4, h5⟩ := hrel
  have Y := Lib.hid (And.intro h1 (And.intro h2 (And.intro h3 (And.intro h4 h5))))
  clear h1 h2 h3 h4 h5 H0
  by_cases hlt : i < n
  · have PC := Lib.hid (readCell_any Y.out.2.1)
    obtain ⟨c, hc⟩ : ∃ c, rcS zz 0 = c := ⟨_, rfl⟩
    obtain ⟨E, hE⟩ : ∃ E, (q4S zz 0).2.2 = E := ⟨_, rfl⟩
    rw [hc, hE] at PC
    have HC := Lib.hid (And.intro hc hE)
    clear hc hE
    go_upto_region 4 with fail
    go_wp2_with fail
    refine PC.out.mono ?_
    rintro e' w2 ⟨rfl, h1, h2⟩
    obtain ⟨b3, hb3⟩ : ∃ b3, b3 = w2.heap.size := ⟨_, rfl⟩
    obtain ⟨w3, hw3⟩ : ∃ w3, w3 = w2.alloc (.cells (ceA c) 51) := ⟨_, rfl⟩
    have H3 := Lib.hid (show Cb w3 b3 c ∧ Gr2 g r w w3 ∧ Rz base r (q4S zz 0).2.1 E w3 ∧ Rw ceV 51 w3 g M ∧ g < b3 ∧ r < b3 from by
     have hb : Below w2.heap.size w2 w3 := by rw [hw3]; exact (Below.refl _ _).alloc (Nat.le_refl _) _
     have hne : some r ≠ some g := by intro e; injection e with e; have := HG.out.1; have := h1.lo; omega
     have hR2 := Y.out.2.2.1.grown h2 hne
     refine ⟨by rw [hw3, hb3]; exact Cb.new w2 c, (Y.out.1.trans (Gr2.of1 h2)).trans (Gr2.below hb), h1.below hb, hR2.below hb, by rw [hb3]; exact hR2.lt, by rw [hb3]; exact h1.lt⟩)
    clear h1 h2 PC
    unfold ceA at hw3 ⊢
    go_upto_region 5 with fail
    rw [← hw3, ← hb3]
    clear hw3 hb3
    obtain ⟨A5, n5, c5, hrd⟩ := H3.out.2.2.1.rd
    have PE := Lib.hid (err_any hrd)
    clear hrd
    go_wp2_with fail
    refine PE.out.mono ?_
    rintro e' w4 ⟨rfl, rfl⟩
    clear PE
    by_cases h9 : zz.length < 9
    · have hE2 : E = 2 := by rw [← HC.out.2]; exact rc_short h9
      subst hE2
      have X : CsEnd base g r n i0 L zs w (.returned (.int .i64 2)) w3 := by
       refine ⟨H3.out.2.1, .inr ⟨2, ?_, by decide, rfl⟩⟩
       rw [Y.out.2.2.2.2, show n - i = (n - i - 1) + 1 from by omega]
       exact rdIn_short h9
      go_wp2_with fail
      go_ret
      exact X
    · have hok := rc_ok (zs := zz) (by omega)
      have hE0 : E = 0 := by rw [← HC.out.2]; exact hok.2.1
      subst hE0
      have HCC := Lib.hid (show c = cellOf zz ∧ (q4S zz 0).2.1 = zz.drop 9 ∧ okC c = cellMay c from ⟨by rw [← HC.out.1]; exact hok.2.2, hok.1, by rw [← HC.out.1]; exact okC_may (rc_bd Y.out.2.1.u8 0).1 (rc_bd Y.out.2.1.u8 0).2⟩)
      clear hok
      obtain ⟨d0, d1, d2, d3, d4, d5⟩ := H3.out.1.all
      have PM := Lib.hid (ceMay_any c (HT.out _ H3.out.2.1))
      obtain ⟨K, hK⟩ : ∃ K, cellMay c = K := ⟨_, rfl⟩
      rw [hK] at PM HCC
      clear hK
      unfold ceA at PM
      go_wp2_with fail
      refine PM.out.mono ?_
      rintro e' w5 ⟨rfl, hb5⟩
      have H5 := Lib.hid (show Cb w5 b3 c ∧ Gr2 g r w w5 ∧ Rz base r (zz.drop 9) 0 w5 ∧ Rw ceV 51 w5 g M ∧ g < b3 ∧ r < b3 from ⟨H3.out.1.below hb5, H3.out.2.1.trans (Gr2.below hb5), by rw [← HCC.out.2.1]; exact H3.out.2.2.1.below hb5, H3.out.2.2.2.1.below hb5, H3.out.2.2.2.2⟩)
      clear hb5 PM d0 d1 d2 d3 d4 d5 H3
      cases K
      · have X : CsEnd base g r n i0 L zs w (.returned (.int .i64 3)) w5 := by
         refine ⟨H5.out.2.1, .inr ⟨3, ?_, by decide, rfl⟩⟩
         rw [Y.out.2.2.2.2, show n - i = (n - i - 1) + 1 from by omega]
         exact rdIn_bad h9 (by rw [← HCC.out.1]; exact HCC.out.2.2)
        go_wp2_with fail
        go_ret
        exact X
      · obtain ⟨d0, d1, d2, d3, d4, d5⟩ := H5.out.1.all
        have HML := Lib.hid (show i0 + i < M.length from by have := Y.out.2.2.2.1; have := HG.out.2.1; omega)
        go_upto_region 10 with fail
        go_wp2_with (refine wpList_store_V rfl 51 (.tmp 26) (.tmp 25) rfl ceV_len one_ce infoCe g _ (i0 + i) c _ rfl (by omega) rfl rfl 51 M H5.out.2.2.2.1 HML.out ?_; intro w6 hR6 hg6)
        have H6 := Lib.hid (show Gr2 g r w w6 ∧ Rz base r (zz.drop 9) 0 w6 ∧ Rw ceV 51 w6 g (M.set (i0 + i) c) ∧ (M.set (i0 + i) c).length = L.length ∧ rdIn n i0 L zs = rdIn (n - (i + 1)) (i0 + (i + 1)) (M.set (i0 + i) c) (zz.drop 9) from by
         refine ⟨H5.out.2.1.trans (Gr2.of2 hg6), H5.out.2.2.1.grown hg6 HG.out.1, hR6, by rw [List.length_set]; exact Y.out.2.2.2.1, ?_⟩
         rw [Y.out.2.2.2.2, show n - i = (n - (i + 1)) + 1 from by omega, rdIn_one h9 (by rw [← HCC.out.1]; exact HCC.out.2.2), ← HCC.out.1]
         rfl)
        clear hR6 hg6 d0 d1 d2 d3 d4 d5 H5
        go_wp2_with fail
        go_roundw
        case rel => exact ⟨i + 1, _, _, by omega, by go_num, H6.out.1, H6.out.2.1, H6.out.2.2.1, H6.out.2.2.2.1, H6.out.2.2.2.2⟩
        case measure => simp [intOf]; omega
  · have hin : i = n := by omega
    subst hin
    have X : CsEnd base g r i i0 L zs w (.returned (.int .i64 0)) wr := by
     refine ⟨Y.out.1, .inl ⟨M, zz, ?_, rfl, Y.out.2.1, Y.out.2.2.1, Y.out.2.2.2.1⟩⟩
     rw [Y.out.2.2.2.2, Nat.sub_self, rdIn_none]
    go_wp2_with fail
    go_ret
    exact X
end Go.Proofs.YtikhknnhmnopbaaDoor
