/-
  Proved: WireReads answers true for all bytes and all reads.
-/
import Derived.Test.YtjgcfiffbibonaaOpen
import Derived.Test.YtjgcfiffbibonaaReadsInv
import Derived.Test.YtjgcfiffbibonaaOpenReads
import Derived.WalkKit
import Derived.Deep.RegionHeld3
namespace Go.Proofs.Ytjgcfiffbibonaa.wireReads
open Go.ChangeShapes Go.WideShapes Go.ChangeAt Go.RowKit

set_option maxRecDepth 100000 in
set_option maxHeartbeats 6400000 in
theorem walk {A B : Option Addr} {n c m d : Nat} {bs : List Int} {Ks Ns : Nat → Int} (w : World) (hs : Sb w A n bs) (hu : U8s bs) (hn : n ≤ 140737488351232) (hl : n ≤ c ∧ c ≤ maxLen) (ht : Sr w B m Ks Ns) :
    Calls Try.prog 4 #[.slice A n c, .slice B m d] w fun e w' => e = .returned (.bool true) ∧ Below w.heap.size w w' := by
  have LEN := Lib.hid hs.len
  have HS := Lib.hid hs
  have HL := Lib.hid hl
  have T1 := Lib.hid ht
  have hm := ht.max
  clear hl ht
  go_enter Try.func4, Try.ntmps4
  go_wp2_with fail
  refine (copy_any hs (by omega)).mono ?_
  rintro e w1 ⟨g0, rfl, hown, hb1⟩
  have B1 := Lib.hid hb1
  have O1 := Lib.hid hown
  clear hs hown hb1
  go_wp2_with fail
  refine (new_any (Sb.own O1.out) (by omega)).mono ?_
  rintro e w2 ⟨r, A2, n2, c2, rfl, hr, hb2⟩
  obtain rfl : n = n2 := LEN.out.symm.trans hr.sb.len
  have X2 : Hid (KB w A n c bs w2.heap.size w1.heap.size r A2 c2 0 0 (w2.alloc (.cells #[.slice A n c, .int .i64 0, .int .i64 0] 39))) :=
    ⟨by simpa using hr.below ((Below.refl _ _).alloc (Nat.le_refl _) _), heap_alloc_new _ _, Nat.zero_le _, (B1.out.trans (hb2.mono B1.out.size)).alloc (Nat.le_trans B1.out.size hb2.size) _, hr.lt, B1.out.size⟩
  have G0 := Lib.hid (own_block O1.out)
  have O2 : Hid (KO w.heap.size (some ⟨g0, 0, none⟩) n n (w2.alloc (.cells #[.slice A n c, .int .i64 0, .int .i64 0] 39))) :=
    ⟨bs, hu, (O1.out.kept (grownBy_below (row := none) hb2) (by simp [Value.ownBlock])).alloc _⟩
  clear hr hb2 O1 B1
  go_wp2_with fail
  refine (fixed_any _).mono ?_
  rintro e w3 ⟨rfl, hb3⟩
  have X3 := Lib.hid (X2.out.on hb3)
  have O3 : Hid (KO w.heap.size (some ⟨g0, 0, none⟩) n n w3) := by
    obtain ⟨ys, h1, h2⟩ := O2.out
    exact ⟨ys, h1, h2.kept (grownBy_below (row := none) hb3) (by simp [Value.ownBlock])⟩
  obtain ⟨bm, hbm⟩ : ∃ bm, bm = w2.heap.size := ⟨_, rfl⟩
  obtain ⟨base, hbase⟩ : ∃ base, base = w1.heap.size := ⟨_, rfl⟩
  rw [← hbm, ← hbase] at X3
  rw [← hbm]
  clear hbm
  rw [← hbase] at G0
  clear hbase
  have hb3' := X3.out.lt
  clear hb3 O2 X2
  go_wp2
  go_loopw [30] (fun i wr => ∃ k : Nat, k ≤ n ∧ i = .int .i64 k ∧ KB w A n c bs bm base r A2 c2 0 0 wr ∧ KO w.heap.size (some ⟨g0, 0, none⟩) n n wr) (fun i _ => n - (intOf i).toNat)
  case atStart => exact ⟨0, Nat.zero_le _, rfl, X3.out, O3.out⟩
  case round =>
    clear X3 O3
    obtain ⟨k, hk, rfl, kb, ko⟩ := hrel
    by_cases hlt : k < n
    · obtain ⟨g, z, hgA, hWg, hcell, hz0, hz1, hfz, hset⟩ := ko.step hlt
      obtain rfl : g0 = g := by simpa using hgA
      have HSET := Lib.hid hset
      have KB' : ∀ u, KB w A n c bs bm base r A2 c2 0 0 (wr.setCell ⟨g0, k, none⟩ u) := fun u => kb.ahead G0.out.2 G0.out.1 u
      have HKB := Lib.hid KB'
      clear hset KB' kb ko hgA
      go_wp2
      go_roundw
      case rel => exact ⟨k + 1, by omega, by go_num, HKB.out _, HSET.out _ (by first | omega | (rw [IntKind.wrap_u8']; omega)) (by first | omega | (rw [IntKind.wrap_u8']; omega))⟩
      case measure => simp [intOf] <;> omega
    · have HKB := Lib.hid kb
      clear kb ko
      have hbm2 : bm < wr.heap.size := HKB.out.lt
      clear hbm2
      go_wp2
      obtain ⟨wo, hwo⟩ : ∃ wo : World, wo = wr := ⟨_, rfl⟩
      rw [← hwo] at HKB ⊢
      clear hwo
      go_loopw [44] (fun i wr => ∃ j : Nat, j ≤ m ∧ i = .int .i64 j ∧ KX w A n c bs bm base r wr) (fun i _ => m - (intOf i).toNat)
      case atStart => exact ⟨0, by omega, rfl, HKB.out.kx⟩
      case round =>
        clear HKB
        obtain ⟨j, hj, rfl, A8, c8, a, e, kb⟩ := hrel
        by_cases hlt2 : j < m
        · obtain ⟨ad, rfl⟩ := T1.out.addr (by omega)
          obtain ⟨q0, q1, q2, q3⟩ := (T1.out.below kb.bel).cell hlt2
          rw [← addAdd] at q1
          have q4 : wr.cell? ⟨(ad.add (j * 2)).block, (ad.add (j * 2)).off + 1, none⟩ = some (.int .i64 (Ns j)) := q1
          clear q1
          by_cases h300 : 300 < j
          · have HB := Lib.hid (kb.bel.alloc kb.bel.size (.cells #[.int .i64 (Ks j), .int .i64 (Ns j)] 41))
            clear kb
            go_wp2
            go_ret
            exact ⟨rfl, HB.out⟩
          · have hbm : bm < wr.heap.size := kb.lt
            have KB1 := Lib.hid (kb.on ((Below.refl wr.heap.size wr).alloc (Nat.le_refl _) (.cells #[.int .i64 (Ks j), .int .i64 (Ns j)] 41)))
            obtain ⟨kj, hkj⟩ : ∃ kj, kj = Ks j := ⟨_, rfl⟩
            obtain ⟨nj, hnj⟩ : ∃ nj, nj = Ns j := ⟨_, rfl⟩
            rw [← hkj, ← hnj] at KB1
            rw [← hkj] at q0
            rw [← hnj] at q4 q2 q3
            clear hkj hnj kb
            by_cases k0 : kj = 0
            · have t0 : (kj == 0) = true := by simpa using k0
              clear k0
              go_wp2_with fail
              refine (rnum_any KB1.out.rd (hu.drop a) (by omega) nj q3).mono ?_
              rintro e' w4 ⟨rfl, hto⟩
              have X4 := Lib.hid (KB1.out.call hto)
              obtain ⟨p0, p1, p2, pf⟩ := box_cells X4.out.1
              have pN : w4.cell? ⟨wr.heap.size, 1, none⟩ = some (.int .i64 nj) := (World.cell?_of_block (hto.2.block wr.heap.size (by simp) (by have := KB1.out.ord; simp; omega))).trans (cell_of_row _ _ _ _ _ _ (heap_alloc_new _ _))
              have HTO := Lib.hid hto
              clear hto
              go_wp2_with fail
              refine (refNumR_any w4 (HS.out.below X4.out.2) hu HL.out KB1.out.ha (by omega) nj q3).mono ?_
              rintro e' w5 ⟨u, rfl, ⟨a2, ha2, hd2, rfl⟩, hb5⟩
              obtain ⟨A9, c9, hk5⟩ := KB1.out.next HTO.out hb5 LEN.out ha2 hd2
              have b5 := (hb5.block bm (lt_of_block X4.out.1)).trans X4.out.1
              obtain ⟨s0, s1, s2, sf⟩ := box_cells b5
              have HAA : a2 ≤ n := ha2
              have kk5 : KK w A n c bs bm base r A9 c9 a2 (num1 (bs.drop a) e nj).2.2 wr.heap.size none 0 0 none 0 [] _ := ⟨hk5, KS.nil _ _⟩
              obtain ⟨Q, hQ⟩ : ∃ Q, Q = num1 (bs.drop a) e nj := ⟨_, rfl⟩
              rw [← hQ] at kk5 ⊢
              obtain ⟨Q1, Q2, Q3⟩ := Q
              clear hQ hd2 hk5 b5 pN p0 p1 p2 pf hb5 HTO q0 q4
              go_wp2_with fail
              generalize ((w5.setCell ⟨bm, 0, none⟩ (.slice A n c)).setCell ⟨bm, 1, none⟩ (.int .i64 a2)).setCell ⟨bm, 2, none⟩ (.int .i64 Q3) = w6 at kk5 ⊢
              go_region_held3 (fun w' => KK w A n c bs bm base r A9 c9 a2 Q3 wr.heap.size none 0 0 none 0 ([] : List Int) w' ∧ w'.cell? ⟨bm, 0, none⟩ = some (.slice A n c) ∧ w'.cell? ⟨bm, 1, none⟩ = some (.int .i64 a2) ∧ w'.cell? ⟨bm, 2, none⟩ = some (.int .i64 Q3))
                (first | assumption | exact KK.cells (by assumption) | exact KK.cells (KK.drew (by assumption)) | exact KK.cells (KK.drewN (by assumption) _))
                (first
                  | (go_at_call 13; refine (KK.same (And.left (by assumption : KK w A n c bs bm base r A9 c9 a2 Q3 wr.heap.size none 0 0 none 0 ([] : List Int) _ ∧ _)) (by omega)).mono ?_; rintro e' w' ⟨rfl, q, rfl⟩; have hk := KK.drewN (And.left (by assumption : KK w A n c bs bm base r A9 c9 a2 Q3 wr.heap.size none 0 0 none 0 ([] : List Int) _ ∧ _)) q)
                  | (go_at_call 27; refine (left_any (And.left (by assumption : KK w A n c bs bm base r A9 c9 a2 Q3 wr.heap.size none 0 0 none 0 ([] : List Int) _ ∧ _)).1.rd).mono ?_; rintro e' w' ⟨rfl, rfl⟩)
                  | (go_at_call 28; refine (refLeft_any _ HAA (by omega)).mono ?_; rintro e' w' ⟨rfl, hb⟩; have hk := KK.on (And.left (by assumption : KK w A n c bs bm base r A9 c9 a2 Q3 wr.heap.size none 0 0 none 0 ([] : List Int) _ ∧ _)) hb)
                  | (go_at_call 29; refine (err_any (And.left (by assumption : KK w A n c bs bm base r A9 c9 a2 Q3 wr.heap.size none 0 0 none 0 ([] : List Int) _ ∧ _)).1.rd).mono ?_; rintro e' w' ⟨rfl, rfl⟩)
                  | (go_at_call 30; refine (end_any (And.left (by assumption : KK w A n c bs bm base r A9 c9 a2 Q3 wr.heap.size none 0 0 none 0 ([] : List Int) _ ∧ _)).1.rd).mono ?_; rintro e' w' ⟨rfl, rfl⟩)
                  | (go_at_call 31; refine (refEnd_any _ HAA (by omega)).mono ?_; rintro e' w' ⟨rfl, hb⟩; have hk := KK.on (And.left (by assumption : KK w A n c bs bm base r A9 c9 a2 Q3 wr.heap.size none 0 0 none 0 ([] : List Int) _ ∧ _)) hb))
              have hkk := (And.left (by assumption : KK w A n c bs bm base r A9 c9 a2 Q3 wr.heap.size none 0 0 _ _ _ _ ∧ _))
              have hbmW := hbm
              obtain ⟨k1, k2⟩ := hkk
              have hko : KO wr.heap.size none 0 0 _ := ⟨_, k2.u8, k2.own1⟩
              have HKB := Lib.hid k1
              have HKO := Lib.hid hko
              clear k1 k2 hko
              go_wp2
              obtain ⟨wy, hwy⟩ : ∃ wy : World, wy = wr := ⟨_, rfl⟩
              rw [← hwy] at HKO hbmW
              clear hwy
              go_loopw [133] (fun i wx => ∃ t : Nat, t ≤ 0 ∧ i = .int .i64 t ∧ KB w A n c bs bm base r A9 c9 a2 Q3 wx ∧ KO wy.heap.size none 0 0 wx) (fun i _ => 0 - (intOf i).toNat)
              case atStart => exact ⟨0, Nat.zero_le _, rfl, HKB.out, HKO.out⟩
              case round =>
                clear HKB HKO
                obtain ⟨t, htl, rfl, kb, ko⟩ := hrel
                · obtain rfl : t = 0 := by omega
                  have HK9 := Lib.hid kb
                  clear htl kb ko
                  go_wp2
                  go_roundw
                  case rel => exact ⟨j + 1, by omega, by go_num, HK9.out.kx⟩
                  case measure =>
                    first | (simp only [intOf]; omega) | (dsimp only [intOf]; omega) | (go_show; simp [intOf]; omega)
            · have t0 : (kj == 0) = false := by simpa using k0
              by_cases k1 : kj = 1
              · have t1 : (kj == 1) = true := by simpa using k1
                clear k0 k1
                go_wp2_with fail
                refine (rvar_any KB1.out.rd (hu.drop a) (by omega)).mono ?_
                rintro e' w4 ⟨rfl, hto⟩
                have X4 := Lib.hid (KB1.out.call hto)
                obtain ⟨p0, p1, p2, pf⟩ := box_cells X4.out.1
                have pN : w4.cell? ⟨wr.heap.size, 1, none⟩ = some (.int .i64 nj) := (World.cell?_of_block (hto.2.block wr.heap.size (by simp) (by have := KB1.out.ord; simp; omega))).trans (cell_of_row _ _ _ _ _ _ (heap_alloc_new _ _))
                have HTO := Lib.hid hto
                clear hto
                go_wp2_with fail
                refine (refVarR_any w4 (HS.out.below X4.out.2) hu HL.out KB1.out.ha (by omega)).mono ?_
                rintro e' w5 ⟨u, rfl, ⟨a2, ha2, hd2, rfl⟩, hb5⟩
                obtain ⟨A9, c9, hk5⟩ := KB1.out.next HTO.out hb5 LEN.out ha2 hd2
                have b5 := (hb5.block bm (lt_of_block X4.out.1)).trans X4.out.1
                obtain ⟨s0, s1, s2, sf⟩ := box_cells b5
                have HAA : a2 ≤ n := ha2
                have kk5 : KK w A n c bs bm base r A9 c9 a2 (var1 (bs.drop a) e).2.2 wr.heap.size none 0 0 none 0 [] _ := ⟨hk5, KS.nil _ _⟩
                obtain ⟨Q, hQ⟩ : ∃ Q, Q = var1 (bs.drop a) e := ⟨_, rfl⟩
                rw [← hQ] at kk5 ⊢
                obtain ⟨Q1, Q2, Q3⟩ := Q
                clear hQ hd2 hk5 b5 pN p0 p1 p2 pf hb5 HTO q0 q4
                go_wp2_with fail
                generalize ((w5.setCell ⟨bm, 0, none⟩ (.slice A n c)).setCell ⟨bm, 1, none⟩ (.int .i64 a2)).setCell ⟨bm, 2, none⟩ (.int .i64 Q3) = w6 at kk5 ⊢
                go_region_held3 (fun w' => KK w A n c bs bm base r A9 c9 a2 Q3 wr.heap.size none 0 0 none 0 ([] : List Int) w' ∧ w'.cell? ⟨bm, 0, none⟩ = some (.slice A n c) ∧ w'.cell? ⟨bm, 1, none⟩ = some (.int .i64 a2) ∧ w'.cell? ⟨bm, 2, none⟩ = some (.int .i64 Q3))
                  (first | assumption | exact KK.cells (by assumption) | exact KK.cells (KK.drew (by assumption)) | exact KK.cells (KK.drewN (by assumption) _))
                  (first
                    | (go_at_call 13; refine (KK.same (And.left (by assumption : KK w A n c bs bm base r A9 c9 a2 Q3 wr.heap.size none 0 0 none 0 ([] : List Int) _ ∧ _)) (by omega)).mono ?_; rintro e' w' ⟨rfl, q, rfl⟩; have hk := KK.drewN (And.left (by assumption : KK w A n c bs bm base r A9 c9 a2 Q3 wr.heap.size none 0 0 none 0 ([] : List Int) _ ∧ _)) q)
                    | (go_at_call 27; refine (left_any (And.left (by assumption : KK w A n c bs bm base r A9 c9 a2 Q3 wr.heap.size none 0 0 none 0 ([] : List Int) _ ∧ _)).1.rd).mono ?_; rintro e' w' ⟨rfl, rfl⟩)
                    | (go_at_call 28; refine (refLeft_any _ HAA (by omega)).mono ?_; rintro e' w' ⟨rfl, hb⟩; have hk := KK.on (And.left (by assumption : KK w A n c bs bm base r A9 c9 a2 Q3 wr.heap.size none 0 0 none 0 ([] : List Int) _ ∧ _)) hb)
                    | (go_at_call 29; refine (err_any (And.left (by assumption : KK w A n c bs bm base r A9 c9 a2 Q3 wr.heap.size none 0 0 none 0 ([] : List Int) _ ∧ _)).1.rd).mono ?_; rintro e' w' ⟨rfl, rfl⟩)
                    | (go_at_call 30; refine (end_any (And.left (by assumption : KK w A n c bs bm base r A9 c9 a2 Q3 wr.heap.size none 0 0 none 0 ([] : List Int) _ ∧ _)).1.rd).mono ?_; rintro e' w' ⟨rfl, rfl⟩)
                    | (go_at_call 31; refine (refEnd_any _ HAA (by omega)).mono ?_; rintro e' w' ⟨rfl, hb⟩; have hk := KK.on (And.left (by assumption : KK w A n c bs bm base r A9 c9 a2 Q3 wr.heap.size none 0 0 none 0 ([] : List Int) _ ∧ _)) hb))
                have hkk := (And.left (by assumption : KK w A n c bs bm base r A9 c9 a2 Q3 wr.heap.size none 0 0 _ _ _ _ ∧ _))
                have hbmW := hbm
                obtain ⟨k1, k2⟩ := hkk
                have hko : KO wr.heap.size none 0 0 _ := ⟨_, k2.u8, k2.own1⟩
                have HKB := Lib.hid k1
                have HKO := Lib.hid hko
                clear k1 k2 hko
                go_wp2
                obtain ⟨wy, hwy⟩ : ∃ wy : World, wy = wr := ⟨_, rfl⟩
                rw [← hwy] at HKO hbmW
                clear hwy
                go_loopw [133] (fun i wx => ∃ t : Nat, t ≤ 0 ∧ i = .int .i64 t ∧ KB w A n c bs bm base r A9 c9 a2 Q3 wx ∧ KO wy.heap.size none 0 0 wx) (fun i _ => 0 - (intOf i).toNat)
                case atStart => exact ⟨0, Nat.zero_le _, rfl, HKB.out, HKO.out⟩
                case round =>
                  clear HKB HKO
                  obtain ⟨t, htl, rfl, kb, ko⟩ := hrel
                  · obtain rfl : t = 0 := by omega
                    have HK9 := Lib.hid kb
                    clear htl kb ko
                    go_wp2
                    go_roundw
                    case rel => exact ⟨j + 1, by omega, by go_num, HK9.out.kx⟩
                    case measure =>
                      first | (simp only [intOf]; omega) | (dsimp only [intOf]; omega) | (go_show; simp [intOf]; omega)
              · have t1 : (kj == 1) = false := by simpa using k1
                by_cases k2 : kj = 2
                · have t2 : (kj == 2) = true := by simpa using k2
                  clear k0 k1 k2
                  go_wp2_with fail
                  refine (rtext_any KB1.out.rd (hu.drop a) (by omega) nj q3).mono ?_
                  rintro e' w4 ⟨v1, rfl, ⟨A1, n1, c1, rfl, hf⟩, hto⟩
                  have X4 := Lib.hid (KB1.out.call hto)
                  obtain ⟨p0, p1, p2, pf⟩ := box_cells X4.out.1
                  have pN : w4.cell? ⟨wr.heap.size, 1, none⟩ = some (.int .i64 nj) := (World.cell?_of_block (hto.2.block wr.heap.size (by simp) (by have := KB1.out.ord; simp; omega))).trans (cell_of_row _ _ _ _ _ _ (heap_alloc_new _ _))
                  have HTO := Lib.hid hto
                  have HF := Lib.hid hf
                  have hn1 : n1 ≤ 9223372036854775807 := by have h1 := hf.le; have h2 := hf.max; unfold maxLen at h2; omega
                  clear hf
                  clear hto
                  go_wp2_with fail
                  refine (refTextR_any w4 (HS.out.below X4.out.2) hu HL.out KB1.out.ha (by omega) nj q2 q3).mono ?_
                  rintro e' w5 ⟨v2, u, rfl, ⟨A2, n2, c2, rfl, hm5⟩, ⟨a2, ha2, hd2, rfl⟩⟩
                  obtain ⟨A9, c9, hk5⟩ := KB1.out.next HTO.out hm5.below LEN.out ha2 hd2
                  have b5 := (hm5.below.block bm (lt_of_block X4.out.1)).trans X4.out.1
                  obtain ⟨s0, s1, s2, sf⟩ := box_cells b5
                  have HAA : a2 ≤ n := ha2
                  obtain rfl : n1 = n2 := HF.out.len.symm.trans hm5.len
                  have ks : KS wr.heap.size A1 n1 c1 A2 c2 (text1 (bs.drop a) e nj).1 w5 := ⟨own_base (HF.out.own.kept (grownBy_below (row := none) hm5.below) (by cases h : (Value.slice A1 n1 c1).ownBlock <;> simp)) (by simp), own_base hm5.own (by have := HTO.out.2.size; simp at this; omega), fun z hz => hu z (List.mem_of_mem_drop (text1_mem hz))⟩
                  have kk5 : KK w A n c bs bm base r A9 c9 a2 (text1 (bs.drop a) e nj).2.2 wr.heap.size A1 n1 c1 A2 c2 (text1 (bs.drop a) e nj).1 _ := ⟨hk5, ((ks.set (p := ⟨bm, 0, none⟩) hbm _).set (p := ⟨bm, 1, none⟩) hbm _).set (p := ⟨bm, 2, none⟩) hbm _⟩
                  obtain ⟨Q, hQ⟩ : ∃ Q, Q = text1 (bs.drop a) e nj := ⟨_, rfl⟩
                  rw [← hQ] at kk5 ⊢
                  obtain ⟨Q1, Q2, Q3⟩ := Q
                  clear hQ hd2 hk5 b5 pN p0 p1 p2 pf ks hm5 HTO HF q0 q4
                  go_wp2_with fail
                  generalize ((w5.setCell ⟨bm, 0, none⟩ (.slice A n c)).setCell ⟨bm, 1, none⟩ (.int .i64 a2)).setCell ⟨bm, 2, none⟩ (.int .i64 Q3) = w6 at kk5 ⊢
                  go_region_held3 (fun w' => KK w A n c bs bm base r A9 c9 a2 Q3 wr.heap.size A1 n1 c1 A2 c2 Q1 w' ∧ w'.cell? ⟨bm, 0, none⟩ = some (.slice A n c) ∧ w'.cell? ⟨bm, 1, none⟩ = some (.int .i64 a2) ∧ w'.cell? ⟨bm, 2, none⟩ = some (.int .i64 Q3))
                    (first | assumption | exact KK.cells (by assumption) | exact KK.cells (KK.drew (by assumption)) | exact KK.cells (KK.drewN (by assumption) _))
                    (first
                      | (go_at_call 13; refine (KK.same (And.left (by assumption : KK w A n c bs bm base r A9 c9 a2 Q3 wr.heap.size A1 n1 c1 A2 c2 Q1 _ ∧ _)) (by omega)).mono ?_; rintro e' w' ⟨rfl, q, rfl⟩; have hk := KK.drewN (And.left (by assumption : KK w A n c bs bm base r A9 c9 a2 Q3 wr.heap.size A1 n1 c1 A2 c2 Q1 _ ∧ _)) q)
                      | (go_at_call 27; refine (left_any (And.left (by assumption : KK w A n c bs bm base r A9 c9 a2 Q3 wr.heap.size A1 n1 c1 A2 c2 Q1 _ ∧ _)).1.rd).mono ?_; rintro e' w' ⟨rfl, rfl⟩)
                      | (go_at_call 28; refine (refLeft_any _ HAA (by omega)).mono ?_; rintro e' w' ⟨rfl, hb⟩; have hk := KK.on (And.left (by assumption : KK w A n c bs bm base r A9 c9 a2 Q3 wr.heap.size A1 n1 c1 A2 c2 Q1 _ ∧ _)) hb)
                      | (go_at_call 29; refine (err_any (And.left (by assumption : KK w A n c bs bm base r A9 c9 a2 Q3 wr.heap.size A1 n1 c1 A2 c2 Q1 _ ∧ _)).1.rd).mono ?_; rintro e' w' ⟨rfl, rfl⟩)
                      | (go_at_call 30; refine (end_any (And.left (by assumption : KK w A n c bs bm base r A9 c9 a2 Q3 wr.heap.size A1 n1 c1 A2 c2 Q1 _ ∧ _)).1.rd).mono ?_; rintro e' w' ⟨rfl, rfl⟩)
                      | (go_at_call 31; refine (refEnd_any _ HAA (by omega)).mono ?_; rintro e' w' ⟨rfl, hb⟩; have hk := KK.on (And.left (by assumption : KK w A n c bs bm base r A9 c9 a2 Q3 wr.heap.size A1 n1 c1 A2 c2 Q1 _ ∧ _)) hb))
                  have hkk := (And.left (by assumption : KK w A n c bs bm base r A9 c9 a2 Q3 wr.heap.size A1 n1 c1 _ _ _ _ ∧ _))
                  have hbmW := hbm
                  obtain ⟨k1, k2⟩ := hkk
                  have hko : KO wr.heap.size A1 n1 c1 _ := ⟨_, k2.u8, k2.own1⟩
                  have HKB := Lib.hid k1
                  have HKO := Lib.hid hko
                  clear k1 k2 hko
                  go_wp2
                  obtain ⟨wy, hwy⟩ : ∃ wy : World, wy = wr := ⟨_, rfl⟩
                  rw [← hwy] at HKO hbmW
                  clear hwy
                  go_loopw [133] (fun i wx => ∃ t : Nat, t ≤ n1 ∧ i = .int .i64 t ∧ KB w A n c bs bm base r A9 c9 a2 Q3 wx ∧ KO wy.heap.size A1 n1 c1 wx) (fun i _ => n1 - (intOf i).toNat)
                  case atStart => exact ⟨0, Nat.zero_le _, rfl, HKB.out, HKO.out⟩
                  case round =>
                    clear HKB HKO
                    obtain ⟨t, htl, rfl, kb, ko⟩ := hrel
                    by_cases hlt3 : t < n1
                    · obtain ⟨g, z, hgA, hWg, hcell, hz0, hz1, hfz, hset⟩ := ko.step hlt3
                      subst hgA
                      have HSET := Lib.hid hset
                      have KB' : ∀ u, KB w A n c bs bm base r A9 c9 a2 Q3 (wr.setCell ⟨g, t, none⟩ u) := fun u => kb.set (by show bm < g; omega) u
                      have HKB := Lib.hid KB'
                      clear hset KB' kb ko
                      go_wp2
                      go_roundw
                      case rel => exact ⟨t + 1, by omega, by go_num, HKB.out _, HSET.out _ (by first | omega | (rw [IntKind.wrap_u8']; omega)) (by first | omega | (rw [IntKind.wrap_u8']; omega))⟩
                      case measure => simp [intOf] <;> omega
                    · go_wp2
                      go_roundw
                      case rel => exact ⟨j + 1, by omega, by go_num, kb.kx⟩
                      case measure =>
                        clear kb ko
                        first | (simp only [intOf]; omega) | (dsimp only [intOf]; omega) | (go_show; simp [intOf]; omega)
                · have t2 : (kj == 2) = false := by simpa using k2
                  by_cases k3 : kj = 3
                  · have t3 : (kj == 3) = true := by simpa using k3
                    clear k0 k1 k2 k3
                    go_wp2_with fail
                    refine (take_any KB1.out.rd (by omega) nj q3).mono ?_
                    rintro e' w4 ⟨v1, rfl, ⟨A1, n1, c1, rfl, hf⟩, hto⟩
                    have X4 := Lib.hid (KB1.out.call hto)
                    obtain ⟨p0, p1, p2, pf⟩ := box_cells X4.out.1
                    have pN : w4.cell? ⟨wr.heap.size, 1, none⟩ = some (.int .i64 nj) := (World.cell?_of_block (hto.2.block wr.heap.size (by simp) (by have := KB1.out.ord; simp; omega))).trans (cell_of_row _ _ _ _ _ _ (heap_alloc_new _ _))
                    have HTO := Lib.hid hto
                    have HF := Lib.hid hf
                    have hn1 : n1 ≤ 9223372036854775807 := by have h1 := hf.le; have h2 := hf.max; unfold maxLen at h2; omega
                    clear hf
                    clear hto
                    go_wp2_with fail
                    refine (refTake_any w4 (HS.out.below X4.out.2) HL.out KB1.out.ha (by omega) nj q3).mono ?_
                    rintro e' w5 ⟨v2, u, rfl, ⟨A2, n2, c2, rfl, hm5⟩, ⟨a2, ha2, hd2, rfl⟩⟩
                    obtain ⟨A9, c9, hk5⟩ := KB1.out.next HTO.out hm5.below LEN.out ha2 hd2
                    have b5 := (hm5.below.block bm (lt_of_block X4.out.1)).trans X4.out.1
                    obtain ⟨s0, s1, s2, sf⟩ := box_cells b5
                    have HAA : a2 ≤ n := ha2
                    obtain rfl : n1 = n2 := HF.out.len.symm.trans hm5.len
                    have ks : KS wr.heap.size A1 n1 c1 A2 c2 (take1 (bs.drop a) e nj).1 w5 := ⟨own_base (HF.out.own.kept (grownBy_below (row := none) hm5.below) (by cases h : (Value.slice A1 n1 c1).ownBlock <;> simp)) (by simp), own_base hm5.own (by have := HTO.out.2.size; simp at this; omega), fun z hz => hu z (List.mem_of_mem_drop (take1_mem hz))⟩
                    have kk5 : KK w A n c bs bm base r A9 c9 a2 (take1 (bs.drop a) e nj).2.2 wr.heap.size A1 n1 c1 A2 c2 (take1 (bs.drop a) e nj).1 _ := ⟨hk5, ((ks.set (p := ⟨bm, 0, none⟩) hbm _).set (p := ⟨bm, 1, none⟩) hbm _).set (p := ⟨bm, 2, none⟩) hbm _⟩
                    obtain ⟨Q, hQ⟩ : ∃ Q, Q = take1 (bs.drop a) e nj := ⟨_, rfl⟩
                    rw [← hQ] at kk5 ⊢
                    obtain ⟨Q1, Q2, Q3⟩ := Q
                    clear hQ hd2 hk5 b5 pN p0 p1 p2 pf ks hm5 HTO HF q0 q4
                    go_wp2_with fail
                    generalize ((w5.setCell ⟨bm, 0, none⟩ (.slice A n c)).setCell ⟨bm, 1, none⟩ (.int .i64 a2)).setCell ⟨bm, 2, none⟩ (.int .i64 Q3) = w6 at kk5 ⊢
                    go_region_held3 (fun w' => KK w A n c bs bm base r A9 c9 a2 Q3 wr.heap.size A1 n1 c1 A2 c2 Q1 w' ∧ w'.cell? ⟨bm, 0, none⟩ = some (.slice A n c) ∧ w'.cell? ⟨bm, 1, none⟩ = some (.int .i64 a2) ∧ w'.cell? ⟨bm, 2, none⟩ = some (.int .i64 Q3))
                      (first | assumption | exact KK.cells (by assumption) | exact KK.cells (KK.drew (by assumption)) | exact KK.cells (KK.drewN (by assumption) _))
                      (first
                        | (go_at_call 13; refine (KK.same (And.left (by assumption : KK w A n c bs bm base r A9 c9 a2 Q3 wr.heap.size A1 n1 c1 A2 c2 Q1 _ ∧ _)) (by omega)).mono ?_; rintro e' w' ⟨rfl, q, rfl⟩; have hk := KK.drewN (And.left (by assumption : KK w A n c bs bm base r A9 c9 a2 Q3 wr.heap.size A1 n1 c1 A2 c2 Q1 _ ∧ _)) q)
                        | (go_at_call 27; refine (left_any (And.left (by assumption : KK w A n c bs bm base r A9 c9 a2 Q3 wr.heap.size A1 n1 c1 A2 c2 Q1 _ ∧ _)).1.rd).mono ?_; rintro e' w' ⟨rfl, rfl⟩)
                        | (go_at_call 28; refine (refLeft_any _ HAA (by omega)).mono ?_; rintro e' w' ⟨rfl, hb⟩; have hk := KK.on (And.left (by assumption : KK w A n c bs bm base r A9 c9 a2 Q3 wr.heap.size A1 n1 c1 A2 c2 Q1 _ ∧ _)) hb)
                        | (go_at_call 29; refine (err_any (And.left (by assumption : KK w A n c bs bm base r A9 c9 a2 Q3 wr.heap.size A1 n1 c1 A2 c2 Q1 _ ∧ _)).1.rd).mono ?_; rintro e' w' ⟨rfl, rfl⟩)
                        | (go_at_call 30; refine (end_any (And.left (by assumption : KK w A n c bs bm base r A9 c9 a2 Q3 wr.heap.size A1 n1 c1 A2 c2 Q1 _ ∧ _)).1.rd).mono ?_; rintro e' w' ⟨rfl, rfl⟩)
                        | (go_at_call 31; refine (refEnd_any _ HAA (by omega)).mono ?_; rintro e' w' ⟨rfl, hb⟩; have hk := KK.on (And.left (by assumption : KK w A n c bs bm base r A9 c9 a2 Q3 wr.heap.size A1 n1 c1 A2 c2 Q1 _ ∧ _)) hb))
                    have hkk := (And.left (by assumption : KK w A n c bs bm base r A9 c9 a2 Q3 wr.heap.size A1 n1 c1 _ _ _ _ ∧ _))
                    have hbmW := hbm
                    obtain ⟨k1, k2⟩ := hkk
                    have hko : KO wr.heap.size A1 n1 c1 _ := ⟨_, k2.u8, k2.own1⟩
                    have HKB := Lib.hid k1
                    have HKO := Lib.hid hko
                    clear k1 k2 hko
                    go_wp2
                    obtain ⟨wy, hwy⟩ : ∃ wy : World, wy = wr := ⟨_, rfl⟩
                    rw [← hwy] at HKO hbmW
                    clear hwy
                    go_loopw [133] (fun i wx => ∃ t : Nat, t ≤ n1 ∧ i = .int .i64 t ∧ KB w A n c bs bm base r A9 c9 a2 Q3 wx ∧ KO wy.heap.size A1 n1 c1 wx) (fun i _ => n1 - (intOf i).toNat)
                    case atStart => exact ⟨0, Nat.zero_le _, rfl, HKB.out, HKO.out⟩
                    case round =>
                      clear HKB HKO
                      obtain ⟨t, htl, rfl, kb, ko⟩ := hrel
                      by_cases hlt3 : t < n1
                      · obtain ⟨g, z, hgA, hWg, hcell, hz0, hz1, hfz, hset⟩ := ko.step hlt3
                        subst hgA
                        have HSET := Lib.hid hset
                        have KB' : ∀ u, KB w A n c bs bm base r A9 c9 a2 Q3 (wr.setCell ⟨g, t, none⟩ u) := fun u => kb.set (by show bm < g; omega) u
                        have HKB := Lib.hid KB'
                        clear hset KB' kb ko
                        go_wp2
                        go_roundw
                        case rel => exact ⟨t + 1, by omega, by go_num, HKB.out _, HSET.out _ (by first | omega | (rw [IntKind.wrap_u8']; omega)) (by first | omega | (rw [IntKind.wrap_u8']; omega))⟩
                        case measure => simp [intOf] <;> omega
                      · go_wp2
                        go_roundw
                        case rel => exact ⟨j + 1, by omega, by go_num, kb.kx⟩
                        case measure =>
                          clear kb ko
                          first | (simp only [intOf]; omega) | (dsimp only [intOf]; omega) | (go_show; simp [intOf]; omega)
                  · have t3 : (kj == 3) = false := by simpa using k3
                    clear k0 k1 k2 k3
                    obtain ⟨A9, c9, hAc⟩ : ∃ A9 c9, KB w A n c bs bm base r A9 c9 a e (wr.alloc (.cells #[.int .i64 kj, .int .i64 nj] 41)) := ⟨_, _, KB1.out⟩
                    have HAA : a ≤ n := hAc.ha
                    have kk5 : KK w A n c bs bm base r A9 c9 a e wr.heap.size none 0 0 none 0 [] _ := ⟨hAc, KS.nil _ _⟩
                    clear hAc
                    go_wp2_with fail
                    go_region_held3 (fun w' => KK w A n c bs bm base r A9 c9 a e wr.heap.size none 0 0 none 0 ([] : List Int) w' ∧ w'.cell? ⟨bm, 0, none⟩ = some (.slice A n c) ∧ w'.cell? ⟨bm, 1, none⟩ = some (.int .i64 a) ∧ w'.cell? ⟨bm, 2, none⟩ = some (.int .i64 e))
                      (first | assumption | exact KK.cells (by assumption) | exact KK.cells (KK.drew (by assumption)) | exact KK.cells (KK.drewN (by assumption) _))
                      (first
                        | (go_at_call 13; refine (KK.same (And.left (by assumption : KK w A n c bs bm base r A9 c9 a e wr.heap.size none 0 0 none 0 ([] : List Int) _ ∧ _)) (by omega)).mono ?_; rintro e' w' ⟨rfl, q, rfl⟩; have hk := KK.drewN (And.left (by assumption : KK w A n c bs bm base r A9 c9 a e wr.heap.size none 0 0 none 0 ([] : List Int) _ ∧ _)) q)
                        | (go_at_call 27; refine (left_any (And.left (by assumption : KK w A n c bs bm base r A9 c9 a e wr.heap.size none 0 0 none 0 ([] : List Int) _ ∧ _)).1.rd).mono ?_; rintro e' w' ⟨rfl, rfl⟩)
                        | (go_at_call 28; refine (refLeft_any _ HAA (by omega)).mono ?_; rintro e' w' ⟨rfl, hb⟩; have hk := KK.on (And.left (by assumption : KK w A n c bs bm base r A9 c9 a e wr.heap.size none 0 0 none 0 ([] : List Int) _ ∧ _)) hb)
                        | (go_at_call 29; refine (err_any (And.left (by assumption : KK w A n c bs bm base r A9 c9 a e wr.heap.size none 0 0 none 0 ([] : List Int) _ ∧ _)).1.rd).mono ?_; rintro e' w' ⟨rfl, rfl⟩)
                        | (go_at_call 30; refine (end_any (And.left (by assumption : KK w A n c bs bm base r A9 c9 a e wr.heap.size none 0 0 none 0 ([] : List Int) _ ∧ _)).1.rd).mono ?_; rintro e' w' ⟨rfl, rfl⟩)
                        | (go_at_call 31; refine (refEnd_any _ HAA (by omega)).mono ?_; rintro e' w' ⟨rfl, hb⟩; have hk := KK.on (And.left (by assumption : KK w A n c bs bm base r A9 c9 a e wr.heap.size none 0 0 none 0 ([] : List Int) _ ∧ _)) hb))
                    have hkk := (And.left (by assumption : KK w A n c bs bm base r A9 c9 a e wr.heap.size none 0 0 _ _ _ _ ∧ _))
                    have hbmW := hbm
                    obtain ⟨k1, k2⟩ := hkk
                    have hko : KO wr.heap.size none 0 0 _ := ⟨_, k2.u8, k2.own1⟩
                    have HKB := Lib.hid k1
                    have HKO := Lib.hid hko
                    clear k1 k2 hko
                    go_wp2
                    obtain ⟨wy, hwy⟩ : ∃ wy : World, wy = wr := ⟨_, rfl⟩
                    rw [← hwy] at HKO hbmW
                    clear hwy
                    go_loopw [133] (fun i wx => ∃ t : Nat, t ≤ 0 ∧ i = .int .i64 t ∧ KB w A n c bs bm base r A9 c9 a e wx ∧ KO wy.heap.size none 0 0 wx) (fun i _ => 0 - (intOf i).toNat)
                    case atStart => exact ⟨0, Nat.zero_le _, rfl, HKB.out, HKO.out⟩
                    case round =>
                      clear HKB HKO
                      obtain ⟨t, htl, rfl, kb, ko⟩ := hrel
                      · obtain rfl : t = 0 := by omega
                        have HK9 := Lib.hid kb
                        clear htl kb ko
                        go_wp2
                        go_roundw
                        case rel => exact ⟨j + 1, by omega, by go_num, HK9.out.kx⟩
                        case measure =>
                          first | (simp only [intOf]; omega) | (dsimp only [intOf]; omega) | (go_show; simp [intOf]; omega)
        · have HB := Lib.hid kb.bel
          clear kb
          go_wp2
          go_ret
          exact ⟨rfl, HB.out⟩

set_option maxRecDepth 100000 in
theorem lifted (os : Os) (started : os.Started) (H : Type) (enc : TypeId × Value → H) :
    ReturnsInHanded {} Try.checked os 4 .any (Rows.wireReadsSpec.pre6 enc Try.prog Try.f4 Rows.wireReadsRow.domain false) (Rows.wireReadsSpec.post enc Try.prog Try.f4 false true false false) := by
  refine returnsInHanded_of_change_sized (C := Try.checked) own started (by kernel_rfl) Try.func4
    (ChangeSpec.witness6 (enc := enc) (C := Try.checked) false ⟨#[], #[.slice none 0 0, .slice none 0 0], []⟩ 8 (by kernel_rfl) (by kernel_rfl) (by kernel_rfl) (by kernel_rfl)) ?_
  intro W base args ds gs before hval0 hW _ hsz0 _
  have hsz : (DataW.weightsEach Try.prog (Try.f4.params.toList ++ Rows.wireReadsSpec.plain.varTypes Try.prog) (ds ++ gs)).all (· ≤ reachBytes) = true := hsz0
  clear hsz0
  have hval : ∀ (j : Nat) t v, Try.f4.params[j]? = some t → args[j]? = some v → Value.okWide Try.prog W .any base t v := hval0
  have hW' := hW
  obtain ⟨p, q, hA0, hV, rfl, _, _⟩ := hW
  have hA : DataW.TrodAll enc Try.prog W 0 (fun _ => true) true Try.f4.params.toList args.toList ds p := hA0
  rw [Try.params4] at hA hval hsz
  obtain ⟨v0, vs0, d0, ds0, p0, q0, hargs, rfl, rfl, h0, r0⟩ := trodAll_cons hA
  obtain ⟨v1, vs1, d1, ds1, p1, q1, rfl, rfl, rfl, h1, r1⟩ := trodAll_cons r0
  obtain ⟨rfl, rfl, rfl⟩ := trodAll_nil r1
  obtain rfl : args = #[v0, v1] := by cases args; simp_all
  obtain ⟨rfl, rfl⟩ := trodVars_none hV
  have lt0 : ∀ x ∈ p0, x.block < W.heap.size := by obtain ⟨m, hm⟩ := h0; exact DataW.trod_lt m _ _ _ hm
  obtain ⟨A0, n0, c0, z0, rfl, s0, u0, l0, g0⟩ := open_bytes_c (hval 0 23 v0 rfl rfl) h0
  have m0 := g0 _ _ 0 hsz rfl rfl
  have lt1 : ∀ x ∈ p1, x.block < W.heap.size := by obtain ⟨m, hm⟩ := h1; exact DataW.trod_lt m _ _ _ hm
  obtain ⟨A1, n1, c1, K1, N1, rfl, s1⟩ := open_reads (hval 1 35 v1 rfl rfl) h1
  clear hA0 hval0
  refine (walk W s0 u0 m0 l0 s1).mono fun e W' ⟨he, bel⟩ => ?_
  subst he
  exact ⟨_, rfl, _, _, _, [], _, [], hW', trodAll_mk1 (shut_bool Try.underlying4 _), (trodAll_cons_mk (Below.trod laidOut (by kernel_rfl) (of_decide_eq_true (by kernel_rfl)) h0 bel lt0) (trodAll_cons_mk (Below.trod laidOut (by kernel_rfl) (of_decide_eq_true (by kernel_rfl)) h1 bel lt1) trodAll_mk0)), rfl, bel.frame _, fun h => by cases h⟩

theorem over : Rows.wireReadsRow.holds Try.pinned (OpenSpec.ofChange Rows.wireReadsSpec) :=
  OpenClaim.holds_of_wide 4 Try.f4 rfl rfl rfl rfl rfl rfl rfl ⟨rfl, rfl, rfl, rfl, rfl⟩ rfl rfl rfl rfl rfl (by kernel_rfl) Try.func4 (by kernel_rfl)
    (of_decide_eq_true (by kernel_rfl)) (by unfold Func.isWrapper; first | (rw [if_pos (by decide +kernel)]; kernel_rfl) | (rw [if_neg (by decide +kernel)]; exact ⟨rfl, rfl⟩))
    (fun os started H enc _ => lifted os started H enc)

theorem proved : Rows.WireReadsSaid := over
end Go.Proofs.Ytjgcfiffbibonaa.wireReads
