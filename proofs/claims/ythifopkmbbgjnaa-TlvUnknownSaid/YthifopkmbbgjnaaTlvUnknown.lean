/-
  Proved: TlvUnknown answers true for all lists, items, places and kinds.
-/
import Derived.Test.YthifopkmbbgjnaaOpen
import Derived.Test.YthifopkmbbgjnaaTlvFixed
import Derived.Test.YthifopkmbbgjnaaTlvSame
import Derived.Test.YthifopkmbbgjnaaTlvSmall
import Derived.Test.YthifopkmbbgjnaaTlvOpen2
import Derived.Test.YthifopkmbbgjnaaTlvIns
import Derived.WalkKit
namespace Go.Proofs.Ythifopkmbbgjnaa.tlvUnknown
open Go.ChangeShapes Go.WideShapes Go.ChangeAt Go.RowKit

set_option maxRecDepth 100000 in
set_option maxHeartbeats 3200000 in
/-- The walk. -/
theorem walk {A : Option Addr} {n c : Nat} {l : List It} {x : It} {B : Option Addr} {bn bc : Nat} {C : Option Addr} {cn cc : Nat} {at' : Int} {A' : Option Addr} {n' c' : Nat} {ks : List Int} (w : World)
    (hs : (∃ m, Its w (fun _ => True) m A n c l) ∧ wfK l ∧ n ≤ 140737488351232) (hx : (Lit.int .i64 x.kind).wf = true ∧ Bs w (fun _ => True) B bn bc x.bytes ∧ (∃ m, Its w (fun _ => True) m C cn cc x.items)) (hat : (Lit.int .i64 at').wf = true) (hk : Si w A' n' ks) :
    Calls Try.prog 8 #[.slice A n c, .agg #[.int .i64 x.kind, .bool x.crit, .bool x.lst, .slice B bn bc, .slice C cn cc], .int .i64 at', .slice A' n' c'] w fun e w' => e = .returned (.bool true) ∧ Below w.heap.size w w' := by
  obtain ⟨⟨m, hi⟩, hwf, _⟩ := hs
  obtain ⟨hxw, hxb, mx, hxi⟩ := hx
  have H := Lib.hid (And.intro hi (And.intro hwf (And.intro hxw (And.intro hxb (And.intro hxi (And.intro hat hk))))))
  have HL := Lib.hid hi.len
  obtain ⟨sb, hsb⟩ : ∃ sb, sb = smallB l := ⟨_, rfl⟩
  have HS := Lib.hid hsb
  obtain ⟨sx, hsx⟩ : ∃ sx, sx = smallB [x] := ⟨_, rfl⟩
  have HSX := Lib.hid hsx
  clear hi hsb hwf hxw hxb hxi hat hk hsx
  go_enter Try.func8, Try.ntmps8
  go_wp2_with fail
  have hw0 : (w.alloc (Obj.cells #[Value.int IntKind.i64 x.kind, Value.bool x.crit, Value.bool x.lst, Value.slice B bn bc, Value.slice C cn cc] 47)).heap.size = w.heap.size + 1 := by simp
  have B0 : Hid (Below w.heap.size w (w.alloc (Obj.cells #[Value.int IntKind.i64 x.kind, Value.bool x.crit, Value.bool x.lst, Value.slice B bn bc, Value.slice C cn cc] 47))) := (Below.refl _ _).alloc (Nat.le_refl _) _
  have HBOX := Lib.hid (fun w' => box_at w x B bn bc C cn cc (w' := w'))
  refine (small_any (H.out.1.below B0.out)).mono ?_
  rintro e w1 ⟨rfl, hb1⟩
  rw [hw0] at hb1
  rw [← HS.out]
  have X1 := Lib.hid (And.intro hb1 (B0.out.trans (hb1.mono (by omega))))
  clear hb1 hw0
  cases sb with
  | false =>
    go_wp2_with fail
    refine (fixed_any _).mono ?_
    rintro e w3 ⟨rfl, hb3⟩
    have bb := X1.out.2.trans (hb3.mono X1.out.2.size)
    clear hb3
    go_wp2_with fail
    go_ret
    exact ⟨rfl, bb⟩
  | true =>
    obtain ⟨hsl, hsm⟩ := small_sml HS.out.symm
    have HSM := Lib.hid (And.intro hsl (sml_lenL 4 l hsm))
    obtain ⟨x0, x1, x2, x3, x4⟩ := item_cells (HBOX.out w1 X1.out.1)
    have hbl : w.heap.size < w1.heap.size := by have := X1.out.1.size; simp at this; omega
    have OI := Lib.hid (one_its (w := w1) (S := fun _ => True) (H.out.2.2.2.1.stay X1.out.2.size fun b _ hlt => X1.out.2.block b hlt) (H.out.2.2.2.2.1.below X1.out.2) trivial)
    have bs1 : Below w1.heap.size w1 (w1.alloc (Obj.cells #[Value.int IntKind.i64 x.kind, Value.bool x.crit, Value.bool x.lst, Value.slice B bn bc, Value.slice C cn cc] 47)) := (Below.refl _ _).alloc (Nat.le_refl _) _
    have B1 := Lib.hid (And.intro (X1.out.1.trans (bs1.mono (by omega))) (X1.out.2.trans (bs1.mono X1.out.2.size)))
    clear hsl hsm bs1
    go_wp2_with fail
    refine (small_any OI.out).mono ?_
    rintro e w2 ⟨rfl, hb2⟩
    rw [← HSX.out]
    have X2 := Lib.hid (And.intro (B1.out.1.trans (hb2.mono (by simp; omega))) (B1.out.2.trans (hb2.mono (by have := X1.out.2.size; simp; omega))))
    clear hb2 B1 OI x0 x1 x2 x3 x4 hbl
    cases sx with
    | false =>
      go_wp2_with fail
      refine (fixed_any _).mono ?_
      rintro e w3 ⟨rfl, hb3⟩
      have bb := X2.out.2.trans (hb3.mono X2.out.2.size)
      clear hb3
      go_wp2_with fail
      go_ret
      exact ⟨rfl, bb⟩
    | true =>
      have HLX := Lib.hid (lenI_of (small_sml HSX.out.symm).2)
      by_cases hn' : (1000 : Int) < (n' : Int)
      · have hd : decide ((1000 : Int) < (n' : Int)) = true := by simpa using hn'
        go_wp2_with fail
        refine (fixed_any _).mono ?_
        rintro e w3 ⟨rfl, hb3⟩
        have bb := X2.out.2.trans (hb3.mono X2.out.2.size)
        clear hb3
        go_wp2_with fail
        go_ret
        exact ⟨rfl, bb⟩
      · have hd : decide ((1000 : Int) < (n' : Int)) = false := by simpa using hn'
        have hn1 : n' ≤ 1000 := by omega
        go_wp2_with fail
        go_loopw [32] (fun i wr => ∃ k q : Nat, k ≤ n' ∧ i = .int .i64 k ∧ (∀ j, j < k → ks.getD j 0 ≠ x.kind) ∧ wr = w2.drewN q) (fun i _ => n' - (intOf i).toNat)
        case atStart => exact ⟨0, 0, Nat.zero_le _, rfl, (fun j hj => absurd hj (by omega)), rfl⟩
        case round =>
          obtain ⟨k, q, hk, rfl, hno, rfl⟩ := hrel
          by_cases hlt : k < n'
          · have hsi := H.out.2.2.2.2.2.2.below X2.out.2
            obtain ⟨ad, rfl, hblt, hcell⟩ := hsi.at_ (by omega)
            have hc := hcell k hlt
            obtain ⟨x0, _, _, _, _⟩ := item_cells (HBOX.out w2 X2.out.1)
            obtain ⟨v, hv⟩ : ∃ v, v = ks.getD k 0 := ⟨_, rfl⟩
            rw [← hv] at hc
            have HV := Lib.hid hv
            have hkl : (k : Int) < (n' : Int) := by omega
            have NO := Lib.hid hno
            clear hsi hcell hv hno
            by_cases hvx : v = x.kind
            · rw [hvx] at hc
              have hd2 : (x.kind == x.kind) = true := by simp
              go_wp2_with fail
              go_quiet (fail)
              go_wp2_with fail
              refine (fixed_any _).mono ?_
              rintro e w3 ⟨rfl, hb3⟩
              have bb := (below_drewN' X2.out.2 (q + nq)).trans (hb3.mono X2.out.2.size)
              clear hb3
              go_wp2_with fail
              go_ret
              exact ⟨rfl, bb⟩
            · have hd2 : (v == x.kind) = false := by simpa using hvx
              have hvx' : ks.getD k 0 ≠ x.kind := by rw [← HV.out]; exact hvx
              have NO2 := Lib.hid hvx'
              clear hvx' hvx
              go_wp2_with fail
              go_quiet (fail)
              go_wp2_with fail
              go_roundw
              case rel =>
                refine ⟨k + 1, q + nq, by omega, by go_num, fun j hj => ?_, rfl⟩
                rcases Nat.lt_or_ge j k with h | h
                · exact NO.out j h
                · obtain rfl : j = k := by omega
                  exact NO2.out
              case measure => simp [intOf]; omega
          · have hct : ks.contains x.kind = false := contains_none fun j hj => hno j (by rw [H.out.2.2.2.2.2.2.len] at hj; omega)
            have CT := Lib.hid hct
            clear hno hct
            obtain rfl : k = n' := by omega
            clear hlt hk
            go_upto_region 9 with fail
            go_cut [2] (fun s2 wc => ∃ p : Nat, p ≤ n ∧ s2 = .int .i64 p ∧ wc = w2.drewN q)
            case first =>
              go_wp2_with fail
              all_goals (go_meet; first | exact ⟨n, Nat.le_refl _, rfl, rfl⟩ | exact ⟨0, Nat.zero_le _, rfl, rfl⟩ | (have h4 := h; rename_i h3; rw [if_neg (by omega)] at h3; exact ⟨at'.toNat, by omega, by rw [Int.toNat_of_nonneg (by omega)], rfl⟩))
            case rest =>
              obtain ⟨p, hp, rfl, rfl⟩ := hcut
              have hi2 : Its w2 (fun _ => True) (m + mx + 1) A n c l := ((H.out.1.below X2.out.2).upTo mx).up
              have hxb2 : Bs w2 (fun _ => True) B bn bc x.bytes := H.out.2.2.2.1.stay X2.out.2.size fun b _ hlt => X2.out.2.block b hlt
              have hxi2 : Its w2 (fun _ => True) (m + mx) C cn cc x.items := by rw [Nat.add_comm]; exact (H.out.2.2.2.2.1.below X2.out.2).upTo m
              obtain ⟨xs, ys, hF⟩ := ins_facts hi2 hp hxb2 hxi2
              have F := Lib.hid hF
              have hle := hi2.2.1
              have hl400 := HSM.out.1
              rw [HL.out] at hl400
              have SX := Lib.hid (show ∀ w' : World, Below w2.heap.size w2 w' → (Below w2.heap.size w2 w' ∧ w'.cell? ⟨w.heap.size, 0, none⟩ = some (.int .i64 x.kind) ∧ w'.cell? ⟨w.heap.size, 1, none⟩ = some (.bool x.crit) ∧ w'.cell? ⟨w.heap.size, 2, none⟩ = some (.bool x.lst) ∧ w'.cell? ⟨w.heap.size, 3, none⟩ = some (.slice B bn bc) ∧ w'.cell? ⟨w.heap.size, 4, none⟩ = some (.slice C cn cc)) from by
                intro w' hb
                obtain ⟨x0, x1, x2, x3, x4⟩ := item_cells (HBOX.out w2 X2.out.1)
                have hbl : w.heap.size < w2.heap.size := lt_of_block (HBOX.out w2 X2.out.1)
                exact ⟨hb, (hb.cell hbl).trans x0, (hb.cell hbl).trans x1, (hb.cell hbl).trans x2, (hb.cell hbl).trans x3, (hb.cell hbl).trans x4⟩)
              have p0 : (0 : Int) ≤ (p : Int) := Int.natCast_nonneg _
              have p1 : (p : Int) ≤ (n : Int) := by omega
              have p2 : (p : Int) ≤ (c : Int) := by omega
              have p3 : (n : Int) ≤ (c : Int) := by omega
              have hb0 : Below w2.heap.size w2 (w2.drewN q) := below_drewN' (Below.refl _ _) q
              have O2 := Lib.hid (oneItem x B bn bc C cn cc)
              have P1 : Hid (p ≤ maxLen ∧ p * 64 ≤ 140737488355328 ∧ p + 1 ≤ maxLen ∧ (p + 1) * 64 ≤ 140737488355328 ∧ p + 1 + (n - p) ≤ maxLen ∧ (p + 1 + (n - p)) * 64 ≤ 140737488355328) := by
                show _ ∧ _ ∧ _ ∧ _ ∧ _ ∧ _
                unfold maxLen
                refine ⟨by omega, by omega, by omega, by omega, by omega, by omega⟩
              clear hi2 hxb2 hxi2 hF
              go_upto_region 10 with fail
              go_cut [10] (fun s10 wc => ∃ (A3 : Option Addr) (n3 c3 : Nat), s10 = .slice A3 n3 c3 ∧ Below w2.heap.size w2 wc ∧ n3 = p + 1 + (n - p) ∧ wc.ownsRow w2.heap.size 47 5 (.slice A3 n3 c3) n3 (xs ++ x.cs B bn bc C cn cc ++ ys))
              case first =>
                go_region_held3 (fun w' => Below w2.heap.size w2 w' ∧ w'.cell? ⟨w.heap.size, 0, none⟩ = some (.int .i64 x.kind) ∧ w'.cell? ⟨w.heap.size, 1, none⟩ = some (.bool x.crit) ∧ w'.cell? ⟨w.heap.size, 2, none⟩ = some (.bool x.lst) ∧ w'.cell? ⟨w.heap.size, 3, none⟩ = some (.slice B bn bc) ∧ w'.cell? ⟨w.heap.size, 4, none⟩ = some (.slice C cn cc))
                  ((refine SX.out _ ?_; (try go_split_ands); first | assumption | exact below_drewN' (by assumption) 1 | exact Below.alloc (by assumption) (Below.size (by assumption)) _))
                  ((first
                    | ((try go_split_ands); refine step_items0 rfl (.tmp 49) (.tmp 52) 22 rfl w2.heap.size 47 _ 5 64 Try.underlying22 info47 rfl (by omega) _ rfl (own_empty (by first | exact heap_at_new (by simp) | exact heap_at_old (heap_at_new (by simp))) (by simp)) A p c xs rfl F.out.z1 F.out.l1 (F.out.n1 _ (by assumption)) F.out.o1 P1.out.1 P1.out.2.1 (below_sz (a := w2) (B := w2.heap.size) (by assumption)) ?_; intro A1 c1 w3 hown1 hg1; have hb3 : Below w2.heap.size w2 w3 := Below.grown (by assumption) hg1 (below_sz (a := w2) (B := w2.heap.size) (by assumption)) (fun k hk => by cases hk; simp <;> omega))
                    | ((try go_split_ands); refine step_items rfl (.tmp 56) (.tmp 59) 22 rfl w2.heap.size 47 _ 5 64 Try.underlying22 info47 rfl (by omega) _ (p + 1) (xs ++ x.cs B bn bc C cn cc) rfl hown2 _ (n - p) _ ys rfl F.out.z3 F.out.l3 (F.out.n3 _ (by assumption)) F.out.o3 P1.out.2.2.2.2.1 P1.out.2.2.2.2.2 (below_sz (a := w2) (B := w2.heap.size) (by assumption)) ?_; intro A3 c3 w5 hown3 hg3; have hb5 : Below w2.heap.size w2 w5 := Below.grown (by assumption) hg3 (below_sz (a := w2) (B := w2.heap.size) (by assumption)) (fun k hk => (hown2.lt k hk).1))
                    | ((try go_split_ands); refine step_items rfl (.tmp 53) (.tmp 55) 22 rfl w2.heap.size 47 _ 5 64 Try.underlying22 info47 rfl (by omega) _ p xs rfl (by first | exact hown1 | exact hown1.alloc _) _ 1 1 (x.cs B bn bc C cn cc) rfl (fun e => by cases e) rfl (one_news (by first | exact heap_at_new (by simp) | exact (hg1.block _ (by simp <;> omega) (by simp <;> omega)).trans (heap_at_new (by simp)) | exact (hg1.block _ (by simp <;> omega) (by simp <;> omega)).trans (heap_at_old (heap_at_new (by simp))))) O2.out P1.out.2.2.1 P1.out.2.2.2.1 (below_sz (a := w2) (B := w2.heap.size) (by assumption)) ?_; intro A2 c2 w4 hown2 hg2; have hb4 : Below w2.heap.size w2 w4 := Below.grown (by assumption) hg2 (below_sz (a := w2) (B := w2.heap.size) (by assumption)) (fun k hk => (hown1.lt k hk).1))))
                all_goals (refine meet_end (by assumption) (by assumption) ?_; (repeat apply Exists.intro); refine ⟨⟨_, _, _, rfl, hb5, rfl, hown3⟩, rfl⟩)
              case rest =>
                obtain ⟨A3, n3, c3, rfl, hb3, hn3, hown3⟩ := hcut
                have hits : Its wc (fun _ => True) (m + mx + 1) A3 n3 c3 (l.take p ++ x :: l.drop p) := ins_its hown3 (by omega) (F.out.row.imp (fun _ _ _ _ hb => hb.stay hb3.size fun b _ hlt => hb3.block b hlt) (fun _ _ _ _ hi => hi.below hb3))
                have hi3 : Its wc (· < wc.heap.size) (m + mx + 1) A n c l := (((H.out.1.below X2.out.2).upTo mx).up.below hb3).mono fun _ _ h => h
                have hsi3 : Si wc A' k ks := (H.out.2.2.2.2.2.2.below X2.out.2).below hb3
                have hn401 : n3 ≤ 401 := by omega
                have X3 := Lib.hid (And.intro (X2.out.2.trans (hb3.mono X2.out.2.size)) (And.intro (X2.out.1.trans (hb3.mono (by have := lt_of_block (HBOX.out w2 X2.out.1); omega))) (And.intro hits hsi3)))
                have HP1 := Lib.hid (pick_walk (c' := c') hi3 hsi3 (by omega) (by omega) H.out.2.1 (.inr fun w' A m' c l' hl' hsub hm' => copied_any _ w' _ A m' c l' hl' (lenL_mk fun y hy => lenL_mem HSM.out.2 (hsub y hy)) (by omega)))
                clear hb3 hown3 hits hi3 hsi3
                go_wp2_with fail
                refine HP1.out.mono ?_
                intro e w4 hpp
                obtain ⟨hb4, A4, n4, c4, E4, rfl, hE4, hi4⟩ := hpp.form
                have hits4 : Its w4 (· < w4.heap.size) (m + mx + 1) A3 n3 c3 (l.take p ++ x :: l.drop p) := (X3.out.2.2.1.below hb4).mono fun _ _ h => h
                have hsi4 : Si w4 A' k ks := X3.out.2.2.2.below hb4
                have X4 := Lib.hid (And.intro (X3.out.1.trans (hb4.mono X3.out.1.size)) (And.intro (X3.out.2.1.trans (hb4.mono (by have := lt_of_block (HBOX.out wc X3.out.2.1); omega))) (And.intro hi4 hE4)))
                have HP2 := Lib.hid (pick_walk (c' := c') hits4 hsi4 (by omega) (by omega) (wfK_ins H.out.2.1 H.out.2.2.1 p) (.inr fun w' A m' c l' hl' hsub hm' => copied_any _ w' _ A m' c l' hl' (lenL_mk fun y hy => lenL_mem (lenL_ins HSM.out.2 HLX.out p) (hsub y hy)) (by omega)))
                clear hb4 hits4 hsi4 hi4 hE4 hpp HP1 hn3 hn401 p0 p1 p2 p3 hle hl400 hb0 hp
                go_wp2_with fail
                refine HP2.out.mono ?_
                intro e w5 hpp
                obtain ⟨hb5, A5, n5, c5, E5, rfl, hE5, hi5⟩ := hpp.form
                have hins := pick_ins CT.out (l.take p) (l.drop p)
                rw [List.take_append_drop] at hins
                rw [hins] at hE5 hi5
                have hbox5 : Below (w.heap.size + 1) (w.alloc (Obj.cells #[Value.int IntKind.i64 x.kind, Value.bool x.crit, Value.bool x.lst, Value.slice B bn bc, Value.slice C cn cc] 47)) w5 := X4.out.2.1.trans (hb5.mono (by have := lt_of_block (HBOX.out w4 X4.out.2.1); omega))
                obtain ⟨x0, x1, x2, x3, x4⟩ := item_cells (HBOX.out w5 hbox5)
                have X5 := Lib.hid (And.intro (X4.out.1.trans (hb5.mono X4.out.1.size)) (X4.out.2.2.1.below hb5))
                clear hbox5 hins hb5 hpp HP2
                cases hcr : x.crit with
                | true =>
                  rw [hcr] at hE5 hi5 x1
                  obtain rfl : E5 = 7 := hE5
                  obtain rfl : 0 = n5 := hi5.len
                  clear hi5 hcr
                  go_wp2_with fail
                  refine (fixed_any _).mono ?_
                  rintro e w6 ⟨rfl, hb6⟩
                  have bb := X5.out.1.trans (hb6.mono X5.out.1.size)
                  clear hb6
                  go_wp2_with fail
                  go_ret
                  exact ⟨rfl, bb⟩
                | false =>
                  rw [hcr] at hE5 hi5 x1
                  obtain rfl : E5 = E4 := by rw [X4.out.2.2.2]; exact hE5
                  have hi5' : Its w5 _ (m + mx + 1) A5 n5 c5 ((pickS ks l).getD []) := hi5
                  obtain rfl : n5 = n4 := hi5'.len.symm.trans X5.out.2.len
                  have I5 := Lib.hid hi5'
                  have tE : (E5 == E5) = true := by simp
                  clear hE5 hi5 hi5' hcr
                  go_wp2_with fail
                  refine (fixed_any _).mono ?_
                  rintro e w6 ⟨rfl, hb6⟩
                  have X6 := Lib.hid (X5.out.1.trans (hb6.mono X5.out.1.size))
                  have HC := Lib.hid (sameIts_any _ _ w6 _ _ A4 A5 n5 c4 c5 _ (X5.out.2.below hb6) (I5.out.below hb6))
                  clear hb6
                  go_wp2_with fail
                  refine HC.out.mono ?_
                  rintro e w7 ⟨rfl, q7, rfl⟩
                  have bb := below_drewN' X6.out q7
                  clear HC
                  go_wp2_with fail
                  go_ret
                  exact ⟨rfl, bb⟩

set_option maxRecDepth 100000 in
theorem lifted (os : Os) (started : os.Started) (H : Type) (enc : TypeId × Value → H) :
    ReturnsInHanded {} Try.checked os 8 .any (Rows.tlvUnknownSpec.pre6 enc Try.prog Try.f8 Rows.tlvUnknownRow.domain false) (Rows.tlvUnknownSpec.post enc Try.prog Try.f8 false true false false) := by
  refine returnsInHanded_of_change_sized (C := Try.checked) own started (by kernel_rfl) Try.func8
    (ChangeSpec.witness6 (enc := enc) (C := Try.checked) false ⟨#[], #[.slice none 0 0, .agg #[.int .i64 0, .bool false, .bool false, .slice none 0 0, .slice none 0 0], .int .i64 0, .slice none 0 0], []⟩ 8 (by kernel_rfl) (by kernel_rfl) (by kernel_rfl) (by kernel_rfl)) ?_
  intro W base args ds gs before hval0 hW _ hsz0 _
  have hsz : (DataW.weightsEach Try.prog (Try.f8.params.toList ++ Rows.tlvUnknownSpec.plain.varTypes Try.prog) (ds ++ gs)).all (· ≤ reachBytes) = true := hsz0
  clear hsz0
  have hval : ∀ (j : Nat) t v, Try.f8.params[j]? = some t → args[j]? = some v → Value.okWide Try.prog W .any base t v := hval0
  have hW' := hW
  obtain ⟨p, q, hA0, hV, rfl, _, _⟩ := hW
  have hA : DataW.TrodAll enc Try.prog W 0 (fun _ => true) true Try.f8.params.toList args.toList ds p := hA0
  rw [Try.params8] at hA hval hsz
  obtain ⟨v0, vs0, d0, ds0, p0, q0, hargs, rfl, rfl, h0, r0⟩ := trodAll_cons hA
  obtain ⟨v1, vs1, d1, ds1, p1, q1, rfl, rfl, rfl, h1, r1⟩ := trodAll_cons r0
  obtain ⟨v2, vs2, d2, ds2, p2, q2, rfl, rfl, rfl, h2, r2⟩ := trodAll_cons r1
  obtain ⟨v3, vs3, d3, ds3, p3, q3, rfl, rfl, rfl, h3, r3⟩ := trodAll_cons r2
  obtain ⟨rfl, rfl, rfl⟩ := trodAll_nil r3
  obtain rfl : args = #[v0, v1, v2, v3] := by cases args; simp_all
  obtain ⟨rfl, rfl⟩ := trodVars_none hV
  have lt0 : ∀ x ∈ p0, x.block < W.heap.size := by obtain ⟨m, hm⟩ := h0; exact DataW.trod_lt m _ _ _ hm
  obtain ⟨A0, n0, c0, l0, rfl, s0⟩ := open_items (weights_at hsz (j := 0) rfl rfl) (hval 0 22 v0 rfl rfl) h0
  have lt1 : ∀ x ∈ p1, x.block < W.heap.size := by obtain ⟨m, hm⟩ := h1; exact DataW.trod_lt m _ _ _ hm
  obtain ⟨x1, B1, bn1, bc1, C1, cn1, cc1, rfl, s1⟩ := open_item (weights_at hsz (j := 1) rfl rfl) (hval 1 47 v1 rfl rfl) h1
  obtain ⟨a2, rfl, rfl, rfl, w2⟩ := open_int Try.underlying3 (hval 2 3 v2 rfl rfl) h2
  have lt3 : ∀ x ∈ p3, x.block < W.heap.size := by obtain ⟨m, hm⟩ := h3; exact DataW.trod_lt m _ _ _ hm
  obtain ⟨A3, n3, c3, k3, rfl, s3⟩ := open_si (hval 3 43 v3 rfl rfl) h3
  clear hA0 hval0
  refine (walk W s0 s1 w2 s3).mono fun e W' ⟨he, bel⟩ => ?_
  subst he
  exact ⟨_, rfl, _, _, _, [], _, [], hW', trodAll_mk1 (shut_bool Try.underlying4 _), (trodAll_cons_mk (Below.trod laidOut (by kernel_rfl) (of_decide_eq_true (by kernel_rfl)) h0 bel lt0) (trodAll_cons_mk (Below.trod laidOut (by kernel_rfl) (of_decide_eq_true (by kernel_rfl)) h1 bel lt1) (trodAll_cons_mk (shut_int Try.underlying3 w2) (trodAll_cons_mk (Below.trod laidOut (by kernel_rfl) (of_decide_eq_true (by kernel_rfl)) h3 bel lt3) trodAll_mk0)))), rfl, bel.frame _, fun h => by cases h⟩

theorem over : Rows.tlvUnknownRow.holds Try.pinned (OpenSpec.ofChange Rows.tlvUnknownSpec) :=
  OpenClaim.holds_of_wide 8 Try.f8 rfl rfl rfl rfl rfl rfl rfl ⟨rfl, rfl, rfl, rfl, rfl⟩ rfl rfl rfl rfl rfl (by kernel_rfl) Try.func8 (by kernel_rfl)
    (of_decide_eq_true (by kernel_rfl)) (by unfold Func.isWrapper; first | (rw [if_pos (by decide +kernel)]; kernel_rfl) | (rw [if_neg (by decide +kernel)]; exact ⟨rfl, rfl⟩))
    (fun os started H enc _ => lifted os started H enc)

theorem proved : Rows.TlvUnknownSaid := over
end Go.Proofs.Ythifopkmbbgjnaa.tlvUnknown
