/-
  What stands in order: the code's Right and the reference's.
-/
import Derived.Test.YtbjgjhhombalpaaLinksRefCanon
namespace Go.Proofs.Ytbjgjhhombalpaa
open Go.RowKit

theorem retBR {a b : Bool} (h : a = b) : Ending.returned (.bool a) = .returned (.bool b) := by rw [h]
theorem comeS_append (m : Nat) (xs ys : List Ce) : comeS m (xs ++ ys) = (comeS m xs).bind fun k => comeS k ys := by
  induction xs generalizing m with
  | nil => rfl
  | cons a xs ih =>
    rw [List.cons_append, comeS, comeS]
    split
    · rfl
    · exact ih _
theorem comeS_step {cs : List Ce} {k t : Nat} (hk : k < cs.length) (h : comeS 0 (cs.take k) = some t) : comeS 0 (cs.take (k + 1)) = if (t : Int) + 1 < (cAt cs k).p.lk then none else some (max t (cAt cs k).p.lk.toNat) := by
  rw [List.take_succ_eq_append_getElem hk, comeS_snoc, h, cAt_lt hk]
  rfl
theorem comeS_none {cs : List Ce} {k : Nat} (h : comeS 0 (cs.take k) = none) : comeS 0 cs = none := by
  rw [← List.take_append_drop k cs, comeS_append, h]
  rfl
theorem ord_long {cs : List Ce} {l : List ByteArray} (h : ¬ l.length ≤ 16) : ordC cs l = false := by unfold ordC; rw [decide_eq_false h]; rfl
theorem ord_bad {cs : List Ce} {l : List ByteArray} {s : ByteArray} (hs : s ∈ l) (h : mayT s = false) : ordC cs l = false := by
  unfold ordC
  rw [decide_eq_false (show ¬ ∀ s ∈ l, mayT s = true from fun x => by rw [x s hs] at h; cases h)]
  simp
theorem ord_twice {cs : List Ce} {l : List ByteArray} (h : ¬ l.Nodup) : ordC cs l = false := by
  unfold ordC
  rw [decide_eq_false h]
  simp
theorem ord_come {cs : List Ce} {l : List ByteArray} (h : comeS 0 cs = none) : ordC cs l = false := by unfold ordC; rw [h]; simp
theorem ord_all {cs : List Ce} {l : List ByteArray} {t : Nat} (h1 : l.length ≤ 16) (h2 : ∀ s ∈ l, mayT s = true) (h3 : l.Nodup) (h4 : comeS 0 cs = some t) : ordC cs l = decide ((t : Int) = (l.length : Int)) := by
  unfold ordC
  rw [decide_eq_true h1, decide_eq_true h2, decide_eq_true h3, h4]
  simp only [Bool.and_true, Bool.true_and, Option.some.injEq]
  rw [decide_eq_decide]
  omega
theorem nodup_take_snoc {l : List ByteArray} {k : Nat} (hk : k < l.length) (h : (l.take k).Nodup) (hn : sAt l k ∉ l.take k) : (l.take (k + 1)).Nodup := by
  rw [take_snocT hk, List.nodup_append]
  refine ⟨h, by simp, fun x hx y hy e => hn ?_⟩
  rw [← List.mem_singleton.1 hy, ← e]
  exact hx

set_option maxHeartbeats 4000000 in
theorem right_any {w : World} {A A' : Option Addr} {n c m c' : Nat} {cs : List Ce} {L : List ByteArray} (h : Vs ceV w A n cs) (h' : Vs stV w A' m L) (hl : ∀ x ∈ cs, 0 ≤ x.p.lk ∧ x.p.lk ≤ 65535) (hs : ∀ s ∈ L, s.size ≤ 140737488351232) (hn : n ≤ 60000) (hm : m ≤ 60000) (hmc : m ≤ c') :
    Calls Try.prog 22 #[.slice A n c, .slice A' m c'] w fun e w' => e = .returned (.bool (ordC cs L)) ∧ Below w.heap.size w w' := by
  obtain rfl := h.len
  obtain rfl := h'.len
  have H := Lib.hid (And.intro h h')
  have HL := Lib.hid (And.intro hl hs)
  clear h h' hl hs
  by_cases h16 : L.length ≤ 16
  · go_enter Try.func22, Try.ntmps22
    go_wp2
    go_loop [16] (fun i => ∃ k : Nat, k ≤ L.length ∧ i = .int .i64 k ∧ (∀ s ∈ L.take k, mayT s = true) ∧ (L.take k).Nodup) (fun i => L.length - (intOf i).toNat)
    case atStart => exact ⟨0, Nat.zero_le _, rfl, by simp, by simp⟩
    case round =>
      obtain ⟨k, hk, rfl, h1, h2⟩ := hrel
      have Y := Lib.hid (And.intro h1 h2)
      clear h1 h2
      by_cases hlt : k < L.length
      · obtain ⟨ad, rfl⟩ := H.out.2.addr (by omega)
        have hc := H.out.2.str hlt
        have hx := HL.out.2 _ (sAt_mem hlt)
        have HM := Lib.hid (sAt_mem hlt)
        have HT := Lib.hid (take_snocT hlt)
        have HND := Lib.hid (nodup_take_snoc hlt Y.out.2)
        have HF := Lib.hid (H.out.2.front stV_len (k := k) hk)
        have hin : Hid (sAt L k ∈ L.take k → ¬ L.Nodup) := Lib.hid (fun hi hd => not_in_take hd hlt hi)
        generalize sAt L k = x at hc hx HM HT HND hin
        go_wp2_with fail
        refine (mayT_any x _ hx).mono ?_
        rintro e w' ⟨rfl, rfl⟩
        cases hmx : mayT x
        · have X : Hid (ordC cs L = false) := Lib.hid (ord_bad HM.out hmx)
          clear hmx
          go_wp2_with fail
          go_ret
          exact ⟨retBR X.out.symm, Below.refl _ _⟩
        · have HMX := Lib.hid hmx
          clear hmx
          go_wp2_with fail
          refine (hasT_any HF.out x (by omega)).mono ?_
          rintro e w' ⟨rfl, rfl⟩
          by_cases hp : x ∈ L.take k
          · have X : Hid (ordC cs L = false) := Lib.hid (ord_twice (hin.out hp))
            have e1 : decide (0 ≤ placeI (L.take k) x) = true := by
              obtain ⟨j, _, e, _, _⟩ := placeI_mem hp
              rw [e]; simp
            rw [e1]
            clear e1 hp
            go_wp2_with fail
            go_ret
            exact ⟨retBR X.out.symm, Below.refl _ _⟩
          · have e1 : decide (0 ≤ placeI (L.take k) x) = false := by rw [placeI_none.2 hp]; decide
            rw [e1]
            have HP := Lib.hid hp
            clear e1 hp
            go_wp2_with fail
            go_round
            case rel =>
              refine ⟨k + 1, by omega, by go_num, ?_, HND.out HP.out⟩
              rw [HT.out]
              intro s hs
              rcases List.mem_append.1 hs with hs | hs
              · exact Y.out.1 s hs
              · rw [List.mem_singleton.1 hs]; exact HMX.out
            case measure => simp [intOf]; omega
      · have e : L.take k = L := List.take_of_length_le (by omega)
        rw [e] at Y
        clear e
        go_wp2_with fail
        go_loopw [7, 34] (fun o i wr => ∃ (k t : Nat), k ≤ cs.length ∧ t ≤ 65535 ∧ i = .int .i64 k ∧ o = .int .i64 t ∧ comeS 0 (cs.take k) = some t ∧ Below w.heap.size w wr) (fun _ i _ => cs.length - (intOf i).toNat)
        case atStart => exact ⟨0, 0, Nat.zero_le _, by omega, rfl, rfl, rfl, Below.refl _ _⟩
        case round =>
          obtain ⟨k, t, hk, ht, rfl, rfl, hcm, hb⟩ := hrel
          have Z := Lib.hid (And.intro hcm hb)
          clear hcm hb
          by_cases hlt : k < cs.length
          · obtain ⟨ad, rfl⟩ := H.out.1.addr (by omega)
            obtain ⟨hc0, hc1, hc2, hc3, hc4, hc5⟩ := (H.out.1.below Z.out.2).six hlt
            have hlk := HL.out.1 (cAt cs k) (by rw [cAt_lt hlt]; exact List.getElem_mem _)
            have HC := Lib.hid (comeS_step hlt Z.out.1)
            generalize cAt cs k = x at hc0 hc1 hc2 hc3 hc4 hc5 hlk HC
            obtain ⟨q, hq⟩ : ∃ q : Nat, x.p.lk = (q : Int) := ⟨x.p.lk.toNat, by omega⟩
            rw [hq] at hc5 hlk HC
            have hq1 : q ≤ 65535 := by omega
            have HB1 := Lib.hid (Z.out.2.alloc Z.out.2.size (.cells #[.int .i32 x.r, .int .u8 x.wd, .int .u32 x.p.fg, .int .u32 x.p.bg, .int .u8 x.p.st, .int .u16 q] 51))
            clear hlk hq
            by_cases hgt : (t : Int) + 1 < (q : Int)
            · have X : Hid (ordC cs L = false) := Lib.hid (ord_come (comeS_none (HC.out.trans (if_pos hgt))))
              go_wp2_with fail
              go_ret
              exact ⟨retBR X.out.symm, HB1.out⟩
            · have HC1 : Hid (comeS 0 (cs.take (k + 1)) = some (max t q)) := Lib.hid (HC.out.trans (if_neg hgt))
              have hmax : max (t : Int) (q : Int) = ((max t q : Nat) : Int) := by omega
              have htq : max t q ≤ 65535 := by omega
              generalize max t q = t' at HC1 hmax htq
              go_wp2_with fail
              go_roundw
              case rel => exact ⟨k + 1, t', by omega, htq, by go_num, rfl, HC1.out, HB1.out⟩
              case measure => simp [intOf]; omega
          · have e : cs.take k = cs := List.take_of_length_le (by omega)
            have X : Hid (ordC cs L = decide ((t : Int) = (L.length : Int))) := Lib.hid (ord_all h16 Y.out.1 Y.out.2 (by rw [← e]; exact Z.out.1))
            clear e
            go_wp2_with fail
            go_ret
            exact ⟨retBR (X.out.trans (by first | rfl | (rw [Bool.eq_iff_iff]; simp))).symm, Z.out.2⟩
  · have X : Hid (ordC cs L = false) := Lib.hid (ord_long h16)
    have hgt : (16 : Int) < (L.length : Int) := by omega
    go_enter Try.func22, Try.ntmps22
    go_wp2_with fail
    go_ret
    exact ⟨retBR X.out.symm, Below.refl _ _⟩
end Go.Proofs.Ytbjgjhhombalpaa
