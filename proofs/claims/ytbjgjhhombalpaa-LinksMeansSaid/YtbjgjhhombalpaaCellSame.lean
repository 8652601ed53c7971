/-
  The reference's Same and Copy of rows of cells.
-/
import Derived.Test.YtbjgjhhombalpaaCellApp
namespace Go.Proofs.Ytbjgjhhombalpaa
open Go.RowKit

theorem retBC {a b : Bool} (h : a = b) : Ending.returned (.bool a) = .returned (.bool b) := by rw [h]
/-- The six cells of a record at a place. -/
structure Six (w : World) (ad : Addr) (c : Ce) : Prop where
  c0 : w.cell? ad = some (.int .i32 c.r)
  c1 : w.cell? ⟨ad.block, ad.off + 1, none⟩ = some (.int .u8 c.wd)
  c2 : w.cell? ⟨ad.block, ad.off + 2, none⟩ = some (.int .u32 c.p.fg)
  c3 : w.cell? ⟨ad.block, ad.off + 3, none⟩ = some (.int .u32 c.p.bg)
  c4 : w.cell? ⟨ad.block, ad.off + 4, none⟩ = some (.int .u8 c.p.st)
  c5 : w.cell? ⟨ad.block, ad.off + 5, none⟩ = some (.int .u16 c.p.lk)
theorem addStep (ad : Addr) (j : Nat) : ad.add (j + 1) = ⟨ad.block, ad.off + (j + 1), none⟩ := rfl
theorem addZero (ad : Addr) : ad.add 0 = ad := rfl
theorem Vs.six {w : World} {ad : Addr} {n : Nat} {L : List Ce} (h : Vs ceV w (some ad) n L) {k : Nat} (hk : k < n) : Six w (ad.add (k * 6)) (cAt L k) := by
  have h1 := h.get ceV_len (getElem?_cAt (L := L) (k := k) (by rw [h.len]; exact hk))
  exact ⟨by simpa [addZero] using h1 0 _ rfl, by simpa [addStep] using h1 1 _ rfl, by simpa [addStep] using h1 2 _ rfl, by simpa [addStep] using h1 3 _ rfl, by simpa [addStep] using h1 4 _ rfl, by simpa [addStep] using h1 5 _ rfl⟩

theorem take_snocC {xs ys : List Ce} {k : Nat} (h1 : k < xs.length) (h2 : k < ys.length) : (xs.take (k + 1) = ys.take (k + 1)) ↔ (xs.take k = ys.take k ∧ cAt xs k = cAt ys k) := by
  rw [List.take_add_one, List.take_add_one, getElem?_cAt h1, getElem?_cAt h2]
  constructor
  · intro h
    have h3 := List.append_inj h (by simp; omega)
    exact ⟨h3.1, by simpa using h3.2⟩
  · rintro ⟨e1, e2⟩
    rw [e1, e2]
set_option maxHeartbeats 800000 in
theorem sameC_any {w : World} {A A' : Option Addr} {n n' c c' : Nat} {xs ys : List Ce} (h : Vs ceV w A n xs) (h' : Vs ceV w A' n' ys) (hn : n ≤ 1000000) (hn' : n' ≤ 9223372036854775807) :
    Calls Try.prog 21 #[.slice A n c, .slice A' n' c'] w fun e w' => e = .returned (.bool (decide (xs = ys))) ∧ ∃ q, w' = w.drewN q := by
  by_cases hne : n = n'
  · subst hne
    have H := Lib.hid (And.intro h h')
    clear h h' hn'
    go_enter Try.func21, Try.ntmps21
    go_wp2
    go_loopw [13] (fun i wr => ∃ k q : Nat, k ≤ n ∧ i = .int .i64 k ∧ xs.take k = ys.take k ∧ wr = w.drewN q) (fun i _ => n - (intOf i).toNat)
    case atStart => exact ⟨0, 0, Nat.zero_le _, rfl, by simp, rfl⟩
    case round =>
      obtain ⟨k, q, hk, rfl, hx, rfl⟩ := hrel
      have HX := Lib.hid hx
      clear hx
      by_cases hlt : k < n
      · obtain ⟨ad, rfl⟩ := H.out.1.addr (by omega)
        obtain ⟨ad', rfl⟩ := H.out.2.addr (by omega)
        obtain ⟨a0, a1, a2, a3, a4, a5⟩ := H.out.1.six hlt
        obtain ⟨b0, b1, b2, b3, b4, b5⟩ := H.out.2.six hlt
        have HT := Lib.hid (take_snocC (xs := xs) (ys := ys) (k := k) (by rw [H.out.1.len]; exact hlt) (by rw [H.out.2.len]; exact hlt))
        have hne := fun w => ce_neq (cAt xs k) (cAt ys k) w
        unfold ceA at hne
        generalize cAt xs k = x at a0 a1 a2 a3 a4 a5 HT hne
        generalize cAt ys k = y at b0 b1 b2 b3 b4 b5 HT hne
        have hgd := guardCe
        obtain ⟨B, hB⟩ : ∃ B, decide (x = y) = B := ⟨_, rfl⟩
        rw [hB] at hne
        have HB := Lib.hid hB
        clear hB
        cases B
        · have hd : decide (xs = ys) = false := by
            rw [decide_eq_false_iff_not]
            rintro rfl
            exact (of_decide_eq_false HB.out) (HT.out.1 rfl).2
          have HD := Lib.hid hd
          clear hd
          go_wp2
          go_quiet (fail)
          go_wp2
          go_ret
          exact ⟨retBC HD.out.symm, q + nq, by simp [World.drewN, Nat.add_assoc]⟩
        · have ht := HT.out.2 ⟨HX.out, of_decide_eq_true HB.out⟩
          have HTT := Lib.hid ht
          clear ht HT
          go_wp2
          go_quiet (fail)
          go_wp2
          go_roundw
          case rel => exact ⟨k + 1, q + nq, by omega, by go_num, HTT.out, rfl⟩
          case measure => simp [intOf]; omega
      · have hd : decide (xs = ys) = true := by
          have e1 := HX.out
          rw [List.take_of_length_le (by rw [H.out.1.len]; omega), List.take_of_length_le (by rw [H.out.2.len]; omega)] at e1
          simpa using e1
        have HD := Lib.hid hd
        clear hd
        go_wp2
        go_ret
        exact ⟨retBC HD.out.symm, q, rfl⟩
  · have hd : decide (xs = ys) = false := by
      rw [decide_eq_false_iff_not]
      rintro rfl
      exact hne (h.len.symm.trans h'.len)
    rw [hd]
    have hne' : ¬ ((n : Int) = (n' : Int)) := by omega
    clear h h' hd
    go_enter Try.func21, Try.ntmps21
    go_wp2
    go_ret
    exact ⟨rfl, 0, rfl⟩

theorem made_cells {α : Type} {f : α → List Value} {d : Nat} (hf : ∀ a, (f a).length = d) (hd : 0 < d) (z : α) (n : Nat) : madeCells (f z).toArray (n * d) = (rowV f (List.replicate n z)).toArray := by
  apply Array.ext'
  apply List.ext_getElem?
  intro i
  unfold madeCells
  simp only [Array.toList_map, Array.toList_range, List.getElem?_map]
  by_cases hi : i < n * d
  · have h1 : i / d < n := (Nat.div_lt_iff_lt_mul hd).2 hi
    have h2 : i % d < (f z).length := by rw [hf]; exact Nat.mod_lt _ hd
    have h3 := rowV_get hf (L := List.replicate n z) (k := i / d) (a := z) (by simp [h1]) (j := i % d) (List.getElem?_eq_getElem h2)
    rw [Nat.div_add_mod' i d] at h3
    rw [h3]
    simp [hi, hf]
    have h4 : i % d < (f z).length := h2
    simp [h4]
  · rw [List.getElem?_eq_none (l := rowV f (List.replicate n z)) (by rw [rowV_len hf, List.length_replicate]; omega), List.getElem?_eq_none (l := List.range (n * d)) (by rw [List.length_range]; omega)]
    rfl
theorem make_any {e : TypeId} {P : Program} {α : Type} {f : α → List Value} {d b8 : Nat} (t : TypeId) (ht : P.underlying t = some (.slice e)) (z : α) (hf : ∀ a, (f a).length = d) (hd : 0 < d) (hb8 : b8 ≤ 64)
    (hi : (P.info? e).map (fun i => (i.zero, i.size, i.bytes)) = some (some (.agg (f z).toArray), d, b8)) (n : Nat) (hn : n ≤ 1000000) (w : World) :
    (Instr.makeSlice t (.int .i64 (n : Int)) (.int .i64 (n : Int))).run P w = .ok (.slice (some ⟨w.heap.size, 0, none⟩) n n) (w.alloc (.cells (rowV f (List.replicate n z)).toArray e)) := by
  obtain ⟨i0, hi, hz0, hz1, hz2⟩ := info_parts hi
  have h1 : (i0.bytes : Int) * (n : Int) ≤ 281474976710656 := by
    have h2 : i0.bytes * n ≤ 64 * 1000000 := Nat.mul_le_mul (by omega) hn
    have : ((i0.bytes * n : Nat) : Int) ≤ 281474976710656 := by omega
    rwa [Int.natCast_mul] at this
  have hr := run_make (P := P) w t e i0 _ ht hi hz0 .i64 .i64 n n (by omega) (Int.le_refl _) h1 (by omega)
  rw [hr, hz1]
  simp only [Int.toNat_natCast]
  rw [show (Value.agg (f z).toArray).cells = (f z).toArray from rfl, made_cells hf hd z n]
theorem made_rw {α : Type} {f : α → List Value} (w : World) (e : TypeId) (L : List α) : Rw f e (w.alloc (.cells (rowV f L).toArray e)) w.heap.size L := ⟨[], by rw [List.append_nil]; exact heap_alloc_new w _⟩

theorem copyC_any {w : World} {A : Option Addr} {n c : Nat} {L : List Ce} (h : Vs ceV w A n L) (hn : n ≤ 1000000) : Calls Try.prog 18 #[.slice A n c] w (MadeC L w) := by
  have hmk := make_any (P := Try.prog) 41 Try.underlying41 ce0 ceV_len (by omega) (b8 := 20) (by omega) infoCe3 n hn
  have H := Lib.hid (And.intro (h.alloc (.cells (rowV ceV (List.replicate n ce0)).toArray 51)) (made_rw (f := ceV) w 51 (List.replicate n ce0)))
  have HL := Lib.hid h.len
  clear h
  go_enter Try.func18, Try.ntmps18
  go_wp2_with (refine wpList_copy_V rfl (.tmp 7) (.tmp 8) 41 41 rfl 51 ceV_len one_ce Try.underlying41 infoCe w.heap.size 0 n n (some ⟨w.heap.size, 0, none⟩) A n c rfl rfl 51 (List.replicate n ce0) L H.out.2 (by rw [HL.out]; exact (Nat.min_self n).symm) (by rw [HL.out]; exact H.out.1) (fun _ => by simp) (by simp [HL.out]) ?_; intro w1 hR hg)
  have X : MadeC L w (.returned (.slice (some ⟨w.heap.size, 0, none⟩) n n)) w1 := by
    refine ⟨((Below.refl _ _).alloc (Nat.le_refl _) _).grown hg (by simp) (by intro k hk; injection hk with hk; omega), w.heap.size, n, by rw [HL.out], Nat.le_refl _, by rw [HL.out]; exact Nat.le_refl _, by unfold maxLen; omega, ?_⟩
    have e : List.take 0 (List.replicate n ce0) ++ (L ++ List.drop (0 + L.length) (List.replicate n ce0)) = L := by simp [HL.out]
    rw [e] at hR
    exact hR
  clear hR hg
  go_wp2_with fail
  go_ret
  exact X
end Go.Proofs.Ytbjgjhhombalpaa
