/-
  utf.Runes: all that bytes tell.
-/
import Derived.Test.YtpikbekcdbfdhaaDoorUtfMem
import Derived.Laws.EntriesVeiled
namespace Go.Proofs.YtpikbekcdbfdhaaDoor
open Go.RowKit

theorem sL_from (s : ByteArray) (k : Nat) : sL (s.extract k s.size) = (sL s).drop k := by
  simp [sL, ByteArray.extract, ByteArray.copySlice]
  rw [List.take_of_length_le (by simp)]
theorem own_ne {w : World} {base it : Nat} {e : TypeId} {v : Value} {n : Nat} {xs : List Value} (h : w.ownsRow base e 1 v n xs) (hb : it < base) : v.ownBlock = none ∨ v.ownBlock ≠ some it := by
  obtain ⟨A, c, rfl, _, _⟩ := own_shape h
  cases A with
  | none => exact .inl rfl
  | some ad => exact .inr (fun e => by have := (own_block h).1; simp [Value.ownBlock] at e; omega)
theorem decS_ct {L : List Int} (h : 128 ≤ L.getD 0 0 ∧ L.getD 0 0 ≤ 191) : decS L = (65533, 1) := by
  have hs : szF (L.getD 0 0) = 0 := by unfold szF; rw [if_neg (by omega), if_pos (by omega)]
  unfold decS
  by_cases hne : L = []
  · subst hne; rfl
  · rw [headN hne, hs]; simp
theorem decS_rng {L : List Int} (hb : ∀ z ∈ L, 0 ≤ z ∧ z ≤ 255) : 0 ≤ (decS L).1 ∧ (decS L).1 ≤ 1114111 := by
  unfold decS
  split
  · rename_i h
    have := mayS_iff.1 (head_split hb h).2.2
    simp only; omega
  · simp
/-- The range's state: told so far, the place, and up to where a broken letter is told already. -/
structure RunSt (L T : List Int) (pos q : Nat) : Prop where
  tell : foldS [] L = T ++ foldS [] (L.drop (max pos q))
  ct : ∀ j, pos ≤ j → j < q → 128 ≤ L.getD j 0 ∧ L.getD j 0 ≤ 191
  ql : q ≤ L.length
  tl : T.length ≤ pos
theorem RunSt.skip {L T : List Int} {pos q : Nat} (h : RunSt L T pos q) (hlt : pos < q) : decS (L.drop pos) = (65533, 1) ∧ RunSt L T (pos + 1) q := by
  have h1 := h.ct pos (Nat.le_refl _) hlt
  refine ⟨decS_ct (by simpa [List.getD] using h1), ?_, fun j h2 h3 => h.ct j (by omega) h3, h.ql, by have := h.tl; omega⟩
  rw [h.tell, show max pos q = max (pos + 1) q by omega]
theorem RunSt.more {L T : List Int} {pos q : Nat} (h : RunSt L T pos q) (hle : q ≤ pos) (hp : pos < L.length) : RunSt L (T ++ [(decS (L.drop pos)).1]) (pos + (decS (L.drop pos)).2) (pos + begLen (L.drop pos)) := by
  have ht := h.tell
  rw [show max pos q = pos by omega] at ht
  have hne : L.drop pos ≠ [] := fun e => by have := congrArg List.length e; simp at this; omega
  have hl := begLen_le (L.drop pos)
  rw [List.length_drop] at hl
  have htl := h.tl
  unfold decS
  cases hh : headS (L.drop pos) with
  | none =>
    obtain ⟨e1, e2, e3, e4⟩ := fold_none hne hh
    refine ⟨?_, fun j h1 h2 => ?_, by omega, by simp; omega⟩
    · rw [ht, e1, List.drop_drop, List.append_assoc, show max (pos + 1) (pos + begLen (List.drop pos L)) = pos + max 1 (begLen (List.drop pos L)) by omega]
      rfl
    · have := e4 (j - pos) (by simp only at h1; omega) (by omega)
      simpa [List.getD, show pos + (j - pos) = j by simp only at h1; omega] using this
  | some x =>
    obtain ⟨r, n⟩ := x
    obtain ⟨e1, e2, e3⟩ := fold_head hh
    refine ⟨?_, fun j h1 h2 => by simp only at h1; omega, by omega, by simp; omega⟩
    rw [ht, e1, List.drop_drop, List.append_assoc]
    simp only
    rw [show max (pos + n) (pos + begLen (List.drop pos L)) = pos + n by omega]
    rfl

set_option maxHeartbeats 1600000 in
set_option maxRecDepth 100000 in
theorem runes_any {w : World} {A : Option Addr} {n c : Nat} {zs : List Int} (hT : Tabs w) (hs : Sb w A n zs) (h8 : U8s zs) (hn : n ≤ 100000) :
    Calls Tryd.prog 17 #[.slice A n c] w fun e w' => Runs (foldS [] zs) w e w' := by
  have hcv := conv_any (c := c) hs 9 Tryd.underlying9
  obtain ⟨s, hs'⟩ : ∃ s, strOfNums zs = s := ⟨_, rfl⟩
  have hsz : s.size = n := by rw [← hs', strOfNums_size]; exact hs.len
  have hL : sL s = zs := by rw [← hs']; exact sL_nums h8
  rw [hs'] at hcv
  have H := Lib.hid (show Tabs w ∧ sL s = zs ∧ U8s zs ∧ zs.length = n from ⟨hT, hL, h8, hs.len⟩)
  clear hT hs h8 hL hs'
  go_enter Tryd.func17, Tryd.ntmps17
  go_wp2_with fail
  obtain ⟨it, hit⟩ : ∃ it, it = w.heap.size := ⟨_, rfl⟩
  have I0 : It (w.iter s 0) it s 0 := by rw [hit]; exact World.iter_heap w s 0
  have B0 : Below w.heap.size w (w.iter s 0) := (Below.refl _ _).alloc (Nat.le_refl _) _
  have S0 : it < (w.iter s 0).heap.size := I0.lt
  have HI := Lib.hid hit
  clear hit
  go_loopw [4, 5] (fun v p wr => ∃ (pos q : Nat) (T : List Int), p = .int .i64 q ∧ wr.ownsRow (it + 1) 21 1 v T.length (T.map (Value.int .i32)) ∧ It wr it s pos ∧ RunSt zs T pos q ∧ pos ≤ s.size ∧ Below w.heap.size w wr) (fun _ _ wr => s.size - wr.iterPos it)
  case atStart => exact ⟨0, 0, [], rfl, World.ownsRow_nil _ _ _ _, I0, ⟨by simp, fun j h1 h2 => by omega, by omega, by simp⟩, by omega, B0⟩
  case round =>
    obtain ⟨pos, q, T, rfl, hown, hi, hst, hps, hbw⟩ := hrel
    have X := Lib.hid (show wr.ownsRow (it + 1) 21 1 u4 T.length (T.map (Value.int .i32)) ∧ It wr it s pos ∧ RunSt zs T pos q ∧ Below w.heap.size w wr from ⟨hown, hi, hst, hbw⟩)
    have hql : q ≤ 100000 := by have := hst.ql; have := H.out.2.2.2; omega
    have htl := hst.tl
    clear hown hi hst hbw I0 B0
    by_cases hp : pos < s.size
    · obtain ⟨w2, hi2, hg2, hz2, hnx⟩ := X.out.2.1.next hp
      obtain ⟨e1, e2⟩ := dec_at s pos hp
      rw [H.out.2.1] at e1 e2
      rw [e1, HI.out] at hnx
      rw [e2] at hi2
      obtain ⟨R, hR⟩ : ∃ R, (decS (zs.drop pos)).1 = R := ⟨_, rfl⟩
      obtain ⟨K, hK⟩ : ∃ K, (decS (zs.drop pos)).2 = K := ⟨_, rfl⟩
      rw [hR] at hnx
      rw [hK] at hi2
      by_cases hlt : pos < q
      · obtain ⟨hd, hst2⟩ := X.out.2.2.1.skip hlt
        rw [hd] at hR hK
        obtain rfl : R = 65533 := hR.symm
        obtain rfl : K = 1 := hK.symm
        have hlz : (pos : Int) < (q : Int) := by omega
        have Y := Lib.hid (show w2.ownsRow (it + 1) 21 1 u4 T.length (T.map (Value.int .i32)) ∧ It w2 it s (pos + 1) ∧ RunSt zs T (pos + 1) q ∧ Below w.heap.size w w2 from
          ⟨X.out.1.kept hg2 (own_ne X.out.1 (by omega)), hi2, hst2, X.out.2.2.2.grown hg2 X.out.2.2.2.size (fun k hk => by cases hk; have := HI.out; omega)⟩)
        have hip := X.out.2.1.pos
        clear hg2 hi2 hst2 hd e1 e2
        go_wp2_with fail
        go_roundw
        case rel => exact ⟨pos + 1, q, T, rfl, Y.out.1, Y.out.2.1, Y.out.2.2.1, by omega, Y.out.2.2.2⟩
        case measure => rw [hip, Y.out.2.1.pos]; omega
      · have hnl : ¬ (pos : Int) < (q : Int) := by omega
        have hst2 := X.out.2.2.1.more (by omega) (by rw [H.out.2.2.2]; omega)
        rw [hR, hK] at hst2
        have Y := Lib.hid (show w2.ownsRow (it + 1) 21 1 u4 T.length (T.map (Value.int .i32)) ∧ It w2 it s (pos + K) ∧ RunSt zs (T ++ [R]) (pos + K) (pos + begLen (zs.drop pos)) ∧ Below w.heap.size w w2 ∧ it + 1 ≤ w2.heap.size from
          ⟨X.out.1.kept hg2 (own_ne X.out.1 (by omega)), hi2, hst2, X.out.2.2.2.grown hg2 X.out.2.2.2.size (fun k hk => by cases hk; have := HI.out; omega), by have := hi2.lt; omega⟩)
        have hip := X.out.2.1.pos
        have hK1 : 1 ≤ K ∧ pos + K ≤ s.size := by
          have := decS_len (L := zs.drop pos) (fun e => by have h1 := congrArg List.length e; have h2 := H.out.2.2.2; simp at h1; omega)
          rw [hK, List.length_drop] at this
          have h2 := H.out.2.2.2
          omega
        clear hg2 hi2 hst2 e1 e2 hz2
        go_wp2_with (refine wpList_appI _ rfl (.tmp 19) (.tmp 21) 28 rfl (it + 1) 21 .i32 4 (by omega) Tryd.underlying28 info32 u4 T.length _ rfl (ownI_below Y.out.1 ((Below.refl _ _).alloc (Nat.le_refl _) _)) (some ⟨w2.heap.size, 0, none⟩) 1 1 (T.length + 1) rfl [R] rfl (Ik.one _ _ _ _) (by omega) (by have := Y.out.2.2.2.2; simp [World.size_alloc]; omega) ?_)
        intro A' c' w3 hown3 hg3
        have Z := Lib.hid (show w3.ownsRow (it + 1) 21 1 (.slice A' (T.length + 1) c') (T ++ [R]).length ((T ++ [R]).map (Value.int .i32)) ∧ It w3 it s (pos + K) ∧ Below w.heap.size w w3 from by
          have hz : (w2.alloc (.cells #[.int .i32 R] 21)).heap.size = w2.heap.size + 1 := by simp [World.size_alloc]
          refine ⟨by simpa using hown3, ?_, ?_⟩
          · have h1 : It (w2.alloc (.cells #[.int .i32 R] 21)) it s (pos + K) := Y.out.2.1.below ((Below.refl _ _).alloc (Nat.le_refl _) _)
            refine h1.grown hg3 ?_
            rcases own_ne (it := it) Y.out.1 (by omega) with h | h
            · rw [h]; simp
            · exact h
          · refine (Y.out.2.2.2.1.alloc Y.out.2.2.2.1.size _).grown hg3 (by rw [hz]; have := Y.out.2.2.2.1.size; omega) (fun k hk => ?_)
            obtain ⟨A0, c0, e0, _, _⟩ := own_shape Y.out.1
            cases A0 with
            | none => rw [e0] at hk; cases hk
            | some ad => rw [e0] at hk; have h1 := Y.out.1; rw [e0] at h1; have := (own_block h1).1; simp [Value.ownBlock] at hk; have := HI.out; omega)
        clear hown3 hg3
        have hbg := beginning_any (w := w3) (s.extract pos s.size) (H.out.1.below Z.out.2.2 (Nat.le_refl _)) (by simp [ByteArray.size_extract]; omega)
        rw [sL_from, H.out.2.1] at hbg
        have hbl := begLen_le (zs.drop pos)
        obtain ⟨M, hM⟩ : ∃ M, begLen (zs.drop pos) = M := ⟨_, rfl⟩
        rw [hM] at hbg hbl
        have HG := Lib.hid hbg
        have hpz : (pos : Int) ≤ (s.size : Int) := by omega
        have AR := Lib.hid (show 1 ≤ K ∧ pos + K ≤ s.size ∧ pos < s.size ∧ M ≤ (zs.drop pos).length ∧ M ≤ 3 ∧ wr.iterPos it = pos ∧ T.length ≤ pos ∧ s.size = n ∧ n ≤ 100000 from ⟨hK1.1, hK1.2, hp, hbl.1, hbl.2, hip, htl, hsz, hn⟩)
        clear hbg hbl hK1 hp hip htl hsz hn hql hlt hps
        go_wp2_with fail
        refine HG.out.mono ?_
        rintro e w4 ⟨rfl, hb4⟩
        have hsm : (pos : Int) + (M : Int) ≤ 200000 := by have := AR.out; omega
        go_wp2_with fail
        go_roundw
        case rel => exact ⟨pos + K, pos + M, T ++ [R], by go_num, by have := ownI_below Z.out.1 hb4; simpa using this, Z.out.2.1.below hb4, by rw [← hM]; exact Y.out.2.2.1, AR.out.2.1, Z.out.2.2.trans (hb4.mono Z.out.2.2.size)⟩
        case measure => have h1 := AR.out; rw [h1.2.2.2.2.2.1, (Z.out.2.1.below hb4).pos]; omega
    · have hdn := X.out.2.1.done hp
      rw [HI.out] at hdn
      have htell := X.out.2.2.1.tell
      rw [List.drop_of_length_le (show zs.length ≤ max pos q by have := H.out.2.2.2; omega)] at htell
      have h5 := own_base X.out.1 (show w.heap.size ≤ it + 1 by have := HI.out; omega)
      obtain ⟨A0, c0, rfl, _, _⟩ := own_shape X.out.1
      have Y := Lib.hid (And.intro htell (And.intro h5 X.out.2.2.2))
      clear htell h5
      go_wp2_with fail
      go_ret
      exact ⟨A0, _, c0, rfl, by rw [Y.out.1]; simpa [foldS, endS] using Y.out.2.1, Y.out.2.2⟩
end Go.Proofs.YtpikbekcdbfdhaaDoor
