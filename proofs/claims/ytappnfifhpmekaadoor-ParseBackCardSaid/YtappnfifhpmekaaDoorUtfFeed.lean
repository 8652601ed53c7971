/-
  A decoder of the code: New, Feed, End.
-/
import Derived.Test.YtappnfifhpmekaaDoorUtfRuns
import Derived.RegionTactic
import Derived.Deep.RegionHeld3
import Derived.Lib.SmallJoins
import Derived.Laws.Concat
import Derived.Laws.OwnMore
namespace Go.Proofs.YtappnfifhpmekaaDoor
open Go.RowKit

/-- The decoder d has what o says. -/
def Dc (w : World) (d : Nat) (o : List Int) : Prop := ∃ s : ByteArray, w.heap[d]? = some (.cells #[.string s] 60 (0, 0)) ∧ sL s = o
theorem Dc.lt {w : World} {d : Nat} {o : List Int} (h : Dc w d o) : d < w.heap.size := by obtain ⟨s, h1, _⟩ := h; exact (Array.getElem?_eq_some_iff.1 h1).1
theorem Dc.below {w w' : World} {d : Nat} {o : List Int} (h : Dc w d o) (hb : Below w.heap.size w w') : Dc w' d o := by
  have hl := h.lt
  obtain ⟨s, h1, h2⟩ := h
  exact ⟨s, (hb.block d hl).trans h1, h2⟩
theorem Dc.drewN {w : World} {d : Nat} {o : List Int} (h : Dc w d o) (q : Nat) : Dc (w.drewN q) d o := h
theorem sL_empty : sL (⟨#[]⟩ : ByteArray) = [] := rfl

theorem new_any' (w : World) : Calls Tryd.prog 26 #[] w fun e w' => e = .returned (.pointer (some ⟨w.heap.size, 0, none⟩)) ∧ Dc w' w.heap.size [] ∧ Below w.heap.size w w' := by
  go_enter Tryd.func26, Tryd.ntmps26
  go_wp2_with fail
  go_ret
  exact ⟨rfl, ⟨_, heap_alloc_new _ _, sL_empty⟩, (Below.refl _ _).alloc (Nat.le_refl _) _⟩

theorem conv_one (w : World) (b : Int) : (convert 23 9 (.slice (some ⟨w.heap.size, 0, none⟩) 1 1)).run Tryd.prog (w.alloc (.cells #[.int .u8 b] 5)) = .ok (.string (strOfNums [b])) (w.alloc (.cells #[.int .u8 b] 5)) :=
  conv_any (Sb.one w 5 b) _ Tryd.underlying9

theorem beg_not_whole {L : List Int} (h : begS L = true) : wholeS L = none := by
  rcases L with _ | ⟨a, _ | ⟨b, _ | ⟨c, _ | ⟨d, t⟩⟩⟩⟩ <;> simp [begS] at h <;> simp [wholeS] <;> (intros; omega)
theorem feed_more {o : List Int} {b : Int} (h : begS (o ++ [b]) = true) : feedS o b = ([], o ++ [b]) := by simp [feedS, beg_not_whole h, h]
theorem feed_done {o : List Int} {b r : Int} (h : wholeS (o ++ [b]) = some r) : feedS o b = ([r], []) := by simp [feedS, h]
theorem feed_bad {b : Int} (h : wholeS [b] = none) (h' : begS [b] = false) : feedS [] b = ([65533], []) := by simp [feedS, h, h']
theorem feed_fall {o : List Int} {b : Int} (h : wholeS (o ++ [b]) = none) (h' : begS (o ++ [b]) = false) (ho : o ≠ []) : feedS o b = (65533 :: (feed1 b).1, (feed1 b).2) := by simp [feedS, h, h', ho]

/-- What Feed leaves. -/
def FeedPost (w : World) (d : Nat) (o : List Int) (b : Int) (e : Ending) (w' : World) : Prop :=
  ∃ A n c, e = .returned (.slice A n c) ∧ Ik .i32 w' A n (feedS o b).1 ∧ Dc w' d (feedS o b).2 ∧ w.grownBy w' (some d) ∧ w.heap.size ≤ w'.heap.size
theorem sL_append (s u : ByteArray) : sL (s ++ u) = sL s ++ sL u := by simp [sL, ByteArray.data_append]

set_option maxHeartbeats 1600000 in
set_option maxRecDepth 100000 in
theorem feed_gen {w0 w : World} {d : Nat} {o : List Int} {b : Int} (hrec : o ≠ [] → ∀ wx, Below w0.heap.size w0 wx → Dc wx d [] → Calls Tryd.prog 43 #[.pointer (some ⟨d, 0, none⟩), .int .u8 b] wx (FeedPost wx d [] b)) (hT : Tabs w0) (hb : Below w0.heap.size w0 w) (hd : w0.heap.size ≤ d) (hD : Dc w d o) (ho : Op o) (h8 : 0 ≤ b ∧ b ≤ 255) :
    Calls Tryd.prog 43 #[.pointer (some ⟨d, 0, none⟩), .int .u8 b] w (FeedPost w d o b) := by
  obtain ⟨s, hs, hso⟩ := hD
  have hl : s.size ≤ 3 := by have := ho.len; rw [← hso, sL_len] at this; exact this
  have hc : w.cell? ⟨d, 0, none⟩ = some (.string s) := by rw [cell_of_row _ _ 0 _ _ _ hs]; rfl
  have H := Lib.hid (show Tabs w0 ∧ Below w0.heap.size w0 w ∧ w0.heap.size ≤ d ∧ sL s = o ∧ Op o ∧ w.heap[d]? = some (.cells #[.string s] 60 (0, 0)) from ⟨hT, hb, hd, hso, ho, hs⟩)
  clear hT hb hd hso ho hs
  have k1 : (strOfNums [b]).size = 1 := strOfNums_size [b]
  obtain ⟨u, hu⟩ : ∃ u, strOfNums [b] = u := ⟨_, rfl⟩
  have kc := conv_one w b
  have kc2 : (convert 23 9 (.slice (some ⟨w.heap.size, 0, none⟩) 1 1)).run Tryd.prog (w.alloc (.cells #[.int .u8 b] 5)).drew = .ok (.string (strOfNums [b])) (w.alloc (.cells #[.int .u8 b] 5)).drew := conv_any (Sb.one w 5 b).drew _ Tryd.underlying9
  rw [hu] at k1 kc kc2
  have hc2 : (w.alloc (.cells #[.int .u8 b] 5)).drew.cell? ⟨d, 0, none⟩ = some (.string s) := by
    have h1 := heap_alloc_old w (.cells #[.int .u8 b] 5) (Array.getElem?_eq_some_iff.1 H.out.2.2.2.2.2).1
    exact (cell_of_row _ d 0 _ _ _ (h1.trans H.out.2.2.2.2.2)).trans rfl
  have hc3 : (w.alloc (.cells #[.int .u8 b] 5)).cell? ⟨d, 0, none⟩ = some (.string s) := hc2
  have ksz1 : ¬ 9223372036854775807 < s.size + 1 := by omega
  have ksz : s.size + u.size ≤ 9223372036854775807 := by omega
  go_enter Tryd.func43, Tryd.ntmps43
  go_wp2_with fail
  go_region
  have hdl := (Array.getElem?_eq_some_iff.1 H.out.2.2.2.2.2).1
  have Y1 := Lib.hid (show Below w.heap.size w (w.alloc (.cells #[.int .u8 b] 5)).drew ∧ (w.alloc (.cells #[.int .u8 b] 5)).drew.heap[d]? = some (.cells #[.string s] 60 (0, 0)) from
    ⟨((Below.refl _ _).alloc (Nat.le_refl _) _).drew, (heap_alloc_old w _ hdl).trans H.out.2.2.2.2.2⟩)
  clear hc hc2 hc3 kc kc2
  generalize (w.alloc (.cells #[.int .u8 b] 5)).drew = w1 at Y1 ⊢
  have htl : sL (s ++ u) = o ++ [b] := by rw [sL_append, H.out.2.2.2.1, ← hu, sL_nums (fun z hz => by simp at hz; subst hz; exact h8)]
  have htz : (s ++ u).size = o.length + 1 := by rw [← sL_len, htl]; simp
  have ho3 := H.out.2.2.2.2.1.len
  clear ksz ksz1 hl hu k1
  generalize s ++ u = t at htl htz ⊢
  have HU := Lib.hid (unfinished_any (w := w1) t (H.out.1.below (H.out.2.1.trans (Y1.out.1.mono H.out.2.1.size)) (Nat.le_refl _)) (by omega))
  rw [htl] at HU
  have HT := Lib.hid (And.intro htl (And.intro htz ho3))
  clear htl htz ho3
  cases hbg : begS (o ++ [b])
  · rw [hbg] at HU
    have HB := Lib.hid hbg
    clear hbg
    go_wp2_with fail
    refine HU.out.mono ?_
    rintro e w2 ⟨rfl, hb2⟩
    have Y2 := Lib.hid (show Below w.heap.size w w2 ∧ w2.heap[d]? = some (.cells #[.string s] 60 (0, 0)) from ⟨Y1.out.1.trans (hb2.mono Y1.out.1.size), (hb2.block d (Array.getElem?_eq_some_iff.1 Y1.out.2).1).trans Y1.out.2⟩)
    clear hb2 Y1 HU
    have hc : w2.cell? ⟨d, 0, none⟩ = some (.string s) := by rw [cell_of_row _ _ 0 _ _ _ Y2.out.2]; rfl
    have hf : w2.frozen? ⟨d, 0, none⟩ = false := frozen_of_row _ _ 0 _ _ Y2.out.2
    have hset := heap_setCell_same w2 d 0 _ _ (.string ⟨#[]⟩) Y2.out.2
    go_wp2_with fail
    have Y3 := Lib.hid (show w.grownBy (w2.setCell ⟨d, 0, none⟩ (.string ⟨#[]⟩)) (some d) ∧ Dc (w2.setCell ⟨d, 0, none⟩ (.string ⟨#[]⟩)) d [] ∧ w.heap.size ≤ (w2.setCell ⟨d, 0, none⟩ (.string ⟨#[]⟩)).heap.size ∧ Below w0.heap.size w0 (w2.setCell ⟨d, 0, none⟩ (.string ⟨#[]⟩)) from
      ⟨grownBy_trans (grownBy_below Y2.out.1) (grownBy_set w2 ⟨d, 0, none⟩ _), ⟨_, hset.trans rfl, sL_empty⟩, Nat.le_trans Y2.out.1.size (Nat.le_of_eq (World.size_setCell _ _ _).symm),
        (H.out.2.1.trans (Y2.out.1.mono H.out.2.1.size)).setCell H.out.2.2.1 _⟩)
    clear hset hc hf Y2
    generalize w2.setCell ⟨d, 0, none⟩ (.string ⟨#[]⟩) = w3 at Y3 ⊢
    have HD := Lib.hid (dec_any (w := w3) t (H.out.1.below Y3.out.2.2.2 (Nat.le_refl _)) (by have := HT.out; omega))
    rw [HT.out.1] at HD
    have hhead := head_op H.out.2.2.2.2.1 HB.out
    cases hwh : wholeS (o ++ [b]) with
    | some r =>
      rw [hwh] at hhead
      have hds : decS (o ++ [b]) = (r, o.length + 1) := by unfold decS; rw [hhead]; rfl
      rw [hds] at HD
      have HF := Lib.hid (feed_done hwh)
      have hts : ((o.length + 1 : Nat) : Int) = (t.size : Int) := by rw [HT.out.2.1]
      have hts2 : t.size = o.length + 1 := HT.out.2.1
      clear hds hhead hwh hrec
      refine HD.out.mono ?_
      rintro e w4 ⟨rfl, hb4⟩
      generalize ((o.length + 1 : Nat) : Int) = K at hts ⊢
      subst hts
      clear hts2
      go_wp2_with fail
      go_ret
      refine ⟨_, _, _, rfl, ?_, ?_, ?_, ?_⟩
      · rw [HF.out]; exact Ik.one _ _ _ _
      · rw [HF.out]; exact (Y3.out.2.1.below hb4).below ((Below.refl _ _).alloc (Nat.le_refl _) _)
      · exact grownBy_trans Y3.out.1 (grownBy_below (hb4.alloc hb4.size _))
      · have := (hb4.alloc hb4.size (.cells #[.int .i32 r] 21)).size; exact Nat.le_trans Y3.out.2.2.1 this
    | none =>
      rw [hwh] at hhead
      have hds : decS (o ++ [b]) = (65533, 1) := by unfold decS; rw [hhead]; rfl
      rw [hds] at HD
      by_cases hoe : o = []
      · subst hoe
        have HF := Lib.hid (feed_bad hwh HB.out)
        have hts : (1 : Int) = (t.size : Int) := by rw [HT.out.2.1]; rfl
        clear hds hhead hwh hrec
        refine HD.out.mono ?_
        rintro e w4 ⟨rfl, hb4⟩
        go_wp2_with fail
        go_ret
        refine ⟨_, _, _, rfl, ?_, ?_, ?_, ?_⟩
        · rw [HF.out]; exact Ik.one _ _ _ _
        · rw [HF.out]; exact (Y3.out.2.1.below hb4).below ((Below.refl _ _).alloc (Nat.le_refl _) _)
        · exact grownBy_trans Y3.out.1 (grownBy_below (hb4.alloc hb4.size _))
        · have := (hb4.alloc hb4.size (.cells #[.int .i32 65533] 21)).size; exact Nat.le_trans Y3.out.2.2.1 this
      · have HF := Lib.hid (feed_fall hwh HB.out hoe)
        have hts : ¬ (1 : Int) = (t.size : Int) := by have := HT.out.2.1; have : o.length ≠ 0 := fun h => hoe (List.eq_nil_of_length_eq_zero h); omega
        have HR := Lib.hid (hrec hoe)
        clear hds hhead hwh hrec
        refine HD.out.mono ?_
        rintro e w4 ⟨rfl, hb4⟩
        go_wp2_with fail
        have hd4 : d < w4.heap.size := (Y3.out.2.1.below hb4).lt
        have hb5 : Below w4.heap.size w4 (w4.alloc (.cells #[.int .i32 65533] 21)) := (Below.refl _ _).alloc (Nat.le_refl _) _
        refine (HR.out (w4.alloc (.cells #[.int .i32 65533] 21)) ((Y3.out.2.2.2.trans (hb4.mono Y3.out.2.2.2.size)).alloc (Nat.le_trans Y3.out.2.2.2.size hb4.size) _) ((Y3.out.2.1.below hb4).below hb5)).mono ?_
        rintro e w5 ⟨A, n, c, rfl, hk, hdc, hg, hz⟩
        rw [feedS_nil] at hk hdc
        have hown : (w4.alloc (.cells #[.int .i32 65533] 21)).ownsRow w4.heap.size 21 1 (.slice (some ⟨w4.heap.size, 0, none⟩) 1 1) 1 [.int .i32 65533] :=
          World.ownsRow_lit w4 #[.int .i32 65533] 1 (Nat.le_refl _) (by unfold maxLen; omega) rfl
        have hown5 := hown.kept hg (.inr (fun e => by simp [Value.ownBlock] at e; omega))
        have hz5 : w4.heap.size + 1 ≤ w5.heap.size := by simp [World.size_alloc] at hz; omega
        have hnl : n ≤ 1 := by rw [← hk.len]; exact feed1_len b
        have hgg : w.grownBy w5 (some d) := grownBy_trans (grownBy_trans Y3.out.1 (grownBy_below (hb4.alloc hb4.size _))) hg
        have Y5 := Lib.hid (And.intro hk (And.intro hdc (And.intro hown5 (And.intro hz5 (And.intro hgg (And.intro hnl (And.intro hd4 hb4.size)))))))
        clear hk hdc hg hz hown hown5 hz5 hgg hnl hb4 hb5 hd4
        go_wp2_with (refine wpList_appI _ rfl (.tmp 38) (.tmp 41) 62 rfl w4.heap.size 21 .i32 4 (by omega) Tryd.underlying62 info32 (.slice (some ⟨w4.heap.size, 0, none⟩) 1 1) 1 _ rfl Y5.out.2.2.1 A n c (1 + n) rfl (feed1 b).1 rfl Y5.out.1 (by have := Y5.out.2.2.2.2.2.1; omega) (by have := Y5.out.2.2.2.1; omega) ?_; intro A' c' w6 hown6 hg6)
        go_ret
        have hne : Value.ownBlock (.slice (some ⟨w4.heap.size, 0, none⟩) 1 1) ≠ some d := fun e => by have := Y5.out.2.2.2.2.2.2.1; simp [Value.ownBlock] at e; omega
        have hdl5 := Y5.out.2.1.lt
        obtain ⟨s5, h51, h52⟩ := Y5.out.2.1
        refine ⟨_, _, _, rfl, ?_, ?_, ?_, ?_⟩
        · rw [HF.out]; exact Ik.own (by simpa using hown6)
        · rw [HF.out]; exact ⟨s5, (hg6.block d hdl5 (fun e => hne e.symm)).trans h51, h52⟩
        · refine ⟨hg6.os.trans Y5.out.2.2.2.2.1.os, hg6.tape.trans Y5.out.2.2.2.2.1.tape, hg6.output.trans Y5.out.2.2.2.2.1.output, Nat.le_trans Y5.out.2.2.2.2.1.size hg6.size, fun k hk hkd => ?_⟩
          have h1 := Y5.out.2.2.2.2.1
          have h3 := Y3.out.2.2.1
          have h4 := Y5.out.2.2.2.2.2.2.2
          exact (hg6.block k (Nat.lt_of_lt_of_le hk h1.size) (fun e => by simp [Value.ownBlock] at e; omega)).trans (h1.block k hk hkd)
        · exact Nat.le_trans Y5.out.2.2.2.2.1.size hg6.size
  · rw [hbg] at HU
    have HB := Lib.hid (feed_more hbg)
    clear hbg
    go_wp2_with fail
    refine HU.out.mono ?_
    rintro e w2 ⟨rfl, hb2⟩
    have Y2 := Lib.hid (show Below w.heap.size w w2 ∧ w2.heap[d]? = some (.cells #[.string s] 60 (0, 0)) from ⟨Y1.out.1.trans (hb2.mono Y1.out.1.size), (hb2.block d (Array.getElem?_eq_some_iff.1 Y1.out.2).1).trans Y1.out.2⟩)
    clear hb2 Y1 HU
    have hc : w2.cell? ⟨d, 0, none⟩ = some (.string s) := by rw [cell_of_row _ _ 0 _ _ _ Y2.out.2]; rfl
    have hf : w2.frozen? ⟨d, 0, none⟩ = false := frozen_of_row _ _ 0 _ _ Y2.out.2
    go_wp2_with fail
    go_ret
    have hset := heap_setCell_same w2 d 0 _ _ (.string t) Y2.out.2
    refine ⟨none, 0, 0, rfl, ?_, ?_, ?_, ?_⟩
    · rw [HB.out]; exact Ik.nil _ _ _
    · rw [HB.out]; exact ⟨t, hset.trans rfl, HT.out.1⟩
    · exact grownBy_trans (grownBy_below Y2.out.1) (grownBy_set w2 ⟨d, 0, none⟩ _)
    · exact Nat.le_trans Y2.out.1.size (Nat.le_of_eq (World.size_setCell _ _ _).symm)

theorem feed_open {w0 w : World} {d : Nat} {b : Int} (hT : Tabs w0) (hb : Below w0.heap.size w0 w) (hd : w0.heap.size ≤ d) (hD : Dc w d []) (h8 : 0 ≤ b ∧ b ≤ 255) :
    Calls Tryd.prog 43 #[.pointer (some ⟨d, 0, none⟩), .int .u8 b] w (FeedPost w d [] b) :=
  feed_gen (fun h => absurd rfl h) hT hb hd hD (.inl rfl) h8
theorem feed_any {w0 w : World} {d : Nat} {o : List Int} {b : Int} (hT : Tabs w0) (hb : Below w0.heap.size w0 w) (hd : w0.heap.size ≤ d) (hD : Dc w d o) (ho : Op o) (h8 : 0 ≤ b ∧ b ≤ 255) :
    Calls Tryd.prog 43 #[.pointer (some ⟨d, 0, none⟩), .int .u8 b] w (FeedPost w d o b) :=
  feed_gen (fun _ _ hb' hD' => feed_open hT hb' hd hD' h8) hT hb hd hD ho h8
theorem feed_nil (b : Int) (w : World) : Calls Tryd.prog 43 #[.pointer none, .int .u8 b] w fun e w' => e = .returned (.slice none 0 0) ∧ w = w' := by
  go_enter Tryd.func43, Tryd.ntmps43
  go_wp2_with fail
  go_ret
  exact ⟨rfl, rfl⟩
theorem end_nil' (w : World) : Calls Tryd.prog 41 #[.pointer none] w fun e w' => e = .returned (.slice none 0 0) ∧ w = w' := by
  go_enter Tryd.func41, Tryd.ntmps41
  go_wp2_with fail
  go_ret
  exact ⟨rfl, rfl⟩
/-- End: what is told, and none is unfinished then. -/
theorem end_any' {w : World} {d : Nat} {o : List Int} (hD : Dc w d o) :
    Calls Tryd.prog 41 #[.pointer (some ⟨d, 0, none⟩)] w fun e w' => ∃ A n c, e = .returned (.slice A n c) ∧ Ik .i32 w' A n (endS o) ∧ Dc w' d [] ∧ w.grownBy w' (some d) := by
  obtain ⟨s, hs, hso⟩ := hD
  have hc : w.cell? ⟨d, 0, none⟩ = some (.string s) := by rw [cell_of_row _ _ 0 _ _ _ hs]; rfl
  have hf : w.frozen? ⟨d, 0, none⟩ = false := frozen_of_row _ _ 0 _ _ hs
  have H := Lib.hid (And.intro hs hso)
  clear hs hso
  have hz := sL_len s
  rw [H.out.2] at hz
  by_cases ho : o = []
  · have he : s = ⟨#[]⟩ := by
      subst ho
      cases s with
      | mk dt => 
        have : dt.size = 0 := hz.symm
        rw [Array.size_eq_zero_iff] at this
        rw [this]
    subst he
    have HZ := Lib.hid ho
    clear hz ho
    go_enter Tryd.func41, Tryd.ntmps41
    go_wp2_with fail
    go_ret
    refine ⟨none, 0, 0, rfl, ?_, ?_, World.grownBy.refl w _⟩
    · rw [HZ.out]; exact Ik.nil _ _ _
    · exact ⟨_, H.out.1, sL_empty⟩
  · have hne : s.toList.isEmpty = false := by
      rw [Lib.toList_data]
      cases h : s.data.toList with
      | nil => exact absurd (H.out.2.symm.trans (by unfold sL; rw [h]; rfl)) ho
      | cons _ _ => rfl
    have HO := Lib.hid ho
    have hset := heap_setCell_same w d 0 _ _ (.string ⟨#[]⟩) H.out.1
    have HS := Lib.hid (show (w.setCell ⟨d, 0, none⟩ (.string ⟨#[]⟩)).heap[d]? = some (.cells #[.string ⟨#[]⟩] 60 (0, 0)) from hset.trans rfl)
    clear ho hz hset
    go_enter Tryd.func41, Tryd.ntmps41
    go_wp2_with fail
    go_ret
    refine ⟨_, _, _, rfl, ?_, ?_, ?_⟩
    · have h1 := Ik.one .i32 (w.setCell ⟨d, 0, none⟩ (.string ⟨#[]⟩)) 21 65533
      rw [World.size_setCell] at h1
      rw [endS, if_neg HO.out]; exact h1
    · exact ⟨_, (heap_alloc_old _ _ (Array.getElem?_eq_some_iff.1 HS.out).1).trans HS.out, sL_empty⟩
    · exact grownBy_trans (grownBy_set w ⟨d, 0, none⟩ _) (grownBy_below ((Below.refl _ _).alloc (Nat.le_refl _) _))
end Go.Proofs.YtappnfifhpmekaaDoor
