/-
  Proved: SealKeys answers true for all secrets, epochs and sums, over the table of roots that the program's text lays (a tied card).
-/
import Derived.Test.YtogaakokplobaaaDoorSealHead
import Derived.Deep.Fields
import Derived.OpenShut
import Derived.Test.YtogaakokplobaaaDoorOpen
import Derived.Test.YtogaakokplobaaaDoorCards
import Derived.Test.YtogaakokplobaaaDoorTie
import Derived.SevenTiedAt
import Derived.Test.YtogaakokplobaaaDoorShaTab
import Derived.Test.YtogaakokplobaaaDoorSealFixed
import Derived.Test.YtogaakokplobaaaDoorSealKeyed
import Derived.WalkKit
import Derived.Laws.StructEq
namespace Go.Proofs.YtogaakokplobaaaDoor
open Go.ChangeShapes Go.WideShapes Go.ChangeAt Go.RowKit Go.Deep

theorem cellsHd : Tryd.prog.cellsOf 26 = 4 := by kernel_rfl
theorem cells1 : Tryd.prog.cellsOf 4 = 1 := by kernel_rfl
theorem cells32 : Tryd.prog.cellsOf 23 = 1 := by kernel_rfl
theorem cells64 : Tryd.prog.cellsOf 24 = 1 := by kernel_rfl
theorem cellsA32 : Tryd.prog.cellsOf 46 = 32 := by kernel_rfl

theorem open_header {H : Type} {enc : TypeId × Value → H} {W : World} {base : Nat} {v : Value} {d : DataW H} {p : List MemPlace} (hv : Value.okWide Tryd.prog W .any base 26 v)
    (h : DataW.Trod enc Tryd.prog W 0 (fun _ => true) true 26 v d p) : ∃ g : Hd, v = .agg (hdA g) ∧ HdOk g := by
  obtain ⟨cs, rfl, hcs⟩ := okWide_struct Tryd.underlying26 hv
  rw [cellsHd] at hcs
  obtain ⟨fuel, hf⟩ := h
  obtain ⟨ys, n1, hn1, hys, _, hyl, hf⟩ := DataW.trod_struct Tryd.underlying26 hf
  obtain ⟨l⟩ := cs
  match l, hcs with
  | [v0, v1, v2, v3], _ =>
    match ys, hyl with
    | [y0, y1, y2, y3], _ =>
      have f0 : DataW.trod enc Tryd.prog W 0 (fun _ => true) true n1 5 [v0] = some y0 := by simpa [cells8, Value.cells] using hf 0 _ rfl
      have f1 : DataW.trod enc Tryd.prog W 0 (fun _ => true) true n1 4 [v1] = some y1 := by simpa [cells1, Value.cells] using hf 1 _ rfl
      have f2 : DataW.trod enc Tryd.prog W 0 (fun _ => true) true n1 23 [v2] = some y2 := by simpa [cells32, Value.cells] using hf 2 _ rfl
      have f3 : DataW.trod enc Tryd.prog W 0 (fun _ => true) true n1 24 [v3] = some y3 := by simpa [cells64, Value.cells] using hf 3 _ rfl
      obtain ⟨k, e0, _, w0⟩ := DataW.trod_int Tryd.underlying5 f0
      obtain ⟨b, e1, _⟩ := DataW.trod_bool Tryd.underlying4 f1
      obtain ⟨ep, e2, _, w2⟩ := DataW.trod_int Tryd.underlying23 f2
      obtain ⟨s, e3, _, w3⟩ := DataW.trod_int Tryd.underlying24 f3
      injection e0 with e0
      injection e1 with e1
      injection e2 with e2
      injection e3 with e3
      subst e0 e1 e2 e3
      have b0 := bounds_u8 w0
      have b2 := bounds_u32 w2
      have b3 := bounds_u64 w3
      exact ⟨⟨k, b, ep, s⟩, rfl, ⟨b0.1, b0.2, b2.1, b2.2, b3.1, b3.2⟩⟩

theorem open_arr32 {H : Type} {enc : TypeId × Value → H} {W : World} {base : Nat} {v : Value} {d : DataW H} {p : List MemPlace} (hv : Value.okWide Tryd.prog W .any base 46 v)
    (h : DataW.Trod enc Tryd.prog W 0 (fun _ => true) true 46 v d p) : ∃ ks : List Int, v = .agg (u8A ks) ∧ (ks.length = 32 ∧ B8s ks) := by
  have hv' : ∃ cs : Array Value, v = .agg cs ∧ cs.size = 32 := by
    simp only [Value.okWide, Tryd.underlying46] at hv
    obtain ⟨cs, h1, h2, _⟩ := hv
    exact ⟨cs, h1, by rw [h2, cellsA32]⟩
  obtain ⟨cs, rfl, hcs⟩ := hv'
  obtain ⟨fuel, hf⟩ := h
  obtain ⟨xs, n1, _, _, _, hxl, hf⟩ := DataW.trod_array Tryd.underlying46 hf
  obtain ⟨l⟩ := cs
  have hl : l.length = 32 := by simpa using hcs
  have hat : ∀ i, i < 32 → ∃ z : Int, l[i]? = some (.int .u8 z) ∧ 0 ≤ z ∧ z ≤ 255 := by
    intro i hi
    have h1 := hf i hi
    rw [cells8, Nat.mul_one] at h1
    rw [List.getElem?_eq_getElem (by omega)] at h1
    obtain ⟨z, e, _, w⟩ := DataW.trod_int Tryd.underlying5 h1
    have e' : (l.drop i).take 1 = [.int .u8 z] := e
    refine ⟨z, ?_, bounds_u8 w⟩
    have := congrArg (fun q => q[0]?) e'
    simpa using this
  have key : ∀ (l : List Value), (∀ i, i < l.length → ∃ z : Int, l[i]? = some (.int .u8 z) ∧ 0 ≤ z ∧ z ≤ 255) → ∃ ks : List Int, l = ks.map (Value.int .u8) ∧ B8s ks := by
    intro l
    induction l with
    | nil => exact fun _ => ⟨[], rfl, fun _ h => by cases h⟩
    | cons a l ih =>
      intro h
      obtain ⟨z, hz, hz1⟩ := h 0 (by simp)
      obtain ⟨ks, rfl, hk⟩ := ih fun i hi => h (i + 1) (by simpa using hi)
      refine ⟨z :: ks, by simp at hz; rw [hz]; rfl, fun y hy => ?_⟩
      rcases List.mem_cons.1 hy with rfl | hy
      · exact hz1
      · exact hk y hy
  obtain ⟨ks, rfl, hk⟩ := key l (by rw [hl]; exact hat)
  exact ⟨ks, rfl, by simpa using hl, hk⟩
end Go.Proofs.YtogaakokplobaaaDoor
namespace Go.Proofs.YtogaakokplobaaaDoor
open Go.RowKit

/-- While the reference's Keys runs: the keys to be, the number's bytes and the array's as a slice. -/
structure RK (w : World) (hash num : List Int) (A : Option Addr) (n c : Nat) (B : Option Addr) (d : Nat) (wx : World) : Prop where
  bel : Below w.heap.size w wx
  res : ∃ l : List Int, l.length = 64 ∧ Blk wx (w.heap.size + 1) 49 (u8A l)
  own : wx.ownsRow (w.heap.size + 2) 5 1 (.slice A n c) n (num.map (Value.int .u8))
  lim : n ≤ c ∧ c ≤ 9223372036854775807
  own2 : wx.ownsRow (w.heap.size + 2) 5 1 (.slice B 32 d) 32 (hash.map (Value.int .u8))
  lim2 : 32 ≤ d ∧ d ≤ 9223372036854775807
section
variable {w wx w' : World} {hash num : List Int} {A B : Option Addr} {n c d : Nat}

theorem RK.below (h : RK w hash num A n c B d wx) (hb : Below wx.heap.size wx w') : RK w hash num A n c B d w' := by
  obtain ⟨l, hl, hr⟩ := h.res
  exact ⟨h.bel.trans (hb.mono h.bel.size), ⟨l, hl, hr.below hb hr.lt⟩, own_belowS h.own hb, h.lim, own_belowS h.own2 hb, h.lim2⟩
theorem RK.drew (h : RK w hash num A n c B d wx) : RK w hash num A n c B d wx.drew := h.below (Below.refl _ _).drew
theorem RK.alloc (h : RK w hash num A n c B d wx) (o : Obj) : RK w hash num A n c B d (wx.alloc o) := h.below ((Below.refl _ _).alloc (Nat.le_refl _) _)
theorem RK.store (h : RK w hash num A n c B d wx) {l : List Int} (hl : l.length = 64) : RK w hash num A n c B d (wx.setRow (w.heap.size + 1) (u8A l)) := by
  obtain ⟨l0, hl0, hr⟩ := h.res
  refine ⟨below_setRow h.bel (by omega) _, ⟨l, hl, hr.setRow _⟩, own_grown h.own (grownBy_setRow wx _ _) fun b' e' hq => ?_, h.lim, own_grown h.own2 (grownBy_setRow wx _ _) fun b' e' hq => ?_, h.lim2⟩
  · have h1 := (h.own.lt b' (by rw [mownBlock_map]; exact e')).1
    injection hq with hq
    omega
  · have h1 := (h.own2.lt b' (by rw [mownBlock_map]; exact e')).1
    injection hq with hq
    omega
theorem RK.ps (h : RK w hash num A n c B d wx) (h8 : B8s hash) (hn8 : B8s num) :
    Ps (wx.alloc (.cells #[.slice A n c, .slice B 32 d] 22)) (some ⟨wx.heap.size, 0, none⟩) 2 [num, hash] := by
  have b : Below wx.heap.size wx (wx.alloc (.cells #[.slice A n c, .slice B 32 d] 22)) := (Below.refl _ _).alloc (Nat.le_refl _) _
  have hnew := heap_alloc_new wx (.cells #[.slice A n c, .slice B 32 d] 22)
  refine Ps.of rfl (fun _ => lt_of_block hnew) fun q hq => ?_
  have hq2 : q = 0 ∨ q = 1 := by omega
  rcases hq2 with rfl | rfl
  · exact ⟨A, n, c, (cell_of_row _ wx.heap.size 0 _ _ _ hnew).trans rfl, (Sb.own h.own).below b, h.lim.1, h.lim.2, hn8⟩
  · exact ⟨B, 32, d, (cell_of_row _ wx.heap.size 1 _ _ _ hnew).trans rfl, (Sb.own h.own2).below b, h.lim2.1, h.lim2.2, h8⟩
end

set_option maxRecDepth 100000 in
set_option maxHeartbeats 6400000 in
theorem refKeys_any {A : Option Addr} {n c : Nat} {key : List Int} {ep : Int} {hash : List Int} (w : World) (hk : Sb w A n key) (h8 : B8s key) (hc : n ≤ c ∧ c ≤ 9223372036854775807) (hn : n ≤ 1125899906842)
    (he : 0 ≤ ep ∧ ep ≤ 4294967295) (hh : hash.length = 32 ∧ B8s hash) :
    Calls Tryd.prog 22 #[.slice A n c, .int .u32 ep, .agg (u8A hash)] w fun e w' => e = .returned (.agg (u8A (keysS key ep hash))) ∧ Below w.heap.size w w' := by
  obtain ⟨e0, e1⟩ := he
  obtain ⟨r1, hr1⟩ : ∃ r, r = macS key (toldS (strL sUp) [numL ep 4, hash]) := ⟨_, rfl⟩
  obtain ⟨r2, hr2⟩ : ∃ r, r = macS key (toldS (strL sDown) [numL ep 4, hash]) := ⟨_, rfl⟩
  have HL := Lib.hid (show r1.length = 32 ∧ r2.length = 32 from ⟨by rw [hr1]; exact macS_len _ _, by rw [hr2]; exact macS_len _ _⟩)
  have HE := Lib.hid (show keysS key ep hash = r1 ++ r2 from by rw [hr1, hr2]; rfl)
  have hfl : 2 + ([numL ep 4, hash] : List (List Int)).flatten.length ≤ 16384 := by simp [numL_len, hh.1]
  have hpb : ∀ l ∈ ([numL ep 4, hash] : List (List Int)), B8s l := by
    intro l hl
    rcases List.mem_cons.1 hl with rfl | hl
    · exact numL_b _ _
    · rcases List.mem_cons.1 hl with rfl | hl
      · exact hh.2
      · cases hl
  have HU : Hid (∀ (wx : World) (b : Nat), Below w.heap.size w wx → Ps wx (some ⟨b, 0, none⟩) 2 [numL ep 4, hash] → Calls Tryd.prog 32 #[.slice A n c, .string sUp, .slice (some ⟨b, 0, none⟩) 2 2] wx fun e w' => e = .returned (.agg (u8A r1)) ∧ Below wx.heap.size wx w') := by
    show ∀ (wx : World) (b : Nat), _
    intro wx b hb hp
    rw [hr1]
    exact refDerive_any wx (hk.below hb) h8 hc hn hp hpb (by decide) hfl
  have HD : Hid (∀ (wx : World) (b : Nat), Below w.heap.size w wx → Ps wx (some ⟨b, 0, none⟩) 2 [numL ep 4, hash] → Calls Tryd.prog 32 #[.slice A n c, .string sDown, .slice (some ⟨b, 0, none⟩) 2 2] wx fun e w' => e = .returned (.agg (u8A r2)) ∧ Below wx.heap.size wx w') := by
    show ∀ (wx : World) (b : Nat), _
    intro wx b hb hp
    rw [hr2]
    exact refDerive_any wx (hk.below hb) h8 hc hn hp hpb (by decide) hfl
  have HH := Lib.hid (show hash.length = 32 ∧ B8s hash ∧ B8s (numL ep 4) from ⟨hh.1, hh.2, numL_b _ _⟩)
  have hne : numS ep 4 = numL ep 4 := by unfold numS; rw [if_pos (by omega)]; simp
  clear hk h8 hc hn hh hr1 hr2 hfl hpb
  obtain ⟨w0, hw0⟩ : ∃ w0, w0 = (w.alloc (.cells (u8A hash) 46)).alloc (.cells (u8A (List.replicate 64 0)) 49) := ⟨_, rfl⟩
  have X0 := Lib.hid (show Below w.heap.size w w0 ∧ Blk w0 (w.heap.size + 1) 49 (u8A (List.replicate 64 0)) ∧ Blk w0 w.heap.size 46 (u8A hash) ∧ w0.heap.size = w.heap.size + 2 from by
    rw [hw0]
    exact ⟨((Below.refl _ _).alloc (Nat.le_refl _) _).alloc (by simp) _, Blk.new' (by simp) _ _, (Blk.new _ _ _).alloc _, by simp⟩)
  have hw0' : w0 = (w.alloc (.cells (u8A hash) 46)).alloc (.cells #[Value.int .u8 0, Value.int .u8 0, Value.int .u8 0, Value.int .u8 0, Value.int .u8 0, Value.int .u8 0, Value.int .u8 0, Value.int .u8 0, Value.int .u8 0, Value.int .u8 0, Value.int .u8 0, Value.int .u8 0, Value.int .u8 0, Value.int .u8 0, Value.int .u8 0, Value.int .u8 0, Value.int .u8 0, Value.int .u8 0, Value.int .u8 0, Value.int .u8 0, Value.int .u8 0, Value.int .u8 0, Value.int .u8 0, Value.int .u8 0, Value.int .u8 0, Value.int .u8 0, Value.int .u8 0, Value.int .u8 0, Value.int .u8 0, Value.int .u8 0, Value.int .u8 0, Value.int .u8 0, Value.int .u8 0, Value.int .u8 0, Value.int .u8 0, Value.int .u8 0, Value.int .u8 0, Value.int .u8 0, Value.int .u8 0, Value.int .u8 0, Value.int .u8 0, Value.int .u8 0, Value.int .u8 0, Value.int .u8 0, Value.int .u8 0, Value.int .u8 0, Value.int .u8 0, Value.int .u8 0, Value.int .u8 0, Value.int .u8 0, Value.int .u8 0, Value.int .u8 0, Value.int .u8 0, Value.int .u8 0, Value.int .u8 0, Value.int .u8 0, Value.int .u8 0, Value.int .u8 0, Value.int .u8 0, Value.int .u8 0, Value.int .u8 0, Value.int .u8 0, Value.int .u8 0, Value.int .u8 0] 49) := hw0
  clear hw0
  go_enter Tryd.func22, Tryd.ntmps22
  go_wp2_with fail
  rw [← hw0']
  clear hw0'
  refine (refNum_any ep 4 w0 e0 (by omega)).mono ?_
  rintro e w1 ⟨v, rfl, A1, n1, c1, rfl, hm1⟩
  rw [hne] at hm1
  have X1 := Lib.hid (show Below w.heap.size w w1 ∧ Blk w1 (w.heap.size + 1) 49 (u8A (List.replicate 64 0)) ∧ Blk w1 w.heap.size 46 (u8A hash) ∧ w1.ownsRow (w.heap.size + 2) 5 1 (.slice A1 n1 c1) n1 ((numL ep 4).map (Value.int .u8)) ∧ (n1 ≤ c1 ∧ c1 ≤ 9223372036854775807) ∧ w.heap.size + 2 ≤ w1.heap.size from ⟨X0.out.1.trans (hm1.below.mono X0.out.1.size), X0.out.2.1.below hm1.below X0.out.2.1.lt, X0.out.2.2.1.below hm1.below X0.out.2.2.1.lt, by have h2 := hm1.own; rw [X0.out.2.2.2] at h2; exact h2, ⟨hm1.le, by have h2 := hm1.max; unfold maxLen at h2; omega⟩, by have h3 := hm1.below.size; rw [X0.out.2.2.2] at h3; exact h3⟩)
  clear hm1 X0 hne
  go_wp2_with fail
  go_loopw [8, 9] (fun v6 i wr => ∃ (j c6 : Nat) (A6 : Option Addr), j ≤ 32 ∧ i = .int .i64 j ∧ v6 = .slice A6 j c6 ∧ MadeAt 5 (hash.take j) w1 A6 j c6 wr) (fun _ i _ => 32 - (intOf i).toNat)
  case atStart =>
    have h1 := World.ownsRow_lit (size := 1) (e := 5) w1 #[] 0 (Nat.le_refl _) (by unfold maxLen; omega) rfl
    have h2 : MadeAt 5 [] w1 (some ⟨w1.heap.size, 0, none⟩) 0 0 (w1.alloc (.cells #[] 5)) := MadeAt.mk' h1 ((Below.refl _ _).alloc (Nat.le_refl _) _)
    exact ⟨0, 0, _, by omega, rfl, rfl, h2⟩
  case round =>
    obtain ⟨j, c6, A6, hj, rfl, rfl, hm⟩ := hrel
    have hlt2 := X1.out.2.2.1.lt
    by_cases hlt : j < 32
    · have hjl : (j : Int) < 32 := by omega
      obtain ⟨y, hy⟩ : ∃ y, y = hash.getD j 0 := ⟨_, rfl⟩
      have hcl := (X1.out.2.2.1.below hm.below hlt2).cell8 (k := j) (by rw [HH.out.1]; omega)
      rw [← hy] at hcl
      have HY := Lib.hid (show hash.take (j + 1) = hash.take j ++ [y] from by
        rw [hy, List.take_succ_eq_append_getElem (by rw [HH.out.1]; omega), getD_lt (by rw [HH.out.1]; omega)])
      have X := Lib.hid (show MadeAt 5 (hash.take j) w1 A6 j c6 (wr.alloc (.cells #[.int .u8 y] 5)) from hm.next ((Below.refl _ _).alloc (Nat.le_refl _) _))
      clear hm hy
      go_wp2_with (at_builtin; refine wpList_app _ rfl (.tmp 18) (.tmp 22) 22 rfl w1.heap.size 5 Tryd.underlying22 info8 (.slice A6 j c6) j _ rfl X.out.own (some ⟨wr.heap.size, 0, none⟩) 1 1 [y] rfl (Sb.one _ _ _) (by omega) X.out.below.size ?_; intro A7 c7 w7 ho7 hg7; have X7 := Lib.hid (show MadeAt 5 (hash.take (j + 1)) w1 A7 (j + 1) c7 w7 from by rw [HY.out]; exact X.out.app ho7 hg7); clear ho7 hg7)
      go_roundw
      case rel => exact ⟨j + 1, c7, A7, by omega, by go_num, rfl, X7.out⟩
      case measure => simp [intOf]; omega
    obtain rfl : j = 32 := by omega
    have hcap : 32 ≤ c6 ∧ c6 ≤ 9223372036854775807 := ⟨hm.le, by have h2 := hm.max; unfold maxLen at h2; omega⟩
    have hown := own_base hm.own X1.out.2.2.2.2.2
    rw [List.take_of_length_le (by rw [HH.out.1]; exact Nat.le_refl _)] at hown
    have h1 : RK w hash (numL ep 4) A1 n1 c1 A6 c6 wr := ⟨X1.out.1.trans (hm.below.mono X1.out.1.size), ⟨_, by simp, X1.out.2.1.below hm.below X1.out.2.1.lt⟩, own_belowS X1.out.2.2.2.1 hm.below, X1.out.2.2.2.2.1, hown, hcap⟩
    have K1 := Lib.hid h1
    clear h1 hm hown hcap X1 hlt2 hj hlt
    have P3 := Lib.hid (K1.out.ps HH.out.2.1 HH.out.2.2)
    have K3 := Lib.hid (K1.out.alloc (.cells #[.slice A1 n1 c1, .slice A6 32 c6] 22))
    clear K1
    go_wp2_with fail
    refine (HU.out _ _ K3.out.bel P3.out).mono ?_
    rintro e w14 ⟨rfl, hb4⟩
    have K4 := Lib.hid (K3.out.below hb4)
    clear K3 P3 hb4
    have P8 := Lib.hid (K4.out.ps HH.out.2.1 HH.out.2.2)
    have K8 := Lib.hid (K4.out.alloc (.cells #[.slice A1 n1 c1, .slice A6 32 c6] 22))
    clear K4
    go_wp2_with fail
    refine (HD.out _ _ K8.out.bel P8.out).mono ?_
    rintro e w19 ⟨rfl, hb9⟩
    have K9 := Lib.hid (K8.out.below hb9)
    clear K8 P8 hb9
    obtain ⟨l0, hl0, hres⟩ := K9.out.res
    have hl12 : (r1 ++ r2).length = 64 := by rw [List.length_append, HL.out.1, HL.out.2]
    have H9 := Lib.hid (show (r1 ++ r2).length = 64 ∧ l0.length = 64 ∧ Blk w19 (w.heap.size + 1) 49 (u8A l0) ∧ Below w.heap.size w (w19.setRow (w.heap.size + 1) (u8A (r1 ++ r2))) from ⟨hl12, hl0, hres, (K9.out.store hl12).bel⟩)
    clear hres hl12 hl0 K9
    go_wp2_with (first
      | (refine wpList_build2 rfl 49 0 1 (.tmp 28) (.tmp 33) rfl _ _ rfl rfl _ (built_keys r1 r2 HL.out.1 HL.out.2) ?_)
      | (refine wpList_store_row rfl 49 (.tmp 6) (.tmp 34) rfl (w.heap.size + 1) (u8A (r1 ++ r2)) rfl rfl 49 (u8A l0) H9.out.2.2.1 (infoKeys H9.out.1) (by rw [u8A_size, u8A_size, H9.out.1, H9.out.2.1]) (u8A_one _) ?_))
    refine bodyPost_ret (v := .agg (u8A (r1 ++ r2))) (results_cell_row Tryd.results22 _ _ (w.heap.size + 1) 49 _ (0, 0) _ rfl (H9.out.2.2.1.setRow _) Tryd.underlying49 rfl (infoKeys H9.out.1)) rfl ⟨by rw [HE.out], H9.out.2.2.2⟩
end Go.Proofs.YtogaakokplobaaaDoor
namespace Go.Proofs.YtogaakokplobaaaDoor.sealKeys
open Go.ChangeShapes Go.WideShapes Go.ChangeAt Go.RowKit

theorem isAgg46 (w : World) : (isAgg 46).run Tryd.prog w = .ok true w := by kernel_rfl
theorem size46 (w : World) : (sizeOf 46).run Tryd.prog w = .ok 32 w := by kernel_rfl
theorem part46 (r : List Int) (off : Nat) (w : World) : (part 46 (u8A r) off).run Tryd.prog w = .ok (.agg (u8A ((r.drop off).take 32))) w := by
  unfold part
  simp only [Sem.run_bind, isAgg46, Result.andThen_ok, if_true, size46, Sem.run_pure]
  congr 2
  unfold u8A
  simp [List.extract_eq_take_drop]
theorem arr_eql (s : List Int) (h : s.length = 32) : ∀ w, (binOp .eql 46 (.agg (u8A s)) (.agg (u8A s))).run Tryd.prog w = .ok (.bool true) w := fun w => by
  rw [run_eql_u8A w 46 5 32 Tryd.underlying46 Tryd.underlying5 size1 s s h h]
  simp
theorem fieldsK : ((Tryd.prog.fieldsOf 49).toList.map fun f => (f.name != "_", f.type, f.offset)) = [(true, 46, 0), (true, 46, 32)] := by kernel_rfl
theorem keys_eql (r : List Int) (h : r.length = 64) : ∀ w, (binOp .eql 49 (.agg (u8A r)) (.agg (u8A r))).run Tryd.prog w = .ok (.bool true) w := fun w => by
  have e0 : ∀ (d : Nat) (w : World) (l : List Int), l.length = 32 → (Op.equalIn (d + 2) 46 (.agg (u8A l)) (.agg (u8A l))).run Tryd.prog w = .ok true w := fun d w l hl => by
    rw [run_equalIn_u8A w d 46 5 32 Tryd.underlying46 Tryd.underlying5 size1 l l hl hl]
    simp
  rw [run_eql_struct, show (10000 : Nat) = 9997 + 2 + 1 from rfl, run_equalIn_agg w (9997 + 2) 49 _ _ (by kernel_rfl) (by kernel_rfl)]
  have hf := fieldsK
  obtain ⟨fs, hfs⟩ : ∃ fs, fs = (Tryd.prog.fieldsOf 49).toList := ⟨_, rfl⟩
  rw [← hfs] at hf ⊢
  clear hfs
  obtain ⟨f0, f1, rfl⟩ : ∃ f0 f1, fs = [f0, f1] := by
    have hl : fs.length = 2 := by simpa using congrArg List.length hf
    obtain ⟨f0, l, rfl⟩ := List.exists_cons_of_length_pos (show 0 < fs.length by omega)
    obtain ⟨f1, l2, rfl⟩ := List.exists_cons_of_length_pos (show 0 < l.length by rw [List.length_cons] at hl; omega)
    refine ⟨f0, f1, ?_⟩
    rw [show l2 = [] from by simpa using hl]
  simp only [List.map_cons, List.map_nil, List.cons.injEq, Prod.mk.injEq, and_true, bne_iff_ne] at hf
  obtain ⟨⟨h0, h1, h2⟩, h3, h4, h5⟩ := hf
  simp only [Op.eqFields, h0, h1, h2, h3, h4, h5, ne_eq, not_false_eq_true, if_true, Sem.run_bind, part46, Result.andThen_ok, e0 9997 _ ((r.drop 0).take 32) (by simp [h]), e0 9997 _ ((r.drop 32).take 32) (by simp [h]), Bool.not_true, Bool.false_eq_true, if_false, Sem.run_pure]
theorem yieldsIf_eql {P : Program} {ops : Array Oper} {S : World → Prop} {op : Oper} {a : Act} (hw : Region.wanted op (yielded ops a.tmps) = true) (t t2 : TypeId) (x y : Operand) (ho : op.op = .binOp .eql t x y t2) (cx cy : Array Value) (v : Value)
    (hx : a.eval x = .agg cx) (hy : a.eval y = .agg cy) (hg : P.eqGuardType P.depth t = false) (hrun : ∀ w, (binOp .eql t (.agg cx) (.agg cy)).run P w = .ok v w) : YieldsIf P ops S op v a :=
  .inl ⟨hw, fun w _ => by
    unfold execOp
    simp [ho, hx, hy, hrun, eqGuard, hg]⟩

/-- What the walk keeps: the array that came in, and the copy of the secret. -/
def KW (w : World) (ks key : List Int) (g n : Nat) (wx : World) : Prop := Below w.heap.size w wx ∧ Blk wx w.heap.size 46 (u8A ks) ∧ Sb wx (some ⟨g, 0, none⟩) n key
theorem KW.below {w wx w' : World} {ks key : List Int} {g n : Nat} (h : KW w ks key g n wx) (hb : Below wx.heap.size wx w') : KW w ks key g n w' :=
  ⟨h.1.trans (hb.mono h.1.size), h.2.1.below hb h.2.1.lt, h.2.2.below hb⟩
theorem KW.drew {w wx : World} {ks key : List Int} {g n : Nat} (h : KW w ks key g n wx) : KW w ks key g n wx.drew := h.below (Below.refl _ _).drew

set_option maxRecDepth 100000 in
set_option maxHeartbeats 6400000 in
/-- The walk. -/
theorem walk {A : Option Addr} {n c : Nat} {key : List Int} {ep : Int} {ks : List Int} (w : World) (hr : Roots w) (hs : Sb w A n key) (h8 : U8s key) (hn : n ≤ 140737488351232) (hc : n ≤ c ∧ c ≤ maxLen)
    (hep : (Lit.int .u32 ep).wf = true) (hks : ks.length = 32 ∧ B8s ks) :
    Calls Tryd.prog 8 #[.slice A n c, .int .u32 ep, .agg (u8A ks)] w fun e w' => e = .returned (.bool true) ∧ Below w.heap.size w w' := by
  unfold maxLen at hc
  have he := bounds_u32 hep
  have H := Lib.hid (show Roots w ∧ Sb w A n key ∧ B8s key ∧ (n ≤ c ∧ c ≤ 9223372036854775807) ∧ (0 ≤ ep ∧ ep ≤ 4294967295) ∧ ks.length = 32 ∧ B8s ks from ⟨hr, hs, h8, ⟨hc.1, by omega⟩, he, hks⟩)
  clear hr hs h8 hc hep he hks
  obtain ⟨w0, hw0⟩ : ∃ w0, w0 = w.alloc (.cells (u8A ks) 46) := ⟨_, rfl⟩
  have X0 := Lib.hid (show Below w.heap.size w w0 ∧ Blk w0 w.heap.size 46 (u8A ks) from by rw [hw0]; exact ⟨(Below.refl _ _).alloc (Nat.le_refl _) _, Blk.new _ _ _⟩)
  by_cases hbig : (1000 : Int) < (n : Int)
  · go_enter Tryd.func8, Tryd.ntmps8
    go_wp2_with fail
    rw [← hw0]
    clear hw0
    refine (sealFixed_any _ (H.out.1.below X0.out.1)).mono ?_
    rintro e w1 ⟨rfl, hb1⟩
    have b1 := X0.out.1.trans (hb1.mono X0.out.1.size)
    go_wp2_with fail
    go_ret
    exact ⟨rfl, b1⟩
  go_enter Tryd.func8, Tryd.ntmps8
  go_wp2_with fail
  rw [← hw0]
  clear hw0
  have HC := Lib.hid (copy_any (c := c) (H.out.2.1.below X0.out.1) (by omega))
  refine HC.out.mono ?_
  rintro e w1 ⟨g, rfl, hown, hb1⟩
  have HB := Lib.hid (arr_eql (baseS key) (macS_len _ _))
  have HE := Lib.hid (keys_eql (keysS key ep ks) (keysS_len _ _ _))
  have HI := Lib.hid (show (Tryd.prog.info? 46).map (·.size) = some (u8A ks).size from by rw [u8A_size, H.out.2.2.2.2.2.1]; exact info32)
  have X1 := Lib.hid (show KW w ks key g n w1 from ⟨X0.out.1.trans (hb1.mono X0.out.1.size), X0.out.2.below hb1 X0.out.2.lt, Sb.own hown⟩)
  clear hb1 hown HC X0
  go_wp2_with fail
  --TAIL
  refine wp_region_held_drew (S := KW w ks key g n) (by kernel_rfl) X1.out.drew (fun hHeld => ?_)
  refine wpAnyH_ready (rs := [0]) (by kernel_rfl) (by simp) (AllReadyH.cons rfl (fun K hK => ?_) AllReadyH.nil)
  rw [if_pos (by rfl)]
  go_simp
  refine (sealFixed_any _ (H.out.1.below hHeld.1)).mono ?_
  rintro e w2 ⟨rfl, hb⟩
  refine hK.out _ _ (hHeld.below hb) (fun hHeld => ?_)
  clear hK K
  refine wpAnyH_take (i := 1) (v := .bool true) rfl (by kernel_rfl) (by kernel_rfl) (by kernel_rfl) (fun _ _ _ h => h) (yieldsIf_move (by rfl) (.tmp 14) rfl _ rfl) hHeld ?_
  simp only [Act.put, List.getElem_toArray, List.getElem_cons_succ, List.getElem_cons_zero, List.setIfInBounds_toArray, List.set_cons_succ, List.set_cons_zero]
  refine wpAnyH_take (i := 2) (v := .slice (some ⟨g, 0, none⟩) n n) rfl (by kernel_rfl) (by kernel_rfl) (by kernel_rfl) (fun _ _ _ h => h) (yieldsIf_move (by rfl) (.tmp 7) rfl _ rfl) hHeld ?_
  simp only [Act.put, List.getElem_toArray, List.getElem_cons_succ, List.getElem_cons_zero, List.setIfInBounds_toArray, List.set_cons_succ, List.set_cons_zero]
  refine wpAnyH_take (i := 4) (v := .slice A n c) rfl (by kernel_rfl) (by kernel_rfl) (by kernel_rfl) (fun _ _ _ h => h) (yieldsIf_move (by rfl) (.tmp 0) rfl _ rfl) hHeld ?_
  simp only [Act.put, List.getElem_toArray, List.getElem_cons_succ, List.getElem_cons_zero, List.setIfInBounds_toArray, List.set_cons_succ, List.set_cons_zero]
  refine wpAnyH_ready (rs := [3]) (by kernel_rfl) (by simp) (AllReadyH.cons rfl (fun K hK => ?_) AllReadyH.nil)
  rw [if_pos (by rfl)]
  go_simp
  refine (base_any (c := n) _ (H.out.1.below hHeld.1) hHeld.2.2 H.out.2.2.1 (by omega) (by omega)).mono ?_
  rintro e w3 ⟨rfl, hb⟩
  refine hK.out _ _ (hHeld.below hb) (fun hHeld => ?_)
  clear hK K
  refine wpAnyH_ready (rs := [5]) (by kernel_rfl) (by simp) (AllReadyH.cons rfl (fun K hK => ?_) AllReadyH.nil)
  rw [if_pos (by rfl)]
  go_simp
  refine (refBase_any (c := c) _ (H.out.2.1.below hHeld.1) H.out.2.2.1 H.out.2.2.2.1 (by omega)).mono ?_
  rintro e w4 ⟨rfl, hb⟩
  refine hK.out _ _ (hHeld.below hb) (fun hHeld => ?_)
  clear hK K
  refine wpAnyH_take (i := 6) (v := .bool true) rfl (by kernel_rfl) (by kernel_rfl) (by kernel_rfl) (fun _ _ _ h => h) (yieldsIf_eql (by rfl) 46 46 (.tmp 17) (.tmp 19) rfl (u8A (baseS key)) (u8A (baseS key)) _ rfl rfl (by kernel_rfl) HB.out) hHeld ?_
  simp only [Act.put, List.getElem_toArray, List.getElem_cons_succ, List.getElem_cons_zero, List.setIfInBounds_toArray, List.set_cons_succ, List.set_cons_zero]
  refine wpAnyH_take (i := 7) (v := .bool true) rfl (by kernel_rfl) (by kernel_rfl) (by kernel_rfl) (fun _ _ _ h => h) (yieldsIf_pickT (by rfl) (.tmp 15) (.tmp 20) (.const (.bool false)) rfl _ rfl rfl) hHeld ?_
  simp only [Act.put, List.getElem_toArray, List.getElem_cons_succ, List.getElem_cons_zero, List.setIfInBounds_toArray, List.set_cons_succ, List.set_cons_zero]
  refine wpAnyH_take (i := 8) (v := .bool true) rfl (by kernel_rfl) (by kernel_rfl) (by kernel_rfl) (fun _ _ _ h => h) (yieldsIf_move (by rfl) (.tmp 21) rfl _ rfl) hHeld ?_
  simp only [Act.put, List.getElem_toArray, List.getElem_cons_succ, List.getElem_cons_zero, List.setIfInBounds_toArray, List.set_cons_succ, List.set_cons_zero]
  refine wpAnyH_take (i := 9) (v := .slice (some ⟨g, 0, none⟩) n n) rfl (by kernel_rfl) (by kernel_rfl) (by kernel_rfl) (fun _ _ _ h => h) (yieldsIf_move (by rfl) (.tmp 7) rfl _ rfl) hHeld ?_
  simp only [Act.put, List.getElem_toArray, List.getElem_cons_succ, List.getElem_cons_zero, List.setIfInBounds_toArray, List.set_cons_succ, List.set_cons_zero]
  refine wpAnyH_take (i := 10) (v := .int .u32 ep) rfl (by kernel_rfl) (by kernel_rfl) (by kernel_rfl) (fun _ _ _ h => h) (yieldsIf_move (by rfl) (.tmp 1) rfl _ rfl) hHeld ?_
  simp only [Act.put, List.getElem_toArray, List.getElem_cons_succ, List.getElem_cons_zero, List.setIfInBounds_toArray, List.set_cons_succ, List.set_cons_zero]
  refine wpAnyH_take (i := 11) (v := .agg (u8A ks)) rfl (by kernel_rfl) (by kernel_rfl) (by kernel_rfl) (fun _ _ _ h => h) (yieldsIf_row (by rfl) 46 (.tmp 5) rfl w.heap.size rfl 46 (u8A ks) _ (fun _ h => h.2.1) Tryd.underlying46 rfl HI.out) hHeld ?_
  simp only [Act.put, List.getElem_toArray, List.getElem_cons_succ, List.getElem_cons_zero, List.setIfInBounds_toArray, List.set_cons_succ, List.set_cons_zero]
  refine wpAnyH_take (i := 13) (v := .slice A n c) rfl (by kernel_rfl) (by kernel_rfl) (by kernel_rfl) (fun _ _ _ h => h) (yieldsIf_move (by rfl) (.tmp 0) rfl _ rfl) hHeld ?_
  simp only [Act.put, List.getElem_toArray, List.getElem_cons_succ, List.getElem_cons_zero, List.setIfInBounds_toArray, List.set_cons_succ, List.set_cons_zero]
  refine wpAnyH_take (i := 14) (v := .int .u32 ep) rfl (by kernel_rfl) (by kernel_rfl) (by kernel_rfl) (fun _ _ _ h => h) (yieldsIf_move (by rfl) (.tmp 1) rfl _ rfl) hHeld ?_
  simp only [Act.put, List.getElem_toArray, List.getElem_cons_succ, List.getElem_cons_zero, List.setIfInBounds_toArray, List.set_cons_succ, List.set_cons_zero]
  refine wpAnyH_take (i := 15) (v := .agg (u8A ks)) rfl (by kernel_rfl) (by kernel_rfl) (by kernel_rfl) (fun _ _ _ h => h) (yieldsIf_row (by rfl) 46 (.tmp 5) rfl w.heap.size rfl 46 (u8A ks) _ (fun _ h => h.2.1) Tryd.underlying46 rfl HI.out) hHeld ?_
  simp only [Act.put, List.getElem_toArray, List.getElem_cons_succ, List.getElem_cons_zero, List.setIfInBounds_toArray, List.set_cons_succ, List.set_cons_zero]
  refine wpAnyH_ready (rs := [12]) (by kernel_rfl) (by simp) (AllReadyH.cons rfl (fun K hK => ?_) AllReadyH.nil)
  rw [if_pos (by rfl)]
  go_simp
  refine (keys_any (c := n) _ (H.out.1.below hHeld.1) hHeld.2.2 H.out.2.2.1 (by omega) (by omega) H.out.2.2.2.2.1 H.out.2.2.2.2.2).mono ?_
  rintro e w5 ⟨rfl, hb⟩
  refine hK.out _ _ (hHeld.below hb) (fun hHeld => ?_)
  clear hK K
  refine wpAnyH_ready (rs := [16]) (by kernel_rfl) (by simp) (AllReadyH.cons rfl (fun K hK => ?_) AllReadyH.nil)
  rw [if_pos (by rfl)]
  go_simp
  refine (refKeys_any (c := c) _ (H.out.2.1.below hHeld.1) H.out.2.2.1 H.out.2.2.2.1 (by omega) H.out.2.2.2.2.1 H.out.2.2.2.2.2).mono ?_
  rintro e w6 ⟨rfl, hb⟩
  refine hK.out _ _ (hHeld.below hb) (fun hHeld => ?_)
  clear hK K
  refine wpAnyH_take (i := 17) (v := .bool true) rfl (by kernel_rfl) (by kernel_rfl) (by kernel_rfl) (fun _ _ _ h => h) (yieldsIf_eql (by rfl) 49 49 (.tmp 26) (.tmp 30) rfl (u8A (keysS key ep ks)) (u8A (keysS key ep ks)) _ rfl rfl (by kernel_rfl) HE.out) hHeld ?_
  simp only [Act.put, List.getElem_toArray, List.getElem_cons_succ, List.getElem_cons_zero, List.setIfInBounds_toArray, List.set_cons_succ, List.set_cons_zero]
  refine wpAnyH_take (i := 18) (v := .bool true) rfl (by kernel_rfl) (by kernel_rfl) (by kernel_rfl) (fun _ _ _ h => h) (yieldsIf_pickT (by rfl) (.tmp 22) (.tmp 31) (.const (.bool false)) rfl _ rfl rfl) hHeld ?_
  simp only [Act.put, List.getElem_toArray, List.getElem_cons_succ, List.getElem_cons_zero, List.setIfInBounds_toArray, List.set_cons_succ, List.set_cons_zero]
  refine wpAnyH_take (i := 19) (v := .bool true) rfl (by kernel_rfl) (by kernel_rfl) (by kernel_rfl) (fun _ _ _ h => h) (yieldsIf_move (by rfl) (.tmp 32) rfl _ rfl) hHeld ?_
  simp only [Act.put, List.getElem_toArray, List.getElem_cons_succ, List.getElem_cons_zero, List.setIfInBounds_toArray, List.set_cons_succ, List.set_cons_zero]
  refine wpAnyH_take (i := 20) (v := .slice (some ⟨g, 0, none⟩) n n) rfl (by kernel_rfl) (by kernel_rfl) (by kernel_rfl) (fun _ _ _ h => h) (yieldsIf_move (by rfl) (.tmp 7) rfl _ rfl) hHeld ?_
  simp only [Act.put, List.getElem_toArray, List.getElem_cons_succ, List.getElem_cons_zero, List.setIfInBounds_toArray, List.set_cons_succ, List.set_cons_zero]
  refine wpAnyH_take (i := 21) (v := .slice A n c) rfl (by kernel_rfl) (by kernel_rfl) (by kernel_rfl) (fun _ _ _ h => h) (yieldsIf_move (by rfl) (.tmp 0) rfl _ rfl) hHeld ?_
  simp only [Act.put, List.getElem_toArray, List.getElem_cons_succ, List.getElem_cons_zero, List.setIfInBounds_toArray, List.set_cons_succ, List.set_cons_zero]
  refine wpAnyH_ready (rs := [22]) (by kernel_rfl) (by simp) (AllReadyH.cons rfl (fun K hK => ?_) AllReadyH.nil)
  rw [if_pos (by rfl)]
  go_simp
  refine (same_true (c := n) (c' := c) hHeld.2.2 (H.out.2.1.below hHeld.1) (by omega)).mono ?_
  rintro e w7 ⟨rfl, q, hw⟩
  refine hK.out _ _ (hHeld.below (by rw [hw]; exact below_drewN' (Below.refl _ _) q)) (fun hHeld => ?_)
  clear hK K
  refine wpAnyH_take (i := 23) (v := .bool true) rfl (by kernel_rfl) (by kernel_rfl) (by kernel_rfl) (fun _ _ _ h => h) (yieldsIf_pickT (by rfl) (.tmp 33) (.tmp 36) (.const (.bool false)) rfl _ rfl rfl) hHeld ?_
  simp only [Act.put, List.getElem_toArray, List.getElem_cons_succ, List.getElem_cons_zero, List.setIfInBounds_toArray, List.set_cons_succ, List.set_cons_zero]
  refine wpAnyH_take (i := 24) (v := .bool true) rfl (by kernel_rfl) (by kernel_rfl) (by kernel_rfl) (fun _ _ _ h => h) (yieldsIf_set (by rfl) (.tmp 37) rfl _ rfl) hHeld ?_
  simp only [Act.put, List.getElem_toArray, List.getElem_cons_succ, List.getElem_cons_zero, List.setIfInBounds_toArray, List.set_cons_succ, List.set_cons_zero]
  refine wpAnyH_done (by kernel_rfl) ?_ _
  have hbel := hHeld.1
  clear hHeld
  go_wp2_with fail
  go_ret
  exact ⟨rfl, hbel⟩

set_option maxRecDepth 100000 in
theorem lifted (os : Os) (started : os.Started) (H : Type) (enc : TypeId × Value → H) :
    ReturnsInHanded {} Tryd.checked os 8 .any (fun w args => (Rows.sealKeysSpec.pre enc Tryd.prog Tryd.f8 [] false w args ∧ laidMetH Tryd.prog laidL w) ∧ sizedMet enc Tryd.prog Tryd.f8 (OpenSpec.ofChange Rows.sealKeysSpec) false w args)
      (Rows.sealKeysSpec.post enc Tryd.prog Tryd.f8 false true false false) := by
  refine returnsInHanded_of_change_and (C := Tryd.checked) (X := fun w _ => laidMetH Tryd.prog laidL w) (fun _ _ _ hh h => h.of_heap hh) own started (by kernel_rfl) Tryd.func8
    (ChangeSpec.witness_shaped (enc := enc) (C := Tryd.checked) (os := os) (X := fun w _ => laidMetH Tryd.prog laidL w) false (World.doorLaid Tryd.prog 400 os) #[.slice none 0 0, .int .u32 0, .agg #[.int .u8 0, .int .u8 0, .int .u8 0, .int .u8 0, .int .u8 0, .int .u8 0, .int .u8 0, .int .u8 0, .int .u8 0, .int .u8 0, .int .u8 0, .int .u8 0, .int .u8 0, .int .u8 0, .int .u8 0, .int .u8 0, .int .u8 0, .int .u8 0, .int .u8 0, .int .u8 0, .int .u8 0, .int .u8 0, .int .u8 0, .int .u8 0, .int .u8 0, .int .u8 0, .int .u8 0, .int .u8 0, .int .u8 0, .int .u8 0, .int .u8 0, .int .u8 0]] 8 rfl (World.shaped_of_RefB (by kernel_rfl) (by kernel_rfl)) (by kernel_rfl) (by kernel_rfl) (by kernel_rfl) (door_met os _)) ?_
  intro W base args ds gs before hval0 hW _ hsz0 hL _
  have hsz : (DataW.weightsEach Tryd.prog (Tryd.f8.params.toList ++ Rows.sealKeysSpec.plain.varTypes Tryd.prog) (ds ++ gs)).all (· ≤ reachBytes) = true := hsz0
  clear hsz0
  have hval : ∀ (j : Nat) t v, Tryd.f8.params[j]? = some t → args[j]? = some v → Value.okWide Tryd.prog W .any base t v := hval0
  have hW' := hW
  obtain ⟨p, q, hA0, hV, rfl, _, _⟩ := hW
  have hA : DataW.TrodAll enc Tryd.prog W 0 (fun _ => true) true Tryd.f8.params.toList args.toList ds p := hA0
  rw [Tryd.params8] at hA hval hsz
  obtain ⟨v0, vs0, d0, ds0, p0, q0, hargs, rfl, rfl, h0, r0⟩ := trodAll_cons hA
  obtain ⟨v1, vs1, d1, ds1, p1, q1, rfl, rfl, rfl, h1, r1⟩ := trodAll_cons r0
  obtain ⟨v2, vs2, d2, ds2, p2, q2, rfl, rfl, rfl, h2, r2⟩ := trodAll_cons r1
  obtain ⟨rfl, rfl, rfl⟩ := trodAll_nil r2
  obtain rfl : args = #[v0, v1, v2] := by cases args; simp_all
  obtain ⟨rfl, rfl⟩ := trodVars_none hV
  have lt0 : ∀ x ∈ p0, x.block < W.heap.size := by obtain ⟨m, hm⟩ := h0; exact DataW.trod_lt m _ _ _ hm
  obtain ⟨A0, n0, c0, z0, rfl, s0, u0, l0, g0⟩ := open_bytes_c (hval 0 22 v0 rfl rfl) h0
  have m0 := g0 _ _ 0 hsz rfl rfl
  obtain ⟨a1, rfl, rfl, rfl, w1⟩ := open_int Tryd.underlying23 (hval 1 23 v1 rfl rfl) h1
  have lt2 : ∀ x ∈ p2, x.block < W.heap.size := by obtain ⟨m, hm⟩ := h2; exact DataW.trod_lt m _ _ _ hm
  obtain ⟨k2, rfl, s2⟩ := open_arr32 (hval 2 46 v2 rfl rfl) h2
  clear hA0 hval0
  refine (walk W (roots_of_laid hL) s0 u0 m0 l0 w1 s2).mono fun e W' ⟨he, bel⟩ => ?_
  subst he
  exact ⟨_, rfl, _, _, _, [], _, [], hW', trodAll_mk1 (shut_bool Tryd.underlying4 _), (trodAll_cons_mk (Below.trod laidOut (by kernel_rfl) (of_decide_eq_true (by kernel_rfl)) h0 bel lt0) (trodAll_cons_mk (shut_int Tryd.underlying23 w1) (trodAll_cons_mk (Below.trod laidOut (by kernel_rfl) (of_decide_eq_true (by kernel_rfl)) h2 bel lt2) trodAll_mk0))), rfl, bel.frame _, fun h => by cases h⟩

theorem over : Rows.sealKeysRow.holds Tryd.pinned (OpenSpec.ofChange Rows.sealKeysSpec) :=
  OpenClaim.holds_of_wide 8 Tryd.f8 rfl rfl rfl rfl rfl rfl rfl ⟨rfl, rfl, rfl, rfl, rfl⟩ rfl rfl rfl rfl rfl (by kernel_rfl) Tryd.func8 (by kernel_rfl)
    (of_decide_eq_true (by kernel_rfl)) (by unfold Func.isWrapper; first | (rw [if_pos (by decide +kernel)]; kernel_rfl) | (rw [if_neg (by decide +kernel)]; exact ⟨rfl, rfl⟩))
    (fun os started H enc _ => lifted os started H enc)

theorem proved : Rows.SealKeysCardSaid :=
  Claim7.holds_tied_plain_at .later [] [.data] true Rows.sealKeysCard.stood.harness false
    over (fun _ h => by cases h) (by kernel_rfl) (fun _ h => by cases h) sealKeys_row_tie rfl ⟨rfl, rfl⟩ (by kernel_rfl) rfl
    (fun f fn hf hfn => by
      obtain rfl : f = 8 := Option.some.inj ((show Tryd.prog.funcNamed "spyglass/spyglasslaw06.SealKeys" = some 8 by kernel_rfl).symm.trans hf) |>.symm
      obtain rfl : fn = Tryd.f8 := (Option.some.inj (Tryd.func8.symm.trans hfn)).symm
      exact ⟨by kernel_rfl, fun j t ht => by
        rw [Tryd.params8] at ht
        have hm : t ∈ [22, 23, 46] := by simpa using Array.mem_of_getElem? ht
        have hall : ([22, 23, 46].all fun u => !Tryd.prog.wantsStandIn u) = true := by kernel_rfl
        exact (show Tryd.prog.wantsStandIn t = false by simpa using List.all_eq_true.1 hall t hm)⟩)
    (by kernel_rfl)
end Go.Proofs.YtogaakokplobaaaDoor.sealKeys
