/-
  Contracts of Seal and of the reference's Seal.
-/
import Derived.Test.YtogaakokplobaaaDoorSealRef
namespace Go.Proofs.YtogaakokplobaaaDoor
open Go.RowKit

/-- What both answer. -/
def SealPost (key : List Int) (h : Hd) (zs : List Int) (w : World) (e : Ending) (w' : World) : Prop :=
  ∃ A n c, e = .returned (.tuple #[.slice A n c, .int .i64 (sealS key h zs).2]) ∧ MadeAt 5 (sealS key h zs).1 w A n c w'

set_option maxHeartbeats 1600000 in
theorem seal_any {A : Option Addr} {n c : Nat} {key : List Int} {B : Option Addr} {m d : Nat} {zs : List Int} (h : Hd) (ok : HdOk h) (w : World) (hr : Roots w) (hs : Sb w A n key) (h8 : B8s key) (hc : n ≤ c ∧ c ≤ 9223372036854775807) (hn : n ≤ 1125899906842)
    (hb : Sb w B m zs) (hz : B8s zs) (hm : m ≤ 140737488351232) :
    Calls Tryd.prog 11 #[.slice A n c, .agg (hdA h), .slice B m d] w (SealPost key h zs w) := by
  have H := Lib.hid (show Roots w ∧ Sb w A n key ∧ B8s key ∧ (n ≤ c ∧ c ≤ 9223372036854775807) ∧ Sb w B m zs ∧ B8s zs ∧ HdOk h from ⟨hr, hs, h8, hc, hb, hz, ok⟩)
  clear hr hs h8 hc hb hz ok
  have b0 : Below w.heap.size w (w.alloc (.cells (hdA h) 26)) := (Below.refl _ _).alloc (Nat.le_refl _) _
  have HB := Lib.hid (show Below w.heap.size w ((w.alloc (.cells (hdA h) 26)).alloc (.cells (hdA h) 26)) from b0.alloc b0.size _)
  have HM := Lib.hid (may_any h (w.alloc (.cells (hdA h) 26)))
  have HL := Lib.hid (layHeader_any h H.out.2.2.2.2.2.2 ((w.alloc (.cells (hdA h) 26)).alloc (.cells (hdA h) 26)))
  clear b0
  have HZ := Lib.hid (show ∀ (u : Hd), u = h → hdA h = #[.int .u8 u.k, .bool u.d, .int .u32 u.e, .int .u64 u.s] from fun u e => by rw [e]; rfl)
  unfold SealPost
  cases hmay : mayH h with
  | false =>
    rw [hmay] at HM
    rw [show sealS key h zs = ([], 1) by unfold sealS; rw [if_pos hmay]]
    clear hmay HZ
    unfold hdA at HM HL HB ⊢
    go_enter Tryd.func11, Tryd.ntmps11
    go_wp2_with fail
    refine HM.out.mono ?_
    rintro e w1 ⟨rfl, rfl⟩
    go_wp2_with fail
    exact bodyPost_ret (v := .tuple #[.slice none 0 0, .int .i64 1]) (by simp [results, Tryd.results11, go_sem]) rfl ⟨_, _, _, rfl, MadeAt.mk' (World.ownsRow_nil _ _ _ _) HB.out⟩
  | true =>
    rw [hmay] at HM
    by_cases hlong : (512 : Int) < (m : Int)
    · rw [show sealS key h zs = ([], 4) by unfold sealS; rw [if_neg (by simp [hmay]), if_pos (by rw [H.out.2.2.2.2.1.len]; omega)]]
      clear hmay HZ
      unfold hdA at HM HL HB ⊢
      go_enter Tryd.func11, Tryd.ntmps11
      go_wp2_with fail
      refine HM.out.mono ?_
      rintro e w1 ⟨rfl, rfl⟩
      go_wp2_with fail
      exact bodyPost_ret (v := .tuple #[.slice none 0 0, .int .i64 4]) (by simp [results, Tryd.results11, go_sem]) rfl ⟨_, _, _, rfl, MadeAt.mk' (World.ownsRow_nil _ _ _ _) HB.out⟩
    · rw [show sealS key h zs = (dgS key h zs, 0) by unfold sealS; rw [if_neg (by simp [hmay]), if_neg (by rw [H.out.2.2.2.2.1.len]; omega)]]
      clear hmay HZ
      have hm512 : m ≤ 512 := by omega
      clear hm
      unfold hdA at HM HL HB ⊢
      go_enter Tryd.func11, Tryd.ntmps11
      go_wp2_with fail
      refine HM.out.mono ?_
      rintro e w1 ⟨rfl, rfl⟩
      go_wp2_with fail
      refine HL.out.mono ?_
      rintro e w2 ⟨A2, n2, c2, rfl, hm2⟩
      obtain rfl : n2 = 14 := by rw [← hm2.len, headL_len]
      have X2 := Lib.hid (show MadeAt 5 (headL h) w A2 14 c2 w2 from hm2.base HB.out)
      have S2 := Lib.hid (H.out.2.2.2.2.1.below X2.out.below)
      clear hm2 HM HL HB
      go_wp2_with (at_builtin; refine wpList_app _ rfl (.tmp 18) (.tmp 19) 22 rfl w.heap.size 5 Tryd.underlying22 info8 (.slice A2 14 c2) 14 _ rfl X2.out.own B m d _ rfl S2.out (by omega) X2.out.below.size ?_; intro A3 c3 w3 ho3 hg3; have X3 := Lib.hid (show MadeAt 5 (headL h ++ zs) w A3 (14 + m) c3 w3 from X2.out.app ho3 hg3); clear ho3 hg3)
      have HT := Lib.hid (tag_any (c := c) (d := c3) w3 (H.out.1.below X3.out.below) (H.out.2.1.below X3.out.below) H.out.2.2.1 H.out.2.2.2.1 (by omega) X3.out.sb (b8_append (headL_b H.out.2.2.2.2.2.2) H.out.2.2.2.2.2.1) ⟨X3.out.le, by have := X3.out.max; unfold maxLen at this; omega⟩ (by omega))
      refine HT.out.mono ?_
      rintro e w4 ⟨g, rfl, hg, hsb, hb4⟩
      have X4 := Lib.hid (show MadeAt 5 (headL h ++ zs) w A3 (14 + m) c3 w4 ∧ Sb w4 (some ⟨g, 0, none⟩) 16 (tagS key (headL h ++ zs)) from ⟨X3.out.next hb4, hsb⟩)
      clear HT hg hsb hb4 X3 X2 S2
      go_wp2_with (at_builtin; refine wpList_app _ rfl (.tmp 21) (.tmp 24) 22 rfl w.heap.size 5 Tryd.underlying22 info8 (.slice A3 (14 + m) c3) (14 + m) _ rfl X4.out.1.own (some ⟨g, 0, none⟩) 16 32 _ rfl X4.out.2 (by omega) X4.out.1.below.size ?_; intro A5 c5 w5 ho5 hg5; have X5 := Lib.hid (show MadeAt 5 (dgS key h zs) w A5 (14 + m + 16) c5 w5 from X4.out.1.app ho5 hg5); clear ho5 hg5)
      exact bodyPost_ret (v := .tuple #[.slice A5 (14 + m + 16) c5, .int .i64 0]) (by simp [results, Tryd.results11, go_sem]) rfl ⟨_, _, _, rfl, X5.out⟩

set_option maxHeartbeats 1600000 in
theorem refSeal_any {A : Option Addr} {n c : Nat} {key : List Int} {B : Option Addr} {m d : Nat} {zs : List Int} (h : Hd) (ok : HdOk h) (w : World) (hr : Roots w) (hs : Sb w A n key) (h8 : B8s key) (hc : n ≤ c ∧ c ≤ 9223372036854775807) (hn : n ≤ 1125899906842)
    (hb : Sb w B m zs) (hz : B8s zs) (hm : m ≤ 140737488351232) :
    Calls Tryd.prog 12 #[.slice A n c, .agg (hdA h), .slice B m d] w (SealPost key h zs w) := by
  have H := Lib.hid (show Roots w ∧ Sb w A n key ∧ B8s key ∧ (n ≤ c ∧ c ≤ 9223372036854775807) ∧ Sb w B m zs ∧ B8s zs ∧ HdOk h from ⟨hr, hs, h8, hc, hb, hz, ok⟩)
  clear hr hs h8 hc hb hz ok
  have b0 : Below w.heap.size w (w.alloc (.cells (hdA h) 26)) := (Below.refl _ _).alloc (Nat.le_refl _) _
  have HB := Lib.hid (show Below w.heap.size w ((w.alloc (.cells (hdA h) 26)).alloc (.cells (hdA h) 26)) from b0.alloc b0.size _)
  have HM := Lib.hid (refMay_any h (w.alloc (.cells (hdA h) 26)))
  have HL := Lib.hid (refHead_any h H.out.2.2.2.2.2.2 ((w.alloc (.cells (hdA h) 26)).alloc (.cells (hdA h) 26)))
  clear b0
  have HZ := Lib.hid (show ∀ (u : Hd), u = h → hdA h = #[.int .u8 u.k, .bool u.d, .int .u32 u.e, .int .u64 u.s] from fun u e => by rw [e]; rfl)
  unfold SealPost
  cases hmay : mayH h with
  | false =>
    rw [hmay] at HM
    rw [show sealS key h zs = ([], 1) by unfold sealS; rw [if_pos hmay]]
    clear hmay HZ
    unfold hdA at HM HL HB ⊢
    go_enter Tryd.func12, Tryd.ntmps12
    go_wp2_with fail
    refine HM.out.mono ?_
    rintro e w1 ⟨rfl, rfl⟩
    go_wp2_with fail
    exact bodyPost_ret (v := .tuple #[.slice none 0 0, .int .i64 1]) (by simp [results, Tryd.results12, go_sem]) rfl ⟨_, _, _, rfl, MadeAt.mk' (World.ownsRow_nil _ _ _ _) HB.out⟩
  | true =>
    rw [hmay] at HM
    by_cases hlong : (512 : Int) < (m : Int)
    · rw [show sealS key h zs = ([], 4) by unfold sealS; rw [if_neg (by simp [hmay]), if_pos (by rw [H.out.2.2.2.2.1.len]; omega)]]
      clear hmay HZ
      unfold hdA at HM HL HB ⊢
      go_enter Tryd.func12, Tryd.ntmps12
      go_wp2_with fail
      refine HM.out.mono ?_
      rintro e w1 ⟨rfl, rfl⟩
      go_wp2_with fail
      exact bodyPost_ret (v := .tuple #[.slice none 0 0, .int .i64 4]) (by simp [results, Tryd.results12, go_sem]) rfl ⟨_, _, _, rfl, MadeAt.mk' (World.ownsRow_nil _ _ _ _) HB.out⟩
    · rw [show sealS key h zs = (dgS key h zs, 0) by unfold sealS; rw [if_neg (by simp [hmay]), if_neg (by rw [H.out.2.2.2.2.1.len]; omega)]]
      clear hmay HZ
      have hm512 : m ≤ 512 := by omega
      clear hm
      unfold hdA at HM HL HB ⊢
      go_enter Tryd.func12, Tryd.ntmps12
      go_wp2_with fail
      refine HM.out.mono ?_
      rintro e w1 ⟨rfl, rfl⟩
      go_wp2_with fail
      refine HL.out.mono ?_
      rintro e w2 ⟨A2, n2, c2, rfl, hm2⟩
      obtain rfl : n2 = 14 := by rw [← hm2.len, headL_len]
      have X2 := Lib.hid (show MadeAt 5 (headL h) w A2 14 c2 w2 from hm2.base HB.out)
      have S2 := Lib.hid (H.out.2.2.2.2.1.below X2.out.below)
      clear hm2 HM HL HB
      go_wp2_with (at_builtin; refine wpList_app _ rfl (.tmp 16) (.tmp 17) 22 rfl w.heap.size 5 Tryd.underlying22 info8 (.slice A2 14 c2) 14 _ rfl X2.out.own B m d _ rfl S2.out (by omega) X2.out.below.size ?_; intro A3 c3 w3 ho3 hg3; have X3 := Lib.hid (show MadeAt 5 (headL h ++ zs) w A3 (14 + m) c3 w3 from X2.out.app ho3 hg3); clear ho3 hg3)
      have HCP := Lib.hid (copy_any (c := c3) X3.out.sb (by omega))
      refine HCP.out.mono ?_
      rintro e w3b ⟨g3, rfl, hown3, hb3⟩
      have XC := Lib.hid (show MadeAt 5 (headL h ++ zs) w A3 (14 + m) c3 w3b ∧ MadeAt 5 (headL h ++ zs) w (some ⟨g3, 0, none⟩) (14 + m) (14 + m) w3b from ⟨X3.out.next hb3, (MadeAt.mk' hown3 hb3).base X3.out.below⟩)
      clear HCP hown3 hb3 X3
      go_wp2_with fail
      have HT := Lib.hid (refTag_any (c := c) (d := c3) w3b (H.out.2.1.below XC.out.1.below) H.out.2.2.1 H.out.2.2.2.1 hn XC.out.1.sb (b8_append (headL_b H.out.2.2.2.2.2.2) H.out.2.2.2.2.2.1) ⟨XC.out.1.le, by have := XC.out.1.max; unfold maxLen at this; omega⟩ (by omega))
      refine HT.out.mono ?_
      rintro e w4 ⟨g, cg, rfl, hg⟩
      have X4 := Lib.hid (show MadeAt 5 (headL h ++ zs) w (some ⟨g3, 0, none⟩) (14 + m) (14 + m) w4 ∧ Sb w4 g 16 (tagS key (headL h ++ zs)) from ⟨XC.out.2.next hg.below, hg.sb⟩)
      clear HT hg XC X2 S2
      go_wp2_with (at_builtin; refine wpList_app _ rfl (.tmp 20) (.tmp 23) 22 rfl w.heap.size 5 Tryd.underlying22 info8 (.slice (some ⟨g3, 0, none⟩) (14 + m) (14 + m)) (14 + m) _ rfl X4.out.1.own g 16 cg _ rfl X4.out.2 (by omega) X4.out.1.below.size ?_; intro A5 c5 w5 ho5 hg5; have X5 := Lib.hid (show MadeAt 5 (dgS key h zs) w A5 (14 + m + 16) c5 w5 from X4.out.1.app ho5 hg5); clear ho5 hg5)
      exact bodyPost_ret (v := .tuple #[.slice A5 (14 + m + 16) c5, .int .i64 0]) (by simp [results, Tryd.results12, go_sem]) rfl ⟨_, _, _, rfl, X5.out⟩

end Go.Proofs.YtogaakokplobaaaDoor
