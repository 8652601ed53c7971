/-
  The reference's Encode.
-/
import Derived.Test.YtappnfifhpmekaaDoorUtfRefWid
import Derived.Test.YtappnfifhpmekaaDoorUtfLay
namespace Go.Proofs.YtappnfifhpmekaaDoor
open Go.RowKit

/-- What answers a slice of bytes that reads as zs. -/
def Byts (zs : List Int) (w : World) (e : Ending) (w' : World) : Prop := ∃ A n c, e = .returned (.slice A n c) ∧ Sb w' A n zs ∧ Below w.heap.size w w'
theorem Byts.lit {w : World} {t : TypeId} {zs : List Int} {n : Nat} {cs : Array Value} (hc : cs.toList = zs.map (Value.int .u8)) (hl : zs.length = n) (hm : n ≤ 100) : Byts zs w (.returned (.slice (some ⟨w.heap.size, 0, none⟩) n n)) (w.alloc (.cells cs t)) :=
  ⟨_, _, _, rfl, Sb.lit w t zs n cs hc hl (by unfold maxLen; omega), (Below.refl _ _).alloc (Nat.le_refl _) _⟩

set_option maxHeartbeats 1600000 in
set_option maxRecDepth 100000 in
theorem refEnc_may {r : Int} (w : World) (hm : mayS r = true) : Calls Tryd.prog 24 #[.int .i32 r] w (Byts (encS r) w) := by
  have hb := mayS_iff.1 hm
  have HM := Lib.hid hm
  clear hm
  by_cases h1 : r < 128
  · have HE := Lib.hid (enc1 (by omega) h1)
    go_enter Tryd.func24, Tryd.ntmps24
    go_wp2_with fail
    refine (may_any r w).mono ?_
    rintro e w1 ⟨rfl, rfl⟩
    rw [HM.out]
    go_wp2_with fail
    go_ret
    rw [HE.out]
    exact Byts.lit rfl rfl (by omega)
  by_cases h2 : r < 2048
  · have HE := Lib.hid (enc2 (by omega) h2)
    go_enter Tryd.func24, Tryd.ntmps24
    go_wp2_with fail
    refine (may_any r w).mono ?_
    rintro e w1 ⟨rfl, rfl⟩
    rw [HM.out]
    go_wp2_with fail
    go_ret
    rw [HE.out]
    exact Byts.lit rfl rfl (by omega)
  by_cases h3 : r < 65536
  · have HE := Lib.hid (enc3 (r := r) (by omega))
    go_enter Tryd.func24, Tryd.ntmps24
    go_wp2_with fail
    refine (may_any r w).mono ?_
    rintro e w1 ⟨rfl, rfl⟩
    rw [HM.out]
    go_wp2_with fail
    go_ret
    rw [HE.out]
    exact Byts.lit rfl rfl (by omega)
  · have HE := Lib.hid (enc4 (r := r) (by omega))
    go_enter Tryd.func24, Tryd.ntmps24
    go_wp2_with fail
    refine (may_any r w).mono ?_
    rintro e w1 ⟨rfl, rfl⟩
    rw [HM.out]
    go_wp2_with fail
    go_ret
    rw [HE.out]
    exact Byts.lit rfl rfl (by omega)
theorem refEnc_any (r : Int) (w : World) : Calls Tryd.prog 24 #[.int .i32 r] w (Byts (encS r) w) := by
  cases hm : mayS r
  · have HM := Lib.hid hm
    have HE := Lib.hid (enc_bad hm)
    clear hm
    go_enter Tryd.func24, Tryd.ntmps24
    go_wp2_with fail
    refine (may_any r w).mono ?_
    rintro e w1 ⟨rfl, rfl⟩
    rw [HM.out]
    go_wp2_with fail
    go_ret
    rw [HE.out]
    exact Byts.lit rfl rfl (by omega)
  · exact refEnc_may w hm
end Go.Proofs.YtappnfifhpmekaaDoor
