/-
  utf.Encode: a rune's bytes in a row of the call's own.
-/
import Derived.Test.YtappnfifhpmekaaDoorUtfEnc
import Derived.Test.YtappnfifhpmekaaDoorUtfShelf
import Derived.Test.YtappnfifhpmekaaDoorWireMem
import Derived.Lib.Hide
namespace Go.Proofs.YtappnfifhpmekaaDoor
open Go.RowKit

theorem cells_enc (r : Int) : Lib.runeCells r = (encS r).map (Value.int .u8) := by
  have e : Lib.encodeRuneZ r = encS r := by
    by_cases h : mayS r = true
    · rcases may_cases h with h1 | h1 | h1 | h1
      · rw [enc1 h1.1 h1.2, Lib.encodeRuneZ_one h1.1 (by omega)]
      · rw [enc2 h1.1 h1.2, Lib.encodeRuneZ_two h1.1 (by omega)]
      · rw [enc3 h1, Lib.encodeRuneZ_three (by omega)]
      · rw [enc4 h1, Lib.encodeRuneZ_four h1.1 h1.2]
    · have h' := h
      rw [mayS_iff] at h'
      rw [enc_bad (by simpa using h), Lib.encodeRuneZ_bad (by omega)]
  simp [Lib.runeCells, e]
theorem encode_any (w : World) (r : Int) (h0 : -2147483648 ≤ r) (h1 : r ≤ 2147483647) :
    Calls Tryd.prog 19 #[.int .i32 r] w fun e w' => ∃ v, e = .returned v ∧ Made 5 (encS r) w v w' := by
  have H := Lib.hid (Tryd.utf8_AppendRune_plain w.heap.size (.slice none 0 0) 0 [] r h0 h1 w (World.ownsRow_nil _ _ _ _) (by omega) (Nat.le_refl _))
  clear h0 h1
  go_enter Tryd.func19, Tryd.ntmps19
  go_wp2_with fail
  refine H.out.mono ?_
  rintro e w1 ⟨v, rfl, hown, o, hg⟩
  have hb1 : Below w.heap.size w w1 := ((Below.refl _ _).alloc (Nat.le_refl _) o).grown hg (by simp [World.size_alloc]) (fun k hk => by cases hk)
  rw [List.nil_append, Nat.zero_add, cells_enc, show (List.map (Value.int IntKind.u8) (encS r)).length = (encS r).length by simp] at hown
  obtain ⟨A, c, rfl, _, _⟩ := own_shape hown
  go_wp2_with fail
  go_ret
  exact ⟨_, rfl, Made.mk hown hb1⟩
end Go.Proofs.YtappnfifhpmekaaDoor
