/-
  The chapter's examples: 'fixed' answers true.
-/
import Derived.Test.YtchpobikbcelfaaTlvEnc
import Derived.Test.YtchpobikbcelfaaTlvDecode
import Derived.Test.YtchpobikbcelfaaTlvPick
namespace Go.Proofs.Ytchpobikbcelfaa
open Go.RowKit

def ex1 : It := .mk 1 false false [7] []
def ex2 : It := .mk 2 true true [] []
theorem ex_enc : encS [ex1, ex2] = ([4, 1, 7, 11, 0], 0) := by decide +kernel
theorem ex_dec : decS [4, 0, 4, 0] = .bad 1 3 := by rfl
theorem ex_pick : pickS [1] [ex1, ex2] = none := by rfl

/-- The world in which the examples' list lies. -/
abbrev exW (w : World) : World := (w.alloc (.cells #[.int .u8 7] 5)).alloc (.cells #[.int .i64 1, .bool false, .bool false, .slice (some ⟨w.heap.size, 0, none⟩) 1 1, .slice none 0 0, .int .i64 2, .bool true, .bool true, .slice none 0 0, .slice none 0 0] 47)
theorem ex_its (w : World) : Its (exW w) (· < (exW w).heap.size) 1 (some ⟨w.heap.size + 1, 0, none⟩) 2 2 [ex1, ex2] := by
  refine ⟨rfl, Nat.le_refl _, by unfold maxLen; omega, fun _ => ⟨⟨w.heap.size + 1, 0, none⟩, _, rfl, by simp, by simp, ⟨some ⟨w.heap.size, 0, none⟩, 1, 1, none, 0, 0, _, rfl, ⟨(Sb.one w _ 7).alloc _, ?_, Nat.le_refl _, by unfold maxLen; omega, by omega, fun ad e _ => ?_⟩, ⟨rfl, rfl, by unfold maxLen; omega⟩,
    ⟨none, 0, 0, none, 0, 0, [], rfl, ⟨Sb.nil _ _, U8s.nil, Nat.le_refl _, by unfold maxLen; omega, by omega, fun ad e _ => by cases e⟩, ⟨rfl, rfl, by unfold maxLen; omega⟩, rfl⟩⟩, fun j v hj => ?_⟩⟩
  · intro z hz
    have : z = 7 := by simpa [ex1, It.bytes] using hz
    omega
  · injection e with e
    subst e
    simp; omega
  · have h := heap_alloc_new (w.alloc (.cells #[.int .u8 7] 5)) (.cells #[.int .i64 1, .bool false, .bool false, .slice (some ⟨w.heap.size, 0, none⟩) 1 1, .slice none 0 0, .int .i64 2, .bool true, .bool true, .slice none 0 0, .slice none 0 0] 47)
    have e : (w.alloc (.cells #[.int .u8 7] 5)).heap.size = w.heap.size + 1 := by simp
    rw [e] at h
    rw [addHead, cell_of_row _ _ j _ _ _ h, ← hj]
    simp [It.cs, ex1, ex2, It.kind, It.crit, It.lst]

theorem fixed_any (w : World) : Calls Try.prog 10 #[] w fun e w' => e = .returned (.bool true) ∧ Below w.heap.size w w' := by
  have B0 : Hid (Below w.heap.size w (exW w)) := ((Below.refl _ _).alloc (Nat.le_refl _) _).alloc (by simp) _
  go_enter Try.func10, Try.ntmps10
  go_wp2_with fail
  refine (encode_any (ex_its w)).mono ?_
  rintro e w1 ⟨v1, rfl, A1, n1, c1, rfl, hm1⟩
  rw [ex_enc] at hm1 ⊢
  have hn1 : 5 = n1 := hm1.len
  subst hn1
  have X1 := Lib.hid (And.intro (B0.out.trans (hm1.below.mono B0.out.size)) (And.intro hm1.sb ((ex_its w).below hm1.below)))
  clear hm1
  go_wp2_with fail
  refine (decode_any (zs := [4, 0, 4, 0]) (Sb.lit w1 _ [4, 0, 4, 0] 4 _ rfl rfl (by unfold maxLen; omega)) (fun z hz => by simp at hz; omega) (by omega)).mono ?_
  rintro e w2 ⟨hb2, he⟩
  rw [ex_dec] at he
  subst he
  have bb : Below w1.heap.size w1 w2 := ((Below.refl _ _).alloc (Nat.le_refl _) _).trans (hb2.mono (by simp))
  have X2 := Lib.hid (And.intro (X1.out.1.trans (bb.mono X1.out.1.size)) (And.intro (X1.out.2.1.below bb) (X1.out.2.2.below bb)))
  clear hb2 bb X1 B0
  have hsi : Si (w2.alloc (.cells #[.int .i64 1] 3)) (some ⟨w2.heap.size, 0, none⟩) 1 [1] := by
    refine ⟨rfl, fun k hk => ?_, fun _ => ⟨_, rfl, by simp, fun k hk => ?_⟩⟩
    · obtain rfl : k = 1 := by simpa using hk
      rfl
    · obtain rfl : k = 0 := by omega
      rw [addHead, cell_of_row _ _ 0 _ _ _ (heap_alloc_new w2 _)]
      rfl
  have hits : Its (w2.alloc (.cells #[.int .i64 1] 3)) (· < (w2.alloc (.cells #[.int .i64 1] 3)).heap.size) (0 + 1) (some ⟨w.heap.size + 1, 0, none⟩) 2 2 [ex1, ex2] :=
    (X2.out.2.2.alloc _).mono fun _ _ hlt => hlt
  have HPK := Lib.hid (pick_walk (c' := 1) hits hsi (by omega) (by omega) (fun x hx => by
    rcases List.mem_cons.1 hx with rfl | hx
    · rfl
    · rw [List.mem_singleton.1 hx]; rfl) (.inl ex_pick))
  clear hsi hits
  go_wp2_with fail
  refine HPK.out.mono ?_
  rintro e w3 ⟨hb3, he⟩
  rw [ex_pick] at he
  subst he
  have bb : Below w2.heap.size w2 w3 := ((Below.refl _ _).alloc (Nat.le_refl _) _).trans (hb3.mono (by simp))
  have X3 := Lib.hid (And.intro (X2.out.1.trans (bb.mono X2.out.1.size)) (X2.out.2.1.below bb))
  clear hb3 bb X2 HPK
  have HS := Lib.hid (same_true (c := c1) (c' := 5) (X3.out.2.alloc (.cells #[.int .u8 4, .int .u8 1, .int .u8 7, .int .u8 11, .int .u8 0] 5)) (Sb.lit w3 _ [4, 1, 7, 11, 0] 5 #[.int .u8 4, .int .u8 1, .int .u8 7, .int .u8 11, .int .u8 0] rfl rfl (by unfold maxLen; omega)) (by omega))
  go_wp2_with fail
  refine HS.out.mono ?_
  rintro e w4 ⟨rfl, q, rfl⟩
  have bb : Below w.heap.size w ((w3.alloc (.cells #[.int .u8 4, .int .u8 1, .int .u8 7, .int .u8 11, .int .u8 0] 5)).drewN q) := below_drewN' (X3.out.1.alloc X3.out.1.size _) q
  clear HS
  go_wp2_with fail
  go_ret
  exact ⟨rfl, bb⟩

end Go.Proofs.Ytchpobikbcelfaa
