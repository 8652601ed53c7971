/-
  The chapter's examples.
-/
import Derived.Test.YtappnfifhpmekaaDoorParseCode
import Derived.Test.YtappnfifhpmekaaDoorParseSame
import Derived.Test.YtappnfifhpmekaaDoorRecsApp
import Derived.Lib.SlBytesConst
namespace Go.Proofs.YtappnfifhpmekaaDoor
open Go.RowKit

theorem fix_u8 : U8s fixB := fun z hz => by simp [fixB] at hz; omega
/-- A literal row of bytes that was converted. -/
theorem sb_litm (w : World) (zs : List Int) (n : Nat) (cs : Array Value) (fr : Nat × Nat) (hc : cs.toList = zs.map (Value.int .u8)) (hl : zs.length = n) : Sb (w.alloc (.cells cs 5 fr)) (some ⟨w.heap.size, 0, none⟩) n zs := by
  refine ⟨hl, fun hn => ⟨_, rfl, by simp, fun k hk => ?_⟩⟩
  rw [addHead, cell_of_row _ _ k _ _ _ (heap_alloc_new w (.cells cs 5 fr)), ← Array.getElem?_toList, hc, List.getElem?_map, List.getElem?_eq_getElem (by omega), getD_lt (by omega)]
  rfl
theorem ik_lit (q : IntKind) (w : World) (e : TypeId) (zs : List Int) (n : Nat) (cs : Array Value) (hc : cs.toList = zs.map (Value.int q)) (hl : zs.length = n) : Ik q (w.alloc (.cells cs e)) (some ⟨w.heap.size, 0, none⟩) n zs := by
  refine ⟨hl, fun hn => ⟨_, rfl, by simp, fun k hk => ?_⟩⟩
  rw [addHead, cell_of_row _ _ k _ _ _ (heap_alloc_new w (.cells cs e)), ← Array.getElem?_toList, hc, List.getElem?_map, List.getElem?_eq_getElem (by omega), getD_lt (by omega)]
  rfl
theorem al_below (w : World) (o : Obj) : Below w.heap.size w (w.alloc o) := (Below.refl _ _).alloc (Nat.le_refl _) _
/-- A literal row of acts. -/
theorem acts_lit (w : World) (R : List AcR) : Vs acV (w.alloc (.cells (rowV acV R).toArray 25)) (some ⟨w.heap.size, 0, none⟩) R.length R := (made_rw (f := acV) w 25 R).vs
set_option maxHeartbeats 4000000 in
set_option maxRecDepth 100000 in
theorem fixedP_any (w : World) (hT : Known w) : Calls Tryd.prog 7 #[] w fun e w' => e = .returned (.bool true) ∧ Below w.heap.size w w' := by
  have H1 : Hid (Sb (w.alloc (.cells #[.int .u8 27, .int .u8 91, .int .u8 63, .int .u8 50, .int .u8 53, .int .u8 104, .int .u8 27, .int .u8 91, .int .u8 59, .int .u8 53, .int .u8 72, .int .u8 27, .int .u8 93, .int .u8 48, .int .u8 59, .int .u8 97, .int .u8 7, .int .u8 27, .int .u8 91, .int .u8 49, .int .u8 24, .int .u8 65, .int .u8 27, .int .u8 91, .int .u8 49, .int .u8 13, .int .u8 109] 5 (27, 28))) (some ⟨w.heap.size, 0, none⟩) 27 fixB ∧ Below w.heap.size w (w.alloc (.cells #[.int .u8 27, .int .u8 91, .int .u8 63, .int .u8 50, .int .u8 53, .int .u8 104, .int .u8 27, .int .u8 91, .int .u8 59, .int .u8 53, .int .u8 72, .int .u8 27, .int .u8 93, .int .u8 48, .int .u8 59, .int .u8 97, .int .u8 7, .int .u8 27, .int .u8 91, .int .u8 49, .int .u8 24, .int .u8 65, .int .u8 27, .int .u8 91, .int .u8 49, .int .u8 13, .int .u8 109] 5 (27, 28)))) := Lib.hid ⟨sb_litm w fixB 27 _ _ rfl rfl, (Below.refl _ _).alloc (Nat.le_refl _) _⟩
  have kc := fun (w : World) (C : Array Value) (n c : Nat) => Lib.run_convert_bytes_const (P := Tryd.prog) w 23 5 C n c Tryd.underlying23 Tryd.underlying5
  go_enter Tryd.func7, Tryd.ntmps7
  go_wp2_with fail
  refine (pActs_any (zs := fixB) (hT.below H1.out.2 (Nat.le_refl _)) H1.out.1 fix_u8 (by omega)).mono ?_
  rw [fix_acts]
  rintro e w2 ⟨A, c, R, rfl, hA, hR, hc1, hc2, hb⟩
  have hl : R.length = 6 := by rw [← acts_len, hR]; rfl
  have H2 := Lib.hid (And.intro hA (And.intro hR (H1.out.2.trans (hb.mono H1.out.2.size))))
  clear hA hR hb
  have HL := Lib.hid hl
  clear hl
  have kc2 : (convert 23 23 (.slice (some ⟨w2.heap.size + 1 + 1, 0, none⟩) 3 3)).run Tryd.prog (((w2.alloc (.cells #[.int .i64 25] 3)).alloc (.cells #[.int .i64 0, .int .i64 5] 3)).alloc (.cells #[.int .u8 48, .int .u8 59, .int .u8 97] 5)) = .ok (.slice (some ⟨w2.heap.size + 1 + 1, 0, none⟩) 3 3) (((w2.alloc (.cells #[.int .i64 25] 3)).alloc (.cells #[.int .i64 0, .int .i64 5] 3)).alloc (.cells #[.int .u8 48, .int .u8 59, .int .u8 97] 5 (3, 4))) := by
    have h := kc ((w2.alloc (.cells #[.int .i64 25] 3)).alloc (.cells #[.int .i64 0, .int .i64 5] 3)) #[.int .u8 48, .int .u8 59, .int .u8 97] 3 3
    have e : ((w2.alloc (.cells #[.int .i64 25] 3)).alloc (.cells #[.int .i64 0, .int .i64 5] 3)).heap.size = w2.heap.size + 1 + 1 := by simp
    rw [e] at h
    exact h
  clear kc
  go_wp2_with fail
  obtain ⟨g, hg⟩ : ∃ g, g = w2.heap.size := ⟨_, rfl⟩
  rw [← hg]
  have HF : Hid (Ats (((((w2.alloc (.cells #[.int .i64 25] 3)).alloc (.cells #[.int .i64 0, .int .i64 5] 3)).alloc (.cells #[.int .u8 48, .int .u8 59, .int .u8 97] 5 (3, 4))).alloc (.cells #[.int .i64 1] 3)).alloc (.cells (rowV acV [⟨acCsi 63 104 [25], some ⟨g, 0, none⟩, 1, 1, none, 0, 0⟩, ⟨acCsi 0 72 [0, 5], some ⟨g + 1, 0, none⟩, 2, 2, none, 0, 0⟩, ⟨acOsc [48, 59, 97], none, 0, 0, some ⟨g + 1 + 1, 0, none⟩, 3, 3⟩, ⟨acPrint 65, none, 0, 0, none, 0, 0⟩, ⟨acC0 13, none, 0, 0, none, 0, 0⟩, ⟨acCsi 0 109 [1], some ⟨g + 1 + 1 + 1, 0, none⟩, 1, 1, none, 0, 0⟩]).toArray 25)) (some ⟨g + 1 + 1 + 1 + 1, 0, none⟩) 6 [⟨acCsi 63 104 [25], some ⟨g, 0, none⟩, 1, 1, none, 0, 0⟩, ⟨acCsi 0 72 [0, 5], some ⟨g + 1, 0, none⟩, 2, 2, none, 0, 0⟩, ⟨acOsc [48, 59, 97], none, 0, 0, some ⟨g + 1 + 1, 0, none⟩, 3, 3⟩, ⟨acPrint 65, none, 0, 0, none, 0, 0⟩, ⟨acC0 13, none, 0, 0, none, 0, 0⟩, ⟨acCsi 0 109 [1], some ⟨g + 1 + 1 + 1, 0, none⟩, 1, 1, none, 0, 0⟩] ∧ Below w2.heap.size w2 (((((w2.alloc (.cells #[.int .i64 25] 3)).alloc (.cells #[.int .i64 0, .int .i64 5] 3)).alloc (.cells #[.int .u8 48, .int .u8 59, .int .u8 97] 5 (3, 4))).alloc (.cells #[.int .i64 1] 3)).alloc (.cells (rowV acV [⟨acCsi 63 104 [25], some ⟨g, 0, none⟩, 1, 1, none, 0, 0⟩, ⟨acCsi 0 72 [0, 5], some ⟨g + 1, 0, none⟩, 2, 2, none, 0, 0⟩, ⟨acOsc [48, 59, 97], none, 0, 0, some ⟨g + 1 + 1, 0, none⟩, 3, 3⟩, ⟨acPrint 65, none, 0, 0, none, 0, 0⟩, ⟨acC0 13, none, 0, 0, none, 0, 0⟩, ⟨acCsi 0 109 [1], some ⟨g + 1 + 1 + 1, 0, none⟩, 1, 1, none, 0, 0⟩]).toArray 25))) := Lib.hid (by
    rw [hg]
    generalize hW1 : w2.alloc (.cells #[.int .i64 25] 3) = W1
    generalize hW2 : W1.alloc (.cells #[.int .i64 0, .int .i64 5] 3) = W2
    generalize hW3 : W2.alloc (.cells #[.int .u8 48, .int .u8 59, .int .u8 97] 5 (3, 4)) = W3
    generalize hW4 : W3.alloc (.cells #[.int .i64 1] 3) = W4
    have s1 : W1.heap.size = w2.heap.size + 1 := by rw [← hW1]; simp
    have s2 : W2.heap.size = w2.heap.size + 1 + 1 := by rw [← hW2]; simp [s1]
    have s3 : W3.heap.size = w2.heap.size + 1 + 1 + 1 := by rw [← hW3]; simp [s2]
    have s4 : W4.heap.size = w2.heap.size + 1 + 1 + 1 + 1 := by rw [← hW4]; simp [s3]
    have b1 : Below w2.heap.size w2 W1 := by rw [← hW1]; exact al_below _ _
    have b2 : Below W1.heap.size W1 W2 := by rw [← hW2]; exact al_below _ _
    have b3 : Below W2.heap.size W2 W3 := by rw [← hW3]; exact al_below _ _
    have b4 : Below W3.heap.size W3 W4 := by rw [← hW4]; exact al_below _ _
    have i1 : Ik .i64 W1 (some ⟨w2.heap.size, 0, none⟩) 1 [25] := by rw [← hW1]; exact ik_lit .i64 w2 _ [25] 1 _ rfl rfl
    have i2 : Ik .i64 W2 (some ⟨w2.heap.size + 1, 0, none⟩) 2 [0, 5] := by rw [← hW2, ← s1]; exact ik_lit .i64 W1 _ [0, 5] 2 _ rfl rfl
    have i3 : Sb W3 (some ⟨w2.heap.size + 1 + 1, 0, none⟩) 3 [48, 59, 97] := by rw [← hW3, ← s2]; exact sb_litm W2 [48, 59, 97] 3 _ _ rfl rfl
    have i4 : Ik .i64 W4 (some ⟨w2.heap.size + 1 + 1 + 1, 0, none⟩) 1 [1] := by rw [← hW4, ← s3]; exact ik_lit .i64 W3 _ [1] 1 _ rfl rfl
    have b5 := al_below W4 (.cells (rowV acV [⟨acCsi 63 104 [25], some ⟨w2.heap.size, 0, none⟩, 1, 1, none, 0, 0⟩, ⟨acCsi 0 72 [0, 5], some ⟨w2.heap.size + 1, 0, none⟩, 2, 2, none, 0, 0⟩, ⟨acOsc [48, 59, 97], none, 0, 0, some ⟨w2.heap.size + 1 + 1, 0, none⟩, 3, 3⟩, ⟨acPrint 65, none, 0, 0, none, 0, 0⟩, ⟨acC0 13, none, 0, 0, none, 0, 0⟩, ⟨acCsi 0 109 [1], some ⟨w2.heap.size + 1 + 1 + 1, 0, none⟩, 1, 1, none, 0, 0⟩]).toArray 25)
    have hv := acts_lit W4 [⟨acCsi 63 104 [25], some ⟨w2.heap.size, 0, none⟩, 1, 1, none, 0, 0⟩, ⟨acCsi 0 72 [0, 5], some ⟨w2.heap.size + 1, 0, none⟩, 2, 2, none, 0, 0⟩, ⟨acOsc [48, 59, 97], none, 0, 0, some ⟨w2.heap.size + 1 + 1, 0, none⟩, 3, 3⟩, ⟨acPrint 65, none, 0, 0, none, 0, 0⟩, ⟨acC0 13, none, 0, 0, none, 0, 0⟩, ⟨acCsi 0 109 [1], some ⟨w2.heap.size + 1 + 1 + 1, 0, none⟩, 1, 1, none, 0, 0⟩]
    rw [s4] at hv
    have c1 := ((i1.below b2).below b3).below b4
    have c2 := (i2.below b3).below b4
    have c3 := i3.below b4
    have mx : 3 ≤ maxLen := by unfold maxLen; omega
    have m0 : 0 ≤ maxLen := Nat.zero_le _
    refine ⟨⟨hv, fun x hx => ?_⟩, (((b1.trans (b2.mono b1.size)).trans (b3.mono (by omega))).trans (b4.mono (by omega))).trans (b5.mono (by omega))⟩
    refine RdA.below ?_ b5
    simp only [List.mem_cons, List.not_mem_nil, or_false] at hx
    rcases hx with rfl | rfl | rfl | rfl | rfl | rfl
    · exact ⟨c1, Sb.nil _ _, Nat.le_refl _, by show 1 ≤ maxLen; omega, Nat.le_refl _, m0⟩
    · exact ⟨c2, Sb.nil _ _, Nat.le_refl _, by show 2 ≤ maxLen; omega, Nat.le_refl _, m0⟩
    · exact ⟨Ik.nil _ _ _, c3, Nat.le_refl _, m0, Nat.le_refl _, mx⟩
    · exact ⟨Ik.nil _ _ _, Sb.nil _ _, Nat.le_refl _, m0, Nat.le_refl _, m0⟩
    · exact ⟨Ik.nil _ _ _, Sb.nil _ _, Nat.le_refl _, m0, Nat.le_refl _, m0⟩
    · exact ⟨i4, Sb.nil _ _, Nat.le_refl _, by show 1 ≤ maxLen; omega, Nat.le_refl _, m0⟩)
  have hfa : acts [⟨acCsi 63 104 [25], some ⟨g, 0, none⟩, 1, 1, none, 0, 0⟩, ⟨acCsi 0 72 [0, 5], some ⟨g + 1, 0, none⟩, 2, 2, none, 0, 0⟩, ⟨acOsc [48, 59, 97], none, 0, 0, some ⟨g + 1 + 1, 0, none⟩, 3, 3⟩, ⟨acPrint 65, none, 0, 0, none, 0, 0⟩, ⟨acC0 13, none, 0, 0, none, 0, 0⟩, ⟨acCsi 0 109 [1], some ⟨g + 1 + 1 + 1, 0, none⟩, 1, 1, none, 0, 0⟩] = fixA := rfl
  clear kc2
  refine (refSameA_any (R := R) (H2.out.1.below HF.out.2) HF.out.1 (by rw [HL.out]; omega) (by omega)).mono ?_
  rintro e w3 ⟨rfl, hb⟩
  rw [hfa, H2.out.2.1, decide_eq_true rfl]
  have HB := Lib.hid (H2.out.2.2.trans ((HF.out.2.trans (hb.mono HF.out.2.size)).mono H2.out.2.2.size))
  clear hb hfa
  go_wp2_with fail
  go_ret
  exact ⟨rfl, HB.out⟩
end Go.Proofs.YtappnfifhpmekaaDoor
