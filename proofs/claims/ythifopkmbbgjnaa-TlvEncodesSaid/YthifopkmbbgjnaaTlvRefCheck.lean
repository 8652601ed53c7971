/-
  The contracts of the reference's Check and Encode.
-/
import Derived.Test.YthifopkmbbgjnaaTlvBytes
import Derived.BigQuiet
import Derived.Deep.QuietTactic
namespace Go.Proofs.Ythifopkmbbgjnaa
open Go.RowKit

/-- The error of an item of a row, by lengths. -/
theorem errR_len {f : Fl} {bn cn : Nat} (hb : f.x.bytes.length = bn) (hc : f.x.items.length = cn) : scanR.errR f =
    if f.x.kind < 1 ∨ 1000 < f.x.kind ∨ f.x.kind ≤ f.ahead ∨ (0 < cn ∧ f.x.lst = false) ∨ (0 < bn ∧ f.x.lst = true) then 1 else
    if f.x.lst = true ∧ f.dep = 4 then 5 else
    if 4096 < bn then 4 else 0 := by
  have e1 : (f.x.bytes ≠ []) ↔ 0 < bn := by rw [← hb]; exact List.length_pos_iff.symm
  have e2 : (f.x.items ≠ []) ↔ 0 < cn := by rw [← hc]; exact List.length_pos_iff.symm
  unfold scanR.errR
  simp only [e1, e2, hb]
theorem scan_hit {c : Int} {f : Fl} {r : List Fl} {E : Int} (h : c ≠ 64) (h1 : scanR.errR f = E) (h2 : E ≠ 0) : (scanR c (f :: r)).2 = E := by
  rw [scanR, if_neg h, if_pos (by rw [h1]; exact h2), h1]
theorem scan_next {c : Int} {f : Fl} {r : List Fl} (h : c ≠ 64) (h1 : scanR.errR f = 0) : scanR c (f :: r) = scanR (c + 1) r := by
  rw [scanR, if_neg h, if_neg (by simpa using h1)]

theorem FRow.below {base : Nat} {w w' : World} {ad : Addr} {n c : Nat} {fs : List Fl} {xs : List Value} (h : FRow base w ad n c fs xs) (hb : Below w.heap.size w w') : FRow base w' ad n c fs xs := ⟨own_below h.own hb, h.fl⟩
theorem FRow.lt {base : Nat} {w : World} {ad : Addr} {n c : Nat} {fs : List Fl} {xs : List Value} (h : FRow base w ad n c fs xs) : ad.block < w.heap.size := (h.own.lt ad.block rfl).2

set_option maxRecDepth 100000 in
set_option maxHeartbeats 4000000 in
theorem refCheck_any {w : World} {S : Nat → Prop} {d : Nat} {A : Option Addr} {n c : Nat} {l : List It} (hi : Its w S d A n c l) :
    Calls Try.prog 21 #[.slice A n c] w fun e w' => e = .returned (.int .i64 (encS l).2) ∧ Below w.heap.size w w' := by
  have H := Lib.hid hi
  have HLn := flF_len 4 65 l (by omega)
  have hrow := scan_row l
  obtain ⟨fs, hfs⟩ : ∃ fs, fs = flF 4 65 l := ⟨_, rfl⟩
  rw [← hfs] at HLn hrow
  have HFS := Lib.hid (And.intro hfs hrow)
  clear hi hfs hrow
  go_enter Try.func21, Try.ntmps21
  go_wp2_with fail
  refine (row_any 4 1 (by omega) (by omega) w S d A n c l 65 H.out (by omega) (by omega)).mono ?_
  rintro e w1 ⟨ad, m, cp, xs, rfl, hr, hb⟩
  rw [← HFS.out.1] at hr
  have hm := hr.len
  have R := Lib.hid (And.intro hr hb)
  have HM := Lib.hid hm
  have hm66 : m ≤ 66 := by omega
  clear hr hb hm HLn
  go_wp2_with fail
  go_loopw [4] (fun i wr => ∃ k : Nat, k ≤ m ∧ i = .int .i64 k ∧ k ≤ 64 ∧ scanR 0 fs = scanR k (fs.drop k) ∧ FRow w.heap.size wr ad m cp fs xs ∧ Below w.heap.size w wr) (fun i _ => m - (intOf i).toNat)
  case atStart => exact ⟨0, Nat.zero_le _, rfl, by omega, by simp, R.out.1, R.out.2⟩
  case round =>
    clear R
    obtain ⟨k, hk, rfl, hk64, hsc, hr, hb⟩ := hrel
    by_cases hlt : k < m
    · obtain ⟨f, hf⟩ : ∃ f, fs[k]? = some f := ⟨_, List.getElem?_eq_getElem (by rw [HM.out]; exact hlt)⟩
      obtain ⟨B, bn, bc, C, cn, cc, e1, e2, e3, e4, c0, c1, c2, c3, c4, c5, c6⟩ := hr.cells hf
      have hkl : (k : Int) < (m : Int) := by omega
      have hk0 : (0 : Int) ≤ (k : Int) := by omega
      have hblt : (ad.add (k * 7)).block < wr.heap.size := by rw [addBlock]; exact hr.lt
      have hdrop : fs.drop k = f :: fs.drop (k + 1) := by
        obtain ⟨h1, h2⟩ := List.getElem?_eq_some_iff.1 hf
        rw [List.drop_eq_getElem_cons h1, h2]
      rw [hdrop] at hsc
      have herr := errR_len e1 e2
      have X := Lib.hid (And.intro hsc (And.intro herr (And.intro hr hb)))
      unfold maxLen at e4
      clear hf e1 e2 hdrop hsc herr hr hb
      have HP : Hid (∀ (E : Int) (w' : World), (k : Int) ≠ 64 → scanR.errR f = E → E ≠ 0 → Below wr.heap.size wr w' → (Ending.returned (.int .i64 E) = .returned (.int .i64 (encS l).2)) ∧ Below w.heap.size w w') := by
        intro E w' h64 h1 h2 hb
        have h3 : (chkL 1 0 0 l).2 = E := by rw [← HFS.out.2, X.out.1]; exact scan_hit h64 h1 h2
        refine ⟨?_, X.out.2.2.2.trans (hb.mono X.out.2.2.2.size)⟩
        unfold encS
        rw [if_pos (by rw [h3]; exact h2), h3]
      have HB : Hid (∀ (o : Obj) (q : Nat), Below wr.heap.size wr ((wr.alloc o).drewN q)) := fun o q => below_drewN' ((Below.refl _ _).alloc (Nat.le_refl _) _) q
      by_cases h64 : 64 ≤ k
      · have hk' : k = 64 := by omega
        have HQ : Hid (∀ w', Below wr.heap.size wr w' → (Ending.returned (.int .i64 4) = .returned (.int .i64 (encS l).2)) ∧ Below w.heap.size w w') := by
          intro w' hb
          have h3 : (chkL 1 0 0 l).2 = 4 := by rw [← HFS.out.2, X.out.1, scanR, if_pos (by rw [hk']; rfl)]
          refine ⟨?_, X.out.2.2.2.trans (hb.mono X.out.2.2.2.size)⟩
          unfold encS
          rw [if_pos (by rw [h3]; omega), h3]
        clear hk'
        go_wp2_with fail
        go_ret
        exact HQ.out _ ((Below.refl _ _).alloc (Nat.le_refl _) _)
      have h64' : (k : Int) < 64 := by omega
      have N64 : Hid ((k : Int) ≠ 64) := by show _ ≠ _; omega
      by_cases a1 : f.x.kind < 1
      · have da1 : decide (f.x.kind < 1) = true := by simpa using a1
        have HE : Hid (scanR.errR f = 1) := by show _ = _; rw [X.out.2.1]; rw [if_pos (.inl a1)]
        go_wp2_with fail
        go_quiet (fail)
        go_wp2_with fail
        go_ret
        exact HP.out 1 _ N64.out HE.out (by omega) (HB.out _ _)
      have da1 : decide (f.x.kind < 1) = false := by simpa using a1
      by_cases a2 : 1000 < f.x.kind
      · have da2 : decide (1000 < f.x.kind) = true := by simpa using a2
        have HE : Hid (scanR.errR f = 1) := by show _ = _; rw [X.out.2.1]; rw [if_pos (.inr (.inl a2))]
        go_wp2_with fail
        go_quiet (fail)
        go_wp2_with fail
        go_ret
        exact HP.out 1 _ N64.out HE.out (by omega) (HB.out _ _)
      have da2 : decide (1000 < f.x.kind) = false := by simpa using a2
      by_cases a3 : f.x.kind ≤ f.ahead
      · have da3 : decide (f.x.kind ≤ f.ahead) = true := by simpa using a3
        have HE : Hid (scanR.errR f = 1) := by show _ = _; rw [X.out.2.1]; rw [if_pos (.inr (.inr (.inl a3)))]
        go_wp2_with fail
        go_quiet (fail)
        go_wp2_with fail
        go_ret
        exact HP.out 1 _ N64.out HE.out (by omega) (HB.out _ _)
      have da3 : decide (f.x.kind ≤ f.ahead) = false := by simpa using a3
      cases hls : f.x.lst with
      | false =>
        rw [hls] at c2
        by_cases b3 : 0 < cn
        · have db3 : decide (0 < cn) = true := by simpa using b3
          have HE : Hid (scanR.errR f = 1) := by show _ = _; rw [X.out.2.1]; rw [if_pos (.inr (.inr (.inr (.inl ⟨b3, hls⟩))))]
          go_wp2_with fail
          go_quiet (fail)
          go_wp2_with fail
          go_ret
          exact HP.out 1 _ N64.out HE.out (by omega) (HB.out _ _)
        · have db3 : decide (0 < cn) = false := by simpa using b3
          by_cases b4 : 0 < bn
          · have db4 : decide (0 < bn) = true := by simpa using b4
            by_cases b5 : 4096 < bn
            · have HE : Hid (scanR.errR f = 4) := by show _ = _; rw [X.out.2.1]; rw [if_neg (by simp [hls]; omega), if_neg (by simp [hls]), if_pos b5]
              go_wp2_with fail
              go_quiet (fail)
              go_wp2_with fail
              go_ret
              exact HP.out 4 _ N64.out HE.out (by omega) (HB.out _ _)
            · have HE : Hid (scanR.errR f = 0) := by show _ = _; rw [X.out.2.1]; rw [if_neg (by simp [hls]; omega), if_neg (by simp [hls]), if_neg b5]
              go_wp2_with fail
              go_quiet (fail)
              go_wp2_with fail
              go_roundw
              case rel => exact ⟨k + 1, by omega, by go_num, by omega, by rw [X.out.1, scan_next N64.out HE.out]; rfl, X.out.2.2.1.below (HB.out _ _), X.out.2.2.2.trans ((HB.out _ _).mono X.out.2.2.2.size)⟩
              case measure => simp [intOf]; omega
          · have db4 : decide (0 < bn) = false := by simpa using b4
            have HE : Hid (scanR.errR f = 0) := by show _ = _; rw [X.out.2.1]; rw [if_neg (by simp [hls]; omega), if_neg (by simp [hls]), if_neg (by omega)]
            go_wp2_with fail
            go_quiet (fail)
            go_wp2_with fail
            go_roundw
            case rel => exact ⟨k + 1, by omega, by go_num, by omega, by rw [X.out.1, scan_next N64.out HE.out]; rfl, X.out.2.2.1.below (HB.out _ _), X.out.2.2.2.trans ((HB.out _ _).mono X.out.2.2.2.size)⟩
            case measure => simp [intOf]; omega
      | true =>
        rw [hls] at c2
        by_cases b3 : 0 < cn
        · have db3 : decide (0 < cn) = true := by simpa using b3
          by_cases b4 : 0 < bn
          · have db4 : decide (0 < bn) = true := by simpa using b4
            have HE : Hid (scanR.errR f = 1) := by show _ = _; rw [X.out.2.1]; rw [if_pos (.inr (.inr (.inr (.inr ⟨b4, hls⟩))))]
            go_wp2_with fail
            go_quiet (fail)
            go_wp2_with fail
            go_ret
            exact HP.out 1 _ N64.out HE.out (by omega) (HB.out _ _)
          · have db4 : decide (0 < bn) = false := by simpa using b4
            by_cases b5 : f.dep = 4
            · have t5 : (f.dep == 4) = true := by simpa using b5
              have HE : Hid (scanR.errR f = 5) := by show _ = _; rw [X.out.2.1]; rw [if_neg (by simp [hls]; omega), if_pos ⟨hls, b5⟩]
              clear b5
              go_wp2_with fail
              go_quiet (fail)
              go_wp2_with fail
              go_ret
              exact HP.out 5 _ N64.out HE.out (by omega) (HB.out _ _)
            · have t5 : (f.dep == 4) = false := by simpa using b5
              have HE : Hid (scanR.errR f = 0) := by show _ = _; rw [X.out.2.1]; rw [if_neg (by simp [hls]; omega), if_neg (by simp [b5]), if_neg (by omega)]
              clear b5
              go_wp2_with fail
              go_quiet (fail)
              go_wp2_with fail
              go_roundw
              case rel => exact ⟨k + 1, by omega, by go_num, by omega, by rw [X.out.1, scan_next N64.out HE.out]; rfl, X.out.2.2.1.below (HB.out _ _), X.out.2.2.2.trans ((HB.out _ _).mono X.out.2.2.2.size)⟩
              case measure => simp [intOf]; omega
        · have db3 : decide (0 < cn) = false := by simpa using b3
          by_cases b4 : 0 < bn
          · have db4 : decide (0 < bn) = true := by simpa using b4
            have HE : Hid (scanR.errR f = 1) := by show _ = _; rw [X.out.2.1]; rw [if_pos (.inr (.inr (.inr (.inr ⟨b4, hls⟩))))]
            go_wp2_with fail
            go_quiet (fail)
            go_wp2_with fail
            go_ret
            exact HP.out 1 _ N64.out HE.out (by omega) (HB.out _ _)
          · have db4 : decide (0 < bn) = false := by simpa using b4
            by_cases b5 : f.dep = 4
            · have t5 : (f.dep == 4) = true := by simpa using b5
              have HE : Hid (scanR.errR f = 5) := by show _ = _; rw [X.out.2.1]; rw [if_neg (by simp [hls]; omega), if_pos ⟨hls, b5⟩]
              clear b5
              go_wp2_with fail
              go_quiet (fail)
              go_wp2_with fail
              go_ret
              exact HP.out 5 _ N64.out HE.out (by omega) (HB.out _ _)
            · have t5 : (f.dep == 4) = false := by simpa using b5
              have HE : Hid (scanR.errR f = 0) := by show _ = _; rw [X.out.2.1]; rw [if_neg (by simp [hls]; omega), if_neg (by simp [b5]), if_neg (by omega)]
              clear b5
              go_wp2_with fail
              go_quiet (fail)
              go_wp2_with fail
              go_roundw
              case rel => exact ⟨k + 1, by omega, by go_num, by omega, by rw [X.out.1, scan_next N64.out HE.out]; rfl, X.out.2.2.1.below (HB.out _ _), X.out.2.2.2.trans ((HB.out _ _).mono X.out.2.2.2.size)⟩
              case measure => simp [intOf]; omega
    · have hz : fs.drop k = [] := List.drop_eq_nil_of_le (by rw [HM.out]; omega)
      have hc0 : (chkL 1 0 0 l).2 = 0 := by rw [← HFS.out.2, hsc, hz, scanR]
      have h1 := chkL_ok l 1 0 0 (Int.le_refl 0) (by omega) hc0
      have h2 := chkL_few l 1 0 0 (Int.le_refl 0) (Int.le_refl 0) (by omega) hc0
      have h3 : l.length ≤ 64 := by omega
      have h4 := chk_shal 4 l 1 0 0 (by omega) (Int.le_refl 0) (Int.le_refl 0) (by omega) (fun h => by omega) hc0
      have HC := Lib.hid (bytes_any 4 (by omega) wr S d A n c l (H.out.stay hb.size fun b _ hlt => hb.block b hlt) h4 h1.1 h2 h3)
      have HE : Hid (encS l = if (itsB l).length ≤ 4096 then (itsB l, 0) else ([], 4)) := by show _ = _; unfold encS; rw [if_neg (by rw [hc0]; simp)]
      have X := Lib.hid hb
      clear hz hc0 h1 h2 h3 h4 hsc hr hb
      go_wp2_with fail
      refine HC.out.mono ?_
      rintro e w3 ⟨v, rfl, A3, n3, c3, rfl, hm3⟩
      have hl3 := hm3.len
      have Y := Lib.hid (X.out.trans (hm3.below.mono X.out.size))
      clear hm3 HC
      by_cases h5 : 4096 < n3
      · have HQ : Hid (Ending.returned (.int .i64 4) = .returned (.int .i64 (encS l).2)) := by show _ = _; rw [HE.out, if_neg (by omega)]
        clear hl3
        go_wp2_with fail
        go_ret
        exact ⟨HQ.out, Y.out⟩
      · have HQ : Hid (Ending.returned (.int .i64 0) = .returned (.int .i64 (encS l).2)) := by show _ = _; rw [HE.out, if_pos (by omega)]
        clear hl3
        go_wp2_with fail
        go_ret
        exact ⟨HQ.out, Y.out⟩

end Go.Proofs.Ythifopkmbbgjnaa
