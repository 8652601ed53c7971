/-
  The contract of Small: may a list be gone through? And what it says of a list that it may.
-/
import Derived.Test.YtchpobikbcelfaaTlvRow
namespace Go.Proofs.Ytchpobikbcelfaa
open Go.RowKit

def smG : Int → List Fl → Bool
  | _, [] => true
  | n, f :: r => if 131072 < n + f.x.bytes.length ∨ (f.dep = 5 ∧ f.x.items ≠ []) then false else smG (n + f.x.bytes.length) r
def smallB (l : List It) : Bool := smG 0 (flF 4 400 l) && decide ((flF 4 400 l).length ≤ 400)

/-- No item has more than so many bytes and items, all the way down, and none lies deeper. -/
def sml : Nat → List It → Prop
  | 0, l => ∀ x ∈ l, x.bytes.length ≤ 131072 ∧ x.items = []
  | e + 1, l => ∀ x ∈ l, x.bytes.length ≤ 131072 ∧ x.items.length ≤ 400 ∧ sml e x.items

theorem fl_prefix {sub : Int → List It → List Fl} {dep most : Int} : ∀ (l : List It) (a : Int) (out : List Fl), ∃ t, flL sub dep most a out l = out ++ t := by
  intro l
  induction l with
  | nil => intro a out; exact ⟨[], by rw [flL, List.append_nil]⟩
  | cons x l ih =>
    intro a out
    rw [flL]
    split
    · obtain ⟨t, ht⟩ := ih x.kind (out ++ [⟨x, dep, a⟩] ++ sub (most - (out.length + 1)) x.items)
      exact ⟨_, by rw [ht, List.append_assoc, List.append_assoc]⟩
    · exact ⟨[], by rw [List.append_nil]⟩
theorem fl_all {sub : Int → List It → List Fl} {dep most : Int} : ∀ (l : List It) (a : Int) (out : List Fl), ((flL sub dep most a out l).length : Int) ≤ most →
    (out.length + l.length ≤ (flL sub dep most a out l).length) ∧ ∀ x ∈ l, ∃ (a' : Int) (m' : Int), (⟨x, dep, a'⟩ : Fl) ∈ flL sub dep most a out l ∧ m' ≤ most ∧ ((sub m' x.items).length : Int) ≤ m' ∧ ∀ f ∈ sub m' x.items, f ∈ flL sub dep most a out l := by
  intro l
  induction l with
  | nil => intro a out h; exact ⟨by rw [flL]; simp, fun x hx => by cases hx⟩
  | cons y l ih =>
    intro a out h
    have hm : (out.length : Int) ≤ most := by
      obtain ⟨t, ht⟩ := fl_prefix (sub := sub) (dep := dep) (most := most) (y :: l) a out
      rw [ht] at h
      simp at h
      omega
    rw [flL, if_pos hm] at h ⊢
    obtain ⟨h1, h2⟩ := ih _ _ h
    obtain ⟨t, ht⟩ := fl_prefix (sub := sub) (dep := dep) (most := most) l y.kind (out ++ [⟨y, dep, a⟩] ++ sub (most - (out.length + 1)) y.items)
    refine ⟨?_, fun x hx => ?_⟩
    · simp only [List.length_append, List.length_cons, List.length_nil] at h1 ⊢
      omega
    · rcases List.mem_cons.1 hx with rfl | hx
      · refine ⟨a, most - (out.length + 1), by rw [ht]; simp, by omega, ?_, fun f hf => by rw [ht]; simp [hf]⟩
        rw [ht] at h
        simp only [List.length_append, List.length_cons, List.length_nil] at h
        omega
      · exact h2 x hx
theorem sml_of (e : Nat) : ∀ (most : Int) (l : List It), ((flF e most l).length : Int) ≤ most → most ≤ 400 → (∀ f ∈ flF e most l, f.x.bytes.length ≤ 131072 ∧ ¬ (f.dep = 5 ∧ f.x.items ≠ [])) → l.length ≤ 400 ∧ sml e l := by
  induction e with
  | zero =>
    intro most l h hm hf
    rw [flF] at h hf
    obtain ⟨h1, h2⟩ := fl_all l 0 [] h
    refine ⟨by simp at h1; omega, fun x hx => ?_⟩
    obtain ⟨a', m', g1, _⟩ := h2 x hx
    obtain ⟨g2, g3⟩ := hf _ g1
    exact ⟨g2, Classical.byContradiction fun hne => g3 ⟨rfl, hne⟩⟩
  | succ e ih =>
    intro most l h hm hf
    rw [flF] at h hf
    obtain ⟨h1, h2⟩ := fl_all l 0 [] h
    refine ⟨by simp at h1; omega, fun x hx => ?_⟩
    obtain ⟨a', m', g1, g2, g3, g4⟩ := h2 x hx
    obtain ⟨g5, g6⟩ := ih m' x.items g3 (by omega) fun f hf' => hf f (g4 f hf')
    exact ⟨(hf _ g1).1, g5, g6⟩
theorem smG_mem : ∀ (fs : List Fl) (n : Int), 0 ≤ n → smG n fs = true → ∀ f ∈ fs, f.x.bytes.length ≤ 131072 ∧ ¬ (f.dep = 5 ∧ f.x.items ≠ []) := by
  intro fs
  induction fs with
  | nil => intro n _ _ f hf; cases hf
  | cons g fs ih =>
    intro n hn h f hf
    rw [smG] at h
    split at h
    · cases h
    · rename_i h1
      rcases List.mem_cons.1 hf with rfl | hf
      · exact ⟨by omega, fun h2 => h1 (.inr h2)⟩
      · exact ih _ (by omega) h f hf
theorem small_sml {l : List It} (h : smallB l = true) : l.length ≤ 400 ∧ sml 4 l := by
  unfold smallB at h
  rw [Bool.and_eq_true] at h
  exact sml_of 4 400 l (by have := of_decide_eq_true h.2; omega) (Int.le_refl _) (smG_mem _ 0 (Int.le_refl 0) h.1)

/-- The seven cells of an item of a row. -/
theorem FRow.cells {base : Nat} {w : World} {ad : Addr} {n c : Nat} {fs : List Fl} {xs : List Value} (h : FRow base w ad n c fs xs) {k : Nat} {f : Fl} (hk : fs[k]? = some f) :
    ∃ B bn bc C cn cc, f.x.bytes.length = bn ∧ f.x.items.length = cn ∧ bn ≤ 140737488351232 ∧ cn ≤ maxLen ∧ w.cell? (ad.add (k * 7)) = some (.int .i64 f.x.kind) ∧ w.cell? ⟨(ad.add (k * 7)).block, (ad.add (k * 7)).off + 1, none⟩ = some (.bool f.x.crit) ∧
      w.cell? ⟨(ad.add (k * 7)).block, (ad.add (k * 7)).off + 2, none⟩ = some (.bool f.x.lst) ∧ w.cell? ⟨(ad.add (k * 7)).block, (ad.add (k * 7)).off + 3, none⟩ = some (.slice B bn bc) ∧
      w.cell? ⟨(ad.add (k * 7)).block, (ad.add (k * 7)).off + 4, none⟩ = some (.slice C cn cc) ∧ w.cell? ⟨(ad.add (k * 7)).block, (ad.add (k * 7)).off + 5, none⟩ = some (.int .i64 f.dep) ∧
      w.cell? ⟨(ad.add (k * 7)).block, (ad.add (k * 7)).off + 6, none⟩ = some (.int .i64 f.ahead) := by
  obtain ⟨B, bn, bc, C, cn, cc, h1, h2, h3, h4, h5⟩ := h.fl.get hk
  have hc : ∀ j u, xs[j]? = some u → w.cell? (ad.add j) = some u := by
    rcases h.own.2 with ⟨e, _⟩ | ⟨g, cap, cur, e, _⟩
    · injection e with e; cases e
    · injection e with e
      injection e with e
      subst e
      exact h.own.cells (g := g) rfl
  refine ⟨B, bn, bc, C, cn, cc, h1, h2, h3, h4, ?_, ?_, ?_, ?_, ?_, ?_, ?_⟩
  · exact hc _ _ (h5 0 _ rfl)
  · rw [addOut]; exact hc _ _ (h5 1 _ rfl)
  · rw [addOut]; exact hc _ _ (h5 2 _ rfl)
  · rw [addOut]; exact hc _ _ (h5 3 _ rfl)
  · rw [addOut]; exact hc _ _ (h5 4 _ rfl)
  · rw [addOut]; exact hc _ _ (h5 5 _ rfl)
  · rw [addOut]; exact hc _ _ (h5 6 _ rfl)

set_option maxRecDepth 100000 in
set_option maxHeartbeats 1000000 in
theorem small_any {w : World} {S : Nat → Prop} {d : Nat} {A : Option Addr} {n c : Nat} {l : List It} (hi : Its w S d A n c l) :
    Calls Try.prog 9 #[.slice A n c] w fun e w' => e = .returned (.bool (smallB l)) ∧ Below w.heap.size w w' := by
  have H := Lib.hid hi
  have HL := flF_len 4 400 l (by omega)
  obtain ⟨fs, hfs⟩ : ∃ fs, fs = flF 4 400 l := ⟨_, rfl⟩
  have HS : Hid (smallB l = (smG 0 fs && decide (fs.length ≤ 400))) := by show _ = _; unfold smallB; rw [hfs]
  rw [← hfs] at HL
  have HFS := Lib.hid hfs
  rw [HS.out]
  clear hi hfs
  go_enter Try.func9, Try.ntmps9
  go_wp2_with fail
  refine (row_any 4 1 (by omega) (by omega) w S d A n c l 400 H.out (by omega) (by omega)).mono ?_
  rintro e w1 ⟨ad, m, cp, xs, rfl, hr, hb⟩
  rw [← HFS.out] at hr
  have hm := hr.len
  have R := Lib.hid (And.intro hr hb)
  clear hr hb
  have hm401 : m ≤ 401 := by omega
  have HM := Lib.hid hm
  clear hm HL
  go_wp2_with fail
  go_loop [4, 5] (fun v i => ∃ (k : Nat) (a : Int), k ≤ m ∧ i = .int .i64 k ∧ v = .int .i64 a ∧ 0 ≤ a ∧ a ≤ 131072 ∧ smG 0 fs = smG a (fs.drop k)) (fun _ i => m - (intOf i).toNat)
  case atStart => exact ⟨0, 0, Nat.zero_le _, rfl, rfl, Int.le_refl 0, by omega, by simp⟩
  case round =>
    obtain ⟨k, a, hk, rfl, rfl, ha0, ha1, hsm⟩ := hrel
    have HSM := Lib.hid hsm
    clear hsm
    by_cases hlt : k < m
    · obtain ⟨f, hf⟩ : ∃ f, fs[k]? = some f := ⟨_, List.getElem?_eq_getElem (by rw [HM.out]; exact hlt)⟩
      obtain ⟨B, bn, bc, C, cn, cc, e1, e2, e3, e4, c0, c1, c2, c3, c4, c5, c6⟩ := R.out.1.cells hf
      have hkl : (k : Int) < (m : Int) := by omega
      have hdrop : fs.drop k = f :: fs.drop (k + 1) := by
        obtain ⟨h1, h2⟩ := List.getElem?_eq_some_iff.1 hf
        rw [List.drop_eq_getElem_cons h1, h2]
      have hcn : (f.x.items ≠ []) ↔ 0 < cn := by rw [← e2]; exact List.length_pos_iff.symm
      have hsm := HSM.out
      rw [hdrop, smG, e1] at hsm
      have X := Lib.hid (And.intro hsm hcn)
      unfold maxLen at e4
      clear hf e1 e2 hdrop c0 c1 c2 c6 hsm hcn
      by_cases hA : 131072 < a + (bn : Int)
      · have HP : Hid ((smG 0 fs && decide (fs.length ≤ 400)) = false) := by
          show _ = _
          rw [X.out.1, if_pos (.inl hA)]
          rfl
        go_wp2_with fail
        go_ret
        exact ⟨by rw [HP.out]; rfl, R.out.2⟩
      · by_cases h5 : f.dep = 5
        · have t5 : (f.dep == 5) = true := by simpa using h5
          by_cases h0 : 0 < cn
          · have HP : Hid ((smG 0 fs && decide (fs.length ≤ 400)) = false) := by
              show _ = _
              rw [X.out.1, if_pos (.inr ⟨h5, X.out.2.2 h0⟩)]
              rfl
            clear h5
            go_wp2_with fail
            go_ret
            exact ⟨by rw [HP.out]; rfl, R.out.2⟩
          · have HP : Hid (smG 0 fs = smG (a + bn) (fs.drop (k + 1))) := by
              show _ = _
              rw [X.out.1, if_neg (fun h => by
                rcases h with h | h
                · exact hA h
                · exact h0 (X.out.2.1 h.2))]
            clear h5
            go_wp2_with fail
            go_round
            case rel => exact ⟨k + 1, a + bn, by omega, by go_num, rfl, by omega, by omega, HP.out⟩
            case measure => simp [intOf]; omega
        · have t5 : (f.dep == 5) = false := by simpa using h5
          have HP : Hid (smG 0 fs = smG (a + bn) (fs.drop (k + 1))) := by
            show _ = _
            rw [X.out.1, if_neg (fun h => by
              rcases h with h | h
              · exact hA h
              · exact h5 h.1)]
          clear h5
          go_wp2_with fail
          go_round
          case rel => exact ⟨k + 1, a + bn, by omega, by go_num, rfl, by omega, by omega, HP.out⟩
          case measure => simp [intOf]; omega
    · have HP : Hid ((smG 0 fs && decide (fs.length ≤ 400)) = decide ((m : Int) ≤ 400)) := by
        show _ = _
        rw [HSM.out, List.drop_eq_nil_of_le (by rw [HM.out]; omega), smG, HM.out, Bool.true_and]
        by_cases h : m ≤ 400
        · simp [h]; omega
        · simp [h]; omega
      by_cases h4 : m ≤ 400
      · have e : Hid (decide ((m : Int) ≤ 400) = true) := by show _ = _; simp; omega
        go_wp2_with fail
        go_ret
        exact ⟨by rw [HP.out, e.out]; rfl, R.out.2⟩
      · have e : Hid (decide ((m : Int) ≤ 400) = false) := by show _ = _; simp; omega
        go_wp2_with fail
        go_ret
        exact ⟨by rw [HP.out, e.out]; rfl, R.out.2⟩

end Go.Proofs.Ytchpobikbcelfaa
