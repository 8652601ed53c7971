/-
  The contract of the reference's Pick.
-/
import Derived.Test.YthmlcdmlpmbkcaaTlvPick
import Derived.Deep.QuietTactic
import Derived.BigQuiet
namespace Go.Proofs.Ythmlcdmlpmbkcaa
open Go.RowKit

theorem At.drewN {w : World} {S : Nat → Prop} {d : Nat} {ad : Addr} {k : Nat} {x : It} {B : Option Addr} {bn bc : Nat} {C : Option Addr} {cn cc : Nat} (h : At w S d ad k x B bn bc C cn cc) (q : Nat) : At (w.drewN q) S d ad k x B bn bc C cn cc :=
  ⟨h.c0, h.c1, h.c2, h.c3, h.c4, h.b.stay (Nat.le_refl _) fun _ _ _ => rfl, h.i.drewN q⟩
theorem drewN_add (w : World) (p q : Nat) : (w.drewN p).drewN q = w.drewN (p + q) := by
  unfold World.drewN; simp [Nat.add_assoc]
theorem take_has {ks : List Int} {k : Nat} (h : k < ks.length) (a : Int) : (ks.take (k + 1)).contains a = ((ks.take k).contains a || (ks.getD k 0 == a)) := by
  rw [List.take_add_one, List.getElem?_eq_getElem h, getD_lt h, Option.toList_some, Bool.eq_iff_iff]
  simp only [List.contains_iff_mem, List.mem_append, List.mem_singleton, Bool.or_eq_true, beq_iff_eq]
  constructor
  · rintro (h1 | h1)
    · exact .inl h1
    · exact .inr h1.symm
  · rintro (h1 | h1)
    · exact .inl h1
    · exact .inr h1.symm

/-- What the reference's Pick leaves. -/
def RPickPost (w : World) (d : Nat) (q : Option (List It)) (e : Ending) (w' : World) : Prop :=
  Below w.heap.size w w' ∧ match q with
  | none => e = .returned (.tuple #[.slice none 0 0, .int .i64 7])
  | some l => ∃ A n c, e = .returned (.tuple #[.slice A n c, .int .i64 0]) ∧ Its w' (fun _ => True) d A n c l

set_option maxRecDepth 100000 in
set_option maxHeartbeats 2000000 in
theorem refPick_any {w : World} {d : Nat} {A A' : Option Addr} {n c n' c' : Nat} {l : List It} {ks : List Int} (hi : Its w (· < w.heap.size) (d + 1) A n c l) (hk : Si w A' n' ks) (hn : n ≤ 1000000) (hn' : n' ≤ 140737488351232) :
    Calls Try.prog 23 #[.slice A n c, .slice A' n' c'] w (RPickPost w (d + 1) (pickS ks l)) := by
  have H := Lib.hid (And.intro hi hk)
  have hl := Lib.hid hi.len
  clear hi hk
  go_enter Try.func23, Try.ntmps23
  go_wp2_with fail
  go_loopw [6, 7] (fun v i wq => ∃ (k m cp : Nat) (Ap : Option Addr) (acc : List It) (xs : List Value), k ≤ n ∧ i = .int .i64 k ∧ v = .slice Ap m cp ∧ m ≤ k ∧ pickS ks l = (pickS ks (l.drop k)).map (acc ++ ·) ∧
    PRow wq w.heap.size w.heap.size d Ap m cp acc xs ∧ Below w.heap.size w wq ∧ w.heap.size ≤ wq.heap.size) (fun _ i _ => n - (intOf i).toNat)
  case atStart => exact ⟨0, 0, 0, _, [], [], Nat.zero_le _, rfl, rfl, Nat.le_refl _, by simp, ⟨World.ownsRow_lit w #[] 0 (Nat.le_refl _) (by unfold maxLen; omega) rfl, rfl⟩, (Below.refl _ _).alloc (Nat.le_refl _) _, by simp⟩
  case round =>
    obtain ⟨k2, m, cp, Ap, acc, xs, hk2, rfl, rfl, hm, hpk, hrow, hbel, hsz⟩ := hrel
    obtain ⟨wo, rfl⟩ : ∃ wo, wo = wr := ⟨_, rfl⟩
    have HPK := Lib.hid (And.intro hpk (And.intro hrow hbel))
    clear hpk hrow hbel
    by_cases hlt2 : k2 < n
    · obtain ⟨x, hx⟩ : ∃ x, l[k2]? = some x := ⟨_, List.getElem?_eq_getElem (by rw [hl.out]; exact hlt2)⟩
      have hiw : Its wo (· < w.heap.size) (d + 1) A n c l := H.out.1.stay HPK.out.2.2.size fun b hb _ => HPK.out.2.2.block b hb
      obtain ⟨ad, B, bn, bc, C, cn, cc, rfl, hS, hblt, hat⟩ := hiw.get hx
      have h0 := hat.c0
      have hdrop := drop_cons hx
      have X := Lib.hid (And.intro hat hdrop)
      have hlt2' : (k2 : Int) < (n : Int) := by omega
      clear hiw hS hblt hat hdrop hx hsz
      go_wp2_with fail
      go_loopw [8, 9] (fun v8 v9 wi => ∃ (k q : Nat) (b : Bool), k ≤ n' ∧ v9 = .int .i64 k ∧ v8 = .bool b ∧ b = (ks.take k).contains x.kind ∧ wi = wo.drewN q) (fun _ i _ => n' - (intOf i).toNat)
      case atStart => exact ⟨0, 0, false, Nat.zero_le _, rfl, rfl, by simp, rfl⟩
      case round =>
        obtain ⟨k, q, b, hk, rfl, rfl, hb, rfl⟩ := hrel
        have HB := Lib.hid hb
        clear hb
        by_cases hlt : k < n'
        · obtain ⟨ad', rfl, hblt, hcell⟩ := H.out.2.at_ (by omega)
          have hc := (HPK.out.2.2.cell (p := ad'.add k) (by rw [addBlock]; exact hblt)).trans (hcell k hlt)
          have hkl : k < ks.length := by rw [H.out.2.len]; exact hlt
          have HT := Lib.hid (take_has hkl x.kind)
          obtain ⟨v, hv⟩ : ∃ v, v = ks.getD k 0 := ⟨_, rfl⟩
          rw [← hv] at hc HT
          have hkl' : (k : Int) < (n' : Int) := by omega
          clear hcell hkl hv hblt
          cases b with
          | true =>
            go_wp2_with fail
            go_quiet (fail)
            go_wp2_with fail
            go_roundw
            case rel => exact ⟨k + 1, q + nq, true, by omega, by go_num, rfl, by rw [HT.out, ← HB.out]; rfl, rfl⟩
            case measure => simp [intOf]; omega
          | false =>
            by_cases hvx : v = x.kind
            · rw [hvx] at hc HT
              have hd2 : (x.kind == x.kind) = true := by simp
              go_wp2_with fail
              go_quiet (fail)
              go_wp2_with fail
              go_roundw
              case rel => exact ⟨k + 1, q + nq, true, by omega, by go_num, rfl, by rw [HT.out]; simp, rfl⟩
              case measure => simp [intOf]; omega
            · have hd2 : (v == x.kind) = false := by simpa using hvx
              clear hvx
              go_wp2_with fail
              go_quiet (fail)
              go_wp2_with fail
              go_roundw
              case rel => exact ⟨k + 1, q + nq, false, by omega, by go_num, rfl, by rw [HT.out, ← HB.out, hd2]; rfl, rfl⟩
              case measure => simp [intOf]; omega
        · have hkk : ks.take k = ks := List.take_of_length_le (by rw [H.out.2.len]; omega)
          have HH : Hid (b = ks.contains x.kind) := by have := HB.out; rw [hkk] at this; exact this
          clear hkk HB
          obtain ⟨wd, hwd⟩ : ∃ wd, wd = wo.drewN q := ⟨_, rfl⟩
          have Y := Lib.hid (show At wd (· < w.heap.size) d ad k2 x B bn bc C cn cc ∧ PRow wd w.heap.size w.heap.size d Ap m cp acc xs ∧ Below w.heap.size w wd ∧ w.heap.size ≤ wd.heap.size from by
            rw [hwd]
            exact ⟨X.out.1.drewN q, HPK.out.2.1.grown (below_drewN' (Below.refl _ _) q), below_drewN' HPK.out.2.2 q, HPK.out.2.2.size⟩)
          rw [← hwd]
          clear hwd h0
          have h0 := Y.out.1.c0
          have h1 := Y.out.1.c1
          have h2 := Y.out.1.c2
          have h3 := Y.out.1.c3
          have h4 := Y.out.1.c4
          cases b with
          | true =>
            have HP : Hid (pickS ks l = (pickS ks (l.drop (k2 + 1))).map ((acc ++ [x]) ++ ·)) := by
              show pickS ks l = _
              rw [HPK.out.1, X.out.2, pick_in HH.out.symm, Option.map_map]
              exact congrArg (fun f => Option.map f _) (funext fun y => by simp)
            have hown := (Y.out.2.1.grown ((Below.refl wd.heap.size wd).alloc (Nat.le_refl _) (.cells #[.int .i64 x.kind, .bool x.crit, .bool x.lst, .slice B bn bc, .slice C cn cc] 47))).own
            have hone := oneCellsAt wd ([.int .i64 x.kind, .bool x.crit, .bool x.lst, .slice B bn bc, .slice C cn cc] : List Value) 47
            have hall : ∀ u ∈ ([.int .i64 x.kind, .bool x.crit, .bool x.lst, .slice B bn bc, .slice C cn cc] : List Value), u.oneCell' = true := oneItem x B bn bc C cn cc
            have hmm2 : m + 1 ≤ 1000000 := by omega
            have hsz2 : w.heap.size ≤ wd.heap.size := Y.out.2.2.2
            clear hn'
            go_wp2_with (first
              | (at_builtin; refine wpList_appw _ rfl (.tmp 37) (.tmp 42) 22 rfl w.heap.size 47 _ 5 64 Try.underlying22 info47 rfl (by omega) (.slice Ap m cp) m xs rfl hown ⟨wd.heap.size, 0, none⟩ 1 1 ([.int .i64 x.kind, .bool x.crit, .bool x.lst, .slice B bn bc, .slice C cn cc] : List Value) rfl rfl (by simpa using hone) hall (by unfold maxLen; omega) (by omega) (by simp; omega) ?_; intro A6 c6 w6 hown6 hg6 _; have V := Lib.hid (And.intro hown6 hg6); clear hown6 hg6))
            go_roundw
            case rel =>
              obtain ⟨v1, v2⟩ := V.out
              have hb1 : Below wd.heap.size wd (wd.alloc (.cells #[.int .i64 x.kind, .bool x.crit, .bool x.lst, .slice B bn bc, .slice C cn cc] 47)) := (Below.refl _ _).alloc (Nat.le_refl _) _
              have b1 := Y.out.2.2.1.trans (hb1.mono hsz2)
              have hol := (Y.out.2.1.grown hb1).own.lt
              refine ⟨k2 + 1, m + 1, c6, A6, acc ++ [x], _, by omega, by go_num, rfl, by omega, HP.out, (Y.out.2.1.grown hb1).snoc (Nat.le_refl _) ?_ ?_ v1 v2, b1.grown v2 (by simp; omega) (fun j hj => by have := hol j hj; omega), by have := v2.size; simp at this; omega⟩
              · exact Y.out.1.b.stay hb1.size fun b _ hlt => hb1.block b hlt
              · exact Y.out.1.i.below hb1
            case measure => simp [intOf]; omega
          | false =>
            cases hcr : x.crit with
            | true =>
              have HP : Hid (∀ w', Below w.heap.size w w' → RPickPost w (d + 1) (pickS ks l) (.returned (.tuple #[.slice none 0 0, .int .i64 7])) w') := fun w' hb => by
                rw [HPK.out.1, X.out.2, pick_crit HH.out.symm hcr]
                exact ⟨hb, rfl⟩
              rw [hcr] at h1
              clear hcr
              go_wp2_with fail
              go_ret2
              exact HP.out _ Y.out.2.2.1
            | false =>
              have HP : Hid (pickS ks l = (pickS ks (l.drop (k2 + 1))).map (acc ++ ·)) := by
                show pickS ks l = _
                rw [HPK.out.1, X.out.2, pick_out HH.out.symm hcr]
              rw [hcr] at h1
              clear hcr
              go_wp2_with fail
              go_roundw
              case rel => exact ⟨k2 + 1, m, cp, Ap, acc, xs, by omega, by go_num, rfl, by omega, HP.out, Y.out.2.1, Y.out.2.2.1, Y.out.2.2.2⟩
              case measure => simp [intOf]; omega
    · have hz : l.drop k2 = [] := List.drop_eq_nil_of_le (by rw [hl.out]; omega)
      have HQ : Hid (RPickPost w (d + 1) (pickS ks l) (.returned (.tuple #[.slice Ap m cp, .int .i64 0])) wo) := by
        have hpk := HPK.out.1
        rw [hz] at hpk
        have hpk : pickS ks l = some acc := by rw [hpk]; simp [pickS]
        show RPickPost w (d + 1) (pickS ks l) _ _
        rw [hpk]
        exact ⟨HPK.out.2.2, Ap, m, cp, rfl, HPK.out.2.1.its⟩
      clear hz
      go_wp2_with fail
      go_ret2
      exact HQ.out

end Go.Proofs.Ythmlcdmlpmbkcaa
