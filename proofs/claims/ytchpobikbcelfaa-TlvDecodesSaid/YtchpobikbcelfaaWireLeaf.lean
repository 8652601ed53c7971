/-
  Contracts of the small functions of wire and of the reference's Same and Copy: what each answers and what it leaves in memory.
-/
import Derived.Test.YtchpobikbcelfaaProg
import Derived.Test.YtchpobikbcelfaaWireMem
import Derived.BigQuiet
import Derived.Deep.QuietTactic
import Derived.Laws.CopyOwn
import Derived.WalkSpells
namespace Go.Proofs.Ytchpobikbcelfaa
open Go.RowKit

theorem retI {k : IntKind} {a b : Int} (h : a = b) : Ending.returned (.int k a) = .returned (.int k b) := by rw [h]

theorem err_nil (w : World) : Calls Try.prog 46 #[.pointer none] w fun e w' => e = .returned (.int .i64 1) ∧ w = w' := by
  go_enter Try.func46, Try.ntmps46
  go_wp2
  go_ret
  exact ⟨rfl, rfl⟩

theorem left_nil (w : World) : Calls Try.prog 42 #[.pointer none] w fun e w' => e = .returned (.int .i64 0) ∧ w = w' := by
  go_enter Try.func42, Try.ntmps42
  go_wp2
  go_ret
  exact ⟨rfl, rfl⟩

theorem err_any {base : Nat} {w : World} {r : Nat} {A : Option Addr} {n c : Nat} {zs : List Int} {e : Int} (h : Rd 84 base w r A n c zs e) :
    Calls Try.prog 46 #[.pointer (some ⟨r, 0, none⟩)] w fun e' w' => e' = .returned (.int .i64 e) ∧ w = w' := by
  have h1 := h.cell1
  clear h
  go_enter Try.func46, Try.ntmps46
  go_wp2
  go_ret
  exact ⟨rfl, rfl⟩

theorem left_any {base : Nat} {w : World} {r : Nat} {A : Option Addr} {n c : Nat} {zs : List Int} {e : Int} (h : Rd 84 base w r A n c zs e) :
    Calls Try.prog 42 #[.pointer (some ⟨r, 0, none⟩)] w fun e' w' => e' = .returned (.int .i64 n) ∧ w = w' := by
  have h1 := h.cell0
  clear h
  go_enter Try.func42, Try.ntmps42
  go_wp2
  go_ret
  exact ⟨rfl, rfl⟩

theorem reads_nil (w : World) : Calls Try.prog 53 #[.pointer none] w fun e w' => e = .returned (.bool false) ∧ w = w' := by
  go_enter Try.func53, Try.ntmps53
  go_wp2_with (go_at_call 46; refine (err_nil _).mono ?_; rintro e w' ⟨rfl, rfl⟩)
  go_ret
  exact ⟨rfl, rfl⟩

theorem reads_any {base : Nat} {w : World} {r : Nat} {A : Option Addr} {n c : Nat} {zs : List Int} {e : Int} (h : Rd 84 base w r A n c zs e) :
    Calls Try.prog 53 #[.pointer (some ⟨r, 0, none⟩)] w fun e' w' => e' = .returned (.bool (e == 0)) ∧ w = w' := by
  go_enter Try.func53, Try.ntmps53
  go_wp2_with (go_at_call 46; refine (err_any h).mono ?_; rintro e w' ⟨rfl, rfl⟩)
  go_ret
  exact ⟨rfl, rfl⟩

/-- What End answers. -/
def endE (e : Int) (n : Nat) : Int := if e = 0 then (if n = 0 then 0 else 6) else e

theorem info8 : (Try.prog.info? 5).map (fun i => (i.zero, i.size, i.bytes)) = some (some (.int .u8 0), 1, 1) := by kernel_rfl

theorem clone_any {w : World} {A : Option Addr} {n c : Nat} {zs : List Int} (h : Sb w A n zs) (hn : n ≤ 140737488355328) :
    Calls Try.prog 51 #[.slice A n c] w fun e w' => ∃ v, e = .returned v ∧ Made 5 zs w v w' := by
  have hrun := fun (w : World) => Lib.run_eql_slice_nil (P := Try.prog) w 26 5 A n c 0 0 Try.underlying26
  cases A with
  | none =>
    have hz : n = 0 := by
      rcases Nat.eq_zero_or_pos n with h0 | h0
      · exact h0
      · obtain ⟨ad, h1⟩ := h.addr h0
        cases h1
    subst hz
    obtain rfl : zs = [] := List.eq_nil_of_length_eq_zero h.len
    go_enter Try.func51, Try.ntmps51
    go_wp2
    go_ret
    exact ⟨_, rfl, Made.nil _ _⟩
  | some ad =>
    have hl := h.len
    go_enter Try.func51, Try.ntmps51
    go_wp2_with (at_builtin; refine wpList_app _ rfl _ _ 26 rfl w.heap.size 5 Try.underlying26 info8 (.slice (some ⟨w.heap.size, 0, none⟩) 0 0) 0 [] rfl (World.ownsRow_lit w #[] 0 (Nat.le_refl _) (by unfold maxLen; omega) rfl) (some ad) n c zs rfl (h.alloc _) (by omega) (by simp) ?_; intro A' c' w1 hown hg; simp only [Nat.zero_add, List.nil_append] at hown)
    have H := Made.mk (w := w) hown (((Below.refl _ _).alloc (Nat.le_refl _) _).grown hg (by simp) (by intro k hk; have : w.heap.size = k := (by simpa [Value.ownBlock] using hk); omega))
    clear hown hg
    go_ret
    exact ⟨_, rfl, H⟩

theorem size8 : (Try.prog.info? 5).map (·.size) = some 1 := by kernel_rfl

/-- Copy: a row of its own, as long. -/
theorem copy_any {w : World} {A : Option Addr} {n c : Nat} {zs : List Int} (h : Sb w A n zs) (hn : n ≤ 140737488355328) :
    Calls Try.prog 17 #[.slice A n c] w fun e w' => ∃ g, e = .returned (.slice (some ⟨g, 0, none⟩) n n) ∧
      w'.ownsRow w.heap.size 5 1 (.slice (some ⟨g, 0, none⟩) n n) n (zs.map (Value.int .u8)) ∧ Below w.heap.size w w' := by
  obtain ⟨i0, hi, hz0, hz1, hz2⟩ := info_parts info8
  have hl := Lib.hid h.len
  go_enter Try.func17, Try.ntmps17
  go_wp2_with (first
    | (at_make; refine wpList_make_full _ rfl _ _ 26 rfl w.heap.size 5 i0 (.int .u8 0) 1 Try.underlying26 hi hz0 hz1 .i64 .i64 (n : Int) (n : Int) n rfl rfl rfl rfl (by rw [hz2]; omega) (by unfold maxLen; omega) (Nat.le_refl _) ?_; intro w1 hown hg)
    | (with_reducible refine wpList_cpy rfl (.tmp 7) (.tmp 8) 26 rfl w.heap.size 5 Try.underlying26 size8 w.heap.size n c A rfl rfl _ hown zs (h.below (Below.grown (Below.refl _ _) hg (Nat.le_refl _) (by intro k hk; cases hk))) ?_; intro w2 hown2 hb2))
  go_ret
  exact ⟨_, rfl, hown2, ((Below.refl _ _).grown hg (Nat.le_refl _) (by intro k hk; cases hk)).trans hb2⟩

set_option maxHeartbeats 400000 in
/-- Same over two slices that read as one list: true; memory is as it was, but for what was drawn. -/
theorem same_true {w : World} {A A' : Option Addr} {n c c' : Nat} {zs : List Int} (h : Sb w A n zs) (h' : Sb w A' n zs) (hn : n ≤ 9223372036854775807) :
    Calls Try.prog 14 #[.slice A n c, .slice A' n c'] w fun e w' => e = .returned (.bool true) ∧ ∃ q, w' = w.drewN q := by
  go_enter Try.func14, Try.ntmps14
  go_wp2
  go_loopw [13] (fun i wr => ∃ k q : Nat, k ≤ n ∧ i = .int .i64 k ∧ wr = w.drewN q) (fun i _ => n - (intOf i).toNat)
  case atStart => exact ⟨0, 0, Nat.zero_le _, rfl, rfl⟩
  case round =>
    obtain ⟨k, q, hk, rfl, rfl⟩ := hrel
    by_cases hlt : k < n
    · obtain ⟨ad, rfl⟩ := h.addr (by omega)
      obtain ⟨ad', rfl⟩ := h'.addr (by omega)
      have hc := h.cell hlt
      have hc' := h'.cell hlt
      go_wp2
      go_quiet (fail)
      go_wp2
      go_roundw
      case rel => exact ⟨k + 1, q + nq, by omega, by go_num, rfl⟩
      case measure => simp [intOf]; omega
    · go_wp2
      go_ret
      exact ⟨rfl, q, rfl⟩

theorem rtext_nil (n : Int) (w : World) : Calls Try.prog 44 #[.pointer none, .int .i64 n] w fun e w' => e = .returned (.slice none 0 0) ∧ w = w' := by
  go_enter Try.func44, Try.ntmps44
  go_wp2_with (go_at_call 53; refine (reads_nil _).mono ?_; rintro e w' ⟨rfl, rfl⟩)
  go_ret
  exact ⟨rfl, rfl⟩
theorem take_nil (n : Int) (w : World) : Calls Try.prog 55 #[.pointer none, .int .i64 n] w fun e w' => e = .returned (.slice none 0 0) ∧ w = w' := by
  go_enter Try.func55, Try.ntmps55
  go_wp2_with (go_at_call 53; refine (reads_nil _).mono ?_; rintro e w' ⟨rfl, rfl⟩)
  go_ret
  exact ⟨rfl, rfl⟩
theorem rvar_nil (w : World) : Calls Try.prog 52 #[.pointer none] w fun e w' => e = .returned (.int .u64 0) ∧ w = w' := by
  go_enter Try.func52, Try.ntmps52
  go_wp2_with (go_at_call 53; refine (reads_nil _).mono ?_; rintro e w' ⟨rfl, rfl⟩)
  go_ret
  exact ⟨rfl, rfl⟩

end Go.Proofs.Ytchpobikbcelfaa
