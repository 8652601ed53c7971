/-
  Contracts of the reader's Num, Var and Text.
-/
import Derived.Test.YtogaakokplobaaaDoorWireTake
import Derived.Test.YtogaakokplobaaaDoorWireFirst
namespace Go.Proofs.YtogaakokplobaaaDoor
open Go.RowKit

theorem pow256_le {i j : Nat} (h : i ≤ j) : (256 : Int) ^ i ≤ 256 ^ j := by
  have h1 : (256 : Nat) ^ i ≤ 256 ^ j := Nat.pow_le_pow_right (by omega) h
  have h2 : ((256 ^ i : Nat) : Int) ≤ ((256 ^ j : Nat) : Int) := Int.ofNat_le.2 h1
  simpa using h2

/-- One byte more of a number. -/
theorem shl_step {acc d : Int} (h0 : 0 ≤ acc) (h1 : acc < 72057594037927936) (h2 : 0 ≤ d) (h3 : d ≤ 255) : bits .or .u64 (acc * 256) d = acc * 256 + d := by
  rw [u64_or _ _ (by omega) (by omega) h2 (by omega), nat_join 8]
  · omega
  · omega
  · omega

def NumPost (base : Nat) (w : World) (r : Nat) (q : Int × List Int × Int) (e' : Ending) (w' : World) : Prop :=
  e' = .returned (.int .u64 q.1) ∧ RdTo 74 base w r q.2.1 q.2.2 w'

theorem rnum_any {base : Nat} {w : World} {r : Nat} {A : Option Addr} {m c : Nat} {zs : List Int} {e : Int} (h : Rd 74 base w r A m c zs e) (hu : U8s zs) (hm : m ≤ 140737488355328) (n : Int) (hn : n ≤ 9223372036854775807) :
    Calls Tryd.prog 38 #[.pointer (some ⟨r, 0, none⟩), .int .i64 n] w (NumPost base w r (num1 zs e n)) := by
  by_cases h0 : e = 0
  · subst h0
    by_cases h1 : 1 ≤ n ∧ n ≤ 8
    · have hb : decide (1 ≤ n ∧ n ≤ 8) = true := by simpa using h1
      have hq := Lib.hid (num1_of_take (zs := zs) (n := n) (by omega))
      go_enter Tryd.func38, Tryd.ntmps38
      go_wp2_with (first
        | (go_at_call 45; refine (reads_any h).mono ?_; rintro e w' ⟨rfl, rfl⟩)
        | (go_at_call 41; refine (sizeMay_any _ _).mono ?_; rintro e w' ⟨rfl, rfl⟩))
      refine (take_any h hm n hn).mono ?_
      rintro e w1 ⟨v, rfl, ⟨A1, n1, c1, rfl, hf⟩, hto⟩
      have HP : NumPost base w r (num1 zs 0 n) (.returned (.int .u64 (valL 0 (take1 zs 0 n).1))) w1 := by
        rw [hq.out]; exact ⟨rfl, hto⟩
      have hl := Lib.hid hf.len
      have hlen := take1_len zs (n := n) (by omega)
      have hu1 : U8s (take1 zs 0 n).1 := fun z hz => hu z (take1_mem hz)
      obtain ⟨ys, hys⟩ : ∃ ys, ys = (take1 zs 0 n).1 := ⟨_, rfl⟩
      rw [← hys] at hf hl HP hlen hu1
      have hsb := hf.sb
      have hn1 : n1 ≤ 8 := by have := hl.out; omega
      clear hys hto hf hlen hq hb h1 hn
      go_wp2
      go_loop [21, 5] (fun i x => ∃ k : Nat, k ≤ n1 ∧ i = .int .i64 k ∧ x = .int .u64 (valL 0 (ys.take k))) (fun i _ => n1 - (intOf i).toNat)
      case atStart => exact ⟨0, Nat.zero_le _, rfl, rfl⟩
      case round =>
        obtain ⟨k, hk, rfl, rfl⟩ := hrel
        by_cases hlt : k < n1
        · obtain ⟨ad, rfl⟩ := hsb.addr (by omega)
          have hc := hsb.cell hlt
          have hd := hu1.getD k
          have hstep := valL_step (zs := ys) (k := k) (by have := hl.out; omega)
          have hbd := valL_bound (zs := ys.take k) (fun z hz => hu1 z (List.mem_of_mem_take hz)) 0 (by omega)
          have hpow := pow256_le (i := (ys.take k).length) (j := 7) (by simp; omega)
          have e7 : (256 : Int) ^ 7 = 72057594037927936 := by decide
          rw [e7] at hpow
          obtain ⟨d, hd'⟩ : ∃ d, d = ys.getD k 0 := ⟨_, rfl⟩
          rw [← hd'] at hc hd hstep
          obtain ⟨acc, ha⟩ : ∃ acc, acc = valL 0 (ys.take k) := ⟨_, rfl⟩
          rw [← ha] at hbd hstep ⊢
          obtain ⟨hb1, hb2⟩ := hbd
          have hb3 : acc < 72057594037927936 := by omega
          obtain ⟨hd1, hd2⟩ := hd
          have HS := Lib.hid (hstep.trans (shl_step hb1 hb3 hd1 hd2).symm)
          clear hstep hpow hb2 hd' ha e7
          go_wp2
          go_round
          case rel => exact ⟨k + 1, by omega, by go_num, by rw [HS.out]⟩
          case measure => simp [intOf]; omega
        · have hz : ys.take k = ys := List.take_of_length_le (by have := hl.out; omega)
          rw [hz]
          clear hz
          go_wp2
          go_ret
          exact HP
    · have hb : decide (1 ≤ n ∧ n ≤ 8) = false := by simpa using h1
      have HP : NumPost base w r (num1 zs 0 n) (.returned (.int .u64 0)) (w.setCell ⟨r, 1, none⟩ (.int .i64 1)) := by
        unfold num1; rw [if_neg (by simp), if_pos (by omega)]; exact ⟨rfl, RdTo.err h 1⟩
      have hc1 := h.cell1
      have hf := h.free 1
      go_enter Tryd.func38, Tryd.ntmps38
      go_wp2_with (first
        | (go_at_call 45; refine (reads_any h).mono ?_; rintro e w' ⟨rfl, rfl⟩)
        | (go_at_call 41; refine (sizeMay_any _ _).mono ?_; rintro e w' ⟨rfl, rfl⟩))
      go_ret
      exact HP
  · have HP : NumPost base w r (num1 zs e n) (.returned (.int .u64 0)) w := by
      unfold num1; rw [if_pos h0]; exact ⟨rfl, RdTo.refl h⟩
    have H : (e == 0) = false := by simpa using h0
    clear h0
    go_enter Tryd.func38, Tryd.ntmps38
    go_wp2_with (go_at_call 45; refine (reads_any h).mono ?_; rintro e w' ⟨rfl, rfl⟩)
    go_ret
    exact HP

end Go.Proofs.YtogaakokplobaaaDoor
