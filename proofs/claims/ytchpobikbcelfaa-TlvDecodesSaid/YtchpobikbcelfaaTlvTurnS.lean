/-
  The contract of the reference's Turn: it ends, and writes over bytes and flags in blocks of the kind alone. (As TlvTurn, over TlvAlikeS.)
-/
import Derived.Test.YtchpobikbcelfaaTlvAlikeS
import Derived.Test.YtchpobikbcelfaaTlvSame
import Derived.StillTailTactics
import Derived.Maps.RangeWalk
namespace Go.Proofs.Ytchpobikbcelfaa
open Go.RowKit

theorem Alike.slice {base : Nat → Prop} {w w' : World} (h : Alike base w w') {a : Addr} {A : Option Addr} {n c : Nat} (hc : w.cell? a = some (.slice A n c)) : w'.cell? a = some (.slice A n c) := by
  obtain ⟨v, h1, h2⟩ := h.cell _ _ hc
  rcases h2 with rfl | ⟨_, _, e, _⟩ | ⟨_, _, e, _⟩
  · exact h1
  · cases e
  · cases e
theorem Alike.flag {base : Nat → Prop} {w w' : World} (h : Alike base w w') {a : Addr} {b : Bool} (hc : w.cell? a = some (.bool b)) : ∃ b', w'.cell? a = some (.bool b') := by
  obtain ⟨v, h1, h2⟩ := h.cell _ _ hc
  rcases h2 with rfl | ⟨_, _, e, _⟩ | ⟨_, b', _, rfl⟩
  · exact ⟨b, h1⟩
  · cases e
  · exact ⟨b', h1⟩
theorem Fr.at {base : Nat → Prop} {w : World} {a : Addr} {v : Value} (h : Fr base w a.block) (hc : w.cell? a = some v) : w.frozen? a = false := by
  obtain ⟨b, o, s⟩ := a
  have e : s = none := by
    cases s with
    | none => rfl
    | some x => unfold World.cell? at hc; split at hc <;> simp at hc
  subst e
  exact h.2 o

theorem u8_in (z : Int) : 0 ≤ IntKind.u8.wrap z ∧ IntKind.u8.wrap z ≤ 255 := by
  have h1 : IntKind.u8.wrap z = z % 256 := rfl
  rw [h1]
  omega

theorem turn_none {w : World} {A : Option Addr} {c : Nat} {base : Nat → Prop} : Calls Try.prog 20 #[.slice A 0 c] w fun e w' => e = .returned (.tuple #[]) ∧ Alike base w w' := by
  go_enter Try.func20, Try.ntmps20
  go_wp2_with fail
  go_loopw [6] (fun i wr => i = .int .i64 (0 : Nat) ∧ wr = w) (fun _ _ => 0)
  case atStart => exact ⟨rfl, rfl⟩
  case round =>
    obtain ⟨rfl, rfl⟩ := hrel
    go_wp2_with fail
    go_end0
    exact ⟨rfl, Alike.refl _ _⟩

set_option maxRecDepth 100000 in
set_option maxHeartbeats 2000000 in
theorem turn_any (base : Nat → Prop) (d : Nat) : ∀ (w : World) (A : Option Addr) (n c : Nat) (l : List It), Its w (Fr base w) d A n c l →
    Calls Try.prog 20 #[.slice A n c] w fun e w' => e = .returned (.tuple #[]) ∧ Alike base w w' := by
  induction d with
  | zero =>
    intro w A n c l hi
    obtain ⟨rfl, _⟩ := hi
    exact turn_none
  | succ d ih =>
    intro w A n c l hi
    have IH := Lib.hid ih
    have H := Lib.hid hi
    have hmax : n ≤ 9223372036854775807 := hi.max
    clear ih hi
    go_enter Try.func20, Try.ntmps20
    go_wp2_with fail
    go_loopw [6] (fun i wr => ∃ k : Nat, k ≤ n ∧ i = .int .i64 k ∧ Alike base w wr) (fun i _ => n - (intOf i).toNat)
    case atStart => exact ⟨0, Nat.zero_le _, rfl, Alike.refl _ _⟩
    case round =>
      obtain ⟨k, hk, rfl, hal⟩ := hrel
      obtain ⟨wo, rfl⟩ : ∃ wo, wo = wr := ⟨_, rfl⟩
      have HA := Lib.hid hal
      clear hal
      by_cases hlt : k < n
      · obtain ⟨l', hi'⟩ := H.out.alike HA.out
        obtain ⟨x, hx⟩ : ∃ x, l'[k]? = some x := ⟨_, List.getElem?_eq_getElem (by rw [hi'.len]; exact hlt)⟩
        obtain ⟨ad, B, bn, bc, C, cn, cc, rfl, hS, hblt, hat⟩ := hi'.get hx
        have h3 := hat.c3
        have hbn : bn ≤ 140737488355328 := by have := hat.b.lt; omega
        have X := Lib.hid (And.intro hat hS)
        have hkl : (k : Int) < (n : Int) := by omega
        clear hi' hx hS hblt hat
        go_wp2_with fail
        go_loopw [15] (fun i wi => ∃ j : Nat, j ≤ bn ∧ i = .int .i64 j ∧ Alike base wo wi) (fun i _ => bn - (intOf i).toNat)
        case atStart => exact ⟨0, Nat.zero_le _, rfl, Alike.refl _ _⟩
        case round =>
          clear h3
          obtain ⟨j, hj, rfl, hal2⟩ := hrel
          obtain ⟨wi, rfl⟩ : ∃ wi, wi = wr := ⟨_, rfl⟩
          have HB := Lib.hid hal2
          clear hal2
          have h3 := HB.out.slice X.out.1.c3
          by_cases hjt : j < bn
          · obtain ⟨zs', hz⟩ := X.out.1.b.alike HB.out
            obtain ⟨adb, rfl, hblt, hcz⟩ := hz.sb.at_ (by omega)
            have hfz := hz.at_ adb rfl (by omega)
            have hc0 := hcz j hjt
            obtain ⟨z, hzz⟩ : ∃ z, z = zs'.getD j 0 := ⟨_, rfl⟩
            rw [← hzz] at hc0
            have hfz2 : Fr base wi (adb.add j).block := by rw [addBlock]; exact hfz
            have hjl : (j : Int) < (bn : Int) := by omega
            have gc : wi.drew.cell? (adb.add j) = some (.int .u8 z) := hc0
            have gf : wi.drew.frozen? (adb.add j) = false := hfz2.at hc0
            have GA := Lib.hid (show Alike base wo wi.drew ∧ base (adb.add j).block from ⟨HB.out.drew, hfz2.1⟩)
            clear hz hcz hfz hfz2 hzz hblt
            go_wp2_with fail
            go_still_tail 16, (by kernel_rfl)
            change wpList _ _ _ _ _ wi.drew
            generalize wi.drew = w2 at gc gf GA ⊢
            go_wp2_with fail
            go_roundw
            case rel => exact ⟨j + 1, by omega, by go_num, GA.out.1.trans (Alike.set gc (.inr (.inl ⟨_, _, rfl, rfl, u8_in _⟩)) GA.out.2)⟩
            case measure => simp [intOf]; omega
          · have c4 := HB.out.slice X.out.1.c4
            have HI := Lib.hid (show ∃ i', Its wi (Fr base wi) d C cn cc i' from X.out.1.i.alike HB.out)
            clear h3
            go_wp2_with fail
            obtain ⟨i', hi'⟩ := HI.out
            refine (IH.out _ _ _ _ _ hi').mono ?_
            rintro e w2 ⟨rfl, hal3⟩
            have GB := HB.out.trans hal3
            obtain ⟨b', g1⟩ := GB.flag X.out.1.c1
            have gfr : w2.frozen? ⟨(ad.add (k * 5)).block, (ad.add (k * 5)).off + 1, none⟩ = false := (GB.free _).trans (Fr.at (base := base) (by rw [addBlock]; exact X.out.2) X.out.1.c1)
            have GC := Lib.hid GB
            clear hal3 GB hi' c4
            go_wp2_with fail
            go_roundw
            case rel => exact ⟨k + 1, by omega, by go_num, (HA.out.trans GC.out).trans (Alike.set g1 (.inr (.inr ⟨_, _, rfl, rfl⟩)) (by rw [addBlock]; exact X.out.2.1))⟩
            case measure => simp [intOf]; omega
      · go_wp2_with fail
        go_end0
        exact ⟨rfl, HA.out⟩

end Go.Proofs.Ytchpobikbcelfaa
