/-
  How many bytes and parts: the law's measure of what it is handed.
-/
import Derived.Test.YtfkfhcpmoghlfaaDoorShaParts
namespace Go.Proofs.YtfkfhcpmoghlfaaDoor
open Go.RowKit

theorem Ps.below {w w' : World} {A : Option Addr} {n : Nat} {L : List (List Int)} (h : Ps w A n L) (hb : Below w.heap.size w w') : Ps w' A n L := by
  refine ⟨h.len, fun hn => ?_⟩
  obtain ⟨ad, h1, h2, h3⟩ := h.at_ hn
  refine ⟨ad, h1, Nat.lt_of_lt_of_le h2 hb.size, fun k hk => ?_⟩
  obtain ⟨A', m, c', e1, e2, e3⟩ := h3 k hk
  exact ⟨A', m, c', (hb.cell (p := ad.add k) (by rw [addBlock]; exact h2)).trans e1, e2.below hb, e3⟩

theorem flat_take {L : List (List Int)} {k : Nat} (hk : k < L.length) : (L.take (k + 1)).flatten.length = (L.take k).flatten.length + (L.getD k []).length := by
  rw [List.take_succ_eq_append_getElem hk, List.flatten_append]
  simp [List.getD, List.getElem?_eq_getElem hk]

set_option maxRecDepth 100000 in
set_option maxHeartbeats 800000 in
theorem size_any {A : Option Addr} {n c : Nat} {L : List (List Int)} (w : World) (hp : Ps w A n L) (hn : n ≤ 140737488351232) (hl : ∀ l ∈ L, l.length ≤ 140737488351232) :
    Calls Tryd.prog 7 #[.slice A n c] w fun e w' => (∃ r : Int, e = .returned (.int .i64 r) ∧ (r ≤ 16384 → n ≤ 16384 ∧ L.flatten.length ≤ 16384)) ∧ w' = w := by
  have H := Lib.hid (And.intro hp hl)
  clear hp hl
  go_enter Tryd.func7, Tryd.ntmps7
  go_wp2_with fail
  go_loopw [3, 7] (fun v3 i wr => ∃ (k s : Nat), k ≤ n ∧ s ≤ 16384 ∧ i = .int .i64 k ∧ v3 = .int .i64 s ∧ s = k + (L.take k).flatten.length ∧ wr = w) (fun _ i _ => n - (intOf i).toNat)
  case atStart => exact ⟨0, 0, Nat.zero_le _, by omega, rfl, rfl, rfl, rfl⟩
  case round =>
    obtain ⟨k, s, hk, hs, rfl, rfl, he, rfl⟩ := hrel
    have HE := Lib.hid he
    clear he
    by_cases hlt : k < n
    · have hkl : (k : Int) < (n : Int) := by omega
      obtain ⟨ad, rfl, hblt, hel⟩ := H.out.1.at_ (by omega)
      obtain ⟨A', m', c', hc, hsb, hmc, hcm, hb8⟩ := hel k hlt
      have hkL : k < L.length := by rw [H.out.1.len]; exact hlt
      have hm : m' ≤ 140737488351232 := by
        rw [← hsb.len]
        refine H.out.2 _ ?_
        rw [List.getD, List.getElem?_eq_getElem hkL]
        exact List.getElem_mem hkL
      have XL := Lib.hid (show s + (1 + m') = (k + 1) + (L.take (k + 1)).flatten.length from by rw [flat_take hkL, hsb.len, HE.out]; omega)
      clear hsb hb8 hel hblt hkL
      by_cases hbig : (16384 : Int) < (s : Int) + (1 + (m' : Int))
      · go_wp2_with fail
        go_ret
        exact ⟨⟨_, rfl, fun h => by omega⟩, rfl⟩
      · go_wp2_with fail
        go_roundw
        case rel => exact ⟨k + 1, s + (1 + m'), by omega, by omega, by go_num, by go_num, XL.out, trivial⟩
        case measure => simp [intOf]; omega
    · go_wp2_with fail
      go_ret
      refine ⟨⟨_, rfl, fun _ => ?_⟩, rfl⟩
      have e : L.take k = L := List.take_of_length_le (by rw [H.out.1.len]; omega)
      have h1 := HE.out
      rw [e] at h1
      omega

end Go.Proofs.YtfkfhcpmoghlfaaDoor
