/-
  utf.Valid over utf8.Valid.
-/
import Derived.Test.YtpikbekcdbfdhaaDoorUtfVald
namespace Go.Proofs.YtpikbekcdbfdhaaDoor
open Go.RowKit

theorem utfValid_any {w : World} {A : Option Addr} {n c : Nat} {zs : List Int} (hT : Tabs w) (hs : Sb w A n zs) (h8 : U8s zs) (hc : n ≤ c) (hn : n ≤ 100000) :
    Calls Tryd.prog 19 #[.slice A n c] w fun e w' => e = .returned (.bool (validS zs)) ∧ Below w.heap.size w w' := by
  have H := Lib.hid (valid8_any hT hs h8 hc hn)
  clear hT hs h8 hc hn
  obtain ⟨V, hV⟩ : ∃ V, validS zs = V := ⟨_, rfl⟩
  rw [hV] at H ⊢
  go_enter Tryd.func19, Tryd.ntmps19
  go_wp2_with fail
  refine H.out.mono ?_
  rintro e w1 ⟨rfl, hb1⟩
  go_wp2_with fail
  go_ret
  exact ⟨rfl, hb1⟩
end Go.Proofs.YtpikbekcdbfdhaaDoor
