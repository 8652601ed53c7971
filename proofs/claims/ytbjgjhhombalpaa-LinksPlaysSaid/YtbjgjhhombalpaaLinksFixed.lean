/-
  The chapter's examples.
-/
import Derived.Test.YtbjgjhhombalpaaLinksRefPut
import Derived.Test.YtbjgjhhombalpaaLinksRefSweep
namespace Go.Proofs.Ytbjgjhhombalpaa
open Go.RowKit

def tA : ByteArray := ⟨#[97]⟩
def tB : ByteArray := ⟨#[98]⟩
def tC : ByteArray := ⟨#[99]⟩
theorem fx1 : internS [] tA = ([tA], 1, 0) := by decide
theorem fx2 : internS [tA] tB = ([tA, tB], 2, 0) := by decide
theorem fx3 : sweepS [tA, tB] [2] = [eT, tB] := by decide
theorem fx4 : internS [eT, tB] tC = ([tC, tB], 1, 0) := by decide
set_option maxHeartbeats 1600000 in
theorem fixedT_any (w : World) : Calls Try.prog 8 #[] w fun e w' => e = .returned (.bool true) ∧ Below w.heap.size w w' := by
  go_enter Try.func8, Try.ntmps8
  go_wp2_with fail
  refine (intern_any (Vs.nil w none) tA (by omega) (by omega) (by decide)).mono ?_
  rw [fx1]
  rintro e w1 ⟨v, rfl, hb1, A1, c1, rfl, hT⟩
  have H1 := Lib.hid (And.intro hT hb1)
  clear hT hb1
  go_wp2_with fail
  refine (intern_any H1.out.1.vs tB (by decide) H1.out.1.le (by decide)).mono ?_
  rw [fx2]
  rintro e w2 ⟨v, rfl, hb2, A2, c2, rfl, hT⟩
  have H2 := Lib.hid (And.intro hT (H1.out.2.trans (hb2.mono H1.out.2.size)))
  clear hT hb2 H1
  go_wp2_with fail
  refine (sweep_any (us := [2]) (H2.out.1.vs.alloc _) (Ik.one .u16 w2 _ 2) (by simp) (by decide) (by decide)).mono ?_
  rw [fx3]
  rintro e w3 ⟨v, rfl, hb3, A3, c3, rfl, hT⟩
  have H3 := Lib.hid (And.intro hT ((H2.out.2.alloc H2.out.2.size _).trans (hb3.mono (by have := H2.out.2.size; simp; omega))))
  clear hT hb3 H2
  obtain ⟨g, rfl, _, _, _⟩ := H3.out.1.blk (by decide)
  have a0 : w3.cell? ⟨g, 0, none⟩ = some (.string ⟨#[]⟩) := by have := H3.out.1.vs.str (k := 0) (by decide); rwa [addHead] at this
  have a1 : w3.cell? ⟨g, 1, none⟩ = some (.string ⟨#[98]⟩) := by have := H3.out.1.vs.str (k := 1) (by decide); rwa [addHead] at this
  go_wp2_with fail
  refine (intern_any H3.out.1.vs tC (by decide) H3.out.1.le (by decide)).mono ?_
  rw [fx4]
  rintro e w4 ⟨v, rfl, hb4, A4, c4, rfl, hT⟩
  have H4 := Lib.hid (H3.out.2.trans (hb4.mono H3.out.2.size))
  clear hT hb4 H3
  go_wp2_with fail
  go_ret
  exact ⟨rfl, H4.out⟩
end Go.Proofs.Ytbjgjhhombalpaa
