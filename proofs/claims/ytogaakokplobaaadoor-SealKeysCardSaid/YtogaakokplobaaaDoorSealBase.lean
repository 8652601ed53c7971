/-
  The contracts of Base: the key of beginnings.
-/
import Derived.Test.YtogaakokplobaaaDoorSealFixed
import Derived.Test.YtogaakokplobaaaDoorMacDerive
import Derived.Test.YtogaakokplobaaaDoorMacRefTold
namespace Go.Proofs.YtogaakokplobaaaDoor
open Go.RowKit

def sHello : ByteArray := ⟨#[104, 101, 108, 108, 111]⟩
def baseS (key : List Int) : List Int := macS key (toldS (strL sHello) [])

set_option maxHeartbeats 1600000 in
theorem base_any {A : Option Addr} {n c : Nat} {key : List Int} (w : World) (hr : Roots w) (hk : Sb w A n key) (h8 : B8s key) (hc : n ≤ c ∧ c ≤ 9223372036854775807) (hn : n ≤ 1125899906842) :
    Calls Tryd.prog 19 #[.slice A n c] w fun e w' => e = .returned (.agg (u8A (baseS key))) ∧ Below w.heap.size w w' := by
  have b0 : Below w.heap.size w (w.alloc (.cells (u8A (List.replicate 32 0)) 46)) := (Below.refl _ _).alloc (Nat.le_refl _) _
  have HC := Lib.hid (derive_any (c := c) (d := 0) (s := sHello) _ (hr.below b0) (hk.below b0) h8 hc hn (Ps.zero _) (by decide) (by simp))
  have HR := Lib.hid (show (baseS key).length = 32 from macS_len _ _)
  have X0 := Lib.hid (show Blk (w.alloc (.cells (u8A (List.replicate 32 0)) 46)) w.heap.size 46 (u8A (List.replicate 32 0)) ∧ Below w.heap.size w (w.alloc (.cells (u8A (List.replicate 32 0)) 46)) from ⟨Blk.new _ _ _, b0⟩)
  clear hr hk h8 hc hn b0
  go_enter Tryd.func19, Tryd.ntmps19
  go_wp2_with fail
  refine HC.out.mono ?_
  rintro e w1 ⟨rfl, hb1⟩
  have X1 := Lib.hid (show Blk w1 w.heap.size 46 (u8A (List.replicate 32 0)) ∧ Below w.heap.size w w1 from ⟨X0.out.1.below hb1 X0.out.1.lt, X0.out.2.trans (hb1.mono X0.out.2.size)⟩)
  clear hb1 HC X0
  obtain ⟨r, hr⟩ : ∃ r, r = baseS key := ⟨_, rfl⟩
  rw [show macS key (toldS (strL sHello) []) = r from hr.symm]
  rw [← hr] at HR
  have HE := Lib.hid hr
  clear hr
  go_wp2_with (refine wpList_store_row rfl 46 (.tmp 2) (.tmp 4) rfl w.heap.size (u8A r) rfl rfl 46 (u8A (List.replicate 32 0)) X1.out.1 (by rw [u8A_size, HR.out]; exact info32) (by rw [u8A_size, u8A_size, HR.out]; simp) (u8A_one _) ?_)
  refine bodyPost_ret (v := .agg (u8A r)) (results_cell_row Tryd.results19 _ _ w.heap.size 46 _ (0, 0) _ rfl (X1.out.1.setRow _) Tryd.underlying46 rfl (by rw [u8A_size, HR.out]; exact info32)) rfl ⟨by rw [HE.out], below_setRow X1.out.2 (Nat.le_refl _) _⟩

set_option maxHeartbeats 1600000 in
theorem refBase_any {A : Option Addr} {n c : Nat} {key : List Int} (w : World) (hk : Sb w A n key) (h8 : B8s key) (hc : n ≤ c ∧ c ≤ 9223372036854775807) (hn : n ≤ 1125899906842) :
    Calls Tryd.prog 20 #[.slice A n c] w fun e w' => e = .returned (.agg (u8A (baseS key))) ∧ Below w.heap.size w w' := by
  have b0 : Below w.heap.size w (w.alloc (.cells (u8A (List.replicate 32 0)) 46)) := (Below.refl _ _).alloc (Nat.le_refl _) _
  have HC := Lib.hid (refDerive_any (c := c) (d := 0) (s := sHello) _ (hk.below b0) h8 hc hn (Ps.zero _) (fun _ h => by cases h) (by decide) (by simp))
  have HR := Lib.hid (show (baseS key).length = 32 from macS_len _ _)
  have X0 := Lib.hid (show Blk (w.alloc (.cells (u8A (List.replicate 32 0)) 46)) w.heap.size 46 (u8A (List.replicate 32 0)) ∧ Below w.heap.size w (w.alloc (.cells (u8A (List.replicate 32 0)) 46)) from ⟨Blk.new _ _ _, b0⟩)
  clear hk h8 hc hn b0
  go_enter Tryd.func20, Tryd.ntmps20
  go_wp2_with fail
  refine HC.out.mono ?_
  rintro e w1 ⟨rfl, hb1⟩
  have X1 := Lib.hid (show Blk w1 w.heap.size 46 (u8A (List.replicate 32 0)) ∧ Below w.heap.size w w1 from ⟨X0.out.1.below hb1 X0.out.1.lt, X0.out.2.trans (hb1.mono X0.out.2.size)⟩)
  clear hb1 HC X0
  obtain ⟨r, hr⟩ : ∃ r, r = baseS key := ⟨_, rfl⟩
  rw [show macS key (toldS (strL sHello) []) = r from hr.symm]
  rw [← hr] at HR
  have HE := Lib.hid hr
  clear hr
  go_wp2_with (refine wpList_store_row rfl 46 (.tmp 2) (.tmp 4) rfl w.heap.size (u8A r) rfl rfl 46 (u8A (List.replicate 32 0)) X1.out.1 (by rw [u8A_size, HR.out]; exact info32) (by rw [u8A_size, u8A_size, HR.out]; simp) (u8A_one _) ?_)
  refine bodyPost_ret (v := .agg (u8A r)) (results_cell_row Tryd.results20 _ _ w.heap.size 46 _ (0, 0) _ rfl (X1.out.1.setRow _) Tryd.underlying46 rfl (by rw [u8A_size, HR.out]; exact info32)) rfl ⟨by rw [HE.out], below_setRow X1.out.2 (Nat.le_refl _) _⟩

/-- An epoch's keys, one behind the other, as they are built. -/
theorem infoK : (Tryd.prog.info? 49).map (fun i => i.zero) = some (some (.agg (u8A (List.replicate 64 0)))) := by kernel_rfl
theorem built_keys (l1 l2 : List Int) (h1 : l1.length = 32) (h2 : l2.length = 32) : Tryd.prog.built 49 [(0, .agg (u8A l1)), (1, .agg (u8A l2))] = some (u8A (l1 ++ l2)) := by
  obtain ⟨it, hit, hz⟩ := Option.map_eq_some_iff.1 infoK
  obtain ⟨ie, hie, hs⟩ := Option.map_eq_some_iff.1 (show (Tryd.prog.info? 46).map (·.size) = some 32 from info32)
  unfold Program.built
  simp only [hit, Tryd.underlying49, hz, hie, hs, Instr.fill, Value.cells, u8A_size, h1, h2, List.mapM_cons, List.mapM_nil, Option.map_some, Option.bind_eq_bind, Option.bind_some, Option.pure_def, List.getElem?_toArray, List.getElem?_cons_zero, List.getElem?_cons_succ]
  rw [fill8 0 l1 _ (by simp [h1])]
  rw [fill8 32 l2 _ (by simp [h1, h2])]
  have e : ∀ X : List Int, X.length = 64 → X.take 32 = l1 → X.take 32 ++ l2 ++ X.drop (32 + l2.length) = l1 ++ l2 := fun X hX hT => by
    rw [hT, List.drop_eq_nil_of_le (by omega), List.append_nil]
  rw [e _ (by simp [h1]) (by rw [h1, List.take_zero, List.nil_append, List.take_append_of_le_length (by omega), List.take_of_length_le (by omega)]), u8A_size]
  simp [h1]
end Go.Proofs.YtogaakokplobaaaDoor
