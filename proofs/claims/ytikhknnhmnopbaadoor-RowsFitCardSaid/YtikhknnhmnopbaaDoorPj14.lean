/-
  Part 14 of what the laws of emul want: EmulScreen, LinksIdx.
-/
import Derived.LoopTactic
import Derived.Test.YtikhknnhmnopbaaDoorPj11
import Derived.Test.YtikhknnhmnopbaaDoorPj12
import Derived.Test.YtikhknnhmnopbaaDoorPj13
namespace Go.Proofs.YtikhknnhmnopbaaDoor
open Go.RowKit
section
variable {B : Nat} {w : World} {g : Nat} {x : CT} {A : Option Addr} {n c : Nat} {ps : List Int}
def scA (t : Tm) (ttl : ByteArray) (A : Option Addr) (n c : Nat) (A' : Option Addr) (m c' : Nat) : Array Value := #[.int .i64 t.c, .int .i64 t.r, .slice A n c, .int .i64 t.now.x, .int .i64 t.now.y, .bool t.hid, .int .u8 t.mouse, .string ttl, .slice A' m c']
def ScPost (x : CT) (w : World) (e : Ending) (w' : World) : Prop :=
 Below w.heap.size w w' ∧ ∃ A c A' c', e = .returned (.agg (scA x.t x.ttl A (canonC x.t.shown.flatten x.t.table).length c A' (canonL x.t.shown.flatten x.t.table).length c')) ∧ Cx w.heap.size w' A (canonC x.t.shown.flatten x.t.table).length c (canonC x.t.shown.flatten x.t.table) ∧ Tx w.heap.size w' A' (canonL x.t.shown.flatten x.t.table).length c' (canonL x.t.shown.flatten x.t.table)
theorem Cz.table (h : Cz B w g x) : w.cell? ⟨g, 110, none⟩ = some (.slice x.bA x.bN x.bK) ∧ w.cell? ⟨g, 109, none⟩ = some (.string x.ttl) := by
 have hl : (ctH x).length = 29 := rfl
 have hm : (x.t.tabs.map Value.bool).length = 80 := by rw [List.length_map]; exact h.ok.tabs
 constructor
 · refine h.cell ?_
   rw [ctV_is, List.getElem?_append_right (by rw [hl]; omega), List.getElem?_append_right (by rw [hl, hm]; omega), hl, hm]
   rfl
 · refine h.cell ?_
   rw [ctV_is, List.getElem?_append_right (by rw [hl]; omega), List.getElem?_append_right (by rw [hl, hm]; omega), hl, hm]
   rfl
def scZ : Array Value := #[.int .i64 0, .int .i64 0, .slice none 0 0, .int .i64 0, .int .i64 0, .bool false, .int .u8 0, .string ⟨#[]⟩, .slice none 0 0]
theorem scA_one (t : Tm) (ttl : ByteArray) (A : Option Addr) (n c : Nat) (A' : Option Addr) (m c' : Nat) : (scA t ttl A n c A' m c').all (·.oneCell') = true := by
 rw [Array.all_eq_true_iff_forall_mem]
 intro v hv
 simp only [scA, List.mem_toArray, List.mem_cons, List.not_mem_nil, or_false] at hv
 rcases hv with rfl | rfl | rfl | rfl | rfl | rfl | rfl | rfl | rfl <;> rfl
theorem info56 : (Tryd.prog.info? 25).map (·.size) = some 9 := by kernel_rfl
set_option maxRecDepth 100000 in
set_option maxHeartbeats 1600000 in
theorem screen_any (h : Cz B w g x) (hlk : ∀ ce ∈ x.t.shown.flatten, 0 ≤ ce.p.lk ∧ ce.p.lk ≤ 65535) : Calls Tryd.prog 38 #[.pointer (some ⟨g, 0, none⟩)] w (ScPost x w) := by
 have HZ := Lib.hid h
 have HS := Lib.hid (fun w' (hb : Below w.heap.size w w') => shown_any (h.below hb))
 have HC := Lib.hid (show ∀ w', Below w.heap.size w w' → Calls Tryd.prog 67 #[.slice (some ⟨x.sb, 0, none⟩) x.sN x.sK, .slice x.bA x.bN x.bK] w' (CnPost (canonC x.t.shown.flatten x.t.table) (canonL x.t.shown.flatten x.t.table) w') from fun w' hb => by
  obtain ⟨h1, h2, h3⟩ := (HZ.out.below hb).sv
  have h4 := (HZ.out.below hb).b
  exact canon_any h1 h4.vs hlk (fun s hs => by have := HZ.out.bs s hs; omega) (by omega) (by have := HZ.out.ok.tbl; have := h4.len; omega))
 clear h hlk
 obtain ⟨w1, hw1⟩ : ∃ w1, w1 = w.alloc (.cells scZ 25) := ⟨_, rfl⟩
 have H1 := Lib.hid (show Below w.heap.size w w1 ∧ w1.heap[w.heap.size]? = some (.cells scZ 25 (0, 0)) ∧ w.heap.size < w1.heap.size from by rw [hw1]; exact ⟨(Below.refl _ _).alloc (Nat.le_refl _) _, heap_alloc_new w _, by simp⟩)
 go_enter Tryd.func38, Tryd.ntmps38
 unfold scZ at hw1
 go_upto_region 1 with fail
 rw [← hw1]
 clear hw1
 go_wp2_with fail
 refine (HS.out w1 H1.out.1).mono ?_
 rintro e w2 ⟨rfl, hw2⟩
 obtain rfl := hw2.symm
 clear hw2
 go_wp2_with fail
 have Z1 := HZ.out.below H1.out.1
 obtain ⟨_, _, s2⟩ := Z1.sh
 have c110 := Z1.table.1
 clear Z1
 refine wp_region_noPanic ?_
 refine wp_region_held_drew (S := fun w' => Below w1.heap.size w1 w' ∧ w'.cell? ⟨g, x.so + 2, none⟩ = some (.slice (some ⟨x.sb, 0, none⟩) x.sN x.sK) ∧ w'.cell? ⟨g, 110, none⟩ = some (.slice x.bA x.bN x.bK)) (by kernel_rfl) (⟨(Below.refl _ _).drew, s2, c110⟩) (fun hHeld => ?_)
 clear s2 c110
 have HD := Lib.hid (show Below w1.heap.size w1 w1.drew from (Below.refl _ _).drew)
 generalize w1.drew = w2 at HD hHeld ⊢
 refine wpAnyH_take (i := 0) (v := .pointer (some ⟨g, x.so, none⟩)) rfl (by kernel_rfl) (by kernel_rfl) (by kernel_rfl) (fun _ _ _ h => h) (Or.inl ⟨by rfl, fun wz hSz => ?_⟩) hHeld ?_
 · go_simp
 simp only [Act.put, List.getElem_toArray, List.getElem_cons_zero]
 try simp only [List.setIfInBounds_toArray]
 try simp only [List.set_cons_succ]
 try simp only [List.set_cons_zero]
 refine wpAnyH_take (i := 1) (v := .pointer (some ⟨g, x.so, none⟩)) rfl (by kernel_rfl) (by kernel_rfl) (by kernel_rfl) (fun _ _ _ h => h) (Or.inl ⟨by rfl, fun wz hSz => ?_⟩) hHeld ?_
 · go_simp
 simp only [Act.put, List.getElem_toArray, List.getElem_cons_succ, List.getElem_cons_zero]
 try simp only [List.setIfInBounds_toArray]
 try simp only [List.set_cons_succ]
 try simp only [List.set_cons_zero]
 refine wpAnyH_take (i := 2) (v := .pointer (some ⟨g, x.so + 2, none⟩)) rfl (by kernel_rfl) (by kernel_rfl) (by kernel_rfl) (fun _ _ _ h => h) (Or.inl ⟨by rfl, fun wz hSz => ?_⟩) hHeld ?_
 · go_simp
 simp only [Act.put, List.getElem_toArray, List.getElem_cons_succ, List.getElem_cons_zero]
 try simp only [List.setIfInBounds_toArray]
 try simp only [List.set_cons_succ]
 try simp only [List.set_cons_zero]
 refine wpAnyH_take (i := 3) (v := .slice (some ⟨x.sb, 0, none⟩) x.sN x.sK) rfl (by kernel_rfl) (by kernel_rfl) (by kernel_rfl) (fun _ _ _ h => h) (Or.inl ⟨by rfl, fun wz hSz => ?_⟩) hHeld ?_
 · obtain ⟨_, d1, d2⟩ := hSz
   go_simp
 simp only [Act.put, List.getElem_toArray, List.getElem_cons_succ, List.getElem_cons_zero]
 try simp only [List.setIfInBounds_toArray]
 try simp only [List.set_cons_succ]
 try simp only [List.set_cons_zero]
 refine wpAnyH_take (i := 4) (v := .pointer (some ⟨g, 0, none⟩)) rfl (by kernel_rfl) (by kernel_rfl) (by kernel_rfl) (fun _ _ _ h => h) (Or.inl ⟨by rfl, fun wz hSz => ?_⟩) hHeld ?_
 · go_simp
 simp only [Act.put, List.getElem_toArray, List.getElem_cons_succ, List.getElem_cons_zero]
 try simp only [List.setIfInBounds_toArray]
 try simp only [List.set_cons_succ]
 try simp only [List.set_cons_zero]
 refine wpAnyH_take (i := 5) (v := .pointer (some ⟨g, 0, none⟩)) rfl (by kernel_rfl) (by kernel_rfl) (by kernel_rfl) (fun _ _ _ h => h) (Or.inl ⟨by rfl, fun wz hSz => ?_⟩) hHeld ?_
 · go_simp
 simp only [Act.put, List.getElem_toArray, List.getElem_cons_succ, List.getElem_cons_zero]
 try simp only [List.setIfInBounds_toArray]
 try simp only [List.set_cons_succ]
 try simp only [List.set_cons_zero]
 refine wpAnyH_take (i := 6) (v := .pointer (some ⟨g, 1, none⟩)) rfl (by kernel_rfl) (by kernel_rfl) (by kernel_rfl) (fun _ _ _ h => h) (Or.inl ⟨by rfl, fun wz hSz => ?_⟩) hHeld ?_
 · go_simp
 simp only [Act.put, List.getElem_toArray, List.getElem_cons_succ, List.getElem_cons_zero]
 try simp only [List.setIfInBounds_toArray]
 try simp only [List.set_cons_succ]
 try simp only [List.set_cons_zero]
 refine wpAnyH_take (i := 7) (v := .pointer (some ⟨g, 110, none⟩)) rfl (by kernel_rfl) (by kernel_rfl) (by kernel_rfl) (fun _ _ _ h => h) (Or.inl ⟨by rfl, fun wz hSz => ?_⟩) hHeld ?_
 · go_simp
 simp only [Act.put, List.getElem_toArray, List.getElem_cons_succ, List.getElem_cons_zero]
 try simp only [List.setIfInBounds_toArray]
 try simp only [List.set_cons_succ]
 try simp only [List.set_cons_zero]
 refine wpAnyH_take (i := 8) (v := .slice x.bA x.bN x.bK) rfl (by kernel_rfl) (by kernel_rfl) (by kernel_rfl) (fun _ _ _ h => h) (Or.inl ⟨by rfl, fun wz hSz => ?_⟩) hHeld ?_
 · obtain ⟨_, d1, d2⟩ := hSz
   go_simp
 simp only [Act.put, List.getElem_toArray, List.getElem_cons_succ, List.getElem_cons_zero]
 try simp only [List.setIfInBounds_toArray]
 try simp only [List.set_cons_succ]
 try simp only [List.set_cons_zero]
 refine wpAnyH_ready (rs := [9]) (by kernel_rfl) (by simp) (AllReadyH.cons rfl (fun K hK => ?_) AllReadyH.nil)
 rw [if_pos (by rfl)]
 go_simp
 refine (HC.out w2 (H1.out.1.trans (HD.out.mono H1.out.1.size))).mono ?_
 rintro e w3 ⟨hb, A1, c1, A2, c2, rfl, hcx, htx⟩
 have hb3 := HD.out.trans (hb.mono HD.out.size)
 have W3 := Lib.hid (And.intro hb3 (And.intro hcx htx))
 have Z3 := Lib.hid (HZ.out.below (H1.out.1.trans (hb3.mono H1.out.1.size)))
 clear hb hb3 hcx htx
 refine hK.out _ _ (⟨W3.out.1, Z3.out.sh.2.2, Z3.out.table.1⟩) (fun hHeld => ?_)
 clear hK K
 try simp only [Act.put, List.getElem_toArray, List.getElem_cons_succ, List.getElem_cons_zero]
 try simp only [List.setIfInBounds_toArray]
 try simp only [List.set_cons_succ]
 try simp only [List.set_cons_zero]
 refine wpAnyH_take (i := 10) (v := .tuple #[.slice A1 (canonC x.t.shown.flatten x.t.table).length c1, .slice A2 (canonL x.t.shown.flatten x.t.table).length c2]) rfl (by kernel_rfl) (by kernel_rfl) (by kernel_rfl) (fun _ _ _ h => h) (Or.inl ⟨by rfl, fun wz hSz => ?_⟩) hHeld ?_
 · go_simp
 simp only [Act.put, List.getElem_toArray, List.getElem_cons_succ, List.getElem_cons_zero]
 try simp only [List.setIfInBounds_toArray]
 try simp only [List.set_cons_succ]
 try simp only [List.set_cons_zero]
 refine wpAnyH_take (i := 11) (v := .slice A1 (canonC x.t.shown.flatten x.t.table).length c1) rfl (by kernel_rfl) (by kernel_rfl) (by kernel_rfl) (fun _ _ _ h => h) (Or.inl ⟨by rfl, fun wz hSz => ?_⟩) hHeld ?_
 · go_simp
 simp only [Act.put, List.getElem_toArray, List.getElem_cons_succ, List.getElem_cons_zero]
 try simp only [List.setIfInBounds_toArray]
 try simp only [List.set_cons_succ]
 try simp only [List.set_cons_zero]
 refine wpAnyH_take (i := 12) (v := .slice A2 (canonL x.t.shown.flatten x.t.table).length c2) rfl (by kernel_rfl) (by kernel_rfl) (by kernel_rfl) (fun _ _ _ h => h) (Or.inl ⟨by rfl, fun wz hSz => ?_⟩) hHeld ?_
 · go_simp
 simp only [Act.put, List.getElem_toArray, List.getElem_cons_succ, List.getElem_cons_zero]
 try simp only [List.setIfInBounds_toArray]
 try simp only [List.set_cons_succ]
 try simp only [List.set_cons_zero]
 refine wpAnyH_take (i := 13) (v := .slice A1 (canonC x.t.shown.flatten x.t.table).length c1) rfl (by kernel_rfl) (by kernel_rfl) (by kernel_rfl) (fun _ _ _ h => h) (Or.inl ⟨by rfl, fun wz hSz => ?_⟩) hHeld ?_
 · go_simp
 simp only [Act.put, List.getElem_toArray, List.getElem_cons_succ, List.getElem_cons_zero]
 try simp only [List.setIfInBounds_toArray]
 try simp only [List.set_cons_succ]
 try simp only [List.set_cons_zero]
 refine wpAnyH_take (i := 14) (v := .slice A2 (canonL x.t.shown.flatten x.t.table).length c2) rfl (by kernel_rfl) (by kernel_rfl) (by kernel_rfl) (fun _ _ _ h => h) (Or.inl ⟨by rfl, fun wz hSz => ?_⟩) hHeld ?_
 · go_simp
 simp only [Act.put, List.getElem_toArray, List.getElem_cons_succ, List.getElem_cons_zero]
 try simp only [List.setIfInBounds_toArray]
 try simp only [List.set_cons_succ]
 try simp only [List.set_cons_zero]
 refine wpAnyH_done (by kernel_rfl) ?_ _
 refine NoPanic.normal ?_
 obtain ⟨n1, hn1⟩ : ∃ n1, n1 = (canonC x.t.shown.flatten x.t.table).length := ⟨_, rfl⟩
 obtain ⟨n2, hn2⟩ : ∃ n2, n2 = (canonL x.t.shown.flatten x.t.table).length := ⟨_, rfl⟩
 rw [← hn1, ← hn2] at W3
 rw [← hn1, ← hn2]
 have HN := Lib.hid (And.intro hn1 hn2)
 clear hn1 hn2
 go_wp2_with fail
 have HS5 := Lib.hid Z3.out
 obtain ⟨s0, s1, _⟩ := Z3.out.sh
 have t109 := Z3.out.table.2
 have e1 : w3.cell? ⟨g, 1, none⟩ = some (.int .i64 x.t.now.x) := Z3.out.cell rfl
 have e2 : w3.cell? ⟨g, 2, none⟩ = some (.int .i64 x.t.now.y) := Z3.out.cell rfl
 have e27 : w3.cell? ⟨g, 27, none⟩ = some (.bool x.t.hid) := Z3.out.cell rfl
 have e28 : w3.cell? ⟨g, 28, none⟩ = some (.int .u8 x.t.mouse) := Z3.out.cell rfl
 refine wp_region_noPanic ?_
 refine wp_region_held_drew (S := fun w' => w'.cell? ⟨g, x.so, none⟩ = some (.int .i64 x.t.c) ∧ w'.cell? ⟨g, x.so + 1, none⟩ = some (.int .i64 x.t.r) ∧ w'.cell? ⟨g, 1, none⟩ = some (.int .i64 x.t.now.x) ∧ w'.cell? ⟨g, 2, none⟩ = some (.int .i64 x.t.now.y) ∧ w'.cell? ⟨g, 27, none⟩ = some (.bool x.t.hid) ∧ w'.cell? ⟨g, 28, none⟩ = some (.int .u8 x.t.mouse) ∧ w'.cell? ⟨g, 109, none⟩ = some (.string x.ttl)) (by kernel_rfl) (⟨s0, s1, e1, e2, e27, e28, t109⟩) (fun hHeld => ?_)
 clear s0 s1 e1 e2 e27 e28 t109
 have HD3 := Lib.hid (show Below w3.heap.size w3 w3.drew from (Below.refl _ _).drew)
 generalize w3.drew = w4 at HD3 hHeld ⊢
 refine wpAnyH_take (i := 0) (v := .pointer (some ⟨g, x.so, none⟩)) rfl (by kernel_rfl) (by kernel_rfl) (by kernel_rfl) (fun _ _ _ h => h) (Or.inl ⟨by rfl, fun wz hSz => ?_⟩) hHeld ?_
 · go_simp
 simp only [Act.put, List.getElem_toArray, List.getElem_cons_zero]
 try simp only [List.setIfInBounds_toArray]
 try simp only [List.set_cons_succ]
 try simp only [List.set_cons_zero]
 refine wpAnyH_take (i := 1) (v := .pointer (some ⟨g, x.so, none⟩)) rfl (by kernel_rfl) (by kernel_rfl) (by kernel_rfl) (fun _ _ _ h => h) (Or.inl ⟨by rfl, fun wz hSz => ?_⟩) hHeld ?_
 · go_simp
 simp only [Act.put, List.getElem_toArray, List.getElem_cons_succ, List.getElem_cons_zero]
 try simp only [List.setIfInBounds_toArray]
 try simp only [List.set_cons_succ]
 try simp only [List.set_cons_zero]
 refine wpAnyH_take (i := 2) (v := .pointer (some ⟨g, x.so, none⟩)) rfl (by kernel_rfl) (by kernel_rfl) (by kernel_rfl) (fun _ _ _ h => h) (Or.inl ⟨by rfl, fun wz hSz => ?_⟩) hHeld ?_
 · go_simp
 simp only [Act.put, List.getElem_toArray, List.getElem_cons_succ, List.getElem_cons_zero]
 try simp only [List.setIfInBounds_toArray]
 try simp only [List.set_cons_succ]
 try simp only [List.set_cons_zero]
 refine wpAnyH_take (i := 3) (v := .int .i64 x.t.c) rfl (by kernel_rfl) (by kernel_rfl) (by kernel_rfl) (fun _ _ _ h => h) (Or.inl ⟨by rfl, fun wz hSz => ?_⟩) hHeld ?_
 · obtain ⟨d0, d1, d2, d3, d4, d5, d6⟩ := hSz
   go_simp
 simp only [Act.put, List.getElem_toArray, List.getElem_cons_succ, List.getElem_cons_zero]
 try simp only [List.setIfInBounds_toArray]
 try simp only [List.set_cons_succ]
 try simp only [List.set_cons_zero]
 refine wpAnyH_take (i := 4) (v := .pointer (some ⟨g, x.so, none⟩)) rfl (by kernel_rfl) (by kernel_rfl) (by kernel_rfl) (fun _ _ _ h => h) (Or.inl ⟨by rfl, fun wz hSz => ?_⟩) hHeld ?_
 · go_simp
 simp only [Act.put, List.getElem_toArray, List.getElem_cons_succ, List.getElem_cons_zero]
 try simp only [List.setIfInBounds_toArray]
 try simp only [List.set_cons_succ]
 try simp only [List.set_cons_zero]
 refine wpAnyH_take (i := 5) (v := .pointer (some ⟨g, x.so, none⟩)) rfl (by kernel_rfl) (by kernel_rfl) (by kernel_rfl) (fun _ _ _ h => h) (Or.inl ⟨by rfl, fun wz hSz => ?_⟩) hHeld ?_
 · go_simp
 simp only [Act.put, List.getElem_toArray, List.getElem_cons_succ, List.getElem_cons_zero]
 try simp only [List.setIfInBounds_toArray]
 try simp only [List.set_cons_succ]
 try simp only [List.set_cons_zero]
 refine wpAnyH_take (i := 6) (v := .pointer (some ⟨g, x.so + 1, none⟩)) rfl (by kernel_rfl) (by kernel_rfl) (by kernel_rfl) (fun _ _ _ h => h) (Or.inl ⟨by rfl, fun wz hSz => ?_⟩) hHeld ?_
 · go_simp
 simp only [Act.put, List.getElem_toArray, List.getElem_cons_succ, List.getElem_cons_zero]
 try simp only [List.setIfInBounds_toArray]
 try simp only [List.set_cons_succ]
 try simp only [List.set_cons_zero]
 refine wpAnyH_take (i := 7) (v := .int .i64 x.t.r) rfl (by kernel_rfl) (by kernel_rfl) (by kernel_rfl) (fun _ _ _ h => h) (Or.inl ⟨by rfl, fun wz hSz => ?_⟩) hHeld ?_
 · obtain ⟨d0, d1, d2, d3, d4, d5, d6⟩ := hSz
   go_simp
 simp only [Act.put, List.getElem_toArray, List.getElem_cons_succ, List.getElem_cons_zero]
 try simp only [List.setIfInBounds_toArray]
 try simp only [List.set_cons_succ]
 try simp only [List.set_cons_zero]
 refine wpAnyH_take (i := 8) (v := .slice A1 n1 c1) rfl (by kernel_rfl) (by kernel_rfl) (by kernel_rfl) (fun _ _ _ h => h) (Or.inl ⟨by rfl, fun wz hSz => ?_⟩) hHeld ?_
 · go_simp
 simp only [Act.put, List.getElem_toArray, List.getElem_cons_succ, List.getElem_cons_zero]
 try simp only [List.setIfInBounds_toArray]
 try simp only [List.set_cons_succ]
 try simp only [List.set_cons_zero]
 refine wpAnyH_take (i := 9) (v := .slice A2 n2 c2) rfl (by kernel_rfl) (by kernel_rfl) (by kernel_rfl) (fun _ _ _ h => h) (Or.inl ⟨by rfl, fun wz hSz => ?_⟩) hHeld ?_
 · go_simp
 simp only [Act.put, List.getElem_toArray, List.getElem_cons_succ, List.getElem_cons_zero]
 try simp only [List.setIfInBounds_toArray]
 try simp only [List.set_cons_succ]
 try simp only [List.set_cons_zero]
 refine wpAnyH_take (i := 10) (v := .pointer (some ⟨g, 0, none⟩)) rfl (by kernel_rfl) (by kernel_rfl) (by kernel_rfl) (fun _ _ _ h => h) (Or.inl ⟨by rfl, fun wz hSz => ?_⟩) hHeld ?_
 · go_simp
 simp only [Act.put, List.getElem_toArray, List.getElem_cons_succ, List.getElem_cons_zero]
 try simp only [List.setIfInBounds_toArray]
 try simp only [List.set_cons_succ]
 try simp only [List.set_cons_zero]
 refine wpAnyH_take (i := 11) (v := .pointer (some ⟨g, 0, none⟩)) rfl (by kernel_rfl) (by kernel_rfl) (by kernel_rfl) (fun _ _ _ h => h) (Or.inl ⟨by rfl, fun wz hSz => ?_⟩) hHeld ?_
 · go_simp
 simp only [Act.put, List.getElem_toArray, List.getElem_cons_succ, List.getElem_cons_zero]
 try simp only [List.setIfInBounds_toArray]
 try simp only [List.set_cons_succ]
 try simp only [List.set_cons_zero]
 refine wpAnyH_take (i := 12) (v := .pointer (some ⟨g, 1, none⟩)) rfl (by kernel_rfl) (by kernel_rfl) (by kernel_rfl) (fun _ _ _ h => h) (Or.inl ⟨by rfl, fun wz hSz => ?_⟩) hHeld ?_
 · go_simp
 simp only [Act.put, List.getElem_toArray, List.getElem_cons_succ, List.getElem_cons_zero]
 try simp only [List.setIfInBounds_toArray]
 try simp only [List.set_cons_succ]
 try simp only [List.set_cons_zero]
 refine wpAnyH_take (i := 13) (v := .pointer (some ⟨g, 1, none⟩)) rfl (by kernel_rfl) (by kernel_rfl) (by kernel_rfl) (fun _ _ _ h => h) (Or.inl ⟨by rfl, fun wz hSz => ?_⟩) hHeld ?_
 · go_simp
 simp only [Act.put, List.getElem_toArray, List.getElem_cons_succ, List.getElem_cons_zero]
 try simp only [List.setIfInBounds_toArray]
 try simp only [List.set_cons_succ]
 try simp only [List.set_cons_zero]
 refine wpAnyH_take (i := 14) (v := .pointer (some ⟨g, 1, none⟩)) rfl (by kernel_rfl) (by kernel_rfl) (by kernel_rfl) (fun _ _ _ h => h) (Or.inl ⟨by rfl, fun wz hSz => ?_⟩) hHeld ?_
 · go_simp
 simp only [Act.put, List.getElem_toArray, List.getElem_cons_succ, List.getElem_cons_zero]
 try simp only [List.setIfInBounds_toArray]
 try simp only [List.set_cons_succ]
 try simp only [List.set_cons_zero]
 refine wpAnyH_take (i := 15) (v := .int .i64 x.t.now.x) rfl (by kernel_rfl) (by kernel_rfl) (by kernel_rfl) (fun _ _ _ h => h) (Or.inl ⟨by rfl, fun wz hSz => ?_⟩) hHeld ?_
 · obtain ⟨d0, d1, d2, d3, d4, d5, d6⟩ := hSz
   go_simp
 simp only [Act.put, List.getElem_toArray, List.getElem_cons_succ, List.getElem_cons_zero]
 try simp only [List.setIfInBounds_toArray]
 try simp only [List.set_cons_succ]
 try simp only [List.set_cons_zero]
 refine wpAnyH_take (i := 16) (v := .pointer (some ⟨g, 0, none⟩)) rfl (by kernel_rfl) (by kernel_rfl) (by kernel_rfl) (fun _ _ _ h => h) (Or.inl ⟨by rfl, fun wz hSz => ?_⟩) hHeld ?_
 · go_simp
 simp only [Act.put, List.getElem_toArray, List.getElem_cons_succ, List.getElem_cons_zero]
 try simp only [List.setIfInBounds_toArray]
 try simp only [List.set_cons_succ]
 try simp only [List.set_cons_zero]
 refine wpAnyH_take (i := 17) (v := .pointer (some ⟨g, 0, none⟩)) rfl (by kernel_rfl) (by kernel_rfl) (by kernel_rfl) (fun _ _ _ h => h) (Or.inl ⟨by rfl, fun wz hSz => ?_⟩) hHeld ?_
 · go_simp
 simp only [Act.put, List.getElem_toArray, List.getElem_cons_succ, List.getElem_cons_zero]
 try simp only [List.setIfInBounds_toArray]
 try simp only [List.set_cons_succ]
 try simp only [List.set_cons_zero]
 refine wpAnyH_take (i := 18) (v := .pointer (some ⟨g, 1, none⟩)) rfl (by kernel_rfl) (by kernel_rfl) (by kernel_rfl) (fun _ _ _ h => h) (Or.inl ⟨by rfl, fun wz hSz => ?_⟩) hHeld ?_
 · go_simp
 simp only [Act.put, List.getElem_toArray, List.getElem_cons_succ, List.getElem_cons_zero]
 try simp only [List.setIfInBounds_toArray]
 try simp only [List.set_cons_succ]
 try simp only [List.set_cons_zero]
 refine wpAnyH_take (i := 19) (v := .pointer (some ⟨g, 1, none⟩)) rfl (by kernel_rfl) (by kernel_rfl) (by kernel_rfl) (fun _ _ _ h => h) (Or.inl ⟨by rfl, fun wz hSz => ?_⟩) hHeld ?_
 · go_simp
 simp only [Act.put, List.getElem_toArray, List.getElem_cons_succ, List.getElem_cons_zero]
 try simp only [List.setIfInBounds_toArray]
 try simp only [List.set_cons_succ]
 try simp only [List.set_cons_zero]
 refine wpAnyH_take (i := 20) (v := .pointer (some ⟨g, 2, none⟩)) rfl (by kernel_rfl) (by kernel_rfl) (by kernel_rfl) (fun _ _ _ h => h) (Or.inl ⟨by rfl, fun wz hSz => ?_⟩) hHeld ?_
 · go_simp
 simp only [Act.put, List.getElem_toArray, List.getElem_cons_succ, List.getElem_cons_zero]
 try simp only [List.setIfInBounds_toArray]
 try simp only [List.set_cons_succ]
 try simp only [List.set_cons_zero]
 refine wpAnyH_take (i := 21) (v := .int .i64 x.t.now.y) rfl (by kernel_rfl) (by kernel_rfl) (by kernel_rfl) (fun _ _ _ h => h) (Or.inl ⟨by rfl, fun wz hSz => ?_⟩) hHeld ?_
 · obtain ⟨d0, d1, d2, d3, d4, d5, d6⟩ := hSz
   go_simp
 simp only [Act.put, List.getElem_toArray, List.getElem_cons_succ, List.getElem_cons_zero]
 try simp only [List.setIfInBounds_toArray]
 try simp only [List.set_cons_succ]
 try simp only [List.set_cons_zero]
 refine wpAnyH_take (i := 22) (v := .pointer (some ⟨g, 0, none⟩)) rfl (by kernel_rfl) (by kernel_rfl) (by kernel_rfl) (fun _ _ _ h => h) (Or.inl ⟨by rfl, fun wz hSz => ?_⟩) hHeld ?_
 · go_simp
 simp only [Act.put, List.getElem_toArray, List.getElem_cons_succ, List.getElem_cons_zero]
 try simp only [List.setIfInBounds_toArray]
 try simp only [List.set_cons_succ]
 try simp only [List.set_cons_zero]
 refine wpAnyH_take (i := 23) (v := .pointer (some ⟨g, 0, none⟩)) rfl (by kernel_rfl) (by kernel_rfl) (by kernel_rfl) (fun _ _ _ h => h) (Or.inl ⟨by rfl, fun wz hSz => ?_⟩) hHeld ?_
 · go_simp
 simp only [Act.put, List.getElem_toArray, List.getElem_cons_succ, List.getElem_cons_zero]
 try simp only [List.setIfInBounds_toArray]
 try simp only [List.set_cons_succ]
 try simp only [List.set_cons_zero]
 refine wpAnyH_take (i := 24) (v := .pointer (some ⟨g, 1, none⟩)) rfl (by kernel_rfl) (by kernel_rfl) (by kernel_rfl) (fun _ _ _ h => h) (Or.inl ⟨by rfl, fun wz hSz => ?_⟩) hHeld ?_
 · go_simp
 simp only [Act.put, List.getElem_toArray, List.getElem_cons_succ, List.getElem_cons_zero]
 try simp only [List.setIfInBounds_toArray]
 try simp only [List.set_cons_succ]
 try simp only [List.set_cons_zero]
 refine wpAnyH_take (i := 25) (v := .pointer (some ⟨g, 27, none⟩)) rfl (by kernel_rfl) (by kernel_rfl) (by kernel_rfl) (fun _ _ _ h => h) (Or.inl ⟨by rfl, fun wz hSz => ?_⟩) hHeld ?_
 · go_simp
 simp only [Act.put, List.getElem_toArray, List.getElem_cons_succ, List.getElem_cons_zero]
 try simp only [List.setIfInBounds_toArray]
 try simp only [List.set_cons_succ]
 try simp only [List.set_cons_zero]
 refine wpAnyH_take (i := 26) (v := .bool x.t.hid) rfl (by kernel_rfl) (by kernel_rfl) (by kernel_rfl) (fun _ _ _ h => h) (Or.inl ⟨by rfl, fun wz hSz => ?_⟩) hHeld ?_
 · obtain ⟨d0, d1, d2, d3, d4, d5, d6⟩ := hSz
   go_simp
 simp only [Act.put, List.getElem_toArray, List.getElem_cons_succ, List.getElem_cons_zero]
 try simp only [List.setIfInBounds_toArray]
 try simp only [List.set_cons_succ]
 try simp only [List.set_cons_zero]
 refine wpAnyH_take (i := 27) (v := .pointer (some ⟨g, 0, none⟩)) rfl (by kernel_rfl) (by kernel_rfl) (by kernel_rfl) (fun _ _ _ h => h) (Or.inl ⟨by rfl, fun wz hSz => ?_⟩) hHeld ?_
 · go_simp
 simp only [Act.put, List.getElem_toArray, List.getElem_cons_succ, List.getElem_cons_zero]
 try simp only [List.setIfInBounds_toArray]
 try simp only [List.set_cons_succ]
 try simp only [List.set_cons_zero]
 refine wpAnyH_take (i := 28) (v := .pointer (some ⟨g, 0, none⟩)) rfl (by kernel_rfl) (by kernel_rfl) (by kernel_rfl) (fun _ _ _ h => h) (Or.inl ⟨by rfl, fun wz hSz => ?_⟩) hHeld ?_
 · go_simp
 simp only [Act.put, List.getElem_toArray, List.getElem_cons_succ, List.getElem_cons_zero]
 try simp only [List.setIfInBounds_toArray]
 try simp only [List.set_cons_succ]
 try simp only [List.set_cons_zero]
 refine wpAnyH_take (i := 29) (v := .pointer (some ⟨g, 1, none⟩)) rfl (by kernel_rfl) (by kernel_rfl) (by kernel_rfl) (fun _ _ _ h => h) (Or.inl ⟨by rfl, fun wz hSz => ?_⟩) hHeld ?_
 · go_simp
 simp only [Act.put, List.getElem_toArray, List.getElem_cons_succ, List.getElem_cons_zero]
 try simp only [List.setIfInBounds_toArray]
 try simp only [List.set_cons_succ]
 try simp only [List.set_cons_zero]
 refine wpAnyH_take (i := 30) (v := .pointer (some ⟨g, 28, none⟩)) rfl (by kernel_rfl) (by kernel_rfl) (by kernel_rfl) (fun _ _ _ h => h) (Or.inl ⟨by rfl, fun wz hSz => ?_⟩) hHeld ?_
 · go_simp
 simp only [Act.put, List.getElem_toArray, List.getElem_cons_succ, List.getElem_cons_zero]
 try simp only [List.setIfInBounds_toArray]
 try simp only [List.set_cons_succ]
 try simp only [List.set_cons_zero]
 refine wpAnyH_take (i := 31) (v := .int .u8 x.t.mouse) rfl (by kernel_rfl) (by kernel_rfl) (by kernel_rfl) (fun _ _ _ h => h) (Or.inl ⟨by rfl, fun wz hSz => ?_⟩) hHeld ?_
 · obtain ⟨d0, d1, d2, d3, d4, d5, d6⟩ := hSz
   go_simp
 simp only [Act.put, List.getElem_toArray, List.getElem_cons_succ, List.getElem_cons_zero]
 try simp only [List.setIfInBounds_toArray]
 try simp only [List.set_cons_succ]
 try simp only [List.set_cons_zero]
 refine wpAnyH_take (i := 32) (v := .pointer (some ⟨g, 0, none⟩)) rfl (by kernel_rfl) (by kernel_rfl) (by kernel_rfl) (fun _ _ _ h => h) (Or.inl ⟨by rfl, fun wz hSz => ?_⟩) hHeld ?_
 · go_simp
 simp only [Act.put, List.getElem_toArray, List.getElem_cons_succ, List.getElem_cons_zero]
 try simp only [List.setIfInBounds_toArray]
 try simp only [List.set_cons_succ]
 try simp only [List.set_cons_zero]
 refine wpAnyH_take (i := 33) (v := .pointer (some ⟨g, 0, none⟩)) rfl (by kernel_rfl) (by kernel_rfl) (by kernel_rfl) (fun _ _ _ h => h) (Or.inl ⟨by rfl, fun wz hSz => ?_⟩) hHeld ?_
 · go_simp
 simp only [Act.put, List.getElem_toArray, List.getElem_cons_succ, List.getElem_cons_zero]
 try simp only [List.setIfInBounds_toArray]
 try simp only [List.set_cons_succ]
 try simp only [List.set_cons_zero]
 refine wpAnyH_take (i := 34) (v := .pointer (some ⟨g, 1, none⟩)) rfl (by kernel_rfl) (by kernel_rfl) (by kernel_rfl) (fun _ _ _ h => h) (Or.inl ⟨by rfl, fun wz hSz => ?_⟩) hHeld ?_
 · go_simp
 simp only [Act.put, List.getElem_toArray, List.getElem_cons_succ, List.getElem_cons_zero]
 try simp only [List.setIfInBounds_toArray]
 try simp only [List.set_cons_succ]
 try simp only [List.set_cons_zero]
 refine wpAnyH_take (i := 35) (v := .pointer (some ⟨g, 109, none⟩)) rfl (by kernel_rfl) (by kernel_rfl) (by kernel_rfl) (fun _ _ _ h => h) (Or.inl ⟨by rfl, fun wz hSz => ?_⟩) hHeld ?_
 · go_simp
 simp only [Act.put, List.getElem_toArray, List.getElem_cons_succ, List.getElem_cons_zero]
 try simp only [List.setIfInBounds_toArray]
 try simp only [List.set_cons_succ]
 try simp only [List.set_cons_zero]
 refine wpAnyH_take (i := 36) (v := .string x.ttl) rfl (by kernel_rfl) (by kernel_rfl) (by kernel_rfl) (fun _ _ _ h => h) (Or.inl ⟨by rfl, fun wz hSz => ?_⟩) hHeld ?_
 · obtain ⟨d0, d1, d2, d3, d4, d5, d6⟩ := hSz
   go_simp
 simp only [Act.put, List.getElem_toArray, List.getElem_cons_succ, List.getElem_cons_zero]
 try simp only [List.setIfInBounds_toArray]
 try simp only [List.set_cons_succ]
 try simp only [List.set_cons_zero]
 refine wpAnyH_take (i := 37) (v := .agg (scA x.t x.ttl A1 n1 c1 A2 n2 c2)) rfl (by kernel_rfl) (by kernel_rfl) (by kernel_rfl) (fun _ _ _ h => h) (Or.inl ⟨by rfl, fun wz hSz => ?_⟩) hHeld ?_
 · unfold scA
   go_simp
 simp only [Act.put, List.getElem_toArray, List.getElem_cons_succ, List.getElem_cons_zero]
 try simp only [List.setIfInBounds_toArray]
 try simp only [List.set_cons_succ]
 try simp only [List.set_cons_zero]
 refine wpAnyH_ready (rs := [38]) (by kernel_rfl) (by simp) (AllReadyH.cons rfl (fun K hK => ?_) AllReadyH.nil)
 rw [if_pos (by rfl)]
 have h4 : w4.heap[w.heap.size]? = some (.cells scZ 25 (0, 0)) := (HD3.out.block _ (by have := H1.out.2.2; have := W3.out.1.size; omega)).trans ((W3.out.1.block _ H1.out.2.2).trans H1.out.2.1)
 have hlt := HZ.out.lt
 have Z4 := Z3.out.below HD3.out
 have Z5 : Cz B (w4.setRow w.heap.size (scA x.t x.ttl A1 n1 c1 A2 n2 c2)) g x := Z4.kept (by simp) (fun q hq => setRow_other _ _ _ _ (by have := HZ.out.hi q hq; omega))
 have H5 := Lib.hid (show (w4.setRow w.heap.size (scA x.t x.ttl A1 n1 c1 A2 n2 c2)).heap[w.heap.size]? = some (.cells (scA x.t x.ttl A1 n1 c1 A2 n2 c2) 25 (0, 0)) ∧ Below w.heap.size w (w4.setRow w.heap.size (scA x.t x.ttl A1 n1 c1 A2 n2 c2)) from ⟨setRow_heap w4 _ _ _ _ _ h4, below_setRow ((H1.out.1.trans (W3.out.1.mono H1.out.1.size)).trans (HD3.out.mono (Nat.le_trans H1.out.1.size W3.out.1.size))) (Nat.le_refl _) _⟩)
 have hot : ∀ q, w1.heap.size ≤ q → (w4.setRow w.heap.size (scA x.t x.ttl A1 n1 c1 A2 n2 c2)).heap[q]? = w4.heap[q]? := fun q hq => setRow_other _ _ _ _ (by have := H1.out.2.2; omega)
 have H6 := Lib.hid hot
 refine wp_store_row 25 (.tmp 2) (.tmp 61) rfl w.heap.size (scA x.t x.ttl A1 n1 c1 A2 n2 c2) rfl rfl 25 scZ h4 info56 rfl (scA_one _ _ _ _ _ _ _ _) ?_
 refine hK.out _ _ ⟨Z5.sh.1, Z5.sh.2.1, Z5.cell rfl, Z5.cell rfl, Z5.cell rfl, Z5.cell rfl, Z5.table.2⟩ (fun hHeld => ?_)
 clear hK K h4 Z4 Z5 hot
 refine wpAnyH_done (by kernel_rfl) ?_ _
 refine NoPanic.normal ?_
 go_wp2_with fail
 refine bodyPost_ret (results_cell_row rfl _ _ w.heap.size 25 (scA x.t x.ttl A1 n1 c1 A2 n2 c2) (0, 0) _ rfl H5.out.1 Tryd.underlying25 rfl info56) rfl ?_
 refine ⟨H5.out.2, A1, c1, A2, c2, by rw [← HN.out.1, ← HN.out.2], ?_, ?_⟩
 · rw [← HN.out.1]
   exact ((W3.out.2.1.below HD3.out).keep (fun q hq _ => H6.out q (Nat.le_trans HD.out.size hq))).lower (Nat.le_trans H1.out.1.size HD.out.size)
 · rw [← HN.out.2]
   exact ((W3.out.2.2.below HD3.out).keep (fun q hq _ => H6.out q (Nat.le_trans HD.out.size hq))).lower (Nat.le_trans H1.out.1.size HD.out.size)
end
open Go.RowKit
theorem retIL {a b : Int} (h : a = b) : Ending.returned (.int .i64 a) = .returned (.int .i64 b) := by rw [h]
set_option maxHeartbeats 400000 in
theorem idxT_any {w : World} {A : Option Addr} {n c : Nat} {L : List ByteArray} (h : Vs stV w A n L) (s : ByteArray) (hn : n ≤ 140737488351232) :
  Calls Tryd.prog 96 #[.slice A n c, .string s] w fun e w' => e = .returned (.int .i64 (placeI L s)) ∧ w = w' := by
 have H := Lib.hid h
 clear h
 go_enter Tryd.func96, Tryd.ntmps96
 go_wp2
 go_loop [8] (fun i => ∃ k : Nat, k ≤ n ∧ i = .int .i64 k ∧ s ∉ L.take k) (fun i => n - (intOf i).toNat)
 case atStart => exact ⟨0, Nat.zero_le _, rfl, by simp⟩
 case round =>
  obtain ⟨k, hk, rfl, ho⟩ := hrel
  have HO := Lib.hid ho
  clear ho
  by_cases hlt : k < n
  · obtain ⟨ad, rfl⟩ := H.out.addr (by omega)
    have hc := H.out.str hlt
    have HL := Lib.hid H.out.len
    have HT := Lib.hid (mem_take_snoc (s := s) (by rw [HL.out]; exact hlt))
    have HP := Lib.hid (fun (e : sAt L k = s) => placeI_hit (by rw [HL.out]; exact hlt) e HO.out)
    generalize sAt L k = x at hc HT HP
    obtain ⟨B, hB⟩ : ∃ B, (s.toList == x.toList) = B := ⟨_, rfl⟩
    cases B
    · have HB := Lib.hid (eqBB_no hB)
      go_wp2
      go_round
      case rel => exact ⟨k + 1, by omega, by go_num, fun e => (HT.out.1 e).elim HO.out fun e => HB.out e.symm⟩
      case measure => simp [intOf]; omega
    · have HB := Lib.hid (HP.out (eqBB_yes hB).symm)
      go_wp2
      go_ret
      exact ⟨retIL HB.out.symm, rfl⟩
  · have HR : Hid (placeI L s = -1) := Lib.hid (placeI_none.2 (by
     have := HO.out
     rwa [List.take_of_length_le (by rw [H.out.len]; omega)] at this))
    go_wp2
    go_ret
    exact ⟨retIL HR.out.symm, rfl⟩
theorem hasT_any {w : World} {A : Option Addr} {n c : Nat} {L : List ByteArray} (h : Vs stV w A n L) (s : ByteArray) (hn : n ≤ 140737488351232) :
  Calls Tryd.prog 72 #[.slice A n c, .string s] w fun e w' => e = .returned (.bool (decide (0 ≤ placeI L s))) ∧ w = w' := by
 have H := Lib.hid h
 clear h
 have h1 := placeI_ge L s
 have h2 := placeI_lt L s
 obtain ⟨z, hz⟩ : ∃ z, placeI L s = z := ⟨_, rfl⟩
 rw [hz] at h1 h2 ⊢
 have HZ := Lib.hid hz
 have h3 : z ≤ 140737488351232 := by have := H.out.len; omega
 clear hz h2
 go_enter Tryd.func72, Tryd.ntmps72
 go_wp2_with fail
 refine (idxT_any H.out s hn).mono ?_
 rintro e w' ⟨rfl, rfl⟩
 rw [HZ.out]
 go_wp2_with fail
 go_ret
 exact ⟨rfl, rfl⟩
set_option maxHeartbeats 400000 in
theorem placeT_any {w : World} {A : Option Addr} {n c : Nat} {L : List ByteArray} (h : Vs stV w A n L) (s : ByteArray) (hn : n ≤ 140737488351232) :
  Calls Tryd.prog 101 #[.slice A n c, .string s] w fun e w' => e = .returned (.int .i64 (placeI L s)) ∧ w = w' := by
 have H := Lib.hid h
 clear h
 go_enter Tryd.func101, Tryd.ntmps101
 go_wp2
 go_loop [5] (fun i => ∃ k : Nat, k ≤ n ∧ i = .int .i64 k ∧ s ∉ L.take k) (fun i => n - (intOf i).toNat)
 case atStart => exact ⟨0, Nat.zero_le _, rfl, by simp⟩
 case round =>
  obtain ⟨k, hk, rfl, ho⟩ := hrel
  have HO := Lib.hid ho
  clear ho
  by_cases hlt : k < n
  · obtain ⟨ad, rfl⟩ := H.out.addr (by omega)
    have hc := H.out.str hlt
    have HL := Lib.hid H.out.len
    have HT := Lib.hid (mem_take_snoc (s := s) (by rw [HL.out]; exact hlt))
    have HP := Lib.hid (fun (e : sAt L k = s) => placeI_hit (by rw [HL.out]; exact hlt) e HO.out)
    generalize sAt L k = x at hc HT HP
    obtain ⟨B, hB⟩ : ∃ B, (x.toList == s.toList) = B := ⟨_, rfl⟩
    cases B
    · have HB := Lib.hid (eqBB_no hB)
      go_wp2
      go_round
      case rel => exact ⟨k + 1, by omega, by go_num, fun e => (HT.out.1 e).elim HO.out HB.out⟩
      case measure => simp [intOf]; omega
    · have HB := Lib.hid (HP.out (eqBB_yes hB))
      go_wp2
      go_ret
      exact ⟨retIL HB.out.symm, rfl⟩
  · have HR : Hid (placeI L s = -1) := Lib.hid (placeI_none.2 (by
     have := HO.out
     rwa [List.take_of_length_le (by rw [H.out.len]; omega)] at this))
    go_wp2
    go_ret
    exact ⟨retIL HR.out.symm, rfl⟩
end Go.Proofs.YtikhknnhmnopbaaDoor
