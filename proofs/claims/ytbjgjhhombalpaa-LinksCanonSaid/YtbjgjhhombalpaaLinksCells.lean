/-
  Cells numbered anew, in memory: a row of cells of the call's own, a number stored into one, and what is numbered so far.
-/
import Derived.Test.YtbjgjhhombalpaaLinksCopy
import Derived.Test.YtbjgjhhombalpaaLinksText
import Derived.Test.YtbjgjhhombalpaaCellSame
namespace Go.Proofs.Ytbjgjhhombalpaa
open Go.RowKit

/-- A slice of cells in memory of the call's own. -/
structure Cx (base : Nat) (w : World) (A : Option Addr) (n c : Nat) (L : List Ce) : Prop where
  len : L.length = n
  le : n ≤ c
  max : c ≤ maxLen
  own : 0 < n → ∃ g, A = some ⟨g, 0, none⟩ ∧ base ≤ g ∧ Rw ceV 51 w g L
section
variable {base : Nat} {w w' : World} {A : Option Addr} {n c : Nat} {L : List Ce}

theorem Cx.vs (h : Cx base w A n c L) : Vs ceV w A n L := by
  refine ⟨h.len, fun hn => ?_⟩
  obtain ⟨g, rfl, _, hR⟩ := h.own hn
  have := hR.vs
  rw [h.len] at this
  exact this.at_ hn
theorem Cx.lower {B : Nat} (h : Cx base w A n c L) (hB : B ≤ base) : Cx B w A n c L := ⟨h.len, h.le, h.max, fun hn => by obtain ⟨g, e, hb, hR⟩ := h.own hn; exact ⟨g, e, by omega, hR⟩⟩
theorem Cx.keep (h : Cx base w A n c L) (hs : ∀ g, base ≤ g → g < w.heap.size → w'.heap[g]? = w.heap[g]?) : Cx base w' A n c L :=
  ⟨h.len, h.le, h.max, fun hn => by obtain ⟨g, e, hb, hR⟩ := h.own hn; exact ⟨g, e, hb, hR.kept (hs g hb hR.lt)⟩⟩
theorem Cx.below (h : Cx base w A n c L) (hb : Below w.heap.size w w') : Cx base w' A n c L := h.keep fun g _ hg => hb.block g hg
theorem Cx.drewN (h : Cx base w A n c L) (q : Nat) : Cx base (w.drewN q) A n c L := h.keep fun _ _ _ => rfl
theorem Cx.grown (h : Cx base w A n c L) {row : Option Nat} (hg : w.grownBy w' row) (hne : ∀ g, A = some ⟨g, 0, none⟩ → row ≠ some g) : Cx base w' A n c L :=
  ⟨h.len, h.le, h.max, fun hn => by obtain ⟨g, e, hb, hR⟩ := h.own hn; exact ⟨g, e, hb, hR.grown hg (hne g e)⟩⟩
end

/-- What a call answers: a slice of cells of its own. -/
def CxEnd (L : List Ce) (w : World) (e : Ending) (w' : World) : Prop := Below w.heap.size w w' ∧ ∃ A c, e = .returned (.slice A L.length c) ∧ Cx w.heap.size w' A L.length c L

theorem cloneCx_any {w : World} {A : Option Addr} {n c : Nat} {L : List Ce} (h : Vs ceV w A n L) (hn : n ≤ 1000000) :
    Calls Try.prog 29 #[.slice A n c] w (CxEnd L w) := by
  have hrun := fun (w : World) => Lib.run_eql_slice_nil (P := Try.prog) w 41 51 A n c 0 0 Try.underlying41
  cases A with
  | none =>
    have H0 : Hid (n = 0) := Lib.hid (by
      rcases Nat.eq_zero_or_pos n with h0 | h0
      · exact h0
      · obtain ⟨ad, e⟩ := h.addr h0; cases e)
    have X : CxEnd L w (.returned (.slice none 0 0)) w := by
      obtain rfl : L = [] := List.eq_nil_of_length_eq_zero (h.len.trans H0.out)
      exact ⟨Below.refl _ _, none, 0, rfl, rfl, Nat.le_refl _, by unfold maxLen; omega, fun hn => absurd hn (by decide)⟩
    clear h
    go_enter Try.func29, Try.ntmps29
    go_wp2_with fail
    go_ret
    exact X
  | some ad =>
    have H := Lib.hid (h.alloc (.cells #[] 51))
    clear h
    go_enter Try.func29, Try.ntmps29
    go_wp2_with (at_builtin; refine wpList_app_V _ rfl _ _ 41 rfl ceV_len one_ce w.heap.size 51 _ 20 (by omega) Try.underlying41 infoCe3 rfl (by omega) (.slice (some ⟨w.heap.size, 0, none⟩) 0 0) 0 [] rfl (World.ownsRow_lit w #[] 0 (Nat.le_refl _) (by unfold maxLen; omega) rfl) (some ad) n c n (by omega) L rfl H.out hn (by simp) ?_; intro A' c' w1 hown hg)
    have X : CxEnd L w (.returned (.slice A' n c')) w1 := by
      obtain ⟨A2, c2, e2, hle, hmx⟩ := own_shape hown
      injection e2 with _ _ e2
      subst e2
      have hl := H.out.len
      refine ⟨((Below.refl _ _).alloc (Nat.le_refl _) _).grown hg (by simp) (by intro k hk; have : w.heap.size = k := (by simpa [Value.ownBlock] using hk); omega), A', c', by rw [hl], ⟨rfl, by omega, hmx, fun h0 => ?_⟩⟩
      obtain ⟨g, e, hb, _, _, hR⟩ := own_some (by omega) hown
      exact ⟨g, e, hb, hR⟩
    clear hown hg
    go_ret
    exact X

theorem row_setLk (z : Int) : ∀ (L : List Ce) (k : Nat), k < L.length → (rowV ceV L).set (k * 6 + 5) (.int .u16 z) = rowV ceV (L.set k (setLk (cAt L k) z)) := by
  intro L
  induction L with
  | nil => intro k hk; simp at hk
  | cons a L ih =>
    intro k hk
    cases k with
    | zero =>
      show (ceV a ++ rowV ceV L).set 5 _ = ceV (setLk a z) ++ rowV ceV L
      rw [List.set_append_left _ _ (by rw [ceV_len]; omega)]
      rfl
    | succ k =>
      have := ih k (by simpa using hk)
      show (ceV a ++ rowV ceV L).set ((k + 1) * 6 + 5) _ = ceV a ++ rowV ceV (L.set k (setLk (cAt L k) z))
      rw [List.set_append_right _ _ (by rw [ceV_len]; omega), ceV_len, ← this, show (k + 1) * 6 + 5 - 6 = k * 6 + 5 by omega]
/-- A number stored into a cell of a row. -/
theorem Rw.setLk {t : TypeId} {w : World} {g : Nat} {L : List Ce} (h : Rw ceV t w g L) {k : Nat} (hk : k < L.length) (z : Int) :
    Rw ceV t (w.setCell ⟨g, k * 6 + 5, none⟩ (.int .u16 z)) g (L.set k (Go.Proofs.Ytbjgjhhombalpaa.setLk (cAt L k) z)) := by
  obtain ⟨r, h⟩ := h
  refine ⟨r, ?_⟩
  rw [heap_setCell_same w g (k * 6 + 5) _ _ _ h, ← row_setLk z L k hk]
  congr 2
  rw [List.setIfInBounds_toArray, List.set_append_left]
  rw [rowV_len ceV_len]
  omega

/-- The cells of which the first k are numbered anew. -/
def partC (cs : List Ce) (t : List ByteArray) (k : Nat) : List Ce := (cs.take k).map (fun c => setLk c (numI (canonL cs t) (leadsS t c.p.lk))) ++ cs.drop k
theorem partC_len (cs : List Ce) (t : List ByteArray) {k : Nat} (hk : k ≤ cs.length) : (partC cs t k).length = cs.length := by simp [partC]; omega
theorem partC_zero (cs : List Ce) (t : List ByteArray) : partC cs t 0 = cs := by simp [partC]
theorem partC_all (cs : List Ce) (t : List ByteArray) : partC cs t cs.length = canonC cs t := by simp [partC, canonC]
theorem partC_at {cs : List Ce} {t : List ByteArray} {k : Nat} (hk : k < cs.length) : cAt (partC cs t k) k = cAt cs k := by
  have h : (partC cs t k)[k]? = cs[k]? := by
    unfold partC
    rw [List.getElem?_append_right (by simp; omega), List.length_map, List.length_take, List.getElem?_drop]
    congr 1
    omega
  rw [getElem?_cAt hk, getElem?_cAt (by rw [partC_len cs t (by omega)]; exact hk)] at h
  exact Option.some.inj h
theorem partC_step {cs : List Ce} {t : List ByteArray} {k : Nat} (hk : k < cs.length) :
    (partC cs t k).set k (setLk (cAt cs k) (numI (canonL cs t) (leadsS t (cAt cs k).p.lk))) = partC cs t (k + 1) := by
  unfold partC
  have hl : ((cs.take k).map (fun c => setLk c (numI (canonL cs t) (leadsS t c.p.lk)))).length = k := by simp; omega
  rw [List.set_append_right _ _ (by omega), hl, Nat.sub_self, List.drop_eq_getElem_cons hk, List.set_cons_zero, List.take_succ_eq_append_getElem hk, List.map_append, List.append_assoc]
  rw [cAt_lt hk]
  rfl

theorem canonL_take {cs : List Ce} {t : List ByteArray} {k : Nat} (hk : k < cs.length) : canonL (cs.take (k + 1)) t = addT (canonL (cs.take k) t) (leadsS t (cAt cs k).p.lk) := by
  unfold canonL seqT
  rw [List.take_succ_eq_append_getElem hk, List.map_append, List.foldl_append, cAt_lt hk]
  rfl
theorem canonL_pre (cs : List Ce) (t : List ByteArray) (k : Nat) : ∃ m, canonL cs t = canonL (cs.take k) t ++ m := by
  obtain ⟨m, e⟩ := fold_pre (seqT (cs.drop k) t) (canonL (cs.take k) t)
  refine ⟨m, ?_⟩
  rw [← e]
  unfold canonL
  conv => lhs; rw [← List.take_append_drop k cs]
  unfold seqT
  rw [List.map_append, List.foldl_append]
theorem num_take {cs : List Ce} {t : List ByteArray} {k : Nat} (hk : k < cs.length) (hx : leadsS t (cAt cs k).p.lk ≠ eT) :
    numI (canonL cs t) (leadsS t (cAt cs k).p.lk) = placeI (canonL (cs.take (k + 1)) t) (leadsS t (cAt cs k).p.lk) + 1 := by
  obtain ⟨m, e⟩ := canonL_pre cs t (k + 1)
  have hin : leadsS t (cAt cs k).p.lk ∈ canonL (cs.take (k + 1)) t := by
    rw [canonL_take hk]
    rcases addT_cases (canonL (cs.take k) t) (leadsS t (cAt cs k).p.lk) with ⟨h1, e1⟩ | ⟨_, e1⟩ <;> rw [e1]
    · exact h1.resolve_left hx
    · simp
  unfold numI
  rw [if_neg hx, e, placeI_append hin]
theorem num_none {cs : List Ce} {t : List ByteArray} {z : Int} (hx : leadsS t z = eT) : numI (canonL cs t) (leadsS t z) = 0 := by unfold numI; rw [if_pos hx]
end Go.Proofs.Ytbjgjhhombalpaa
