/-
  Contract of the reference's reader's Text.
-/
import Derived.Test.YtchpobikbcelfaaRefVar
import Derived.Handy
namespace Go.Proofs.Ytchpobikbcelfaa
open Go.RowKit

/-- The three cells of a box. -/
theorem box_cells {w : World} {b : Nat} {v0 v1 v2 : Value} {t : TypeId} (h : w.heap[b]? = some (.cells #[v0, v1, v2] t (0, 0))) :
    w.cell? ⟨b, 0, none⟩ = some v0 ∧ w.cell? ⟨b, 1, none⟩ = some v1 ∧ w.cell? ⟨b, 2, none⟩ = some v2 ∧ ∀ i, w.frozen? ⟨b, i, none⟩ = false :=
  ⟨cell_of_row w b 0 _ _ _ h, cell_of_row w b 1 _ _ _ h, cell_of_row w b 2 _ _ _ h, fun i => frozen_of_row w b i _ _ h⟩

theorem MadeAt.base {e : TypeId} {zs : List Int} {w w0 w1 : World} {A : Option Addr} {n c : Nat} (h : MadeAt e zs w0 A n c w1) (hb : Below w.heap.size w w0) : MadeAt e zs w A n c w1 :=
  ⟨h.len, h.le, h.max, own_base h.own hb.size, hb.trans (h.below.mono hb.size)⟩

/-- Stores into older memory. -/
theorem MadeAt.set' {e : TypeId} {zs : List Int} {w0 w1 w : World} {A : Option Addr} {n c : Nat} (h : w1.ownsRow w0.heap.size e 1 (.slice A n c) n (zs.map (Value.int .u8)) ∧ Below w.heap.size w w1) {p : Addr} (hp : w.heap.size ≤ p.block) (hg : p.block < w0.heap.size) (u : Value) :
    (w1.setCell p u).ownsRow w0.heap.size e 1 (.slice A n c) n (zs.map (Value.int .u8)) ∧ Below w.heap.size w (w1.setCell p u) :=
  ⟨ownsRow_setCell_below h.1 hg u, h.2.setCell hp u⟩

theorem drop_inj {bs : List Int} {a b n : Nat} (hl : bs.length = n) (ha : a ≤ n) (hb : b ≤ n) (h : bs.drop b = bs.drop a) : b = a := by
  have := congrArg List.length h
  simp at this
  omega

theorem refText_bad {A : Option Addr} {n c a : Nat} {bs : List Int} {e : Int} (w : World) (hs : Sb w A n bs) (hu : U8s bs) (hc : n ≤ c ∧ c ≤ maxLen) (ha : a ≤ n) (hn : n ≤ 140737488355328) (k : Int) (hq : Hid ((var1 (bs.drop a) e).2.2 ≠ 0)) :
    Calls Try.prog 49 #[.agg #[.slice A n c, .int .i64 a, .int .i64 e], .int .i64 k] w (RTakePost A n c bs w (text1 (bs.drop a) e k)) := by
  have ht : Hid (text1 (bs.drop a) e k = ([], bs.drop a, (var1 (bs.drop a) e).2.2) ∧ (var1 (bs.drop a) e).2.1 = bs.drop a ∧ (var1 (bs.drop a) e).1 = 0) := by
    have h := hq.out
    show _ ∧ _
    unfold var1 at h ⊢
    unfold text1
    by_cases h0 : e = 0
    · subst h0
      by_cases h1 : fvE 0 (bs.drop a) = 0
      · rw [if_neg (by simp), if_pos h1] at h; simp at h
      · rw [if_neg (by simp), if_pos h1, if_neg (by simp), if_neg h1]; exact ⟨rfl, rfl, rfl⟩
    · rw [if_pos h0, if_pos h0]; exact ⟨rfl, rfl, rfl⟩
  have HP : Hid (∀ w', Below w.heap.size w w' → RTakePost A n c bs w (text1 (bs.drop a) e k) (.returned (.tuple #[.slice none 0 0, .agg #[.slice A n c, .int .i64 a, .int .i64 (var1 (bs.drop a) e).2.2]])) w') := by
    intro w' hb
    rw [ht.out.1]; exact ⟨_, _, rfl, Made.mk (World.ownsRow_nil _ _ _ _) hb, a, ha, rfl, rfl⟩
  have hlen := Lib.hid hs.len
  go_enter Try.func49, Try.ntmps49
  go_wp2_with fail
  refine (refVarR_any _ ((hs.alloc _).alloc _) hu hc ha hn).mono ?_
  rintro e' w1 ⟨u, rfl, ⟨a', ha', hd, rfl⟩, hb⟩
  obtain rfl : a' = a := drop_inj hlen.out ha ha' (hd.trans ht.out.2.1)
  rw [ht.out.2.2]
  obtain ⟨b0, b1, hbel⟩ := box_at hb
  obtain ⟨c0, c1, c2, f0⟩ := box_cells b0
  obtain ⟨d0, d1, d2, f1⟩ := box_cells b1
  obtain ⟨e1, he1⟩ : ∃ e1, e1 = (var1 (bs.drop a') e).2.2 := ⟨_, rfl⟩
  rw [← he1] at HP hq ⊢
  have tq : (e1 != 0) = true := by simpa using hq.out
  have z0 := lt_of_block b0
  have z1 := lt_of_block b1
  clear hb b0 b1 hd he1 hs hc ht hq
  go_wp2
  go_region
  go_wp2
  refine bodyPost_ret (v := .tuple #[.slice none 0 0, .agg #[.slice A n c, .int .i64 a', .int .i64 e1]]) (by simp [results, Try.results49, go_sem, *]) rfl (HP.out _ ?_)
  go_grown

set_option maxHeartbeats 1600000 in
theorem refText_good {A : Option Addr} {n c a : Nat} {bs : List Int} {e : Int} (w : World) (hs : Sb w A n bs) (hu : U8s bs) (hc : n ≤ c ∧ c ≤ maxLen) (ha : a ≤ n) (hn : n ≤ 140737488355328) (k : Int) (hk1 : -9223372036854775808 ≤ k) (hk : k ≤ 9223372036854775807) (hq : Hid ((var1 (bs.drop a) e).2.2 = 0)) :
    Calls Try.prog 49 #[.agg #[.slice A n c, .int .i64 a, .int .i64 e], .int .i64 k] w (RTakePost A n c bs w (text1 (bs.drop a) e k)) := by
  have hx : Hid (e = 0 ∧ fvE 0 (bs.drop a) = 0) := by
    have h := hq.out
    show _ ∧ _
    unfold var1 at h
    by_cases h0 : e = 0
    · subst h0
      by_cases h1 : fvE 0 (bs.drop a) = 0
      · exact ⟨rfl, h1⟩
      · rw [if_neg (by simp), if_neg h1] at h; exact absurd h h1
    · rw [if_pos h0] at h; exact absurd h h0
  obtain rfl : e = 0 := hx.out.1
  have hv : Hid (var1 (bs.drop a) 0 = (fvV (bs.drop a), (bs.drop a).drop (fvK (bs.drop a)), 0)) := by show _ = _; unfold var1; rw [if_neg (by simp), if_pos hx.out.2]
  have hlen := Lib.hid hs.len
  have hkl := fvK_le (bs.drop a)
  have hl : (bs.drop a).length = n - a := by rw [List.length_drop, hs.len]
  have hV0 := fvV_nonneg (zs := bs.drop a) (fun z hz => hu z (List.mem_of_mem_drop hz))
  obtain ⟨K, hK⟩ : ∃ K, fvK (bs.drop a) = K := ⟨_, rfl⟩
  obtain ⟨V, hV⟩ : ∃ V, fvV (bs.drop a) = V := ⟨_, rfl⟩
  have hHL := Lib.hid hl
  have HT : Hid (text1 (bs.drop a) 0 k = if k < 0 ∨ k < V then ([], bs.drop a, 4) else if ((n - a : Nat) : Int) - K < V then ([], bs.drop a, 2) else (((bs.drop a).drop K).take V.toNat, ((bs.drop a).drop K).drop V.toNat, 0)) := by
    show _ = _
    unfold text1
    rw [if_neg (by simp), if_neg (by simp [hx.out.2]), hK, hV, hl]
  rw [hK, hl] at hkl
  rw [hV] at hV0
  rw [hK, hV] at hv
  have HP : Hid (∀ e' w', text1 (bs.drop a) 0 k = ([], bs.drop a, e') → Below w.heap.size w w' → RTakePost A n c bs w (text1 (bs.drop a) 0 k) (.returned (.tuple #[.slice none 0 0, .agg #[.slice A n c, .int .i64 a, .int .i64 e']])) w') := by
    intro e' w' h hb
    rw [h]; exact ⟨_, _, rfl, Made.mk (World.ownsRow_nil _ _ _ _) hb, a, ha, rfl, rfl⟩
  clear hK hV hl hx hq
  have H0 := Lib.hid (refVarR_any (e := 0) ((w.alloc (.cells #[.slice A n c, .int .i64 a, .int .i64 0] 78)).alloc (.cells #[.slice none 0 0, .int .i64 0, .int .i64 0] 78)) ((hs.alloc _).alloc _) hu hc ha hn)
  have HS := Lib.hid hs
  clear hs
  by_cases hlong : k < 0 ∨ k < V
  · have HT4 := Lib.hid (HT.out.trans (if_pos hlong))
    by_cases hneg : k < 0
    · clear hlong
      go_enter Try.func49, Try.ntmps49
      go_wp2_with fail
      refine H0.out.mono ?_
      rintro e' w1 ⟨u, rfl, ⟨a', ha', hd, rfl⟩, hb⟩
      rw [hv.out] at hd
      simp only [hv.out]
      obtain ⟨b0, b1, hbel⟩ := box_at hb
      obtain ⟨c0, c1, c2, f0⟩ := box_cells b0
      obtain ⟨d0, d1, d2, f1⟩ := box_cells b1
      have z0 := lt_of_block b0
      have z1 := lt_of_block b1
      clear hb b0 b1 hd hc H0 hv
      go_wp2
      go_region
      go_wp2
      refine bodyPost_ret (v := .tuple #[.slice none 0 0, .agg #[.slice A n c, .int .i64 a, .int .i64 4]]) (by simp [results, Try.results49, go_sem, *]) rfl (HP.out _ _ HT4.out ?_)
      go_grown
    · have hn0 : 0 ≤ k := by omega
      have hnV : k < V := by omega
      clear hlong hneg
      go_enter Try.func49, Try.ntmps49
      go_wp2_with fail
      refine H0.out.mono ?_
      rintro e' w1 ⟨u, rfl, ⟨a', ha', hd, rfl⟩, hb⟩
      rw [hv.out] at hd
      simp only [hv.out]
      obtain ⟨b0, b1, hbel⟩ := box_at hb
      obtain ⟨c0, c1, c2, f0⟩ := box_cells b0
      obtain ⟨d0, d1, d2, f1⟩ := box_cells b1
      have z0 := lt_of_block b0
      have z1 := lt_of_block b1
      clear hb b0 b1 hd hc H0 hv
      go_wp2
      go_region
      go_wp2
      refine bodyPost_ret (v := .tuple #[.slice none 0 0, .agg #[.slice A n c, .int .i64 a, .int .i64 4]]) (by simp [results, Try.results49, go_sem, *]) rfl (HP.out _ _ HT4.out ?_)
      go_grown
  · have hn0 : 0 ≤ k := by omega
    have hnV : V ≤ k := by omega
    have HT5 := Lib.hid (HT.out.trans (if_neg hlong))
    clear HT hlong
    by_cases hshort : ((n - a : Nat) : Int) - K < V
    · have HT2 := Lib.hid (HT5.out.trans (if_pos hshort))
      go_enter Try.func49, Try.ntmps49
      go_wp2_with fail
      refine H0.out.mono ?_
      rintro e' w1 ⟨u, rfl, ⟨a', ha', hd, rfl⟩, hb⟩
      rw [hv.out] at hd
      simp only [hv.out]
      have hA : a' = a + K := drop_inj hlen.out (by omega) ha' (by rw [hd, List.drop_drop])
      have HD := Lib.hid hd
      obtain ⟨b0, b1, hbel⟩ := box_at hb
      obtain ⟨c0, c1, c2, f0⟩ := box_cells b0
      obtain ⟨d0, d1, d2, f1⟩ := box_cells b1
      have z0 := lt_of_block b0
      have z1 := lt_of_block b1
      have t1 : (n : Int) - (a' : Int) < V := by omega
      have HA := Lib.hid hA
      clear hb b0 b1 hd hc H0 hv hA hshort
      go_wp2
      go_region
      go_wp2
      refine bodyPost_ret (v := .tuple #[.slice none 0 0, .agg #[.slice A n c, .int .i64 a, .int .i64 2]]) (by simp [results, Try.results49, go_sem, *]) rfl (HP.out _ _ HT2.out ?_)
      go_grown
    · have HT0 := Lib.hid (HT5.out.trans (if_neg hshort))
      have HS1 := Lib.hid HS.out
      go_enter Try.func49, Try.ntmps49
      go_wp2_with fail
      refine H0.out.mono ?_
      rintro e' w1 ⟨u, rfl, ⟨a', ha', hd, rfl⟩, hb⟩
      rw [hv.out] at hd
      simp only [hv.out]
      have hA : a' = a + K := drop_inj hlen.out (by omega) ha' (by rw [hd, List.drop_drop])
      have HD := Lib.hid hd
      obtain ⟨b0, b1, hbel⟩ := box_at hb
      obtain ⟨c0, c1, c2, f0⟩ := box_cells b0
      obtain ⟨d0, d1, d2, f1⟩ := box_cells b1
      have z0 := lt_of_block b0
      have z1 := lt_of_block b1
      have t1 : V ≤ (n : Int) - (a' : Int) := by omega
      have HA := Lib.hid hA
      have B1 := Lib.hid (And.intro hbel (And.intro b1 hc))
      clear hb b0 hd hc H0 hv hA hshort hbel
      go_wp2_with fail
      refine (refTake_any _ ((HS.out.below B1.out.1).alloc _) B1.out.2.2 ha' hn V (by omega)).mono ?_
      rintro e' w2 ⟨v, u, rfl, ⟨A2, n2, c2, rfl, hm⟩, ⟨a2, ha2, hd2, rfl⟩⟩
      have E : take1 (bs.drop a') 0 V = text1 (bs.drop a) 0 k := by
        rw [HT0.out, ← HD.out]
        unfold take1
        rw [if_neg (by simp), if_neg (by omega), if_neg (by rw [List.length_drop, hlen.out]; omega)]
      have E2 : (text1 (bs.drop a) 0 k).2.2 = 0 := by rw [HT0.out]
      rw [E] at hm hd2 ⊢
      rw [E2]
      have b2 : w2.heap[w.heap.size + 1]? = some (.cells #[.slice none 0 0, .int .i64 0, .int .i64 0] 78 (0, 0)) :=
        (hm.below.block _ (by simp; omega)).trans ((Below.heap_alloc _ _ _ z1).trans B1.out.2.1)
      obtain ⟨x0, x1, x2, f2⟩ := box_cells b2
      have M := MadeAt.set' (p := ⟨w.heap.size + 1, 2, none⟩) (MadeAt.set' (p := ⟨w.heap.size + 1, 1, none⟩) (MadeAt.set' (p := ⟨w.heap.size + 1, 0, none⟩) ⟨hm.own, (B1.out.1.alloc B1.out.1.size _).trans (hm.below.mono (by simp; omega))⟩ (by simp) (by simp; omega) (.slice A n c)) (by simp) (by simp; omega) (.int .i64 a2)) (by simp) (by simp; omega) (.int .i64 0)
      have HF : Hid (RTakePost A n c bs w (text1 (bs.drop a) 0 k) (.returned (.tuple #[.slice A2 n2 c2, .agg #[.slice A n c, .int .i64 a2, .int .i64 0]])) (((w2.setCell ⟨w.heap.size + 1, 0, none⟩ (.slice A n c)).setCell ⟨w.heap.size + 1, 1, none⟩ (.int .i64 a2)).setCell ⟨w.heap.size + 1, 2, none⟩ (.int .i64 0))) :=
        ⟨_, _, rfl, Made.mk (own_base M.1 (by simp; omega)) M.2, ⟨a2, ha2, hd2, by rw [E2]⟩⟩
      have HMW := Lib.hid (Nat.le_of_lt (lt_of_block b2))
      clear hm hd2 E E2 M b2 c0 c1 d0 d1 d2 f0 f1 HT0 HT5 HP
      go_wp2
      exact bodyPost_ret (v := .tuple #[.slice A2 n2 c2, .agg #[.slice A n c, .int .i64 a2, .int .i64 0]]) (by simp [results, Try.results49, go_sem, *]) rfl HF.out

theorem refTextR_any {A : Option Addr} {n c a : Nat} {bs : List Int} {e : Int} (w : World) (hs : Sb w A n bs) (hu : U8s bs) (hc : n ≤ c ∧ c ≤ maxLen) (ha : a ≤ n) (hn : n ≤ 140737488355328) (k : Int) (hk1 : -9223372036854775808 ≤ k) (hk : k ≤ 9223372036854775807) :
    Calls Try.prog 49 #[.agg #[.slice A n c, .int .i64 a, .int .i64 e], .int .i64 k] w (RTakePost A n c bs w (text1 (bs.drop a) e k)) := by
  by_cases hq : (var1 (bs.drop a) e).2.2 = 0
  · exact refText_good w hs hu hc ha hn k hk1 hk hq
  · exact refText_bad w hs hu hc ha hn k hq

end Go.Proofs.Ytchpobikbcelfaa
