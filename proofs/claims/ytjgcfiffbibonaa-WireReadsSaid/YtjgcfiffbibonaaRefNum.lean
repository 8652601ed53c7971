/-
  Contract of the reference's reader's Num.
-/
import Derived.Test.YtjgcfiffbibonaaRefRead
import Derived.Test.YtjgcfiffbibonaaWireRead
namespace Go.Proofs.Ytjgcfiffbibonaa
open Go.RowKit

def RNumPost (A : Option Addr) (n c : Nat) (bs : List Int) (w : World) (q : Int × List Int × Int) (e' : Ending) (w' : World) : Prop :=
  ∃ u, e' = .returned (.tuple #[.int .u64 q.1, u]) ∧ RTo A n c bs q.2.1 q.2.2 u ∧ Below w.heap.size w w'

theorem refNumR_any {A : Option Addr} {n c a : Nat} {bs : List Int} {e : Int} (w : World) (hs : Sb w A n bs) (hu : U8s bs) (hc : n ≤ c ∧ c ≤ maxLen) (ha : a ≤ n) (hn : n ≤ 140737488355328) (k : Int) (hk : k ≤ 9223372036854775807) :
    Calls Try.prog 20 #[.agg #[.slice A n c, .int .i64 a, .int .i64 e], .int .i64 k] w (RNumPost A n c bs w (num1 (bs.drop a) e k)) := by
  have hl := Lib.hid (show (bs.drop a).length = n - a by rw [List.length_drop, hs.len])
  have HB := Lib.hid (fun X Z : Obj => (((Below.refl w.heap.size w).alloc (Nat.le_refl _) X).alloc (by simp) Z).drew)
  by_cases h0 : e = 0
  · subst h0
    by_cases h1 : k < 1
    · have HP : ∀ w', Below w.heap.size w w' → RNumPost A n c bs w (num1 (bs.drop a) 0 k) (.returned (.tuple #[.int .u64 0, .agg #[.slice A n c, .int .i64 a, .int .i64 1]])) w' := by
        intro w' hb
        unfold num1; rw [if_neg (by simp), if_pos (by omega)]; exact ⟨_, rfl, ⟨a, ha, rfl, rfl⟩, hb⟩
      go_enter Try.func20, Try.ntmps20
      go_wp2
      go_region
      go_wp2
      exact bodyPost_ret (v := .tuple #[.int .u64 0, .agg #[.slice A n c, .int .i64 a, .int .i64 1]]) (by simp [results, Try.results20, go_sem]) rfl (HP _ (HB.out _ _))
    · by_cases h2 : 8 < k
      · have HP : ∀ w', Below w.heap.size w w' → RNumPost A n c bs w (num1 (bs.drop a) 0 k) (.returned (.tuple #[.int .u64 0, .agg #[.slice A n c, .int .i64 a, .int .i64 1]])) w' := by
          intro w' hb
          unfold num1; rw [if_neg (by simp), if_pos (by omega)]; exact ⟨_, rfl, ⟨a, ha, rfl, rfl⟩, hb⟩
        go_enter Try.func20, Try.ntmps20
        go_wp2
        go_region
        go_wp2
        exact bodyPost_ret (v := .tuple #[.int .u64 0, .agg #[.slice A n c, .int .i64 a, .int .i64 1]]) (by simp [results, Try.results20, go_sem]) rfl (HP _ (HB.out _ _))
      · have h1' : 1 ≤ k := by omega
        have h2' : k ≤ 8 := by omega
        by_cases h3 : ((n : Int) - a) < k
        · have HP : ∀ w', Below w.heap.size w w' → RNumPost A n c bs w (num1 (bs.drop a) 0 k) (.returned (.tuple #[.int .u64 0, .agg #[.slice A n c, .int .i64 a, .int .i64 2]])) w' := by
            intro w' hb
            unfold num1; rw [if_neg (by simp), if_neg (by omega), if_pos (by rw [hl.out]; omega)]; exact ⟨_, rfl, ⟨a, ha, rfl, rfl⟩, hb⟩
          clear h1 h2
          go_enter Try.func20, Try.ntmps20
          go_wp2
          go_region
          go_wp2
          exact bodyPost_ret (v := .tuple #[.int .u64 0, .agg #[.slice A n c, .int .i64 a, .int .i64 2]]) (by simp [results, Try.results20, go_sem]) rfl (HP _ (HB.out _ _))
        · obtain ⟨j, rfl⟩ : ∃ j : Nat, k = j := ⟨k.toNat, by omega⟩
          have hj : a + j ≤ n := by omega
          have hj8 : j ≤ 8 := by omega
          have hnc := hc.1
          have hcm := hc.2
          unfold maxLen at hcm
          have HP : ∀ w', Below w.heap.size w w' → RNumPost A n c bs w (num1 (bs.drop a) 0 j) (.returned (.tuple #[.int .u64 (valL 0 ((bs.drop a).take j)), .agg #[.slice A n c, .int .i64 ((a : Int) + j), .int .i64 0]])) w' := by
            intro w' hb
            unfold num1; rw [if_neg (by simp), if_neg (by omega), if_neg (by rw [hl.out]; omega)]; exact ⟨_, rfl, ⟨a + j, by omega, by simp [List.drop_drop], by simp⟩, hb⟩
          clear h1 h2 h3 hc
          go_enter Try.func20, Try.ntmps20
          go_wp2
          go_loop [7, 6] (fun i x => ∃ k : Nat, k ≤ j ∧ i = .int .i64 k ∧ x = .int .u64 (valL 0 ((bs.drop a).take k))) (fun i _ => j - (intOf i).toNat)
          case atStart => exact ⟨0, Nat.zero_le _, rfl, rfl⟩
          case round =>
            obtain ⟨k, hk', rfl, rfl⟩ := hrel
            by_cases hlt : k < j
            · obtain ⟨ad, rfl⟩ := hs.addr (by omega)
              have hcell := ((hs.alloc (.cells #[.slice (some ad) n c, .int .i64 a, .int .i64 0] 39)).alloc (.cells #[.slice none 0 0, .int .i64 0, .int .i64 0] 39)).cell (k := a + k) (by omega)
              have hd := hu.getD (a + k)
              have hstep := valL_step (zs := bs.drop a) (k := k) (by have := hl.out; omega)
              have hbd := valL_bound (zs := (bs.drop a).take k) (fun z hz => hu z (List.mem_of_mem_drop (List.mem_of_mem_take hz))) 0 (by omega)
              have hpow := pow256_le (i := ((bs.drop a).take k).length) (j := 7) (by simp; omega)
              have e7 : (256 : Int) ^ 7 = 72057594037927936 := by decide
              have eg : (bs.drop a).getD k 0 = bs.getD (a + k) 0 := by simp [List.getD]
              rw [e7] at hpow
              rw [eg] at hstep
              obtain ⟨d, hd'⟩ : ∃ d, d = bs.getD (a + k) 0 := ⟨_, rfl⟩
              rw [← hd'] at hcell hd hstep
              obtain ⟨acc, hacc⟩ : ∃ acc, acc = valL 0 ((bs.drop a).take k) := ⟨_, rfl⟩
              rw [← hacc] at hbd hstep ⊢
              obtain ⟨hb1, hb2⟩ := hbd
              have hb3 : acc < 72057594037927936 := by omega
              obtain ⟨hd1, hd2⟩ := hd
              have HS := Lib.hid hstep
              clear hstep hpow hb2 hd' hacc e7 eg
              go_wp2
              go_round
              case rel => exact ⟨k + 1, by omega, by go_num, by rw [HS.out]⟩
              case measure => simp [intOf]; omega
            · obtain rfl : k = j := by omega
              go_wp2
              go_region
              go_wp2
              exact bodyPost_ret (v := .tuple #[.int .u64 (valL 0 ((bs.drop a).take k)), .agg #[.slice A n c, .int .i64 ((a : Int) + k), .int .i64 0]]) (by simp [results, Try.results20, go_sem]) rfl (HP _ (HB.out _ _))
  · have HP : ∀ w', Below w.heap.size w w' → RNumPost A n c bs w (num1 (bs.drop a) e k) (.returned (.tuple #[.int .u64 0, .agg #[.slice A n c, .int .i64 a, .int .i64 e]])) w' := by
      intro w' hb
      unfold num1; rw [if_pos h0]; exact ⟨_, rfl, ⟨a, ha, rfl, rfl⟩, hb⟩
    have t0 : (e != 0) = true := by simpa using h0
    clear h0
    go_enter Try.func20, Try.ntmps20
    go_wp2
    go_region
    go_wp2
    exact bodyPost_ret (v := .tuple #[.int .u64 0, .agg #[.slice A n c, .int .i64 a, .int .i64 e]]) (by simp [results, Try.results20, go_sem]) rfl (HP _ (HB.out _ _))

end Go.Proofs.Ytjgcfiffbibonaa
