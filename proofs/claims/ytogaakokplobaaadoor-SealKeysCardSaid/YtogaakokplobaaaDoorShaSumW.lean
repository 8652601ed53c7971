/-
  The contract of Sum.
-/
import Derived.Test.YtogaakokplobaaaDoorShaSum
import Derived.Test.YtogaakokplobaaaDoorShaTurned
import Derived.Stop.BytesEq
namespace Go.Proofs.YtogaakokplobaaaDoor
open Go.RowKit

/-- Parts: a slice of slices of bytes that reads as a list of lists. -/
structure Ps (w : World) (A : Option Addr) (n : Nat) (L : List (List Int)) : Prop where
  len : L.length = n
  at_ : 0 < n → ∃ ad, A = some ad ∧ ad.block < w.heap.size ∧ ∀ k, k < n → ∃ A' m c', w.cell? (ad.add k) = some (.slice A' m c') ∧ Sb w A' m (L.getD k []) ∧ m ≤ c' ∧ c' ≤ 9223372036854775807 ∧ B8s (L.getD k [])

/-- Two arrays of bytes held against each other. -/
theorem all_range_int : ∀ (xs ys : List Int), xs.length = ys.length → ((List.range xs.length).all fun i => xs.getD i 0 == ys.getD i 0) = (xs == ys)
  | [], [], _ => rfl
  | x :: xs, y :: ys, h => by
    have ih := all_range_int xs ys (by simpa using h)
    rw [List.length_cons, List.range_succ_eq_map, List.all_cons, List.all_map]
    simp only [List.getD_cons_zero, Function.comp_def, List.getD_cons_succ, ih]
    simp [List.cons_beq_cons]
  | [], _ :: _, h => by simp at h
  | _ :: _, [], h => by simp at h
theorem run_equalIn_u8A {P : Program} (w : World) (d : Nat) (t e : TypeId) (n : Nat) (ht : P.underlying t = some (.array n e)) (he : P.underlying e = some (.int .u8)) (hsz : ∀ w, (sizeOf e).run P w = .ok 1 w)
    (xs ys : List Int) (hx : xs.length = n) (hy : ys.length = n) :
    (Op.equalIn (d + 2) t (.agg (u8A xs)) (.agg (u8A ys))).run P w = .ok (xs == ys) w := by
  rw [← all_range_int xs ys (hx.trans hy.symm), hx, List.range_eq_range', Op.equalIn]
  simp only [Sem.run_bind, run_underlying ht, Result.andThen_ok, hsz, Std.Legacy.Range.forIn_eq_forIn_range', Std.Legacy.Range.size, Nat.sub_zero, Nat.add_sub_cancel, Nat.div_one]
  have hl : ∀ i ∈ List.range' 0 n 1, i < n := fun i hi => by simpa using (List.mem_range'_1.1 hi).2
  generalize List.range' 0 n 1 = l at hl ⊢
  induction l with
  | nil => simp
  | cons i l ih =>
    have hi : i < n := hl i (by simp)
    have px : (part e (u8A xs) (i * 1)).run P w = .ok (.int .u8 (xs.getD i 0)) w := by
      simp [part, isAgg, run_underlying he, u8A_get (show i < xs.length by omega)]
    have py : (part e (u8A ys) (i * 1)).run P w = .ok (.int .u8 (ys.getD i 0)) w := by
      simp [part, isAgg, run_underlying he, u8A_get (show i < ys.length by omega)]
    have pe : (Op.equalIn (d + 1) e (.int .u8 (xs.getD i 0)) (.int .u8 (ys.getD i 0))).run P w = .ok (xs.getD i 0 == ys.getD i 0) w := by
      rw [run_equalIn_int w d e .u8 .u8 _ _ he]
    simp only [List.forIn_cons, Sem.run_bind, px, py, pe, Result.andThen_ok, List.all_cons]
    cases hb : (xs.getD i 0 == ys.getD i 0)
    · simp
    · simp only [Bool.not_true, Bool.false_eq_true, if_false, Sem.run_pure, Result.andThen_ok, Bool.true_and]
      exact ih fun j hj => hl j (by simp [hj])
theorem run_eql_u8A {P : Program} (w : World) (t e : TypeId) (n : Nat) (ht : P.underlying t = some (.array n e)) (he : P.underlying e = some (.int .u8)) (hsz : ∀ w, (sizeOf e).run P w = .ok 1 w)
    (xs ys : List Int) (hx : xs.length = n) (hy : ys.length = n) : (binOp .eql t (.agg (u8A xs)) (.agg (u8A ys))).run P w = .ok (.bool (xs == ys)) w := by
  rw [run_eql_struct, run_equalIn_u8A w 9998 t e n ht he hsz xs ys hx hy]
  rfl
theorem run_neq_u8A {P : Program} (w : World) (t e : TypeId) (n : Nat) (ht : P.underlying t = some (.array n e)) (he : P.underlying e = some (.int .u8)) (hsz : ∀ w, (sizeOf e).run P w = .ok 1 w)
    (xs ys : List Int) (hx : xs.length = n) (hy : ys.length = n) : (binOp .neq t (.agg (u8A xs)) (.agg (u8A ys))).run P w = .ok (.bool (!(xs == ys))) w := by
  simp only [binOp]
  simp [Op.equal, Op.maxDepth, run_equalIn_u8A w 9998 t e n ht he hsz xs ys hx hy]

theorem size1 (w : World) : (sizeOf 5).run Tryd.prog w = .ok 1 w := by kernel_rfl
theorem elemS : (Tryd.prog.info? 5).map (·.size) = some 1 := info1
/-- A slice of one-cell elements from place k on. -/
theorem run_slice_low {P : Program} (w : World) (t e : TypeId) (A : Option Addr) (n c k : Nat) (ht : P.underlying t = some (.slice e)) (hsz : ∀ w, (sizeOf e).run P w = .ok 1 w) (hk : k ≤ n) :
    (Instr.sliceAt t (.slice A n c) (some (.int .i64 (k : Int))) none none).run P w = .ok (.slice (if c = k then A else A.map (·.add k)) (n - k) (c - k)) w := by
  have h1 : (0 : Int) ≤ (k : Int) ∧ (k : Int) ≤ (n : Int) := ⟨by omega, by omega⟩
  simp [Instr.sliceAt, Instr.slice, run_underlying ht, Instr.sliceBounds, Instr.sliceBound, asIntOf, hsz, hk]

theorem splice_map (op news : List Int) (k : Nat) : splice (op.map (Value.int .u8)) k (news.map (Value.int .u8)) = (splice op k news).map (Value.int .u8) := by
  simp [splice, List.map_take, List.map_drop]

theorem wpList_build0 {P : Program} {ops : Array Oper} {rest : List Oper} {o : Oper} {a : Act} {w : World} {Q : Exit → Act → World → Prop} (hg : o.guard = none) (t : TypeId) (ho : o.op = .build t #[])
    (cells : Array Value) (hb : P.built t [] = some cells) (h : wpList P ops Q rest (a.put o.dst (.agg cells)) w) : wpList P ops Q (o :: rest) a w := by
  have e : (#[].map fun (p : Nat × Operand) => (p.1, a.eval p.2)).toList = [] := by simp
  exact wpList_build hg t #[] ho (by rw [e, hb]; rfl) (by rw [e, hb]; exact h)
theorem agB (w : World) : (isAgg 80).run Tryd.prog w = .ok true w := by kernel_rfl
theorem szB (w : World) : (sizeOf 80).run Tryd.prog w = .ok 64 w := by kernel_rfl
theorem u8A_extract (l : List Int) (a b : Nat) : (u8A l).extract a b = u8A ((l.drop a).take (b - a)) := by
  unfold u8A
  simp [List.map_take, List.map_drop]
/-- One of the last blocks, out of both. -/
theorem run_index_blk (es : List Int) (i : Nat) (hi : i < 2) (w : World) : (Instr.index 82 (.agg (u8A es)) (.int .i64 (i : Int))).run Tryd.prog w = .ok (.agg (u8A ((es.drop (64 * i)).take 64))) w := by
  simp [Instr.index, asIntOf, run_underlying Tryd.underlying82, hi, part, u8A_extract, Nat.mul_comm]
/-- The words behind the first i of the last blocks. -/
def finK (v es : List Int) : Nat → List Int
  | 0 => v
  | i + 1 => fin1 (finK v es i) ((es.drop (64 * i)).take 64)
theorem finK_len {v : List Int} (h : v.length = 8) (es : List Int) (i : Nat) : (finK v es i).length = 8 := by
  induction i with
  | zero => exact h
  | succ i ih => exact fin1_len ih _
theorem finK_w {v : List Int} (h : U32s v) (es : List Int) (i : Nat) : U32s (finK v es i) := by
  induction i with
  | zero => exact h
  | succ i ih => exact fin1_w ih _
theorem markB_b {bs : List Int} (h : B8s bs) (a : Nat) : B8s (markB bs a) := fun z hz => by
  simp only [markB, List.mem_append, List.mem_cons] at hz
  rcases hz with hz | rfl | hz
  · exact h z (List.mem_of_mem_take hz)
  · omega
  · have := List.eq_of_mem_replicate hz; omega
theorem endsS_b {op : List Int} (h1 : op.length = 64) (h : B8s op) (n : Nat) : B8s (endsS op n) := fun z hz => by
  unfold endsS at hz
  have hz64 : B8s z64 := by unfold z64; intro z hz; have := List.eq_of_mem_replicate hz; omega
  have hlk : ∀ bs : List Int, bs.length = 64 → B8s bs → B8s (lenK bs n 8) := fun bs hl hb => by
    rw [lenK_eq bs hl]
    intro z hz
    rcases List.mem_append.1 hz with h | h
    · exact hb z (List.mem_of_mem_take h)
    · exact lenB_b n z h
  split at hz
  · rcases List.mem_append.1 hz with h2 | h2
    · exact hlk _ (markB_len h1 (by omega)) (markB_b h _) z h2
    · have := List.eq_of_mem_replicate h2; omega
  · rcases List.mem_append.1 hz with h2 | h2
    · exact markB_b h _ z h2
    · exact hlk _ rfl hz64 z h2

/-- How many elements a slice has. -/
def lenOf : Value → Nat
  | .slice _ r _ => r
  | _ => 0
/-- The sum's own memory while bytes come. -/
def Stt (w wr : World) (g : Nat) (don op : List Int) : Prop :=
  Blk wr w.heap.size 46 (u8A (List.replicate 32 0)) ∧ Blk wr g 78 (u32A (blkN don (don.length / 64))) ∧ Blk wr (g + 1) 80 (u8A op) ∧ Tl op don ∧ Below w.heap.size w wr

set_option maxRecDepth 100000 in
set_option maxHeartbeats 3200000 in
theorem shaSum_any {A : Option Addr} {n c : Nat} {L : List (List Int)} (w : World) (hr : Roots w) (hp : Ps w A n L) (hl : L.flatten.length ≤ 1125899906842624) (hn : n ≤ 9223372036854775807) :
    Calls Tryd.prog 43 #[.slice A n c] w fun e w' => e = .returned (.agg (u8A (shaS L.flatten))) ∧ Below w.heap.size w w' := by
  have H := Lib.hid (And.intro hr (And.intro hp hl))
  clear hr hp hl
  go_enter Tryd.func43, Tryd.ntmps43
  go_wp2_with fail
  obtain ⟨w0, hw0⟩ : ∃ w0, w0 = w.alloc (Obj.cells #[Value.int IntKind.u8 0, Value.int IntKind.u8 0, Value.int IntKind.u8 0, Value.int IntKind.u8 0, Value.int IntKind.u8 0, Value.int IntKind.u8 0, Value.int IntKind.u8 0, Value.int IntKind.u8 0, Value.int IntKind.u8 0, Value.int IntKind.u8 0, Value.int IntKind.u8 0, Value.int IntKind.u8 0, Value.int IntKind.u8 0, Value.int IntKind.u8 0, Value.int IntKind.u8 0, Value.int IntKind.u8 0, Value.int IntKind.u8 0, Value.int IntKind.u8 0, Value.int IntKind.u8 0, Value.int IntKind.u8 0, Value.int IntKind.u8 0, Value.int IntKind.u8 0, Value.int IntKind.u8 0, Value.int IntKind.u8 0, Value.int IntKind.u8 0, Value.int IntKind.u8 0, Value.int IntKind.u8 0, Value.int IntKind.u8 0, Value.int IntKind.u8 0, Value.int IntKind.u8 0, Value.int IntKind.u8 0, Value.int IntKind.u8 0] 46) := ⟨_, rfl⟩
  have H0 := Lib.hid (show Blk w0 w.heap.size 46 (u8A (List.replicate 32 0)) ∧ Below w.heap.size w w0 ∧ w0.heap.size = w.heap.size + 1 from by
    rw [hw0]
    exact ⟨Blk.new _ _ _, (Below.refl _ _).alloc (Nat.le_refl _) _, by simp⟩)
  rw [← hw0]
  clear hw0
  refine (firstWords_any _).mono ?_
  rintro e w1 ⟨rfl, hb1⟩
  have H1 := Lib.hid (show Blk w1 w.heap.size 46 (u8A (List.replicate 32 0)) ∧ Below w.heap.size w w1 ∧ w.heap.size < w1.heap.size from by
    have hz := H0.out.2.2
    exact ⟨H0.out.1.below hb1 (by omega), H0.out.2.1.trans (hb1.mono (by omega)), by have := hb1.size; omega⟩)
  clear hb1 H0
  have hb2 : Hid (Blk (w1.alloc (.cells (u32A (List.replicate 8 0)) 78)) w1.heap.size 78 (u32A (List.replicate 8 0))) := Blk.new _ _ _
  go_wp2_with (refine wpList_store_row rfl 78 (.tmp 3) (.tmp 11) rfl w1.heap.size (u32A iv) rfl rfl 78 (u32A (List.replicate 8 0)) hb2.out infoW rfl (u32A_one _) ?_)
  clear hb2
  go_loopw [5, 14] (fun nv i wr => ∃ (k : Nat) (op : List Int), k ≤ n ∧ i = .int .i64 k ∧ nv = .int .u64 ((L.take k).flatten.length : Nat) ∧ Stt w wr w1.heap.size (L.take k).flatten op) (fun _ i _ => n - (intOf i).toNat)
  case atStart =>
    have h1 := H1.out.2.2
    refine ⟨0, z64, Nat.zero_le _, rfl, rfl, ((H1.out.1.alloc _).otherRow _ (by omega)).alloc _, ?_, Blk.new' (by simp) _ _, tl_zero rfl (by unfold z64; intro z hz; have := List.eq_of_mem_replicate hz; omega) rfl, (below_setRow (H1.out.2.1.alloc (by omega) _) (by omega) _).alloc (by simp; omega) _⟩
    rw [show blkN (List.take 0 L).flatten ((List.take 0 L).flatten.length / 64) = iv by simp [blkN]]
    exact ((Blk.new _ _ _).setRow _).alloc _
  case round =>
    obtain ⟨k, op, hk, rfl, rfl, hst⟩ := hrel
    by_cases hlt : k < n
    · have hkl : (k : Int) < (n : Int) := by omega
      obtain ⟨ad, rfl, hblt, hel⟩ := H.out.2.1.at_ (by omega)
      obtain ⟨A', m, c', hc, hsb, hmc, hcm, hb8⟩ := hel k hlt
      have hcell := (hst.2.2.2.2.cell (p := ad.add k) (by rw [addBlock]; exact hblt)).trans hc
      have X := Lib.hid (And.intro hst (And.intro hsb hb8))
      have XL := Lib.hid (show (L.take (k + 1)).flatten = (L.take k).flatten ++ L.getD k [] from by
        have hkL : k < L.length := by rw [H.out.2.1.len]; exact hlt
        rw [List.take_succ_eq_append_getElem hkL, List.flatten_append]
        simp [List.getD, List.getElem?_eq_getElem hkL])
      clear hst hsb hb8 hel hblt hc
      go_wp2_with fail
      obtain ⟨wo, rfl⟩ : ∃ wo : World, wo = wr := ⟨_, rfl⟩
      go_loopw [5, 7] (fun nv pv wq => ∃ (don rest op : List Int) (A2 : Option Addr) (r c2 : Nat), don ++ rest = (L.take k).flatten ++ L.getD k [] ∧ nv = .int .u64 (don.length : Nat) ∧ pv = .slice A2 r c2 ∧ r ≤ c2 ∧ c2 ≤ 9223372036854775807 ∧ Sb w A2 r rest ∧ B8s rest ∧ Stt w wq w1.heap.size don op) (fun _ pv _ => lenOf pv)
      case atStart => exact ⟨_, L.getD k [], op, A', m, c', rfl, rfl, rfl, hmc, hcm, X.out.2.1, X.out.2.2, X.out.1⟩
      case round =>
        clear X hcell
        obtain ⟨don, rest, op, A2, r, c2, heq, rfl, rfl, hrc, hcc, hsb, hb8, hst⟩ := hrel
        have HQ := Lib.hid (And.intro heq (And.intro hsb hb8))
        have hdl : don.length + rest.length ≤ 1125899906842624 := by
          have h1 := congrArg List.length heq
          have h2 := congrArg List.length XL.out
          simp only [List.length_append] at h1 h2
          have h3 : (L.take (k + 1)).flatten.length ≤ L.flatten.length := by
            have h4 := congrArg (fun l => l.flatten.length) (List.take_append_drop (k + 1) L)
            simp only [List.flatten_append, List.length_append] at h4
            omega
          have h5 := H.out.2.2
          omega
        have hrl : rest.length = r := hsb.len
        rw [hrl] at hdl
        clear heq hb8 hrl
        by_cases hr0 : 0 < r
        · obtain ⟨ad2, rfl⟩ := hsb.addr hr0
          obtain ⟨news, hnews⟩ : ∃ news, news = rest.take (64 - don.length % 64) := ⟨_, rfl⟩
          have hnl : news.length = Nat.min r (64 - don.length % 64) := by rw [hnews, List.length_take, hsb.len]; exact Nat.min_comm _ _
          have hn1 : 0 < news.length := by rw [hnl]; exact Nat.lt_min.2 ⟨hr0, by omega⟩
          have hn2 : news.length ≤ r := by rw [hnl]; exact Nat.min_le_left _ _
          have hn3 : don.length % 64 + news.length ≤ 64 := by have : news.length ≤ 64 - don.length % 64 := by rw [hnl]; exact Nat.min_le_right _ _
                                                              omega
          have hnb : B8s news := by rw [hnews]; intro z hz; exact HQ.out.2.2 z (List.mem_of_mem_take hz)
          have hsl1 := fun w' => run_slB w1.heap.size.succ (don.length % 64) (by omega) .u64 w'
          have hsl2 := fun w' => run_slice_low (P := Tryd.prog) w' 22 5 (some ad2) r c2 news.length Tryd.underlying22 size1 hn2
          obtain ⟨A3, hA3⟩ : ∃ A3, A3 = (if c2 = news.length then some ad2 else (some ad2).map (·.add news.length)) := ⟨_, rfl⟩
          rw [← hA3] at hsl2
          obtain ⟨os, hos⟩ : ∃ os, os = slB w1.heap.size.succ (don.length % 64) := ⟨_, rfl⟩
          have hoe : os = .slice (some (if 64 = don.length % 64 then ⟨w1.heap.size.succ, 0, none⟩ else ⟨w1.heap.size.succ, don.length % 64, none⟩)) (64 - don.length % 64) (64 - don.length % 64) := hos
          rw [if_neg (by omega)] at hoe
          rw [← hos, hoe] at hsl1
          have em : ((don.length % 64 : Nat) : Int) = (don.length : Int) % 64 := by omega
          rw [em] at hsl1
          have HN := Lib.hid (And.intro hnews (And.intro hnl (And.intro hnb hA3)))
          have b1 : (0 : Int) < (r : Int) := by omega
          have b2 : (news.length : Int) ≤ (r : Int) := by omega
          have b3 : (don.length : Int) + (news.length : Int) ≤ 1125899906842624 := by omega
          have HS := Lib.hid hst
          have hfr : news = rest.take news.length := by
            rw [hnews, List.length_take]
            have := hsb.len
            rw [List.take_eq_take_iff]
            omega
          have hsr : Sb wr (some ad2) news.length news := by
            have h1 := (hsb.front hn2).below hst.2.2.2.2
            rwa [← hfr] at h1
          have HC := Lib.hid (show (∀ (j : Nat) (v : Value), (news.map (Value.int .u8))[j]? = some v → wr.cell? (ad2.add j) = some v) ∧ don.length % 64 + (news.map (Value.int .u8)).length ≤ (op.map (Value.int .u8)).length from ⟨hsr.news, by simp only [List.length_map, hst.2.2.2.1.1]; exact hn3⟩)
          have hdrop := hsb.cut (c := c2) hn2 hrc
          have HD := Lib.hid (show don ++ news ++ rest.drop news.length = (L.take k).flatten ++ L.getD k [] ∧ Sb w A3 (r - news.length) (rest.drop news.length) ∧ B8s (rest.drop news.length) from by
            refine ⟨?_, by rw [hA3]; exact hdrop, fun z hz => HQ.out.2.2 z (List.mem_of_mem_drop hz)⟩
            rw [List.append_assoc, ← HQ.out.1]
            congr 1
            have h1 := List.take_append_drop news.length rest
            rw [← hfr] at h1
            exact h1)
          clear hnews hnl hnb hA3 hos hoe em hst hfr hsr hdrop hsb
          obtain ⟨V, hV⟩ : ∃ V, V = blkN don (don.length / 64) := ⟨_, rfl⟩
          by_cases hfull : don.length % 64 + news.length = 64
          · have hd : (((don.length : Int) + (news.length : Int)) % 64 == 0) = true := by simp; omega
            obtain ⟨op2, hop2⟩ : ∃ o, o = splice op (don.length % 64) news := ⟨_, rfl⟩
            have HF := Lib.hid (show Tl op2 (don ++ news) ∧ (don ++ news).length / 64 = don.length / 64 + 1 ∧ comp V op2 = blkN (don ++ news) (don.length / 64 + 1) ∧ V.length = 8 ∧ U32s V ∧ op2.length = 64 ∧ B8s op2 from by
              have h1 := tl_full HS.out.2.2.2.1 HN.out.2.2.1 hfull
              rw [← hop2, ← hV] at h1
              exact ⟨h1.1, h1.2.1, h1.2.2, by rw [hV]; exact blkN_len _ _, by rw [hV]; exact blkN_w _ _, h1.1.1, h1.1.2.1⟩)
            have HO := Lib.hid hop2
            have HV := Lib.hid hV
            clear hfull hV hop2
            go_wp2_with (first
              | (refine wpList_copy_splice rfl (.tmp 23) (.tmp 24) 22 22 rfl 5 Tryd.underlying22 elemS _ _ _ _ _ _ rfl rfl (w1.heap.size + 1) (don.length % 64) (op.map (Value.int .u8)) 80 HS.out.2.2.1 (news.map (Value.int .u8)) (by rw [List.length_map]; exact HN.out.2.1) (fun _ => ⟨rfl, ad2, rfl, HC.out.1⟩) HC.out.2 (oneCells _) (w1.heap.size + 1) wr (Below.refl _ _) (Nat.le_refl _) ?_
                 intro wc hwc hbc
                 rw [splice_map, ← HO.out] at hwc
                 have HW := Lib.hid (show Blk wc w.heap.size 46 (u8A (List.replicate 32 0)) ∧ Blk wc w1.heap.size 78 (u32A V) ∧ Blk wc (w1.heap.size + 1) 80 (u8A op2) ∧ Below w.heap.size w wc from by
                   have hz := H1.out.2.2
                   refine ⟨HS.out.1.below hbc (by omega), ?_, hwc.out, HS.out.2.2.2.2.trans (hbc.mono (by omega))⟩
                   rw [HV.out]
                   exact HS.out.2.1.below hbc (by omega))
                 clear hwc hbc)
              | (refine wpList_load_row rfl 78 (.tmp 3) rfl w1.heap.size rfl 78 (u32A V) (0, 0) _ HW.out.2.1 Tryd.underlying78 rfl (by rw [u32A_size, HF.out.2.2.2.1]; exact infoW) ?_)
              | (refine wpList_load_row rfl 80 (.tmp 4) rfl (w1.heap.size + 1) rfl 80 (u8A op2) (0, 0) _ HW.out.2.2.1 Tryd.underlying80 rfl (by rw [u8A_size, HF.out.2.2.2.2.2.1]; exact infoB) ?_))
            refine (turned_any V op2 _ (H.out.1.below HW.out.2.2.2) HF.out.2.2.2.1 HF.out.2.2.2.2.1 HF.out.2.2.2.2.2.1 HF.out.2.2.2.2.2.2).mono ?_
            rintro e w6 ⟨rfl, hb6⟩
            have H6 := Lib.hid (show Blk w6 w.heap.size 46 (u8A (List.replicate 32 0)) ∧ Blk w6 w1.heap.size 78 (u32A V) ∧ Blk w6 (w1.heap.size + 1) 80 (u8A op2) ∧ Below w.heap.size w w6 from
              ⟨HW.out.1.below hb6 HW.out.1.lt, HW.out.2.1.below hb6 HW.out.2.1.lt, HW.out.2.2.1.below hb6 HW.out.2.2.1.lt, HW.out.2.2.2.trans (hb6.mono HW.out.2.2.2.size)⟩)
            clear hb6
            go_wp2_with (refine wpList_store_row rfl 78 (.tmp 3) (.tmp 38) rfl w1.heap.size (u32A (comp V op2)) rfl rfl 78 (u32A V) H6.out.2.1 (by rw [u32A_size, comp_len]; exact infoW) (by rw [u32A_size, u32A_size, comp_len, HF.out.2.2.2.1]) (u32A_one _) ?_)
            simp only [Act.put]
            go_roundw
            case rel =>
              have hz := H1.out.2.2
              refine ⟨don ++ news, rest.drop news.length, op2, A3, r - news.length, c2 - news.length, HD.out.1, by simp, rfl, by omega, by omega, HD.out.2.1, HD.out.2.2, H6.out.1.otherRow _ (by omega), ?_, H6.out.2.2.1.otherRow _ (by omega), HF.out.1, below_setRow H6.out.2.2.2 (by omega) _⟩
              have h1 := H6.out.2.1.setRow (u32A (comp V op2))
              rw [HF.out.2.1, ← HF.out.2.2.1]
              exact h1
            case measure => show r - news.length < r; omega
          · have hd : (((don.length : Int) + (news.length : Int)) % 64 == 0) = false := by simp; omega
            obtain ⟨op2, hop2⟩ : ∃ o, o = splice op (don.length % 64) news := ⟨_, rfl⟩
            have HF := Lib.hid (show Tl op2 (don ++ news) ∧ V = blkN (don ++ news) ((don ++ news).length / 64) from by
              have h1 := tl_open HS.out.2.2.2.1 HN.out.2.2.1 (by omega)
              rw [← hop2] at h1
              refine ⟨h1, ?_⟩
              have hq : (don ++ news).length / 64 = don.length / 64 := by simp; omega
              rw [hq, blkN_app _ _ _ (by omega), hV])
            have HO := Lib.hid hop2
            have HV := Lib.hid hV
            clear hfull hV hop2
            go_wp2_with (refine wpList_copy_splice rfl (.tmp 23) (.tmp 24) 22 22 rfl 5 Tryd.underlying22 elemS _ _ _ _ _ _ rfl rfl (w1.heap.size + 1) (don.length % 64) (op.map (Value.int .u8)) 80 HS.out.2.2.1 (news.map (Value.int .u8)) (by rw [List.length_map]; exact HN.out.2.1) (fun _ => ⟨rfl, ad2, rfl, HC.out.1⟩) HC.out.2 (oneCells _) (w1.heap.size + 1) wr (Below.refl _ _) (Nat.le_refl _) ?_
                         intro wc hwc hbc
                         rw [splice_map, ← HO.out] at hwc
                         have HW := Lib.hid (show Blk wc w.heap.size 46 (u8A (List.replicate 32 0)) ∧ Blk wc w1.heap.size 78 (u32A V) ∧ Blk wc (w1.heap.size + 1) 80 (u8A op2) ∧ Below w.heap.size w wc from by
                           have hz := H1.out.2.2
                           refine ⟨HS.out.1.below hbc (by omega), ?_, hwc.out, HS.out.2.2.2.2.trans (hbc.mono (by omega))⟩
                           rw [HV.out]
                           exact HS.out.2.1.below hbc (by omega))
                         clear hwc hbc)
            go_roundw
            case rel =>
              refine ⟨don ++ news, rest.drop news.length, op2, A3, r - news.length, c2 - news.length, HD.out.1, by simp, rfl, by omega, by omega, HD.out.2.1, HD.out.2.2, HW.out.1, ?_, HW.out.2.2.1, HF.out.1, HW.out.2.2.2⟩
              rw [← HF.out.2]
              exact HW.out.2.1
            case measure => show r - news.length < r; omega
        · obtain rfl : r = 0 := by omega
          have HS := Lib.hid (show don = (L.take (k + 1)).flatten ∧ Stt w wr w1.heap.size don op from by
            have h1 := HQ.out.1
            rw [List.eq_nil_of_length_eq_zero hsb.len, List.append_nil] at h1
            exact ⟨h1.trans XL.out.symm, hst⟩)
          clear hst hsb
          go_wp2_with fail
          go_roundw
          case rel =>
            have h1 := HS.out.2
            have h2 := HS.out.1
            rw [h2] at h1 ⊢
            exact ⟨k + 1, op, by omega, by go_num, rfl, h1⟩
          case measure => simp [intOf]; omega
    · have HS := Lib.hid (show (L.take k).flatten = L.flatten ∧ Stt w wr w1.heap.size (L.take k).flatten op from ⟨by rw [List.take_of_length_le (by rw [H.out.2.1.len]; omega)], hst⟩)
      have hd : decide ((k : Int) < (n : Int)) = false := by simp; omega
      clear hst
      obtain ⟨don, hdon⟩ : ∃ d, d = (L.take k).flatten := ⟨_, rfl⟩
      rw [← hdon] at HS ⊢
      have hdl : don.length ≤ 1125899906842624 := by
        have h1 := HS.out.1
        rw [h1]
        exact H.out.2.2
      clear hdon
      go_wp2_with (refine wpList_load_row rfl 80 (.tmp 4) rfl (w1.heap.size + 1) rfl 80 (u8A op) (0, 0) _ HS.out.2.2.2.1 Tryd.underlying80 rfl (by rw [u8A_size, HS.out.2.2.2.2.1.1]; exact infoB) ?_)
      refine (ends_any op don.length _ HS.out.2.2.2.2.1.1 hdl).mono ?_
      rintro e w2 ⟨rfl, hb2⟩
      obtain ⟨es, hes⟩ : ∃ es, es = endsS op don.length := ⟨_, rfl⟩
      obtain ⟨V, hV⟩ : ∃ V, V = blkN don (don.length / 64) := ⟨_, rfl⟩
      rw [← hes]
      have HE := Lib.hid (show es.length = 128 ∧ B8s es ∧ V.length = 8 ∧ U32s V ∧ shaS L.flatten = outK (finK V es 2) 32 from by
        have h1 := HS.out.2.2.2.2.1
        refine ⟨by rw [hes]; exact endsS_len h1.1 _, by rw [hes]; exact endsS_b h1.1 h1.2.1 _, by rw [hV]; exact blkN_len _ _, by rw [hV]; exact blkN_w _ _, ?_⟩
        rw [← HS.out.1, shaS, ← fin_eq h1 hdl, ← hV, ← hes]
        show _ = outK (fin1 (fin1 V ((es.drop 0).take 64)) ((es.drop 64).take 64)) 32
        rw [List.drop_zero, List.take_of_length_le (l := es.drop 64) (by rw [hes, List.length_drop, endsS_len h1.1]; omega)])
      have H2 := Lib.hid (show Blk w2 w.heap.size 46 (u8A (List.replicate 32 0)) ∧ Blk w2 w1.heap.size 78 (u32A V) ∧ Below w.heap.size w w2 from by
        refine ⟨HS.out.2.1.below hb2 HS.out.2.1.lt, ?_, HS.out.2.2.2.2.2.trans (hb2.mono HS.out.2.2.2.2.2.size)⟩
        rw [hV]
        exact HS.out.2.2.1.below hb2 HS.out.2.2.1.lt)
      clear hb2 hes hV HS hd hk hlt hdl
      go_wp2_with fail
      go_loopw [43] (fun i wr => ∃ j : Nat, j ≤ 2 ∧ i = .int .i64 j ∧ Blk wr w.heap.size 46 (u8A (List.replicate 32 0)) ∧ Blk wr w1.heap.size 78 (u32A (finK V es j)) ∧ Below w.heap.size w wr) (fun i _ => 2 - (intOf i).toNat)
      case atStart => exact ⟨0, by omega, rfl, H2.out.1, H2.out.2.1, H2.out.2.2⟩
      case round =>
        clear H2
        obtain ⟨j, hj, rfl, hres, hnow, hbel⟩ := hrel
        by_cases hlt : j < 2
        · have hjl : (j : Int) < 2 := by omega
          obtain ⟨e, he⟩ : ∃ e, e = (es.drop (64 * j)).take 64 := ⟨_, rfl⟩
          have hidx := run_index_blk es j hlt
          rw [← he] at hidx
          obtain ⟨U, hU⟩ : ∃ U, U = finK V es j := ⟨_, rfl⟩
          rw [← hU] at hnow
          have hel : e.length = 64 := by rw [he, List.length_take, List.length_drop, HE.out.1]; omega
          have HJ := Lib.hid (show e.length = 64 ∧ B8s e ∧ U.length = 8 ∧ U32s U ∧ finK V es (j + 1) = fin1 U e from
            ⟨hel, by rw [he]; exact fun z hz => HE.out.2.1 z (List.mem_of_mem_drop (List.mem_of_mem_take hz)), by rw [hU]; exact finK_len HE.out.2.2.1 _ _, by rw [hU]; exact finK_w HE.out.2.2.2.1 _ _, by rw [hU, he]; rfl⟩)
          obtain ⟨bb, hbb⟩ : ∃ bb, bb = (e == z64) := ⟨_, rfl⟩
          have hneq := fun w' => run_neq_u8A (P := Tryd.prog) w' 80 5 64 Tryd.underlying80 Tryd.underlying5 size1 e z64 hel rfl
          rw [← hbb] at hneq
          have hnew : Hid (Blk (wr.alloc (.cells (u8A z64) 80)) wr.heap.size 80 (u8A z64)) := Blk.new _ _ _
          have HW := Lib.hid (show Blk ((wr.alloc (.cells (u8A z64) 80)).setRow wr.heap.size (u8A e)) w.heap.size 46 (u8A (List.replicate 32 0)) ∧ Blk ((wr.alloc (.cells (u8A z64) 80)).setRow wr.heap.size (u8A e)) w1.heap.size 78 (u32A U) ∧ Blk ((wr.alloc (.cells (u8A z64) 80)).setRow wr.heap.size (u8A e)) wr.heap.size 80 (u8A e) ∧ Below w.heap.size w ((wr.alloc (.cells (u8A z64) 80)).setRow wr.heap.size (u8A e)) from
            ⟨(hres.alloc _).otherRow _ (Nat.ne_of_lt hres.lt), (hnow.alloc _).otherRow _ (Nat.ne_of_lt hnow.lt), (Blk.new _ _ _).setRow _, below_setRow (hbel.alloc hbel.size _) hbel.size _⟩)
          have HBB := Lib.hid hbb
          clear hres hnow hbel he hU hel hbb
          cases bb with
          | true =>
            have hF := Lib.hid (show finK V es (j + 1) = U from by rw [HJ.out.2.2.2.2, fin1, if_pos (by simpa using HBB.out.symm)])
            go_wp2_with (first
              | (refine wpList_store_row rfl 80 (.tmp 10) (.tmp 45) rfl wr.heap.size (u8A e) rfl rfl 80 (u8A z64) hnew.out (by rw [u8A_size, HJ.out.1]; exact infoB) (by rw [u8A_size, u8A_size, HJ.out.1]; rfl) (u8A_one _) ?_)
              | (refine wpList_load_row rfl 80 (.tmp 10) rfl wr.heap.size rfl 80 (u8A e) (0, 0) _ HW.out.2.2.1 Tryd.underlying80 rfl (by rw [u8A_size, HJ.out.1]; exact infoB) ?_)
              | (refine wpList_build0 rfl 80 rfl _ built_none ?_))
            go_roundw
            case rel => exact ⟨j + 1, by omega, by go_num, HW.out.1, by rw [hF.out]; exact HW.out.2.1, HW.out.2.2.2⟩
            case measure => simp [intOf]; omega
          | false =>
            have hF := Lib.hid (show finK V es (j + 1) = comp U e from by rw [HJ.out.2.2.2.2, fin1, if_neg (by simpa using HBB.out.symm)])
            go_wp2_with (first
              | (refine wpList_store_row rfl 80 (.tmp 10) (.tmp 45) rfl wr.heap.size (u8A e) rfl rfl 80 (u8A z64) hnew.out (by rw [u8A_size, HJ.out.1]; exact infoB) (by rw [u8A_size, u8A_size, HJ.out.1]; rfl) (u8A_one _) ?_)
              | (refine wpList_load_row rfl 80 (.tmp 10) rfl wr.heap.size rfl 80 (u8A e) (0, 0) _ HW.out.2.2.1 Tryd.underlying80 rfl (by rw [u8A_size, HJ.out.1]; exact infoB) ?_)
              | (refine wpList_build0 rfl 80 rfl _ built_none ?_)
              | (refine wpList_load_row rfl 78 (.tmp 3) rfl w1.heap.size rfl 78 (u32A U) (0, 0) _ HW.out.2.1 Tryd.underlying78 rfl (by rw [u32A_size, HJ.out.2.2.1]; exact infoW) ?_))
            refine (turned_any U e _ (H.out.1.below HW.out.2.2.2) HJ.out.2.2.1 HJ.out.2.2.2.1 HJ.out.1 HJ.out.2.1).mono ?_
            rintro e' w6 ⟨rfl, hb6⟩
            have H6 := Lib.hid (show Blk w6 w.heap.size 46 (u8A (List.replicate 32 0)) ∧ Blk w6 w1.heap.size 78 (u32A U) ∧ Below w.heap.size w w6 from
              ⟨HW.out.1.below hb6 HW.out.1.lt, HW.out.2.1.below hb6 HW.out.2.1.lt, HW.out.2.2.2.trans (hb6.mono HW.out.2.2.2.size)⟩)
            clear hb6 HW hnew
            go_wp2_with (refine wpList_store_row rfl 78 (.tmp 3) (.tmp 51) rfl w1.heap.size (u32A (comp U e)) rfl rfl 78 (u32A U) H6.out.2.1 (by rw [u32A_size, comp_len]; exact infoW) (by rw [u32A_size, u32A_size, comp_len, HJ.out.2.2.1]) (u32A_one _) ?_)
            go_roundw
            case rel =>
              have hz := H1.out.2.2
              exact ⟨j + 1, by omega, by go_num, H6.out.1.otherRow _ (by omega), by rw [hF.out]; exact H6.out.2.1.setRow _, below_setRow H6.out.2.2 (by omega) _⟩
            case measure => simp [intOf]; omega
        · obtain rfl : j = 2 := by omega
          have HX := Lib.hid (And.intro hres (And.intro hnow hbel))
          have hFL := Lib.hid (show (finK V es 2).length = 8 ∧ U32s (finK V es 2) from ⟨finK_len HE.out.2.2.1 _ _, finK_w HE.out.2.2.2.1 _ _⟩)
          clear hres hnow hbel hlt hj
          go_wp2_with (refine wpList_load_row rfl 78 (.tmp 3) rfl w1.heap.size rfl 78 (u32A (finK V es 2)) (0, 0) _ HX.out.2.1 Tryd.underlying78 rfl (by rw [u32A_size, hFL.out.1]; exact infoW) ?_)
          refine (laid_any (finK V es 2) _ hFL.out.1 hFL.out.2).mono ?_
          rintro e' w7 ⟨rfl, hb7⟩
          rw [← HE.out.2.2.2.2]
          have H7 := Lib.hid (show Blk w7 w.heap.size 46 (u8A (List.replicate 32 0)) ∧ Below w.heap.size w w7 from ⟨HX.out.1.below hb7 HX.out.1.lt, HX.out.2.2.trans (hb7.mono HX.out.2.2.size)⟩)
          clear hb7 HX
          go_wp2_with (refine wpList_store_row rfl 46 (.tmp 2) (.tmp 54) rfl w.heap.size (u8A (shaS L.flatten)) rfl rfl 46 (u8A (List.replicate 32 0)) H7.out.1 (by rw [u8A_size, shaS_len]; exact info32) (by rw [u8A_size, u8A_size, shaS_len]; simp) (u8A_one _) ?_)
          refine bodyPost_ret (v := .agg (u8A (shaS L.flatten))) (results_cell_row Tryd.results43 _ _ w.heap.size 46 _ (0, 0) _ rfl (H7.out.1.setRow _) Tryd.underlying46 rfl (by rw [u8A_size, shaS_len]; exact info32)) rfl ⟨rfl, below_setRow H7.out.2 (Nat.le_refl _) _⟩
end Go.Proofs.YtogaakokplobaaaDoor
