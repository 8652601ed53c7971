/-
  SHA-256 as plain functions on lists of integers: the round, the words of a block, a block, the padded bytes, the sum. No program.
-/
import Derived.Laws.BitsAllLaws
import Derived.OpenShut
namespace Go.Proofs.YtogaakokplobaaaDoor
open Go Go.ChangeShapes

/-- x turned right by n bits. -/
def rotL (x n : Int) : Int := bits .or .u32 (x / 2 ^ n.toNat) (x * 2 ^ (32 - n).toNat % 4294967296)

/-- Numbers that fit 32 bits. -/
def W1 (x : Int) : Prop := 0 ≤ x ∧ x ≤ 4294967295
def U32s (l : List Int) : Prop := ∀ z ∈ l, W1 z

theorem bits_w (op : BinOp) (a b : Int) : W1 (bits op .u32 a b) := bounds_u32 (wf_bits op .u32 a b)
theorem rotL_w (x n : Int) : W1 (rotL x n) := bits_w _ _ _
theorem mod_w (x : Int) : W1 (x % 4294967296) := by unfold W1; omega

theorem bits_or_comm {a b : Int} (ha : W1 a) (hb : W1 b) : bits .or .u32 a b = bits .or .u32 b a := by
  unfold W1 at ha hb
  rw [u32_or a b (by omega) (by omega) (by omega) (by omega), u32_or b a (by omega) (by omega) (by omega) (by omega), Nat.or_comm]

theorem bits_not {a : Int} (ha : W1 a) : bits .xor .u32 4294967295 a = 4294967295 - a := by
  unfold W1 at ha
  obtain ⟨A, rfl⟩ := Int.eq_ofNat_of_zero_le ha.1
  rw [u32_xor 4294967295 A (by omega) (by omega) (by omega) (by omega)]
  have h1 : (4294967295 : Int).toNat = 2 ^ 32 - 1 := by decide
  have h2 : ((A : Int)).toNat = A := by simp
  rw [h1, h2]
  have hA : A < 2 ^ 32 := by omega
  have h3 : (2 ^ 32 - 1) ^^^ A = 2 ^ 32 - 1 - A := by
    have := (BitVec.toNat_not (x := BitVec.ofNat 32 A))
    rw [BitVec.toNat_ofNat, Nat.mod_eq_of_lt hA] at this
    rw [← this, BitVec.not_def, BitVec.toNat_xor, BitVec.toNat_allOnes, BitVec.toNat_ofNat, Nat.mod_eq_of_lt hA]
  rw [h3]
  omega

/-- A word shifted by a byte, and a byte beside it. -/
theorem or_byte {a b : Int} (ha : 0 ≤ a) (ha2 : a < 16777216) (hb : 0 ≤ b ∧ b ≤ 255) : bits .or .u32 (a * 256) b = a * 256 + b := by
  obtain ⟨A, rfl⟩ := Int.eq_ofNat_of_zero_le ha
  obtain ⟨B, rfl⟩ := Int.eq_ofNat_of_zero_le hb.1
  rw [u32_or _ _ (by omega) (by omega) (by omega) (by omega)]
  have h1 : ((A : Int) * 256).toNat = A <<< 8 := by rw [Nat.shiftLeft_eq]; omega
  rw [h1, Int.toNat_natCast, ← Nat.shiftLeft_add_eq_or_of_lt (by omega), Nat.shiftLeft_eq]
  omega

/-- The eight words. -/
structure St where
  a : Int
  b : Int
  c : Int
  d : Int
  e : Int
  f : Int
  g : Int
  h : Int

def St.Ok (s : St) : Prop := W1 s.a ∧ W1 s.b ∧ W1 s.c ∧ W1 s.d ∧ W1 s.e ∧ W1 s.f ∧ W1 s.g ∧ W1 s.h
def St.l (s : St) : List Int := [s.a, s.b, s.c, s.d, s.e, s.f, s.g, s.h]
def St.of (v : List Int) : St := ⟨v.getD 0 0, v.getD 1 0, v.getD 2 0, v.getD 3 0, v.getD 4 0, v.getD 5 0, v.getD 6 0, v.getD 7 0⟩

def bigS1 (e : Int) : Int := bits .xor .u32 (bits .xor .u32 (rotL e 6) (rotL e 11)) (rotL e 25)
def bigS0 (a : Int) : Int := bits .xor .u32 (bits .xor .u32 (rotL a 2) (rotL a 13)) (rotL a 22)
def chS (e f g : Int) : Int := bits .xor .u32 (bits .and .u32 e f) (bits .and .u32 (4294967295 - e) g)
def majS (a b c : Int) : Int := bits .xor .u32 (bits .xor .u32 (bits .and .u32 a b) (bits .and .u32 a c)) (bits .and .u32 b c)
def pS (s : St) (k w : Int) : Int := ((((s.h + bigS1 s.e) % 4294967296 + chS s.e s.f s.g) % 4294967296 + k) % 4294967296 + w) % 4294967296
def qS (s : St) : Int := (bigS0 s.a + majS s.a s.b s.c) % 4294967296
/-- One round. -/
def St.step (s : St) (k w : Int) : St := ⟨(pS s k w + qS s) % 4294967296, s.a, s.b, s.c, (s.d + pS s k w) % 4294967296, s.e, s.f, s.g⟩
theorem St.step_ok {s : St} (h : s.Ok) (k w : Int) : (s.step k w).Ok := by
  obtain ⟨h1, h2, h3, h4, h5, h6, h7, h8⟩ := h
  exact ⟨mod_w _, h1, h2, h3, mod_w _, h5, h6, h7⟩

def rootsL : List Int := [
    1116352408, 1899447441, 3049323471, 3921009573, 961987163, 1508970993, 2453635748, 2870763221,
    3624381080, 310598401, 607225278, 1426881987, 1925078388, 2162078206, 2614888103, 3248222580,
    3835390401, 4022224774, 264347078, 604807628, 770255983, 1249150122, 1555081692, 1996064986,
    2554220882, 2821834349, 2952996808, 3210313671, 3336571891, 3584528711, 113926993, 338241895,
    666307205, 773529912, 1294757372, 1396182291, 1695183700, 1986661051, 2177026350, 2456956037,
    2730485921, 2820302411, 3259730800, 3345764771, 3516065817, 3600352804, 4094571909, 275423344,
    430227734, 506948616, 659060556, 883997877, 958139571, 1322822218, 1537002063, 1747873779,
    1955562222, 2024104815, 2227730452, 2361852424, 2428436474, 2756734187, 3204031479, 3329325298]

/-- t rounds. -/
def rounds (ws : List Int) (s : St) : Nat → St
  | 0 => s
  | t + 1 => (rounds ws s t).step (rootsL.getD t 0) (ws.getD t 0)
theorem rounds_ok (ws : List Int) {s : St} (h : s.Ok) (t : Nat) : (rounds ws s t).Ok := by
  induction t with
  | zero => exact h
  | succ t ih => exact St.step_ok ih _ _

/-- Word k of a block's bytes. -/
def wordB (bs : List Int) (k : Nat) : Int := bs.getD (4 * k) 0 * 16777216 + bs.getD (4 * k + 1) 0 * 65536 + bs.getD (4 * k + 2) 0 * 256 + bs.getD (4 * k + 3) 0
/-- The first j of sixteen words; the others are noughts. -/
def words0 (bs : List Int) (j : Nat) : List Int := (List.range 64).map fun k => if k < j then wordB bs k else 0
def smallS0 (x : Int) : Int := bits .xor .u32 (bits .xor .u32 (rotL x 7) (rotL x 18)) (x / 8)
def smallS1 (y : Int) : Int := bits .xor .u32 (bits .xor .u32 (rotL y 17) (rotL y 19)) (y / 1024)
/-- The word that comes of those ahead of it. -/
def nextW (l : List Int) (j : Nat) : Int := (((l.getD j 0 + l.getD (j + 9) 0) % 4294967296 + smallS0 (l.getD (j + 1) 0)) % 4294967296 + smallS1 (l.getD (j + 14) 0)) % 4294967296
/-- The words of a block: sixteen, and j more. -/
def sched (bs : List Int) : Nat → List Int
  | 0 => words0 bs 16
  | j + 1 => (sched bs j).set (16 + j) (nextW (sched bs j) j)
theorem nextW_w (l : List Int) (j : Nat) : W1 (nextW l j) := mod_w _

/-- The words as they are while the bytes are gone through one by one. -/
def ldW (bs : List Int) : Nat → List Int
  | 0 => List.replicate 64 0
  | i + 1 => (ldW bs i).set (i / 4) (bits .or .u32 ((ldW bs i).getD (i / 4) 0 * 256 % 4294967296) (bs.getD i 0))
theorem ldW_len (bs : List Int) (i : Nat) : (ldW bs i).length = 64 := by
  induction i with
  | zero => simp [ldW]
  | succ i ih => simp [ldW, ih]
theorem sched_len (bs : List Int) (j : Nat) : (sched bs j).length = 64 := by
  induction j with
  | zero => simp [sched, words0]
  | succ j ih => simp [sched, ih]

def B8s (l : List Int) : Prop := ∀ z ∈ l, 0 ≤ z ∧ z ≤ 255
theorem getD_of {l : List Int} {k : Nat} (h : k < l.length) : l.getD k 0 = l[k] := by simp [List.getD, List.getElem?_eq_getElem h]
theorem getD_out {l : List Int} {k : Nat} (h : l.length ≤ k) : l.getD k 0 = 0 := by simp [List.getD, List.getElem?_eq_none h]
theorem B8s.at {l : List Int} (h : B8s l) (k : Nat) : 0 ≤ l.getD k 0 ∧ l.getD k 0 ≤ 255 := by
  by_cases hk : k < l.length
  · rw [getD_of hk]; exact h _ (List.getElem_mem hk)
  · rw [getD_out (by omega)]; omega
theorem U32s.at {l : List Int} (h : U32s l) (k : Nat) : W1 (l.getD k 0) := by
  by_cases hk : k < l.length
  · rw [getD_of hk]; exact h _ (List.getElem_mem hk)
  · rw [getD_out (by omega)]; unfold W1; omega
theorem U32s.set {l : List Int} (h : U32s l) (k : Nat) {z : Int} (hz : W1 z) : U32s (l.set k z) := fun x hx => by
  rcases List.mem_or_eq_of_mem_set hx with h1 | h1
  · exact h x h1
  · rw [h1]; exact hz
theorem getD_set (l : List Int) (i j : Nat) (z : Int) : (l.set i z).getD j 0 = if i = j ∧ j < l.length then z else l.getD j 0 := by
  simp only [List.getD, List.getElem?_set]
  by_cases h : i = j
  · subst h
    by_cases h2 : i < l.length
    · simp [h2]
    · simp [h2]
  · simp [h]

theorem ldW_w (bs : List Int) (i : Nat) : U32s (ldW bs i) := by
  induction i with
  | zero => intro z hz; simp [ldW] at hz; subst hz; unfold W1; omega
  | succ i ih => exact ih.set _ (bits_w _ _ _)

/-- What the words are behind i bytes: those that are whole, the one that is begun, noughts. -/
theorem ldW_at (bs : List Int) (hb : B8s bs) (i : Nat) (hi : i ≤ 64) (j : Nat) :
    (ldW bs i).getD j 0 = if 4 * j + 4 ≤ i then wordB bs j else if i ≤ 4 * j then 0 else
      if i = 4 * j + 1 then bs.getD (4 * j) 0 else if i = 4 * j + 2 then bs.getD (4 * j) 0 * 256 + bs.getD (4 * j + 1) 0 else bs.getD (4 * j) 0 * 65536 + bs.getD (4 * j + 1) 0 * 256 + bs.getD (4 * j + 2) 0 := by
  induction i with
  | zero =>
    rw [if_neg (by omega), if_pos (by omega)]
    show (List.replicate 64 (0 : Int)).getD j 0 = 0
    simp only [List.getD, List.getElem?_replicate]
    split <;> rfl
  | succ i ih =>
    have ih := ih (by omega)
    simp only [ldW]
    rw [getD_set, ldW_len]
    by_cases hj : i / 4 = j
    · rw [if_pos ⟨hj, by omega⟩, hj, ih]
      have b0 := hb.at (4 * j)
      have b1 := hb.at (4 * j + 1)
      have b2 := hb.at (4 * j + 2)
      have b3 := hb.at (4 * j + 3)
      have hr : i = 4 * j ∨ i = 4 * j + 1 ∨ i = 4 * j + 2 ∨ i = 4 * j + 3 := by omega
      rcases hr with rfl | rfl | rfl | rfl
      · rw [if_neg (by omega), if_pos (by omega), if_neg (by omega), if_neg (by omega), if_pos rfl]
        have := or_byte (a := 0) (by omega) (by omega) b0
        simpa using this
      · rw [if_neg (by omega), if_neg (by omega), if_pos rfl, if_neg (by omega), if_neg (by omega), if_neg (by omega), if_pos rfl]
        rw [Int.emod_eq_of_lt (by omega) (by omega)]
        exact or_byte (by omega) (by omega) b1
      · rw [if_neg (by omega), if_neg (by omega), if_neg (by omega), if_pos rfl, if_neg (by omega), if_neg (by omega), if_neg (by omega), if_neg (by omega)]
        rw [Int.emod_eq_of_lt (by omega) (by omega), or_byte (by omega) (by omega) b2]
        omega
      · rw [if_neg (by omega), if_neg (by omega), if_neg (by omega), if_neg (by omega), if_pos (by omega)]
        rw [Int.emod_eq_of_lt (by omega) (by omega), or_byte (by omega) (by omega) b3]
        unfold wordB
        omega
    · rw [if_neg (fun h => hj h.1), ih]
      by_cases h1 : 4 * j + 4 ≤ i
      · rw [if_pos h1, if_pos (by omega)]
      · have h2 : i + 1 ≤ 4 * j := by omega
        rw [if_neg h1, if_pos (by omega), if_neg (by omega), if_pos h2]

theorem words0_at (bs : List Int) (n j : Nat) : (words0 bs n).getD j 0 = if j < 64 ∧ j < n then wordB bs j else 0 := by
  simp only [words0, List.getD, List.getElem?_map]
  by_cases h : j < 64
  · simp [h]
  · rw [List.getElem?_eq_none (by simpa using h)]; simp [h]
theorem ext_getD {l m : List Int} (hl : l.length = m.length) (h : ∀ j, j < l.length → l.getD j 0 = m.getD j 0) : l = m := by
  apply List.ext_getElem hl
  intro i h1 h2
  have := h i h1
  rwa [getD_of h1, getD_of h2] at this
theorem ldW_all (bs : List Int) (hb : B8s bs) : ldW bs 64 = words0 bs 16 := by
  refine ext_getD (by rw [ldW_len]; simp [words0]) fun j hj => ?_
  rw [ldW_len] at hj
  rw [ldW_at bs hb 64 (by omega), words0_at]
  by_cases h : j < 16
  · rw [if_pos (by omega), if_pos ⟨hj, h⟩]
  · rw [if_neg (by omega), if_pos (by omega), if_neg (by omega)]
theorem wordB_w (bs : List Int) (hb : B8s bs) (k : Nat) : W1 (wordB bs k) := by
  have b0 := hb.at (4 * k)
  have b1 := hb.at (4 * k + 1)
  have b2 := hb.at (4 * k + 2)
  have b3 := hb.at (4 * k + 3)
  unfold wordB W1
  omega
theorem words0_w (bs : List Int) (hb : B8s bs) (n : Nat) : U32s (words0 bs n) := fun z hz => by
  simp only [words0, List.mem_map] at hz
  obtain ⟨k, _, rfl⟩ := hz
  split
  · exact wordB_w bs hb k
  · unfold W1; omega
theorem sched_w (bs : List Int) (hb : B8s bs) (j : Nat) : U32s (sched bs j) := by
  induction j with
  | zero => exact words0_w bs hb 16
  | succ j ih => exact ih.set _ (nextW_w _ _)

/-- What the words were is added to the first k of them. -/
def addK (r v : List Int) : Nat → List Int
  | 0 => r
  | k + 1 => (addK r v k).set k (((addK r v k).getD k 0 + v.getD k 0) % 4294967296)
theorem addK_len (r v : List Int) (k : Nat) : (addK r v k).length = r.length := by
  induction k with
  | zero => rfl
  | succ k ih => simp [addK, ih]
theorem addK_w {r : List Int} (hr : U32s r) (v : List Int) (k : Nat) : U32s (addK r v k) := by
  induction k with
  | zero => exact hr
  | succ k ih => exact ih.set _ (mod_w _)
theorem addK_at (r v : List Int) (k j : Nat) : (addK r v k).getD j 0 = if j < k ∧ j < r.length then (r.getD j 0 + v.getD j 0) % 4294967296 else r.getD j 0 := by
  induction k with
  | zero => rw [if_neg (by omega)]; rfl
  | succ k ih =>
    simp only [addK]
    rw [getD_set, addK_len]
    by_cases hj : k = j
    · subst hj
      by_cases h : k < r.length
      · rw [if_pos ⟨rfl, h⟩, ih, if_neg (fun x => Nat.lt_irrefl _ x.1), if_pos ⟨Nat.lt_succ_self _, h⟩]
      · rw [if_neg (fun x => h x.2), ih, if_neg (fun x => h x.2), if_neg (fun x => h x.2)]
    · rw [if_neg (fun h => hj h.1), ih]
      by_cases h : j < k ∧ j < r.length
      · rw [if_pos h, if_pos ⟨by omega, h.2⟩]
      · rw [if_neg h, if_neg (fun x => h ⟨by have := x.1; omega, x.2⟩)]
theorem St.of_ok {v : List Int} (h : U32s v) : (St.of v).Ok := ⟨h.at 0, h.at 1, h.at 2, h.at 3, h.at 4, h.at 5, h.at 6, h.at 7⟩
theorem St.l_w {s : St} (h : s.Ok) : U32s s.l := fun z hz => by
  obtain ⟨h1, h2, h3, h4, h5, h6, h7, h8⟩ := h
  simp only [St.l, List.mem_cons, List.not_mem_nil, or_false] at hz
  rcases hz with rfl | rfl | rfl | rfl | rfl | rfl | rfl | rfl <;> assumption
/-- A block turns eight words. -/
def comp (v bs : List Int) : List Int := addK (rounds (sched bs 48) (St.of v) 64).l v 8
theorem comp_len (v bs : List Int) : (comp v bs).length = 8 := by unfold comp; rw [addK_len]; rfl
theorem comp_w {v : List Int} (h : U32s v) (bs : List Int) : U32s (comp v bs) := addK_w (St.l_w (rounds_ok _ (St.of_ok h) _)) _ _

theorem chS_not {e : Int} (he : W1 e) (f g : Int) : bits .xor .u32 (bits .and .u32 e f) (bits .and .u32 (bits .xor .u32 IntKind.u32.max e) g) = chS e f g := by
  unfold chS
  rw [← bits_not he]
  rfl
theorem pS_flat (s : St) (k w : Int) : pS s k w = (s.h + bigS1 s.e + chS s.e s.f s.g + k + w) % 4294967296 := by unfold pS; omega
/-- The round as a walk has it. -/
theorem step_flat (s : St) (k w : Int) : s.step k w = ⟨((s.h + bigS1 s.e + chS s.e s.f s.g + k + w) % 4294967296 + (bigS0 s.a + majS s.a s.b s.c) % 4294967296) % 4294967296, s.a, s.b, s.c, (s.d + (s.h + bigS1 s.e + chS s.e s.f s.g + k + w) % 4294967296) % 4294967296, s.e, s.f, s.g⟩ := by
  unfold St.step
  rw [pS_flat]
  rfl

/-- The first k of the bytes of eight words; the others are noughts. -/
def outK (v : List Int) : Nat → List Int
  | 0 => List.replicate 32 0
  | k + 1 => (outK v k).set k (v.getD (k / 4) 0 / 2 ^ (24 - 8 * (k % 4)) % 256)
theorem outK_len (v : List Int) (k : Nat) : (outK v k).length = 32 := by
  induction k with
  | zero => simp [outK]
  | succ k ih => simp [outK, ih]
/-- A block with the number of bits told at its end, so far i bytes of it. -/
def lenK (bs : List Int) (n : Nat) : Nat → List Int
  | 0 => bs
  | i + 1 => (lenK bs n i).set (63 - i) (8 * (n : Int) / 2 ^ (8 * i) % 256)
theorem lenK_len (bs : List Int) (n i : Nat) : (lenK bs n i).length = bs.length := by
  induction i with
  | zero => rfl
  | succ i ih => simp [lenK, ih]

end Go.Proofs.YtogaakokplobaaaDoor
