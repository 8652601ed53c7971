/-
  The contract of the reference's row: the first items of a list, depth first.
-/
import Derived.Test.YtchpobikbcelfaaTlvApp
import Derived.Test.YtchpobikbcelfaaTlvSame
import Derived.Deep.AppendLies
namespace Go.Proofs.Ytchpobikbcelfaa
open Go.RowKit

/-- An item of a row: its depth, the kind ahead. -/
structure Fl where
  x : It
  dep : Int
  ahead : Int
/-- Its seven cells. -/
def Fl.cs (f : Fl) (B : Option Addr) (bn bc : Nat) (C : Option Addr) (cn cc : Nat) : List Value := f.x.cs B bn bc C cn cc ++ [.int .i64 f.dep, .int .i64 f.ahead]
def flL (sub : Int → List It → List Fl) (dep most : Int) : Int → List Fl → List It → List Fl
  | _, out, [] => out
  | ahead, out, x :: l => if (out.length : Int) ≤ most then flL sub dep most x.kind (out ++ [⟨x, dep, ahead⟩] ++ sub (most - (out.length + 1)) x.items) l else out
def flF : Nat → Int → List It → List Fl
  | 0, most, l => flL (fun _ _ => []) 5 most 0 [] l
  | e + 1, most, l => flL (flF e) (5 - (e + 1)) most 0 [] l

theorem flL_len {sub : Int → List It → List Fl} (hs : ∀ most l, -1 ≤ most → ((sub most l).length : Int) ≤ most + 1) {dep most : Int} : ∀ (l : List It) (ahead : Int) (out : List Fl), (out.length : Int) ≤ most + 1 → ((flL sub dep most ahead out l).length : Int) ≤ most + 1 := by
  intro l
  induction l with
  | nil => intro ahead out h; rw [flL]; exact h
  | cons x l ih =>
    intro ahead out h
    rw [flL]
    split
    · rename_i h1
      refine ih _ _ ?_
      have h2 := hs (most - (out.length + 1)) x.items (by omega)
      simp only [List.length_append, List.length_cons, List.length_nil]
      omega
    · exact h
theorem flF_len (e : Nat) : ∀ (most : Int) (l : List It), -1 ≤ most → ((flF e most l).length : Int) ≤ most + 1 := by
  induction e with
  | zero => intro most l h; rw [flF]; exact flL_len (fun m _ _ => by simp; omega) _ _ _ (by simp; omega)
  | succ e ih => intro most l h; rw [flF]; exact flL_len ih _ _ _ (by simp; omega)

/-- Cells that read as a row: of each item's bytes and items only how many they are. -/
def FlP : List Fl → List Value → Prop
  | [], xs => xs = []
  | f :: l, xs => ∃ B bn bc C cn cc ys, xs = f.cs B bn bc C cn cc ++ ys ∧ f.x.bytes.length = bn ∧ f.x.items.length = cn ∧ bn ≤ 140737488351232 ∧ cn ≤ maxLen ∧ FlP l ys
theorem FlP.append {l r : List Fl} {xs ys : List Value} (h : FlP l xs) (h' : FlP r ys) : FlP (l ++ r) (xs ++ ys) := by
  induction l generalizing xs with
  | nil => rw [show xs = [] from h]; exact h'
  | cons f l ih =>
    obtain ⟨B, bn, bc, C, cn, cc, zs, e, h1, h2, h3, h4, h5⟩ := h
    exact ⟨B, bn, bc, C, cn, cc, _, by rw [e, List.append_assoc], h1, h2, h3, h4, ih h5⟩
theorem FlP.len {l : List Fl} {xs : List Value} (h : FlP l xs) : xs.length = l.length * 7 := by
  induction l generalizing xs with
  | nil => rw [show xs = [] from h]; rfl
  | cons f l ih =>
    obtain ⟨B, bn, bc, C, cn, cc, zs, e, _, _, _, _, h5⟩ := h
    have := ih h5
    rw [e]
    simp [Fl.cs, It.cs, this]
    omega
theorem FlP.get {l : List Fl} {xs : List Value} (h : FlP l xs) {k : Nat} {f : Fl} (hk : l[k]? = some f) :
    ∃ B bn bc C cn cc, f.x.bytes.length = bn ∧ f.x.items.length = cn ∧ bn ≤ 140737488351232 ∧ cn ≤ maxLen ∧ ∀ j v, (f.cs B bn bc C cn cc)[j]? = some v → xs[k * 7 + j]? = some v := by
  induction l generalizing xs k with
  | nil => simp at hk
  | cons y l ih =>
    obtain ⟨B, bn, bc, C, cn, cc, ys, e, h1, h2, h3, h4, h5⟩ := h
    cases k with
    | zero =>
      simp at hk
      subst hk
      refine ⟨B, bn, bc, C, cn, cc, h1, h2, h3, h4, fun j v hj => ?_⟩
      have hlt : j < (y.cs B bn bc C cn cc).length := by
        rcases Nat.lt_or_ge j (y.cs B bn bc C cn cc).length with h0 | h0
        · exact h0
        · rw [List.getElem?_eq_none h0] at hj; cases hj
      rw [e, Nat.zero_mul, Nat.zero_add, List.getElem?_append_left hlt, hj]
    | succ k =>
      obtain ⟨B', bn', bc', C', cn', cc', g1, g2, g3, g4, g5⟩ := ih h5 (k := k) (by simpa using hk)
      refine ⟨B', bn', bc', C', cn', cc', g1, g2, g3, g4, fun j v hj => ?_⟩
      have h7 : (y.cs B bn bc C cn cc).length = 7 := rfl
      rw [e, List.getElem?_append_right (by omega), h7, ← g5 j v hj]
      congr 1
      omega
theorem FlP.one {l : List Fl} {xs : List Value} (h : FlP l xs) : ∀ u ∈ xs, u.oneCell' = true := by
  induction l generalizing xs with
  | nil => rw [show xs = [] from h]; intro u hu; cases hu
  | cons f l ih =>
    obtain ⟨B, bn, bc, C, cn, cc, zs, e, _, _, _, _, h5⟩ := h
    intro u hu
    rw [e] at hu
    rcases List.mem_append.1 hu with hu | hu
    · rcases List.mem_append.1 hu with hu | hu
      · exact oneItem _ _ _ _ _ _ _ u hu
      · simp only [List.mem_cons, List.not_mem_nil, or_false] at hu
        rcases hu with rfl | rfl <;> rfl
    · exact ih h5 u hu

theorem info55 : (Try.prog.info? 55).map (fun i => (i.zero, i.size, i.bytes)) = some (some (.agg #[.int .i64 0, .bool false, .bool false, .slice none 0 0, .slice none 0 0, .int .i64 0, .int .i64 0]), 7, 80) := by kernel_rfl

/-- A row in new memory. -/
structure FRow (base : Nat) (w : World) (ad : Addr) (n c : Nat) (fs : List Fl) (xs : List Value) : Prop where
  own : w.ownsRow base 55 7 (.slice (some ad) n c) n xs
  fl : FlP fs xs
theorem FRow.len {base : Nat} {w : World} {ad : Addr} {n c : Nat} {fs : List Fl} {xs : List Value} (h : FRow base w ad n c fs xs) : fs.length = n := by
  have h1 := h.fl.len
  have h2 := h.own.1
  omega
def RowPost (w : World) (fs : List Fl) (e : Ending) (w' : World) : Prop := ∃ ad n c xs, e = .returned (.slice (some ad) n c) ∧ FRow w.heap.size w' ad n c fs xs ∧ Below w.heap.size w w'


theorem fl_on {sub : Int → List It → List Fl} {dep most a : Int} {out : List Fl} {x : It} {l : List It} (h : (out.length : Int) ≤ most) : flL sub dep most a out (x :: l) = flL sub dep most x.kind (out ++ [⟨x, dep, a⟩] ++ sub (most - (out.length + 1)) x.items) l := by
  rw [flL, if_pos h]
theorem fl_off {sub : Int → List It → List Fl} {dep most a : Int} {out : List Fl} {l : List It} (h : ¬ (out.length : Int) ≤ most) : flL sub dep most a out l = out := by
  cases l with
  | nil => rw [flL]
  | cons x l => rw [flL, if_neg h]

/-- The contract, at a depth. -/
def RowC (e : Nat) : Prop := ∀ (dep : Int), dep + e = 5 → 1 ≤ dep → ∀ (w : World) (S : Nat → Prop) (d : Nat) (A : Option Addr) (n c : Nat) (l : List It) (most : Int), Its w S d A n c l → -1 ≤ most → most ≤ 1000 →
    Calls Try.prog 26 #[.slice A n c, .int .i64 dep, .int .i64 most] w (RowPost w (flF e most l))

set_option maxRecDepth 100000 in
set_option maxHeartbeats 2000000 in
theorem row_step (e : Nat) (sub : Int → List It → List Fl) (hsub : ∀ (most : Int) (l : List It), flF e most l = flL sub (5 - (e : Int)) most 0 [] l) (hlen : ∀ most l, -1 ≤ most → ((sub most l).length : Int) ≤ most + 1)
    (hz : e = 0 → ∀ most l, sub most l = []) (ih : ∀ e', e = e' + 1 → RowC e' ∧ sub = flF e') : RowC e := by
  intro dep hd hd1 w S d A n c l most hi hm hm2
  have hn := hi.max
  have HL := Lib.hid hi.len
  have hsub1 := hsub most l
  obtain rfl : dep = 5 - (e : Int) := by omega
  have IH := Lib.hid ih
  have HSL := Lib.hid hlen
  have HZ := Lib.hid hz
  have HS := Lib.hid hsub1
  have H := Lib.hid hi
  obtain ⟨dep, hdep⟩ : ∃ dep : Int, dep = 5 - (e : Int) := ⟨_, rfl⟩
  rw [← hdep] at HS hd1 ⊢
  have HD := Lib.hid hdep
  have hown0 : (w.alloc (.cells #[] 55)).ownsRow w.heap.size 55 7 (.slice (some ⟨w.heap.size, 0, none⟩) 0 0) 0 [] := World.ownsRow_lit w #[] 0 (Nat.le_refl _) (by unfold maxLen; omega) rfl
  have hd5 : dep ≤ 5 := by omega
  have H0 := Lib.hid hown0
  clear ih hlen hz hsub hsub1 hi hd hdep hown0
  go_enter Try.func26, Try.ntmps26
  go_wp2_with fail
  go_loopw [7, 8, 9] (fun v a i wr => ∃ (k m cp : Nat) (ad : Addr) (xs : List Value) (out : List Fl) (a' : Int), k ≤ n ∧ i = .int .i64 k ∧ a = .int .i64 a' ∧ v = .slice (some ad) m cp ∧ out.length = m ∧ (m : Int) ≤ most + 1 ∧
    flF e most l = flL sub dep most a' out (l.drop k) ∧ FRow w.heap.size wr ad m cp out xs ∧ Below w.heap.size w wr) (fun _ _ i _ => n - (intOf i).toNat)
  case atStart => exact ⟨0, 0, 0, _, [], [], 0, Nat.zero_le _, rfl, rfl, rfl, rfl, by omega, by simpa using HS.out, ⟨H0.out, rfl⟩, (Below.refl _ _).alloc (Nat.le_refl _) _⟩
  case round =>
    clear H0
    obtain ⟨k, m, cp, ad, xs, out, a', hk, rfl, rfl, rfl, hom, hmm, hfl, hrow, hbel⟩ := hrel
    have HF := Lib.hid (And.intro hfl (And.intro hrow (And.intro hbel hom)))
    clear hfl hrow hbel hom
    by_cases hlt : k < n
    · by_cases hmo : (m : Int) ≤ most
      · obtain ⟨x, hx⟩ : ∃ x, l[k]? = some x := ⟨_, List.getElem?_eq_getElem (by rw [HL.out]; exact hlt)⟩
        cases d with
        | zero =>
          obtain ⟨rfl, _⟩ := H.out
          omega
        | succ d =>
          have hiw : Its wr S (d + 1) A n c l := H.out.stay HF.out.2.2.1.size fun b _ hb => HF.out.2.2.1.block b hb
          obtain ⟨al, B, bn, bc, C, cn, cc, rfl, hS, hblt, hat⟩ := hiw.get hx
          have h0 := hat.c0
          have h1 := hat.c1
          have h2 := hat.c2
          have h3 := hat.c3
          have h4 := hat.c4
          have X := Lib.hid (And.intro hat (And.intro hx hblt))
          have hkl : (k : Int) < (n : Int) := by omega
          clear hiw hS hblt hat hx
          obtain ⟨wb, hwb⟩ : ∃ wb, wb = wr.alloc (.cells #[.int .i64 x.kind, .bool x.crit, .bool x.lst, .slice B bn bc, .slice C cn cc, .int .i64 dep, .int .i64 a'] 55) := ⟨_, rfl⟩
          have hbb : Below wr.heap.size wr wb := by rw [hwb]; exact (Below.refl _ _).alloc (Nat.le_refl _) _
          have hbelb : Below w.heap.size w wb := HF.out.2.2.1.trans (hbb.mono HF.out.2.2.1.size)
          have hown : wb.ownsRow w.heap.size 55 7 (.slice (some ad) m cp) m xs := HF.out.2.1.own.kept (grownBy_below (row := none) hbb) (.inr (by simp [Value.ownBlock]))
          have hone := oneCellsAt wr ([.int .i64 x.kind, .bool x.crit, .bool x.lst, .slice B bn bc, .slice C cn cc, .int .i64 dep, .int .i64 a'] : List Value) 55
          have hall : ∀ u ∈ ([.int .i64 x.kind, .bool x.crit, .bool x.lst, .slice B bn bc, .slice C cn cc, .int .i64 dep, .int .i64 a'] : List Value), u.oneCell' = true := by
            intro u hu
            simp only [List.mem_cons, List.not_mem_nil, or_false] at hu
            rcases hu with rfl | rfl | rfl | rfl | rfl | rfl | rfl <;> rfl
          have hflp : FlP (out ++ [⟨x, dep, a'⟩]) (xs ++ [.int .i64 x.kind, .bool x.crit, .bool x.lst, .slice B bn bc, .slice C cn cc, .int .i64 dep, .int .i64 a']) :=
            HF.out.2.1.fl.append ⟨B, bn, bc, C, cn, cc, [], rfl, X.out.1.b.sb.len, X.out.1.i.len, X.out.1.b.lt, by have := X.out.1.i.max; unfold maxLen; omega, rfl⟩
          have W := Lib.hid (And.intro hwb (And.intro hbelb hflp))
          have hszb := hbelb.size
          rw [hwb] at hown hszb
          clear hwb hbb hbelb hflp
          have hm1001 : m + 1 ≤ 1001 := by omega
          have harm : Hid (∀ (A6 : Option Addr) (c6 : Nat) (w6 : World), w6.ownsRow w.heap.size 55 7 (.slice A6 (m + 1) c6) (m + 1) (xs ++ [.int .i64 x.kind, .bool x.crit, .bool x.lst, .slice B bn bc, .slice C cn cc, .int .i64 dep, .int .i64 a']) →
              (wr.alloc (.cells #[.int .i64 x.kind, .bool x.crit, .bool x.lst, .slice B bn bc, .slice C cn cc, .int .i64 dep, .int .i64 a'] 55)).grownBy w6 (Value.slice (some ad) m cp).ownBlock →
              ∃ ad6, A6 = some ad6 ∧ FRow w.heap.size w6 ad6 (m + 1) c6 (out ++ [⟨x, dep, a'⟩]) (xs ++ [.int .i64 x.kind, .bool x.crit, .bool x.lst, .slice B bn bc, .slice C cn cc, .int .i64 dep, .int .i64 a']) ∧ Below w.heap.size w w6 ∧
                w6.cell? (al.add (k * 5)) = some (.int .i64 x.kind) ∧ ∃ C6 cc6, w6.cell? ⟨(al.add (k * 5)).block, (al.add (k * 5)).off + 4, none⟩ = some (.slice C6 cn cc6) ∧ Its w6 S d C6 cn cc6 x.items) := by
            intro A6 c6 w6 ho hg
            rw [← W.out.1] at hg
            obtain ⟨g, cap, e, _, _⟩ := ho.form (by omega)
            injection e with e1 _ e2
            subst e1
            have b6 : Below w.heap.size w w6 := W.out.2.1.grown hg W.out.2.1.size (fun j hj => (HF.out.2.1.own.lt j hj).1)
            have hi6 : Its w6 S (d + 1) (some al) n c l := H.out.stay b6.size fun b _ hb => b6.block b hb
            obtain ⟨al', B', bn', bc', C', cn', cc', e3, _, _, hat'⟩ := hi6.get X.out.2.1
            injection e3 with e3
            subst e3
            obtain rfl : cn = cn' := X.out.1.i.len.symm.trans hat'.i.len
            exact ⟨_, rfl, ⟨ho, W.out.2.2⟩, b6, hat'.c0, C', cc', hat'.c4, hat'.i⟩
          by_cases hdp : dep = 5
          · subst hdp
            go_wp2_with (at_builtin; refine wpList_appw _ rfl (.tmp 23) (.tmp 31) 52 rfl w.heap.size 55 _ 7 80 Try.underlying52 info55 rfl (by omega) (.slice (some ad) m cp) m xs rfl hown ⟨wr.heap.size, 0, none⟩ 1 1 ([.int .i64 x.kind, .bool x.crit, .bool x.lst, .slice B bn bc, .slice C cn cc, .int .i64 5, .int .i64 a'] : List Value) rfl rfl (by simpa using hone) hall (by unfold maxLen; omega) (by omega) hszb ?_; intro A6 c6 w6 hown6 hg6 _; obtain ⟨ad6, rfl, hr6, hb6, hc0, C6, cc6, hc4, hi6⟩ := harm.out A6 c6 w6 hown6 hg6; have V := Lib.hid (And.intro hr6 hb6); clear hr6 hb6 hown6 hg6 hi6)
            go_roundw
            case rel =>
              have hfl := HF.out.1
              rw [drop_cons X.out.2.1, fl_on (by rw [HF.out.2.2.2]; exact hmo), HZ.out (by have := HD.out; omega), List.append_nil] at hfl
              exact ⟨k + 1, m + 1, c6, ad6, _, _, x.kind, by omega, by go_num, rfl, rfl, by simp [HF.out.2.2.2], by omega, hfl, V.out⟩
            case measure => simp [intOf]; omega
          · have hd4 : dep < 5 := by omega
            obtain ⟨e', he'⟩ : ∃ e', e = e' + 1 := ⟨e - 1, by have := HD.out; omega⟩
            obtain ⟨ihr, ihs⟩ := IH.out e' he'
            have hln := HSL.out (most - (m + 1)) x.items (by omega)
            have IHR := Lib.hid (And.intro ihr (And.intro ihs he'))
            have hmost : most - ((m : Int) + 1) ≤ 1000 ∧ -1 ≤ most - ((m : Int) + 1) := by omega
            have hln2 : (sub (most - (m + 1)) x.items).length ≤ 1001 := by omega
            have HLN := Lib.hid hln
            clear ihr ihs he' hdp hln
            go_wp2_with (at_builtin; refine wpList_appw _ rfl (.tmp 23) (.tmp 31) 52 rfl w.heap.size 55 _ 7 80 Try.underlying52 info55 rfl (by omega) (.slice (some ad) m cp) m xs rfl hown ⟨wr.heap.size, 0, none⟩ 1 1 ([.int .i64 x.kind, .bool x.crit, .bool x.lst, .slice B bn bc, .slice C cn cc, .int .i64 dep, .int .i64 a'] : List Value) rfl rfl (by simpa using hone) hall (by unfold maxLen; omega) (by omega) hszb ?_; intro A6 c6 w6 hown6 hg6 _; obtain ⟨ad6, rfl, hr6, hb6, hc0, C6, cc6, hc4, hi6⟩ := harm.out A6 c6 w6 hown6 hg6; have V := Lib.hid (And.intro hr6 (And.intro hb6 hi6)); clear hr6 hb6 hown6 hg6 hi6)
            refine (IHR.out.1 (dep + 1) (by have := HD.out; have := IHR.out.2.2; omega) (by omega) _ _ _ _ _ _ _ _ V.out.2.2 (by omega) (by omega)).mono ?_
            rintro e w7 ⟨ad7, n7, c7, xs7, rfl, hr7, hb7⟩
            rw [← IHR.out.2.1] at hr7
            have h7l : n7 ≤ 1001 := by have := hr7.len; omega
            have hmn : ((m + 1 + n7 : Nat) : Int) ≤ most + 1 := by have := hr7.len; have := HLN.out; omega
            have h1000 : m + 1 + n7 ≤ 1001 := by omega
            have hnews : ∀ j u, xs7[j]? = some u → w7.cell? (ad7.add j) = some u := by
              rcases hr7.own.2 with ⟨e4, _⟩ | ⟨g, cap, cur, e4, _⟩
              · injection e4 with e4; cases e4
              · injection e4 with e4
                injection e4 with e4
                subst e4
                exact hr7.own.cells (g := g) rfl
            have hall7 := hr7.fl.one
            have hlen7 := hr7.own.1
            have hown7 : w7.ownsRow w.heap.size 55 7 (.slice (some ad6) (m + 1) c6) (m + 1) _ := V.out.1.own.kept (grownBy_below (row := none) hb7) (.inr (by simp [Value.ownBlock]))
            have hsz7 : w.heap.size ≤ w7.heap.size := Nat.le_trans V.out.2.1.size hb7.size
            have U := Lib.hid (And.intro hr7 (V.out.2.1.trans (hb7.mono V.out.2.1.size)))
            clear hr7 hb7 hc0 hc4
            go_wp2_with (at_builtin; refine wpList_appw _ rfl (.tmp 40) (.tmp 52) 52 rfl w.heap.size 55 _ 7 80 Try.underlying52 info55 rfl (by omega) (.slice (some ad6) (m + 1) c6) (m + 1) _ rfl hown7 ad7 n7 c7 xs7 rfl hlen7 hnews hall7 (by unfold maxLen; omega) (by omega) hsz7 ?_; intro A8 c8 w8 hown8 hg8 _; have V8 := Lib.hid (And.intro hown8 hg8); clear hown8 hg8)
            go_roundw
            case rel =>
              have hfl := HF.out.1
              rw [drop_cons X.out.2.1, fl_on (by rw [HF.out.2.2.2]; exact hmo), HF.out.2.2.2] at hfl
              obtain ⟨g, cap, e9, _, _⟩ := V8.out.1.form (by omega)
              injection e9 with e9 _ e10
              subst e9
              exact ⟨k + 1, m + 1 + n7, c8, _, _, _, x.kind, by omega, by go_num, rfl, rfl, by have := U.out.1.len; simp [HF.out.2.2.2, this]; omega, by omega, hfl, ⟨V8.out.1, V.out.1.fl.append U.out.1.fl⟩, U.out.2.grown V8.out.2 hsz7 (fun j hj => (hown7.lt j hj).1)⟩
            case measure => simp [intOf]; omega
      · have HP : ∀ w', Below w.heap.size w w' → wr = w' → RowPost w (flF e most l) (.returned (.slice (some ad) m cp)) w' := fun w' _ e => by
          subst e
          rw [HF.out.1, fl_off (by rw [HF.out.2.2.2]; exact hmo)]
          exact ⟨ad, m, cp, xs, rfl, HF.out.2.1, HF.out.2.2.1⟩
        have HQ := Lib.hid (HP wr HF.out.2.2.1 rfl)
        clear HP
        go_wp2_with fail
        go_ret
        exact HQ.out
    · have HQ : Hid (RowPost w (flF e most l) (.returned (.slice (some ad) m cp)) wr) := by
        show RowPost _ _ _ _
        rw [HF.out.1, List.drop_eq_nil_of_le (by rw [HL.out]; omega), flL]
        exact ⟨ad, m, cp, xs, rfl, HF.out.2.1, HF.out.2.2.1⟩
      go_wp2_with fail
      go_ret
      exact HQ.out

theorem row_any (e : Nat) : RowC e := by
  induction e with
  | zero =>
    refine row_step 0 (fun _ _ => []) (fun most l => by rw [flF]; rfl) (fun most l h => by simp; omega) (fun _ _ _ => rfl) fun e' h => by omega
  | succ e ih =>
    refine row_step (e + 1) (flF e) (fun most l => by rw [flF]; rfl) (flF_len e) (fun h => by omega) fun e' h => ?_
    obtain rfl : e = e' := by omega
    exact ⟨ih, rfl⟩

end Go.Proofs.Ytchpobikbcelfaa
