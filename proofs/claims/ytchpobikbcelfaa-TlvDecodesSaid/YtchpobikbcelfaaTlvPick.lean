/-
  The contract of Pick, given the one of what copies the items that were picked.
-/
import Derived.Test.YtchpobikbcelfaaTlvApp
import Derived.Test.YtchpobikbcelfaaTlvFree
import Derived.Test.YtchpobikbcelfaaWireLeaf
import Derived.OneCell
import Derived.Maps.OwnSet
import Derived.Maps.OwnOps
namespace Go.Proofs.Ytchpobikbcelfaa
open Go.RowKit Go.Maps

/-- A slice of n ints at the address A reads as ks. -/
structure Si (w : World) (A : Option Addr) (n : Nat) (ks : List Int) : Prop where
  len : ks.length = n
  wf : ∀ k ∈ ks, (Lit.int .i64 k).wf = true
  at_ : 0 < n → ∃ ad, A = some ad ∧ ad.block < w.heap.size ∧ ∀ k, k < n → w.cell? (ad.add k) = some (.int .i64 (ks.getD k 0))
theorem Si.below {w w' : World} {A : Option Addr} {n : Nat} {ks : List Int} (h : Si w A n ks) (hb : Below w.heap.size w w') : Si w' A n ks :=
  ⟨h.len, h.wf, fun hn => by
    obtain ⟨ad, e, hlt, hc⟩ := h.at_ hn
    exact ⟨ad, e, Nat.lt_of_lt_of_le hlt hb.size, fun k hk => (hb.cell (by rw [addBlock]; exact hlt)).trans (hc k hk)⟩⟩

/-- Those that are known; nothing, if one must be known and isn't. -/
def pickS (known : List Int) : List It → Option (List It)
  | [] => some []
  | x :: l => if known.contains x.kind then (pickS known l).map (x :: ·) else if x.crit then none else pickS known l

theorem pick_in {known : List Int} {x : It} {l : List It} (h : known.contains x.kind = true) : pickS known (x :: l) = (pickS known l).map (x :: ·) := by rw [pickS, if_pos h]
theorem pick_crit {known : List Int} {x : It} {l : List It} (h : known.contains x.kind = false) (h2 : x.crit = true) : pickS known (x :: l) = none := by rw [pickS, if_neg (by simpa using h), if_pos h2]
theorem pick_out {known : List Int} {x : It} {l : List It} (h : known.contains x.kind = false) (h2 : x.crit = false) : pickS known (x :: l) = pickS known l := by rw [pickS, if_neg (by simpa using h), if_neg (by simp [h2])]

/-- The set of the kinds that are known. -/
def kindSet (ks : List Int) : DataW Unit := setOf (.agg []) (ks.map (Lit.int .i64))
theorem kindSet_has (ks : List Int) (x : Int) : Maps.has (kindSet ks) (.int .i64 x) = ks.contains x := by
  unfold kindSet
  rw [has_setOf _ _ _ (fun y hy => by obtain ⟨_, _, rfl⟩ := List.mem_map.1 hy; trivial), List.any_map]
  induction ks with
  | nil => rfl
  | cons a r ih =>
    rw [List.any_cons, List.contains_cons, ih]
    congr 1
    show decide (IntKind.i64 = IntKind.i64 ∧ a = x) = (x == a)
    by_cases e : a = x
    · subst e; simp
    · have e' : ¬ x = a := fun h => e h.symm
      simp [e, e']
theorem kindSet_snoc {ks : List Int} {k : Nat} (h : k < ks.length) : kindSet (ks.take (k + 1)) = (kindSet (ks.take k)).put (.int .i64 (ks.getD k 0)) (.agg []) := by
  unfold kindSet
  rw [List.take_add_one, List.getElem?_eq_getElem h, List.map_append, getD_lt h]
  exact setOf_snoc _ _ _

theorem lawI : Keyed Try.prog 3 := int_keyed Try.underlying3
theorem zeroU (w : World) : (zeroValue 62).run Try.prog w = .ok (.agg #[]) w := by kernel_rfl

/-- What copied leaves: the same items in new memory that can be written. -/
def CopPost (w : World) (d : Nat) (l : List It) (e : Ending) (w' : World) : Prop :=
  Below w.heap.size w w' ∧ ∃ A n c, e = .returned (.slice A n c) ∧ Its w' (fun b => w.heap.size ≤ b ∧ Free w' b) d A n c l

def PickPost (w : World) (d : Nat) (q : Option (List It)) (e : Ending) (w' : World) : Prop :=
  Below w.heap.size w w' ∧ match q with
  | none => e = .returned (.tuple #[.slice none 0 0, .int .i64 7])
  | some l => ∃ A n c, e = .returned (.tuple #[.slice A n c, .int .i64 0]) ∧ Its w' (fun b => w.heap.size ≤ b ∧ Free w' b) d A n c l

/-- The items that were picked: a row of the call's own; what lies within them is old memory. -/
structure PRow (w : World) (base B d : Nat) (A : Option Addr) (m c : Nat) (l : List It) (xs : List Value) : Prop where
  own : w.ownsRow base 47 5 (.slice A m c) m xs
  row : RowP (Its w (· < B) d) w (· < B) l xs

theorem PRow.grown {w w' : World} {base B d : Nat} {A : Option Addr} {m c : Nat} {l : List It} {xs : List Value} (h : PRow w base B d A m c l xs) (hb : Below w.heap.size w w') : PRow w' base B d A m c l xs :=
  ⟨h.own.kept (grownBy_below (row := none) hb) (by cases (Value.slice A m c).ownBlock <;> simp), h.row.imp (fun _ _ _ _ hb' => hb'.stay hb.size fun b _ hlt => hb.block b hlt) (fun _ _ _ _ hi => hi.below hb)⟩
theorem PRow.snoc {w w' : World} {base B d : Nat} {A A' : Option Addr} {m c c' : Nat} {l : List It} {xs : List Value} (h : PRow w base B d A m c l xs) (hB : B ≤ base) {x : It} {P : Option Addr} {bn bc : Nat} {C : Option Addr} {cn cc : Nat}
    (hb : Bs w (· < B) P bn bc x.bytes) (hi : Its w (· < B) d C cn cc x.items) (ho : w'.ownsRow base 47 5 (.slice A' (m + 1) c') (m + 1) (xs ++ x.cs P bn bc C cn cc)) (hg : w.grownBy w' (Value.slice A m c).ownBlock) :
    PRow w' base B d A' (m + 1) c' (l ++ [x]) (xs ++ x.cs P bn bc C cn cc) := by
  have hk : ∀ b, b < B → b < w.heap.size → w'.heap[b]? = w.heap[b]? := fun b hb hlt => hg.block b hlt fun e => by
    have := (h.own.lt b e.symm).1
    omega
  exact ⟨ho, RowP.snoc (h.row.imp (fun _ _ _ _ hb => hb.stay hg.size hk) (fun _ _ _ _ hi => hi.stay hg.size hk)) (hb.stay hg.size hk) (hi.stay hg.size hk)⟩
theorem PRow.its {w : World} {base B d : Nat} {A : Option Addr} {m c : Nat} {l : List It} {xs : List Value} (h : PRow w base B d A m c l xs) : Its w (fun _ => True) (d + 1) A m c l := by
  obtain ⟨_, c2, e, hle, hmax⟩ := own_shape h.own
  injection e with _ _ e
  subst e
  have hl := h.row.len
  have h2 := h.own.1
  refine ⟨by omega, hle, hmax, fun hn => ?_⟩
  rcases h.own.2 with ⟨h1, h2⟩ | ⟨g, cap, cur, hv, hb, hg, _⟩
  · omega
  · injection hv with hA _ hc
    subst hA
    exact ⟨⟨g, 0, none⟩, xs, rfl, trivial, lt_of_block hg, h.row.imp (fun _ _ _ _ hb => hb.mono fun _ _ _ => trivial) (fun _ _ _ _ hi => hi.mono fun _ _ _ => trivial), h.own.cells (g := g) rfl⟩
theorem PRow.len {w : World} {base B d : Nat} {A : Option Addr} {m c : Nat} {l : List It} {xs : List Value} (h : PRow w base B d A m c l xs) : l.length = m := by
  have hl := h.row.len
  have h2 := h.own.1
  omega
set_option maxRecDepth 100000 in
set_option maxHeartbeats 2000000 in
theorem pick_walk {w : World} {d : Nat} {A A' : Option Addr} {n c n' c' : Nat} {l : List It} {ks : List Int} (hi : Its w (· < w.heap.size) (d + 1) A n c l) (hk : Si w A' n' ks) (hn : n ≤ 1000000) (hn' : n' ≤ 140737488351232)
    (hwf : ∀ x ∈ l, (Lit.int .i64 x.kind).wf = true)
    (HC : pickS ks l = none ∨ ∀ (w' : World) (A : Option Addr) (m c : Nat) (l' : List It), Its w' (fun _ => True) (d + 1) A m c l' → (∀ x ∈ l', x ∈ l) → m ≤ n → Calls Try.prog 33 #[.slice A m c] w' (CopPost w' (d + 1) l')) :
    Calls Try.prog 22 #[.slice A n c, .slice A' n' c'] w (PickPost w (d + 1) (pickS ks l)) := by
  have hmm := @run_makeMap Try.prog
  have H := Lib.hid (And.intro hi (And.intro hk (And.intro hwf HC)))
  have hl := Lib.hid hi.len
  clear hi hk hwf HC
  go_enter Try.func22, Try.ntmps22
  go_wp2_with fail
  go_loopw [17] (fun i wr => ∃ k : Nat, k ≤ n' ∧ i = .int .i64 k ∧ wr.ownsMap Try.prog 3 unitElem w.heap.size k (kindSet (ks.take k)) ∧ Below w.heap.size w wr) (fun i _ => n' - (intOf i).toNat)
  case atStart => exact ⟨0, Nat.zero_le _, rfl, World.ownsMap_made _ _ _ _, (Below.refl _ _).alloc (Nat.le_refl _) _⟩
  case round =>
    obtain ⟨k, hk, rfl, hown, hbel⟩ := hrel
    by_cases hlt : k < n'
    · obtain ⟨ad, rfl, hblt, hcell⟩ := H.out.2.1.at_ (by omega)
      have hc := (hbel.cell (p := ad.add k) (by rw [addBlock]; exact hblt)).trans (hcell k hlt)
      have hkl : k < ks.length := by rw [H.out.2.1.len]; exact hlt
      have hkey : keyOf Try.prog 3 (.int .i64 (ks.getD k 0)) = some (.int .i64 (ks.getD k 0)) := keyOf_int_mk Try.underlying3 (H.out.2.1.wf _ (by rw [getD_lt hkl]; exact List.getElem_mem hkl))
      have hs := kindSet_snoc hkl
      obtain ⟨v, hv⟩ : ∃ v, v = ks.getD k 0 := ⟨_, rfl⟩
      rw [← hv] at hc hkey hs
      have HS := Lib.hid hs
      have HB := Lib.hid hbel
      clear hcell hkl hs hv hbel hblt
      go_wp2_with (at_mapUpdate; refine wpList_mapUpdate_own _ rfl _ _ _ 61 rfl 3 62 lawI Try.underlying61 (unitElem (H := Unit)) w.heap.size k _ rfl hown (by unfold maxLen; omega) _ _ _ rfl rfl hkey _ [] unitElem_mk ?_; intro w1 hown1 hgrow1)
      rw [← HS.out] at hown1
      have X := Lib.hid (And.intro hown1 (HB.out.grown hgrow1 HB.out.size (fun j hj => by cases hj; exact Nat.le_refl _)))
      clear hown hown1 hgrow1 hkey
      go_roundw
      case rel => exact ⟨k + 1, by omega, by go_num, X.out⟩
      case measure => simp [intOf]; omega
    · have hkk : ks.take k = ks := List.take_of_length_le (by rw [H.out.2.1.len]; omega)
      rw [hkk] at hown
      have M := Lib.hid (And.intro (hown.mono hk) hbel)
      clear hkk hown hbel
      go_wp2_with fail
      go_loopw [9, 27] (fun v i wq => ∃ (k m cp : Nat) (Ap : Option Addr) (acc : List It) (xs : List Value), k ≤ n ∧ i = .int .i64 k ∧ v = .slice Ap m cp ∧ m ≤ k ∧ pickS ks l = (pickS ks (l.drop k)).map (acc ++ ·) ∧ (∀ x ∈ acc, x ∈ l) ∧
        PRow wq (w.heap.size + 1) w.heap.size d Ap m cp acc xs ∧ wq.ownsMap Try.prog 3 (unitElem (H := Unit)) w.heap.size n' (kindSet ks) ∧ Below w.heap.size w wq ∧ w.heap.size + 1 ≤ wq.heap.size) (fun _ i _ => n - (intOf i).toNat)
      case atStart => exact ⟨0, 0, 0, none, [], [], Nat.zero_le _, rfl, rfl, Nat.le_refl _, by simp, by simp, ⟨World.ownsRow_nil _ _ _ _, rfl⟩, M.out.1, M.out.2, M.out.1.lt⟩
      case round =>
        clear M
        obtain ⟨k2, m, cp, Ap, acc, xs, hk2, rfl, rfl, hm, hpk, hacc, hrow, hmap, hbel, hsz⟩ := hrel
        have HPK := Lib.hid (And.intro hpk hacc)
        clear hpk hacc
        by_cases hlt2 : k2 < n
        · obtain ⟨x, hx⟩ : ∃ x, l[k2]? = some x := ⟨_, List.getElem?_eq_getElem (by rw [hl.out]; exact hlt2)⟩
          have hmem : x ∈ l := List.mem_of_getElem? hx
          have hiw : Its wr (· < w.heap.size) (d + 1) A n c l := H.out.1.stay hbel.size fun b hb _ => hbel.block b hb
          obtain ⟨ad, B, bn, bc, C, cn, cc, rfl, hS, hblt, hat⟩ := hiw.get hx
          have h0 := hat.c0
          have h1 := hat.c1
          have h2 := hat.c2
          have h3 := hat.c3
          have h4 := hat.c4
          have hkey : keyOf Try.prog 3 (.int .i64 x.kind) = some (.int .i64 x.kind) := keyOf_int_mk Try.underlying3 (H.out.2.2.1 x hmem)
          have hhas := kindSet_has ks x.kind
          have hdrop := drop_cons hx
          have X := Lib.hid (And.intro hat (And.intro hrow (And.intro hbel (And.intro hmem hdrop))))
          clear hiw hS hblt hat hmem hdrop hx hrow hbel
          obtain ⟨hs, hhs⟩ : ∃ b, b = ks.contains x.kind := ⟨_, rfl⟩
          rw [← hhs] at hhas
          have HH := Lib.hid hhs
          clear hhs
          cases hs with
          | true =>
            have hpk := HPK.out.1
            rw [X.out.2.2.2.2, pick_in HH.out.symm] at hpk
            have HP := Lib.hid hpk
            clear hpk
            obtain ⟨wb, hwb⟩ : ∃ wb, wb = ((wr.alloc (.cells #[.int .i64 x.kind, .bool x.crit, .bool x.lst, .slice B bn bc, .slice C cn cc] 47)).alloc (.cells #[] 62)).alloc (.cells #[.int .i64 x.kind, .bool x.crit, .bool x.lst, .slice B bn bc, .slice C cn cc] 47) := ⟨_, rfl⟩
            have hbb : Below wr.heap.size wr wb := by rw [hwb]; exact (((Below.refl _ _).alloc (Nat.le_refl _) _).alloc (by simp) _).alloc (by simp; omega) _
            have hwz : wb.heap.size = wr.heap.size + 3 := by rw [hwb]; simp
            have hown := (X.out.2.1.grown hbb).own
            have hone := oneCellsAt ((wr.alloc (.cells #[.int .i64 x.kind, .bool x.crit, .bool x.lst, .slice B bn bc, .slice C cn cc] 47)).alloc (.cells #[] 62)) ([.int .i64 x.kind, .bool x.crit, .bool x.lst, .slice B bn bc, .slice C cn cc] : List Value) 47
            have hall : ∀ u ∈ ([.int .i64 x.kind, .bool x.crit, .bool x.lst, .slice B bn bc, .slice C cn cc] : List Value), u.oneCell' = true := oneItem x B bn bc C cn cc
            have W := Lib.hid (And.intro hwb (And.intro hbb hwz))
            have hmm2 : m + 1 ≤ 1000000 := by omega
            rw [hwb] at hown
            clear hwb hbb hwz hn'
            go_wp2_with (first
              | (at_lookup; refine wpList_lookup_own_unit _ rfl _ _ 61 rfl 3 62 lawI Try.underlying61 (zeroU _) w.heap.size n' _ rfl (hmap.alloc _) _ _ rfl hkey ?_; rw [hhas])
              | (at_builtin; refine wpList_appw _ rfl (.tmp 39) (.tmp 41) 22 rfl (w.heap.size + 1) 47 _ 5 64 Try.underlying22 info47 rfl (by omega) (.slice Ap m cp) m xs rfl hown ⟨wr.heap.size + 1 + 1, 0, none⟩ 1 1 ([.int .i64 x.kind, .bool x.crit, .bool x.lst, .slice B bn bc, .slice C cn cc] : List Value) rfl rfl (by simpa using hone) hall (by unfold maxLen; omega) (by omega) (by simp; omega) ?_; intro A6 c6 w6 hown6 hg6 _; have V := Lib.hid (And.intro hown6 hg6); clear hown6 hg6))
            go_roundw
            case rel =>
              obtain ⟨v1, v2⟩ := V.out
              rw [← W.out.1] at v2
              have b1 := X.out.2.2.1.trans (W.out.2.1.mono X.out.2.2.1.size)
              have hsz2 := W.out.2.2
              have hol := (X.out.2.1.grown W.out.2.1).own.lt
              have hpk2 : pickS ks l = (pickS ks (l.drop (k2 + 1))).map ((acc ++ [x]) ++ ·) := by
                rw [HP.out, Option.map_map]
                exact congrArg (fun f => Option.map f _) (funext fun y => by simp)
              refine ⟨k2 + 1, m + 1, c6, A6, acc ++ [x], _, by omega, by go_num, rfl, by omega, hpk2, fun y hy => ?_, (X.out.2.1.grown W.out.2.1).snoc (Nat.le_succ _) ?_ ?_ v1 v2, ?_, b1.grown v2 (by omega) (fun j hj => by have := hol j hj; omega), by have := v2.size; omega⟩
              · rcases List.mem_append.1 hy with h | h
                · exact HPK.out.2 y h
                · rw [List.mem_singleton.1 h]; exact X.out.2.2.2.1
              · exact X.out.1.b.stay W.out.2.1.size fun b _ hlt => W.out.2.1.block b hlt
              · exact X.out.1.i.below W.out.2.1
              · exact (hmap.kept (grownBy_below (row := none) W.out.2.1) (by simp)).kept v2 (fun e => by have := hol _ e.symm; omega)
            case measure => simp [intOf]; omega
          | false =>
            cases hcr : x.crit with
            | true =>
              have HP : ∀ w', Below w.heap.size w w' → PickPost w (d + 1) (pickS ks l) (.returned (.tuple #[.slice none 0 0, .int .i64 7])) w' := fun w' hb => by
                rw [HPK.out.1, X.out.2.2.2.2, pick_crit HH.out.symm hcr]
                exact ⟨hb, rfl⟩
              rw [hcr] at h1
              have HP := Lib.hid HP
              clear hcr
              go_wp2_with (at_lookup; refine wpList_lookup_own_unit _ rfl _ _ 61 rfl 3 62 lawI Try.underlying61 (zeroU _) w.heap.size n' _ rfl (hmap.alloc _) _ _ rfl hkey ?_; rw [hhas])
              go_ret2
              exact HP.out _ ((X.out.2.2.1.alloc X.out.2.2.1.size _).alloc (by have := X.out.2.2.1.size; simp; omega) _)
            | false =>
              have hpk := HPK.out.1
              rw [X.out.2.2.2.2, pick_out HH.out.symm hcr] at hpk
              rw [hcr] at h1
              have HP := Lib.hid hpk
              clear hpk hcr
              go_wp2_with (at_lookup; refine wpList_lookup_own_unit _ rfl _ _ 61 rfl 3 62 lawI Try.underlying61 (zeroU _) w.heap.size n' _ rfl (hmap.alloc _) _ _ rfl hkey ?_; rw [hhas])
              go_roundw
              case rel =>
                have bb := X.out.2.2.1.size
                exact ⟨k2 + 1, m, cp, Ap, acc, xs, by omega, by go_num, rfl, by omega, HP.out, HPK.out.2, X.out.2.1.grown (((Below.refl _ _).alloc (Nat.le_refl _) _).alloc (by simp) _), (hmap.alloc _).alloc _, (X.out.2.2.1.alloc bb _).alloc (by simp; omega) _, by simp; omega⟩
              case measure => simp [intOf]; omega
        · have hz : l.drop k2 = [] := List.drop_eq_nil_of_le (by rw [hl.out]; omega)
          have hpk := HPK.out.1
          rw [hz] at hpk
          have hpk : pickS ks l = some acc := by rw [hpk]; simp [pickS]
          have HC : Hid (Calls Try.prog 33 #[.slice Ap m cp] wr (CopPost wr (d + 1) acc)) := by
            rcases H.out.2.2.2 with h | h
            · rw [hpk] at h; cases h
            · exact h wr Ap m cp acc hrow.its HPK.out.2 (by omega)
          have HP := Lib.hid (And.intro hpk hbel)
          clear hz hpk hrow hmap hbel
          go_wp2_with fail
          refine HC.out.mono ?_
          rintro e w3 ⟨hb3, A3, n3, c3, rfl, hits⟩
          have HQ : PickPost w (d + 1) (pickS ks l) (.returned (.tuple #[.slice A3 n3 c3, .int .i64 0])) w3 := by
            rw [HP.out.1]
            exact ⟨HP.out.2.trans (hb3.mono HP.out.2.size), A3, n3, c3, rfl, hits.mono fun b hb _ => ⟨Nat.le_trans HP.out.2.size hb.1, hb.2⟩⟩
          clear hb3 hits HC
          go_wp2_with fail
          go_ret2
          exact HQ

end Go.Proofs.Ytchpobikbcelfaa
