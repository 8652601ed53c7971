/-
  The contract of the reference's bytes, for a list that passes the check.
-/
import Derived.Test.YthifopkmbbgjnaaTlvShal
import Derived.Test.YthifopkmbbgjnaaTlvApp
import Derived.Test.YthifopkmbbgjnaaWireVar
namespace Go.Proofs.Ythifopkmbbgjnaa
open Go.RowKit

/-- The contract, for so many lists within one another. -/
def BytesC (e : Nat) : Prop := ∀ (w : World) (S : Nat → Prop) (d : Nat) (A : Option Addr) (n c : Nat) (l : List It), Its w S d A n c l → shal e l → okL l → fewL l → l.length ≤ 64 →
    Calls Try.prog 29 #[.slice A n c] w fun e w' => ∃ v, e = .returned v ∧ Made 5 (itsB l) w v w'

theorem app_keep {w w' : World} {v : Value} {A' AI : Option Addr} {NI : Nat} {ys : List Int} (hin : Sb w AI NI ys) (hd : ∀ ad, AI = some ad → 0 < NI → v.ownBlock = some ad.block → False) (hg : w.grownBy w' v.ownBlock)
    (hw : A'.map (·.block) = v.ownBlock ∨ A'.map (·.block) = some w.heap.size) : Sb w' AI NI ys ∧ ∀ ad, AI = some ad → 0 < NI → A'.map (·.block) = some ad.block → False := by
  refine ⟨sb_grown2 hin hg fun ad e hn h => hd ad e hn h, fun ad e hn h => ?_⟩
  rcases hw with h5 | h5
  · exact hd ad e hn (h5.symm.trans h)
  · have h6 := hin.ltB ad e hn
    rw [h5] at h
    injection h with h
    omega

theorem pow65 {e : Nat} (h : e ≤ 4) : 65 ^ e ≤ 17850625 := by
  have : (65 : Nat) ^ e ≤ 65 ^ 4 := Nat.pow_le_pow_right (by omega) h
  simpa using this

set_option maxRecDepth 100000 in
set_option maxHeartbeats 2000000 in
theorem bytes_step (e : Nat) (he : e ≤ 4) (ih : ∀ e', e = e' + 1 → BytesC e') : BytesC e := by
  intro w S0 d A n c l hi0 hsh hok hfew hlen
  have hi : Its w (· < w.heap.size) d A n c l := hi0.mono fun b _ h => h
  clear hi0
  obtain ⟨S, hS0⟩ : ∃ S : Nat → Prop, S = (· < w.heap.size) := ⟨_, rfl⟩
  rw [← hS0] at hi
  have HS0 := Lib.hid hS0
  clear hS0
  have hl := hi.len
  rw [hl] at hlen
  obtain ⟨M, hM⟩ : ∃ M, M = 4200 * 65 ^ e := ⟨_, rfl⟩
  have hM1 : M ≤ 74972625000 := by have := pow65 he; omega
  have hM0 : 4200 ≤ M := by have : 1 ≤ 65 ^ e := Nat.one_le_pow _ _ (by omega); omega
  have HL := Lib.hid hl
  have IH := Lib.hid ih
  have HH := Lib.hid (And.intro hi (And.intro hsh (And.intro hok hfew)))
  have HM := Lib.hid hM
  have H0 := Lib.hid (World.ownsRow_lit (size := 1) (e := 5) w #[] 0 (Nat.le_refl _) (by unfold maxLen; omega) rfl)
  clear ih hl hM hi hsh hok hfew he
  go_enter Try.func29, Try.ntmps29
  go_wp2_with fail
  go_loopw [3, 4] (fun v i wr => ∃ (k m c' : Nat) (A' : Option Addr), k ≤ n ∧ i = .int .i64 k ∧ v = .slice A' m c' ∧ m ≤ k * M ∧
      wr.ownsRow w.heap.size 5 1 (.slice A' m c') m ((itsB (l.take k)).map (Value.int .u8)) ∧ Below w.heap.size w wr) (fun _ i _ => n - (intOf i).toNat)
  case atStart => exact ⟨0, 0, 0, _, Nat.zero_le _, rfl, rfl, by omega, by simpa [itsB_nil] using H0.out, (Below.refl _ _).alloc (Nat.le_refl _) _⟩
  case round =>
    clear H0
    obtain ⟨k, m, c', A', hk, rfl, rfl, hm, hown, hbel⟩ := hrel
    by_cases hlt : k < n
    · obtain ⟨x, hx⟩ : ∃ x, l[k]? = some x := ⟨_, List.getElem?_eq_getElem (by rw [HL.out]; exact hlt)⟩
      have hmem : x ∈ l := List.mem_of_getElem? hx
      cases d with
      | zero =>
        obtain ⟨rfl, _⟩ := HH.out.1
        omega
      | succ d =>
      obtain ⟨e', he'⟩ : ∃ e', e = e' + 1 := by
        cases e with
        | zero => rw [show l = [] from HH.out.2.1] at hmem; cases hmem
        | succ e => exact ⟨e, rfl⟩
      have hsh' : shal e' x.items := by
        have h5 := HH.out.2.1
        rw [he'] at h5
        exact h5 x hmem
      have hxok := (okI_eq x).1 (okL_mem HH.out.2.2.1 hmem)
      have hxfew := (fewI_eq x).1 (fewL_mem HH.out.2.2.2 hmem)
      have hk0 : 0 ≤ x.kind := by omega
      have hk1 : x.kind ≤ 1000 := hxok.2.1
      have hiw : Its wr S (d + 1) A n c l := HH.out.1.stay hbel.size fun b _ hb => hbel.block b hb
      obtain ⟨ad, B, bn, bc, C, cn, cc, rfl, hS, hblt, hat⟩ := hiw.get hx
      have hin : x.inner.length ≤ M - 20 := by
        have h6 := shal_len e' x.items hsh' hxok.2.2.2.2.2 hxfew.2 hxfew.1
        have h7 : x.items.length * (4200 * 65 ^ e') ≤ 64 * (4200 * 65 ^ e') := Nat.mul_le_mul_right _ hxfew.1
        have h8 : 1 ≤ 65 ^ e' := Nat.one_le_pow _ _ (by omega)
        have h9 := HM.out
        rw [he', Nat.pow_succ] at h9
        unfold It.inner
        split
        · omega
        · have := hxok.2.2.2.2.1; omega
      have h0 := hat.c0
      have h1 := hat.c1
      have h2 := hat.c2
      have h3 := hat.c3
      have h4 := hat.c4
      have hbn := hat.b.lt
      have X := Lib.hid (And.intro hat (And.intro hx (And.intro (IH.out e' he' wr S d C cn cc x.items hat.i hsh' hxok.2.2.2.2.2 hxfew.2 hxfew.1) (And.intro hown hbel))))
      have hkl : (k : Int) < (n : Int) := by omega
      have hkM : k * M ≤ 64 * M := Nat.mul_le_mul_right _ (by omega)
      obtain ⟨ys, hys⟩ : ∃ ys, ys = x.inner := ⟨_, rfl⟩
      rw [← hys] at hin
      have HY := Lib.hid hys
      clear hiw hS hblt hat hx hmem hsh' hxok hxfew he' hown hbel hys
      cases hcr : x.crit with
      | true =>
        rw [hcr] at h1
        cases hls : x.lst with
        | true =>
          rw [hls] at h2
          have HX := Lib.hid (And.intro hcr hls)
          have HF : Hid (x.kind * 4 + 2 + 1 = fnum x.kind true true) := by show _ = _; unfold fnum; simp; omega
          have e3 : ys = itsB x.items := by rw [HY.out]; unfold It.inner; rw [if_pos hls]
          have E3 := Lib.hid e3
          clear hcr hls e3
          go_wp2_with fail
          refine X.out.2.2.1.mono ?_
          rintro e w3 ⟨v3, rfl, A3, n3, c3, rfl, hm3⟩
          rw [← E3.out] at hm3
          have hn3 : n3 ≤ M - 20 := by have := hm3.len; omega
          have hd3 : ∀ ad, A3 = some ad → 0 < n3 → (Value.slice A' m c').ownBlock = some ad.block → False := fun ad e _ hA => by
            have h5 := (own_block (ad := ad) (by rw [← e]; exact hm3.own)).1
            have h6 := (X.out.2.2.2.1.lt ad.block hA).2
            omega
          have Y := Lib.hid (And.intro (own_below X.out.2.2.2.1 hm3.below) (And.intro (X.out.2.2.2.2.trans (hm3.below.mono X.out.2.2.2.2.size)) (And.intro hm3.sb (And.intro (Nat.le_refl w3.heap.size) (And.intro hm3.len hd3)))))
          clear hm3 hd3 h0 h1 h2 h3 h4
          go_wp2_with fail
          refine (refVar_any _ _ (by omega) (by omega)).mono ?_
          rintro e w4 ⟨v4, rfl, A4, n4, c4, rfl, hm4⟩
          rw [HF.out] at hm4
          have hn4 : n4 ≤ 10 := by have := hm4.len; have := varL_len (fnum x.kind true true); omega
          have Z := Lib.hid (And.intro (own_below Y.out.1 hm4.below) (And.intro (Y.out.2.1.trans (hm4.below.mono Y.out.2.1.size)) (And.intro (Y.out.2.2.1.below hm4.below) (And.intro hm4.sb (Nat.le_trans Y.out.2.2.2.1 hm4.below.size)))))
          clear hm4
          go_wp2_with (at_builtin; refine wpList_appv _ rfl (.tmp 46) (.tmp 48) 26 rfl w.heap.size 5 Try.underlying26 info8 (.slice A' m c') m _ rfl Z.out.1 A4 n4 c4 _ rfl Z.out.2.2.2.1 (by omega) Z.out.2.1.size ?_; intro A5 c5 w5 hown5 hg5 hw5; have V5 := Lib.hid (And.intro hown5 (And.intro (below_app0 Z.out.1 Z.out.2.1 Z.out.2.1.size hg5) (app_keep Z.out.2.2.1 Y.out.2.2.2.2.2 hg5 hw5))); clear hown5 hg5 hw5)
          refine (refVar_any _ _ (by omega) (by omega)).mono ?_
          rintro e w6 ⟨v6, rfl, A6, n6, c6, rfl, hm6⟩
          have hn6 : n6 ≤ 10 := by have := hm6.len; have := varL_len (n3 : Int); omega
          have Z6 := Lib.hid (And.intro (own_below V5.out.1 hm6.below) (And.intro (V5.out.2.1.trans (hm6.below.mono V5.out.2.1.size)) (And.intro (V5.out.2.2.1.below hm6.below) hm6.sb)))
          clear hm6
          go_wp2_with (first
            | (at_builtin; refine wpList_appv _ rfl (.tmp 50) (.tmp 54) 26 rfl w.heap.size 5 Try.underlying26 info8 (.slice A5 (m + n4) c5) (m + n4) _ rfl Z6.out.1 A6 n6 c6 _ rfl Z6.out.2.2.2 (by omega) Z6.out.2.1.size ?_; intro A7 c7 w7 hown7 hg7 _; have V7 := Lib.hid (And.intro hown7 (And.intro (below_app0 Z6.out.1 Z6.out.2.1 Z6.out.2.1.size hg7) (sb_grown2 Z6.out.2.2.1 hg7 (fun ad e hn h => V5.out.2.2.2 ad e hn ((ownBlock_map _ _ _).symm.trans h))))); clear hown7 hg7)
            | (at_builtin; refine wpList_appv _ rfl (.tmp 56) (.tmp 57) 26 rfl w.heap.size 5 Try.underlying26 info8 (.slice A7 (m + n4 + n6) c7) (m + n4 + n6) _ rfl V7.out.1 A3 n3 c3 _ rfl V7.out.2.2 (by omega) V7.out.2.1.size ?_; intro A8 c8 w8 hown8 hg8 _; have V8 := Lib.hid (And.intro hown8 (below_app0 V7.out.1 V7.out.2.1 V7.out.2.1.size hg8)); clear hown8 hg8))
          go_roundw
          case rel =>
            have h5 := V8.out.1
            have hT := itsB_take (ys := ys) X.out.2.1 HY.out
            rw [HX.out.1, HX.out.2, Y.out.2.2.2.2.1] at hT
            have h6 : w8.ownsRow w.heap.size 5 1 (.slice A8 (m + n4 + n6 + n3) c8) (m + n4 + n6 + n3) ((itsB (l.take (k + 1))).map (Value.int .u8)) := by
              rw [hT]
              simpa only [List.map_append, List.append_assoc] using h5
            exact ⟨k + 1, m + n4 + n6 + n3, c8, A8, by omega, by go_num, rfl, by rw [Nat.add_mul]; omega, h6, V8.out.2⟩
          case measure => simp [intOf]; omega
        | false =>
          rw [hls] at h2
          have HX := Lib.hid (And.intro hcr hls)
          have HF : Hid (x.kind * 4 + 2 = fnum x.kind true false) := by show _ = _; unfold fnum; simp; omega
          have e3 : ys = x.bytes := by rw [HY.out]; unfold It.inner; rw [if_neg (by simp [hls])]
          have hl3 : ys.length = bn := by rw [e3]; exact X.out.1.b.sb.len
          have hn3 : bn ≤ M - 20 := by omega
          have hd3 : ∀ ad, B = some ad → 0 < bn → (Value.slice A' m c').ownBlock = some ad.block → False := fun ad e hn hA => by
            have h5 := X.out.1.b.at_ ad e hn
            rw [HS0.out] at h5
            have h6 := (X.out.2.2.2.1.lt ad.block hA).1
            omega
          have hsb3 : Sb wr B bn ys := by rw [e3]; exact X.out.1.b.sb
          have Y := Lib.hid (And.intro X.out.2.2.2.1 (And.intro X.out.2.2.2.2 (And.intro hsb3 (And.intro (Nat.le_refl wr.heap.size) (And.intro hl3 hd3)))))
          clear hcr hls e3 hl3 hd3 hsb3
          go_wp2_with fail
          refine (refVar_any _ _ (by omega) (by omega)).mono ?_
          rintro e w4 ⟨v4, rfl, A4, n4, c4, rfl, hm4⟩
          rw [HF.out] at hm4
          have hn4 : n4 ≤ 10 := by have := hm4.len; have := varL_len (fnum x.kind true false); omega
          have Z := Lib.hid (And.intro (own_below Y.out.1 hm4.below) (And.intro (Y.out.2.1.trans (hm4.below.mono Y.out.2.1.size)) (And.intro (Y.out.2.2.1.below hm4.below) (And.intro hm4.sb (Nat.le_trans Y.out.2.2.2.1 hm4.below.size)))))
          clear hm4
          go_wp2_with (at_builtin; refine wpList_appv _ rfl (.tmp 46) (.tmp 48) 26 rfl w.heap.size 5 Try.underlying26 info8 (.slice A' m c') m _ rfl Z.out.1 A4 n4 c4 _ rfl Z.out.2.2.2.1 (by omega) Z.out.2.1.size ?_; intro A5 c5 w5 hown5 hg5 hw5; have V5 := Lib.hid (And.intro hown5 (And.intro (below_app0 Z.out.1 Z.out.2.1 Z.out.2.1.size hg5) (app_keep Z.out.2.2.1 Y.out.2.2.2.2.2 hg5 hw5))); clear hown5 hg5 hw5)
          refine (refVar_any _ _ (by omega) (by omega)).mono ?_
          rintro e w6 ⟨v6, rfl, A6, n6, c6, rfl, hm6⟩
          have hn6 : n6 ≤ 10 := by have := hm6.len; have := varL_len (bn : Int); omega
          have Z6 := Lib.hid (And.intro (own_below V5.out.1 hm6.below) (And.intro (V5.out.2.1.trans (hm6.below.mono V5.out.2.1.size)) (And.intro (V5.out.2.2.1.below hm6.below) hm6.sb)))
          clear hm6
          go_wp2_with (first
            | (at_builtin; refine wpList_appv _ rfl (.tmp 50) (.tmp 54) 26 rfl w.heap.size 5 Try.underlying26 info8 (.slice A5 (m + n4) c5) (m + n4) _ rfl Z6.out.1 A6 n6 c6 _ rfl Z6.out.2.2.2 (by omega) Z6.out.2.1.size ?_; intro A7 c7 w7 hown7 hg7 _; have V7 := Lib.hid (And.intro hown7 (And.intro (below_app0 Z6.out.1 Z6.out.2.1 Z6.out.2.1.size hg7) (sb_grown2 Z6.out.2.2.1 hg7 (fun ad e hn h => V5.out.2.2.2 ad e hn ((ownBlock_map _ _ _).symm.trans h))))); clear hown7 hg7)
            | (at_builtin; refine wpList_appv _ rfl (.tmp 56) (.tmp 57) 26 rfl w.heap.size 5 Try.underlying26 info8 (.slice A7 (m + n4 + n6) c7) (m + n4 + n6) _ rfl V7.out.1 B bn bc _ rfl V7.out.2.2 (by omega) V7.out.2.1.size ?_; intro A8 c8 w8 hown8 hg8 _; have V8 := Lib.hid (And.intro hown8 (below_app0 V7.out.1 V7.out.2.1 V7.out.2.1.size hg8)); clear hown8 hg8))
          go_roundw
          case rel =>
            have h5 := V8.out.1
            have hT := itsB_take (ys := ys) X.out.2.1 HY.out
            rw [HX.out.1, HX.out.2, Y.out.2.2.2.2.1] at hT
            have h6 : w8.ownsRow w.heap.size 5 1 (.slice A8 (m + n4 + n6 + bn) c8) (m + n4 + n6 + bn) ((itsB (l.take (k + 1))).map (Value.int .u8)) := by
              rw [hT]
              simpa only [List.map_append, List.append_assoc] using h5
            exact ⟨k + 1, m + n4 + n6 + bn, c8, A8, by omega, by go_num, rfl, by rw [Nat.add_mul]; omega, h6, V8.out.2⟩
          case measure => simp [intOf]; omega
      | false =>
        rw [hcr] at h1
        cases hls : x.lst with
        | true =>
          rw [hls] at h2
          have HX := Lib.hid (And.intro hcr hls)
          have HF : Hid (x.kind * 4 + 1 = fnum x.kind false true) := by show _ = _; unfold fnum; simp; omega
          have e3 : ys = itsB x.items := by rw [HY.out]; unfold It.inner; rw [if_pos hls]
          have E3 := Lib.hid e3
          clear hcr hls e3
          go_wp2_with fail
          refine X.out.2.2.1.mono ?_
          rintro e w3 ⟨v3, rfl, A3, n3, c3, rfl, hm3⟩
          rw [← E3.out] at hm3
          have hn3 : n3 ≤ M - 20 := by have := hm3.len; omega
          have hd3 : ∀ ad, A3 = some ad → 0 < n3 → (Value.slice A' m c').ownBlock = some ad.block → False := fun ad e _ hA => by
            have h5 := (own_block (ad := ad) (by rw [← e]; exact hm3.own)).1
            have h6 := (X.out.2.2.2.1.lt ad.block hA).2
            omega
          have Y := Lib.hid (And.intro (own_below X.out.2.2.2.1 hm3.below) (And.intro (X.out.2.2.2.2.trans (hm3.below.mono X.out.2.2.2.2.size)) (And.intro hm3.sb (And.intro (Nat.le_refl w3.heap.size) (And.intro hm3.len hd3)))))
          clear hm3 hd3 h0 h1 h2 h3 h4
          go_wp2_with fail
          refine (refVar_any _ _ (by omega) (by omega)).mono ?_
          rintro e w4 ⟨v4, rfl, A4, n4, c4, rfl, hm4⟩
          rw [HF.out] at hm4
          have hn4 : n4 ≤ 10 := by have := hm4.len; have := varL_len (fnum x.kind false true); omega
          have Z := Lib.hid (And.intro (own_below Y.out.1 hm4.below) (And.intro (Y.out.2.1.trans (hm4.below.mono Y.out.2.1.size)) (And.intro (Y.out.2.2.1.below hm4.below) (And.intro hm4.sb (Nat.le_trans Y.out.2.2.2.1 hm4.below.size)))))
          clear hm4
          go_wp2_with (at_builtin; refine wpList_appv _ rfl (.tmp 46) (.tmp 48) 26 rfl w.heap.size 5 Try.underlying26 info8 (.slice A' m c') m _ rfl Z.out.1 A4 n4 c4 _ rfl Z.out.2.2.2.1 (by omega) Z.out.2.1.size ?_; intro A5 c5 w5 hown5 hg5 hw5; have V5 := Lib.hid (And.intro hown5 (And.intro (below_app0 Z.out.1 Z.out.2.1 Z.out.2.1.size hg5) (app_keep Z.out.2.2.1 Y.out.2.2.2.2.2 hg5 hw5))); clear hown5 hg5 hw5)
          refine (refVar_any _ _ (by omega) (by omega)).mono ?_
          rintro e w6 ⟨v6, rfl, A6, n6, c6, rfl, hm6⟩
          have hn6 : n6 ≤ 10 := by have := hm6.len; have := varL_len (n3 : Int); omega
          have Z6 := Lib.hid (And.intro (own_below V5.out.1 hm6.below) (And.intro (V5.out.2.1.trans (hm6.below.mono V5.out.2.1.size)) (And.intro (V5.out.2.2.1.below hm6.below) hm6.sb)))
          clear hm6
          go_wp2_with (first
            | (at_builtin; refine wpList_appv _ rfl (.tmp 50) (.tmp 54) 26 rfl w.heap.size 5 Try.underlying26 info8 (.slice A5 (m + n4) c5) (m + n4) _ rfl Z6.out.1 A6 n6 c6 _ rfl Z6.out.2.2.2 (by omega) Z6.out.2.1.size ?_; intro A7 c7 w7 hown7 hg7 _; have V7 := Lib.hid (And.intro hown7 (And.intro (below_app0 Z6.out.1 Z6.out.2.1 Z6.out.2.1.size hg7) (sb_grown2 Z6.out.2.2.1 hg7 (fun ad e hn h => V5.out.2.2.2 ad e hn ((ownBlock_map _ _ _).symm.trans h))))); clear hown7 hg7)
            | (at_builtin; refine wpList_appv _ rfl (.tmp 56) (.tmp 57) 26 rfl w.heap.size 5 Try.underlying26 info8 (.slice A7 (m + n4 + n6) c7) (m + n4 + n6) _ rfl V7.out.1 A3 n3 c3 _ rfl V7.out.2.2 (by omega) V7.out.2.1.size ?_; intro A8 c8 w8 hown8 hg8 _; have V8 := Lib.hid (And.intro hown8 (below_app0 V7.out.1 V7.out.2.1 V7.out.2.1.size hg8)); clear hown8 hg8))
          go_roundw
          case rel =>
            have h5 := V8.out.1
            have hT := itsB_take (ys := ys) X.out.2.1 HY.out
            rw [HX.out.1, HX.out.2, Y.out.2.2.2.2.1] at hT
            have h6 : w8.ownsRow w.heap.size 5 1 (.slice A8 (m + n4 + n6 + n3) c8) (m + n4 + n6 + n3) ((itsB (l.take (k + 1))).map (Value.int .u8)) := by
              rw [hT]
              simpa only [List.map_append, List.append_assoc] using h5
            exact ⟨k + 1, m + n4 + n6 + n3, c8, A8, by omega, by go_num, rfl, by rw [Nat.add_mul]; omega, h6, V8.out.2⟩
          case measure => simp [intOf]; omega
        | false =>
          rw [hls] at h2
          have HX := Lib.hid (And.intro hcr hls)
          have HF : Hid (x.kind * 4 = fnum x.kind false false) := by show _ = _; unfold fnum; simp; omega
          have e3 : ys = x.bytes := by rw [HY.out]; unfold It.inner; rw [if_neg (by simp [hls])]
          have hl3 : ys.length = bn := by rw [e3]; exact X.out.1.b.sb.len
          have hn3 : bn ≤ M - 20 := by omega
          have hd3 : ∀ ad, B = some ad → 0 < bn → (Value.slice A' m c').ownBlock = some ad.block → False := fun ad e hn hA => by
            have h5 := X.out.1.b.at_ ad e hn
            rw [HS0.out] at h5
            have h6 := (X.out.2.2.2.1.lt ad.block hA).1
            omega
          have hsb3 : Sb wr B bn ys := by rw [e3]; exact X.out.1.b.sb
          have Y := Lib.hid (And.intro X.out.2.2.2.1 (And.intro X.out.2.2.2.2 (And.intro hsb3 (And.intro (Nat.le_refl wr.heap.size) (And.intro hl3 hd3)))))
          clear hcr hls e3 hl3 hd3 hsb3
          go_wp2_with fail
          refine (refVar_any _ _ (by omega) (by omega)).mono ?_
          rintro e w4 ⟨v4, rfl, A4, n4, c4, rfl, hm4⟩
          rw [HF.out] at hm4
          have hn4 : n4 ≤ 10 := by have := hm4.len; have := varL_len (fnum x.kind false false); omega
          have Z := Lib.hid (And.intro (own_below Y.out.1 hm4.below) (And.intro (Y.out.2.1.trans (hm4.below.mono Y.out.2.1.size)) (And.intro (Y.out.2.2.1.below hm4.below) (And.intro hm4.sb (Nat.le_trans Y.out.2.2.2.1 hm4.below.size)))))
          clear hm4
          go_wp2_with (at_builtin; refine wpList_appv _ rfl (.tmp 46) (.tmp 48) 26 rfl w.heap.size 5 Try.underlying26 info8 (.slice A' m c') m _ rfl Z.out.1 A4 n4 c4 _ rfl Z.out.2.2.2.1 (by omega) Z.out.2.1.size ?_; intro A5 c5 w5 hown5 hg5 hw5; have V5 := Lib.hid (And.intro hown5 (And.intro (below_app0 Z.out.1 Z.out.2.1 Z.out.2.1.size hg5) (app_keep Z.out.2.2.1 Y.out.2.2.2.2.2 hg5 hw5))); clear hown5 hg5 hw5)
          refine (refVar_any _ _ (by omega) (by omega)).mono ?_
          rintro e w6 ⟨v6, rfl, A6, n6, c6, rfl, hm6⟩
          have hn6 : n6 ≤ 10 := by have := hm6.len; have := varL_len (bn : Int); omega
          have Z6 := Lib.hid (And.intro (own_below V5.out.1 hm6.below) (And.intro (V5.out.2.1.trans (hm6.below.mono V5.out.2.1.size)) (And.intro (V5.out.2.2.1.below hm6.below) hm6.sb)))
          clear hm6
          go_wp2_with (first
            | (at_builtin; refine wpList_appv _ rfl (.tmp 50) (.tmp 54) 26 rfl w.heap.size 5 Try.underlying26 info8 (.slice A5 (m + n4) c5) (m + n4) _ rfl Z6.out.1 A6 n6 c6 _ rfl Z6.out.2.2.2 (by omega) Z6.out.2.1.size ?_; intro A7 c7 w7 hown7 hg7 _; have V7 := Lib.hid (And.intro hown7 (And.intro (below_app0 Z6.out.1 Z6.out.2.1 Z6.out.2.1.size hg7) (sb_grown2 Z6.out.2.2.1 hg7 (fun ad e hn h => V5.out.2.2.2 ad e hn ((ownBlock_map _ _ _).symm.trans h))))); clear hown7 hg7)
            | (at_builtin; refine wpList_appv _ rfl (.tmp 56) (.tmp 57) 26 rfl w.heap.size 5 Try.underlying26 info8 (.slice A7 (m + n4 + n6) c7) (m + n4 + n6) _ rfl V7.out.1 B bn bc _ rfl V7.out.2.2 (by omega) V7.out.2.1.size ?_; intro A8 c8 w8 hown8 hg8 _; have V8 := Lib.hid (And.intro hown8 (below_app0 V7.out.1 V7.out.2.1 V7.out.2.1.size hg8)); clear hown8 hg8))
          go_roundw
          case rel =>
            have h5 := V8.out.1
            have hT := itsB_take (ys := ys) X.out.2.1 HY.out
            rw [HX.out.1, HX.out.2, Y.out.2.2.2.2.1] at hT
            have h6 : w8.ownsRow w.heap.size 5 1 (.slice A8 (m + n4 + n6 + bn) c8) (m + n4 + n6 + bn) ((itsB (l.take (k + 1))).map (Value.int .u8)) := by
              rw [hT]
              simpa only [List.map_append, List.append_assoc] using h5
            exact ⟨k + 1, m + n4 + n6 + bn, c8, A8, by omega, by go_num, rfl, by rw [Nat.add_mul]; omega, h6, V8.out.2⟩
          case measure => simp [intOf]; omega
    · have HP : Hid (Made 5 (itsB l) w (.slice A' m c') wr) := by
        rw [List.take_of_length_le (by rw [HL.out]; omega)] at hown
        exact Made.mk hown hbel
      clear hown hbel
      go_wp2_with fail
      go_ret
      exact ⟨_, rfl, HP.out⟩

theorem bytes_any (e : Nat) : e ≤ 4 → BytesC e := by
  induction e with
  | zero => intro h; exact bytes_step 0 h fun e' h => by omega
  | succ e ih =>
    intro h
    refine bytes_step (e + 1) h fun e' h' => ?_
    obtain rfl : e = e' := by omega
    exact ih (by omega)

end Go.Proofs.Ythifopkmbbgjnaa
