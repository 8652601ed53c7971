/-
  Part 29 of what the laws of emul want: ProjShowsL, RowsTab, Weights.
-/
import Derived.Test.YtikhknnhmnopbaaGreatDoorPm01
import Derived.Test.YtikhknnhmnopbaaGreatDoorPm02
import Derived.Test.YtikhknnhmnopbaaGreatDoorPm19
namespace Go.Proofs.YtikhknnhmnopbaaGreatDoor
open Go.RowKit
theorem row_setR (z:Int):∀ (L:List Ce) (k:Nat),k<L.length→(rowV ceV L).set (k*6) (.int .i32 z)=rowV ceV (L.set k ⟨z,(cAt L k).wd,(cAt L k).p⟩):=by
 intro L
 induction L with
 | nil=>intro k hk;simp at hk
 | cons a L ih =>
  intro k hk
  cases k with
  | zero =>
   show (ceV a ++ rowV ceV L).set 0 _=ceV ⟨z,a.wd,a.p⟩ ++ rowV ceV L
   rw [List.set_append_left _ _ (by rw [ceV_len];omega)]
   rfl
  | succ k =>
   have:=ih k (by simpa using hk)
   show (ceV a ++ rowV ceV L).set ((k+1)*6) _=ceV a ++ rowV ceV (L.set k ⟨z,(cAt L k).wd,(cAt L k).p⟩)
   rw [List.set_append_right _ _ (by rw [ceV_len];omega),ceV_len,← this,show (k+1)*6-6=k*6 by omega]
theorem Rw.setR {t:TypeId} {w:World} {g:Nat} {L:List Ce} (h:Rw ceV t w g L) {k:Nat} (hk:k<L.length) (z:Int) :
  Rw ceV t (w.setCell ⟨g,k*6,none⟩ (.int .i32 z)) g (L.set k ⟨z,(cAt L k).wd,(cAt L k).p⟩):=by
 obtain ⟨r,h⟩:=h
 refine ⟨r,?_⟩
 rw [heap_setCell_same w g (k*6) _ _ _ h,← row_setR z L k hk]
 congr 2
 rw [List.setIfInBounds_toArray,List.set_append_left]
 rw [rowV_len ceV_len]
 omega
theorem sx_not_ce {w:World} {b g:Nat} {s:ScR} {L:List Ce} (h:Sx w b s) (k:Rw ceV 43 w g L):b≠g:=by
 rintro rfl
 obtain ⟨r,h⟩:=h
 obtain ⟨q,k⟩:=k
 rw [h] at k
 injection k with k
 injection k with _ k _
 exact absurd k (by decide)
structure Wk (w3 wr:World) (b:Nat) (s:ScR) (L:List Ce) (M:List ByteArray):Prop where
 sx:Sx wr b s
 cx:Cx w3.heap.size wr s.A s.n s.k L
 tx:Tx w3.heap.size wr s.T s.m s.q M
 bel:Below w3.heap.size w3 wr
section
variable {w3 wr:World} {b:Nat} {s:ScR} {L:List Ce} {M:List ByteArray}
theorem Wk.cell (h:Wk w3 wr b s L M) {k:Nat} (hk:k<s.n) (z:Int):∃ g,s.A=some ⟨g,0,none⟩∧wr.cell? ⟨g,k*6,none⟩=some (.int .i32 (cAt L k).r)∧wr.frozen? ⟨g,k*6,none⟩=false ∧
  Wk w3 (wr.setCell ⟨g,k*6,none⟩ (.int .i32 z)) b s (L.set k ⟨z,(cAt L k).wd,(cAt L k).p⟩) M:=by
 obtain ⟨g,e,hb,hR⟩:=h.cx.own (by omega)
 have hl:=h.cx.len
 have hlt:k<L.length:=by omega
 have hg:wr.grownBy (wr.setCell ⟨g,k*6,none⟩ (.int .i32 z)) (some g):=grownBy_set wr ⟨g,k*6,none⟩ _
 refine ⟨g,e,hR.cell (rowV_get ceV_len (getElem?_cAt hlt) (j:=0) rfl),hR.free _,h.sx.grown hg (by have:=sx_not_ce h.sx hR;intro e;injection e with e;exact this e.symm),⟨by rw [List.length_set];exact hl,h.cx.le,h.cx.max,fun _=>⟨g,e,hb,hR.setR hlt z⟩⟩,h.tx.grown hg (fun q e2 e3=>?_),h.bel.grown hg h.bel.size (fun q hq=>by injection hq with hq;omega)⟩
 injection e3 with e3
 exact cx_not_tx h.cx h.tx (by omega) g e (by rw [e2,e3];rfl)
end
open Go.ChangeShapes Go.WideShapes Go.ChangeAt Go.RowKit
abbrev laidL3:List (String × DataW Unit):=[("unicode/utf8.acceptRanges",Rows.laid_unicode_utf8_acceptRanges),("spyglass/utf.stretches",Rows.laid_spyglass_utf_stretches),("unicode/utf8.first",Rows.laid_unicode_utf8_first)]
theorem tabs_of_laid3 {W:World} (h:laidMetH Tryz.prog laidL3 W):Tabs W:=by
 rw [MakeChecks.laidMetH_plain _ _ _ (by kernel_rfl)] at h
 have h3:Lib.VarReads Tryz.prog W "unicode/utf8.first" Lib.firstData:=firstEq ▸ Lib.laidMet.reads h (by simp [laidL3])
 have h4:Lib.VarReads Tryz.prog W "unicode/utf8.acceptRanges" Lib.acceptData:=acceptEq ▸ Lib.laidMet.reads h (by simp [laidL3])
 have h5:Lib.VarReads Tryz.prog W "spyglass/utf.stretches" Rows.laid_spyglass_utf_stretches:=Lib.laidMet.reads h (by simp [laidL3])
 refine ⟨utf8Tabs_of_readsT u8t u8x h3 h4,?_⟩
 obtain ⟨g,t,cs,fuel,p,hg,hty,hvar,hd⟩:=h5
 obtain rfl:=Option.some.inj ((show Tryz.prog.globalNamed "spyglass/utf.stretches"=some 0 by kernel_rfl).symm.trans hg)
 obtain rfl:=Option.some.inj ((show (Tryz.prog.globals[0]?).map (·.type)=some 149 by kernel_rfl).symm.trans hty)
 have hcs:cs.toList=stCells:=stretch_cells hd
 unfold World.var? at hvar
 rw [hg] at hvar
 simp only [Option.bind_some] at hvar
 split at hvar
 · rename_i c t' fr hc
   cases hvar
   exact ⟨t',fr,by rw [hc,← hcs]⟩
 · cases hvar
theorem start_shaped3 (os:Os):(World.laidAll Tryz.prog os laidL3).Shaped Tryz.prog:=World.shaped_of_ZipB (by kernel_rfl) (by kernel_rfl)
theorem start_met3 (os:Os) (args:Array Value):laidMetH Tryz.prog laidL3 ((World.laidAll Tryz.prog os laidL3).forCall (fun _ _=>0) ⟨#[],args,[]⟩).memory:=by
 rw [MakeChecks.laidMetH_plain _ _ _ (by kernel_rfl)];exact laidMet_laidAll _ (by kernel_rfl) (by kernel_rfl)
open Go.ChangeShapes Go.WideShapes Go.ChangeAt Go.RowKit
theorem weights_at {H:Type} {P:Program} {ts:List TypeId} {ds:List (DataW H)} (h:(DataW.weightsEach P ts ds).all (·≤reachBytes)=true) {j:Nat} {t:TypeId} {d:DataW H} (ht:ts[j]?=some t) (hd:ds[j]?=some d):∀ x∈d.weights P t,x≤reachBytes :=
 fun x hx=>by simpa using List.all_eq_true.1 h x (DataW.weights_mem_each ht hd x hx)
end Go.Proofs.YtikhknnhmnopbaaGreatDoor
