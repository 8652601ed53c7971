/-
  Part 45 of what the laws of emul want: GridRefA, UtfRefEnc, RefSame.
-/
import Derived.Lib.Hide
import Derived.Deep.QuietTactic
import Derived.BigQuiet
import Derived.LoopTactic
import Derived.Test.YtlcipgdnpilkfaaGreatDoorPm01
import Derived.Test.YtlcipgdnpilkfaaGreatDoorPm02
import Derived.Test.YtlcipgdnpilkfaaGreatDoorPm04
import Derived.Test.YtlcipgdnpilkfaaGreatDoorPm10
import Derived.Test.YtlcipgdnpilkfaaGreatDoorPm17
import Derived.Test.YtlcipgdnpilkfaaGreatDoorPm18
namespace Go.Proofs.YtlcipgdnpilkfaaGreatDoor
open Go.RowKit
structure Sl where
 A:Option Addr
 n:Nat
 k:Nat
def slV (s:Sl):List Value:=[.slice s.A s.n s.k]
theorem slV_len (s:Sl):(slV s).length=1:=rfl
theorem one_sl (L:List Sl):∀ v∈rowV slV L,v.oneCell'=true:=by
 induction L with
 | nil=>intro v hv;cases hv
 | cons c L ih =>
  intro v hv
  rcases List.mem_append.1 hv with hv | hv
  · simp only [slV,List.mem_cons,List.not_mem_nil,or_false] at hv
    rcases hv with rfl
    rfl
  · exact ih v hv
def sAtG (S:List Sl) (i:Nat):Sl:=S.getD i ⟨none,0,0⟩
theorem sAt_append (S:List Sl) (s:Sl) (i:Nat):sAtG (S ++ [s]) i=if i<S.length then sAtG S i else if i=S.length then s else ⟨none,0,0⟩:=by
 unfold sAtG
 simp only [List.getD]
 by_cases h:i<S.length
 · rw [List.getElem?_append_left h,if_pos h]
 · rw [List.getElem?_append_right (by omega),if_neg h]
   by_cases e:i=S.length
   · subst e;simp
   · rw [if_neg e,List.getElem?_eq_none (by simp;omega)];rfl
theorem infoSl3:(Tryz.prog.info? 24).map (fun i=>(i.zero,i.size,i.bytes))=some (some (.slice none 0 0),1,24):=by kernel_rfl
theorem rw_apart {α β:Type} {f:α→List Value} {f':β→List Value} {t t':TypeId} {w:World} {g g':Nat} {L:List α} {L':List β} (h:Rw f t w g L) (h':Rw f' t' w g' L') (ht:t≠t'):g≠g':=by
 rintro rfl
 obtain ⟨r,h⟩:=h
 obtain ⟨r',h'⟩:=h'
 rw [h] at h'
 injection h' with h'
 injection h' with _ h3
 exact ht h3
def OwnRow (w:World) (base:Nat) (s:Sl) (L:List Ce):Prop:=∃ g,base≤g∧s.A=some ⟨g,0,none⟩∧s.n=L.length∧s.n≤s.k∧s.k≤maxLen∧Rw ceV 66 w g L
theorem OwnRow.below {w w':World} {base:Nat} {s:Sl} {L:List Ce} (h:OwnRow w base s L) (hb:Below w.heap.size w w'):OwnRow w' base s L:=by
 obtain ⟨g,h1,h2,h3,h4,h5,h6⟩:=h
 exact ⟨g,h1,h2,h3,h4,h5,h6.below hb⟩
theorem OwnRow.grown {w w':World} {base:Nat} {s:Sl} {L:List Ce} (h:OwnRow w base s L) {row:Option Nat} (hg:w.grownBy w' row) (hr:∀ b,row=some b→∃ (α:Type) (f:α→List Value) (t:TypeId) (M:List α),Rw f t w b M∧t≠66):OwnRow w' base s L:=by
 obtain ⟨g,h1,h2,h3,h4,h5,h6⟩:=h
 refine ⟨g,h1,h2,h3,h4,h5,h6.grown hg fun e=>?_⟩
 obtain ⟨α,f,t,M,hM,ht⟩:=hr g e
 exact rw_apart hM h6 ht rfl
theorem OwnRow.vs {w:World} {base:Nat} {s:Sl} {L:List Ce} (h:OwnRow w base s L):Vs ceV w s.A s.n L:=by
 obtain ⟨g,h1,h2,h3,h4,h5,h6⟩:=h
 rw [h2,h3]
 exact h6.vs
theorem OwnRow.mk' {w:World} {base g n k:Nat} {L:List Ce} (h1:base≤g) (h3:n=L.length) (h4:n≤k) (h5:k≤maxLen) (h6:Rw ceV 66 w g L):OwnRow w base ⟨some ⟨g,0,none⟩,n,k⟩ L:=⟨g,h1,rfl,h3,h4,h5,h6⟩
structure Ls (w:World) (base:Nat) (S:List Sl) (LL:Rws):Prop where
 len:S.length=LL.length
 at_:∀ i,i<LL.length→OwnRow w base (sAtG S i) (lAt LL i)
section
variable {w w':World} {base:Nat} {S:List Sl} {LL:Rws}
theorem Ls.nil (w:World) (base:Nat):Ls w base [] []:=⟨rfl,fun i hi=>absurd hi (by simp)⟩
theorem Ls.below (h:Ls w base S LL) (hb:Below w.heap.size w w'):Ls w' base S LL:=⟨h.len,fun i hi=>(h.at_ i hi).below hb⟩
theorem Ls.grown (h:Ls w base S LL) {row:Option Nat} (hg:w.grownBy w' row) (hr:∀ b,row=some b→∃ (α:Type) (f:α→List Value) (t:TypeId) (M:List α),Rw f t w b M∧t≠66):Ls w' base S LL:=⟨h.len,fun i hi=>(h.at_ i hi).grown hg hr⟩
theorem Ls.snoc (h:Ls w base S LL) {s:Sl} {M:List Ce} (hs:OwnRow w base s M):Ls w base (S ++ [s]) (LL ++ [M]):=by
 refine ⟨by rw [List.length_append,List.length_append,h.len];rfl,fun i hi=>?_⟩
 rw [List.length_append] at hi
 simp only [List.length_cons,List.length_nil,Nat.zero_add] at hi
 rw [sAt_append,lAt_append,h.len]
 by_cases e:i<LL.length
 · rw [if_pos e,if_pos e];exact h.at_ i e
 · rw [if_neg e,if_neg e,if_pos (by omega),show i-LL.length=0 by omega];exact hs
end
structure Tb (w:World) (base g:Nat) (S:List Sl) (LL:Rws):Prop where
 rw_:Rw slV 24 w g S
 ls:Ls w base S LL
def bK (n:Nat) (p:Pn) (k:Nat):List Ce:=List.replicate k (blankS p) ++ List.replicate (n-k) ce0
open Go.RowKit
structure Bld (w wr:World) (A:Option Addr) (m c:Nat) (S:List Sl) (LL:Rws):Prop where
 bel:Below w.heap.size w wr
 own:wr.ownsRow w.heap.size 24 1 (.slice A m c) m (rowV slV S)
 ls:Ls wr w.heap.size S LL
 ln:LL.length=m
theorem own_type {w:World} {base:Nat} {e:TypeId} {d:Nat} {v:Value} {n:Nat} {xs:List Value} (h:w.ownsRow base e d v n xs) {g:Nat} (hg:v.ownBlock=some g):Rw slV e w g []:=by
 rcases h.2 with ⟨rfl,_⟩ | ⟨g',cap,cur,rfl,hb,hgg,rest⟩
 · simp [Value.ownBlock] at hg
 · have:g'=g:=by simpa [Value.ownBlock] using hg
   subst this
   exact ⟨cur.toList,by simpa [rowV] using hgg⟩
section
variable {w wr w':World} {A A':Option Addr} {m m' c c':Nat} {S:List Sl} {LL:Rws}
theorem Bld.below (h:Bld w wr A m c S LL) (hb:Below wr.heap.size wr w'):Bld w w' A m c S LL :=
 ⟨h.bel.trans (hb.mono h.bel.size),h.own.kept (grownBy_below (row:=none) hb) (by cases (Value.slice A m c).ownBlock<;>simp),h.ls.below hb,h.ln⟩
theorem Bld.app (h:Bld w wr A m c S LL) {s:Sl} {M:List Ce} (hs:OwnRow wr w.heap.size s M) (ho:w'.ownsRow w.heap.size 24 1 (.slice A' m' c') m' (rowV slV (S ++ [s]))) (hg:wr.grownBy w' (Value.slice A m c).ownBlock) (hm:m'=m+1):Bld w w' A' m' c' (S ++ [s]) (LL ++ [M]) :=
 ⟨Below.grown h.bel hg h.bel.size (fun k hk=>(h.own.lt k hk).1),ho,(h.ls.snoc hs).grown hg (fun b hb=>⟨_,slV,_,[],own_type h.own hb,by decide⟩),by rw [List.length_append,h.ln,hm];rfl⟩
theorem Bld.tb (h:Bld w wr A m c S LL) (hm:0<m):∃ g,A=some ⟨g,0,none⟩∧w.heap.size≤g∧m≤c∧c≤maxLen∧Tb wr w.heap.size g S LL:=by
 obtain ⟨g,h1,h2,h3,h4,h5⟩:=own_some hm h.own
 exact ⟨g,h1,h2,h3,h4,h5,h.ls⟩
end
theorem vs_oneS (w:World) (t:TypeId) (s:Sl):Vs slV (w.alloc (.cells #[.slice s.A s.n s.k] t)) (some ⟨w.heap.size,0,none⟩) 1 [s]:=by
 have h2:=(made_rw (f:=slV) w t [s]).vs
 simpa [rowV,slV] using h2
theorem rowsS_snoc (c q:Nat) (L:List Ce):rowsS c (q+1) L=rowsS c q L ++ [rowAt c L q]:=by unfold rowsS;rw [List.range_succ,List.map_append];rfl
theorem rowsS_len (c q:Nat) (L:List Ce):(rowsS c q L).length=q:=by simp [rowsS]
def RsPost (ok:Bool) (LL:Rws) (w:World) (e:Ending) (w':World):Prop :=
 (ok=true→Below w.heap.size w w'∧∃ g k S,e=.returned (.tuple #[.slice (some ⟨g,0,none⟩) LL.length k,.bool true])∧w.heap.size≤g∧LL.length≤k∧k≤maxLen∧Tb w' w.heap.size g S LL) ∧
 (ok=false→e=.returned (.tuple #[.slice none 0 0,.bool false])∧Below w.heap.size w w')
theorem RsPost.no {LL:Rws} {w:World} {e:Ending} {w':World} {ok:Bool} (hk:ok=false) (h:e=.returned (.tuple #[.slice none 0 0,.bool false])∧Below w.heap.size w w'):RsPost ok LL w e w':=by
 subst hk
 exact ⟨fun e=>(by cases e),fun _=>h⟩
set_option maxHeartbeats 3200000 in
theorem refRows_any {w:World} {A:Option Addr} {n k:Nat} {c r:Int} {L:List Ce} (h:Vs ceV w A n L) (hk:n≤k) (hn:n≤9223372036854775807) {ok:Bool} (hok:gridMay c r L=ok) {LL:Rws} (hLL:rowsS c.toNat r.toNat L=LL) :
  Calls Tryz.prog 65 #[.agg (gV c r A n k)] w (RsPost ok LL w):=by
 obtain ⟨w0,hw0⟩:∃ w0,w0=w.alloc (.cells (gV c r A n k) 26):=⟨_,rfl⟩
 obtain ⟨b,hbe⟩:∃ b,b=w.heap.size:=⟨_,rfl⟩
 have H:=Lib.hid (show Vs ceV w0 A n L∧Gb w0 b ⟨c,r,A,n,k⟩∧Below w.heap.size w w0∧b=w.heap.size from by
  rw [hw0,hbe]
  exact ⟨h.alloc _,gb_new w ⟨c,r,A,n,k⟩,below1 _ _,rfl⟩)
 have HL:=Lib.hid (And.intro h.len (And.intro hok hLL))
 have HT:=Lib.hid h
 clear h hok hLL
 obtain ⟨c0,c1,c2,_⟩:=H.out.2.1.g3
 unfold gV at hw0
 obtain ⟨S,hS⟩:∃ S,sizeOk c r=S:=⟨_,rfl⟩
 cases S
 · have HF:=Lib.hid (show ok=false from by rw [← HL.out.2.1];exact gridMay_sz hS)
   unfold sizeOk at hS
   have hS2:=of_decide_eq_false hS
   clear hS
   by_cases h1:c<1
   · clear hS2
     go_enter Tryz.func65,Tryz.ntmps65
     unfold gV
     go_upto_region 1 with fail
     rw [← hw0,← hbe]
     clear hw0 hbe
     go_wp2_with fail
     exact bodyPost_ret (results_tmp2 Tryz.results65 _ _ _) rfl (RsPost.no HF.out ⟨rfl,H.out.2.2.1⟩)
   · have h1':1≤c:=by omega
     by_cases h2:80<c
     · clear hS2
       go_enter Tryz.func65,Tryz.ntmps65
       unfold gV
       go_upto_region 1 with fail
       rw [← hw0,← hbe]
       clear hw0 hbe
       go_wp2_with fail
       exact bodyPost_ret (results_tmp2 Tryz.results65 _ _ _) rfl (RsPost.no HF.out ⟨rfl,H.out.2.2.1⟩)
     · have h2':c≤80:=by omega
       by_cases h3:r<1
       · clear hS2
         go_enter Tryz.func65,Tryz.ntmps65
         unfold gV
         go_upto_region 1 with fail
         rw [← hw0,← hbe]
         clear hw0 hbe
         go_wp2_with fail
         exact bodyPost_ret (results_tmp2 Tryz.results65 _ _ _) rfl (RsPost.no HF.out ⟨rfl,H.out.2.2.1⟩)
       · have h3':1≤r:=by omega
         have h4:24<r:=by omega
         clear hS2
         go_enter Tryz.func65,Tryz.ntmps65
         unfold gV
         go_upto_region 1 with fail
         rw [← hw0,← hbe]
         clear hw0 hbe
         go_wp2_with fail
         exact bodyPost_ret (results_tmp2 Tryz.results65 _ _ _) rfl (RsPost.no HF.out ⟨rfl,H.out.2.2.1⟩)
 · obtain ⟨c',r',rfl,rfl,h1,h2,h3,h4⟩:=size_nat hS
   have hb4:=And.intro h1 (And.intro h2 (And.intro h3 h4))
   obtain ⟨m,hm⟩:∃ m:Nat,r'*c'=m:=⟨_,rfl⟩
   have hm2:m≤1920:=by rw [← hm];exact Nat.mul_le_mul h4 h2
   have v2:IntKind.i64.wrap ((c':Int)*(r':Int))=(m:Int):=by rw [← Int.natCast_mul,Nat.mul_comm,hm,IntKind.wrap_i64];omega
   have HB4:=Lib.hid (And.intro hb4 hm)
   have i1:(1:Int)≤(c':Int):=by omega
   have i2:(c':Int)≤80:=by omega
   have i3:(1:Int)≤(r':Int):=by omega
   have i4:(r':Int)≤24:=by omega
   clear hb4 hm hS
   by_cases hnm:n=m
   · subst hnm
     go_enter Tryz.func65,Tryz.ntmps65
     unfold gV
     go_upto_region 1 with fail
     rw [← hw0,← hbe]
     clear hw0 hbe
     go_upto_region 4 with fail
     obtain ⟨w1,hw1⟩:∃ w1,w1=w0.alloc (.cells #[] 24):=⟨_,rfl⟩
     obtain ⟨b1,hb1⟩:∃ b1,b1=w0.heap.size:=⟨_,rfl⟩
     have X0:=Lib.hid (show Bld w w1 (some ⟨b1,0,none⟩) 0 0 [] (rowsS c' 0 L)∧Gb w1 b ⟨c',r',A,n,k⟩∧Vs ceV w1 A n L from by
      rw [hw1,hb1]
      exact ⟨⟨H.out.2.2.1.alloc H.out.2.2.1.size _,World.ownsRow_lit w0 #[] 0 H.out.2.2.1.size (by unfold maxLen;omega) rfl,Ls.nil _ _,rfl⟩,H.out.2.1.below (below1 _ _),H.out.1.below (below1 _ _)⟩)
     rw [← hw1,← hb1]
     clear hw1 hb1 c0 c1 c2 v2
     go_wp2_with fail
     go_loopw [4,5] (fun o i wr=>∃ (q:Nat) (Ao:Option Addr) (co:Nat) (S:List Sl),q≤r'∧i=.int .i64 q∧o=.slice Ao q co∧Bld w wr Ao q co S (rowsS c' q L)∧(∀ y,y<q→rowMay (rowAt c' L y)=true)∧Gb wr b ⟨c',r',A,n,k⟩∧Vs ceV wr A n L) (fun _ i _=>r'-(intOf i).toNat)
     case atStart=>exact ⟨0,_,0,[],Nat.zero_le _,rfl,rfl,X0.out.1,fun j hj=>absurd hj (by omega),X0.out.2.1,X0.out.2.2⟩
     case round =>
      obtain ⟨q,Ao,co,S,hq,rfl,rfl,hbl,hall,hg3,hvs⟩:=hrel
      have X:=Lib.hid (And.intro hbl (And.intro hall (And.intro hg3 hvs)))
      clear hbl hall hg3 hvs
      obtain ⟨c0,c1,c2,_⟩:=X.out.2.2.1.g3
      by_cases hlt:q<r'
      · have hkl:(q:Int)<(r':Int):=by omega
        obtain ⟨a,ha⟩:∃ a:Nat,q*c'=a:=⟨_,rfl⟩
        have hfit:=row_fits (c:=c') hlt
        rw [HB4.out.2,ha] at hfit
        have HA:=Lib.hid (And.intro ha hfit)
        have v1:IntKind.i64.wrap ((q:Int)*(c':Int))=(a:Int):=by rw [← Int.natCast_mul,ha,IntKind.wrap_i64];omega
        have v3:IntKind.i64.wrap ((a:Int)+(c':Int))=((a+c':Nat):Int):=by rw [IntKind.wrap_i64];omega
        have k1:(a:Int)≤((a+c':Nat):Int):=by omega
        have k2:((a+c':Nat):Int)≤(k:Int):=by omega
        have k3:¬ (k=a):=by omega
        have k4:a+c'≤k:=by omega
        obtain ⟨ad,rfl⟩:=X.out.2.2.2.addr (by omega)
        have HV:=Lib.hid (show Vs ceV wr (some (ad.add (a*6))) c' (rowAt c' L q) from by
         have h5:=X.out.2.2.2.seg (a:=a) (c:=c') HA.out.2
         rw [← HA.out.1] at h5
         rw [← HA.out.1]
         exact h5)
        clear ha hfit
        go_wp2_with fail
        refine (copyC_any HV.out (by omega)).mono ?_
        rintro e w2 ⟨hb,g2,k2',rfl,hg2,hm1,hm3,hR⟩
        have e9:(rowAt c' L q).length=c':=HV.out.len
        rw [e9] at hm1 ⊢
        have Y:=Lib.hid (show Bld w w2 Ao q co S (rowsS c' q L)∧(∀ y,y<q→rowMay (rowAt c' L y)=true)∧Gb w2 b ⟨c',r',(some ad),n,k⟩∧Vs ceV w2 (some ad) n L∧OwnRow w2 w.heap.size ⟨some ⟨g2,0,none⟩,c',k2'⟩ (rowAt c' L q) from
         ⟨X.out.1.below hb,X.out.2.1,X.out.2.2.1.below hb,X.out.2.2.2.below hb,OwnRow.mk' (Nat.le_trans X.out.1.bel.size hg2) e9.symm hm1 hm3 hR⟩)
        clear hb hg2 hm1 hm3 hR e9 c0 c1 c2 v1 v3 k1 k2 k3 k4 X
        go_wp2_with fail
        refine (refRowMay_any Y.out.2.2.2.2.vs (by simp;omega)).mono ?_
        rintro e w3 ⟨rfl,hb⟩
        obtain ⟨M,hM⟩:∃ M,rowMay (rowAt c' L q)=M:=⟨_,rfl⟩
        rw [hM]
        have HM:=Lib.hid hM
        clear hM
        have Z:=Lib.hid (show Bld w w3 Ao q co S (rowsS c' q L)∧(∀ y,y<q→rowMay (rowAt c' L y)=true)∧Gb w3 b ⟨c',r',(some ad),n,k⟩∧Vs ceV w3 (some ad) n L∧OwnRow w3 w.heap.size ⟨some ⟨g2,0,none⟩,c',k2'⟩ (rowAt c' L q) from
         ⟨Y.out.1.below hb,Y.out.2.1,Y.out.2.2.1.below hb,Y.out.2.2.2.1.below hb,Y.out.2.2.2.2.below hb⟩)
        clear hb Y
        cases M
        · have HF:=Lib.hid (show ok=false from by rw [← HL.out.2.1];exact gridMay_row hlt HM.out)
          go_wp2_with fail
          exact bodyPost_ret (results_tmp2 Tryz.results65 _ _ _) rfl (RsPost.no HF.out ⟨rfl,Z.out.1.bel⟩)
        · have h1w:=below1 w3 (.cells #[.slice (some ⟨g2,0,none⟩) c' k2'] 24)
          have HW:=Lib.hid (show Bld w (w3.alloc (.cells #[.slice (some ⟨g2,0,none⟩) c' k2'] 24)) Ao q co S (rowsS c' q L)∧Gb (w3.alloc (.cells #[.slice (some ⟨g2,0,none⟩) c' k2'] 24)) b ⟨c',r',(some ad),n,k⟩∧Vs ceV (w3.alloc (.cells #[.slice (some ⟨g2,0,none⟩) c' k2'] 24)) (some ad) n L∧OwnRow (w3.alloc (.cells #[.slice (some ⟨g2,0,none⟩) c' k2'] 24)) w.heap.size ⟨some ⟨g2,0,none⟩,c',k2'⟩ (rowAt c' L q)∧Vs slV (w3.alloc (.cells #[.slice (some ⟨g2,0,none⟩) c' k2'] 24)) (some ⟨w3.heap.size,0,none⟩) 1 [⟨some ⟨g2,0,none⟩,c',k2'⟩] from
           ⟨Z.out.1.below h1w,Z.out.2.2.1.below h1w,Z.out.2.2.2.1.below h1w,Z.out.2.2.2.2.below h1w,vs_oneS w3 _ ⟨some ⟨g2,0,none⟩,c',k2'⟩⟩)
          clear h1w
          go_wp2_with (at_builtin;refine wpList_app_V _ rfl (.tmp 61) (.tmp 63) 116 rfl slV_len one_sl w.heap.size 24 _ 24 (by omega) Tryz.underlying116 infoSl3 rfl (by omega) (.slice Ao q co) q S rfl HW.out.1.own (some ⟨w3.heap.size,0,none⟩) 1 1 (q+1) rfl [⟨some ⟨g2,0,none⟩,c',k2'⟩] rfl HW.out.2.2.2.2 (by omega) HW.out.1.bel.size ?_;intro A5 c5 w5 hown hg)
          have Z2:=Lib.hid (show Bld w w5 A5 (q+1) c5 (S ++ [⟨some ⟨g2,0,none⟩,c',k2'⟩]) (rowsS c' (q+1) L)∧(∀ y,y<q+1→rowMay (rowAt c' L y)=true)∧Gb w5 b ⟨c',r',(some ad),n,k⟩∧Vs ceV w5 (some ad) n L from by
           have h9:=HW.out.1.app HW.out.2.2.2.1 hown hg rfl
           rw [← rowsS_snoc] at h9
           have hbw:∀ j,(Value.slice Ao q co).ownBlock=some j→w.heap.size≤j:=fun j hj=>(HW.out.1.own.lt j hj).1
           refine ⟨h9,fun y hy=>?_,HW.out.2.1.grown hg (fun e=>rw_apart (own_type HW.out.1.own e) HW.out.2.1.rw (by decide) rfl),HT.out.below h9.bel⟩
           by_cases e:y=q
           · rw [e];exact HM.out
           · exact Z.out.2.1 y (by omega))
          clear hown hg HW
          go_wp2_with fail
          go_roundw
          case rel=>exact ⟨q+1,A5,c5,_,by omega,by go_num,rfl,Z2.out⟩
          case measure=>simp [intOf];omega
      · obtain rfl:q=r':=by omega
        have HT2:=Lib.hid (show ok=true from by rw [← HL.out.2.1];exact gridMay_all (L:=L) HB4.out.1.1 HB4.out.1.2.1 HB4.out.1.2.2.1 HB4.out.1.2.2.2 (by rw [HL.out.1,HB4.out.2]) (fun y hy=>X.out.2.1 y (by omega)))
        obtain ⟨g,rfl,hg1,hg2,hg3,htb⟩:=X.out.1.tb (by have:=HB4.out.1.2.2.1;omega)
        have e8:rowsS c' q L=LL:=by rw [← HL.out.2.2];rfl
        rw [e8] at htb
        have HTB:=Lib.hid htb
        have e9:LL.length=q:=by rw [← e8,rowsS_len]
        clear htb e8
        go_wp2_with fail
        refine bodyPost_ret (results_tmp2 Tryz.results65 _ _ _) rfl ⟨fun _=>⟨X.out.1.bel,g,co,S,by rw [e9];rfl,hg1,by rw [e9];exact hg2,hg3,HTB.out⟩,fun e=>by rw [HT2.out] at e;cases e⟩
   · have hni:((n:Int) != (m:Int))=true:=by simp;omega
     have HF:=Lib.hid (show ok=false from by rw [← HL.out.2.1];exact gridMay_len (by rw [Int.toNat_natCast,Int.toNat_natCast,HB4.out.2,HL.out.1];exact hnm))
     go_enter Tryz.func65,Tryz.ntmps65
     unfold gV
     go_upto_region 1 with fail
     rw [← hw0,← hbe]
     clear hw0 hbe
     go_wp2_with fail
     exact bodyPost_ret (results_tmp2 Tryz.results65 _ _ _) rfl (RsPost.no HF.out ⟨rfl,H.out.2.2.1⟩)
open Go.RowKit
theorem OwnRow.base {w:World} {base base':Nat} {s:Sl} {L:List Ce} (h:OwnRow w base s L) (hb:base'≤base):OwnRow w base' s L:=by
 obtain ⟨g,h1,h2⟩:=h
 exact ⟨g,Nat.le_trans hb h1,h2⟩
open Go.RowKit
def Byts (zs:List Int) (w:World) (e:Ending) (w':World):Prop:=∃ A n c,e=.returned (.slice A n c)∧Sb w' A n zs∧Below w.heap.size w w'
theorem Byts.lit {w:World} {t:TypeId} {zs:List Int} {n:Nat} {cs:Array Value} (hc:cs.toList=zs.map (Value.int .u8)) (hl:zs.length=n) (hm:n≤100):Byts zs w (.returned (.slice (some ⟨w.heap.size,0,none⟩) n n)) (w.alloc (.cells cs t)) :=
 ⟨_,_,_,rfl,Sb.lit w t zs n cs hc hl (by unfold maxLen;omega),(Below.refl _ _).alloc (Nat.le_refl _) _⟩
set_option maxHeartbeats 1600000 in
set_option maxRecDepth 100000 in
theorem refEnc_may {r:Int} (w:World) (hm:mayS r=true):Calls Tryz.prog 132 #[.int .i32 r] w (Byts (encS r) w):=by
 have hb:=mayS_iff.1 hm
 have HM:=Lib.hid hm
 clear hm
 by_cases h1:r<128
 · have HE:=Lib.hid (enc1 (by omega) h1)
   go_enter Tryz.func132,Tryz.ntmps132
   go_wp2_with fail
   refine (may_any r w).mono ?_
   rintro e w1 ⟨rfl,rfl⟩
   rw [HM.out]
   go_wp2_with fail
   go_ret
   rw [HE.out]
   exact Byts.lit rfl rfl (by omega)
 by_cases h2:r<2048
 · have HE:=Lib.hid (enc2 (by omega) h2)
   go_enter Tryz.func132,Tryz.ntmps132
   go_wp2_with fail
   refine (may_any r w).mono ?_
   rintro e w1 ⟨rfl,rfl⟩
   rw [HM.out]
   go_wp2_with fail
   go_ret
   rw [HE.out]
   exact Byts.lit rfl rfl (by omega)
 by_cases h3:r<65536
 · have HE:=Lib.hid (enc3 (r:=r) (by omega))
   go_enter Tryz.func132,Tryz.ntmps132
   go_wp2_with fail
   refine (may_any r w).mono ?_
   rintro e w1 ⟨rfl,rfl⟩
   rw [HM.out]
   go_wp2_with fail
   go_ret
   rw [HE.out]
   exact Byts.lit rfl rfl (by omega)
 · have HE:=Lib.hid (enc4 (r:=r) (by omega))
   go_enter Tryz.func132,Tryz.ntmps132
   go_wp2_with fail
   refine (may_any r w).mono ?_
   rintro e w1 ⟨rfl,rfl⟩
   rw [HM.out]
   go_wp2_with fail
   go_ret
   rw [HE.out]
   exact Byts.lit rfl rfl (by omega)
theorem refEnc_any (r:Int) (w:World):Calls Tryz.prog 132 #[.int .i32 r] w (Byts (encS r) w):=by
 cases hm:mayS r
 · have HM:=Lib.hid hm
   have HE:=Lib.hid (enc_bad hm)
   clear hm
   go_enter Tryz.func132,Tryz.ntmps132
   go_wp2_with fail
   refine (may_any r w).mono ?_
   rintro e w1 ⟨rfl,rfl⟩
   rw [HM.out]
   go_wp2_with fail
   go_ret
   rw [HE.out]
   exact Byts.lit rfl rfl (by omega)
 · exact refEnc_may w hm
open Go.RowKit
theorem take_eq_snoc {xs ys:List Int} {k:Nat} (hx:k<xs.length) (hy:k<ys.length):xs.take (k+1)=ys.take (k+1)↔xs.take k=ys.take k∧xs.getD k 0=ys.getD k 0:=by
 rw [List.take_succ_eq_append_getElem hx,List.take_succ_eq_append_getElem hy]
 have h1:xs.getD k 0=xs[k]:=getD_lt hx
 have h2:ys.getD k 0=ys[k]:=getD_lt hy
 rw [h1,h2]
 constructor
 · intro h
   have:=List.append_inj h (by simp;omega)
   exact ⟨this.1,by simpa using this.2⟩
 · rintro ⟨h,h'⟩
   rw [h,h']
end Go.Proofs.YtlcipgdnpilkfaaGreatDoor
