/-
  Part 26 of what the laws of emul want: EmulOwn, EmulLook.
-/
import Derived.Test.YtlcipgdnpilkfaaGreatDoorPo22
import Derived.Test.YtlcipgdnpilkfaaGreatDoorPo25
namespace Go.Proofs.YtlcipgdnpilkfaaGreatDoor
open Go.RowKit
theorem own_five {n:Int} (l:List Int) (h:n≤255):ownS (5 :: n :: l)=(n+1,2):=by
 have e:colourS (5 :: n :: l)=some (n+1,l):=by unfold colourS;exact if_pos (by omega)
 unfold ownS;rw [e];simp only [List.length_cons];congr 1;omega
theorem own_five_no {n:Int} (l:List Int) (h:¬ n≤255):ownS (5 :: n :: l)=(0,0):=by
 have e:colourS (5 :: n :: l)=none:=by unfold colourS;exact if_neg (by omega)
 unfold ownS;rw [e]
theorem own_two {a b c:Int} (l:List Int) (h:a≤255∧b≤255∧c≤255):ownS (2 :: a :: b :: c :: l)=(16777216+a*65536+b*256+c,4):=by
 have e:colourS (2 :: a :: b :: c :: l)=some (16777216+a*65536+b*256+c,l):=by unfold colourS;exact if_pos (by omega)
 unfold ownS;rw [e];simp only [List.length_cons];congr 1;omega
theorem own_two_no {a b c:Int} (l:List Int) (h:¬ (a≤255∧b≤255∧c≤255)):ownS (2 :: a :: b :: c :: l)=(0,0):=by
 have e:colourS (2 :: a :: b :: c :: l)=none:=by unfold colourS;exact if_neg (by omega)
 unfold ownS;rw [e]
theorem own_else {l:List Int} (h:¬ (l.getD 0 0=5∧1<l.length)) (h2:¬ (l.getD 0 0=2∧3<l.length)):ownS l=(0,0):=by
 have e:colourS l=none:=by
  unfold colourS
  split
  · exact absurd ⟨rfl,by simp⟩ h
  · exact absurd ⟨rfl,by simp⟩ h2
  · rfl
 unfold ownS;rw [e]
section
variable {w:World} {A:Option Addr} {n c:Nat} {l:List Int}
set_option maxRecDepth 100000 in
theorem ownColor_any (hI:Ik .i64 w A n l) (hc:n≤c) (h16:n≤16) (hr:∀ z∈l,0≤z∧z≤9999):Calls Tryz.prog 230 #[.slice A n c] w fun e w'=>e=.returned (.tuple #[.int .u32 (ownS l).1,.int .i64 ((ownS l).2:Nat)])∧w'=w:=by
 have HA:=Lib.hid (at_any (P:=fun _=>False) ⟨hI,hc,h16,hr,fun _ _ _ h=>h⟩ 0 (by omega))
 have hl:=hI.len
 have HI:=Lib.hid hI
 have HR:=Lib.hid hr
 clear hI hr
 obtain ⟨a,ha⟩:∃ a,l.getD 0 0=a:=⟨_,rfl⟩
 rw [show ((0:Nat):Int)=0 from rfl,ha] at HA
 by_cases h5:a=5
 · subst h5
   by_cases h1:1<n
   · obtain ⟨x,y,l,rfl⟩:∃ x y l',l=x :: y :: l':=by
      match l,hl with
      | x :: y :: l',_=>exact ⟨x,y,l',rfl⟩
      | [],h=>simp at h;omega
      | [_],h=>simp at h;omega
     obtain rfl:x=5:=ha
     obtain ⟨ad,rfl,hb,hcl⟩:=HI.out.at_ (by omega)
     have c1:w.cell? { block:=ad.block,off:=ad.off+1 }=some (.int .i64 y):=hcl 1 (by omega)
     have hy:=HR.out y (by simp)
     clear hcl hb HI HR hl
     have j1:(1:Int)<(n:Int):=by omega
     by_cases hy5:y≤255
     · rw [own_five l hy5]
       have HX:=Lib.hid (indexed_any y hy.1 hy5 w)
       go_enter Tryz.func230,Tryz.ntmps230
       go_wp2_with fail
       refine HA.out.mono ?_
       rintro e w1 ⟨rfl,hw1⟩
       obtain rfl:=hw1.symm
       clear hw1
       go_wp2_with fail
       refine HX.out.mono ?_
       rintro e w1 ⟨rfl,hw1⟩
       obtain rfl:=hw1.symm
       clear hw1
       go_wp2_with fail
       go_ret2
       exact ⟨rfl,rfl⟩
     · rw [own_five_no l hy5]
       go_enter Tryz.func230,Tryz.ntmps230
       go_wp2_with fail
       refine HA.out.mono ?_
       rintro e w1 ⟨rfl,hw1⟩
       obtain rfl:=hw1.symm
       clear hw1
       go_wp2_with fail
       go_ret2
       exact ⟨rfl,rfl⟩
   · rw [own_else (fun h=>h1 (by rw [← hl];exact h.2)) (fun h=>by rw [ha] at h;exact absurd h.1 (by decide))]
     have j1:¬ (1:Int)<(n:Int):=by omega
     clear ha hl HI HR
     go_enter Tryz.func230,Tryz.ntmps230
     go_wp2_with fail
     refine HA.out.mono ?_
     rintro e w1 ⟨rfl,hw1⟩
     obtain rfl:=hw1.symm
     clear hw1
     go_wp2_with fail
     go_ret2
     exact ⟨rfl,rfl⟩
 by_cases h2:a=2
 · subst h2
   by_cases h3:3<n
   · obtain ⟨x,p,q,r,l,rfl⟩:∃ x p q r l',l=x :: p :: q :: r :: l':=by
      match l,hl with
      | x :: p :: q :: r :: l',_=>exact ⟨x,p,q,r,l',rfl⟩
      | [],h=>simp at h;omega
      | [_],h=>simp at h;omega
      | [_,_],h=>simp at h;omega
      | [_,_,_],h=>simp at h;omega
     obtain rfl:x=2:=ha
     obtain ⟨ad,rfl,hb,hcl⟩:=HI.out.at_ (by omega)
     have c1:w.cell? { block:=ad.block,off:=ad.off+1 }=some (.int .i64 p):=hcl 1 (by omega)
     have c2:w.cell? { block:=ad.block,off:=ad.off+1+1 }=some (.int .i64 q):=hcl 2 (by omega)
     have c3:w.cell? { block:=ad.block,off:=ad.off+1+2 }=some (.int .i64 r):=hcl 3 (by omega)
     have hp:=HR.out p (by simp)
     have hq:=HR.out q (by simp)
     have hr:=HR.out r (by simp)
     clear hcl hb HI HR hl
     have j3:(3:Int)<(n:Int):=by omega
     have j4:(4:Int)≤(c:Int):=by omega
     go_enter Tryz.func230,Tryz.ntmps230
     go_wp2_with fail
     refine HA.out.mono ?_
     rintro e w1 ⟨rfl,hw1⟩
     obtain rfl:=hw1.symm
     clear hw1
     go_wp2_with fail
     go_loopw [2,38] (fun v i wr=>wr=w∧((i=.int .i64 0∧v=.int .u32 16777216)∨(i=.int .i64 1∧p≤255∧v=.int .u32 (16777216+p*65536))∨(i=.int .i64 2∧p≤255∧q≤255∧v=.int .u32 (16777216+p*65536+q*256))∨(i=.int .i64 3∧p≤255∧q≤255∧r≤255∧v=.int .u32 (16777216+p*65536+q*256+r)))) (fun _ i _=>3-(intOf i).toNat)
     case atStart=>exact ⟨rfl,.inl ⟨rfl,rfl⟩⟩
     case round =>
      obtain ⟨rfl,hrel⟩:=hrel
      rcases hrel with ⟨rfl,rfl⟩ | ⟨rfl,h1,rfl⟩ | ⟨rfl,h1,h4,rfl⟩ | ⟨rfl,h1,h4,h6,rfl⟩
      · by_cases hv:p≤255
        · have e1:wrap64 ((8:Int)*(2-0))=16:=by unfold wrap64;omega
          go_wp2_with fail
          go_roundw
          case rel=>exact ⟨trivial,.inr (.inl ⟨rfl,hv,rfl⟩)⟩
          case measure=>simp [intOf]
        · have eN:=own_two_no l (a:=p) (b:=q) (c:=r) (fun h=>hv h.1)
          go_wp2_with fail
          go_ret2
          exact ⟨rfl,rfl⟩
      · by_cases hv:q≤255
        · have e1:wrap64 ((8:Int)*(2-1))=8:=by unfold wrap64;omega
          go_wp2_with fail
          go_roundw
          case rel=>exact ⟨trivial,.inr (.inr (.inl ⟨rfl,h1,hv,rfl⟩))⟩
          case measure=>simp [intOf]
        · have eN:=own_two_no l (a:=p) (b:=q) (c:=r) (fun h=>hv h.2.1)
          go_wp2_with fail
          go_ret2
          exact ⟨rfl,rfl⟩
      · by_cases hv:r≤255
        · have e1:wrap64 ((8:Int)*(2-2))=0:=by unfold wrap64;omega
          go_wp2_with fail
          go_roundw
          case rel=>exact ⟨trivial,.inr (.inr (.inr (⟨rfl,h1,h4,hv,rfl⟩)))⟩
          case measure=>simp [intOf]
        · have eN:=own_two_no l (a:=p) (b:=q) (c:=r) (fun h=>hv h.2.2)
          go_wp2_with fail
          go_ret2
          exact ⟨rfl,rfl⟩
      · have eN:=own_two l ⟨h1,h4,h6⟩
        go_wp2_with fail
        go_ret2
        exact ⟨by rw [eN];rfl,rfl⟩
   · rw [own_else (fun h=>by rw [ha] at h;exact absurd h.1 (by decide)) (fun h=>h3 (by rw [← hl];exact h.2))]
     have j1:¬ (3:Int)<(n:Int):=by omega
     clear ha hl HI HR
     go_enter Tryz.func230,Tryz.ntmps230
     go_wp2_with fail
     refine HA.out.mono ?_
     rintro e w1 ⟨rfl,hw1⟩
     obtain rfl:=hw1.symm
     clear hw1
     go_wp2_with fail
     go_ret2
     exact ⟨rfl,rfl⟩
 · rw [own_else (fun h=>h5 (ha.symm.trans h.1)) (fun h=>h2 (ha.symm.trans h.1))]
   clear ha hl HI HR
   go_enter Tryz.func230,Tryz.ntmps230
   go_wp2_with fail
   refine HA.out.mono ?_
   rintro e w1 ⟨rfl,hw1⟩
   obtain rfl:=hw1.symm
   clear hw1
   go_wp2_with fail
   go_ret2
   exact ⟨rfl,rfl⟩
end
open Go.RowKit
section
variable {B:Nat} {w:World} {g:Nat} {x:CT} {A:Option Addr} {n c:Nat} {ps:List Int}
theorem look_ok {p:Pn} (h:PnOk p) {m:Int} (hm:0≤m) (hn:¬ (m=38∨m=48)):PnOk (lookP p m):=by
 have h1:=(pensF_ok 1 p [m] h (fun z hz=>by rw [List.mem_singleton.1 hz];exact hm)).1
 have e:pensF 1 p [m]=lookP p m:=rest_look p [] hn
 rw [← e]
 exact h1
theorem own_ok {p:Pn} (h:PnOk p) {m:Int} {l:List Int} (hl:∀ z∈l,0≤z) (hc:(ownS l).2≠0):PnOk (if m=38 then { p with fg:=(ownS l).1 } else { p with bg:=(ownS l).1 })∧0≤(ownS l).1∧(ownS l).1≤33554431:=by
 cases hk:colourS l with
 | none=>unfold ownS at hc;rw [hk] at hc;exact absurd rfl hc
 | some u =>
  obtain ⟨c,l'⟩:=u
  have e:(ownS l).1=c:=by unfold ownS;rw [hk]
  rw [e]
  obtain ⟨h1,h2,_⟩:=colour_may hl hk
  refine ⟨?_,h1.1,h1.2⟩
  split
  · exact ⟨h2,h.bg,h1,h.b0,h.st⟩
  · exact ⟨h.fg,h2,h.f0,h1,h.st⟩
theorem Cz.setPen (h:Cz B w g x) {p:Pn} (hp:PnOk p):CzTo B g x { x.t with now:={ x.t.now with pen:=p } } w ((((w.setCell ⟨g,3,none⟩ (.int .u32 p.fg)).setCell ⟨g,4,none⟩ (.int .u32 p.bg)).setCell ⟨g,5,none⟩ (.int .u8 p.st)).setCell ⟨g,6,none⟩ (.int .u16 p.lk)) { x with t:={ x.t with now:={ x.t.now with pen:=p } } } :=
 ((((h.raw.set 3 (.int .u32 p.fg)).set 4 (.int .u32 p.bg)).set 5 (.int .u8 p.st)).set 6 (.int .u16 p.lk)).fin h (y:={ x with t:={ x.t with now:={ x.t.now with pen:=p } } }) rfl ⟨rfl,rfl,rfl,rfl,rfl,rfl,rfl,rfl,rfl,rfl,rfl,rfl,rfl,rfl,rfl,rfl,rfl,h.tl⟩ { h.ok with pen:=hp }
theorem Cz.setFg (h:Cz B w g x) {c:Int} (hp:PnOk { x.t.now.pen with fg:=c }):CzTo B g x { x.t with now:={ x.t.now with pen:={ x.t.now.pen with fg:=c } } } w (w.setCell ⟨g,3,none⟩ (.int .u32 c)) { x with t:={ x.t with now:={ x.t.now with pen:={ x.t.now.pen with fg:=c } } } } :=
 (h.raw.set 3 (.int .u32 c)).fin h (y:={ x with t:={ x.t with now:={ x.t.now with pen:={ x.t.now.pen with fg:=c } } } }) rfl ⟨rfl,rfl,rfl,rfl,rfl,rfl,rfl,rfl,rfl,rfl,rfl,rfl,rfl,rfl,rfl,rfl,rfl,h.tl⟩ { h.ok with pen:=hp }
theorem Cz.setBg (h:Cz B w g x) {c:Int} (hp:PnOk { x.t.now.pen with bg:=c }):CzTo B g x { x.t with now:={ x.t.now with pen:={ x.t.now.pen with bg:=c } } } w (w.setCell ⟨g,4,none⟩ (.int .u32 c)) { x with t:={ x.t with now:={ x.t.now with pen:={ x.t.now.pen with bg:=c } } } } :=
 (h.raw.set 4 (.int .u32 c)).fin h (y:={ x with t:={ x.t with now:={ x.t.now with pen:={ x.t.now.pen with bg:=c } } } }) rfl ⟨rfl,rfl,rfl,rfl,rfl,rfl,rfl,rfl,rfl,rfl,rfl,rfl,rfl,rfl,rfl,rfl,rfl,h.tl⟩ { h.ok with pen:=hp }
theorem Ik.dropTo {q:IntKind} {w:World} {ad:Addr} {A':Option Addr} {n j:Nat} {zs:List Int} (h:Ik q w (some ad) n zs) (hA:0<n-j→A'=some (ad.add j)):Ik q w A' (n-j) (zs.drop j):=by
 refine ⟨by rw [List.length_drop,h.len],fun h0=>?_⟩
 obtain ⟨ad',e,hb,hc⟩:=h.at_ (by omega)
 injection e with e
 subst e
 refine ⟨ad.add j,hA h0,by rw [addBlock];exact hb,fun i hi=>?_⟩
 have e1:(ad.add j).add i=ad.add (j+i):=addAdd ad j i
 have e2:(zs.drop j).getD i 0=zs.getD (j+i) 0:=by rw [List.getD_eq_getElem?_getD,List.getD_eq_getElem?_getD,List.getElem?_drop]
 rw [e1,e2]
 exact hc (j+i) (by omega)
set_option maxRecDepth 100000 in
set_option maxHeartbeats 1600000 in
theorem look_nil (h:Cz B w g x) (hN:Nm w (CB g x) A n c ps) (h0:n=0):Calls Tryz.prog 184 #[.pointer (some ⟨g,0,none⟩),.slice A n c] w (CzP B g x (Dd.look.run ps x.t) w):=by
 have HZ:=Lib.hid h
 have HM:=Lib.hid hN
 subst h0
 have hps:ps=[]:=List.eq_nil_of_length_eq_zero HM.out.len
 subst hps
 clear h hN HM
 have HE:=Lib.hid (show pensP x.t.now.pen []=restP x.t.now.pen [0] from by rw [pens_rest,if_pos rfl])
 show Calls _ _ _ _ (CzP B g x { x.t with now:={ x.t.now with pen:=pensP x.t.now.pen [] } } w)
 rw [HE.out]
 clear HE
 have HM:=Lib.hid (show Nm (w.alloc (.cells #[.int .i64 0] 3)) (CB g x) (some ⟨w.heap.size,0,none⟩) 1 1 [0] from ⟨Ik.one _ _ _ _,Nat.le_refl _,by omega,(fun z hz=>by rw [List.mem_singleton.1 hz];omega),fun ad e _ hq=>by injection e with e;rw [← e] at hq;exact Nat.lt_irrefl _ (HZ.out.hi _ hq)⟩)
 have K1:=Lib.hid ((CzTo.refl HZ.out).below (w2:=w.alloc (.cells #[.int .i64 0] 3)) ((Below.refl _ _).alloc (Nat.le_refl _) _))
 have HZ0:=Lib.hid (CzTo.refl K1.out.cz)
 obtain ⟨ps,hps⟩:∃ ps:List Int,ps=[0]:=⟨_,rfl⟩
 rw [← hps] at HM ⊢
 clear hps
 go_enter Tryz.func184,Tryz.ntmps184
 go_wp2_with fail
 obtain ⟨m1,hm1⟩:∃ m1:Nat,m1=1:=⟨_,rfl⟩
 obtain ⟨m2,hm2⟩:∃ m2:Nat,m2=1:=⟨_,rfl⟩
 obtain ⟨ad,had⟩:∃ ad:Addr,ad=⟨w.heap.size,0,none⟩:=⟨_,rfl⟩
 have HM:=Lib.hid (show Nm (w.alloc (.cells #[.int .i64 0] 3)) (CB g x) (some ad) m1 m2 ps from by rw [had,hm1,hm2];exact HM.out)
 rw [show Value.slice (some ⟨w.heap.size,0,none⟩) 1 1=Value.slice (some ad) m1 m2 from by rw [had,hm1,hm2]]
 clear had hm1 hm2
 generalize w.alloc (.cells #[.int .i64 0] 3)=w0 at HM K1 HZ0 ⊢
 go_loopw [4] (fun i wr=>∃ (k:Nat) (q:Pn) (y:CT),k≤m1∧i=.int .i64 k∧CzTo B g x { x.t with now:={ x.t.now with pen:=q } } w0 wr y∧restP q (ps.drop k)=restP x.t.now.pen ps) (fun i _=>m1-(intOf i).toNat)
 case atStart=>exact ⟨0,x.t.now.pen,x,Nat.zero_le _,rfl,HZ0.out,rfl⟩
 case round =>
  obtain ⟨k,q,y,hk,rfl,hy,hq⟩:=hrel
  have Y:=Lib.hid hy
  have HQ:=Lib.hid hq
  have HM1:=Lib.hid (HM.out.on (y:=y) hy)
  clear hy hq
  by_cases hlt:k<m1
  · have hkl:k<ps.length:=by rw [HM1.out.len];exact hlt
    have hcell:=HM1.out.rd.cell hlt
    have eD:=List.drop_eq_getElem_cons hkl
    have eG:=getD_lt (zs:=ps) hkl
    have hrg:=HM1.out.rg _ (List.getElem_mem hkl)
    obtain ⟨m,hm⟩:∃ m,m=ps.getD k 0:=⟨_,rfl⟩
    rw [← hm] at hcell eG
    rw [← eG] at eD hrg
    rw [eD] at HQ
    have k1:(k:Int)<(m1:Int):=by omega
    have k16:=HM1.out.few
    clear eG hm eD
    have hyp:y.t.now.pen=q:=by rw [Y.out.t]
    have c3:wr.cell? ⟨g,3,none⟩=some (.int .u32 q.fg):=by have e:=Y.out.cz.cell (k:=3) (v:=.int .u32 y.t.now.pen.fg) rfl;rw [hyp] at e;exact e
    have c4:wr.cell? ⟨g,4,none⟩=some (.int .u32 q.bg):=by have e:=Y.out.cz.cell (k:=4) (v:=.int .u32 y.t.now.pen.bg) rfl;rw [hyp] at e;exact e
    have c5:wr.cell? ⟨g,5,none⟩=some (.int .u8 q.st):=by have e:=Y.out.cz.cell (k:=5) (v:=.int .u8 y.t.now.pen.st) rfl;rw [hyp] at e;exact e
    have c6:wr.cell? ⟨g,6,none⟩=some (.int .u16 q.lk):=by have e:=Y.out.cz.cell (k:=6) (v:=.int .u16 y.t.now.pen.lk) rfl;rw [hyp] at e;exact e
    have HP:=Lib.hid (show PnOk q from by rw [← hyp];exact Y.out.cz.ok.pen)
    clear hyp
    by_cases hsp:m=38∨m=48
    · have HR:=Lib.hid hrg
      have ncap:=HM1.out.le
      have hlen:=HM1.out.len
      have HS:=Lib.hid (show ∀ z∈ps.drop (k+1),0≤z∧z≤9999 from fun z hz=>HM1.out.rg z (List.mem_of_mem_drop hz))
      have HO:Hid (∀ A',(0<m1-(k+1)→A'=some (ad.add (k+1)))→∀ c',m1-(k+1)≤c'→Calls Tryz.prog 230 #[.slice A' (m1-(k+1)) c'] wr fun e w'=>e=.returned (.tuple #[.int .u32 (ownS (ps.drop (k+1))).1,.int .i64 ((ownS (ps.drop (k+1))).2:Nat)])∧w'=wr):=Lib.hid (fun A' hA c' hc'=>ownColor_any (HM1.out.rd.dropTo hA) hc' (by omega) HS.out)
      obtain ⟨col,t,ho⟩:∃ col t,ownS (ps.drop (k+1))=(col,t):=⟨_,_,rfl⟩
      have htl:t≤m1-(k+1):=by have e:=own_le (ps.drop (k+1));rw [ho,List.length_drop,hlen] at e;exact e
      simp only [ho] at HO
      have HH:=Lib.hid ho
      by_cases t0:t=0
      · have HF:=Lib.hid (show q=restP x.t.now.pen ps from by rw [← HQ.out,rest_none q hsp (by rw [HH.out];exact t0)])
        subst t0
        clear ho htl hlen hrg HP c3 c4 c5 c6
        rcases hsp with rfl | rfl
        · go_wp2_with fail
          · refine (HO.out _ (fun h0=>absurd h0 (by omega)) _ (by omega)).mono ?_
            rintro e w1 ⟨rfl,hw1⟩
            obtain rfl:=hw1.symm
            clear hw1
            go_wp2_with fail
            (try simp only [Exit.inBlock,Exit.then])
            refine bodyPost_ret (results_none rfl _ _ _) rfl ?_
            exact ⟨rfl,y,(K1.out.trans Y.out).as (by rw [← HF.out])⟩
          · refine (HO.out _ (fun _=>rfl) _ (by omega)).mono ?_
            rintro e w1 ⟨rfl,hw1⟩
            obtain rfl:=hw1.symm
            clear hw1
            go_wp2_with fail
            (try simp only [Exit.inBlock,Exit.then])
            refine bodyPost_ret (results_none rfl _ _ _) rfl ?_
            exact ⟨rfl,y,(K1.out.trans Y.out).as (by rw [← HF.out])⟩
        · go_wp2_with fail
          · refine (HO.out _ (fun h0=>absurd h0 (by omega)) _ (by omega)).mono ?_
            rintro e w1 ⟨rfl,hw1⟩
            obtain rfl:=hw1.symm
            clear hw1
            go_wp2_with fail
            (try simp only [Exit.inBlock,Exit.then])
            refine bodyPost_ret (results_none rfl _ _ _) rfl ?_
            exact ⟨rfl,y,(K1.out.trans Y.out).as (by rw [← HF.out])⟩
          · refine (HO.out _ (fun _=>rfl) _ (by omega)).mono ?_
            rintro e w1 ⟨rfl,hw1⟩
            obtain rfl:=hw1.symm
            clear hw1
            go_wp2_with fail
            (try simp only [Exit.inBlock,Exit.then])
            refine bodyPost_ret (results_none rfl _ _ _) rfl ?_
            exact ⟨rfl,y,(K1.out.trans Y.out).as (by rw [← HF.out])⟩
      · have tb:((t:Int) == 0)=false:=by rw [beq_eq_false_iff_ne];omega
        have tn:¬ (t:Int)=0:=by omega
        have HK:=Lib.hid (own_ok HP.out (m:=m) (fun z hz=>(HS.out z hz).1) (by rw [HH.out];exact t0)).1
        have HQ3:=Lib.hid ((rest_own q hsp (by rw [HH.out];exact t0)).symm.trans HQ.out)
        rw [HH.out] at HQ3 HK
        simp only [List.drop_drop] at HQ3 HK
        rw [show k+1+t=k+t+1 from by omega] at HQ3
        have kt:(k:Int)+t<m1:=by omega
        have kw1:wrap64 ((k:Int)+t)=(k:Int)+t:=by unfold wrap64;omega
        have kw2:wrap64 ((k:Int)+t+1)=(k:Int)+t+1:=by clear kw1;unfold wrap64;omega
        have hyp:y.t.now.pen=q:=by rw [Y.out.t]
        clear ho hrg HP c5 c6
        by_cases h38:m=38
        · subst h38
          rw [if_pos rfl] at HQ3 HK
          clear hsp c4
          have ZN:=Lib.hid ((Y.out.trans (Y.out.cz.setFg (c:=col) (by rw [hyp];exact HK.out))).as (show ({ y.t with now:={ y.t.now with pen:={ y.t.now.pen with fg:=col } } }:Tm)={ x.t with now:={ x.t.now with pen:={ q with fg:=col } } } from by rw [Y.out.t]))
          have f3:=Y.out.cz.fr 3
          clear hyp
          go_wp2_with fail
          refine (HO.out _ (fun _=>rfl) _ (by omega)).mono ?_
          rintro e w1 ⟨rfl,hw1⟩
          obtain rfl:=hw1.symm
          clear hw1
          go_wp2_with fail
          go_roundw
          case rel=>exact ⟨k+t+1,{ q with fg:=col },_,by omega,by go_num,ZN.out,HQ3.out⟩
          case measure=>simp [intOf];omega
        · obtain rfl:m=48:=by omega
          rw [if_neg h38] at HQ3 HK
          clear hsp c3
          have ZN:=Lib.hid ((Y.out.trans (Y.out.cz.setBg (c:=col) (by rw [hyp];exact HK.out))).as (show ({ y.t with now:={ y.t.now with pen:={ y.t.now.pen with bg:=col } } }:Tm)={ x.t with now:={ x.t.now with pen:={ q with bg:=col } } } from by rw [Y.out.t]))
          have f4:=Y.out.cz.fr 4
          clear hyp
          go_wp2_with fail
          refine (HO.out _ (fun _=>rfl) _ (by omega)).mono ?_
          rintro e w1 ⟨rfl,hw1⟩
          obtain rfl:=hw1.symm
          clear hw1
          go_wp2_with fail
          go_roundw
          case rel=>exact ⟨k+t+1,{ q with bg:=col },_,by omega,by go_num,ZN.out,HQ3.out⟩
          case measure=>simp [intOf];omega
    · have hs1:¬ m=38:=fun e=>hsp (.inl e)
      have hs2:¬ m=48:=fun e=>hsp (.inr e)
      have g1:(m != 38)=true:=bne_iff_ne.2 hs1
      have g2:(m != 48)=true:=bne_iff_ne.2 hs2
      have HLK:=Lib.hid (looking_any q m HP.out.st hrg wr)
      have HQ2:=Lib.hid (show restP (lookP q m) (ps.drop (k+1))=restP x.t.now.pen ps from by rw [← rest_look q _ hsp];exact HQ.out)
      have HOK:=Lib.hid (look_ok HP.out hrg.1 hsp)
      clear hsp
      go_wp2_with fail
      refine HLK.out.mono ?_
      rintro e w2 ⟨rfl,hb2⟩
      have Y2:=Lib.hid (Y.out.below hb2)
      clear hb2 c3 c4 c5 c6
      have c3:w2.cell? ⟨g,3,none⟩=some (.int .u32 y.t.now.pen.fg):=Y2.out.cz.cell rfl
      have c4:w2.cell? ⟨g,4,none⟩=some (.int .u32 y.t.now.pen.bg):=Y2.out.cz.cell rfl
      have c5:w2.cell? ⟨g,5,none⟩=some (.int .u8 y.t.now.pen.st):=Y2.out.cz.cell rfl
      have c6:w2.cell? ⟨g,6,none⟩=some (.int .u16 y.t.now.pen.lk):=Y2.out.cz.cell rfl
      have f3:=Y2.out.cz.fr 3
      have f4:=Y2.out.cz.fr 4
      have f5:=Y2.out.cz.fr 5
      have f6:=Y2.out.cz.fr 6
      have ZN:=Lib.hid ((Y2.out.trans (Y2.out.cz.setPen HOK.out)).as (show ({ y.t with now:={ y.t.now with pen:=lookP q m } }:Tm)={ x.t with now:={ x.t.now with pen:=lookP q m } } from by rw [Y2.out.t]))
      unfold pnA
      go_wp2_with fail
      go_roundw
      case rel=>exact ⟨k+1,lookP q m,_,by omega,by go_num,ZN.out,HQ2.out⟩
      case measure=>simp [intOf];omega
  · obtain rfl:k=m1:=by omega
    have hall:ps.drop k=[]:=List.drop_eq_nil_of_le (by rw [HM1.out.len];exact Nat.le_refl _)
    rw [hall,rest_nil] at HQ
    clear hall
    go_wp2_with fail
    go_end0
    exact ⟨rfl,y,(K1.out.trans Y.out).as (by rw [HQ.out])⟩
set_option maxRecDepth 100000 in
set_option maxHeartbeats 1600000 in
theorem look_some (h:Cz B w g x) (hN:Nm w (CB g x) A n c ps) (h0:¬ n=0):Calls Tryz.prog 184 #[.pointer (some ⟨g,0,none⟩),.slice A n c] w (CzP B g x (Dd.look.run ps x.t) w):=by
 have HZ:=Lib.hid h
 have HM:=Lib.hid hN
 obtain ⟨ad,rfl⟩:∃ ad,A=some ad:=by obtain ⟨ad,e,_⟩:=HM.out.rd.at_ (by omega);exact ⟨ad,e⟩
 have HE:=Lib.hid (show pensP x.t.now.pen ps=restP x.t.now.pen ps from by rw [pens_rest,if_neg (fun e=>h0 (by rw [← HM.out.len,e];rfl))])
 show Calls _ _ _ _ (CzP B g x { x.t with now:={ x.t.now with pen:=pensP x.t.now.pen ps } } w)
 rw [HE.out]
 clear h hN
 have hn0:¬ (n:Int)=0:=by omega
 have hnb:((n:Int) == 0)=false:=by rw [beq_eq_false_iff_ne];exact hn0
 have HZ0:=Lib.hid (CzTo.refl HZ.out)
 go_enter Tryz.func184,Tryz.ntmps184
 go_wp2_with fail
 go_loopw [4] (fun i wr=>∃ (k:Nat) (q:Pn) (y:CT),k≤n∧i=.int .i64 k∧CzTo B g x { x.t with now:={ x.t.now with pen:=q } } w wr y∧restP q (ps.drop k)=restP x.t.now.pen ps) (fun i _=>n-(intOf i).toNat)
 case atStart=>exact ⟨0,x.t.now.pen,x,Nat.zero_le _,rfl,HZ0.out,rfl⟩
 case round =>
  obtain ⟨k,q,y,hk,rfl,hy,hq⟩:=hrel
  have Y:=Lib.hid hy
  have HQ:=Lib.hid hq
  have HM1:=Lib.hid (HM.out.on (y:=y) hy)
  clear hy hq
  by_cases hlt:k<n
  · have hkl:k<ps.length:=by rw [HM1.out.len];exact hlt
    have hcell:=HM1.out.rd.cell hlt
    have eD:=List.drop_eq_getElem_cons hkl
    have eG:=getD_lt (zs:=ps) hkl
    have hrg:=HM1.out.rg _ (List.getElem_mem hkl)
    obtain ⟨m,hm⟩:∃ m,m=ps.getD k 0:=⟨_,rfl⟩
    rw [← hm] at hcell eG
    rw [← eG] at eD hrg
    rw [eD] at HQ
    have k1:(k:Int)<(n:Int):=by omega
    have k16:=HM1.out.few
    clear eG hm eD
    have hyp:y.t.now.pen=q:=by rw [Y.out.t]
    have c3:wr.cell? ⟨g,3,none⟩=some (.int .u32 q.fg):=by have e:=Y.out.cz.cell (k:=3) (v:=.int .u32 y.t.now.pen.fg) rfl;rw [hyp] at e;exact e
    have c4:wr.cell? ⟨g,4,none⟩=some (.int .u32 q.bg):=by have e:=Y.out.cz.cell (k:=4) (v:=.int .u32 y.t.now.pen.bg) rfl;rw [hyp] at e;exact e
    have c5:wr.cell? ⟨g,5,none⟩=some (.int .u8 q.st):=by have e:=Y.out.cz.cell (k:=5) (v:=.int .u8 y.t.now.pen.st) rfl;rw [hyp] at e;exact e
    have c6:wr.cell? ⟨g,6,none⟩=some (.int .u16 q.lk):=by have e:=Y.out.cz.cell (k:=6) (v:=.int .u16 y.t.now.pen.lk) rfl;rw [hyp] at e;exact e
    have HP:=Lib.hid (show PnOk q from by rw [← hyp];exact Y.out.cz.ok.pen)
    clear hyp
    by_cases hsp:m=38∨m=48
    · have HR:=Lib.hid hrg
      have ncap:=HM1.out.le
      have hlen:=HM1.out.len
      have HS:=Lib.hid (show ∀ z∈ps.drop (k+1),0≤z∧z≤9999 from fun z hz=>HM1.out.rg z (List.mem_of_mem_drop hz))
      have HO:Hid (∀ A',(0<n-(k+1)→A'=some (ad.add (k+1)))→∀ c',n-(k+1)≤c'→Calls Tryz.prog 230 #[.slice A' (n-(k+1)) c'] wr fun e w'=>e=.returned (.tuple #[.int .u32 (ownS (ps.drop (k+1))).1,.int .i64 ((ownS (ps.drop (k+1))).2:Nat)])∧w'=wr):=Lib.hid (fun A' hA c' hc'=>ownColor_any (HM1.out.rd.dropTo hA) hc' (by omega) HS.out)
      obtain ⟨col,t,ho⟩:∃ col t,ownS (ps.drop (k+1))=(col,t):=⟨_,_,rfl⟩
      have htl:t≤n-(k+1):=by have e:=own_le (ps.drop (k+1));rw [ho,List.length_drop,hlen] at e;exact e
      simp only [ho] at HO
      have HH:=Lib.hid ho
      by_cases t0:t=0
      · have HF:=Lib.hid (show q=restP x.t.now.pen ps from by rw [← HQ.out,rest_none q hsp (by rw [HH.out];exact t0)])
        subst t0
        clear ho htl hlen hrg HP c3 c4 c5 c6
        rcases hsp with rfl | rfl
        · go_wp2_with fail
          · refine (HO.out _ (fun h0=>absurd h0 (by omega)) _ (by omega)).mono ?_
            rintro e w1 ⟨rfl,hw1⟩
            obtain rfl:=hw1.symm
            clear hw1
            go_wp2_with fail
            (try simp only [Exit.inBlock,Exit.then])
            refine bodyPost_ret (results_none rfl _ _ _) rfl ?_
            exact ⟨rfl,y,(Y.out).as (by rw [← HF.out])⟩
          · refine (HO.out _ (fun _=>rfl) _ (by omega)).mono ?_
            rintro e w1 ⟨rfl,hw1⟩
            obtain rfl:=hw1.symm
            clear hw1
            go_wp2_with fail
            (try simp only [Exit.inBlock,Exit.then])
            refine bodyPost_ret (results_none rfl _ _ _) rfl ?_
            exact ⟨rfl,y,(Y.out).as (by rw [← HF.out])⟩
        · go_wp2_with fail
          · refine (HO.out _ (fun h0=>absurd h0 (by omega)) _ (by omega)).mono ?_
            rintro e w1 ⟨rfl,hw1⟩
            obtain rfl:=hw1.symm
            clear hw1
            go_wp2_with fail
            (try simp only [Exit.inBlock,Exit.then])
            refine bodyPost_ret (results_none rfl _ _ _) rfl ?_
            exact ⟨rfl,y,(Y.out).as (by rw [← HF.out])⟩
          · refine (HO.out _ (fun _=>rfl) _ (by omega)).mono ?_
            rintro e w1 ⟨rfl,hw1⟩
            obtain rfl:=hw1.symm
            clear hw1
            go_wp2_with fail
            (try simp only [Exit.inBlock,Exit.then])
            refine bodyPost_ret (results_none rfl _ _ _) rfl ?_
            exact ⟨rfl,y,(Y.out).as (by rw [← HF.out])⟩
      · have tb:((t:Int) == 0)=false:=by rw [beq_eq_false_iff_ne];omega
        have tn:¬ (t:Int)=0:=by omega
        have HK:=Lib.hid (own_ok HP.out (m:=m) (fun z hz=>(HS.out z hz).1) (by rw [HH.out];exact t0)).1
        have HQ3:=Lib.hid ((rest_own q hsp (by rw [HH.out];exact t0)).symm.trans HQ.out)
        rw [HH.out] at HQ3 HK
        simp only [List.drop_drop] at HQ3 HK
        rw [show k+1+t=k+t+1 from by omega] at HQ3
        have kt:(k:Int)+t<n:=by omega
        have kw1:wrap64 ((k:Int)+t)=(k:Int)+t:=by unfold wrap64;omega
        have kw2:wrap64 ((k:Int)+t+1)=(k:Int)+t+1:=by clear kw1;unfold wrap64;omega
        have hyp:y.t.now.pen=q:=by rw [Y.out.t]
        clear ho hrg HP c5 c6
        by_cases h38:m=38
        · subst h38
          rw [if_pos rfl] at HQ3 HK
          clear hsp c4
          have ZN:=Lib.hid ((Y.out.trans (Y.out.cz.setFg (c:=col) (by rw [hyp];exact HK.out))).as (show ({ y.t with now:={ y.t.now with pen:={ y.t.now.pen with fg:=col } } }:Tm)={ x.t with now:={ x.t.now with pen:={ q with fg:=col } } } from by rw [Y.out.t]))
          have f3:=Y.out.cz.fr 3
          clear hyp
          go_wp2_with fail
          refine (HO.out _ (fun _=>rfl) _ (by omega)).mono ?_
          rintro e w1 ⟨rfl,hw1⟩
          obtain rfl:=hw1.symm
          clear hw1
          go_wp2_with fail
          go_roundw
          case rel=>exact ⟨k+t+1,{ q with fg:=col },_,by omega,by go_num,ZN.out,HQ3.out⟩
          case measure=>simp [intOf];omega
        · obtain rfl:m=48:=by omega
          rw [if_neg h38] at HQ3 HK
          clear hsp c3
          have ZN:=Lib.hid ((Y.out.trans (Y.out.cz.setBg (c:=col) (by rw [hyp];exact HK.out))).as (show ({ y.t with now:={ y.t.now with pen:={ y.t.now.pen with bg:=col } } }:Tm)={ x.t with now:={ x.t.now with pen:={ q with bg:=col } } } from by rw [Y.out.t]))
          have f4:=Y.out.cz.fr 4
          clear hyp
          go_wp2_with fail
          refine (HO.out _ (fun _=>rfl) _ (by omega)).mono ?_
          rintro e w1 ⟨rfl,hw1⟩
          obtain rfl:=hw1.symm
          clear hw1
          go_wp2_with fail
          go_roundw
          case rel=>exact ⟨k+t+1,{ q with bg:=col },_,by omega,by go_num,ZN.out,HQ3.out⟩
          case measure=>simp [intOf];omega
    · have hs1:¬ m=38:=fun e=>hsp (.inl e)
      have hs2:¬ m=48:=fun e=>hsp (.inr e)
      have g1:(m != 38)=true:=bne_iff_ne.2 hs1
      have g2:(m != 48)=true:=bne_iff_ne.2 hs2
      have HLK:=Lib.hid (looking_any q m HP.out.st hrg wr)
      have HQ2:=Lib.hid (show restP (lookP q m) (ps.drop (k+1))=restP x.t.now.pen ps from by rw [← rest_look q _ hsp];exact HQ.out)
      have HOK:=Lib.hid (look_ok HP.out hrg.1 hsp)
      clear hsp
      go_wp2_with fail
      refine HLK.out.mono ?_
      rintro e w2 ⟨rfl,hb2⟩
      have Y2:=Lib.hid (Y.out.below hb2)
      clear hb2 c3 c4 c5 c6
      have c3:w2.cell? ⟨g,3,none⟩=some (.int .u32 y.t.now.pen.fg):=Y2.out.cz.cell rfl
      have c4:w2.cell? ⟨g,4,none⟩=some (.int .u32 y.t.now.pen.bg):=Y2.out.cz.cell rfl
      have c5:w2.cell? ⟨g,5,none⟩=some (.int .u8 y.t.now.pen.st):=Y2.out.cz.cell rfl
      have c6:w2.cell? ⟨g,6,none⟩=some (.int .u16 y.t.now.pen.lk):=Y2.out.cz.cell rfl
      have f3:=Y2.out.cz.fr 3
      have f4:=Y2.out.cz.fr 4
      have f5:=Y2.out.cz.fr 5
      have f6:=Y2.out.cz.fr 6
      have ZN:=Lib.hid ((Y2.out.trans (Y2.out.cz.setPen HOK.out)).as (show ({ y.t with now:={ y.t.now with pen:=lookP q m } }:Tm)={ x.t with now:={ x.t.now with pen:=lookP q m } } from by rw [Y2.out.t]))
      unfold pnA
      go_wp2_with fail
      go_roundw
      case rel=>exact ⟨k+1,lookP q m,_,by omega,by go_num,ZN.out,HQ2.out⟩
      case measure=>simp [intOf];omega
  · obtain rfl:k=n:=by omega
    have hall:ps.drop k=[]:=List.drop_eq_nil_of_le (by rw [HM1.out.len];exact Nat.le_refl _)
    rw [hall,rest_nil] at HQ
    clear hall
    go_wp2_with fail
    go_end0
    exact ⟨rfl,y,(Y.out).as (by rw [HQ.out])⟩
set_option maxRecDepth 100000 in
set_option maxHeartbeats 1600000 in
theorem look_any (h:Cz B w g x) (hN:Nm w (CB g x) A n c ps):Calls Tryz.prog 184 #[.pointer (some ⟨g,0,none⟩),.slice A n c] w (CzP B g x (Dd.look.run ps x.t) w):=by
 by_cases h0:n=0
 · exact look_nil h hN h0
 · exact look_some h hN h0
end
end Go.Proofs.YtlcipgdnpilkfaaGreatDoor
