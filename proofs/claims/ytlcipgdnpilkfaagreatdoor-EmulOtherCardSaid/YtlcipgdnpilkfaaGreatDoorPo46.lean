/-
  Part 46 of what the laws of emul want: EmulOthW, EmulOthL, EmulOthIn.
-/
import Derived.Deep.AppendLies
import Derived.Test.YtlcipgdnpilkfaaGreatDoorPo35
import Derived.Test.YtlcipgdnpilkfaaGreatDoorPo41
import Derived.Test.YtlcipgdnpilkfaaGreatDoorPo45
namespace Go.Proofs.YtlcipgdnpilkfaaGreatDoor
open Go.RowKit
theorem wpList_app_act {w:World} {base:Nat} {A:Option Addr} {n c:Nat} {M:List AcR} (hb:base≤w.heap.size) (h:w.ownsRow base 62 6 (.slice A n c) n (rowV acV M)) (hn:n≤300000) {ops:Array Oper} {rest:List Oper} {o:Oper} {a:Act} {Q:Exit→Act→World→Prop} (hgd:o.guard=none) (s u:Operand)
  (ho:o.op=.call { callee:=.builtin .append,args:=#[s,u],argTypes:=#[59,59] }) (hs:a.eval s=.slice A n c) (y:AcR) {w1:World} (hw1:w1=w.alloc (.cells (acA y) 62)) {m:Nat} (hu:a.eval u=.slice (some ⟨w.heap.size,0,none⟩) 1 m)
  (hk:∀ A' c' w',w'.ownsRow base 62 6 (.slice A' (n+1) c') (n+1) (rowV acV (M ++ [y]))→Below base w w'→wpList Tryz.prog ops Q rest (a.put o.dst (.slice A' (n+1) c')) w'):wpList Tryz.prog ops Q (o :: rest) a w1:=by
 have hb1:Below w.heap.size w w1:=by rw [hw1];exact (Below.refl _ _).alloc (Nat.le_refl _) _
 have hR:Rw acV 62 w1 w.heap.size [y]:=by rw [hw1];exact made_rw w _ [y]
 refine wpList_app_V w1 hgd s u 59 ho acV_len one_ac base 62 _ 64 (by omega) Tryz.underlying59 infoAc rfl (by omega) (.slice A n c) n M hs (row_same h fun q hq=>hb1.block q (h.lt q hq).2) (some ⟨w.heap.size,0,none⟩) 1 m (n+1) rfl [y] hu hR.vs (by omega) (Nat.le_trans hb hb1.size) ?_
 intro A' c' w' ho2 hg
 exact hk A' c' w' ho2 ((hb1.mono hb).grown hg (Nat.le_trans hb hb1.size) fun q hq=>(h.lt q hq).1)
theorem filt_snoc {R:List AcR} {k:Nat} {y:AcR} (h:R[k]?=some y) (p:AcR→Bool):(R.take (k+1)).filter p=(R.take k).filter p ++ if p y then [y] else []:=by
 rw [List.take_add_one,h,List.filter_append]
 simp [List.filter]
 cases p y<;>rfl
theorem filt_acts (R:List AcR):acts (R.filter fun x=>!savesA x.a)=(acts R).filter fun a=>!savesA a:=by
 unfold acts
 rw [List.filter_map]
 rfl
structure Lets (w1 wr:World) (R M:List AcR) (k m:Nat) (A:Option Addr) (c:Nat):Prop where
 bel:Below w1.heap.size w1 wr
 own:wr.ownsRow w1.heap.size 62 6 (.slice A m c) m (rowV acV M)
 len:M.length=m
 eq:M=(R.take k).filter fun x=>!savesA x.a
 le:m≤k
set_option maxHeartbeats 6400000 in
set_option maxRecDepth 100000 in
theorem otherT_any {A:Option Addr} {n c:Nat} {zs:List Int} {w:World} (hT:Known w) (hs:Sb w A n zs) (h8:U8s zs) (hn:n≤100000) :
  Calls Tryz.prog 28 #[.slice A n c] w (AcEndN ((actsP zs).filter fun a=>!savesA a) w):=by
 have H:=Lib.hid (And.intro hs h8)
 have HT:=Lib.hid hT
 clear hs h8 hT
 go_enter Tryz.func28,Tryz.ntmps28
 go_wp2_with fail
 refine (pActsN_any HT.out H.out.1 H.out.2 hn).mono ?_
 rintro e w1 ⟨A1,c1,R1,rfl,hA1,hL1,_,_,hb1,hF1,hB1,hR1⟩
 have X1:=Lib.hid (And.intro hA1 (And.intro hL1 (And.intro hb1 (And.intro hF1 hB1))))
 clear hA1 hL1 hb1 hF1 hB1
 obtain ⟨N,hN⟩:∃ N,R1.length=N:=⟨_,rfl⟩
 rw [hN] at hR1 ⊢
 have HN:=Lib.hid hN
 clear hN
 go_wp2_with fail
 go_loopw [3,10] (fun v i wr=>∃ (k m:Nat) (B:Option Addr) (d:Nat) (M:List AcR),k≤N∧i=.int .i64 k∧v=.slice B m d∧Lets w1 wr R1 M k m B d) (fun _ i _=>N-(intOf i).toNat)
 case atStart=>exact ⟨0,0,none,0,[],Nat.zero_le _,rfl,rfl,⟨Below.refl _ _,World.ownsRow_nil _ _ _ _,rfl,rfl,Nat.le_refl _⟩⟩
 case round =>
  obtain ⟨k,m,B,d,M,hk,rfl,rfl,hX⟩:=hrel
  have X:=Lib.hid hX
  clear hX
  by_cases hlt:k<N
  · obtain ⟨y,hy⟩:∃ y,R1[k]?=some y:=⟨_,List.getElem?_eq_getElem (by have:=HN.out;omega)⟩
    have hv:=X1.out.1.row.below X.out.bel
    obtain ⟨ad,hA⟩:∃ ad,A1=some ad:=hv.addr (by have:=HN.out;omega)
    subst hA
    obtain ⟨x0,x1,x2,x3,x4,x5⟩:=hv.sxa hy
    have HY:=Lib.hid hy
    clear hv hy
    have hkn:k<N∧k≤N:=⟨hlt,hk⟩
    have hm:m≤200000:=by have:=X.out.le;omega
    obtain ⟨w3,hw3⟩:∃ w3,w3=wr.alloc (.cells (acA y) 62):=⟨_,rfl⟩
    obtain ⟨b3,hb3⟩:∃ b3,b3=wr.heap.size:=⟨_,rfl⟩
    have H3:=Lib.hid (show Below wr.heap.size wr w3∧Sxb w3 b3 y∧w3.heap.size=b3+1 from by
     rw [hw3,hb3]
     exact ⟨(Below.refl _ _).alloc (Nat.le_refl _) _,Sxb.new wr y _,by simp⟩)
    have HO:=Lib.hid (show w1.heap.size≤w3.heap.size∧w3.ownsRow w1.heap.size 62 6 (.slice B m d) m (rowV acV M) from ⟨Nat.le_trans X.out.bel.size H3.out.1.size,row_same X.out.own fun q hq=>H3.out.1.block q (X.out.own.lt q hq).2⟩)
    unfold acA at hw3
    go_upto_region 5 with fail
    rw [← hw3,← hb3]
    clear hw3 hb3 x0 x1 x2 x3 x4 x5
    obtain ⟨hz0,p0,p1,p2,p3,p4,p5⟩:=H3.out.2.1
    clear hz0 hk hlt
    have hm:=Lib.hid hm
    have HKN:=Lib.hid hkn
    have hk9:k<200000:=by omega
    clear hkn
    by_cases h3:y.a.k=3
    · have e3:(y.a.k == 3)=true:=by simp [h3]
      have E3:=Lib.hid h3
      clear h3
      have e4:(y.a.k == 4)=false:=by simp [E3.out]
      by_cases h55:y.a.fin=55
      · have e55:(y.a.fin == 55)=true:=by simp [h55]
        have E55:=Lib.hid h55
        clear h55
        have HS:=Lib.hid (show savesA y.a=true from by unfold savesA;simp [E3.out,E55.out])
        have Y:=Lib.hid (show Lets w1 w3 R1 M (k+1) m B d from ⟨X.out.bel.trans (H3.out.1.mono X.out.bel.size),HO.out.2,X.out.len,by rw [filt_snoc HY.out,HS.out,X.out.eq];simp,by have:=X.out.le;omega⟩)
        go_wp2_with fail
        have hkn:=HKN.out
        go_roundw
        case rel=>have hkn:=HKN.out;exact ⟨k+1,m,B,d,M,by omega,by go_num,rfl,Y.out⟩
        case measure=>have hkn:=HKN.out;obtain ⟨hk1,_⟩:=hkn;simp [intOf];omega
      · have e55:(y.a.fin == 55)=false:=by simp [h55]
        have E55:=Lib.hid h55
        clear h55
        by_cases h99:y.a.fin=99
        · have e99:(y.a.fin == 99)=true:=by simp [h99]
          have E99:=Lib.hid h99
          clear h99
          have HS:=Lib.hid (show savesA y.a=true from by unfold savesA;simp [E3.out,E99.out])
          have Y:=Lib.hid (show Lets w1 w3 R1 M (k+1) m B d from ⟨X.out.bel.trans (H3.out.1.mono X.out.bel.size),HO.out.2,X.out.len,by rw [filt_snoc HY.out,HS.out,X.out.eq];simp,by have:=X.out.le;omega⟩)
          go_wp2_with fail
          have hkn:=HKN.out
          go_roundw
          case rel=>have hkn:=HKN.out;exact ⟨k+1,m,B,d,M,by omega,by go_num,rfl,Y.out⟩
          case measure=>have hkn:=HKN.out;obtain ⟨hk1,_⟩:=hkn;simp [intOf];omega
        · have e99:(y.a.fin == 99)=false:=by simp [h99]
          have E99:=Lib.hid h99
          clear h99
          have HS:=Lib.hid (show savesA y.a=false from by unfold savesA;simp [E3.out,E55.out,E99.out])
          go_upto_region 8 with (at_builtin;refine wpList_app_act HO.out.1 HO.out.2 (by have:=hm.out;omega) rfl (.tmp 49) (.tmp 51) rfl rfl y rfl rfl ?_;intro A5 d5 w5 ho5 hb5)
          have Y:=Lib.hid (show Lets w1 w5 R1 (M ++ [y]) (k+1) (m+1) A5 d5 from ⟨(X.out.bel.trans (H3.out.1.mono X.out.bel.size)).trans hb5,ho5,by rw [List.length_append,X.out.len];rfl,by rw [filt_snoc HY.out,HS.out,X.out.eq];rfl,by have:=X.out.le;omega⟩)
          clear ho5 hb5
          go_wp2_with fail
          have hkn:=HKN.out
          go_roundw
          case rel=>have hkn:=HKN.out;exact ⟨k+1,m+1,A5,d5,M ++ [y],by omega,by go_num,rfl,Y.out⟩
          case measure=>have hkn:=HKN.out;obtain ⟨hk1,_⟩:=hkn;simp [intOf];omega
    · have e3:(y.a.k == 3)=false:=by simp [h3]
      have E3:=Lib.hid h3
      clear h3
      by_cases h4:y.a.k=4
      · have e4:(y.a.k == 4)=true:=by simp [h4]
        have E4:=Lib.hid h4
        clear h4
        by_cases h63:y.a.m=63
        · have e63:(y.a.m == 63)=true:=by simp [h63]
          have E63:=Lib.hid h63
          clear h63
          have HS:=Lib.hid (show savesA y.a=true from by unfold savesA;simp [E4.out,E63.out])
          have Y:=Lib.hid (show Lets w1 w3 R1 M (k+1) m B d from ⟨X.out.bel.trans (H3.out.1.mono X.out.bel.size),HO.out.2,X.out.len,by rw [filt_snoc HY.out,HS.out,X.out.eq];simp,by have:=X.out.le;omega⟩)
          go_wp2_with fail
          have hkn:=HKN.out
          go_roundw
          case rel=>have hkn:=HKN.out;exact ⟨k+1,m,B,d,M,by omega,by go_num,rfl,Y.out⟩
          case measure=>have hkn:=HKN.out;obtain ⟨hk1,_⟩:=hkn;simp [intOf];omega
        · have e63:(y.a.m == 63)=false:=by simp [h63]
          have E63:=Lib.hid h63
          clear h63
          by_cases h33:y.a.m=33
          · have e33:(y.a.m == 33)=true:=by simp [h33]
            have E33:=Lib.hid h33
            clear h33
            have HS:=Lib.hid (show savesA y.a=true from by unfold savesA;simp [E4.out,E33.out])
            have Y:=Lib.hid (show Lets w1 w3 R1 M (k+1) m B d from ⟨X.out.bel.trans (H3.out.1.mono X.out.bel.size),HO.out.2,X.out.len,by rw [filt_snoc HY.out,HS.out,X.out.eq];simp,by have:=X.out.le;omega⟩)
            go_wp2_with fail
            have hkn:=HKN.out
            go_roundw
            case rel=>have hkn:=HKN.out;exact ⟨k+1,m,B,d,M,by omega,by go_num,rfl,Y.out⟩
            case measure=>have hkn:=HKN.out;obtain ⟨hk1,_⟩:=hkn;simp [intOf];omega
          · have e33:(y.a.m == 33)=false:=by simp [h33]
            have E33:=Lib.hid h33
            clear h33
            by_cases h115:y.a.fin=115
            · have e115:(y.a.fin == 115)=true:=by simp [h115]
              have E115:=Lib.hid h115
              clear h115
              have HS:=Lib.hid (show savesA y.a=true from by unfold savesA;simp [E4.out,E115.out])
              have Y:=Lib.hid (show Lets w1 w3 R1 M (k+1) m B d from ⟨X.out.bel.trans (H3.out.1.mono X.out.bel.size),HO.out.2,X.out.len,by rw [filt_snoc HY.out,HS.out,X.out.eq];simp,by have:=X.out.le;omega⟩)
              go_wp2_with fail
              have hkn:=HKN.out
              go_roundw
              case rel=>have hkn:=HKN.out;exact ⟨k+1,m,B,d,M,by omega,by go_num,rfl,Y.out⟩
              case measure=>have hkn:=HKN.out;obtain ⟨hk1,_⟩:=hkn;simp [intOf];omega
            · have e115:(y.a.fin == 115)=false:=by simp [h115]
              have E115:=Lib.hid h115
              clear h115
              have HS:=Lib.hid (show savesA y.a=false from by unfold savesA;simp [E4.out,E63.out,E33.out,E115.out])
              go_upto_region 8 with (at_builtin;refine wpList_app_act HO.out.1 HO.out.2 (by have:=hm.out;omega) rfl (.tmp 49) (.tmp 51) rfl rfl y rfl rfl ?_;intro A5 d5 w5 ho5 hb5)
              have Y:=Lib.hid (show Lets w1 w5 R1 (M ++ [y]) (k+1) (m+1) A5 d5 from ⟨(X.out.bel.trans (H3.out.1.mono X.out.bel.size)).trans hb5,ho5,by rw [List.length_append,X.out.len];rfl,by rw [filt_snoc HY.out,HS.out,X.out.eq];rfl,by have:=X.out.le;omega⟩)
              clear ho5 hb5
              go_wp2_with fail
              have hkn:=HKN.out
              go_roundw
              case rel=>have hkn:=HKN.out;exact ⟨k+1,m+1,A5,d5,M ++ [y],by omega,by go_num,rfl,Y.out⟩
              case measure=>have hkn:=HKN.out;obtain ⟨hk1,_⟩:=hkn;simp [intOf];omega
      · have e4:(y.a.k == 4)=false:=by simp [h4]
        have E4:=Lib.hid h4
        clear h4
        have HS:=Lib.hid (show savesA y.a=false from by unfold savesA;simp [E3.out,E4.out])
        go_upto_region 8 with (at_builtin;refine wpList_app_act HO.out.1 HO.out.2 (by have:=hm.out;omega) rfl (.tmp 49) (.tmp 51) rfl rfl y rfl rfl ?_;intro A5 d5 w5 ho5 hb5)
        have Y:=Lib.hid (show Lets w1 w5 R1 (M ++ [y]) (k+1) (m+1) A5 d5 from ⟨(X.out.bel.trans (H3.out.1.mono X.out.bel.size)).trans hb5,ho5,by rw [List.length_append,X.out.len];rfl,by rw [filt_snoc HY.out,HS.out,X.out.eq];rfl,by have:=X.out.le;omega⟩)
        clear ho5 hb5
        go_wp2_with fail
        have hkn:=HKN.out
        go_roundw
        case rel=>have hkn:=HKN.out;exact ⟨k+1,m+1,A5,d5,M ++ [y],by omega,by go_num,rfl,Y.out⟩
        case measure=>have hkn:=HKN.out;obtain ⟨hk1,_⟩:=hkn;simp [intOf];omega
  · obtain rfl:k=N:=by omega
    have HF:=Lib.hid (show M=R1.filter fun x=>!savesA x.a from by rw [X.out.eq,List.take_of_length_le (by have:=HN.out;omega)])
    have hsh:=own_shape X.out.own
    go_wp2_with fail
    go_ret
    show AcEndN _ _ (.returned (.slice B m d)) _
    obtain ⟨A',c',e,h1,h2⟩:=hsh
    injection e with e1 _ e2
    subst e1 e2
    have hml:=X.out.len
    have hmem:∀ x∈M,x∈R1:=fun x hx=>by rw [HF.out] at hx;exact (List.mem_filter.1 hx).1
    have hw:=X1.out.2.2.1
    refine ⟨B,d,M,by rw [hml],⟨by rw [hml];exact own_vs hml X.out.own,fun x hx=>(X1.out.1.rd x (hmem x hx)).below X.out.bel⟩,by rw [HF.out,filt_acts,X1.out.2.1],by rw [hml];exact h1,h2,hw.trans (X.out.bel.mono hw.size),fun x hx=>X1.out.2.2.2.1 x (hmem x hx),fun ad e hn'=>?_,by rw [hml];have:=X.out.le;omega⟩
    exact Nat.le_trans hw.size (own_ge X.out.own ad e)
theorem off_isO (t:Tm):(t.doA (acCsi 63 108 [1049])).isO=false:=by
 rw [off_is]
 unfold Tm.showO
 rw [if_neg (fun e=>by cases e.1)]
 rfl
theorem other_law {t:Tm} (h:TmOk t) (hl:LkOk t) (l:List AcS) (ha:∀ a∈l,savesA a=false) :
  let t1:=t.feed [24,27,91,63,49,48,52,57,108]
  let t4:=(l.foldl Tm.doA (t1.feed [27,91,63,49,48,52,57,104])).feed [27,91,63,49,48,52,57,108]
  t4.screen.cells=t1.screen.cells∧t4.screen.x=t1.screen.x∧t4.screen.y=t1.screen.y∧rightSc t4.screen=true:=by
 have hp:(t.byte 24).p=pa0:=byte_24 t
 have e1:t.feed [24,27,91,63,49,48,52,57,108]=(t.byte 24).doA (acCsi 63 108 [1049]):=by
  rw [feed_cons,feed_1049 hp (.inr rfl)]
 dsimp only
 rw [e1]
 have o1:=(h.byte 24).doA (acCsi 63 108 [1049])
 have l1:=(hl.byte 24).doA (acCsi 63 108 [1049])
 have q1:=off_isO (t.byte 24)
 have p1:((t.byte 24).doA (acCsi 63 108 [1049])).p=pa0:=(doA_p _ _).trans hp
 generalize (t.byte 24).doA (acCsi 63 108 [1049])=t1 at o1 l1 q1 p1
 rw [feed_1049 p1 (.inl rfl)]
 have p3:(l.foldl Tm.doA (t1.doA (acCsi 63 104 [1049]))).p=pa0:=(all_p _ _).trans ((doA_p _ _).trans p1)
 rw [feed_1049 p3 (.inr rfl)]
 obtain ⟨a,b,c,_,d⟩:=other_back o1 l1 q1 l ha
 exact ⟨a,b,c,d⟩
open Go.RowKit
theorem run_tx:∀ (l:List Int) {s:PaS},U8s s.tx→U8s l→TxO (runP s l)
 | [],s,h,_=>txo_none h
 | b :: l,s,h,hl=>by
  have h1:=feed_tx h (hl b (by simp))
  have h2:=run_tx l h1.2 (fun z hz=>hl z (by simp [hz]))
  unfold runP
  exact txo_app h1.1 h2.1 h2.2
theorem acts_tx {l:List Int} (h:U8s l):∀ a∈actsP l,a.ps.length≤16∧U8s a.tx:=(run_tx l u8_nil h).1
theorem acts_of_other {w0 w w':World} {g:Nat} {x:CT} {t:Tm} (h:Lw w0 w g x t) {A:Option Addr} {R:List AcR} {zs:List Int} (h8:U8s zs) (hA:Ats w' A R.length R) (hL:acts R=(actsP zs).filter fun a=>!savesA a) (hF:∀ x∈R,FarA w.heap.size x) (hB:∀ ad,A=some ad→0<R.length→w.heap.size≤ad.block):ActsIn w' g x A R:=by
 have hold:∀ q,w.heap.size≤q→¬ CB g x q:=fun q hq hc=>by have:=h.cz.hi q hc;omega
 have hmem:∀ y∈R,y.a∈actsP zs:=fun y hy=>by
  have:y.a∈acts R:=List.mem_map.2 ⟨y,hy,rfl⟩
  rw [hL] at this
  exact (List.mem_filter.1 this).1
 exact ⟨hA.row,fun ad e hn=>hold _ (hB ad e hn),fun y hy=>⟨hA.rd y hy,fun ad e hn=>hold _ ((hF y hy).p ad e hn),(acts_tx h8 _ (hmem y hy)).2,by rw [← (hA.rd y hy).p.len];have:=(acts_tx h8 _ (hmem y hy)).1;omega⟩,fun y hy ad e hn=>hold _ ((hF y hy).t ad e hn)⟩
theorem saves_none {R:List AcR} {zs:List Int} (hL:acts R=(actsP zs).filter fun a=>!savesA a):∀ a∈acts R,savesA a=false:=fun a ha=>by
 rw [hL] at ha
 simpa using (List.mem_filter.1 ha).2
theorem ActIn.below {w w':World} {g:Nat} {x:CT} {y:AcR} (h:ActIn w g x y) (hb:Below w.heap.size w w'):ActIn w' g x y:=⟨h.rd.below hb,h.off,h.u8,h.np⟩
def l24:List Int:=[24,27,91,63,49,48,52,57,108]
def lOn:List Int:=[27,91,63,49,48,52,57,104]
def lOff:List Int:=[27,91,63,49,48,52,57,108]
theorem u24:U8s l24:=fun z hz=>by simp [l24] at hz;omega
theorem uOn:U8s lOn:=fun z hz=>by simp [lOn] at hz;omega
theorem uOff:U8s lOff:=fun z hz=>by simp [lOff] at hz;omega
theorem lit_lw {w0 w:World} {g:Nat} {x:CT} {t:Tm} (hT:Tabs w0) (h:Lw w0 w g x t) (zs:List Int) (n:Nat) (hl:zs.length=n) (h8:U8s zs) (hn:n≤1000) (cs:Array Value) (hc:cs.toList=zs.map (Value.int .u8)) (fr:Nat × Nat) {w1:World} (hw1:w1=w.alloc (.cells cs 5 fr)) (k:Nat) :
  Calls Tryz.prog 15 #[.pointer (some ⟨g,0,none⟩),.slice (some ⟨w.heap.size,0,none⟩) n k] w1 fun e w'=>e=.returned (.tuple #[])∧∃ y,Lw w0 w' g y (t.feed zs)∧∀ b,Off w g x b→Off w' g y b∧w'.heap[b]?=w.heap[b]?:=by
 have hb:Below w.heap.size w w1:=by rw [hw1];exact (Below.refl _ _).alloc (Nat.le_refl _) _
 refine (feed_lw (c:=k) hT (h.below hb) (by rw [hw1];exact lit_u8 w zs n cs fr hc hl) h8 (by omega) (fun ad e _ hq=>by injection e with e;rw [← e] at hq;exact Nat.lt_irrefl _ (h.cz.hi _ hq))).mono ?_
 rintro e w' ⟨rfl,y,hy,hk⟩
 exact ⟨rfl,y,hy,fun b hb'=>hb'.both hb hk⟩
end Go.Proofs.YtlcipgdnpilkfaaGreatDoor
