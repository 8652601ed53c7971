/-
  Part 8 of what the laws of emul want: UtfVald, UtfVals.
-/
import Derived.LoopTactic
import Derived.Deep.LoopGhost
import Derived.Deep.DeepCutAuto
import Derived.Test.YtikhknnhmnopbaaGreatDoorPm02
import Derived.Test.YtikhknnhmnopbaaGreatDoorPm06
import Derived.Test.YtikhknnhmnopbaaGreatDoorPm07
namespace Go.Proofs.YtikhknnhmnopbaaGreatDoor
open Go.RowKit
def lnOf:Value→Nat
 | .slice _ n _=>n
 | _=>0
set_option maxRecDepth 100000 in
theorem and7X (X:Nat) (h:X<256):bits .and .u8 (X:Int) 7=((X % 8:Nat):Int):=by
 have key:∀ Y:Fin 256,bits .and .u8 ((Y.val:Nat):Int) 7=((Y.val % 8:Nat):Int):=by decide
 exact key ⟨X,h⟩
structure Ps8 (w0 w:World) (A:Option Addr) (m:Nat) (L:List Int) (ANS:Bool):Prop where
 sb:Sb w A m L
 u8:U8s L
 ans:validS L=ANS
 bel:Below w0.heap.size w0 w
theorem Ps8.below {w0 w w':World} {A:Option Addr} {m:Nat} {L:List Int} {ANS:Bool} (h:Ps8 w0 w A m L ANS) (hb:Below w.heap.size w w'):Ps8 w0 w' A m L ANS:=⟨h.sb.below hb,h.u8,h.ans,h.bel.trans (hb.mono h.bel.size)⟩
theorem Ps8.drewN {w0 w:World} {A:Option Addr} {m:Nat} {L:List Int} {ANS:Bool} (h:Ps8 w0 w A m L ANS) (q:Nat):Ps8 w0 (w.drewN q) A m L ANS:=h.below (below_drewN' (Below.refl _ _) q)
theorem Ps8.asc {w0 w:World} {ad:Addr} {m:Nat} {L:List Int} {ANS:Bool} (h:Ps8 w0 w (some ad) m L ANS) {k:Nat} (hk:k<m) (h0:0<k) (ha:Asc L k):Ps8 w0 w (some ⟨ad.block,ad.off+k,none⟩) (m-k) (L.drop k) ANS:=by
 have h1:=h.sb.cut (k:=k) (c:=m) (by omega) (Nat.le_refl _)
 rw [if_neg (by omega)] at h1
 have e:(some ad).map (·.add k)=some ⟨ad.block,ad.off+k,none⟩:=by simp [Addr.add];omega
 rw [e] at h1
 exact ⟨h1,h.u8.drop k,by rw [← valid_asc k L h.u8 ha];exact h.ans,h.bel⟩
theorem Ps8.all {w0 w:World} {A:Option Addr} {m:Nat} {L:List Int} {ANS:Bool} (h:Ps8 w0 w A m L ANS) (ha:validS (L.drop m)=ANS):ANS=true:=by
 rw [← ha,List.drop_of_length_le (by rw [h.sb.len];exact Nat.le_refl _)];rfl
theorem hiBits (N:Nat) (h:N<18446744073709551616):bits .and .u64 (N:Int) 9259542123273814144=((N &&& 9259542123273814144:Nat):Int):=u64_and_nat N 9259542123273814144 h (by omega)
theorem word_q {w0 w:World} {A:Option Addr} {m:Nat} {L:List Int} {ANS:Bool} (h:Ps8 w0 w A m L ANS) (c:Nat) (h8:8≤m) (hm:m≤1000000) :
  ∀ q,Calls Tryz.prog 107 #[.slice A m c] (w.drewN q) fun e w'=>e=.returned (.int .u64 (wordN L))∧∃ q',w'=(w.drewN q).drewN q' :=
 fun q=>word_any (h.drewN q).sb h.u8 h8 hm
theorem Ps8.tail {w0 w:World} {ad:Addr} {m:Nat} {L:List Int} {ANS:Bool} (h:Ps8 w0 w (some ad) m L ANS) {k:Nat} (hk:k<m) (h0:0<k):Ps8 w0 w (some ⟨ad.block,ad.off+k,none⟩) (m-k) (L.drop k) (validS (L.drop k)):=by
 have h1:=h.sb.cut (k:=k) (c:=m) (by omega) (Nat.le_refl _)
 rw [if_neg (by omega)] at h1
 have e:(some ad).map (·.add k)=some ⟨ad.block,ad.off+k,none⟩:=by simp [Addr.add];omega
 rw [e] at h1
 exact ⟨h1,h.u8.drop k,rfl,h.bel⟩
theorem lead2 {L:List Int} (h8:U8s L) (hne:L≠[]) (hs:szF (L.getD 0 0)=2):validS L=if L.length<2∨L.getD 1 0<loF (L.getD 0 0)∨hiF (L.getD 0 0)<L.getD 1 0 then false else validS (L.drop 2):=by
 have hh:=headN hne
 simp only [hs,Nat.reduceEqDiff,if_false,false_and,true_and,okF,ctF,decide_eq_true_eq] at hh
 split
 · rename_i hc
   rw [if_neg (by omega)] at hh
   exact valid_none hne hh
 · rename_i hc
   rw [if_pos (by omega)] at hh
   exact valid_head h8 hh
theorem lead3 {L:List Int} (h8:U8s L) (hne:L≠[]) (hs:szF (L.getD 0 0)=3):validS L=if L.length<3∨L.getD 1 0<loF (L.getD 0 0)∨hiF (L.getD 0 0)<L.getD 1 0∨L.getD 2 0<128∨191<L.getD 2 0 then false else validS (L.drop 3):=by
 have hh:=headN hne
 simp only [hs,Nat.reduceEqDiff,if_false,false_and,true_and,okF,ctF,decide_eq_true_eq] at hh
 split
 · rename_i hc
   rw [if_neg (by omega)] at hh
   exact valid_none hne hh
 · rename_i hc
   rw [if_pos (by omega)] at hh
   exact valid_head h8 hh
theorem lead4 {L:List Int} (h8:U8s L) (hne:L≠[]) (hs:szF (L.getD 0 0)=4):validS L=if L.length<4∨L.getD 1 0<loF (L.getD 0 0)∨hiF (L.getD 0 0)<L.getD 1 0∨L.getD 2 0<128∨191<L.getD 2 0∨L.getD 3 0<128∨191<L.getD 3 0 then false else validS (L.drop 4):=by
 have hh:=headN hne
 simp only [hs,Nat.reduceEqDiff,if_false,false_and,true_and,okF,ctF,decide_eq_true_eq] at hh
 split
 · rename_i hc
   rw [if_neg (by omega)] at hh
   exact valid_none hne hh
 · rename_i hc
   rw [if_pos (by omega)] at hh
   exact valid_head h8 hh
set_option maxHeartbeats 16000000 in
set_option maxRecDepth 100000 in
theorem valid8_any {w:World} {A:Option Addr} {n c:Nat} {zs:List Int} (hT:Tabs w) (hs:Sb w A n zs) (h8:U8s zs) (hc:n≤c) (hn:n≤100000) :
  Calls Tryz.prog 102 #[.slice A n c] w fun e w'=>e=.returned (.bool (validS zs))∧Below w.heap.size w w':=by
 obtain ⟨ANS,hANS⟩:∃ ANS,validS zs=ANS:=⟨_,rfl⟩
 rw [hANS]
 have H:=Lib.hid (And.intro hT (show Ps8 w w A n zs ANS from ⟨hs,h8,hANS,Below.refl _ _⟩))
 clear hT hs h8 hANS
 go_enter Tryz.func102,Tryz.ntmps102
 go_wp2_with fail
 go_loopw [0] (fun s0 wx=>∃ (A1:Option Addr) (m:Nat) (L:List Int),s0=.slice A1 m m∧m≤n∧Ps8 w wx A1 m L ANS) (fun s0 _=>lnOf s0)
 case atStart=>exact ⟨A,n,zs,rfl,Nat.le_refl _,H.out.2⟩
 case round =>
  obtain ⟨A1,m,L,rfl,hmn,hp⟩:=hrel
  have X:=Lib.hid hp
  clear hp
  by_cases h0:m=0
  · subst h0
    have hb:ANS=true:=by
     have h1:=X.out.ans
     rw [List.eq_nil_of_length_eq_zero X.out.sb.len] at h1
     rw [← h1];rfl
    subst hb
    go_wp2_with fail
    go_ret
    exact ⟨rfl,X.out.bel⟩
  · have hm0:(0:Int)<(m:Int):=by omega
    obtain ⟨ad,rfl⟩:=X.out.sb.addr (by omega)
    have k0:wr.cell? ad=some (.int .u8 (L.getD 0 0)):=by have:=X.out.sb.cell (k:=0) (by omega);unfold Addr.add at this;simpa using this
    obtain ⟨x0,hx0⟩:∃ x0,x0=L.getD 0 0:=⟨_,rfl⟩
    have bx0:=X.out.u8.getD 0
    rw [← hx0] at k0 bx0
    have HX0:=Lib.hid hx0
    clear hx0
    by_cases hasc:x0<128
    · have a1:Asc L 1:=fun z hz=>by
       have hl:0<L.length:=by rw [X.out.sb.len];omega
       rcases L with _ | ⟨y,t⟩
       · simp at hl
       · simp at hz;subst hz;have:=HX0.out;simp at this;omega
      have HA1:=Lib.hid a1
      clear a1
      by_cases hm1:m=1
      · subst hm1
        have Z:=Lib.hid (show Ps8 w wr (some ad) 0 [] ANS from ⟨Sb.nil _ _,U8s.nil,by rw [X.out.all (by rw [← valid_asc 1 L X.out.u8 HA1.out];exact X.out.ans)];rfl,X.out.bel⟩)
        go_wp2_with fail
        go_roundw
        case rel=>exact ⟨some ad,0,[],rfl,by omega,Z.out⟩
        case measure=>simp [lnOf]
      · have hne1:¬ m=1:=hm1
        have P1:=Lib.hid (X.out.asc (k:=1) (by omega) (by omega) HA1.out)
        have hm1z:(1:Int)≤(m:Int):=by omega
        obtain ⟨m1,hm1e⟩:∃ m1,m=m1+1:=⟨m-1,by omega⟩
        subst hm1e
        have Q1:=Lib.hid (show Ps8 w wr (some ⟨ad.block,ad.off+1,none⟩) m1 (L.drop 1) ANS from by have:=P1.out;rwa [Nat.add_sub_cancel] at this)
        clear P1
        obtain ⟨L1,hL1⟩:∃ L1,L1=L.drop 1:=⟨_,rfl⟩
        rw [← hL1] at Q1
        clear hL1 X HX0 HA1
        by_cases c8:8<m1
        · have c8z:(8:Int)<(m1:Int):=by omega
          have hW1:=word_q Q1.out m1 (by omega) (by omega) 0
          have lN1:=wordN_lt L1
          have kN1:=wordN_asc Q1.out.u8 (by rw [Q1.out.sb.len];omega)
          generalize wordN L1=N1 at hW1 lN1 kN1
          have hand1:=hiBits N1 lN1
          generalize N1 &&& 9259542123273814144=Z1 at hand1 kN1
          have HW1:=Lib.hid hW1
          have HK1:=Lib.hid kN1
          clear hW1 kN1 lN1
          by_cases hz1:Z1=0
          · as_aux_lemma =>
            have hz1b:((Z1:Int) == 0)=true:=by simp [hz1]
            have hne8:¬ m1=8:=by omega
            have Q2:=Lib.hid (Q1.out.asc (k:=8) c8 (by omega) (HK1.out.1 hz1))
            have c8l:(8:Int)≤(m1:Int):=by omega
            clear hz1
            obtain ⟨m2,hm2e⟩:∃ m2,m1=m2+8:=⟨m1-8,by omega⟩
            subst hm2e
            go_upto_region 8 with (go_at_call 107;refine HW1.out.mono ?_;rintro e w2 ⟨rfl,q1,rfl⟩)
            have Q3:=Lib.hid (show Ps8 w (wr.drewN q1) (some ⟨ad.block,ad.off+1+8,none⟩) m2 (L1.drop 8) ANS from by have:=Q2.out.drewN q1;rwa [Nat.add_sub_cancel] at this)
            clear Q1 Q2 HW1 HK1
            obtain ⟨L2,hL2⟩:∃ L2,L2=L1.drop 8:=⟨_,rfl⟩
            rw [← hL2] at Q3
            clear hL2
            generalize wr.drewN q1=w2 at Q3 ⊢
            by_cases c16:16<m2
            · have c16b:decide ((16:Int)<(m2:Int))=true:=by simp;omega
              have hne8':¬ m2=8:=by omega
              have c8m:(8:Int)≤(m2:Int):=by omega
              generalize ad.off+1+8=o2 at Q3 ⊢
              generalize ad.block=bk at Q3 ⊢
              obtain ⟨m3,hm3e⟩:∃ m3,m2=m3+16:=⟨m2-16,by omega⟩
              subst hm3e
              have hWA:=word_q Q3.out (m3+16) (by omega) (by omega)
              have QT:=Q3.out.tail (k:=8) (by omega) (by omega)
              rw [show m3+16-8=m3+8 by omega] at QT
              have hWB:=word_q QT (m3+8) (by omega) (by omega)
              have lA:=wordN_lt L2
              have lB:=wordN_lt (L2.drop 8)
              have kA:=wordN_asc Q3.out.u8 (by rw [Q3.out.sb.len];omega)
              have kB:=wordN_asc QT.u8 (by rw [QT.sb.len];omega)
              have hasc:(wordN L2 ||| wordN (L2.drop 8)) &&& 9259542123273814144=0→Asc L2 16:=fun h=>by
               obtain ⟨e1,e2⟩:=(Lib.or_mask _ _ _).1 h
               exact Asc.add (kA.1 e1) (kB.1 e2)
              clear kA kB QT
              generalize wordN L2=NA at hWA lA hasc
              generalize wordN (L2.drop 8)=NB at hWB lB hasc
              have hor:=u64_or_nat NA NB lA lB
              have lO:=Nat.or_lt_two_pow (n:=64) lA lB
              generalize NA ||| NB=NO at hor lO hasc
              have hand2:=hiBits NO lO
              generalize NO &&& 9259542123273814144=Z2 at hand2 hasc
              have HA:=Lib.hid hasc
              have HWA:=Lib.hid hWA
              have HWB:=Lib.hid hWB
              clear lA lB lO hasc hWA hWB
              have c8m':(8:Int)≤(m3:Int)+16:=by omega
              have c16b':decide ((16:Int)<(m3:Int)+16)=true:=by simp;omega
              by_cases hz2:Z2=0
              · as_aux_lemma =>
                have hz2b:((Z2:Int) == 0)=true:=by simp [hz2]
                go_quiet (first | (go_at_call 107;with_reducible exact Calls.quiet_of (HWA.out _)) | (go_at_call 107;with_reducible exact Calls.quiet_of (HWB.out _)))
                have hne16:¬ m3+16=16:=by omega
                have hm30:¬ m3=0:=by omega
                have hm3z:(16:Int)≤(m3:Int)+16:=by omega
                have Q4:=Lib.hid (show Ps8 w (w2.drewN nq) (some ⟨bk,o2+16,none⟩) m3 (L2.drop 16) ANS from by
                 have:=(Q3.out.asc (k:=16) (by omega) (by omega) (HA.out hz2)).drewN nq
                 rwa [Nat.add_sub_cancel] at this)
                clear Q3 HA HWA HWB hz2
                obtain ⟨L3,hL3⟩:∃ L3,L3=L2.drop 16:=⟨_,rfl⟩
                rw [← hL3] at Q4
                clear hL3
                generalize w2.drewN nq=w3 at Q4 ⊢
                go_wp2_with fail
                go_loopw [0] (fun s0 wx=>∃ (A5:Option Addr) (m5:Nat) (L5:List Int),s0=.slice A5 m5 m5∧m5≤m3∧Ps8 w wx A5 m5 L5 ANS) (fun s0 _=>lnOf s0)
                case atStart=>exact ⟨_,m3,L3,rfl,Nat.le_refl _,Q4.out⟩
                case round =>
                 obtain ⟨A5,m5,L5,rfl,hm5,hp5⟩:=hrel
                 have Q5:=Lib.hid hp5
                 clear hp5
                 by_cases c32:32<m5
                 · obtain ⟨ad5,rfl⟩:=Q5.out.sb.addr (by omega)
                   obtain ⟨m6,hm6e⟩:∃ m6,m5=m6+32:=⟨m5-32,by omega⟩
                   subst hm6e
                   have hWA:=word_q Q5.out (m6+32) (by omega) (by omega)
                   have QB:=Q5.out.tail (k:=8) (by omega) (by omega)
                   have QC:=Q5.out.tail (k:=16) (by omega) (by omega)
                   have QD:=Q5.out.tail (k:=24) (by omega) (by omega)
                   rw [show m6+32-8=m6+24 by omega] at QB
                   rw [show m6+32-16=m6+16 by omega] at QC
                   rw [show m6+32-24=m6+8 by omega] at QD
                   have hWB:=word_q QB (m6+24) (by omega) (by omega)
                   have hWC:=word_q QC (m6+16) (by omega) (by omega)
                   have hWD:=word_q QD (m6+8) (by omega) (by omega)
                   have lA:=wordN_lt L5
                   have lB:=wordN_lt (L5.drop 8)
                   have lC:=wordN_lt (L5.drop 16)
                   have lD:=wordN_lt (L5.drop 24)
                   have kA:=wordN_asc Q5.out.u8 (by rw [Q5.out.sb.len];omega)
                   have kB:=wordN_asc QB.u8 (by rw [QB.sb.len];omega)
                   have kC:=wordN_asc QC.u8 (by rw [QC.sb.len];omega)
                   have kD:=wordN_asc QD.u8 (by rw [QD.sb.len];omega)
                   have hasc:((wordN L5 ||| wordN (L5.drop 8)) ||| (wordN (L5.drop 16) ||| wordN (L5.drop 24))) &&& 9259542123273814144=0→Asc L5 32:=fun h=>by
                    obtain ⟨e01,e23⟩:=(Lib.or_mask _ _ _).1 h
                    obtain ⟨e0,e1⟩:=(Lib.or_mask _ _ _).1 e01
                    obtain ⟨e2,e3⟩:=(Lib.or_mask _ _ _).1 e23
                    exact Asc.add (a:=24) (b:=8) (Asc.add (a:=16) (b:=8) (Asc.add (a:=8) (b:=8) (kA.1 e0) (kB.1 e1)) (kC.1 e2)) (kD.1 e3)
                   clear kA kB kC kD QB QC QD
                   generalize wordN L5=NA at hWA lA hasc
                   generalize wordN (L5.drop 8)=NB at hWB lB hasc
                   generalize wordN (L5.drop 16)=NC at hWC lC hasc
                   generalize wordN (L5.drop 24)=ND at hWD lD hasc
                   have hor1:=u64_or_nat NA NB lA lB
                   have lO1:=Nat.or_lt_two_pow (n:=64) lA lB
                   have hor2:=u64_or_nat NC ND lC lD
                   have lO2:=Nat.or_lt_two_pow (n:=64) lC lD
                   generalize NA ||| NB=N1 at hor1 lO1 hasc
                   generalize NC ||| ND=N2 at hor2 lO2 hasc
                   have hor3:=u64_or_nat N1 N2 lO1 lO2
                   have lO3:=Nat.or_lt_two_pow (n:=64) lO1 lO2
                   generalize N1 ||| N2=N3 at hor3 lO3 hasc
                   have hand3:=hiBits N3 lO3
                   generalize N3 &&& 9259542123273814144=Z3 at hand3 hasc
                   have HA:=Lib.hid hasc
                   have HWA:=Lib.hid hWA
                   have HWB:=Lib.hid hWB
                   have HWC:=Lib.hid hWC
                   have HWD:=Lib.hid hWD
                   have HM:=Lib.hid (And.intro hm5 (And.intro hmn hn))
                   clear lA lB lC lD lO1 lO2 lO3 hasc hWA hWB hWC hWD hm5 hmn hn
                   have s8z:(8:Int)≤(m6:Int)+32:=by omega
                   have s16z:(16:Int)≤(m6:Int)+32:=by omega
                   have s24z:(24:Int)≤(m6:Int)+32:=by omega
                   have c32b:decide ((32:Int)<(m6:Int)+32)=true:=by simp;omega
                   by_cases hz3:Z3=0
                   · as_aux_lemma =>
                     have hz3b:((Z3:Int) == 0)=true:=by simp [hz3]
                     go_wp2_with fail
                     go_quiet (first | (go_at_call 107;with_reducible exact Calls.quiet_of (HWA.out _)) | (go_at_call 107;with_reducible exact Calls.quiet_of (HWB.out _)) | (go_at_call 107;with_reducible exact Calls.quiet_of (HWC.out _)) | (go_at_call 107;with_reducible exact Calls.quiet_of (HWD.out _)))
                     have hne32:¬ m6+32=32:=by omega
                     have hm6z:(32:Int)≤(m6:Int)+32:=by omega
                     have Q6:=Lib.hid (show Ps8 w (wr.drewN nq) (some ⟨ad5.block,ad5.off+32,none⟩) m6 (L5.drop 32) ANS from by
                      have:=(Q5.out.asc (k:=32) (by omega) (by omega) (HA.out hz3)).drewN nq
                      rwa [Nat.add_sub_cancel] at this)
                     go_wp2
                     go_roundw
                     case rel=>exact ⟨_,m6,_,rfl,by have:=HM.out.1;omega,Q6.out⟩
                     case measure=>simp [lnOf]
                   · as_aux_lemma =>
                     have hz3b:((Z3:Int) == 0)=false:=by simp;omega
                     clear hz3
                     go_wp2_with fail
                     go_quiet (first | (go_at_call 107;with_reducible exact Calls.quiet_of (HWA.out _)) | (go_at_call 107;with_reducible exact Calls.quiet_of (HWB.out _)) | (go_at_call 107;with_reducible exact Calls.quiet_of (HWC.out _)) | (go_at_call 107;with_reducible exact Calls.quiet_of (HWD.out _)))
                     go_wp2
                     go_roundw
                     case rel=>exact ⟨_,_,L5,rfl,by have:=HM.out;omega,Q5.out.drewN nq⟩
                     case measure=>simp [lnOf];have:=HM.out;omega
                 · as_aux_lemma =>
                   have c32b:decide ((32:Int)<(m5:Int))=false:=by simp;omega
                   go_wp2_with fail
                   go_quiet (fail)
                   go_wp2
                   go_roundw
                   case rel=>exact ⟨_,_,L5,rfl,by omega,Q5.out.drewN nq⟩
                   case measure=>simp [lnOf];omega
              · as_aux_lemma =>
                have hz2b:((Z2:Int) == 0)=false:=by simp;omega
                clear hz2
                go_quiet (first | (go_at_call 107;with_reducible exact Calls.quiet_of (HWA.out _)) | (go_at_call 107;with_reducible exact Calls.quiet_of (HWB.out _)))
                go_wp2
                go_roundw
                case rel=>exact ⟨_,_,L2,rfl,by omega,Q3.out.drewN nq⟩
                case measure=>simp [lnOf]
            · as_aux_lemma =>
              have c16b:decide ((16:Int)<(m2:Int))=false:=by simp;omega
              go_quiet (fail)
              go_wp2
              go_roundw
              case rel=>exact ⟨_,m2,L2,rfl,by omega,Q3.out.drewN nq⟩
              case measure=>simp [lnOf];omega
          · as_aux_lemma =>
            have hz1b:((Z1:Int) == 0)=false:=by simp;omega
            clear hz1
            go_wp2_with fail
            refine HW1.out.mono ?_
            rintro e w2 ⟨rfl,q1,rfl⟩
            go_wp2_with fail
            go_roundw
            case rel=>exact ⟨_,m1,L1,rfl,by omega,(Q1.out.drewN 0).drewN q1⟩
            case measure=>simp [lnOf]
        · have c8z:¬ (8:Int)<(m1:Int):=by omega
          go_wp2_with fail
          go_roundw
          case rel=>exact ⟨_,m1,L1,rfl,by omega,Q1.out⟩
          case measure=>simp [lnOf]
    · obtain ⟨xn,hxn⟩:∃ xn:Nat,x0=(xn:Int):=⟨x0.toNat,by omega⟩
      subst hxn
      have hxlt:xn<256:=by omega
      have hTw:=(H.out.1.below X.out.bel (Nat.le_refl _)).u8
      have hc0:=hTw.1 xn hxlt
      have hne:L≠[]:=fun e=>by have:=X.out.sb.len;rw [e] at this;simp at this;omega
      rcases first_sz xn hxlt with ⟨hX,hsz⟩ | ⟨hX,hsz⟩ | ⟨X1,hX,hX2,hX240,hm8,hs2,hs4,hlo,hhi,h5⟩
      · have:=szF1.1 hsz;omega
      · have hb:ANS=false:=by
         rw [← X.out.ans]
         refine valid_none hne ?_
         rw [headN hne,← HX0.out,hsz];simp
        rw [hX] at hc0
        have ha:=hTw.2 15 (by omega)
        subst hb
        clear hTw hX hne hsz
        go_wp2_with fail
        go_ret
        exact ⟨rfl,X.out.bel.alloc X.out.bel.size _⟩
      · rw [hX] at hc0
        have ha0:=(hTw.2 (X1 / 16) (by omega)).1
        have ha1:=(hTw.2 (X1 / 16) (by omega)).2
        rw [hlo,Nat.mul_comm] at ha0
        rw [hhi,Nat.mul_comm] at ha1
        have h7:=and7X X1 (by omega)
        have h16:(X1:Int) / 16<16:=by omega
        have h16':(0:Int)≤(X1:Int) / 16:=by omega
        have h16n:X1 / 16<16:=by omega
        have hl2:=fun h:szF (L.getD 0 0)=2=>lead2 X.out.u8 hne h
        have hl3:=fun h:szF (L.getD 0 0)=3=>lead3 X.out.u8 hne h
        have hl4:=fun h:szF (L.getD 0 0)=4=>lead4 X.out.u8 hne h
        rw [← HX0.out,X.out.ans,X.out.sb.len] at hl2 hl3 hl4
        have hxb:0≤L.getD 1 0∧L.getD 1 0≤255∧0≤L.getD 2 0∧L.getD 2 0≤255∧0≤L.getD 3 0∧L.getD 3 0≤255:=⟨(X.out.u8.getD 1).1,(X.out.u8.getD 1).2,(X.out.u8.getD 2).1,(X.out.u8.getD 2).2,(X.out.u8.getD 3).1,(X.out.u8.getD 3).2⟩
        have kk:∀ j,0<j→j<m→wr.cell? ⟨ad.block,ad.off+j,none⟩=some (.int .u8 (L.getD j 0)):=fun j h0 hj=>by
         have:=X.out.sb.cell (k:=j) hj
         unfold Addr.add at this
         rwa [if_neg (by omega)] at this
        have K1:=fun h:1<m=>kk 1 (by omega) h
        have K2:=fun h:2<m=>kk 2 (by omega) h
        have K3:=fun h:3<m=>kk 3 (by omega) h
        generalize L.getD 1 0=x1 at K1 hl2 hl3 hl4 hxb
        generalize L.getD 2 0=x2 at K2 hl3 hl4 hxb
        generalize L.getD 3 0=x3 at K3 hl4 hxb
        generalize loF (xn:Int)=lo at ha0 hl2 hl3 hl4
        generalize hiF (xn:Int)=hi at ha1 hl2 hl3 hl4
        have HK:=Lib.hid (And.intro K1 (And.intro K2 K3))
        have HL:=Lib.hid (And.intro hl2 (And.intro hl3 hl4))
        clear K1 K2 K3 kk hl2 hl3 hl4 hTw hX hlo hhi hne h5 hX2 hX240 HX0 H
        have hszc:szF (xn:Int)=2∨szF (xn:Int)=3∨szF (xn:Int)=4:=by omega
        clear hs2 hs4
        rcases hszc with hsz | hsz | hsz
        · as_aux_lemma =>
           have hZ:(X1:Int) % 8=2:=by omega
           have Y:=Lib.hid (HL.out.1 hsz)
           clear hm8 hsz HL
           have hm0d:decide ((0:Int)<(m:Int))=true:=by simp;omega
           have hm0e:decide (0<m)=true:=by simp;omega
           go_upto_region 18 with fail
           go_cut [103] from 85 to 103 (fun cv wx=>cv=.bool (decide (m<2∨x1<lo∨hi<x1))∧Below wr.heap.size wr wx)
           case first =>
            by_cases q0:m<2
            · have d0:decide ((m:Int)<2)=true:=by simp;omega
              have z0:(m:Int)<2:=by omega
              go_quiet (fail)
              go_wp2
              go_meet
              exact ⟨congrArg Value.bool (decide_eq_true (p:=m<2∨x1<lo∨hi<x1) (by omega)).symm,below_drewN' ((Below.refl _ _).alloc (Nat.le_refl _) _) _⟩
            have d0:decide ((m:Int)<2)=false:=by simp;omega
            have z0:¬ (m:Int)<2:=by omega
            have k1:=HK.out.1 (by omega)
            have ka1:=(((Below.refl wr.heap.size wr).alloc (Nat.le_refl _) (.cells #[.int .u8 lo,.int .u8 hi] 156)).cell (World.block_lt_of_cell? wr _ k1)).trans k1
            have p1:(1:Int)<(m:Int):=by omega
            by_cases q1:x1<lo
            · have d1:decide (x1<lo)=true:=by simp;omega
              go_quiet (fail)
              go_wp2
              go_meet
              exact ⟨congrArg Value.bool (decide_eq_true (p:=m<2∨x1<lo∨hi<x1) (by omega)).symm,below_drewN' ((Below.refl _ _).alloc (Nat.le_refl _) _) _⟩
            have d1:decide (x1<lo)=false:=by simp;omega
            by_cases q2:hi<x1
            · have d2:decide (hi<x1)=true:=by simp;omega
              go_quiet (fail)
              go_wp2
              go_meet
              exact ⟨congrArg Value.bool (decide_eq_true (p:=m<2∨x1<lo∨hi<x1) (by omega)).symm,below_drewN' ((Below.refl _ _).alloc (Nat.le_refl _) _) _⟩
            have d2:decide (hi<x1)=false:=by simp;omega
            go_quiet (fail)
            go_wp2
            go_meet
            exact ⟨congrArg Value.bool (decide_eq_false (p:=m<2∨x1<lo∨hi<x1) (by omega)).symm,below_drewN' ((Below.refl _ _).alloc (Nat.le_refl _) _) _⟩
           case rest =>
            obtain ⟨rfl,hbc⟩:=hcut
            have HB:=Lib.hid hbc
            clear hbc
            by_cases hb:m<2∨x1<lo∨hi<x1
            · have hbd:decide (m<2∨x1<lo∨hi<x1)=true:=decide_eq_true hb
              have ha:ANS=false:=Y.out.trans (if_pos hb)
              subst ha
              rw [hbd]
              clear hb hbd
              go_wp2_with fail
              go_ret
              exact ⟨rfl,X.out.bel.trans (HB.out.mono X.out.bel.size)⟩
            have hbd:decide (m<2∨x1<lo∨hi<x1)=false:=decide_eq_false hb
            have V:=Lib.hid (show ANS=validS (L.drop 2) from Y.out.trans (if_neg hb))
            have hmz:2≤m:=by omega
            rw [hbd]
            clear hb hbd
            by_cases hme:m=2
            · subst hme
              have Z:=Lib.hid (show ∀ wx,Below wr.heap.size wr wx→Ps8 w wx (some ad) 0 [] ANS from fun wx hb=>⟨Sb.nil _ _,U8s.nil,by rw [X.out.all V.out.symm];rfl,X.out.bel.trans (hb.mono X.out.bel.size)⟩)
              go_wp2_with fail
              go_roundw
              case rel=>exact ⟨some ad,0,[],rfl,by omega,Z.out _ HB.out⟩
              case measure=>simp [lnOf]
            obtain ⟨m7,hm7⟩:∃ m7,m=m7+2:=⟨m-2,by omega⟩
            subst hm7
            have Z:=Lib.hid (show ∀ wx,Below wr.heap.size wr wx→Ps8 w wx (some ⟨ad.block,ad.off+2,none⟩) m7 (L.drop 2) ANS from fun wx hb=>by
             have h1:=((X.out.tail (k:=2) (by omega) (by omega)).below hb)
             rw [Nat.add_sub_cancel] at h1
             exact ⟨h1.sb,h1.u8,V.out.symm,h1.bel⟩)
            have ez:(2:Int)≤(m7:Int)+2:=by omega
            have em:¬ m7=0:=by omega
            go_wp2_with fail
            go_roundw
            case rel=>exact ⟨_,m7,_,rfl,by omega,Z.out _ HB.out⟩
            case measure=>simp [lnOf]
        · as_aux_lemma =>
           have hZ:(X1:Int) % 8=3:=by omega
           have Y:=Lib.hid (HL.out.2.1 hsz)
           clear hm8 hsz HL
           have hm0d:decide ((0:Int)<(m:Int))=true:=by simp;omega
           have hm0e:decide (0<m)=true:=by simp;omega
           go_upto_region 22 with fail
           go_cut [138] from 108 to 138 (fun cv wx=>cv=.bool (decide (m<3∨x1<lo∨hi<x1∨x2<128∨191<x2))∧Below wr.heap.size wr wx)
           case first =>
            by_cases q0:m<3
            · have d0:decide ((m:Int)<3)=true:=by simp;omega
              have z0:(m:Int)<3:=by omega
              go_quiet (fail)
              go_wp2
              go_meet
              exact ⟨congrArg Value.bool (decide_eq_true (p:=m<3∨x1<lo∨hi<x1∨x2<128∨191<x2) (by omega)).symm,below_drewN' ((Below.refl _ _).alloc (Nat.le_refl _) _) _⟩
            have d0:decide ((m:Int)<3)=false:=by simp;omega
            have z0:¬ (m:Int)<3:=by omega
            have k1:=HK.out.1 (by omega)
            have k2:=HK.out.2.1 (by omega)
            have ka1:=(((Below.refl wr.heap.size wr).alloc (Nat.le_refl _) (.cells #[.int .u8 lo,.int .u8 hi] 156)).cell (World.block_lt_of_cell? wr _ k1)).trans k1
            have ka2:=(((Below.refl wr.heap.size wr).alloc (Nat.le_refl _) (.cells #[.int .u8 lo,.int .u8 hi] 156)).cell (World.block_lt_of_cell? wr _ k2)).trans k2
            have p1:(1:Int)<(m:Int):=by omega
            have p2:(2:Int)<(m:Int):=by omega
            by_cases q1:x1<lo
            · have d1:decide (x1<lo)=true:=by simp;omega
              go_quiet (fail)
              go_wp2
              go_meet
              exact ⟨congrArg Value.bool (decide_eq_true (p:=m<3∨x1<lo∨hi<x1∨x2<128∨191<x2) (by omega)).symm,below_drewN' ((Below.refl _ _).alloc (Nat.le_refl _) _) _⟩
            have d1:decide (x1<lo)=false:=by simp;omega
            by_cases q2:hi<x1
            · have d2:decide (hi<x1)=true:=by simp;omega
              go_quiet (fail)
              go_wp2
              go_meet
              exact ⟨congrArg Value.bool (decide_eq_true (p:=m<3∨x1<lo∨hi<x1∨x2<128∨191<x2) (by omega)).symm,below_drewN' ((Below.refl _ _).alloc (Nat.le_refl _) _) _⟩
            have d2:decide (hi<x1)=false:=by simp;omega
            by_cases q3:x2<128
            · have d3:decide (x2<128)=true:=by simp;omega
              go_quiet (fail)
              go_wp2
              go_meet
              exact ⟨congrArg Value.bool (decide_eq_true (p:=m<3∨x1<lo∨hi<x1∨x2<128∨191<x2) (by omega)).symm,below_drewN' ((Below.refl _ _).alloc (Nat.le_refl _) _) _⟩
            have d3:decide (x2<128)=false:=by simp;omega
            by_cases q4:191<x2
            · have d4:decide (191<x2)=true:=by simp;omega
              go_quiet (fail)
              go_wp2
              go_meet
              exact ⟨congrArg Value.bool (decide_eq_true (p:=m<3∨x1<lo∨hi<x1∨x2<128∨191<x2) (by omega)).symm,below_drewN' ((Below.refl _ _).alloc (Nat.le_refl _) _) _⟩
            have d4:decide (191<x2)=false:=by simp;omega
            go_quiet (fail)
            go_wp2
            go_meet
            exact ⟨congrArg Value.bool (decide_eq_false (p:=m<3∨x1<lo∨hi<x1∨x2<128∨191<x2) (by omega)).symm,below_drewN' ((Below.refl _ _).alloc (Nat.le_refl _) _) _⟩
           case rest =>
            obtain ⟨rfl,hbc⟩:=hcut
            have HB:=Lib.hid hbc
            clear hbc
            by_cases hb:m<3∨x1<lo∨hi<x1∨x2<128∨191<x2
            · have hbd:decide (m<3∨x1<lo∨hi<x1∨x2<128∨191<x2)=true:=decide_eq_true hb
              have ha:ANS=false:=Y.out.trans (if_pos hb)
              subst ha
              rw [hbd]
              clear hb hbd
              go_wp2_with fail
              go_ret
              exact ⟨rfl,X.out.bel.trans (HB.out.mono X.out.bel.size)⟩
            have hbd:decide (m<3∨x1<lo∨hi<x1∨x2<128∨191<x2)=false:=decide_eq_false hb
            have V:=Lib.hid (show ANS=validS (L.drop 3) from Y.out.trans (if_neg hb))
            have hmz:3≤m:=by omega
            rw [hbd]
            clear hb hbd
            by_cases hme:m=3
            · subst hme
              have Z:=Lib.hid (show ∀ wx,Below wr.heap.size wr wx→Ps8 w wx (some ad) 0 [] ANS from fun wx hb=>⟨Sb.nil _ _,U8s.nil,by rw [X.out.all V.out.symm];rfl,X.out.bel.trans (hb.mono X.out.bel.size)⟩)
              go_wp2_with fail
              go_roundw
              case rel=>exact ⟨some ad,0,[],rfl,by omega,Z.out _ HB.out⟩
              case measure=>simp [lnOf]
            obtain ⟨m7,hm7⟩:∃ m7,m=m7+3:=⟨m-3,by omega⟩
            subst hm7
            have Z:=Lib.hid (show ∀ wx,Below wr.heap.size wr wx→Ps8 w wx (some ⟨ad.block,ad.off+3,none⟩) m7 (L.drop 3) ANS from fun wx hb=>by
             have h1:=((X.out.tail (k:=3) (by omega) (by omega)).below hb)
             rw [Nat.add_sub_cancel] at h1
             exact ⟨h1.sb,h1.u8,V.out.symm,h1.bel⟩)
            have ez:(3:Int)≤(m7:Int)+3:=by omega
            have em:¬ m7=0:=by omega
            go_wp2_with fail
            go_roundw
            case rel=>exact ⟨_,m7,_,rfl,by omega,Z.out _ HB.out⟩
            case measure=>simp [lnOf]
        · as_aux_lemma =>
           have hZ:(X1:Int) % 8=4:=by omega
           have Y:=Lib.hid (HL.out.2.2 hsz)
           clear hm8 hsz HL
           have hm0d:decide ((0:Int)<(m:Int))=true:=by simp;omega
           have hm0e:decide (0<m)=true:=by simp;omega
           go_upto_region 26 with fail
           go_cut [185] from 143 to 185 (fun cv wx=>cv=.bool (decide (m<4∨x1<lo∨hi<x1∨x2<128∨191<x2∨x3<128∨191<x3))∧Below wr.heap.size wr wx)
           case first =>
            by_cases q0:m<4
            · have d0:decide ((m:Int)<4)=true:=by simp;omega
              have z0:(m:Int)<4:=by omega
              go_quiet (fail)
              go_wp2
              go_meet
              exact ⟨congrArg Value.bool (decide_eq_true (p:=m<4∨x1<lo∨hi<x1∨x2<128∨191<x2∨x3<128∨191<x3) (by omega)).symm,below_drewN' ((Below.refl _ _).alloc (Nat.le_refl _) _) _⟩
            have d0:decide ((m:Int)<4)=false:=by simp;omega
            have z0:¬ (m:Int)<4:=by omega
            have k1:=HK.out.1 (by omega)
            have k2:=HK.out.2.1 (by omega)
            have k3:=HK.out.2.2 (by omega)
            have ka1:=(((Below.refl wr.heap.size wr).alloc (Nat.le_refl _) (.cells #[.int .u8 lo,.int .u8 hi] 156)).cell (World.block_lt_of_cell? wr _ k1)).trans k1
            have ka2:=(((Below.refl wr.heap.size wr).alloc (Nat.le_refl _) (.cells #[.int .u8 lo,.int .u8 hi] 156)).cell (World.block_lt_of_cell? wr _ k2)).trans k2
            have ka3:=(((Below.refl wr.heap.size wr).alloc (Nat.le_refl _) (.cells #[.int .u8 lo,.int .u8 hi] 156)).cell (World.block_lt_of_cell? wr _ k3)).trans k3
            have p1:(1:Int)<(m:Int):=by omega
            have p2:(2:Int)<(m:Int):=by omega
            have p3:(3:Int)<(m:Int):=by omega
            by_cases q1:x1<lo
            · have d1:decide (x1<lo)=true:=by simp;omega
              go_quiet (fail)
              go_wp2
              go_meet
              exact ⟨congrArg Value.bool (decide_eq_true (p:=m<4∨x1<lo∨hi<x1∨x2<128∨191<x2∨x3<128∨191<x3) (by omega)).symm,below_drewN' ((Below.refl _ _).alloc (Nat.le_refl _) _) _⟩
            have d1:decide (x1<lo)=false:=by simp;omega
            by_cases q2:hi<x1
            · have d2:decide (hi<x1)=true:=by simp;omega
              go_quiet (fail)
              go_wp2
              go_meet
              exact ⟨congrArg Value.bool (decide_eq_true (p:=m<4∨x1<lo∨hi<x1∨x2<128∨191<x2∨x3<128∨191<x3) (by omega)).symm,below_drewN' ((Below.refl _ _).alloc (Nat.le_refl _) _) _⟩
            have d2:decide (hi<x1)=false:=by simp;omega
            by_cases q3:x2<128
            · have d3:decide (x2<128)=true:=by simp;omega
              go_quiet (fail)
              go_wp2
              go_meet
              exact ⟨congrArg Value.bool (decide_eq_true (p:=m<4∨x1<lo∨hi<x1∨x2<128∨191<x2∨x3<128∨191<x3) (by omega)).symm,below_drewN' ((Below.refl _ _).alloc (Nat.le_refl _) _) _⟩
            have d3:decide (x2<128)=false:=by simp;omega
            by_cases q4:191<x2
            · have d4:decide (191<x2)=true:=by simp;omega
              go_quiet (fail)
              go_wp2
              go_meet
              exact ⟨congrArg Value.bool (decide_eq_true (p:=m<4∨x1<lo∨hi<x1∨x2<128∨191<x2∨x3<128∨191<x3) (by omega)).symm,below_drewN' ((Below.refl _ _).alloc (Nat.le_refl _) _) _⟩
            have d4:decide (191<x2)=false:=by simp;omega
            by_cases q5:x3<128
            · have d5:decide (x3<128)=true:=by simp;omega
              go_quiet (fail)
              go_wp2
              go_meet
              exact ⟨congrArg Value.bool (decide_eq_true (p:=m<4∨x1<lo∨hi<x1∨x2<128∨191<x2∨x3<128∨191<x3) (by omega)).symm,below_drewN' ((Below.refl _ _).alloc (Nat.le_refl _) _) _⟩
            have d5:decide (x3<128)=false:=by simp;omega
            by_cases q6:191<x3
            · have d6:decide (191<x3)=true:=by simp;omega
              go_quiet (fail)
              go_wp2
              go_meet
              exact ⟨congrArg Value.bool (decide_eq_true (p:=m<4∨x1<lo∨hi<x1∨x2<128∨191<x2∨x3<128∨191<x3) (by omega)).symm,below_drewN' ((Below.refl _ _).alloc (Nat.le_refl _) _) _⟩
            have d6:decide (191<x3)=false:=by simp;omega
            go_quiet (fail)
            go_wp2
            go_meet
            exact ⟨congrArg Value.bool (decide_eq_false (p:=m<4∨x1<lo∨hi<x1∨x2<128∨191<x2∨x3<128∨191<x3) (by omega)).symm,below_drewN' ((Below.refl _ _).alloc (Nat.le_refl _) _) _⟩
           case rest =>
            obtain ⟨rfl,hbc⟩:=hcut
            have HB:=Lib.hid hbc
            clear hbc
            by_cases hb:m<4∨x1<lo∨hi<x1∨x2<128∨191<x2∨x3<128∨191<x3
            · have hbd:decide (m<4∨x1<lo∨hi<x1∨x2<128∨191<x2∨x3<128∨191<x3)=true:=decide_eq_true hb
              have ha:ANS=false:=Y.out.trans (if_pos hb)
              subst ha
              rw [hbd]
              clear hb hbd
              go_wp2_with fail
              go_ret
              exact ⟨rfl,X.out.bel.trans (HB.out.mono X.out.bel.size)⟩
            have hbd:decide (m<4∨x1<lo∨hi<x1∨x2<128∨191<x2∨x3<128∨191<x3)=false:=decide_eq_false hb
            have V:=Lib.hid (show ANS=validS (L.drop 4) from Y.out.trans (if_neg hb))
            have hmz:4≤m:=by omega
            rw [hbd]
            clear hb hbd
            by_cases hme:m=4
            · subst hme
              have Z:=Lib.hid (show ∀ wx,Below wr.heap.size wr wx→Ps8 w wx (some ad) 0 [] ANS from fun wx hb=>⟨Sb.nil _ _,U8s.nil,by rw [X.out.all V.out.symm];rfl,X.out.bel.trans (hb.mono X.out.bel.size)⟩)
              go_wp2_with fail
              go_roundw
              case rel=>exact ⟨some ad,0,[],rfl,by omega,Z.out _ HB.out⟩
              case measure=>simp [lnOf]
            obtain ⟨m7,hm7⟩:∃ m7,m=m7+4:=⟨m-4,by omega⟩
            subst hm7
            have Z:=Lib.hid (show ∀ wx,Below wr.heap.size wr wx→Ps8 w wx (some ⟨ad.block,ad.off+4,none⟩) m7 (L.drop 4) ANS from fun wx hb=>by
             have h1:=((X.out.tail (k:=4) (by omega) (by omega)).below hb)
             rw [Nat.add_sub_cancel] at h1
             exact ⟨h1.sb,h1.u8,V.out.symm,h1.bel⟩)
            have ez:(4:Int)≤(m7:Int)+4:=by omega
            have em:¬ m7=0:=by omega
            go_wp2_with fail
            go_roundw
            case rel=>exact ⟨_,m7,_,rfl,by omega,Z.out _ HB.out⟩
            case measure=>simp [lnOf]
open Go.RowKit
theorem utfValid_any {w:World} {A:Option Addr} {n c:Nat} {zs:List Int} (hT:Tabs w) (hs:Sb w A n zs) (h8:U8s zs) (hc:n≤c) (hn:n≤100000) :
  Calls Tryz.prog 86 #[.slice A n c] w fun e w'=>e=.returned (.bool (validS zs))∧Below w.heap.size w w':=by
 have H:=Lib.hid (valid8_any hT hs h8 hc hn)
 clear hT hs h8 hc hn
 obtain ⟨V,hV⟩:∃ V,validS zs=V:=⟨_,rfl⟩
 rw [hV] at H ⊢
 go_enter Tryz.func86,Tryz.ntmps86
 go_wp2_with fail
 refine H.out.mono ?_
 rintro e w1 ⟨rfl,hb1⟩
 go_wp2_with fail
 go_ret
 exact ⟨rfl,hb1⟩
end Go.Proofs.YtikhknnhmnopbaaGreatDoor
