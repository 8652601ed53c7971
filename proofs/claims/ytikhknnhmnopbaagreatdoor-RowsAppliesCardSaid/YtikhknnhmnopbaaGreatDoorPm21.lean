/-
  Part 21 of what the laws of emul want: RowsOwnL, RowsOwnM, RowsEnc.
-/
import Derived.Test.YtikhknnhmnopbaaGreatDoorPm15
import Derived.Test.YtikhknnhmnopbaaGreatDoorPm20
namespace Go.Proofs.YtikhknnhmnopbaaGreatDoor
open Go.RowKit
def KeepI (w w':World):Prop:=∀ (g:Nat) cs t fr,w.heap[g]?=some (.cells cs t fr)→t≠5→w'.heap[g]?=some (.cells cs t fr)
theorem KeepI.refl (w:World):KeepI w w:=fun _ _ _ _ h _=>h
theorem KeepI.trans {a b c:World} (h:KeepI a b) (k:KeepI b c):KeepI a c:=fun _ _ _ _ x ht=>k _ _ _ _ (h _ _ _ _ x ht) ht
theorem KeepI.below {w w':World} (h:Below w.heap.size w w'):KeepI w w':=fun g _ _ _ x _=>(h.block g (Array.getElem?_eq_some_iff.1 x).1).trans x
theorem KeepI.onto {base:Nat} {w w':World} {A:Option Addr} {n c:Nat} {zs:List Int} (hy:By base w A n c zs) (hg:w.grownBy w' (Value.slice A n c).ownBlock):KeepI w w':=fun g cs t fr x ht=>by
 refine (hg.block g (Array.getElem?_eq_some_iff.1 x).1 fun e=>?_).trans x
 rcases hy.own.2 with ⟨h2,_⟩ | ⟨g2,cap2,cur2,hv2,hb2,hgg2,_⟩
 · rw [h2] at e;cases e
 · rw [hv2] at e
   have e2:g=g2:=by injection e
   subst e2
   rw [x] at hgg2
   injection hgg2 with e3
   injection e3 with e4 e5
   exact ht e5
theorem KeepI.io {b:Nat} {w w':World} {P:Option Addr} {m cp:Nat} {ks:List Int} (h:KeepI w w') (k:Io b w P m cp ks):Io b w' P m cp ks:=by
 refine ⟨k.1,?_⟩
 rcases k.2 with h1 | ⟨g,cap,cur,hv,hb,hgg,hr⟩
 · exact .inl h1
 · exact .inr ⟨g,cap,cur,hv,hb,h _ _ _ _ hgg (by decide),hr⟩
theorem KeepI.rw {α:Type} {f:α→List Value} {t:TypeId} {g:Nat} {w w':World} {L:List α} (h:KeepI w w') (k:Rw f t w g L) (ht:t≠5):Rw f t w' g L:=by
 obtain ⟨r,k⟩:=k
 exact ⟨r,h _ _ _ _ k ht⟩
theorem By.apart {α:Type} {f:α→List Value} {t:TypeId} {base g:Nat} {w:World} {A:Option Addr} {n c:Nat} {zs:List Int} {L:List α} (hy:By base w A n c zs) (k:Rw f t w g L) (ht:t≠5):(Value.slice A n c).ownBlock≠some g:=by
 rcases hy.own.2 with ⟨h2,_⟩ | ⟨g2,cap2,cur2,hv2,hb2,hgg2,_⟩
 · rw [h2];intro e;cases e
 · rw [hv2]
   intro e
   have e2:g2=g:=by injection e
   subst e2
   obtain ⟨r,h⟩:=k
   rw [h] at hgg2
   injection hgg2 with e3
   injection e3 with e4 e5
   exact ht e5
theorem Rw.onto {α:Type} {f:α→List Value} {t:TypeId} {base g:Nat} {w w':World} {A:Option Addr} {n c:Nat} {zs:List Int} {L:List α} (k:Rw f t w g L) (ht:t≠5) (hy:By base w A n c zs) (hg:w.grownBy w' (Value.slice A n c).ownBlock):Rw f t w' g L:=k.grown hg (hy.apart k ht)
theorem Rw.apart {α β:Type} {f:α→List Value} {k:β→List Value} {t u:TypeId} {w:World} {g q:Nat} {L:List α} {M:List β} (h:Rw f t w g L) (h':Rw k u w q M) (hn:t≠u):g≠q:=by
 rintro rfl
 obtain ⟨r,e⟩:=h
 obtain ⟨r',e'⟩:=h'
 rw [e] at e'
 injection e' with e'
 injection e' with _ e'
 exact hn e'
def Longer (base:Nat) (zs:List Int) (n:Nat) (w:World) (e:Ending) (w':World):Prop:=Below base w w'∧KeepI w w'∧∃ A c,e=.returned (.slice A n c)∧By base w' A n c zs
theorem numL_one {k:Int} (h:0≤k) (h':k≤255):numS k 1=[k]:=by
 show numL k 1=[k]
 have h1:valL 0 (numL k 1)=k:=numL_at k h (by show k<256;omega)
 have h2:=numL_len k 1
 match numL k 1,h1,h2 with
 | [x],h1,_=>rw [← h1];simp [valL]
set_option maxHeartbeats 3200000 in
set_option maxRecDepth 100000 in
theorem layBytes_any {base:Nat} {w:World} {A P:Option Addr} {n c m cp b2:Nat} {zs ks:List Int} (h:By base w A n c zs) (k:Io b2 w P m cp ks) (hb:base≤w.heap.size) (hk:∀ x∈ks,0≤x∧x≤255) (hn:n≤200000) (hm:m≤100) :
  Calls Tryz.prog 47 #[.slice A n c,.slice P m cp] w (Longer base (zs ++ ks) (n+m) w):=by
 have HI:=Lib.hid (And.intro h (And.intro k (And.intro hb hk)))
 have HL:=Lib.hid (show ks.length=m from k.ik.len)
 clear h k hb hk
 go_enter Tryz.func47,Tryz.ntmps47
 go_wp2_with fail
 go_loopw [0,9] (fun v0 v9 wr=>∃ (j:Nat) (A':Option Addr) (n' c':Nat),j≤m∧n'=n+j∧v9=.int .i64 j∧v0=.slice A' n' c'∧By base wr A' n' c' (zs ++ ks.take j)∧Below base w wr∧KeepI w wr) (fun _ v _=>m-(intOf v).toNat)
 case atStart=>exact ⟨0,A,n,c,Nat.zero_le _,rfl,rfl,rfl,by rw [List.take_zero,List.append_nil];exact HI.out.1,Below.refl _ _,KeepI.refl _⟩
 case round =>
  obtain ⟨j,A1,n1,c1,hj,hn1,rfl,rfl,hy,hbel,hkp⟩:=hrel
  have Y:=Lib.hid (And.intro hy (And.intro hbel hkp))
  clear hy hbel hkp
  have HN1:=Lib.hid hn1
  have hn1b:n1≤200100:=by omega
  clear hn1
  by_cases hlt:j<m
  · have hik:=(Y.out.2.2.io HI.out.2.1).ik
    obtain ⟨ad,hA⟩:∃ ad,P=some ad:=by
     obtain ⟨ad,e,_⟩:=hik.at_ (by omega)
     exact ⟨ad,e⟩
    subst hA
    have hcell:=hik.cell hlt
    obtain ⟨x,hx⟩:∃ x,x=ks.getD j 0:=⟨_,rfl⟩
    rw [← hx] at hcell
    have HX:=Lib.hid (show (0≤x∧x≤255)∧ks.take (j+1)=ks.take j ++ [x] from by
     have hl:j<ks.length:=by rw [HL.out];exact hlt
     refine ⟨?_,?_⟩
     · rw [hx,getD_lt hl];exact HI.out.2.2.2 _ (List.getElem_mem _)
     · rw [List.take_add_one,List.getElem?_eq_getElem hl,hx,getD_lt hl];rfl)
    clear hik hx
    have k1:IntKind.u64.wrap x=x:=by rw [IntKind.wrap_u64];have:=HX.out.1;omega
    go_wp2_with fail
    refine (num_any x 1 _ HX.out.1.1 (by have:=HX.out.1;omega)).mono ?_
    intro e w2 h2
    obtain ⟨hb2,A2,c2,rfl,hy2⟩:=num_own h2
    rw [numL_one HX.out.1.1 HX.out.1.2] at hy2 ⊢
    have hbw:base≤wr.heap.size:=by have:=HI.out.2.2.1;have:=Y.out.2.1.size;omega
    have H2:=Lib.hid (show By base w2 A1 n1 c1 (zs ++ ks.take j)∧Sb w2 A2 1 [x]∧Below base w w2∧KeepI w w2∧base≤w2.heap.size from ⟨Y.out.1.below hb2,hy2.sb,Y.out.2.1.trans (hb2.mono hbw),Y.out.2.2.trans (KeepI.below hb2),by have:=hb2.size;omega⟩)
    clear h2 hb2 hy2 hcell k1 hbw Y
    go_wp2_with (at_builtin;refine wpList_appB _ rfl _ _ rfl base A1 n1 c1 _ rfl H2.out.1 A2 1 c2 (n1+1) rfl _ rfl H2.out.2.1 (by omega) H2.out.2.2.2.2 ?_;intro A4 c4 w4 hown hg4)
    have H4:=Lib.hid (show By base w4 A4 (n1+1) c4 (zs ++ ks.take (j+1))∧Below base w w4∧KeepI w w4 from ⟨by rw [HX.out.2,← List.append_assoc];exact hown,H2.out.2.2.1.grown hg4 H2.out.2.2.2.2 (fun k hk=>H2.out.1.ownB k hk),H2.out.2.2.2.1.trans (KeepI.onto H2.out.1 hg4)⟩)
    clear hown hg4
    go_roundw
    case rel=>exact ⟨j+1,A4,n1+1,c4,by omega,by have:=HN1.out;omega,by go_num,rfl,H4.out.1,H4.out.2.1,H4.out.2.2⟩
    case measure=>simp [intOf];omega
  · obtain rfl:j=m:=by omega
    have hn1:=HN1.out
    subst hn1
    clear HN1 hn1b
    have X:Longer base (zs ++ ks) (n+j) w (.returned (.slice A1 (n+j) c1)) wr:=by
     have h1:=Y.out.1
     rw [List.take_of_length_le (by rw [HL.out];exact Nat.le_refl _)] at h1
     exact ⟨Y.out.2.1,Y.out.2.2,A1,c1,rfl,h1⟩
    go_wp2_with fail
    go_ret
    exact X
set_option maxHeartbeats 3200000 in
set_option maxRecDepth 100000 in
theorem layCell_any {base:Nat} {w:World} {A:Option Addr} {n c:Nat} {zs:List Int} {x:Ce} (h:By base w A n c zs) (hb:base≤w.heap.size) (hn:n≤100000) (hr:0≤x.r∧x.r≤2147483647) (hf:0≤x.p.fg∧x.p.fg≤4294967295) (hg:0≤x.p.bg∧x.p.bg≤4294967295) (hs:0≤x.p.st∧x.p.st≤255) :
  Calls Tryz.prog 73 #[.slice A n c,.agg (ceA x)] w (Longer base (zs ++ cellB x) (n+9) w):=by
 have HR:=Lib.hid (And.intro hr (And.intro hf (And.intro hg hs)))
 have k1:IntKind.u64.wrap x.r=x.r:=by rw [IntKind.wrap_u64];omega
 obtain ⟨b,hb3⟩:∃ b,b=w.heap.size:=⟨_,rfl⟩
 obtain ⟨w1,hw1⟩:∃ w1,w1=w.alloc (.cells (ceA x) 43):=⟨_,rfl⟩
 have H1:=Lib.hid (show Cb w1 b x∧Below base w w1∧KeepI w w1∧By base w1 A n c zs∧base≤w1.heap.size from by
  have hbb:Below w.heap.size w w1:=by rw [hw1];exact (Below.refl _ _).alloc (Nat.le_refl _) _
  have h2:=hbb.size
  exact ⟨by rw [hw1,hb3];exact Cb.new w x,hbb.mono hb,KeepI.below hbb,h.below hbb,by omega⟩)
 clear hr hf hg hs h hb
 obtain ⟨d0,d1,d2,d3,d4,d5⟩:=H1.out.1.all
 unfold ceA at hw1 ⊢
 go_enter Tryz.func73,Tryz.ntmps73
 go_upto_region 1 with fail
 rw [← hw1,← hb3]
 clear hw1 hb3
 go_wp2_with fail
 refine (num_any x.r 4 _ HR.out.1.1 (by have:=HR.out.1;omega)).mono ?_
 intro e w2 h2
 obtain ⟨hb2,A2,c2,rfl,hy2⟩:=num_own h2
 rw [num4] at hy2 ⊢
 rw [numL_len] at hy2 ⊢
 have G1:=Lib.hid (show Cb w2 b x∧Below base w w2∧KeepI w w2∧By base w2 A (n) c (zs)∧base≤w2.heap.size∧Sb w2 A2 4 (numL x.r 4) from ⟨H1.out.1.below hb2,H1.out.2.1.trans (hb2.mono H1.out.2.2.2.2),H1.out.2.2.1.trans (KeepI.below hb2),H1.out.2.2.2.1.below hb2,Nat.le_trans H1.out.2.2.2.2 hb2.size,hy2.sb⟩)
 clear h2 hb2 hy2 d0 d1 d2 d3 d4 d5 k1 H1
 go_upto_region 2 with (at_builtin;refine wpList_appB _ rfl _ _ rfl base A (n) c _ rfl G1.out.2.2.2.1 A2 4 c2 (n+4) rfl _ rfl G1.out.2.2.2.2.2 (by omega) G1.out.2.2.2.2.1 ?_;intro A3 c3 w3 hown hg4)
 have H2:=Lib.hid (show Cb w3 b x∧Below base w w3∧KeepI w w3∧By base w3 A3 (n+4) c3 (zs ++ numL x.r 4)∧base≤w3.heap.size from ⟨G1.out.1.onto (by decide) G1.out.2.2.2.1 hg4,G1.out.2.1.grown hg4 G1.out.2.2.2.2.1 (fun k hk=>G1.out.2.2.2.1.ownB k hk),G1.out.2.2.1.trans (KeepI.onto G1.out.2.2.2.1 hg4),hown,Nat.le_trans G1.out.2.2.2.2.1 hg4.size⟩)
 clear hown hg4 G1
 obtain ⟨d0,d1,d2,d3,d4,d5⟩:=H2.out.1.all
 have k1:IntKind.u64.wrap x.p.fg=x.p.fg:=by rw [IntKind.wrap_u64];have:=HR.out.2.1;omega
 go_wp2_with fail
 refine (num_any x.p.fg 2 _ HR.out.2.1.1 (by have:=HR.out.2.1;omega)).mono ?_
 intro e w4 h2
 obtain ⟨hb2,A4,c4,rfl,hy2⟩:=num_own h2
 rw [num2] at hy2 ⊢
 rw [numL_len] at hy2 ⊢
 have G2:=Lib.hid (show Cb w4 b x∧Below base w w4∧KeepI w w4∧By base w4 A3 (n+4) c3 (zs ++ numL x.r 4)∧base≤w4.heap.size∧Sb w4 A4 2 (numL x.p.fg 2) from ⟨H2.out.1.below hb2,H2.out.2.1.trans (hb2.mono H2.out.2.2.2.2),H2.out.2.2.1.trans (KeepI.below hb2),H2.out.2.2.2.1.below hb2,Nat.le_trans H2.out.2.2.2.2 hb2.size,hy2.sb⟩)
 clear h2 hb2 hy2 d0 d1 d2 d3 d4 d5 k1 H2
 go_upto_region 3 with (at_builtin;refine wpList_appB _ rfl _ _ rfl base A3 (n+4) c3 _ rfl G2.out.2.2.2.1 A4 2 c4 (n+4+2) rfl _ rfl G2.out.2.2.2.2.2 (by omega) G2.out.2.2.2.2.1 ?_;intro A5 c5 w5 hown hg4)
 have H3:=Lib.hid (show Cb w5 b x∧Below base w w5∧KeepI w w5∧By base w5 A5 (n+4+2) c5 (zs ++ numL x.r 4 ++ numL x.p.fg 2)∧base≤w5.heap.size from ⟨G2.out.1.onto (by decide) G2.out.2.2.2.1 hg4,G2.out.2.1.grown hg4 G2.out.2.2.2.2.1 (fun k hk=>G2.out.2.2.2.1.ownB k hk),G2.out.2.2.1.trans (KeepI.onto G2.out.2.2.2.1 hg4),hown,Nat.le_trans G2.out.2.2.2.2.1 hg4.size⟩)
 clear hown hg4 G2
 obtain ⟨d0,d1,d2,d3,d4,d5⟩:=H3.out.1.all
 have k1:IntKind.u64.wrap x.p.bg=x.p.bg:=by rw [IntKind.wrap_u64];have:=HR.out.2.2.1;omega
 go_wp2_with fail
 refine (num_any x.p.bg 2 _ HR.out.2.2.1.1 (by have:=HR.out.2.2.1;omega)).mono ?_
 intro e w6 h2
 obtain ⟨hb2,A6,c6,rfl,hy2⟩:=num_own h2
 rw [num2] at hy2 ⊢
 rw [numL_len] at hy2 ⊢
 have G3:=Lib.hid (show Cb w6 b x∧Below base w w6∧KeepI w w6∧By base w6 A5 (n+4+2) c5 (zs ++ numL x.r 4 ++ numL x.p.fg 2)∧base≤w6.heap.size∧Sb w6 A6 2 (numL x.p.bg 2) from ⟨H3.out.1.below hb2,H3.out.2.1.trans (hb2.mono H3.out.2.2.2.2),H3.out.2.2.1.trans (KeepI.below hb2),H3.out.2.2.2.1.below hb2,Nat.le_trans H3.out.2.2.2.2 hb2.size,hy2.sb⟩)
 clear h2 hb2 hy2 d0 d1 d2 d3 d4 d5 k1 H3
 go_upto_region 4 with (at_builtin;refine wpList_appB _ rfl _ _ rfl base A5 (n+4+2) c5 _ rfl G3.out.2.2.2.1 A6 2 c6 (n+4+2+2) rfl _ rfl G3.out.2.2.2.2.2 (by omega) G3.out.2.2.2.2.1 ?_;intro A7 c7 w7 hown hg4)
 have H4:=Lib.hid (show Cb w7 b x∧Below base w w7∧KeepI w w7∧By base w7 A7 (n+4+2+2) c7 (zs ++ numL x.r 4 ++ numL x.p.fg 2 ++ numL x.p.bg 2)∧base≤w7.heap.size from ⟨G3.out.1.onto (by decide) G3.out.2.2.2.1 hg4,G3.out.2.1.grown hg4 G3.out.2.2.2.2.1 (fun k hk=>G3.out.2.2.2.1.ownB k hk),G3.out.2.2.1.trans (KeepI.onto G3.out.2.2.2.1 hg4),hown,Nat.le_trans G3.out.2.2.2.2.1 hg4.size⟩)
 clear hown hg4 G3
 obtain ⟨d0,d1,d2,d3,d4,d5⟩:=H4.out.1.all
 have k1:IntKind.i64.wrap x.p.st=x.p.st:=by rw [IntKind.wrap_i64];have:=HR.out.2.2.2;omega
 obtain ⟨w8,hw8⟩:∃ w8,w8=w7.alloc (.cells #[.int .i64 x.p.st] 3):=⟨_,rfl⟩
 obtain ⟨g8,hg8⟩:∃ g8,g8=w7.heap.size:=⟨_,rfl⟩
 have H5:=Lib.hid (show Below base w w8∧KeepI w w8∧By base w8 A7 (n+4+2+2) c7 (zs ++ numL x.r 4 ++ numL x.p.fg 2 ++ numL x.p.bg 2)∧base≤w8.heap.size∧Io w7.heap.size w8 (some ⟨g8,0,none⟩) 1 1 [x.p.st] from by
  have hbb:Below w7.heap.size w7 w8:=by rw [hw8];exact (Below.refl _ _).alloc (Nat.le_refl _) _
  exact ⟨H4.out.2.1.trans (hbb.mono H4.out.2.2.2.2),H4.out.2.2.1.trans (KeepI.below hbb),H4.out.2.2.2.1.below hbb,Nat.le_trans H4.out.2.2.2.2 hbb.size,by rw [hw8,hg8];exact World.ownsRow_lit w7 #[.int .i64 x.p.st] 1 (Nat.le_refl _) (by unfold maxLen;omega) rfl⟩)
 clear H4
 go_wp2_with fail
 rw [← hw8,← hg8]
 clear hw8 hg8
 refine (layBytes_any H5.out.2.2.1 H5.out.2.2.2.2 H5.out.2.2.2.1 (fun y hy=>by simp at hy;rw [hy];exact HR.out.2.2.2) (by omega) (by omega)).mono ?_
 rintro e w9 ⟨hb9,hk9,A9,c9,rfl,hy9⟩
 have X:Longer base (zs ++ cellB x) (n+9) w (.returned (.slice A9 (n+9) c9)) w9:=by
  have e:cellB x=numL x.r 4 ++ numL x.p.fg 2 ++ numL x.p.bg 2 ++ [x.p.st]:=by unfold cellB;simp only [List.append_assoc]
  refine ⟨H5.out.1.trans hb9,H5.out.2.1.trans hk9,A9,c9,rfl,?_⟩
  rw [e]
  simp only [List.append_assoc] at hy9 ⊢
  exact hy9
 clear hb9 hk9 hy9
 go_wp2_with fail
 go_ret
 exact X
open Go.RowKit
def StC (L:List Ce):Prop:=∀ x∈L,0≤x.p.st∧x.p.st≤255
theorem rowAt_mem {c y:Nat} {L:List Ce} {x:Ce} (h:x∈rowAt c L y):x∈L:=by
 unfold rowAt at h
 exact List.mem_of_mem_drop (List.mem_of_mem_take h)
set_option maxHeartbeats 6400000 in
set_option maxRecDepth 100000 in
theorem layRows_any {w0 w:World} {A P:Option Addr} {n c0 m cp b2 c r:Nat} {zs:List Int} {ys:List Nat} {s:ScR} {S:Sc} {LL:Rws} (h:By w0.heap.size w A n c0 zs) (k:Io b2 w P m cp (toI ys)) (h0:Below w0.heap.size w0 w) (hS:ScIn w0 s S) (hB:FitS S c r LL) (hst:StC S.cells) (hy:∀ y∈ys,y<r) (hn:n≤1000) (hm:m≤24) :
  Calls Tryz.prog 48 #[.slice A n c0,.agg (scrA s),.slice P m cp] w (Longer w0.heap.size (zs ++ (m:Int) :: ys.flatMap (rowBy c S.cells)) (zs ++ (m:Int) :: ys.flatMap (rowBy c S.cells)).length w):=by
 have HI:=Lib.hid (And.intro h (And.intro k (And.intro h0 hS)))
 have HB:=Lib.hid (And.intro hB (And.intro hst hy))
 have HL:=Lib.hid (show ys.length=m from by have:=k.ik.len;rwa [toI_len] at this)
 have HC:=Lib.hid (show s.c=(c:Int)∧s.n=r*c from ⟨by rw [← hS.c,hB.ec],by rw [← hS.cells.len,hB.el];exact hB.gk.box.flen⟩)
 obtain ⟨b,hb3⟩:∃ b,b=w.heap.size:=⟨_,rfl⟩
 obtain ⟨w1,hw1⟩:∃ w1,w1=w.alloc (.cells (scrA s) 25):=⟨_,rfl⟩
 obtain ⟨w2,hw2⟩:∃ w2,w2=w1.alloc (.cells #[.int .i64 (m:Int)] 3):=⟨_,rfl⟩
 obtain ⟨g2,hg2⟩:∃ g2,g2=w1.heap.size:=⟨_,rfl⟩
 have H1:=Lib.hid (show Sx w2 b s∧Below w0.heap.size w w2∧KeepI w w2∧By w0.heap.size w2 A n c0 zs∧w0.heap.size≤w2.heap.size∧Io w1.heap.size w2 (some ⟨g2,0,none⟩) 1 1 [(m:Int)] from by
  have hbb:Below w.heap.size w w1:=by rw [hw1];exact (Below.refl _ _).alloc (Nat.le_refl _) _
  have hbc:Below w1.heap.size w1 w2:=by rw [hw2];exact (Below.refl _ _).alloc (Nat.le_refl _) _
  have h2:=hbb.size
  have h3:=hbc.size
  have h4:=h0.size
  have hbd:Below w.heap.size w w2:=hbb.trans (hbc.mono h2)
  exact ⟨(show Sx w1 b s from by rw [hw1,hb3];exact Sx.new w s).below hbc,hbd.mono h4,KeepI.below hbd,h.below hbd,by omega,by rw [hw2,hg2];exact World.ownsRow_lit w1 #[.int .i64 (m:Int)] 1 (Nat.le_refl _) (by unfold maxLen;omega) rfl⟩)
 have hc80:=hB.gk.c80
 have hc1:=hB.gk.c1
 have hr24:=hB.gk.r24
 clear h k h0 hS hB hst hy
 unfold scrA at hw1 ⊢
 go_enter Tryz.func48,Tryz.ntmps48
 go_upto_region 1 with fail
 rw [← hw1,← hb3]
 clear hb3 hw1
 go_wp2_with fail
 rw [← hw2,← hg2]
 clear hw2 hg2
 refine (layBytes_any H1.out.2.2.2.1 H1.out.2.2.2.2.2 H1.out.2.2.2.2.1 (fun y hy=>by simp at hy;omega) (by omega) (by omega)).mono ?_
 rintro e w3 ⟨hb3,hk3,A3,c3,rfl,hy3⟩
 have H3:=Lib.hid (show Sx w3 b s∧Below w0.heap.size w w3∧KeepI w w3∧By w0.heap.size w3 A3 (n+1) c3 (zs ++ [(m:Int)]) from ⟨hk3.rw H1.out.1 (by decide),H1.out.2.1.trans hb3,H1.out.2.2.1.trans hk3,hy3⟩)
 clear hb3 hk3 hy3 H1
 have HZ:=Lib.hid (fun (w':World) (hb:Below w0.heap.size w w')=>show w0.heap.size≤w'.heap.size from Nat.le_trans HI.out.2.2.1.size hb.size)
 go_upto_region 3 with fail
 go_loopw [0,18] (fun v0 v18 wr=>∃ (j:Nat) (A':Option Addr) (n' c':Nat),j≤m∧n'≤1100+800*j∧v18=.int .i64 j∧v0=.slice A' n' c'∧By w0.heap.size wr A' n' c' (zs ++ (m:Int) :: (ys.take j).flatMap (rowBy c S.cells))∧Below w0.heap.size w wr∧KeepI w wr∧Sx wr b s) (fun _ v _=>m-(intOf v).toNat)
 case atStart=>exact ⟨0,A3,n+1,c3,Nat.zero_le _,by omega,rfl,rfl,H3.out.2.2.2,H3.out.2.1,H3.out.2.2.1,H3.out.1⟩
 case round =>
  obtain ⟨j,A4,n4,c4,hj,hn4,rfl,rfl,hy,hbel,hkp,hsx⟩:=hrel
  have Y:=Lib.hid (And.intro hy (And.intro hbel (And.intro hkp hsx)))
  clear hy hbel hkp hsx H3
  by_cases hlt:j<m
  · have hik:=(Y.out.2.2.1.io HI.out.2.1).ik
    obtain ⟨ad,hA⟩:∃ ad,P=some ad:=by
     obtain ⟨ad,e,_⟩:=hik.at_ (by omega)
     exact ⟨ad,e⟩
    subst hA
    have hcell:=hik.cell hlt
    obtain ⟨y,hy⟩:∃ y,y=ys.getD j 0:=⟨_,rfl⟩
    have HYY:=Lib.hid (show y<r∧ys.take (j+1)=ys.take j ++ [y]∧(toI ys).getD j 0=(y:Int) from by
     have hl:j<ys.length:=by rw [HL.out];exact hlt
     refine ⟨?_,?_,?_⟩
     · rw [hy,List.getD_eq_getElem?_getD,List.getElem?_eq_getElem hl];exact HB.out.2.2 _ (List.getElem_mem _)
     · rw [List.take_add_one,List.getElem?_eq_getElem hl,hy,List.getD_eq_getElem?_getD,List.getElem?_eq_getElem hl];rfl
     · unfold toI
       rw [List.getD_eq_getElem?_getD,List.getElem?_map,List.getElem?_eq_getElem hl,hy,List.getD_eq_getElem?_getD,List.getElem?_eq_getElem hl];rfl)
    rw [HYY.out.2.2] at hcell
    clear hik hy
    have hy24:y<24:=by have:=HYY.out.1;omega
    obtain ⟨w5,hw5⟩:∃ w5,w5=wr.alloc (.cells #[.int .i64 (y:Int)] 3):=⟨_,rfl⟩
    obtain ⟨g5,hg5⟩:∃ g5,g5=wr.heap.size:=⟨_,rfl⟩
    have H5:=Lib.hid (show Sx w5 b s∧Below w0.heap.size w w5∧KeepI w w5∧By w0.heap.size w5 A4 n4 c4 (zs ++ (m:Int) :: (ys.take j).flatMap (rowBy c S.cells))∧Io wr.heap.size w5 (some ⟨g5,0,none⟩) 1 1 [(y:Int)] from by
     have hbb:Below wr.heap.size wr w5:=by rw [hw5];exact (Below.refl _ _).alloc (Nat.le_refl _) _
     exact ⟨Y.out.2.2.2.below hbb,Y.out.2.1.trans (hbb.mono (HZ.out _ Y.out.2.1)),Y.out.2.2.1.trans (KeepI.below hbb),Y.out.1.below hbb,by rw [hw5,hg5];exact World.ownsRow_lit wr #[.int .i64 (y:Int)] 1 (Nat.le_refl _) (by unfold maxLen;omega) rfl⟩)
    go_wp2_with fail
    rw [← hw5,← hg5]
    clear hw5 hg5 hcell
    refine (layBytes_any H5.out.2.2.2.1 H5.out.2.2.2.2 (HZ.out _ H5.out.2.1) (fun z hz=>by simp at hz;omega) (by omega) (by omega)).mono ?_
    rintro e w6 ⟨hb6,hk6,A6,c6,rfl,hy6⟩
    have H6:=Lib.hid (show Sx w6 b s∧Below w0.heap.size w w6∧KeepI w w6∧By w0.heap.size w6 A6 (n4+1) c6 (zs ++ (m:Int) :: (ys.take j).flatMap (rowBy c S.cells) ++ [(y:Int)]) from ⟨hk6.rw H5.out.1 (by decide),H5.out.2.1.trans hb6,H5.out.2.2.1.trans hk6,hy6⟩)
    clear hb6 hk6 hy6 H5 Y
    have PR:=Lib.hid (rowOf16_any (s:=s) (c:=c) (r:=r) (y:=y) w6 HC.out.1 HC.out.2 HI.out.2.2.2.nk hc1 hc80 hr24 HYY.out.1)
    obtain ⟨a0,a1,a2,a3,a4,a5,a6,a7,a8,_⟩:=sx_cells H6.out.1
    unfold scrA at PR
    go_wp2_with fail
    refine PR.out.mono ?_
    rintro e w7 ⟨rfl,hb7⟩
    have H7:=Lib.hid (show Sx w7 b s∧Below w0.heap.size w w7∧KeepI w w7∧By w0.heap.size w7 A6 (n4+1) c6 (zs ++ (m:Int) :: (ys.take j).flatMap (rowBy c S.cells) ++ [(y:Int)]) from ⟨H6.out.1.below hb7,H6.out.2.1.trans (hb7.mono (HZ.out _ H6.out.2.1)),H6.out.2.2.1.trans (KeepI.below hb7),H6.out.2.2.2.below hb7⟩)
    clear hb7 H6 PR a0 a1 a2 a3 a4 a5 a6 a7 a8
    have HV:=Lib.hid (fun (w':World) (hb:Below w0.heap.size w w')=>rowIn (HI.out.2.2.2.cells.below (HI.out.2.2.1.trans hb)) HI.out.2.2.2.nk HC.out.2 hc1 HYY.out.1)
    obtain ⟨RA,hRA⟩:∃ RA,s.A.map (·.add (y*c*6))=RA:=⟨_,rfl⟩
    rw [hRA] at HV ⊢
    obtain ⟨ra,hra⟩:∃ ra,RA=some ra:=(HV.out _ H7.out.2.1).addr (by omega)
    subst hra
    clear hRA
    obtain ⟨CK,hCK⟩:∃ CK,s.k-y*c=CK:=⟨_,rfl⟩
    rw [hCK]
    clear hCK
    go_upto_region 7 with fail
    go_loopw [0,30] (fun v0 v30 wr=>∃ (x:Nat) (A':Option Addr) (n' c':Nat),x≤c∧n'≤n4+1+9*x∧v30=.int .i64 x∧v0=.slice A' n' c'∧By w0.heap.size wr A' n' c' (zs ++ (m:Int) :: (ys.take j).flatMap (rowBy c S.cells) ++ (y:Int) :: ((rowAt c S.cells y).take x).flatMap cellB)∧Below w0.heap.size w wr∧KeepI w wr∧Sx wr b s) (fun _ v _=>c-(intOf v).toNat)
    case atStart=>exact ⟨0,A6,n4+1,c6,Nat.zero_le _,by omega,rfl,rfl,H7.out.2.2.2,H7.out.2.1,H7.out.2.2.1,H7.out.1⟩
    case round =>
     obtain ⟨x,A8,n8,c8,hx,hn8,rfl,rfl,hy,hbel,hkp,hsx⟩:=hrel
     have Z:=Lib.hid (And.intro hy (And.intro hbel (And.intro hkp hsx)))
     clear hy hbel hkp hsx H7
     by_cases hxl:x<c
     · have hxl2:(x:Int)<(c:Int):=by omega
       have hsix:=(HV.out _ Z.out.2.1).six hxl
       obtain ⟨z,hz⟩:∃ z,z=cAt (rowAt c S.cells y) x:=⟨_,rfl⟩
       rw [← hz] at hsix
       obtain ⟨d0,d1,d2,d3,d4,d5⟩:=hsix
       have HZX:=Lib.hid (show FitC z∧(0≤z.p.st∧z.p.st≤255)∧(rowAt c S.cells y).take (x+1)=(rowAt c S.cells y).take x ++ [z] from by
        have hl:x<(rowAt c S.cells y).length:=by rw [(HV.out _ Z.out.2.1).len];exact hxl
        have hmem:z∈rowAt c S.cells y:=by rw [hz];exact cAt_mem hl
        refine ⟨?_,HB.out.2.1 z (rowAt_mem hmem),?_⟩
        · rw [HB.out.1.el,rowAt_flat HB.out.1.gk.box HYY.out.1] at hmem
          exact HB.out.1.fit y HYY.out.1 z hmem
        · rw [List.take_add_one,getElem?_cAt hl,hz];rfl)
       clear hz
       obtain ⟨w9,hw9⟩:∃ w9,w9=wr.alloc (.cells (ceA z) 43):=⟨_,rfl⟩
       obtain ⟨g9,hg9⟩:∃ g9,g9=wr.heap.size:=⟨_,rfl⟩
       have H9:=Lib.hid (show Cb w9 g9 z∧Sx w9 b s∧Below w0.heap.size w w9∧KeepI w w9∧By w0.heap.size w9 A8 n8 c8 (zs ++ (m:Int) :: (ys.take j).flatMap (rowBy c S.cells) ++ (y:Int) :: ((rowAt c S.cells y).take x).flatMap cellB) from by
        have hbb:Below wr.heap.size wr w9:=by rw [hw9];exact (Below.refl _ _).alloc (Nat.le_refl _) _
        exact ⟨by rw [hw9,hg9];exact Cb.new wr z,Z.out.2.2.2.below hbb,Z.out.2.1.trans (hbb.mono (HZ.out _ Z.out.2.1)),Z.out.2.2.1.trans (KeepI.below hbb),Z.out.1.below hbb⟩)
       unfold ceA at hw9
       go_upto_region 9 with fail
       rw [← hw9,← hg9]
       clear hw9 hg9 Z d0 d1 d2 d3 d4 d5
       obtain ⟨d0,d1,d2,d3,d4,d5⟩:=H9.out.1.all
       have hj24:j<24:=by omega
       go_wp2_with fail
       refine (layCell_any (x:=z) H9.out.2.2.2.2 (HZ.out _ H9.out.2.2.1) (by omega) ⟨HZX.out.1.rune.1,by have:=HZX.out.1.rune;omega⟩ ⟨HZX.out.1.fg0,by have:=HZX.out.1.fg;omega⟩ ⟨HZX.out.1.bg0,by have:=HZX.out.1.bg;omega⟩ HZX.out.2.1).mono ?_
       rintro e w10 ⟨hb10,hk10,A10,c10,rfl,hy10⟩
       have H10:=Lib.hid (show By w0.heap.size w10 A10 (n8+9) c10 (zs ++ (m:Int) :: (ys.take j).flatMap (rowBy c S.cells) ++ (y:Int) :: ((rowAt c S.cells y).take (x+1)).flatMap cellB)∧Below w0.heap.size w w10∧KeepI w w10∧Sx w10 b s from by
        refine ⟨?_,H9.out.2.2.1.trans hb10,H9.out.2.2.2.1.trans hk10,hk10.rw H9.out.2.1 (by decide)⟩
        rw [HZX.out.2.2,List.flatMap_append]
        have e:[z].flatMap cellB=cellB z:=by simp
        rw [e]
        simp only [List.append_assoc,List.cons_append] at hy10 ⊢
        exact hy10)
       clear hb10 hk10 hy10 H9 d0 d1 d2 d3 d4 d5
       go_wp2_with fail
       go_roundw
       case rel=>exact ⟨x+1,A10,n8+9,c10,by omega,by omega,by go_num,rfl,H10.out.1,H10.out.2.1,H10.out.2.2.1,H10.out.2.2.2⟩
       case measure=>simp [intOf];omega
     · have HFIN:=Lib.hid (show By w0.heap.size wr A8 n8 c8 (zs ++ (m:Int) :: (ys.take (j+1)).flatMap (rowBy c S.cells)) from by
        have h1:=Z.out.1
        rw [List.take_of_length_le (l:=rowAt c S.cells y) (by rw [(HV.out _ Z.out.2.1).len];omega)] at h1
        rw [HYY.out.2.1,List.flatMap_append]
        have e:[y].flatMap (rowBy c S.cells)=rowBy c S.cells y:=by simp
        rw [e]
        simp only [List.append_assoc,List.cons_append] at h1 ⊢
        exact h1)
       go_wp2_with fail
       go_roundw
       case rel=>exact ⟨j+1,A8,n8,c8,by omega,by omega,by go_num,rfl,HFIN.out,Z.out.2.1,Z.out.2.2.1,Z.out.2.2.2⟩
       case measure=>simp [intOf];omega
  · obtain rfl:j=m:=by omega
    have X:Longer w0.heap.size (zs ++ (j:Int) :: ys.flatMap (rowBy c S.cells)) (zs ++ (j:Int) :: ys.flatMap (rowBy c S.cells)).length w (.returned (.slice A4 n4 c4)) wr:=by
     have h1:=Y.out.1
     rw [List.take_of_length_le (by rw [HL.out];exact Nat.le_refl _)] at h1
     have hl:=h1.len
     rw [hl]
     exact ⟨Y.out.2.1,Y.out.2.2.1,A4,c4,rfl,h1⟩
    go_wp2_with fail
    go_ret
    exact X
open Go.RowKit
structure Got (w:World) (s:ScR) (S:Sc):Prop where
 sc:ScIn w s S
 pos:PosC S.cells
 mo:0≤S.mouse
 n:s.n≤60000
 m:s.m≤60000
theorem Got.below {w w':World} {s:ScR} {S:Sc} (h:Got w s S) (hb:Below w.heap.size w w'):Got w' s S:=⟨h.sc.below hb,h.pos,h.mo,h.n,h.m⟩
theorem fit_xy {S:Sc} (h:fitsS S=true):(0≤S.x∧S.x≤255)∧(0≤S.y∧S.y≤255):=by
 unfold fitsS rightSc at h
 simp only [Bool.and_eq_true,decide_eq_true_eq] at h
 obtain ⟨⟨⟨⟨⟨⟨⟨⟨⟨h1,h2⟩,h3⟩,h4⟩,h5⟩,h6⟩,h7⟩,h8⟩,h9⟩,h10⟩:=h
 obtain ⟨hz,_⟩:=(gridMay_iff _ _ _).1 h1
 unfold sizeOk at hz
 have:=of_decide_eq_true hz
 omega
def EncEnd (p:List Int × Int) (w:World) (e:Ending) (w':World):Prop:=Below w.heap.size w w'∧∃ A c,e=.returned (.tuple #[.slice A p.1.length c,.int .i64 p.2])∧By w.heap.size w' A p.1.length c p.1
theorem By.none (base:Nat) (w:World):By base w none 0 0 []:=⟨rfl,Nat.le_refl _,by unfold maxLen;omega,World.ownsRow_nil _ _ _ _⟩
end Go.Proofs.YtikhknnhmnopbaaGreatDoor
