/-
  Part 26 of what the laws of emul want: RowsTold.
-/
import Derived.Deep.RegionHeld3
import Derived.Deep.DeepCutAuto
import Derived.Test.YtikhknnhmnopbaaGreatDoorPm01
import Derived.Test.YtikhknnhmnopbaaGreatDoorPm07
import Derived.Test.YtikhknnhmnopbaaGreatDoorPm24
import Derived.Test.YtikhknnhmnopbaaGreatDoorPm25
namespace Go.Proofs.YtikhknnhmnopbaaGreatDoor
open Go.RowKit
theorem take1_u8 {zs:List Int} (h:U8s zs) (e n:Int):U8s (take1 zs e n).1∧U8s (take1 zs e n).2.1∧(take1 zs e n).2.1.length≤zs.length:=by
 unfold take1
 split
 · exact ⟨fun z hz=>by (cases hz),h,Nat.le_refl _⟩
 · split
   · exact ⟨fun z hz=>by (cases hz),h,Nat.le_refl _⟩
   · split
     · exact ⟨fun z hz=>by (cases hz),h,Nat.le_refl _⟩
     · exact ⟨fun z hz=>h z (List.mem_of_mem_take hz),fun z hz=>h z (List.mem_of_mem_drop hz),by show (List.drop _ _).length≤_;rw [List.length_drop];omega⟩
theorem rzTake_any {base r:Nat} {zs:List Int} {e:Int} {w:World} (h:Rz base r zs e w) (n:Int) (hn:n≤9223372036854775807) :
  Calls Tryz.prog 36 #[.pointer (some ⟨r,0,none⟩),.int .i64 n] w fun e' w'=>∃ A m c,e'=.returned (.slice A m c)∧Sb w' A m (take1 zs e n).1∧m≤140737488355328∧Rz base r (take1 zs e n).2.1 (take1 zs e n).2.2 w'∧w.grownBy w' (some r):=by
 obtain ⟨A,m,c,hr⟩:=h.rd
 refine (take_any hr (by have:=hr.sb.len;have:=h.len;omega) n hn).mono ?_
 rintro e' w' ⟨v,rfl,⟨A2,m2,c2,rfl,hf⟩,⟨A',n',c',h2⟩,h3⟩
 have hu:=take1_u8 h.u8 e n
 refine ⟨A2,m2,c2,rfl,hf.sb,?_,⟨⟨A',n',c',h2⟩,hu.2.1,Nat.le_trans hu.2.2 h.len⟩,h3⟩
 have h4:=hf.len
 have h5:(take1 zs e n).1.length≤zs.length:=by
  unfold take1
  split
  · exact Nat.zero_le _
  · split
    · exact Nat.zero_le _
    · split
      · exact Nat.zero_le _
      · show (List.take _ _).length≤_
        rw [List.length_take];omega
 have:=h.len
 omega
theorem take1_small (zs:List Int) (e:Int) {n:Int} (h:0≤n):((take1 zs e n).1.length:Int)≤n:=by
 unfold take1
 split
 · exact h
 · split
   · exact h
   · split
     · exact h
     · show ((List.take _ _).length:Int)≤_
       rw [List.length_take];omega
theorem title_out {c r:Nat} {fl:Int} {S:Sc} {t:List Int} (h8:U8s t) (h:fl / 2 % 2=1) :
  ((take1 (num1 t 0 1).2.1 (num1 t 0 1).2.2 (num1 t 0 1).1).2.2=0∧restA c r fl S t=restB c r { S with title:=(take1 (num1 t 0 1).2.1 (num1 t 0 1).2.2 (num1 t 0 1).1).1 } (take1 (num1 t 0 1).2.1 (num1 t 0 1).2.2 (num1 t 0 1).1).2.1) ∨
  ((take1 (num1 t 0 1).2.1 (num1 t 0 1).2.2 (num1 t 0 1).1).2.2=2∧restA c r fl S t=(scZero,2)):=by
 unfold restA
 rw [if_pos h]
 cases t with
 | nil =>
  rw [num1_nil]
  right
  exact ⟨rfl,rfl⟩
 | cons n t =>
  rw [num1_cons]
  have hn:=h8 n (by simp)
  dsimp only
  unfold take1
  rw [if_neg (show ¬ ((0:Int)≠0) by simp),if_neg (show ¬ n<0 by omega)]
  by_cases hl:(t.length:Int)<n
  · rw [if_pos hl,if_pos hl]
    right
    exact ⟨rfl,rfl⟩
  · rw [if_neg hl,if_neg hl]
    left
    exact ⟨rfl,rfl⟩
theorem title_not {c r:Nat} {fl:Int} {S:Sc} {t:List Int} (h:¬ fl / 2 % 2=1):restA c r fl S t=restB c r S t:=by unfold restA;rw [if_neg h]
theorem five_short {d:List Int} (h:d.length<5) {V1 V2 V3 V4 V5 E1 E2 E3 E4 E5:Int} {Z1 Z2 Z3 Z4 Z5:List Int} (h1:num1 d 0 1=(V1,Z1,E1)) (h2:num1 Z1 E1 1=(V2,Z2,E2)) (h3:num1 Z2 E2 1=(V3,Z3,E3)) (h4:num1 Z3 E3 1=(V4,Z4,E4)) (h5:num1 Z4 E4 1=(V5,Z5,E5)):E5=2:=by
 have he:∀ (z:List Int),num1 z 2 1=(0,z,2):=fun z=>num1_err (by decide) 1
 rcases d with _ | ⟨a,_ | ⟨b,_ | ⟨c,_ | ⟨d,_ | ⟨e,t⟩⟩⟩⟩⟩
 · rw [num1_nil] at h1;cases h1;rw [he] at h2;cases h2;rw [he] at h3;cases h3;rw [he] at h4;cases h4;rw [he] at h5;cases h5;rfl
 · rw [num1_cons] at h1;cases h1;rw [num1_nil] at h2;cases h2;rw [he] at h3;cases h3;rw [he] at h4;cases h4;rw [he] at h5;cases h5;rfl
 · rw [num1_cons] at h1;cases h1;rw [num1_cons] at h2;cases h2;rw [num1_nil] at h3;cases h3;rw [he] at h4;cases h4;rw [he] at h5;cases h5;rfl
 · rw [num1_cons] at h1;cases h1;rw [num1_cons] at h2;cases h2;rw [num1_cons] at h3;cases h3;rw [num1_nil] at h4;cases h4;rw [he] at h5;cases h5;rfl
 · rw [num1_cons] at h1;cases h1;rw [num1_cons] at h2;cases h2;rw [num1_cons] at h3;cases h3;rw [num1_cons] at h4;cases h4;rw [num1_nil] at h5;cases h5;rfl
 · simp at h;omega
theorem five_ok {a b c d e:Int} {t:List Int} {V1 V2 V3 V4 V5 E1 E2 E3 E4 E5:Int} {Z1 Z2 Z3 Z4 Z5:List Int} (h1:num1 (a :: b :: c :: d :: e :: t) 0 1=(V1,Z1,E1)) (h2:num1 Z1 E1 1=(V2,Z2,E2)) (h3:num1 Z2 E2 1=(V3,Z3,E3)) (h4:num1 Z3 E3 1=(V4,Z4,E4)) (h5:num1 Z4 E4 1=(V5,Z5,E5)):V1=a∧V2=b∧V3=c∧V4=d∧V5=e∧Z5=t∧E5=0:=by
 rw [num1_cons] at h1;cases h1;rw [num1_cons] at h2;cases h2;rw [num1_cons] at h3;cases h3;rw [num1_cons] at h4;cases h4;rw [num1_cons] at h5;cases h5
 exact ⟨rfl,rfl,rfl,rfl,rfl,rfl,rfl⟩
theorem rdCells_lk:∀ (n:Nat) (d:List Int) (M:List Ce) (t:List Int),rdCells n d=.ok (M,t)→∀ x∈M,x.p.lk=0
 | 0,d,M,t,h=>by
  unfold rdCells at h
  injection h with h
  injection h with h1 h2
  rw [← h1]
  intro x hx
  cases hx
 | n+1,d,M,t,h=>by
  unfold rdCells at h
  split at h
  · cases h
  · split at h
    · split at h
      · rename_i L' t' hr
        injection h with h
        injection h with h1 h2
        rw [← h1]
        intro x hx
        rcases List.mem_cons.1 hx with rfl | hx
        · rfl
        · exact rdCells_lk n _ _ _ hr x hx
      · cases h
    · cases h
theorem over_mem {L M:List Ce} {i:Nat} {x:Ce} (h:x∈overS L i M):x∈L∨x∈M:=by
 unfold overS at h
 rcases List.mem_append.1 h with h | h
 · exact .inl (List.mem_of_mem_take h)
 · rcases List.mem_append.1 h with h | h
   · exact .inr h
   · exact .inl (List.mem_of_mem_drop h)
theorem rdRows_lk {c r:Nat}:∀ (n:Nat) (last:Int) (L:List Ce) (d:List Int) (L':List Ce) (t:List Int),(∀ x∈L,0≤x.p.lk∧x.p.lk≤65535)→rdRows c r n last L d=.ok (L',t)→∀ x∈L',0≤x.p.lk∧x.p.lk≤65535
 | 0,last,L,d,L',t,hL,h=>by
  unfold rdRows at h
  injection h with h
  injection h with h1 h2
  rw [← h1]
  exact hL
 | n+1,last,L,[],L',t,hL,h=>by
  cases h
 | n+1,last,L,y :: d,L',t,hL,h=>by
  unfold rdRows at h
  split at h
  · cases h
  · split at h
    · rename_i M t' hr
      refine rdRows_lk n y _ t' L' t (fun x hx=>?_) h
      rcases over_mem hx with hx | hx
      · exact hL x hx
      · rw [rdCells_lk _ _ _ _ hr x hx];omega
    · cases h
theorem Tx.gr2 {α:Type} {f:α→List Value} {t t2:TypeId} {B g r:Nat} {w w':World} {T:Option Addr} {m q:Nat} {L:List ByteArray} {M:List α} {cs:Array Value} {fr:Nat × Nat} (h:Tx B w T m q L) (hG:Gr2 g r w w') (hR:Rw f t w g M) (hn:t≠9) (hr:w.heap[r]?=some (.cells cs t2 fr)) (hn2:t2≠9):Tx B w' T m q L:=⟨h.len,h.le,h.max,by
 refine ⟨h.own.1,?_⟩
 rcases h.own.2 with h1 | ⟨q,cap,cur,hv,hb,hgg,hx⟩
 · exact .inl h1
 · refine .inr ⟨q,cap,cur,hv,hb,(hG.block q (Array.getElem?_eq_some_iff.1 hgg).1 ?_ ?_).trans hgg,hx⟩
   · rintro rfl
     obtain ⟨r,h3⟩:=hR
     rw [h3] at hgg
     injection hgg with e3
     injection e3 with _ e3
     exact hn e3
   · rintro rfl
     rw [hr] at hgg
     injection hgg with e3
     injection e3 with _ e3
     exact hn2 e3⟩
structure Fr (B r:Nat) (w w':World):Prop where
 bel:Below B w w'
 gr:w.grownBy w' (some r)
theorem Fr.size {B r:Nat} {w w':World} (h:Fr B r w w'):w.heap.size≤w'.heap.size:=h.bel.size
theorem Fr.grown {B r g:Nat} {w w1 w2:World} (h:Fr B r w w1) (hg:w1.grownBy w2 (some g)) (hB:B≤w1.heap.size) (hk:∀ k,some g=some k→B≤k) (hor:g=r∨w.heap.size≤g):Fr B r w w2 :=
 ⟨h.bel.grown hg hB hk, by rcases hor with e | e; · rw [e] at hg; exact grownBy_trans h.gr hg
                           · exact grownBy_far h.gr hg e⟩
theorem Fr.on {B r:Nat} {w w1 w2:World} (h:Fr B r w w1) (hb:Below w1.heap.size w1 w2) (hB:B≤w1.heap.size):Fr B r w w2:=⟨h.bel.trans (hb.mono hB),grownBy_trans h.gr (grownBy_below hb)⟩
theorem Fr.gr2 {B r g:Nat} {w w1 w2:World} (h:Fr B r w w1) (k:Gr2 g r w1 w2) (hg:B≤g) (hr:B≤r) (hB:B≤w1.heap.size) (hw:w.heap.size≤g):Fr B r w w2 :=
 ⟨h.bel.trans (k.toBelow hg hr hB),⟨k.os.trans h.gr.os,k.tape.trans h.gr.tape,k.output.trans h.gr.output,Nat.le_trans h.gr.size k.size,fun i hi hne=>(k.block i (Nat.lt_of_lt_of_le hi h.gr.size) (by omega) (fun e=>hne (by rw [e]))).trans (h.gr.block i hi hne)⟩⟩
def ToEnd (base r:Nat) (A:Sc) (d:List Int) (w:World) (e:Ending) (w':World):Prop :=
 Fr base r w w'∧∃ s' E,e=.returned (.tuple #[.agg (scrA s'),.int .i64 E])∧((E=0∧∃ S',ScOwn base w' s' S'∧applyS A d=if fitsS S'=true then (S',0) else (scZero,3))∨(E≠0∧applyS A d=(scZero,E)))
set_option maxHeartbeats 12800000 in
set_option maxRecDepth 100000 in
theorem told_any {w0 w:World} {sa:ScR} {A:Sc} {r c rr:Nat} {BL:Rws} {d:List Int} (hT:Tabs w0) (hI:ScIn w0 sa A) (hb:Below w0.heap.size w0 w) (hA:FitS A c rr BL) (fA:fitsS A=true) (h:Rz w0.heap.size r d 0 w) :
  Calls Tryz.prog 18 #[.agg (scrA sa),.pointer (some ⟨r,0,none⟩)] w (ToEnd w0.heap.size r A d w):=by
 have HT:=Lib.hid (fun w' (hb':Below w0.heap.size w0 w')=>hT.below hb' (Nat.le_refl _))
 have HI:=Lib.hid (And.intro hI (And.intro hA fA))
 have HB0:=Lib.hid hb
 obtain ⟨b,hb1⟩:∃ b,b=w.heap.size:=⟨_,rfl⟩
 have HBW:=Lib.hid (show w.heap.size=b from hb1.symm)
 obtain ⟨w1,hw1⟩:∃ w1,w1=(w.alloc (.cells (scrA sa) 25)).alloc (.cells (scrA scN) 25):=⟨_,rfl⟩
 have H1:=Lib.hid (show Bx2 b sa scN w1∧Fr w0.heap.size r w w1∧Rz w0.heap.size r d 0 w1∧w0.heap.size≤b∧r<b from by
  have h1:=Sx.new w sa
  have h2:=Sx.new (w.alloc (.cells (scrA sa) 25)) scN
  rw [World.size_alloc] at h2
  have hbb:Below w.heap.size w w1:=by rw [hw1];exact ((Below.refl _ _).alloc (Nat.le_refl _) _).alloc (by simp) _
  refine ⟨⟨by rw [hb1,hw1];exact h1.below ((Below.refl _ _).alloc (Nat.le_refl _) _),by rw [hb1,hw1];exact h2⟩,⟨hbb.mono hb.size,grownBy_below hbb⟩,h.below hbb,by rw [hb1];exact hb.size,by rw [hb1];exact h.lt⟩)
 clear hT hI hA fA hb h
 unfold scrA scN at hw1
 dsimp only at hw1
 unfold scrA
 go_enter Tryz.func18,Tryz.ntmps18
 go_upto_region 1 with fail
 rw [← hw1,← hb1]
 clear hw1 hb1
 obtain ⟨⟨V1,Z1,E1⟩,hq⟩:∃ q,num1 d 0 1=q:=⟨_,rfl⟩
 have Q1:=Lib.hid hq
 have BD1:=Lib.hid (show 0≤V1∧V1<256 from by
  have:=num1_bd H1.out.2.2.1.u8 0 1
  rw [show ((1:Nat):Int)=1 from rfl,hq] at this
  simpa using this)
 have PB:=Lib.hid (readByte_any H1.out.2.2.1)
 rw [hq] at PB
 clear hq
 dsimp only at PB
 go_wp2_with fail
 refine PB.out.mono ?_
 rintro e' w2 ⟨rfl,h1,h2⟩
 have H2:=Lib.hid (show Bx2 b sa scN w2∧Fr w0.heap.size r w w2∧Rz w0.heap.size r Z1 E1 w2∧w0.heap.size≤b∧r<b from by
  have hrb:=H1.out.2.2.2.2
  exact ⟨⟨H1.out.1.b1.grown h2 (by intro e;injection e with e;omega),H1.out.1.b2.grown h2 (by intro e;injection e with e;omega)⟩,H1.out.2.1.grown h2 (Nat.le_trans HB0.out.size H1.out.2.1.size) (fun k hk=>by injection hk with hk;have:=h1.lo;omega) (.inl rfl),h1,H1.out.2.2.2⟩)
 clear h1 h2 PB H1
 obtain ⟨⟨V2,Z2,E2⟩,hq⟩:∃ q,num1 Z1 E1 1=q:=⟨_,rfl⟩
 have Q2:=Lib.hid hq
 have BD2:=Lib.hid (show 0≤V2∧V2<256 from by
  have:=num1_bd H2.out.2.2.1.u8 E1 1
  rw [show ((1:Nat):Int)=1 from rfl,hq] at this
  simpa using this)
 have PB:=Lib.hid (readByte_any H2.out.2.2.1)
 rw [hq] at PB
 clear hq
 dsimp only at PB
 go_wp2_with fail
 refine PB.out.mono ?_
 rintro e' w3 ⟨rfl,h1,h2⟩
 have H3:=Lib.hid (show Bx2 b sa scN w3∧Fr w0.heap.size r w w3∧Rz w0.heap.size r Z2 E2 w3∧w0.heap.size≤b∧r<b from by
  have hrb:=H2.out.2.2.2.2
  exact ⟨⟨H2.out.1.b1.grown h2 (by intro e;injection e with e;omega),H2.out.1.b2.grown h2 (by intro e;injection e with e;omega)⟩,H2.out.2.1.grown h2 (Nat.le_trans HB0.out.size H2.out.2.1.size) (fun k hk=>by injection hk with hk;have:=h1.lo;omega) (.inl rfl),h1,H2.out.2.2.2⟩)
 clear h1 h2 PB H2
 obtain ⟨⟨V3,Z3,E3⟩,hq⟩:∃ q,num1 Z2 E2 1=q:=⟨_,rfl⟩
 have Q3:=Lib.hid hq
 have BD3:=Lib.hid (show 0≤V3∧V3<256 from by
  have:=num1_bd H3.out.2.2.1.u8 E2 1
  rw [show ((1:Nat):Int)=1 from rfl,hq] at this
  simpa using this)
 have PB:=Lib.hid (readByte_any H3.out.2.2.1)
 rw [hq] at PB
 clear hq
 dsimp only at PB
 go_wp2_with fail
 refine PB.out.mono ?_
 rintro e' w4 ⟨rfl,h1,h2⟩
 have H4:=Lib.hid (show Bx2 b sa scN w4∧Fr w0.heap.size r w w4∧Rz w0.heap.size r Z3 E3 w4∧w0.heap.size≤b∧r<b from by
  have hrb:=H3.out.2.2.2.2
  exact ⟨⟨H3.out.1.b1.grown h2 (by intro e;injection e with e;omega),H3.out.1.b2.grown h2 (by intro e;injection e with e;omega)⟩,H3.out.2.1.grown h2 (Nat.le_trans HB0.out.size H3.out.2.1.size) (fun k hk=>by injection hk with hk;have:=h1.lo;omega) (.inl rfl),h1,H3.out.2.2.2⟩)
 clear h1 h2 PB H3
 obtain ⟨⟨V4,Z4,E4⟩,hq⟩:∃ q,num1 Z3 E3 1=q:=⟨_,rfl⟩
 have Q4:=Lib.hid hq
 have BD4:=Lib.hid (show 0≤V4∧V4<256 from by
  have:=num1_bd H4.out.2.2.1.u8 E3 1
  rw [show ((1:Nat):Int)=1 from rfl,hq] at this
  simpa using this)
 have PB:=Lib.hid (readByte_any H4.out.2.2.1)
 rw [hq] at PB
 clear hq
 dsimp only at PB
 go_wp2_with fail
 refine PB.out.mono ?_
 rintro e' w5 ⟨rfl,h1,h2⟩
 have H5:=Lib.hid (show Bx2 b sa scN w5∧Fr w0.heap.size r w w5∧Rz w0.heap.size r Z4 E4 w5∧w0.heap.size≤b∧r<b from by
  have hrb:=H4.out.2.2.2.2
  exact ⟨⟨H4.out.1.b1.grown h2 (by intro e;injection e with e;omega),H4.out.1.b2.grown h2 (by intro e;injection e with e;omega)⟩,H4.out.2.1.grown h2 (Nat.le_trans HB0.out.size H4.out.2.1.size) (fun k hk=>by injection hk with hk;have:=h1.lo;omega) (.inl rfl),h1,H4.out.2.2.2⟩)
 clear h1 h2 PB H4
 obtain ⟨⟨V5,Z5,E5⟩,hq⟩:∃ q,num1 Z4 E4 1=q:=⟨_,rfl⟩
 have Q5:=Lib.hid hq
 have BD5:=Lib.hid (show 0≤V5∧V5<256 from by
  have:=num1_bd H5.out.2.2.1.u8 E4 1
  rw [show ((1:Nat):Int)=1 from rfl,hq] at this
  simpa using this)
 have PB:=Lib.hid (rzNum_any H5.out.2.2.1 1 (by omega))
 rw [show ((1:Nat):Int)=1 from rfl,hq] at PB
 clear hq
 dsimp only at PB
 go_wp2_with fail
 refine PB.out.mono ?_
 rintro e' w6 ⟨rfl,h1,h2⟩
 have H6:=Lib.hid (show Bx2 b sa scN w6∧Fr w0.heap.size r w w6∧Rz w0.heap.size r Z5 E5 w6∧w0.heap.size≤b∧r<b from by
  have hrb:=H5.out.2.2.2.2
  exact ⟨⟨H5.out.1.b1.grown h2 (by intro e;injection e with e;omega),H5.out.1.b2.grown h2 (by intro e;injection e with e;omega)⟩,H5.out.2.1.grown h2 (Nat.le_trans HB0.out.size H5.out.2.1.size) (fun k hk=>by injection hk with hk;have:=h1.lo;omega) (.inl rfl),h1,H5.out.2.2.2⟩)
 clear h1 h2 PB H5
 obtain ⟨A5,n5,c5,hrd⟩:=H6.out.2.2.1.rd
 have PE:=Lib.hid (err_any hrd)
 clear hrd
 go_wp2_with fail
 refine PE.out.mono ?_
 rintro e' wx ⟨rfl,rfl⟩
 clear PE
 by_cases hl5:d.length<5
 · have he2:E5=2:=five_short hl5 Q1.out Q2.out Q3.out Q4.out Q5.out
   subst he2
   have HL5:=Lib.hid hl5
   clear hl5
   go_wp2_with (refine wpList_store_V rfl 25 (.tmp 4) (.tmp 29) rfl scF_len one_sc info56 (b+1) _ 0 scN _ rfl (by omega) rfl rfl 25 [scN] H6.out.1.b2 (by decide) ?_;intro w7 hR7 hg7)
   have HE:=Lib.hid (show Fr w0.heap.size r w w7 from H6.out.2.1.grown hg7 (Nat.le_trans HB0.out.size H6.out.2.1.size) (fun k hk=>by injection hk with hk;have:=H6.out.2.2.2.1;omega) (.inr (by have:=HBW.out;omega)))
   obtain ⟨y0,y1,y2,y3,y4,y5,y6,y7,y8,_⟩:=sx_cells (s:=scN) hR7
   exact bodyPost_ret (v:=.tuple #[.agg (scrA scN),.int .i64 2]) (by simp [results,Tryz.results18,scrA,scN,go_sem,y0,y1,y2,y3,y4,y5,y6,y7,y8]) rfl ⟨HE.out,scN,2,rfl,.inr ⟨by decide,app_2 HI.out.2.2 HL5.out⟩⟩
 obtain ⟨x1,x2,x3,x4,x5,t,hd⟩:∃ x1 x2 x3 x4 x5 t,d=x1 :: x2 :: x3 :: x4 :: x5 :: t:=by
  rcases d with _ | ⟨a,_ | ⟨b,_ | ⟨c,_ | ⟨d,_ | ⟨e,t⟩⟩⟩⟩⟩
  · simp at hl5
  · simp at hl5
  · simp at hl5
  · simp at hl5
  · simp at hl5
  · exact ⟨_,_,_,_,_,_,rfl⟩
 subst hd
 obtain ⟨e1,e2,e3,e4,e5,e6,e7⟩:=five_ok Q1.out Q2.out Q3.out Q4.out Q5.out
 subst e1 e2 e3 e4 e5 e6 e7
 clear hl5 Q1 Q2 Q3 Q4 Q5
 have hf5:=BD5.out
 obtain ⟨a0,a1,a2,a3,a4,a5,a6,a7,a8,_⟩:=sx_cells H6.out.1.b1
 have PA:=Lib.hid (base_any (cols:=V1) (rows:=V2) (fl:=V5) (HT.out _ (HB0.out.trans H6.out.2.1.bel)) (HI.out.1.below (HB0.out.trans H6.out.2.1.bel)) HI.out.2.1 (by omega))
 unfold scrA at PA
 go_wp2_with fail
 refine PA.out.mono ?_
 rintro e' w7 ⟨hb7,⟨s,rfl,hS,hz,hn3,hn15⟩ | ⟨rfl,hbad⟩ | ⟨rfl,hn3,hbad⟩⟩
 rotate_left
 · obtain ⟨b12,hb12⟩:∃ q,q=w7.heap.size:=⟨_,rfl⟩
   obtain ⟨w8,hw8⟩:∃ q,q=w7.alloc (.cells (scrA scN) 25):=⟨_,rfl⟩
   have H8:=Lib.hid (show Bx2 b sa scN w8∧Fr w0.heap.size r w w8 from by
    have hbb:Below w7.heap.size w7 w8:=by rw [hw8];exact (Below.refl _ _).alloc (Nat.le_refl _) _
    have h68:Below w6.heap.size w6 w8:=hb7.trans (hbb.mono hb7.size)
    exact ⟨⟨H6.out.1.b1.below h68,H6.out.1.b2.below h68⟩,H6.out.2.1.on h68 (Nat.le_trans HB0.out.size H6.out.2.1.size)⟩)
   have HX:=Lib.hid (show applyS A (V1 :: V2 :: V3 :: V4 :: V5 :: Z5)=(scZero,3) from app_3 HI.out.2.2 hbad)
   have HLO:=Lib.hid H6.out.2.2.2.1
   clear hb7 hbad PA  a0 a1 a2 a3 a4 a5 a6 a7 a8
   unfold scrA scN at hw8 ⊢
   dsimp only at hw8 ⊢
   go_upto_region 7 with fail
   rw [← hw8,← hb12]
   clear hw8 hb12
   go_wp2_with (refine wpList_store_V rfl 25 (.tmp 4) (.tmp 41) rfl scF_len one_sc info56 (b+1) _ 0 scN _ rfl (by omega) rfl rfl 25 [scN] H8.out.1.b2 (by decide) ?_;intro w9 hR9 hg9)
   have HE:=Lib.hid (show Fr w0.heap.size r w w9 from H8.out.2.grown hg9 (Nat.le_trans HB0.out.size H8.out.2.size) (fun k hk=>by injection hk with hk;have:=HLO.out;omega) (.inr (by have:=HBW.out;omega)))
   obtain ⟨y0,y1,y2,y3,y4,y5,y6,y7,y8,_⟩:=sx_cells (s:=scN) hR9
   exact bodyPost_ret (v:=.tuple #[.agg (scrA scN),.int .i64 3]) (by simp [results,Tryz.results18,scrA,scN,go_sem,y0,y1,y2,y3,y4,y5,y6,y7,y8]) rfl ⟨HE.out,scN,3,rfl,.inr ⟨by decide,HX.out⟩⟩
 · obtain ⟨b12,hb12⟩:∃ q,q=w7.heap.size:=⟨_,rfl⟩
   obtain ⟨w8,hw8⟩:∃ q,q=w7.alloc (.cells (scrA scN) 25):=⟨_,rfl⟩
   have H8:=Lib.hid (show Bx2 b sa scN w8∧Fr w0.heap.size r w w8 from by
    have hbb:Below w7.heap.size w7 w8:=by rw [hw8];exact (Below.refl _ _).alloc (Nat.le_refl _) _
    have h68:Below w6.heap.size w6 w8:=hb7.trans (hbb.mono hb7.size)
    exact ⟨⟨H6.out.1.b1.below h68,H6.out.1.b2.below h68⟩,H6.out.2.1.on h68 (Nat.le_trans HB0.out.size H6.out.2.1.size)⟩)
   have HX:=Lib.hid (show applyS A (V1 :: V2 :: V3 :: V4 :: V5 :: Z5)=(scZero,15) from app_15 HI.out.2.2 hn3 hbad)
   have HLO:=Lib.hid H6.out.2.2.2.1
   clear hb7 hbad PA hn3 a0 a1 a2 a3 a4 a5 a6 a7 a8
   unfold scrA scN at hw8 ⊢
   dsimp only at hw8 ⊢
   go_upto_region 7 with fail
   rw [← hw8,← hb12]
   clear hw8 hb12
   go_wp2_with (refine wpList_store_V rfl 25 (.tmp 4) (.tmp 41) rfl scF_len one_sc info56 (b+1) _ 0 scN _ rfl (by omega) rfl rfl 25 [scN] H8.out.1.b2 (by decide) ?_;intro w9 hR9 hg9)
   have HE:=Lib.hid (show Fr w0.heap.size r w w9 from H8.out.2.grown hg9 (Nat.le_trans HB0.out.size H8.out.2.size) (fun k hk=>by injection hk with hk;have:=HLO.out;omega) (.inr (by have:=HBW.out;omega)))
   obtain ⟨y0,y1,y2,y3,y4,y5,y6,y7,y8,_⟩:=sx_cells (s:=scN) hR9
   exact bodyPost_ret (v:=.tuple #[.agg (scrA scN),.int .i64 15]) (by simp [results,Tryz.results18,scrA,scN,go_sem,y0,y1,y2,y3,y4,y5,y6,y7,y8]) rfl ⟨HE.out,scN,15,rfl,.inr ⟨by decide,HX.out⟩⟩
 obtain ⟨c',r',hV1,hV2,hc1,hc80,hr1,hr24⟩:=size_nat hz
 have HV:=Lib.hid (And.intro hV1 hV2)
 have HF7:=Lib.hid (show 0≤V5∧V5≤7 from by have:=hn3;omega)
 have HON:=Lib.hid (app_on (x:=V3) (y:=V4) (t:=Z5) HI.out.2.2 hn3 hn15)
 obtain ⟨S0,hS0⟩:∃ S0:Sc,S0={ (if V5<4 then A else blS V1.toNat V2.toNat) with x:=V3,y:=V4,hid:=decide (V5 % 2=1) }:=⟨_,rfl⟩
 rw [← hS0] at HON
 obtain ⟨M1,hM1⟩:∃ M1,bits .and .u64 V5 1=M1:=⟨_,rfl⟩
 have HM1:=Lib.hid (show (M1 != 0)=decide (V5 % 2=1) from by
  rw [← hM1,and1 HF7.out]
  by_cases e:V5 % 2=1
  · rw [if_pos e,decide_eq_true e];rfl
  · rw [if_neg e,decide_eq_false e];rfl)
 obtain ⟨T,hT2⟩:∃ T,decide (V5 / 2 % 2=1)=T:=⟨_,rfl⟩
 have HTT:=Lib.hid (show (T=true↔V5 / 2 % 2=1) from by rw [← hT2];simp)
 have bo:bits .and .u64 V5 2=if T=true then 2 else 0:=by
  rw [and2 HF7.out]
  by_cases e:V5 / 2 % 2=1
  · rw [if_pos e,if_pos (HTT.out.2 e)]
  · rw [if_neg e,if_neg (fun h=>e (HTT.out.1 h))]
 have HS0:=Lib.hid (show S0.c=V1∧S0.r=V2∧S0.cells.length=r'*c'∧S0.links=[] from by
  rw [hS0]
  by_cases e:V5<4
  · rw [if_pos e]
    have h1:V1=A.c:=Classical.byContradiction fun h=>hn15 ⟨e,.inl h⟩
    have h2:V2=A.r:=Classical.byContradiction fun h=>hn15 ⟨e,.inr h⟩
    have h3:=HI.out.2.1.ec
    have h4:=HI.out.2.1.er
    have h5:c'=c:=by omega
    have h6:r'=rr:=by omega
    refine ⟨h1.symm,h2.symm,?_,HI.out.2.1.lk⟩
    rw [h5,h6]
    show A.cells.length=_
    rw [HI.out.2.1.el]
    exact HI.out.2.1.gk.box.flen
  · rw [if_neg e,hV1,hV2,Int.toNat_natCast,Int.toNat_natCast]
    exact ⟨rfl,rfl,(bl_fit hc1 hc80 hr1 hr24).gk.box.flen,rfl⟩)
 have HSB:=Lib.hid (show ScOwn w6.heap.size w7 { s with x:=V3,y:=V4,hid:=(M1 != 0) } S0 from by
  refine ⟨{ hS.sc with c:=?_,r:=?_,x:=?_,y:=?_,hid:=?_,mouse:=?_,ttl:=?_,cells:=?_,links:=?_,lk:=?_,sz:=?_ },?_,?_,hS.n,hS.m⟩
  · rw [hS0];exact hS.sc.c
  · rw [hS0];exact hS.sc.r
  · rw [hS0]
  · rw [hS0]
  · rw [hS0];exact HM1.out.symm
  · rw [hS0];exact hS.sc.mouse
  · rw [hS0];exact hS.sc.ttl
  · rw [hS0];exact hS.sc.cells
  · rw [hS0];exact hS.sc.links
  · rw [hS0];exact hS.sc.lk
  · rw [hS0];exact hS.sc.sz
  · rw [hS0];exact hS.cx
  · rw [hS0];exact hS.tx)
 clear hS hz hn3 hn15 hV1 hV2 hS0 hT2 PA a0 a1 a2 a3 a4 a5 a6 a7 a8
 obtain ⟨s2,hs2⟩:∃ s2:ScR,s2={ s with x:=V3,y:=V4,hid:=(M1 != 0) }:=⟨_,rfl⟩
 rw [← hs2] at HSB
 obtain ⟨b12,hb12⟩:∃ q,q=w7.heap.size:=⟨_,rfl⟩
 obtain ⟨w8,hw8⟩:∃ q,q=w7.alloc (.cells (scrA s2) 25):=⟨_,rfl⟩
 have H8:=Lib.hid (show Bx2 b sa scN w8∧Fr w0.heap.size r w w8∧Rz w0.heap.size r Z5 0 w8∧Sx w8 b12 s2∧ScOwn w6.heap.size w8 s2 S0 from by
  have hbb:Below w7.heap.size w7 w8:=by rw [hw8];exact (Below.refl _ _).alloc (Nat.le_refl _) _
  have h68:Below w6.heap.size w6 w8:=hb7.trans (hbb.mono hb7.size)
  exact ⟨⟨H6.out.1.b1.below h68,H6.out.1.b2.below h68⟩,H6.out.2.1.on h68 (Nat.le_trans HB0.out.size H6.out.2.1.size),H6.out.2.2.1.below h68,by rw [hw8,hb12];exact Sx.new w7 s2,HSB.out.below hbb⟩)
 have HLO:=Lib.hid (show w0.heap.size≤b∧r<b∧b+2≤w6.heap.size∧w6.heap.size≤b12∧w0.heap.size≤r from ⟨H6.out.2.2.2.1,H6.out.2.2.2.2,H6.out.1.b2.lt,by rw [hb12];exact hb7.size,H6.out.2.2.1.lo⟩)
 rw [hs2] at hw8
 clear hb7 H6 HSB
 unfold scrA at hw8 ⊢
 dsimp only at hw8
 go_upto_if 53 with fail
 rw [← hw8,← hb12]
 clear hw8 hb12 hM1
 go_cut [] from 54 to 59 (fun wc=>∃ (ti:ByteArray) (st:List Int) (E:Int),Bx2 b sa scN wc∧Fr w0.heap.size r w wc∧Rz w0.heap.size r st E wc∧Sx wc b12 { s2 with ttl:=ti }∧ScOwn w6.heap.size wc { s2 with ttl:=ti } { S0 with title:=sL ti }∧((E=0∧restA V1.toNat V2.toNat V5 S0 Z5=restB V1.toNat V2.toNat { S0 with title:=sL ti } st)∨(E=2∧restA V1.toNat V2.toNat V5 S0 Z5=(scZero,2))))
 case first =>
  cases T
  · go_wp2_with fail
    go_meet
    case rel =>
     have e:S0.title=sL s2.ttl:=H8.out.2.2.2.2.sc.ttl
     have e2:({ S0 with title:=sL s2.ttl }:Sc)=S0:=by rw [← e]
     exact ⟨s2.ttl,Z5,0,H8.out.1,H8.out.2.1,H8.out.2.2.1,H8.out.2.2.2.1,by rw [e2];exact H8.out.2.2.2.2,.inl ⟨rfl,by rw [e2];exact title_not (fun h=>by have:=HTT.out.2 h;cases this)⟩⟩
  · have hT1:=HTT.out.1 rfl
    have HTO:=Lib.hid (title_out (c:=V1.toNat) (r:=V2.toNat) (S:=S0) H8.out.2.2.1.u8 hT1)
    obtain ⟨⟨Vt,Zt,Et⟩,hq⟩:∃ q,num1 Z5 0 1=q:=⟨_,rfl⟩
    have hbd:=num1_bd H8.out.2.2.1.u8 0 1
    rw [show ((1:Nat):Int)=1 from rfl,hq] at hbd
    have HBD:=Lib.hid (show 0≤Vt∧Vt<256 from by simpa using hbd)
    have PB:=Lib.hid (readByte_any H8.out.2.2.1)
    rw [hq] at PB HTO
    clear hq hbd hT1
    dsimp only at PB HTO
    go_wp2_with fail
    refine PB.out.mono ?_
    rintro e' w9 ⟨rfl,h1,h2⟩
    have H9:=Lib.hid (show Bx2 b sa scN w9∧Fr w0.heap.size r w w9∧Rz w0.heap.size r Zt Et w9∧Sx w9 b12 s2∧ScOwn w6.heap.size w9 s2 S0 from by
     have hrb:=HLO.out.2.1
     have hr6:r<w6.heap.size:=by have:=HLO.out;omega
     exact ⟨⟨H8.out.1.b1.grown h2 (by intro e;injection e with e;omega),H8.out.1.b2.grown h2 (by intro e;injection e with e;omega)⟩,H8.out.2.1.grown h2 (Nat.le_trans HB0.out.size H8.out.2.1.size) (fun k hk=>by injection hk with hk;have:=h1.lo;omega) (.inl rfl),h1,H8.out.2.2.2.1.grown h2 (by intro e;injection e with e;have:=HLO.out;omega),H8.out.2.2.2.2.grown h2 hr6⟩)
    clear h1 h2 PB H8
    have PT:=Lib.hid (rzTake_any H9.out.2.2.1 Vt (by have:=HBD.out;omega))
    have hu8:=take1_u8 H9.out.2.2.1.u8 Et Vt
    have hsm:=take1_small Zt Et (n:=Vt) HBD.out.1
    obtain ⟨⟨tk,st,E⟩,hq⟩:∃ q,take1 Zt Et Vt=q:=⟨_,rfl⟩
    rw [hq] at PT HTO hu8 hsm
    have HU8:=Lib.hid hu8.1
    have HSM:=Lib.hid (show (tk.length:Int)≤Vt from hsm)
    clear hq hu8 hsm
    dsimp only at PT HTO
    go_wp2_with fail
    refine PT.out.mono ?_
    rintro e' w10 ⟨A10,m10,c10,rfl,hsb,hm10,h1,h2⟩
    have kc:=conv_any (c:=c10) hsb 9 Tryz.underlying9
    have HK:=Lib.hid (show (strOfNums tk).size≤140737488351232 from by rw [strOfNums_size];have h:=HSM.out;have:=HBD.out;omega)
    obtain ⟨ti,hti⟩:∃ ti,strOfNums tk=ti:=⟨_,rfl⟩
    have HTI:=Lib.hid (show sL ti=tk from by rw [← hti];exact sL_nums HU8.out)
    rw [hti] at kc HK
    have H10:=Lib.hid (show Bx2 b sa scN w10∧Fr w0.heap.size r w w10∧Rz w0.heap.size r st E w10∧Sx w10 b12 s2∧ScOwn w6.heap.size w10 s2 S0 from by
     have hrb:=HLO.out.2.1
     have hr6:r<w6.heap.size:=by have:=HLO.out;omega
     exact ⟨⟨H9.out.1.b1.grown h2 (by intro e;injection e with e;omega),H9.out.1.b2.grown h2 (by intro e;injection e with e;omega)⟩,H9.out.2.1.grown h2 (Nat.le_trans HB0.out.size H9.out.2.1.size) (fun k hk=>by injection hk with hk;have:=h1.lo;omega) (.inl rfl),h1,H9.out.2.2.2.1.grown h2 (by intro e;injection e with e;have:=HLO.out;omega),H9.out.2.2.2.2.grown h2 hr6⟩)
    clear h1 h2 hsb hm10 hti PT H9
    have hfz:=H10.out.2.2.2.1.free 7
    obtain ⟨_,_,_,_,_,_,_,d7,_,_⟩:=sx_cells H10.out.2.2.2.1
    obtain ⟨w11,hw11⟩:∃ q,q=w10.setCell ⟨b12,7,none⟩ (.string ti):=⟨_,rfl⟩
    have H11:=Lib.hid (show Bx2 b sa scN w11∧Fr w0.heap.size r w w11∧Rz w0.heap.size r st E w11∧Sx w11 b12 { s2 with ttl:=ti }∧ScOwn w6.heap.size w11 { s2 with ttl:=ti } { S0 with title:=sL ti } from by
     have hg:w10.grownBy w11 (some b12):=by rw [hw11];exact grownBy_set w10 ⟨b12,7,none⟩ _
     have hlo:=HLO.out
     exact ⟨⟨H10.out.1.b1.grown hg (by intro e;injection e with e;omega),H10.out.1.b2.grown hg (by intro e;injection e with e;omega)⟩,H10.out.2.1.grown hg (Nat.le_trans HB0.out.size H10.out.2.1.size) (fun k hk=>by injection hk with hk;omega) (.inr (by have:=HBW.out;omega)),H10.out.2.2.1.grown hg (.inr (by omega)),by rw [hw11];exact Sx.set H10.out.2.2.2.1 rfl (by omega),(H10.out.2.2.2.2.box H10.out.2.2.2.1 hg).ttl ti HK.out⟩)
    go_wp2_with fail
    rw [← hw11]
    clear hw11 hfz d7 kc H10
    go_meet
    case rel =>
     have h:=HTO.out
     rw [← HTI.out] at h
     exact ⟨ti,st,E,H11.out.1,H11.out.2.1,H11.out.2.2.1,H11.out.2.2.2.1,H11.out.2.2.2.2,h⟩
 case rest =>
 obtain ⟨ti,st,E,h1,h2,h3,h4,h5,h6⟩:=hcut
 have Y:=Lib.hid (show Bx2 b sa scN wc∧Fr w0.heap.size r w wc∧Rz w0.heap.size r st E wc∧Sx wc b12 { s2 with ttl:=ti }∧ScOwn w6.heap.size wc { s2 with ttl:=ti } { S0 with title:=sL ti } from ⟨h1,h2,h3,h4,h5⟩)
 have HE:=Lib.hid h6
 clear h1 h2 h3 h4 h5 h6 H8 bo
 generalize (if T=true then (2:Int) else 0)=Q2
 have HX:=Lib.hid (show (E=0∧applyS A (V1 :: V2 :: V3 :: V4 :: V5 :: Z5)=endA { S0 with title:=sL ti } (rowsR c' r' S0.cells st))∨(E=2∧applyS A (V1 :: V2 :: V3 :: V4 :: V5 :: Z5)=(scZero,2)) from by
  rw [HON.out]
  rcases HE.out with ⟨h1,h2⟩ | ⟨h1,h2⟩
  · left
    refine ⟨h1,?_⟩
    rw [h2,restB_is,HV.out.1,HV.out.2,Int.toNat_natCast,Int.toNat_natCast]
  · right
    exact ⟨h1,h2⟩)
 clear HE HON HTT
 obtain ⟨s3,hs3⟩:∃ s3:ScR,s3={ s2 with ttl:=ti }:=⟨_,rfl⟩
 obtain ⟨S3,hS3⟩:∃ S3:Sc,S3={ S0 with title:=sL ti }:=⟨_,rfl⟩
 rw [← hs3,← hS3] at Y
 rw [← hS3] at HX
 have HS3:=Lib.hid (show S3.c=V1∧S3.r=V2∧S3.cells.length=r'*c'∧S3.links=[]∧S3.cells=S0.cells from by rw [hS3];exact ⟨HS0.out.1,HS0.out.2.1,HS0.out.2.2.1,HS0.out.2.2.2,rfl⟩)
 have hn3:s3.n=r'*c':=by rw [← Y.out.2.2.2.2.sc.cells.len];exact HS3.out.2.2.1
 have hpos:0<s3.n:=by rw [hn3];exact Nat.mul_pos hr1 hc1
 obtain ⟨g,hA,hg,hR⟩:=Y.out.2.2.2.2.cx.own hpos
 have HG:=Lib.hid (show s3.A=some ⟨g,0,none⟩∧w6.heap.size≤g∧Rw ceV 43 wc g S3.cells∧g≠b12∧s3.n=r'*c'∧g≠b∧g≠b+1 from ⟨hA,hg,hR,Rw.apart hR Y.out.2.2.2.1 (by decide),hn3,by have:=HLO.out;omega,by have:=HLO.out;omega⟩)
 clear hA hg hR hn3 hpos
 clear hs3
 have PBAD:=Lib.hid (fun (zz:List Int) (hq:num1 st E 1=(0,zz,2))=>readRows_err (g:=g) (s:=s3) Y.out.2.2.1 hq)
 have HFR:=Lib.hid (fun (w':World) (h:Gr2 g r wc w')=>show Bx2 b sa scN w'∧Fr w0.heap.size r w w'∧Sx w' b12 s3 from by
  have hlo:=HLO.out
  have hgo:=HG.out
  have hb3:=Y.out.2.2.2.1.lt
  exact ⟨⟨h.rw Y.out.1.b1 (by omega) (by omega),h.rw Y.out.1.b2 (by omega) (by omega)⟩,Y.out.2.1.gr2 h (by omega) (by omega) (Nat.le_trans HB0.out.size Y.out.2.1.size) (by have:=HBW.out;omega),h.rw Y.out.2.2.2.1 (fun e=>hgo.2.2.2.1 e.symm) (by omega)⟩)
 have hbad:(∃ zz,num1 st E 1=(0,zz,2)∧applyS A (V1 :: V2 :: V3 :: V4 :: V5 :: Z5)=(scZero,2))∨(∃ n t,st=n :: t∧E=0):=by
  rcases HX.out with ⟨h1,h2⟩ | ⟨h1,h2⟩
  · cases st with
    | nil=>exact .inl ⟨[],by rw [h1];exact num1_nil,h2⟩
    | cons n t=>exact .inr ⟨n,t,rfl,h1⟩
  · exact .inl ⟨st,by rw [h1];exact num1_err (by decide) 1,h2⟩
 obtain ⟨a0,a1,a2,a3,a4,a5,a6,a7,a8,_⟩:=sx_cells Y.out.2.2.2.1
 rcases hbad with ⟨zz,hq,hap⟩ | ⟨n,t,hst,hE0⟩
 · have PR:=Lib.hid (PBAD.out zz hq)
   have HAP:=Lib.hid hap
   clear hq hap PBAD
   unfold scrA at PR
   go_wp2_with fail
   refine PR.out.mono ?_
   rintro e' w12 ⟨hg12,rfl⟩
   have H12:=Lib.hid (HFR.out _ hg12)
   clear hg12 PR a0 a1 a2 a3 a4 a5 a6 a7 a8
   go_wp2_with (refine wpList_store_V rfl 25 (.tmp 4) (.tmp 65) rfl scF_len one_sc info56 (b+1) _ 0 scN _ rfl (by omega) rfl rfl 25 [scN] H12.out.1.b2 (by decide) ?_;intro w13 hR13 hg13)
   have HE:=Lib.hid (show Fr w0.heap.size r w w13 from H12.out.2.1.grown hg13 (Nat.le_trans HB0.out.size H12.out.2.1.size) (fun k hk=>by injection hk with hk;have:=HLO.out;omega) (.inr (by have:=HBW.out;omega)))
   obtain ⟨y0,y1,y2,y3,y4,y5,y6,y7,y8,_⟩:=sx_cells (s:=scN) hR13
   exact bodyPost_ret (v:=.tuple #[.agg (scrA scN),.int .i64 2]) (by simp [results,Tryz.results18,scrA,scN,go_sem,y0,y1,y2,y3,y4,y5,y6,y7,y8]) rfl ⟨HE.out,scN,2,rfl,.inr ⟨by decide,HAP.out⟩⟩
 subst hst hE0
 clear PBAD
 have HAP:=Lib.hid (show applyS A (V1 :: V2 :: V3 :: V4 :: V5 :: Z5)=endA S3 (rdRows c' r' n.toNat (-1) S3.cells t) from by
  rcases HX.out with ⟨_,h2⟩ | ⟨h1,_⟩
  · rw [h2,HS3.out.2.2.2.2];rfl
  · cases h1)
 have PR:=Lib.hid (readRows_cons (c:=c') (rr:=r') (s:=s3) (fun w' hw=>HT.out w' (HB0.out.trans (HFR.out w' hw).2.1.bel)) Y.out.2.2.1 HG.out.2.2.1 (.inr (by have:=HLO.out;have:=HG.out;omega)) HG.out.1 (by rw [← Y.out.2.2.2.2.sc.c,HS3.out.1,HV.out.1]) (by rw [← Y.out.2.2.2.2.sc.r,HS3.out.2.1,HV.out.2]) HG.out.2.2.2.2.1 Y.out.2.2.2.2.sc.nk HS3.out.2.2.1 hc1 hc80 hr24)
 clear HX
 unfold scrA at PR
 go_wp2_with fail
 refine PR.out.mono ?_
 rintro e' w12 ⟨hg12,⟨L',z',hq,rfl,hz,hR,hl⟩ | ⟨E,hq,hE,rfl⟩⟩
 rotate_left
 · have H12:=Lib.hid (HFR.out _ hg12)
   have HAE:=Lib.hid (show applyS A (V1 :: V2 :: V3 :: V4 :: V5 :: Z5)=(scZero,E)∧E≠0 from ⟨by rw [HAP.out,hq];rfl,hE⟩)
   have hEb:(E != 0)=true:=by simpa using hE
   clear hg12 PR a0 a1 a2 a3 a4 a5 a6 a7 a8 hq hE
   go_wp2_with (refine wpList_store_V rfl 25 (.tmp 4) (.tmp 65) rfl scF_len one_sc info56 (b+1) _ 0 scN _ rfl (by omega) rfl rfl 25 [scN] H12.out.1.b2 (by decide) ?_;intro w13 hR13 hg13)
   have HE:=Lib.hid (show Fr w0.heap.size r w w13 from H12.out.2.1.grown hg13 (Nat.le_trans HB0.out.size H12.out.2.1.size) (fun k hk=>by injection hk with hk;have:=HLO.out;omega) (.inr (by have:=HBW.out;omega)))
   obtain ⟨y0,y1,y2,y3,y4,y5,y6,y7,y8,_⟩:=sx_cells (s:=scN) hR13
   exact bodyPost_ret (v:=.tuple #[.agg (scrA scN),.int .i64 E]) (by simp [results,Tryz.results18,scrA,scN,go_sem,y0,y1,y2,y3,y4,y5,y6,y7,y8]) rfl ⟨HE.out,scN,E,rfl,.inr ⟨HAE.out.2,HAE.out.1⟩⟩
 have H12:=Lib.hid (show (Bx2 b sa scN w12∧Fr w0.heap.size r w w12∧Sx w12 b12 s3)∧Rz w0.heap.size r z' 0 w12∧ScOwn w6.heap.size w12 s3 { S3 with cells:=L' } from by
  refine ⟨HFR.out _ hg12,hz,?_⟩
  have h5:=Y.out.2.2.2.2
  have hlk:=rdRows_lk _ _ _ _ _ _ h5.sc.lk hq
  have hc:Cx w6.heap.size w12 s3.A s3.n s3.k L':=⟨by rw [hl];exact h5.cx.len,h5.cx.le,h5.cx.max,fun _=>⟨g,HG.out.1,HG.out.2.1,hR⟩⟩
  obtain ⟨A5,n5,c5,hrd⟩:=Y.out.2.2.1.rd
  have ht:Tx w6.heap.size w12 s3.T s3.m s3.q S3.links:=Tx.gr2 h5.tx hg12 HG.out.2.2.1 (by decide) hrd.blk (by decide)
  exact ⟨{ h5.sc with cells:=hc.vs,links:=ht.vs,lk:=hlk },hc,ht,h5.n,h5.m⟩)
 have HAE:=Lib.hid (show applyS A (V1 :: V2 :: V3 :: V4 :: V5 :: Z5)=endA S3 (.ok (L',z')) from by rw [HAP.out,hq])
 clear hg12 hz hR hl hq PR a0 a1 a2 a3 a4 a5 a6 a7 a8
 obtain ⟨A6,n6,c6,hrd⟩:=H12.out.2.1.rd
 have HN6:=Lib.hid hrd.sb.len
 have PE:=Lib.hid (fun (q:Nat)=>end_any (hrd.drewN q))
 have PE0:=Lib.hid (end_any hrd.drew)
 clear hrd
 obtain ⟨EE,hEE⟩:∃ EE,endE 0 n6=EE:=⟨_,rfl⟩
 rw [hEE] at PE PE0
 have HEE:=Lib.hid hEE
 clear hEE PE
 go_upto_region 15 with fail
 have SX:=Lib.hid (show ∀ w',Sx w' b12 s3→(w'.cell? ⟨b12,0,none⟩=some (.int .i64 s3.c)∧w'.cell? ⟨b12,1,none⟩=some (.int .i64 s3.r)∧w'.cell? ⟨b12,2,none⟩=some (.slice s3.A s3.n s3.k)∧w'.cell? ⟨b12,3,none⟩=some (.int .i64 s3.x)∧w'.cell? ⟨b12,4,none⟩=some (.int .i64 s3.y)∧w'.cell? ⟨b12,5,none⟩=some (.bool s3.hid)∧w'.cell? ⟨b12,6,none⟩=some (.int .u8 s3.mouse)∧w'.cell? ⟨b12,7,none⟩=some (.string s3.ttl)∧w'.cell? ⟨b12,8,none⟩=some (.slice s3.T s3.m s3.q)) from fun w' hb=>by
  have t0:=sx_cells hb
  exact ⟨t0.c0,t0.c1,t0.c2,t0.c3,t0.c4,t0.c5,t0.c6,t0.c7,t0.c8⟩)
 refine wp_region_noPanic ?_
 refine wp_region_held_drew (S:=fun w'=>w'.cell? ⟨b12,0,none⟩=some (.int .i64 s3.c)∧w'.cell? ⟨b12,1,none⟩=some (.int .i64 s3.r)∧w'.cell? ⟨b12,2,none⟩=some (.slice s3.A s3.n s3.k)∧w'.cell? ⟨b12,3,none⟩=some (.int .i64 s3.x)∧w'.cell? ⟨b12,4,none⟩=some (.int .i64 s3.y)∧w'.cell? ⟨b12,5,none⟩=some (.bool s3.hid)∧w'.cell? ⟨b12,6,none⟩=some (.int .u8 s3.mouse)∧w'.cell? ⟨b12,7,none⟩=some (.string s3.ttl)∧w'.cell? ⟨b12,8,none⟩=some (.slice s3.T s3.m s3.q)) (by kernel_rfl) (SX.out _ (H12.out.1.2.2.below (Below.refl _ _).drew)) (fun hHeld=>?_)
 refine tkH 0 (.agg #[.int .i64 s3.c,.int .i64 s3.r,.slice s3.A s3.n s3.k,.int .i64 s3.x,.int .i64 s3.y,.bool s3.hid,.int .u8 s3.mouse,.string s3.ttl,.slice s3.T s3.m s3.q]) rfl (.inl ⟨by rfl,fun wz hSz=>?_⟩) hHeld ?_
 · obtain ⟨e0,e1,e2,e3,e4,e5,e6,e7,e8⟩:=hSz
   go_simp
 simp only [Act.put,List.getElem_toArray,List.getElem_cons_zero,List.setIfInBounds_toArray,List.set_cons_succ,List.set_cons_zero]
 refine tkH 1 (.pointer (some ⟨r,0,none⟩)) rfl (.inl ⟨by rfl,fun wz hSz=>?_⟩) hHeld ?_
 · go_simp
 simp only [Act.put,List.getElem_toArray,List.getElem_cons_succ,List.getElem_cons_zero,List.setIfInBounds_toArray,List.set_cons_succ,List.set_cons_zero]
 refine wpAnyH_ready (rs:=[2]) (by kernel_rfl) (by simp) (AllReadyH.cons rfl (fun K hK=>?_) AllReadyH.nil)
 rw [if_pos (by rfl)]
 go_simp
 refine PE0.out.mono ?_
 rintro e' w13 ⟨rfl,hw13⟩
 have H13:=Lib.hid (show Bx2 b sa scN w13∧Fr w0.heap.size r w w13∧Sx w13 b12 s3∧ScOwn w6.heap.size w13 s3 { S3 with cells:=L' } from by
  have hbb:Below w12.heap.size w12 w13:=by rw [← hw13];exact (Below.refl _ _).drew
  exact ⟨⟨H12.out.1.1.b1.below hbb,H12.out.1.1.b2.below hbb⟩,H12.out.1.2.1.on hbb (Nat.le_trans HB0.out.size H12.out.1.2.1.size),H12.out.1.2.2.below hbb,H12.out.2.2.below hbb⟩)
 clear hw13 PE0
 refine hK.out _ _ (SX.out _ H13.out.2.2.1) (fun hHeld=>?_)
 clear hK K
 try simp only [Act.put,List.getElem_toArray,List.getElem_cons_succ,List.getElem_cons_zero]
 try simp only [List.setIfInBounds_toArray]
 try simp only [List.set_cons_succ]
 try simp only [List.set_cons_zero]
 refine wpAnyH_ready (rs:=[3]) (by kernel_rfl) (by simp) (AllReadyH.cons rfl (fun K hK=>?_) AllReadyH.nil)
 rw [if_pos (by rfl)]
 refine wp_store_S (.tmp 4) (.tmp 67) rfl (b+1) scN s3 rfl rfl H13.out.1.b2 ?_
 intro w14 hsx hgx
 have H14:=Lib.hid (show Fr w0.heap.size r w w14∧Sx w14 (b+1) s3∧Sx w14 b12 s3∧ScOwn w0.heap.size w14 s3 { S3 with cells:=L' } from by
  have hlo:=HLO.out
  exact ⟨H13.out.2.1.grown hgx (Nat.le_trans HB0.out.size H13.out.2.1.size) (fun k hk=>by injection hk with hk;omega) (.inr (by have:=HBW.out;omega)),hsx,H13.out.2.2.1.grown hgx (by intro e;injection e with e;omega),(H13.out.2.2.2.box H13.out.1.b2 hgx).lower (by omega)⟩)
 clear hsx hgx
 simp only [Act.put,List.getElem_toArray,List.getElem_cons_succ,List.getElem_cons_zero]
 try simp only [List.setIfInBounds_toArray]
 try simp only [List.set_cons_succ]
 try simp only [List.set_cons_zero]
 refine hK.out _ _ (SX.out _ H14.out.2.2.1) (fun hHeld=>?_)
 clear hK K
 try simp only [Act.put,List.getElem_toArray,List.getElem_cons_succ,List.getElem_cons_zero]
 try simp only [List.setIfInBounds_toArray]
 try simp only [List.set_cons_succ]
 try simp only [List.set_cons_zero]
 refine tkH 4 (.int .i64 EE) rfl (.inl ⟨by rfl,fun wz hSz=>?_⟩) hHeld ?_
 · go_simp
 simp only [Act.put,List.getElem_toArray,List.getElem_cons_succ,List.getElem_cons_zero,List.setIfInBounds_toArray,List.set_cons_succ,List.set_cons_zero]
 refine wpAnyH_done (by kernel_rfl) ?_ _
 refine NoPanic.normal ?_
 have X:ToEnd w0.heap.size r A (V1 :: V2 :: V3 :: V4 :: V5 :: Z5) w (.returned (.tuple #[.agg (scrA s3),.int .i64 EE])) w14:=by
  refine ⟨H14.out.1,s3,EE,rfl,?_⟩
  have hn6:=HN6.out
  cases z' with
  | nil =>
   left
   refine ⟨by rw [← HEE.out];simp at hn6;rw [← hn6];rfl,_,H14.out.2.2.2,?_⟩
   rw [HAE.out]
   rfl
  | cons z t' =>
   right
   have e6:EE=6:=by
    rw [← HEE.out]
    unfold endE
    rw [if_pos rfl,if_neg (by simp at hn6;omega)]
   refine ⟨by rw [e6];decide,?_⟩
   rw [HAE.out,e6]
   rfl
 have HX:=Lib.hid X
 clear X
 obtain ⟨y0,y1,y2,y3,y4,y5,y6,y7,y8,_⟩:=sx_cells H14.out.2.1
 go_wp2_with fail
 exact bodyPost_ret (v:=.tuple #[.agg (scrA s3),.int .i64 EE]) (by simp [results,Tryz.results18,scrA,go_sem,y0,y1,y2,y3,y4,y5,y6,y7,y8]) rfl HX.out
end Go.Proofs.YtikhknnhmnopbaaGreatDoor
