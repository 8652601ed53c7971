/-
  Part 22 of what the laws of emul want: RowsOwnD, RowsOwnE.
-/
import Derived.Test.YtikhknnhmnopbaaGreatDoorPm01
import Derived.Test.YtikhknnhmnopbaaGreatDoorPm15
import Derived.Test.YtikhknnhmnopbaaGreatDoorPm21
namespace Go.Proofs.YtikhknnhmnopbaaGreatDoor
open Go.RowKit
theorem KeepI.drew {w w':World} (h:KeepI w w'):KeepI w w'.drew:=h
theorem KeepI.alloc {w w':World} (h:KeepI w w') (o:Obj):KeepI w (w'.alloc o):=h.trans (KeepI.below ((Below.refl _ _).alloc (Nat.le_refl _) o))
structure Bx2 (b:Nat) (sa sb:ScR) (w:World):Prop where
 b1:Sx w b sa
 b2:Sx w (b+1) sb
theorem Bx2.keep {b:Nat} {sa sb:ScR} {w w':World} (h:Bx2 b sa sb w) (k:KeepI w w'):Bx2 b sa sb w':=⟨k.rw h.b1 (by decide),k.rw h.b2 (by decide)⟩
theorem wp_appStr (w:World) {o:Oper} {a:Act} {K:Act→World→Prop} {Q:Exit→Act→World→Prop} (s x:Operand)
  (ho:o.op=.call { callee:=.builtin .append,args:=#[s,x],argTypes:=#[26,9] }) (base:Nat)
  (A0:Option Addr) (n c0:Nat) (L:List Int) (hs:a.eval s=.slice A0 n c0) (hown:By base w A0 n c0 L) (t:ByteArray) (hx:a.eval x=.string t) (hn:n≤1000000) (ht:t.size≤1000000) (hbase:base≤w.heap.size)
  (h:∀ A' c' w',By base w' A' (n+t.size) c' (L ++ sL t)→w.grownBy w' (Value.slice A0 n c0).ownBlock→K (a.put o.dst (.slice A' (n+t.size) c')) w'):o.wp Tryz.prog a w K Q:=by
 obtain ⟨i0,hi,hz0,hz1,hz2⟩:=info_parts info8
 obtain ⟨v',w',hr,h2,h3,h4⟩:=Lib.run_append_own_string (P:=Tryz.prog) w base 26 9 o.type 5 i0 Tryz.underlying26 Tryz.underlying9 hi hz0 hz1 hz2 _ n _ hown.own t (by unfold maxLen;omega) (by omega) hbase
 unfold Oper.wp execOp
 simp only [ho,resolve,invoke,builtin,Sem.run_bind,Sem.run_pure,Result.andThen_ok,List.map_toArray,List.map_cons,List.map_nil,hs,hx,hr]
 obtain ⟨A',c',rfl,_⟩:=own_shape h2
 exact h A' c' w' (By.mk' (by rw [List.map_append,← strCells_is];exact h2)) h3
set_option maxHeartbeats 6400000 in
set_option maxRecDepth 100000 in
theorem cDiff_any {sa sb:ScR} {base b:Sc} {c r:Nat} {BL LL:Rws} {fl:Int} {w:World} (h:ScIn w sa base) (k:ScIn w sb b) (hA:FitS base c r BL) (hB:FitS b c r LL) (hx:0≤b.x∧b.x≤255) (hy:0≤b.y∧b.y≤255) (hf:fl=0∨fl=4) (hst:StC b.cells) :
  Calls Tryz.prog 26 #[.agg (scrA sa),.agg (scrA sb),.int .u64 fl] w (ByOwn (diffS base b fl) w):=by
 have HA:=Lib.hid (And.intro hA (And.intro hB hst))
 have HXY:=Lib.hid (show (0≤sb.x∧sb.x≤255)∧(0≤sb.y∧sb.y≤255) from by rw [← k.x,← k.y];exact ⟨hx,hy⟩)
 have HF:=Lib.hid hf
 have HCR:=Lib.hid (show sb.c=(c:Int)∧sb.r=(r:Int) from ⟨by rw [← k.c,hB.ec],by rw [← k.r,hB.er]⟩)
 obtain ⟨b3,hb3⟩:∃ b3,b3=w.heap.size:=⟨_,rfl⟩
 obtain ⟨w1,hw1⟩:∃ w1,w1=(w.alloc (.cells (scrA sa) 25)).alloc (.cells (scrA sb) 25):=⟨_,rfl⟩
 have H0:=Lib.hid (show S2 w w1 b3 sa sb from by
  have h1:=Sx.new w sa
  have h2:=Sx.new (w.alloc (.cells (scrA sa) 25)) sb
  rw [World.size_alloc] at h2
  rw [hb3,hw1]
  exact ⟨h1.below ((Below.refl _ _).alloc (Nat.le_refl _) _),h2,((Below.refl _ _).alloc (Nat.le_refl _) _).alloc (by simp) _,Nat.le_refl _⟩)
 have HI0:=Lib.hid (And.intro h k)
 obtain ⟨T,hT⟩:∃ T:Bool,T=decide (sb.ttl≠sa.ttl):=⟨_,rfl⟩
 have HT:=Lib.hid (show (T=true↔b.title≠base.title) from by
  rw [hT,k.ttl,h.ttl,decide_eq_true_eq]
  exact ⟨fun e e2=>e (sL_inj e2),fun e e2=>e (by rw [e2])⟩)
 have hte:(sb.ttl.toList == sa.ttl.toList)=!T:=by rw [eqBB,hT];simp
 clear h k hA hB hx hy hf hT hst
 obtain ⟨e0,e1,e2,e3,e4,e5,e6,e7,e8,_⟩:=sx_cells H0.out.b1
 obtain ⟨d0,d1,d2,d3,d4,d5,d6,d7,d8,_⟩:=sx_cells H0.out.b2
 clear e0 e1 e2 e3 e4 e5 e6 e8 d2 d6 d8
 unfold scrA at hw1 ⊢
 go_enter Tryz.func26,Tryz.ntmps26
 go_upto_region 1 with fail
 rw [← hw1,← hb3]
 clear hw1 hb3
 obtain ⟨HID,hHID⟩:∃ HID,sb.hid=HID:=⟨_,rfl⟩
 rw [hHID] at d5
 have HHH:=Lib.hid hHID
 clear hHID
 have bo:bits .or .u64 fl 1=fl+1:=by rcases HF.out with e | e<;>(rw [e];decide)
 go_upto_if 9 with fail
 go_cut [2] from 10 to 11 (fun v2 wc=>v2=.int .u64 (fl+(if HID=true then 1 else 0))∧wc=w1)
 case first =>
  cases HID
  · go_wp2_with fail
    go_meet
    case rel=>exact ⟨by simp,rfl⟩
  · go_wp2_with fail
    go_meet
    case rel=>exact ⟨by simp,rfl⟩
 case rest =>
 obtain ⟨rfl,rfl⟩:=hcut
 obtain ⟨F1,hF1⟩:∃ F1,fl+(if HID=true then 1 else 0)=F1:=⟨_,rfl⟩
 rw [hF1]
 have hf1:F1=0∨F1=1∨F1=4∨F1=5:=by
  rw [← hF1]
  rcases HF.out with e | e<;>rw [e]<;>cases HID<;>simp
 have HF1:=Lib.hid hF1
 clear hF1 bo
 have bo:bits .or .u64 F1 2=F1+2:=by rcases hf1 with e | e | e | e<;>(rw [e];decide)
 have HF1B:=Lib.hid hf1
 clear hf1
 go_upto_if 16 with fail
 go_cut [2] from 17 to 18 (fun v2 wz=>v2=.int .u64 (F1+(if T=true then 2 else 0))∧wz=wc)
 case first =>
  cases T
  · go_wp2_with fail
    go_meet
    case rel=>exact ⟨by simp,rfl⟩
  · go_wp2_with fail
    go_meet
    case rel=>exact ⟨by simp,rfl⟩
 case rest =>
 obtain ⟨rfl,hwz⟩:=hcut
 obtain rfl:=hwz.symm
 clear hwz bo
 obtain ⟨w1,rfl⟩:∃ x,x=wc:=⟨_,rfl⟩
 obtain ⟨F2,hF2⟩:∃ F2,F1+(if T=true then 2 else 0)=F2:=⟨_,rfl⟩
 rw [hF2]
 have HF2:=Lib.hid (show (0≤F2∧F2≤7)∧bits .and .u64 F2 2=(if T=true then 2 else 0)∧F2=fl+(if b.hid=true then 1 else 0)+(if b.title≠base.title then 2 else 0) from by
  have e:(if T=true then (2:Int) else 0)=if b.title≠base.title then 2 else 0:=by
   by_cases ht:T=true
   · rw [if_pos ht,if_pos (HT.out.1 ht)]
   · rw [if_neg ht,if_neg (fun e=>ht (HT.out.2 e))]
  refine ⟨?_,?_,by rw [← hF2,← HF1.out,e,HI0.out.2.hid,HHH.out]⟩
  · rw [← hF2];have:=HF1B.out;split<;>omega
  · rw [← hF2];rcases HF1B.out with e | e | e | e<;>rw [e]<;>cases T<;>decide)
 clear hF2 HF1 HF1B
 obtain ⟨hc,hr⟩:=HCR.out
 have hcb:=HA.out.2.1.gk.c80
 have hrb:=HA.out.2.1.gk.r24
 rw [hc] at d0
 rw [hr] at d1
 clear hc hr
 have u4:IntKind.i64.wrap F2=F2:=by rw [IntKind.wrap_i64];have:=HF2.out.1;omega
 have HTL:=Lib.hid (show sb.ttl.size≤64∧b.title=sL sb.ttl∧b.title.length=sb.ttl.size from by
  have:=HA.out.2.1.ti
  have e:=HI0.out.2.ttl
  rw [e,sL_len] at this
  exact ⟨this,e,by rw [e,sL_len]⟩)
 obtain ⟨P5,hP5⟩:∃ P5:List Int,P5=[(c:Int),(r:Int),sb.x,sb.y,F2]:=⟨_,rfl⟩
 have HP5:=Lib.hid hP5
 obtain ⟨g2,hg2⟩:∃ g2,g2=w1.heap.size:=⟨_,rfl⟩
 obtain ⟨w2,hw2⟩:∃ w2,w2=w1.alloc (.cells #[.int .i64 (c:Int),.int .i64 (r:Int),.int .i64 sb.x,.int .i64 sb.y,.int .i64 F2] 3):=⟨_,rfl⟩
 have H2:=Lib.hid (show Io w1.heap.size w2 (some ⟨g2,0,none⟩) 5 5 P5∧Below w.heap.size w w2∧Bx2 b3 sa sb w2 from by
  have hbb:Below w1.heap.size w1 w2:=by rw [hw2];exact (Below.refl _ _).alloc (Nat.le_refl _) _
  refine ⟨?_,H0.out.bel.trans (hbb.mono H0.out.bel.size),H0.out.b1.below hbb,H0.out.b2.below hbb⟩
  rw [hw2,hP5,hg2]
  exact World.ownsRow_lit w1 _ 5 (Nat.le_refl _) (by unfold maxLen;omega) rfl)
 clear hP5
 go_wp2_with fail
 rw [← hw2,← hg2]
 clear hw2 hg2 u4 d0 d1 d3 d4 d5 d7 e7 hte
 refine (layBytes_any (By.none w.heap.size w2) H2.out.1 H2.out.2.1.size (fun y hy=>by rw [HP5.out] at hy;have h1:=HXY.out;have h2:=HF2.out.1;simp at hy;omega) (by omega) (by omega)).mono ?_
 rintro e w3 ⟨hb3',hk3,A3,c3,rfl,hy3⟩
 rw [List.nil_append] at hy3
 have H3:=Lib.hid (show By w.heap.size w3 A3 5 c3 P5∧Below w.heap.size w w3∧Bx2 b3 sa sb w3 from ⟨hy3,H2.out.2.1.trans hb3',H2.out.2.2.keep hk3⟩)
 clear hb3' hk3 hy3 H2
 have bo:=HF2.out.2.1
 go_upto_if 33 with fail
 go_cut [7] from 34 to 42 (fun v7 wz=>∃ A n cc,v7=.slice A n cc∧By w.heap.size wz A n cc (P5 ++ (if b.title≠base.title then (b.title.length:Int) :: b.title else []))∧Below w.heap.size w wz∧Bx2 b3 sa sb wz)
 case first =>
  cases T
  · go_wp2_with fail
    go_meet
    case rel=>exact ⟨_,_,_,rfl,by rw [if_neg (fun e=>by have:=HT.out.2 e;cases this),List.append_nil];exact H3.out.1,H3.out.2.1,H3.out.2.2⟩
  · have HTY:=Lib.hid (HT.out.1 rfl)
    have d7:=(sx_cells H3.out.2.2.b2).c7
    have ht64:sb.ttl.size≤64:=HTL.out.1
    go_upto_region 7 with fail
    have SX:=Lib.hid (show ∀ w',KeepI w3 w'→(KeepI w3 w'∧w'.cell? ⟨b3+1,7,none⟩=some (.string sb.ttl)) from fun w' hb=>⟨hb,(sx_cells (H3.out.2.2.keep hb).b2).c7⟩)
    have hb0:KeepI w3 w3:=KeepI.refl _
    have P1:=Lib.hid (show Calls Tryz.prog 47 #[.slice A3 5 c3,.slice (some ⟨w3.heap.size,0,none⟩) 1 1] (w3.alloc (.cells #[.int .i64 (sb.ttl.size:Int)] 3)).drew fun e w'=>∃ A c,e=.returned (.slice A 6 c)∧KeepI w3 w'∧Below w.heap.size w w'∧By w.heap.size w' A 6 c (P5 ++ [(sb.ttl.size:Int)]) from by
     have hbb:Below w3.heap.size w3 (w3.alloc (.cells #[.int .i64 (sb.ttl.size:Int)] 3)).drew:=((Below.refl _ _).alloc (Nat.le_refl _) _).drew
     have hbc:=H3.out.2.1.trans (hbb.mono H3.out.2.1.size)
     refine (layBytes_any (b2:=w3.heap.size) (ks:=[(sb.ttl.size:Int)]) (H3.out.1.below hbb) (World.ownsRow_lit w3 #[.int .i64 (sb.ttl.size:Int)] 1 (Nat.le_refl _) (by unfold maxLen;omega) rfl) hbc.size (fun y hy=>by simp at hy;omega) (by omega) (by omega)).mono ?_
     rintro e w' ⟨h1,h2,A,c',rfl,h3⟩
     exact ⟨A,c',rfl,(KeepI.below hbb).trans h2,hbc.trans h1,h3⟩)
    refine wp_region_noPanic ?_
    refine wp_region_held_drew (S:=fun w'=>KeepI w3 w'∧w'.cell? ⟨b3+1,7,none⟩=some (.string sb.ttl)) (by kernel_rfl) (SX.out _ hb0.drew) (fun hHeld=>?_)
    refine tkH 0 (.slice A3 5 c3) rfl (.inl ⟨by rfl,fun wz hSz=>?_⟩) hHeld ?_
    · go_simp
    simp only [Act.put,List.getElem_toArray,List.getElem_cons_zero,List.setIfInBounds_toArray,List.set_cons_succ,List.set_cons_zero]
    refine tkH 1 (.pointer (some ⟨b3+1,7,none⟩)) rfl (.inl ⟨by rfl,fun wz hSz=>?_⟩) hHeld ?_
    · go_simp
    simp only [Act.put,List.getElem_toArray,List.getElem_cons_succ,List.getElem_cons_zero,List.setIfInBounds_toArray,List.set_cons_succ,List.set_cons_zero]
    refine tkH 2 (.string sb.ttl) rfl (.inl ⟨by rfl,fun wz hSz=>?_⟩) hHeld ?_
    · obtain ⟨_,e0⟩:=hSz
      go_simp
    simp only [Act.put,List.getElem_toArray,List.getElem_cons_succ,List.getElem_cons_zero,List.setIfInBounds_toArray,List.set_cons_succ,List.set_cons_zero]
    refine tkH 3 (.int .i64 (sb.ttl.size:Int)) rfl (.inl ⟨by rfl,fun wz hSz=>?_⟩) hHeld ?_
    · go_simp
    simp only [Act.put,List.getElem_toArray,List.getElem_cons_succ,List.getElem_cons_zero,List.setIfInBounds_toArray,List.set_cons_succ,List.set_cons_zero]
    refine tkH 6 (.pointer (some ⟨b3+1,7,none⟩)) rfl (.inl ⟨by rfl,fun wz hSz=>?_⟩) hHeld ?_
    · go_simp
    simp only [Act.put,List.getElem_toArray,List.getElem_cons_succ,List.getElem_cons_zero,List.setIfInBounds_toArray,List.set_cons_succ,List.set_cons_zero]
    refine tkH 7 (.string sb.ttl) rfl (.inl ⟨by rfl,fun wz hSz=>?_⟩) hHeld ?_
    · obtain ⟨_,e0⟩:=hSz
      go_simp
    simp only [Act.put,List.getElem_toArray,List.getElem_cons_succ,List.getElem_cons_zero,List.setIfInBounds_toArray,List.set_cons_succ,List.set_cons_zero]
    refine wpAnyH_ready (rs:=[4]) (by kernel_rfl) (by simp) (AllReadyH.cons rfl (fun K hK=>?_) AllReadyH.nil)
    rw [if_pos (by rfl)]
    go_simp
    refine hK.out _ _ (SX.out _ (KeepI.drew (KeepI.alloc hHeld.1 _))) (fun hHeld=>?_)
    clear hK K
    try simp only [Act.put,List.getElem_toArray,List.getElem_cons_succ,List.getElem_cons_zero]
    try simp only [List.setIfInBounds_toArray]
    try simp only [List.set_cons_succ]
    try simp only [List.set_cons_zero]
    refine wpAnyH_ready (rs:=[5]) (by kernel_rfl) (by simp) (AllReadyH.cons rfl (fun K hK=>?_) AllReadyH.nil)
    rw [if_pos (by rfl)]
    go_simp
    refine P1.out.mono ?_
    rintro e w5 ⟨A5,c5,rfl,hk5,hb5,hy5⟩
    have H5:=Lib.hid (And.intro hk5 (And.intro hb5 hy5))
    clear hk5 hb5 hy5 P1
    refine hK.out _ _ (SX.out _ H5.out.1) (fun hHeld=>?_)
    clear hK K
    try simp only [Act.put,List.getElem_toArray,List.getElem_cons_succ,List.getElem_cons_zero]
    try simp only [List.setIfInBounds_toArray]
    try simp only [List.set_cons_succ]
    try simp only [List.set_cons_zero]
    refine wpAnyH_ready (rs:=[8]) (by kernel_rfl) (by simp) (AllReadyH.cons rfl (fun K hK=>?_) AllReadyH.nil)
    rw [if_pos (by rfl)]
    refine wp_appStr _ (.tmp 39) (.tmp 41) rfl w.heap.size A5 6 c5 _ rfl H5.out.2.2 sb.ttl rfl (by omega) (by omega) H5.out.2.1.size ?_
    intro A6 c6 w6 hy6 hg6
    have H6:=Lib.hid (show KeepI w3 w6∧Below w.heap.size w w6∧By w.heap.size w6 A6 (6+sb.ttl.size) c6 (P5 ++ (if b.title≠base.title then (b.title.length:Int) :: b.title else [])) from by
     refine ⟨H5.out.1.trans (KeepI.onto H5.out.2.2 hg6),H5.out.2.1.grown hg6 H5.out.2.1.size (fun k hk=>H5.out.2.2.ownB k hk),?_⟩
     rw [if_pos HTY.out,HTL.out.2.2,HTL.out.2.1]
     rw [List.append_assoc] at hy6
     exact hy6)
    clear hy6 hg6 H5
    simp only [Act.put,List.getElem_toArray,List.getElem_cons_succ,List.getElem_cons_zero,List.setIfInBounds_toArray,List.set_cons_succ,List.set_cons_zero]
    refine hK.out _ _ (SX.out _ H6.out.1) (fun hHeld=>?_)
    clear hK K
    try simp only [Act.put,List.getElem_toArray,List.getElem_cons_succ,List.getElem_cons_zero]
    try simp only [List.setIfInBounds_toArray]
    try simp only [List.set_cons_succ]
    try simp only [List.set_cons_zero]
    refine tkH 9 (.slice A6 (6+sb.ttl.size) c6) rfl (.inl ⟨by rfl,fun wz hSz=>?_⟩) hHeld ?_
    · go_simp
    simp only [Act.put,List.getElem_toArray,List.getElem_cons_succ,List.getElem_cons_zero,List.setIfInBounds_toArray,List.set_cons_succ,List.set_cons_zero]
    refine wpAnyH_done (by kernel_rfl) ?_ _
    refine NoPanic.normal ?_
    go_wp2_with fail
    go_meet
    case rel=>exact ⟨_,_,_,rfl,H6.out.2.2,H6.out.2.1,H3.out.2.2.keep H6.out.1⟩
 case rest =>
 obtain ⟨A8,n8,c8,rfl,h1,h2,h3⟩:=hcut
 have W8:=Lib.hid (show By w.heap.size wc A8 n8 c8 (P5 ++ (if b.title≠base.title then (b.title.length:Int) :: b.title else []))∧Below w.heap.size w wc∧Bx2 b3 sa sb wc from ⟨h1,h2,h3⟩)
 clear h1 h2 h3 H3 bo
 have HN8:=Lib.hid (show n8≤1000 from by
  have h1:=W8.out.1.len
  rw [HP5.out] at h1
  have h2:=HTL.out
  by_cases e:b.title≠base.title
  · rw [if_pos e] at h1;simp at h1;omega
  · rw [if_neg e] at h1;simp at h1;omega)
 obtain ⟨ul,hul⟩:∃ ul,ul=unlike c r base.cells b.cells:=⟨_,rfl⟩
 have HU:=Lib.hid (show ul=unlike c r base.cells b.cells∧(∀ y∈ul,y<r)∧ul.length≤24 from by
  refine ⟨hul,fun y hy=>?_,?_⟩
  · rw [hul] at hy;exact ((unlike_at _ _ _ _ _).1 hy).1
  · rw [hul,← unTo_all];have:=unTo_len c base.cells b.cells r;omega)
 clear hul
 have PU:=Lib.hid (show Calls Tryz.prog 49 #[.agg (scrA sa),.agg (scrA sb)] wc.drew fun e w'=>∃ A c,e=.returned (.slice A ul.length c)∧Below wc.heap.size wc w'∧Io wc.heap.size w' A ul.length c (toI ul) from by
  have hbw:Below w.heap.size w wc.drew:=W8.out.2.1.drew
  refine (unlikeR_any (HI0.out.1.below hbw) (HI0.out.2.below hbw) HA.out.1 HA.out.2.1).mono ?_
  rintro e w' ⟨h1,A,c',rfl,h2⟩
  rw [← HU.out.1,toI_len] at h2 ⊢
  exact ⟨A,c',rfl,(Below.refl wc.heap.size wc).drew.trans h1,h2⟩)
 have PL:=Lib.hid (show ∀ w' A cp,Below wc.heap.size wc w'→Io wc.heap.size w' A ul.length cp (toI ul)→Calls Tryz.prog 48 #[.slice A8 n8 c8,.agg (scrA sb),.slice A ul.length cp] w' (Longer w.heap.size (diffS base b fl) (diffS base b fl).length w') from fun w' A cp hb hio=>by
  have hbw:Below w.heap.size w w':=W8.out.2.1.trans (hb.mono W8.out.2.1.size)
  have e:diffS base b fl=P5 ++ (if b.title≠base.title then (b.title.length:Int) :: b.title else []) ++ (ul.length:Int) :: ul.flatMap (rowBy c b.cells):=by
   unfold diffS
   rw [HP5.out,HU.out.1,HA.out.2.1.ec,HA.out.2.1.er,Int.toNat_natCast,Int.toNat_natCast,HF2.out.2.2,HI0.out.2.x,HI0.out.2.y]
   simp only [List.cons_append,List.nil_append]
  rw [e]
  exact layRows_any (W8.out.1.below hb) hio hbw HI0.out.2 HA.out.2.1 HA.out.2.2 HU.out.2.1 HN8.out HU.out.2.2)
 have SX:=Lib.hid (show ∀ w',KeepI wc w'→(KeepI wc w'∧(w'.cell? ⟨b3,0,none⟩=some (.int .i64 sa.c)∧w'.cell? ⟨b3,1,none⟩=some (.int .i64 sa.r)∧w'.cell? ⟨b3,2,none⟩=some (.slice sa.A sa.n sa.k)∧w'.cell? ⟨b3,3,none⟩=some (.int .i64 sa.x)∧w'.cell? ⟨b3,4,none⟩=some (.int .i64 sa.y)∧w'.cell? ⟨b3,5,none⟩=some (.bool sa.hid)∧w'.cell? ⟨b3,6,none⟩=some (.int .u8 sa.mouse)∧w'.cell? ⟨b3,7,none⟩=some (.string sa.ttl)∧w'.cell? ⟨b3,8,none⟩=some (.slice sa.T sa.m sa.q)∧w'.cell? ⟨(b3+1),0,none⟩=some (.int .i64 sb.c)∧w'.cell? ⟨(b3+1),1,none⟩=some (.int .i64 sb.r)∧w'.cell? ⟨(b3+1),2,none⟩=some (.slice sb.A sb.n sb.k)∧w'.cell? ⟨(b3+1),3,none⟩=some (.int .i64 sb.x)∧w'.cell? ⟨(b3+1),4,none⟩=some (.int .i64 sb.y)∧w'.cell? ⟨(b3+1),5,none⟩=some (.bool sb.hid)∧w'.cell? ⟨(b3+1),6,none⟩=some (.int .u8 sb.mouse)∧w'.cell? ⟨(b3+1),7,none⟩=some (.string sb.ttl)∧w'.cell? ⟨(b3+1),8,none⟩=some (.slice sb.T sb.m sb.q))) from fun w' hb=>by
  have t0:=sx_cells (W8.out.2.2.keep hb).b1
  have t1:=sx_cells (W8.out.2.2.keep hb).b2
  exact ⟨hb,t0.c0,t0.c1,t0.c2,t0.c3,t0.c4,t0.c5,t0.c6,t0.c7,t0.c8,t1.c0,t1.c1,t1.c2,t1.c3,t1.c4,t1.c5,t1.c6,t1.c7,t1.c8⟩)
 unfold scrA at PU PL
 have hb0:KeepI wc wc:=KeepI.refl _
 go_upto_region 8 with fail
 refine wp_region_noPanic ?_
 refine wp_region_held_drew (S:=fun w'=>KeepI wc w'∧(w'.cell? ⟨b3,0,none⟩=some (.int .i64 sa.c)∧w'.cell? ⟨b3,1,none⟩=some (.int .i64 sa.r)∧w'.cell? ⟨b3,2,none⟩=some (.slice sa.A sa.n sa.k)∧w'.cell? ⟨b3,3,none⟩=some (.int .i64 sa.x)∧w'.cell? ⟨b3,4,none⟩=some (.int .i64 sa.y)∧w'.cell? ⟨b3,5,none⟩=some (.bool sa.hid)∧w'.cell? ⟨b3,6,none⟩=some (.int .u8 sa.mouse)∧w'.cell? ⟨b3,7,none⟩=some (.string sa.ttl)∧w'.cell? ⟨b3,8,none⟩=some (.slice sa.T sa.m sa.q)∧w'.cell? ⟨(b3+1),0,none⟩=some (.int .i64 sb.c)∧w'.cell? ⟨(b3+1),1,none⟩=some (.int .i64 sb.r)∧w'.cell? ⟨(b3+1),2,none⟩=some (.slice sb.A sb.n sb.k)∧w'.cell? ⟨(b3+1),3,none⟩=some (.int .i64 sb.x)∧w'.cell? ⟨(b3+1),4,none⟩=some (.int .i64 sb.y)∧w'.cell? ⟨(b3+1),5,none⟩=some (.bool sb.hid)∧w'.cell? ⟨(b3+1),6,none⟩=some (.int .u8 sb.mouse)∧w'.cell? ⟨(b3+1),7,none⟩=some (.string sb.ttl)∧w'.cell? ⟨(b3+1),8,none⟩=some (.slice sb.T sb.m sb.q))) (by kernel_rfl) (SX.out _ hb0.drew) (fun hHeld=>?_)
 refine tkH 0 (.slice A8 n8 c8) rfl (.inl ⟨by rfl,fun wz hSz=>?_⟩) hHeld ?_
 · go_simp
 simp only [Act.put,List.getElem_toArray,List.getElem_cons_zero,List.setIfInBounds_toArray,List.set_cons_succ,List.set_cons_zero]
 refine tkH 1 (.agg #[.int .i64 sb.c,.int .i64 sb.r,.slice sb.A sb.n sb.k,.int .i64 sb.x,.int .i64 sb.y,.bool sb.hid,.int .u8 sb.mouse,.string sb.ttl,.slice sb.T sb.m sb.q]) rfl (.inl ⟨by rfl,fun wz hSz=>?_⟩) hHeld ?_
 · obtain ⟨_,e0,e1,e2,e3,e4,e5,e6,e7,e8,e9,e10,e11,e12,e13,e14,e15,e16,e17⟩:=hSz
   go_simp
 simp only [Act.put,List.getElem_toArray,List.getElem_cons_succ,List.getElem_cons_zero,List.setIfInBounds_toArray,List.set_cons_succ,List.set_cons_zero]
 refine tkH 2 (.agg #[.int .i64 sa.c,.int .i64 sa.r,.slice sa.A sa.n sa.k,.int .i64 sa.x,.int .i64 sa.y,.bool sa.hid,.int .u8 sa.mouse,.string sa.ttl,.slice sa.T sa.m sa.q]) rfl (.inl ⟨by rfl,fun wz hSz=>?_⟩) hHeld ?_
 · obtain ⟨_,e0,e1,e2,e3,e4,e5,e6,e7,e8,e9,e10,e11,e12,e13,e14,e15,e16,e17⟩:=hSz
   go_simp
 simp only [Act.put,List.getElem_toArray,List.getElem_cons_succ,List.getElem_cons_zero,List.setIfInBounds_toArray,List.set_cons_succ,List.set_cons_zero]
 refine tkH 3 (.agg #[.int .i64 sb.c,.int .i64 sb.r,.slice sb.A sb.n sb.k,.int .i64 sb.x,.int .i64 sb.y,.bool sb.hid,.int .u8 sb.mouse,.string sb.ttl,.slice sb.T sb.m sb.q]) rfl (.inl ⟨by rfl,fun wz hSz=>?_⟩) hHeld ?_
 · obtain ⟨_,e0,e1,e2,e3,e4,e5,e6,e7,e8,e9,e10,e11,e12,e13,e14,e15,e16,e17⟩:=hSz
   go_simp
 simp only [Act.put,List.getElem_toArray,List.getElem_cons_succ,List.getElem_cons_zero,List.setIfInBounds_toArray,List.set_cons_succ,List.set_cons_zero]
 refine wpAnyH_ready (rs:=[4]) (by kernel_rfl) (by simp) (AllReadyH.cons rfl (fun K hK=>?_) AllReadyH.nil)
 rw [if_pos (by rfl)]
 go_simp
 refine PU.out.mono ?_
 rintro e w5 ⟨A5,c5,rfl,hb5,hio5⟩
 have H5:=Lib.hid (And.intro hb5 hio5)
 clear hb5 hio5 PU
 refine hK.out _ _ (SX.out _ (KeepI.below H5.out.1)) (fun hHeld=>?_)
 clear hK K
 try simp only [Act.put,List.getElem_toArray,List.getElem_cons_succ,List.getElem_cons_zero]
 try simp only [List.setIfInBounds_toArray]
 try simp only [List.set_cons_succ]
 try simp only [List.set_cons_zero]
 refine wpAnyH_ready (rs:=[5]) (by kernel_rfl) (by simp) (AllReadyH.cons rfl (fun K hK=>?_) AllReadyH.nil)
 rw [if_pos (by rfl)]
 go_simp
 refine (PL.out _ _ _ H5.out.1 H5.out.2).mono ?_
 rintro e w6 ⟨hb6,hk6,A6,c6,rfl,hy6⟩
 have X:ByOwn (diffS base b fl) w (.returned (.slice A6 (diffS base b fl).length c6)) w6:=⟨(W8.out.2.1.trans (H5.out.1.mono W8.out.2.1.size)).trans hb6,A6,c6,rfl,hy6⟩
 have HX:=Lib.hid X
 have HK6:=Lib.hid ((KeepI.below H5.out.1).trans hk6)
 clear hb6 hk6 hy6 H5 X PL
 refine hK.out _ _ (SX.out _ HK6.out) (fun hHeld=>?_)
 clear hK K
 try simp only [Act.put,List.getElem_toArray,List.getElem_cons_succ,List.getElem_cons_zero]
 try simp only [List.setIfInBounds_toArray]
 try simp only [List.set_cons_succ]
 try simp only [List.set_cons_zero]
 refine tkH 6 (.slice A6 (diffS base b fl).length c6) rfl (.inl ⟨by rfl,fun wz hSz=>?_⟩) hHeld ?_
 · go_simp
 simp only [Act.put,List.getElem_toArray,List.getElem_cons_succ,List.getElem_cons_zero,List.setIfInBounds_toArray,List.set_cons_succ,List.set_cons_zero]
 refine wpAnyH_done (by kernel_rfl) ?_ _
 refine NoPanic.normal ?_
 go_wp2_with fail
 all_goals (go_ret;exact HX.out)
open Go.RowKit
set_option maxHeartbeats 3200000 in
set_option maxRecDepth 100000 in
theorem cFull_any {s:ScR} {S:Sc} {w:World} (hT:Tabs w) (h:Got w s S) (hst:StC S.cells):Calls Tryz.prog 15 #[.agg (scrA s)] w (EncEnd (fullS S) w):=by
 have HI:=Lib.hid h
 have HT:=Lib.hid (fun w' (hb':Below w.heap.size w w')=>hT.below hb' (Nat.le_refl _))
 have HS:=Lib.hid hst
 clear hT hst
 obtain ⟨b,hb⟩:∃ b,b=w.heap.size:=⟨_,rfl⟩
 obtain ⟨w1,hw1⟩:∃ w1,w1=w.alloc (.cells (scrA s) 25):=⟨_,rfl⟩
 have H1:=Lib.hid (show Sx w1 b s∧Below w.heap.size w w1 from by
  rw [hw1,hb]
  exact ⟨Sx.new w s,(Below.refl _ _).alloc (Nat.le_refl _) _⟩)
 have PF:=Lib.hid (cFits_any (HT.out _ H1.out.2) (h.sc.below H1.out.2) h.n h.m)
 obtain ⟨a0,a1,a2,a3,a4,a5,a6,a7,a8,_⟩:=sx_cells H1.out.1
 clear h
 unfold scrA at hw1 PF ⊢
 go_enter Tryz.func15,Tryz.ntmps15
 go_upto_region 1 with fail
 rw [← hw1,← hb]
 clear hw1 hb
 go_wp2_with fail
 refine PF.out.mono ?_
 rintro e w2 ⟨rfl,hb2⟩
 have H2:=Lib.hid (show Sx w2 b s∧Below w.heap.size w w2 from ⟨H1.out.1.below hb2,H1.out.2.trans (hb2.mono H1.out.2.size)⟩)
 clear hb2 H1 PF a0 a1 a2 a3 a4 a5 a6 a7 a8
 cases hF:fitsS S
 · have X:EncEnd (fullS S) w (.returned (.tuple #[.slice none 0 0,.int .i64 1])) w2:=by
    have e:fullS S=([],1):=by unfold fullS;rw [if_neg (by rw [hF];simp)]
    rw [e]
    exact ⟨H2.out.2,none,0,rfl,By.none _ _⟩
   clear hF
   go_wp2_with fail
   go_ret2
   exact X
 · obtain ⟨c,r,LL,hB⟩:=fits_of hF HI.out.pos
   have HB:=Lib.hid hB
   have HF:=Lib.hid hF
   have hz:sizeOk S.c S.r=true:=fit_size hB
   obtain ⟨a0,a1,a2,a3,a4,a5,a6,a7,a8,_⟩:=sx_cells H2.out.1
   have PB:=Lib.hid (pBlank_any (HT.out _ H2.out.2) s.c s.r)
   have HZ:=Lib.hid (show sizeOk s.c s.r=true∧s.c.toNat=c∧s.r.toNat=r from ⟨by rw [← HI.out.sc.c,← HI.out.sc.r];exact hz,by rw [← HI.out.sc.c,hB.ec];rfl,by rw [← HI.out.sc.r,hB.er];rfl⟩)
   clear hB hF hz
   go_wp2_with fail
   refine PB.out.mono ?_
   rintro e w3 ⟨hb3,⟨_,s2,rfl,hS2⟩ | ⟨hz,_⟩⟩
   rotate_left
   · exact absurd hz (by rw [HZ.out.1];simp)
   rw [HZ.out.2.1,HZ.out.2.2] at hS2
   obtain ⟨b4,hb4⟩:∃ b4,b4=w3.heap.size:=⟨_,rfl⟩
   obtain ⟨w4,hw4⟩:∃ w4,w4=w3.alloc (.cells (scrA s2) 25):=⟨_,rfl⟩
   have H4:=Lib.hid (show Sx w4 b s∧Sx w4 b4 s2∧Below w.heap.size w w4∧ScIn w4 s2 (blS c r) from by
    have hb:Below w3.heap.size w3 w4:=by rw [hw4];exact (Below.refl _ _).alloc (Nat.le_refl _) _
    have h24:Below w2.heap.size w2 w4:=hb3.trans (hb.mono hb3.size)
    exact ⟨H2.out.1.below h24,by rw [hw4,hb4];exact Sx.new w3 s2,H2.out.2.trans (h24.mono H2.out.2.size),hS2.sc.below hb⟩)
   clear hb3 hS2 H2 PB a0 a1 a2 a3 a4 a5 a6 a7 a8
   unfold scrA at hw4 ⊢
   go_upto_region 4 with fail
   rw [← hw4,← hb4]
   clear hw4 hb4
   have PD:=Lib.hid (cDiff_any (fl:=4) H4.out.2.2.2 (HI.out.sc.below H4.out.2.2.1) (bl_fit HB.out.gk.c1 HB.out.gk.c80 HB.out.gk.r1 HB.out.gk.r24) HB.out (fit_xy HF.out).1 (fit_xy HF.out).2 (.inr rfl) HS.out)
   obtain ⟨a0,a1,a2,a3,a4,a5,a6,a7,a8,_⟩:=sx_cells H4.out.1
   obtain ⟨d0,d1,d2,d3,d4,d5,d6,d7,d8,_⟩:=sx_cells H4.out.2.1
   unfold scrA at PD
   go_wp2_with fail
   refine PD.out.mono ?_
   rintro e w5 ⟨hb5,A,cc,rfl,hy⟩
   have X:EncEnd (fullS S) w (.returned (.tuple #[.slice A (diffS (blS c r) S 4).length cc,.int .i64 0])) w5:=by
    have e:fullS S=(diffS (blS c r) S 4,0):=by
     unfold fullS
     rw [if_pos HF.out,HB.out.ec,HB.out.er]
     rfl
    rw [e]
    exact ⟨H4.out.2.2.1.trans (hb5.mono H4.out.2.2.1.size),A,cc,rfl,hy.lower H4.out.2.2.1.size⟩
   clear hb5 hy
   go_wp2_with fail
   go_ret2
   exact X
set_option maxHeartbeats 3200000 in
set_option maxRecDepth 100000 in
theorem likeR_any (sa sb:ScR) (w:World):Calls Tryz.prog 25 #[.agg (scrA sa),.agg (scrA sb)] w fun e w'=>e=.returned (.bool (decide (sa.c=sb.c∧sa.r=sb.r)))∧Below w.heap.size w w':=by
 obtain ⟨K,hK⟩:∃ K,decide (sa.c=sb.c∧sa.r=sb.r)=K:=⟨_,rfl⟩
 rw [hK]
 have HK:=Lib.hid hK
 clear hK
 obtain ⟨b3,hb3⟩:∃ b3,b3=w.heap.size:=⟨_,rfl⟩
 obtain ⟨w1,hw1⟩:∃ w1,w1=(w.alloc (.cells (scrA sa) 25)).alloc (.cells (scrA sb) 25):=⟨_,rfl⟩
 have H1:=Lib.hid (show S2 w w1 b3 sa sb from by
  have h1:=Sx.new w sa
  have h2:=Sx.new (w.alloc (.cells (scrA sa) 25)) sb
  rw [World.size_alloc] at h2
  rw [hb3,hw1]
  exact ⟨h1.below ((Below.refl _ _).alloc (Nat.le_refl _) _),h2,((Below.refl _ _).alloc (Nat.le_refl _) _).alloc (by simp) _,Nat.le_refl _⟩)
 obtain ⟨a0,a1,a2,a3,a4,a5,a6,a7,a8,_⟩:=sx_cells H1.out.b1
 obtain ⟨d0,d1,d2,d3,d4,d5,d6,d7,d8,_⟩:=sx_cells H1.out.b2
 clear a2 a3 a4 a5 a6 a7 a8 d2 d3 d4 d5 d6 d7 d8
 unfold scrA at hw1 ⊢
 go_enter Tryz.func25,Tryz.ntmps25
 go_upto_region 1 with fail
 rw [← hw1,← hb3]
 clear hw1 hb3
 by_cases hc:sa.c=sb.c
 · by_cases hr:sa.r=sb.r
   · have e:K=true:=by rw [← HK.out];exact decide_eq_true ⟨hc,hr⟩
     subst e
     have q0:(sa.c == sb.c)=true:=by simpa using hc
     have q1:(sa.r == sb.r)=true:=by simpa using hr
     go_wp2_with fail
     go_ret
     exact ⟨rfl,H1.out.bel⟩
   · have e:K=false:=by rw [← HK.out];exact decide_eq_false (fun h=>hr h.2)
     subst e
     have q0:(sa.c == sb.c)=true:=by simpa using hc
     have q1:(sa.r == sb.r)=false:=by simpa using hr
     go_wp2_with fail
     go_ret
     exact ⟨rfl,H1.out.bel⟩
 · have e:K=false:=by rw [← HK.out];exact decide_eq_false (fun h=>hc h.1)
   subst e
   have q0:(sa.c == sb.c)=false:=by simpa using hc
   go_wp2_with fail
   go_ret
   exact ⟨rfl,H1.out.bel⟩
set_option maxHeartbeats 3200000 in
set_option maxRecDepth 100000 in
theorem cEncode_any {sa sb:ScR} {a b:Sc} {w:World} (hT:Tabs w) (h:Got w sa a) (k:Got w sb b) (hst:StC b.cells):Calls Tryz.prog 14 #[.agg (scrA sa),.agg (scrA sb)] w (EncEnd (encR a b) w):=by
 have HI:=Lib.hid (And.intro h k)
 have HT:=Lib.hid (fun w' (hb':Below w.heap.size w w')=>hT.below hb' (Nat.le_refl _))
 have HS:=Lib.hid hst
 clear hT hst
 obtain ⟨b3,hb3⟩:∃ b3,b3=w.heap.size:=⟨_,rfl⟩
 obtain ⟨w1,hw1⟩:∃ w1,w1=(w.alloc (.cells (scrA sa) 25)).alloc (.cells (scrA sb) 25):=⟨_,rfl⟩
 have H1:=Lib.hid (show S2 w w1 b3 sa sb from by
  have h1:=Sx.new w sa
  have h2:=Sx.new (w.alloc (.cells (scrA sa) 25)) sb
  rw [World.size_alloc] at h2
  rw [hb3,hw1]
  exact ⟨h1.below ((Below.refl _ _).alloc (Nat.le_refl _) _),h2,((Below.refl _ _).alloc (Nat.le_refl _) _).alloc (by simp) _,Nat.le_refl _⟩)
 have PF:=Lib.hid (cFits_any (HT.out _ H1.out.bel) (h.sc.below H1.out.bel) h.n h.m)
 obtain ⟨a0,a1,a2,a3,a4,a5,a6,a7,a8,_⟩:=sx_cells H1.out.b1
 clear h k
 unfold scrA at hw1 PF ⊢
 go_enter Tryz.func14,Tryz.ntmps14
 go_upto_region 1 with fail
 rw [← hw1,← hb3]
 clear hw1 hb3
 go_wp2_with fail
 refine PF.out.mono ?_
 rintro e w2 ⟨rfl,hb2⟩
 have H2:=Lib.hid (H1.out.on hb2)
 clear hb2 H1 PF a0 a1 a2 a3 a4 a5 a6 a7 a8
 cases hFa:fitsS a
 · have X:EncEnd (encR a b) w (.returned (.tuple #[.slice none 0 0,.int .i64 1])) w2:=by
    have e:encR a b=([],1):=by unfold encR;rw [if_neg (by rw [hFa];simp)]
    rw [e]
    exact ⟨H2.out.bel,none,0,rfl,By.none _ _⟩
   clear hFa
   go_wp2_with fail
   go_ret2
   exact X
 have HFa:=Lib.hid hFa
 clear hFa
 have PF:=Lib.hid (cFits_any (HT.out _ H2.out.bel) (HI.out.2.sc.below H2.out.bel) HI.out.2.n HI.out.2.m)
 obtain ⟨d0,d1,d2,d3,d4,d5,d6,d7,d8,_⟩:=sx_cells H2.out.b2
 unfold scrA at PF
 go_wp2_with fail
 refine PF.out.mono ?_
 rintro e w3 ⟨rfl,hb3⟩
 have H3:=Lib.hid (H2.out.on hb3)
 clear hb3 H2 PF d0 d1 d2 d3 d4 d5 d6 d7 d8
 cases hFb:fitsS b
 · have X:EncEnd (encR a b) w (.returned (.tuple #[.slice none 0 0,.int .i64 1])) w3:=by
    have e:encR a b=([],1):=by unfold encR;rw [if_neg (by rw [hFb];simp)]
    rw [e]
    exact ⟨H3.out.bel,none,0,rfl,By.none _ _⟩
   clear hFb
   go_wp2_with fail
   go_ret2
   exact X
 have HFb:=Lib.hid hFb
 clear hFb
 obtain ⟨a0,a1,a2,a3,a4,a5,a6,a7,a8,_⟩:=sx_cells H3.out.b1
 obtain ⟨d0,d1,d2,d3,d4,d5,d6,d7,d8,_⟩:=sx_cells H3.out.b2
 have PK:=Lib.hid (likeR_any sa sb w3)
 obtain ⟨K,hK⟩:∃ K,decide (sa.c=sb.c∧sa.r=sb.r)=K:=⟨_,rfl⟩
 rw [hK] at PK
 have HK:=Lib.hid (show (K=true↔(a.c=b.c∧a.r=b.r)) from by rw [HI.out.1.sc.c,HI.out.2.sc.c,HI.out.1.sc.r,HI.out.2.sc.r,← hK];simp)
 clear hK
 unfold scrA at PK
 go_wp2_with fail
 refine PK.out.mono ?_
 rintro e w4 ⟨rfl,hb4⟩
 have H4:=Lib.hid (H3.out.on hb4)
 clear hb4 H3 PK a0 a1 a2 a3 a4 a5 a6 a7 a8 d0 d1 d2 d3 d4 d5 d6 d7 d8
 obtain ⟨a0,a1,a2,a3,a4,a5,a6,a7,a8,_⟩:=sx_cells H4.out.b1
 obtain ⟨d0,d1,d2,d3,d4,d5,d6,d7,d8,_⟩:=sx_cells H4.out.b2
 cases K
 · have PU:=Lib.hid (cFull_any (HT.out _ H4.out.bel) (HI.out.2.below H4.out.bel) HS.out)
   unfold scrA at PU
   have HX:=Lib.hid (show ∀ e w5,EncEnd (fullS b) w4 e w5→EncEnd (encR a b) w e w5 from fun e w5 hh=>by
    have e1:encR a b=fullS b:=by unfold encR;rw [if_pos ⟨HFa.out,HFb.out⟩,if_neg (fun h=>by have:=HK.out.2 h;cases this)]
    rw [e1]
    obtain ⟨h1,A,cc,h2,h3⟩:=hh
    exact ⟨H4.out.bel.trans (h1.mono H4.out.bel.size),A,cc,h2,h3.lower H4.out.bel.size⟩)
   go_wp2_with fail
   refine PU.out.mono ?_
   rintro e w5 hh
   have h2:=HX.out e w5 hh
   obtain ⟨_,A,cc,rfl,_⟩:=hh
   clear PU
   have H2:=Lib.hid h2
   clear h2
   go_wp2_with fail
   go_ret2
   exact H2.out
 · have HSZ:=Lib.hid (HK.out.1 rfl)
   obtain ⟨c',r',BL,hA⟩:=fits_of HFa.out HI.out.1.pos
   obtain ⟨c,r,LL,hB⟩:=fits_of HFb.out HI.out.2.pos
   have e1:c'=c:=by have:=hA.ec;have:=hB.ec;have:=HSZ.out;omega
   have e2:r'=r:=by have:=hA.er;have:=hB.er;have:=HSZ.out;omega
   subst e1 e2
   have PD:=Lib.hid (cDiff_any (fl:=0) (HI.out.1.sc.below H4.out.bel) (HI.out.2.sc.below H4.out.bel) hA hB (fit_xy HFb.out).1 (fit_xy HFb.out).2 (.inl rfl) HS.out)
   unfold scrA at PD
   clear hA hB
   go_wp2_with fail
   refine PD.out.mono ?_
   rintro e w5 ⟨hb5,A,cc,rfl,hy⟩
   have X:EncEnd (encR a b) w (.returned (.tuple #[.slice A (diffS a b 0).length cc,.int .i64 0])) w5:=by
    have e:encR a b=(diffS a b 0,0):=by
     unfold encR
     rw [if_pos ⟨HFa.out,HFb.out⟩,if_pos HSZ.out]
    rw [e]
    exact ⟨H4.out.bel.trans (hb5.mono H4.out.bel.size),A,cc,rfl,hy.lower H4.out.bel.size⟩
   clear hb5 hy
   go_wp2_with fail
   go_ret2
   exact X
end Go.Proofs.YtikhknnhmnopbaaGreatDoor
