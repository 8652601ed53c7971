/-
  Part 16 of what the laws of emul want: GridMove.
-/
import Derived.Test.YtlcipgdnpilkfaaGreatDoorPo06
import Derived.Test.YtlcipgdnpilkfaaGreatDoorPo15
namespace Go.Proofs.YtlcipgdnpilkfaaGreatDoor
open Go.RowKit
def clearK (c:Nat) (LL:Rws) (a b:Int) (p:Pn) (y:Nat):Rws:=(List.range LL.length).map fun (i:Nat)=>if i<y then eraseS (lAt LL i) (a-(i*c:Nat)) (b-(i*c:Nat)) p else lAt LL i
theorem clearK_len (c:Nat) (LL:Rws) (a b:Int) (p:Pn) (y:Nat):(clearK c LL a b p y).length=LL.length:=by simp [clearK]
theorem clearK_at {c:Nat} {LL:Rws} {a b:Int} {p:Pn} {y i:Nat} (h:i<LL.length):lAt (clearK c LL a b p y) i=if i<y then eraseS (lAt LL i) (a-(i*c:Nat)) (b-(i*c:Nat)) p else lAt LL i:=by
 unfold clearK;rw [lAt_map,if_pos h]
theorem clearK_zero (c:Nat) (LL:Rws) (a b:Int) (p:Pn):clearK c LL a b p 0=LL :=
 rws_ext (clearK_len ..) fun i hi=>by rw [clearK_len] at hi;rw [clearK_at hi,if_neg (by omega)]
theorem clearK_set {c:Nat} {LL:Rws} {a b:Int} {p:Pn} {y:Nat} (h:y<LL.length):(clearK c LL a b p y).set y (eraseS (lAt LL y) (a-(y*c:Nat)) (b-(y*c:Nat)) p)=clearK c LL a b p (y+1):=by
 refine rws_ext (by rw [List.length_set,clearK_len,clearK_len]) fun i hi=>?_
 rw [List.length_set,clearK_len] at hi
 rw [lAt_set,clearK_len,clearK_at hi,clearK_at hi]
 by_cases e:i=y
 · subst e;rw [if_pos ⟨rfl,hi⟩,if_pos (by omega)]
 · rw [if_neg (fun e2=>e e2.1)]
   by_cases e2:i<y
   · rw [if_pos e2,if_pos (by omega)]
   · rw [if_neg e2,if_neg (by omega)]
theorem clearK_all (c:Nat) (LL:Rws) (a b:Int) (p:Pn):clearK c LL a b p LL.length=clearS c LL a b p :=
 rws_ext (by rw [clearK_len];simp [clearS]) fun i hi=>by
  rw [clearK_len] at hi
  rw [clearK_at hi,if_pos hi]
  unfold clearS
  rw [lAt_map,if_pos hi]
theorem clearK_box {c r:Nat} {LL:Rws} (h:Box c r LL) (a b:Int) (p:Pn) (y:Nat):Box c r (clearK c LL a b p y):=by
 refine ⟨by rw [clearK_len,h.len],fun i hi=>?_⟩
 rw [clearK_at (by rw [h.len];exact hi)]
 split
 · rw [eraseS_length,h.row i hi]
 · exact h.row i hi
theorem erase_clamp (L:List Ce) (a b a' b':Int) (p:Pn) (ha:(max a 0).toNat=(max a' 0).toNat∨((L.length:Int)≤a∧(L.length:Int)≤a')) (hb:(min b L.length).toNat=(min b' L.length).toNat):eraseS L a b p=eraseS L a' b' p:=by
 unfold eraseS
 simp only []
 rw [hb]
 rcases ha with ha | ⟨h1,h2⟩
 · rw [ha]
 · rw [if_neg (by omega),if_neg (by omega)]
theorem clear_clamp {c r:Nat} {LL:Rws} (h:Box c r LL) (a b:Int) (p:Pn):clearS c LL (min (max a 0) ((r*c:Nat):Int)) (min (max b 0) ((r*c:Nat):Int)) p=clearS c LL a b p:=by
 refine rws_ext (by simp [clearS]) fun i hi=>?_
 have hi2:i<LL.length:=by simpa [clearS] using hi
 unfold clearS
 rw [lAt_map,lAt_map,if_pos hi2,if_pos hi2]
 have h1:=h.row i (by rw [← h.len];exact hi2)
 have h2:=row_fits (c:=c) (r:=r) (y:=i) (by rw [← h.len];exact hi2)
 obtain ⟨N,hN⟩:∃ N,N=r*c:=⟨_,rfl⟩
 obtain ⟨M,hM⟩:∃ M,M=i*c:=⟨_,rfl⟩
 rw [← hN,← hM] at h2 ⊢
 refine erase_clamp _ _ _ _ _ p ?_ ?_
 · rw [h1]
   by_cases e:(N:Int)≤a
   · exact .inr ⟨by omega,by omega⟩
   · exact .inl (by omega)
 · rw [h1]
   omega
structure ClSt (w:World) (p:Pn) (c r b b' g n k:Nat) (M:Rws) (wx:World):Prop where
 bel:Below w.heap.size w wx
 gb:Gb wx (b+1+1) gr0
 g3:G3 wx b' c r (some ⟨g,0,none⟩) n k
 p4:Pen4 wx (b+1) p
 tab0:Tabs w
 rw_:Rw ceV 66 wx g M.flatten
section
variable {w wx wy:World} {p:Pn} {c r b b' g n k:Nat} {M M':Rws}
theorem ClSt.below (h:ClSt w p c r b b' g n k M wx) (hb:Below wx.heap.size wx wy):ClSt w p c r b b' g n k M wy :=
 ⟨h.bel.trans (hb.mono h.bel.size),h.gb.below hb,h.g3.below hb,h.p4.below hb,h.tab0,h.rw_.below hb⟩
theorem ClSt.grown (h:ClSt w p c r b b' g n k M wx) (hg:wx.grownBy wy (some g)) (hn:b+1+1<g∧g<b'∧w.heap.size≤b) (hR:Rw ceV 66 wy g M'.flatten):ClSt w p c r b b' g n k M' wy :=
 have hb:Below w.heap.size w wy:=h.bel.grown hg h.bel.size (by intro k hk;injection hk with hk;omega)
 ⟨hb,h.gb.grown hg (by simp;omega),h.g3.grown hg (by simp;omega),h.p4.grown hg (by simp;omega),h.tab0,hR⟩
theorem ClSt.tabs (h:ClSt w p c r b b' g n k M wx):Tabs wx:=h.tab0.below h.bel (Nat.le_refl _)
theorem ClSt.cells (h:ClSt w p c r b b' g n k M wx):Below w.heap.size w wx∧(wx.cell? ⟨b',0,none⟩=some (.int .i64 (c:Int))∧wx.cell? ⟨b',1,none⟩=some (.int .i64 (r:Int))∧wx.cell? ⟨b',2,none⟩=some (.slice (some ⟨g,0,none⟩) n k)∧wx.cell? ⟨b+1,0,none⟩=some (.int .u32 p.fg)∧wx.cell? ⟨b+1,1,none⟩=some (.int .u32 p.bg)∧wx.cell? ⟨b+1,2,none⟩=some (.int .u8 p.st)∧wx.cell? ⟨b+1,3,none⟩=some (.int .u16 p.lk)):=by
 obtain ⟨e0,e1,e2,_⟩:=h.g3
 obtain ⟨f0,f1,f2,f3,_⟩:=h.p4
 exact ⟨h.bel,e0,e1,e2,f0,f1,f2,f3⟩
theorem ClSt.cells' (h:ClSt w p c r b b' g n k M wx) (hg:wx.grownBy wy (some g)) (hn:b+1+1<g∧g<b'∧w.heap.size≤b):Below w.heap.size w wy∧(wy.cell? ⟨b',0,none⟩=some (.int .i64 (c:Int))∧wy.cell? ⟨b',1,none⟩=some (.int .i64 (r:Int))∧wy.cell? ⟨b',2,none⟩=some (.slice (some ⟨g,0,none⟩) n k)∧wy.cell? ⟨b+1,0,none⟩=some (.int .u32 p.fg)∧wy.cell? ⟨b+1,1,none⟩=some (.int .u32 p.bg)∧wy.cell? ⟨b+1,2,none⟩=some (.int .u8 p.st)∧wy.cell? ⟨b+1,3,none⟩=some (.int .u16 p.lk)):=by
 obtain ⟨e0,e1,e2,_⟩:=h.g3.grown hg (by simp;omega)
 obtain ⟨f0,f1,f2,f3,_⟩:=h.p4.grown hg (by simp;omega)
 exact ⟨h.bel.grown hg h.bel.size (by intro k hk;injection hk with hk;omega),e0,e1,e2,f0,f1,f2,f3⟩
end
theorem rowOfA_any {w:World} {g n k c r y a:Nat} (ha:y*c=a) (hn:n=r*c) (hy:y<r) (hc1:1≤c) (hc:c≤80) (hr:r≤24) (hk:n≤k) :
  Calls Tryz.prog 80 #[.agg #[.int .i64 (c:Int),.int .i64 (r:Int),.slice (some ⟨g,0,none⟩) n k],.int .i64 (y:Int)] w fun e w'=>e=.returned (.slice (some ⟨g,a*6,none⟩) c c)∧Below w.heap.size w w':=by
 subst ha
 exact rowOfH_any hn hy hc1 hc hr hk
set_option maxHeartbeats 3200000 in
set_option maxRecDepth 100000 in
theorem gClear_any {w:World} {A:Option Addr} {n k:Nat} {c r:Int} {L:List Ce} (x y:Int) (p:Pn) (h:Vs ceV w A n L) (hT:Tabs w) (hk:n≤k) (hn:n≤9223372036854775807) :
  Calls Tryz.prog 225 #[.agg (gV c r A n k),.int .i64 x,.int .i64 y,.agg (pnA p)] w (GPost (opG c r L p fun c LL=>clearS c LL x y p) w):=by
 obtain ⟨w0,hw0⟩:∃ w0,w0=((w.alloc (.cells (gV c r A n k) 26)).alloc (.cells (pnA p) 31)).alloc (.cells (gV 0 0 none 0 0) 26):=⟨_,rfl⟩
 obtain ⟨b,hbe⟩:∃ b,b=w.heap.size:=⟨_,rfl⟩
 have H:=Lib.hid (show Box3 w w0 b c r A n k p L from by rw [hw0,hbe];exact Box3.mk' c r k p h hT)
 have HL:=Lib.hid (And.intro h.len hk)
 have HT0:=Lib.hid hT
 clear h hT
 obtain ⟨ok,hok⟩:∃ ok,(gridMay c r L && penMayS p)=ok:=⟨_,rfl⟩
 have HOK:=Lib.hid hok
 clear hok
 obtain ⟨G,hG⟩:∃ G,opG c r L p (fun c LL=>clearS c LL x y p)=G:=⟨_,rfl⟩
 rw [hG]
 have HG:=Lib.hid hG
 clear hG
 obtain ⟨c0,c1,c2,_⟩:=H.out.g3
 obtain ⟨d0,d1,d2,d3,_⟩:=H.out.p4
 unfold gV pnA at hw0
 go_enter Tryz.func225,Tryz.ntmps225
 unfold gV pnA
 go_upto_region 1 with fail
 rw [← hw0,← hbe]
 clear hw0 hbe
 go_wp2_with fail
 refine (gWrit_any p H.out.vs H.out.tabs hk hn HOK.out).mono ?_
 rintro e w1 ⟨hyes,hno⟩
 clear c0 c1 c2 d0 d1 d2 d3
 cases ok
 · obtain ⟨rfl,hb⟩:=hno rfl
   have X:=Lib.hid (show Below w.heap.size w w1∧Gb w1 (b+1+1) gr0 from ⟨H.out.bel.trans (hb.mono H.out.bel.size),H.out.gb.below hb⟩)
   clear hyes hno hb
   obtain ⟨w2,hw2⟩:∃ w2,w2=w1.alloc (.cells (gV 0 0 none 0 0) 26):=⟨_,rfl⟩
   obtain ⟨b',hbe'⟩:∃ b',b'=w1.heap.size:=⟨_,rfl⟩
   have X2:=Lib.hid (show Below w.heap.size w w2∧Gb w2 (b+1+1) gr0∧G3 w2 b' 0 0 none 0 0 from by
    rw [hw2,hbe']
    exact ⟨X.out.1.alloc X.out.1.size _,X.out.2.below ((Below.refl _ _).alloc (Nat.le_refl _) _),g3_new w1 0 0 none 0 0 _⟩)
   obtain ⟨c0,c1,c2,_⟩:=X2.out.2.2
   unfold gV at hw2 ⊢
   go_upto_region 2 with fail
   rw [← hw2,← hbe']
   clear hw2 hbe'
   have hb1:Below w2.heap.size w2 w2.drew:=belowN (Below.refl _ _) 1
   have SX:=Lib.hid (show ∀ w',Below w2.heap.size w2 w'→(Below w.heap.size w w'∧(w'.cell? ⟨b',0,none⟩=some (.int .i64 0)∧w'.cell? ⟨b',1,none⟩=some (.int .i64 0)∧w'.cell? ⟨b',2,none⟩=some (.slice none 0 0))) from fun w' hb=>by
    obtain ⟨e0,e1,e2,_⟩:=X2.out.2.2.below hb
    exact ⟨X2.out.1.trans (hb.mono X2.out.1.size),e0,e1,e2⟩)
   go_region_held3 (fun w'=>Below w.heap.size w w'∧(w'.cell? ⟨b',0,none⟩=some (.int .i64 0)∧w'.cell? ⟨b',1,none⟩=some (.int .i64 0)∧w'.cell? ⟨b',2,none⟩=some (.slice none 0 0)))
    ((refine SX.out _ ?_;assumption))
    ((first | (go_at_call 252;refine (within_any _ _ _ _).mono ?_;rintro e w9 ⟨rfl,rfl⟩)))
   have X3:=Lib.hid (show Below w.heap.size w w2.drew∧Gb w2.drew (b+1+1) gr0∧G3 w2.drew b' 0 0 none 0 0 from ⟨X2.out.1.trans (hb1.mono X2.out.1.size),X2.out.2.1.below hb1,X2.out.2.2.below hb1⟩)
   clear c0 c1 c2 hb1
   obtain ⟨c0,c1,c2,_⟩:=X3.out.2.2
   generalize w2.drew=w3 at X3 c0 c1 c2 ⊢
   go_wp2_with fail
   go_loopw [27] (fun i wr=>i=.int .i64 0∧wr=w3) (fun _ _=>0)
   case atStart=>exact ⟨rfl,rfl⟩
   case round =>
    obtain ⟨rfl,rfl⟩:=hrel
    go_wp2_with (refine wpList_store_G rfl (.tmp 8) (.tmp 50) rfl (b+1+1) gr0 gr0 rfl rfl X3.out.2.1 ?_;intro w5 hG5 hg5)
    refine bodyPost_ret (retG Tryz.results225 hG5 rfl) rfl ?_
    rw [← HG.out,opG_no HOK.out]
    exact GPost.no ⟨rfl,X3.out.1.grown hg5 X3.out.1.size (by intro k hk;injection hk with hk;have:=H.out.be;omega)⟩
 · obtain ⟨hb,g,k',rfl,hg,hk1,hk2,hR⟩:=hyes rfl
   obtain ⟨cn,rn,LL,rfl,rfl,hLL,hrows,hgk,hpm⟩:=opG_parts HOK.out
   have HP:=Lib.hid (show L=LL.flatten∧Gk cn rn LL∧G=some (cn,rn,clearS cn LL x y p)∧n=rn*cn∧penMayS p=true from ⟨hLL,hgk,by rw [← HG.out];unfold opG;rw [if_pos ⟨by have:=HOK.out;simp at this;exact this.1,hpm⟩,hrows];rfl,by rw [← HL.out.1,hLL];exact hgk.box.flen,hpm⟩)
   rw [HL.out.1] at hk1 ⊢
   have X:=Lib.hid (show Below w.heap.size w w1∧Gb w1 (b+1+1) gr0∧Rw ceV 66 w1 g LL.flatten∧w0.heap.size≤g∧Pen4 w1 (b+1) p∧Tabs w1 from ⟨H.out.bel.trans (hb.mono H.out.bel.size),H.out.gb.below hb,by rw [hLL] at hR;exact hR,hg,H.out.p4.below hb,H.out.tabs.below hb (Nat.le_refl _)⟩)
   clear hyes hno hb hR hLL hrows hgk hpm hg
   obtain ⟨w2,hw2⟩:∃ w2,w2=w1.alloc (.cells (gV (cn:Int) (rn:Int) (some ⟨g,0,none⟩) n k') 26):=⟨_,rfl⟩
   obtain ⟨b',hbe'⟩:∃ b',b'=w1.heap.size:=⟨_,rfl⟩
   have HGK:=Lib.hid (show b+1+1<g∧g<b'∧w.heap.size≤b from by have:=X.out.2.2.2.1;have:=H.out.gb.lt;have:=X.out.2.2.1.lt;have:=H.out.be;omega)
   have X2:=Lib.hid (show ClSt w p cn rn b b' g n k' LL w2 from by
    rw [hw2,hbe']
    have h1:Below w1.heap.size w1 (w1.alloc (.cells (gV (cn:Int) (rn:Int) (some ⟨g,0,none⟩) n k') 26)):=(Below.refl _ _).alloc (Nat.le_refl _) _
    exact ⟨X.out.1.alloc X.out.1.size _,X.out.2.1.below h1,g3_new w1 cn rn (some ⟨g,0,none⟩) n k' _,X.out.2.2.2.2.1.below h1,HT0.out,X.out.2.2.1.below h1⟩)
   obtain ⟨c0,c1,c2,_⟩:=X2.out.g3
   unfold gV at hw2 ⊢
   go_upto_region 2 with fail
   rw [← hw2,← hbe']
   clear hw2 hbe'
   have hb1:Below w2.heap.size w2 w2.drew:=belowN (Below.refl _ _) 1
   have SX:=Lib.hid (show ∀ w',Below w2.heap.size w2 w'→(Below w.heap.size w w'∧(w'.cell? ⟨b',0,none⟩=some (.int .i64 (cn:Int))∧w'.cell? ⟨b',1,none⟩=some (.int .i64 (rn:Int))∧w'.cell? ⟨b',2,none⟩=some (.slice (some ⟨g,0,none⟩) n k'))) from fun w' hb=>by
    obtain ⟨e0,e1,e2,_⟩:=X2.out.g3.below hb
    exact ⟨X2.out.bel.trans (hb.mono X2.out.bel.size),e0,e1,e2⟩)
   go_region_held3 (fun w'=>Below w.heap.size w w'∧(w'.cell? ⟨b',0,none⟩=some (.int .i64 (cn:Int))∧w'.cell? ⟨b',1,none⟩=some (.int .i64 (rn:Int))∧w'.cell? ⟨b',2,none⟩=some (.slice (some ⟨g,0,none⟩) n k')))
    ((refine SX.out _ ?_;assumption))
    ((first | (go_at_call 252;refine (within_any _ _ _ _).mono ?_;rintro e w9 ⟨rfl,rfl⟩)))
   have X3:=Lib.hid (show ClSt w p cn rn b b' g n k' LL w2.drew from X2.out.below hb1)
   clear c0 c1 c2 hb1 SX X2 X
   obtain ⟨c0,c1,c2,_⟩:=X3.out.g3
   generalize w2.drew=w3 at X3 c0 c1 c2 ⊢
   have h24:=HP.out.2.1.r24
   obtain ⟨x',hx'⟩:∃ x':Int,x'=min (max x 0) (n:Int):=⟨_,rfl⟩
   obtain ⟨y',hy'⟩:∃ y':Int,y'=min (max y 0) (n:Int):=⟨_,rfl⟩
   rw [← hx',← hy']
   have hxb:0≤x'∧x'≤1920∧0≤y'∧y'≤1920:=by have:=HP.out.2.1.small;have:=HP.out.2.2.2.1;omega
   have HC:=Lib.hid (show clearS cn LL x' y' p=clearS cn LL x y p from by rw [hx',hy',HP.out.2.2.2.1];exact clear_clamp HP.out.2.1.box x y p)
   clear hx' hy'
   have HXB:=Lib.hid hxb
   clear hxb
   go_wp2_with fail
   clear c0 c1 c2
   go_loopw [27] (fun i wr=>∃ q:Nat,q≤rn∧i=.int .i64 q∧ClSt w p cn rn b b' g n k' (clearK cn LL x' y' p q) wr) (fun i _=>rn-(intOf i).toNat)
   case atStart=>exact ⟨0,Nat.zero_le _,rfl,by rw [clearK_zero];exact X3.out⟩
   case round =>
    obtain ⟨q,hq,rfl,hst⟩:=hrel
    have Y:=Lib.hid hst
    clear hst
    obtain ⟨c0,c1,c2,_⟩:=Y.out.g3
    by_cases hlt:q<rn
    · have hkl:(q:Int)<(rn:Int):=by omega
      obtain ⟨a,ha⟩:∃ a:Nat,q*cn=a:=⟨_,rfl⟩
      have HB:=Lib.hid HP.out.2.1.box
      have HA:=Lib.hid (show a+cn≤rn*cn∧rn*cn≤1920∧q*cn=a from by rw [← ha];exact ⟨row_fits hlt,HP.out.2.1.small,rfl⟩)
      have w1':IntKind.i64.wrap ((q:Int)*(cn:Int))=(a:Int):=by rw [← Int.natCast_mul,ha,IntKind.wrap_i64];have:=HA.out;omega
      have w2':IntKind.i64.wrap (x'-(a:Int))=x'-(a:Int):=by rw [IntKind.wrap_i64];have:=HA.out;have:=HXB.out;omega
      have w3':IntKind.i64.wrap (y'-(a:Int))=y'-(a:Int):=by rw [IntKind.wrap_i64];have:=HA.out;have:=HXB.out;omega
      have hc1:=HP.out.2.1.c1
      have hc2:=HP.out.2.1.c80
      have HRL:=Lib.hid (show (eraseS (lAt LL q) (x'-(a:Int)) (y'-(a:Int)) p).length=cn∧Box cn rn (clearK cn LL x' y' p q)∧lAt (clearK cn LL x' y' p q) q=lAt LL q∧(clearK cn LL x' y' p q).set q (eraseS (lAt LL q) (x'-(a:Int)) (y'-(a:Int)) p)=clearK cn LL x' y' p (q+1) from
       ⟨by rw [eraseS_length,HB.out.row q hlt],clearK_box HB.out _ _ _ _,by rw [clearK_at (by rw [HB.out.len];exact hlt),if_neg (by omega)],by rw [← ha];exact clearK_set (by rw [HB.out.len];exact hlt)⟩)
      clear ha
      go_upto_region 7 with fail
      obtain ⟨d0,d1,d2,d3,_⟩:=Y.out.p4
      have hb1:Below wr.heap.size wr wr.drew:=belowN (Below.refl _ _) 1
      have SX:=Lib.hid (show ∀ w',Below wr.heap.size wr w'→(Below w.heap.size w w'∧(w'.cell? ⟨b',0,none⟩=some (.int .i64 (cn:Int))∧w'.cell? ⟨b',1,none⟩=some (.int .i64 (rn:Int))∧w'.cell? ⟨b',2,none⟩=some (.slice (some ⟨g,0,none⟩) n k')∧w'.cell? ⟨b+1,0,none⟩=some (.int .u32 p.fg)∧w'.cell? ⟨b+1,1,none⟩=some (.int .u32 p.bg)∧w'.cell? ⟨b+1,2,none⟩=some (.int .u8 p.st)∧w'.cell? ⟨b+1,3,none⟩=some (.int .u16 p.lk))) from fun w' hb=>(Y.out.below hb).cells)
      have SY:=Lib.hid (show ∀ w' w'',Below wr.heap.size wr w'→w'.grownBy w'' (some g)→(Below w.heap.size w w''∧(w''.cell? ⟨b',0,none⟩=some (.int .i64 (cn:Int))∧w''.cell? ⟨b',1,none⟩=some (.int .i64 (rn:Int))∧w''.cell? ⟨b',2,none⟩=some (.slice (some ⟨g,0,none⟩) n k')∧w''.cell? ⟨b+1,0,none⟩=some (.int .u32 p.fg)∧w''.cell? ⟨b+1,1,none⟩=some (.int .u32 p.bg)∧w''.cell? ⟨b+1,2,none⟩=some (.int .u8 p.st)∧w''.cell? ⟨b+1,3,none⟩=some (.int .u16 p.lk))) from fun w' w'' hb hg=>(Y.out.below hb).cells' hg HGK.out)
      have HCL:=Lib.hid (show ∀ w',Below wr.heap.size wr w'→Calls Tryz.prog 81 #[.slice (some ⟨g,a*6,none⟩) cn cn,.int .i64 (x'-(a:Int)),.int .i64 (y'-(a:Int)),.agg #[.int .u32 p.fg,.int .u32 p.bg,.int .u8 p.st,.int .u16 p.lk]] w' fun e w''=>∃ g2 c2,e=.returned (.slice (some ⟨g2,0,none⟩) cn c2)∧Below w'.heap.size w' w''∧w'.heap.size≤g2∧Rw ceV 66 w'' g2 (eraseS (lAt LL q) (x'-(a:Int)) (y'-(a:Int)) p) from fun w' hb=>by
       have hv:=(Y.out.below hb).rw_.vs
       have hs:=hv.seg (a:=a) (c:=cn) (by rw [HRL.out.2.1.flen];exact HA.out.1)
       rw [addH] at hs
       have e5:((clearK cn LL x' y' p q).flatten.drop a).take cn=lAt LL q:=by rw [← HRL.out.2.2.1,← HA.out.2.2];exact rowAt_flat HRL.out.2.1 hlt
       rw [e5] at hs
       refine (erase_at (c:=cn) (ok:=true) (x'-(a:Int)) (y'-(a:Int)) p hs (Y.out.below hb).tabs (by omega) (by rw [(rowMay_iff _).2 (HP.out.2.1.ok q hlt),HP.out.2.2.2.2];rfl) rfl).mono ?_
       intro e w'' h0
       obtain ⟨h1,g2,c2,he,h2,h3,h4,h5⟩:=h0.1 rfl
       rw [HRL.out.1] at he
       exact ⟨g2,c2,he,h1,h2,h5⟩)
      go_region_held3 (fun w'=>Below w.heap.size w w'∧(w'.cell? ⟨b',0,none⟩=some (.int .i64 (cn:Int))∧w'.cell? ⟨b',1,none⟩=some (.int .i64 (rn:Int))∧w'.cell? ⟨b',2,none⟩=some (.slice (some ⟨g,0,none⟩) n k')∧w'.cell? ⟨b+1,0,none⟩=some (.int .u32 p.fg)∧w'.cell? ⟨b+1,1,none⟩=some (.int .u32 p.bg)∧w'.cell? ⟨b+1,2,none⟩=some (.int .u8 p.st)∧w'.cell? ⟨b+1,3,none⟩=some (.int .u16 p.lk)))
       ((first | (refine SX.out _ ?_;assumption) | (refine SY.out _ _ ?_ hg5;assumption)))
       ((first
        | (go_at_call 80;(try go_split_ands);refine (rowOfA_any HA.out.2.2 HP.out.2.2.2.1 hlt hc1 hc2 HP.out.2.1.r24 hk1).mono ?_;rintro e w4 ⟨rfl,hb4⟩;have hb5:=Below.trans (B:=wr.heap.size) (by assumption) (hb4.mono (below_sz (a:=wr) (B:=wr.heap.size) (by assumption))))
        | (go_at_call 81;(try go_split_ands);refine (HCL.out _ (by assumption)).mono ?_;rintro e w4 ⟨g2,c2',rfl,hb4,hg2,hR4⟩;have hb5:=Below.trans (B:=wr.heap.size) (by assumption) (hb4.mono (below_sz (a:=wr) (B:=wr.heap.size) (by assumption))))
        | (rw [if_pos (by rfl)];refine oper_copy_V (.tmp 36) (.tmp 47) 24 24 rfl 66 ceV_len one_ce Tryz.underlying24 infoCe g a cn cn (some ⟨g,a*6,none⟩) (some ⟨g2,0,none⟩) cn c2' rfl rfl 66 (clearK cn LL x' y' p q).flatten (eraseS (lAt LL q) (x'-(a:Int)) (y'-(a:Int)) p) (Y.out.below (by assumption)).rw_ (by rw [HRL.out.1];exact (Nat.min_self cn).symm) (by rw [HRL.out.1];first | exact (by have h7:=hR4.vs;rw [HRL.out.1] at h7;exact h7) | exact (by have h7:=(hR4.below (by assumption)).vs;rw [HRL.out.1] at h7;exact h7)) (fun _=>rfl) (by rw [HRL.out.1,HRL.out.2.1.flen];exact HA.out.1) ?_;intro w5 hR5 hg5;have Z:=Lib.hid ((Y.out.below (by assumption)).grown hg5 HGK.out (show Rw ceV 66 w5 g (clearK cn LL x' y' p (q+1)).flatten from by rw [← HRL.out.2.2.2,← over_flat HRL.out.2.1 hlt HRL.out.1,HA.out.2.2];exact hR5)))))
      all_goals (
       clear hR5 hg5
       go_wp2_with fail
       go_roundw
       case rel=>exact ⟨q+1,by omega,by go_num,Z.out⟩
       case measure=>simp [intOf];omega)
    · obtain rfl:q=rn:=by omega
      go_wp2_with (refine wpList_store_G rfl (.tmp 8) (.tmp 50) rfl (b+1+1) gr0 ⟨cn,q,some ⟨g,0,none⟩,n,k'⟩ rfl rfl Y.out.gb ?_;intro w5 hG5 hg5)
      refine bodyPost_ret (retG Tryz.results225 hG5 rfl) rfl ?_
      have e8:clearK cn LL x' y' p q=clearS cn LL x y p:=by rw [← HC.out,← clearK_all,HP.out.2.1.box.len]
      rw [HP.out.2.2.1,← e8]
      have e7:(clearK cn LL x' y' p q).flatten.length=n:=by rw [(clearK_box HP.out.2.1.box _ _ _ _).flen];exact HP.out.2.2.2.1.symm
      exact GPost.yes ⟨Y.out.bel.grown hg5 Y.out.bel.size (by intro k hk;injection hk with hk;have:=H.out.be;omega),g,k',by rw [e7],by have:=HGK.out;omega,by rw [e7];exact hk1,hk2,Y.out.rw_.grown hg5 (by have:=HGK.out;simp;omega)⟩
open Go.RowKit
def kRows (f:Nat→List Ce) (LL:Rws) (y:Nat):Rws:=(List.range LL.length).map fun (i:Nat)=>if i<y then f i else lAt LL i
theorem kRows_len (f:Nat→List Ce) (LL:Rws) (y:Nat):(kRows f LL y).length=LL.length:=by simp [kRows]
theorem kRows_at {f:Nat→List Ce} {LL:Rws} {y i:Nat} (h:i<LL.length):lAt (kRows f LL y) i=if i<y then f i else lAt LL i:=by
 unfold kRows;rw [lAt_map,if_pos h]
theorem kRows_same {f:Nat→List Ce} {LL:Rws} {y:Nat} (h:∀ i,i<y→f i=lAt LL i):kRows f LL y=LL :=
 rws_ext (kRows_len ..) fun i hi=>by
  rw [kRows_len] at hi
  rw [kRows_at hi]
  split
  · rename_i e;exact h i e
  · rfl
theorem kRows_set {f:Nat→List Ce} {LL:Rws} {y:Nat} (h:y<LL.length):(kRows f LL y).set y (f y)=kRows f LL (y+1):=by
 refine rws_ext (by rw [List.length_set,kRows_len,kRows_len]) fun i hi=>?_
 rw [List.length_set,kRows_len] at hi
 rw [lAt_set,kRows_len,kRows_at hi,kRows_at hi]
 by_cases e:i=y
 · subst e;rw [if_pos ⟨rfl,hi⟩,if_pos (by omega)]
 · rw [if_neg (fun e2=>e e2.1)]
   by_cases e2:i<y
   · rw [if_pos e2,if_pos (by omega)]
   · rw [if_neg e2,if_neg (by omega)]
theorem kRows_box {c r:Nat} {f:Nat→List Ce} {LL:Rws} (h:Box c r LL) (hf:∀ y,y<r→(f y).length=c) (y:Nat):Box c r (kRows f LL y):=by
 refine ⟨by rw [kRows_len,h.len],fun i hi=>?_⟩
 rw [kRows_at (by rw [h.len];exact hi)]
 split
 · exact hf i hi
 · exact h.row i hi
theorem scroll_none {c:Nat} {LL:Rws} {t b:Int} (n:Int) (p:Pn) (h:t<0∨(LL.length:Int)≤b∨b<t):scrollS c LL t b n p=LL:=by unfold scrollS;rw [if_pos h]
theorem scroll_clamp (c:Nat) (LL:Rws) {t b n n':Int} (p:Pn) (hb:t≤b) (hn:n'=min (max n (-(b-t+1))) (b-t+1)) (y:Nat):scrollAt c LL t b n p y=scrollAt c LL t b n' p y:=by
 unfold scrollAt
 split
 · rename_i h
   by_cases e:t≤(y:Int)+n∧(y:Int)+n≤b
   · obtain rfl:n'=n:=by omega
     rfl
   · rw [if_neg e,if_neg (by omega)]
 · rfl
theorem scroll_all {c:Nat} {LL:Rws} {t b:Nat} (n:Int) (p:Pn) (htb:t≤b) (hb:b<LL.length):scrollS c LL (t:Int) (b:Int) n p=kRows (scrollAt c LL (t:Int) (b:Int) n p) LL (b+1):=by
 unfold scrollS
 rw [if_neg (by omega)]
 refine rws_ext (by rw [kRows_len];simp) fun i hi=>?_
 have hi2:i<LL.length:=by simpa using hi
 rw [lAt_map,if_pos hi2,kRows_at hi2]
 split
 · rfl
 · unfold scrollAt
   rw [if_neg (by omega)]
set_option maxHeartbeats 3200000 in
set_option maxRecDepth 100000 in
theorem gScroll_any {w:World} {A:Option Addr} {n k:Nat} {c r:Int} {L:List Ce} (x y z:Int) (p:Pn) (h:Vs ceV w A n L) (hT:Tabs w) (hk:n≤k) (hn:n≤9223372036854775807) :
  Calls Tryz.prog 221 #[.agg (gV c r A n k),.int .i64 x,.int .i64 y,.int .i64 z,.agg (pnA p)] w (GPost (opG c r L p fun c LL=>scrollS c LL x y z p) w):=by
 obtain ⟨w0,hw0⟩:∃ w0,w0=((w.alloc (.cells (gV c r A n k) 26)).alloc (.cells (pnA p) 31)).alloc (.cells (gV 0 0 none 0 0) 26):=⟨_,rfl⟩
 obtain ⟨b,hbe⟩:∃ b,b=w.heap.size:=⟨_,rfl⟩
 have H:=Lib.hid (show Box3 w w0 b c r A n k p L from by rw [hw0,hbe];exact Box3.mk' c r k p h hT)
 have HL:=Lib.hid (And.intro h.len hk)
 have HT0:=Lib.hid (And.intro hT h)
 clear h hT
 obtain ⟨ok,hok⟩:∃ ok,(gridMay c r L && penMayS p)=ok:=⟨_,rfl⟩
 have HOK:=Lib.hid hok
 clear hok
 obtain ⟨G,hG⟩:∃ G,opG c r L p (fun c LL=>scrollS c LL x y z p)=G:=⟨_,rfl⟩
 rw [hG]
 have HG:=Lib.hid hG
 clear hG
 obtain ⟨c0,c1,c2,_⟩:=H.out.g3
 obtain ⟨d0,d1,d2,d3,_⟩:=H.out.p4
 unfold gV pnA at hw0
 go_enter Tryz.func221,Tryz.ntmps221
 unfold gV pnA
 go_upto_region 1 with fail
 rw [← hw0,← hbe]
 clear hw0 hbe
 go_wp2_with fail
 refine (gWrit_any p H.out.vs H.out.tabs hk hn HOK.out).mono ?_
 rintro e w1 ⟨hyes,hno⟩
 clear c0 c1 c2 d0 d1 d2 d3
 cases ok
 · obtain ⟨rfl,hb⟩:=hno rfl
   have X:=Lib.hid (show Below w.heap.size w w1∧Gb w1 (b+1+1) gr0 from ⟨H.out.bel.trans (hb.mono H.out.bel.size),H.out.gb.below hb⟩)
   clear hyes hno hb
   obtain ⟨w2,hw2⟩:∃ w2,w2=w1.alloc (.cells (gV 0 0 none 0 0) 26):=⟨_,rfl⟩
   obtain ⟨b',hbe'⟩:∃ b',b'=w1.heap.size:=⟨_,rfl⟩
   have X2:=Lib.hid (show Below w.heap.size w w2∧Gb w2 (b+1+1) gr0∧G3 w2 b' 0 0 none 0 0 from by
    rw [hw2,hbe']
    exact ⟨X.out.1.alloc X.out.1.size _,X.out.2.below ((Below.refl _ _).alloc (Nat.le_refl _) _),g3_new w1 0 0 none 0 0 _⟩)
   obtain ⟨c0,c1,c2,_⟩:=X2.out.2.2
   unfold gV at hw2 ⊢
   go_upto_region 2 with fail
   rw [← hw2,← hbe']
   clear hw2 hbe'
   by_cases hx0:x<0
   ·
    go_wp2_with (refine wpList_store_G rfl (.tmp 10) (.tmp 31) rfl (b+1+1) gr0 gr0 rfl rfl X2.out.2.1 ?_;intro w5 hG5 hg5)
    refine bodyPost_ret (retG Tryz.results221 hG5 rfl) rfl ?_
    rw [← HG.out,opG_no HOK.out]
    exact GPost.no ⟨rfl,X2.out.1.grown hg5 X2.out.1.size (by intro k hk;injection hk with hk;have:=H.out.be;omega)⟩
   · have hx0':0≤x:=by omega
     by_cases hy0:0≤y
     ·
      go_wp2_with (refine wpList_store_G rfl (.tmp 10) (.tmp 31) rfl (b+1+1) gr0 gr0 rfl rfl X2.out.2.1 ?_;intro w5 hG5 hg5)
      refine bodyPost_ret (retG Tryz.results221 hG5 rfl) rfl ?_
      rw [← HG.out,opG_no HOK.out]
      exact GPost.no ⟨rfl,X2.out.1.grown hg5 X2.out.1.size (by intro k hk;injection hk with hk;have:=H.out.be;omega)⟩
     · have hy1:y<0:=by omega
       have hxy:y<x:=by omega
       go_wp2_with (refine wpList_store_G rfl (.tmp 10) (.tmp 31) rfl (b+1+1) gr0 gr0 rfl rfl X2.out.2.1 ?_;intro w5 hG5 hg5)
       refine bodyPost_ret (retG Tryz.results221 hG5 rfl) rfl ?_
       rw [← HG.out,opG_no HOK.out]
       exact GPost.no ⟨rfl,X2.out.1.grown hg5 X2.out.1.size (by intro k hk;injection hk with hk;have:=H.out.be;omega)⟩
 · obtain ⟨hb,g,k',rfl,hg,hk1,hk2,hR⟩:=hyes rfl
   obtain ⟨cn,rn,LL,rfl,rfl,hLL,hrows,hgk,hpm⟩:=opG_parts HOK.out
   have HP:=Lib.hid (show L=LL.flatten∧Gk cn rn LL∧G=some (cn,rn,scrollS cn LL x y z p)∧n=rn*cn∧penMayS p=true from ⟨hLL,hgk,by rw [← HG.out];unfold opG;rw [if_pos ⟨by have:=HOK.out;simp at this;exact this.1,hpm⟩,hrows];rfl,by rw [← HL.out.1,hLL];exact hgk.box.flen,hpm⟩)
   rw [HL.out.1] at hk1 ⊢
   have X:=Lib.hid (show Below w.heap.size w w1∧Gb w1 (b+1+1) gr0∧Rw ceV 66 w1 g LL.flatten∧w0.heap.size≤g∧Pen4 w1 (b+1) p∧G3 w1 b cn rn A n k from ⟨H.out.bel.trans (hb.mono H.out.bel.size),H.out.gb.below hb,by rw [hLL] at hR;exact hR,hg,H.out.p4.below hb,H.out.g3.below hb⟩)
   clear hyes hno hb hR hLL hrows hgk hpm hg
   obtain ⟨w2,hw2⟩:∃ w2,w2=w1.alloc (.cells (gV (cn:Int) (rn:Int) (some ⟨g,0,none⟩) n k') 26):=⟨_,rfl⟩
   obtain ⟨b',hbe'⟩:∃ b',b'=w1.heap.size:=⟨_,rfl⟩
   have HGK:=Lib.hid (show b+1+1<g∧g<b'∧w.heap.size≤b from by have:=X.out.2.2.2.1;have:=H.out.gb.lt;have:=X.out.2.2.1.lt;have:=H.out.be;omega)
   have X2:=Lib.hid (show ClSt w p cn rn b b' g n k' LL w2∧G3 w2 b cn rn A n k from by
    rw [hw2,hbe']
    have h1:Below w1.heap.size w1 (w1.alloc (.cells (gV (cn:Int) (rn:Int) (some ⟨g,0,none⟩) n k') 26)):=(Below.refl _ _).alloc (Nat.le_refl _) _
    exact ⟨⟨X.out.1.alloc X.out.1.size _,X.out.2.1.below h1,g3_new w1 cn rn (some ⟨g,0,none⟩) n k' _,X.out.2.2.2.2.1.below h1,HT0.out.1,X.out.2.2.1.below h1⟩,X.out.2.2.2.2.2.below h1⟩)
   obtain ⟨c0,c1,c2,_⟩:=X2.out.1.g3
   unfold gV at hw2 ⊢
   go_upto_region 2 with fail
   rw [← hw2,← hbe']
   clear hw2 hbe' X
   have h24:=HP.out.2.1.r24
   have HLN:=Lib.hid (show (LL.length:Int)=(rn:Int) from by rw [HP.out.2.1.box.len])
   by_cases hx0:0≤x
   · by_cases hyr:y<(rn:Int)
     · by_cases hxy:x≤y
       · obtain ⟨t,rfl⟩:∃ t:Nat,x=(t:Int):=⟨x.toNat,by omega⟩
         obtain ⟨bo,rfl⟩:∃ bo:Nat,y=(bo:Int):=⟨y.toNat,by omega⟩
         have htb:t≤bo:=by omega
         have hbr:bo<rn:=by omega
         have v1:IntKind.i64.wrap ((bo:Int)-(t:Int))=(bo:Int)-(t:Int):=by rw [IntKind.wrap_i64];omega
         have v2:IntKind.i64.wrap ((bo:Int)-(t:Int)+1)=(bo:Int)-(t:Int)+1:=by rw [IntKind.wrap_i64];omega
         have v3:IntKind.i64.wrap (-((bo:Int)-(t:Int)+1))=-((bo:Int)-(t:Int)+1):=by rw [IntKind.wrap_i64];omega
         go_wp2_with fail
         refine (within_any _ _ _ _).mono ?_
         rintro e w3 ⟨rfl,rfl⟩
         obtain ⟨z',hz'⟩:∃ z':Int,z'=min (max z (-((bo:Int)-(t:Int)+1))) ((bo:Int)-(t:Int)+1):=⟨_,rfl⟩
         rw [← hz']
         have HZ:=Lib.hid (show -24≤z'∧z'≤24∧(∀ i,scrollAt cn LL (t:Int) (bo:Int) z p i=scrollAt cn LL (t:Int) (bo:Int) z' p i) from ⟨by omega,by omega,fun i=>scroll_clamp cn LL p (by omega) hz' i⟩)
         have hzb:=HZ.out.1
         have hzt:=HZ.out.2.1
         clear hz' v1 v2 v3 hx0 hyr hxy
         obtain ⟨f,hf⟩:∃ f:Nat→List Ce,f=scrollAt cn LL (t:Int) (bo:Int) z' p:=⟨_,rfl⟩
         have HF:=Lib.hid (show (∀ i,i<rn→(f i).length=cn)∧kRows f LL t=LL∧scrollS cn LL (t:Int) (bo:Int) z p=kRows f LL (bo+1)∧(∀ i,t≤i→i≤bo→(t:Int)≤(i:Int)+z'∧(i:Int)+z'≤(bo:Int)→f i=lAt LL ((i:Int)+z').toNat)∧(∀ i,t≤i→i≤bo→¬ ((t:Int)≤(i:Int)+z'∧(i:Int)+z'≤(bo:Int))→f i=blanksS cn p) from by
          rw [hf]
          refine ⟨fun i hi=>scrollAt_len HP.out.2.1.box z' p (by omega) (by omega) hi,kRows_same fun i hi=>?_,?_,fun i h1 h2 h3=>?_,fun i h1 h2 h3=>?_⟩
          · unfold scrollAt;rw [if_neg (by omega)]
          · rw [scroll_all z p htb (by rw [HP.out.2.1.box.len];exact hbr)]
            unfold kRows
            simp only [HZ.out.2.2]
          · unfold scrollAt;rw [if_pos (by omega),if_pos h3]
          · unfold scrollAt;rw [if_pos (by omega),if_neg h3])
         clear hf
         go_wp2_with fail
         clear c0 c1 c2
         go_loopw [13] (fun i wr=>∃ q:Nat,t≤q∧q≤bo+1∧i=.int .i64 q∧ClSt w p cn rn b b' g n k' (kRows f LL q) wr∧G3 wr b cn rn A n k) (fun i _=>bo+1-(intOf i).toNat)
         case atStart=>exact ⟨t,Nat.le_refl _,by omega,rfl,by rw [HF.out.2.1];exact X2.out.1,X2.out.2⟩
         case round =>
          obtain ⟨q,hq1,hq2,rfl,hst,hg3⟩:=hrel
          have Y:=Lib.hid (And.intro hst hg3)
          clear hst hg3
          obtain ⟨c0,c1,c2,_⟩:=Y.out.1.g3
          by_cases hlt:q≤bo
          · have hkl:(q:Int)≤(bo:Int):=by omega
            have hqr:q<rn:=by omega
            have HB:=Lib.hid HP.out.2.1.box
            have HKB:=Lib.hid (kRows_box HB.out HF.out.1 q)
            have HKS:=Lib.hid (show (kRows f LL q).set q (f q)=kRows f LL (q+1) from kRows_set (by rw [HB.out.len];exact hqr))
            have HFL:=Lib.hid (HF.out.1 q hqr)
            have hc1:=HP.out.2.1.c1
            have hc2:=HP.out.2.1.c80
            by_cases hfr:(t:Int)≤(q:Int)+z'∧(q:Int)+z'≤(bo:Int)
            · obtain ⟨s,hs⟩:∃ s:Nat,(q:Int)+z'=(s:Int):=⟨((q:Int)+z').toNat,by omega⟩
              have HS:=Lib.hid (show f q=lAt LL s∧s<rn from ⟨by rw [HF.out.2.2.2.1 q hq1 hlt hfr,hs];rfl,by omega⟩)
              have v4:IntKind.i64.wrap ((q:Int)+z')=(s:Int):=by rw [hs,IntKind.wrap_i64];omega
              rw [hs] at hfr
              obtain ⟨hf1,hf2⟩:=hfr
              clear hs
              go_upto_region 11 with fail
              obtain ⟨a0,a1,a2,_⟩:=Y.out.2
              have hnn:=HP.out.2.2.2.1
              have hn0:0<n:=by rw [hnn];exact Nat.mul_pos (by omega) (by omega)
              obtain ⟨ad,rfl⟩:=HT0.out.2.addr hn0
              have HN0:=Lib.hid (And.intro hn0 hnn)
              clear hn0 hnn
              have hb1:Below wr.heap.size wr wr.drew:=belowN (Below.refl _ _) 1
              have SX:=Lib.hid (show ∀ w',Below wr.heap.size wr w'→(Below w.heap.size w w'∧(w'.cell? ⟨b',0,none⟩=some (.int .i64 (cn:Int))∧w'.cell? ⟨b',1,none⟩=some (.int .i64 (rn:Int))∧w'.cell? ⟨b',2,none⟩=some (.slice (some ⟨g,0,none⟩) n k')∧w'.cell? ⟨b,0,none⟩=some (.int .i64 (cn:Int))∧w'.cell? ⟨b,1,none⟩=some (.int .i64 (rn:Int))∧w'.cell? ⟨b,2,none⟩=some (.slice (some ad) n k))) from fun w' hb=>by
               obtain ⟨h0,e0,e1,e2,_⟩:=(Y.out.1.below hb).cells
               obtain ⟨f0,f1,f2,_⟩:=Y.out.2.below hb
               exact ⟨h0,e0,e1,e2,f0,f1,f2⟩)
              have SY:=Lib.hid (show ∀ w' w'',Below wr.heap.size wr w'→w'.grownBy w'' (some g)→(Below w.heap.size w w''∧(w''.cell? ⟨b',0,none⟩=some (.int .i64 (cn:Int))∧w''.cell? ⟨b',1,none⟩=some (.int .i64 (rn:Int))∧w''.cell? ⟨b',2,none⟩=some (.slice (some ⟨g,0,none⟩) n k')∧w''.cell? ⟨b,0,none⟩=some (.int .i64 (cn:Int))∧w''.cell? ⟨b,1,none⟩=some (.int .i64 (rn:Int))∧w''.cell? ⟨b,2,none⟩=some (.slice (some ad) n k))) from fun w' w'' hb hg=>by
               obtain ⟨h0,e0,e1,e2,_⟩:=(Y.out.1.below hb).cells' hg HGK.out
               obtain ⟨f0,f1,f2,_⟩:=(Y.out.2.below hb).grown hg (by have:=HGK.out;simp;omega)
               exact ⟨h0,e0,e1,e2,f0,f1,f2⟩)
              have HV:=Lib.hid (show ∀ w',Below wr.heap.size wr w'→Vs ceV w' (some (ad.add (s*cn*6))) cn (f q) from fun w' hb=>by
               have hv:=HT0.out.2.below (Y.out.1.below hb).bel
               have h5:=hv.seg (a:=s*cn) (c:=cn) (by rw [HN0.out.2];exact row_fits HS.out.2)
               have e5:(L.drop (s*cn)).take cn=f q:=by rw [HS.out.1,HP.out.1];exact rowAt_flat HB.out HS.out.2
               rw [e5] at h5
               exact h5)
              obtain ⟨az,haz⟩:∃ az:Addr,az=ad.add (s*cn*6):=⟨_,rfl⟩
              rw [← haz] at HV
              have HR1:=Lib.hid (show ∀ wx,Calls Tryz.prog 80 #[.agg #[.int .i64 (cn:Int),.int .i64 (rn:Int),.slice (some ⟨g,0,none⟩) n k'],.int .i64 (q:Int)] wx fun e w'=>e=.returned (.slice (some ⟨g,q*cn*6,none⟩) cn cn)∧Below wx.heap.size wx w' from fun wx=>rowOfH_any HP.out.2.2.2.1 hqr hc1 hc2 HP.out.2.1.r24 hk1)
              have HR2:=Lib.hid (show ∀ wx,Calls Tryz.prog 80 #[.agg #[.int .i64 (cn:Int),.int .i64 (rn:Int),.slice (some ad) n k],.int .i64 (s:Int)] wx fun e w'=>e=.returned (.slice (some az) cn cn)∧Below wx.heap.size wx w' from fun wx=>by rw [haz];exact rowOf_any HP.out.2.2.2.1 HS.out.2 hc1 hc2 HP.out.2.1.r24 hk)
              clear haz
              go_region_held3 (fun w'=>Below w.heap.size w w'∧(w'.cell? ⟨b',0,none⟩=some (.int .i64 (cn:Int))∧w'.cell? ⟨b',1,none⟩=some (.int .i64 (rn:Int))∧w'.cell? ⟨b',2,none⟩=some (.slice (some ⟨g,0,none⟩) n k')∧w'.cell? ⟨b,0,none⟩=some (.int .i64 (cn:Int))∧w'.cell? ⟨b,1,none⟩=some (.int .i64 (rn:Int))∧w'.cell? ⟨b,2,none⟩=some (.slice (some ad) n k)))
               ((first | (refine SX.out _ ?_;assumption) | (refine SY.out _ _ ?_ hg5;assumption)))
               ((first
                | (go_at_call 80;(try go_split_ands);with_reducible refine (HR1.out _).mono ?_;rintro e w4 ⟨rfl,hb4⟩;have hb5:=Below.trans (B:=wr.heap.size) (by assumption) (hb4.mono (below_sz (a:=wr) (B:=wr.heap.size) (by assumption))))
                | (go_at_call 80;(try go_split_ands);with_reducible refine (HR2.out _).mono ?_;rintro e w4 ⟨rfl,hb4⟩;have hb5:=Below.trans (B:=wr.heap.size) (by assumption) (hb4.mono (below_sz (a:=wr) (B:=wr.heap.size) (by assumption))))
                | (rw [if_pos (by rfl)];refine oper_copy_V (.tmp 60) (.tmp 63) 24 24 rfl 66 ceV_len one_ce Tryz.underlying24 infoCe g (q*cn) cn cn (some ⟨g,q*cn*6,none⟩) (some az) cn cn rfl rfl 66 (kRows f LL q).flatten (f q) (Y.out.1.below (by assumption)).rw_ (by rw [HFL.out];exact (Nat.min_self cn).symm) (by rw [HFL.out];exact HV.out _ (by assumption)) (fun _=>rfl) (by rw [HFL.out,HKB.out.flen];exact row_fits hqr) ?_;intro w5 hR5 hg5;have Z:=Lib.hid (And.intro ((Y.out.1.below (by assumption)).grown hg5 HGK.out (show Rw ceV 66 w5 g (kRows f LL (q+1)).flatten from by rw [← HKS.out,← over_flat HKB.out hqr HFL.out];exact hR5)) ((Y.out.2.below (by assumption)).grown hg5 (by have:=HGK.out;simp;omega))))))
              all_goals (
               clear hR5 hg5
               go_wp2_with fail
               go_roundw
               case rel=>exact ⟨q+1,by omega,by omega,by go_num,Z.out⟩
               case measure=>simp [intOf];omega)
            · have HS:=Lib.hid (HF.out.2.2.2.2 q hq1 hlt hfr)
              have v4:IntKind.i64.wrap ((q:Int)+z')=(q:Int)+z':=by rw [IntKind.wrap_i64];omega
              obtain ⟨d0,d1,d2,d3,_⟩:=Y.out.1.p4
              by_cases hf1:(t:Int)≤(q:Int)+z'
              · have hf2:(bo:Int)<(q:Int)+z':=by omega
                clear hfr
                go_upto_region 12 with fail
                have hb1:Below wr.heap.size wr wr.drew:=belowN (Below.refl _ _) 1
                have SX:=Lib.hid (show ∀ w',Below wr.heap.size wr w'→(Below w.heap.size w w'∧(w'.cell? ⟨b',0,none⟩=some (.int .i64 (cn:Int))∧w'.cell? ⟨b',1,none⟩=some (.int .i64 (rn:Int))∧w'.cell? ⟨b',2,none⟩=some (.slice (some ⟨g,0,none⟩) n k')∧w'.cell? ⟨b+1,0,none⟩=some (.int .u32 p.fg)∧w'.cell? ⟨b+1,1,none⟩=some (.int .u32 p.bg)∧w'.cell? ⟨b+1,2,none⟩=some (.int .u8 p.st)∧w'.cell? ⟨b+1,3,none⟩=some (.int .u16 p.lk))) from fun w' hb=>(Y.out.1.below hb).cells)
                have SY:=Lib.hid (show ∀ w' w'',Below wr.heap.size wr w'→w'.grownBy w'' (some g)→(Below w.heap.size w w''∧(w''.cell? ⟨b',0,none⟩=some (.int .i64 (cn:Int))∧w''.cell? ⟨b',1,none⟩=some (.int .i64 (rn:Int))∧w''.cell? ⟨b',2,none⟩=some (.slice (some ⟨g,0,none⟩) n k')∧w''.cell? ⟨b+1,0,none⟩=some (.int .u32 p.fg)∧w''.cell? ⟨b+1,1,none⟩=some (.int .u32 p.bg)∧w''.cell? ⟨b+1,2,none⟩=some (.int .u8 p.st)∧w''.cell? ⟨b+1,3,none⟩=some (.int .u16 p.lk))) from fun w' w'' hb hg=>(Y.out.1.below hb).cells' hg HGK.out)
                have HCL:=Lib.hid (show ∀ w',Below wr.heap.size wr w'→Calls Tryz.prog 143 #[.slice (some ⟨g,q*cn*6,none⟩) cn cn,.agg #[.int .u32 p.fg,.int .u32 p.bg,.int .u8 p.st,.int .u16 p.lk]] w' (FillPost (kRows f LL q).flatten (q*cn) cn g p w') from fun w' hb=>gFill_any p (Y.out.1.below hb).rw_ (by rw [HKB.out.flen];exact row_fits hqr) (by omega) rfl)
                go_region_held3 (fun w'=>Below w.heap.size w w'∧(w'.cell? ⟨b',0,none⟩=some (.int .i64 (cn:Int))∧w'.cell? ⟨b',1,none⟩=some (.int .i64 (rn:Int))∧w'.cell? ⟨b',2,none⟩=some (.slice (some ⟨g,0,none⟩) n k')∧w'.cell? ⟨b+1,0,none⟩=some (.int .u32 p.fg)∧w'.cell? ⟨b+1,1,none⟩=some (.int .u32 p.bg)∧w'.cell? ⟨b+1,2,none⟩=some (.int .u8 p.st)∧w'.cell? ⟨b+1,3,none⟩=some (.int .u16 p.lk)))
                 ((first | (refine SX.out _ ?_;assumption) | (refine SY.out _ _ ?_ hg5;assumption)))
                 ((first
                  | (go_at_call 80;(try go_split_ands);refine (rowOfH_any (g:=g) HP.out.2.2.2.1 hqr hc1 hc2 HP.out.2.1.r24 hk1).mono ?_;rintro e w4 ⟨rfl,hb4⟩;have hb5:=Below.trans (B:=wr.heap.size) (by assumption) (hb4.mono (below_sz (a:=wr) (B:=wr.heap.size) (by assumption))))
                  | (go_at_call 143;(try go_split_ands);refine (HCL.out _ (by assumption)).mono ?_;rintro e w5 ⟨rfl,hR5,hg5⟩;have Z:=Lib.hid (And.intro ((Y.out.1.below (by assumption)).grown hg5 HGK.out (show Rw ceV 66 w5 g (kRows f LL (q+1)).flatten from by rw [← HKS.out,← over_flat HKB.out hqr HFL.out,HS.out];exact hR5)) ((Y.out.2.below (by assumption)).grown hg5 (by have:=HGK.out;simp;omega))))))
                all_goals (
                 clear hR5 hg5
                 go_wp2_with fail
                 go_roundw
                 case rel=>exact ⟨q+1,by omega,by omega,by go_num,Z.out⟩
                 case measure=>simp [intOf];omega)
              · have hf2:(q:Int)+z'<(t:Int):=by omega
                clear hfr hf1
                go_upto_region 12 with fail
                have hb1:Below wr.heap.size wr wr.drew:=belowN (Below.refl _ _) 1
                have SX:=Lib.hid (show ∀ w',Below wr.heap.size wr w'→(Below w.heap.size w w'∧(w'.cell? ⟨b',0,none⟩=some (.int .i64 (cn:Int))∧w'.cell? ⟨b',1,none⟩=some (.int .i64 (rn:Int))∧w'.cell? ⟨b',2,none⟩=some (.slice (some ⟨g,0,none⟩) n k')∧w'.cell? ⟨b+1,0,none⟩=some (.int .u32 p.fg)∧w'.cell? ⟨b+1,1,none⟩=some (.int .u32 p.bg)∧w'.cell? ⟨b+1,2,none⟩=some (.int .u8 p.st)∧w'.cell? ⟨b+1,3,none⟩=some (.int .u16 p.lk))) from fun w' hb=>(Y.out.1.below hb).cells)
                have SY:=Lib.hid (show ∀ w' w'',Below wr.heap.size wr w'→w'.grownBy w'' (some g)→(Below w.heap.size w w''∧(w''.cell? ⟨b',0,none⟩=some (.int .i64 (cn:Int))∧w''.cell? ⟨b',1,none⟩=some (.int .i64 (rn:Int))∧w''.cell? ⟨b',2,none⟩=some (.slice (some ⟨g,0,none⟩) n k')∧w''.cell? ⟨b+1,0,none⟩=some (.int .u32 p.fg)∧w''.cell? ⟨b+1,1,none⟩=some (.int .u32 p.bg)∧w''.cell? ⟨b+1,2,none⟩=some (.int .u8 p.st)∧w''.cell? ⟨b+1,3,none⟩=some (.int .u16 p.lk))) from fun w' w'' hb hg=>(Y.out.1.below hb).cells' hg HGK.out)
                have HCL:=Lib.hid (show ∀ w',Below wr.heap.size wr w'→Calls Tryz.prog 143 #[.slice (some ⟨g,q*cn*6,none⟩) cn cn,.agg #[.int .u32 p.fg,.int .u32 p.bg,.int .u8 p.st,.int .u16 p.lk]] w' (FillPost (kRows f LL q).flatten (q*cn) cn g p w') from fun w' hb=>gFill_any p (Y.out.1.below hb).rw_ (by rw [HKB.out.flen];exact row_fits hqr) (by omega) rfl)
                go_region_held3 (fun w'=>Below w.heap.size w w'∧(w'.cell? ⟨b',0,none⟩=some (.int .i64 (cn:Int))∧w'.cell? ⟨b',1,none⟩=some (.int .i64 (rn:Int))∧w'.cell? ⟨b',2,none⟩=some (.slice (some ⟨g,0,none⟩) n k')∧w'.cell? ⟨b+1,0,none⟩=some (.int .u32 p.fg)∧w'.cell? ⟨b+1,1,none⟩=some (.int .u32 p.bg)∧w'.cell? ⟨b+1,2,none⟩=some (.int .u8 p.st)∧w'.cell? ⟨b+1,3,none⟩=some (.int .u16 p.lk)))
                 ((first | (refine SX.out _ ?_;assumption) | (refine SY.out _ _ ?_ hg5;assumption)))
                 ((first
                  | (go_at_call 80;(try go_split_ands);refine (rowOfH_any (g:=g) HP.out.2.2.2.1 hqr hc1 hc2 HP.out.2.1.r24 hk1).mono ?_;rintro e w4 ⟨rfl,hb4⟩;have hb5:=Below.trans (B:=wr.heap.size) (by assumption) (hb4.mono (below_sz (a:=wr) (B:=wr.heap.size) (by assumption))))
                  | (go_at_call 143;(try go_split_ands);refine (HCL.out _ (by assumption)).mono ?_;rintro e w5 ⟨rfl,hR5,hg5⟩;have Z:=Lib.hid (And.intro ((Y.out.1.below (by assumption)).grown hg5 HGK.out (show Rw ceV 66 w5 g (kRows f LL (q+1)).flatten from by rw [← HKS.out,← over_flat HKB.out hqr HFL.out,HS.out];exact hR5)) ((Y.out.2.below (by assumption)).grown hg5 (by have:=HGK.out;simp;omega))))))
                all_goals (
                 clear hR5 hg5
                 go_wp2_with fail
                 go_roundw
                 case rel=>exact ⟨q+1,by omega,by omega,by go_num,Z.out⟩
                 case measure=>simp [intOf];omega)
          · obtain rfl:q=bo+1:=by omega
            go_wp2_with (refine wpList_store_G rfl (.tmp 10) (.tmp 70) rfl (b+1+1) gr0 ⟨cn,rn,some ⟨g,0,none⟩,n,k'⟩ rfl rfl Y.out.1.gb ?_;intro w5 hG5 hg5)
            refine bodyPost_ret (retG Tryz.results221 hG5 rfl) rfl ?_
            rw [HP.out.2.2.1,HF.out.2.2.1]
            have e7:(kRows f LL (bo+1)).flatten.length=n:=by rw [(kRows_box HP.out.2.1.box HF.out.1 _).flen];exact HP.out.2.2.2.1.symm
            exact GPost.yes ⟨Y.out.1.bel.grown hg5 Y.out.1.bel.size (by intro k hk;injection hk with hk;have:=H.out.be;omega),g,k',by rw [e7],by have:=HGK.out;omega,by rw [e7];exact hk1,hk2,Y.out.1.rw_.grown hg5 (by have:=HGK.out;simp;omega)⟩
       · have hyx:y<x:=by omega
         have HE:=Lib.hid (show G=some (cn,rn,LL) from by rw [HP.out.2.2.1,scroll_none z p (by right;right;exact hyx)])
         clear hxy
         go_wp2_with (refine wpList_store_G rfl (.tmp 10) (.tmp 31) rfl (b+1+1) gr0 ⟨cn,rn,some ⟨g,0,none⟩,n,k'⟩ rfl rfl X2.out.1.gb ?_;intro w5 hG5 hg5)
         refine bodyPost_ret (retG Tryz.results221 hG5 rfl) rfl ?_
         rw [HE.out]
         have e7:LL.flatten.length=n:=by rw [HP.out.2.1.box.flen];exact HP.out.2.2.2.1.symm
         exact GPost.yes ⟨X2.out.1.bel.grown hg5 X2.out.1.bel.size (by intro k hk;injection hk with hk;have:=H.out.be;omega),g,k',by rw [e7],by have:=HGK.out;omega,by rw [e7];exact hk1,hk2,X2.out.1.rw_.grown hg5 (by have:=HGK.out;simp;omega)⟩
     · have hry:(rn:Int)≤y:=by omega
       have HE:=Lib.hid (show G=some (cn,rn,LL) from by rw [HP.out.2.2.1,scroll_none z p (by right;left;rw [HLN.out];exact hry)])
       clear hyr
       go_wp2_with (refine wpList_store_G rfl (.tmp 10) (.tmp 31) rfl (b+1+1) gr0 ⟨cn,rn,some ⟨g,0,none⟩,n,k'⟩ rfl rfl X2.out.1.gb ?_;intro w5 hG5 hg5)
       refine bodyPost_ret (retG Tryz.results221 hG5 rfl) rfl ?_
       rw [HE.out]
       have e7:LL.flatten.length=n:=by rw [HP.out.2.1.box.flen];exact HP.out.2.2.2.1.symm
       exact GPost.yes ⟨X2.out.1.bel.grown hg5 X2.out.1.bel.size (by intro k hk;injection hk with hk;have:=H.out.be;omega),g,k',by rw [e7],by have:=HGK.out;omega,by rw [e7];exact hk1,hk2,X2.out.1.rw_.grown hg5 (by have:=HGK.out;simp;omega)⟩
   · have hx1:x<0:=by omega
     have HE:=Lib.hid (show G=some (cn,rn,LL) from by rw [HP.out.2.2.1,scroll_none z p (.inl hx1)])
     clear hx0
     go_wp2_with (refine wpList_store_G rfl (.tmp 10) (.tmp 31) rfl (b+1+1) gr0 ⟨cn,rn,some ⟨g,0,none⟩,n,k'⟩ rfl rfl X2.out.1.gb ?_;intro w5 hG5 hg5)
     refine bodyPost_ret (retG Tryz.results221 hG5 rfl) rfl ?_
     rw [HE.out]
     have e7:LL.flatten.length=n:=by rw [HP.out.2.1.box.flen];exact HP.out.2.2.2.1.symm
     exact GPost.yes ⟨X2.out.1.bel.grown hg5 X2.out.1.bel.size (by intro k hk;injection hk with hk;have:=H.out.be;omega),g,k',by rw [e7],by have:=HGK.out;omega,by rw [e7];exact hk1,hk2,X2.out.1.rw_.grown hg5 (by have:=HGK.out;simp;omega)⟩
open Go.RowKit
theorem blanks_box (c r:Nat) (p:Pn):Box c r (List.replicate r (blanksS c p)):=by
 refine ⟨by simp,fun y hy=>?_⟩
 rw [lAt_lt (by simpa using hy),List.getElem_replicate,blanks_len]
end Go.Proofs.YtlcipgdnpilkfaaGreatDoor
