/-
  Part 14 of what the laws of emul want: EmulOk.
-/
import Derived.Test.YtlcipgdnpilkfaaGreatDoorPo10
namespace Go.Proofs.YtlcipgdnpilkfaaGreatDoor
theorem gk_blankE {c r:Nat} (h1:1≤c) (h2:c≤80) (h3:1≤r) (h4:r≤24):Gk c r (blankR c r):=by
 have hr:∀ y,y<r→lAt (blankR c r) y=blanksS c pn0:=fun y hy=>by
  unfold lAt blankR
  simp [List.getD,hy]
 exact ⟨⟨by simp [blankR],fun y hy=>by rw [hr y hy];simp [blanksS]⟩,h1,h2,h3,h4,fun y hy=>by rw [hr y hy];exact blanks_ok h1 h2 pn0_may⟩
structure TmOk (t:Tm):Prop where
 gm:Gk t.c t.r t.main
 go:Gk t.c t.r t.other
 x0:0≤t.now.x
 x1:t.now.x<t.c
 y0:0≤t.now.y
 y1:t.now.y<t.r
 pen:PnOk t.now.pen
 sx:0≤t.sav.x
 sy:0≤t.sav.y
 sp:PnOk t.sav.pen
 t0:0≤t.top
 tb:t.top≤t.bot
 b1:t.bot<t.r
 m0:0≤t.mouse∧t.mouse≤2
 tabs:t.tabs.length=80
 tbl:t.table.length≤16
 title:t.title.length≤64∧validS t.title=true∧∀ r∈foldS [] t.title,widthS r≠0
namespace TmOk
variable {t:Tm}
theorem shown (h:TmOk t):Gk t.c t.r t.shown:=by unfold Tm.shown;split;exact h.go;exact h.gm
theorem put (h:TmOk t) {g:Rws} (hg:Gk t.c t.r g):TmOk (t.put g):=by
 unfold Tm.put
 split
 · exact { h with go:=hg }
 · exact { h with gm:=hg }
theorem atX (h:TmOk t) {x:Int} (h0:0≤x) (h1:x<t.c):TmOk (t.atX x):={ h with x0:=h0,x1:=h1 }
theorem atY (h:TmOk t) {y:Int} (h0:0≤y) (h1:y<t.r):TmOk (t.atY y):={ h with y0:=h0,y1:=h1 }
theorem c1 (h:TmOk t):1≤(t.c:Int)∧(t.c:Int)≤80:=by have:=h.gm.c1;have:=h.gm.c80;omega
theorem r1 (h:TmOk t):1≤(t.r:Int)∧(t.r:Int)≤24:=by have:=h.gm.r1;have:=h.gm.r24;omega
theorem scrolled (h:TmOk t) (a b n:Int):TmOk (t.scrolled a b n):=h.put (scroll_ok h.shown a b n h.pen.may)
theorem erased (h:TmOk t) (a b:Int):TmOk (t.erased a b):=h.put (clear_ok h.shown a b h.pen.may)
theorem put_now (t:Tm) (g:Rws):(t.put g).now=t.now∧(t.put g).c=t.c∧(t.put g).r=t.r∧(t.put g).ins=t.ins∧(t.put g).p=t.p:=by unfold Tm.put;split<;>exact ⟨rfl,rfl,rfl,rfl,rfl⟩
theorem down (h:TmOk t):TmOk t.down:=by
 unfold Tm.down
 split
 · exact h.scrolled _ _ _
 · split
   · have:=h.y0;have:=h.y1
     exact h.atY (by omega) (by omega)
   · exact h
theorem up (h:TmOk t):TmOk t.up:=by
 unfold Tm.up
 split
 · exact h.scrolled _ _ _
 · split
   · have:=h.y0;have:=h.y1
     exact h.atY (by omega) (by omega)
   · exact h
theorem home (h:TmOk t):TmOk t.home:=by
 have c1:=h.c1;have r1:=h.r1;have a:=h.t0;have b:=h.tb;have c:=h.b1
 unfold Tm.home
 refine (h.atX (by omega) (by omega)).atY ?_ ?_
 · split<;>omega
 · show (if t.now.org then t.top else 0)<(t.r:Int)
   split<;>omega
theorem restored (h:TmOk t):TmOk t.restored:=by
 have c1:=h.c1;have r1:=h.r1;have a:=h.sx;have b:=h.sy
 exact { h with x0:=by show 0≤min t.sav.x (t.c-1);omega,x1:=by show min t.sav.x (t.c-1)<(t.c:Int);omega,y0:=by show 0≤min t.sav.y (t.r-1);omega,y1:=by show min t.sav.y (t.r-1)<(t.r:Int);omega,pen:=h.sp }
theorem row (h:TmOk t) {f:List Ce→List Ce} (hf:∀ l,(f l).length=l.length) (ho:∀ l,RowOk l→RowOk (f l)):TmOk (t.put (inRowS f t.now.y t.shown)):=h.put (inRow_ok h.shown hf ho _)
theorem letter (h:TmOk t) {r:Int} (hw:0≤widthS r):TmOk (t.letter r):=by
 have key:∀ u:Tm,TmOk u→TmOk (let t:=u.put (inRowS (fun l=>putS l u.now.x r u.now.pen) u.now.y u.shown);if t.now.x+widthS r≥t.c then { t.atX (t.c-1) with last:=r,full:=true } else { t.atX (t.now.x+widthS r) with last:=r,full:=false }):=by
  intro u hu
  have h2:=hu.row (f:=fun l=>putS l u.now.x r u.now.pen) (fun l=>putS_length _ _ _ _) (fun l hl=>put_ok hl _ _ hu.pen.may)
  have h3:=h2.c1;have h4:=h2.x0
  dsimp only
  split
  · exact { h2.atX (x:=((u.put (inRowS (fun l=>putS l u.now.x r u.now.pen) u.now.y u.shown)).c:Int)-1) (by omega) (by omega) with }
  · exact { h2.atX (x:=(u.put (inRowS (fun l=>putS l u.now.x r u.now.pen) u.now.y u.shown)).now.x+widthS r) (by omega) (by omega) with }
 unfold Tm.letter
 dsimp only
 split
 · exact key _ (h.row (fun l=>insertS_length _ _ _ _) (fun l hl=>ins_ok hl _ _ h.pen.may))
 · exact key _ h
theorem inSt_ge (r:Int):∀ l:List (Int × Int × Int),(∀ x∈l,0≤x.2.2)→0≤inSt r l
 | [],_=>by show (0:Int)≤1;omega
 | x :: l,h=>by
  unfold inSt
  split
  · exact h x (by simp)
  · exact inSt_ge r l fun y hy=>h y (by simp [hy])
theorem width_ge (r:Int):0≤widthS r:=by
 unfold widthS
 split
 · exact inSt_ge r stL (by decide)
 · omega
theorem print (h:TmOk t) (r:Int):TmOk (t.print r):=by
 have c1:=h.c1
 unfold Tm.print
 dsimp only
 repeat' split
 · exact h
 · exact (h.atX (by omega) (by omega)).down.letter (width_ge r)
 · exact h
 · exact h.letter (width_ge r)
theorem tab (h:TmOk t):TmOk t.tab:=by
 have c1:=h.c1
 unfold Tm.tab
 split
 · rename_i i hi
   have:=List.mem_range.1 (List.mem_of_find?_eq_some hi)
   exact h.atX (by omega) (by omega)
 · exact h.atX (by omega) (by omega)
theorem tabBack (h:TmOk t):TmOk t.tabBack:=by
 have c1:=h.c1
 unfold Tm.tabBack
 split
 · rename_i i hi
   have:=List.mem_range.1 (List.mem_reverse.1 (List.mem_of_find?_eq_some hi))
   exact h.atX (by omega) (by omega)
 · exact h.atX (by omega) (by omega)
theorem c0 (h:TmOk t) (b:Int):TmOk (t.c0 b):=by
 have c1:=h.c1;have a:=h.x0;have b:=h.x1
 unfold Tm.c0
 repeat' split
 · exact h.atX (by omega) (by omega)
 · exact h.tab
 · exact h.down
 · exact h.atX (by omega) (by omega)
 · exact h
theorem fresh {c r:Nat} (h1:1≤c) (h2:c≤80) (h3:1≤r) (h4:r≤24):TmOk (tmNew c r) where
 gm:=gk_blankE h1 h2 h3 h4
 go:=gk_blankE h1 h2 h3 h4
 x0:=Int.le_refl 0
 x1:=by show (0:Int)<c;omega
 y0:=Int.le_refl 0
 y1:=by show (0:Int)<r;omega
 pen:=pn0_ok 0
 sx:=Int.le_refl 0
 sy:=Int.le_refl 0
 sp:=pn0_ok 0
 t0:=Int.le_refl 0
 tb:=by show (0:Int)≤r-1;omega
 b1:=by show (r:Int)-1<r;omega
 m0:=by show (0:Int)≤0∧(0:Int)≤2;omega
 tabs:=by show tabs0.length=80;decide
 tbl:=by show (0:Nat)≤16;omega
 title:=by have:=title_ok [];rw [show titleF [] []=[] from rfl] at this;exact this
theorem with_p (h:TmOk t) (q:PaS):TmOk { t with p:=q }:={ h with }
theorem notFull (h:TmOk t) (b:Bool):TmOk { t with full:=b }:={ h with }
theorem esc (h:TmOk t) (b:Int):TmOk (t.esc b):=by
 have c1:=h.c1
 unfold Tm.esc
 repeat' split
 · exact { h with sx:=h.x0,sy:=h.y0,sp:=h.pen }
 · exact h.restored
 · exact h.down
 · exact (h.atX (by omega) (by omega)).down
 · exact h.up
 · exact { h with tabs:=by show (t.tabs.set _ true).length=80;rw [List.length_set];exact h.tabs }
 · exact (fresh h.gm.c1 h.gm.c80 h.gm.r1 h.gm.r24).with_p _
 · exact h
theorem showO (h:TmOk t) (o:Bool):TmOk (t.showO o):=by
 unfold Tm.showO
 split
 · exact { h with go:=gk_blankE h.gm.c1 h.gm.c80 h.gm.r1 h.gm.r24 }
 · exact { h with }
theorem mode (h:TmOk t) (n:Int) (on:Bool):TmOk (t.mode n on):=by
 have hm:∀ k:Int,0≤k∧k≤2→TmOk { t with mouse:=k }:=fun k hk=>{ h with m0:=hk }
 unfold Tm.mode
 repeat' split
 all_goals first
  | exact TmOk.home (t:={ t with now:={ t.now with org:=on } }) { h with }
  | exact hm _ (by omega)
  | exact h.showO on
  | exact TmOk.showO (t:={ t with sav:=t.now }) { h with sx:=h.x0,sy:=h.y0,sp:=h.pen } true
  | exact (h.showO false).restored
  | exact h
  | exact { h with }
theorem modes (on:Bool):∀ (l:List Int) {t:Tm},TmOk t→TmOk (l.foldl (fun t n=>t.mode n on) t)
 | [],_,h=>h
 | n :: l,_,h=>modes on l (h.mode n on)
theorem iter {f:Tm→Tm} (hf:∀ t,TmOk t→TmOk (f t)):∀ (n:Nat) {t:Tm},TmOk t→TmOk (iterS f n t)
 | 0,_,h=>h
 | n+1,_,h=>iter hf n (hf _ h)
theorem reset (h:TmOk t):TmOk t.reset:=by
 have r1:=h.r1
 exact { h with pen:=pn0_ok 0,sx:=Int.le_refl 0,sy:=Int.le_refl 0,sp:=pn0_ok 0,t0:=Int.le_refl 0,tb:=by show (0:Int)≤t.r-1;omega,b1:=by show (t.r:Int)-1<t.r;omega }
theorem ite {c:Prop} [Decidable c] {a b:Tm} (ha:TmOk a) (hb:TmOk b):TmOk (if c then a else b):=by split;exact ha;exact hb
theorem edit (h:TmOk t) (a:AcS) (n:Int):TmOk (t.edit a n):=by
 have c1:=h.c1
 unfold Tm.edit
 dsimp only
 repeat' with_reducible refine ite ?_ ?_
 all_goals first
  | exact h
  | exact h.erased _ _
  | exact h.scrolled _ _ _
  | exact (h.atX (by omega) (by omega)).scrolled _ _ _
  | exact h.row (fun l=>insertS_length _ _ _ _) (fun l hl=>ins_ok hl _ _ h.pen.may)
  | exact h.row (fun l=>deleteS_length _ _ _ _) (fun l hl=>del_ok hl _ _ h.pen.may)
  | exact iter (fun t ht=>ht.print t.last) _ h
  | exact { h with tabs:=by show (t.tabs.set _ false).length=80;rw [List.length_set];exact h.tabs }
  | exact { h with tabs:=by show (List.replicate 80 false).length=80;simp }
  | exact { h with }
theorem iteH {c:Prop} [Decidable c] {a b:Tm} (ha:c→TmOk a) (hb:TmOk b):TmOk (if c then a else b):=by split<;>simp_all
theorem numP_ge {l:List Int} (hl:∀ z∈l,0≤z∧z≤9999) (i:Nat) {o:Int} (ho:1≤o):1≤numP l i o:=by
 unfold numP
 split
 · exact ho
 · by_cases hi:i<l.length
   · rename_i hne
     rw [getD_lt hi] at hne ⊢
     have:=(hl _ (List.getElem_mem hi)).1
     omega
   · rename_i hne
     exact absurd (by simp [List.getD,List.getElem?_eq_none (Nat.le_of_not_lt hi)]) hne
theorem csi (h:TmOk t) {a:AcS} (hl:∀ z∈a.ps,0≤z∧z≤9999):TmOk (t.csi a):=by
 have c1:=h.c1;have r1:=h.r1;have x0:=h.x0;have x1:=h.x1;have y0:=h.y0;have y1:=h.y1;have t0:=h.t0;have tb:=h.tb;have b1:=h.b1
 have n1:=numP_ge hl 0 (o:=1) (by omega)
 have n2:=numP_ge hl 1 (o:=1) (by omega)
 have n3:=numP_ge hl 1 (o:=t.r) (by omega)
 unfold Tm.csi
 dsimp only
 generalize numP a.ps 0 1=n at n1 ⊢
 generalize numP a.ps 1 1=n' at n2 ⊢
 generalize numP a.ps 1 (t.r:Int)=m at n3 ⊢
 have hU:∀ y:Int,y=(if t.now.y≥t.top then max (t.now.y-n) t.top else max (t.now.y-n) 0)→0≤y∧y<t.r:=fun y e=>by split at e<;>omega
 have hD:∀ y:Int,y=(if t.now.y≤t.bot then min (t.now.y+n) t.bot else min (t.now.y+n) (t.r-1))→0≤y∧y<t.r:=fun y e=>by split at e<;>omega
 have hT:∀ y:Int,y=(if t.now.org then min (t.top+n-1) t.bot else min (n-1) (t.r-1))→0≤y∧y<t.r:=fun y e=>by split at e<;>omega
 generalize (if t.now.y≥t.top then max (t.now.y-n) t.top else max (t.now.y-n) 0)=yu at hU ⊢
 generalize (if t.now.y≤t.bot then min (t.now.y+n) t.bot else min (t.now.y+n) ((t.r:Int)-1))=yd at hD ⊢
 generalize (if t.now.org=true then min (t.top+n-1) t.bot else min (n-1) ((t.r:Int)-1))=yt at hT ⊢
 have hU:=hU _ rfl
 have hD:=hD _ rfl
 have hT:=hT _ rfl
 repeat' with_reducible refine iteH (fun _=>?_) ?_
 all_goals first
  | exact modes _ _ h
  | exact h.reset
  | exact h
  | exact h.atY (by omega) (by omega)
  | exact (h.atY (y:=yu) (by omega) (by omega)).atX (Int.le_refl 0) (by show (0:Int)<t.c;omega)
  | exact (h.atY (y:=yd) (by omega) (by omega)).atX (Int.le_refl 0) (by show (0:Int)<t.c;omega)
  | exact h.atX (by omega) (by omega)
  | exact (h.atY (y:=yt) (by omega) (by omega)).atX (x:=min (n'-1) (t.c-1)) (by omega) (by show min (n'-1) ((t.c:Int)-1)<t.c;omega)
  | exact iter (fun t ht=>ht.tab) _ h
  | exact iter (fun t ht=>ht.tabBack) _ h
  | exact h.restored
  | exact { h with sx:=h.x0,sy:=h.y0,sp:=h.pen }
  | exact { h with pen:=(pens_ok h.pen fun z hz=>(hl z hz).1).1 }
  | exact h.edit a n
  | exact TmOk.home (t:={ t with top:=n-1,bot:=min m t.r-1 }) { h with t0:=by show 0≤n-1;omega,tb:=by show n-1≤min m (t.r:Int)-1;omega,b1:=by show min m (t.r:Int)-1<t.r;omega }
theorem intern_len {l:List ByteArray} (s:ByteArray) (h:l.length≤16):(internS l s).1.length≤16:=by
 unfold internS
 by_cases h1:mayT s=false
 · rw [if_pos h1];exact Nat.zero_le _
 rw [if_neg h1]
 by_cases h2:placeI l s≠-1
 · rw [if_pos h2];exact h
 rw [if_neg h2]
 by_cases h3:placeI l eT≠-1
 · rw [if_pos h3];show (l.set _ _).length≤16;rw [List.length_set];exact h
 rw [if_neg h3]
 by_cases h4:l.length<16
 · rw [if_pos h4];show (l ++ [s]).length≤16;rw [List.length_append,List.length_singleton];omega
 · rw [if_neg h4];exact Nat.zero_le _
theorem lead (h:TmOk t) (s:ByteArray):TmOk (t.lead s):=by
 have hp:∀ (l:Int) (tb:List ByteArray),tb.length≤16→TmOk { t with table:=tb,now:={ t.now with pen:={ t.now.pen with lk:=l } } }:=fun l tb hb=>{ h with pen:=⟨h.pen.fg,h.pen.bg,h.pen.f0,h.pen.b0,h.pen.st⟩,tbl:=hb }
 have h1:=intern_len s h.tbl
 have h2:=fun u=>intern_len s (Nat.le_trans (sweepS_len t.table u) h.tbl)
 unfold Tm.lead
 dsimp only
 by_cases e0:s=eT
 · rw [if_pos e0];exact hp 0 _ h.tbl
 rw [if_neg e0]
 by_cases e1:(internS t.table s).2.2=11
 · rw [if_pos e1]
   exact ite (hp _ _ (h2 _)) (hp 0 _ h.tbl)
 · rw [if_neg e1]
   exact ite (hp _ _ h1) (hp 0 _ h.tbl)
theorem osc (h:TmOk t) (b:List Int):TmOk (t.osc b):=by
 unfold Tm.osc
 repeat' split
 all_goals first
  | exact h
  | exact { h with title:=title_ok _ }
  | exact h.lead _
  | (dsimp only;repeat' split)<;>first | exact h | exact { h with title:=title_ok _ } | exact h.lead _
theorem doA (h:TmOk t) (a:AcS):TmOk (t.doA a):=by
 unfold Tm.doA
 by_cases hm:mayAct a=false
 · rw [if_pos hm];exact h
 rw [if_neg hm]
 have hl:∀ z∈a.ps,0≤z∧z≤9999:=by
  have h1:mayAct a=true:=by simpa using hm
  unfold mayAct at h1
  simp only [Bool.and_eq_true,List.all_eq_true,decide_eq_true_eq] at h1
  exact h1.2
 repeat' split
 all_goals first
  | exact h.print _
  | exact (h.notFull false).c0 _
  | exact (h.notFull false).esc _
  | exact h.notFull false
  | exact (h.notFull false).csi hl
  | exact h.csi hl
  | exact h.osc _
  | exact h
theorem all (h:TmOk t):∀ (l:List AcS) {t:Tm},TmOk t→TmOk (l.foldl Tm.doA t)
 | [],_,h=>h
 | a :: l,_,h'=>all h l (h'.doA a)
theorem byte (h:TmOk t) (b:Int):TmOk (t.byte b):=all h _ (h.with_p _)
theorem feed:∀ (l:List Int) {t:Tm},TmOk t→TmOk (t.feed l)
 | [],_,h=>h
 | b :: l,_,h=>feed l (h.byte b)
end TmOk
/-! ### Its screen -/
theorem cAt_map (g:Ce→Ce) {L:List Ce} {i:Nat} (h:i<L.length):cAt (L.map g) i=g (cAt L i):=by
 rw [cAt_lt (by rw [List.length_map];exact h),cAt_lt h,List.getElem_map]
theorem lk_row {L:List Ce} (f:Int→Int) (h:RowOk L):RowOk (L.map fun c=>setLk c (f c.p.lk)):=by
 have hl:(L.map fun c=>setLk c (f c.p.lk)).length=L.length:=List.length_map _
 refine ⟨by rw [hl];exact h.pos,by rw [hl];exact h.le,fun i hi=>?_⟩
 rw [hl] at hi
 obtain ⟨a,b,c⟩:=h.at_ i hi
 unfold OkAt
 rw [hl,cAt_map _ hi]
 refine ⟨a,fun e=>?_,fun e=>?_⟩
 · obtain ⟨b1,b2⟩:=b e
   refine ⟨b1,?_⟩
   rw [cAt_map _ b1,b2]
   rfl
 · obtain ⟨c1,c2⟩:=c e
   refine ⟨c1,?_⟩
   rw [cAt_map _ (by omega)]
   exact c2
theorem lk_grid {c r:Nat} {LL:Rws} (f:Int→Int) (h:Gk c r LL):Gk c r (LL.map fun L=>L.map fun c=>setLk c (f c.p.lk)):=by
 have hr:∀ y,y<r→lAt (LL.map fun L=>L.map fun c=>setLk c (f c.p.lk)) y=(lAt LL y).map fun c=>setLk c (f c.p.lk):=by
  intro y hy
  have:y<LL.length:=by rw [h.box.len];exact hy
  simp [lAt,List.getD,List.getElem?_eq_getElem this]
 exact ⟨⟨by rw [List.length_map];exact h.box.len,fun y hy=>by rw [hr y hy,List.length_map];exact h.box.row y hy⟩,h.c1,h.c80,h.r1,h.r24,fun y hy=>by rw [hr y hy];exact lk_row f (h.ok y hy)⟩
theorem screen_right {t:Tm} (h:TmOk t):rightSc t.screen=true:=by
 have e:canonC t.shown.flatten t.table=(t.shown.map fun L=>L.map fun c=>setLk c (numI (canonL t.shown.flatten t.table) (leadsS t.table c.p.lk))).flatten:=by
  rw [← List.map_flatten];rfl
 have hg:gridMay (t.c:Int) (t.r:Int) (canonC t.shown.flatten t.table)=true:=by
  rw [e]
  exact (lk_grid (fun n=>numI (canonL t.shown.flatten t.table) (leadsS t.table n)) h.shown).may
 have ho:=ord_again (cs:=t.shown.flatten) h.tbl
 unfold rightSc Tm.screen
 dsimp only
 rw [hg,ho,decide_eq_true (show 0≤t.now.x∧t.now.x<(t.c:Int)∧0≤t.now.y∧t.now.y<(t.r:Int) from ⟨h.x0,h.x1,h.y0,h.y1⟩),decide_eq_true h.m0.2,decide_eq_true h.title.1,h.title.2.1]
 simp only [Bool.true_and,List.all_eq_true,decide_eq_true_eq]
 exact h.title.2.2
end Go.Proofs.YtlcipgdnpilkfaaGreatDoor
