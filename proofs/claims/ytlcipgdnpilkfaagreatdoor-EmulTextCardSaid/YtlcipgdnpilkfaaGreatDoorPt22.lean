/-
  Part 22 of what the laws of emul want: EmulDeedS, EmulLeaf.
-/
import Derived.StillTailTactics
import Derived.RegionTactic
import Derived.Deep.RegionHeld3
import Derived.Deep.MidRow
import Derived.Test.YtlcipgdnpilkfaaGreatDoorPt16
import Derived.Test.YtlcipgdnpilkfaaGreatDoorPt21
namespace Go.Proofs.YtlcipgdnpilkfaaGreatDoor
inductive Dd
 | left
 | tabAhead
 | lineDown
 | lineStart
 | save
 | restore
 | nextLine
 | lineUp
 | setTab
 | reset
 | up
 | down
 | right
 | startsDown
 | startsUp
 | toColumn
 | toRow
 | toPlace
 | tabBack
 | takeTabs
 | setMargins
 | insert
 | takeOut
 | eraseSome
 | eraseScreen
 | eraseRow
 | insertRows
 | takeOutRows
 | scrollUp
 | scrollDown
 | again
 | setPlain
 | unsetPlain
 | look
 | setPrivate
 | unsetPrivate
 | softReset
def Dd.run (d:Dd) (ps:List Int) (t:Tm):Tm :=
 let n:=numP ps 0 1
 let p:=numP ps 0 0
 let upY:=if t.now.y≥t.top then max (t.now.y-n) t.top else max (t.now.y-n) 0
 let dnY:=if t.now.y≤t.bot then min (t.now.y+n) t.bot else min (t.now.y+n) (t.r-1)
 let toY:=if t.now.org then min (t.top+n-1) t.bot else min (n-1) (t.r-1)
 let row (f:List Ce→List Ce):Tm:=t.put (inRowS f t.now.y t.shown)
 match d with
 | .left=>t.atX (max (t.now.x-n) 0)
 | .tabAhead=>iterS Tm.tab n.toNat t
 | .lineDown=>t.down
 | .lineStart=>t.atX 0
 | .save=>{ t with sav:=t.now }
 | .restore=>t.restored
 | .nextLine=>(t.atX 0).down
 | .lineUp=>t.up
 | .setTab=>{ t with tabs:=t.tabs.set t.now.x.toNat true }
 | .reset=>{ tmNew t.c t.r with p:=t.p }
 | .softReset=>t.reset
 | .up=>t.atY upY
 | .down=>t.atY dnY
 | .right=>t.atX (min (t.now.x+n) (t.c-1))
 | .startsDown=>(t.atY dnY).atX 0
 | .startsUp=>(t.atY upY).atX 0
 | .toColumn=>t.atX (min (n-1) (t.c-1))
 | .toRow=>t.atY toY
 | .toPlace=>(t.atY toY).atX (min (numP ps 1 1-1) (t.c-1))
 | .tabBack=>iterS Tm.tabBack n.toNat t
 | .takeTabs=>if p=0 then { t with tabs:=t.tabs.set t.now.x.toNat false } else if p=3 then { t with tabs:=List.replicate 80 false } else t
 | .setMargins=>let b:=min (numP ps 1 t.r) t.r;if n<b then { t with top:=n-1,bot:=b-1 }.home else t
 | .insert=>row fun l=>insertS l t.now.x n t.now.pen
 | .takeOut=>row fun l=>deleteS l t.now.x n t.now.pen
 | .eraseSome=>row fun l=>eraseS l t.now.x (t.now.x+n) t.now.pen
 | .eraseRow=>if p=0 then row (fun l=>eraseS l t.now.x t.c t.now.pen) else if p=1 then row (fun l=>eraseS l 0 (t.now.x+1) t.now.pen) else if p=2 then row (fun l=>eraseS l 0 t.c t.now.pen) else row (fun l=>eraseS l 0 0 t.now.pen)
 | .eraseScreen=>if p=0 then t.erased (t.now.y*t.c+t.now.x) (t.r*t.c:Nat) else if p=1 then t.erased 0 (t.now.y*t.c+t.now.x+1) else if p=2 then t.erased 0 (t.r*t.c:Nat) else t.erased 0 0
 | .insertRows=>if t.top≤t.now.y∧t.now.y≤t.bot then (t.scrolled t.now.y t.bot (-n)).atX 0 else t
 | .takeOutRows=>if t.top≤t.now.y∧t.now.y≤t.bot then (t.scrolled t.now.y t.bot n).atX 0 else t
 | .scrollUp=>t.scrolled t.top t.bot n
 | .scrollDown=>t.scrolled t.top t.bot (-n)
 | .again=>iterS (fun t=>t.print t.last) (min n.toNat (t.r*t.c)) t
 | .setPlain=>if 4∈ps then { t with ins:=true } else t
 | .unsetPlain=>if 4∈ps then { t with ins:=false } else t
 | .look=>{ t with now:={ t.now with pen:=pensP t.now.pen ps } }
 | .setPrivate=>ps.foldl (fun t n=>t.mode n true) t
 | .unsetPrivate=>ps.foldl (fun t n=>t.mode n false) t
def c0D (f:Int):Option Dd :=
 if f=8 then some .left else if f=9 then some .tabAhead else if f=10 then some .lineDown else if f=11 then some .lineDown else if f=12 then some .lineDown else if f=13 then some .lineStart else none
def escD (f:Int):Option Dd :=
 if f=55 then some .save else if f=56 then some .restore else if f=68 then some .lineDown else if f=69 then some .nextLine else if f=77 then some .lineUp else if f=72 then some .setTab else if f=99 then some .reset else none
def movD (f:Int):Option Dd :=
 if f=65 then some .up else if f=66 then some .down else if f=101 then some .down else if f=67 then some .right else if f=97 then some .right else if f=68 then some .left else if f=69 then some .startsDown else if f=70 then some .startsUp else if f=71 then some .toColumn else if f=96 then some .toColumn else if f=100 then some .toRow else if f=72 then some .toPlace else if f=102 then some .toPlace else if f=73 then some .tabAhead else if f=90 then some .tabBack else if f=103 then some .takeTabs else if f=114 then some .setMargins else if f=115 then some .save else if f=117 then some .restore else none
def wrtD (f:Int):Option Dd :=
 if f=64 then some .insert else if f=80 then some .takeOut else if f=88 then some .eraseSome else if f=74 then some .eraseScreen else if f=75 then some .eraseRow else if f=76 then some .insertRows else if f=77 then some .takeOutRows else if f=83 then some .scrollUp else if f=84 then some .scrollDown else if f=98 then some .again else if f=104 then some .setPlain else if f=108 then some .unsetPlain else if f=109 then some .look else none
def prvD (f:Int):Option Dd :=
 if f=104 then some .setPrivate else if f=108 then some .unsetPrivate else none
def seqD (m f:Int):Option Dd:=if m=0 then (movD f).or (wrtD f) else if m=63 then prvD f else if m=33 then (if f=112 then some .softReset else none) else none
def runD (d:Option Dd) (ps:List Int) (t:Tm):Tm:=match d with | none=>t | some d=>d.run ps t
/-! ### The same as the chapter's -/
theorem put_shown (t:Tm):t.put t.shown=t:=by
 unfold Tm.put Tm.shown
 by_cases h:t.isO=true
 · rw [if_pos h,if_pos h]
 · rw [if_neg h,if_neg h]
theorem erase_none (L:List Ce) {a b:Int} (p:Pn) (h:min b L.length≤max a 0):eraseS L a b p=L:=by
 unfold eraseS
 dsimp only
 rw [if_neg (by omega)]
theorem erase_cut (L:List Ce) {a b a' b':Int} (p:Pn) (ha:max a 0=max a' 0) (hb:min b L.length=min b' L.length):eraseS L a b p=eraseS L a' b' p:=by
 unfold eraseS
 dsimp only
 rw [ha,hb]
theorem clear_row {c r:Nat} {LL:Rws} (h:Box c r LL) {y:Nat} (hy:y<r) {x z:Int} (p:Pn) (hx:0≤x) (hz:z≤c):clearS c LL ((y:Int)*c+x) ((y:Int)*c+z) p=inRowS (fun l=>eraseS l x z p) (y:Int) LL:=by
 have hl:LL.length=r:=h.len
 have e1:inRowS (fun l=>eraseS l x z p) (y:Int) LL=LL.set y (eraseS (lAt LL y) x z p):=by
  unfold inRowS
  rw [if_pos (by omega),Int.toNat_natCast]
 rw [e1]
 refine rws_ext (by simp [clearS]) fun i hi=>?_
 have hi : i < r := by have : (clearS c LL ((y : Int) * c + x) ((y : Int) * c + z) p).length = LL.length := by simp [clearS]
                       omega
 unfold clearS
 rw [lAt_map,if_pos (by omega),lAt_set]
 have hc:=h.row i hi
 by_cases e:i=y
 · subst e
   rw [if_pos ⟨rfl,by omega⟩]
   refine erase_cut _ p ?_ ?_
   · rw [Int.natCast_mul];omega
   · rw [Int.natCast_mul];omega
 · rw [if_neg (fun h=>e h.1)]
   refine erase_none _ p ?_
   rw [hc]
   rcases Nat.lt_or_ge i y with h1 | h1
   · have h2:(i+1)*c≤y*c:=Nat.mul_le_mul_right c h1
     rw [Nat.succ_mul] at h2
     have h3:((i*c:Nat):Int)+c≤(y:Int)*c:=by rw [← Int.natCast_mul];omega
     omega
   · have h2:(y+1)*c≤i*c:=Nat.mul_le_mul_right c (show y+1≤i by omega)
     rw [Nat.succ_mul] at h2
     have h3:(y:Int)*c+c≤((i*c:Nat):Int):=by rw [← Int.natCast_mul];omega
     omega
theorem clear_none {c:Nat} (LL:Rws) (p:Pn):clearS c LL 0 0 p=LL:=by
 refine rws_ext (by simp [clearS]) fun i hi=>?_
 unfold clearS at hi ⊢
 rw [lAt_map,if_pos (by simpa using hi)]
 exact erase_none _ p (by omega)
namespace TmOk
variable {t:Tm}
theorem rowAt (h:TmOk t):∃ y:Nat,t.now.y=(y:Int)∧y<t.r:=⟨t.now.y.toNat,by have:=h.y0;omega,by have:=h.y1;have:=h.y0;omega⟩
theorem erasedRow (h:TmOk t) {x z:Int} (hx:0≤x) (hz:z≤t.c):t.erased (t.now.y*t.c+x) (t.now.y*t.c+z)=t.put (inRowS (fun l=>eraseS l x z t.now.pen) t.now.y t.shown):=by
 obtain ⟨y,hy,hl⟩:=h.rowAt
 unfold Tm.erased
 rw [hy,clear_row h.shown.box hl _ hx hz]
theorem erased0 (_:TmOk t):t.erased 0 0=t:=by unfold Tm.erased;rw [clear_none,put_shown]
theorem row0 (h:TmOk t):t.put (inRowS (fun l=>eraseS l 0 0 t.now.pen) t.now.y t.shown)=t:=by
 obtain ⟨y,hy,hl⟩:=h.rowAt
 have e:(fun l:List Ce=>eraseS l 0 0 t.now.pen)=id:=by
  funext l
  exact erase_none l _ (by omega)
 rw [e,hy]
 unfold inRowS
 have hb:=h.shown.box.len
 rw [if_pos (by omega),Int.toNat_natCast,id,lAt_lt (by omega),List.set_getElem_self,put_shown]
theorem someRow (h:TmOk t) (n:Int):t.erased (t.now.y*t.c+t.now.x) (min (t.now.y*t.c+t.now.x+n) (t.now.y*t.c+t.c))=t.put (inRowS (fun l=>eraseS l t.now.x (t.now.x+n) t.now.pen) t.now.y t.shown):=by
 have h1:=h.x0;have h2:=h.x1
 have e:min (t.now.y*t.c+t.now.x+n) (t.now.y*t.c+t.c)=t.now.y*t.c+min (t.now.x+n) t.c:=by omega
 rw [e,h.erasedRow h1 (by omega)]
 obtain ⟨y,hy,hl⟩:=h.rowAt
 have hb:=h.shown.box
 rw [hy]
 unfold inRowS
 rw [if_pos (by have:=hb.len;omega),if_pos (by have:=hb.len;omega),Int.toNat_natCast]
 congr 2
 refine erase_cut _ _ rfl ?_
 rw [hb.row y hl]
 omega
end TmOk
theorem atX_self {t:Tm} {x:Int} (h:t.now.x=x):t.atX x=t:=by rw [← h];rfl
theorem tab_ge (t:Tm):t.tab.now.x=t.c-1∨t.now.x<t.tab.now.x:=by
 unfold Tm.tab
 split
 · rename_i i hi
   have:=List.find?_some hi
   simp only [Bool.and_eq_true,decide_eq_true_eq] at this
   exact .inr this.1
 · exact .inl rfl
theorem tab_end {t:Tm} (h:t.now.x=t.c-1):t.tab=t:=by
 unfold Tm.tab
 split
 · rename_i i hi
   have h1:=List.find?_some hi
   have h2:=List.mem_range.1 (List.mem_of_find?_eq_some hi)
   simp only [Bool.and_eq_true,decide_eq_true_eq] at h1
   omega
 · exact atX_self h
theorem tab_c (t:Tm):t.tab.c=t.c:=by unfold Tm.tab;split<;>rfl
theorem iter_stay {α:Type} {f:α→α} {a:α} (h:f a=a):∀ n,iterS f n a=a
 | 0=>rfl
 | n+1=>by unfold iterS;rw [h];exact iter_stay h n
theorem iter_add {α:Type} (f:α→α) (m:Nat):∀ (n:Nat) (a:α),iterS f (n+m) a=iterS f m (iterS f n a)
 | 0,a=>by rw [Nat.zero_add];rfl
 | n+1,a=>by rw [Nat.succ_add];exact iter_add f m n (f a)
theorem iter_succ {α:Type} (f:α→α) (n:Nat) (a:α):iterS f (n+1) a=f (iterS f n a):=by
 rw [iter_add f 1 n a];rfl
theorem tabs_far:∀ (n:Nat) (t:Tm),(iterS Tm.tab n t).c=t.c∧((iterS Tm.tab n t).now.x=t.c-1∨t.now.x+n≤(iterS Tm.tab n t).now.x)
 | 0,t=>⟨rfl,.inr (by show t.now.x+((0:Nat):Int)≤t.now.x;omega)⟩
 | n+1,t=>by
  obtain ⟨h1,h2⟩:=tabs_far n t
  rw [iter_succ]
  generalize iterS Tm.tab n t=u at h1 h2 ⊢
  refine ⟨(tab_c u).trans h1,?_⟩
  rcases h2 with h2 | h2
  · rw [tab_end (by omega)];exact .inl h2
  · rcases tab_ge u with h3 | h3
    · exact .inl (by omega)
    · exact .inr (by omega)
theorem tabs_all {t:Tm} (h:TmOk t) (n:Nat):iterS Tm.tab n t=iterS Tm.tab (min n 80) t:=by
 by_cases hn:n≤80
 · rw [Nat.min_eq_left hn]
 · rw [Nat.min_eq_right (by omega),show n=80+(n-80) by omega,iter_add]
   obtain ⟨h1,h2⟩:=tabs_far 80 t
   have h3:=(TmOk.iter (fun t ht=>ht.tab) 80 h).x1
   have h4:=h.x0;have h5:=h.c1
   exact iter_stay (tab_end (by omega)) _
theorem back_le (t:Tm):t.tabBack.now.x=0∨t.tabBack.now.x<t.now.x∧0≤t.tabBack.now.x:=by
 unfold Tm.tabBack
 split
 · rename_i i hi
   have:=List.find?_some hi
   simp only [Bool.and_eq_true,decide_eq_true_eq] at this
   exact .inr ⟨this.1.2,by show (0:Int)≤(i:Int);omega⟩
 · exact .inl rfl
theorem back_end {t:Tm} (h:t.now.x=0):t.tabBack=t:=by
 unfold Tm.tabBack
 split
 · rename_i i hi
   have h1:=List.find?_some hi
   simp only [Bool.and_eq_true,decide_eq_true_eq] at h1
   omega
 · exact atX_self h
theorem backs_far:∀ (n:Nat) {t:Tm},0≤t.now.x→0≤(iterS Tm.tabBack n t).now.x∧((iterS Tm.tabBack n t).now.x=0∨(iterS Tm.tabBack n t).now.x+n≤t.now.x)
 | 0,t,h=>⟨h,.inr (by show t.now.x+((0:Nat):Int)≤t.now.x;omega)⟩
 | n+1,t,h=>by
  obtain ⟨h1,h2⟩:=backs_far n h
  rw [iter_succ]
  generalize iterS Tm.tabBack n t=u at h1 h2 ⊢
  rcases h2 with h2 | h2
  · rw [back_end h2];exact ⟨h1,.inl h2⟩
  · rcases back_le u with h3 | h3
    · exact ⟨by omega,.inl h3⟩
    · exact ⟨by omega,.inr (by omega)⟩
theorem backs_all {t:Tm} (h:TmOk t) (n:Nat):iterS Tm.tabBack n t=iterS Tm.tabBack (min n 80) t:=by
 by_cases hn:n≤80
 · rw [Nat.min_eq_left hn]
 · rw [Nat.min_eq_right (by omega),show n=80+(n-80) by omega,iter_add]
   obtain ⟨h1,h2⟩:=backs_far 80 h.x0
   have h4:=h.x1;have h5:=h.c1
   exact iter_stay (back_end (by omega)) _
theorem width_zero:widthS 0=0:=by decide
theorem print_zero (t:Tm):t.print 0=t:=by
 unfold Tm.print
 dsimp only
 rw [if_pos (.inl width_zero)]
theorem atX_scrolled (t:Tm) (x a b n:Int):(t.atX x).scrolled a b n=(t.scrolled a b n).atX x:=by
 unfold Tm.scrolled Tm.put
 by_cases h:t.isO=true
 · rw [if_pos h,if_pos (show (t.atX x).isO=true from h)];rfl
 · rw [if_neg h,if_neg (show ¬ (t.atX x).isO=true from h)];rfl
/-! ### Which deed an act is -/
theorem c0_deed (t:Tm) (b:Int):t.c0 b=runD (c0D b) [] t:=by
 unfold Tm.c0
 by_cases h8:b=8
 · subst h8;show t.atX (max 0 (t.now.x-1))=t.atX (max (t.now.x-1) 0);rw [Int.max_comm]
 by_cases h9:b=9
 · subst h9;rfl
 by_cases h10:b=10
 · subst h10;rfl
 by_cases h11:b=11
 · subst h11;rfl
 by_cases h12:b=12
 · subst h12;rfl
 by_cases h13:b=13
 · subst h13;rfl
 rw [if_neg h8,if_neg h9,if_neg (by omega),if_neg h13]
 unfold c0D
 rw [if_neg h8,if_neg h9,if_neg h10,if_neg h11,if_neg h12,if_neg h13]
 rfl
theorem esc_deed (t:Tm) (b:Int):t.esc b=runD (escD b) [] t:=by
 unfold Tm.esc
 by_cases h55:b=55
 · subst h55;rfl
 by_cases h56:b=56
 · subst h56;rfl
 by_cases h68:b=68
 · subst h68;rfl
 by_cases h69:b=69
 · subst h69;rfl
 by_cases h77:b=77
 · subst h77;rfl
 by_cases h72:b=72
 · subst h72;rfl
 by_cases h99:b=99
 · subst h99;rfl
 rw [if_neg h55,if_neg h56,if_neg h68,if_neg h69,if_neg h77,if_neg h72,if_neg h99]
 unfold escD
 rw [if_neg h55,if_neg h56,if_neg h68,if_neg h69,if_neg h77,if_neg h72,if_neg h99]
 rfl
theorem csi_deed {t:Tm} (h:TmOk t) {a:AcS} (hl:∀ z∈a.ps,0≤z∧z≤9999):t.csi a=runD (seqD a.m a.fin) a.ps t:=by
 obtain ⟨k,r,m,f,ps,tx⟩:=a
 have n1:=TmOk.numP_ge hl 0 (o:=1) (by omega)
 dsimp only at n1 hl ⊢
 by_cases hm63:m=63
 · subst hm63
   by_cases h104:f=104
   · subst h104;rfl
   by_cases h108:f=108
   · subst h108;rfl
   have e:seqD 63 f=none:=by
    show prvD f=none
    unfold prvD
    rw [if_neg h104,if_neg h108]
   rw [e]
   unfold Tm.csi
   dsimp only
   rw [if_neg (by omega),if_neg (by omega),if_pos (by decide)]
   rfl
 by_cases hm33:m=33
 · subst hm33
   by_cases h112:f=112
   · subst h112;rfl
   have e:seqD 33 f=none:=by
    show (if f=112 then some Dd.softReset else none)=none
    rw [if_neg h112]
   rw [e]
   unfold Tm.csi
   dsimp only
   rw [if_neg (by omega),if_neg (by omega),if_pos (by decide)]
   rfl
 by_cases hm0:¬ m=0
 · have e:seqD m f=none:=by
    unfold seqD
    rw [if_neg hm0,if_neg hm63,if_neg hm33]
   rw [e]
   unfold Tm.csi
   dsimp only
   rw [if_neg (by omega),if_neg (by omega),if_pos hm0]
   rfl
 have hm0:m=0:=Classical.not_not.1 hm0
 subst hm0
 by_cases h65:f=65
 · subst h65
   rfl
 by_cases h66:f=66
 · subst h66
   rfl
 by_cases h101:f=101
 · subst h101
   rfl
 by_cases h67:f=67
 · subst h67
   rfl
 by_cases h97:f=97
 · subst h97
   rfl
 by_cases h68:f=68
 · subst h68
   rfl
 by_cases h69:f=69
 · subst h69
   rfl
 by_cases h70:f=70
 · subst h70
   rfl
 by_cases h71:f=71
 · subst h71
   rfl
 by_cases h96:f=96
 · subst h96
   rfl
 by_cases h100:f=100
 · subst h100
   rfl
 by_cases h72:f=72
 · subst h72
   rfl
 by_cases h102:f=102
 · subst h102
   rfl
 by_cases h73:f=73
 · subst h73
   show iterS Tm.tab (min (numP ps 0 1).toNat 80) t=iterS Tm.tab (numP ps 0 1).toNat t
   exact (tabs_all h _).symm
 by_cases h90:f=90
 · subst h90
   show iterS Tm.tabBack (min (numP ps 0 1).toNat 80) t=iterS Tm.tabBack (numP ps 0 1).toNat t
   exact (backs_all h _).symm
 by_cases h103:f=103
 · subst h103
   rfl
 by_cases h114:f=114
 · subst h114
   rfl
 by_cases h115:f=115
 · subst h115
   rfl
 by_cases h117:f=117
 · subst h117
   rfl
 by_cases h64:f=64
 · subst h64
   rfl
 by_cases h80:f=80
 · subst h80
   rfl
 by_cases h88:f=88
 · subst h88
   exact h.someRow _
 by_cases h74:f=74
 · subst h74
   show (if numP ps 0 0=0 then t.erased (t.now.y*t.c+t.now.x) ((t.c:Int)*t.r) else if numP ps 0 0=1 then t.erased 0 (t.now.y*t.c+t.now.x+1) else if numP ps 0 0=2 then t.erased 0 ((t.c:Int)*t.r) else t) =
    (if numP ps 0 0=0 then t.erased (t.now.y*t.c+t.now.x) ((t.r*t.c:Nat):Int) else if numP ps 0 0=1 then t.erased 0 (t.now.y*t.c+t.now.x+1) else if numP ps 0 0=2 then t.erased 0 ((t.r*t.c:Nat):Int) else t.erased 0 0)
   rw [h.erased0,show ((t.r*t.c:Nat):Int)=(t.c:Int)*t.r by rw [Int.natCast_mul,Int.mul_comm]]
 by_cases h75:f=75
 · subst h75
   show (if numP ps 0 0=0 then t.erased (t.now.y*t.c+t.now.x) (t.now.y*t.c+t.c) else if numP ps 0 0=1 then t.erased (t.now.y*t.c) (t.now.y*t.c+t.now.x+1) else if numP ps 0 0=2 then t.erased (t.now.y*t.c) (t.now.y*t.c+t.c) else t) =
    (if numP ps 0 0=0 then t.put (inRowS (fun l=>eraseS l t.now.x t.c t.now.pen) t.now.y t.shown) else if numP ps 0 0=1 then t.put (inRowS (fun l=>eraseS l 0 (t.now.x+1) t.now.pen) t.now.y t.shown) else if numP ps 0 0=2 then t.put (inRowS (fun l=>eraseS l 0 t.c t.now.pen) t.now.y t.shown) else t.put (inRowS (fun l=>eraseS l 0 0 t.now.pen) t.now.y t.shown))
   have e1:=h.erasedRow (x:=0) (z:=t.now.x+1) (by omega) (by have:=h.x1;omega)
   have e2:=h.erasedRow (x:=0) (z:=t.c) (by omega) (by omega)
   rw [Int.add_zero] at e1 e2
   rw [h.row0,← e1,← e2,h.erasedRow h.x0 (Int.le_refl _),Int.add_assoc]
 by_cases h76:f=76
 · subst h76
   show (if t.top≤t.now.y∧t.now.y≤t.bot then (t.atX 0).scrolled t.now.y t.bot (if (76:Int)=76 then -numP ps 0 1 else numP ps 0 1) else t)=(if t.top≤t.now.y∧t.now.y≤t.bot then (t.scrolled t.now.y t.bot (-numP ps 0 1)).atX 0 else t)
   rw [if_pos (rfl:(76:Int)=76),atX_scrolled]
 by_cases h77:f=77
 · subst h77
   show (if t.top≤t.now.y∧t.now.y≤t.bot then (t.atX 0).scrolled t.now.y t.bot (if (77:Int)=76 then -numP ps 0 1 else numP ps 0 1) else t)=(if t.top≤t.now.y∧t.now.y≤t.bot then (t.scrolled t.now.y t.bot (numP ps 0 1)).atX 0 else t)
   rw [if_neg (by decide:¬ (77:Int)=76),atX_scrolled]
 by_cases h83:f=83
 · subst h83
   rfl
 by_cases h84:f=84
 · subst h84
   rfl
 by_cases h98:f=98
 · subst h98
   show (if t.last=0 then t else iterS (fun t=>t.print t.last) (min (numP ps 0 1).toNat (t.c*t.r)) t)=iterS (fun t=>t.print t.last) (min (numP ps 0 1).toNat (t.r*t.c)) t
   rw [Nat.mul_comm t.c t.r]
   split
   · rename_i h0
     rw [iter_stay (f:=fun t:Tm=>t.print t.last) (a:=t) (by show t.print t.last=t;rw [h0];exact print_zero t)]
   · rfl
 by_cases h104:f=104
 · subst h104
   rfl
 by_cases h108:f=108
 · subst h108
   rfl
 by_cases h109:f=109
 · subst h109
   rfl
 have e1:movD f=none:=by
  unfold movD
  rw [if_neg h65,if_neg h66,if_neg h101,if_neg h67,if_neg h97,if_neg h68,if_neg h69,if_neg h70,if_neg h71,if_neg h96,if_neg h100,if_neg h72,if_neg h102,if_neg h73,if_neg h90,if_neg h103,if_neg h114,if_neg h115,if_neg h117]
 have e2:wrtD f=none:=by
  unfold wrtD
  rw [if_neg h64,if_neg h80,if_neg h88,if_neg h74,if_neg h75,if_neg h76,if_neg h77,if_neg h83,if_neg h84,if_neg h98,if_neg h104,if_neg h108,if_neg h109]
 have e:seqD 0 f=none:=by
  show (movD f).or (wrtD f)=none
  rw [e1,e2];rfl
 rw [e]
 unfold Tm.csi Tm.edit
 dsimp only
 rw [if_neg (by omega),if_neg (by omega),if_neg (by decide)]
 rw [if_neg h65,if_neg h70,if_neg (by omega),if_neg h69,if_neg (by omega),if_neg h68,if_neg (by omega),if_neg h100,if_neg (by omega),if_neg h73,if_neg h90,if_neg h114,if_neg h115,if_neg h117,if_neg h109]
 rw [if_neg h64,if_neg h80,if_neg h88,if_neg h74,if_neg h75,if_neg (by omega),if_neg h83,if_neg h84,if_neg h98,if_neg h103,if_neg (by omega)]
 rfl
open Go.RowKit
structure Nm (w:World) (P:Nat→Prop) (A:Option Addr) (n c:Nat) (ps:List Int):Prop where
 rd:Ik .i64 w A n ps
 le:n≤c
 few:n≤16
 rg:∀ z∈ps,0≤z∧z≤9999
 off:∀ ad,A=some ad→0<n→¬ P ad.block
theorem Nm.nil (w:World) (P:Nat→Prop):Nm w P none 0 0 []:=⟨Ik.nil _ _ _,Nat.le_refl _,by omega,(fun z hz=>by cases hz),(fun _ e=>by cases e)⟩
theorem Nm.len {w:World} {P:Nat→Prop} {A:Option Addr} {n c:Nat} {ps:List Int} (h:Nm w P A n c ps):ps.length=n:=h.rd.len
theorem Nm.lt {w:World} {P:Nat→Prop} {A:Option Addr} {n c:Nat} {ps:List Int} (h:Nm w P A n c ps):∀ ad,A=some ad→0<n→ad.block<w.heap.size:=fun ad e hn=>by
 obtain ⟨ad',e',hb,_⟩:=h.rd.at_ hn
 obtain rfl:ad=ad':=by rw [e] at e';injection e'
 exact hb
theorem Nm.on {B g:Nat} {x y:CT} {t':Tm} {w w':World} {A:Option Addr} {n c:Nat} {ps:List Int} (h:Nm w (CB g x) A n c ps) (k:CzTo B g x t' w w' y):Nm w' (CB g y) A n c ps:=by
 refine ⟨h.rd.keep k.out.bel.size fun p hn hA hp=>?_,h.le,h.few,h.rg,fun ad e hn hq=>?_⟩
 · cases hP:A with
   | none=>rw [hP] at hA;cases hA
   | some ad =>
    rw [hP] at hA
    have hA:ad.block=p.block:=by injection hA
    exact World.cell?_of_block (k.out.keep _ hp (by rw [← hA];exact h.off ad hP hn))
 · rcases k.sub _ hq with h1 | h1
   · exact h.off ad e hn h1
   · have:=h.lt ad e hn;omega
theorem Nm.below {w w':World} {P:Nat→Prop} {A:Option Addr} {n c:Nat} {ps:List Int} (h:Nm w P A n c ps) (hb:Below w.heap.size w w'):Nm w' P A n c ps:=⟨h.rd.below hb,h.le,h.few,h.rg,h.off⟩
theorem Nm.num {w:World} {P:Nat→Prop} {A:Option Addr} {n c:Nat} {ps:List Int} (h:Nm w P A n c ps) (i:Nat):0≤ps.getD i 0∧ps.getD i 0≤9999:=by
 by_cases hi:i<ps.length
 · rw [getD_lt hi];exact h.rg _ (List.getElem_mem hi)
 · simp [List.getD,List.getElem?_eq_none (Nat.le_of_not_lt hi)]
theorem max_num {ps:List Int} {i:Nat} (h:0≤ps.getD i 0):max (ps.getD i 0) 1=numP ps i 1:=by
 unfold numP
 split<;>omega
theorem at_any {w:World} {P:Nat→Prop} {A:Option Addr} {n c:Nat} {ps:List Int} (h:Nm w P A n c ps) (i:Nat) (hi:i≤100) :
  Calls Tryz.prog 220 #[.slice A n c,.int .i64 (i:Int)] w fun e w'=>e=.returned (.int .i64 (ps.getD i 0))∧w'=w:=by
 have hl:=h.len
 by_cases hlt:i<n
 · have hr:=h.rd
   obtain ⟨ad,rfl⟩:∃ ad,A=some ad:=by obtain ⟨ad,e,_⟩:=hr.at_ (by omega);exact ⟨ad,e⟩
   have hc:=hr.cell hlt
   have h1:¬ (n:Int)≤(i:Int):=by omega
   have h2:(i:Int)<(n:Int):=by omega
   have h3:(0:Int)≤(i:Int):=by omega
   generalize ps.getD i 0=z at hc ⊢
   clear h hr hl
   go_enter Tryz.func220,Tryz.ntmps220
   go_wp2_with fail
   go_ret
   exact ⟨rfl,rfl⟩
 · have e:ps.getD i 0=0:=by simp [List.getD,List.getElem?_eq_none (show ps.length≤i by omega)]
   rw [e]
   have h1:(n:Int)≤(i:Int):=by omega
   clear h hl e
   go_enter Tryz.func220,Tryz.ntmps220
   go_wp2_with fail
   go_ret
   exact ⟨rfl,rfl⟩
theorem count_any {w:World} {P:Nat→Prop} {A:Option Addr} {n c:Nat} {ps:List Int} (h:Nm w P A n c ps) (i:Nat) (hi:i≤100) :
  Calls Tryz.prog 159 #[.slice A n c,.int .i64 (i:Int)] w fun e w'=>e=.returned (.int .i64 (numP ps i 1))∧w'=w:=by
 have HA:=Lib.hid (at_any h i hi)
 have h0:=(h.num i).1
 rw [← max_num h0]
 clear h h0
 generalize ps.getD i 0=z at HA ⊢
 go_enter Tryz.func159,Tryz.ntmps159
 go_wp2_with fail
 refine HA.out.mono ?_
 rintro e w' ⟨rfl,rfl⟩
 go_wp2_with fail
 go_ret
 exact ⟨rfl,rfl⟩
section
variable {B:Nat} {w:World} {g:Nat} {x:CT}
theorem lastCol_any (h:Cz B w g x):Calls Tryz.prog 82 #[.pointer (some ⟨g,0,none⟩)] w fun e w'=>e=.returned (.int .i64 ((x.t.c:Int)-1))∧w'=w:=by
 have c15:w.cell? ⟨g,15,none⟩=some (.int .i64 x.t.c):=h.cell rfl
 have h1:=h.ok.c1
 clear h
 go_enter Tryz.func82,Tryz.ntmps82
 go_wp2_with fail
 go_ret
 exact ⟨rfl,rfl⟩
theorem lastRow_any (h:Cz B w g x):Calls Tryz.prog 83 #[.pointer (some ⟨g,0,none⟩)] w fun e w'=>e=.returned (.int .i64 ((x.t.r:Int)-1))∧w'=w:=by
 have c16:w.cell? ⟨g,16,none⟩=some (.int .i64 x.t.r):=h.cell rfl
 have h1:=h.ok.r1
 clear h
 go_enter Tryz.func83,Tryz.ntmps83
 go_wp2_with fail
 go_ret
 exact ⟨rfl,rfl⟩
def CT.so (x:CT):Nat:=if x.t.isO then 18 else 15
def CT.sb (x:CT):Nat:=if x.t.isO then x.ob else x.mb
def CT.sN (x:CT):Nat:=if x.t.isO then x.oN else x.mN
def CT.sK (x:CT):Nat:=if x.t.isO then x.oK else x.mK
theorem shown_any (h:Cz B w g x):Calls Tryz.prog 44 #[.pointer (some ⟨g,0,none⟩)] w fun e w'=>e=.returned (.pointer (some ⟨g,x.so,none⟩))∧w'=w:=by
 have c21:w.cell? ⟨g,21,none⟩=some (.bool x.t.isO):=h.cell rfl
 unfold CT.so
 clear h
 cases ho:x.t.isO<;>rw [ho] at c21
 · go_enter Tryz.func44,Tryz.ntmps44
   go_wp2_with fail
   go_ret
   exact ⟨rfl,rfl⟩
 · go_enter Tryz.func44,Tryz.ntmps44
   go_wp2_with fail
   go_ret
   exact ⟨rfl,rfl⟩
theorem Cz.sh (h:Cz B w g x):w.cell? ⟨g,x.so,none⟩=some (.int .i64 x.t.c)∧w.cell? ⟨g,x.so+1,none⟩=some (.int .i64 x.t.r)∧w.cell? ⟨g,x.so+2,none⟩=some (.slice (some ⟨x.sb,0,none⟩) x.sN x.sK):=by
 unfold CT.so CT.sb CT.sN CT.sK
 cases ho:x.t.isO
 · exact ⟨h.cell rfl,h.cell rfl,h.cell rfl⟩
 · exact ⟨h.cell rfl,h.cell rfl,h.cell rfl⟩
theorem Cz.srw (h:Cz B w g x):Rw ceV 66 w x.sb x.t.shown.flatten∧x.sN=x.t.r*x.t.c∧x.sN≤x.sK∧x.sK≤maxLen∧x.t.shown.flatten.length=x.t.r*x.t.c:=by
 have hl:=h.ok.shown.box.flen
 unfold CT.sb CT.sN CT.sK Tm.shown at *
 cases ho:x.t.isO
 · rw [ho] at hl
   exact ⟨h.m,h.mn,h.mkk.1,h.mkk.2,hl⟩
 · rw [ho] at hl
   exact ⟨h.o,h.on,h.okk.1,h.okk.2,hl⟩
end
end Go.Proofs.YtlcipgdnpilkfaaGreatDoor
