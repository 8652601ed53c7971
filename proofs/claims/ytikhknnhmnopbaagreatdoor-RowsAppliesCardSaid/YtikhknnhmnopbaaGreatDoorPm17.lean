/-
  Part 17 of what the laws of emul want: UtfBegOne, UtfBegMore.
-/
import Derived.Test.YtikhknnhmnopbaaGreatDoorPm16
namespace Go.Proofs.YtikhknnhmnopbaaGreatDoor
open Go.RowKit
set_option maxHeartbeats 3200000 in
set_option maxRecDepth 100000 in
theorem begins_one {w:World} {A:Option Addr} {cc:Nat} {a:Int} (hs:Sb w A 1 [a]) (h8:0≤a∧a≤255) :
  Calls Tryz.prog 93 #[.slice A 1 cc] w fun e w'=>e=.returned (.bool (begS [a]))∧Below w.heap.size w w':=by
 obtain ⟨i0,hi,hz0,hz1,hz2⟩:=info_parts info8
 have H:=Lib.hid (And.intro hs h8)
 obtain ⟨ANS,hANS⟩:∃ ANS,begS [a]=ANS:=⟨_,rfl⟩
 rw [hANS]
 have HA:=Lib.hid hANS
 clear hs h8 hANS
 go_enter Tryz.func93,Tryz.ntmps93
 go_wp2_with fail
 go_loopw [3] (fun i wr=>∃ m:Nat,2≤m∧m≤5∧i=.int .i64 m∧(∀ m',2≤m'→m'<m→no1 a m')∧Below w.heap.size w wr) (fun i _=>5-(iOf i).toNat)
 case atStart=>exact ⟨2,by omega,by omega,rfl,fun m' h1 h2=>by omega,Below.refl _ _⟩
 case round =>
  obtain ⟨m,hm2,hm5,rfl,hno,hbw⟩:=hrel
  have X:=Lib.hid (And.intro hno hbw)
  clear hno hbw
  by_cases hm:m≤4
  · have hmz:(m:Int)≤4:=by omega
    go_wp2_with fail
    obtain ⟨wo,hwo⟩:∃ wo,wo=wr:=⟨_,rfl⟩
    rw [← hwo]
    have X':=Lib.hid (show (∀ m',2≤m'→m'<m→no1 a m')∧Below w.heap.size w wo from by rw [hwo];exact X.out)
    clear X hwo
    go_loopw [4] (fun i wr=>∃ l:Nat,l≤2∧i=.int .i64 l∧(1≤l→no1 a m)∧Below w.heap.size w wr) (fun i _=>2-(iOf i).toNat)
    case atStart=>exact ⟨0,by omega,rfl,fun h=>by omega,X'.out.2⟩
    case round =>
     obtain ⟨l,hl,rfl,hno,hbw⟩:=hrel
     have Y:=Lib.hid (And.intro hno hbw)
     clear hno hbw
     by_cases hl2:l<2
     · have hlz:(l:Int)<2:=by omega
       go_wp2_with (at_make;refine wpList_make_full _ rfl _ _ 26 rfl wr.heap.size 5 i0 (.int .u8 0) 1 Tryz.underlying26 hi hz0 hz1 .i64 .i64 (m:Int) (m:Int) m rfl rfl rfl rfl (by rw [hz2];omega) (by unfold maxLen;omega) (Nat.le_refl _) ?_)
       intro w1 ho1 hg1
       have hR1:Rw8 w1 wr.heap.size (List.replicate m 0):=Rw8.made ho1
       obtain ⟨g,hg⟩:∃ g,g=wr.heap.size:=⟨_,rfl⟩
       rw [← hg] at hR1 ⊢
       obtain ⟨V,hV⟩:∃ V:Int,V=if l=1 then 191 else 128:=⟨_,rfl⟩
       have Z:=Lib.hid (show w.heap.size≤g∧Rw8 w1 g (List.replicate m 0)∧Below w.heap.size w w1∧V=(if l=1 then 191 else 128) from
        ⟨by rw [hg];exact Y.out.2.size,hR1,Y.out.2.grown hg1 Y.out.2.size (fun k hk=>by cases hk),hV⟩)
       clear ho1 hg1 hR1 hg hV
       have hVb:0≤V∧V≤255:=by rw [Z.out.2.2.2];split<;>omega
       go_wp2_with fail
       go_loopw [35] (fun i wx=>∃ k:Nat,k≤m∧i=.int .i64 k∧Rw8 wx g (List.replicate k V ++ List.replicate (m-k) 0)∧Below w.heap.size w wx) (fun i _=>m-(iOf i).toNat)
       case atStart=>exact ⟨0,by omega,rfl,by simpa using Z.out.2.1,Z.out.2.2.1⟩
       case round =>
        obtain ⟨k,hk,rfl,hrw,hbx⟩:=hrel
        by_cases hkm:k<m
        · have hkz:(k:Int)<(m:Int):=by omega
          rw [fill_row hkm] at hrw
          have hc:=hrw.cell (k:=k) (by simp)
          have hf:=hrw.free k
          by_cases hl1:l=1
          · have hv:V=191:=by rw [Z.out.2.2.2,if_pos hl1]
            have hR2:=(hrw.set k 128).set k 191
            rw [List.set_set,← hv,fill_set] at hR2
            have hlz1:(l:Int)=1:=by omega
            have Q:=Lib.hid (And.intro hR2 ((hbx.setCell (p:=⟨g,k,none⟩) Z.out.1 (.int .u8 128)).setCell (p:=⟨g,k,none⟩) Z.out.1 (.int .u8 191)))
            clear hrw hbx hR2
            go_wp2_with fail
            go_roundw
            case rel=>exact ⟨k+1,by omega,by go_num,by rw [hv] at Q ⊢;exact Q.out.1,by simpa using Q.out.2⟩
            case measure=>simp [iOf];omega
          · have hv:V=128:=by rw [Z.out.2.2.2,if_neg hl1]
            have hR2:=hrw.set k V
            rw [fill_set] at hR2
            have hlz1:¬ (l:Int)=1:=by omega
            have Q:=Lib.hid (And.intro hR2 (hbx.setCell (p:=⟨g,k,none⟩) Z.out.1 (.int .u8 V)))
            clear hrw hbx hR2
            go_wp2_with fail
            go_roundw
            case rel=>exact ⟨k+1,by omega,by go_num,by rw [hv] at Q ⊢;exact Q.out.1,by rw [hv] at Q;exact Q.out.2⟩
            case measure=>simp [iOf];omega
        · obtain rfl:k=m:=by omega
          rw [show k-k=0 by omega,List.replicate_zero,List.append_nil] at hrw
          have Q:=Lib.hid (And.intro hrw hbx)
          clear hrw hbx
          have hpos:0<([a].map (Value.int .u8)).length→(some (⟨g,0,none⟩:Addr))=some ⟨g,0,none⟩∧∃ ad,A=some ad∧∀ j v,([a].map (Value.int .u8))[j]?=some v→wr.cell? (ad.add j)=some v:=fun _=>by
           obtain ⟨ad,rfl⟩:=H.out.1.addr (by omega)
           exact ⟨rfl,ad,rfl,(H.out.1.below Q.out.2).news⟩
          have hn1:([a].map (Value.int .u8)).length=Nat.min 1 k:=by show 1=min 1 k;omega
          have hfit:0+([a].map (Value.int .u8)).length≤((List.replicate k V).map (Value.int .u8)).length:=by simp;omega
          have C:=Lib.hid (And.intro hpos (And.intro hn1 hfit))
          clear hpos hn1 hfit
          go_wp2_with (refine wpList_copy_splice rfl (.tmp 47) (.tmp 48) 26 26 rfl 5 Tryz.underlying26 size8 (some ⟨g,0,none⟩) A k k 1 cc rfl rfl g 0 ((List.replicate k V).map (Value.int .u8)) 5 Q.out.1 ([a].map (Value.int .u8)) C.out.2.1 C.out.1 C.out.2.2 (oneCells _) w.heap.size w Q.out.2 Z.out.1 ?_)
          intro w2 hh2 hb2
          have hR2:Rw8 w2 g (a :: List.replicate (k-1) V):=by
           have h1:=hh2.out
           unfold Rw8
           rw [h1]
           congr 2
           obtain ⟨k',rfl⟩:∃ k',k=k'+1:=⟨k-1,by omega⟩
           simp [splice,List.replicate_succ]
          have P:=Lib.hid (And.intro hR2 hb2)
          clear hh2 hb2 hR2
          obtain ⟨T,hT⟩:∃ T,T=List.replicate (k-2) V:=⟨_,rfl⟩
          have hk1:List.replicate (k-1) V=V :: T:=by rw [hT,show k-1=(k-2)+1 by omega,List.replicate_succ]
          have hTl:T.length=k-2:=by rw [hT];simp
          have hT8:∀ z∈T,0≤z∧z≤255:=fun z hz=>by rw [hT] at hz;obtain rfl:=List.eq_of_mem_replicate hz;exact hVb
          have PT:=Lib.hid (show Rw8 w2 g (a :: V :: T)∧T.length=k-2∧U8s T∧(l=0→T=List.replicate (k-2) 128) from
           ⟨hk1 ▸ P.out.1,hTl,hT8,fun h0=>by rw [hT,Z.out.2.2.2,if_neg (by omega)]⟩)
          clear hT hk1 hTl hT8
          go_wp2_with fail
          go_loopw [7] (fun i wx=>∃ (t:Nat) (y:Int),t≤64∧i=.int .i64 (128+(t:Int))∧Rw8 wx g (a :: y :: T)∧Below w.heap.size w wx∧(∀ j:Nat,j<t→wholeS (a :: (128+(j:Int)) :: T)=none)) (fun i _=>192-(iOf i).toNat)
          case atStart=>exact ⟨0,V,by omega,rfl,PT.out.1,P.out.2,fun j hj=>by omega⟩
          case round =>
           obtain ⟨t,y,ht,rfl,hrw,hbx,hno⟩:=hrel
           by_cases ht64:t<64
           · have htz:(128:Int)+(t:Int)≤191:=by omega
             have hc:=hrw.cell (k:=1) (by simp)
             have hf:=hrw.free 1
             have hkz1:(1:Int)<(k:Int):=by omega
             have hR3:=hrw.set 1 (128+(t:Int))
             simp only [List.set_cons_succ,List.set_cons_zero] at hR3
             have hb3:=hbx.setCell (p:=⟨g,1,none⟩) Z.out.1 (.int .u8 (128+(t:Int)))
             obtain ⟨w3,hw3⟩:∃ w3,w3=wr.setCell ⟨g,1,none⟩ (.int .u8 (128+(t:Int))):=⟨_,rfl⟩
             rw [← hw3] at hR3 hb3
             have hlen:(a :: (128+(t:Int)) :: T).length=k:=by simp [PT.out.2.1];omega
             have h8:U8s (a :: (128+(t:Int)) :: T):=fun z hz=>by
              rcases List.mem_cons.1 hz with rfl | hz
              · exact H.out.2
              · rcases List.mem_cons.1 hz with rfl | hz
                · omega
                · exact PT.out.2.2.1 z hz
             have hsb:=hR3.sb
             rw [hlen] at hsb
             have hwh:=whole_any (cc:=k) hsb h8 (by omega)
             have U:=Lib.hid (And.intro hR3 (And.intro hb3 hno))
             have HWW:=Lib.hid hw3
             clear hsb h8 hlen hR3 hb3 hrw hbx hno hw3
             cases hw:wholeS (a :: (128+(t:Int)) :: T) with
             | some r =>
              rw [whole_yes hw] at hwh
              have HC:=Lib.hid hwh
              have hb:ANS=true:=by rw [← HA.out];exact beg_yes (zs:=[a]) (ext:=(128+(t:Int)) :: T) (by simp) (by simp) hw
              clear hwh hw
              subst hb
              go_wp2_with fail
              rw [← HWW.out]
              refine HC.out.mono ?_
              rintro e w4 ⟨rfl,hb4⟩
              go_wp2_with fail
              go_ret
              exact ⟨rfl,U.out.2.1.trans (hb4.mono U.out.2.1.size)⟩
             | none =>
              rw [whole_no hw] at hwh
              have HC:=Lib.hid hwh
              have HN:=Lib.hid hw
              clear hwh hw
              go_wp2_with fail
              rw [← HWW.out]
              refine HC.out.mono ?_
              rintro e w4 ⟨rfl,hb4⟩
              have U4:=Lib.hid (And.intro (U.out.1.below hb4) (U.out.2.1.trans (hb4.mono U.out.2.1.size)))
              clear hb4
              go_wp2_with fail
              go_roundw
              case rel=>exact ⟨t+1,_,by omega,by go_num,U4.out.1,U4.out.2,fun j hj=>by
               rcases Nat.lt_or_ge j t with h3 | h3
               · exact U.out.2.2 j h3
               · obtain rfl:j=t:=by omega
                 exact HN.out⟩
              case measure=>simp [iOf];omega
           · obtain rfl:t=64:=by omega
             have U:=Lib.hid (And.intro hbx hno)
             clear hrw hbx hno
             go_wp2_with fail
             go_roundw
             case rel=>exact ⟨l+1,by omega,by go_num,fun _=>by
              rcases Nat.eq_zero_or_pos l with h0 | h0
              · intro j hj
                rw [← PT.out.2.2.2 h0]
                exact U.out.2 j hj
              · exact Y.out.1 h0,U.out.1⟩
             case measure=>simp [iOf];omega
     · go_wp2_with fail
       go_roundw
       case rel=>exact ⟨m+1,by omega,by omega,by go_num,fun m' h1 h2=>by
        rcases Nat.lt_or_ge m' m with h3 | h3
        · exact X'.out.1 m' h1 h3
        · obtain rfl:m'=m:=by omega
          exact Y.out.1 (by omega),Y.out.2⟩
       case measure=>simp [iOf];omega
  · obtain rfl:m=5:=by omega
    have hb:ANS=false:=by rw [← HA.out];exact beg_no1 (fun m' h1 h2=>X.out.1 m' h1 (by omega))
    subst hb
    go_wp2_with fail
    go_ret
    exact ⟨rfl,X.out.2⟩
open Go.RowKit
set_option maxHeartbeats 3200000 in
set_option maxRecDepth 100000 in
theorem begins_more {w:World} {A:Option Addr} {n cc:Nat} {zs:List Int} (hs:Sb w A n zs) (h8:U8s zs) (hn:n=2∨n=3) :
  Calls Tryz.prog 93 #[.slice A n cc] w fun e w'=>e=.returned (.bool (begS zs))∧Below w.heap.size w w':=by
 have n0:¬ (n:Int)=0:=by omega
 have n1:¬ (n:Int)=1:=by omega
 have n3:¬ (3:Int)<(n:Int):=by omega
 have hzl:=hs.len
 have HN:=Lib.hid (And.intro hn hzl)
 have hn2:2≤n∧n≤3:=by omega
 clear hzl hn
 obtain ⟨i0,hi,hz0,hz1,hz2⟩:=info_parts info8
 have H:=Lib.hid (And.intro hs h8)
 obtain ⟨ANS,hANS⟩:∃ ANS,begS zs=ANS:=⟨_,rfl⟩
 rw [hANS]
 have HA:=Lib.hid hANS
 clear hs h8 hANS
 go_enter Tryz.func93,Tryz.ntmps93
 go_wp2_with fail
 go_loopw [3] (fun i wr=>∃ m:Nat,n+1≤m∧m≤5∧i=.int .i64 m∧(∀ m',n<m'→m'<m→noN zs m')∧Below w.heap.size w wr) (fun i _=>5-(iOf i).toNat)
 case atStart=>exact ⟨n+1,by omega,by omega,by go_num,fun m' h1 h2=>by omega,Below.refl _ _⟩
 case round =>
  obtain ⟨m,hm2,hm5,rfl,hno,hbw⟩:=hrel
  have X:=Lib.hid (And.intro hno hbw)
  clear hno hbw
  by_cases hm:m≤4
  · have hmz:(m:Int)≤4:=by omega
    go_wp2_with fail
    obtain ⟨wo,hwo⟩:∃ wo,wo=wr:=⟨_,rfl⟩
    rw [← hwo]
    have X':=Lib.hid (show (∀ m',n<m'→m'<m→noN zs m')∧Below w.heap.size w wo from by rw [hwo];exact X.out)
    clear X hwo
    go_loopw [4] (fun i wr=>∃ l:Nat,l≤2∧i=.int .i64 l∧(1≤l→noN zs m)∧Below w.heap.size w wr) (fun i _=>2-(iOf i).toNat)
    case atStart=>exact ⟨0,by omega,rfl,fun h=>by omega,X'.out.2⟩
    case round =>
     obtain ⟨l,hl,rfl,hno,hbw⟩:=hrel
     have Y:=Lib.hid (And.intro hno hbw)
     clear hno hbw
     by_cases hl2:l<2
     · have hlz:(l:Int)<2:=by omega
       go_wp2_with (at_make;refine wpList_make_full _ rfl _ _ 26 rfl wr.heap.size 5 i0 (.int .u8 0) 1 Tryz.underlying26 hi hz0 hz1 .i64 .i64 (m:Int) (m:Int) m rfl rfl rfl rfl (by rw [hz2];omega) (by unfold maxLen;omega) (Nat.le_refl _) ?_)
       intro w1 ho1 hg1
       have hR1:Rw8 w1 wr.heap.size (List.replicate m 0):=Rw8.made ho1
       obtain ⟨g,hg⟩:∃ g,g=wr.heap.size:=⟨_,rfl⟩
       rw [← hg] at hR1 ⊢
       obtain ⟨V,hV⟩:∃ V:Int,V=if l=1 then 191 else 128:=⟨_,rfl⟩
       have Z:=Lib.hid (show w.heap.size≤g∧Rw8 w1 g (List.replicate m 0)∧Below w.heap.size w w1∧V=(if l=1 then 191 else 128) from
        ⟨by rw [hg];exact Y.out.2.size,hR1,Y.out.2.grown hg1 Y.out.2.size (fun k hk=>by cases hk),hV⟩)
       clear ho1 hg1 hR1 hg hV
       have hVb:0≤V∧V≤255:=by rw [Z.out.2.2.2];split<;>omega
       go_wp2_with fail
       go_loopw [35] (fun i wx=>∃ k:Nat,k≤m∧i=.int .i64 k∧Rw8 wx g (List.replicate k V ++ List.replicate (m-k) 0)∧Below w.heap.size w wx) (fun i _=>m-(iOf i).toNat)
       case atStart=>exact ⟨0,by omega,rfl,by simpa using Z.out.2.1,Z.out.2.2.1⟩
       case round =>
        obtain ⟨k,hk,rfl,hrw,hbx⟩:=hrel
        by_cases hkm:k<m
        · have hkz:(k:Int)<(m:Int):=by omega
          rw [fill_row hkm] at hrw
          have hc:=hrw.cell (k:=k) (by simp)
          have hf:=hrw.free k
          by_cases hl1:l=1
          · have hv:V=191:=by rw [Z.out.2.2.2,if_pos hl1]
            have hR2:=(hrw.set k 128).set k 191
            rw [List.set_set,← hv,fill_set] at hR2
            have hlz1:(l:Int)=1:=by omega
            have Q:=Lib.hid (And.intro hR2 ((hbx.setCell (p:=⟨g,k,none⟩) Z.out.1 (.int .u8 128)).setCell (p:=⟨g,k,none⟩) Z.out.1 (.int .u8 191)))
            clear hrw hbx hR2
            go_wp2_with fail
            go_roundw
            case rel=>exact ⟨k+1,by omega,by go_num,by rw [hv] at Q ⊢;exact Q.out.1,by simpa using Q.out.2⟩
            case measure=>simp [iOf];omega
          · have hv:V=128:=by rw [Z.out.2.2.2,if_neg hl1]
            have hR2:=hrw.set k V
            rw [fill_set] at hR2
            have hlz1:¬ (l:Int)=1:=by omega
            have Q:=Lib.hid (And.intro hR2 (hbx.setCell (p:=⟨g,k,none⟩) Z.out.1 (.int .u8 V)))
            clear hrw hbx hR2
            go_wp2_with fail
            go_roundw
            case rel=>exact ⟨k+1,by omega,by go_num,by rw [hv] at Q ⊢;exact Q.out.1,by rw [hv] at Q;exact Q.out.2⟩
            case measure=>simp [iOf];omega
        · obtain rfl:k=m:=by omega
          rw [show k-k=0 by omega,List.replicate_zero,List.append_nil] at hrw
          have Q:=Lib.hid (And.intro hrw hbx)
          clear hrw hbx
          have hpos:0<(zs.map (Value.int .u8)).length→(some (⟨g,0,none⟩:Addr))=some ⟨g,0,none⟩∧∃ ad,A=some ad∧∀ j v,(zs.map (Value.int .u8))[j]?=some v→wr.cell? (ad.add j)=some v:=fun _=>by
           obtain ⟨ad,rfl⟩:=H.out.1.addr (by omega)
           exact ⟨rfl,ad,rfl,(H.out.1.below Q.out.2).news⟩
          have hn1:(zs.map (Value.int .u8)).length=Nat.min n k:=by rw [List.length_map,HN.out.2];show n=min n k;omega
          have hfit:0+(zs.map (Value.int .u8)).length≤((List.replicate k V).map (Value.int .u8)).length:=by simp;rw [HN.out.2];omega
          have C:=Lib.hid (And.intro hpos (And.intro hn1 hfit))
          clear hpos hn1 hfit
          go_wp2_with (refine wpList_copy_splice rfl (.tmp 47) (.tmp 48) 26 26 rfl 5 Tryz.underlying26 size8 (some ⟨g,0,none⟩) A k k n cc rfl rfl g 0 ((List.replicate k V).map (Value.int .u8)) 5 Q.out.1 (zs.map (Value.int .u8)) C.out.2.1 C.out.1 C.out.2.2 (oneCells _) w.heap.size w Q.out.2 Z.out.1 ?_)
          intro w2 hh2 hb2
          have hR2:Rw8 w2 g (zs ++ List.replicate (k-n) V):=by
           have h1:=hh2.out
           unfold Rw8
           rw [h1]
           congr 2
           simp [splice,HN.out.2]
          have h8:U8s (zs ++ List.replicate (k-n) V):=H.out.2.append (fun z hz=>by obtain rfl:=List.eq_of_mem_replicate hz;exact hVb)
          have hlen:(zs ++ List.replicate (k-n) V).length=k:=by simp [HN.out.2];omega
          have hsb:=hR2.sb
          rw [hlen] at hsb
          have hwh:=whole_any (cc:=k) hsb h8 (by omega)
          have PL:=Lib.hid (show Below w.heap.size w w2∧(l=0→V=128) from ⟨hb2,fun h0=>by rw [Z.out.2.2.2,if_neg (by omega)]⟩)
          clear hh2 hb2 hR2 h8 hlen hsb
          cases hw:wholeS (zs ++ List.replicate (k-n) V) with
          | some r =>
           rw [whole_yes hw] at hwh
           have HC:=Lib.hid hwh
           have hb:ANS=true:=by
            rw [← HA.out]
            exact beg_yes (by intro e;have:=HN.out.2;rw [e] at this;simp at this;omega) (by intro e;have:=congrArg List.length e;simp at this;omega) hw
           clear hwh hw
           subst hb
           go_wp2_with fail
           refine HC.out.mono ?_
           rintro e w4 ⟨rfl,hb4⟩
           go_wp2_with fail
           go_ret
           exact ⟨rfl,PL.out.1.trans (hb4.mono PL.out.1.size)⟩
          | none =>
           rw [whole_no hw] at hwh
           have HC:=Lib.hid hwh
           have HNW:=Lib.hid hw
           clear hwh hw
           go_wp2_with fail
           refine HC.out.mono ?_
           rintro e w4 ⟨rfl,hb4⟩
           have U4:=Lib.hid (PL.out.1.trans (hb4.mono PL.out.1.size))
           clear hb4
           go_wp2_with fail
           go_roundw
           case rel=>exact ⟨l+1,by omega,by go_num,fun _=>by
            rcases Nat.eq_zero_or_pos l with h0 | h0
            · have h1:=HNW.out
              rw [PL.out.2 h0] at h1
              unfold noN
              rw [HN.out.2]
              exact h1
            · exact Y.out.1 h0,U4.out⟩
           case measure=>simp [iOf];omega
     · go_wp2_with fail
       go_roundw
       case rel=>exact ⟨m+1,by omega,by omega,by go_num,fun m' h1 h2=>by
        rcases Nat.lt_or_ge m' m with h3 | h3
        · exact X'.out.1 m' h1 h3
        · obtain rfl:m'=m:=by omega
          exact Y.out.1 (by omega),Y.out.2⟩
       case measure=>simp [iOf];omega
  · obtain rfl:m=5:=by omega
    have hb:ANS=false:=by rw [← HA.out];exact beg_noN (by rw [HN.out.2];exact HN.out.1) (fun m' h1 h2=>X.out.1 m' (by rw [← HN.out.2];exact h1) (by omega))
    subst hb
    go_wp2_with fail
    go_ret
    exact ⟨rfl,X.out.2⟩
theorem begins_any {w:World} {A:Option Addr} {n cc:Nat} {zs:List Int} (hs:Sb w A n zs) (h8:U8s zs) (hm:n≤1000000) :
  Calls Tryz.prog 93 #[.slice A n cc] w fun e w'=>e=.returned (.bool (begS zs))∧Below w.heap.size w w':=by
 have hl:=hs.len
 by_cases h0:n=0
 · subst h0
   obtain rfl:zs=[]:=List.eq_nil_of_length_eq_zero hl
   clear hs h8
   go_enter Tryz.func93,Tryz.ntmps93
   go_wp2_with fail
   go_ret
   exact ⟨rfl,Below.refl _ _⟩
 by_cases h1:n=1
 · subst h1
   rcases zs with _ | ⟨a,_ | ⟨b,t⟩⟩<;>simp at hl
   exact begins_one hs (h8 a (by simp))
 by_cases h3:n≤3
 · exact begins_more hs h8 (by omega)
 · have hz:begS zs=false:=by rw [begN];simp;intro _ h;rcases szF_le (zs[0]?.getD 0) with e | e | e | e | e<;>omega
   rw [hz]
   have n0:¬ (n:Int)=0:=by omega
   have n3:(3:Int)<(n:Int):=by omega
   clear hs h8 hz h0 h1 h3 hl
   go_enter Tryz.func93,Tryz.ntmps93
   go_wp2_with fail
   go_ret
   exact ⟨rfl,Below.refl _ _⟩
end Go.Proofs.YtikhknnhmnopbaaGreatDoor
