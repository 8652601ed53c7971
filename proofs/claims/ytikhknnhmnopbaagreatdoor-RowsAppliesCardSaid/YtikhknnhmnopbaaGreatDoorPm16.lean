/-
  Part 16 of what the laws of emul want: UtfWhole, UtfBegs, UtfRefVal.
-/
import Derived.Deep.QuietTactic
import Derived.BigQuiet
import Derived.LoopTactic
import Derived.Laws.CopyOwn
import Derived.OwnWalk
import Derived.Test.YtikhknnhmnopbaaGreatDoorPm07
import Derived.Test.YtikhknnhmnopbaaGreatDoorPm15
namespace Go.Proofs.YtikhknnhmnopbaaGreatDoor
open Go.RowKit
def numW (zs:List Int):Int:=match zs with
 | [a]=>a
 | [a,b]=>(a-192)*64+b-128
 | [a,b,c]=>(a-224)*4096+(b-128)*64+c-128
 | [a,b,c,d]=>(a-240)*262144+(b-128)*4096+(c-128)*64+d-128
 | _=>-1
theorem drewN_add (w:World) (a b:Nat):(w.drewN a).drewN b=w.drewN (a+b):=by simp [World.drewN,Nat.add_assoc]
theorem wr64 (n:Int) (h:-9223372036854775808≤n∧n≤9223372036854775807):IntKind.i64.wrap n=n:=by
 rw [IntKind.wrap_i64];omega
theorem addP (a:Addr) {k:Nat} (h:0<k):a.add k=⟨a.block,a.off+k,none⟩:=by unfold Addr.add;rw [if_neg (by omega)]
theorem addZ (a:Addr):a.add 0=a:=by unfold Addr.add;simp
theorem whole_num {zs:List Int} {r:Int} (hb:∀ z∈zs,0≤z∧z≤255) (h:wholeS zs=some r):r=numW zs:=by
 rcases zs with _ | ⟨a,_ | ⟨b,_ | ⟨c,_ | ⟨d,_ | ⟨e,t⟩⟩⟩⟩⟩<;>simp only [wholeS] at h
 · cases h
 · split at h
   · cases h;rfl
   · cases h
 · split at h
   · rename_i hc
     have h1:=szF2.1 hc.1
     have h2:=okct hc.2
     cases h;show v2 a b=(a-192)*64+b-128;unfold v2;omega
   · cases h
 · split at h
   · rename_i hc
     have h1:=szF3.1 hc.1
     have h2:=okct hc.2.1
     have h3:=ctF_iff.1 hc.2.2
     cases h;show v3 a b c=(a-224)*4096+(b-128)*64+c-128;unfold v3;omega
   · cases h
 · split at h
   · rename_i hc
     have h1:=szF4.1 hc.1
     have h2:=okct hc.2.1
     have h3:=ctF_iff.1 hc.2.2.1
     have h4:=ctF_iff.1 hc.2.2.2
     cases h;show v4 a b c d=(a-240)*262144+(b-128)*4096+(c-128)*64+d-128;unfold v4;omega
   · cases h
 · cases h
theorem whole_iff {zs:List Int} (hb:∀ z∈zs,0≤z∧z≤255):wholeS zs=if mayS (numW zs)=true∧encS (numW zs)=zs then some (numW zs) else none:=by
 split
 · rename_i h
   have h1:=whole_enc h.1
   rw [h.2] at h1
   exact h1
 · rename_i h
   cases hw:wholeS zs with
   | none=>rfl
   | some r =>
    obtain ⟨h1,h2⟩:=enc_whole hb hw
    have h3:=whole_num hb hw
    subst h3
    exact absurd ⟨h2,h1⟩ h
def wholeV (zs:List Int):Value:=match wholeS zs with
 | some r=>.tuple #[.int .i32 r,.bool true]
 | none=>.tuple #[.int .i32 0,.bool false]
theorem whole_no {zs:List Int} (h:wholeS zs=none):wholeV zs=.tuple #[.int .i32 0,.bool false]:=by unfold wholeV;rw [h]
theorem whole_yes {zs:List Int} {r:Int} (h:wholeS zs=some r):wholeV zs=.tuple #[.int .i32 r,.bool true]:=by unfold wholeV;rw [h]
set_option maxHeartbeats 3200000 in
set_option maxRecDepth 100000 in
theorem whole_1 {w:World} {A:Option Addr} {cc:Nat} {a:Int} (hs:Sb w A 1 [a]) (h8:U8s [a]) :
  Calls Tryz.prog 69 #[.slice A 1 cc] w fun e w'=>e=.returned (wholeV [a])∧Below w.heap.size w w':=by
 obtain ⟨ad,rfl⟩:=hs.addr (by omega)
 have k0:w.cell? ad=some (.int .u8 a):=by have:=hs.cell (k:=0) (by omega);rwa [addZ] at this
 have hbz:=h8
 have ba:0≤a∧a≤255:=h8 a (by simp)
 have H:=Lib.hid (And.intro hs (And.intro h8 (whole_iff h8)))
 clear hs h8 hbz
 have hnum:numW [a]=a:=rfl
 have HNUM:=Lib.hid hnum
 clear hnum
 have hbig:¬ 1114111<a:=by omega
 by_cases hneg:a<0
 · have HR:=Lib.hid (show wholeV [a]=.tuple #[.int .i32 0,.bool false] from whole_no (by rw [H.out.2.2,HNUM.out,if_neg];rintro ⟨h,_⟩;rw [mayS_iff] at h;omega))
   go_enter Tryz.func69,Tryz.ntmps69
   go_wp2
   go_ret2
   exact ⟨by rw [HR.out];rfl,Below.refl _ _⟩
 go_enter Tryz.func69,Tryz.ntmps69
 go_wp2_with fail
 obtain ⟨w0,hw0⟩:∃ w0,w0=w:=⟨_,rfl⟩
 rw [← hw0]
 have Hb:=Lib.hid (show Below w.heap.size w w0 from by rw [hw0];exact Below.refl _ _)
 clear hw0
 have HN:=Lib.hid (And.intro hneg hbig)
 have HW:=Lib.hid H.out.2.2
 rw [HNUM.out] at HW
 have HS:=Lib.hid H.out.1
 obtain ⟨zs,hzs⟩:∃ zs,zs=[a]:=⟨_,rfl⟩
 rw [← hzs] at HW HS
 have HZS:=Lib.hid hzs
 clear hneg hbig H HNUM hzs k0 ba
 refine (refEnc_any a w0).mono ?_
 rintro e w1 ⟨A',n',c',rfl,hs1,hb1⟩
 have X1:=Lib.hid (show Sb w1 A' n' (encS a)∧Sb w1 (some ad) 1 zs∧Below w.heap.size w w1 from ⟨hs1,(HS.out.below Hb.out).below hb1,Hb.out.trans (hb1.mono Hb.out.size)⟩)
 have hl1:=hs1.len
 have hlz:=HS.out.len
 have HL:=Lib.hid (And.intro hl1 hlz)
 clear hs1 hb1 Hb HS hl1 hlz
 have hw:wrap32 a=a:=by have:=HN.out;unfold wrap32;omega
 cases hm:mayS a
 · have HR:=Lib.hid (show wholeV zs=.tuple #[.int .i32 0,.bool false] from whole_no (by rw [HW.out,if_neg];rintro ⟨h,_⟩;rw [hm] at h;cases h))
   have HMY:=Lib.hid (may_any a w1)
   rw [hm] at HMY
   clear hm
   go_wp2_with fail
   refine HMY.out.mono ?_
   rintro e w2 ⟨rfl,rfl⟩
   go_wp2_with fail
   go_ret2
   exact ⟨by rw [← HZS.out,HR.out];rfl,X1.out.2.2⟩
 have HMY:=Lib.hid (may_any a w1)
 rw [hm] at HMY
 by_cases hne:n'=1
 · subst hne
   have hzz:(encS a=zs)→wholeV zs=.tuple #[.int .i32 a,.bool true]:=fun h=>whole_yes (by rw [HW.out,if_pos ⟨hm,h⟩])
   have hzn:(encS a≠zs)→wholeV zs=.tuple #[.int .i32 0,.bool false]:=fun h=>whole_no (by rw [HW.out,if_neg];exact fun h'=>h h'.2)
   have HZ:=Lib.hid (And.intro hzz hzn)
   have HM:=Lib.hid hm
   clear hzz hzn hm HW
   go_wp2_with fail
   refine HMY.out.mono ?_
   rintro e w2 ⟨rfl,rfl⟩
   go_wp2_with fail
   go_loopw [100] (fun i wr=>∃ k q:Nat,k≤1∧i=.int .i64 k∧(encS a).take k=zs.take k∧wr=w1.drewN q) (fun i _=>1-(iOf i).toNat)
   case atStart=>exact ⟨0,0,Nat.zero_le _,rfl,by simp,rfl⟩
   case round =>
    obtain ⟨k,q,hk,rfl,hx,rfl⟩:=hrel
    have HX:=Lib.hid hx
    clear hx
    by_cases hlt:k<1
    · have hkz:(k:Int)<1:=by omega
      obtain ⟨ad',rfl⟩:=X1.out.1.addr (by omega)
      have hc:=X1.out.1.cell hlt
      have hc':=X1.out.2.1.cell hlt
      have HT:=Lib.hid (take_eq_snoc (xs:=encS a) (ys:=zs) (k:=k) (by rw [HL.out.1];exact hlt) (by rw [HL.out.2];exact hlt))
      obtain ⟨x,hx⟩:∃ x,x=(encS a).getD k 0:=⟨_,rfl⟩
      obtain ⟨y,hy⟩:∃ y,y=zs.getD k 0:=⟨_,rfl⟩
      rw [← hx] at hc
      rw [← hy] at hc'
      rw [← hx,← hy] at HT
      have HAB:=Lib.hid (And.intro hx hy)
      clear hx hy
      by_cases hab:x=y
      · have ht:=HT.out.2 ⟨HX.out,hab⟩
        have HTT:=Lib.hid ht
        subst hab
        clear ht HT HAB
        go_wp2
        go_quiet (fail)
        go_wp2
        go_roundw
        case rel=>exact ⟨k+1,q+nq,by omega,by go_num,HTT.out,rfl⟩
        case measure=>simp [iOf];omega
      · have HD:=Lib.hid (HZ.out.2 (fun h=>hab (by rw [HAB.out.1,HAB.out.2,h])))
        have t1:(x == y)=false:=by simpa using hab
        have t2:(x != y)=true:=by simpa using hab
        clear hab
        go_wp2
        go_quiet (fail)
        go_wp2
        go_ret2
        exact ⟨by rw [← HZS.out,HD.out];rfl,by rw [drewN_add];exact below_drewN' X1.out.2.2 _⟩
    · have HD:=Lib.hid (HZ.out.1 (by have e1:=HX.out;rw [List.take_of_length_le (by rw [HL.out.1];omega),List.take_of_length_le (by rw [HL.out.2];omega)] at e1;exact e1))
      have hw2:wrap32 a=a:=by have:=HN.out;unfold wrap32;omega
      go_wp2
      go_ret2
      exact ⟨by rw [← HZS.out,HD.out,hw2];rfl,below_drewN' X1.out.2.2 q⟩
 · have HR:=Lib.hid (show wholeV zs=.tuple #[.int .i32 0,.bool false] from whole_no (by rw [HW.out,if_neg];rintro ⟨_,h⟩;exact hne (by rw [← HL.out.1,h,HL.out.2])))
   have hnz:¬ (n':Int)=1:=by omega
   clear hm hne
   go_wp2_with fail
   refine HMY.out.mono ?_
   rintro e w2 ⟨rfl,rfl⟩
   go_wp2_with fail
   go_ret2
   exact ⟨by rw [← HZS.out,HR.out];rfl,X1.out.2.2⟩
set_option maxHeartbeats 3200000 in
set_option maxRecDepth 100000 in
theorem whole_2 {w:World} {A:Option Addr} {cc:Nat} {a b:Int} (hs:Sb w A 2 [a,b]) (h8:U8s [a,b]) :
  Calls Tryz.prog 69 #[.slice A 2 cc] w fun e w'=>e=.returned (wholeV [a,b])∧Below w.heap.size w w':=by
 obtain ⟨ad,rfl⟩:=hs.addr (by omega)
 have k0:w.cell? ad=some (.int .u8 a):=by have:=hs.cell (k:=0) (by omega);rwa [addZ] at this
 have k1:w.cell? ⟨ad.block,ad.off+1,none⟩=some (.int .u8 b):=by have:=hs.cell (k:=1) (by omega);rwa [addP _ (by omega)] at this
 have hbz:=h8
 have ba:0≤a∧a≤255:=h8 a (by simp)
 have bb:0≤b∧b≤255:=h8 b (by simp)
 have q0:IntKind.i64.wrap (a)=a:=wr64 _ (by omega)
 have q1:IntKind.i64.wrap (a-192)=a-192:=wr64 _ (by omega)
 have q2:IntKind.i64.wrap ((a-192)*64)=(a-192)*64:=wr64 _ (by omega)
 have q3:IntKind.i64.wrap (b)=b:=wr64 _ (by omega)
 have q4:IntKind.i64.wrap ((a-192)*64+b)=(a-192)*64+b:=wr64 _ (by omega)
 have q5:IntKind.i64.wrap ((a-192)*64+b-128)=(a-192)*64+b-128:=wr64 _ (by omega)
 have H:=Lib.hid (And.intro hs (And.intro h8 (whole_iff h8)))
 clear hs h8 hbz
 have hnum:numW [a,b]=(a-192)*64+b-128:=rfl
 have HNUM:=Lib.hid hnum
 clear hnum
 have hbig:¬ 1114111<(a-192)*64+b-128:=by omega
 by_cases hneg:(a-192)*64+b-128<0
 · have HR:=Lib.hid (show wholeV [a,b]=.tuple #[.int .i32 0,.bool false] from whole_no (by rw [H.out.2.2,HNUM.out,if_neg];rintro ⟨h,_⟩;rw [mayS_iff] at h;omega))
   go_enter Tryz.func69,Tryz.ntmps69
   go_wp2
   go_quiet (fail)
   go_wp2
   go_ret2
   exact ⟨by rw [HR.out];rfl,below_drewN' (Below.refl _ _) _⟩
 go_enter Tryz.func69,Tryz.ntmps69
 go_wp2_with fail
 go_quiet (fail)
 go_wp2_with fail
 obtain ⟨w0,hw0⟩:∃ w0,w0=w.drewN nq:=⟨_,rfl⟩
 rw [← hw0]
 have Hb:=Lib.hid (show Below w.heap.size w w0 from by rw [hw0];exact below_drewN' (Below.refl _ _) _)
 clear hw0
 have HN:=Lib.hid (And.intro hneg hbig)
 obtain ⟨N,hN⟩:∃ N,(a-192)*64+b-128=N:=⟨_,rfl⟩
 rw [hN] at HN HNUM ⊢
 have HW:=Lib.hid H.out.2.2
 rw [HNUM.out] at HW
 have HS:=Lib.hid H.out.1
 obtain ⟨zs,hzs⟩:∃ zs,zs=[a,b]:=⟨_,rfl⟩
 rw [← hzs] at HW HS
 have HZS:=Lib.hid hzs
 clear hN hneg hbig H HNUM hzs k0 k1 q0 q1 q2 q3 q4 q5 ba bb
 refine (refEnc_any N w0).mono ?_
 rintro e w1 ⟨A',n',c',rfl,hs1,hb1⟩
 have X1:=Lib.hid (show Sb w1 A' n' (encS N)∧Sb w1 (some ad) 2 zs∧Below w.heap.size w w1 from ⟨hs1,(HS.out.below Hb.out).below hb1,Hb.out.trans (hb1.mono Hb.out.size)⟩)
 have hl1:=hs1.len
 have hlz:=HS.out.len
 have HL:=Lib.hid (And.intro hl1 hlz)
 clear hs1 hb1 Hb HS hl1 hlz
 have hw:wrap32 N=N:=by have:=HN.out;unfold wrap32;omega
 cases hm:mayS N
 · have HR:=Lib.hid (show wholeV zs=.tuple #[.int .i32 0,.bool false] from whole_no (by rw [HW.out,if_neg];rintro ⟨h,_⟩;rw [hm] at h;cases h))
   have HMY:=Lib.hid (may_any N w1)
   rw [hm] at HMY
   clear hm
   go_wp2_with fail
   refine HMY.out.mono ?_
   rintro e w2 ⟨rfl,rfl⟩
   go_wp2_with fail
   go_ret2
   exact ⟨by rw [← HZS.out,HR.out];rfl,X1.out.2.2⟩
 have HMY:=Lib.hid (may_any N w1)
 rw [hm] at HMY
 by_cases hne:n'=2
 · subst hne
   have hzz:(encS N=zs)→wholeV zs=.tuple #[.int .i32 N,.bool true]:=fun h=>whole_yes (by rw [HW.out,if_pos ⟨hm,h⟩])
   have hzn:(encS N≠zs)→wholeV zs=.tuple #[.int .i32 0,.bool false]:=fun h=>whole_no (by rw [HW.out,if_neg];exact fun h'=>h h'.2)
   have HZ:=Lib.hid (And.intro hzz hzn)
   have HM:=Lib.hid hm
   clear hzz hzn hm HW
   go_wp2_with fail
   refine HMY.out.mono ?_
   rintro e w2 ⟨rfl,rfl⟩
   go_wp2_with fail
   go_loopw [100] (fun i wr=>∃ k q:Nat,k≤2∧i=.int .i64 k∧(encS N).take k=zs.take k∧wr=w1.drewN q) (fun i _=>2-(iOf i).toNat)
   case atStart=>exact ⟨0,0,Nat.zero_le _,rfl,by simp,rfl⟩
   case round =>
    obtain ⟨k,q,hk,rfl,hx,rfl⟩:=hrel
    have HX:=Lib.hid hx
    clear hx
    by_cases hlt:k<2
    · have hkz:(k:Int)<2:=by omega
      obtain ⟨ad',rfl⟩:=X1.out.1.addr (by omega)
      have hc:=X1.out.1.cell hlt
      have hc':=X1.out.2.1.cell hlt
      have HT:=Lib.hid (take_eq_snoc (xs:=encS N) (ys:=zs) (k:=k) (by rw [HL.out.1];exact hlt) (by rw [HL.out.2];exact hlt))
      obtain ⟨x,hx⟩:∃ x,x=(encS N).getD k 0:=⟨_,rfl⟩
      obtain ⟨y,hy⟩:∃ y,y=zs.getD k 0:=⟨_,rfl⟩
      rw [← hx] at hc
      rw [← hy] at hc'
      rw [← hx,← hy] at HT
      have HAB:=Lib.hid (And.intro hx hy)
      clear hx hy
      by_cases hab:x=y
      · have ht:=HT.out.2 ⟨HX.out,hab⟩
        have HTT:=Lib.hid ht
        subst hab
        clear ht HT HAB
        go_wp2
        go_quiet (fail)
        go_wp2
        go_roundw
        case rel=>exact ⟨k+1,q+nq,by omega,by go_num,HTT.out,rfl⟩
        case measure=>simp [iOf];omega
      · have HD:=Lib.hid (HZ.out.2 (fun h=>hab (by rw [HAB.out.1,HAB.out.2,h])))
        have t1:(x == y)=false:=by simpa using hab
        have t2:(x != y)=true:=by simpa using hab
        clear hab
        go_wp2
        go_quiet (fail)
        go_wp2
        go_ret2
        exact ⟨by rw [← HZS.out,HD.out];rfl,by rw [drewN_add];exact below_drewN' X1.out.2.2 _⟩
    · have HD:=Lib.hid (HZ.out.1 (by have e1:=HX.out;rw [List.take_of_length_le (by rw [HL.out.1];omega),List.take_of_length_le (by rw [HL.out.2];omega)] at e1;exact e1))
      have hw2:wrap32 N=N:=by have:=HN.out;unfold wrap32;omega
      go_wp2
      go_ret2
      exact ⟨by rw [← HZS.out,HD.out,hw2];rfl,below_drewN' X1.out.2.2 q⟩
 · have HR:=Lib.hid (show wholeV zs=.tuple #[.int .i32 0,.bool false] from whole_no (by rw [HW.out,if_neg];rintro ⟨_,h⟩;exact hne (by rw [← HL.out.1,h,HL.out.2])))
   have hnz:¬ (n':Int)=2:=by omega
   clear hm hne
   go_wp2_with fail
   refine HMY.out.mono ?_
   rintro e w2 ⟨rfl,rfl⟩
   go_wp2_with fail
   go_ret2
   exact ⟨by rw [← HZS.out,HR.out];rfl,X1.out.2.2⟩
set_option maxHeartbeats 3200000 in
set_option maxRecDepth 100000 in
theorem whole_3 {w:World} {A:Option Addr} {cc:Nat} {a b c:Int} (hs:Sb w A 3 [a,b,c]) (h8:U8s [a,b,c]) :
  Calls Tryz.prog 69 #[.slice A 3 cc] w fun e w'=>e=.returned (wholeV [a,b,c])∧Below w.heap.size w w':=by
 obtain ⟨ad,rfl⟩:=hs.addr (by omega)
 have k0:w.cell? ad=some (.int .u8 a):=by have:=hs.cell (k:=0) (by omega);rwa [addZ] at this
 have k1:w.cell? ⟨ad.block,ad.off+1,none⟩=some (.int .u8 b):=by have:=hs.cell (k:=1) (by omega);rwa [addP _ (by omega)] at this
 have k2:w.cell? ⟨ad.block,ad.off+2,none⟩=some (.int .u8 c):=by have:=hs.cell (k:=2) (by omega);rwa [addP _ (by omega)] at this
 have hbz:=h8
 have ba:0≤a∧a≤255:=h8 a (by simp)
 have bb:0≤b∧b≤255:=h8 b (by simp)
 have bc:0≤c∧c≤255:=h8 c (by simp)
 have q0:IntKind.i64.wrap (a)=a:=wr64 _ (by omega)
 have q1:IntKind.i64.wrap (a-224)=a-224:=wr64 _ (by omega)
 have q2:IntKind.i64.wrap ((a-224)*4096)=(a-224)*4096:=wr64 _ (by omega)
 have q3:IntKind.i64.wrap (b)=b:=wr64 _ (by omega)
 have q4:IntKind.i64.wrap (b-128)=b-128:=wr64 _ (by omega)
 have q5:IntKind.i64.wrap ((b-128)*64)=(b-128)*64:=wr64 _ (by omega)
 have q6:IntKind.i64.wrap ((a-224)*4096+(b-128)*64)=(a-224)*4096+(b-128)*64:=wr64 _ (by omega)
 have q7:IntKind.i64.wrap (c)=c:=wr64 _ (by omega)
 have q8:IntKind.i64.wrap ((a-224)*4096+(b-128)*64+c)=(a-224)*4096+(b-128)*64+c:=wr64 _ (by omega)
 have q9:IntKind.i64.wrap ((a-224)*4096+(b-128)*64+c-128)=(a-224)*4096+(b-128)*64+c-128:=wr64 _ (by omega)
 have H:=Lib.hid (And.intro hs (And.intro h8 (whole_iff h8)))
 clear hs h8 hbz
 have hnum:numW [a,b,c]=(a-224)*4096+(b-128)*64+c-128:=rfl
 have HNUM:=Lib.hid hnum
 clear hnum
 have hbig:¬ 1114111<(a-224)*4096+(b-128)*64+c-128:=by omega
 by_cases hneg:(a-224)*4096+(b-128)*64+c-128<0
 · have HR:=Lib.hid (show wholeV [a,b,c]=.tuple #[.int .i32 0,.bool false] from whole_no (by rw [H.out.2.2,HNUM.out,if_neg];rintro ⟨h,_⟩;rw [mayS_iff] at h;omega))
   go_enter Tryz.func69,Tryz.ntmps69
   go_wp2
   go_quiet (fail)
   go_wp2
   go_ret2
   exact ⟨by rw [HR.out];rfl,below_drewN' (Below.refl _ _) _⟩
 go_enter Tryz.func69,Tryz.ntmps69
 go_wp2_with fail
 go_quiet (fail)
 go_wp2_with fail
 obtain ⟨w0,hw0⟩:∃ w0,w0=w.drewN nq:=⟨_,rfl⟩
 rw [← hw0]
 have Hb:=Lib.hid (show Below w.heap.size w w0 from by rw [hw0];exact below_drewN' (Below.refl _ _) _)
 clear hw0
 have HN:=Lib.hid (And.intro hneg hbig)
 obtain ⟨N,hN⟩:∃ N,(a-224)*4096+(b-128)*64+c-128=N:=⟨_,rfl⟩
 rw [hN] at HN HNUM ⊢
 have HW:=Lib.hid H.out.2.2
 rw [HNUM.out] at HW
 have HS:=Lib.hid H.out.1
 obtain ⟨zs,hzs⟩:∃ zs,zs=[a,b,c]:=⟨_,rfl⟩
 rw [← hzs] at HW HS
 have HZS:=Lib.hid hzs
 clear hN hneg hbig H HNUM hzs k0 k1 k2 q0 q1 q2 q3 q4 q5 q6 q7 q8 q9 ba bb bc
 refine (refEnc_any N w0).mono ?_
 rintro e w1 ⟨A',n',c',rfl,hs1,hb1⟩
 have X1:=Lib.hid (show Sb w1 A' n' (encS N)∧Sb w1 (some ad) 3 zs∧Below w.heap.size w w1 from ⟨hs1,(HS.out.below Hb.out).below hb1,Hb.out.trans (hb1.mono Hb.out.size)⟩)
 have hl1:=hs1.len
 have hlz:=HS.out.len
 have HL:=Lib.hid (And.intro hl1 hlz)
 clear hs1 hb1 Hb HS hl1 hlz
 have hw:wrap32 N=N:=by have:=HN.out;unfold wrap32;omega
 cases hm:mayS N
 · have HR:=Lib.hid (show wholeV zs=.tuple #[.int .i32 0,.bool false] from whole_no (by rw [HW.out,if_neg];rintro ⟨h,_⟩;rw [hm] at h;cases h))
   have HMY:=Lib.hid (may_any N w1)
   rw [hm] at HMY
   clear hm
   go_wp2_with fail
   refine HMY.out.mono ?_
   rintro e w2 ⟨rfl,rfl⟩
   go_wp2_with fail
   go_ret2
   exact ⟨by rw [← HZS.out,HR.out];rfl,X1.out.2.2⟩
 have HMY:=Lib.hid (may_any N w1)
 rw [hm] at HMY
 by_cases hne:n'=3
 · subst hne
   have hzz:(encS N=zs)→wholeV zs=.tuple #[.int .i32 N,.bool true]:=fun h=>whole_yes (by rw [HW.out,if_pos ⟨hm,h⟩])
   have hzn:(encS N≠zs)→wholeV zs=.tuple #[.int .i32 0,.bool false]:=fun h=>whole_no (by rw [HW.out,if_neg];exact fun h'=>h h'.2)
   have HZ:=Lib.hid (And.intro hzz hzn)
   have HM:=Lib.hid hm
   clear hzz hzn hm HW
   go_wp2_with fail
   refine HMY.out.mono ?_
   rintro e w2 ⟨rfl,rfl⟩
   go_wp2_with fail
   go_loopw [100] (fun i wr=>∃ k q:Nat,k≤3∧i=.int .i64 k∧(encS N).take k=zs.take k∧wr=w1.drewN q) (fun i _=>3-(iOf i).toNat)
   case atStart=>exact ⟨0,0,Nat.zero_le _,rfl,by simp,rfl⟩
   case round =>
    obtain ⟨k,q,hk,rfl,hx,rfl⟩:=hrel
    have HX:=Lib.hid hx
    clear hx
    by_cases hlt:k<3
    · have hkz:(k:Int)<3:=by omega
      obtain ⟨ad',rfl⟩:=X1.out.1.addr (by omega)
      have hc:=X1.out.1.cell hlt
      have hc':=X1.out.2.1.cell hlt
      have HT:=Lib.hid (take_eq_snoc (xs:=encS N) (ys:=zs) (k:=k) (by rw [HL.out.1];exact hlt) (by rw [HL.out.2];exact hlt))
      obtain ⟨x,hx⟩:∃ x,x=(encS N).getD k 0:=⟨_,rfl⟩
      obtain ⟨y,hy⟩:∃ y,y=zs.getD k 0:=⟨_,rfl⟩
      rw [← hx] at hc
      rw [← hy] at hc'
      rw [← hx,← hy] at HT
      have HAB:=Lib.hid (And.intro hx hy)
      clear hx hy
      by_cases hab:x=y
      · have ht:=HT.out.2 ⟨HX.out,hab⟩
        have HTT:=Lib.hid ht
        subst hab
        clear ht HT HAB
        go_wp2
        go_quiet (fail)
        go_wp2
        go_roundw
        case rel=>exact ⟨k+1,q+nq,by omega,by go_num,HTT.out,rfl⟩
        case measure=>simp [iOf];omega
      · have HD:=Lib.hid (HZ.out.2 (fun h=>hab (by rw [HAB.out.1,HAB.out.2,h])))
        have t1:(x == y)=false:=by simpa using hab
        have t2:(x != y)=true:=by simpa using hab
        clear hab
        go_wp2
        go_quiet (fail)
        go_wp2
        go_ret2
        exact ⟨by rw [← HZS.out,HD.out];rfl,by rw [drewN_add];exact below_drewN' X1.out.2.2 _⟩
    · have HD:=Lib.hid (HZ.out.1 (by have e1:=HX.out;rw [List.take_of_length_le (by rw [HL.out.1];omega),List.take_of_length_le (by rw [HL.out.2];omega)] at e1;exact e1))
      have hw2:wrap32 N=N:=by have:=HN.out;unfold wrap32;omega
      go_wp2
      go_ret2
      exact ⟨by rw [← HZS.out,HD.out,hw2];rfl,below_drewN' X1.out.2.2 q⟩
 · have HR:=Lib.hid (show wholeV zs=.tuple #[.int .i32 0,.bool false] from whole_no (by rw [HW.out,if_neg];rintro ⟨_,h⟩;exact hne (by rw [← HL.out.1,h,HL.out.2])))
   have hnz:¬ (n':Int)=3:=by omega
   clear hm hne
   go_wp2_with fail
   refine HMY.out.mono ?_
   rintro e w2 ⟨rfl,rfl⟩
   go_wp2_with fail
   go_ret2
   exact ⟨by rw [← HZS.out,HR.out];rfl,X1.out.2.2⟩
set_option maxHeartbeats 3200000 in
set_option maxRecDepth 100000 in
theorem whole_4 {w:World} {A:Option Addr} {cc:Nat} {a b c d:Int} (hs:Sb w A 4 [a,b,c,d]) (h8:U8s [a,b,c,d]) :
  Calls Tryz.prog 69 #[.slice A 4 cc] w fun e w'=>e=.returned (wholeV [a,b,c,d])∧Below w.heap.size w w':=by
 obtain ⟨ad,rfl⟩:=hs.addr (by omega)
 have k0:w.cell? ad=some (.int .u8 a):=by have:=hs.cell (k:=0) (by omega);rwa [addZ] at this
 have k1:w.cell? ⟨ad.block,ad.off+1,none⟩=some (.int .u8 b):=by have:=hs.cell (k:=1) (by omega);rwa [addP _ (by omega)] at this
 have k2:w.cell? ⟨ad.block,ad.off+2,none⟩=some (.int .u8 c):=by have:=hs.cell (k:=2) (by omega);rwa [addP _ (by omega)] at this
 have k3:w.cell? ⟨ad.block,ad.off+3,none⟩=some (.int .u8 d):=by have:=hs.cell (k:=3) (by omega);rwa [addP _ (by omega)] at this
 have hbz:=h8
 have ba:0≤a∧a≤255:=h8 a (by simp)
 have bb:0≤b∧b≤255:=h8 b (by simp)
 have bc:0≤c∧c≤255:=h8 c (by simp)
 have bd:0≤d∧d≤255:=h8 d (by simp)
 have q0:IntKind.i64.wrap (a)=a:=wr64 _ (by omega)
 have q1:IntKind.i64.wrap (a-240)=a-240:=wr64 _ (by omega)
 have q2:IntKind.i64.wrap ((a-240)*262144)=(a-240)*262144:=wr64 _ (by omega)
 have q3:IntKind.i64.wrap (b)=b:=wr64 _ (by omega)
 have q4:IntKind.i64.wrap (b-128)=b-128:=wr64 _ (by omega)
 have q5:IntKind.i64.wrap ((b-128)*4096)=(b-128)*4096:=wr64 _ (by omega)
 have q6:IntKind.i64.wrap ((a-240)*262144+(b-128)*4096)=(a-240)*262144+(b-128)*4096:=wr64 _ (by omega)
 have q7:IntKind.i64.wrap (c)=c:=wr64 _ (by omega)
 have q8:IntKind.i64.wrap (c-128)=c-128:=wr64 _ (by omega)
 have q9:IntKind.i64.wrap ((c-128)*64)=(c-128)*64:=wr64 _ (by omega)
 have q10:IntKind.i64.wrap ((a-240)*262144+(b-128)*4096+(c-128)*64)=(a-240)*262144+(b-128)*4096+(c-128)*64:=wr64 _ (by omega)
 have q11:IntKind.i64.wrap (d)=d:=wr64 _ (by omega)
 have q12:IntKind.i64.wrap ((a-240)*262144+(b-128)*4096+(c-128)*64+d)=(a-240)*262144+(b-128)*4096+(c-128)*64+d:=wr64 _ (by omega)
 have q13:IntKind.i64.wrap ((a-240)*262144+(b-128)*4096+(c-128)*64+d-128)=(a-240)*262144+(b-128)*4096+(c-128)*64+d-128:=wr64 _ (by omega)
 have H:=Lib.hid (And.intro hs (And.intro h8 (whole_iff h8)))
 clear hs h8 hbz
 have hnum:numW [a,b,c,d]=(a-240)*262144+(b-128)*4096+(c-128)*64+d-128:=rfl
 have HNUM:=Lib.hid hnum
 clear hnum
 by_cases hneg:(a-240)*262144+(b-128)*4096+(c-128)*64+d-128<0
 · have HR:=Lib.hid (show wholeV [a,b,c,d]=.tuple #[.int .i32 0,.bool false] from whole_no (by rw [H.out.2.2,HNUM.out,if_neg];rintro ⟨h,_⟩;rw [mayS_iff] at h;omega))
   go_enter Tryz.func69,Tryz.ntmps69
   go_wp2
   go_quiet (fail)
   go_wp2
   go_ret2
   exact ⟨by rw [HR.out];rfl,below_drewN' (Below.refl _ _) _⟩
 by_cases hbig:1114111<(a-240)*262144+(b-128)*4096+(c-128)*64+d-128
 · have HR:=Lib.hid (show wholeV [a,b,c,d]=.tuple #[.int .i32 0,.bool false] from whole_no (by rw [H.out.2.2,HNUM.out,if_neg];rintro ⟨h,_⟩;rw [mayS_iff] at h;omega))
   go_enter Tryz.func69,Tryz.ntmps69
   go_wp2
   go_quiet (fail)
   go_wp2
   go_ret2
   exact ⟨by rw [HR.out];rfl,below_drewN' (Below.refl _ _) _⟩
 go_enter Tryz.func69,Tryz.ntmps69
 go_wp2_with fail
 go_quiet (fail)
 go_wp2_with fail
 obtain ⟨w0,hw0⟩:∃ w0,w0=w.drewN nq:=⟨_,rfl⟩
 rw [← hw0]
 have Hb:=Lib.hid (show Below w.heap.size w w0 from by rw [hw0];exact below_drewN' (Below.refl _ _) _)
 clear hw0
 have HN:=Lib.hid (And.intro hneg hbig)
 obtain ⟨N,hN⟩:∃ N,(a-240)*262144+(b-128)*4096+(c-128)*64+d-128=N:=⟨_,rfl⟩
 rw [hN] at HN HNUM ⊢
 have HW:=Lib.hid H.out.2.2
 rw [HNUM.out] at HW
 have HS:=Lib.hid H.out.1
 obtain ⟨zs,hzs⟩:∃ zs,zs=[a,b,c,d]:=⟨_,rfl⟩
 rw [← hzs] at HW HS
 have HZS:=Lib.hid hzs
 clear hN hneg hbig H HNUM hzs k0 k1 k2 k3 q0 q1 q2 q3 q4 q5 q6 q7 q8 q9 q10 q11 q12 q13 ba bb bc bd
 refine (refEnc_any N w0).mono ?_
 rintro e w1 ⟨A',n',c',rfl,hs1,hb1⟩
 have X1:=Lib.hid (show Sb w1 A' n' (encS N)∧Sb w1 (some ad) 4 zs∧Below w.heap.size w w1 from ⟨hs1,(HS.out.below Hb.out).below hb1,Hb.out.trans (hb1.mono Hb.out.size)⟩)
 have hl1:=hs1.len
 have hlz:=HS.out.len
 have HL:=Lib.hid (And.intro hl1 hlz)
 clear hs1 hb1 Hb HS hl1 hlz
 have hw:wrap32 N=N:=by have:=HN.out;unfold wrap32;omega
 cases hm:mayS N
 · have HR:=Lib.hid (show wholeV zs=.tuple #[.int .i32 0,.bool false] from whole_no (by rw [HW.out,if_neg];rintro ⟨h,_⟩;rw [hm] at h;cases h))
   have HMY:=Lib.hid (may_any N w1)
   rw [hm] at HMY
   clear hm
   go_wp2_with fail
   refine HMY.out.mono ?_
   rintro e w2 ⟨rfl,rfl⟩
   go_wp2_with fail
   go_ret2
   exact ⟨by rw [← HZS.out,HR.out];rfl,X1.out.2.2⟩
 have HMY:=Lib.hid (may_any N w1)
 rw [hm] at HMY
 by_cases hne:n'=4
 · subst hne
   have hzz:(encS N=zs)→wholeV zs=.tuple #[.int .i32 N,.bool true]:=fun h=>whole_yes (by rw [HW.out,if_pos ⟨hm,h⟩])
   have hzn:(encS N≠zs)→wholeV zs=.tuple #[.int .i32 0,.bool false]:=fun h=>whole_no (by rw [HW.out,if_neg];exact fun h'=>h h'.2)
   have HZ:=Lib.hid (And.intro hzz hzn)
   have HM:=Lib.hid hm
   clear hzz hzn hm HW
   go_wp2_with fail
   refine HMY.out.mono ?_
   rintro e w2 ⟨rfl,rfl⟩
   go_wp2_with fail
   go_loopw [100] (fun i wr=>∃ k q:Nat,k≤4∧i=.int .i64 k∧(encS N).take k=zs.take k∧wr=w1.drewN q) (fun i _=>4-(iOf i).toNat)
   case atStart=>exact ⟨0,0,Nat.zero_le _,rfl,by simp,rfl⟩
   case round =>
    obtain ⟨k,q,hk,rfl,hx,rfl⟩:=hrel
    have HX:=Lib.hid hx
    clear hx
    by_cases hlt:k<4
    · have hkz:(k:Int)<4:=by omega
      obtain ⟨ad',rfl⟩:=X1.out.1.addr (by omega)
      have hc:=X1.out.1.cell hlt
      have hc':=X1.out.2.1.cell hlt
      have HT:=Lib.hid (take_eq_snoc (xs:=encS N) (ys:=zs) (k:=k) (by rw [HL.out.1];exact hlt) (by rw [HL.out.2];exact hlt))
      obtain ⟨x,hx⟩:∃ x,x=(encS N).getD k 0:=⟨_,rfl⟩
      obtain ⟨y,hy⟩:∃ y,y=zs.getD k 0:=⟨_,rfl⟩
      rw [← hx] at hc
      rw [← hy] at hc'
      rw [← hx,← hy] at HT
      have HAB:=Lib.hid (And.intro hx hy)
      clear hx hy
      by_cases hab:x=y
      · have ht:=HT.out.2 ⟨HX.out,hab⟩
        have HTT:=Lib.hid ht
        subst hab
        clear ht HT HAB
        go_wp2
        go_quiet (fail)
        go_wp2
        go_roundw
        case rel=>exact ⟨k+1,q+nq,by omega,by go_num,HTT.out,rfl⟩
        case measure=>simp [iOf];omega
      · have HD:=Lib.hid (HZ.out.2 (fun h=>hab (by rw [HAB.out.1,HAB.out.2,h])))
        have t1:(x == y)=false:=by simpa using hab
        have t2:(x != y)=true:=by simpa using hab
        clear hab
        go_wp2
        go_quiet (fail)
        go_wp2
        go_ret2
        exact ⟨by rw [← HZS.out,HD.out];rfl,by rw [drewN_add];exact below_drewN' X1.out.2.2 _⟩
    · have HD:=Lib.hid (HZ.out.1 (by have e1:=HX.out;rw [List.take_of_length_le (by rw [HL.out.1];omega),List.take_of_length_le (by rw [HL.out.2];omega)] at e1;exact e1))
      have hw2:wrap32 N=N:=by have:=HN.out;unfold wrap32;omega
      go_wp2
      go_ret2
      exact ⟨by rw [← HZS.out,HD.out,hw2];rfl,below_drewN' X1.out.2.2 q⟩
 · have HR:=Lib.hid (show wholeV zs=.tuple #[.int .i32 0,.bool false] from whole_no (by rw [HW.out,if_neg];rintro ⟨_,h⟩;exact hne (by rw [← HL.out.1,h,HL.out.2])))
   have hnz:¬ (n':Int)=4:=by omega
   clear hm hne
   go_wp2_with fail
   refine HMY.out.mono ?_
   rintro e w2 ⟨rfl,rfl⟩
   go_wp2_with fail
   go_ret2
   exact ⟨by rw [← HZS.out,HR.out];rfl,X1.out.2.2⟩
open Go.RowKit
theorem whole_len {w:World} {A:Option Addr} {n cc:Nat} {zs:List Int} (hs:Sb w A n zs) (hn:n=0∨5≤n) (_:n≤1000000) :
  Calls Tryz.prog 69 #[.slice A n cc] w fun e w'=>e=.returned (wholeV zs)∧Below w.heap.size w w':=by
 have hz:wholeV zs=.tuple #[.int .i32 0,.bool false]:=by
  apply whole_no
  have:=hs.len
  rcases zs with _ | ⟨a,_ | ⟨b,_ | ⟨c,_ | ⟨d,_ | ⟨e,t⟩⟩⟩⟩⟩<;>simp at this<;>first | (exfalso;omega) | rfl
 rw [hz]
 have n1:¬ (n:Int)=1:=by omega
 have n2:¬ (n:Int)=2:=by omega
 have n3:¬ (n:Int)=3:=by omega
 have n4:¬ (n:Int)=4:=by omega
 clear hs hz
 go_enter Tryz.func69,Tryz.ntmps69
 go_wp2
 go_ret2
 exact ⟨rfl,Below.refl _ _⟩
theorem whole_any {w:World} {A:Option Addr} {n cc:Nat} {zs:List Int} (hs:Sb w A n zs) (h8:U8s zs) (hm:n≤1000000) :
  Calls Tryz.prog 69 #[.slice A n cc] w fun e w'=>e=.returned (wholeV zs)∧Below w.heap.size w w':=by
 have hl:=hs.len
 rcases zs with _ | ⟨a,_ | ⟨b,_ | ⟨c,_ | ⟨d,_ | ⟨e,t⟩⟩⟩⟩⟩
 · exact whole_len hs (by simp at hl;omega) hm
 · obtain rfl:n=1:=by simpa using hl.symm
   exact whole_1 hs h8
 · obtain rfl:n=2:=by simpa using hl.symm
   exact whole_2 hs h8
 · obtain rfl:n=3:=by simpa using hl.symm
   exact whole_3 hs h8
 · obtain rfl:n=4:=by simpa using hl.symm
   exact whole_4 hs h8
 · exact whole_len hs (by simp at hl;omega) hm
theorem beg_yes {zs ext:List Int} {r:Int} (hz:zs≠[]) (he:ext≠[]) (h:wholeS (zs ++ ext)=some r):begS zs=true:=by
 rcases ext with _ | ⟨e1,_ | ⟨e2,_ | ⟨e3,_ | ⟨e4,t⟩⟩⟩⟩<;>rcases zs with _ | ⟨a,_ | ⟨b,_ | ⟨c,_ | ⟨d,t'⟩⟩⟩⟩<;>simp [wholeS,begS] at hz he h ⊢<;>first | exact ⟨by omega,h.1.2.1⟩ | exact ⟨by omega,h.1.2.1,h.1.2.2.1⟩ | exact ⟨by omega,h.1.2⟩ | omega | skip
def no1 (a:Int) (m:Nat):Prop:=∀ j:Nat,j<64→wholeS (a :: (128+(j:Int)) :: List.replicate (m-2) 128)=none
def noN (zs:List Int) (m:Nat):Prop:=wholeS (zs ++ List.replicate (m-zs.length) 128)=none
theorem beg_no1 {a:Int} (h:∀ m,2≤m→m≤4→no1 a m):begS [a]=false:=by
 cases hb:begS [a] with
 | false=>rfl
 | true =>
  exfalso
  have h2:2≤szF a:=by simpa [begS] using hb
  have h4:szF a≤4:=by rcases szF_le a with e | e | e | e | e<;>omega
  have hl:=loF_ge a
  have hok:=lo_hi a
  obtain ⟨j,hj⟩:∃ j:Nat,(j:Int)=loF a-128:=⟨(loF a-128).toNat,by omega⟩
  have h5:=h (szF a) h2 h4 j (by omega)
  rw [hj,show (128:Int)+(loF a-128)=loF a by omega] at h5
  have hs:szF a=2∨szF a=3∨szF a=4:=by omega
  rcases hs with hs | hs | hs<;>rw [hs] at h5<;>simp [wholeS,hs,hok,ctF,List.replicate] at h5
theorem beg_noN {zs:List Int} (hz:zs.length=2∨zs.length=3) (h:∀ m,zs.length<m→m≤4→noN zs m):begS zs=false:=by
 cases hb:begS zs with
 | false=>rfl
 | true =>
  exfalso
  rcases zs with _ | ⟨a,_ | ⟨b,_ | ⟨c,_ | ⟨d,t⟩⟩⟩⟩<;>simp at hz
  · simp [begS] at hb
    have h3:=h 3 (by simp) (by omega)
    have h4:=h 4 (by simp) (by omega)
    have hs:szF a=3∨szF a=4:=by rcases szF_le a with e | e | e | e | e<;>omega
    rcases hs with hs | hs
    · simp [noN,wholeS,hs,hb,ctF] at h3
    · simp [noN,wholeS,hs,hb,ctF,List.replicate] at h4
  · simp [begS] at hb
    have h4:=h 4 (by simp) (by omega)
    have hs:szF a=4:=by rcases szF_le a with e | e | e | e | e<;>omega
    simp [noN,wholeS,hs,hb] at h4
    simp [ctF] at h4
def Rw8 (w:World) (g:Nat) (L:List Int):Prop:=w.heap[g]?=some (.cells (L.map (Value.int .u8)).toArray 5 (0,0))
theorem Rw8.lt {w:World} {g:Nat} {L:List Int} (h:Rw8 w g L):g<w.heap.size:=(Array.getElem?_eq_some_iff.1 h).1
theorem Rw8.cell {w:World} {g:Nat} {L:List Int} (h:Rw8 w g L) {k:Nat} (hk:k<L.length):w.cell? ⟨g,k,none⟩=some (.int .u8 (L.getD k 0)):=by
 rw [cell_of_row _ _ k _ _ _ h,List.getElem?_toArray,List.getElem?_map,List.getD,List.getElem?_eq_getElem hk];rfl
theorem Rw8.free {w:World} {g:Nat} {L:List Int} (h:Rw8 w g L) (k:Nat):w.frozen? ⟨g,k,none⟩=false:=frozen_of_row _ _ k _ _ h
theorem Rw8.set {w:World} {g:Nat} {L:List Int} (h:Rw8 w g L) (k:Nat) (z:Int):Rw8 (w.setCell ⟨g,k,none⟩ (.int .u8 z)) g (L.set k z):=by
 have:=heap_setCell_same w g k _ _ (.int .u8 z) h
 unfold Rw8
 rw [this]
 congr 2
 apply Array.ext'
 simp [List.map_set]
theorem Rw8.below {w w':World} {g:Nat} {L:List Int} (h:Rw8 w g L) (hb:Below w.heap.size w w'):Rw8 w' g L:=(hb.block g h.lt).trans h
theorem Rw8.sb {w:World} {g:Nat} {L:List Int} (h:Rw8 w g L):Sb w (some ⟨g,0,none⟩) L.length L:=⟨rfl,fun _=>⟨_,rfl,h.lt,fun k hk=>by rw [addHead];exact h.cell hk⟩⟩
theorem Rw8.made {w:World} {base g n:Nat} (h:w.ownsRow base 5 1 (.slice (some ⟨g,0,none⟩) n n) n (madeCells #[Value.int .u8 0] n).toList):Rw8 w g (List.replicate n 0):=by
 rcases h.2 with ⟨h1,_⟩ | ⟨g',cap,cur,h1,hb,hg,hle,hm,hcs,ht⟩
 · cases h1
 · injection h1 with h2 _ h3
   injection h2 with h2
   injection h2 with h2
   subst h2
   subst h3
   have:cur.toList=(madeCells #[Value.int .u8 0] n).toList:=by rw [← ht];exact (List.take_of_length_le (by simpa using Nat.le_of_eq hcs)).symm
   unfold Rw8
   rw [hg]
   congr 2
   apply Array.ext'
   rw [this,toList_madeCells_one]
   simp
theorem fill_set (m k:Nat) (v y:Int):(List.replicate k v ++ y :: List.replicate (m-(k+1)) 0).set k v=List.replicate (k+1) v ++ List.replicate (m-(k+1)) 0:=by
 rw [List.set_append_right _ _ (by simp)]
 simp [List.replicate_succ']
theorem fill_row {m k:Nat} (h:k<m) (v:Int):List.replicate k v ++ List.replicate (m-k) 0=List.replicate k v ++ (0:Int) :: List.replicate (m-(k+1)) 0:=by
 rw [show m-k=(m-(k+1))+1 by omega,List.replicate_succ]
open Go.RowKit
def wholeLen (L:List Int) (k:Nat):Nat:=match headS L with
 | some (_,n)=>if n<k then n else 0
 | none=>0
theorem wholeLen_step {L:List Int} {k:Nat} (h1:1≤k) (h4:k≤4) (hk:k≤L.length):wholeLen L (k+1)=if (wholeS (L.take k)).isSome=true then k else wholeLen L k:=by
 rw [head_take h1 h4 hk]
 unfold wholeLen
 cases headS L with
 | none=>simp
 | some x =>
  obtain ⟨r,n⟩:=x
  simp only
  by_cases h:n=k
  · subst h;simp
  · rw [if_neg h]
    simp only [Option.isSome_none,Bool.false_eq_true,if_false]
    by_cases h2:n<k
    · rw [if_pos (by omega),if_pos h2]
    · rw [if_neg (by omega),if_neg h2]
theorem wholeLen_end {L:List Int} {k:Nat} (h:4<k∨L.length<k):(wholeLen L k=0∧headS L=none)∨(∃ r,headS L=some (r,wholeLen L k)∧1≤wholeLen L k∧wholeLen L k≤L.length):=by
 unfold wholeLen
 cases hh:headS L with
 | none=>exact .inl ⟨rfl,rfl⟩
 | some x =>
  obtain ⟨r,n⟩:=x
  have:=head_len hh
  right
  simp only
  rw [if_pos (by omega)]
  exact ⟨r,rfl,by omega,by omega⟩
set_option maxHeartbeats 3200000 in
set_option maxRecDepth 100000 in
theorem refValid_any {w:World} {A:Option Addr} {n c:Nat} {zs:List Int} (hs:Sb w A n zs) (h8:U8s zs) (hc:n≤c) (hn:n≤100000) :
  Calls Tryz.prog 45 #[.slice A n c] w fun e w'=>e=.returned (.bool (validS zs))∧Below w.heap.size w w':=by
 obtain ⟨ANS,hANS⟩:∃ ANS,validS zs=ANS:=⟨_,rfl⟩
 rw [hANS]
 have H:=Lib.hid (show Sb w A n zs∧U8s zs∧validS zs=ANS∧n≤c∧n≤100000 from ⟨hs,h8,hANS,hc,hn⟩)
 clear hs h8 hANS hc hn
 go_enter Tryz.func45,Tryz.ntmps45
 go_wp2_with fail
 go_loopw [3] (fun i wr=>∃ k:Nat,k≤n∧i=.int .i64 k∧validS (zs.drop k)=ANS∧Below w.heap.size w wr) (fun i _=>n-(iOf i).toNat)
 case atStart=>exact ⟨0,by omega,rfl,H.out.2.2.1,Below.refl _ _⟩
 case round =>
  obtain ⟨k,hk,rfl,hv,hbw⟩:=hrel
  have X:=Lib.hid (And.intro hv hbw)
  clear hv hbw
  have hkn:k≤100000:=by have:=H.out.2.2.2.2;omega
  have hnn:n≤100000:=H.out.2.2.2.2
  by_cases hlt:k<n
  · have hkl:(k:Int)<(n:Int):=by omega
    go_wp2_with fail
    obtain ⟨wo,hwo⟩:∃ wo,wo=wr:=⟨_,rfl⟩
    rw [← hwo]
    have X':=Lib.hid (show validS (zs.drop k)=ANS∧Below w.heap.size w wo from by rw [hwo];exact X.out)
    clear X hwo
    go_loopw [4,5] (fun s t wr=>∃ j:Nat,1≤j∧j≤5∧t=.int .i64 j∧s=.int .i64 (wholeLen (zs.drop k) j)∧Below w.heap.size w wr) (fun _ t _=>5-(iOf t).toNat)
    case atStart=>exact ⟨1,by omega,by omega,rfl,by
     have h0:wholeLen (zs.drop k) 1=0:=by
      unfold wholeLen
      split
      · rename_i hh;have:=head_len hh;rw [if_neg (by omega)]
      · rfl
     rw [h0];rfl,X'.out.2⟩
    case round =>
     obtain ⟨j,hj1,hj5,rfl,rfl,hbw⟩:=hrel
     have Y:=Lib.hid hbw
     clear hbw
     have hlen:(zs.drop k).length=n-k:=by rw [List.length_drop,H.out.1.len]
     by_cases hgo:j≤4∧j≤n-k
     · have hj4:(j:Int)≤4:=by omega
       have hjn:(j:Int)≤(n:Int)-(k:Int):=by omega
       have hcn:=H.out.2.2.2.1
       have hkjn:(k:Int)+(j:Int)≤(c:Int):=by omega
       have hck:¬ c=k:=by omega
       have hkc:(k:Int)≤(c:Int):=by omega
       have hsub:=((H.out.1.below Y.out).cut (k:=k) (by omega) hcn).front (k:=j) hgo.2
       rw [if_neg hck] at hsub
       have hj10:j≤1000000:=by omega
       have HW:=whole_any (cc:=c-k) hsub (fun z hz=>H.out.2.1 z (List.mem_of_mem_drop (List.mem_of_mem_take hz))) hj10
       have hst:=wholeLen_step (L:=zs.drop k) hj1 hgo.1 (by rw [hlen];exact hgo.2)
       have hj1':=hj1
       clear hgo hlen hcn hsub hj10
       obtain ⟨M,hM⟩:∃ M,M=wholeLen (zs.drop k) j:=⟨_,rfl⟩
       rw [← hM] at hst ⊢
       clear hM
       cases hw:wholeS ((zs.drop k).take j) with
       | none =>
        rw [whole_no hw] at HW
        rw [hw,if_neg (by simp)] at hst
        have HW:=Lib.hid HW
        have HST:=Lib.hid hst
        clear hst hw
        go_wp2_with fail
        refine HW.out.mono ?_
        rintro e w2 ⟨rfl,hb2⟩
        have Z:=Lib.hid (Y.out.trans (hb2.mono Y.out.size))
        clear hb2 HW
        go_wp2_with fail
        go_roundw
        case rel=>exact ⟨j+1,by omega,by omega,by go_num,by rw [HST.out],Z.out⟩
        case measure=>simp [iOf];omega
       | some r =>
        rw [whole_yes hw] at HW
        rw [hw,if_pos (by simp)] at hst
        have HW:=Lib.hid HW
        have HST:=Lib.hid hst
        clear hst hw
        go_wp2_with fail
        refine HW.out.mono ?_
        rintro e w2 ⟨rfl,hb2⟩
        have Z:=Lib.hid (Y.out.trans (hb2.mono Y.out.size))
        clear hb2 HW
        go_wp2_with fail
        go_roundw
        case rel=>exact ⟨j+1,by omega,by omega,by go_num,by rw [HST.out],Z.out⟩
        case measure=>simp [iOf];omega
     · by_cases hj4:(j:Int)≤4
       · have hjn:¬ (j:Int)≤(n:Int)-(k:Int):=by omega
         have hend:=wholeLen_end (L:=zs.drop k) (k:=j) (by omega)
         obtain ⟨M,hM⟩:∃ M,M=wholeLen (zs.drop k) j:=⟨_,rfl⟩
         rw [← hM] at hend ⊢
         clear hM
         have hne:zs.drop k≠[]:=by intro h;rw [h] at hlen;simp at hlen;omega
         rcases hend with ⟨h0,hh⟩ | ⟨r,hh,hm1,hm2⟩
         · have hM0:(M:Int)=0:=by omega
           have HA:=Lib.hid (show ANS=false from by rw [← X'.out.1];exact valid_none hne hh)
           clear hne hh h0 hlen
           go_wp2_with fail
           go_ret
           exact ⟨by rw [HA.out];rfl,Y.out⟩
         · have hM0:¬ (M:Int)=0:=by omega
           rw [hlen] at hm2
           have HA:=Lib.hid (show validS (zs.drop (k+M))=ANS from by rw [← X'.out.1,valid_head (fun z hz=>H.out.2.1 z (List.mem_of_mem_drop hz)) hh,List.drop_drop])
           have hkm:(k:Int)+(M:Int)≤100000:=by omega
           clear hne hh hlen
           go_wp2_with fail
           go_roundw
           case rel=>exact ⟨k+M,by omega,by go_num,HA.out,Y.out⟩
           case measure=>simp [iOf];omega
       · skip
         have hend:=wholeLen_end (L:=zs.drop k) (k:=j) (by omega)
         obtain ⟨M,hM⟩:∃ M,M=wholeLen (zs.drop k) j:=⟨_,rfl⟩
         rw [← hM] at hend ⊢
         clear hM
         have hne:zs.drop k≠[]:=by intro h;rw [h] at hlen;simp at hlen;omega
         rcases hend with ⟨h0,hh⟩ | ⟨r,hh,hm1,hm2⟩
         · have hM0:(M:Int)=0:=by omega
           have HA:=Lib.hid (show ANS=false from by rw [← X'.out.1];exact valid_none hne hh)
           clear hne hh h0 hlen
           go_wp2_with fail
           go_ret
           exact ⟨by rw [HA.out];rfl,Y.out⟩
         · have hM0:¬ (M:Int)=0:=by omega
           rw [hlen] at hm2
           have HA:=Lib.hid (show validS (zs.drop (k+M))=ANS from by rw [← X'.out.1,valid_head (fun z hz=>H.out.2.1 z (List.mem_of_mem_drop hz)) hh,List.drop_drop])
           have hkm:(k:Int)+(M:Int)≤100000:=by omega
           clear hne hh hlen
           go_wp2_with fail
           go_roundw
           case rel=>exact ⟨k+M,by omega,by go_num,HA.out,Y.out⟩
           case measure=>simp [iOf];omega
  · obtain rfl:k=n:=by omega
    have HA:=Lib.hid (show ANS=true from by rw [← X.out.1,List.drop_of_length_le (by rw [H.out.1.len];exact Nat.le_refl _)];exact valid_nil)
    go_wp2_with fail
    go_ret
    exact ⟨by rw [HA.out];rfl,X.out.2⟩
end Go.Proofs.YtikhknnhmnopbaaGreatDoor
