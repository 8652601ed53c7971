/-
  Part 46 of what the laws of emul want: UtfWhole.
-/
import Derived.Deep.QuietTactic
import Derived.BigQuiet
import Derived.LoopTactic
import Derived.Test.YtlcipgdnpilkfaaGreatDoorPm45
namespace Go.Proofs.YtlcipgdnpilkfaaGreatDoor
open Go.RowKit
def numW (zs:List Int):Int:=match zs with
 | [a]=>a
 | [a,b]=>(a-192)*64+b-128
 | [a,b,c]=>(a-224)*4096+(b-128)*64+c-128
 | [a,b,c,d]=>(a-240)*262144+(b-128)*4096+(c-128)*64+d-128
 | _=>-1
theorem drewN_add (w:World) (a b:Nat):(w.drewN a).drewN b=w.drewN (a+b):=by simp [World.drewN,Nat.add_assoc]
theorem wr64 (n:Int) (h:-9223372036854775808≤n∧n≤9223372036854775807):IntKind.i64.wrap n=n:=by
 rw [IntKind.wrap_i64];omega
theorem addP (a:Addr) {k:Nat} (h:0<k):a.add k=⟨a.block,a.off+k,none⟩:=by unfold Addr.add;rw [if_neg (by omega)]
theorem addZ (a:Addr):a.add 0=a:=by unfold Addr.add;simp
theorem whole_num {zs:List Int} {r:Int} (hb:∀ z∈zs,0≤z∧z≤255) (h:wholeS zs=some r):r=numW zs:=by
 rcases zs with _ | ⟨a,_ | ⟨b,_ | ⟨c,_ | ⟨d,_ | ⟨e,t⟩⟩⟩⟩⟩<;>simp only [wholeS] at h
 · cases h
 · split at h
   · cases h;rfl
   · cases h
 · split at h
   · rename_i hc
     have h1:=szF2.1 hc.1
     have h2:=okct hc.2
     cases h;show v2 a b=(a-192)*64+b-128;unfold v2;omega
   · cases h
 · split at h
   · rename_i hc
     have h1:=szF3.1 hc.1
     have h2:=okct hc.2.1
     have h3:=ctF_iff.1 hc.2.2
     cases h;show v3 a b c=(a-224)*4096+(b-128)*64+c-128;unfold v3;omega
   · cases h
 · split at h
   · rename_i hc
     have h1:=szF4.1 hc.1
     have h2:=okct hc.2.1
     have h3:=ctF_iff.1 hc.2.2.1
     have h4:=ctF_iff.1 hc.2.2.2
     cases h;show v4 a b c d=(a-240)*262144+(b-128)*4096+(c-128)*64+d-128;unfold v4;omega
   · cases h
 · cases h
theorem whole_iff {zs:List Int} (hb:∀ z∈zs,0≤z∧z≤255):wholeS zs=if mayS (numW zs)=true∧encS (numW zs)=zs then some (numW zs) else none:=by
 split
 · rename_i h
   have h1:=whole_enc h.1
   rw [h.2] at h1
   exact h1
 · rename_i h
   cases hw:wholeS zs with
   | none=>rfl
   | some r =>
    obtain ⟨h1,h2⟩:=enc_whole hb hw
    have h3:=whole_num hb hw
    subst h3
    exact absurd ⟨h2,h1⟩ h
def wholeV (zs:List Int):Value:=match wholeS zs with
 | some r=>.tuple #[.int .i32 r,.bool true]
 | none=>.tuple #[.int .i32 0,.bool false]
theorem whole_no {zs:List Int} (h:wholeS zs=none):wholeV zs=.tuple #[.int .i32 0,.bool false]:=by unfold wholeV;rw [h]
theorem whole_yes {zs:List Int} {r:Int} (h:wholeS zs=some r):wholeV zs=.tuple #[.int .i32 r,.bool true]:=by unfold wholeV;rw [h]
set_option maxHeartbeats 3200000 in
set_option maxRecDepth 100000 in
theorem whole_1 {w:World} {A:Option Addr} {cc:Nat} {a:Int} (hs:Sb w A 1 [a]) (h8:U8s [a]) :
  Calls Tryz.prog 139 #[.slice A 1 cc] w fun e w'=>e=.returned (wholeV [a])∧Below w.heap.size w w':=by
 obtain ⟨ad,rfl⟩:=hs.addr (by omega)
 have k0:w.cell? ad=some (.int .u8 a):=by have:=hs.cell (k:=0) (by omega);rwa [addZ] at this
 have hbz:=h8
 have ba:0≤a∧a≤255:=h8 a (by simp)
 have H:=Lib.hid (And.intro hs (And.intro h8 (whole_iff h8)))
 clear hs h8 hbz
 have hnum:numW [a]=a:=rfl
 have HNUM:=Lib.hid hnum
 clear hnum
 have hbig:¬ 1114111<a:=by omega
 by_cases hneg:a<0
 · have HR:=Lib.hid (show wholeV [a]=.tuple #[.int .i32 0,.bool false] from whole_no (by rw [H.out.2.2,HNUM.out,if_neg];rintro ⟨h,_⟩;rw [mayS_iff] at h;omega))
   go_enter Tryz.func139,Tryz.ntmps139
   go_wp2
   go_ret2
   exact ⟨by rw [HR.out];rfl,Below.refl _ _⟩
 go_enter Tryz.func139,Tryz.ntmps139
 go_wp2_with fail
 obtain ⟨w0,hw0⟩:∃ w0,w0=w:=⟨_,rfl⟩
 rw [← hw0]
 have Hb:=Lib.hid (show Below w.heap.size w w0 from by rw [hw0];exact Below.refl _ _)
 clear hw0
 have HN:=Lib.hid (And.intro hneg hbig)
 have HW:=Lib.hid H.out.2.2
 rw [HNUM.out] at HW
 have HS:=Lib.hid H.out.1
 obtain ⟨zs,hzs⟩:∃ zs,zs=[a]:=⟨_,rfl⟩
 rw [← hzs] at HW HS
 have HZS:=Lib.hid hzs
 clear hneg hbig H HNUM hzs k0 ba
 refine (refEnc_any a w0).mono ?_
 rintro e w1 ⟨A',n',c',rfl,hs1,hb1⟩
 have X1:=Lib.hid (show Sb w1 A' n' (encS a)∧Sb w1 (some ad) 1 zs∧Below w.heap.size w w1 from ⟨hs1,(HS.out.below Hb.out).below hb1,Hb.out.trans (hb1.mono Hb.out.size)⟩)
 have hl1:=hs1.len
 have hlz:=HS.out.len
 have HL:=Lib.hid (And.intro hl1 hlz)
 clear hs1 hb1 Hb HS hl1 hlz
 have hw:wrap32 a=a:=by have:=HN.out;unfold wrap32;omega
 cases hm:mayS a
 · have HR:=Lib.hid (show wholeV zs=.tuple #[.int .i32 0,.bool false] from whole_no (by rw [HW.out,if_neg];rintro ⟨h,_⟩;rw [hm] at h;cases h))
   have HMY:=Lib.hid (may_any a w1)
   rw [hm] at HMY
   clear hm
   go_wp2_with fail
   refine HMY.out.mono ?_
   rintro e w2 ⟨rfl,rfl⟩
   go_wp2_with fail
   go_ret2
   exact ⟨by rw [← HZS.out,HR.out];rfl,X1.out.2.2⟩
 have HMY:=Lib.hid (may_any a w1)
 rw [hm] at HMY
 by_cases hne:n'=1
 · subst hne
   have hzz:(encS a=zs)→wholeV zs=.tuple #[.int .i32 a,.bool true]:=fun h=>whole_yes (by rw [HW.out,if_pos ⟨hm,h⟩])
   have hzn:(encS a≠zs)→wholeV zs=.tuple #[.int .i32 0,.bool false]:=fun h=>whole_no (by rw [HW.out,if_neg];exact fun h'=>h h'.2)
   have HZ:=Lib.hid (And.intro hzz hzn)
   have HM:=Lib.hid hm
   clear hzz hzn hm HW
   go_wp2_with fail
   refine HMY.out.mono ?_
   rintro e w2 ⟨rfl,rfl⟩
   go_wp2_with fail
   go_loopw [100] (fun i wr=>∃ k q:Nat,k≤1∧i=.int .i64 k∧(encS a).take k=zs.take k∧wr=w1.drewN q) (fun i _=>1-(iOf i).toNat)
   case atStart=>exact ⟨0,0,Nat.zero_le _,rfl,by simp,rfl⟩
   case round =>
    obtain ⟨k,q,hk,rfl,hx,rfl⟩:=hrel
    have HX:=Lib.hid hx
    clear hx
    by_cases hlt:k<1
    · have hkz:(k:Int)<1:=by omega
      obtain ⟨ad',rfl⟩:=X1.out.1.addr (by omega)
      have hc:=X1.out.1.cell hlt
      have hc':=X1.out.2.1.cell hlt
      have HT:=Lib.hid (take_eq_snoc (xs:=encS a) (ys:=zs) (k:=k) (by rw [HL.out.1];exact hlt) (by rw [HL.out.2];exact hlt))
      obtain ⟨x,hx⟩:∃ x,x=(encS a).getD k 0:=⟨_,rfl⟩
      obtain ⟨y,hy⟩:∃ y,y=zs.getD k 0:=⟨_,rfl⟩
      rw [← hx] at hc
      rw [← hy] at hc'
      rw [← hx,← hy] at HT
      have HAB:=Lib.hid (And.intro hx hy)
      clear hx hy
      by_cases hab:x=y
      · have ht:=HT.out.2 ⟨HX.out,hab⟩
        have HTT:=Lib.hid ht
        subst hab
        clear ht HT HAB
        go_wp2
        go_quiet (fail)
        go_wp2
        go_roundw
        case rel=>exact ⟨k+1,q+nq,by omega,by go_num,HTT.out,rfl⟩
        case measure=>simp [iOf];omega
      · have HD:=Lib.hid (HZ.out.2 (fun h=>hab (by rw [HAB.out.1,HAB.out.2,h])))
        have t1:(x == y)=false:=by simpa using hab
        have t2:(x != y)=true:=by simpa using hab
        clear hab
        go_wp2
        go_quiet (fail)
        go_wp2
        go_ret2
        exact ⟨by rw [← HZS.out,HD.out];rfl,by rw [drewN_add];exact below_drewN' X1.out.2.2 _⟩
    · have HD:=Lib.hid (HZ.out.1 (by have e1:=HX.out;rw [List.take_of_length_le (by rw [HL.out.1];omega),List.take_of_length_le (by rw [HL.out.2];omega)] at e1;exact e1))
      have hw2:wrap32 a=a:=by have:=HN.out;unfold wrap32;omega
      go_wp2
      go_ret2
      exact ⟨by rw [← HZS.out,HD.out,hw2];rfl,below_drewN' X1.out.2.2 q⟩
 · have HR:=Lib.hid (show wholeV zs=.tuple #[.int .i32 0,.bool false] from whole_no (by rw [HW.out,if_neg];rintro ⟨_,h⟩;exact hne (by rw [← HL.out.1,h,HL.out.2])))
   have hnz:¬ (n':Int)=1:=by omega
   clear hm hne
   go_wp2_with fail
   refine HMY.out.mono ?_
   rintro e w2 ⟨rfl,rfl⟩
   go_wp2_with fail
   go_ret2
   exact ⟨by rw [← HZS.out,HR.out];rfl,X1.out.2.2⟩
set_option maxHeartbeats 3200000 in
set_option maxRecDepth 100000 in
theorem whole_2 {w:World} {A:Option Addr} {cc:Nat} {a b:Int} (hs:Sb w A 2 [a,b]) (h8:U8s [a,b]) :
  Calls Tryz.prog 139 #[.slice A 2 cc] w fun e w'=>e=.returned (wholeV [a,b])∧Below w.heap.size w w':=by
 obtain ⟨ad,rfl⟩:=hs.addr (by omega)
 have k0:w.cell? ad=some (.int .u8 a):=by have:=hs.cell (k:=0) (by omega);rwa [addZ] at this
 have k1:w.cell? ⟨ad.block,ad.off+1,none⟩=some (.int .u8 b):=by have:=hs.cell (k:=1) (by omega);rwa [addP _ (by omega)] at this
 have hbz:=h8
 have ba:0≤a∧a≤255:=h8 a (by simp)
 have bb:0≤b∧b≤255:=h8 b (by simp)
 have q0:IntKind.i64.wrap (a)=a:=wr64 _ (by omega)
 have q1:IntKind.i64.wrap (a-192)=a-192:=wr64 _ (by omega)
 have q2:IntKind.i64.wrap ((a-192)*64)=(a-192)*64:=wr64 _ (by omega)
 have q3:IntKind.i64.wrap (b)=b:=wr64 _ (by omega)
 have q4:IntKind.i64.wrap ((a-192)*64+b)=(a-192)*64+b:=wr64 _ (by omega)
 have q5:IntKind.i64.wrap ((a-192)*64+b-128)=(a-192)*64+b-128:=wr64 _ (by omega)
 have H:=Lib.hid (And.intro hs (And.intro h8 (whole_iff h8)))
 clear hs h8 hbz
 have hnum:numW [a,b]=(a-192)*64+b-128:=rfl
 have HNUM:=Lib.hid hnum
 clear hnum
 have hbig:¬ 1114111<(a-192)*64+b-128:=by omega
 by_cases hneg:(a-192)*64+b-128<0
 · have HR:=Lib.hid (show wholeV [a,b]=.tuple #[.int .i32 0,.bool false] from whole_no (by rw [H.out.2.2,HNUM.out,if_neg];rintro ⟨h,_⟩;rw [mayS_iff] at h;omega))
   go_enter Tryz.func139,Tryz.ntmps139
   go_wp2
   go_quiet (fail)
   go_wp2
   go_ret2
   exact ⟨by rw [HR.out];rfl,below_drewN' (Below.refl _ _) _⟩
 go_enter Tryz.func139,Tryz.ntmps139
 go_wp2_with fail
 go_quiet (fail)
 go_wp2_with fail
 obtain ⟨w0,hw0⟩:∃ w0,w0=w.drewN nq:=⟨_,rfl⟩
 rw [← hw0]
 have Hb:=Lib.hid (show Below w.heap.size w w0 from by rw [hw0];exact below_drewN' (Below.refl _ _) _)
 clear hw0
 have HN:=Lib.hid (And.intro hneg hbig)
 obtain ⟨N,hN⟩:∃ N,(a-192)*64+b-128=N:=⟨_,rfl⟩
 rw [hN] at HN HNUM ⊢
 have HW:=Lib.hid H.out.2.2
 rw [HNUM.out] at HW
 have HS:=Lib.hid H.out.1
 obtain ⟨zs,hzs⟩:∃ zs,zs=[a,b]:=⟨_,rfl⟩
 rw [← hzs] at HW HS
 have HZS:=Lib.hid hzs
 clear hN hneg hbig H HNUM hzs k0 k1 q0 q1 q2 q3 q4 q5 ba bb
 refine (refEnc_any N w0).mono ?_
 rintro e w1 ⟨A',n',c',rfl,hs1,hb1⟩
 have X1:=Lib.hid (show Sb w1 A' n' (encS N)∧Sb w1 (some ad) 2 zs∧Below w.heap.size w w1 from ⟨hs1,(HS.out.below Hb.out).below hb1,Hb.out.trans (hb1.mono Hb.out.size)⟩)
 have hl1:=hs1.len
 have hlz:=HS.out.len
 have HL:=Lib.hid (And.intro hl1 hlz)
 clear hs1 hb1 Hb HS hl1 hlz
 have hw:wrap32 N=N:=by have:=HN.out;unfold wrap32;omega
 cases hm:mayS N
 · have HR:=Lib.hid (show wholeV zs=.tuple #[.int .i32 0,.bool false] from whole_no (by rw [HW.out,if_neg];rintro ⟨h,_⟩;rw [hm] at h;cases h))
   have HMY:=Lib.hid (may_any N w1)
   rw [hm] at HMY
   clear hm
   go_wp2_with fail
   refine HMY.out.mono ?_
   rintro e w2 ⟨rfl,rfl⟩
   go_wp2_with fail
   go_ret2
   exact ⟨by rw [← HZS.out,HR.out];rfl,X1.out.2.2⟩
 have HMY:=Lib.hid (may_any N w1)
 rw [hm] at HMY
 by_cases hne:n'=2
 · subst hne
   have hzz:(encS N=zs)→wholeV zs=.tuple #[.int .i32 N,.bool true]:=fun h=>whole_yes (by rw [HW.out,if_pos ⟨hm,h⟩])
   have hzn:(encS N≠zs)→wholeV zs=.tuple #[.int .i32 0,.bool false]:=fun h=>whole_no (by rw [HW.out,if_neg];exact fun h'=>h h'.2)
   have HZ:=Lib.hid (And.intro hzz hzn)
   have HM:=Lib.hid hm
   clear hzz hzn hm HW
   go_wp2_with fail
   refine HMY.out.mono ?_
   rintro e w2 ⟨rfl,rfl⟩
   go_wp2_with fail
   go_loopw [100] (fun i wr=>∃ k q:Nat,k≤2∧i=.int .i64 k∧(encS N).take k=zs.take k∧wr=w1.drewN q) (fun i _=>2-(iOf i).toNat)
   case atStart=>exact ⟨0,0,Nat.zero_le _,rfl,by simp,rfl⟩
   case round =>
    obtain ⟨k,q,hk,rfl,hx,rfl⟩:=hrel
    have HX:=Lib.hid hx
    clear hx
    by_cases hlt:k<2
    · have hkz:(k:Int)<2:=by omega
      obtain ⟨ad',rfl⟩:=X1.out.1.addr (by omega)
      have hc:=X1.out.1.cell hlt
      have hc':=X1.out.2.1.cell hlt
      have HT:=Lib.hid (take_eq_snoc (xs:=encS N) (ys:=zs) (k:=k) (by rw [HL.out.1];exact hlt) (by rw [HL.out.2];exact hlt))
      obtain ⟨x,hx⟩:∃ x,x=(encS N).getD k 0:=⟨_,rfl⟩
      obtain ⟨y,hy⟩:∃ y,y=zs.getD k 0:=⟨_,rfl⟩
      rw [← hx] at hc
      rw [← hy] at hc'
      rw [← hx,← hy] at HT
      have HAB:=Lib.hid (And.intro hx hy)
      clear hx hy
      by_cases hab:x=y
      · have ht:=HT.out.2 ⟨HX.out,hab⟩
        have HTT:=Lib.hid ht
        subst hab
        clear ht HT HAB
        go_wp2
        go_quiet (fail)
        go_wp2
        go_roundw
        case rel=>exact ⟨k+1,q+nq,by omega,by go_num,HTT.out,rfl⟩
        case measure=>simp [iOf];omega
      · have HD:=Lib.hid (HZ.out.2 (fun h=>hab (by rw [HAB.out.1,HAB.out.2,h])))
        have t1:(x == y)=false:=by simpa using hab
        have t2:(x != y)=true:=by simpa using hab
        clear hab
        go_wp2
        go_quiet (fail)
        go_wp2
        go_ret2
        exact ⟨by rw [← HZS.out,HD.out];rfl,by rw [drewN_add];exact below_drewN' X1.out.2.2 _⟩
    · have HD:=Lib.hid (HZ.out.1 (by have e1:=HX.out;rw [List.take_of_length_le (by rw [HL.out.1];omega),List.take_of_length_le (by rw [HL.out.2];omega)] at e1;exact e1))
      have hw2:wrap32 N=N:=by have:=HN.out;unfold wrap32;omega
      go_wp2
      go_ret2
      exact ⟨by rw [← HZS.out,HD.out,hw2];rfl,below_drewN' X1.out.2.2 q⟩
 · have HR:=Lib.hid (show wholeV zs=.tuple #[.int .i32 0,.bool false] from whole_no (by rw [HW.out,if_neg];rintro ⟨_,h⟩;exact hne (by rw [← HL.out.1,h,HL.out.2])))
   have hnz:¬ (n':Int)=2:=by omega
   clear hm hne
   go_wp2_with fail
   refine HMY.out.mono ?_
   rintro e w2 ⟨rfl,rfl⟩
   go_wp2_with fail
   go_ret2
   exact ⟨by rw [← HZS.out,HR.out];rfl,X1.out.2.2⟩
set_option maxHeartbeats 3200000 in
set_option maxRecDepth 100000 in
theorem whole_3 {w:World} {A:Option Addr} {cc:Nat} {a b c:Int} (hs:Sb w A 3 [a,b,c]) (h8:U8s [a,b,c]) :
  Calls Tryz.prog 139 #[.slice A 3 cc] w fun e w'=>e=.returned (wholeV [a,b,c])∧Below w.heap.size w w':=by
 obtain ⟨ad,rfl⟩:=hs.addr (by omega)
 have k0:w.cell? ad=some (.int .u8 a):=by have:=hs.cell (k:=0) (by omega);rwa [addZ] at this
 have k1:w.cell? ⟨ad.block,ad.off+1,none⟩=some (.int .u8 b):=by have:=hs.cell (k:=1) (by omega);rwa [addP _ (by omega)] at this
 have k2:w.cell? ⟨ad.block,ad.off+2,none⟩=some (.int .u8 c):=by have:=hs.cell (k:=2) (by omega);rwa [addP _ (by omega)] at this
 have hbz:=h8
 have ba:0≤a∧a≤255:=h8 a (by simp)
 have bb:0≤b∧b≤255:=h8 b (by simp)
 have bc:0≤c∧c≤255:=h8 c (by simp)
 have q0:IntKind.i64.wrap (a)=a:=wr64 _ (by omega)
 have q1:IntKind.i64.wrap (a-224)=a-224:=wr64 _ (by omega)
 have q2:IntKind.i64.wrap ((a-224)*4096)=(a-224)*4096:=wr64 _ (by omega)
 have q3:IntKind.i64.wrap (b)=b:=wr64 _ (by omega)
 have q4:IntKind.i64.wrap (b-128)=b-128:=wr64 _ (by omega)
 have q5:IntKind.i64.wrap ((b-128)*64)=(b-128)*64:=wr64 _ (by omega)
 have q6:IntKind.i64.wrap ((a-224)*4096+(b-128)*64)=(a-224)*4096+(b-128)*64:=wr64 _ (by omega)
 have q7:IntKind.i64.wrap (c)=c:=wr64 _ (by omega)
 have q8:IntKind.i64.wrap ((a-224)*4096+(b-128)*64+c)=(a-224)*4096+(b-128)*64+c:=wr64 _ (by omega)
 have q9:IntKind.i64.wrap ((a-224)*4096+(b-128)*64+c-128)=(a-224)*4096+(b-128)*64+c-128:=wr64 _ (by omega)
 have H:=Lib.hid (And.intro hs (And.intro h8 (whole_iff h8)))
 clear hs h8 hbz
 have hnum:numW [a,b,c]=(a-224)*4096+(b-128)*64+c-128:=rfl
 have HNUM:=Lib.hid hnum
 clear hnum
 have hbig:¬ 1114111<(a-224)*4096+(b-128)*64+c-128:=by omega
 by_cases hneg:(a-224)*4096+(b-128)*64+c-128<0
 · have HR:=Lib.hid (show wholeV [a,b,c]=.tuple #[.int .i32 0,.bool false] from whole_no (by rw [H.out.2.2,HNUM.out,if_neg];rintro ⟨h,_⟩;rw [mayS_iff] at h;omega))
   go_enter Tryz.func139,Tryz.ntmps139
   go_wp2
   go_quiet (fail)
   go_wp2
   go_ret2
   exact ⟨by rw [HR.out];rfl,below_drewN' (Below.refl _ _) _⟩
 go_enter Tryz.func139,Tryz.ntmps139
 go_wp2_with fail
 go_quiet (fail)
 go_wp2_with fail
 obtain ⟨w0,hw0⟩:∃ w0,w0=w.drewN nq:=⟨_,rfl⟩
 rw [← hw0]
 have Hb:=Lib.hid (show Below w.heap.size w w0 from by rw [hw0];exact below_drewN' (Below.refl _ _) _)
 clear hw0
 have HN:=Lib.hid (And.intro hneg hbig)
 obtain ⟨N,hN⟩:∃ N,(a-224)*4096+(b-128)*64+c-128=N:=⟨_,rfl⟩
 rw [hN] at HN HNUM ⊢
 have HW:=Lib.hid H.out.2.2
 rw [HNUM.out] at HW
 have HS:=Lib.hid H.out.1
 obtain ⟨zs,hzs⟩:∃ zs,zs=[a,b,c]:=⟨_,rfl⟩
 rw [← hzs] at HW HS
 have HZS:=Lib.hid hzs
 clear hN hneg hbig H HNUM hzs k0 k1 k2 q0 q1 q2 q3 q4 q5 q6 q7 q8 q9 ba bb bc
 refine (refEnc_any N w0).mono ?_
 rintro e w1 ⟨A',n',c',rfl,hs1,hb1⟩
 have X1:=Lib.hid (show Sb w1 A' n' (encS N)∧Sb w1 (some ad) 3 zs∧Below w.heap.size w w1 from ⟨hs1,(HS.out.below Hb.out).below hb1,Hb.out.trans (hb1.mono Hb.out.size)⟩)
 have hl1:=hs1.len
 have hlz:=HS.out.len
 have HL:=Lib.hid (And.intro hl1 hlz)
 clear hs1 hb1 Hb HS hl1 hlz
 have hw:wrap32 N=N:=by have:=HN.out;unfold wrap32;omega
 cases hm:mayS N
 · have HR:=Lib.hid (show wholeV zs=.tuple #[.int .i32 0,.bool false] from whole_no (by rw [HW.out,if_neg];rintro ⟨h,_⟩;rw [hm] at h;cases h))
   have HMY:=Lib.hid (may_any N w1)
   rw [hm] at HMY
   clear hm
   go_wp2_with fail
   refine HMY.out.mono ?_
   rintro e w2 ⟨rfl,rfl⟩
   go_wp2_with fail
   go_ret2
   exact ⟨by rw [← HZS.out,HR.out];rfl,X1.out.2.2⟩
 have HMY:=Lib.hid (may_any N w1)
 rw [hm] at HMY
 by_cases hne:n'=3
 · subst hne
   have hzz:(encS N=zs)→wholeV zs=.tuple #[.int .i32 N,.bool true]:=fun h=>whole_yes (by rw [HW.out,if_pos ⟨hm,h⟩])
   have hzn:(encS N≠zs)→wholeV zs=.tuple #[.int .i32 0,.bool false]:=fun h=>whole_no (by rw [HW.out,if_neg];exact fun h'=>h h'.2)
   have HZ:=Lib.hid (And.intro hzz hzn)
   have HM:=Lib.hid hm
   clear hzz hzn hm HW
   go_wp2_with fail
   refine HMY.out.mono ?_
   rintro e w2 ⟨rfl,rfl⟩
   go_wp2_with fail
   go_loopw [100] (fun i wr=>∃ k q:Nat,k≤3∧i=.int .i64 k∧(encS N).take k=zs.take k∧wr=w1.drewN q) (fun i _=>3-(iOf i).toNat)
   case atStart=>exact ⟨0,0,Nat.zero_le _,rfl,by simp,rfl⟩
   case round =>
    obtain ⟨k,q,hk,rfl,hx,rfl⟩:=hrel
    have HX:=Lib.hid hx
    clear hx
    by_cases hlt:k<3
    · have hkz:(k:Int)<3:=by omega
      obtain ⟨ad',rfl⟩:=X1.out.1.addr (by omega)
      have hc:=X1.out.1.cell hlt
      have hc':=X1.out.2.1.cell hlt
      have HT:=Lib.hid (take_eq_snoc (xs:=encS N) (ys:=zs) (k:=k) (by rw [HL.out.1];exact hlt) (by rw [HL.out.2];exact hlt))
      obtain ⟨x,hx⟩:∃ x,x=(encS N).getD k 0:=⟨_,rfl⟩
      obtain ⟨y,hy⟩:∃ y,y=zs.getD k 0:=⟨_,rfl⟩
      rw [← hx] at hc
      rw [← hy] at hc'
      rw [← hx,← hy] at HT
      have HAB:=Lib.hid (And.intro hx hy)
      clear hx hy
      by_cases hab:x=y
      · have ht:=HT.out.2 ⟨HX.out,hab⟩
        have HTT:=Lib.hid ht
        subst hab
        clear ht HT HAB
        go_wp2
        go_quiet (fail)
        go_wp2
        go_roundw
        case rel=>exact ⟨k+1,q+nq,by omega,by go_num,HTT.out,rfl⟩
        case measure=>simp [iOf];omega
      · have HD:=Lib.hid (HZ.out.2 (fun h=>hab (by rw [HAB.out.1,HAB.out.2,h])))
        have t1:(x == y)=false:=by simpa using hab
        have t2:(x != y)=true:=by simpa using hab
        clear hab
        go_wp2
        go_quiet (fail)
        go_wp2
        go_ret2
        exact ⟨by rw [← HZS.out,HD.out];rfl,by rw [drewN_add];exact below_drewN' X1.out.2.2 _⟩
    · have HD:=Lib.hid (HZ.out.1 (by have e1:=HX.out;rw [List.take_of_length_le (by rw [HL.out.1];omega),List.take_of_length_le (by rw [HL.out.2];omega)] at e1;exact e1))
      have hw2:wrap32 N=N:=by have:=HN.out;unfold wrap32;omega
      go_wp2
      go_ret2
      exact ⟨by rw [← HZS.out,HD.out,hw2];rfl,below_drewN' X1.out.2.2 q⟩
 · have HR:=Lib.hid (show wholeV zs=.tuple #[.int .i32 0,.bool false] from whole_no (by rw [HW.out,if_neg];rintro ⟨_,h⟩;exact hne (by rw [← HL.out.1,h,HL.out.2])))
   have hnz:¬ (n':Int)=3:=by omega
   clear hm hne
   go_wp2_with fail
   refine HMY.out.mono ?_
   rintro e w2 ⟨rfl,rfl⟩
   go_wp2_with fail
   go_ret2
   exact ⟨by rw [← HZS.out,HR.out];rfl,X1.out.2.2⟩
set_option maxHeartbeats 3200000 in
set_option maxRecDepth 100000 in
theorem whole_4 {w:World} {A:Option Addr} {cc:Nat} {a b c d:Int} (hs:Sb w A 4 [a,b,c,d]) (h8:U8s [a,b,c,d]) :
  Calls Tryz.prog 139 #[.slice A 4 cc] w fun e w'=>e=.returned (wholeV [a,b,c,d])∧Below w.heap.size w w':=by
 obtain ⟨ad,rfl⟩:=hs.addr (by omega)
 have k0:w.cell? ad=some (.int .u8 a):=by have:=hs.cell (k:=0) (by omega);rwa [addZ] at this
 have k1:w.cell? ⟨ad.block,ad.off+1,none⟩=some (.int .u8 b):=by have:=hs.cell (k:=1) (by omega);rwa [addP _ (by omega)] at this
 have k2:w.cell? ⟨ad.block,ad.off+2,none⟩=some (.int .u8 c):=by have:=hs.cell (k:=2) (by omega);rwa [addP _ (by omega)] at this
 have k3:w.cell? ⟨ad.block,ad.off+3,none⟩=some (.int .u8 d):=by have:=hs.cell (k:=3) (by omega);rwa [addP _ (by omega)] at this
 have hbz:=h8
 have ba:0≤a∧a≤255:=h8 a (by simp)
 have bb:0≤b∧b≤255:=h8 b (by simp)
 have bc:0≤c∧c≤255:=h8 c (by simp)
 have bd:0≤d∧d≤255:=h8 d (by simp)
 have q0:IntKind.i64.wrap (a)=a:=wr64 _ (by omega)
 have q1:IntKind.i64.wrap (a-240)=a-240:=wr64 _ (by omega)
 have q2:IntKind.i64.wrap ((a-240)*262144)=(a-240)*262144:=wr64 _ (by omega)
 have q3:IntKind.i64.wrap (b)=b:=wr64 _ (by omega)
 have q4:IntKind.i64.wrap (b-128)=b-128:=wr64 _ (by omega)
 have q5:IntKind.i64.wrap ((b-128)*4096)=(b-128)*4096:=wr64 _ (by omega)
 have q6:IntKind.i64.wrap ((a-240)*262144+(b-128)*4096)=(a-240)*262144+(b-128)*4096:=wr64 _ (by omega)
 have q7:IntKind.i64.wrap (c)=c:=wr64 _ (by omega)
 have q8:IntKind.i64.wrap (c-128)=c-128:=wr64 _ (by omega)
 have q9:IntKind.i64.wrap ((c-128)*64)=(c-128)*64:=wr64 _ (by omega)
 have q10:IntKind.i64.wrap ((a-240)*262144+(b-128)*4096+(c-128)*64)=(a-240)*262144+(b-128)*4096+(c-128)*64:=wr64 _ (by omega)
 have q11:IntKind.i64.wrap (d)=d:=wr64 _ (by omega)
 have q12:IntKind.i64.wrap ((a-240)*262144+(b-128)*4096+(c-128)*64+d)=(a-240)*262144+(b-128)*4096+(c-128)*64+d:=wr64 _ (by omega)
 have q13:IntKind.i64.wrap ((a-240)*262144+(b-128)*4096+(c-128)*64+d-128)=(a-240)*262144+(b-128)*4096+(c-128)*64+d-128:=wr64 _ (by omega)
 have H:=Lib.hid (And.intro hs (And.intro h8 (whole_iff h8)))
 clear hs h8 hbz
 have hnum:numW [a,b,c,d]=(a-240)*262144+(b-128)*4096+(c-128)*64+d-128:=rfl
 have HNUM:=Lib.hid hnum
 clear hnum
 by_cases hneg:(a-240)*262144+(b-128)*4096+(c-128)*64+d-128<0
 · have HR:=Lib.hid (show wholeV [a,b,c,d]=.tuple #[.int .i32 0,.bool false] from whole_no (by rw [H.out.2.2,HNUM.out,if_neg];rintro ⟨h,_⟩;rw [mayS_iff] at h;omega))
   go_enter Tryz.func139,Tryz.ntmps139
   go_wp2
   go_quiet (fail)
   go_wp2
   go_ret2
   exact ⟨by rw [HR.out];rfl,below_drewN' (Below.refl _ _) _⟩
 by_cases hbig:1114111<(a-240)*262144+(b-128)*4096+(c-128)*64+d-128
 · have HR:=Lib.hid (show wholeV [a,b,c,d]=.tuple #[.int .i32 0,.bool false] from whole_no (by rw [H.out.2.2,HNUM.out,if_neg];rintro ⟨h,_⟩;rw [mayS_iff] at h;omega))
   go_enter Tryz.func139,Tryz.ntmps139
   go_wp2
   go_quiet (fail)
   go_wp2
   go_ret2
   exact ⟨by rw [HR.out];rfl,below_drewN' (Below.refl _ _) _⟩
 go_enter Tryz.func139,Tryz.ntmps139
 go_wp2_with fail
 go_quiet (fail)
 go_wp2_with fail
 obtain ⟨w0,hw0⟩:∃ w0,w0=w.drewN nq:=⟨_,rfl⟩
 rw [← hw0]
 have Hb:=Lib.hid (show Below w.heap.size w w0 from by rw [hw0];exact below_drewN' (Below.refl _ _) _)
 clear hw0
 have HN:=Lib.hid (And.intro hneg hbig)
 obtain ⟨N,hN⟩:∃ N,(a-240)*262144+(b-128)*4096+(c-128)*64+d-128=N:=⟨_,rfl⟩
 rw [hN] at HN HNUM ⊢
 have HW:=Lib.hid H.out.2.2
 rw [HNUM.out] at HW
 have HS:=Lib.hid H.out.1
 obtain ⟨zs,hzs⟩:∃ zs,zs=[a,b,c,d]:=⟨_,rfl⟩
 rw [← hzs] at HW HS
 have HZS:=Lib.hid hzs
 clear hN hneg hbig H HNUM hzs k0 k1 k2 k3 q0 q1 q2 q3 q4 q5 q6 q7 q8 q9 q10 q11 q12 q13 ba bb bc bd
 refine (refEnc_any N w0).mono ?_
 rintro e w1 ⟨A',n',c',rfl,hs1,hb1⟩
 have X1:=Lib.hid (show Sb w1 A' n' (encS N)∧Sb w1 (some ad) 4 zs∧Below w.heap.size w w1 from ⟨hs1,(HS.out.below Hb.out).below hb1,Hb.out.trans (hb1.mono Hb.out.size)⟩)
 have hl1:=hs1.len
 have hlz:=HS.out.len
 have HL:=Lib.hid (And.intro hl1 hlz)
 clear hs1 hb1 Hb HS hl1 hlz
 have hw:wrap32 N=N:=by have:=HN.out;unfold wrap32;omega
 cases hm:mayS N
 · have HR:=Lib.hid (show wholeV zs=.tuple #[.int .i32 0,.bool false] from whole_no (by rw [HW.out,if_neg];rintro ⟨h,_⟩;rw [hm] at h;cases h))
   have HMY:=Lib.hid (may_any N w1)
   rw [hm] at HMY
   clear hm
   go_wp2_with fail
   refine HMY.out.mono ?_
   rintro e w2 ⟨rfl,rfl⟩
   go_wp2_with fail
   go_ret2
   exact ⟨by rw [← HZS.out,HR.out];rfl,X1.out.2.2⟩
 have HMY:=Lib.hid (may_any N w1)
 rw [hm] at HMY
 by_cases hne:n'=4
 · subst hne
   have hzz:(encS N=zs)→wholeV zs=.tuple #[.int .i32 N,.bool true]:=fun h=>whole_yes (by rw [HW.out,if_pos ⟨hm,h⟩])
   have hzn:(encS N≠zs)→wholeV zs=.tuple #[.int .i32 0,.bool false]:=fun h=>whole_no (by rw [HW.out,if_neg];exact fun h'=>h h'.2)
   have HZ:=Lib.hid (And.intro hzz hzn)
   have HM:=Lib.hid hm
   clear hzz hzn hm HW
   go_wp2_with fail
   refine HMY.out.mono ?_
   rintro e w2 ⟨rfl,rfl⟩
   go_wp2_with fail
   go_loopw [100] (fun i wr=>∃ k q:Nat,k≤4∧i=.int .i64 k∧(encS N).take k=zs.take k∧wr=w1.drewN q) (fun i _=>4-(iOf i).toNat)
   case atStart=>exact ⟨0,0,Nat.zero_le _,rfl,by simp,rfl⟩
   case round =>
    obtain ⟨k,q,hk,rfl,hx,rfl⟩:=hrel
    have HX:=Lib.hid hx
    clear hx
    by_cases hlt:k<4
    · have hkz:(k:Int)<4:=by omega
      obtain ⟨ad',rfl⟩:=X1.out.1.addr (by omega)
      have hc:=X1.out.1.cell hlt
      have hc':=X1.out.2.1.cell hlt
      have HT:=Lib.hid (take_eq_snoc (xs:=encS N) (ys:=zs) (k:=k) (by rw [HL.out.1];exact hlt) (by rw [HL.out.2];exact hlt))
      obtain ⟨x,hx⟩:∃ x,x=(encS N).getD k 0:=⟨_,rfl⟩
      obtain ⟨y,hy⟩:∃ y,y=zs.getD k 0:=⟨_,rfl⟩
      rw [← hx] at hc
      rw [← hy] at hc'
      rw [← hx,← hy] at HT
      have HAB:=Lib.hid (And.intro hx hy)
      clear hx hy
      by_cases hab:x=y
      · have ht:=HT.out.2 ⟨HX.out,hab⟩
        have HTT:=Lib.hid ht
        subst hab
        clear ht HT HAB
        go_wp2
        go_quiet (fail)
        go_wp2
        go_roundw
        case rel=>exact ⟨k+1,q+nq,by omega,by go_num,HTT.out,rfl⟩
        case measure=>simp [iOf];omega
      · have HD:=Lib.hid (HZ.out.2 (fun h=>hab (by rw [HAB.out.1,HAB.out.2,h])))
        have t1:(x == y)=false:=by simpa using hab
        have t2:(x != y)=true:=by simpa using hab
        clear hab
        go_wp2
        go_quiet (fail)
        go_wp2
        go_ret2
        exact ⟨by rw [← HZS.out,HD.out];rfl,by rw [drewN_add];exact below_drewN' X1.out.2.2 _⟩
    · have HD:=Lib.hid (HZ.out.1 (by have e1:=HX.out;rw [List.take_of_length_le (by rw [HL.out.1];omega),List.take_of_length_le (by rw [HL.out.2];omega)] at e1;exact e1))
      have hw2:wrap32 N=N:=by have:=HN.out;unfold wrap32;omega
      go_wp2
      go_ret2
      exact ⟨by rw [← HZS.out,HD.out,hw2];rfl,below_drewN' X1.out.2.2 q⟩
 · have HR:=Lib.hid (show wholeV zs=.tuple #[.int .i32 0,.bool false] from whole_no (by rw [HW.out,if_neg];rintro ⟨_,h⟩;exact hne (by rw [← HL.out.1,h,HL.out.2])))
   have hnz:¬ (n':Int)=4:=by omega
   clear hm hne
   go_wp2_with fail
   refine HMY.out.mono ?_
   rintro e w2 ⟨rfl,rfl⟩
   go_wp2_with fail
   go_ret2
   exact ⟨by rw [← HZS.out,HR.out];rfl,X1.out.2.2⟩
end Go.Proofs.YtlcipgdnpilkfaaGreatDoor
