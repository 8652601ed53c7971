/-
  Part 44 of what the laws of emul want: EmulSw, EmulObey.
-/
import Derived.Test.YtlcipgdnpilkfaaGreatDoorPt25
import Derived.Test.YtlcipgdnpilkfaaGreatDoorPt26
import Derived.Test.YtlcipgdnpilkfaaGreatDoorPt33
import Derived.Test.YtlcipgdnpilkfaaGreatDoorPt34
import Derived.Test.YtlcipgdnpilkfaaGreatDoorPt43
namespace Go.Proofs.YtlcipgdnpilkfaaGreatDoor
open Go.RowKit
section
variable {B:Nat} {w:World} {g:Nat} {x:CT} {A:Option Addr} {n c:Nat} {ps:List Int}
def FnIn (F:Nat):Prop:=∀ (args:Array Value) (w:World),(callFunc F args).run Tryz.prog w=.ok (.enter F args) w
theorem fn_in {F:Nat} {fn:Func} {c:Code} (hf:Tryz.prog.funcs[F]?=some fn) (hn:(fn.name == "runtime.NumGoroutine")=false) (hb:fn.body=some c):FnIn F:=fun args w=>by
 have h1:¬ fn.name = "runtime.NumGoroutine":=by simpa using hn
 simp [callFunc,hf,h1,hb]
theorem prm_in {m:Int} {F:Nat} (hF:prmF m=some F):FnIn F:=by
 unfold prmF at hF
 by_cases h6:m=6
 · rw [if_pos h6] at hF;injection hF with hF;subst hF;exact fn_in Tryz.func257 (by kernel_rfl) rfl
 rw [if_neg h6] at hF
 by_cases h7:m=7
 · rw [if_pos h7] at hF;injection hF with hF;subst hF;exact fn_in Tryz.func258 (by kernel_rfl) rfl
 rw [if_neg h7] at hF
 by_cases h25:m=25
 · rw [if_pos h25] at hF;injection hF with hF;subst hF;exact fn_in Tryz.func259 (by kernel_rfl) rfl
 rw [if_neg h25] at hF
 by_cases h47:m=47
 · rw [if_pos h47] at hF;injection hF with hF;subst hF;exact fn_in Tryz.func260 (by kernel_rfl) rfl
 rw [if_neg h47] at hF
 by_cases h1047:m=1047
 · rw [if_pos h1047] at hF;injection hF with hF;subst hF;exact fn_in Tryz.func260 (by kernel_rfl) rfl
 rw [if_neg h1047] at hF
 by_cases h1000:m=1000
 · rw [if_pos h1000] at hF;injection hF with hF;subst hF;exact fn_in Tryz.func261 (by kernel_rfl) rfl
 rw [if_neg h1000] at hF
 by_cases h1002:m=1002
 · rw [if_pos h1002] at hF;injection hF with hF;subst hF;exact fn_in Tryz.func262 (by kernel_rfl) rfl
 rw [if_neg h1002] at hF
 by_cases h1003:m=1003
 · rw [if_pos h1003] at hF;injection hF with hF;subst hF;exact fn_in Tryz.func262 (by kernel_rfl) rfl
 rw [if_neg h1003] at hF
 by_cases h1049:m=1049
 · rw [if_pos h1049] at hF;injection hF with hF;subst hF;exact fn_in Tryz.func263 (by kernel_rfl) rfl
 rw [if_neg h1049] at hF
 cases hF
theorem plm_in {m:Int} {F:Nat} (hF:plmF m=some F):FnIn F:=by
 unfold plmF at hF
 by_cases h4:m=4
 · rw [if_pos h4] at hF;injection hF with hF;subst hF;exact fn_in Tryz.func253 (by kernel_rfl) rfl
 rw [if_neg h4] at hF
 cases hF
set_option maxRecDepth 100000 in
set_option maxHeartbeats 1600000 in
theorem setSavedOther_any (h:Cz B w g x) (on:Bool):Calls Tryz.prog 263 #[.pointer (some ⟨g,0,none⟩),.bool on] w (CzP B g x (x.t.mode 1049 on) w):=by
 have HZ:=Lib.hid h
 cases on
 · have e:((x.t.showO false).restored)=x.t.mode 1049 false:=rfl
   rw [← e]
   clear e h
   go_enter Tryz.func263,Tryz.ntmps263
   go_wp2_with fail
   refine (setOther_any HZ.out false).mono ?_
   rintro e w1 ⟨rfl,y,hy⟩
   have Y:=Lib.hid hy
   clear hy
   go_wp2_with fail
   refine (restore_any Y.out.cz).mono ?_
   rintro e w2 ⟨rfl,z,hz⟩
   have Z:=Lib.hid hz
   clear hz
   go_wp2_with fail
   go_end0
   exact ⟨rfl,z,(Y.out.trans Z.out).as (by rw [Y.out.t])⟩
 · have e:({ x.t with sav:=x.t.now }:Tm).showO true=x.t.mode 1049 true:=rfl
   rw [← e]
   clear e h
   go_enter Tryz.func263,Tryz.ntmps263
   go_wp2_with fail
   refine (save_any HZ.out).mono ?_
   rintro e w1 ⟨rfl,y,hy⟩
   have Y:=Lib.hid hy
   clear hy
   go_wp2_with fail
   refine (setOther_any Y.out.cz true).mono ?_
   rintro e w2 ⟨rfl,z,hz⟩
   have Z:=Lib.hid hz
   clear hz
   go_wp2_with fail
   go_end0
   exact ⟨rfl,z,(Y.out.trans Z.out).as (by rw [Y.out.t])⟩
theorem prm_do (h:Cz B w g x) (on:Bool) {m:Int} {F:Nat} (hF:prmF m=some F):Calls Tryz.prog F #[.pointer (some ⟨g,0,none⟩),.bool on] w (CzP B g x (x.t.mode m on) w):=by
 unfold prmF at hF
 by_cases h6:m=6
 · rw [if_pos h6] at hF;subst h6;injection hF with hF;subst hF;exact setOrigin_any h on
 rw [if_neg h6] at hF
 by_cases h7:m=7
 · rw [if_pos h7] at hF;subst h7;injection hF with hF;subst hF;exact setWraps_any h on
 rw [if_neg h7] at hF
 by_cases h25:m=25
 · rw [if_pos h25] at hF;subst h25;injection hF with hF;subst hF;exact setCursor_any h on
 rw [if_neg h25] at hF
 by_cases h47:m=47
 · rw [if_pos h47] at hF;subst h47;injection hF with hF;subst hF;exact setOther_any h on
 rw [if_neg h47] at hF
 by_cases h1047:m=1047
 · rw [if_pos h1047] at hF;subst h1047;injection hF with hF;subst hF;exact setOther_any h on
 rw [if_neg h1047] at hF
 by_cases h1000:m=1000
 · rw [if_pos h1000] at hF;subst h1000;injection hF with hF;subst hF;exact setButtons_any h on
 rw [if_neg h1000] at hF
 by_cases h1002:m=1002
 · rw [if_pos h1002] at hF;subst h1002;injection hF with hF;subst hF;exact setMotion_any h on
 rw [if_neg h1002] at hF
 by_cases h1003:m=1003
 · rw [if_pos h1003] at hF;subst h1003;injection hF with hF;subst hF;exact setMotion_any h on
 rw [if_neg h1003] at hF
 by_cases h1049:m=1049
 · rw [if_pos h1049] at hF;subst h1049;injection hF with hF;subst hF;exact setSavedOther_any h on
 rw [if_neg h1049] at hF
 cases hF
theorem prm_no {m:Int} (t:Tm) (on:Bool) (hF:prmF m=none):t.mode m on=t:=by
 unfold prmF at hF
 unfold Tm.mode
 by_cases h6:m=6
 · rw [if_pos h6] at hF;cases hF
 rw [if_neg h6] at hF
 by_cases h7:m=7
 · rw [if_pos h7] at hF;cases hF
 rw [if_neg h7] at hF
 by_cases h25:m=25
 · rw [if_pos h25] at hF;cases hF
 rw [if_neg h25] at hF
 by_cases h47:m=47
 · rw [if_pos h47] at hF;cases hF
 rw [if_neg h47] at hF
 by_cases h1047:m=1047
 · rw [if_pos h1047] at hF;cases hF
 rw [if_neg h1047] at hF
 by_cases h1000:m=1000
 · rw [if_pos h1000] at hF;cases hF
 rw [if_neg h1000] at hF
 by_cases h1002:m=1002
 · rw [if_pos h1002] at hF;cases hF
 rw [if_neg h1002] at hF
 by_cases h1003:m=1003
 · rw [if_pos h1003] at hF;cases hF
 rw [if_neg h1003] at hF
 by_cases h1049:m=1049
 · rw [if_pos h1049] at hF;cases hF
 rw [if_neg h1049] at hF
 rw [if_neg h6,if_neg h7,if_neg h25,if_neg h1000,if_neg (by omega),if_neg (by omega),if_neg h1049]
def plS (t:Tm) (m:Int) (on:Bool):Tm:=if m=4 then { t with ins:=on } else t
theorem plm_do (h:Cz B w g x) (on:Bool) {m:Int} {F:Nat} (hF:plmF m=some F):Calls Tryz.prog F #[.pointer (some ⟨g,0,none⟩),.bool on] w (CzP B g x (plS x.t m on) w):=by
 unfold plmF at hF
 unfold plS
 by_cases h4:m=4
 · rw [if_pos h4] at hF ⊢;injection hF with hF;subst hF;exact setInserts_any h on
 · rw [if_neg h4] at hF;cases hF
theorem plm_no {m:Int} (t:Tm) (on:Bool) (hF:plmF m=none):plS t m on=t:=by
 unfold plmF at hF
 unfold plS
 by_cases h4:m=4
 · rw [if_pos h4] at hF;cases hF
 · rw [if_neg h4]
theorem pl_all (on:Bool):∀ (l:List Int) (t:Tm),l.foldl (fun t n=>plS t n on) t=if 4∈l then { t with ins:=on } else t
 | [],_=>rfl
 | m :: l,t=>by
  show l.foldl (fun t n=>plS t n on) (plS t m on)=_
  rw [pl_all on l]
  unfold plS
  by_cases h4:m=4
  · subst h4
    simp
  · have:(4∈m :: l)↔4∈l:=by simp [Ne.symm h4]
    rw [if_neg h4]
    simp only [this]
set_option maxRecDepth 100000 in
set_option maxHeartbeats 1600000 in
theorem switchP_any (hT:Tabs w) (h:Cz B w g x) (hN:Nm w (CB g x) A n c ps) (on:Bool):Calls Tryz.prog 227 #[.pointer (some ⟨g,0,none⟩),.func (.func 231) #[] #[],.bool on,.slice A n c] w (CzP B g x (ps.foldl (fun t m=>Tm.mode t m on) x.t) w):=by
 have HT:=Lib.hid hT
 have HZ:=Lib.hid h
 have HM:=Lib.hid hN
 have hz:=fn_nil Tryz.underlying237
 have hs:=fn_some Tryz.underlying237
 have hnn:=hN.few
 clear h hT hN
 go_enter Tryz.func227,Tryz.ntmps227
 go_wp2_with fail
 go_loopw [13] (fun i wr=>∃ (k:Nat) (y:CT),k≤n∧i=.int .i64 k∧CzTo B g x ((ps.take k).foldl (fun t m=>Tm.mode t m on) x.t) w wr y) (fun i _=>n-(intOf i).toNat)
 case atStart=>exact ⟨0,x,Nat.zero_le _,rfl,by rw [List.take_zero];exact CzTo.refl HZ.out⟩
 case round =>
  obtain ⟨k,y,hk,rfl,hy⟩:=hrel
  have Y:=Lib.hid hy
  have HM1:=Lib.hid (HM.out.on hy)
  clear hy
  by_cases hlt:k<n
  · have hkl:k<ps.length:=by rw [HM.out.len];exact hlt
    obtain ⟨ad,hA⟩:∃ ad,A=some ad:=by obtain ⟨ad,e,_⟩:=HM.out.rd.at_ (by omega);exact ⟨ad,e⟩
    subst hA
    have hcell:=HM1.out.rd.cell hlt
    have eS:=List.take_succ_eq_append_getElem hkl
    have eG:=getD_lt (zs:=ps) hkl
    obtain ⟨m,hm⟩:∃ m,m=ps.getD k 0:=⟨_,rfl⟩
    rw [← hm] at hcell eG
    have HS:=Lib.hid (show (ps.take (k+1)).foldl (fun t m=>Tm.mode t m on) x.t=Tm.mode ((ps.take k).foldl (fun t m=>Tm.mode t m on) x.t) m on from by rw [eS,List.foldl_append,← eG];rfl)
    clear eS eG hm hkl
    have k1:(k:Int)<(n:Int):=by omega
    cases hF:prmF m with
    | none =>
     have HF:=Lib.hid hF
     have HC:=Lib.hid (show Calls Tryz.prog 231 #[.int .i64 m] wr (fun e w'=>e=.returned (.nilFunc)∧w'=wr) from by have h1:=privateMode_any m wr;rw [hF] at h1;exact h1)
     clear hF
     go_wp2_with fail
     refine HC.out.mono ?_
     rintro e w1 ⟨rfl,hw1⟩
     obtain rfl:=hw1.symm
     clear hw1
     go_wp2_with fail
     go_roundw
     case rel=>exact ⟨k+1,y,by omega,by go_num,Y.out.as (by rw [HS.out,prm_no _ on HF.out])⟩
     case measure=>simp [intOf];omega
    | some F =>
     have hcf:∀ (args:Array Value) (w:World),(callFunc F args).run Tryz.prog w=.ok (.enter F args) w:=prm_in hF
     have HF:=Lib.hid hF
     have HC:=Lib.hid (show Calls Tryz.prog 231 #[.int .i64 m] wr (fun e w'=>e=.returned (.func (.func F) #[] #[])∧w'=wr) from by have h1:=privateMode_any m wr;rw [hF] at h1;exact h1)
     clear hF
     go_wp2_with fail
     refine HC.out.mono ?_
     rintro e w1 ⟨rfl,hw1⟩
     obtain rfl:=hw1.symm
     clear hw1
     go_wp2_with fail
     refine (prm_do Y.out.cz on HF.out).mono ?_
     rintro e w3 ⟨rfl,z,hz⟩
     have Z:=Lib.hid hz
     clear hz
     go_wp2_with fail
     go_roundw
     case rel=>exact ⟨k+1,z,by omega,by go_num,(Y.out.trans Z.out).as (by rw [HS.out,Y.out.t])⟩
     case measure=>simp [intOf];omega
  · obtain rfl:k=n:=by omega
    have hall:ps.take k=ps:=List.take_of_length_le (by rw [HM.out.len];exact Nat.le_refl _)
    rw [hall] at Y
    clear hall
    go_wp2_with fail
    go_end0
    exact ⟨rfl,y,Y.out⟩
set_option maxRecDepth 100000 in
set_option maxHeartbeats 1600000 in
theorem switchL_any (hT:Tabs w) (h:Cz B w g x) (hN:Nm w (CB g x) A n c ps) (on:Bool):Calls Tryz.prog 227 #[.pointer (some ⟨g,0,none⟩),.func (.func 228) #[] #[],.bool on,.slice A n c] w (CzP B g x (ps.foldl (fun t m=>plS t m on) x.t) w):=by
 have HT:=Lib.hid hT
 have HZ:=Lib.hid h
 have HM:=Lib.hid hN
 have hz:=fn_nil Tryz.underlying237
 have hs:=fn_some Tryz.underlying237
 have hnn:=hN.few
 clear h hT hN
 go_enter Tryz.func227,Tryz.ntmps227
 go_wp2_with fail
 go_loopw [13] (fun i wr=>∃ (k:Nat) (y:CT),k≤n∧i=.int .i64 k∧CzTo B g x ((ps.take k).foldl (fun t m=>plS t m on) x.t) w wr y) (fun i _=>n-(intOf i).toNat)
 case atStart=>exact ⟨0,x,Nat.zero_le _,rfl,by rw [List.take_zero];exact CzTo.refl HZ.out⟩
 case round =>
  obtain ⟨k,y,hk,rfl,hy⟩:=hrel
  have Y:=Lib.hid hy
  have HM1:=Lib.hid (HM.out.on hy)
  clear hy
  by_cases hlt:k<n
  · have hkl:k<ps.length:=by rw [HM.out.len];exact hlt
    obtain ⟨ad,hA⟩:∃ ad,A=some ad:=by obtain ⟨ad,e,_⟩:=HM.out.rd.at_ (by omega);exact ⟨ad,e⟩
    subst hA
    have hcell:=HM1.out.rd.cell hlt
    have eS:=List.take_succ_eq_append_getElem hkl
    have eG:=getD_lt (zs:=ps) hkl
    obtain ⟨m,hm⟩:∃ m,m=ps.getD k 0:=⟨_,rfl⟩
    rw [← hm] at hcell eG
    have HS:=Lib.hid (show (ps.take (k+1)).foldl (fun t m=>plS t m on) x.t=plS ((ps.take k).foldl (fun t m=>plS t m on) x.t) m on from by rw [eS,List.foldl_append,← eG];rfl)
    clear eS eG hm hkl
    have k1:(k:Int)<(n:Int):=by omega
    cases hF:plmF m with
    | none =>
     have HF:=Lib.hid hF
     have HC:=Lib.hid (show Calls Tryz.prog 228 #[.int .i64 m] wr (fun e w'=>e=.returned (.nilFunc)∧w'=wr) from by have h1:=plainMode_any m wr;rw [hF] at h1;exact h1)
     clear hF
     go_wp2_with fail
     refine HC.out.mono ?_
     rintro e w1 ⟨rfl,hw1⟩
     obtain rfl:=hw1.symm
     clear hw1
     go_wp2_with fail
     go_roundw
     case rel=>exact ⟨k+1,y,by omega,by go_num,Y.out.as (by rw [HS.out,plm_no _ on HF.out])⟩
     case measure=>simp [intOf];omega
    | some F =>
     have hcf:∀ (args:Array Value) (w:World),(callFunc F args).run Tryz.prog w=.ok (.enter F args) w:=plm_in hF
     have HF:=Lib.hid hF
     have HC:=Lib.hid (show Calls Tryz.prog 228 #[.int .i64 m] wr (fun e w'=>e=.returned (.func (.func F) #[] #[])∧w'=wr) from by have h1:=plainMode_any m wr;rw [hF] at h1;exact h1)
     clear hF
     go_wp2_with fail
     refine HC.out.mono ?_
     rintro e w1 ⟨rfl,hw1⟩
     obtain rfl:=hw1.symm
     clear hw1
     go_wp2_with fail
     refine (plm_do Y.out.cz on HF.out).mono ?_
     rintro e w3 ⟨rfl,z,hz⟩
     have Z:=Lib.hid hz
     clear hz
     go_wp2_with fail
     go_roundw
     case rel=>exact ⟨k+1,z,by omega,by go_num,(Y.out.trans Z.out).as (by rw [HS.out,Y.out.t])⟩
     case measure=>simp [intOf];omega
  · obtain rfl:k=n:=by omega
    have hall:ps.take k=ps:=List.take_of_length_le (by rw [HM.out.len];exact Nat.le_refl _)
    rw [hall] at Y
    clear hall
    go_wp2_with fail
    go_end0
    exact ⟨rfl,y,Y.out⟩
set_option maxRecDepth 100000 in
set_option maxHeartbeats 1600000 in
theorem setPrivate_any (hT:Tabs w) (h:Cz B w g x) (hN:Nm w (CB g x) A n c ps):Calls Tryz.prog 185 #[.pointer (some ⟨g,0,none⟩),.slice A n c] w (CzP B g x (Dd.setPrivate.run ps x.t) w):=by
 have HS:=Lib.hid (switchP_any hT h hN true)
 clear h hT hN
 go_enter Tryz.func185,Tryz.ntmps185
 go_wp2_with fail
 refine HS.out.mono ?_
 rintro e w1 ⟨rfl,y,hy⟩
 have Y:=Lib.hid hy
 clear hy
 go_wp2_with fail
 go_end0
 exact ⟨rfl,y,Y.out⟩
set_option maxRecDepth 100000 in
set_option maxHeartbeats 1600000 in
theorem unsetPrivate_any (hT:Tabs w) (h:Cz B w g x) (hN:Nm w (CB g x) A n c ps):Calls Tryz.prog 186 #[.pointer (some ⟨g,0,none⟩),.slice A n c] w (CzP B g x (Dd.unsetPrivate.run ps x.t) w):=by
 have HS:=Lib.hid (switchP_any hT h hN false)
 clear h hT hN
 go_enter Tryz.func186,Tryz.ntmps186
 go_wp2_with fail
 refine HS.out.mono ?_
 rintro e w1 ⟨rfl,y,hy⟩
 have Y:=Lib.hid hy
 clear hy
 go_wp2_with fail
 go_end0
 exact ⟨rfl,y,Y.out⟩
set_option maxRecDepth 100000 in
set_option maxHeartbeats 1600000 in
theorem setPlain_any (hT:Tabs w) (h:Cz B w g x) (hN:Nm w (CB g x) A n c ps):Calls Tryz.prog 182 #[.pointer (some ⟨g,0,none⟩),.slice A n c] w (CzP B g x (Dd.setPlain.run ps x.t) w):=by
 have HS:=Lib.hid (switchL_any hT h hN true)
 rw [pl_all] at HS
 show Calls _ _ _ _ (CzP B g x (if 4∈ps then { x.t with ins:=true } else x.t) w)
 generalize (if 4∈ps then ({ x.t with ins:=true }:Tm) else x.t)=T' at HS ⊢
 clear h hT hN
 go_enter Tryz.func182,Tryz.ntmps182
 go_wp2_with fail
 refine HS.out.mono ?_
 rintro e w1 ⟨rfl,y,hy⟩
 have Y:=Lib.hid hy
 clear hy
 go_wp2_with fail
 go_end0
 exact ⟨rfl,y,Y.out⟩
set_option maxRecDepth 100000 in
set_option maxHeartbeats 1600000 in
theorem unsetPlain_any (hT:Tabs w) (h:Cz B w g x) (hN:Nm w (CB g x) A n c ps):Calls Tryz.prog 183 #[.pointer (some ⟨g,0,none⟩),.slice A n c] w (CzP B g x (Dd.unsetPlain.run ps x.t) w):=by
 have HS:=Lib.hid (switchL_any hT h hN false)
 rw [pl_all] at HS
 show Calls _ _ _ _ (CzP B g x (if 4∈ps then { x.t with ins:=false } else x.t) w)
 generalize (if 4∈ps then ({ x.t with ins:=false }:Tm) else x.t)=T' at HS ⊢
 clear h hT hN
 go_enter Tryz.func183,Tryz.ntmps183
 go_wp2_with fail
 refine HS.out.mono ?_
 rintro e w1 ⟨rfl,y,hy⟩
 have Y:=Lib.hid hy
 clear hy
 go_wp2_with fail
 go_end0
 exact ⟨rfl,y,Y.out⟩
end
open Go.RowKit
section
variable {B:Nat} {w:World} {g:Nat} {x:CT} {A:Option Addr} {n c:Nat} {ps:List Int}
theorem dd_in (d:Dd):FnIn d.fn:=by
 cases d
 case left=>exact fn_in Tryz.func104 (by kernel_rfl) rfl
 case tabAhead=>exact fn_in Tryz.func105 (by kernel_rfl) rfl
 case lineDown=>exact fn_in Tryz.func106 (by kernel_rfl) rfl
 case lineStart=>exact fn_in Tryz.func107 (by kernel_rfl) rfl
 case save=>exact fn_in Tryz.func108 (by kernel_rfl) rfl
 case restore=>exact fn_in Tryz.func109 (by kernel_rfl) rfl
 case nextLine=>exact fn_in Tryz.func100 (by kernel_rfl) rfl
 case lineUp=>exact fn_in Tryz.func110 (by kernel_rfl) rfl
 case setTab=>exact fn_in Tryz.func111 (by kernel_rfl) rfl
 case reset=>exact fn_in Tryz.func112 (by kernel_rfl) rfl
 case up=>exact fn_in Tryz.func162 (by kernel_rfl) rfl
 case down=>exact fn_in Tryz.func163 (by kernel_rfl) rfl
 case right=>exact fn_in Tryz.func160 (by kernel_rfl) rfl
 case startsDown=>exact fn_in Tryz.func164 (by kernel_rfl) rfl
 case startsUp=>exact fn_in Tryz.func165 (by kernel_rfl) rfl
 case toColumn=>exact fn_in Tryz.func166 (by kernel_rfl) rfl
 case toRow=>exact fn_in Tryz.func167 (by kernel_rfl) rfl
 case toPlace=>exact fn_in Tryz.func168 (by kernel_rfl) rfl
 case tabBack=>exact fn_in Tryz.func169 (by kernel_rfl) rfl
 case takeTabs=>exact fn_in Tryz.func170 (by kernel_rfl) rfl
 case setMargins=>exact fn_in Tryz.func171 (by kernel_rfl) rfl
 case insert=>exact fn_in Tryz.func172 (by kernel_rfl) rfl
 case takeOut=>exact fn_in Tryz.func173 (by kernel_rfl) rfl
 case eraseSome=>exact fn_in Tryz.func174 (by kernel_rfl) rfl
 case eraseScreen=>exact fn_in Tryz.func175 (by kernel_rfl) rfl
 case eraseRow=>exact fn_in Tryz.func176 (by kernel_rfl) rfl
 case insertRows=>exact fn_in Tryz.func177 (by kernel_rfl) rfl
 case takeOutRows=>exact fn_in Tryz.func178 (by kernel_rfl) rfl
 case scrollUp=>exact fn_in Tryz.func179 (by kernel_rfl) rfl
 case scrollDown=>exact fn_in Tryz.func180 (by kernel_rfl) rfl
 case again=>exact fn_in Tryz.func181 (by kernel_rfl) rfl
 case setPlain=>exact fn_in Tryz.func182 (by kernel_rfl) rfl
 case unsetPlain=>exact fn_in Tryz.func183 (by kernel_rfl) rfl
 case look=>exact fn_in Tryz.func184 (by kernel_rfl) rfl
 case setPrivate=>exact fn_in Tryz.func185 (by kernel_rfl) rfl
 case unsetPrivate=>exact fn_in Tryz.func186 (by kernel_rfl) rfl
 case softReset=>exact fn_in Tryz.func116 (by kernel_rfl) rfl
theorem dd_any (hT:Tabs w) (h:Cz B w g x) (hN:Nm w (CB g x) A n c ps) (hA:Calls Tryz.prog 181 #[.pointer (some ⟨g,0,none⟩),.slice A n c] w (CzP B g x (Dd.again.run ps x.t) w)) (d:Dd):Calls Tryz.prog d.fn #[.pointer (some ⟨g,0,none⟩),.slice A n c] w (CzP B g x (d.run ps x.t) w):=by
 cases d
 case left=>exact leftT_any h hN
 case tabAhead=>exact tabAhead_any h hN
 case lineDown=>exact lineDown_any hT h
 case lineStart=>exact lineStart_any h
 case save=>exact save_any h
 case restore=>exact restore_any h
 case nextLine=>exact nextLine_any hT h
 case lineUp=>exact lineUp_any hT h
 case setTab=>exact setTab_any h
 case reset=>exact resetT_any h
 case up=>exact up_any h hN
 case down=>exact down_any h hN
 case right=>exact right_any h hN
 case startsDown=>exact startsDown_any h hN
 case startsUp=>exact startsUp_any h hN
 case toColumn=>exact toColumn_any h hN
 case toRow=>exact toRow_any h hN
 case toPlace=>exact toPlace_any h hN
 case tabBack=>exact tabBack_any h hN
 case takeTabs=>exact takeTabs_any h hN
 case setMargins=>exact setMargins_any h hN
 case insert=>exact insertT_any hT h hN
 case takeOut=>exact takeOutT_any hT h hN
 case eraseSome=>exact eraseSomeT_any hT h hN
 case eraseScreen=>exact eraseScreen_any hT h hN
 case eraseRow=>exact eraseRow_any hT h hN
 case insertRows=>exact insertRows_any hT h hN
 case takeOutRows=>exact takeOutRows_any hT h hN
 case scrollUp=>exact scrollUp_any hT h hN
 case scrollDown=>exact scrollDown_any hT h hN
 case again=>exact hA
 case setPlain=>exact setPlain_any hT h hN
 case unsetPlain=>exact unsetPlain_any hT h hN
 case look=>exact look_any h hN
 case setPrivate=>exact setPrivate_any hT h hN
 case unsetPrivate=>exact unsetPrivate_any hT h hN
 case softReset=>exact softReset_any h
theorem obeyNil_any (g:Nat) (A:Option Addr) (n c:Nat) (w:World):Calls Tryz.prog 51 #[.pointer (some ⟨g,0,none⟩),.nilFunc,.slice A n c] w fun e w'=>e=.returned (.tuple #[])∧w'=w:=by
 have hz:=fn_nil Tryz.underlying108
 go_enter Tryz.func51,Tryz.ntmps51
 go_wp2_with fail
 go_end0
 exact ⟨rfl,rfl⟩
theorem obeyDo_any {F:Nat} {t':Tm} (hF:FnIn F) (hC:Calls Tryz.prog F #[.pointer (some ⟨g,0,none⟩),.slice A n c] w (CzP B g x t' w)):Calls Tryz.prog 51 #[.pointer (some ⟨g,0,none⟩),.func (.func F) #[] #[],.slice A n c] w (CzP B g x t' w):=by
 have hs:=fn_some Tryz.underlying108
 have hcf:∀ (args:Array Value) (w:World),(callFunc F args).run Tryz.prog w=.ok (.enter F args) w:=hF
 have HC:=Lib.hid hC
 clear hC
 go_enter Tryz.func51,Tryz.ntmps51
 go_wp2_with fail
 refine HC.out.mono ?_
 rintro e w2 ⟨rfl,y,hy⟩
 have Y:=Lib.hid hy
 clear hy
 go_wp2_with fail
 go_end0
 exact ⟨rfl,y,Y.out⟩
end
end Go.Proofs.YtlcipgdnpilkfaaGreatDoor
