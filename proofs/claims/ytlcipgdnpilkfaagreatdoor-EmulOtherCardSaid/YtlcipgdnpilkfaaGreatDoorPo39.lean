/-
  Part 39 of what the laws of emul want: EmulSeq, EmulSw.
-/
import Derived.Test.YtlcipgdnpilkfaaGreatDoorPo19
import Derived.Test.YtlcipgdnpilkfaaGreatDoorPo22
import Derived.Test.YtlcipgdnpilkfaaGreatDoorPo29
namespace Go.Proofs.YtlcipgdnpilkfaaGreatDoor
open Go.RowKit
def fnV (o:Option Nat):Value:=match o with | none=>.nilFunc | some F=>.func (.func F) #[] #[]
section
variable {t:TypeId} {a b:Array TypeId} {c:Bool}
theorem fn_in0 (h:Tryz.prog.underlying t=some (.func a b c)) (d:Nat) (w:World):(Op.equalIn (d+1) t .nilFunc .nilFunc).run Tryz.prog w=.ok true w:=by simp [Op.equalIn,run_underlying h]
theorem fn_in1 (h:Tryz.prog.underlying t=some (.func a b c)) (d F:Nat) (w:World):(Op.equalIn (d+1) t (.func (.func F) #[] #[]) .nilFunc).run Tryz.prog w=.ok false w:=by simp [Op.equalIn,run_underlying h]
theorem fn_nil (h:Tryz.prog.underlying t=some (.func a b c)) (w:World):(binOp .neq t .nilFunc .nilFunc).run Tryz.prog w=.ok (.bool false) w:=by
 simp only [binOp]
 simp [Op.equal,Op.maxDepth,fn_in0 h 9999 w]
theorem fn_some (h:Tryz.prog.underlying t=some (.func a b c)) (F:Nat) (w:World):(binOp .neq t (.func (.func F) #[] #[]) .nilFunc).run Tryz.prog w=.ok (.bool true) w:=by
 simp only [binOp]
 simp [Op.equal,Op.maxDepth,fn_in1 h 9999 F w]
end
def Dd.fn:Dd→Nat
 | .left=>104
 | .tabAhead=>105
 | .lineDown=>106
 | .lineStart=>107
 | .save=>108
 | .restore=>109
 | .nextLine=>100
 | .lineUp=>110
 | .setTab=>111
 | .reset=>112
 | .up=>162
 | .down=>163
 | .right=>160
 | .startsDown=>164
 | .startsUp=>165
 | .toColumn=>166
 | .toRow=>167
 | .toPlace=>168
 | .tabBack=>169
 | .takeTabs=>170
 | .setMargins=>171
 | .insert=>172
 | .takeOut=>173
 | .eraseSome=>174
 | .eraseScreen=>175
 | .eraseRow=>176
 | .insertRows=>177
 | .takeOutRows=>178
 | .scrollUp=>179
 | .scrollDown=>180
 | .again=>181
 | .setPlain=>182
 | .unsetPlain=>183
 | .look=>184
 | .setPrivate=>185
 | .unsetPrivate=>186
 | .softReset=>116
def ddV (o:Option Dd):Value:=fnV (o.map Dd.fn)
def prmF (n:Int):Option Nat :=
 if n=6 then some 257 else if n=7 then some 258 else if n=25 then some 259 else if n=47 then some 260 else if n=1047 then some 260 else if n=1000 then some 261 else if n=1002 then some 262 else if n=1003 then some 262 else if n=1049 then some 263 else none
def plmF (n:Int):Option Nat :=
 if n=4 then some 253 else none
set_option maxRecDepth 100000 in
theorem privateMode_any (f:Int) (w:World):Calls Tryz.prog 231 #[.int .i64 f] w fun e w'=>e=.returned (fnV (prmF f))∧w'=w:=by
 by_cases h6:f=6
 · subst h6
   go_enter Tryz.func231,Tryz.ntmps231
   go_wp2_with fail
   go_ret
   exact ⟨rfl,rfl⟩
 by_cases h7:f=7
 · subst h7
   go_enter Tryz.func231,Tryz.ntmps231
   go_wp2_with fail
   go_ret
   exact ⟨rfl,rfl⟩
 by_cases h25:f=25
 · subst h25
   go_enter Tryz.func231,Tryz.ntmps231
   go_wp2_with fail
   go_ret
   exact ⟨rfl,rfl⟩
 by_cases h47:f=47
 · subst h47
   go_enter Tryz.func231,Tryz.ntmps231
   go_wp2_with fail
   go_ret
   exact ⟨rfl,rfl⟩
 by_cases h1047:f=1047
 · subst h1047
   go_enter Tryz.func231,Tryz.ntmps231
   go_wp2_with fail
   go_ret
   exact ⟨rfl,rfl⟩
 by_cases h1000:f=1000
 · subst h1000
   go_enter Tryz.func231,Tryz.ntmps231
   go_wp2_with fail
   go_ret
   exact ⟨rfl,rfl⟩
 by_cases h1002:f=1002
 · subst h1002
   go_enter Tryz.func231,Tryz.ntmps231
   go_wp2_with fail
   go_ret
   exact ⟨rfl,rfl⟩
 by_cases h1003:f=1003
 · subst h1003
   go_enter Tryz.func231,Tryz.ntmps231
   go_wp2_with fail
   go_ret
   exact ⟨rfl,rfl⟩
 by_cases h1049:f=1049
 · subst h1049
   go_enter Tryz.func231,Tryz.ntmps231
   go_wp2_with fail
   go_ret
   exact ⟨rfl,rfl⟩
 have e:prmF f=none:=by
  unfold prmF
  rw [if_neg h6,if_neg h7,if_neg h25,if_neg h47,if_neg h1047,if_neg h1000,if_neg h1002,if_neg h1003,if_neg h1049]
 rw [e]
 clear e
 go_enter Tryz.func231,Tryz.ntmps231
 go_wp2_with fail
 go_ret
 exact ⟨rfl,rfl⟩
set_option maxRecDepth 100000 in
theorem plainMode_any (f:Int) (w:World):Calls Tryz.prog 228 #[.int .i64 f] w fun e w'=>e=.returned (fnV (plmF f))∧w'=w:=by
 by_cases h4:f=4
 · subst h4
   go_enter Tryz.func228,Tryz.ntmps228
   go_wp2_with fail
   go_ret
   exact ⟨rfl,rfl⟩
 have e:plmF f=none:=by
  unfold plmF
  rw [if_neg h4]
 rw [e]
 clear e
 go_enter Tryz.func228,Tryz.ntmps228
 go_wp2_with fail
 go_ret
 exact ⟨rfl,rfl⟩
set_option maxRecDepth 100000 in
theorem controlByte_any (f:Int) (w:World):Calls Tryz.prog 52 #[.int .u8 f] w fun e w'=>e=.returned (ddV (c0D f))∧w'=w:=by
 by_cases h8:f=8
 · subst h8
   go_enter Tryz.func52,Tryz.ntmps52
   go_wp2_with fail
   go_ret
   exact ⟨rfl,rfl⟩
 by_cases h9:f=9
 · subst h9
   go_enter Tryz.func52,Tryz.ntmps52
   go_wp2_with fail
   go_ret
   exact ⟨rfl,rfl⟩
 by_cases h10:f=10
 · subst h10
   go_enter Tryz.func52,Tryz.ntmps52
   go_wp2_with fail
   go_ret
   exact ⟨rfl,rfl⟩
 by_cases h11:f=11
 · subst h11
   go_enter Tryz.func52,Tryz.ntmps52
   go_wp2_with fail
   go_ret
   exact ⟨rfl,rfl⟩
 by_cases h12:f=12
 · subst h12
   go_enter Tryz.func52,Tryz.ntmps52
   go_wp2_with fail
   go_ret
   exact ⟨rfl,rfl⟩
 by_cases h13:f=13
 · subst h13
   go_enter Tryz.func52,Tryz.ntmps52
   go_wp2_with fail
   go_ret
   exact ⟨rfl,rfl⟩
 have e:c0D f=none:=by
  unfold c0D
  rw [if_neg h8,if_neg h9,if_neg h10,if_neg h11,if_neg h12,if_neg h13]
 rw [e]
 clear e
 go_enter Tryz.func52,Tryz.ntmps52
 go_wp2_with fail
 go_ret
 exact ⟨rfl,rfl⟩
set_option maxRecDepth 100000 in
theorem moving_any (f:Int) (w:World):Calls Tryz.prog 113 #[.int .u8 f] w fun e w'=>e=.returned (ddV (movD f))∧w'=w:=by
 by_cases h65:f=65
 · subst h65
   go_enter Tryz.func113,Tryz.ntmps113
   go_wp2_with fail
   go_ret
   exact ⟨rfl,rfl⟩
 by_cases h66:f=66
 · subst h66
   go_enter Tryz.func113,Tryz.ntmps113
   go_wp2_with fail
   go_ret
   exact ⟨rfl,rfl⟩
 by_cases h101:f=101
 · subst h101
   go_enter Tryz.func113,Tryz.ntmps113
   go_wp2_with fail
   go_ret
   exact ⟨rfl,rfl⟩
 by_cases h67:f=67
 · subst h67
   go_enter Tryz.func113,Tryz.ntmps113
   go_wp2_with fail
   go_ret
   exact ⟨rfl,rfl⟩
 by_cases h97:f=97
 · subst h97
   go_enter Tryz.func113,Tryz.ntmps113
   go_wp2_with fail
   go_ret
   exact ⟨rfl,rfl⟩
 by_cases h68:f=68
 · subst h68
   go_enter Tryz.func113,Tryz.ntmps113
   go_wp2_with fail
   go_ret
   exact ⟨rfl,rfl⟩
 by_cases h69:f=69
 · subst h69
   go_enter Tryz.func113,Tryz.ntmps113
   go_wp2_with fail
   go_ret
   exact ⟨rfl,rfl⟩
 by_cases h70:f=70
 · subst h70
   go_enter Tryz.func113,Tryz.ntmps113
   go_wp2_with fail
   go_ret
   exact ⟨rfl,rfl⟩
 by_cases h71:f=71
 · subst h71
   go_enter Tryz.func113,Tryz.ntmps113
   go_wp2_with fail
   go_ret
   exact ⟨rfl,rfl⟩
 by_cases h96:f=96
 · subst h96
   go_enter Tryz.func113,Tryz.ntmps113
   go_wp2_with fail
   go_ret
   exact ⟨rfl,rfl⟩
 by_cases h100:f=100
 · subst h100
   go_enter Tryz.func113,Tryz.ntmps113
   go_wp2_with fail
   go_ret
   exact ⟨rfl,rfl⟩
 by_cases h72:f=72
 · subst h72
   go_enter Tryz.func113,Tryz.ntmps113
   go_wp2_with fail
   go_ret
   exact ⟨rfl,rfl⟩
 by_cases h102:f=102
 · subst h102
   go_enter Tryz.func113,Tryz.ntmps113
   go_wp2_with fail
   go_ret
   exact ⟨rfl,rfl⟩
 by_cases h73:f=73
 · subst h73
   go_enter Tryz.func113,Tryz.ntmps113
   go_wp2_with fail
   go_ret
   exact ⟨rfl,rfl⟩
 by_cases h90:f=90
 · subst h90
   go_enter Tryz.func113,Tryz.ntmps113
   go_wp2_with fail
   go_ret
   exact ⟨rfl,rfl⟩
 by_cases h103:f=103
 · subst h103
   go_enter Tryz.func113,Tryz.ntmps113
   go_wp2_with fail
   go_ret
   exact ⟨rfl,rfl⟩
 by_cases h114:f=114
 · subst h114
   go_enter Tryz.func113,Tryz.ntmps113
   go_wp2_with fail
   go_ret
   exact ⟨rfl,rfl⟩
 by_cases h115:f=115
 · subst h115
   go_enter Tryz.func113,Tryz.ntmps113
   go_wp2_with fail
   go_ret
   exact ⟨rfl,rfl⟩
 by_cases h117:f=117
 · subst h117
   go_enter Tryz.func113,Tryz.ntmps113
   go_wp2_with fail
   go_ret
   exact ⟨rfl,rfl⟩
 have e:movD f=none:=by
  unfold movD
  rw [if_neg h65,if_neg h66,if_neg h101,if_neg h67,if_neg h97,if_neg h68,if_neg h69,if_neg h70,if_neg h71,if_neg h96,if_neg h100,if_neg h72,if_neg h102,if_neg h73,if_neg h90,if_neg h103,if_neg h114,if_neg h115,if_neg h117]
 rw [e]
 clear e
 go_enter Tryz.func113,Tryz.ntmps113
 go_wp2_with fail
 go_ret
 exact ⟨rfl,rfl⟩
set_option maxRecDepth 100000 in
theorem writing_any (f:Int) (w:World):Calls Tryz.prog 114 #[.int .u8 f] w fun e w'=>e=.returned (ddV (wrtD f))∧w'=w:=by
 by_cases h64:f=64
 · subst h64
   go_enter Tryz.func114,Tryz.ntmps114
   go_wp2_with fail
   go_ret
   exact ⟨rfl,rfl⟩
 by_cases h80:f=80
 · subst h80
   go_enter Tryz.func114,Tryz.ntmps114
   go_wp2_with fail
   go_ret
   exact ⟨rfl,rfl⟩
 by_cases h88:f=88
 · subst h88
   go_enter Tryz.func114,Tryz.ntmps114
   go_wp2_with fail
   go_ret
   exact ⟨rfl,rfl⟩
 by_cases h74:f=74
 · subst h74
   go_enter Tryz.func114,Tryz.ntmps114
   go_wp2_with fail
   go_ret
   exact ⟨rfl,rfl⟩
 by_cases h75:f=75
 · subst h75
   go_enter Tryz.func114,Tryz.ntmps114
   go_wp2_with fail
   go_ret
   exact ⟨rfl,rfl⟩
 by_cases h76:f=76
 · subst h76
   go_enter Tryz.func114,Tryz.ntmps114
   go_wp2_with fail
   go_ret
   exact ⟨rfl,rfl⟩
 by_cases h77:f=77
 · subst h77
   go_enter Tryz.func114,Tryz.ntmps114
   go_wp2_with fail
   go_ret
   exact ⟨rfl,rfl⟩
 by_cases h83:f=83
 · subst h83
   go_enter Tryz.func114,Tryz.ntmps114
   go_wp2_with fail
   go_ret
   exact ⟨rfl,rfl⟩
 by_cases h84:f=84
 · subst h84
   go_enter Tryz.func114,Tryz.ntmps114
   go_wp2_with fail
   go_ret
   exact ⟨rfl,rfl⟩
 by_cases h98:f=98
 · subst h98
   go_enter Tryz.func114,Tryz.ntmps114
   go_wp2_with fail
   go_ret
   exact ⟨rfl,rfl⟩
 by_cases h104:f=104
 · subst h104
   go_enter Tryz.func114,Tryz.ntmps114
   go_wp2_with fail
   go_ret
   exact ⟨rfl,rfl⟩
 by_cases h108:f=108
 · subst h108
   go_enter Tryz.func114,Tryz.ntmps114
   go_wp2_with fail
   go_ret
   exact ⟨rfl,rfl⟩
 by_cases h109:f=109
 · subst h109
   go_enter Tryz.func114,Tryz.ntmps114
   go_wp2_with fail
   go_ret
   exact ⟨rfl,rfl⟩
 have e:wrtD f=none:=by
  unfold wrtD
  rw [if_neg h64,if_neg h80,if_neg h88,if_neg h74,if_neg h75,if_neg h76,if_neg h77,if_neg h83,if_neg h84,if_neg h98,if_neg h104,if_neg h108,if_neg h109]
 rw [e]
 clear e
 go_enter Tryz.func114,Tryz.ntmps114
 go_wp2_with fail
 go_ret
 exact ⟨rfl,rfl⟩
set_option maxRecDepth 100000 in
theorem private_any (f:Int) (w:World):Calls Tryz.prog 115 #[.int .u8 f] w fun e w'=>e=.returned (ddV (prvD f))∧w'=w:=by
 by_cases h104:f=104
 · subst h104
   go_enter Tryz.func115,Tryz.ntmps115
   go_wp2_with fail
   go_ret
   exact ⟨rfl,rfl⟩
 by_cases h108:f=108
 · subst h108
   go_enter Tryz.func115,Tryz.ntmps115
   go_wp2_with fail
   go_ret
   exact ⟨rfl,rfl⟩
 have e:prvD f=none:=by
  unfold prvD
  rw [if_neg h104,if_neg h108]
 rw [e]
 clear e
 go_enter Tryz.func115,Tryz.ntmps115
 go_wp2_with fail
 go_ret
 exact ⟨rfl,rfl⟩
set_option maxRecDepth 100000 in
theorem escape_any (m f:Int) (w:World):Calls Tryz.prog 53 #[.int .u8 m,.int .u8 f] w fun e w'=>e=.returned (ddV (if m=0 then escD f else none))∧w'=w:=by
 by_cases hm:m=0
 · rw [if_pos hm]
   subst hm
   by_cases h55:f=55
   · subst h55
     go_enter Tryz.func53,Tryz.ntmps53
     go_wp2_with fail
     go_ret
     exact ⟨rfl,rfl⟩
   by_cases h56:f=56
   · subst h56
     go_enter Tryz.func53,Tryz.ntmps53
     go_wp2_with fail
     go_ret
     exact ⟨rfl,rfl⟩
   by_cases h68:f=68
   · subst h68
     go_enter Tryz.func53,Tryz.ntmps53
     go_wp2_with fail
     go_ret
     exact ⟨rfl,rfl⟩
   by_cases h69:f=69
   · subst h69
     go_enter Tryz.func53,Tryz.ntmps53
     go_wp2_with fail
     go_ret
     exact ⟨rfl,rfl⟩
   by_cases h77:f=77
   · subst h77
     go_enter Tryz.func53,Tryz.ntmps53
     go_wp2_with fail
     go_ret
     exact ⟨rfl,rfl⟩
   by_cases h72:f=72
   · subst h72
     go_enter Tryz.func53,Tryz.ntmps53
     go_wp2_with fail
     go_ret
     exact ⟨rfl,rfl⟩
   by_cases h99:f=99
   · subst h99
     go_enter Tryz.func53,Tryz.ntmps53
     go_wp2_with fail
     go_ret
     exact ⟨rfl,rfl⟩
   have e:escD f=none:=by
    unfold escD
    rw [if_neg h55,if_neg h56,if_neg h68,if_neg h69,if_neg h77,if_neg h72,if_neg h99]
   rw [e]
   clear e
   go_enter Tryz.func53,Tryz.ntmps53
   go_wp2_with fail
   go_ret
   exact ⟨rfl,rfl⟩
 · rw [if_neg hm]
   have hb:(m != 0)=true:=bne_iff_ne.2 hm
   go_enter Tryz.func53,Tryz.ntmps53
   go_wp2_with fail
   go_ret
   exact ⟨rfl,rfl⟩
set_option maxRecDepth 100000 in
theorem sequence_any (m f:Int) (w:World):Calls Tryz.prog 54 #[.int .u8 m,.int .u8 f] w fun e w'=>e=.returned (ddV (seqD m f))∧w'=w:=by
 have hz:=fn_nil Tryz.underlying108
 have hs:=fn_some Tryz.underlying108
 have HM:=Lib.hid (moving_any f w)
 have HW:=Lib.hid (writing_any f w)
 have HP:=Lib.hid (private_any f w)
 by_cases hm:m=0
 · subst hm
   have e:seqD 0 f=(movD f).or (wrtD f):=rfl
   rw [e]
   clear e
   cases hd:movD f with
   | none =>
    rw [hd] at HM
    have HM:=Lib.hid (show Calls Tryz.prog 113 #[.int .u8 f] w (fun e w'=>e=.returned (.nilFunc)∧w'=w) from HM.out)
    go_enter Tryz.func54,Tryz.ntmps54
    go_wp2_with fail
    refine HM.out.mono ?_
    rintro e w1 ⟨rfl,hw1⟩
    obtain rfl:=hw1.symm
    clear hw1
    go_wp2_with fail
    refine HW.out.mono ?_
    rintro e w1 ⟨rfl,hw1⟩
    obtain rfl:=hw1.symm
    clear hw1
    go_wp2_with fail
    go_ret
    exact ⟨rfl,rfl⟩
   | some d =>
    rw [hd] at HM
    have HM:=Lib.hid (show Calls Tryz.prog 113 #[.int .u8 f] w (fun e w'=>e=.returned (.func (.func d.fn) #[] #[])∧w'=w) from HM.out)
    go_enter Tryz.func54,Tryz.ntmps54
    go_wp2_with fail
    refine HM.out.mono ?_
    rintro e w1 ⟨rfl,hw1⟩
    obtain rfl:=hw1.symm
    clear hw1
    go_wp2_with fail
    go_ret
    exact ⟨rfl,rfl⟩
 by_cases h63:m=63
 · subst h63
   have e:seqD 63 f=prvD f:=rfl
   rw [e]
   clear e
   go_enter Tryz.func54,Tryz.ntmps54
   go_wp2_with fail
   refine HP.out.mono ?_
   rintro e w1 ⟨rfl,hw1⟩
   obtain rfl:=hw1.symm
   clear hw1
   go_wp2_with fail
   go_ret
   exact ⟨rfl,rfl⟩
 by_cases h33:m=33
 · subst h33
   by_cases h112:f=112
   · subst h112
     go_enter Tryz.func54,Tryz.ntmps54
     go_wp2_with fail
     go_ret
     exact ⟨rfl,rfl⟩
   · have e:seqD 33 f=none:=by
      show (if f=112 then some Dd.softReset else none)=none
      rw [if_neg h112]
     rw [e]
     clear e
     go_enter Tryz.func54,Tryz.ntmps54
     go_wp2_with fail
     go_ret
     exact ⟨rfl,rfl⟩
 have e:seqD m f=none:=by
  unfold seqD
  rw [if_neg hm,if_neg h63,if_neg h33]
 rw [e]
 clear e
 go_enter Tryz.func54,Tryz.ntmps54
 go_wp2_with fail
 go_ret
 exact ⟨rfl,rfl⟩
open Go.RowKit
section
variable {B:Nat} {w:World} {g:Nat} {x:CT} {A:Option Addr} {n c:Nat} {ps:List Int}
def FnIn (F:Nat):Prop:=∀ (args:Array Value) (w:World),(callFunc F args).run Tryz.prog w=.ok (.enter F args) w
theorem fn_in {F:Nat} {fn:Func} {c:Code} (hf:Tryz.prog.funcs[F]?=some fn) (hn:(fn.name == "runtime.NumGoroutine")=false) (hb:fn.body=some c):FnIn F:=fun args w=>by
 have h1:¬ fn.name = "runtime.NumGoroutine":=by simpa using hn
 simp [callFunc,hf,h1,hb]
theorem prm_in {m:Int} {F:Nat} (hF:prmF m=some F):FnIn F:=by
 unfold prmF at hF
 by_cases h6:m=6
 · rw [if_pos h6] at hF;injection hF with hF;subst hF;exact fn_in Tryz.func257 (by kernel_rfl) rfl
 rw [if_neg h6] at hF
 by_cases h7:m=7
 · rw [if_pos h7] at hF;injection hF with hF;subst hF;exact fn_in Tryz.func258 (by kernel_rfl) rfl
 rw [if_neg h7] at hF
 by_cases h25:m=25
 · rw [if_pos h25] at hF;injection hF with hF;subst hF;exact fn_in Tryz.func259 (by kernel_rfl) rfl
 rw [if_neg h25] at hF
 by_cases h47:m=47
 · rw [if_pos h47] at hF;injection hF with hF;subst hF;exact fn_in Tryz.func260 (by kernel_rfl) rfl
 rw [if_neg h47] at hF
 by_cases h1047:m=1047
 · rw [if_pos h1047] at hF;injection hF with hF;subst hF;exact fn_in Tryz.func260 (by kernel_rfl) rfl
 rw [if_neg h1047] at hF
 by_cases h1000:m=1000
 · rw [if_pos h1000] at hF;injection hF with hF;subst hF;exact fn_in Tryz.func261 (by kernel_rfl) rfl
 rw [if_neg h1000] at hF
 by_cases h1002:m=1002
 · rw [if_pos h1002] at hF;injection hF with hF;subst hF;exact fn_in Tryz.func262 (by kernel_rfl) rfl
 rw [if_neg h1002] at hF
 by_cases h1003:m=1003
 · rw [if_pos h1003] at hF;injection hF with hF;subst hF;exact fn_in Tryz.func262 (by kernel_rfl) rfl
 rw [if_neg h1003] at hF
 by_cases h1049:m=1049
 · rw [if_pos h1049] at hF;injection hF with hF;subst hF;exact fn_in Tryz.func263 (by kernel_rfl) rfl
 rw [if_neg h1049] at hF
 cases hF
theorem plm_in {m:Int} {F:Nat} (hF:plmF m=some F):FnIn F:=by
 unfold plmF at hF
 by_cases h4:m=4
 · rw [if_pos h4] at hF;injection hF with hF;subst hF;exact fn_in Tryz.func253 (by kernel_rfl) rfl
 rw [if_neg h4] at hF
 cases hF
set_option maxRecDepth 100000 in
set_option maxHeartbeats 1600000 in
theorem setSavedOther_any (h:Cz B w g x) (on:Bool):Calls Tryz.prog 263 #[.pointer (some ⟨g,0,none⟩),.bool on] w (CzP B g x (x.t.mode 1049 on) w):=by
 have HZ:=Lib.hid h
 cases on
 · have e:((x.t.showO false).restored)=x.t.mode 1049 false:=rfl
   rw [← e]
   clear e h
   go_enter Tryz.func263,Tryz.ntmps263
   go_wp2_with fail
   refine (setOther_any HZ.out false).mono ?_
   rintro e w1 ⟨rfl,y,hy⟩
   have Y:=Lib.hid hy
   clear hy
   go_wp2_with fail
   refine (restore_any Y.out.cz).mono ?_
   rintro e w2 ⟨rfl,z,hz⟩
   have Z:=Lib.hid hz
   clear hz
   go_wp2_with fail
   go_end0
   exact ⟨rfl,z,(Y.out.trans Z.out).as (by rw [Y.out.t])⟩
 · have e:({ x.t with sav:=x.t.now }:Tm).showO true=x.t.mode 1049 true:=rfl
   rw [← e]
   clear e h
   go_enter Tryz.func263,Tryz.ntmps263
   go_wp2_with fail
   refine (save_any HZ.out).mono ?_
   rintro e w1 ⟨rfl,y,hy⟩
   have Y:=Lib.hid hy
   clear hy
   go_wp2_with fail
   refine (setOther_any Y.out.cz true).mono ?_
   rintro e w2 ⟨rfl,z,hz⟩
   have Z:=Lib.hid hz
   clear hz
   go_wp2_with fail
   go_end0
   exact ⟨rfl,z,(Y.out.trans Z.out).as (by rw [Y.out.t])⟩
theorem prm_do (h:Cz B w g x) (on:Bool) {m:Int} {F:Nat} (hF:prmF m=some F):Calls Tryz.prog F #[.pointer (some ⟨g,0,none⟩),.bool on] w (CzP B g x (x.t.mode m on) w):=by
 unfold prmF at hF
 by_cases h6:m=6
 · rw [if_pos h6] at hF;subst h6;injection hF with hF;subst hF;exact setOrigin_any h on
 rw [if_neg h6] at hF
 by_cases h7:m=7
 · rw [if_pos h7] at hF;subst h7;injection hF with hF;subst hF;exact setWraps_any h on
 rw [if_neg h7] at hF
 by_cases h25:m=25
 · rw [if_pos h25] at hF;subst h25;injection hF with hF;subst hF;exact setCursor_any h on
 rw [if_neg h25] at hF
 by_cases h47:m=47
 · rw [if_pos h47] at hF;subst h47;injection hF with hF;subst hF;exact setOther_any h on
 rw [if_neg h47] at hF
 by_cases h1047:m=1047
 · rw [if_pos h1047] at hF;subst h1047;injection hF with hF;subst hF;exact setOther_any h on
 rw [if_neg h1047] at hF
 by_cases h1000:m=1000
 · rw [if_pos h1000] at hF;subst h1000;injection hF with hF;subst hF;exact setButtons_any h on
 rw [if_neg h1000] at hF
 by_cases h1002:m=1002
 · rw [if_pos h1002] at hF;subst h1002;injection hF with hF;subst hF;exact setMotion_any h on
 rw [if_neg h1002] at hF
 by_cases h1003:m=1003
 · rw [if_pos h1003] at hF;subst h1003;injection hF with hF;subst hF;exact setMotion_any h on
 rw [if_neg h1003] at hF
 by_cases h1049:m=1049
 · rw [if_pos h1049] at hF;subst h1049;injection hF with hF;subst hF;exact setSavedOther_any h on
 rw [if_neg h1049] at hF
 cases hF
theorem prm_no {m:Int} (t:Tm) (on:Bool) (hF:prmF m=none):t.mode m on=t:=by
 unfold prmF at hF
 unfold Tm.mode
 by_cases h6:m=6
 · rw [if_pos h6] at hF;cases hF
 rw [if_neg h6] at hF
 by_cases h7:m=7
 · rw [if_pos h7] at hF;cases hF
 rw [if_neg h7] at hF
 by_cases h25:m=25
 · rw [if_pos h25] at hF;cases hF
 rw [if_neg h25] at hF
 by_cases h47:m=47
 · rw [if_pos h47] at hF;cases hF
 rw [if_neg h47] at hF
 by_cases h1047:m=1047
 · rw [if_pos h1047] at hF;cases hF
 rw [if_neg h1047] at hF
 by_cases h1000:m=1000
 · rw [if_pos h1000] at hF;cases hF
 rw [if_neg h1000] at hF
 by_cases h1002:m=1002
 · rw [if_pos h1002] at hF;cases hF
 rw [if_neg h1002] at hF
 by_cases h1003:m=1003
 · rw [if_pos h1003] at hF;cases hF
 rw [if_neg h1003] at hF
 by_cases h1049:m=1049
 · rw [if_pos h1049] at hF;cases hF
 rw [if_neg h1049] at hF
 rw [if_neg h6,if_neg h7,if_neg h25,if_neg h1000,if_neg (by omega),if_neg (by omega),if_neg h1049]
def plS (t:Tm) (m:Int) (on:Bool):Tm:=if m=4 then { t with ins:=on } else t
theorem plm_do (h:Cz B w g x) (on:Bool) {m:Int} {F:Nat} (hF:plmF m=some F):Calls Tryz.prog F #[.pointer (some ⟨g,0,none⟩),.bool on] w (CzP B g x (plS x.t m on) w):=by
 unfold plmF at hF
 unfold plS
 by_cases h4:m=4
 · rw [if_pos h4] at hF ⊢;injection hF with hF;subst hF;exact setInserts_any h on
 · rw [if_neg h4] at hF;cases hF
theorem plm_no {m:Int} (t:Tm) (on:Bool) (hF:plmF m=none):plS t m on=t:=by
 unfold plmF at hF
 unfold plS
 by_cases h4:m=4
 · rw [if_pos h4] at hF;cases hF
 · rw [if_neg h4]
theorem pl_all (on:Bool):∀ (l:List Int) (t:Tm),l.foldl (fun t n=>plS t n on) t=if 4∈l then { t with ins:=on } else t
 | [],_=>rfl
 | m :: l,t=>by
  show l.foldl (fun t n=>plS t n on) (plS t m on)=_
  rw [pl_all on l]
  unfold plS
  by_cases h4:m=4
  · subst h4
    simp
  · have:(4∈m :: l)↔4∈l:=by simp [Ne.symm h4]
    rw [if_neg h4]
    simp only [this]
set_option maxRecDepth 100000 in
set_option maxHeartbeats 1600000 in
theorem switchP_any (hT:Tabs w) (h:Cz B w g x) (hN:Nm w (CB g x) A n c ps) (on:Bool):Calls Tryz.prog 227 #[.pointer (some ⟨g,0,none⟩),.func (.func 231) #[] #[],.bool on,.slice A n c] w (CzP B g x (ps.foldl (fun t m=>Tm.mode t m on) x.t) w):=by
 have HT:=Lib.hid hT
 have HZ:=Lib.hid h
 have HM:=Lib.hid hN
 have hz:=fn_nil Tryz.underlying237
 have hs:=fn_some Tryz.underlying237
 have hnn:=hN.few
 clear h hT hN
 go_enter Tryz.func227,Tryz.ntmps227
 go_wp2_with fail
 go_loopw [13] (fun i wr=>∃ (k:Nat) (y:CT),k≤n∧i=.int .i64 k∧CzTo B g x ((ps.take k).foldl (fun t m=>Tm.mode t m on) x.t) w wr y) (fun i _=>n-(intOf i).toNat)
 case atStart=>exact ⟨0,x,Nat.zero_le _,rfl,by rw [List.take_zero];exact CzTo.refl HZ.out⟩
 case round =>
  obtain ⟨k,y,hk,rfl,hy⟩:=hrel
  have Y:=Lib.hid hy
  have HM1:=Lib.hid (HM.out.on hy)
  clear hy
  by_cases hlt:k<n
  · have hkl:k<ps.length:=by rw [HM.out.len];exact hlt
    obtain ⟨ad,hA⟩:∃ ad,A=some ad:=by obtain ⟨ad,e,_⟩:=HM.out.rd.at_ (by omega);exact ⟨ad,e⟩
    subst hA
    have hcell:=HM1.out.rd.cell hlt
    have eS:=List.take_succ_eq_append_getElem hkl
    have eG:=getD_lt (zs:=ps) hkl
    obtain ⟨m,hm⟩:∃ m,m=ps.getD k 0:=⟨_,rfl⟩
    rw [← hm] at hcell eG
    have HS:=Lib.hid (show (ps.take (k+1)).foldl (fun t m=>Tm.mode t m on) x.t=Tm.mode ((ps.take k).foldl (fun t m=>Tm.mode t m on) x.t) m on from by rw [eS,List.foldl_append,← eG];rfl)
    clear eS eG hm hkl
    have k1:(k:Int)<(n:Int):=by omega
    cases hF:prmF m with
    | none =>
     have HF:=Lib.hid hF
     have HC:=Lib.hid (show Calls Tryz.prog 231 #[.int .i64 m] wr (fun e w'=>e=.returned (.nilFunc)∧w'=wr) from by have h1:=privateMode_any m wr;rw [hF] at h1;exact h1)
     clear hF
     go_wp2_with fail
     refine HC.out.mono ?_
     rintro e w1 ⟨rfl,hw1⟩
     obtain rfl:=hw1.symm
     clear hw1
     go_wp2_with fail
     go_roundw
     case rel=>exact ⟨k+1,y,by omega,by go_num,Y.out.as (by rw [HS.out,prm_no _ on HF.out])⟩
     case measure=>simp [intOf];omega
    | some F =>
     have hcf:∀ (args:Array Value) (w:World),(callFunc F args).run Tryz.prog w=.ok (.enter F args) w:=prm_in hF
     have HF:=Lib.hid hF
     have HC:=Lib.hid (show Calls Tryz.prog 231 #[.int .i64 m] wr (fun e w'=>e=.returned (.func (.func F) #[] #[])∧w'=wr) from by have h1:=privateMode_any m wr;rw [hF] at h1;exact h1)
     clear hF
     go_wp2_with fail
     refine HC.out.mono ?_
     rintro e w1 ⟨rfl,hw1⟩
     obtain rfl:=hw1.symm
     clear hw1
     go_wp2_with fail
     refine (prm_do Y.out.cz on HF.out).mono ?_
     rintro e w3 ⟨rfl,z,hz⟩
     have Z:=Lib.hid hz
     clear hz
     go_wp2_with fail
     go_roundw
     case rel=>exact ⟨k+1,z,by omega,by go_num,(Y.out.trans Z.out).as (by rw [HS.out,Y.out.t])⟩
     case measure=>simp [intOf];omega
  · obtain rfl:k=n:=by omega
    have hall:ps.take k=ps:=List.take_of_length_le (by rw [HM.out.len];exact Nat.le_refl _)
    rw [hall] at Y
    clear hall
    go_wp2_with fail
    go_end0
    exact ⟨rfl,y,Y.out⟩
set_option maxRecDepth 100000 in
set_option maxHeartbeats 1600000 in
theorem switchL_any (hT:Tabs w) (h:Cz B w g x) (hN:Nm w (CB g x) A n c ps) (on:Bool):Calls Tryz.prog 227 #[.pointer (some ⟨g,0,none⟩),.func (.func 228) #[] #[],.bool on,.slice A n c] w (CzP B g x (ps.foldl (fun t m=>plS t m on) x.t) w):=by
 have HT:=Lib.hid hT
 have HZ:=Lib.hid h
 have HM:=Lib.hid hN
 have hz:=fn_nil Tryz.underlying237
 have hs:=fn_some Tryz.underlying237
 have hnn:=hN.few
 clear h hT hN
 go_enter Tryz.func227,Tryz.ntmps227
 go_wp2_with fail
 go_loopw [13] (fun i wr=>∃ (k:Nat) (y:CT),k≤n∧i=.int .i64 k∧CzTo B g x ((ps.take k).foldl (fun t m=>plS t m on) x.t) w wr y) (fun i _=>n-(intOf i).toNat)
 case atStart=>exact ⟨0,x,Nat.zero_le _,rfl,by rw [List.take_zero];exact CzTo.refl HZ.out⟩
 case round =>
  obtain ⟨k,y,hk,rfl,hy⟩:=hrel
  have Y:=Lib.hid hy
  have HM1:=Lib.hid (HM.out.on hy)
  clear hy
  by_cases hlt:k<n
  · have hkl:k<ps.length:=by rw [HM.out.len];exact hlt
    obtain ⟨ad,hA⟩:∃ ad,A=some ad:=by obtain ⟨ad,e,_⟩:=HM.out.rd.at_ (by omega);exact ⟨ad,e⟩
    subst hA
    have hcell:=HM1.out.rd.cell hlt
    have eS:=List.take_succ_eq_append_getElem hkl
    have eG:=getD_lt (zs:=ps) hkl
    obtain ⟨m,hm⟩:∃ m,m=ps.getD k 0:=⟨_,rfl⟩
    rw [← hm] at hcell eG
    have HS:=Lib.hid (show (ps.take (k+1)).foldl (fun t m=>plS t m on) x.t=plS ((ps.take k).foldl (fun t m=>plS t m on) x.t) m on from by rw [eS,List.foldl_append,← eG];rfl)
    clear eS eG hm hkl
    have k1:(k:Int)<(n:Int):=by omega
    cases hF:plmF m with
    | none =>
     have HF:=Lib.hid hF
     have HC:=Lib.hid (show Calls Tryz.prog 228 #[.int .i64 m] wr (fun e w'=>e=.returned (.nilFunc)∧w'=wr) from by have h1:=plainMode_any m wr;rw [hF] at h1;exact h1)
     clear hF
     go_wp2_with fail
     refine HC.out.mono ?_
     rintro e w1 ⟨rfl,hw1⟩
     obtain rfl:=hw1.symm
     clear hw1
     go_wp2_with fail
     go_roundw
     case rel=>exact ⟨k+1,y,by omega,by go_num,Y.out.as (by rw [HS.out,plm_no _ on HF.out])⟩
     case measure=>simp [intOf];omega
    | some F =>
     have hcf:∀ (args:Array Value) (w:World),(callFunc F args).run Tryz.prog w=.ok (.enter F args) w:=plm_in hF
     have HF:=Lib.hid hF
     have HC:=Lib.hid (show Calls Tryz.prog 228 #[.int .i64 m] wr (fun e w'=>e=.returned (.func (.func F) #[] #[])∧w'=wr) from by have h1:=plainMode_any m wr;rw [hF] at h1;exact h1)
     clear hF
     go_wp2_with fail
     refine HC.out.mono ?_
     rintro e w1 ⟨rfl,hw1⟩
     obtain rfl:=hw1.symm
     clear hw1
     go_wp2_with fail
     refine (plm_do Y.out.cz on HF.out).mono ?_
     rintro e w3 ⟨rfl,z,hz⟩
     have Z:=Lib.hid hz
     clear hz
     go_wp2_with fail
     go_roundw
     case rel=>exact ⟨k+1,z,by omega,by go_num,(Y.out.trans Z.out).as (by rw [HS.out,Y.out.t])⟩
     case measure=>simp [intOf];omega
  · obtain rfl:k=n:=by omega
    have hall:ps.take k=ps:=List.take_of_length_le (by rw [HM.out.len];exact Nat.le_refl _)
    rw [hall] at Y
    clear hall
    go_wp2_with fail
    go_end0
    exact ⟨rfl,y,Y.out⟩
set_option maxRecDepth 100000 in
set_option maxHeartbeats 1600000 in
theorem setPrivate_any (hT:Tabs w) (h:Cz B w g x) (hN:Nm w (CB g x) A n c ps):Calls Tryz.prog 185 #[.pointer (some ⟨g,0,none⟩),.slice A n c] w (CzP B g x (Dd.setPrivate.run ps x.t) w):=by
 have HS:=Lib.hid (switchP_any hT h hN true)
 clear h hT hN
 go_enter Tryz.func185,Tryz.ntmps185
 go_wp2_with fail
 refine HS.out.mono ?_
 rintro e w1 ⟨rfl,y,hy⟩
 have Y:=Lib.hid hy
 clear hy
 go_wp2_with fail
 go_end0
 exact ⟨rfl,y,Y.out⟩
set_option maxRecDepth 100000 in
set_option maxHeartbeats 1600000 in
theorem unsetPrivate_any (hT:Tabs w) (h:Cz B w g x) (hN:Nm w (CB g x) A n c ps):Calls Tryz.prog 186 #[.pointer (some ⟨g,0,none⟩),.slice A n c] w (CzP B g x (Dd.unsetPrivate.run ps x.t) w):=by
 have HS:=Lib.hid (switchP_any hT h hN false)
 clear h hT hN
 go_enter Tryz.func186,Tryz.ntmps186
 go_wp2_with fail
 refine HS.out.mono ?_
 rintro e w1 ⟨rfl,y,hy⟩
 have Y:=Lib.hid hy
 clear hy
 go_wp2_with fail
 go_end0
 exact ⟨rfl,y,Y.out⟩
set_option maxRecDepth 100000 in
set_option maxHeartbeats 1600000 in
theorem setPlain_any (hT:Tabs w) (h:Cz B w g x) (hN:Nm w (CB g x) A n c ps):Calls Tryz.prog 182 #[.pointer (some ⟨g,0,none⟩),.slice A n c] w (CzP B g x (Dd.setPlain.run ps x.t) w):=by
 have HS:=Lib.hid (switchL_any hT h hN true)
 rw [pl_all] at HS
 show Calls _ _ _ _ (CzP B g x (if 4∈ps then { x.t with ins:=true } else x.t) w)
 generalize (if 4∈ps then ({ x.t with ins:=true }:Tm) else x.t)=T' at HS ⊢
 clear h hT hN
 go_enter Tryz.func182,Tryz.ntmps182
 go_wp2_with fail
 refine HS.out.mono ?_
 rintro e w1 ⟨rfl,y,hy⟩
 have Y:=Lib.hid hy
 clear hy
 go_wp2_with fail
 go_end0
 exact ⟨rfl,y,Y.out⟩
set_option maxRecDepth 100000 in
set_option maxHeartbeats 1600000 in
theorem unsetPlain_any (hT:Tabs w) (h:Cz B w g x) (hN:Nm w (CB g x) A n c ps):Calls Tryz.prog 183 #[.pointer (some ⟨g,0,none⟩),.slice A n c] w (CzP B g x (Dd.unsetPlain.run ps x.t) w):=by
 have HS:=Lib.hid (switchL_any hT h hN false)
 rw [pl_all] at HS
 show Calls _ _ _ _ (CzP B g x (if 4∈ps then { x.t with ins:=false } else x.t) w)
 generalize (if 4∈ps then ({ x.t with ins:=false }:Tm) else x.t)=T' at HS ⊢
 clear h hT hN
 go_enter Tryz.func183,Tryz.ntmps183
 go_wp2_with fail
 refine HS.out.mono ?_
 rintro e w1 ⟨rfl,y,hy⟩
 have Y:=Lib.hid hy
 clear hy
 go_wp2_with fail
 go_end0
 exact ⟨rfl,y,Y.out⟩
end
end Go.Proofs.YtlcipgdnpilkfaaGreatDoor
