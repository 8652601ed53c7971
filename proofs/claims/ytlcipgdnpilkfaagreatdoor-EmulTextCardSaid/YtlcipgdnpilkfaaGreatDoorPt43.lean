/-
  Part 43 of what the laws of emul want: EmulSeq.
-/
import Derived.Test.YtlcipgdnpilkfaaGreatDoorPt22
import Derived.Test.YtlcipgdnpilkfaaGreatDoorPt33
namespace Go.Proofs.YtlcipgdnpilkfaaGreatDoor
open Go.RowKit
def fnV (o:Option Nat):Value:=match o with | none=>.nilFunc | some F=>.func (.func F) #[] #[]
section
variable {t:TypeId} {a b:Array TypeId} {c:Bool}
theorem fn_in0 (h:Tryz.prog.underlying t=some (.func a b c)) (d:Nat) (w:World):(Op.equalIn (d+1) t .nilFunc .nilFunc).run Tryz.prog w=.ok true w:=by simp [Op.equalIn,run_underlying h]
theorem fn_in1 (h:Tryz.prog.underlying t=some (.func a b c)) (d F:Nat) (w:World):(Op.equalIn (d+1) t (.func (.func F) #[] #[]) .nilFunc).run Tryz.prog w=.ok false w:=by simp [Op.equalIn,run_underlying h]
theorem fn_nil (h:Tryz.prog.underlying t=some (.func a b c)) (w:World):(binOp .neq t .nilFunc .nilFunc).run Tryz.prog w=.ok (.bool false) w:=by
 simp only [binOp]
 simp [Op.equal,Op.maxDepth,fn_in0 h 9999 w]
theorem fn_some (h:Tryz.prog.underlying t=some (.func a b c)) (F:Nat) (w:World):(binOp .neq t (.func (.func F) #[] #[]) .nilFunc).run Tryz.prog w=.ok (.bool true) w:=by
 simp only [binOp]
 simp [Op.equal,Op.maxDepth,fn_in1 h 9999 F w]
end
def Dd.fn:Dd→Nat
 | .left=>104
 | .tabAhead=>105
 | .lineDown=>106
 | .lineStart=>107
 | .save=>108
 | .restore=>109
 | .nextLine=>100
 | .lineUp=>110
 | .setTab=>111
 | .reset=>112
 | .up=>162
 | .down=>163
 | .right=>160
 | .startsDown=>164
 | .startsUp=>165
 | .toColumn=>166
 | .toRow=>167
 | .toPlace=>168
 | .tabBack=>169
 | .takeTabs=>170
 | .setMargins=>171
 | .insert=>172
 | .takeOut=>173
 | .eraseSome=>174
 | .eraseScreen=>175
 | .eraseRow=>176
 | .insertRows=>177
 | .takeOutRows=>178
 | .scrollUp=>179
 | .scrollDown=>180
 | .again=>181
 | .setPlain=>182
 | .unsetPlain=>183
 | .look=>184
 | .setPrivate=>185
 | .unsetPrivate=>186
 | .softReset=>116
def ddV (o:Option Dd):Value:=fnV (o.map Dd.fn)
def prmF (n:Int):Option Nat :=
 if n=6 then some 257 else if n=7 then some 258 else if n=25 then some 259 else if n=47 then some 260 else if n=1047 then some 260 else if n=1000 then some 261 else if n=1002 then some 262 else if n=1003 then some 262 else if n=1049 then some 263 else none
def plmF (n:Int):Option Nat :=
 if n=4 then some 253 else none
set_option maxRecDepth 100000 in
theorem privateMode_any (f:Int) (w:World):Calls Tryz.prog 231 #[.int .i64 f] w fun e w'=>e=.returned (fnV (prmF f))∧w'=w:=by
 by_cases h6:f=6
 · subst h6
   go_enter Tryz.func231,Tryz.ntmps231
   go_wp2_with fail
   go_ret
   exact ⟨rfl,rfl⟩
 by_cases h7:f=7
 · subst h7
   go_enter Tryz.func231,Tryz.ntmps231
   go_wp2_with fail
   go_ret
   exact ⟨rfl,rfl⟩
 by_cases h25:f=25
 · subst h25
   go_enter Tryz.func231,Tryz.ntmps231
   go_wp2_with fail
   go_ret
   exact ⟨rfl,rfl⟩
 by_cases h47:f=47
 · subst h47
   go_enter Tryz.func231,Tryz.ntmps231
   go_wp2_with fail
   go_ret
   exact ⟨rfl,rfl⟩
 by_cases h1047:f=1047
 · subst h1047
   go_enter Tryz.func231,Tryz.ntmps231
   go_wp2_with fail
   go_ret
   exact ⟨rfl,rfl⟩
 by_cases h1000:f=1000
 · subst h1000
   go_enter Tryz.func231,Tryz.ntmps231
   go_wp2_with fail
   go_ret
   exact ⟨rfl,rfl⟩
 by_cases h1002:f=1002
 · subst h1002
   go_enter Tryz.func231,Tryz.ntmps231
   go_wp2_with fail
   go_ret
   exact ⟨rfl,rfl⟩
 by_cases h1003:f=1003
 · subst h1003
   go_enter Tryz.func231,Tryz.ntmps231
   go_wp2_with fail
   go_ret
   exact ⟨rfl,rfl⟩
 by_cases h1049:f=1049
 · subst h1049
   go_enter Tryz.func231,Tryz.ntmps231
   go_wp2_with fail
   go_ret
   exact ⟨rfl,rfl⟩
 have e:prmF f=none:=by
  unfold prmF
  rw [if_neg h6,if_neg h7,if_neg h25,if_neg h47,if_neg h1047,if_neg h1000,if_neg h1002,if_neg h1003,if_neg h1049]
 rw [e]
 clear e
 go_enter Tryz.func231,Tryz.ntmps231
 go_wp2_with fail
 go_ret
 exact ⟨rfl,rfl⟩
set_option maxRecDepth 100000 in
theorem plainMode_any (f:Int) (w:World):Calls Tryz.prog 228 #[.int .i64 f] w fun e w'=>e=.returned (fnV (plmF f))∧w'=w:=by
 by_cases h4:f=4
 · subst h4
   go_enter Tryz.func228,Tryz.ntmps228
   go_wp2_with fail
   go_ret
   exact ⟨rfl,rfl⟩
 have e:plmF f=none:=by
  unfold plmF
  rw [if_neg h4]
 rw [e]
 clear e
 go_enter Tryz.func228,Tryz.ntmps228
 go_wp2_with fail
 go_ret
 exact ⟨rfl,rfl⟩
set_option maxRecDepth 100000 in
theorem controlByte_any (f:Int) (w:World):Calls Tryz.prog 52 #[.int .u8 f] w fun e w'=>e=.returned (ddV (c0D f))∧w'=w:=by
 by_cases h8:f=8
 · subst h8
   go_enter Tryz.func52,Tryz.ntmps52
   go_wp2_with fail
   go_ret
   exact ⟨rfl,rfl⟩
 by_cases h9:f=9
 · subst h9
   go_enter Tryz.func52,Tryz.ntmps52
   go_wp2_with fail
   go_ret
   exact ⟨rfl,rfl⟩
 by_cases h10:f=10
 · subst h10
   go_enter Tryz.func52,Tryz.ntmps52
   go_wp2_with fail
   go_ret
   exact ⟨rfl,rfl⟩
 by_cases h11:f=11
 · subst h11
   go_enter Tryz.func52,Tryz.ntmps52
   go_wp2_with fail
   go_ret
   exact ⟨rfl,rfl⟩
 by_cases h12:f=12
 · subst h12
   go_enter Tryz.func52,Tryz.ntmps52
   go_wp2_with fail
   go_ret
   exact ⟨rfl,rfl⟩
 by_cases h13:f=13
 · subst h13
   go_enter Tryz.func52,Tryz.ntmps52
   go_wp2_with fail
   go_ret
   exact ⟨rfl,rfl⟩
 have e:c0D f=none:=by
  unfold c0D
  rw [if_neg h8,if_neg h9,if_neg h10,if_neg h11,if_neg h12,if_neg h13]
 rw [e]
 clear e
 go_enter Tryz.func52,Tryz.ntmps52
 go_wp2_with fail
 go_ret
 exact ⟨rfl,rfl⟩
set_option maxRecDepth 100000 in
theorem moving_any (f:Int) (w:World):Calls Tryz.prog 113 #[.int .u8 f] w fun e w'=>e=.returned (ddV (movD f))∧w'=w:=by
 by_cases h65:f=65
 · subst h65
   go_enter Tryz.func113,Tryz.ntmps113
   go_wp2_with fail
   go_ret
   exact ⟨rfl,rfl⟩
 by_cases h66:f=66
 · subst h66
   go_enter Tryz.func113,Tryz.ntmps113
   go_wp2_with fail
   go_ret
   exact ⟨rfl,rfl⟩
 by_cases h101:f=101
 · subst h101
   go_enter Tryz.func113,Tryz.ntmps113
   go_wp2_with fail
   go_ret
   exact ⟨rfl,rfl⟩
 by_cases h67:f=67
 · subst h67
   go_enter Tryz.func113,Tryz.ntmps113
   go_wp2_with fail
   go_ret
   exact ⟨rfl,rfl⟩
 by_cases h97:f=97
 · subst h97
   go_enter Tryz.func113,Tryz.ntmps113
   go_wp2_with fail
   go_ret
   exact ⟨rfl,rfl⟩
 by_cases h68:f=68
 · subst h68
   go_enter Tryz.func113,Tryz.ntmps113
   go_wp2_with fail
   go_ret
   exact ⟨rfl,rfl⟩
 by_cases h69:f=69
 · subst h69
   go_enter Tryz.func113,Tryz.ntmps113
   go_wp2_with fail
   go_ret
   exact ⟨rfl,rfl⟩
 by_cases h70:f=70
 · subst h70
   go_enter Tryz.func113,Tryz.ntmps113
   go_wp2_with fail
   go_ret
   exact ⟨rfl,rfl⟩
 by_cases h71:f=71
 · subst h71
   go_enter Tryz.func113,Tryz.ntmps113
   go_wp2_with fail
   go_ret
   exact ⟨rfl,rfl⟩
 by_cases h96:f=96
 · subst h96
   go_enter Tryz.func113,Tryz.ntmps113
   go_wp2_with fail
   go_ret
   exact ⟨rfl,rfl⟩
 by_cases h100:f=100
 · subst h100
   go_enter Tryz.func113,Tryz.ntmps113
   go_wp2_with fail
   go_ret
   exact ⟨rfl,rfl⟩
 by_cases h72:f=72
 · subst h72
   go_enter Tryz.func113,Tryz.ntmps113
   go_wp2_with fail
   go_ret
   exact ⟨rfl,rfl⟩
 by_cases h102:f=102
 · subst h102
   go_enter Tryz.func113,Tryz.ntmps113
   go_wp2_with fail
   go_ret
   exact ⟨rfl,rfl⟩
 by_cases h73:f=73
 · subst h73
   go_enter Tryz.func113,Tryz.ntmps113
   go_wp2_with fail
   go_ret
   exact ⟨rfl,rfl⟩
 by_cases h90:f=90
 · subst h90
   go_enter Tryz.func113,Tryz.ntmps113
   go_wp2_with fail
   go_ret
   exact ⟨rfl,rfl⟩
 by_cases h103:f=103
 · subst h103
   go_enter Tryz.func113,Tryz.ntmps113
   go_wp2_with fail
   go_ret
   exact ⟨rfl,rfl⟩
 by_cases h114:f=114
 · subst h114
   go_enter Tryz.func113,Tryz.ntmps113
   go_wp2_with fail
   go_ret
   exact ⟨rfl,rfl⟩
 by_cases h115:f=115
 · subst h115
   go_enter Tryz.func113,Tryz.ntmps113
   go_wp2_with fail
   go_ret
   exact ⟨rfl,rfl⟩
 by_cases h117:f=117
 · subst h117
   go_enter Tryz.func113,Tryz.ntmps113
   go_wp2_with fail
   go_ret
   exact ⟨rfl,rfl⟩
 have e:movD f=none:=by
  unfold movD
  rw [if_neg h65,if_neg h66,if_neg h101,if_neg h67,if_neg h97,if_neg h68,if_neg h69,if_neg h70,if_neg h71,if_neg h96,if_neg h100,if_neg h72,if_neg h102,if_neg h73,if_neg h90,if_neg h103,if_neg h114,if_neg h115,if_neg h117]
 rw [e]
 clear e
 go_enter Tryz.func113,Tryz.ntmps113
 go_wp2_with fail
 go_ret
 exact ⟨rfl,rfl⟩
set_option maxRecDepth 100000 in
theorem writing_any (f:Int) (w:World):Calls Tryz.prog 114 #[.int .u8 f] w fun e w'=>e=.returned (ddV (wrtD f))∧w'=w:=by
 by_cases h64:f=64
 · subst h64
   go_enter Tryz.func114,Tryz.ntmps114
   go_wp2_with fail
   go_ret
   exact ⟨rfl,rfl⟩
 by_cases h80:f=80
 · subst h80
   go_enter Tryz.func114,Tryz.ntmps114
   go_wp2_with fail
   go_ret
   exact ⟨rfl,rfl⟩
 by_cases h88:f=88
 · subst h88
   go_enter Tryz.func114,Tryz.ntmps114
   go_wp2_with fail
   go_ret
   exact ⟨rfl,rfl⟩
 by_cases h74:f=74
 · subst h74
   go_enter Tryz.func114,Tryz.ntmps114
   go_wp2_with fail
   go_ret
   exact ⟨rfl,rfl⟩
 by_cases h75:f=75
 · subst h75
   go_enter Tryz.func114,Tryz.ntmps114
   go_wp2_with fail
   go_ret
   exact ⟨rfl,rfl⟩
 by_cases h76:f=76
 · subst h76
   go_enter Tryz.func114,Tryz.ntmps114
   go_wp2_with fail
   go_ret
   exact ⟨rfl,rfl⟩
 by_cases h77:f=77
 · subst h77
   go_enter Tryz.func114,Tryz.ntmps114
   go_wp2_with fail
   go_ret
   exact ⟨rfl,rfl⟩
 by_cases h83:f=83
 · subst h83
   go_enter Tryz.func114,Tryz.ntmps114
   go_wp2_with fail
   go_ret
   exact ⟨rfl,rfl⟩
 by_cases h84:f=84
 · subst h84
   go_enter Tryz.func114,Tryz.ntmps114
   go_wp2_with fail
   go_ret
   exact ⟨rfl,rfl⟩
 by_cases h98:f=98
 · subst h98
   go_enter Tryz.func114,Tryz.ntmps114
   go_wp2_with fail
   go_ret
   exact ⟨rfl,rfl⟩
 by_cases h104:f=104
 · subst h104
   go_enter Tryz.func114,Tryz.ntmps114
   go_wp2_with fail
   go_ret
   exact ⟨rfl,rfl⟩
 by_cases h108:f=108
 · subst h108
   go_enter Tryz.func114,Tryz.ntmps114
   go_wp2_with fail
   go_ret
   exact ⟨rfl,rfl⟩
 by_cases h109:f=109
 · subst h109
   go_enter Tryz.func114,Tryz.ntmps114
   go_wp2_with fail
   go_ret
   exact ⟨rfl,rfl⟩
 have e:wrtD f=none:=by
  unfold wrtD
  rw [if_neg h64,if_neg h80,if_neg h88,if_neg h74,if_neg h75,if_neg h76,if_neg h77,if_neg h83,if_neg h84,if_neg h98,if_neg h104,if_neg h108,if_neg h109]
 rw [e]
 clear e
 go_enter Tryz.func114,Tryz.ntmps114
 go_wp2_with fail
 go_ret
 exact ⟨rfl,rfl⟩
set_option maxRecDepth 100000 in
theorem private_any (f:Int) (w:World):Calls Tryz.prog 115 #[.int .u8 f] w fun e w'=>e=.returned (ddV (prvD f))∧w'=w:=by
 by_cases h104:f=104
 · subst h104
   go_enter Tryz.func115,Tryz.ntmps115
   go_wp2_with fail
   go_ret
   exact ⟨rfl,rfl⟩
 by_cases h108:f=108
 · subst h108
   go_enter Tryz.func115,Tryz.ntmps115
   go_wp2_with fail
   go_ret
   exact ⟨rfl,rfl⟩
 have e:prvD f=none:=by
  unfold prvD
  rw [if_neg h104,if_neg h108]
 rw [e]
 clear e
 go_enter Tryz.func115,Tryz.ntmps115
 go_wp2_with fail
 go_ret
 exact ⟨rfl,rfl⟩
set_option maxRecDepth 100000 in
theorem escape_any (m f:Int) (w:World):Calls Tryz.prog 53 #[.int .u8 m,.int .u8 f] w fun e w'=>e=.returned (ddV (if m=0 then escD f else none))∧w'=w:=by
 by_cases hm:m=0
 · rw [if_pos hm]
   subst hm
   by_cases h55:f=55
   · subst h55
     go_enter Tryz.func53,Tryz.ntmps53
     go_wp2_with fail
     go_ret
     exact ⟨rfl,rfl⟩
   by_cases h56:f=56
   · subst h56
     go_enter Tryz.func53,Tryz.ntmps53
     go_wp2_with fail
     go_ret
     exact ⟨rfl,rfl⟩
   by_cases h68:f=68
   · subst h68
     go_enter Tryz.func53,Tryz.ntmps53
     go_wp2_with fail
     go_ret
     exact ⟨rfl,rfl⟩
   by_cases h69:f=69
   · subst h69
     go_enter Tryz.func53,Tryz.ntmps53
     go_wp2_with fail
     go_ret
     exact ⟨rfl,rfl⟩
   by_cases h77:f=77
   · subst h77
     go_enter Tryz.func53,Tryz.ntmps53
     go_wp2_with fail
     go_ret
     exact ⟨rfl,rfl⟩
   by_cases h72:f=72
   · subst h72
     go_enter Tryz.func53,Tryz.ntmps53
     go_wp2_with fail
     go_ret
     exact ⟨rfl,rfl⟩
   by_cases h99:f=99
   · subst h99
     go_enter Tryz.func53,Tryz.ntmps53
     go_wp2_with fail
     go_ret
     exact ⟨rfl,rfl⟩
   have e:escD f=none:=by
    unfold escD
    rw [if_neg h55,if_neg h56,if_neg h68,if_neg h69,if_neg h77,if_neg h72,if_neg h99]
   rw [e]
   clear e
   go_enter Tryz.func53,Tryz.ntmps53
   go_wp2_with fail
   go_ret
   exact ⟨rfl,rfl⟩
 · rw [if_neg hm]
   have hb:(m != 0)=true:=bne_iff_ne.2 hm
   go_enter Tryz.func53,Tryz.ntmps53
   go_wp2_with fail
   go_ret
   exact ⟨rfl,rfl⟩
set_option maxRecDepth 100000 in
theorem sequence_any (m f:Int) (w:World):Calls Tryz.prog 54 #[.int .u8 m,.int .u8 f] w fun e w'=>e=.returned (ddV (seqD m f))∧w'=w:=by
 have hz:=fn_nil Tryz.underlying108
 have hs:=fn_some Tryz.underlying108
 have HM:=Lib.hid (moving_any f w)
 have HW:=Lib.hid (writing_any f w)
 have HP:=Lib.hid (private_any f w)
 by_cases hm:m=0
 · subst hm
   have e:seqD 0 f=(movD f).or (wrtD f):=rfl
   rw [e]
   clear e
   cases hd:movD f with
   | none =>
    rw [hd] at HM
    have HM:=Lib.hid (show Calls Tryz.prog 113 #[.int .u8 f] w (fun e w'=>e=.returned (.nilFunc)∧w'=w) from HM.out)
    go_enter Tryz.func54,Tryz.ntmps54
    go_wp2_with fail
    refine HM.out.mono ?_
    rintro e w1 ⟨rfl,hw1⟩
    obtain rfl:=hw1.symm
    clear hw1
    go_wp2_with fail
    refine HW.out.mono ?_
    rintro e w1 ⟨rfl,hw1⟩
    obtain rfl:=hw1.symm
    clear hw1
    go_wp2_with fail
    go_ret
    exact ⟨rfl,rfl⟩
   | some d =>
    rw [hd] at HM
    have HM:=Lib.hid (show Calls Tryz.prog 113 #[.int .u8 f] w (fun e w'=>e=.returned (.func (.func d.fn) #[] #[])∧w'=w) from HM.out)
    go_enter Tryz.func54,Tryz.ntmps54
    go_wp2_with fail
    refine HM.out.mono ?_
    rintro e w1 ⟨rfl,hw1⟩
    obtain rfl:=hw1.symm
    clear hw1
    go_wp2_with fail
    go_ret
    exact ⟨rfl,rfl⟩
 by_cases h63:m=63
 · subst h63
   have e:seqD 63 f=prvD f:=rfl
   rw [e]
   clear e
   go_enter Tryz.func54,Tryz.ntmps54
   go_wp2_with fail
   refine HP.out.mono ?_
   rintro e w1 ⟨rfl,hw1⟩
   obtain rfl:=hw1.symm
   clear hw1
   go_wp2_with fail
   go_ret
   exact ⟨rfl,rfl⟩
 by_cases h33:m=33
 · subst h33
   by_cases h112:f=112
   · subst h112
     go_enter Tryz.func54,Tryz.ntmps54
     go_wp2_with fail
     go_ret
     exact ⟨rfl,rfl⟩
   · have e:seqD 33 f=none:=by
      show (if f=112 then some Dd.softReset else none)=none
      rw [if_neg h112]
     rw [e]
     clear e
     go_enter Tryz.func54,Tryz.ntmps54
     go_wp2_with fail
     go_ret
     exact ⟨rfl,rfl⟩
 have e:seqD m f=none:=by
  unfold seqD
  rw [if_neg hm,if_neg h63,if_neg h33]
 rw [e]
 clear e
 go_enter Tryz.func54,Tryz.ntmps54
 go_wp2_with fail
 go_ret
 exact ⟨rfl,rfl⟩
end Go.Proofs.YtlcipgdnpilkfaaGreatDoor
