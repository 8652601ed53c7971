/-
  Part 3 of what the laws of emul want: UtfRefWid.
-/
import Derived.BigQuiet
import Derived.Test.YtikhknnhmnopbaaGreatDoorPm02
namespace Go.Proofs.YtikhknnhmnopbaaGreatDoor
open Go.RowKit
theorem may_any (r:Int) (w:World):Calls Tryz.prog 63 #[.int .i32 r] w fun e w'=>e=.returned (.bool (mayS r))∧w=w':=by
 obtain ⟨B,hB⟩:∃ B,mayS r=B:=⟨_,rfl⟩
 rw [hB]
 have HB:=Lib.hid hB
 clear hB
 by_cases h1:0≤r
 · by_cases h2:r≤55295
   · have hb:B=true:=by rw [← HB.out,mayS_iff];omega
     subst hb
     go_enter Tryz.func63,Tryz.ntmps63
     go_wp2_with fail
     go_ret
     exact ⟨rfl,rfl⟩
   · by_cases h3:57344≤r
     · by_cases h4:r≤1114111
       · have hb:B=true:=by rw [← HB.out,mayS_iff];omega
         subst hb
         go_enter Tryz.func63,Tryz.ntmps63
         go_wp2_with fail
         go_ret
         exact ⟨rfl,rfl⟩
       · have hb:B=false:=by rw [← HB.out,mayS];simp;omega
         subst hb
         go_enter Tryz.func63,Tryz.ntmps63
         go_wp2_with fail
         go_ret
         exact ⟨rfl,rfl⟩
     · have hb:B=false:=by rw [← HB.out,mayS];simp;omega
       subst hb
       go_enter Tryz.func63,Tryz.ntmps63
       go_wp2_with fail
       go_ret
       exact ⟨rfl,rfl⟩
 · have h3:¬ 57344≤r:=by omega
   have hb:B=false:=by rw [← HB.out,mayS];simp;omega
   subst hb
   go_enter Tryz.func63,Tryz.ntmps63
   go_wp2_with fail
   go_ret
   exact ⟨rfl,rfl⟩
theorem in_at {r lo hi:Int} {B:Bool} (hB:decide (lo≤r∧r≤hi)=B) (w:World):Calls Tryz.prog 64 #[.int .i32 r,.int .i32 lo,.int .i32 hi] w fun e w'=>e=.returned (.bool B)∧w=w':=by
 have HB:=Lib.hid hB
 clear hB
 by_cases h1:lo≤r
 · by_cases h2:r≤hi
   · have hb:B=true:=by rw [← HB.out];simp;omega
     subst hb
     go_enter Tryz.func64,Tryz.ntmps64
     go_wp2_with fail
     go_ret
     exact ⟨rfl,rfl⟩
   · have hb:B=false:=by rw [← HB.out];simp;omega
     subst hb
     go_enter Tryz.func64,Tryz.ntmps64
     go_wp2_with fail
     go_ret
     exact ⟨rfl,rfl⟩
 · have hb:B=false:=by rw [← HB.out];simp;omega
   subst hb
   go_enter Tryz.func64,Tryz.ntmps64
   go_wp2_with fail
   go_ret
   exact ⟨rfl,rfl⟩
set_option maxHeartbeats 1600000 in
set_option maxRecDepth 100000 in
theorem refWid_no {r:Int} (w:World) (hm:mayS r=false):Calls Tryz.prog 40 #[.int .i32 r] w fun e w'=>e=.returned (.int .i64 0)∧w=w':=by
 have DM:=Lib.hid hm
 clear hm
 go_enter Tryz.func40,Tryz.ntmps40
 go_wp2_with fail
 refine (may_any r w).mono ?_
 rintro e w1 ⟨rfl,rfl⟩
 rw [DM.out]
 go_wp2_with fail
 go_ret
 exact ⟨rfl,rfl⟩
set_option maxHeartbeats 1600000 in
set_option maxRecDepth 100000 in
theorem refWid_at0 {r:Int} (w:World) (hm:mayS r=true) (d0:decide ((0:Int)≤r∧r≤31)=true):Calls Tryz.prog 40 #[.int .i32 r] w fun e w'=>e=.returned (.int .i64 0)∧w=w':=by
 have D0:=Lib.hid d0
 clear d0
 have DM:=Lib.hid hm
 clear hm
 go_enter Tryz.func40,Tryz.ntmps40
 go_wp2_with fail
 refine (may_any r w).mono ?_
 rintro e w1 ⟨rfl,rfl⟩
 rw [DM.out]
 go_wp2_with fail
 refine (in_at D0.out w).mono ?_
 rintro e w1 ⟨rfl,rfl⟩
 go_wp2_with fail
 go_ret
 exact ⟨rfl,rfl⟩
set_option maxHeartbeats 1600000 in
set_option maxRecDepth 100000 in
theorem refWid_at1 {r:Int} (w:World) (hm:mayS r=true) (d0:decide ((0:Int)≤r∧r≤31)=false) (d1:decide ((127:Int)≤r∧r≤159)=true):Calls Tryz.prog 40 #[.int .i32 r] w fun e w'=>e=.returned (.int .i64 0)∧w=w':=by
 have D0:=Lib.hid d0
 have D1:=Lib.hid d1
 clear d0 d1
 have DM:=Lib.hid hm
 clear hm
 go_enter Tryz.func40,Tryz.ntmps40
 go_wp2_with fail
 refine (may_any r w).mono ?_
 rintro e w1 ⟨rfl,rfl⟩
 rw [DM.out]
 go_wp2_with fail
 refine (in_at D0.out w).mono ?_
 rintro e w1 ⟨rfl,rfl⟩
 go_wp2_with fail
 refine (in_at D1.out w).mono ?_
 rintro e w1 ⟨rfl,rfl⟩
 go_wp2_with fail
 go_ret
 exact ⟨rfl,rfl⟩
set_option maxHeartbeats 1600000 in
set_option maxRecDepth 100000 in
theorem refWid_at2 {r:Int} (w:World) (hm:mayS r=true) (d0:decide ((0:Int)≤r∧r≤31)=false) (d1:decide ((127:Int)≤r∧r≤159)=false) (d2:decide ((768:Int)≤r∧r≤879)=true):Calls Tryz.prog 40 #[.int .i32 r] w fun e w'=>e=.returned (.int .i64 0)∧w=w':=by
 have D0:=Lib.hid d0
 have D1:=Lib.hid d1
 have D2:=Lib.hid d2
 clear d0 d1 d2
 have DM:=Lib.hid hm
 clear hm
 go_enter Tryz.func40,Tryz.ntmps40
 go_wp2_with fail
 refine (may_any r w).mono ?_
 rintro e w1 ⟨rfl,rfl⟩
 rw [DM.out]
 go_wp2_with fail
 refine (in_at D0.out w).mono ?_
 rintro e w1 ⟨rfl,rfl⟩
 go_wp2_with fail
 refine (in_at D1.out w).mono ?_
 rintro e w1 ⟨rfl,rfl⟩
 go_wp2_with fail
 refine (in_at D2.out w).mono ?_
 rintro e w1 ⟨rfl,rfl⟩
 go_wp2_with fail
 go_ret
 exact ⟨rfl,rfl⟩
set_option maxHeartbeats 1600000 in
set_option maxRecDepth 100000 in
theorem refWid_at3 {r:Int} (w:World) (hm:mayS r=true) (d0:decide ((0:Int)≤r∧r≤31)=false) (d1:decide ((127:Int)≤r∧r≤159)=false) (d2:decide ((768:Int)≤r∧r≤879)=false) (d3:decide ((8203:Int)≤r∧r≤8207)=true):Calls Tryz.prog 40 #[.int .i32 r] w fun e w'=>e=.returned (.int .i64 0)∧w=w':=by
 have D0:=Lib.hid d0
 have D1:=Lib.hid d1
 have D2:=Lib.hid d2
 have D3:=Lib.hid d3
 clear d0 d1 d2 d3
 have DM:=Lib.hid hm
 clear hm
 go_enter Tryz.func40,Tryz.ntmps40
 go_wp2_with fail
 refine (may_any r w).mono ?_
 rintro e w1 ⟨rfl,rfl⟩
 rw [DM.out]
 go_wp2_with fail
 refine (in_at D0.out w).mono ?_
 rintro e w1 ⟨rfl,rfl⟩
 go_wp2_with fail
 refine (in_at D1.out w).mono ?_
 rintro e w1 ⟨rfl,rfl⟩
 go_wp2_with fail
 refine (in_at D2.out w).mono ?_
 rintro e w1 ⟨rfl,rfl⟩
 go_wp2_with fail
 refine (in_at D3.out w).mono ?_
 rintro e w1 ⟨rfl,rfl⟩
 go_wp2_with fail
 go_ret
 exact ⟨rfl,rfl⟩
set_option maxHeartbeats 1600000 in
set_option maxRecDepth 100000 in
theorem refWid_at4 {r:Int} (w:World) (hm:mayS r=true) (d0:decide ((0:Int)≤r∧r≤31)=false) (d1:decide ((127:Int)≤r∧r≤159)=false) (d2:decide ((768:Int)≤r∧r≤879)=false) (d3:decide ((8203:Int)≤r∧r≤8207)=false) (d4:decide ((65024:Int)≤r∧r≤65039)=true):Calls Tryz.prog 40 #[.int .i32 r] w fun e w'=>e=.returned (.int .i64 0)∧w=w':=by
 have D0:=Lib.hid d0
 have D1:=Lib.hid d1
 have D2:=Lib.hid d2
 have D3:=Lib.hid d3
 have D4:=Lib.hid d4
 clear d0 d1 d2 d3 d4
 have DM:=Lib.hid hm
 clear hm
 go_enter Tryz.func40,Tryz.ntmps40
 go_wp2_with fail
 refine (may_any r w).mono ?_
 rintro e w1 ⟨rfl,rfl⟩
 rw [DM.out]
 go_wp2_with fail
 refine (in_at D0.out w).mono ?_
 rintro e w1 ⟨rfl,rfl⟩
 go_wp2_with fail
 refine (in_at D1.out w).mono ?_
 rintro e w1 ⟨rfl,rfl⟩
 go_wp2_with fail
 refine (in_at D2.out w).mono ?_
 rintro e w1 ⟨rfl,rfl⟩
 go_wp2_with fail
 refine (in_at D3.out w).mono ?_
 rintro e w1 ⟨rfl,rfl⟩
 go_wp2_with fail
 refine (in_at D4.out w).mono ?_
 rintro e w1 ⟨rfl,rfl⟩
 go_wp2_with fail
 go_ret
 exact ⟨rfl,rfl⟩
set_option maxHeartbeats 1600000 in
set_option maxRecDepth 100000 in
theorem refWid_at5 {r:Int} (w:World) (hm:mayS r=true) (d0:decide ((0:Int)≤r∧r≤31)=false) (d1:decide ((127:Int)≤r∧r≤159)=false) (d2:decide ((768:Int)≤r∧r≤879)=false) (d3:decide ((8203:Int)≤r∧r≤8207)=false) (d4:decide ((65024:Int)≤r∧r≤65039)=false) (d5:decide ((4352:Int)≤r∧r≤4447)=true):Calls Tryz.prog 40 #[.int .i32 r] w fun e w'=>e=.returned (.int .i64 2)∧w=w':=by
 have D0:=Lib.hid d0
 have D1:=Lib.hid d1
 have D2:=Lib.hid d2
 have D3:=Lib.hid d3
 have D4:=Lib.hid d4
 have D5:=Lib.hid d5
 clear d0 d1 d2 d3 d4 d5
 have DM:=Lib.hid hm
 clear hm
 go_enter Tryz.func40,Tryz.ntmps40
 go_wp2_with fail
 refine (may_any r w).mono ?_
 rintro e w1 ⟨rfl,rfl⟩
 rw [DM.out]
 go_wp2_with fail
 refine (in_at D0.out w).mono ?_
 rintro e w1 ⟨rfl,rfl⟩
 go_wp2_with fail
 refine (in_at D1.out w).mono ?_
 rintro e w1 ⟨rfl,rfl⟩
 go_wp2_with fail
 refine (in_at D2.out w).mono ?_
 rintro e w1 ⟨rfl,rfl⟩
 go_wp2_with fail
 refine (in_at D3.out w).mono ?_
 rintro e w1 ⟨rfl,rfl⟩
 go_wp2_with fail
 refine (in_at D4.out w).mono ?_
 rintro e w1 ⟨rfl,rfl⟩
 go_wp2_with fail
 refine (in_at D5.out w).mono ?_
 rintro e w1 ⟨rfl,rfl⟩
 go_wp2_with fail
 go_ret
 exact ⟨rfl,rfl⟩
set_option maxHeartbeats 1600000 in
set_option maxRecDepth 100000 in
theorem refWid_at6 {r:Int} (w:World) (hm:mayS r=true) (d0:decide ((0:Int)≤r∧r≤31)=false) (d1:decide ((127:Int)≤r∧r≤159)=false) (d2:decide ((768:Int)≤r∧r≤879)=false) (d3:decide ((8203:Int)≤r∧r≤8207)=false) (d4:decide ((65024:Int)≤r∧r≤65039)=false) (d5:decide ((4352:Int)≤r∧r≤4447)=false) (d6:decide ((11904:Int)≤r∧r≤12350)=true):Calls Tryz.prog 40 #[.int .i32 r] w fun e w'=>e=.returned (.int .i64 2)∧w=w':=by
 have D0:=Lib.hid d0
 have D1:=Lib.hid d1
 have D2:=Lib.hid d2
 have D3:=Lib.hid d3
 have D4:=Lib.hid d4
 have D5:=Lib.hid d5
 have D6:=Lib.hid d6
 clear d0 d1 d2 d3 d4 d5 d6
 have DM:=Lib.hid hm
 clear hm
 go_enter Tryz.func40,Tryz.ntmps40
 go_wp2_with fail
 refine (may_any r w).mono ?_
 rintro e w1 ⟨rfl,rfl⟩
 rw [DM.out]
 go_wp2_with fail
 refine (in_at D0.out w).mono ?_
 rintro e w1 ⟨rfl,rfl⟩
 go_wp2_with fail
 refine (in_at D1.out w).mono ?_
 rintro e w1 ⟨rfl,rfl⟩
 go_wp2_with fail
 refine (in_at D2.out w).mono ?_
 rintro e w1 ⟨rfl,rfl⟩
 go_wp2_with fail
 refine (in_at D3.out w).mono ?_
 rintro e w1 ⟨rfl,rfl⟩
 go_wp2_with fail
 refine (in_at D4.out w).mono ?_
 rintro e w1 ⟨rfl,rfl⟩
 go_wp2_with fail
 refine (in_at D5.out w).mono ?_
 rintro e w1 ⟨rfl,rfl⟩
 go_wp2_with fail
 refine (in_at D6.out w).mono ?_
 rintro e w1 ⟨rfl,rfl⟩
 go_wp2_with fail
 go_ret
 exact ⟨rfl,rfl⟩
set_option maxHeartbeats 1600000 in
set_option maxRecDepth 100000 in
theorem refWid_at7 {r:Int} (w:World) (hm:mayS r=true) (d0:decide ((0:Int)≤r∧r≤31)=false) (d1:decide ((127:Int)≤r∧r≤159)=false) (d2:decide ((768:Int)≤r∧r≤879)=false) (d3:decide ((8203:Int)≤r∧r≤8207)=false) (d4:decide ((65024:Int)≤r∧r≤65039)=false) (d5:decide ((4352:Int)≤r∧r≤4447)=false) (d6:decide ((11904:Int)≤r∧r≤12350)=false) (d7:decide ((12353:Int)≤r∧r≤42191)=true):Calls Tryz.prog 40 #[.int .i32 r] w fun e w'=>e=.returned (.int .i64 2)∧w=w':=by
 have D0:=Lib.hid d0
 have D1:=Lib.hid d1
 have D2:=Lib.hid d2
 have D3:=Lib.hid d3
 have D4:=Lib.hid d4
 have D5:=Lib.hid d5
 have D6:=Lib.hid d6
 have D7:=Lib.hid d7
 clear d0 d1 d2 d3 d4 d5 d6 d7
 have DM:=Lib.hid hm
 clear hm
 go_enter Tryz.func40,Tryz.ntmps40
 go_wp2_with fail
 refine (may_any r w).mono ?_
 rintro e w1 ⟨rfl,rfl⟩
 rw [DM.out]
 go_wp2_with fail
 refine (in_at D0.out w).mono ?_
 rintro e w1 ⟨rfl,rfl⟩
 go_wp2_with fail
 refine (in_at D1.out w).mono ?_
 rintro e w1 ⟨rfl,rfl⟩
 go_wp2_with fail
 refine (in_at D2.out w).mono ?_
 rintro e w1 ⟨rfl,rfl⟩
 go_wp2_with fail
 refine (in_at D3.out w).mono ?_
 rintro e w1 ⟨rfl,rfl⟩
 go_wp2_with fail
 refine (in_at D4.out w).mono ?_
 rintro e w1 ⟨rfl,rfl⟩
 go_wp2_with fail
 refine (in_at D5.out w).mono ?_
 rintro e w1 ⟨rfl,rfl⟩
 go_wp2_with fail
 refine (in_at D6.out w).mono ?_
 rintro e w1 ⟨rfl,rfl⟩
 go_wp2_with fail
 refine (in_at D7.out w).mono ?_
 rintro e w1 ⟨rfl,rfl⟩
 go_wp2_with fail
 go_ret
 exact ⟨rfl,rfl⟩
set_option maxHeartbeats 1600000 in
set_option maxRecDepth 100000 in
theorem refWid_at8 {r:Int} (w:World) (hm:mayS r=true) (d0:decide ((0:Int)≤r∧r≤31)=false) (d1:decide ((127:Int)≤r∧r≤159)=false) (d2:decide ((768:Int)≤r∧r≤879)=false) (d3:decide ((8203:Int)≤r∧r≤8207)=false) (d4:decide ((65024:Int)≤r∧r≤65039)=false) (d5:decide ((4352:Int)≤r∧r≤4447)=false) (d6:decide ((11904:Int)≤r∧r≤12350)=false) (d7:decide ((12353:Int)≤r∧r≤42191)=false) (d8:decide ((44032:Int)≤r∧r≤55203)=true):Calls Tryz.prog 40 #[.int .i32 r] w fun e w'=>e=.returned (.int .i64 2)∧w=w':=by
 have D0:=Lib.hid d0
 have D1:=Lib.hid d1
 have D2:=Lib.hid d2
 have D3:=Lib.hid d3
 have D4:=Lib.hid d4
 have D5:=Lib.hid d5
 have D6:=Lib.hid d6
 have D7:=Lib.hid d7
 have D8:=Lib.hid d8
 clear d0 d1 d2 d3 d4 d5 d6 d7 d8
 have DM:=Lib.hid hm
 clear hm
 go_enter Tryz.func40,Tryz.ntmps40
 go_wp2_with fail
 refine (may_any r w).mono ?_
 rintro e w1 ⟨rfl,rfl⟩
 rw [DM.out]
 go_wp2_with fail
 refine (in_at D0.out w).mono ?_
 rintro e w1 ⟨rfl,rfl⟩
 go_wp2_with fail
 refine (in_at D1.out w).mono ?_
 rintro e w1 ⟨rfl,rfl⟩
 go_wp2_with fail
 refine (in_at D2.out w).mono ?_
 rintro e w1 ⟨rfl,rfl⟩
 go_wp2_with fail
 refine (in_at D3.out w).mono ?_
 rintro e w1 ⟨rfl,rfl⟩
 go_wp2_with fail
 refine (in_at D4.out w).mono ?_
 rintro e w1 ⟨rfl,rfl⟩
 go_wp2_with fail
 refine (in_at D5.out w).mono ?_
 rintro e w1 ⟨rfl,rfl⟩
 go_wp2_with fail
 refine (in_at D6.out w).mono ?_
 rintro e w1 ⟨rfl,rfl⟩
 go_wp2_with fail
 refine (in_at D7.out w).mono ?_
 rintro e w1 ⟨rfl,rfl⟩
 go_wp2_with fail
 refine (in_at D8.out w).mono ?_
 rintro e w1 ⟨rfl,rfl⟩
 go_wp2_with fail
 go_ret
 exact ⟨rfl,rfl⟩
set_option maxHeartbeats 1600000 in
set_option maxRecDepth 100000 in
theorem refWid_at9 {r:Int} (w:World) (hm:mayS r=true) (d0:decide ((0:Int)≤r∧r≤31)=false) (d1:decide ((127:Int)≤r∧r≤159)=false) (d2:decide ((768:Int)≤r∧r≤879)=false) (d3:decide ((8203:Int)≤r∧r≤8207)=false) (d4:decide ((65024:Int)≤r∧r≤65039)=false) (d5:decide ((4352:Int)≤r∧r≤4447)=false) (d6:decide ((11904:Int)≤r∧r≤12350)=false) (d7:decide ((12353:Int)≤r∧r≤42191)=false) (d8:decide ((44032:Int)≤r∧r≤55203)=false) (d9:decide ((63744:Int)≤r∧r≤64255)=true):Calls Tryz.prog 40 #[.int .i32 r] w fun e w'=>e=.returned (.int .i64 2)∧w=w':=by
 have D0:=Lib.hid d0
 have D1:=Lib.hid d1
 have D2:=Lib.hid d2
 have D3:=Lib.hid d3
 have D4:=Lib.hid d4
 have D5:=Lib.hid d5
 have D6:=Lib.hid d6
 have D7:=Lib.hid d7
 have D8:=Lib.hid d8
 have D9:=Lib.hid d9
 clear d0 d1 d2 d3 d4 d5 d6 d7 d8 d9
 have DM:=Lib.hid hm
 clear hm
 go_enter Tryz.func40,Tryz.ntmps40
 go_wp2_with fail
 refine (may_any r w).mono ?_
 rintro e w1 ⟨rfl,rfl⟩
 rw [DM.out]
 go_wp2_with fail
 refine (in_at D0.out w).mono ?_
 rintro e w1 ⟨rfl,rfl⟩
 go_wp2_with fail
 refine (in_at D1.out w).mono ?_
 rintro e w1 ⟨rfl,rfl⟩
 go_wp2_with fail
 refine (in_at D2.out w).mono ?_
 rintro e w1 ⟨rfl,rfl⟩
 go_wp2_with fail
 refine (in_at D3.out w).mono ?_
 rintro e w1 ⟨rfl,rfl⟩
 go_wp2_with fail
 refine (in_at D4.out w).mono ?_
 rintro e w1 ⟨rfl,rfl⟩
 go_wp2_with fail
 refine (in_at D5.out w).mono ?_
 rintro e w1 ⟨rfl,rfl⟩
 go_wp2_with fail
 refine (in_at D6.out w).mono ?_
 rintro e w1 ⟨rfl,rfl⟩
 go_wp2_with fail
 refine (in_at D7.out w).mono ?_
 rintro e w1 ⟨rfl,rfl⟩
 go_wp2_with fail
 refine (in_at D8.out w).mono ?_
 rintro e w1 ⟨rfl,rfl⟩
 go_wp2_with fail
 refine (in_at D9.out w).mono ?_
 rintro e w1 ⟨rfl,rfl⟩
 go_wp2_with fail
 go_ret
 exact ⟨rfl,rfl⟩
set_option maxHeartbeats 1600000 in
set_option maxRecDepth 100000 in
theorem refWid_at10 {r:Int} (w:World) (hm:mayS r=true) (d0:decide ((0:Int)≤r∧r≤31)=false) (d1:decide ((127:Int)≤r∧r≤159)=false) (d2:decide ((768:Int)≤r∧r≤879)=false) (d3:decide ((8203:Int)≤r∧r≤8207)=false) (d4:decide ((65024:Int)≤r∧r≤65039)=false) (d5:decide ((4352:Int)≤r∧r≤4447)=false) (d6:decide ((11904:Int)≤r∧r≤12350)=false) (d7:decide ((12353:Int)≤r∧r≤42191)=false) (d8:decide ((44032:Int)≤r∧r≤55203)=false) (d9:decide ((63744:Int)≤r∧r≤64255)=false) (d10:decide ((65072:Int)≤r∧r≤65135)=true):Calls Tryz.prog 40 #[.int .i32 r] w fun e w'=>e=.returned (.int .i64 2)∧w=w':=by
 have D0:=Lib.hid d0
 have D1:=Lib.hid d1
 have D2:=Lib.hid d2
 have D3:=Lib.hid d3
 have D4:=Lib.hid d4
 have D5:=Lib.hid d5
 have D6:=Lib.hid d6
 have D7:=Lib.hid d7
 have D8:=Lib.hid d8
 have D9:=Lib.hid d9
 have D10:=Lib.hid d10
 clear d0 d1 d2 d3 d4 d5 d6 d7 d8 d9 d10
 have DM:=Lib.hid hm
 clear hm
 go_enter Tryz.func40,Tryz.ntmps40
 go_wp2_with fail
 refine (may_any r w).mono ?_
 rintro e w1 ⟨rfl,rfl⟩
 rw [DM.out]
 go_wp2_with fail
 refine (in_at D0.out w).mono ?_
 rintro e w1 ⟨rfl,rfl⟩
 go_wp2_with fail
 refine (in_at D1.out w).mono ?_
 rintro e w1 ⟨rfl,rfl⟩
 go_wp2_with fail
 refine (in_at D2.out w).mono ?_
 rintro e w1 ⟨rfl,rfl⟩
 go_wp2_with fail
 refine (in_at D3.out w).mono ?_
 rintro e w1 ⟨rfl,rfl⟩
 go_wp2_with fail
 refine (in_at D4.out w).mono ?_
 rintro e w1 ⟨rfl,rfl⟩
 go_wp2_with fail
 refine (in_at D5.out w).mono ?_
 rintro e w1 ⟨rfl,rfl⟩
 go_wp2_with fail
 refine (in_at D6.out w).mono ?_
 rintro e w1 ⟨rfl,rfl⟩
 go_wp2_with fail
 refine (in_at D7.out w).mono ?_
 rintro e w1 ⟨rfl,rfl⟩
 go_wp2_with fail
 refine (in_at D8.out w).mono ?_
 rintro e w1 ⟨rfl,rfl⟩
 go_wp2_with fail
 refine (in_at D9.out w).mono ?_
 rintro e w1 ⟨rfl,rfl⟩
 go_wp2_with fail
 refine (in_at D10.out w).mono ?_
 rintro e w1 ⟨rfl,rfl⟩
 go_wp2_with fail
 go_ret
 exact ⟨rfl,rfl⟩
set_option maxHeartbeats 1600000 in
set_option maxRecDepth 100000 in
theorem refWid_at11 {r:Int} (w:World) (hm:mayS r=true) (d0:decide ((0:Int)≤r∧r≤31)=false) (d1:decide ((127:Int)≤r∧r≤159)=false) (d2:decide ((768:Int)≤r∧r≤879)=false) (d3:decide ((8203:Int)≤r∧r≤8207)=false) (d4:decide ((65024:Int)≤r∧r≤65039)=false) (d5:decide ((4352:Int)≤r∧r≤4447)=false) (d6:decide ((11904:Int)≤r∧r≤12350)=false) (d7:decide ((12353:Int)≤r∧r≤42191)=false) (d8:decide ((44032:Int)≤r∧r≤55203)=false) (d9:decide ((63744:Int)≤r∧r≤64255)=false) (d10:decide ((65072:Int)≤r∧r≤65135)=false) (d11:decide ((65280:Int)≤r∧r≤65376)=true):Calls Tryz.prog 40 #[.int .i32 r] w fun e w'=>e=.returned (.int .i64 2)∧w=w':=by
 have D0:=Lib.hid d0
 have D1:=Lib.hid d1
 have D2:=Lib.hid d2
 have D3:=Lib.hid d3
 have D4:=Lib.hid d4
 have D5:=Lib.hid d5
 have D6:=Lib.hid d6
 have D7:=Lib.hid d7
 have D8:=Lib.hid d8
 have D9:=Lib.hid d9
 have D10:=Lib.hid d10
 have D11:=Lib.hid d11
 clear d0 d1 d2 d3 d4 d5 d6 d7 d8 d9 d10 d11
 have DM:=Lib.hid hm
 clear hm
 go_enter Tryz.func40,Tryz.ntmps40
 go_wp2_with fail
 refine (may_any r w).mono ?_
 rintro e w1 ⟨rfl,rfl⟩
 rw [DM.out]
 go_wp2_with fail
 refine (in_at D0.out w).mono ?_
 rintro e w1 ⟨rfl,rfl⟩
 go_wp2_with fail
 refine (in_at D1.out w).mono ?_
 rintro e w1 ⟨rfl,rfl⟩
 go_wp2_with fail
 refine (in_at D2.out w).mono ?_
 rintro e w1 ⟨rfl,rfl⟩
 go_wp2_with fail
 refine (in_at D3.out w).mono ?_
 rintro e w1 ⟨rfl,rfl⟩
 go_wp2_with fail
 refine (in_at D4.out w).mono ?_
 rintro e w1 ⟨rfl,rfl⟩
 go_wp2_with fail
 refine (in_at D5.out w).mono ?_
 rintro e w1 ⟨rfl,rfl⟩
 go_wp2_with fail
 refine (in_at D6.out w).mono ?_
 rintro e w1 ⟨rfl,rfl⟩
 go_wp2_with fail
 refine (in_at D7.out w).mono ?_
 rintro e w1 ⟨rfl,rfl⟩
 go_wp2_with fail
 refine (in_at D8.out w).mono ?_
 rintro e w1 ⟨rfl,rfl⟩
 go_wp2_with fail
 refine (in_at D9.out w).mono ?_
 rintro e w1 ⟨rfl,rfl⟩
 go_wp2_with fail
 refine (in_at D10.out w).mono ?_
 rintro e w1 ⟨rfl,rfl⟩
 go_wp2_with fail
 refine (in_at D11.out w).mono ?_
 rintro e w1 ⟨rfl,rfl⟩
 go_wp2_with fail
 go_ret
 exact ⟨rfl,rfl⟩
set_option maxHeartbeats 1600000 in
set_option maxRecDepth 100000 in
theorem refWid_at12 {r:Int} (w:World) (hm:mayS r=true) (d0:decide ((0:Int)≤r∧r≤31)=false) (d1:decide ((127:Int)≤r∧r≤159)=false) (d2:decide ((768:Int)≤r∧r≤879)=false) (d3:decide ((8203:Int)≤r∧r≤8207)=false) (d4:decide ((65024:Int)≤r∧r≤65039)=false) (d5:decide ((4352:Int)≤r∧r≤4447)=false) (d6:decide ((11904:Int)≤r∧r≤12350)=false) (d7:decide ((12353:Int)≤r∧r≤42191)=false) (d8:decide ((44032:Int)≤r∧r≤55203)=false) (d9:decide ((63744:Int)≤r∧r≤64255)=false) (d10:decide ((65072:Int)≤r∧r≤65135)=false) (d11:decide ((65280:Int)≤r∧r≤65376)=false) (d12:decide ((65504:Int)≤r∧r≤65510)=true):Calls Tryz.prog 40 #[.int .i32 r] w fun e w'=>e=.returned (.int .i64 2)∧w=w':=by
 have D0:=Lib.hid d0
 have D1:=Lib.hid d1
 have D2:=Lib.hid d2
 have D3:=Lib.hid d3
 have D4:=Lib.hid d4
 have D5:=Lib.hid d5
 have D6:=Lib.hid d6
 have D7:=Lib.hid d7
 have D8:=Lib.hid d8
 have D9:=Lib.hid d9
 have D10:=Lib.hid d10
 have D11:=Lib.hid d11
 have D12:=Lib.hid d12
 clear d0 d1 d2 d3 d4 d5 d6 d7 d8 d9 d10 d11 d12
 have DM:=Lib.hid hm
 clear hm
 go_enter Tryz.func40,Tryz.ntmps40
 go_wp2_with fail
 refine (may_any r w).mono ?_
 rintro e w1 ⟨rfl,rfl⟩
 rw [DM.out]
 go_wp2_with fail
 refine (in_at D0.out w).mono ?_
 rintro e w1 ⟨rfl,rfl⟩
 go_wp2_with fail
 refine (in_at D1.out w).mono ?_
 rintro e w1 ⟨rfl,rfl⟩
 go_wp2_with fail
 refine (in_at D2.out w).mono ?_
 rintro e w1 ⟨rfl,rfl⟩
 go_wp2_with fail
 refine (in_at D3.out w).mono ?_
 rintro e w1 ⟨rfl,rfl⟩
 go_wp2_with fail
 refine (in_at D4.out w).mono ?_
 rintro e w1 ⟨rfl,rfl⟩
 go_wp2_with fail
 refine (in_at D5.out w).mono ?_
 rintro e w1 ⟨rfl,rfl⟩
 go_wp2_with fail
 refine (in_at D6.out w).mono ?_
 rintro e w1 ⟨rfl,rfl⟩
 go_wp2_with fail
 refine (in_at D7.out w).mono ?_
 rintro e w1 ⟨rfl,rfl⟩
 go_wp2_with fail
 refine (in_at D8.out w).mono ?_
 rintro e w1 ⟨rfl,rfl⟩
 go_wp2_with fail
 refine (in_at D9.out w).mono ?_
 rintro e w1 ⟨rfl,rfl⟩
 go_wp2_with fail
 refine (in_at D10.out w).mono ?_
 rintro e w1 ⟨rfl,rfl⟩
 go_wp2_with fail
 refine (in_at D11.out w).mono ?_
 rintro e w1 ⟨rfl,rfl⟩
 go_wp2_with fail
 refine (in_at D12.out w).mono ?_
 rintro e w1 ⟨rfl,rfl⟩
 go_wp2_with fail
 go_ret
 exact ⟨rfl,rfl⟩
set_option maxHeartbeats 1600000 in
set_option maxRecDepth 100000 in
theorem refWid_at13 {r:Int} (w:World) (hm:mayS r=true) (d0:decide ((0:Int)≤r∧r≤31)=false) (d1:decide ((127:Int)≤r∧r≤159)=false) (d2:decide ((768:Int)≤r∧r≤879)=false) (d3:decide ((8203:Int)≤r∧r≤8207)=false) (d4:decide ((65024:Int)≤r∧r≤65039)=false) (d5:decide ((4352:Int)≤r∧r≤4447)=false) (d6:decide ((11904:Int)≤r∧r≤12350)=false) (d7:decide ((12353:Int)≤r∧r≤42191)=false) (d8:decide ((44032:Int)≤r∧r≤55203)=false) (d9:decide ((63744:Int)≤r∧r≤64255)=false) (d10:decide ((65072:Int)≤r∧r≤65135)=false) (d11:decide ((65280:Int)≤r∧r≤65376)=false) (d12:decide ((65504:Int)≤r∧r≤65510)=false) (d13:decide ((127744:Int)≤r∧r≤128591)=true):Calls Tryz.prog 40 #[.int .i32 r] w fun e w'=>e=.returned (.int .i64 2)∧w=w':=by
 have D0:=Lib.hid d0
 have D1:=Lib.hid d1
 have D2:=Lib.hid d2
 have D3:=Lib.hid d3
 have D4:=Lib.hid d4
 have D5:=Lib.hid d5
 have D6:=Lib.hid d6
 have D7:=Lib.hid d7
 have D8:=Lib.hid d8
 have D9:=Lib.hid d9
 have D10:=Lib.hid d10
 have D11:=Lib.hid d11
 have D12:=Lib.hid d12
 have D13:=Lib.hid d13
 clear d0 d1 d2 d3 d4 d5 d6 d7 d8 d9 d10 d11 d12 d13
 have DM:=Lib.hid hm
 clear hm
 go_enter Tryz.func40,Tryz.ntmps40
 go_wp2_with fail
 refine (may_any r w).mono ?_
 rintro e w1 ⟨rfl,rfl⟩
 rw [DM.out]
 go_wp2_with fail
 refine (in_at D0.out w).mono ?_
 rintro e w1 ⟨rfl,rfl⟩
 go_wp2_with fail
 refine (in_at D1.out w).mono ?_
 rintro e w1 ⟨rfl,rfl⟩
 go_wp2_with fail
 refine (in_at D2.out w).mono ?_
 rintro e w1 ⟨rfl,rfl⟩
 go_wp2_with fail
 refine (in_at D3.out w).mono ?_
 rintro e w1 ⟨rfl,rfl⟩
 go_wp2_with fail
 refine (in_at D4.out w).mono ?_
 rintro e w1 ⟨rfl,rfl⟩
 go_wp2_with fail
 refine (in_at D5.out w).mono ?_
 rintro e w1 ⟨rfl,rfl⟩
 go_wp2_with fail
 refine (in_at D6.out w).mono ?_
 rintro e w1 ⟨rfl,rfl⟩
 go_wp2_with fail
 refine (in_at D7.out w).mono ?_
 rintro e w1 ⟨rfl,rfl⟩
 go_wp2_with fail
 refine (in_at D8.out w).mono ?_
 rintro e w1 ⟨rfl,rfl⟩
 go_wp2_with fail
 refine (in_at D9.out w).mono ?_
 rintro e w1 ⟨rfl,rfl⟩
 go_wp2_with fail
 refine (in_at D10.out w).mono ?_
 rintro e w1 ⟨rfl,rfl⟩
 go_wp2_with fail
 refine (in_at D11.out w).mono ?_
 rintro e w1 ⟨rfl,rfl⟩
 go_wp2_with fail
 refine (in_at D12.out w).mono ?_
 rintro e w1 ⟨rfl,rfl⟩
 go_wp2_with fail
 refine (in_at D13.out w).mono ?_
 rintro e w1 ⟨rfl,rfl⟩
 go_wp2_with fail
 go_ret
 exact ⟨rfl,rfl⟩
set_option maxHeartbeats 1600000 in
set_option maxRecDepth 100000 in
theorem refWid_at14 {r:Int} (w:World) (hm:mayS r=true) (d0:decide ((0:Int)≤r∧r≤31)=false) (d1:decide ((127:Int)≤r∧r≤159)=false) (d2:decide ((768:Int)≤r∧r≤879)=false) (d3:decide ((8203:Int)≤r∧r≤8207)=false) (d4:decide ((65024:Int)≤r∧r≤65039)=false) (d5:decide ((4352:Int)≤r∧r≤4447)=false) (d6:decide ((11904:Int)≤r∧r≤12350)=false) (d7:decide ((12353:Int)≤r∧r≤42191)=false) (d8:decide ((44032:Int)≤r∧r≤55203)=false) (d9:decide ((63744:Int)≤r∧r≤64255)=false) (d10:decide ((65072:Int)≤r∧r≤65135)=false) (d11:decide ((65280:Int)≤r∧r≤65376)=false) (d12:decide ((65504:Int)≤r∧r≤65510)=false) (d13:decide ((127744:Int)≤r∧r≤128591)=false) (d14:decide ((131072:Int)≤r∧r≤262141)=true):Calls Tryz.prog 40 #[.int .i32 r] w fun e w'=>e=.returned (.int .i64 2)∧w=w':=by
 have D0:=Lib.hid d0
 have D1:=Lib.hid d1
 have D2:=Lib.hid d2
 have D3:=Lib.hid d3
 have D4:=Lib.hid d4
 have D5:=Lib.hid d5
 have D6:=Lib.hid d6
 have D7:=Lib.hid d7
 have D8:=Lib.hid d8
 have D9:=Lib.hid d9
 have D10:=Lib.hid d10
 have D11:=Lib.hid d11
 have D12:=Lib.hid d12
 have D13:=Lib.hid d13
 have D14:=Lib.hid d14
 clear d0 d1 d2 d3 d4 d5 d6 d7 d8 d9 d10 d11 d12 d13 d14
 have DM:=Lib.hid hm
 clear hm
 go_enter Tryz.func40,Tryz.ntmps40
 go_wp2_with fail
 refine (may_any r w).mono ?_
 rintro e w1 ⟨rfl,rfl⟩
 rw [DM.out]
 go_wp2_with fail
 refine (in_at D0.out w).mono ?_
 rintro e w1 ⟨rfl,rfl⟩
 go_wp2_with fail
 refine (in_at D1.out w).mono ?_
 rintro e w1 ⟨rfl,rfl⟩
 go_wp2_with fail
 refine (in_at D2.out w).mono ?_
 rintro e w1 ⟨rfl,rfl⟩
 go_wp2_with fail
 refine (in_at D3.out w).mono ?_
 rintro e w1 ⟨rfl,rfl⟩
 go_wp2_with fail
 refine (in_at D4.out w).mono ?_
 rintro e w1 ⟨rfl,rfl⟩
 go_wp2_with fail
 refine (in_at D5.out w).mono ?_
 rintro e w1 ⟨rfl,rfl⟩
 go_wp2_with fail
 refine (in_at D6.out w).mono ?_
 rintro e w1 ⟨rfl,rfl⟩
 go_wp2_with fail
 refine (in_at D7.out w).mono ?_
 rintro e w1 ⟨rfl,rfl⟩
 go_wp2_with fail
 refine (in_at D8.out w).mono ?_
 rintro e w1 ⟨rfl,rfl⟩
 go_wp2_with fail
 refine (in_at D9.out w).mono ?_
 rintro e w1 ⟨rfl,rfl⟩
 go_wp2_with fail
 refine (in_at D10.out w).mono ?_
 rintro e w1 ⟨rfl,rfl⟩
 go_wp2_with fail
 refine (in_at D11.out w).mono ?_
 rintro e w1 ⟨rfl,rfl⟩
 go_wp2_with fail
 refine (in_at D12.out w).mono ?_
 rintro e w1 ⟨rfl,rfl⟩
 go_wp2_with fail
 refine (in_at D13.out w).mono ?_
 rintro e w1 ⟨rfl,rfl⟩
 go_wp2_with fail
 refine (in_at D14.out w).mono ?_
 rintro e w1 ⟨rfl,rfl⟩
 go_wp2_with fail
 go_ret
 exact ⟨rfl,rfl⟩
set_option maxHeartbeats 1600000 in
set_option maxRecDepth 100000 in
theorem refWid_else {r:Int} (w:World) (hm:mayS r=true) (d0:decide ((0:Int)≤r∧r≤31)=false) (d1:decide ((127:Int)≤r∧r≤159)=false) (d2:decide ((768:Int)≤r∧r≤879)=false) (d3:decide ((8203:Int)≤r∧r≤8207)=false) (d4:decide ((65024:Int)≤r∧r≤65039)=false) (d5:decide ((4352:Int)≤r∧r≤4447)=false) (d6:decide ((11904:Int)≤r∧r≤12350)=false) (d7:decide ((12353:Int)≤r∧r≤42191)=false) (d8:decide ((44032:Int)≤r∧r≤55203)=false) (d9:decide ((63744:Int)≤r∧r≤64255)=false) (d10:decide ((65072:Int)≤r∧r≤65135)=false) (d11:decide ((65280:Int)≤r∧r≤65376)=false) (d12:decide ((65504:Int)≤r∧r≤65510)=false) (d13:decide ((127744:Int)≤r∧r≤128591)=false) (d14:decide ((131072:Int)≤r∧r≤262141)=false):Calls Tryz.prog 40 #[.int .i32 r] w fun e w'=>e=.returned (.int .i64 1)∧w=w':=by
 have D0:=Lib.hid d0
 have D1:=Lib.hid d1
 have D2:=Lib.hid d2
 have D3:=Lib.hid d3
 have D4:=Lib.hid d4
 have D5:=Lib.hid d5
 have D6:=Lib.hid d6
 have D7:=Lib.hid d7
 have D8:=Lib.hid d8
 have D9:=Lib.hid d9
 have D10:=Lib.hid d10
 have D11:=Lib.hid d11
 have D12:=Lib.hid d12
 have D13:=Lib.hid d13
 have D14:=Lib.hid d14
 clear d0 d1 d2 d3 d4 d5 d6 d7 d8 d9 d10 d11 d12 d13 d14
 have DM:=Lib.hid hm
 clear hm
 go_enter Tryz.func40,Tryz.ntmps40
 go_wp2_with fail
 refine (may_any r w).mono ?_
 rintro e w1 ⟨rfl,rfl⟩
 rw [DM.out]
 go_wp2_with fail
 refine (in_at D0.out w).mono ?_
 rintro e w1 ⟨rfl,rfl⟩
 go_wp2_with fail
 refine (in_at D1.out w).mono ?_
 rintro e w1 ⟨rfl,rfl⟩
 go_wp2_with fail
 refine (in_at D2.out w).mono ?_
 rintro e w1 ⟨rfl,rfl⟩
 go_wp2_with fail
 refine (in_at D3.out w).mono ?_
 rintro e w1 ⟨rfl,rfl⟩
 go_wp2_with fail
 refine (in_at D4.out w).mono ?_
 rintro e w1 ⟨rfl,rfl⟩
 go_wp2_with fail
 refine (in_at D5.out w).mono ?_
 rintro e w1 ⟨rfl,rfl⟩
 go_wp2_with fail
 refine (in_at D6.out w).mono ?_
 rintro e w1 ⟨rfl,rfl⟩
 go_wp2_with fail
 refine (in_at D7.out w).mono ?_
 rintro e w1 ⟨rfl,rfl⟩
 go_wp2_with fail
 refine (in_at D8.out w).mono ?_
 rintro e w1 ⟨rfl,rfl⟩
 go_wp2_with fail
 refine (in_at D9.out w).mono ?_
 rintro e w1 ⟨rfl,rfl⟩
 go_wp2_with fail
 refine (in_at D10.out w).mono ?_
 rintro e w1 ⟨rfl,rfl⟩
 go_wp2_with fail
 refine (in_at D11.out w).mono ?_
 rintro e w1 ⟨rfl,rfl⟩
 go_wp2_with fail
 refine (in_at D12.out w).mono ?_
 rintro e w1 ⟨rfl,rfl⟩
 go_wp2_with fail
 refine (in_at D13.out w).mono ?_
 rintro e w1 ⟨rfl,rfl⟩
 go_wp2_with fail
 refine (in_at D14.out w).mono ?_
 rintro e w1 ⟨rfl,rfl⟩
 go_wp2_with fail
 go_ret
 exact ⟨rfl,rfl⟩
theorem refWid_any (r:Int) (w:World):Calls Tryz.prog 40 #[.int .i32 r] w fun e w'=>e=.returned (.int .i64 (widthS r))∧w=w':=by
 cases hm:mayS r
 · rw [show widthS r=0 by simp [widthS,hm]]
   exact refWid_no w hm
 · by_cases h0:(0:Int)≤r∧r≤31
   · rw [show widthS r=0 by simp only [widthS,hm,if_true,stL,inSt,and_self,h0]]
     exact refWid_at0 w hm (by simp only [h0,and_self,decide_true])
   by_cases h1:(127:Int)≤r∧r≤159
   · rw [show widthS r=0 by simp only [widthS,hm,if_true,stL,inSt,if_false,and_self,h0,h1]]
     exact refWid_at1 w hm (by simp only [h0,decide_false]) (by simp only [h1,and_self,decide_true])
   by_cases h2:(768:Int)≤r∧r≤879
   · rw [show widthS r=0 by simp only [widthS,hm,if_true,stL,inSt,if_false,and_self,h0,h1,h2]]
     exact refWid_at2 w hm (by simp only [h0,decide_false]) (by simp only [h1,decide_false]) (by simp only [h2,and_self,decide_true])
   by_cases h3:(8203:Int)≤r∧r≤8207
   · rw [show widthS r=0 by simp only [widthS,hm,if_true,stL,inSt,if_false,and_self,h0,h1,h2,h3]]
     exact refWid_at3 w hm (by simp only [h0,decide_false]) (by simp only [h1,decide_false]) (by simp only [h2,decide_false]) (by simp only [h3,and_self,decide_true])
   by_cases h4:(65024:Int)≤r∧r≤65039
   · rw [show widthS r=0 by simp only [widthS,hm,if_true,stL,inSt,if_false,and_self,h0,h1,h2,h3,h4]]
     exact refWid_at4 w hm (by simp only [h0,decide_false]) (by simp only [h1,decide_false]) (by simp only [h2,decide_false]) (by simp only [h3,decide_false]) (by simp only [h4,and_self,decide_true])
   by_cases h5:(4352:Int)≤r∧r≤4447
   · rw [show widthS r=2 by simp only [widthS,hm,if_true,stL,inSt,if_false,and_self,h0,h1,h2,h3,h4,h5]]
     exact refWid_at5 w hm (by simp only [h0,decide_false]) (by simp only [h1,decide_false]) (by simp only [h2,decide_false]) (by simp only [h3,decide_false]) (by simp only [h4,decide_false]) (by simp only [h5,and_self,decide_true])
   by_cases h6:(11904:Int)≤r∧r≤12350
   · rw [show widthS r=2 by simp only [widthS,hm,if_true,stL,inSt,if_false,and_self,h0,h1,h2,h3,h4,h5,h6]]
     exact refWid_at6 w hm (by simp only [h0,decide_false]) (by simp only [h1,decide_false]) (by simp only [h2,decide_false]) (by simp only [h3,decide_false]) (by simp only [h4,decide_false]) (by simp only [h5,decide_false]) (by simp only [h6,and_self,decide_true])
   by_cases h7:(12353:Int)≤r∧r≤42191
   · rw [show widthS r=2 by simp only [widthS,hm,if_true,stL,inSt,if_false,and_self,h0,h1,h2,h3,h4,h5,h6,h7]]
     exact refWid_at7 w hm (by simp only [h0,decide_false]) (by simp only [h1,decide_false]) (by simp only [h2,decide_false]) (by simp only [h3,decide_false]) (by simp only [h4,decide_false]) (by simp only [h5,decide_false]) (by simp only [h6,decide_false]) (by simp only [h7,and_self,decide_true])
   by_cases h8:(44032:Int)≤r∧r≤55203
   · rw [show widthS r=2 by simp only [widthS,hm,if_true,stL,inSt,if_false,and_self,h0,h1,h2,h3,h4,h5,h6,h7,h8]]
     exact refWid_at8 w hm (by simp only [h0,decide_false]) (by simp only [h1,decide_false]) (by simp only [h2,decide_false]) (by simp only [h3,decide_false]) (by simp only [h4,decide_false]) (by simp only [h5,decide_false]) (by simp only [h6,decide_false]) (by simp only [h7,decide_false]) (by simp only [h8,and_self,decide_true])
   by_cases h9:(63744:Int)≤r∧r≤64255
   · rw [show widthS r=2 by simp only [widthS,hm,if_true,stL,inSt,if_false,and_self,h0,h1,h2,h3,h4,h5,h6,h7,h8,h9]]
     exact refWid_at9 w hm (by simp only [h0,decide_false]) (by simp only [h1,decide_false]) (by simp only [h2,decide_false]) (by simp only [h3,decide_false]) (by simp only [h4,decide_false]) (by simp only [h5,decide_false]) (by simp only [h6,decide_false]) (by simp only [h7,decide_false]) (by simp only [h8,decide_false]) (by simp only [h9,and_self,decide_true])
   by_cases h10:(65072:Int)≤r∧r≤65135
   · rw [show widthS r=2 by simp only [widthS,hm,if_true,stL,inSt,if_false,and_self,h0,h1,h2,h3,h4,h5,h6,h7,h8,h9,h10]]
     exact refWid_at10 w hm (by simp only [h0,decide_false]) (by simp only [h1,decide_false]) (by simp only [h2,decide_false]) (by simp only [h3,decide_false]) (by simp only [h4,decide_false]) (by simp only [h5,decide_false]) (by simp only [h6,decide_false]) (by simp only [h7,decide_false]) (by simp only [h8,decide_false]) (by simp only [h9,decide_false]) (by simp only [h10,and_self,decide_true])
   by_cases h11:(65280:Int)≤r∧r≤65376
   · rw [show widthS r=2 by simp only [widthS,hm,if_true,stL,inSt,if_false,and_self,h0,h1,h2,h3,h4,h5,h6,h7,h8,h9,h10,h11]]
     exact refWid_at11 w hm (by simp only [h0,decide_false]) (by simp only [h1,decide_false]) (by simp only [h2,decide_false]) (by simp only [h3,decide_false]) (by simp only [h4,decide_false]) (by simp only [h5,decide_false]) (by simp only [h6,decide_false]) (by simp only [h7,decide_false]) (by simp only [h8,decide_false]) (by simp only [h9,decide_false]) (by simp only [h10,decide_false]) (by simp only [h11,and_self,decide_true])
   by_cases h12:(65504:Int)≤r∧r≤65510
   · rw [show widthS r=2 by simp only [widthS,hm,if_true,stL,inSt,if_false,and_self,h0,h1,h2,h3,h4,h5,h6,h7,h8,h9,h10,h11,h12]]
     exact refWid_at12 w hm (by simp only [h0,decide_false]) (by simp only [h1,decide_false]) (by simp only [h2,decide_false]) (by simp only [h3,decide_false]) (by simp only [h4,decide_false]) (by simp only [h5,decide_false]) (by simp only [h6,decide_false]) (by simp only [h7,decide_false]) (by simp only [h8,decide_false]) (by simp only [h9,decide_false]) (by simp only [h10,decide_false]) (by simp only [h11,decide_false]) (by simp only [h12,and_self,decide_true])
   by_cases h13:(127744:Int)≤r∧r≤128591
   · rw [show widthS r=2 by simp only [widthS,hm,if_true,stL,inSt,if_false,and_self,h0,h1,h2,h3,h4,h5,h6,h7,h8,h9,h10,h11,h12,h13]]
     exact refWid_at13 w hm (by simp only [h0,decide_false]) (by simp only [h1,decide_false]) (by simp only [h2,decide_false]) (by simp only [h3,decide_false]) (by simp only [h4,decide_false]) (by simp only [h5,decide_false]) (by simp only [h6,decide_false]) (by simp only [h7,decide_false]) (by simp only [h8,decide_false]) (by simp only [h9,decide_false]) (by simp only [h10,decide_false]) (by simp only [h11,decide_false]) (by simp only [h12,decide_false]) (by simp only [h13,and_self,decide_true])
   by_cases h14:(131072:Int)≤r∧r≤262141
   · rw [show widthS r=2 by simp only [widthS,hm,if_true,stL,inSt,if_false,and_self,h0,h1,h2,h3,h4,h5,h6,h7,h8,h9,h10,h11,h12,h13,h14]]
     exact refWid_at14 w hm (by simp only [h0,decide_false]) (by simp only [h1,decide_false]) (by simp only [h2,decide_false]) (by simp only [h3,decide_false]) (by simp only [h4,decide_false]) (by simp only [h5,decide_false]) (by simp only [h6,decide_false]) (by simp only [h7,decide_false]) (by simp only [h8,decide_false]) (by simp only [h9,decide_false]) (by simp only [h10,decide_false]) (by simp only [h11,decide_false]) (by simp only [h12,decide_false]) (by simp only [h13,decide_false]) (by simp only [h14,and_self,decide_true])
   rw [show widthS r=1 by simp only [widthS,hm,if_true,stL,inSt,if_false,h0,h1,h2,h3,h4,h5,h6,h7,h8,h9,h10,h11,h12,h13,h14]]
   exact refWid_else w hm (by simp only [h0,decide_false]) (by simp only [h1,decide_false]) (by simp only [h2,decide_false]) (by simp only [h3,decide_false]) (by simp only [h4,decide_false]) (by simp only [h5,decide_false]) (by simp only [h6,decide_false]) (by simp only [h7,decide_false]) (by simp only [h8,decide_false]) (by simp only [h9,decide_false]) (by simp only [h10,decide_false]) (by simp only [h11,decide_false]) (by simp only [h12,decide_false]) (by simp only [h13,decide_false]) (by simp only [h14,decide_false])
end Go.Proofs.YtikhknnhmnopbaaGreatDoor
