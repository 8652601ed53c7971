/-
  Part 4 of what the laws of emul want: CellLeaf, CellEq, RecsApp, CellApp, CellSame.
-/
import Derived.Laws.StructEq
import Derived.Laws.AppendOwnNone
import Derived.BigQuiet
import Derived.Test.YtikhknnhmnopbaaGreatDoorPm02
import Derived.Test.YtikhknnhmnopbaaGreatDoorPm03
namespace Go.Proofs.YtikhknnhmnopbaaGreatDoor
open Go.RowKit
theorem colMay_any (c:Int) (w:World):Calls Tryz.prog 108 #[.int .u32 c] w fun e w'=>e=.returned (.bool (colMay c))∧w=w':=by
 obtain ⟨B,hB⟩:∃ B,colMay c=B:=⟨_,rfl⟩
 rw [hB]
 have HB:=Lib.hid hB
 clear hB
 by_cases h1:c≤256
 · have hb:B=true:=by rw [← HB.out];simp [colMay];omega
   subst hb
   go_enter Tryz.func108,Tryz.ntmps108
   go_wp2_with fail
   go_ret
   exact ⟨rfl,rfl⟩
 · by_cases h2:16777216≤c
   · by_cases h3:c≤33554431
     · have hb:B=true:=by rw [← HB.out];simp [colMay];omega
       subst hb
       go_enter Tryz.func108,Tryz.ntmps108
       go_wp2_with fail
       go_ret
       exact ⟨rfl,rfl⟩
     · have hb:B=false:=by rw [← HB.out];simp [colMay];omega
       subst hb
       go_enter Tryz.func108,Tryz.ntmps108
       go_wp2_with fail
       go_ret
       exact ⟨rfl,rfl⟩
   · have hb:B=false:=by rw [← HB.out];simp [colMay];omega
     subst hb
     go_enter Tryz.func108,Tryz.ntmps108
     go_wp2_with fail
     go_ret
     exact ⟨rfl,rfl⟩
theorem refColMay_any (c:Int) (w:World):Calls Tryz.prog 65 #[.int .u32 c] w fun e w'=>e=.returned (.bool (colMay c))∧w=w':=by
 obtain ⟨B,hB⟩:∃ B,colMay c=B:=⟨_,rfl⟩
 rw [hB]
 have HB:=Lib.hid hB
 clear hB
 by_cases h1:c≤256
 · have hb:B=true:=by rw [← HB.out];simp [colMay];omega
   subst hb
   go_enter Tryz.func65,Tryz.ntmps65
   go_wp2_with fail
   go_ret
   exact ⟨rfl,rfl⟩
 · by_cases h2:16777216≤c
   · by_cases h3:c<33554432
     · have hb:B=true:=by rw [← HB.out];simp [colMay];omega
       subst hb
       go_enter Tryz.func65,Tryz.ntmps65
       go_wp2_with fail
       go_ret
       exact ⟨rfl,rfl⟩
     · have hb:B=false:=by rw [← HB.out];simp [colMay];omega
       subst hb
       go_enter Tryz.func65,Tryz.ntmps65
       go_wp2_with fail
       go_ret
       exact ⟨rfl,rfl⟩
   · have hb:B=false:=by rw [← HB.out];simp [colMay];omega
     subst hb
     go_enter Tryz.func65,Tryz.ntmps65
     go_wp2_with fail
     go_ret
     exact ⟨rfl,rfl⟩
theorem penMay_any (p:Pn) (w:World):Calls Tryz.prog 104 #[.agg (pnA p)] w fun e w'=>e=.returned (.bool (penMayS p))∧Below w.heap.size w w':=by
 obtain ⟨fg,bg,st,lk⟩:=p
 unfold pnA
 obtain ⟨x,hx⟩:∃ x,colMay fg=x:=⟨_,rfl⟩
 have e:penMayS ⟨fg,bg,st,lk⟩=(x && colMay bg):=by unfold penMayS;rw [hx]
 rw [e]
 have HX:=Lib.hid hx
 clear e hx
 cases x
 · go_enter Tryz.func104,Tryz.ntmps104
   go_wp2_with fail
   refine (colMay_any _ _).mono ?_
   rintro e w1 ⟨rfl,rfl⟩
   rw [HX.out]
   go_wp2_with fail
   go_ret
   exact ⟨rfl,(Below.refl _ _).alloc (Nat.le_refl _) _⟩
 · go_enter Tryz.func104,Tryz.ntmps104
   go_wp2_with fail
   refine (colMay_any _ _).mono ?_
   rintro e w1 ⟨rfl,rfl⟩
   rw [HX.out]
   go_wp2_with fail
   refine (colMay_any _ _).mono ?_
   rintro e w1 ⟨rfl,rfl⟩
   go_wp2_with fail
   go_ret
   exact ⟨by simp,(Below.refl _ _).alloc (Nat.le_refl _) _⟩
theorem refPenMay_any (p:Pn) (w:World):Calls Tryz.prog 41 #[.agg (pnA p)] w fun e w'=>e=.returned (.bool (penMayS p))∧Below w.heap.size w w':=by
 obtain ⟨fg,bg,st,lk⟩:=p
 unfold pnA
 obtain ⟨x,hx⟩:∃ x,colMay fg=x:=⟨_,rfl⟩
 have e:penMayS ⟨fg,bg,st,lk⟩=(x && colMay bg):=by unfold penMayS;rw [hx]
 rw [e]
 have HX:=Lib.hid hx
 clear e hx
 cases x
 · go_enter Tryz.func41,Tryz.ntmps41
   go_wp2_with fail
   refine (refColMay_any _ _).mono ?_
   rintro e w1 ⟨rfl,rfl⟩
   rw [HX.out]
   go_wp2_with fail
   go_ret
   exact ⟨rfl,(Below.refl _ _).alloc (Nat.le_refl _) _⟩
 · go_enter Tryz.func41,Tryz.ntmps41
   go_wp2_with fail
   refine (refColMay_any _ _).mono ?_
   rintro e w1 ⟨rfl,rfl⟩
   rw [HX.out]
   go_wp2_with fail
   refine (refColMay_any _ _).mono ?_
   rintro e w1 ⟨rfl,rfl⟩
   go_wp2_with fail
   go_ret
   exact ⟨by simp,(Below.refl _ _).alloc (Nat.le_refl _) _⟩
theorem beqD (a b:Int):(a == b)=decide (a=b):=by rw [Bool.eq_iff_iff];simp
theorem alloc2_new (w:World) (o1 o2:Obj):((w.alloc o1).alloc o2).heap[w.heap.size+1]?=some o2:=by
 have:=heap_alloc_new (w.alloc o1) o2
 simpa using this
theorem infoCe:(Tryz.prog.info? 43).map (·.size)=some 6:=by kernel_rfl
theorem blank_any (p:Pn) (w:World):Calls Tryz.prog 109 #[.agg (pnA p)] w fun e w'=>e=.returned (.agg (ceA (blankS p)))∧Below w.heap.size w w':=by
 obtain ⟨fg,bg,st,lk⟩:=p
 unfold pnA
 go_enter Tryz.func109,Tryz.ntmps109
 go_wp2_with fail
 exact bodyPost_ret (results_cell_row Tryz.results109 _ _ (w.heap.size+1) 43 _ (0,0) _ rfl (alloc2_new _ _ _) Tryz.underlying43 rfl infoCe) rfl ⟨rfl,((Below.refl _ _).alloc (Nat.le_refl _) _).alloc (by simp) _⟩
theorem refBlank_any (p:Pn) (w:World):Calls Tryz.prog 80 #[.agg (pnA p)] w fun e w'=>e=.returned (.agg (ceA (blankS p)))∧Below w.heap.size w w':=by
 obtain ⟨fg,bg,st,lk⟩:=p
 unfold pnA
 go_enter Tryz.func80,Tryz.ntmps80
 go_wp2_with fail
 exact bodyPost_ret (results_cell_row Tryz.results80 _ _ (w.heap.size+1) 43 _ (0,0) _ rfl (alloc2_new _ _ _) Tryz.underlying43 rfl infoCe) rfl ⟨rfl,((Below.refl _ _).alloc (Nat.le_refl _) _).alloc (by simp) _⟩
theorem rightOf_any (c:Ce) (w:World):Calls Tryz.prog 100 #[.agg (ceA c)] w fun e w'=>e=.returned (.agg (ceA (rightS c)))∧Below w.heap.size w w':=by
 obtain ⟨r,wd,fg,bg,st,lk⟩:=c
 unfold ceA
 go_enter Tryz.func100,Tryz.ntmps100
 go_wp2_with fail
 exact bodyPost_ret (results_cell_row Tryz.results100 _ _ (w.heap.size+1) 43 _ (0,0) _ rfl (alloc2_new _ _ _) Tryz.underlying43 rfl infoCe) rfl ⟨rfl,((Below.refl _ _).alloc (Nat.le_refl _) _).alloc (by simp) _⟩
theorem ceMay_any (c:Ce) {w:World} (hT:Tabs w):Calls Tryz.prog 89 #[.agg (ceA c)] w fun e w'=>e=.returned (.bool (cellMay c))∧Below w.heap.size w w':=by
 obtain ⟨B,hB⟩:∃ B,cellMay c=B:=⟨_,rfl⟩
 rw [hB]
 obtain ⟨r,wd,p⟩:=c
 obtain ⟨V,hV⟩:∃ V,widthS r=V:=⟨_,rfl⟩
 obtain ⟨M,hM⟩:∃ M,penMayS p=M:=⟨_,rfl⟩
 unfold cellMay at hB
 simp only [hV,hM] at hB
 have HV:=Lib.hid (And.intro hV hM)
 have HB:=Lib.hid hB
 have HT:=Lib.hid hT
 clear hV hM hB hT
 obtain ⟨fg,bg,st,lk⟩:=p
 unfold ceA
 dsimp only
 go_enter Tryz.func89,Tryz.ntmps89
 go_wp2_with fail
 refine (penMay_any ⟨fg,bg,st,lk⟩ _).mono ?_
 rintro e w1 ⟨rfl,hb⟩
 rw [HV.out.2]
 have c0:w1.cell? ⟨w.heap.size,0,none⟩=some (.int .i32 r):=(hb.cell (by simp)).trans (cell_of_row _ _ 0 _ _ _ (heap_alloc_new w _))
 have c1:w1.cell? ⟨w.heap.size,1,none⟩=some (.int .u8 wd):=(hb.cell (by simp)).trans (cell_of_row _ _ 1 _ _ _ (heap_alloc_new w _))
 have X:=Lib.hid (show Below w.heap.size w w1 from ((Below.refl _ _).alloc (Nat.le_refl _) _).trans (hb.mono (by simp)))
 clear hb
 cases M
 · go_wp2_with fail
   go_ret
   exact ⟨by rw [← HB.out];first | (simp;done) | (simp;exact beqD _ _),X.out⟩
 · by_cases h0:wd=0
   · subst h0
     go_wp2_with fail
     refine (width_any r (HT.out.below X.out (Nat.le_refl _))).mono ?_
     rintro e w2 ⟨rfl,hb⟩
     rw [HV.out.1]
     have X2:=Lib.hid (X.out.trans (hb.mono X.out.size))
     clear hb X
     go_wp2_with fail
     go_ret
     exact ⟨by rw [← HB.out];first | (simp;done) | (simp;exact beqD _ _),X2.out⟩
   · by_cases h1:wd=1
     · subst h1
       go_wp2_with fail
       refine (width_any r (HT.out.below X.out (Nat.le_refl _))).mono ?_
       rintro e w2 ⟨rfl,hb⟩
       rw [HV.out.1]
       have X2:=Lib.hid (X.out.trans (hb.mono X.out.size))
       clear hb X
       go_wp2_with fail
       go_ret
       exact ⟨by rw [← HB.out];first | (simp;done) | (simp;exact beqD _ _),X2.out⟩
     · by_cases h2:wd=2
       · subst h2
         go_wp2_with fail
         go_ret
         exact ⟨by rw [← HB.out];first | (simp;done) | (simp;exact beqD _ _),X.out⟩
       · go_wp2_with fail
         go_ret
         exact ⟨by rw [← HB.out];simp [h0,h1,h2],X.out⟩
theorem refCeMay_any (c:Ce) (w:World):Calls Tryz.prog 21 #[.agg (ceA c)] w fun e w'=>e=.returned (.bool (cellMay c))∧Below w.heap.size w w':=by
 obtain ⟨B,hB⟩:∃ B,cellMay c=B:=⟨_,rfl⟩
 rw [hB]
 obtain ⟨r,wd,p⟩:=c
 obtain ⟨V,hV⟩:∃ V,widthS r=V:=⟨_,rfl⟩
 obtain ⟨M,hM⟩:∃ M,penMayS p=M:=⟨_,rfl⟩
 unfold cellMay at hB
 simp only [hV,hM] at hB
 have HV:=Lib.hid (And.intro hV hM)
 have HB:=Lib.hid hB
 clear hV hM hB
 obtain ⟨fg,bg,st,lk⟩:=p
 unfold ceA
 dsimp only
 go_enter Tryz.func21,Tryz.ntmps21
 go_wp2_with fail
 refine (refWid_any r _).mono ?_
 rintro e w1 ⟨rfl,rfl⟩
 rw [HV.out.1]
 go_wp2_with fail
 refine (refPenMay_any ⟨fg,bg,st,lk⟩ _).mono ?_
 rintro e w1 ⟨rfl,hb⟩
 rw [HV.out.2]
 have c0:w1.cell? ⟨w.heap.size,0,none⟩=some (.int .i32 r):=(hb.cell (by simp)).trans (cell_of_row _ _ 0 _ _ _ (heap_alloc_new w _))
 have c1:w1.cell? ⟨w.heap.size,1,none⟩=some (.int .u8 wd):=(hb.cell (by simp)).trans (cell_of_row _ _ 1 _ _ _ (heap_alloc_new w _))
 have X:=Lib.hid (show Below w.heap.size w w1 from ((Below.refl _ _).alloc (Nat.le_refl _) _).trans (hb.mono (by simp)))
 clear hb
 cases M
 · go_wp2_with fail
   go_ret
   exact ⟨by rw [← HB.out];first | (simp;done) | (simp;exact beqD _ _),X.out⟩
 · by_cases h0:wd=0
   · subst h0
     by_cases hv:V=1
     · subst hv
       go_wp2_with fail
       go_ret
       exact ⟨by rw [← HB.out];first | (simp;done) | (simp;exact beqD _ _),X.out⟩
     · have t1:decide (V=1)=false:=by simpa using hv
       have t2:(V == 1)=false:=by simpa using hv
       go_wp2_with fail
       go_ret
       exact ⟨by rw [← HB.out];simp [hv],X.out⟩
   · by_cases h1:wd=1
     · subst h1
       by_cases hv:V=2
       · subst hv
         go_wp2_with fail
         go_ret
         exact ⟨by rw [← HB.out];first | (simp;done) | (simp;exact beqD _ _),X.out⟩
       · have t1:decide (V=2)=false:=by simpa using hv
         have t2:(V == 2)=false:=by simpa using hv
         go_wp2_with fail
         go_ret
         exact ⟨by rw [← HB.out];simp [hv],X.out⟩
     · by_cases h2:wd=2
       · subst h2
         go_wp2_with fail
         go_ret
         exact ⟨by rw [← HB.out];first | (simp;done) | (simp;exact beqD _ _),X.out⟩
       · go_wp2_with fail
         go_ret
         exact ⟨by rw [← HB.out];simp [h0,h1,h2],X.out⟩
open Go.RowKit
theorem fieldsPn:((Tryz.prog.fieldsOf 41).toList.map fun f=>(f.name != "_",f.type,f.offset))=[(true,38,0),(true,38,1),(true,5,2),(true,39,3)]:=by kernel_rfl
theorem fieldsCe:((Tryz.prog.fieldsOf 43).toList.map fun f=>(f.name != "_",f.type,f.offset))=[(true,21,0),(true,5,1),(true,41,2)]:=by kernel_rfl
theorem pn_equal (a b:Pn) (d:Nat) (w:World):(Op.equalIn (d+2) 41 (.agg (pnA a)) (.agg (pnA b))).run Tryz.prog w=.ok (decide (a=b)) w:=by
 rw [run_equalIn_agg w (d+1) 41 _ _ (by kernel_rfl) (by kernel_rfl)]
 have hf:=fieldsPn
 obtain ⟨fs,hfs⟩:∃ fs,fs=(Tryz.prog.fieldsOf 41).toList:=⟨_,rfl⟩
 rw [← hfs] at hf ⊢
 clear hfs
 obtain ⟨f0,f1,f2,f3,rfl⟩:∃ f0 f1 f2 f3,fs=[f0,f1,f2,f3]:=by
  match fs,(show fs.length=4 by simpa using congrArg List.length hf) with
  | [f0,f1,f2,f3],_=>exact ⟨f0,f1,f2,f3,rfl⟩
 simp only [List.map_cons,List.map_nil,List.cons.injEq,Prod.mk.injEq,and_true,bne_iff_ne] at hf
 obtain ⟨⟨h0,h1,h2⟩,⟨h3,h4,h5⟩,⟨h6,h7,h8⟩,h9,h10,h11⟩:=hf
 have p0:∀ (x:Pn) (w:World),(part 38 (pnA x) 0).run Tryz.prog w=.ok (.int .u32 x.fg) w:=fun x w=>by kernel_rfl
 have p1:∀ (x:Pn) (w:World),(part 38 (pnA x) 1).run Tryz.prog w=.ok (.int .u32 x.bg) w:=fun x w=>by kernel_rfl
 have p2:∀ (x:Pn) (w:World),(part 5 (pnA x) 2).run Tryz.prog w=.ok (.int .u8 x.st) w:=fun x w=>by kernel_rfl
 have p3:∀ (x:Pn) (w:World),(part 39 (pnA x) 3).run Tryz.prog w=.ok (.int .u16 x.lk) w:=fun x w=>by kernel_rfl
 have q0:∀ (x y:Int) (w:World),(Op.equalIn (d+1) 38 (.int .u32 x) (.int .u32 y)).run Tryz.prog w=.ok (x == y) w:=fun x y w=>run_equalIn_int w d _ _ _ _ _ Tryz.underlying38
 have q2:∀ (x y:Int) (w:World),(Op.equalIn (d+1) 5 (.int .u8 x) (.int .u8 y)).run Tryz.prog w=.ok (x == y) w:=fun x y w=>run_equalIn_int w d _ _ _ _ _ Tryz.underlying5
 have q3:∀ (x y:Int) (w:World),(Op.equalIn (d+1) 39 (.int .u16 x) (.int .u16 y)).run Tryz.prog w=.ok (x == y) w:=fun x y w=>run_equalIn_int w d _ _ _ _ _ Tryz.underlying39
 simp only [Op.eqFields,h0,h1,h2,h3,h4,h5,h6,h7,h8,h9,h10,h11,ne_eq,not_false_eq_true,if_true,Sem.run_bind,p0,q0,Result.andThen_ok]
 have hab:(a=b)↔(a.fg=b.fg∧a.bg=b.bg∧a.st=b.st∧a.lk=b.lk):=⟨fun e=>by rw [e];exact ⟨rfl,rfl,rfl,rfl⟩,fun h=>Pn.ext' h.1 h.2.1 h.2.2.1 h.2.2.2⟩
 by_cases e0:a.fg=b.fg<;>by_cases e1:a.bg=b.bg<;>by_cases e2:a.st=b.st<;>by_cases e3:a.lk=b.lk<;>simp [e0,e1,e2,e3,hab,p1,p2,p3,q0,q2,q3]
theorem ce_equal (a b:Ce) (d:Nat) (w:World):(Op.equalIn (d+3) 43 (.agg (ceA a)) (.agg (ceA b))).run Tryz.prog w=.ok (decide (a=b)) w:=by
 rw [run_equalIn_agg w (d+2) 43 _ _ (by kernel_rfl) (by kernel_rfl)]
 have hf:=fieldsCe
 obtain ⟨fs,hfs⟩:∃ fs,fs=(Tryz.prog.fieldsOf 43).toList:=⟨_,rfl⟩
 rw [← hfs] at hf ⊢
 clear hfs
 obtain ⟨f0,f1,f2,rfl⟩:∃ f0 f1 f2,fs=[f0,f1,f2]:=by
  match fs,(show fs.length=3 by simpa using congrArg List.length hf) with
  | [f0,f1,f2],_=>exact ⟨f0,f1,f2,rfl⟩
 simp only [List.map_cons,List.map_nil,List.cons.injEq,Prod.mk.injEq,and_true,bne_iff_ne] at hf
 obtain ⟨⟨h0,h1,h2⟩,⟨h3,h4,h5⟩,h6,h7,h8⟩:=hf
 have p0:∀ (x:Ce) (w:World),(part 21 (ceA x) 0).run Tryz.prog w=.ok (.int .i32 x.r) w:=fun x w=>by kernel_rfl
 have p1:∀ (x:Ce) (w:World),(part 5 (ceA x) 1).run Tryz.prog w=.ok (.int .u8 x.wd) w:=fun x w=>by kernel_rfl
 have p2:∀ (x:Ce) (w:World),(part 41 (ceA x) 2).run Tryz.prog w=.ok (.agg (pnA x.p)) w:=fun x w=>by kernel_rfl
 have q0:∀ (x y:Int) (w:World),(Op.equalIn (d+2) 21 (.int .i32 x) (.int .i32 y)).run Tryz.prog w=.ok (x == y) w:=fun x y w=>run_equalIn_int w (d+1) _ _ _ _ _ Tryz.underlying21
 have q1:∀ (x y:Int) (w:World),(Op.equalIn (d+2) 5 (.int .u8 x) (.int .u8 y)).run Tryz.prog w=.ok (x == y) w:=fun x y w=>run_equalIn_int w (d+1) _ _ _ _ _ Tryz.underlying5
 simp only [Op.eqFields,h0,h1,h2,h3,h4,h5,h6,h7,h8,ne_eq,not_false_eq_true,if_true,Sem.run_bind,p0,q0,Result.andThen_ok]
 have hab:(a=b)↔(a.r=b.r∧a.wd=b.wd∧a.p=b.p):=⟨fun e=>by rw [e];exact ⟨rfl,rfl,rfl⟩,fun h=>Ce.ext' h.1 h.2.1 h.2.2⟩
 by_cases e0:a.r=b.r<;>by_cases e1:a.wd=b.wd<;>by_cases e2:a.p=b.p<;>simp [e0,e1,e2,hab,p1,p2,q1,pn_equal]
theorem ce_neq (a b:Ce) (w:World):(binOp .neq 43 (.agg (ceA a)) (.agg (ceA b))).run Tryz.prog w=.ok (.bool (!decide (a=b))) w:=by
 rw [run_neq_struct,ce_equal a b 9997 w];rfl
theorem pn_neq (a b:Pn) (w:World):(binOp .neq 41 (.agg (pnA a)) (.agg (pnA b))).run Tryz.prog w=.ok (.bool (!decide (a=b))) w:=by
 rw [run_neq_struct,pn_equal a b 9998 w];rfl
theorem guardCe:Tryz.prog.eqGuardType Tryz.prog.depth 43=false:=by kernel_rfl
theorem guardPn:Tryz.prog.eqGuardType Tryz.prog.depth 41=false:=by kernel_rfl
open Go.RowKit
section
variable {P:Program} {α:Type} {f:α→List Value} {d:Nat}
theorem run_copy_V (w:World) (dT sT ty elem:TypeId) (hf:∀ a,(f a).length=d) (h1:∀ M:List α,∀ v∈rowV f M,v.oneCell'=true) (hu:P.underlying dT=some (.slice elem)) (hs:(P.info? elem).map (·.size)=some d)
  (g k dLen dCap:Nat) (dp sp:Option Addr) (sLen sCap:Nat) (t:TypeId) (L M:List α) (hR:Rw f t w g L) (hn:M.length=Nat.min sLen dLen) (hS:Vs f w sp M.length M) (hd:0<M.length→dp=some ⟨g,k*d,none⟩) (hfit:k+M.length≤L.length) :
  ∃ w',(Builtin.copy_ #[dT,sT] ty #[.slice dp dLen dCap,.slice sp sLen sCap]).run P w=.ok (goInt M.length) w'∧Rw f t w' g (L.take k ++ (M ++ L.drop (k+M.length)))∧w.grownBy w' (some g):=by
 cases hq:P.info? elem with
 | none=>simp [hq] at hs
 | some i =>
  have hi:i.size=d:=by simpa [hq] using hs
  by_cases h0:M.length=0
  · obtain rfl:M=[]:=List.eq_nil_of_length_eq_zero h0
    have hl:∀ (x:Addr),(loadCells x 0).run P w=.ok #[] w:=fun x=>by simpa using run_loadCells_list (P:=P) w x [] (by simp)
    have hn':Nat.min sLen dLen=0:=hn.symm
    refine ⟨w,?_,by simpa using hR,World.grownBy.refl w _⟩
    cases dp<;>cases sp<;>simp [Builtin.copy_,run_underlying hu,Builtin.lenOf,Builtin.firstCells,sizeOf,typeInfo,hq,hn',storeCells,hl]
  · obtain rfl:=hd (by omega)
    obtain ⟨ad,rfl⟩:=hS.addr (by omega)
    have hl:=run_loadCells_list (P:=P) w ad (rowV f M) hS.news
    rw [rowV_len hf] at hl
    have hth:=hR.there hf hfit
    have hst:=run_storeCells_cells (P:=P) g (k*d) (rowV f M) 0 w (fun j hj=>by rw [rowV_len hf] at hj;simpa using (hth j hj).1) (fun j hj=>by rw [rowV_len hf] at hj;simpa using (hth j hj).2) (h1 M)
    obtain ⟨e1,e2⟩:=hR.stored hf hfit
    refine ⟨_,?_,e1,e2⟩
    simp only [Nat.add_zero] at hst
    simp [Builtin.copy_,run_underlying hu,Builtin.lenOf,Builtin.firstCells,sizeOf,typeInfo,hq,hi,← hn,hl,hst]
theorem wpList_copy_V {w:World} {ops:Array Oper} {rest:List Oper} {o:Oper} {a:Act} {Q:Exit→Act→World→Prop} (hgd:o.guard=none) (x y:Operand) (dT sT:TypeId)
  (ho:o.op=.call { callee:=.builtin .copy,args:=#[x,y],argTypes:=#[dT,sT] }) (elem:TypeId) (hf:∀ a,(f a).length=d) (h1:∀ M:List α,∀ v∈rowV f M,v.oneCell'=true) (hu:P.underlying dT=some (.slice elem)) (hs:(P.info? elem).map (·.size)=some d)
  (g k dLen dCap:Nat) (dp sp:Option Addr) (sLen sCap:Nat) (hx:a.eval x=.slice dp dLen dCap) (hy:a.eval y=.slice sp sLen sCap)
  (t:TypeId) (L M:List α) (hR:Rw f t w g L) (hn:M.length=Nat.min sLen dLen) (hS:Vs f w sp M.length M) (hd:0<M.length→dp=some ⟨g,k*d,none⟩) (hfit:k+M.length≤L.length)
  (h:∀ w',Rw f t w' g (L.take k ++ (M ++ L.drop (k+M.length)))→w.grownBy w' (some g)→wpList P ops Q rest (a.put o.dst (goInt M.length)) w'):wpList P ops Q (o :: rest) a w:=by
 obtain ⟨w',hrun,h2,h3⟩:=run_copy_V (P:=P) w dT sT o.type elem hf h1 hu hs g k dLen dCap dp sp sLen sCap t L M hR hn hS hd hfit
 refine wpList_plain hgd fun K hK=>?_
 unfold Oper.wp
 simp [execOp,ho,resolve,invoke,builtin,hx,hy,hrun,Result.andThen]
 exact hK _ _ (h w' h2 h3)
theorem wpList_store_V {w:World} {ops:Array Oper} {rest:List Oper} {o:Oper} {a:Act} {Q:Exit→Act→World→Prop} (hgd:o.guard=none) (ty:TypeId) (x y:Operand) (ho:o.op=.store ty x y)
  (hf:∀ a,(f a).length=d) (h1:∀ M:List α,∀ v∈rowV f M,v.oneCell'=true) (hi:(P.info? ty).map (·.size)=some d)
  (g off k:Nat) (c:α) (cells:Array Value) (hx:a.eval x=.pointer (some ⟨g,off,none⟩)) (hoff:off=k*d) (hy:a.eval y=.agg cells) (hcs:cells.toList=f c)
  (t:TypeId) (L:List α) (hR:Rw f t w g L) (hk:k<L.length)
  (h:∀ w',Rw f t w' g (L.set k c)→w.grownBy w' (some g)→wpList P ops Q rest (a.put o.dst undef) w'):wpList P ops Q (o :: rest) a w:=by
 subst hoff
 have hsz:cells.size=d:=by rw [← hf c,← hcs,Array.length_toList]
 have hone:rowV f [c]=f c:=by simp [rowV]
 obtain ⟨e1,e2⟩:=hR.stored hf (k:=k) (M:=[c]) (by simp;omega)
 refine wpList_store_mid hgd ty x y ho g (k*d) cells hx hy (by rw [hsz];simpa using hR.there hf (k:=k) (m:=1) (by omega)) (by rw [hsz];exact hi) ?_ ?_
 · rw [Array.all_eq_true_iff_forall_mem]
   intro v hv
   exact h1 [c] v (by rw [hone,← hcs];simpa using hv)
 · rw [hcs,← hone]
   refine h _ ?_ e2
   have e:L.set k c=L.take k ++ ([c] ++ L.drop (k+[c].length)):=by rw [List.set_eq_take_append_cons_drop,if_pos hk];rfl
   rw [e]
   exact e1
theorem wpList_app_V (w:World) {ops:Array Oper} {rest:List Oper} {o:Oper} {a:Act} {Q:Exit→Act→World→Prop} (hgd:o.guard=none) (s x:Operand) (t:TypeId)
  (ho:o.op=.call { callee:=.builtin .append,args:=#[s,x],argTypes:=#[t,t] }) (hf:∀ a,(f a).length=d) (h1:∀ M:List α,∀ v∈rowV f M,v.oneCell'=true)
  (base:Nat) (e:TypeId) (z:Value) (b8:Nat) (hb8:b8≤64) (ht:P.underlying t=some (.slice e)) (hi:(P.info? e).map (fun i=>(i.zero,i.size,i.bytes))=some (some z,d,b8)) (hzs:z.cells.size=d) (hd0:0<d)
  (v:Value) (n:Nat) (L:List α) (hs:a.eval s=v) (hown:w.ownsRow base e d v n (rowV f L))
  (A:Option Addr) (m c k:Nat) (hk:n+m=k) (M:List α) (hx:a.eval x=.slice A m c) (hr:Vs f w A m M) (h63:k≤1000000) (hbase:base≤w.heap.size)
  (h:∀ A' c' w',w'.ownsRow base e d (.slice A' k c') k (rowV f (L ++ M))→w.grownBy w' v.ownBlock→wpList P ops Q rest (a.put o.dst (.slice A' k c')) w'):wpList P ops Q (o :: rest) a w:=by
 subst hk
 obtain ⟨i0,hi,hz0,hz1,hz2⟩:=info_parts hi
 have hk:∀ v' w',w'.ownsRow base e d v' (n+m) (rowV f (L ++ M))→w.grownBy w' v.ownBlock→wpList P ops Q rest (a.put o.dst v') w':=by
  intro v' w' h1 h2
  obtain ⟨A',c',rfl,_⟩:=own_shape h1
  exact h A' c' w' h1 h2
 have h8:(n+m)*b8≤1000000*64:=Nat.mul_le_mul h63 hb8
 rw [rowV_append] at hk
 cases A with
 | none =>
  have hm:m=0:=by
   rcases Nat.eq_zero_or_pos m with h0 | h0
   · exact h0
   · obtain ⟨ad,e1⟩:=hr.addr h0
     cases e1
  subst hm
  have hn:M=[]:=List.eq_nil_of_length_eq_zero hr.len
  subst hn
  refine wpList_plain hgd fun K hK=>?_
  have hrun:=run_app_nil (P:=P) w base t o.type e i0 d ht hi v n _ hown c
  unfold Oper.wp
  simp [execOp,ho,resolve,invoke,builtin,hs,hx,hrun,Result.andThen]
  exact hK _ _ (hk v w (by simpa [rowV] using hown) (World.grownBy.refl w _))
 | some ad =>
  exact wpList_append_own w hgd s x t ho base e i0 z d b8 ht hi hz0 hz1 hz2 hzs hd0 v n _ hs hown ad m c (rowV f M) hx (by rw [rowV_len hf,hr.len]) hr.news (h1 M)
   (by unfold maxLen;omega) (by omega) hbase fun v' w' h1 h2 _=>hk v' w' h1 h2
theorem own_vs {w:World} {base:Nat} {e:TypeId} {A:Option Addr} {n c:Nat} {L:List α} (hl:L.length=n) (h:w.ownsRow base e d (.slice A n c) n (rowV f L)):Vs f w A n L:=by
 refine ⟨hl,fun hn=>?_⟩
 rcases h.2 with ⟨h3,h4⟩ | ⟨g,cap,cur,hv,hb,hg,hle,hm,hs,ht⟩
 · omega
 · injection hv with hA _ hc
   subst hA
   exact ⟨_,rfl,(Array.getElem?_eq_some_iff.1 hg).1,h.cells (g:=g) rfl⟩
theorem own_some {w:World} {base:Nat} {e:TypeId} {A:Option Addr} {n c:Nat} {L:List α} (hn:0<n) (h:w.ownsRow base e d (.slice A n c) n (rowV f L)):∃ g,A=some ⟨g,0,none⟩∧base≤g∧n≤c∧c≤maxLen∧Rw f e w g L:=by
 have h0:=h
 rcases h.2 with ⟨h3,h4⟩ | ⟨g,cap,cur,hv,hb,hg,hle,hm,hs,ht⟩
 · omega
 · injection hv with hA _ hc
   subst hA
   subst hc
   exact ⟨g,rfl,hb,hle,hm,own_rw h0⟩
end
theorem made_cells {α:Type} {f:α→List Value} {d:Nat} (hf:∀ a,(f a).length=d) (hd:0<d) (z:α) (n:Nat):madeCells (f z).toArray (n*d)=(rowV f (List.replicate n z)).toArray:=by
 apply Array.ext'
 apply List.ext_getElem?
 intro i
 unfold madeCells
 simp only [Array.toList_map,Array.toList_range,List.getElem?_map]
 by_cases hi:i<n*d
 · have h1:i / d<n:=(Nat.div_lt_iff_lt_mul hd).2 hi
   have h2:i % d<(f z).length:=by rw [hf];exact Nat.mod_lt _ hd
   have h3:=rowV_get hf (L:=List.replicate n z) (k:=i / d) (a:=z) (by simp [h1]) (j:=i % d) (List.getElem?_eq_getElem h2)
   rw [Nat.div_add_mod' i d] at h3
   rw [h3]
   simp [hi,hf]
   have h4:i % d<(f z).length:=h2
   simp [h4]
 · rw [List.getElem?_eq_none (l:=rowV f (List.replicate n z)) (by rw [rowV_len hf,List.length_replicate];omega),List.getElem?_eq_none (l:=List.range (n*d)) (by rw [List.length_range];omega)]
   rfl
theorem make_any {e:TypeId} {P:Program} {α:Type} {f:α→List Value} {d b8:Nat} (t:TypeId) (ht:P.underlying t=some (.slice e)) (z:α) (hf:∀ a,(f a).length=d) (hd:0<d) (hb8:b8≤64)
  (hi:(P.info? e).map (fun i=>(i.zero,i.size,i.bytes))=some (some (.agg (f z).toArray),d,b8)) (n:Nat) (hn:n≤1000000) (w:World) :
  (Instr.makeSlice t (.int .i64 (n:Int)) (.int .i64 (n:Int))).run P w=.ok (.slice (some ⟨w.heap.size,0,none⟩) n n) (w.alloc (.cells (rowV f (List.replicate n z)).toArray e)):=by
 obtain ⟨i0,hi,hz0,hz1,hz2⟩:=info_parts hi
 have h1:(i0.bytes:Int)*(n:Int)≤281474976710656:=by
  have h2:i0.bytes*n≤64*1000000:=Nat.mul_le_mul (by omega) hn
  have:((i0.bytes*n:Nat):Int)≤281474976710656:=by omega
  rwa [Int.natCast_mul] at this
 have hr:=run_make (P:=P) w t e i0 _ ht hi hz0 .i64 .i64 n n (by omega) (Int.le_refl _) h1 (by omega)
 rw [hr,hz1]
 simp only [Int.toNat_natCast]
 rw [show (Value.agg (f z).toArray).cells=(f z).toArray from rfl,made_cells hf hd z n]
theorem made_rw {α:Type} {f:α→List Value} (w:World) (e:TypeId) (L:List α):Rw f e (w.alloc (.cells (rowV f L).toArray e)) w.heap.size L:=⟨[],by rw [List.append_nil];exact heap_alloc_new w _⟩
open Go.RowKit
theorem infoCe3:(Tryz.prog.info? 43).map (fun i=>(i.zero,i.size,i.bytes))=some (some (.agg (ceA ce0)),6,20):=by kernel_rfl
def MadeC (L:List Ce) (w:World) (e:Ending) (w':World):Prop :=
 Below w.heap.size w w'∧∃ g c,e=.returned (.slice (some ⟨g,0,none⟩) L.length c)∧w.heap.size≤g∧L.length≤c∧c≤maxLen∧Rw ceV 43 w' g L
open Go.RowKit
theorem retBC {a b:Bool} (h:a=b):Ending.returned (.bool a)=.returned (.bool b):=by rw [h]
structure Six (w:World) (ad:Addr) (c:Ce):Prop where
 c0:w.cell? ad=some (.int .i32 c.r)
 c1:w.cell? ⟨ad.block,ad.off+1,none⟩=some (.int .u8 c.wd)
 c2:w.cell? ⟨ad.block,ad.off+2,none⟩=some (.int .u32 c.p.fg)
 c3:w.cell? ⟨ad.block,ad.off+3,none⟩=some (.int .u32 c.p.bg)
 c4:w.cell? ⟨ad.block,ad.off+4,none⟩=some (.int .u8 c.p.st)
 c5:w.cell? ⟨ad.block,ad.off+5,none⟩=some (.int .u16 c.p.lk)
theorem addStep (ad:Addr) (j:Nat):ad.add (j+1)=⟨ad.block,ad.off+(j+1),none⟩:=rfl
theorem addZero (ad:Addr):ad.add 0=ad:=rfl
theorem Vs.six {w:World} {ad:Addr} {n:Nat} {L:List Ce} (h:Vs ceV w (some ad) n L) {k:Nat} (hk:k<n):Six w (ad.add (k*6)) (cAt L k):=by
 have h1:=h.get ceV_len (getElem?_cAt (L:=L) (k:=k) (by rw [h.len];exact hk))
 exact ⟨by simpa [addZero] using h1 0 _ rfl,by simpa [addStep] using h1 1 _ rfl,by simpa [addStep] using h1 2 _ rfl,by simpa [addStep] using h1 3 _ rfl,by simpa [addStep] using h1 4 _ rfl,by simpa [addStep] using h1 5 _ rfl⟩
theorem take_snocC {xs ys:List Ce} {k:Nat} (h1:k<xs.length) (h2:k<ys.length):(xs.take (k+1)=ys.take (k+1))↔(xs.take k=ys.take k∧cAt xs k=cAt ys k):=by
 rw [List.take_add_one,List.take_add_one,getElem?_cAt h1,getElem?_cAt h2]
 constructor
 · intro h
   have h3:=List.append_inj h (by simp;omega)
   exact ⟨h3.1,by simpa using h3.2⟩
 · rintro ⟨e1,e2⟩
   rw [e1,e2]
set_option maxHeartbeats 800000 in
theorem sameC_any {w:World} {A A':Option Addr} {n n' c c':Nat} {xs ys:List Ce} (h:Vs ceV w A n xs) (h':Vs ceV w A' n' ys) (hn:n≤1000000) (hn':n'≤9223372036854775807) :
  Calls Tryz.prog 42 #[.slice A n c,.slice A' n' c'] w fun e w'=>e=.returned (.bool (decide (xs=ys)))∧∃ q,w'=w.drewN q:=by
 by_cases hne:n=n'
 · subst hne
   have H:=Lib.hid (And.intro h h')
   clear h h' hn'
   go_enter Tryz.func42,Tryz.ntmps42
   go_wp2
   go_loopw [13] (fun i wr=>∃ k q:Nat,k≤n∧i=.int .i64 k∧xs.take k=ys.take k∧wr=w.drewN q) (fun i _=>n-(intOf i).toNat)
   case atStart=>exact ⟨0,0,Nat.zero_le _,rfl,by simp,rfl⟩
   case round =>
    obtain ⟨k,q,hk,rfl,hx,rfl⟩:=hrel
    have HX:=Lib.hid hx
    clear hx
    by_cases hlt:k<n
    · obtain ⟨ad,rfl⟩:=H.out.1.addr (by omega)
      obtain ⟨ad',rfl⟩:=H.out.2.addr (by omega)
      obtain ⟨a0,a1,a2,a3,a4,a5⟩:=H.out.1.six hlt
      obtain ⟨b0,b1,b2,b3,b4,b5⟩:=H.out.2.six hlt
      have HT:=Lib.hid (take_snocC (xs:=xs) (ys:=ys) (k:=k) (by rw [H.out.1.len];exact hlt) (by rw [H.out.2.len];exact hlt))
      have hne:=fun w=>ce_neq (cAt xs k) (cAt ys k) w
      unfold ceA at hne
      generalize cAt xs k=x at a0 a1 a2 a3 a4 a5 HT hne
      generalize cAt ys k=y at b0 b1 b2 b3 b4 b5 HT hne
      have hgd:=guardCe
      obtain ⟨B,hB⟩:∃ B,decide (x=y)=B:=⟨_,rfl⟩
      rw [hB] at hne
      have HB:=Lib.hid hB
      clear hB
      cases B
      · have hd:decide (xs=ys)=false:=by
         rw [decide_eq_false_iff_not]
         rintro rfl
         exact (of_decide_eq_false HB.out) (HT.out.1 rfl).2
        have HD:=Lib.hid hd
        clear hd
        go_wp2
        go_quiet (fail)
        go_wp2
        go_ret
        exact ⟨retBC HD.out.symm,q+nq,by simp [World.drewN,Nat.add_assoc]⟩
      · have ht:=HT.out.2 ⟨HX.out,of_decide_eq_true HB.out⟩
        have HTT:=Lib.hid ht
        clear ht HT
        go_wp2
        go_quiet (fail)
        go_wp2
        go_roundw
        case rel=>exact ⟨k+1,q+nq,by omega,by go_num,HTT.out,rfl⟩
        case measure=>simp [intOf];omega
    · have hd:decide (xs=ys)=true:=by
       have e1:=HX.out
       rw [List.take_of_length_le (by rw [H.out.1.len];omega),List.take_of_length_le (by rw [H.out.2.len];omega)] at e1
       simpa using e1
      have HD:=Lib.hid hd
      clear hd
      go_wp2
      go_ret
      exact ⟨retBC HD.out.symm,q,rfl⟩
 · have hd:decide (xs=ys)=false:=by
    rw [decide_eq_false_iff_not]
    rintro rfl
    exact hne (h.len.symm.trans h'.len)
   rw [hd]
   have hne':¬ ((n:Int)=(n':Int)):=by omega
   clear h h' hd
   go_enter Tryz.func42,Tryz.ntmps42
   go_wp2
   go_ret
   exact ⟨rfl,0,rfl⟩
theorem copyC_any {w:World} {A:Option Addr} {n c:Nat} {L:List Ce} (h:Vs ceV w A n L) (hn:n≤1000000):Calls Tryz.prog 66 #[.slice A n c] w (MadeC L w):=by
 have hmk:=make_any (P:=Tryz.prog) 22 Tryz.underlying22 ce0 ceV_len (by omega) (b8:=20) (by omega) infoCe3 n hn
 have H:=Lib.hid (And.intro (h.alloc (.cells (rowV ceV (List.replicate n ce0)).toArray 43)) (made_rw (f:=ceV) w 43 (List.replicate n ce0)))
 have HL:=Lib.hid h.len
 clear h
 go_enter Tryz.func66,Tryz.ntmps66
 go_wp2_with (refine wpList_copy_V rfl (.tmp 7) (.tmp 8) 22 22 rfl 43 ceV_len one_ce Tryz.underlying22 infoCe w.heap.size 0 n n (some ⟨w.heap.size,0,none⟩) A n c rfl rfl 43 (List.replicate n ce0) L H.out.2 (by rw [HL.out];exact (Nat.min_self n).symm) (by rw [HL.out];exact H.out.1) (fun _=>by simp) (by simp [HL.out]) ?_;intro w1 hR hg)
 have X:MadeC L w (.returned (.slice (some ⟨w.heap.size,0,none⟩) n n)) w1:=by
  refine ⟨((Below.refl _ _).alloc (Nat.le_refl _) _).grown hg (by simp) (by intro k hk;injection hk with hk;omega),w.heap.size,n,by rw [HL.out],Nat.le_refl _,by rw [HL.out];exact Nat.le_refl _,by unfold maxLen;omega,?_⟩
  have e:List.take 0 (List.replicate n ce0) ++ (L ++ List.drop (0+L.length) (List.replicate n ce0))=L:=by simp [HL.out]
  rw [e] at hR
  exact hR
 clear hR hg
 go_wp2_with fail
 go_ret
 exact X
end Go.Proofs.YtikhknnhmnopbaaGreatDoor
