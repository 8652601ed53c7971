/-
  Part 29 of what the laws of emul want: EmulOwn.
-/
import Derived.Test.YtlcipgdnpilkfaaGreatDoorPt28
namespace Go.Proofs.YtlcipgdnpilkfaaGreatDoor
open Go.RowKit
theorem own_five {n:Int} (l:List Int) (h:n≤255):ownS (5 :: n :: l)=(n+1,2):=by
 have e:colourS (5 :: n :: l)=some (n+1,l):=by unfold colourS;exact if_pos (by omega)
 unfold ownS;rw [e];simp only [List.length_cons];congr 1;omega
theorem own_five_no {n:Int} (l:List Int) (h:¬ n≤255):ownS (5 :: n :: l)=(0,0):=by
 have e:colourS (5 :: n :: l)=none:=by unfold colourS;exact if_neg (by omega)
 unfold ownS;rw [e]
theorem own_two {a b c:Int} (l:List Int) (h:a≤255∧b≤255∧c≤255):ownS (2 :: a :: b :: c :: l)=(16777216+a*65536+b*256+c,4):=by
 have e:colourS (2 :: a :: b :: c :: l)=some (16777216+a*65536+b*256+c,l):=by unfold colourS;exact if_pos (by omega)
 unfold ownS;rw [e];simp only [List.length_cons];congr 1;omega
theorem own_two_no {a b c:Int} (l:List Int) (h:¬ (a≤255∧b≤255∧c≤255)):ownS (2 :: a :: b :: c :: l)=(0,0):=by
 have e:colourS (2 :: a :: b :: c :: l)=none:=by unfold colourS;exact if_neg (by omega)
 unfold ownS;rw [e]
theorem own_else {l:List Int} (h:¬ (l.getD 0 0=5∧1<l.length)) (h2:¬ (l.getD 0 0=2∧3<l.length)):ownS l=(0,0):=by
 have e:colourS l=none:=by
  unfold colourS
  split
  · exact absurd ⟨rfl,by simp⟩ h
  · exact absurd ⟨rfl,by simp⟩ h2
  · rfl
 unfold ownS;rw [e]
section
variable {w:World} {A:Option Addr} {n c:Nat} {l:List Int}
set_option maxRecDepth 100000 in
theorem ownColor_any (hI:Ik .i64 w A n l) (hc:n≤c) (h16:n≤16) (hr:∀ z∈l,0≤z∧z≤9999):Calls Tryz.prog 230 #[.slice A n c] w fun e w'=>e=.returned (.tuple #[.int .u32 (ownS l).1,.int .i64 ((ownS l).2:Nat)])∧w'=w:=by
 have HA:=Lib.hid (at_any (P:=fun _=>False) ⟨hI,hc,h16,hr,fun _ _ _ h=>h⟩ 0 (by omega))
 have hl:=hI.len
 have HI:=Lib.hid hI
 have HR:=Lib.hid hr
 clear hI hr
 obtain ⟨a,ha⟩:∃ a,l.getD 0 0=a:=⟨_,rfl⟩
 rw [show ((0:Nat):Int)=0 from rfl,ha] at HA
 by_cases h5:a=5
 · subst h5
   by_cases h1:1<n
   · obtain ⟨x,y,l,rfl⟩:∃ x y l',l=x :: y :: l':=by
      match l,hl with
      | x :: y :: l',_=>exact ⟨x,y,l',rfl⟩
      | [],h=>simp at h;omega
      | [_],h=>simp at h;omega
     obtain rfl:x=5:=ha
     obtain ⟨ad,rfl,hb,hcl⟩:=HI.out.at_ (by omega)
     have c1:w.cell? { block:=ad.block,off:=ad.off+1 }=some (.int .i64 y):=hcl 1 (by omega)
     have hy:=HR.out y (by simp)
     clear hcl hb HI HR hl
     have j1:(1:Int)<(n:Int):=by omega
     by_cases hy5:y≤255
     · rw [own_five l hy5]
       have HX:=Lib.hid (indexed_any y hy.1 hy5 w)
       go_enter Tryz.func230,Tryz.ntmps230
       go_wp2_with fail
       refine HA.out.mono ?_
       rintro e w1 ⟨rfl,hw1⟩
       obtain rfl:=hw1.symm
       clear hw1
       go_wp2_with fail
       refine HX.out.mono ?_
       rintro e w1 ⟨rfl,hw1⟩
       obtain rfl:=hw1.symm
       clear hw1
       go_wp2_with fail
       go_ret2
       exact ⟨rfl,rfl⟩
     · rw [own_five_no l hy5]
       go_enter Tryz.func230,Tryz.ntmps230
       go_wp2_with fail
       refine HA.out.mono ?_
       rintro e w1 ⟨rfl,hw1⟩
       obtain rfl:=hw1.symm
       clear hw1
       go_wp2_with fail
       go_ret2
       exact ⟨rfl,rfl⟩
   · rw [own_else (fun h=>h1 (by rw [← hl];exact h.2)) (fun h=>by rw [ha] at h;exact absurd h.1 (by decide))]
     have j1:¬ (1:Int)<(n:Int):=by omega
     clear ha hl HI HR
     go_enter Tryz.func230,Tryz.ntmps230
     go_wp2_with fail
     refine HA.out.mono ?_
     rintro e w1 ⟨rfl,hw1⟩
     obtain rfl:=hw1.symm
     clear hw1
     go_wp2_with fail
     go_ret2
     exact ⟨rfl,rfl⟩
 by_cases h2:a=2
 · subst h2
   by_cases h3:3<n
   · obtain ⟨x,p,q,r,l,rfl⟩:∃ x p q r l',l=x :: p :: q :: r :: l':=by
      match l,hl with
      | x :: p :: q :: r :: l',_=>exact ⟨x,p,q,r,l',rfl⟩
      | [],h=>simp at h;omega
      | [_],h=>simp at h;omega
      | [_,_],h=>simp at h;omega
      | [_,_,_],h=>simp at h;omega
     obtain rfl:x=2:=ha
     obtain ⟨ad,rfl,hb,hcl⟩:=HI.out.at_ (by omega)
     have c1:w.cell? { block:=ad.block,off:=ad.off+1 }=some (.int .i64 p):=hcl 1 (by omega)
     have c2:w.cell? { block:=ad.block,off:=ad.off+1+1 }=some (.int .i64 q):=hcl 2 (by omega)
     have c3:w.cell? { block:=ad.block,off:=ad.off+1+2 }=some (.int .i64 r):=hcl 3 (by omega)
     have hp:=HR.out p (by simp)
     have hq:=HR.out q (by simp)
     have hr:=HR.out r (by simp)
     clear hcl hb HI HR hl
     have j3:(3:Int)<(n:Int):=by omega
     have j4:(4:Int)≤(c:Int):=by omega
     go_enter Tryz.func230,Tryz.ntmps230
     go_wp2_with fail
     refine HA.out.mono ?_
     rintro e w1 ⟨rfl,hw1⟩
     obtain rfl:=hw1.symm
     clear hw1
     go_wp2_with fail
     go_loopw [2,38] (fun v i wr=>wr=w∧((i=.int .i64 0∧v=.int .u32 16777216)∨(i=.int .i64 1∧p≤255∧v=.int .u32 (16777216+p*65536))∨(i=.int .i64 2∧p≤255∧q≤255∧v=.int .u32 (16777216+p*65536+q*256))∨(i=.int .i64 3∧p≤255∧q≤255∧r≤255∧v=.int .u32 (16777216+p*65536+q*256+r)))) (fun _ i _=>3-(intOf i).toNat)
     case atStart=>exact ⟨rfl,.inl ⟨rfl,rfl⟩⟩
     case round =>
      obtain ⟨rfl,hrel⟩:=hrel
      rcases hrel with ⟨rfl,rfl⟩ | ⟨rfl,h1,rfl⟩ | ⟨rfl,h1,h4,rfl⟩ | ⟨rfl,h1,h4,h6,rfl⟩
      · by_cases hv:p≤255
        · have e1:wrap64 ((8:Int)*(2-0))=16:=by unfold wrap64;omega
          go_wp2_with fail
          go_roundw
          case rel=>exact ⟨trivial,.inr (.inl ⟨rfl,hv,rfl⟩)⟩
          case measure=>simp [intOf]
        · have eN:=own_two_no l (a:=p) (b:=q) (c:=r) (fun h=>hv h.1)
          go_wp2_with fail
          go_ret2
          exact ⟨rfl,rfl⟩
      · by_cases hv:q≤255
        · have e1:wrap64 ((8:Int)*(2-1))=8:=by unfold wrap64;omega
          go_wp2_with fail
          go_roundw
          case rel=>exact ⟨trivial,.inr (.inr (.inl ⟨rfl,h1,hv,rfl⟩))⟩
          case measure=>simp [intOf]
        · have eN:=own_two_no l (a:=p) (b:=q) (c:=r) (fun h=>hv h.2.1)
          go_wp2_with fail
          go_ret2
          exact ⟨rfl,rfl⟩
      · by_cases hv:r≤255
        · have e1:wrap64 ((8:Int)*(2-2))=0:=by unfold wrap64;omega
          go_wp2_with fail
          go_roundw
          case rel=>exact ⟨trivial,.inr (.inr (.inr (⟨rfl,h1,h4,hv,rfl⟩)))⟩
          case measure=>simp [intOf]
        · have eN:=own_two_no l (a:=p) (b:=q) (c:=r) (fun h=>hv h.2.2)
          go_wp2_with fail
          go_ret2
          exact ⟨rfl,rfl⟩
      · have eN:=own_two l ⟨h1,h4,h6⟩
        go_wp2_with fail
        go_ret2
        exact ⟨by rw [eN];rfl,rfl⟩
   · rw [own_else (fun h=>by rw [ha] at h;exact absurd h.1 (by decide)) (fun h=>h3 (by rw [← hl];exact h.2))]
     have j1:¬ (3:Int)<(n:Int):=by omega
     clear ha hl HI HR
     go_enter Tryz.func230,Tryz.ntmps230
     go_wp2_with fail
     refine HA.out.mono ?_
     rintro e w1 ⟨rfl,hw1⟩
     obtain rfl:=hw1.symm
     clear hw1
     go_wp2_with fail
     go_ret2
     exact ⟨rfl,rfl⟩
 · rw [own_else (fun h=>h5 (ha.symm.trans h.1)) (fun h=>h2 (ha.symm.trans h.1))]
   clear ha hl HI HR
   go_enter Tryz.func230,Tryz.ntmps230
   go_wp2_with fail
   refine HA.out.mono ?_
   rintro e w1 ⟨rfl,hw1⟩
   obtain rfl:=hw1.symm
   clear hw1
   go_wp2_with fail
   go_ret2
   exact ⟨rfl,rfl⟩
end
end Go.Proofs.YtlcipgdnpilkfaaGreatDoor
