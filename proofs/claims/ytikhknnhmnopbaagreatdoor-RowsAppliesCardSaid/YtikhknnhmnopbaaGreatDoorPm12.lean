/-
  Part 12 of what the laws of emul want: EmulScreen, LinksIdx, LinksRefCanon.
-/
import Derived.LoopTactic
import Derived.Test.YtikhknnhmnopbaaGreatDoorPm01
import Derived.Test.YtikhknnhmnopbaaGreatDoorPm09
import Derived.Test.YtikhknnhmnopbaaGreatDoorPm10
import Derived.Test.YtikhknnhmnopbaaGreatDoorPm11
namespace Go.Proofs.YtikhknnhmnopbaaGreatDoor
open Go.RowKit
section
variable {B:Nat} {w:World} {g:Nat} {x:CT} {A:Option Addr} {n c:Nat} {ps:List Int}
def scA (t:Tm) (ttl:ByteArray) (A:Option Addr) (n c:Nat) (A':Option Addr) (m c':Nat):Array Value:=#[.int .i64 t.c,.int .i64 t.r,.slice A n c,.int .i64 t.now.x,.int .i64 t.now.y,.bool t.hid,.int .u8 t.mouse,.string ttl,.slice A' m c']
def ScPost (x:CT) (w:World) (e:Ending) (w':World):Prop :=
 Below w.heap.size w w'∧∃ A c A' c',e=.returned (.agg (scA x.t x.ttl A (canonC x.t.shown.flatten x.t.table).length c A' (canonL x.t.shown.flatten x.t.table).length c'))∧Cx w.heap.size w' A (canonC x.t.shown.flatten x.t.table).length c (canonC x.t.shown.flatten x.t.table)∧Tx w.heap.size w' A' (canonL x.t.shown.flatten x.t.table).length c' (canonL x.t.shown.flatten x.t.table)
theorem Cz.table (h:Cz B w g x):w.cell? ⟨g,110,none⟩=some (.slice x.bA x.bN x.bK)∧w.cell? ⟨g,109,none⟩=some (.string x.ttl):=by
 have hl:(ctH x).length=29:=rfl
 have hm:(x.t.tabs.map Value.bool).length=80:=by rw [List.length_map];exact h.ok.tabs
 constructor
 · refine h.cell ?_
   rw [ctV_is,List.getElem?_append_right (by rw [hl];omega),List.getElem?_append_right (by rw [hl,hm];omega),hl,hm]
   rfl
 · refine h.cell ?_
   rw [ctV_is,List.getElem?_append_right (by rw [hl];omega),List.getElem?_append_right (by rw [hl,hm];omega),hl,hm]
   rfl
def scZ:Array Value:=#[.int .i64 0,.int .i64 0,.slice none 0 0,.int .i64 0,.int .i64 0,.bool false,.int .u8 0,.string ⟨#[]⟩,.slice none 0 0]
theorem scA_one (t:Tm) (ttl:ByteArray) (A:Option Addr) (n c:Nat) (A':Option Addr) (m c':Nat):(scA t ttl A n c A' m c').all (·.oneCell')=true:=by
 rw [Array.all_eq_true_iff_forall_mem]
 intro v hv
 simp only [scA,List.mem_toArray,List.mem_cons,List.not_mem_nil,or_false] at hv
 rcases hv with rfl | rfl | rfl | rfl | rfl | rfl | rfl | rfl | rfl<;>rfl
theorem info56:(Tryz.prog.info? 25).map (·.size)=some 9:=by kernel_rfl
set_option maxRecDepth 100000 in
set_option maxHeartbeats 1600000 in
theorem screen_any (h:Cz B w g x) (hlk:∀ ce∈x.t.shown.flatten,0≤ce.p.lk∧ce.p.lk≤65535):Calls Tryz.prog 51 #[.pointer (some ⟨g,0,none⟩)] w (ScPost x w):=by
 have HZ:=Lib.hid h
 have HS:=Lib.hid (fun w' (hb:Below w.heap.size w w')=>shown_any (h.below hb))
 have HC:=Lib.hid (show ∀ w',Below w.heap.size w w'→Calls Tryz.prog 79 #[.slice (some ⟨x.sb,0,none⟩) x.sN x.sK,.slice x.bA x.bN x.bK] w' (CnPost (canonC x.t.shown.flatten x.t.table) (canonL x.t.shown.flatten x.t.table) w') from fun w' hb=>by
  obtain ⟨h1,h2,h3⟩:=(HZ.out.below hb).sv
  have h4:=(HZ.out.below hb).b
  exact canon_any h1 h4.vs hlk (fun s hs=>by have:=HZ.out.bs s hs;omega) (by omega) (by have:=HZ.out.ok.tbl;have:=h4.len;omega))
 clear h hlk
 obtain ⟨w1,hw1⟩:∃ w1,w1=w.alloc (.cells scZ 25):=⟨_,rfl⟩
 have H1:=Lib.hid (show Below w.heap.size w w1∧w1.heap[w.heap.size]?=some (.cells scZ 25 (0,0))∧w.heap.size<w1.heap.size from by rw [hw1];exact ⟨(Below.refl _ _).alloc (Nat.le_refl _) _,heap_alloc_new w _,by simp⟩)
 go_enter Tryz.func51,Tryz.ntmps51
 unfold scZ at hw1
 go_upto_region 1 with fail
 rw [← hw1]
 clear hw1
 go_wp2_with fail
 refine (HS.out w1 H1.out.1).mono ?_
 rintro e w2 ⟨rfl,hw2⟩
 obtain rfl:=hw2.symm
 clear hw2
 go_wp2_with fail
 have Z1:=HZ.out.below H1.out.1
 obtain ⟨_,_,s2⟩:=Z1.sh
 have c110:=Z1.table.1
 clear Z1
 refine wp_region_noPanic ?_
 refine wp_region_held_drew (S:=fun w'=>Below w1.heap.size w1 w'∧w'.cell? ⟨g,x.so+2,none⟩=some (.slice (some ⟨x.sb,0,none⟩) x.sN x.sK)∧w'.cell? ⟨g,110,none⟩=some (.slice x.bA x.bN x.bK)) (by kernel_rfl) (⟨(Below.refl _ _).drew,s2,c110⟩) (fun hHeld=>?_)
 clear s2 c110
 have HD:=Lib.hid (show Below w1.heap.size w1 w1.drew from (Below.refl _ _).drew)
 generalize w1.drew=w2 at HD hHeld ⊢
 refine tkH 0 (.pointer (some ⟨g,x.so,none⟩)) rfl (.inl ⟨by rfl,fun wz hSz=>?_⟩) hHeld ?_
 · go_simp
 simp only [Act.put,List.getElem_toArray,List.getElem_cons_zero,List.setIfInBounds_toArray,List.set_cons_succ,List.set_cons_zero]
 refine tkH 1 (.pointer (some ⟨g,x.so,none⟩)) rfl (.inl ⟨by rfl,fun wz hSz=>?_⟩) hHeld ?_
 · go_simp
 simp only [Act.put,List.getElem_toArray,List.getElem_cons_succ,List.getElem_cons_zero,List.setIfInBounds_toArray,List.set_cons_succ,List.set_cons_zero]
 refine tkH 2 (.pointer (some ⟨g,x.so+2,none⟩)) rfl (.inl ⟨by rfl,fun wz hSz=>?_⟩) hHeld ?_
 · go_simp
 simp only [Act.put,List.getElem_toArray,List.getElem_cons_succ,List.getElem_cons_zero,List.setIfInBounds_toArray,List.set_cons_succ,List.set_cons_zero]
 refine tkH 3 (.slice (some ⟨x.sb,0,none⟩) x.sN x.sK) rfl (.inl ⟨by rfl,fun wz hSz=>?_⟩) hHeld ?_
 · obtain ⟨_,d1,d2⟩:=hSz
   go_simp
 simp only [Act.put,List.getElem_toArray,List.getElem_cons_succ,List.getElem_cons_zero,List.setIfInBounds_toArray,List.set_cons_succ,List.set_cons_zero]
 refine tkH 4 (.pointer (some ⟨g,0,none⟩)) rfl (.inl ⟨by rfl,fun wz hSz=>?_⟩) hHeld ?_
 · go_simp
 simp only [Act.put,List.getElem_toArray,List.getElem_cons_succ,List.getElem_cons_zero,List.setIfInBounds_toArray,List.set_cons_succ,List.set_cons_zero]
 refine tkH 5 (.pointer (some ⟨g,0,none⟩)) rfl (.inl ⟨by rfl,fun wz hSz=>?_⟩) hHeld ?_
 · go_simp
 simp only [Act.put,List.getElem_toArray,List.getElem_cons_succ,List.getElem_cons_zero,List.setIfInBounds_toArray,List.set_cons_succ,List.set_cons_zero]
 refine tkH 6 (.pointer (some ⟨g,1,none⟩)) rfl (.inl ⟨by rfl,fun wz hSz=>?_⟩) hHeld ?_
 · go_simp
 simp only [Act.put,List.getElem_toArray,List.getElem_cons_succ,List.getElem_cons_zero,List.setIfInBounds_toArray,List.set_cons_succ,List.set_cons_zero]
 refine tkH 7 (.pointer (some ⟨g,110,none⟩)) rfl (.inl ⟨by rfl,fun wz hSz=>?_⟩) hHeld ?_
 · go_simp
 simp only [Act.put,List.getElem_toArray,List.getElem_cons_succ,List.getElem_cons_zero,List.setIfInBounds_toArray,List.set_cons_succ,List.set_cons_zero]
 refine tkH 8 (.slice x.bA x.bN x.bK) rfl (.inl ⟨by rfl,fun wz hSz=>?_⟩) hHeld ?_
 · obtain ⟨_,d1,d2⟩:=hSz
   go_simp
 simp only [Act.put,List.getElem_toArray,List.getElem_cons_succ,List.getElem_cons_zero,List.setIfInBounds_toArray,List.set_cons_succ,List.set_cons_zero]
 refine wpAnyH_ready (rs:=[9]) (by kernel_rfl) (by simp) (AllReadyH.cons rfl (fun K hK=>?_) AllReadyH.nil)
 rw [if_pos (by rfl)]
 go_simp
 refine (HC.out w2 (H1.out.1.trans (HD.out.mono H1.out.1.size))).mono ?_
 rintro e w3 ⟨hb,A1,c1,A2,c2,rfl,hcx,htx⟩
 have hb3:=HD.out.trans (hb.mono HD.out.size)
 have W3:=Lib.hid (And.intro hb3 (And.intro hcx htx))
 have Z3:=Lib.hid (HZ.out.below (H1.out.1.trans (hb3.mono H1.out.1.size)))
 clear hb hb3 hcx htx
 refine hK.out _ _ (⟨W3.out.1,Z3.out.sh.2.2,Z3.out.table.1⟩) (fun hHeld=>?_)
 clear hK K
 try simp only [Act.put,List.getElem_toArray,List.getElem_cons_succ,List.getElem_cons_zero]
 try simp only [List.setIfInBounds_toArray]
 try simp only [List.set_cons_succ]
 try simp only [List.set_cons_zero]
 refine tkH 10 (.tuple #[.slice A1 (canonC x.t.shown.flatten x.t.table).length c1,.slice A2 (canonL x.t.shown.flatten x.t.table).length c2]) rfl (.inl ⟨by rfl,fun wz hSz=>?_⟩) hHeld ?_
 · go_simp
 simp only [Act.put,List.getElem_toArray,List.getElem_cons_succ,List.getElem_cons_zero,List.setIfInBounds_toArray,List.set_cons_succ,List.set_cons_zero]
 refine tkH 11 (.slice A1 (canonC x.t.shown.flatten x.t.table).length c1) rfl (.inl ⟨by rfl,fun wz hSz=>?_⟩) hHeld ?_
 · go_simp
 simp only [Act.put,List.getElem_toArray,List.getElem_cons_succ,List.getElem_cons_zero,List.setIfInBounds_toArray,List.set_cons_succ,List.set_cons_zero]
 refine tkH 12 (.slice A2 (canonL x.t.shown.flatten x.t.table).length c2) rfl (.inl ⟨by rfl,fun wz hSz=>?_⟩) hHeld ?_
 · go_simp
 simp only [Act.put,List.getElem_toArray,List.getElem_cons_succ,List.getElem_cons_zero,List.setIfInBounds_toArray,List.set_cons_succ,List.set_cons_zero]
 refine tkH 13 (.slice A1 (canonC x.t.shown.flatten x.t.table).length c1) rfl (.inl ⟨by rfl,fun wz hSz=>?_⟩) hHeld ?_
 · go_simp
 simp only [Act.put,List.getElem_toArray,List.getElem_cons_succ,List.getElem_cons_zero,List.setIfInBounds_toArray,List.set_cons_succ,List.set_cons_zero]
 refine tkH 14 (.slice A2 (canonL x.t.shown.flatten x.t.table).length c2) rfl (.inl ⟨by rfl,fun wz hSz=>?_⟩) hHeld ?_
 · go_simp
 simp only [Act.put,List.getElem_toArray,List.getElem_cons_succ,List.getElem_cons_zero,List.setIfInBounds_toArray,List.set_cons_succ,List.set_cons_zero]
 refine wpAnyH_done (by kernel_rfl) ?_ _
 refine NoPanic.normal ?_
 obtain ⟨n1,hn1⟩:∃ n1,n1=(canonC x.t.shown.flatten x.t.table).length:=⟨_,rfl⟩
 obtain ⟨n2,hn2⟩:∃ n2,n2=(canonL x.t.shown.flatten x.t.table).length:=⟨_,rfl⟩
 rw [← hn1,← hn2] at W3
 rw [← hn1,← hn2]
 have HN:=Lib.hid (And.intro hn1 hn2)
 clear hn1 hn2
 go_wp2_with fail
 have HS5:=Lib.hid Z3.out
 obtain ⟨s0,s1,_⟩:=Z3.out.sh
 have t109:=Z3.out.table.2
 have e1:w3.cell? ⟨g,1,none⟩=some (.int .i64 x.t.now.x):=Z3.out.cell rfl
 have e2:w3.cell? ⟨g,2,none⟩=some (.int .i64 x.t.now.y):=Z3.out.cell rfl
 have e27:w3.cell? ⟨g,27,none⟩=some (.bool x.t.hid):=Z3.out.cell rfl
 have e28:w3.cell? ⟨g,28,none⟩=some (.int .u8 x.t.mouse):=Z3.out.cell rfl
 refine wp_region_noPanic ?_
 refine wp_region_held_drew (S:=fun w'=>w'.cell? ⟨g,x.so,none⟩=some (.int .i64 x.t.c)∧w'.cell? ⟨g,x.so+1,none⟩=some (.int .i64 x.t.r)∧w'.cell? ⟨g,1,none⟩=some (.int .i64 x.t.now.x)∧w'.cell? ⟨g,2,none⟩=some (.int .i64 x.t.now.y)∧w'.cell? ⟨g,27,none⟩=some (.bool x.t.hid)∧w'.cell? ⟨g,28,none⟩=some (.int .u8 x.t.mouse)∧w'.cell? ⟨g,109,none⟩=some (.string x.ttl)) (by kernel_rfl) (⟨s0,s1,e1,e2,e27,e28,t109⟩) (fun hHeld=>?_)
 clear s0 s1 e1 e2 e27 e28 t109
 have HD3:=Lib.hid (show Below w3.heap.size w3 w3.drew from (Below.refl _ _).drew)
 generalize w3.drew=w4 at HD3 hHeld ⊢
 refine tkH 0 (.pointer (some ⟨g,x.so,none⟩)) rfl (.inl ⟨by rfl,fun wz hSz=>?_⟩) hHeld ?_
 · go_simp
 simp only [Act.put,List.getElem_toArray,List.getElem_cons_zero,List.setIfInBounds_toArray,List.set_cons_succ,List.set_cons_zero]
 refine tkH 1 (.pointer (some ⟨g,x.so,none⟩)) rfl (.inl ⟨by rfl,fun wz hSz=>?_⟩) hHeld ?_
 · go_simp
 simp only [Act.put,List.getElem_toArray,List.getElem_cons_succ,List.getElem_cons_zero,List.setIfInBounds_toArray,List.set_cons_succ,List.set_cons_zero]
 refine tkH 2 (.pointer (some ⟨g,x.so,none⟩)) rfl (.inl ⟨by rfl,fun wz hSz=>?_⟩) hHeld ?_
 · go_simp
 simp only [Act.put,List.getElem_toArray,List.getElem_cons_succ,List.getElem_cons_zero,List.setIfInBounds_toArray,List.set_cons_succ,List.set_cons_zero]
 refine tkH 3 (.int .i64 x.t.c) rfl (.inl ⟨by rfl,fun wz hSz=>?_⟩) hHeld ?_
 · obtain ⟨d0,d1,d2,d3,d4,d5,d6⟩:=hSz
   go_simp
 simp only [Act.put,List.getElem_toArray,List.getElem_cons_succ,List.getElem_cons_zero,List.setIfInBounds_toArray,List.set_cons_succ,List.set_cons_zero]
 refine tkH 4 (.pointer (some ⟨g,x.so,none⟩)) rfl (.inl ⟨by rfl,fun wz hSz=>?_⟩) hHeld ?_
 · go_simp
 simp only [Act.put,List.getElem_toArray,List.getElem_cons_succ,List.getElem_cons_zero,List.setIfInBounds_toArray,List.set_cons_succ,List.set_cons_zero]
 refine tkH 5 (.pointer (some ⟨g,x.so,none⟩)) rfl (.inl ⟨by rfl,fun wz hSz=>?_⟩) hHeld ?_
 · go_simp
 simp only [Act.put,List.getElem_toArray,List.getElem_cons_succ,List.getElem_cons_zero,List.setIfInBounds_toArray,List.set_cons_succ,List.set_cons_zero]
 refine tkH 6 (.pointer (some ⟨g,x.so+1,none⟩)) rfl (.inl ⟨by rfl,fun wz hSz=>?_⟩) hHeld ?_
 · go_simp
 simp only [Act.put,List.getElem_toArray,List.getElem_cons_succ,List.getElem_cons_zero,List.setIfInBounds_toArray,List.set_cons_succ,List.set_cons_zero]
 refine tkH 7 (.int .i64 x.t.r) rfl (.inl ⟨by rfl,fun wz hSz=>?_⟩) hHeld ?_
 · obtain ⟨d0,d1,d2,d3,d4,d5,d6⟩:=hSz
   go_simp
 simp only [Act.put,List.getElem_toArray,List.getElem_cons_succ,List.getElem_cons_zero,List.setIfInBounds_toArray,List.set_cons_succ,List.set_cons_zero]
 refine tkH 8 (.slice A1 n1 c1) rfl (.inl ⟨by rfl,fun wz hSz=>?_⟩) hHeld ?_
 · go_simp
 simp only [Act.put,List.getElem_toArray,List.getElem_cons_succ,List.getElem_cons_zero,List.setIfInBounds_toArray,List.set_cons_succ,List.set_cons_zero]
 refine tkH 9 (.slice A2 n2 c2) rfl (.inl ⟨by rfl,fun wz hSz=>?_⟩) hHeld ?_
 · go_simp
 simp only [Act.put,List.getElem_toArray,List.getElem_cons_succ,List.getElem_cons_zero,List.setIfInBounds_toArray,List.set_cons_succ,List.set_cons_zero]
 refine tkH 10 (.pointer (some ⟨g,0,none⟩)) rfl (.inl ⟨by rfl,fun wz hSz=>?_⟩) hHeld ?_
 · go_simp
 simp only [Act.put,List.getElem_toArray,List.getElem_cons_succ,List.getElem_cons_zero,List.setIfInBounds_toArray,List.set_cons_succ,List.set_cons_zero]
 refine tkH 11 (.pointer (some ⟨g,0,none⟩)) rfl (.inl ⟨by rfl,fun wz hSz=>?_⟩) hHeld ?_
 · go_simp
 simp only [Act.put,List.getElem_toArray,List.getElem_cons_succ,List.getElem_cons_zero,List.setIfInBounds_toArray,List.set_cons_succ,List.set_cons_zero]
 refine tkH 12 (.pointer (some ⟨g,1,none⟩)) rfl (.inl ⟨by rfl,fun wz hSz=>?_⟩) hHeld ?_
 · go_simp
 simp only [Act.put,List.getElem_toArray,List.getElem_cons_succ,List.getElem_cons_zero,List.setIfInBounds_toArray,List.set_cons_succ,List.set_cons_zero]
 refine tkH 13 (.pointer (some ⟨g,1,none⟩)) rfl (.inl ⟨by rfl,fun wz hSz=>?_⟩) hHeld ?_
 · go_simp
 simp only [Act.put,List.getElem_toArray,List.getElem_cons_succ,List.getElem_cons_zero,List.setIfInBounds_toArray,List.set_cons_succ,List.set_cons_zero]
 refine tkH 14 (.pointer (some ⟨g,1,none⟩)) rfl (.inl ⟨by rfl,fun wz hSz=>?_⟩) hHeld ?_
 · go_simp
 simp only [Act.put,List.getElem_toArray,List.getElem_cons_succ,List.getElem_cons_zero,List.setIfInBounds_toArray,List.set_cons_succ,List.set_cons_zero]
 refine tkH 15 (.int .i64 x.t.now.x) rfl (.inl ⟨by rfl,fun wz hSz=>?_⟩) hHeld ?_
 · obtain ⟨d0,d1,d2,d3,d4,d5,d6⟩:=hSz
   go_simp
 simp only [Act.put,List.getElem_toArray,List.getElem_cons_succ,List.getElem_cons_zero,List.setIfInBounds_toArray,List.set_cons_succ,List.set_cons_zero]
 refine tkH 16 (.pointer (some ⟨g,0,none⟩)) rfl (.inl ⟨by rfl,fun wz hSz=>?_⟩) hHeld ?_
 · go_simp
 simp only [Act.put,List.getElem_toArray,List.getElem_cons_succ,List.getElem_cons_zero,List.setIfInBounds_toArray,List.set_cons_succ,List.set_cons_zero]
 refine tkH 17 (.pointer (some ⟨g,0,none⟩)) rfl (.inl ⟨by rfl,fun wz hSz=>?_⟩) hHeld ?_
 · go_simp
 simp only [Act.put,List.getElem_toArray,List.getElem_cons_succ,List.getElem_cons_zero,List.setIfInBounds_toArray,List.set_cons_succ,List.set_cons_zero]
 refine tkH 18 (.pointer (some ⟨g,1,none⟩)) rfl (.inl ⟨by rfl,fun wz hSz=>?_⟩) hHeld ?_
 · go_simp
 simp only [Act.put,List.getElem_toArray,List.getElem_cons_succ,List.getElem_cons_zero,List.setIfInBounds_toArray,List.set_cons_succ,List.set_cons_zero]
 refine tkH 19 (.pointer (some ⟨g,1,none⟩)) rfl (.inl ⟨by rfl,fun wz hSz=>?_⟩) hHeld ?_
 · go_simp
 simp only [Act.put,List.getElem_toArray,List.getElem_cons_succ,List.getElem_cons_zero,List.setIfInBounds_toArray,List.set_cons_succ,List.set_cons_zero]
 refine tkH 20 (.pointer (some ⟨g,2,none⟩)) rfl (.inl ⟨by rfl,fun wz hSz=>?_⟩) hHeld ?_
 · go_simp
 simp only [Act.put,List.getElem_toArray,List.getElem_cons_succ,List.getElem_cons_zero,List.setIfInBounds_toArray,List.set_cons_succ,List.set_cons_zero]
 refine tkH 21 (.int .i64 x.t.now.y) rfl (.inl ⟨by rfl,fun wz hSz=>?_⟩) hHeld ?_
 · obtain ⟨d0,d1,d2,d3,d4,d5,d6⟩:=hSz
   go_simp
 simp only [Act.put,List.getElem_toArray,List.getElem_cons_succ,List.getElem_cons_zero,List.setIfInBounds_toArray,List.set_cons_succ,List.set_cons_zero]
 refine tkH 22 (.pointer (some ⟨g,0,none⟩)) rfl (.inl ⟨by rfl,fun wz hSz=>?_⟩) hHeld ?_
 · go_simp
 simp only [Act.put,List.getElem_toArray,List.getElem_cons_succ,List.getElem_cons_zero,List.setIfInBounds_toArray,List.set_cons_succ,List.set_cons_zero]
 refine tkH 23 (.pointer (some ⟨g,0,none⟩)) rfl (.inl ⟨by rfl,fun wz hSz=>?_⟩) hHeld ?_
 · go_simp
 simp only [Act.put,List.getElem_toArray,List.getElem_cons_succ,List.getElem_cons_zero,List.setIfInBounds_toArray,List.set_cons_succ,List.set_cons_zero]
 refine tkH 24 (.pointer (some ⟨g,1,none⟩)) rfl (.inl ⟨by rfl,fun wz hSz=>?_⟩) hHeld ?_
 · go_simp
 simp only [Act.put,List.getElem_toArray,List.getElem_cons_succ,List.getElem_cons_zero,List.setIfInBounds_toArray,List.set_cons_succ,List.set_cons_zero]
 refine tkH 25 (.pointer (some ⟨g,27,none⟩)) rfl (.inl ⟨by rfl,fun wz hSz=>?_⟩) hHeld ?_
 · go_simp
 simp only [Act.put,List.getElem_toArray,List.getElem_cons_succ,List.getElem_cons_zero,List.setIfInBounds_toArray,List.set_cons_succ,List.set_cons_zero]
 refine tkH 26 (.bool x.t.hid) rfl (.inl ⟨by rfl,fun wz hSz=>?_⟩) hHeld ?_
 · obtain ⟨d0,d1,d2,d3,d4,d5,d6⟩:=hSz
   go_simp
 simp only [Act.put,List.getElem_toArray,List.getElem_cons_succ,List.getElem_cons_zero,List.setIfInBounds_toArray,List.set_cons_succ,List.set_cons_zero]
 refine tkH 27 (.pointer (some ⟨g,0,none⟩)) rfl (.inl ⟨by rfl,fun wz hSz=>?_⟩) hHeld ?_
 · go_simp
 simp only [Act.put,List.getElem_toArray,List.getElem_cons_succ,List.getElem_cons_zero,List.setIfInBounds_toArray,List.set_cons_succ,List.set_cons_zero]
 refine tkH 28 (.pointer (some ⟨g,0,none⟩)) rfl (.inl ⟨by rfl,fun wz hSz=>?_⟩) hHeld ?_
 · go_simp
 simp only [Act.put,List.getElem_toArray,List.getElem_cons_succ,List.getElem_cons_zero,List.setIfInBounds_toArray,List.set_cons_succ,List.set_cons_zero]
 refine tkH 29 (.pointer (some ⟨g,1,none⟩)) rfl (.inl ⟨by rfl,fun wz hSz=>?_⟩) hHeld ?_
 · go_simp
 simp only [Act.put,List.getElem_toArray,List.getElem_cons_succ,List.getElem_cons_zero,List.setIfInBounds_toArray,List.set_cons_succ,List.set_cons_zero]
 refine tkH 30 (.pointer (some ⟨g,28,none⟩)) rfl (.inl ⟨by rfl,fun wz hSz=>?_⟩) hHeld ?_
 · go_simp
 simp only [Act.put,List.getElem_toArray,List.getElem_cons_succ,List.getElem_cons_zero,List.setIfInBounds_toArray,List.set_cons_succ,List.set_cons_zero]
 refine tkH 31 (.int .u8 x.t.mouse) rfl (.inl ⟨by rfl,fun wz hSz=>?_⟩) hHeld ?_
 · obtain ⟨d0,d1,d2,d3,d4,d5,d6⟩:=hSz
   go_simp
 simp only [Act.put,List.getElem_toArray,List.getElem_cons_succ,List.getElem_cons_zero,List.setIfInBounds_toArray,List.set_cons_succ,List.set_cons_zero]
 refine tkH 32 (.pointer (some ⟨g,0,none⟩)) rfl (.inl ⟨by rfl,fun wz hSz=>?_⟩) hHeld ?_
 · go_simp
 simp only [Act.put,List.getElem_toArray,List.getElem_cons_succ,List.getElem_cons_zero,List.setIfInBounds_toArray,List.set_cons_succ,List.set_cons_zero]
 refine tkH 33 (.pointer (some ⟨g,0,none⟩)) rfl (.inl ⟨by rfl,fun wz hSz=>?_⟩) hHeld ?_
 · go_simp
 simp only [Act.put,List.getElem_toArray,List.getElem_cons_succ,List.getElem_cons_zero,List.setIfInBounds_toArray,List.set_cons_succ,List.set_cons_zero]
 refine tkH 34 (.pointer (some ⟨g,1,none⟩)) rfl (.inl ⟨by rfl,fun wz hSz=>?_⟩) hHeld ?_
 · go_simp
 simp only [Act.put,List.getElem_toArray,List.getElem_cons_succ,List.getElem_cons_zero,List.setIfInBounds_toArray,List.set_cons_succ,List.set_cons_zero]
 refine tkH 35 (.pointer (some ⟨g,109,none⟩)) rfl (.inl ⟨by rfl,fun wz hSz=>?_⟩) hHeld ?_
 · go_simp
 simp only [Act.put,List.getElem_toArray,List.getElem_cons_succ,List.getElem_cons_zero,List.setIfInBounds_toArray,List.set_cons_succ,List.set_cons_zero]
 refine tkH 36 (.string x.ttl) rfl (.inl ⟨by rfl,fun wz hSz=>?_⟩) hHeld ?_
 · obtain ⟨d0,d1,d2,d3,d4,d5,d6⟩:=hSz
   go_simp
 simp only [Act.put,List.getElem_toArray,List.getElem_cons_succ,List.getElem_cons_zero,List.setIfInBounds_toArray,List.set_cons_succ,List.set_cons_zero]
 refine tkH 37 (.agg (scA x.t x.ttl A1 n1 c1 A2 n2 c2)) rfl (.inl ⟨by rfl,fun wz hSz=>?_⟩) hHeld ?_
 · unfold scA
   go_simp
 simp only [Act.put,List.getElem_toArray,List.getElem_cons_succ,List.getElem_cons_zero,List.setIfInBounds_toArray,List.set_cons_succ,List.set_cons_zero]
 refine wpAnyH_ready (rs:=[38]) (by kernel_rfl) (by simp) (AllReadyH.cons rfl (fun K hK=>?_) AllReadyH.nil)
 rw [if_pos (by rfl)]
 have h4:w4.heap[w.heap.size]?=some (.cells scZ 25 (0,0)):=(HD3.out.block _ (by have:=H1.out.2.2;have:=W3.out.1.size;omega)).trans ((W3.out.1.block _ H1.out.2.2).trans H1.out.2.1)
 have hlt:=HZ.out.lt
 have Z4:=Z3.out.below HD3.out
 have Z5:Cz B (w4.setRow w.heap.size (scA x.t x.ttl A1 n1 c1 A2 n2 c2)) g x:=Z4.kept (by simp) (fun q hq=>setRow_other _ _ _ _ (by have:=HZ.out.hi q hq;omega))
 have H5:=Lib.hid (show (w4.setRow w.heap.size (scA x.t x.ttl A1 n1 c1 A2 n2 c2)).heap[w.heap.size]?=some (.cells (scA x.t x.ttl A1 n1 c1 A2 n2 c2) 25 (0,0))∧Below w.heap.size w (w4.setRow w.heap.size (scA x.t x.ttl A1 n1 c1 A2 n2 c2)) from ⟨setRow_heap w4 _ _ _ _ _ h4,below_setRow ((H1.out.1.trans (W3.out.1.mono H1.out.1.size)).trans (HD3.out.mono (Nat.le_trans H1.out.1.size W3.out.1.size))) (Nat.le_refl _) _⟩)
 have hot:∀ q,w1.heap.size≤q→(w4.setRow w.heap.size (scA x.t x.ttl A1 n1 c1 A2 n2 c2)).heap[q]?=w4.heap[q]?:=fun q hq=>setRow_other _ _ _ _ (by have:=H1.out.2.2;omega)
 have H6:=Lib.hid hot
 refine wp_store_row 25 (.tmp 2) (.tmp 61) rfl w.heap.size (scA x.t x.ttl A1 n1 c1 A2 n2 c2) rfl rfl 25 scZ h4 info56 rfl (scA_one _ _ _ _ _ _ _ _) ?_
 refine hK.out _ _ ⟨Z5.sh.1,Z5.sh.2.1,Z5.cell rfl,Z5.cell rfl,Z5.cell rfl,Z5.cell rfl,Z5.table.2⟩ (fun hHeld=>?_)
 clear hK K h4 Z4 Z5 hot
 refine wpAnyH_done (by kernel_rfl) ?_ _
 refine NoPanic.normal ?_
 go_wp2_with fail
 refine bodyPost_ret (results_cell_row rfl _ _ w.heap.size 25 (scA x.t x.ttl A1 n1 c1 A2 n2 c2) (0,0) _ rfl H5.out.1 Tryz.underlying25 rfl info56) rfl ?_
 refine ⟨H5.out.2,A1,c1,A2,c2,by rw [← HN.out.1,← HN.out.2],?_,?_⟩
 · rw [← HN.out.1]
   exact ((W3.out.2.1.below HD3.out).keep (fun q hq _=>H6.out q (Nat.le_trans HD.out.size hq))).lower (Nat.le_trans H1.out.1.size HD.out.size)
 · rw [← HN.out.2]
   exact ((W3.out.2.2.below HD3.out).keep (fun q hq _=>H6.out q (Nat.le_trans HD.out.size hq))).lower (Nat.le_trans H1.out.1.size HD.out.size)
end
open Go.RowKit
theorem retIL {a b:Int} (h:a=b):Ending.returned (.int .i64 a)=.returned (.int .i64 b):=by rw [h]
set_option maxHeartbeats 400000 in
theorem idxT_any {w:World} {A:Option Addr} {n c:Nat} {L:List ByteArray} (h:Vs stV w A n L) (s:ByteArray) (hn:n≤140737488351232) :
  Calls Tryz.prog 101 #[.slice A n c,.string s] w fun e w'=>e=.returned (.int .i64 (placeI L s))∧w=w':=by
 have H:=Lib.hid h
 clear h
 go_enter Tryz.func101,Tryz.ntmps101
 go_wp2
 go_loop [8] (fun i=>∃ k:Nat,k≤n∧i=.int .i64 k∧s ∉ L.take k) (fun i=>n-(intOf i).toNat)
 case atStart=>exact ⟨0,Nat.zero_le _,rfl,by simp⟩
 case round =>
  obtain ⟨k,hk,rfl,ho⟩:=hrel
  have HO:=Lib.hid ho
  clear ho
  by_cases hlt:k<n
  · obtain ⟨ad,rfl⟩:=H.out.addr (by omega)
    have hc:=H.out.str hlt
    have HL:=Lib.hid H.out.len
    have HT:=Lib.hid (mem_take_snoc (s:=s) (by rw [HL.out];exact hlt))
    have HP:=Lib.hid (fun (e:sAt L k=s)=>placeI_hit (by rw [HL.out];exact hlt) e HO.out)
    generalize sAt L k=x at hc HT HP
    obtain ⟨B,hB⟩:∃ B,(s.toList == x.toList)=B:=⟨_,rfl⟩
    cases B
    · have HB:=Lib.hid (eqBB_no hB)
      go_wp2
      go_round
      case rel=>exact ⟨k+1,by omega,by go_num,fun e=>(HT.out.1 e).elim HO.out fun e=>HB.out e.symm⟩
      case measure=>simp [intOf];omega
    · have HB:=Lib.hid (HP.out (eqBB_yes hB).symm)
      go_wp2
      go_ret
      exact ⟨retIL HB.out.symm,rfl⟩
  · have HR:Hid (placeI L s=-1):=Lib.hid (placeI_none.2 (by
     have:=HO.out
     rwa [List.take_of_length_le (by rw [H.out.len];omega)] at this))
    go_wp2
    go_ret
    exact ⟨retIL HR.out.symm,rfl⟩
theorem hasT_any {w:World} {A:Option Addr} {n c:Nat} {L:List ByteArray} (h:Vs stV w A n L) (s:ByteArray) (hn:n≤140737488351232) :
  Calls Tryz.prog 85 #[.slice A n c,.string s] w fun e w'=>e=.returned (.bool (decide (0≤placeI L s)))∧w=w':=by
 have H:=Lib.hid h
 clear h
 have h1:=placeI_ge L s
 have h2:=placeI_lt L s
 obtain ⟨z,hz⟩:∃ z,placeI L s=z:=⟨_,rfl⟩
 rw [hz] at h1 h2 ⊢
 have HZ:=Lib.hid hz
 have h3:z≤140737488351232:=by have:=H.out.len;omega
 clear hz h2
 go_enter Tryz.func85,Tryz.ntmps85
 go_wp2_with fail
 refine (idxT_any H.out s hn).mono ?_
 rintro e w' ⟨rfl,rfl⟩
 rw [HZ.out]
 go_wp2_with fail
 go_ret
 exact ⟨rfl,rfl⟩
set_option maxHeartbeats 400000 in
theorem placeT_any {w:World} {A:Option Addr} {n c:Nat} {L:List ByteArray} (h:Vs stV w A n L) (s:ByteArray) (hn:n≤140737488351232) :
  Calls Tryz.prog 91 #[.slice A n c,.string s] w fun e w'=>e=.returned (.int .i64 (placeI L s))∧w=w':=by
 have H:=Lib.hid h
 clear h
 go_enter Tryz.func91,Tryz.ntmps91
 go_wp2
 go_loop [5] (fun i=>∃ k:Nat,k≤n∧i=.int .i64 k∧s ∉ L.take k) (fun i=>n-(intOf i).toNat)
 case atStart=>exact ⟨0,Nat.zero_le _,rfl,by simp⟩
 case round =>
  obtain ⟨k,hk,rfl,ho⟩:=hrel
  have HO:=Lib.hid ho
  clear ho
  by_cases hlt:k<n
  · obtain ⟨ad,rfl⟩:=H.out.addr (by omega)
    have hc:=H.out.str hlt
    have HL:=Lib.hid H.out.len
    have HT:=Lib.hid (mem_take_snoc (s:=s) (by rw [HL.out];exact hlt))
    have HP:=Lib.hid (fun (e:sAt L k=s)=>placeI_hit (by rw [HL.out];exact hlt) e HO.out)
    generalize sAt L k=x at hc HT HP
    obtain ⟨B,hB⟩:∃ B,(x.toList == s.toList)=B:=⟨_,rfl⟩
    cases B
    · have HB:=Lib.hid (eqBB_no hB)
      go_wp2
      go_round
      case rel=>exact ⟨k+1,by omega,by go_num,fun e=>(HT.out.1 e).elim HO.out HB.out⟩
      case measure=>simp [intOf];omega
    · have HB:=Lib.hid (HP.out (eqBB_yes hB))
      go_wp2
      go_ret
      exact ⟨retIL HB.out.symm,rfl⟩
  · have HR:Hid (placeI L s=-1):=Lib.hid (placeI_none.2 (by
     have:=HO.out
     rwa [List.take_of_length_le (by rw [H.out.len];omega)] at this))
    go_wp2
    go_ret
    exact ⟨retIL HR.out.symm,rfl⟩
open Go.RowKit
def partD (cs:List Ce) (t:List ByteArray) (k:Nat):List Ce:=(cs.take k).map (fun c=>setLk c (numI (canonL cs t) (leadsS t c.p.lk))) ++ List.replicate (cs.length-k) ce0
theorem partD_len (cs:List Ce) (t:List ByteArray) {k:Nat} (hk:k≤cs.length):(partD cs t k).length=cs.length:=by simp [partD];omega
theorem partD_zero (cs:List Ce) (t:List ByteArray):partD cs t 0=List.replicate cs.length ce0:=by simp [partD]
theorem partD_all (cs:List Ce) (t:List ByteArray):partD cs t cs.length=canonC cs t:=by simp [partD,canonC]
theorem partD_step {cs:List Ce} {t:List ByteArray} {k:Nat} (hk:k<cs.length) :
  (partD cs t k).set k (setLk (cAt cs k) (numI (canonL cs t) (leadsS t (cAt cs k).p.lk)))=partD cs t (k+1):=by
 unfold partD
 have hl:((cs.take k).map (fun c=>setLk c (numI (canonL cs t) (leadsS t c.p.lk)))).length=k:=by simp;omega
 have hr:List.replicate (cs.length-k) ce0=ce0 :: List.replicate (cs.length-(k+1)) ce0:=by
  rw [← List.replicate_succ]
  congr 1
  omega
 rw [List.set_append_right _ _ (by omega),hl,Nat.sub_self,hr,List.set_cons_zero,List.take_succ_eq_append_getElem hk,List.map_append,List.append_assoc]
 rw [cAt_lt hk]
 rfl
theorem cAt_setK {C:List Ce} {k:Nat} (hk:k<C.length) (c:Ce):cAt (C.set k c) k=c:=by
 rw [cAt_lt (by rw [List.length_set];exact hk),List.getElem_set_self]
theorem wpList_store_lk {w:World} {ops:Array Oper} {rest:List Oper} {o:Oper} {a:Act} {Q:Exit→Act→World→Prop} (hgd:o.guard=none) (x y:Operand) (ho:o.op=.store 39 x y)
  (g off k:Nat) (z:Int) (hx:a.eval x=.pointer (some ⟨g,off,none⟩)) (hoff:off=k*6+5) (hy:a.eval y=.int .u16 z) (C:List Ce) (hR:Rw ceV 43 w g C) (hk:k<C.length)
  (h:∀ w',Rw ceV 43 w' g (C.set k (setLk (cAt C k) z))→w.grownBy w' (some g)→wpList Tryz.prog ops Q rest (a.put o.dst undef) w'):wpList Tryz.prog ops Q (o :: rest) a w:=by
 subst hoff
 have hc:=hR.cell (rowV_get ceV_len (getElem?_cAt hk) (j:=5) rfl)
 have hf:=hR.free (k*6+5)
 have hrun:(Instr.storeAt 39 (.pointer (some ⟨g,k*6+5,none⟩)) (.int .u16 z)).run Tryz.prog w=.ok () (w.setCell ⟨g,k*6+5,none⟩ (.int .u16 z)):=by
  simp [go_sem,hc,hf]
 refine wpList_plain hgd fun K hK=>?_
 unfold Oper.wp
 simp [execOp,ho,hx,hy,hrun,Result.andThen]
 exact hK _ _ (h _ (hR.setLk hk z) (grownBy_set w ⟨g,k*6+5,none⟩ _))
structure Rl (b:Nat) (A7:Option Addr) (m c7:Nat) (l:List ByteArray) (w wr:World):Prop where
 tx:Tx b wr A7 m c7 l
 bel:Below b w wr
 ge:b≤wr.heap.size
theorem Rl.more {b m c7 c':Nat} {A7 A':Option Addr} {l:List ByteArray} {w wr w3:World} {x:ByteArray} (h:Rl b A7 m c7 l w wr) (hown:Tx b w3 A' (m+1) c' (l ++ [x])) (hg:(wr.alloc (.cells #[.string x] 9)).grownBy w3 (Value.slice A7 m c7).ownBlock):Rl b A' (m+1) c' (l ++ [x]) w w3:=by
 have hge:=h.ge
 have hs3:=hg.size
 simp at hs3
 exact ⟨hown,(h.bel.alloc hge _).grown hg (by simp;omega) fun k hk=>h.tx.ownB k hk,by omega⟩
structure Rc (b g:Nat) (C:List Ce) (A7:Option Addr) (m c7:Nat) (l:List ByteArray) (w wr:World):Prop where
 rl:Rl b A7 m c7 l w wr
 row:Rw ceV 43 wr g C
 ge:b≤g
theorem rw_not_tx {base g n c:Nat} {w:World} {A:Option Addr} {C:List Ce} {L:List ByteArray} (h:Rw ceV 43 w g C) (h':Tx base w A n c L):(Value.slice A n c).ownBlock≠some g:=by
 intro hk
 obtain ⟨r,hR⟩:=h
 rcases h'.own.2 with ⟨h1,_⟩ | ⟨g2,cap,cur,hv,_,hg,_⟩
 · rw [h1] at hk;cases hk
 · rw [hv] at hk
   injection hk with hk
   have hk':g2=g:=hk
   subst hk'
   rw [hR] at hg
   injection hg with hg
   injection hg with _ hg _
   exact absurd hg (by decide)
theorem Rc.turn {b g m c7:Nat} {C C':List Ce} {A7:Option Addr} {l:List ByteArray} {w wr w2:World} (h:Rc b g C A7 m c7 l w wr) (hR:Rw ceV 43 w2 g C') (hg:wr.grownBy w2 (some g)):Rc b g C' A7 m c7 l w w2:=by
 have hge:=h.rl.ge
 have hs:=hg.size
 refine ⟨⟨h.rl.tx.grown hg fun g2 e e2=>?_,h.rl.bel.grown hg hge fun k hk=>by injection hk with hk;have:=h.ge;omega,by omega⟩,hR,h.ge⟩
 injection e2 with e2
 exact rw_not_tx h.row h.rl.tx (by rw [e,e2];rfl)
set_option maxHeartbeats 4000000 in
theorem refCanon_any {w:World} {A A':Option Addr} {n c m c':Nat} {cs:List Ce} {L:List ByteArray} (h:Vs ceV w A n cs) (h':Vs stV w A' m L) (hl:∀ x∈cs,0≤x.p.lk∧x.p.lk≤65535) (hs:∀ s∈L,s.size≤140737488351232) (hn:n≤60000) (hm:m≤60000) :
  Calls Tryz.prog 68 #[.slice A n c,.slice A' m c'] w (CnPost (canonC cs L) (canonL cs L) w):=by
 obtain rfl:=h.len
 have hmk:=make_any (P:=Tryz.prog) 22 Tryz.underlying22 ce0 ceV_len (by omega) (b8:=20) (by omega) infoCe3 cs.length (by omega)
 have H:=Lib.hid (And.intro h h')
 have HL:=Lib.hid (And.intro hl hs)
 clear h h' hl hs
 obtain ⟨b,hb⟩:∃ b,b=w.heap.size:=⟨_,rfl⟩
 have HB:=Lib.hid hb
 clear hb
 go_enter Tryz.func68,Tryz.ntmps68
 go_wp2
 have HS:Hid (Rl b (some ⟨b,0,none⟩) 0 0 (canonL (cs.take 0) L) w (w.alloc (.cells #[] 9))):=by
  refine Lib.hid ⟨?_,by rw [HB.out];exact (Below.refl _ _).alloc (Nat.le_refl _) _,by simp [HB.out]⟩
  rw [HB.out]
  exact Tx.mk' (World.ownsRow_lit w #[] 0 (Nat.le_refl _) (by unfold maxLen;omega) rfl)
 rw [← HB.out] at ⊢
 generalize w.alloc (.cells #[] 9)=w1 at HS ⊢
 go_loopw [6,7] (fun o i wr=>∃ (k m7 c7:Nat) (A7:Option Addr),k≤cs.length∧m7≤k∧i=.int .i64 k∧o=.slice A7 m7 c7∧Rl b A7 m7 c7 (canonL (cs.take k) L) w wr) (fun _ i _=>cs.length-(intOf i).toNat)
 case atStart=>exact ⟨0,0,0,_,Nat.zero_le _,Nat.le_refl _,rfl,rfl,HS.out⟩
 case round =>
  obtain ⟨k,m7,c7,A7,hk,hmk7,rfl,rfl,hX⟩:=hrel
  have Y:=Lib.hid hX
  clear hX HS
  by_cases hlt:k<cs.length
  · have hb':=Below.mono Y.out.bel (show w.heap.size≤b by rw [HB.out];exact Nat.le_refl _)
    have hv:=H.out.2.below hb'
    obtain ⟨ad,rfl⟩:=H.out.1.addr (by omega)
    obtain ⟨_,_,_,_,_,hc5⟩:=(H.out.1.below hb').six hlt
    have hlk:=HL.out.1 (cAt cs k) (by rw [cAt_lt hlt];exact List.getElem_mem _)
    have HCL:=Lib.hid (canonL_take (cs:=cs) (t:=L) hlt)
    have HV:=Lib.hid hv
    clear hv hb'
    generalize (cAt cs k).p.lk=z at hlk hc5 HCL
    have hz0:=hlk.1
    have hz1:=hlk.2
    clear hlk
    go_wp2_with fail
    refine (leadsT_any HV.out z hz0 hz1 (by omega) HL.out.2).mono ?_
    rintro e w' ⟨rfl,rfl⟩
    generalize leadsS L z=x at HCL ⊢
    obtain ⟨l,hl⟩:∃ l,canonL (cs.take k) L=l:=⟨_,rfl⟩
    rw [hl] at HCL Y
    clear hl
    by_cases hx:x=eT
    · have he:=emp_yes hx
      have HN:Hid (Rl b A7 m7 c7 (canonL (cs.take (k+1)) L) w wr):=Lib.hid (by rw [HCL.out,addT_old (Or.inl hx)];exact Y.out)
      clear hx
      go_wp2_with fail
      go_roundw
      case rel=>exact ⟨k+1,m7,c7,A7,by omega,by omega,by go_num,rfl,HN.out⟩
      case measure=>simp [intOf];omega
    · have he:=emp_no hx
      have HX:=Lib.hid hx
      clear hx
      go_wp2_with fail
      refine (placeT_any Y.out.tx.vs x (by omega)).mono ?_
      rintro e w' ⟨rfl,rfl⟩
      by_cases hp:placeI l x=-1
      · have HP:=Lib.hid (placeI_none.1 hp)
        rw [hp]
        clear hp
        go_wp2_with (at_builtin;refine wpList_appT _ rfl _ _ rfl b A7 m7 c7 l rfl (Y.out.tx.below ((Below.refl _ _).alloc (Nat.le_refl _) _)) (some ⟨wr.heap.size,0,none⟩) 1 1 (m7+1) rfl [x] rfl (litT wr x) (by omega) (by have:=Y.out.ge;simp;omega) ?_;intro A2 c2 w3 hown hg3)
        have HN:Hid (Rl b A2 (m7+1) c2 (canonL (cs.take (k+1)) L) w w3):=Lib.hid (by rw [HCL.out,addT_new HX.out HP.out];exact Y.out.more hown hg3)
        clear hown hg3
        go_wp2_with fail
        go_roundw
        case rel=>exact ⟨k+1,m7+1,c2,A2,by omega,by omega,by go_num,rfl,HN.out⟩
        case measure=>simp [intOf];omega
      · have hp0:0≤placeI l x:=by have:=placeI_ge l x;omega
        have HN:Hid (Rl b A7 m7 c7 (canonL (cs.take (k+1)) L) w wr):=Lib.hid (by rw [HCL.out,addT_old (Or.inr (mem_place.1 hp))];exact Y.out)
        clear hp
        generalize placeI l x=y at hp0 ⊢
        go_wp2_with fail
        go_roundw
        case rel=>exact ⟨k+1,m7,c7,A7,by omega,by omega,by go_num,rfl,HN.out⟩
        case measure=>simp [intOf];omega
  · have e:cs.take k=cs:=List.take_of_length_le (by omega)
    rw [e] at Y
    obtain rfl:=Y.out.tx.len
    clear e
    go_wp2
    obtain ⟨g,hg⟩:∃ g,g=wr.heap.size:=⟨_,rfl⟩
    rw [← hg]
    have HS2:Hid (Rc b g (partD cs L 0) A7 (canonL cs L).length c7 (canonL cs L) w (wr.alloc (.cells (rowV ceV (List.replicate cs.length ce0)).toArray 43))):=Lib.hid (by
     have hge:=Y.out.ge
     refine ⟨⟨Y.out.tx.below ((Below.refl _ _).alloc (Nat.le_refl _) _),Y.out.bel.alloc hge _,by simp;omega⟩,?_,by omega⟩
     rw [partD_zero,hg]
     exact made_rw wr 43 (List.replicate cs.length ce0))
    clear hg
    generalize wr.alloc (.cells (rowV ceV (List.replicate cs.length ce0)).toArray 43)=w2 at HS2 ⊢
    go_loopw [44] (fun i wr=>∃ (k:Nat),k≤cs.length∧i=.int .i64 k∧Rc b g (partD cs L k) A7 (canonL cs L).length c7 (canonL cs L) w wr) (fun i _=>cs.length-(intOf i).toNat)
    case atStart=>exact ⟨0,Nat.zero_le _,rfl,HS2.out⟩
    case round =>
     obtain ⟨k,hk,rfl,hX⟩:=hrel
     have Y:=Lib.hid hX
     clear hX HS2
     by_cases hlt:k<cs.length
     · obtain ⟨ad,rfl⟩:=H.out.1.addr (by omega)
       have HSX:Hid (∀ wx,Below b w wx→Six wx (ad.add (k*6)) (cAt cs k)):=Lib.hid (fun wx hb=>(H.out.1.below (Below.mono hb (by rw [HB.out];exact Nat.le_refl _))).six hlt)
       have HVX:Hid (∀ wx,Below b w wx→Vs stV wx A' m L):=Lib.hid (fun wx hb=>H.out.2.below (Below.mono hb (by rw [HB.out];exact Nat.le_refl _)))
       obtain ⟨hc0,hc1,hc2,hc3,hc4,hc5⟩:=HSX.out _ Y.out.rl.bel
       have hlk:=HL.out.1 (cAt cs k) (by rw [cAt_lt hlt];exact List.getElem_mem _)
       have HST:=Lib.hid (partD_step (cs:=cs) (t:=L) hlt)
       have HCN:Hid ((partD cs L k).length=cs.length):=Lib.hid (partD_len cs L hk)
       have HML:Hid ((canonL cs L).length≤cs.length):=Lib.hid (canonL_cells cs L)
       generalize hC:partD cs L k=C at HST HCN Y
       clear hC
       generalize hx:cAt cs k=x at HSX hc0 hc1 hc2 hc3 hc4 hc5 hlk HST
       clear hx
       have hz0:=hlk.1
       have hz1:=hlk.2
       clear hlk
       go_wp2_with (first
        | (refine wpList_store_V rfl 43 (.tmp 53) (.tmp 52) rfl ceV_len one_ce infoCe g _ k x _ rfl rfl rfl rfl 43 C Y.out.row (by rw [HCN.out];exact hlt) ?_;intro w3 hR3 hg3;have Y3:=Lib.hid (Y.out.turn hR3 hg3);clear hR3 hg3 Y hc0 hc1 hc2 hc3 hc4 hc5)
        | (refine wpList_store_lk rfl (.tmp 58) _ rfl g _ k 0 rfl rfl rfl _ Y3.out.row (by rw [List.length_set,HCN.out];exact hlt) ?_;intro w4 hR4 hg4;have Y4:=Lib.hid (Y3.out.turn hR4 hg4);clear hR4 hg4 Y3;rw [cAt_setK (by rw [HCN.out];exact hlt),List.set_set] at Y4;obtain ⟨_,_,_,_,_,hd5⟩:=HSX.out w4 Y4.out.rl.bel;have HV:=HVX.out w4 Y4.out.rl.bel))
       refine (leadsT_any HV x.p.lk hz0 hz1 (by omega) HL.out.2).mono ?_
       rintro e w' ⟨rfl,rfl⟩
       generalize leadsS L x.p.lk=y at HST ⊢
       by_cases hy:y=eT
       · have he:=emp_yes hy
         have HN:Hid (Rc b g (partD cs L (k+1)) A7 (canonL cs L).length c7 (canonL cs L) w w4):=Lib.hid (by
          have h1:=HST.out
          unfold numI at h1
          rw [if_pos hy] at h1
          rw [← h1]
          exact Y4.out)
         clear hy Y4 HV
         go_wp2_with fail
         go_roundw
         case rel=>exact ⟨k+1,by omega,by go_num,HN.out⟩
         case measure=>simp [intOf];omega
       · have he:=emp_no hy
         have HY:=Lib.hid hy
         clear hy HV
         go_wp2_with fail
         refine (placeT_any Y4.out.rl.tx.vs y (by have:=HML.out;omega)).mono ?_
         rintro e w' ⟨rfl,rfl⟩
         have q0:=placeI_ge (canonL cs L) y
         have q1:=placeI_lt (canonL cs L) y
         have q2:placeI (canonL cs L) y≤60000:=by have:=HML.out;omega
         clear q1
         have HNU:Hid (numI (canonL cs L) y=placeI (canonL cs L) y+1):=Lib.hid (by unfold numI;rw [if_neg HY.out])
         generalize placeI (canonL cs L) y=q at q0 q2 HNU ⊢
         have q3:0≤q+1:=by omega
         go_wp2_with (refine wpList_store_lk rfl (.tmp 78) (.tmp 75) rfl g _ k _ rfl rfl rfl _ Y4.out.row (by rw [List.length_set,HCN.out];exact hlt) ?_;intro w5 hR5 hg5;have Y5:=Lib.hid (Y4.out.turn hR5 hg5);clear hR5 hg5)
         have HN:Hid (Rc b g (partD cs L (k+1)) A7 (canonL cs L).length c7 (canonL cs L) w w5):=Lib.hid (by
          have h1:=Y5.out
          rw [cAt_setK (by rw [HCN.out];exact hlt),List.set_set] at h1
          rw [← HST.out,HNU.out]
          exact h1)
         clear Y4 Y5
         go_wp2_with fail
         go_roundw
         case rel=>exact ⟨k+1,by omega,by go_num,HN.out⟩
         case measure=>simp [intOf];omega
     · obtain rfl:k=cs.length:=by omega
       have X:CnPost (canonC cs L) (canonL cs L) w (.returned (.tuple #[.slice (some ⟨g,0,none⟩) cs.length cs.length,.slice A7 (canonL cs L).length c7])) wr:=by
        have h1:=Y.out
        rw [partD_all] at h1
        have e2:=canonC_len cs L
        have hge:=h1.ge
        rw [HB.out] at h1 hge
        refine ⟨h1.rl.bel,some ⟨g,0,none⟩,cs.length,A7,c7,by rw [e2],⟨rfl,by rw [e2];exact Nat.le_refl _,by unfold maxLen;omega,fun _=>⟨g,rfl,hge,h1.row⟩⟩,h1.rl.tx⟩
       clear Y
       go_wp2_with fail
       go_ret2
       exact X
end Go.Proofs.YtikhknnhmnopbaaGreatDoor
