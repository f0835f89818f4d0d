/-
  What the proof of YtnjkmmmfhponlaaGreatU2 goes by, part 11 of 11: contracts and plain facts; each part begins with its own sentence. No conditions beyond each theorem's own.
-/
import Derived.Test.YtnjkmmmfhponlaaGreatT10
namespace Go.Proofs.YtnjkmmmfhponlaaGreat
open Go.RowKit
section
open Go.Shelf
attribute [local go_sem] Oper.semAt_some
def keyOk (s:Mst) (a:Int) (ps:List (Int × Int)) (i:Int):Bool:=decide (i≤0) || (s.look (a+4+i) == ((partL ps i).headD (0,0)).1)
def idealF (s:Mst):Nat→Int→List (Int × Int)→Bool
 | 0,x,ps=>if kd x=1 then ps.isEmpty else if kd x=2 then ps.length == 1 else false
 | f+1,x,ps=>if kd x=1 then ps.isEmpty else if kd x=2 then ps.length == 1 else if kd x=3 then newB s (ad x) ps.length && (slotsL s x).all (fun p=>keyOk s (ad x) ps p.1 && idealF s f (s.look p.2) (partL ps p.1)) else false
def kidB (s:Mst) (f:Nat) (x:Int) (ps:List (Int × Int)) (p:Int × Int):Bool:=keyOk s (ad x) ps p.1 && idealF s f (s.look p.2) (partL ps p.1)
theorem idealF_succ (s:Mst) (f:Nat) (x:Int) (ps:List (Int × Int)):idealF s (f+1) x ps=if kd x=1 then ps.isEmpty else if kd x=2 then ps.length == 1 else if kd x=3 then newB s (ad x) ps.length && (slotsL s x).all (kidB s f x ps) else false:=rfl
def IdealC (f:Nat):Prop:=∀ (w:World) (b:Nat) (s:Mst) (_:PM w b s) (_:s.ok) (x:Int) (_:I64 x) (_:kd x=3→Wf s f x) (ps:List (Int × Int)) (M:Nat) (_:ps.length=M) (_:M≤1000000) (la:Option Addr) (lc:Nat) (_:PReads w la ps) (_:M≤lc) (_:lc≤maxLen) (r:Bool) (_:idealF s f x ps=r),
  Calls Tryz.prog 99 #[.pointer (some ⟨b,0,none⟩),.int .i64 x,.slice la M lc] w fun e w'=>e=.returned (.bool r)∧Kept w w'
set_option maxHeartbeats 4000000 in
set_option maxRecDepth 20000 in
theorem idealInner_p (f:Nat) (ih:IdealC f) (w:World) (b:Nat) (s:Mst) (h:PM w b s) (ho:s.ok) (x:Int) (k3:kd x=3) (hw:Wf s (f+1) x) (ps:List (Int × Int)) (M:Nat) (hM:ps.length=M) (hM2:M≤1000000) (la:Option Addr) (lc:Nat) (hr:PReads w la ps) (hlc:M≤lc) (hlm:lc≤maxLen) (r:Bool) (e1:(newB s (ad x) ps.length && (slotsL s x).all (kidB s f x ps))=r) :
  Calls Tryz.prog 137 #[.pointer (some ⟨b,0,none⟩),.int .i64 x,.slice la M lc] w fun e w'=>e=.returned (.bool r)∧Kept w w':=by
 unfold maxLen at hlm
 obtain ⟨hwh,hwk⟩:=hw
 obtain ⟨n,hn⟩:∃ n,w.heap.size=n:=⟨_,rfl⟩
 obtain ⟨p,hp⟩:∃ p,ad x=p:=⟨_,rfl⟩
 have pr:=ad_range x
 rw [hp] at pr
 obtain ⟨a,rfl⟩:∃ a:Nat,p=(a:Int):=⟨p.toNat,by omega⟩
 have a2:(a:Int)≤65536:=pr.2
 have HP:=gh hp
 have H:=gh h
 have HO:=gh ho
 have HX:=gh hwh.i64
 have HWH:=gh hwh
 have HWK:=gh hwk
 have HRD:=gh hr
 have HMM:=gh hM
 have IH:=gh ih
 have HN:=gh hn
 have e0:tgt s x=x:=by rw [tgt,if_neg (by rw [k3];decide)]
 have E0:=gh e0
 have K3:=gh k3
 have HE:Hid ((newB s (a:Int) (M:Int) && (slotsL s x).all (kidB s f x ps))=r):=gh (by rw [← e1,hp,hM])
 obtain ⟨W1,hW1⟩:∃ W1,((w.alloc (.cells #[.pointer (some ⟨b,0,none⟩)] 36)).alloc (.cells #[.slice la M lc] 44)).alloc (.cells #[.bool false] 4)=W1:=⟨_,rfl⟩
 have z1:W1.heap.size=n+3:=by rw [← hW1];simp [hn]
 have t1:Kept w W1:=by rw [← hW1];exact (((Kept.refl w).alloc _).alloc _).alloc _
 have bx:∀ (X:World) (T:TypeId) (v:Value) (m:Nat),X.heap.size=m→Boxed (X.alloc (.cells #[v] T)) m T v:=fun X T v m e=>by rw [← e];exact Boxed.new X T v
 have bM:Boxed W1 n 36 (.pointer (some ⟨b,0,none⟩)):=by rw [← hW1];exact ((bx w 36 _ n hn).alloc _).alloc _
 have bP:Boxed W1 (n+1) 44 (.slice la M lc):=by rw [← hW1];exact (bx _ 44 _ (n+1) (by simp [hn])).alloc _
 have bR:Boxed W1 (n+2) 4 (.bool false):=by rw [← hW1];exact bx _ 4 _ (n+2) (by simp [hn])
 have K1:=gh t1
 have Z1:=gh z1
 have BM:=gh bM
 have BP:=gh bP
 have BR:=gh bR
 clear h ho hwh hwk hr hM ih e0 k3 e1 t1 bx bM bP bR z1 hp pr
 refine calls_marks Tryz.func137 rfl ?_
 simp only [Tryz.ntmps137,List.size_toArray,List.length_cons,List.length_nil,Nat.reduceAdd,Nat.reduceSub,Array.replicate_succ,Array.replicate_zero,List.push_toArray,List.append_toArray,List.nil_append,List.cons_append]
 go_wp2_with (fail)
 clear hW1 hn
 obtain ⟨V,hV⟩:∃ V,W1.drew=V:=⟨_,rfl⟩
 have kV:Kept W1 V:=by rw [← hV];exact Kept.drew _
 have KV:=gh kV
 have HVV:=gh hV
 have x0:∀ u:Wd (fun U=>Kept V U),u.w.cell? ⟨n+1,0,none⟩=some (.slice la M lc):=fun u=>u.ok.cell (kV.cell BP.out.cell id) id
 have zv:V.heap.size=n+3:=by rw [← hV];exact Z1.out
 have BXa:Hid (∀ u v:Value,Boxed ((V.alloc (.cells #[u] 3)).alloc (.cells #[v] 3)) (n+3) 3 u):=gh (fun u v=>by rw [← zv];exact (Boxed.new V 3 u).alloc _)
 have BXb:Hid (∀ u v:Value,Boxed ((V.alloc (.cells #[u] 3)).alloc (.cells #[v] 3)) (n+3+1) 3 v):=gh (fun u v=>by
  have:=Boxed.new (V.alloc (.cells #[u] 3)) 3 v
  rwa [World.size_alloc,zv] at this)
 clear kV hV
 refine Code.wp_mono (Q:=fun e a' X=>e=.normal∧∃ b7 b8,a'={ tmps:=#[.pointer (some ⟨b,0,none⟩),.int .i64 x,.slice la M lc,.pointer (some ⟨n,0,none⟩),undef,.pointer (some ⟨n+1,0,none⟩),.pointer (some ⟨n+2,0,none⟩),.pointer (some ⟨b7,0,none⟩),.pointer (some ⟨b8,0,none⟩),undef,undef,undef,undef,.int .i64 x,.int .i64 (a:Int),.slice la M lc,.int .i64 (M:Int),undef,undef,undef,undef,undef,undef,undef,undef,undef,undef,undef,undef,undef,undef,undef,undef,undef,undef,undef,undef,undef,undef,undef,undef,undef,undef,undef,undef,undef,undef,undef,undef,undef,undef,undef,undef,undef,undef,undef,undef,undef,undef],defers:=[] }∧Kept V X∧Boxed X b7 3 (.int .i64 (a:Int))∧Boxed X b8 3 (.int .i64 (M:Int))∧n+3≤b7∧n+3≤b8) ?cont ?reg
 case reg=>
  refine region_tree (fun U=>Kept V U) (by kernel_rfl) (by rw [HVV.out];exact Kept.refl _) (fun _=>?_)
  rw [HVV.out]
  refine aq 0 #[true,false,false,false,false,false,false,false] rfl rfl (by kernel_rfl) (by kernel_rfl) (Wd.mem (Kept.refl _)) ?_
  go_big_quiet_step (fail)
  refine wpQuiet_nil ?_
  refine aq 2 #[true,false,true,false,false,false,false,false] rfl rfl (by kernel_rfl) (by kernel_rfl) (Wd.mem (Kept.refl _)) ?_
  go_big_quiet_step (fail)
  refine wpQuiet_nil ?_
  refine aq 3 #[true,false,true,true,false,false,false,false] rfl rfl (by kernel_rfl) (by kernel_rfl) (Wd.mem (Kept.refl _)) ?_
  go_big_quiet_step (fail)
  refine wpQuiet_nil ?_
  refine al [1,4,5] (by kernel_rfl) (fun i hi=>?_)
  simp only [List.mem_cons,List.not_mem_nil,or_false] at hi
  rcases hi with rfl | rfl | rfl
  ·refine ⟨_,#[true,true,true,true,false,false,false,false],rfl,by kernel_rfl,?_⟩
   gi_wp2_with (fail)
   refine ⟨trivial,?_⟩
   refine (callsIn_wide.2 (ak_p _ x a HX.out HP.out)).mono ?_
   rintro e U ⟨rfl,rfl⟩
   gi_wp2_with (fail)
   refine ⟨Wd.mem ?_,?_⟩
   ·first | exact Kept.refl _ | exact (Kept.refl _).alloc _ | exact ((Kept.refl _).alloc _).alloc _
   refine al [4,5] (by kernel_rfl) (fun i hi=>?_)
   simp only [List.mem_cons,List.not_mem_nil,or_false] at hi
   rcases hi with rfl | rfl
   ·refine ⟨_,#[true,true,true,true,true,false,false,false],rfl,by kernel_rfl,?_⟩
    gi_wp2
    refine ⟨Wd.mem ?_,?_⟩
    ·first | exact (Kept.refl _).alloc _ | exact ((Kept.refl _).alloc _).alloc _
    refine al [5] (by kernel_rfl) (fun i hi=>?_)
    obtain rfl:i=5:=by simpa using hi
    refine ⟨_,#[true,true,true,true,true,true,false,false],rfl,by kernel_rfl,?_⟩
    gi_wp2
    refine ⟨Wd.mem ?_,?_⟩
    ·first | exact (Kept.refl _).alloc _ | exact ((Kept.refl _).alloc _).alloc _
    refine al [6] (by kernel_rfl) (fun i hi=>?_)
    obtain rfl:i=6:=by simpa using hi
    refine ⟨_,#[true,true,true,true,true,true,true,false],rfl,by kernel_rfl,?_⟩
    gi_wp2
    refine ⟨Wd.mem ?_,?_⟩
    ·first | exact (Kept.refl _).alloc _ | exact ((Kept.refl _).alloc _).alloc _
    refine al [7] (by kernel_rfl) (fun i hi=>?_)
    obtain rfl:i=7:=by simpa using hi
    refine ⟨_,#[true,true,true,true,true,true,true,true],rfl,by kernel_rfl,?_⟩
    gi_wp2
    refine ⟨Wd.mem ?_,?_⟩
    ·first | exact (Kept.refl _).alloc _ | exact ((Kept.refl _).alloc _).alloc _
    refine adone (by kernel_rfl) ?_
    refine ⟨rfl,_,_,rfl,((Kept.refl _).alloc _).alloc _,?_,?_,by omega,by omega⟩
    ·first | exact BXa.out _ _ | exact BXb.out _ _
    ·first | exact BXa.out _ _ | exact BXb.out _ _
   ·refine ⟨_,#[true,true,true,true,false,true,false,false],rfl,by kernel_rfl,?_⟩
    gi_wp2
    refine ⟨Wd.mem ?_,?_⟩
    ·first | exact (Kept.refl _).alloc _ | exact ((Kept.refl _).alloc _).alloc _
    refine al [4] (by kernel_rfl) (fun i hi=>?_)
    obtain rfl:i=4:=by simpa using hi
    refine ⟨_,#[true,true,true,true,true,true,false,false],rfl,by kernel_rfl,?_⟩
    gi_wp2
    refine ⟨Wd.mem ?_,?_⟩
    ·first | exact (Kept.refl _).alloc _ | exact ((Kept.refl _).alloc _).alloc _
    refine al [6] (by kernel_rfl) (fun i hi=>?_)
    obtain rfl:i=6:=by simpa using hi
    refine ⟨_,#[true,true,true,true,true,true,true,false],rfl,by kernel_rfl,?_⟩
    gi_wp2
    refine ⟨Wd.mem ?_,?_⟩
    ·first | exact (Kept.refl _).alloc _ | exact ((Kept.refl _).alloc _).alloc _
    refine al [7] (by kernel_rfl) (fun i hi=>?_)
    obtain rfl:i=7:=by simpa using hi
    refine ⟨_,#[true,true,true,true,true,true,true,true],rfl,by kernel_rfl,?_⟩
    gi_wp2
    refine ⟨Wd.mem ?_,?_⟩
    ·first | exact (Kept.refl _).alloc _ | exact ((Kept.refl _).alloc _).alloc _
    refine adone (by kernel_rfl) ?_
    refine ⟨rfl,_,_,rfl,((Kept.refl _).alloc _).alloc _,?_,?_,by omega,by omega⟩
    ·first | exact BXa.out _ _ | exact BXb.out _ _
    ·first | exact BXa.out _ _ | exact BXb.out _ _
  ·refine ⟨_,#[true,false,true,true,true,false,false,false],rfl,by kernel_rfl,?_⟩
   gi_wp2
   refine ⟨Wd.mem ?_,?_⟩
   ·first | exact (Kept.refl _).alloc _ | exact ((Kept.refl _).alloc _).alloc _
   refine al [1,5] (by kernel_rfl) (fun i hi=>?_)
   simp only [List.mem_cons,List.not_mem_nil,or_false] at hi
   rcases hi with rfl | rfl
   ·refine ⟨_,#[true,true,true,true,true,false,false,false],rfl,by kernel_rfl,?_⟩
    gi_wp2_with (fail)
    refine ⟨trivial,?_⟩
    refine (callsIn_wide.2 (ak_p _ x a HX.out HP.out)).mono ?_
    rintro e U ⟨rfl,rfl⟩
    gi_wp2_with (fail)
    refine ⟨Wd.mem ?_,?_⟩
    ·first | exact Kept.refl _ | exact (Kept.refl _).alloc _ | exact ((Kept.refl _).alloc _).alloc _
    refine al [5] (by kernel_rfl) (fun i hi=>?_)
    obtain rfl:i=5:=by simpa using hi
    refine ⟨_,#[true,true,true,true,true,true,false,false],rfl,by kernel_rfl,?_⟩
    gi_wp2
    refine ⟨Wd.mem ?_,?_⟩
    ·first | exact (Kept.refl _).alloc _ | exact ((Kept.refl _).alloc _).alloc _
    refine al [6] (by kernel_rfl) (fun i hi=>?_)
    obtain rfl:i=6:=by simpa using hi
    refine ⟨_,#[true,true,true,true,true,true,true,false],rfl,by kernel_rfl,?_⟩
    gi_wp2
    refine ⟨Wd.mem ?_,?_⟩
    ·first | exact (Kept.refl _).alloc _ | exact ((Kept.refl _).alloc _).alloc _
    refine al [7] (by kernel_rfl) (fun i hi=>?_)
    obtain rfl:i=7:=by simpa using hi
    refine ⟨_,#[true,true,true,true,true,true,true,true],rfl,by kernel_rfl,?_⟩
    gi_wp2
    refine ⟨Wd.mem ?_,?_⟩
    ·first | exact (Kept.refl _).alloc _ | exact ((Kept.refl _).alloc _).alloc _
    refine adone (by kernel_rfl) ?_
    refine ⟨rfl,_,_,rfl,((Kept.refl _).alloc _).alloc _,?_,?_,by omega,by omega⟩
    ·first | exact BXa.out _ _ | exact BXb.out _ _
    ·first | exact BXa.out _ _ | exact BXb.out _ _
   ·refine ⟨_,#[true,false,true,true,true,true,false,false],rfl,by kernel_rfl,?_⟩
    gi_wp2
    refine ⟨Wd.mem ?_,?_⟩
    ·first | exact (Kept.refl _).alloc _ | exact ((Kept.refl _).alloc _).alloc _
    refine al [1] (by kernel_rfl) (fun i hi=>?_)
    obtain rfl:i=1:=by simpa using hi
    refine ⟨_,#[true,true,true,true,true,true,false,false],rfl,by kernel_rfl,?_⟩
    gi_wp2_with (fail)
    refine ⟨trivial,?_⟩
    refine (callsIn_wide.2 (ak_p _ x a HX.out HP.out)).mono ?_
    rintro e U ⟨rfl,rfl⟩
    gi_wp2_with (fail)
    refine ⟨Wd.mem ?_,?_⟩
    ·first | exact Kept.refl _ | exact (Kept.refl _).alloc _ | exact ((Kept.refl _).alloc _).alloc _
    refine al [6] (by kernel_rfl) (fun i hi=>?_)
    obtain rfl:i=6:=by simpa using hi
    refine ⟨_,#[true,true,true,true,true,true,true,false],rfl,by kernel_rfl,?_⟩
    gi_wp2
    refine ⟨Wd.mem ?_,?_⟩
    ·first | exact (Kept.refl _).alloc _ | exact ((Kept.refl _).alloc _).alloc _
    refine al [7] (by kernel_rfl) (fun i hi=>?_)
    obtain rfl:i=7:=by simpa using hi
    refine ⟨_,#[true,true,true,true,true,true,true,true],rfl,by kernel_rfl,?_⟩
    gi_wp2
    refine ⟨Wd.mem ?_,?_⟩
    ·first | exact (Kept.refl _).alloc _ | exact ((Kept.refl _).alloc _).alloc _
    refine adone (by kernel_rfl) ?_
    refine ⟨rfl,_,_,rfl,((Kept.refl _).alloc _).alloc _,?_,?_,by omega,by omega⟩
    ·first | exact BXa.out _ _ | exact BXb.out _ _
    ·first | exact BXa.out _ _ | exact BXb.out _ _
  ·refine ⟨_,#[true,false,true,true,false,true,false,false],rfl,by kernel_rfl,?_⟩
   gi_wp2
   refine ⟨Wd.mem ?_,?_⟩
   ·first | exact (Kept.refl _).alloc _ | exact ((Kept.refl _).alloc _).alloc _
   refine al [1,4] (by kernel_rfl) (fun i hi=>?_)
   simp only [List.mem_cons,List.not_mem_nil,or_false] at hi
   rcases hi with rfl | rfl
   ·refine ⟨_,#[true,true,true,true,false,true,false,false],rfl,by kernel_rfl,?_⟩
    gi_wp2_with (fail)
    refine ⟨trivial,?_⟩
    refine (callsIn_wide.2 (ak_p _ x a HX.out HP.out)).mono ?_
    rintro e U ⟨rfl,rfl⟩
    gi_wp2_with (fail)
    refine ⟨Wd.mem ?_,?_⟩
    ·first | exact Kept.refl _ | exact (Kept.refl _).alloc _ | exact ((Kept.refl _).alloc _).alloc _
    refine al [4] (by kernel_rfl) (fun i hi=>?_)
    obtain rfl:i=4:=by simpa using hi
    refine ⟨_,#[true,true,true,true,true,true,false,false],rfl,by kernel_rfl,?_⟩
    gi_wp2
    refine ⟨Wd.mem ?_,?_⟩
    ·first | exact (Kept.refl _).alloc _ | exact ((Kept.refl _).alloc _).alloc _
    refine al [6] (by kernel_rfl) (fun i hi=>?_)
    obtain rfl:i=6:=by simpa using hi
    refine ⟨_,#[true,true,true,true,true,true,true,false],rfl,by kernel_rfl,?_⟩
    gi_wp2
    refine ⟨Wd.mem ?_,?_⟩
    ·first | exact (Kept.refl _).alloc _ | exact ((Kept.refl _).alloc _).alloc _
    refine al [7] (by kernel_rfl) (fun i hi=>?_)
    obtain rfl:i=7:=by simpa using hi
    refine ⟨_,#[true,true,true,true,true,true,true,true],rfl,by kernel_rfl,?_⟩
    gi_wp2
    refine ⟨Wd.mem ?_,?_⟩
    ·first | exact (Kept.refl _).alloc _ | exact ((Kept.refl _).alloc _).alloc _
    refine adone (by kernel_rfl) ?_
    refine ⟨rfl,_,_,rfl,((Kept.refl _).alloc _).alloc _,?_,?_,by omega,by omega⟩
    ·first | exact BXa.out _ _ | exact BXb.out _ _
    ·first | exact BXa.out _ _ | exact BXb.out _ _
   ·refine ⟨_,#[true,false,true,true,true,true,false,false],rfl,by kernel_rfl,?_⟩
    gi_wp2
    refine ⟨Wd.mem ?_,?_⟩
    ·first | exact (Kept.refl _).alloc _ | exact ((Kept.refl _).alloc _).alloc _
    refine al [1] (by kernel_rfl) (fun i hi=>?_)
    obtain rfl:i=1:=by simpa using hi
    refine ⟨_,#[true,true,true,true,true,true,false,false],rfl,by kernel_rfl,?_⟩
    gi_wp2_with (fail)
    refine ⟨trivial,?_⟩
    refine (callsIn_wide.2 (ak_p _ x a HX.out HP.out)).mono ?_
    rintro e U ⟨rfl,rfl⟩
    gi_wp2_with (fail)
    refine ⟨Wd.mem ?_,?_⟩
    ·first | exact Kept.refl _ | exact (Kept.refl _).alloc _ | exact ((Kept.refl _).alloc _).alloc _
    refine al [6] (by kernel_rfl) (fun i hi=>?_)
    obtain rfl:i=6:=by simpa using hi
    refine ⟨_,#[true,true,true,true,true,true,true,false],rfl,by kernel_rfl,?_⟩
    gi_wp2
    refine ⟨Wd.mem ?_,?_⟩
    ·first | exact (Kept.refl _).alloc _ | exact ((Kept.refl _).alloc _).alloc _
    refine al [7] (by kernel_rfl) (fun i hi=>?_)
    obtain rfl:i=7:=by simpa using hi
    refine ⟨_,#[true,true,true,true,true,true,true,true],rfl,by kernel_rfl,?_⟩
    gi_wp2
    refine ⟨Wd.mem ?_,?_⟩
    ·first | exact (Kept.refl _).alloc _ | exact ((Kept.refl _).alloc _).alloc _
    refine adone (by kernel_rfl) ?_
    refine ⟨rfl,_,_,rfl,((Kept.refl _).alloc _).alloc _,?_,?_,by omega,by omega⟩
    ·first | exact BXa.out _ _ | exact BXb.out _ _
    ·first | exact BXa.out _ _ | exact BXb.out _ _
 case cont=>
  rintro e a' X ⟨rfl,b7,b8,rfl,kX,bA,bN,l7,l8⟩
  have K2:=gh (K1.out.trans (KV.out.trans kX))
  have BM2:=gh (kX.boxed (KV.out.boxed BM.out id) id)
  have BP2:=gh (kX.boxed (KV.out.boxed BP.out id) id)
  have BR2:=gh (kX.boxed (KV.out.boxed BR.out id) id)
  have BA2:=gh bA
  have BN2:=gh bN
  have L78:Hid (n+3≤b7∧n+3≤b8):=gh ⟨l7,l8⟩
  have cM:=BM2.out.cell
  have cA:=bA.cell
  have cN:=bN.cell
  have cR:=BR2.out.cell
  have fR:=BR2.out.frozen
  have HMI:Hid ((Lit.int .i64 (M:Int)).wf=true):=gh (I64.wf ⟨by omega,by omega⟩)
  obtain ⟨q,hq⟩:∃ q,newB s (a:Int) (M:Int)=q:=⟨_,rfl⟩
  have HQ:=gh hq
  have HE2:Hid ((q && (slotsL s x).all (kidB s f x ps))=r):=gh (by rw [← hq];exact HE.out)
  have Z2:Hid (n+3≤X.heap.size):=gh (by have:=bA.lt;omega)
  clear kX bA bN l7 l8 hq x0 zv BXa BXb
  cases q with
  | false=>
   have HR:Hid (r=false):=gh (by rw [← HE2.out];rfl)
   have tS:Td (fun k=>k=n+2) X (X.setCell ⟨n+2,0,none⟩ (.bool false)):=Td.setCell _ _ _ rfl
   have KS:=gh (K2.out.did (by have:=HN.out;omega) tS)
   have CS:=gh (BR2.out.set (.bool false)).cell
   clear tS
   go_wp2_with (fail)
   refine (isNew_p X b s a M false (H.out.kept K2.out) (by omega) (by omega) ⟨by omega,by omega⟩ HQ.out).mono ?_
   rintro e w' ⟨rfl,rfl⟩
   go_wp2
   refine leave_marks [] _ ?_ ?_ ?_
   ·intro k hk;cases hk
   ·simp
   ·intro X' hX'
    have q1:=hX'.cell CS.out (by simp)
    exact ⟨.bool false,by simp [results,Tryz.results137,go_sem,q1],by rw [HR.out],KS.out.trans (hX'.mono fun _ _ h=>by cases h)⟩
  | true=>
   have hdeg:s.look (a:Int)=Pt.degZ (M:Int):=by
    have:=HQ.out
    unfold newB at this
    simp only [Bool.and_eq_true,beq_iff_eq] at this
    exact this.1.1.1.1
   have HDEG:=gh hdeg
   have hd:=HWH.out.deg (by rw [E0.out];exact K3.out)
   rw [E0.out,HP.out,hdeg] at hd
   have hpos:0 < Pt.degZ (M:Int):=by omega
   obtain ⟨hm2,hm3⟩:=Pt.deg_pos hpos
   have HPOS:=gh hpos
   have HE3:Hid ((slotsL s x).all (kidB s f x ps)=r):=gh (by rw [← HE2.out];rfl)
   obtain ⟨bl,off,rfl⟩:∃ bl off,la=some ⟨bl,off,none⟩:=by
    rcases HRD.out with e | ⟨bl,off,e,_⟩
    ·have:=HMM.out;rw [e] at this;simp at this;omega
    ·exact ⟨bl,off,e⟩
   clear hdeg hd hpos
   go_wp2_with (fail)
   refine (isNew_p X b s a M true (H.out.kept K2.out) (by omega) (by omega) ⟨by omega,by omega⟩ HQ.out).mono ?_
   rintro e w' ⟨rfl,rfl⟩
   go_wp2_with (fail)
   refine (slots_k X b x).mono ?_
   rintro e W3 ⟨B1,B2,rfl,k3,b1,b2,l1,l2⟩
   have K3':=gh (K2.out.trans k3)
   have BM3:=gh (k3.boxed BM2.out id)
   have BP3:=gh (k3.boxed BP2.out id)
   have BR3:=gh (k3.boxed BR2.out id)
   have BA3:=gh (k3.boxed BA2.out id)
   have BN3:=gh (k3.boxed BN2.out id)
   have BB1:=gh b1
   have BB2:=gh b2
   have L1:Hid (n+3≤B1∧n+3≤B2∧n+3≤W3.heap.size):=gh (by have:=Z2.out;have:=k3.size;omega)
   clear k3 b1 b2 l1 l2 cM cA cN cR fR
   go_wp2_with (fail)
   refine wp_range2 (gf:=172) rfl (enters_of Tryz.func172 (by kernel_rfl) rfl) (encs:=enc2) (xs:=slotsL s x) (R:=SlotR w B1 B2)
    (fun X hX=>slots_i w X (K3'.out.trans hX) b s H.out HO.out x HWH.out B1 B2 (hX.boxed BB1.out id) (hX.boxed BB2.out id)) (fun _=>rfl)
    (fun k=>k=n+2) (fun O pre A=>(∀ p ∈ pre,kidB s f x ps p=true)∧Cell1 (n+2) 4 (.bool false) O pre A) (fun c O pre A=>c=.ret∧(∃ p ∈ pre,kidB s f x ps p=false)∧Cell1 (n+2) 4 (.bool false) O pre A) ?hR
    (good_and (Cell1.good _ _ _) _) (fun c=>good_only (good_and (Cell1.good _ _ _) _) c .ret) ⟨(by intro p hp;cases hp),fun _=>Iff.rfl,BR3.out⟩ ?ab ?done ?stop
   case hR=>
    rintro k (hk | rfl | rfl)
    ·have h1:=HN.out
     have h2:=K3'.out.size
     exact ⟨by omega,by omega⟩
    ·have:=L1.out
     exact ⟨BB1.out.lt,by omega⟩
    ·have:=L1.out
     exact ⟨BB2.out.lt,by omega⟩
   case ab=>
    apply Exists.intro
    refine ⟨?_,?_⟩
    ·intro l' p X K hK
     gi_wp2
     exact hK
    ·rintro l' O pre ⟨pi,sl⟩ rest B hx' tB sB ⟨hpre,hO,rB⟩
     have hmem:(pi,sl) ∈ slotsL s x:=by rw [hx'];simp
     obtain ⟨k,hk,hpi,hsl⟩:∃ k:Nat,(k:Int) < Pt.degZ (M:Int)∧pi=(k:Int)∧sl=childS a (Pt.degZ (M:Int)).toNat k:=by
      have hm:=hmem
      unfold slotsL at hm
      rw [E0.out,if_pos K3.out,List.mem_map] at hm
      obtain ⟨k,h1,h2⟩:=hm
      have eA:atN s x=a:=by unfold atN;rw [E0.out,HP.out];omega
      have eD:degN s x=(Pt.degZ (M:Int)).toNat:=by unfold degN;rw [E0.out,HP.out,HDEG.out]
      rw [eD,List.mem_range] at h1
      rw [eA,eD] at h2
      cases h2
      exact ⟨k,by omega,rfl,rfl⟩
     have hdb:=Pt.deg_nat (M:Int)
     subst hpi
     obtain ⟨pf,pg,ph⟩:=part_in (n:=(M:Int)) (i:=(k:Int)) (by omega) hk
     obtain ⟨F,hF⟩:∃ F:Nat,Pt.fromZ (M:Int) (k:Int)=(F:Int):=⟨(Pt.fromZ (M:Int) (k:Int)).toNat,by omega⟩
     obtain ⟨S,hS⟩:∃ S:Nat,Pt.sizeZ (M:Int) (k:Int)=(S:Int):=⟨(Pt.sizeZ (M:Int) (k:Int)).toNat,by omega⟩
     rw [hF] at pf ph
     rw [hS] at pg ph
     have HFR:=gh hF
     have HSZ:=gh hS
     have hfs:F+S≤M:=by omega
     obtain ⟨own,hown⟩:∃ own,partL ps (k:Int)=own:=⟨_,rfl⟩
     have hown2:own=(ps.drop F).take S:=by rw [← hown,partL,HMM.out,hF,hS];simp
     have hownl:own.length=S:=by rw [hown2,List.length_take,List.length_drop,HMM.out];omega
     have HOWL:=gh hownl
     have HOWN:Hid (∀ W,Kept w W→PReads W (some ⟨bl,off+F * 2,none⟩) own):=gh (fun W kW=>by rw [hown2];exact (HRD.out.sub F S).kept kW)
     obtain ⟨u,hu⟩:∃ u,s.look sl=u:=⟨_,rfl⟩
     have HU:=gh hu
     have HUI:Hid (I64 u):=gh (by rw [← hu];exact HO.out.look _)
     have HUW:Hid (kd u=3→Wf s f u):=gh (fun h3=>by
      have e:s.logicZ sl=u:=by rw [Mst.logicZ,hu,if_neg (by rw [show Rf.kindZ u=3 from h3];decide)]
      have:=HWK.out ((k:Int),sl) hmem
      rwa [e] at this)
     obtain ⟨v,hv⟩:∃ v,idealF s f u own=v:=⟨_,rfl⟩
     have HV:=gh hv
     obtain ⟨z,hz⟩:∃ z,s.look ((a:Int)+4+(k:Int))=z:=⟨_,rfl⟩
     have HZ:=gh hz
     obtain ⟨⟨h0,h1'⟩,hh⟩:∃ p,own[0]? = some p:=⟨_,List.getElem?_eq_getElem (by omega)⟩
     have HH:=gh hh
     have HKB:Hid (kidB s f x ps ((k:Int),sl)=((decide ((k:Int)≤0) || (z == h0)) && v)):=gh (by
      have e:own.headD (0,0)=(h0,h1'):=by cases own with
       | nil=>simp at hh
       | cons p l=>simp at hh;simp [hh]
      simp only [kidB,keyOk,HP.out,hown,hz,hu,hv,e])
     have HOO:=gh hO
     have HPRE:=gh hpre
     have KB:=gh (K3'.out.did (by have:=HN.out;omega) tB)
     have cM:=(tB.boxed BM3.out (by omega)).cell
     have cP:=(tB.boxed BP3.out (by omega)).cell
     have cA:=(tB.boxed BA3.out (by have:=L78.out;omega)).cell
     have cN:=(tB.boxed BN3.out (by have:=L78.out;omega)).cell
     have RB:=gh rB
     have GO:Hid (∀ X,Kept B X→kidB s f x ps ((k:Int),sl)=true→∃ O',Sub O' O B.heap.size∧Td O B X∧(∀ p ∈ pre++[((k:Int),sl)],kidB s f x ps p=true)∧Cell1 (n+2) 4 (.bool false) O' (pre++[((k:Int),sl)]) X):=gh (fun X kX hm=>by
      refine ⟨O,Sub.refl _ _,kX.mono (fun _ _ h=>h.elim),?_,HOO.out,kX.boxed RB.out id⟩
      intro p hp
      rcases List.mem_append.1 hp with hp | hp
      ·exact HPRE.out p hp
      ·simp at hp;rw [hp];exact hm)
     have OUT:Hid (∀ X,Kept B X→kidB s f x ps ((k:Int),sl)=false→∃ O',Sub O' O B.heap.size∧Td O B (X.setCell ⟨n+2,0,none⟩ (.bool false))∧(∃ p ∈ pre++[((k:Int),sl)],kidB s f x ps p=false)∧Cell1 (n+2) 4 (.bool false) O' (pre++[((k:Int),sl)]) (X.setCell ⟨n+2,0,none⟩ (.bool false))):=gh (fun X kX hm=>by
      have tS:Td (fun k=>k=n+2) X (X.setCell ⟨n+2,0,none⟩ (.bool false)):=Td.setCell _ _ _ rfl
      exact ⟨O,Sub.refl _ _,Td.trans kX tS (fun _ h=>h.elim) (fun k _ h=>(HOO.out k).2 h),⟨((k:Int),sl),by simp,hm⟩,HOO.out,(kX.boxed RB.out id).set _⟩)
     have i1:(F:Int)+(S:Int)≤(M:Int):=by omega
     have i2:(1:Int)≤(S:Int):=by omega
     have i3:F≠lc:=by omega
     have i4:F+S≤lc:=by omega
     have i5:(F:Int)+(S:Int)≤(lc:Int):=by omega
     have i6:(k:Int) < 200:=by omega
     have hkz:=gh (keyZ_in (n:=a) (i:=(k:Int)) (by omega) (by omega) (by omega) (by omega))
     clear hx' tB sB hpre hO rB hmem hk hsl hdb pf pg ph hF hS hown hown2 hownl hu hv hz hh
     gi_wp2_with (fail)
     refine ⟨trivial,?_⟩
     refine (CallsIn.inRound l' (callsIn_wide.2 (from_k (M:Int) (k:Int) (F:Int) HMI.out HFR.out B))).mono ?_
     rintro e C ⟨rfl,kC⟩
     have KC:=gh kC
     have cM:=kC.cell cM id
     have cP:=kC.cell cP id
     have cA:=kC.cell cA id
     have cN:=kC.cell cN id
     clear kC
     obtain ⟨V8,hVx⟩:∃ V8,C.drew=V8:=⟨_,rfl⟩
     have kVx:Kept C V8:=by rw [← hVx];exact Kept.drew _
     have HVx:=gh hVx
     have KV8:=gh kVx
     have y0:∀ u:Wd (fun U=>Kept V8 U),u.w.cell? ⟨n+1,0,none⟩=some (.slice (some ⟨bl,off,none⟩) M lc):=fun u=>u.ok.cell (kVx.cell cP id) id
     have y1:∀ u:Wd (fun U=>Kept V8 U),u.w.cell? ⟨b8,0,none⟩=some (.int .i64 (M:Int)):=fun u=>u.ok.cell (kVx.cell cN id) id
     clear hVx kVx
     gi_wp2_with (fail)
     refine region_round [0,1,2,3,4,5,6,7,8] (fun U=>Kept V8 U) (by kernel_rfl) (by kernel_rfl) (by kernel_rfl) (by rw [HVx.out];exact Kept.refl _) (fun _=>?_)
     rw [HVx.out]
     repeat (refine pq rfl rfl ?_;go_big_quiet_step (fail);refine wpQuiet_nil ?_)
     refine pl rfl rfl ?_
     gi_wp2_with (fail)
     refine ⟨trivial,?_⟩
     refine (callsIn_wide.2 (size_k (M:Int) (k:Int) (S:Int) HMI.out HSZ.out V8)).mono ?_
     rintro e U8 ⟨rfl,kU⟩
     have KU8:=gh kU
     clear kU
     gi_wp2_with (fail)
     refine ⟨Wd.mem KU8.out,?_⟩
     repeat (refine pq rfl rfl ?_;go_big_quiet_step (fail);refine wpQuiet_nil ?_)
     refine perm_done ?_
     rw [Nat.add_sub_cancel_left]
     have KU:Hid (Kept B U8):=gh (KC.out.trans (KV8.out.trans KU8.out))
     have k8:Kept C U8:=KV8.out.trans KU8.out
     have cM:=k8.cell cM id
     have cA:=k8.cell cA id
     have hw8:=KB.out.trans KU.out
     have cH:U8.cell? ⟨bl,off+F * 2,none⟩=some (.int .i64 h0):=by
      obtain ⟨bl',off',e',_,q0,_⟩:=(HOWN.out U8 hw8).at HH.out
      cases e'
      simpa using q0
     obtain ⟨V9,hVx⟩:∃ V9,U8.drew=V9:=⟨_,rfl⟩
     have kVx:Kept U8 V9:=by rw [← hVx];exact Kept.drew _
     have HVx:=gh hVx
     have KV9:=gh kVx
     have y2:∀ u:Wd (fun U=>Kept V9 U),u.w.cell? ⟨n,0,none⟩=some (.pointer (some ⟨b,0,none⟩)):=fun u=>u.ok.cell (kVx.cell cM id) id
     have y3:∀ u:Wd (fun U=>Kept V9 U),u.w.cell? ⟨b7,0,none⟩=some (.int .i64 (a:Int)):=fun u=>u.ok.cell (kVx.cell cA id) id
     have y4:∀ u:Wd (fun U=>Kept V9 U),u.w.cell? ⟨bl,off+F * 2,none⟩=some (.int .i64 h0):=fun u=>u.ok.cell (kVx.cell cH id) id
     have cM:=kVx.cell cM id
     have MV9:=gh (H.out.kept (hw8.trans kVx))
     have KB9:Hid (Kept B V9):=gh (KU.out.trans kVx)
     have f6:=(KB9.out.boxed RB.out id).frozen
     have c6:=(KB9.out.boxed RB.out id).cell
     clear hVx kVx k8 hw8 y0 y1 cP cN cA cH
     by_cases k0:k=0
     ·have j0:¬ ((0:Int) < (k:Int)):=by omega
      have j1:decide ((0:Int) < (k:Int))=false:=by simp;omega
      have j1n:decide (0 < k)=false:=by simp;omega
      gi_wp2_with (fail)
      refine region_round [0,1,2,3,4,5,8,9,10,11,6,7,12,13] (fun U=>Kept V9 U) (by kernel_rfl) (by kernel_rfl) (by kernel_rfl) (by rw [HVx.out];exact Kept.refl _) (fun _=>?_)
      rw [HVx.out]
      repeat (refine pq rfl rfl ?_;go_big_quiet_step (fail);refine wpQuiet_nil ?_)
      refine Go.Proofs.YtnjkmmmfhponlaaGreat.ps rfl rfl rfl (Wd.mem (Kept.refl _)) ?_
      go_big_quiet_skip
      refine wpQuiet_nil ?_
      refine Go.Proofs.YtnjkmmmfhponlaaGreat.ps rfl rfl rfl (Wd.mem (Kept.refl _)) ?_
      go_big_quiet_skip
      refine wpQuiet_nil ?_
      repeat (refine pq rfl rfl ?_;go_big_quiet_step (fail);refine wpQuiet_nil ?_)
      refine perm_done ?_
      cases v with
      | true=>
       obtain ⟨VB,hVy⟩:∃ VB,V9.drew=VB:=⟨_,rfl⟩
       have kVy:Kept V9 VB:=by rw [← hVy];exact Kept.drew _
       have HVy:=gh hVy
       have w0:∀ u:Wd (fun U=>Kept VB U),u.w.cell? ⟨n,0,none⟩=some (.pointer (some ⟨b,0,none⟩)):=fun u=>u.ok.cell (kVy.cell cM id) id
       have MVB:=gh (MV9.out.kept kVy)
       have KBB:Hid (Kept B VB):=gh (KB9.out.trans kVy)
       have OWB:=gh (HOWN.out VB (KB.out.trans KBB.out))
       clear hVy kVy y2 y3 y4 cM f6 c6
       gi_wp2_with (fail)
       refine region_round [0,1,2,4,3,5,6] (fun U=>Kept VB U) (by kernel_rfl) (by kernel_rfl) (by kernel_rfl) (by rw [HVy.out];exact Kept.refl _) (fun _=>?_)
       rw [HVy.out]
       repeat (refine pq rfl rfl ?_;go_big_quiet_step (fail);refine wpQuiet_nil ?_)
       refine pl rfl rfl ?_
       gi_wp2_with (fail)
       refine ⟨trivial,?_⟩
       refine (callsIn_wide.2 (lk_p _ b s sl u MVB.out HU.out)).mono ?_
       rintro e U ⟨rfl,rfl⟩
       gi_wp2_with (fail)
       refine ⟨Wd.mem (Kept.refl _),?_⟩
       refine pl rfl rfl ?_
       gi_wp2_with (fail)
       refine ⟨trivial,?_⟩
       refine (callsIn_wide.2 (IH.out VB b s MVB.out HO.out u HUI.out HUW.out own S HOWL.out (by omega) _ (lc - F) OWB.out (by omega) (by unfold maxLen;omega) true HV.out)).mono ?_
       rintro e UB ⟨rfl,kUB⟩
       have KUB:Hid (Kept B UB):=gh (KBB.out.trans kUB)
       have KCL:=gh kUB
       have f6:=(KUB.out.boxed RB.out id).frozen
       have c6:=(KUB.out.boxed RB.out id).cell
       clear kUB
       gi_wp2_with (fail)
       refine ⟨Wd.mem KCL.out,?_⟩
       repeat (refine pq rfl rfl ?_;go_big_quiet_step (fail);refine wpQuiet_nil ?_)
       refine perm_done ?_
       gi_wp2
       exact GO.out UB KUB.out (by rw [HKB.out];simp;omega)
      | false=>
       obtain ⟨VB,hVy⟩:∃ VB,V9.drew=VB:=⟨_,rfl⟩
       have kVy:Kept V9 VB:=by rw [← hVy];exact Kept.drew _
       have HVy:=gh hVy
       have w0:∀ u:Wd (fun U=>Kept VB U),u.w.cell? ⟨n,0,none⟩=some (.pointer (some ⟨b,0,none⟩)):=fun u=>u.ok.cell (kVy.cell cM id) id
       have MVB:=gh (MV9.out.kept kVy)
       have KBB:Hid (Kept B VB):=gh (KB9.out.trans kVy)
       have OWB:=gh (HOWN.out VB (KB.out.trans KBB.out))
       clear hVy kVy y2 y3 y4 cM f6 c6
       gi_wp2_with (fail)
       refine region_round [0,1,2,4,3,5,6] (fun U=>Kept VB U) (by kernel_rfl) (by kernel_rfl) (by kernel_rfl) (by rw [HVy.out];exact Kept.refl _) (fun _=>?_)
       rw [HVy.out]
       repeat (refine pq rfl rfl ?_;go_big_quiet_step (fail);refine wpQuiet_nil ?_)
       refine pl rfl rfl ?_
       gi_wp2_with (fail)
       refine ⟨trivial,?_⟩
       refine (callsIn_wide.2 (lk_p _ b s sl u MVB.out HU.out)).mono ?_
       rintro e U ⟨rfl,rfl⟩
       gi_wp2_with (fail)
       refine ⟨Wd.mem (Kept.refl _),?_⟩
       refine pl rfl rfl ?_
       gi_wp2_with (fail)
       refine ⟨trivial,?_⟩
       refine (callsIn_wide.2 (IH.out VB b s MVB.out HO.out u HUI.out HUW.out own S HOWL.out (by omega) _ (lc - F) OWB.out (by omega) (by unfold maxLen;omega) false HV.out)).mono ?_
       rintro e UB ⟨rfl,kUB⟩
       have KUB:Hid (Kept B UB):=gh (KBB.out.trans kUB)
       have KCL:=gh kUB
       have f6:=(KUB.out.boxed RB.out id).frozen
       have c6:=(KUB.out.boxed RB.out id).cell
       clear kUB
       gi_wp2_with (fail)
       refine ⟨Wd.mem KCL.out,?_⟩
       repeat (refine pq rfl rfl ?_;go_big_quiet_step (fail);refine wpQuiet_nil ?_)
       refine perm_done ?_
       gi_wp2
       obtain ⟨O',q1,q2,q3,q4⟩:=OUT.out UB KUB.out (by rw [HKB.out];simp)
       exact ⟨O',q1,q2,rfl,q3,q4⟩
     ·have j0:(0:Int) < (k:Int):=by omega
      have j0n:0 < k:=by omega
      have j5:(0:Int) < (S:Int):=by omega
      have j6:0 < lc - F:=by omega
      by_cases zh:z=h0
      ·subst zh
       gi_wp2_with (fail)
       refine region_round [0,1,2,3,4,5,8,9,10,11,6,7,12,13] (fun U=>Kept V9 U) (by kernel_rfl) (by kernel_rfl) (by kernel_rfl) (by rw [HVx.out];exact Kept.refl _) (fun _=>?_)
       rw [HVx.out]
       repeat (refine pq rfl rfl ?_;go_big_quiet_step (fail);refine wpQuiet_nil ?_)
       refine pl rfl rfl ?_
       gi_wp2_with (fail)
       refine ⟨trivial,?_⟩
       refine (callsIn_wide.2 (key_c _ a (k:Int) _ hkz.out)).mono ?_
       rintro e U ⟨rfl,rfl⟩
       gi_wp2_with (fail)
       refine ⟨Wd.mem (Kept.refl _),?_⟩
       refine pl rfl rfl ?_
       gi_wp2_with (fail)
       refine ⟨trivial,?_⟩
       refine (callsIn_wide.2 (lk_p _ b s _ z MV9.out HZ.out)).mono ?_
       rintro e U ⟨rfl,rfl⟩
       gi_wp2_with (fail)
       refine ⟨Wd.mem (Kept.refl _),?_⟩
       repeat (refine pq rfl rfl ?_;go_big_quiet_step (fail);refine wpQuiet_nil ?_)
       refine perm_done ?_
       cases v with
       | true=>
        obtain ⟨VB,hVy⟩:∃ VB,V9.drew=VB:=⟨_,rfl⟩
        have kVy:Kept V9 VB:=by rw [← hVy];exact Kept.drew _
        have HVy:=gh hVy
        have w0:∀ u:Wd (fun U=>Kept VB U),u.w.cell? ⟨n,0,none⟩=some (.pointer (some ⟨b,0,none⟩)):=fun u=>u.ok.cell (kVy.cell cM id) id
        have MVB:=gh (MV9.out.kept kVy)
        have KBB:Hid (Kept B VB):=gh (KB9.out.trans kVy)
        have OWB:=gh (HOWN.out VB (KB.out.trans KBB.out))
        clear hVy kVy y2 y3 y4 cM f6 c6
        gi_wp2_with (fail)
        refine region_round [0,1,2,4,3,5,6] (fun U=>Kept VB U) (by kernel_rfl) (by kernel_rfl) (by kernel_rfl) (by rw [HVy.out];exact Kept.refl _) (fun _=>?_)
        rw [HVy.out]
        repeat (refine pq rfl rfl ?_;go_big_quiet_step (fail);refine wpQuiet_nil ?_)
        refine pl rfl rfl ?_
        gi_wp2_with (fail)
        refine ⟨trivial,?_⟩
        refine (callsIn_wide.2 (lk_p _ b s sl u MVB.out HU.out)).mono ?_
        rintro e U ⟨rfl,rfl⟩
        gi_wp2_with (fail)
        refine ⟨Wd.mem (Kept.refl _),?_⟩
        refine pl rfl rfl ?_
        gi_wp2_with (fail)
        refine ⟨trivial,?_⟩
        refine (callsIn_wide.2 (IH.out VB b s MVB.out HO.out u HUI.out HUW.out own S HOWL.out (by omega) _ (lc - F) OWB.out (by omega) (by unfold maxLen;omega) true HV.out)).mono ?_
        rintro e UB ⟨rfl,kUB⟩
        have KUB:Hid (Kept B UB):=gh (KBB.out.trans kUB)
        have KCL:=gh kUB
        have f6:=(KUB.out.boxed RB.out id).frozen
        have c6:=(KUB.out.boxed RB.out id).cell
        clear kUB
        gi_wp2_with (fail)
        refine ⟨Wd.mem KCL.out,?_⟩
        repeat (refine pq rfl rfl ?_;go_big_quiet_step (fail);refine wpQuiet_nil ?_)
        refine perm_done ?_
        gi_wp2
        exact GO.out UB KUB.out (by rw [HKB.out];simp)
       | false=>
        obtain ⟨VB,hVy⟩:∃ VB,V9.drew=VB:=⟨_,rfl⟩
        have kVy:Kept V9 VB:=by rw [← hVy];exact Kept.drew _
        have HVy:=gh hVy
        have w0:∀ u:Wd (fun U=>Kept VB U),u.w.cell? ⟨n,0,none⟩=some (.pointer (some ⟨b,0,none⟩)):=fun u=>u.ok.cell (kVy.cell cM id) id
        have MVB:=gh (MV9.out.kept kVy)
        have KBB:Hid (Kept B VB):=gh (KB9.out.trans kVy)
        have OWB:=gh (HOWN.out VB (KB.out.trans KBB.out))
        clear hVy kVy y2 y3 y4 cM f6 c6
        gi_wp2_with (fail)
        refine region_round [0,1,2,4,3,5,6] (fun U=>Kept VB U) (by kernel_rfl) (by kernel_rfl) (by kernel_rfl) (by rw [HVy.out];exact Kept.refl _) (fun _=>?_)
        rw [HVy.out]
        repeat (refine pq rfl rfl ?_;go_big_quiet_step (fail);refine wpQuiet_nil ?_)
        refine pl rfl rfl ?_
        gi_wp2_with (fail)
        refine ⟨trivial,?_⟩
        refine (callsIn_wide.2 (lk_p _ b s sl u MVB.out HU.out)).mono ?_
        rintro e U ⟨rfl,rfl⟩
        gi_wp2_with (fail)
        refine ⟨Wd.mem (Kept.refl _),?_⟩
        refine pl rfl rfl ?_
        gi_wp2_with (fail)
        refine ⟨trivial,?_⟩
        refine (callsIn_wide.2 (IH.out VB b s MVB.out HO.out u HUI.out HUW.out own S HOWL.out (by omega) _ (lc - F) OWB.out (by omega) (by unfold maxLen;omega) false HV.out)).mono ?_
        rintro e UB ⟨rfl,kUB⟩
        have KUB:Hid (Kept B UB):=gh (KBB.out.trans kUB)
        have KCL:=gh kUB
        have f6:=(KUB.out.boxed RB.out id).frozen
        have c6:=(KUB.out.boxed RB.out id).cell
        clear kUB
        gi_wp2_with (fail)
        refine ⟨Wd.mem KCL.out,?_⟩
        repeat (refine pq rfl rfl ?_;go_big_quiet_step (fail);refine wpQuiet_nil ?_)
        refine perm_done ?_
        gi_wp2
        obtain ⟨O',q1,q2,q3,q4⟩:=OUT.out UB KUB.out (by rw [HKB.out];simp)
        exact ⟨O',q1,q2,rfl,q3,q4⟩
      ·have g1:(z == h0)=false:=by simp [zh]
       have g2:(z != h0)=true:=by simp [zh]
       have KF:Hid (kidB s f x ps ((k:Int),sl)=false):=gh (by rw [HKB.out,g1];simp;omega)
       gi_wp2_with (fail)
       refine region_round [0,1,2,3,4,5,8,9,10,11,6,7,12,13] (fun U=>Kept V9 U) (by kernel_rfl) (by kernel_rfl) (by kernel_rfl) (by rw [HVx.out];exact Kept.refl _) (fun _=>?_)
       rw [HVx.out]
       repeat (refine pq rfl rfl ?_;go_big_quiet_step (fail);refine wpQuiet_nil ?_)
       refine pl rfl rfl ?_
       gi_wp2_with (fail)
       refine ⟨trivial,?_⟩
       refine (callsIn_wide.2 (key_c _ a (k:Int) _ hkz.out)).mono ?_
       rintro e U ⟨rfl,rfl⟩
       gi_wp2_with (fail)
       refine ⟨Wd.mem (Kept.refl _),?_⟩
       refine pl rfl rfl ?_
       gi_wp2_with (fail)
       refine ⟨trivial,?_⟩
       refine (callsIn_wide.2 (lk_p _ b s _ z MV9.out HZ.out)).mono ?_
       rintro e U ⟨rfl,rfl⟩
       gi_wp2_with (fail)
       refine ⟨Wd.mem (Kept.refl _),?_⟩
       repeat (refine pq rfl rfl ?_;go_big_quiet_step (fail);refine wpQuiet_nil ?_)
       refine perm_done ?_
       gi_wp2
       obtain ⟨O',q1,q2,q3,q4⟩:=OUT.out V9 KB9.out KF.out
       exact ⟨O',q1,q2,rfl,q3,q4⟩
   case done=>
    rintro D O X hD nD tX sX ⟨hpre,hO,rX⟩ hK
    have HR:Hid (r=true):=gh (by rw [← HE3.out];exact List.all_eq_true.2 hpre)
    have nD2:D≠n+2:=by have:=L1.out;omega
    have c6:=rX.cell
    have f6:=rX.frozen
    have tS:Td (fun k=>k=n+2) X (X.setCell ⟨n+2,0,none⟩ (.bool true)):=Td.setCell _ _ _ rfl
    have hK2:Hid ((X.setCell ⟨n+2,0,none⟩ (.bool true)).heap[D]? = some (.deferred (some []))):=gh (tS.heap hK nD2)
    have CS:Hid ((X.setCell ⟨n+2,0,none⟩ (.bool true)).cell? ⟨n+2,0,none⟩=some (.bool true)):=gh (rX.set (.bool true)).cell
    have KX:Hid (Kept w (X.setCell ⟨n+2,0,none⟩ (.bool true))):=gh ((K3'.out.did (by have:=HN.out;omega) tX).did (by have:=HN.out;omega) tS)
    clear hK rX tS tX sX hO nD
    go_wp2
    refine leave_marks [D] _ ?_ ?_ ?_
    ·intro k hk
     simp at hk
     rw [hk]
     exact hK2.out
    ·simp
    ·intro X' hX'
     have q1:=hX'.cell CS.out (by simp;omega)
     exact ⟨.bool true,by simp [results,Tryz.results137,go_sem,q1],by rw [HR.out],KX.out.own (fun i hi=>by simp at hi;have:=K3'.out.size;omega) hX'⟩
   case stop=>
    rintro D O c pre rest X hD nD tX sX hx' ⟨rfl,⟨p,hp,hm⟩,hO,rX⟩ hK
    have HR:Hid (r=false):=gh (by rw [← HE3.out];exact List.all_eq_false.2 ⟨p,by rw [hx'];exact List.mem_append_left _ hp,by simp [hm]⟩)
    have nD2:D≠n+2:=by have:=L1.out;omega
    have c6:=rX.cell
    have f6:=rX.frozen
    have tS:Td (fun k=>k=n+2) X X:=Td.refl _ _
    have hK2:Hid (X.heap[D]? = some (.deferred (some []))):=gh (tS.heap hK nD2)
    have CS:Hid (X.cell? ⟨n+2,0,none⟩=some (.bool false)):=gh rX.cell
    have KX:Hid (Kept w X):=gh ((K3'.out.did (by have:=HN.out;omega) tX).did (by have:=HN.out;omega) tS)
    clear hK rX tS tX sX hO nD
    go_wp2
    refine leave_marks [D] _ ?_ ?_ ?_
    ·intro k hk
     simp at hk
     rw [hk]
     exact hK2.out
    ·simp
    ·intro X' hX'
     have q1:=hX'.cell CS.out (by simp;omega)
     exact ⟨.bool false,by simp [results,Tryz.results137,go_sem,q1],by rw [HR.out],KX.out.own (fun i hi=>by simp at hi;have:=K3'.out.size;omega) hX'⟩
end
section
open Go.Shelf
theorem idealF_kind (s:Mst):∀ (f:Nat) (x:Int) (ps:List (Int × Int)),kd x≠3→idealF s f x ps=if kd x=1 then ps.isEmpty else if kd x=2 then ps.length == 1 else false
 | 0,_,_,_=>rfl
 | f+1,x,ps,h=>by rw [idealF_succ,if_neg h]
set_option maxRecDepth 20000 in
theorem ideal_other (f:Nat) (w:World) (b:Nat) (s:Mst) (x:Int) (hx:I64 x) (k3:kd x≠3) (ps:List (Int × Int)) (M:Nat) (hM:ps.length=M) (la:Option Addr) (lc:Nat) (r:Bool) (e1:idealF s f x ps=r) :
  Calls Tryz.prog 99 #[.pointer (some ⟨b,0,none⟩),.int .i64 x,.slice la M lc] w fun e w'=>e=.returned (.bool r)∧Kept w w':=by
 have HX:=gh hx
 obtain ⟨k,hk⟩:∃ k,kd x=k:=⟨_,rfl⟩
 have HK:=gh hk
 have e2:r=if k=1 then decide (M=0) else if k=2 then decide (M=1) else false:=by
  rw [← e1,idealF_kind s f x ps k3,hk,← hM]
  split
  ·cases ps <;> rfl
  ·split
   ·cases h:(ps.length == 1) <;> simp_all
   ·rfl
 have HE:=gh e2
 rw [hk] at k3
 clear hx hk e1 e2 hM
 by_cases k1:k=1
 ·subst k1
  by_cases m0:M=0
  ·subst m0
   have HR:Hid (r=true):=gh (by rw [HE.out];rfl)
   go_enter Tryz.func99,Tryz.ntmps99
   go_wp2_with (fail)
   refine (kk_p _ x 1 HX.out HK.out).mono ?_
   rintro e w' ⟨rfl,rfl⟩
   go_wp2
   go_ret
   exact ⟨by rw [HR.out];rfl,Kept.refl _⟩
  ·have HR:Hid (r=false):=gh (by rw [HE.out];simp [m0])
   have g1:((M:Int) == 0)=false:=by simp [m0]
   have g2:(M == 0)=false:=by simp [m0]
   go_enter Tryz.func99,Tryz.ntmps99
   go_wp2_with (fail)
   refine (kk_p _ x 1 HX.out HK.out).mono ?_
   rintro e w' ⟨rfl,rfl⟩
   go_wp2
   go_ret
   exact ⟨by rw [HR.out];rfl,Kept.refl _⟩
 by_cases k2:k=2
 ·subst k2
  by_cases m0:M=1
  ·subst m0
   have HR:Hid (r=true):=gh (by rw [HE.out];rfl)
   go_enter Tryz.func99,Tryz.ntmps99
   go_wp2_with (fail)
   refine (kk_p _ x 2 HX.out HK.out).mono ?_
   rintro e w' ⟨rfl,rfl⟩
   go_wp2
   go_ret
   exact ⟨by rw [HR.out];rfl,Kept.refl _⟩
  ·have HR:Hid (r=false):=gh (by rw [HE.out];simp [m0])
   have g1:((M:Int) == 1)=false:=by simp;omega
   have g2:(M == 1)=false:=by simp [m0]
   go_enter Tryz.func99,Tryz.ntmps99
   go_wp2_with (fail)
   refine (kk_p _ x 2 HX.out HK.out).mono ?_
   rintro e w' ⟨rfl,rfl⟩
   go_wp2
   go_ret
   exact ⟨by rw [HR.out];rfl,Kept.refl _⟩
 ·have HR:Hid (r=false):=gh (by rw [HE.out,if_neg k1,if_neg k2])
  have g1:(k == 1)=false:=by simp [k1]
  have g2:(k == 2)=false:=by simp [k2]
  have g3:(k == 3)=false:=by simp [k3]
  clear k1 k2 k3
  go_enter Tryz.func99,Tryz.ntmps99
  go_wp2_with (fail)
  refine (kk_p _ x k HX.out HK.out).mono ?_
  rintro e w' ⟨rfl,rfl⟩
  go_wp2
  go_ret
  exact ⟨by rw [HR.out];rfl,Kept.refl _⟩
theorem isIdeal_p:∀ f,IdealC f
 | 0=>fun w b s _ _ x hx hw ps M hM _ la lc _ _ _ r e1=>by
  by_cases k3:kd x=3
  ·exact (hw k3).elim
  ·exact ideal_other 0 w b s x hx k3 ps M hM la lc r e1
 | f+1=>fun w b s h ho x hx hw ps M hM hM2 la lc hr hlc hlm r e1=>by
  by_cases k3:kd x=3
  ·have HC:=gh (idealInner_p f (isIdeal_p f) w b s h ho x k3 (hw k3) ps M hM hM2 la lc hr hlc hlm r (by rw [← e1,idealF_succ,if_neg (by rw [k3];decide),if_neg (by rw [k3];decide),if_pos k3]))
   have HX:=gh hx
   have HK:=gh k3
   clear h ho hx hw hr e1 k3 hM hM2 hlc hlm
   go_enter Tryz.func99,Tryz.ntmps99
   go_wp2_with (fail)
   refine (kk_p _ x 3 HX.out HK.out).mono ?_
   rintro e w' ⟨rfl,rfl⟩
   go_wp2_with (fail)
   refine HC.out.mono ?_
   rintro e W1 ⟨rfl,k1⟩
   have K1:=gh k1
   clear k1 HC
   go_wp2
   go_ret
   exact ⟨rfl,K1.out⟩
  ·exact ideal_other (f+1) w b s x hx k3 ps M hM la lc r e1
def idealB (s:Mst) (x:Int):Bool:=inTreeB s x && idealF s (fuel s) x (pairsF s (fuel s) x)
theorem pairsF_len {s:Mst} {f:Nat} {x:Int} (h:(spotsF s f x).length≤70000):(pairsF s f x).length≤70001:=by
 have h1:=leafL_len s x
 have h2:=leaves_len s (spotsF s f x)
 unfold pairsF
 rw [List.length_append]
 omega
theorem ideal_p (w:World) (b:Nat) (s:Mst) (x:Int) (h:PM w b s) (ho:s.ok) (hx:I64 x) (r:Bool) (e1:idealB s x=r) :
  Calls Tryz.prog 50 #[.pointer (some ⟨b,0,none⟩),.int .i64 x] w fun e w'=>e=.returned (.bool r)∧Kept w w':=by
 have H:=gh h
 have HO:=gh ho
 have HX:=gh hx
 obtain ⟨q,hq⟩:∃ q,inTreeB s x=q:=⟨_,rfl⟩
 have HQ:=gh hq
 unfold idealB at e1
 rw [hq] at e1
 cases q with
 | false=>
  have HR:Hid (r=false):=gh (by rw [← e1];rfl)
  clear h ho hx hq e1
  go_enter Tryz.func50,Tryz.ntmps50
  go_wp2_with (fail)
  refine (isInTree_p _ b s x H.out HO.out HX.out false HQ.out).mono ?_
  rintro e W2 ⟨rfl,k2⟩
  have K2:=gh k2
  clear k2
  go_wp2
  go_ret
  exact ⟨by rw [HR.out];rfl,K2.out⟩
 | true=>
  have HE:Hid (idealF s (fuel s) x (pairsF s (fuel s) x)=r):=gh e1
  obtain ⟨hwf,hlen⟩:=inTree_wf ho hq
  have HWF:=gh hwf
  have HLEN:=gh hlen
  have HLL:=gh (pairsF_len hlen)
  clear h ho hx hq e1 hwf hlen
  go_enter Tryz.func50,Tryz.ntmps50
  go_wp2_with (fail)
  refine (isInTree_p _ b s x H.out HO.out HX.out true HQ.out).mono ?_
  rintro e W2 ⟨rfl,k2⟩
  have K2:=gh k2
  clear k2
  go_wp2_with (fail)
  refine (pairsBelow_p W2 b s (H.out.kept K2.out) HO.out (fuel s) x HWF.out HLEN.out _ rfl).mono ?_
  rintro e W3 ⟨v,rfl,hr,k3⟩
  obtain ⟨la,lc,hv,hrd,hlc,hlm,_⟩:=hr.reads
  obtain ⟨M,hM⟩:∃ M,(pairsF s (fuel s) x).length=M:=⟨_,rfl⟩
  have HMM:=gh hM
  have hm:M≤70001:=by rw [← hM];exact HLL.out
  rw [hM] at hv hlc
  subst hv
  have HRD:=gh hrd
  have HLC:=gh hlc
  have HLM:=gh hlm
  have K3:=gh (K2.out.trans k3)
  clear hr k3 hrd hlc hlm hM
  go_wp2_with (fail)
  refine (isIdeal_p (fuel s) W3 b s (H.out.kept K3.out) HO.out x HX.out (fun _=>HWF.out) _ M HMM.out (by omega) la lc HRD.out HLC.out HLM.out r HE.out).mono ?_
  rintro e W4 ⟨rfl,k4⟩
  have K4:=gh (K3.out.trans k4)
  clear k4
  go_wp2
  go_ret
  exact ⟨rfl,K4.out⟩
end
section
theorem isIdeal0_p (W:World) (b:Nat) (x:Int) (v:Value) (n₀:Nat) (hx:I64 x) (k1:kd x=1) (hr:PRow W n₀ 59 v []) :
  Calls Tryz.prog 99 #[.pointer (some ⟨b,0,none⟩),.int .i64 x,v] W fun e w'=>e=.returned (.bool true)∧W=w':=by
 obtain ⟨la,lc,rfl,_⟩:=hr.reads
 have HX:=gh hx
 have HK:=gh k1
 simp only [List.length_nil]
 clear hx k1 hr
 go_enter Tryz.func99,Tryz.ntmps99
 go_wp2_with (fail)
 refine (kk_p _ x 1 HX.out HK.out).mono ?_
 rintro e w' ⟨rfl,rfl⟩
 go_wp2
 go_ret
 exact ⟨rfl,rfl⟩
theorem ideal0_p (w:World) (b:Nat) (s:Mst) (x:Int) (h:PM w b s) (ho:s.ok) (hx:I64 x) (ht:inTreeB s x=true) (k1:kd x=1) :
  Calls Tryz.prog 50 #[.pointer (some ⟨b,0,none⟩),.int .i64 x] w fun e w'=>e=.returned (.bool true)∧Kept w w':=by
 have H:=gh h
 have HO:=gh ho
 have HX:=gh hx
 have HT:=gh ht
 have HK:=gh k1
 have HE:Hid (pairsF s (fuel s) x=[]):=gh (by
  unfold pairsF leafL
  rw [if_neg (by rw [k1];decide),spotsF_none (by rw [tgt,if_neg (by rw [k1];decide),k1];decide)]
  rfl)
 clear h ho hx ht k1
 go_enter Tryz.func50,Tryz.ntmps50
 go_wp2_with (fail)
 refine (isInTree_p _ b s x H.out HO.out HX.out true HT.out).mono ?_
 rintro e W2 ⟨rfl,k2⟩
 have K2:=gh k2
 clear k2
 go_wp2_with (fail)
 refine (pairsBelow_p W2 b s (H.out.kept K2.out) HO.out (fuel s) x (inTree_wf HO.out HT.out).1 (inTree_wf HO.out HT.out).2 [] HE.out).mono ?_
 rintro e W3 ⟨v,rfl,hr,k3⟩
 have HR:=gh hr
 have K3:=gh (K2.out.trans k3)
 clear hr k3
 go_wp2_with (fail)
 refine (isIdeal0_p W3 b x v W2.heap.size HX.out HK.out HR.out).mono ?_
 rintro e w' ⟨rfl,rfl⟩
 go_wp2
 go_ret
 exact ⟨rfl,K3.out⟩
theorem Now.pm {w W:World} {b:Nat} {s:Mst} (h:Now w W b s):PM W b s:=by
 obtain ⟨⟨v,h⟩,_⟩:=h
 exact ⟨_,_,h⟩
def kn0:Mst:=begun (Mst.new 9)
theorem kn0_eq:kn0=⟨[1,0,0,0,0,57,0],9,2,0,0⟩:=by kernel_rfl
theorem kn0_ok:kn0.ok:=by
 rw [kn0_eq]
 refine ⟨?_,by simp⟩
 intro z hz
 simp at hz
 rcases hz with rfl | rfl | rfl | rfl <;> exact ⟨by decide,by decide⟩
theorem kn0_sound:soundB kn0=true:=by decide +kernel
theorem kn0_calm:calmB kn0=true:=by decide +kernel
theorem kn0_logic:kn0.logicZ 6=57:=by decide +kernel
theorem kn0_spots:(if soundB kn0=true then spotsL kn0 (fuel kn0) else [])=[(6,57)]:=by decide +kernel
theorem kn0_in:inTreeB kn0 57=true:=by decide +kernel
theorem kn0_content:contentB kn0 57=[]:=by decide +kernel
theorem kn0_depth:depthB kn0 57=0:=by decide +kernel
theorem kn0_kind:kd 57=1:=by decide +kernel
set_option maxHeartbeats 1000000 in
set_option maxRecDepth 20000 in
theorem known_c (w:World):Calls Tryz.prog 28 #[] w fun e w'=>e=.returned (.bool true)∧Kept w w':=by
 go_enter Tryz.func28,Tryz.ntmps28
 go_wp2_with (fail)
 refine (now_new w w 9 (Kept.refl w) (by decide) (by decide)).mono ?_
 rintro e W1 ⟨rfl,N1,_⟩
 obtain ⟨b,hb⟩:∃ b,w.heap.size=b:=⟨_,rfl⟩
 rw [hb] at N1 ⊢
 clear hb
 have M1:=gh N1
 clear N1
 go_wp2_with (fail)
 refine (begin_c w W1 b (Mst.new 9) M1.out rfl (by decide)).mono ?_
 rintro e W2 ⟨rfl,N2⟩
 have K2:=gh N2.2
 have M2:Hid (PM W2 b kn0):=gh N2.pm
 clear N2 M1
 have i57:Hid (I64 57):=gh ⟨by decide,by decide⟩
 go_wp2_with (fail)
 refine (spots_p W2 b kn0 M2.out kn0_ok _ kn0_spots).mono ?_
 rintro e W3 ⟨v,rfl,hr,k3⟩
 obtain ⟨la,lc,hv,hrd,hlc,_⟩:=hr.reads
 simp only [List.length_singleton] at hv hlc
 subst hv
 obtain ⟨bl,off,rfl,_,q0,q1⟩:=hrd.at (j:=0) rfl
 have K3:=gh (K2.out.trans k3)
 have M3:=gh (M2.out.kept k3)
 have C0:Hid (W3.cell? ⟨bl,off,none⟩=some (.int .i64 6)):=gh (by simpa using q0)
 have C1:Hid (W3.cell? ⟨bl,off+1,none⟩=some (.int .i64 57)):=gh (by simpa using q1)
 clear hr k3 hrd q0 q1 K2 M2
 go_wp2_with (fail)
 refine (sound_p W3 b kn0 M3.out kn0_ok true kn0_sound).mono ?_
 rintro e W4 ⟨rfl,k4⟩
 have K4:=gh (K3.out.trans k4)
 have M4:=gh (M3.out.kept k4)
 have C0:=gh (k4.cell C0.out id)
 have C1:=gh (k4.cell C1.out id)
 clear k4 K3 M3
 go_wp2_with (fail)
 refine (calm_p W4 b kn0 M4.out kn0_ok true kn0_calm).mono ?_
 rintro e W5 ⟨rfl,k5⟩
 have K5:=gh (K4.out.trans k5)
 have M5:=gh (M4.out.kept k5)
 have c0:=k5.cell C0.out id
 have c1:=k5.cell C1.out id
 clear k5 K4 M4
 go_wp2_with (fail)
 refine (logic_p W5 b kn0 6 57 M5.out kn0_ok kn0_logic).mono ?_
 rintro e w' ⟨rfl,rfl⟩
 go_wp2_with (fail)
 refine (content_p W5 b kn0 57 M5.out kn0_ok i57.out [] kn0_content).mono ?_
 rintro e W6 ⟨v6,rfl,hr6,k6⟩
 obtain ⟨la6,lc6,hv6,_⟩:=hr6.reads
 simp only [List.length_nil] at hv6
 subst hv6
 have K6:=gh (K5.out.trans k6)
 have M6:=gh (M5.out.kept k6)
 clear hr6 k6 K5 M5
 go_wp2_with (fail)
 refine (depth_p W6 b kn0 57 M6.out kn0_ok i57.out 0 kn0_depth).mono ?_
 rintro e W7 ⟨rfl,k7⟩
 have K7:=gh (K6.out.trans k7)
 have M7:=gh (M6.out.kept k7)
 clear k7 K6 M6
 go_wp2_with (fail)
 refine (ideal0_p W7 b kn0 57 M7.out kn0_ok i57.out kn0_in kn0_kind).mono ?_
 rintro e W8 ⟨rfl,k8⟩
 have K8:=gh (K7.out.trans k8)
 clear k8 K7 M7
 go_wp2
 go_ret
 exact ⟨rfl,K8.out⟩
end
section
open Go.Shelf
attribute [local go_sem] Oper.semAt_some
theorem PRow.form {w:World} {n₀:Nat} {E:TypeId} {v:Value} {xs:List (Int × Int)} (h:PRow w n₀ E v xs):∃ a cap,v=.slice a xs.length cap∧PReads w a xs∧xs.length≤cap∧cap≤maxLen∧(a=none→cap=0)∧∀ ad,a=some ad→n₀≤ad.block∧ad.block < w.heap.size:=by
 obtain ⟨a,cap,rfl,h1,h2,h3,h4,h5⟩:=h.reads
 refine ⟨a,cap,rfl,h1,h2,h3,h4,fun ad e=>⟨h5 ad e,?_⟩⟩
 subst e
 rcases h.2 with ⟨e,_⟩ | ⟨g,cap',cur,e,hg,hh,_⟩
 ·cases e
 ·cases e
  exact (Array.getElem?_eq_some_iff.1 hh).1
end
section
open Go.Shelf
attribute [local go_sem] Oper.semAt_some
theorem content_len {s:Mst} (ho:s.ok):(contentB s (s.logicZ 6)).length≤100000:=by
 unfold contentB
 split
 ·rename_i h
  have hq:soundB s=true:=by simp only [inTreeB,Bool.and_eq_true] at h;exact h.1
  have h1:=spotsL_len ho hq
  have h2:=pairsF_le s (fuel s) (s.logicZ 6)
  rw [spotsL,List.length_cons] at h1
  omega
 ·simp
def MemI (W:World) (n2 bp bm:Nat) (s:Mst):Prop:=∃ v,PMem W n2 bm v s∧∀ k,Foot bm v k→k < bp
theorem MemI.turned {W W':World} {n2 bp bm:Nat} {s:Mst} {R:Nat→Prop} (h:MemI W n2 bp bm s) (t:Td R W W') (hR:∀ k,R k→n2≤k→k < bp→False):MemI W' n2 bp bm s:=by
 obtain ⟨v,hv,hk⟩:=h
 exact ⟨v,hv.turned t (fun k e r=>hR k r (hv.lt k e).1 (hk k e)),hk⟩
theorem MemI.kept {W W':World} {n2 bp bm:Nat} {s:Mst} (h:MemI W n2 bp bm s) (t:Kept W W'):MemI W' n2 bp bm s:=h.turned t (fun _ e=>e.elim)
theorem MemI.pm {W:World} {n2 bp bm:Nat} {s:Mst} (h:MemI W n2 bp bm s):PM W bm s:=by
 obtain ⟨v,hv,_⟩:=h
 exact ⟨n2,v,hv⟩
def CntN (n N:Nat):Inv (Int × Int):=fun O pre A=>(∀ k,O k↔k=n)∧Boxed A n 3 (.int .i64 (pre.length:Int))∧pre.length≤N
def StopN (n N:Nat) (c0:Code) (c:Code):Inv (Int × Int):=fun O pre A=>(∀ k,O k↔k=n)∧Boxed A n 3 (.int .i64 (N:Int))∧c=c0∧N < pre.length
theorem CntN.good (n N:Nat):Good (CntN n N):=by
 constructor
 ·rintro O pre A B ⟨hO,hb,hl⟩ ht
  exact ⟨hO,ht.boxed hb (fun hn=>hn ((hO n).2 rfl)),hl⟩
 ·rintro O pre A ⟨hO,hb,_⟩ k hk
  rw [(hO k).1 hk]
  exact hb.lt
theorem StopN.good (n N:Nat) (c0 c:Code):Good (StopN n N c0 c):=by
 constructor
 ·rintro O pre A B ⟨hO,hb,hl⟩ ht
  exact ⟨hO,ht.boxed hb (fun hn=>hn ((hO n).2 rfl)),hl⟩
 ·rintro O pre A ⟨hO,hb,_⟩ k hk
  rw [(hO k).1 hk]
  exact hb.lt
end
section
open Go.Shelf
attribute [local go_sem] Oper.semAt_some
structure Sv (w n2 X:World) (b0 bm bx n0:Nat) (vx:Value) (sx s:Mst):Prop where
 now:Now n2 X bm s
 dmem:DMem X n0 bx vx sx
 kept:Kept w X
 box:Boxed X b0 4 (.bool false)
theorem Sv.on {w n2 X Y:World} {b0 bm bx n0:Nat} {vx:Value} {sx s:Mst} (h:Sv w n2 X b0 bm bx n0 vx sx s) (k:Kept X Y):Sv w n2 Y b0 bm bx n0 vx sx s:=
 ⟨h.now.on k,h.dmem.kept k,h.kept.trans k,k.boxed h.box id⟩
theorem Sv.dm {w n2 X:World} {b0 bm bx n0:Nat} {vx:Value} {sx s:Mst} (h:Sv w n2 X b0 bm bx n0 vx sx s) (e:sx.xs=s.xs):DM X bx s:=⟨n0,vx,sx,e,h.dmem⟩
def StopF:Inv (Int × Int):=fun _ _ _=>False
theorem StopF.good:Good StopF:=by
 constructor
 ·rintro O pre A B h
  exact h.elim
 ·rintro O pre A h
  exact h.elim
end
end Go.Proofs.YtnjkmmmfhponlaaGreat
