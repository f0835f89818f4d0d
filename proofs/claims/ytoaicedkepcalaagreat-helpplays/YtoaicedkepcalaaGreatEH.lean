/-
  What the proof of YtoaicedkepcalaaGreatHelpPlaysProof goes by besides: contracts and plain facts. No conditions beyond each theorem's own.
-/
import Derived.Test.YtoaicedkepcalaaGreatY10
import Derived.Test.YtoaicedkepcalaaGreatRows
import Derived.WalkKit
import Derived.ProofKit
import Derived.OpenShut
import Derived.ShutString
import Derived.Deep.DeepCutAuto
import Derived.Deep.CutBlock
namespace Go.Proofs.YtoaicedkepcalaaGreat
open Go.RowKit
namespace Rf
open Go.ChangeShapes Go.WideShapes Go.ChangeAt Go.RowKit
theorem of_c (k t:Int) (w:World) :
  Calls Tryz.prog 41 #[.int .i64 k,.int .i64 t] w fun e w'=>e=.returned (.int .i64 (ofZ k t))/\w'=w:=by
 by_cases hm:1<=k/\k<=5/\1<=t/\t<=65536
 ·obtain ⟨c1,c2,c3,c4⟩:=hm;have eo:ofZ k t=8 * t+k:=by simp [ofZ,may,c1,c2,c3,c4]
  rw [eo];clear eo;go_enter Tryz.func41,Tryz.ntmps41;go_wp2;go_ret;exact ⟨rfl,rfl⟩
 ·have eo:ofZ k t=0:=by simp [ofZ,may];omega
  rw [eo];clear eo
  by_cases c1:1<=k
  ·by_cases c2:k<=5
   ·by_cases c3:1<=t
    ·have c4:¬ t<=65536:=by omega
     clear hm;go_enter Tryz.func41,Tryz.ntmps41;go_wp2;go_ret;exact ⟨rfl,rfl⟩
    ·clear hm;go_enter Tryz.func41,Tryz.ntmps41;go_wp2;go_ret;exact ⟨rfl,rfl⟩
   ·clear hm;go_enter Tryz.func41,Tryz.ntmps41;go_wp2;go_ret;exact ⟨rfl,rfl⟩
  ·clear hm;go_enter Tryz.func41,Tryz.ntmps41;go_wp2;go_ret;exact ⟨rfl,rfl⟩
end Rf
section
set_option maxRecDepth 20000
theorem cas_p (w:World) (n₀ b:Nat) (v:Value) (s:Mst) (a old x:Int) (h:PMem w n₀ b v s) :
  Calls Tryz.prog 71 #[.pointer (some ⟨b,0,none⟩),.int .i64 a,.int .i64 old,.int .i64 x] w fun e w'=>e=.returned (.bool (s.did a old))/\PMem w' n₀ b v (s.cas a old x)/\Td (Foot b v) w w':=by
 have hl:=h.len;have H:=gh h;cases hu:s.used a with
 | true=>
  obtain ⟨j,rfl,hj⟩:=Mst.used_nat hu;obtain ⟨g,cap,z,rfl,hz,hc,hf,hgb⟩:=h.cellAt (by decide) hj;rw [Mst.cas,Mst.did_in hz];have HU:=gh hu;have i1:(j:Int) < (s.xs.length:Int):=by omega
  clear hu h hz;cases ho:z == old with
  | true=>
   have ho':(z == old)=true:=ho;go_enter Tryz.func71,Tryz.ntmps71;go_wp2_with (fail);refine (reach_p _ n₀ b _ _ _ true H.o HU.o).mono ?_;rintro e w1 ⟨rfl,h1,t1⟩;have c0:=h1.opened.1.1;have c1:=t1.cell hc hgb;have f1:=(t1.frozen (p:=⟨g,j,none⟩) (World.block_lt_of_cell? _ _ hc) hgb).trans hf;have HP:=gh (put_p hj h1 t1 x);clear h1 t1 hc;go_wp2;go_ret;exact ⟨rfl,HP.o⟩
  | false=>
   go_enter Tryz.func71,Tryz.ntmps71;go_wp2_with (fail);refine (reach_p _ n₀ b _ _ _ true H.o HU.o).mono ?_;rintro e w1 ⟨rfl,h1,t1⟩;have c0:=h1.opened.1.1;have c1:=t1.cell hc hgb;have H1:=gh h1;have T1:=gh (touched_p (v:=(.slice (some ⟨g,0,none⟩) s.xs.length cap)) t1);clear h1 t1 hc;go_wp2;go_ret;exact ⟨rfl,H1.o,T1.o⟩
 | false=>
  rw [Mst.cas,Mst.did_out hu,if_neg (by simp)];have HU:=gh hu;clear hu h;go_enter Tryz.func71,Tryz.ntmps71;go_wp2_with (fail);refine (reach_p _ n₀ b _ _ _ false H.o HU.o).mono ?_;rintro e w1 ⟨rfl,h1,t1⟩;have H1:=gh h1;have T1:=gh (touched_p (v:=v) t1);clear h1 t1;go_wp2;go_ret;exact ⟨rfl,H1.o,T1.o⟩
end
section
set_option maxRecDepth 20000
attribute [local go_sem] Oper.semAt_some
def HpAt (W:World) (f:Nat) (p:Hp):Prop:=W.heap[f]? = some (.cells #[.int .i64 p.n,.int .i64 p.a,.int .i64 p.g,.int .i64 p.o,.int .i64 p.s,.int .i64 p.p,.int .i64 p.w] 120)
theorem HpAt.turned {W W':World} {f:Nat} {p:Hp} {R:Nat->Prop} (h:HpAt W f p) (t:Td R W W') (hR:¬ R f):HpAt W' f p:=t.heap h hR
theorem HpAt.kept {W W':World} {f:Nat} {p:Hp} (h:HpAt W f p) (t:Kept W W'):HpAt W' f p:=t.heap h id
theorem HpAt.cells {W:World} {f:Nat} {p:Hp} (h:HpAt W f p):(W.cell? ⟨f,0,none⟩=some (.int .i64 p.n)/\W.cell? ⟨f,1,none⟩=some (.int .i64 p.a)/\W.cell? ⟨f,2,none⟩=some (.int .i64 p.g)/\W.cell? ⟨f,3,none⟩=some (.int .i64 p.o)/\W.cell? ⟨f,4,none⟩=some (.int .i64 p.s)/\W.cell? ⟨f,5,none⟩=some (.int .i64 p.p)/\W.cell? ⟨f,6,none⟩=some (.int .i64 p.w))/\∀ i,W.frozen? ⟨f,i,none⟩=false:=by
 have hb:W.heap[f]? = _:=h;simp [World.cell?,World.frozen?,hb]
namespace Hp
def new (a:Int):Hp:=⟨0,a,0,0,0,0,0⟩
def step (p:Hp) (m:Mst):Hp × Mst:=
 if p.n=0 then ({ p with g:=m.look p.a,n:=1 },m.touch p.a)
 else if p.n=1 then ({ p with o:=outZ (m.look p.g),n:=2 },m.touch p.g)
 else if p.n=2 then ({ p with n:=3 },m.cas (p.a+4) 0 p.o)
 else if p.n=3 then ({ p with p:=placeZ (m.look (p.a+4)),n:=4 },m.touch (p.a+4))
 else if p.n=4 then ({ p with s:=m.look (p.a+1),n:=5 },m.touch (p.a+1))
 else if p.n=5 then ({ p with w:=m.look (p.a+p.p),n:=6 },m.touch (p.a+p.p))
 else if p.n=6 then ({ p with n:=7 },m.cas p.s (Rf.ofZ 5 p.a) p.w)
 else (p,m)
structure Ok (p:Hp):Prop where
 n:0<=p.n/\p.n<=7
 a:0<=p.a/\p.a<=1000000
 p:0<=p.p/\p.p<=10
end Hp
theorem hp_new (W:World) (a:Int):Calls Tryz.prog 24 #[.int .i64 a] W fun e W'=>e=.returned (.pointer (some ⟨W.heap.size,0,none⟩))/\HpAt W' W.heap.size (Hp.new a)/\Kept W W':=by
 go_enter Tryz.func24,Tryz.ntmps24;go_wp2;go_ret;exact ⟨rfl,heap_new _ _,Td.alloc _ _ _⟩
theorem hp_done (W:World) (f:Nat) (p:Hp) (h:HpAt W f p) (r:Bool) (e1:(p.n == 7)=r):Calls Tryz.prog 27 #[.pointer (some ⟨f,0,none⟩)] W fun e W'=>e=.returned (.bool r)/\W=W':=by
 obtain ⟨⟨c0,_⟩,_⟩:=h.cells;subst e1;clear h;go_enter Tryz.func27,Tryz.ntmps27;go_wp2;go_ret;exact ⟨rfl,rfl⟩
theorem out_q (W:World) (z r:Int) (e1:Hp.outZ z=r):Calls Tryz.prog 72 #[.int .i64 z] W fun e W'=>e=.returned (.int .i64 r)/\W=W':=by
 subst e1;unfold Hp.outZ
 by_cases hz:z=0
 ·rw [if_pos hz];subst hz;go_enter Tryz.func72,Tryz.ntmps72;go_wp2;go_ret;exact ⟨rfl,rfl⟩
 ·rw [if_neg hz];have g:(z == 0)=false:=by simp [hz]
  go_enter Tryz.func72,Tryz.ntmps72;go_wp2;go_ret;exact ⟨rfl,rfl⟩
theorem place_q (W:World) (z r:Int) (e1:Hp.placeZ z=r):Calls Tryz.prog 73 #[.int .i64 z] W fun e W'=>e=.returned (.int .i64 r)/\W=W':=by
 subst e1;unfold Hp.placeZ
 by_cases hz:z=1
 ·rw [if_pos hz];subst hz;go_enter Tryz.func73,Tryz.ntmps73;go_wp2;go_ret;exact ⟨rfl,rfl⟩
 ·rw [if_neg hz];have g:(z == 1)=false:=by simp [hz]
  go_enter Tryz.func73,Tryz.ntmps73;go_wp2;go_ret;exact ⟨rfl,rfl⟩
theorem of_q (W:World) (k a r:Int) (e1:Rf.ofZ k a=r):Calls Tryz.prog 41 #[.int .i64 k,.int .i64 a] W fun e W'=>e=.returned (.int .i64 r)/\W=W':=by
 subst e1;refine (Rf.of_c k a W).mono ?_;rintro e w' ⟨rfl,rfl⟩;exact ⟨rfl,rfl⟩
structure HpRan (W:World) (n₀ b:Nat) (v:Value) (f:Nat) (p:Hp) (m:Mst) (W':World):Prop where
 frame:HpAt W' f p
 mem:PMem W' n₀ b v m
 turned:Td (fun k=>k=f∨Foot b v k) W W'
set_option maxHeartbeats 4000000 in
theorem hp_step (W:World) (n₀ b:Nat) (v:Value) (f:Nat) (p:Hp) (m:Mst) (h:HpAt W f p) (hm:PMem W n₀ b v m) (hok:p.Ok) (ho:∀ a,I64 (m.look a)) (hf:¬ Foot b v f) (p':Hp) (m':Mst) (r:Bool) (e1:p.step m=(p',m')) (e2:(p'.n == 7)=r) :
  Calls Tryz.prog 26 #[.pointer (some ⟨f,0,none⟩),.pointer (some ⟨b,0,none⟩)] W fun e W'=>e=.returned (.bool r)/\HpRan W n₀ b v f p' m' W':=by
 obtain ⟨⟨c0,c1,c2,c3,c4,c5,c6⟩,fz⟩:=h.cells;have H:=gh h;have HM:=gh hm;have HO:=gh ho;have HF:=gh hf;have HR:=gh e2;obtain ⟨⟨n1,n2⟩,⟨a1,a2⟩,p1,p2⟩:=hok;have D0:∀ (q:Bool),(p.n == 7)=q->Calls Tryz.prog 27 #[.pointer (some ⟨f,0,none⟩)] W fun e W'=>e=.returned (.bool q)/\W=W':=fun q hq=>hp_done W f p h q hq;unfold Hp.step at e1;obtain ⟨n,a,g,o,s,q,wd⟩:=p;simp only at c0 c1 c2 c3 c4 c5 c6 e1 n1 n2 a1 a2 p1 p2 D0;obtain rfl | rfl | rfl | rfl | rfl | rfl | rfl | rfl:n=0∨n=1∨n=2∨n=3∨n=4∨n=5∨n=6∨n=7:=by omega
 ·have ne:((0:Int) == 7)=false:=by decide
  simp (config:={ decide:=true }) only [reduceIte] at e1;obtain ⟨z,hz⟩:∃ z,m.look (a)=z:=⟨_,rfl⟩;rw [hz] at e1;obtain ⟨rfl,rfl⟩:=Prod.mk.inj e1;have HZ:=gh hz;obtain ⟨z1,z2⟩:I64 z:=by rw [<- hz];exact ho _
  clear h hm ho hf e1 e2 hz;go_enter Tryz.func26,Tryz.ntmps26;go_wp2_with (fail);refine (D0 false ne).mono ?_;rintro e w' ⟨rfl,rfl⟩;clear D0;go_wp2_with (fail);refine (read_p _ n₀ b v m (a) HM.o).mono ?_;rw [HZ.o];rintro e W1 ⟨rfl,m1,t1⟩;have M1:=gh m1;have T1:Hid (Td (Foot b v) W W1):=gh (t1.mono (fun _ _ e=>.inl e));have F1:=gh (H.o.turned T1.o HF.o);clear m1 t1;obtain ⟨⟨d0,d1,d2,d3,d4,d5,d6⟩,df⟩:=F1.o.cells;have df0:=df 0;have df2:=df 2;simp only at d0 d1 d2 d3 d4 d5 d6;obtain ⟨W2,hW2⟩:∃ W2,(W1.setCell ⟨f,2,none⟩ (.int .i64 z)).setCell ⟨f,0,none⟩ (.int .i64 1)=W2:=⟨_,rfl⟩;have F2:HpAt W2 f ⟨1,a,z,o,s,q,wd⟩:=by
   have hb:W1.heap[f]? = _:=F1.o;rw [<- hW2];simp [HpAt,World.setCell,Array.getElem?_modify,hb]
  have T2:Td (fun k=>k=f) W1 W2:=by
   rw [<- hW2];exact (Td.setCell (R:=fun k=>k=f) _ _ _ rfl).trans (Td.setCell (R:=fun k=>k=f) _ _ _ rfl) (fun _ e=>e) (fun _ _ e=>e)
  have HF2:=gh F2;have HT2:=gh T2;have HW2:=gh hW2;clear F2 T2 hW2 df;go_wp2_with (fail);rw [HW2.o];refine (hp_done W2 f _ HF2.o r (by have:=HR.o;simpa using this)).mono ?_;rintro e W3 ⟨rfl,rfl⟩;go_wp2;go_ret;exact ⟨rfl,HF2.o,M1.o.turned HT2.o (fun k hk e=>HF.o (by rw [<- e];exact hk)),T1.o.trans HT2.o (fun _ e=>.inr e) (fun _ _ e=>.inl e)⟩
 ·have ne:((1:Int) == 7)=false:=by decide
  simp (config:={ decide:=true }) only [reduceIte] at e1;obtain ⟨z,hz⟩:∃ z,m.look (g)=z:=⟨_,rfl⟩;rw [hz] at e1;obtain ⟨rfl,rfl⟩:=Prod.mk.inj e1;have HZ:=gh hz;obtain ⟨z1,z2⟩:I64 z:=by rw [<- hz];exact ho _
  obtain ⟨y,hy⟩:∃ y,Hp.outZ z=y:=⟨_,rfl⟩;have HY:=gh hy;clear h hm ho hf e1 e2 hz hy;go_enter Tryz.func26,Tryz.ntmps26;go_wp2_with (fail);refine (D0 false ne).mono ?_;rintro e w' ⟨rfl,rfl⟩;clear D0;go_wp2_with (fail);refine (read_p _ n₀ b v m (g) HM.o).mono ?_;rw [HZ.o];rintro e W1 ⟨rfl,m1,t1⟩;have M1:=gh m1;have T1:Hid (Td (Foot b v) W W1):=gh (t1.mono (fun _ _ e=>.inl e));have F1:=gh (H.o.turned T1.o HF.o);clear m1 t1;go_wp2_with (fail);refine (out_q _ z y HY.o).mono ?_;rintro e w' ⟨rfl,rfl⟩;obtain ⟨⟨d0,d1,d2,d3,d4,d5,d6⟩,df⟩:=F1.o.cells;have df0:=df 0;have df3:=df 3;simp only at d0 d1 d2 d3 d4 d5 d6;obtain ⟨W2,hW2⟩:∃ W2,(W1.setCell ⟨f,3,none⟩ (.int .i64 y)).setCell ⟨f,0,none⟩ (.int .i64 2)=W2:=⟨_,rfl⟩;have F2:HpAt W2 f ⟨2,a,g,y,s,q,wd⟩:=by
   have hb:W1.heap[f]? = _:=F1.o;rw [<- hW2];simp [HpAt,World.setCell,Array.getElem?_modify,hb]
  have T2:Td (fun k=>k=f) W1 W2:=by
   rw [<- hW2];exact (Td.setCell (R:=fun k=>k=f) _ _ _ rfl).trans (Td.setCell (R:=fun k=>k=f) _ _ _ rfl) (fun _ e=>e) (fun _ _ e=>e)
  have HF2:=gh F2;have HT2:=gh T2;have HW2:=gh hW2;clear F2 T2 hW2 df;go_wp2_with (fail);rw [HW2.o];refine (hp_done W2 f _ HF2.o r (by have:=HR.o;simpa using this)).mono ?_;rintro e W3 ⟨rfl,rfl⟩;go_wp2;go_ret;exact ⟨rfl,by rw [HY.o];exact HF2.o,M1.o.turned HT2.o (fun k hk e=>HF.o (by rw [<- e];exact hk)),T1.o.trans HT2.o (fun _ e=>.inr e) (fun _ _ e=>.inl e)⟩
 ·have ne:((2:Int) == 7)=false:=by decide
  simp (config:={ decide:=true }) only [reduceIte] at e1;obtain ⟨rfl,rfl⟩:=Prod.mk.inj e1;obtain ⟨V,hV⟩:∃ V,W.drew=V:=⟨_,rfl⟩;have kV:Kept W V:=by rw [<- hV];exact Kept.drew _
  obtain ⟨⟨v0,v1,v2,v3,v4,v5,v6⟩,_⟩:=(h.kept kV).cells;have x1:∀ u:Wd (fun U=>Td (Foot b v) V U),u.w.cell? ⟨f,1,none⟩=some (.int .i64 a):=fun u=>u.ok.cell v1 hf;have x3:∀ u:Wd (fun U=>Td (Foot b v) V U),u.w.cell? ⟨f,3,none⟩=some (.int .i64 o):=fun u=>u.ok.cell v3 hf;have HV:=gh hV;have KV:=gh kV;have FV:=gh (h.kept kV);have MV:=gh (hm.kept kV);clear hV kV v0 v1 v2 v3 v4 v5 v6;clear h hm ho hf e1 e2;go_enter Tryz.func26,Tryz.ntmps26;go_wp2_with (fail);refine (D0 false ne).mono ?_;rintro e w' ⟨rfl,rfl⟩;clear D0;go_wp2_with (fail);refine region_wide [0,1,2,3,4,5,6,7,8,9,10] (fun U=>Td (Foot b v) V U) (by kernel_rfl) (by kernel_rfl) (by rw [HV.o];exact Td.refl _ _) (fun _=>?_);rw [HV.o]
  repeat (refine pq rfl rfl ?_;go_big_quiet_step (fail);refine wpQuiet_nil ?_)
  refine pl rfl rfl ?_;gi_wp2_with (fail);refine ⟨trivial,?_⟩;refine (callsIn_wide.2 (cas_p V n₀ b v m (a+4) 0 o MV.o)).mono ?_;rintro e W1 ⟨rfl,m1,t1⟩;have T9:Hid (Td (Foot b v) V W1):=gh (t1);have M1:=gh m1;have T1:Hid (Td (Foot b v) W W1):=gh (KV.o.then T9.o);have F1:=gh (FV.o.turned T9.o HF.o);clear m1 t1;gi_wp2_with (fail);refine ⟨Wd.mem T9.o,?_⟩;refine perm_done ?_;clear x1 x3;obtain ⟨⟨d0,d1,d2,d3,d4,d5,d6⟩,df⟩:=F1.o.cells;have df0:=df 0;simp only at d0 d1 d2 d3 d4 d5 d6;obtain ⟨W2,hW2⟩:∃ W2,W1.setCell ⟨f,0,none⟩ (.int .i64 3)=W2:=⟨_,rfl⟩;have F2:HpAt W2 f ⟨3,a,g,o,s,q,wd⟩:=by
   have hb:W1.heap[f]? = _:=F1.o;rw [<- hW2];simp [HpAt,World.setCell,Array.getElem?_modify,hb]
  have T2:Td (fun k=>k=f) W1 W2:=by
   rw [<- hW2];exact Td.setCell (R:=fun k=>k=f) _ _ _ rfl
  have HF2:=gh F2;have HT2:=gh T2;have HW2:=gh hW2;clear F2 T2 hW2 df;go_wp2_with (fail);rw [HW2.o];refine (hp_done W2 f _ HF2.o r (by have:=HR.o;simpa using this)).mono ?_;rintro e W3 ⟨rfl,rfl⟩;go_wp2;go_ret;exact ⟨rfl,HF2.o,M1.o.turned HT2.o (fun k hk e=>HF.o (by rw [<- e];exact hk)),T1.o.trans HT2.o (fun _ e=>.inr e) (fun _ _ e=>.inl e)⟩
 ·have ne:((3:Int) == 7)=false:=by decide
  simp (config:={ decide:=true }) only [reduceIte] at e1;obtain ⟨z,hz⟩:∃ z,m.look (a+4)=z:=⟨_,rfl⟩;rw [hz] at e1;obtain ⟨rfl,rfl⟩:=Prod.mk.inj e1;have HZ:=gh hz;obtain ⟨z1,z2⟩:I64 z:=by rw [<- hz];exact ho _
  obtain ⟨y,hy⟩:∃ y,Hp.placeZ z=y:=⟨_,rfl⟩;have HY:=gh hy;clear h hm ho hf e1 e2 hz hy;go_enter Tryz.func26,Tryz.ntmps26;go_wp2_with (fail);refine (D0 false ne).mono ?_;rintro e w' ⟨rfl,rfl⟩;clear D0;go_wp2_with (fail);refine (read_p _ n₀ b v m (a+4) HM.o).mono ?_;rw [HZ.o];rintro e W1 ⟨rfl,m1,t1⟩;have M1:=gh m1;have T1:Hid (Td (Foot b v) W W1):=gh (t1.mono (fun _ _ e=>.inl e));have F1:=gh (H.o.turned T1.o HF.o);clear m1 t1;go_wp2_with (fail);refine (place_q _ z y HY.o).mono ?_;rintro e w' ⟨rfl,rfl⟩;obtain ⟨⟨d0,d1,d2,d3,d4,d5,d6⟩,df⟩:=F1.o.cells;have df0:=df 0;have df5:=df 5;simp only at d0 d1 d2 d3 d4 d5 d6;obtain ⟨W2,hW2⟩:∃ W2,(W1.setCell ⟨f,5,none⟩ (.int .i64 y)).setCell ⟨f,0,none⟩ (.int .i64 4)=W2:=⟨_,rfl⟩;have F2:HpAt W2 f ⟨4,a,g,o,s,y,wd⟩:=by
   have hb:W1.heap[f]? = _:=F1.o;rw [<- hW2];simp [HpAt,World.setCell,Array.getElem?_modify,hb]
  have T2:Td (fun k=>k=f) W1 W2:=by
   rw [<- hW2];exact (Td.setCell (R:=fun k=>k=f) _ _ _ rfl).trans (Td.setCell (R:=fun k=>k=f) _ _ _ rfl) (fun _ e=>e) (fun _ _ e=>e)
  have HF2:=gh F2;have HT2:=gh T2;have HW2:=gh hW2;clear F2 T2 hW2 df;go_wp2_with (fail);rw [HW2.o];refine (hp_done W2 f _ HF2.o r (by have:=HR.o;simpa using this)).mono ?_;rintro e W3 ⟨rfl,rfl⟩;go_wp2;go_ret;exact ⟨rfl,by rw [HY.o];exact HF2.o,M1.o.turned HT2.o (fun k hk e=>HF.o (by rw [<- e];exact hk)),T1.o.trans HT2.o (fun _ e=>.inr e) (fun _ _ e=>.inl e)⟩
 ·have ne:((4:Int) == 7)=false:=by decide
  simp (config:={ decide:=true }) only [reduceIte] at e1;obtain ⟨z,hz⟩:∃ z,m.look (a+1)=z:=⟨_,rfl⟩;rw [hz] at e1;obtain ⟨rfl,rfl⟩:=Prod.mk.inj e1;have HZ:=gh hz;obtain ⟨z1,z2⟩:I64 z:=by rw [<- hz];exact ho _
  clear h hm ho hf e1 e2 hz;go_enter Tryz.func26,Tryz.ntmps26;go_wp2_with (fail);refine (D0 false ne).mono ?_;rintro e w' ⟨rfl,rfl⟩;clear D0;go_wp2_with (fail);refine (read_p _ n₀ b v m (a+1) HM.o).mono ?_;rw [HZ.o];rintro e W1 ⟨rfl,m1,t1⟩;have M1:=gh m1;have T1:Hid (Td (Foot b v) W W1):=gh (t1.mono (fun _ _ e=>.inl e));have F1:=gh (H.o.turned T1.o HF.o);clear m1 t1;obtain ⟨⟨d0,d1,d2,d3,d4,d5,d6⟩,df⟩:=F1.o.cells;have df0:=df 0;have df4:=df 4;simp only at d0 d1 d2 d3 d4 d5 d6;obtain ⟨W2,hW2⟩:∃ W2,(W1.setCell ⟨f,4,none⟩ (.int .i64 z)).setCell ⟨f,0,none⟩ (.int .i64 5)=W2:=⟨_,rfl⟩;have F2:HpAt W2 f ⟨5,a,g,o,z,q,wd⟩:=by
   have hb:W1.heap[f]? = _:=F1.o;rw [<- hW2];simp [HpAt,World.setCell,Array.getElem?_modify,hb]
  have T2:Td (fun k=>k=f) W1 W2:=by
   rw [<- hW2];exact (Td.setCell (R:=fun k=>k=f) _ _ _ rfl).trans (Td.setCell (R:=fun k=>k=f) _ _ _ rfl) (fun _ e=>e) (fun _ _ e=>e)
  have HF2:=gh F2;have HT2:=gh T2;have HW2:=gh hW2;clear F2 T2 hW2 df;go_wp2_with (fail);rw [HW2.o];refine (hp_done W2 f _ HF2.o r (by have:=HR.o;simpa using this)).mono ?_;rintro e W3 ⟨rfl,rfl⟩;go_wp2;go_ret;exact ⟨rfl,HF2.o,M1.o.turned HT2.o (fun k hk e=>HF.o (by rw [<- e];exact hk)),T1.o.trans HT2.o (fun _ e=>.inr e) (fun _ _ e=>.inl e)⟩
 ·have ne:((5:Int) == 7)=false:=by decide
  simp (config:={ decide:=true }) only [reduceIte] at e1;obtain ⟨z,hz⟩:∃ z,m.look (a+q)=z:=⟨_,rfl⟩;rw [hz] at e1;obtain ⟨rfl,rfl⟩:=Prod.mk.inj e1;have HZ:=gh hz;obtain ⟨z1,z2⟩:I64 z:=by rw [<- hz];exact ho _
  obtain ⟨V,hV⟩:∃ V,W.drew=V:=⟨_,rfl⟩;have kV:Kept W V:=by rw [<- hV];exact Kept.drew _
  obtain ⟨⟨v0,v1,v2,v3,v4,v5,v6⟩,_⟩:=(h.kept kV).cells;have x1:∀ u:Wd (fun U=>Td (Foot b v) V U),u.w.cell? ⟨f,1,none⟩=some (.int .i64 a):=fun u=>u.ok.cell v1 hf;have x5:∀ u:Wd (fun U=>Td (Foot b v) V U),u.w.cell? ⟨f,5,none⟩=some (.int .i64 q):=fun u=>u.ok.cell v5 hf;have HV:=gh hV;have KV:=gh kV;have FV:=gh (h.kept kV);have MV:=gh (hm.kept kV);clear hV kV v0 v1 v2 v3 v4 v5 v6;clear h hm ho hf e1 e2 hz;go_enter Tryz.func26,Tryz.ntmps26;go_wp2_with (fail);refine (D0 false ne).mono ?_;rintro e w' ⟨rfl,rfl⟩;clear D0;go_wp2_with (fail);refine region_last [0,1,2,3,4,5,6,7,8,9,10,11,12,13] 14 (fun U=>Td (Foot b v) V U) (by kernel_rfl) (by kernel_rfl) (by rw [HV.o];exact Td.refl _ _) (fun _=>?_);rw [HV.o]
  repeat (refine lq rfl rfl ?_;go_big_quiet_step (fail);refine wpQuiet_nil ?_)
  refine ll rfl rfl ?_;gi_wp2_with (fail);refine ⟨trivial,?_⟩;refine (callsIn_wide.2 (read_p V n₀ b v m (a+q) MV.o)).mono ?_;rw [HZ.o];rintro e W1 ⟨rfl,m1,t1⟩;have T9:Hid (Td (Foot b v) V W1):=gh (t1.mono (fun _ _ e=>.inl e));have M1:=gh m1;have T1:Hid (Td (Foot b v) W W1):=gh (KV.o.then T9.o);have F1:=gh (FV.o.turned T9.o HF.o);clear m1 t1;gi_wp2_with (fail);refine ⟨Wd.mem T9.o,?_⟩
  repeat (refine lq rfl rfl ?_;go_big_quiet_step (fail);refine wpQuiet_nil ?_)
  obtain ⟨⟨d0,d1,d2,d3,d4,d5,d6⟩,df⟩:=F1.o.cells;have df0:=df 0;have df6:=df 6;simp only at d0 d1 d2 d3 d4 d5 d6;obtain ⟨W2,hW2⟩:∃ W2,(W1.setCell ⟨f,6,none⟩ (.int .i64 z)).setCell ⟨f,0,none⟩ (.int .i64 6)=W2:=⟨_,rfl⟩;have F2:HpAt W2 f ⟨6,a,g,o,s,q,z⟩:=by
   have hb:W1.heap[f]? = _:=F1.o;rw [<- hW2];simp [HpAt,World.setCell,Array.getElem?_modify,hb]
  have T2:Td (fun k=>k=f) W1 W2:=by
   rw [<- hW2];exact (Td.setCell (R:=fun k=>k=f) _ _ _ rfl).trans (Td.setCell (R:=fun k=>k=f) _ _ _ rfl) (fun _ e=>e) (fun _ _ e=>e)
  have HF2:=gh F2;have HT2:=gh T2;have HW2:=gh hW2;clear F2 T2 hW2 df;clear x1 x5;refine lz rfl ?_;gi_wp2;refine last_done ?_;go_wp2_with (fail);rw [HW2.o];refine (hp_done W2 f _ HF2.o r (by have:=HR.o;simpa using this)).mono ?_;rintro e W3 ⟨rfl,rfl⟩;go_wp2;go_ret;exact ⟨rfl,HF2.o,M1.o.turned HT2.o (fun k hk e=>HF.o (by rw [<- e];exact hk)),T1.o.trans HT2.o (fun _ e=>.inr e) (fun _ _ e=>.inl e)⟩
 ·have ne:((6:Int) == 7)=false:=by decide
  simp (config:={ decide:=true }) only [reduceIte] at e1;obtain ⟨rfl,rfl⟩:=Prod.mk.inj e1;obtain ⟨me,hme⟩:∃ me,Rf.ofZ 5 a=me:=⟨_,rfl⟩;have HME:=gh hme;have CO:∀ X,Calls Tryz.prog 41 #[.int .i64 5,.int .i64 a] X fun e W'=>e=.returned (.int .i64 me)/\X=W':=fun X=>of_q X 5 a me hme;obtain ⟨V,hV⟩:∃ V,W.drew=V:=⟨_,rfl⟩;have kV:Kept W V:=by rw [<- hV];exact Kept.drew _
  obtain ⟨⟨v0,v1,v2,v3,v4,v5,v6⟩,_⟩:=(h.kept kV).cells;have x1:∀ u:Wd (fun U=>Td (Foot b v) V U),u.w.cell? ⟨f,1,none⟩=some (.int .i64 a):=fun u=>u.ok.cell v1 hf;have x4:∀ u:Wd (fun U=>Td (Foot b v) V U),u.w.cell? ⟨f,4,none⟩=some (.int .i64 s):=fun u=>u.ok.cell v4 hf;have x6:∀ u:Wd (fun U=>Td (Foot b v) V U),u.w.cell? ⟨f,6,none⟩=some (.int .i64 wd):=fun u=>u.ok.cell v6 hf;have HV:=gh hV;have KV:=gh kV;have FV:=gh (h.kept kV);have MV:=gh (hm.kept kV);clear hV kV v0 v1 v2 v3 v4 v5 v6;clear h hm ho hf e1 e2 hme;go_enter Tryz.func26,Tryz.ntmps26;go_wp2_with (fail);refine (D0 false ne).mono ?_;rintro e w' ⟨rfl,rfl⟩;clear D0;go_wp2_with (fail);refine region_wide [0,1,2,3,4,5,6,7,8,10,11,12,13,9,14] (fun U=>Td (Foot b v) V U) (by kernel_rfl) (by kernel_rfl) (by rw [HV.o];exact Td.refl _ _) (fun _=>?_);rw [HV.o]
  repeat (refine pq rfl rfl ?_;go_big_quiet_step (fail);refine wpQuiet_nil ?_)
  refine pl rfl rfl ?_;gi_wp2_with (fail);refine ⟨trivial,?_⟩;refine (callsIn_wide.2 (CO V)).mono ?_;rintro e w' ⟨rfl,rfl⟩;gi_wp2_with (fail);refine ⟨Wd.mem (Td.refl _ _),?_⟩;refine pl rfl rfl ?_;gi_wp2_with (fail);refine ⟨trivial,?_⟩;refine (callsIn_wide.2 (cas_p V n₀ b v m s me wd MV.o)).mono ?_;rintro e W1 ⟨rfl,m1,t1⟩;have T9:Hid (Td (Foot b v) V W1):=gh (t1);have M1:=gh m1;have T1:Hid (Td (Foot b v) W W1):=gh (KV.o.then T9.o);have F1:=gh (FV.o.turned T9.o HF.o);clear m1 t1;gi_wp2_with (fail);refine ⟨Wd.mem T9.o,?_⟩;refine perm_done ?_;clear x1 x4 x6;obtain ⟨⟨d0,d1,d2,d3,d4,d5,d6⟩,df⟩:=F1.o.cells;have df0:=df 0;simp only at d0 d1 d2 d3 d4 d5 d6;obtain ⟨W2,hW2⟩:∃ W2,W1.setCell ⟨f,0,none⟩ (.int .i64 7)=W2:=⟨_,rfl⟩;have F2:HpAt W2 f ⟨7,a,g,o,s,q,wd⟩:=by
   have hb:W1.heap[f]? = _:=F1.o;rw [<- hW2];simp [HpAt,World.setCell,Array.getElem?_modify,hb]
  have T2:Td (fun k=>k=f) W1 W2:=by
   rw [<- hW2];exact Td.setCell (R:=fun k=>k=f) _ _ _ rfl
  have HF2:=gh F2;have HT2:=gh T2;have HW2:=gh hW2;clear F2 T2 hW2 df;go_wp2_with (fail);rw [HW2.o];refine (hp_done W2 f _ HF2.o r (by have:=HR.o;simpa using this)).mono ?_;rintro e W3 ⟨rfl,rfl⟩;go_wp2;go_ret;exact ⟨rfl,HF2.o,by rw [HME.o];exact M1.o.turned HT2.o (fun k hk e=>HF.o (by rw [<- e];exact hk)),T1.o.trans HT2.o (fun _ e=>.inr e) (fun _ _ e=>.inl e)⟩
 ·simp (config:={ decide:=true }) only [reduceIte] at e1;obtain ⟨rfl,rfl⟩:=Prod.mk.inj e1;clear h hm ho hf e1 e2;go_enter Tryz.func26,Tryz.ntmps26;go_wp2_with (fail);refine (D0 true rfl).mono ?_;rintro e w' ⟨rfl,rfl⟩;go_wp2_with (fail);refine (D0 r HR.o).mono ?_;rintro e w' ⟨rfl,rfl⟩;go_wp2;go_ret;exact ⟨rfl,H.o,HM.o,Td.refl _ _⟩
end
section
open Go.Shelf
variable {X:Nat->Prop}
set_option maxRecDepth 20000
theorem HpAt.others {W W':World} {f:Nat} {p:Hp} (h:HpAt W f p) (t:Others X W W'):HpAt W' f p:=t _ _ _ h (.inr (by decide)) (by decide)
end
section
open Sd (Pr Fo)
namespace Lp
end Lp
section
variable {α:Type}
theorem help_hl (a:Int):Pr.help a=(Pr.read a).bind fun g=>hl1 a g:=by
 unfold Pr.help hl1 hl2 hl3 hl4 hl5 hl6;congr 1;funext g;congr 1;funext gd;show Pr.bind (Pr.cas (a+4) 0 (if gd=0 then 1 else 2)) _=Pr.bind (Pr.cas (a+4) 0 (if gd=0 then 1 else 2)) _;congr 1;funext _;congr 1;funext o;congr 1;funext s;unfold Hp.placeZ
 split <;> rfl
def HpT (p:Hp) (K:Unit->Pr α) (T:Pr α):Prop:=(p.n=0/\T=(Pr.help p.a).bind K)∨(p.n=1/\T=(hl1 p.a p.g).bind K)∨(p.n=2/\T=(hl2 p.a p.o).bind K)∨(p.n=3/\T=(hl3 p.a).bind K)∨(p.n=4/\T=(hl4 p.a p.p).bind K)∨(p.n=5/\T=(hl5 p.a p.s p.p).bind K)∨(p.n=6/\T=(hl6 p.a p.s p.w).bind K)
theorem HpT.step {p:Hp} {K:Unit->Pr α} {T:Pr α} {m:Mst} (h:HpT p K T):∃ q k,T=.ask q k/\(p.step m).2=(m.doA q).2/\(((p.step m).1.n=7/\k (m.doA q).1=K ())∨((p.step m).1.n≠7/\HpT (p.step m).1 K (k (m.doA q).1)))/\(p.step m).1.a=p.a:=by
 have no:∀ {i j:Int},i≠j->p.n=i->¬ p.n=j:=fun h e=>by rw [e];exact h
 rcases h with ⟨e,rfl⟩ | ⟨e,rfl⟩ | ⟨e,rfl⟩ | ⟨e,rfl⟩ | ⟨e,rfl⟩ | ⟨e,rfl⟩ | ⟨e,rfl⟩ <;> unfold Hp.step
 ·rw [if_pos e,help_hl];exact ⟨_,_,rfl,rfl,.inr ⟨(by show (1:Int)≠7;decide),.inr (.inl ⟨rfl,rfl⟩)⟩,rfl⟩
 ·rw [if_neg (no (by decide) e),if_pos e];exact ⟨_,_,rfl,rfl,.inr ⟨(by show (2:Int)≠7;decide),.inr (.inr (.inl ⟨rfl,rfl⟩))⟩,rfl⟩
 ·rw [if_neg (no (by decide) e),if_neg (no (by decide) e),if_pos e];exact ⟨_,_,rfl,rfl,.inr ⟨(by show (3:Int)≠7;decide),.inr (.inr (.inr (.inl ⟨rfl,rfl⟩)))⟩,rfl⟩
 ·rw [if_neg (no (by decide) e),if_neg (no (by decide) e),if_neg (no (by decide) e),if_pos e];exact ⟨_,_,rfl,rfl,.inr ⟨(by show (4:Int)≠7;decide),.inr (.inr (.inr (.inr (.inl ⟨rfl,rfl⟩))))⟩,rfl⟩
 ·rw [if_neg (no (by decide) e),if_neg (no (by decide) e),if_neg (no (by decide) e),if_neg (no (by decide) e),if_pos e];exact ⟨_,_,rfl,rfl,.inr ⟨(by show (5:Int)≠7;decide),.inr (.inr (.inr (.inr (.inr (.inl ⟨rfl,rfl⟩)))))⟩,rfl⟩
 ·rw [if_neg (no (by decide) e),if_neg (no (by decide) e),if_neg (no (by decide) e),if_neg (no (by decide) e),if_neg (no (by decide) e),if_pos e];exact ⟨_,_,rfl,rfl,.inr ⟨(by show (6:Int)≠7;decide),.inr (.inr (.inr (.inr (.inr (.inr ⟨rfl,rfl⟩)))))⟩,rfl⟩
 ·rw [if_neg (no (by decide) e),if_neg (no (by decide) e),if_neg (no (by decide) e),if_neg (no (by decide) e),if_neg (no (by decide) e),if_neg (no (by decide) e),if_pos e];exact ⟨_,_,rfl,rfl,.inl ⟨rfl,rfl⟩,rfl⟩
theorem HpT.n {p:Hp} {K:Unit->Pr α} {T:Pr α} (h:HpT p K T):(p.n == 7)=false/\∃ q k,T=.ask q k:=by
 obtain ⟨q,k,e,_⟩:=h.step (m:=Mst.new 0);rcases h with ⟨h,_⟩ | ⟨h,_⟩ | ⟨h,_⟩ | ⟨h,_⟩ | ⟨h,_⟩ | ⟨h,_⟩ | ⟨h,_⟩ <;> exact ⟨by rw [h];rfl,q,k,e⟩
end
theorem Hp.Ok.step {p:Hp} (h:p.Ok) (m:Mst):(p.step m).1.Ok:=by
 obtain ⟨⟨n1,n2⟩,h2,h3⟩:=h;have pz:∀ z,0<=placeZ z/\placeZ z<=10:=fun z=>by unfold placeZ;split <;> omega
 have no:∀ {i j:Int},i≠j->p.n=i->¬ p.n=j:=fun h e=>by rw [e];exact h
 unfold Hp.step;rcases (by omega:p.n=0∨p.n=1∨p.n=2∨p.n=3∨p.n=4∨p.n=5∨p.n=6∨p.n=7) with e | e | e | e | e | e | e | e
 ·rw [if_pos e];exact ⟨⟨by show (0:Int)<=1;decide,by show (1:Int)<=7;decide⟩,h2,h3⟩
 ·rw [if_neg (no (by decide) e),if_pos e];exact ⟨⟨by show (0:Int)<=2;decide,by show (2:Int)<=7;decide⟩,h2,h3⟩
 ·rw [if_neg (no (by decide) e),if_neg (no (by decide) e),if_pos e];exact ⟨⟨by show (0:Int)<=3;decide,by show (3:Int)<=7;decide⟩,h2,h3⟩
 ·rw [if_neg (no (by decide) e),if_neg (no (by decide) e),if_neg (no (by decide) e),if_pos e];exact ⟨⟨by show (0:Int)<=4;decide,by show (4:Int)<=7;decide⟩,h2,pz _⟩
 ·rw [if_neg (no (by decide) e),if_neg (no (by decide) e),if_neg (no (by decide) e),if_neg (no (by decide) e),if_pos e];exact ⟨⟨by show (0:Int)<=5;decide,by show (5:Int)<=7;decide⟩,h2,h3⟩
 ·rw [if_neg (no (by decide) e),if_neg (no (by decide) e),if_neg (no (by decide) e),if_neg (no (by decide) e),if_neg (no (by decide) e),if_pos e];exact ⟨⟨by show (0:Int)<=6;decide,by show (6:Int)<=7;decide⟩,h2,h3⟩
 ·rw [if_neg (no (by decide) e),if_neg (no (by decide) e),if_neg (no (by decide) e),if_neg (no (by decide) e),if_neg (no (by decide) e),if_neg (no (by decide) e),if_pos e];exact ⟨⟨by show (0:Int)<=7;decide,by show (7:Int)<=7;decide⟩,h2,h3⟩
 ·rw [if_neg (no (by decide) e),if_neg (no (by decide) e),if_neg (no (by decide) e),if_neg (no (by decide) e),if_neg (no (by decide) e),if_neg (no (by decide) e),if_neg (no (by decide) e)];exact ⟨⟨n1,n2⟩,h2,h3⟩
def HqT (p:Hp) (T:Pr Int):Prop:=HpT p (fun _=>.ret 0) T∨(p.n=7/\T=.ret 0)
theorem HqT.new (a:Int):HqT (Hp.new a) (Lp.make 12 a).pr:=.inl (.inl ⟨rfl,rfl⟩)
theorem HqT.end {p:Hp} {T:Pr Int} (h:HqT p T):((p.n == 7)=true/\T=.ret 0)∨((p.n == 7)=false/\∃ a k,T=.ask a k):=by
 rcases h with h | ⟨h,e⟩
 ·exact .inr h.n
 ·exact .inl ⟨by rw [h];rfl,e⟩
theorem HqT.step {p:Hp} {T:Pr Int} {m:Mst} (h:HqT p T):∃ T',HqT (p.step m).1 T'/\Goes T m T' (p.step m).2:=by
 rcases h with h | ⟨h,e⟩
 ·obtain ⟨q,k,e1,e2,e3,_⟩:=h.step (m:=m);refine ⟨_,?_,.inl ⟨q,k,e1,rfl,e2⟩⟩;rcases e3 with ⟨e3,e4⟩ | ⟨_,e4⟩
  ·exact .inr ⟨e3,e4⟩
  ·exact .inl e4
 ·have es:p.step m=(p,m):=by unfold Hp.step;rw [h];rfl
  rw [es];exact ⟨T,.inr ⟨h,e⟩,.inr ⟨⟨_,e⟩,rfl,rfl⟩⟩
end
section
open Go.Shelf
open Sd (Pr)
variable {X Z:Nat->Prop}
set_option maxRecDepth 20000
theorem WX.swap {i j:Nat} {A B:Pr Int} {ix:Ixp} (h:WX i A j B ix):WX j B i A ix:=by
 obtain ⟨g,h1,h2,h3,h4⟩:=h;exact ⟨g,h1,h2,h4,h3⟩
theorem hp_y (w W:World) (y b x mb:Nat) (m:Mst) (ix:Ixp) (f:Nat) (p:Hp) (h:Yx X w W y b x mb m ix) (ho:m.ok) (hf:HpAt W f p) (hok:p.Ok) (hn:w.heap.size<=f) :
  Calls Tryz.prog 26 #[.pointer (some ⟨f,0,none⟩),.pointer (some ⟨b,0,none⟩)] W fun e W'=>e=.returned (.bool ((p.step m).1.n == 7))/\Yx X w W' y b x mb (p.step m).2 ix/\HpAt W' f (p.step m).1/\But X (fun k=>k=f) W W':=by
 obtain ⟨tb,v,mv,tv,lv,pz,h1,h2⟩:=h;have hnf:¬ Foot b v f:=h1.pm.other hf (by decide) (by decide);refine (hp_step W _ b v f p m hf h1.pm hok (fun a=>ho.look a) hnf (p.step m).1 (p.step m).2 _ rfl rfl).mono ?_;rintro e W' ⟨rfl,R⟩;refine ⟨rfl,⟨tb,v,mv,tv,lv,pz,h1.prog R.turned (fun k hk=>?_) R.mem (fun k hk=>.inl hk),h2.own (fun k hk=>?_) R.turned⟩,R.frame,But.of h1 R.turned⟩
 ·rcases hk with rfl | hk
  ·exact .inr ⟨_,_,hf,by decide,by decide⟩
  ·exact .inl hk
 ·rcases hk with rfl | hk
  ·exact hn
  ·exact (h1.pm.lt k hk).1
end
namespace Sd
variable {m m':Mst} {g g':Gh}
theorem lay_pd (h:Inv m g) {p:Int × Int} (hs:Sl m g p) (sh:Bool) (t:Nat):∃ g',Gt t m g (layZ m p sh).1 g'/\((layZ m p sh).2≠0->∃ gd s o x,Pd g' (layZ m p sh).2 gd s o x):=by
 obtain ⟨h0,hcm,d,n,i,lo,hi,sl,iv⟩:=hs;unfold layZ
 by_cases hk:kd (m.look p.2)=5∨kd (m.look p.2)=3∨kd (m.look p.2)=4
 ·rw [if_pos hk];exact ⟨g,Gt.same ⟨h,Ex.refl m g⟩,fun e=>absurd rfl e⟩
 rw [if_neg hk];have ow:OkW m g p.2 (m.look p.2):=by
  rcases h.sees sl.ro with e | e | ⟨e,_⟩
  ·exact absurd e h0
  ·exact e
  ·exact absurd (.inl e) hk
 have hat:At g (p.1+2) p.2:=⟨p.1,d,n,i,lo,hi,sl,rfl,iv⟩;obtain ⟨w2,i2⟩:=hat.small h;have iw:I64 (m.look p.2):=h.ok.look _;have lp:=h.lt (c:=p.2) (by rw [sl.ro];exact fun e=>by cases e);have hz:=h.sz
 by_cases f1:m.fits 1=true
 ·have f1':m.fits ([0]:List Int).length=true:=f1;have hfz:(m.xs.length:Int)+1<=m.size:=by unfold Mst.fits at f1;simp at f1;omega
  obtain ⟨A,hA⟩:∃ A,(m.xs.length:Int)+1=A:=⟨_,rfl⟩;obtain ⟨g1,G1,E1,hm1,o1,_,_⟩:=mk_empty (t:=t) h hA.symm (make_more h (ws:=[0]) (by intro z hz;simp at hz;rw [hz];exact ⟨by decide,by decide⟩) f1');have en:m.next [0]=A:=by unfold Mst.next;rw [if_pos f1',hA]
  have r1:g1.ro A≠none:=by rw [E1.c0];exact fun e=>by cases e
  obtain ⟨I2,X2⟩:=step_link G1.inv hm1 (by omega) (by rw [E1.kn];decide) r1 (G1.ex.sl sl) (G1.ex.iv iv) (fun d' n' hI=>by have:=hI.kn;rw [E1.kn] at this;omega);have G2:Gt t m g (m.make [0]) (g1.link A p.2):=G1.trans ⟨I2,X2,fun b _=>⟨rfl,fun hb=>⟨by
   show (if b=A then some p.2 else g1.hm b)=g1.hm b;rw [if_neg (fun e=>hb (by rw [e];exact o1))],rfl⟩⟩⟩
  obtain ⟨k1,a1⟩:=ofk (k:=1) (D:=A) (by omega) (by omega) (by omega) (by omega);have hx:OkW (m.make [0]) (g1.link A p.2) p.2 (Rf.ofZ 1 A):=.inl ⟨k1,by rw [a1];exact X2.empty E1,by rw [a1];show (if A=A then some p.2 else _)=_;rw [if_pos rfl]⟩;have ho:=G2.ex.okW (fun _ _ e=>G2.ex.back ⟨_,_,sl.siv iv⟩ e) ow;have hat2:=G2.ex.at hat;have lk1:(m.make [0]).look p.2=m.look p.2:=by
   have e:(m.make [0]).xs=m.xs++[0]:=by unfold Mst.make;rw [if_pos f1']
   unfold Mst.look Mst.used;rw [e,List.length_append];simp only [List.getD_eq_getElem?_getD];rw [List.getElem?_append_left (by omega)];have c1:(decide (1<=p.2) && decide (p.2<=((m.xs.length+([0]:List Int).length:Nat):Int)))=true:=by simp;omega
   have c2:(decide (1<=p.2) && decide (p.2<=(m.xs.length:Int)))=true:=by simp;omega
   rw [if_pos c1,if_pos c2]
  by_cases f5:(m.make [0]).fits 5=true
  ·rw [if_pos ⟨f1,f5⟩];have ew:layW m p=[p.1+2,p.2,m.look p.2,Rf.ofZ 1 A,0]:=by unfold layW;rw [w2,en]
   rw [ew];obtain ⟨D,hD⟩:∃ D,((m.make [0]).xs.length:Int)+1=D:=⟨_,rfl⟩;have en5:(m.make [0]).next [p.1+2,p.2,m.look p.2,Rf.ofZ 1 A,0]=D:=by unfold Mst.next;rw [if_pos (by exact f5),hD]
   rw [en5];have iA:∀ z ∈ [p.1+2,p.2,m.look p.2,Rf.ofZ 1 A,0],I64 z:=fun z hz=>by
    simp only [List.mem_cons,List.not_mem_nil,or_false] at hz;rcases hz with rfl | rfl | rfl | rfl | rfl
    ·exact i2
    ·exact i64_1 (by omega) (by omega)
    ·exact iw
    ·exact i64_of 1 A
    ·exact ⟨by decide,by decide⟩
   have M5:=make_more G2.inv (ws:=[p.1+2,p.2,m.look p.2,Rf.ofZ 1 A,0]) iA f5;obtain ⟨g3,G3,D3,p3,o3⟩:=mk_dc (t:=t) G2.inv hD.symm ho hx hat2 M5;have G23:=G2.trans G3;obtain ⟨m2,hm2⟩:∃ m2,(m.make [0]).make [p.1+2,p.2,m.look p.2,Rf.ofZ 1 A,0]=m2:=⟨_,rfl⟩;rw [hm2] at G3 G23 M5 ⊢;have lk2:m2.look p.2=m.look p.2:=by
    have e:m2.xs=(m.make [0]).xs++[p.1+2,p.2,m.look p.2,Rf.ofZ 1 A,0]:=by rw [<- hm2];unfold Mst.make;rw [if_pos (by exact f5)]
    have e1:(m.make [0]).xs=m.xs++[0]:=by unfold Mst.make;rw [if_pos f1']
    unfold Mst.look Mst.used;rw [e,e1,List.length_append,List.length_append,List.append_assoc];simp only [List.getD_eq_getElem?_getD];rw [List.getElem?_append_left (by omega)];rw [if_pos (by simp;omega),if_pos (by simp;omega)]
   obtain ⟨g4,G4,P4⟩:=step_in G3.inv D3 p3 lk2;rw [o3] at G4;have u2:m2.used p.2=true:=(G23.inv.used p.2).1 (by rw [(G23.ex.sl sl).ro];exact fun e=>by cases e);have ec:m2.cas p.2 (m.look p.2) (Rf.ofZ 5 D)=m2.write p.2 (Rf.ofZ 5 D):=by
    unfold Mst.cas;rw [if_pos (by unfold Mst.did;rw [u2,lk2];simp)]
   rw [ec];have G:=G23.trans G4
   by_cases hsh:sh=true/\p.1≠1
   ·rw [if_pos hsh,w2];have sl4:=G.ex.sl sl;have iv4:=G.ex.iv iv;have hu:(m2.write p.2 (Rf.ofZ 5 D)).used (p.1+2)=true:=(G.inv.used _).1 (by rw [sl4.1.c2];exact fun e=>by cases e);have cm:Compl (m2.write p.2 (Rf.ofZ 5 D)) g4 p.1:=G.ex.compl sl.1 (hcm hsh.2);have st:=step_shut G.inv sl4.1 hsh.2 cm (write_put G.inv.ok hu ⟨by decide,by decide⟩);exact ⟨g4,G.trans (Gt.same st),fun _=>⟨_,_,_,_,P4⟩⟩
   ·rw [if_neg hsh];exact ⟨g4,G,fun _=>⟨_,_,_,_,P4⟩⟩
  ·rw [if_neg (fun e=>f5 e.2)];exact ⟨_,G2.trans (make_out G2.inv (by exact f5)),fun e=>absurd rfl e⟩
 ·rw [if_neg (fun e=>f1 e.1)];have G1:Gt t m g (m.make [0]) g:=make_out h (ws:=[0]) f1;refine ⟨g,G1.trans (make_out G1.inv ?_),fun e=>absurd rfl e⟩;have e:(m.make [0]).xs=m.xs/\(m.make [0]).size=m.size:=by
   unfold Mst.make;rw [if_neg (by exact f1)];exact ⟨rfl,rfl⟩
  unfold Mst.fits at f1 ⊢;rw [e.1,e.2];simp [layW] at f1 ⊢;omega
end Sd
section
open Go.Shelf
open Sd (Pr)
variable {X X' Z:Nat->Prop}
set_option maxRecDepth 20000
theorem lay_h (w W:World) (y b x mb:Nat) (m:Mst) (ix:Ixp) (c:Nat) (h:Yx X w W y b x mb m ix) (o:YOk m ix c) (n:Int) (sh:Bool) :
  Calls Tryz.prog 10 #[.pointer (some ⟨y,0,none⟩),.int .i64 n,.bool sh] W fun e W'=>∃ r m' ix',e=.returned (.int .i64 r)/\Yx X w W' y b x mb m' ix'/\YOk m' ix' c/\(r≠0->(0<=r/\r<=65536)/\WX 3 (Lp.make 12 r).pr 4 (Lp.make 12 r).pr ix'):=by
 obtain ⟨tb,v,mv,tv,lv,pz,h1,h2⟩:=h;refine (lay_y W w.heap.size y b x mb tb v mv tv lv pz m ix h1 h2.size o.xs o.size o.sound o.big n sh).mono ?_;rintro e W' ⟨r,rfl,p,v',mv',m',hp,hr,q1,q2,q3,q4⟩;obtain ⟨g,hI,hT⟩:=o.wi;refine ⟨r,m',_,rfl,⟨tb,v',mv',tv,lv,pz,q1,h2.own (fun _ e=>e) q4⟩,⟨q2,q3,Sd.wi_lay o.wi hp sh,⟨o.gd.ts,o.gd.tape,o.gd.bud,o.gd.log⟩,o.len,layZ_len hI (Sd.own_sl hI hp) sh o.big⟩,fun hr0=>?_⟩;obtain ⟨g',G,P⟩:=Sd.lay_pd hI (Sd.own_sl hI hp) sh ix.ts.length;rw [hr] at P;obtain ⟨gd,s,oo,xx,hD⟩:=P hr0;have bd:=G.inv.dcB hD.dc;have sf:∀ t,Sd.Safe t (Lp.make 12 r).pr (fun _ _ _=>True) (Sd.layZ ix.m p sh).1 g':=fun t=>by
  show Sd.Safe t ((Pr.help r).bind (fun _=>.ret 0)) _ _ _;exact Sd.Safe.bind (Sd.Safe.mono (fun _ _ _ _=>trivial) (Sd.help_safe hD))
 refine ⟨⟨by omega,by omega⟩,g',G.inv,fun j q hq p' hp'=>(hT j q hq p' hp').rl (G.rl ?_),sf 3,sf 4⟩;have h1:j < ix.ts.length:=(List.getElem?_eq_some_iff.1 hq).1;omega
theorem Yx.congr {w W:World} {y b x mb:Nat} {m:Mst} {ix:Ixp} (e:∀ k,X k↔X' k) (h:Yx X w W y b x mb m ix):Yx X' w W y b x mb m ix:=by
 have:X=X':=funext fun k=>propext (e k)
 rw [<- this];exact h
structure Ph (w W:World) (y b x mb:Nat) (m:Mst) (ix:Ixp) (c:Nat) (i:Nat) (f e:Nat) (p:Hp) (q:Lp) (tp:Sl) (A:Pr Int) (j:Nat) (f' e':Nat) (p':Hp) (q':Lp) (tp':Sl) (A':Pr Int):Prop where
 yx:Yx (fun k=>LB e tp k∨LB e' tp' k) w W y b x mb m ix
 l1:LrIs W w.heap.size e q tp
 l2:LrIs W w.heap.size e' q' tp'
 dj:∀ k,LB e' tp' k->¬ LB e tp k
 h1:HpAt W f p
 h2:HpAt W f' p'
 ne:f'≠f
 n1:w.heap.size<=f
 n2:w.heap.size<=f'
 t1:HqT p A
 t2:HqT p' A'
 i1:q.Is A
 i2:q'.Is A'
 k1:p.Ok
 k2:p'.Ok
 ok:YOk m ix c
 wx:WX i A j A' ix
 ij:i≠j/\3<=i/\3<=j
structure Pq (w W:World) (y b x mb:Nat) (m m1:Mst) (ix:Ixp) (c:Nat) (i:Nat) (f e:Nat) (p:Hp) (q:Lp) (tp:Sl) (A A1:Pr Int) (j:Nat) (f' e':Nat) (p':Hp) (q':Lp) (tp':Sl) (A':Pr Int):Prop where
 yx:Yx (fun k=>LB e tp k∨LB e' tp' k) w W y b x mb m1 ix
 l1:LrIs W w.heap.size e q tp
 l2:LrIs W w.heap.size e' q' tp'
 dj:∀ k,LB e' tp' k->¬ LB e tp k
 h1:HpAt W f p
 h2:HpAt W f' p'
 ne:f'≠f
 n1:w.heap.size<=f
 n2:w.heap.size<=f'
 t1:HqT p A1
 t2:HqT p' A'
 i1:q.Is A
 i2:q'.Is A'
 k1:p.Ok
 k2:p'.Ok
 ok:YOk m ix c
 wx:WX i A j A' ix
 ij:i≠j/\3<=i/\3<=j
 go:Goes A m A1 m1
section
variable {w W W':World} {y b x mb:Nat} {m m1:Mst} {ix:Ixp} {c i f e:Nat} {p:Hp} {q:Lp} {tp:Sl} {A A1:Pr Int} {j f' e':Nat} {p':Hp} {q':Lp} {tp':Sl} {A':Pr Int}
theorem Ph.swap (h:Ph w W y b x mb m ix c i f e p q tp A j f' e' p' q' tp' A'):Ph w W y b x mb m ix c j f' e' p' q' tp' A' i f e p q tp A:=
 ⟨h.yx.congr (fun _=>Or.comm),h.l2,h.l1,fun k a b=>h.dj k b a,h.h2,h.h1,fun e=>h.ne e.symm,h.n2,h.n1,h.t2,h.t1,h.i2,h.i1,h.k2,h.k1,h.ok,h.wx.swap,fun e=>h.ij.1 e.symm,h.ij.2.2,h.ij.2.1⟩
theorem Ph.kept (h:Ph w W y b x mb m ix c i f e p q tp A j f' e' p' q' tp' A') (k:Kept W W'):Ph w W' y b x mb m ix c i f e p q tp A j f' e' p' q' tp' A':=
 ⟨h.yx.kept k,h.l1.kept k,h.l2.kept k,h.dj,h.h1.kept k,h.h2.kept k,h.ne,h.n1,h.n2,h.t1,h.t2,h.i1,h.i2,h.k1,h.k2,h.ok,h.wx,h.ij⟩
theorem Ph.le (h:Ph w W y b x mb m ix c i f e p q tp A j f' e' p' q' tp' A') {c':Nat} (hc:c<=c'):Ph w W y b x mb m ix c' i f e p q tp A j f' e' p' q' tp' A':=
 ⟨h.yx,h.l1,h.l2,h.dj,h.h1,h.h2,h.ne,h.n1,h.n2,h.t1,h.t2,h.i1,h.i2,h.k1,h.k2,h.ok.le hc,h.wx,h.ij⟩
theorem Ph.cells (h:Ph w W y b x mb m ix c i f e p q tp A j f' e' p' q' tp' A'):(W.cell? ⟨y,0,none⟩=some (.pointer (some ⟨b,0,none⟩))/\W.cell? ⟨y,1,none⟩=some (.pointer (some ⟨x,0,none⟩))/\W.cell? ⟨x,3,none⟩=some (.pointer (some ⟨mb,0,none⟩)))/\W.cell? ⟨e,23,none⟩=some (.bool q.done)/\W.cell? ⟨e',23,none⟩=some (.bool q'.done):=⟨h.yx.cells,h.l1.cells.1,h.l2.cells.1⟩
theorem ph_pick (h:Ph w W y b x mb m ix c i f e p q tp A j f' e' p' q' tp' A') (hc:c<=6000) (n:Int) (iz:I64 n) :
  Calls Tryz.prog 16 #[.pointer (some ⟨y,0,none⟩),.int .i64 n] W fun r W'=>r=.returned (.tuple #[])/\∃ m' ix',Ph w W' y b x mb m' ix' (c+2) i f e p q tp A j f' e' p' q' tp' A':=by
 refine (pick_x w W y b x mb m ix c h.yx h.ok hc n iz).mono ?_;rintro r W' ⟨rfl,m',h1,h2,h3⟩;exact ⟨rfl,m',_,h1,h.l1.others h3 (fun _ e=>.inl e),h.l2.others h3 (fun _ e=>.inr e),h.dj,h.h1.others h3,h.h2.others h3,h.ne,h.n1,h.n2,h.t1,h.t2,h.i1,h.i2,h.k1,h.k2,h2,wx_pickY h.wx h.ok h.ij.2.1 h.ij.2.2 hc n,h.ij⟩
theorem hp_not {f:Nat} (hf:HpAt W f p) {n₀ e:Nat} (hl:LrIs W n₀ e q tp) {k:Nat} (hk:LB e tp k):¬ k=f:=fun e'=>by
 obtain ⟨c',T,hc',hT⟩:=hl.typed hk
 have:=hf
 unfold HpAt at this;rw [<- e',hc'] at this;simp at this;rw [this.2] at hT
 revert hT
 decide
theorem ph_prog (h:Ph w W y b x mb m ix c i f e p q tp A j f' e' p' q' tp' A') :
  Calls Tryz.prog 26 #[.pointer (some ⟨f,0,none⟩),.pointer (some ⟨b,0,none⟩)] W fun r W'=>r=.returned (.bool ((p.step m).1.n == 7))/\∃ A1,Pq w W' y b x mb m (p.step m).2 ix c i f e (p.step m).1 q tp A A1 j f' e' p' q' tp' A':=by
 obtain ⟨A1,t1,g1⟩:=h.t1.step (m:=m);refine (hp_y w W y b x mb m ix f p h.yx h.ok.ok.2 h.h1 h.k1 h.n1).mono ?_;rintro r W' ⟨rfl,y1,y2,y3⟩;exact ⟨rfl,A1,y1,h.l1.but y3 (fun _ e=>.inl e) (fun k hk=>hp_not h.h1 h.l1 hk),h.l2.but y3 (fun _ e=>.inr e) (fun k hk=>hp_not h.h1 h.l2 hk),h.dj,y2,y3 _ _ _ h.h2 h.ne (.inr (by decide)) (by decide),h.ne,h.n1,h.n2,t1,h.t2,h.i1,h.i2,h.k1.step m,h.k2,h.ok,h.wx,h.ij,g1⟩
theorem Pq.cells (h:Pq w W y b x mb m m1 ix c i f e p q tp A A1 j f' e' p' q' tp' A'):W.cell? ⟨y,0,none⟩=some (.pointer (some ⟨b,0,none⟩))/\W.cell? ⟨y,1,none⟩=some (.pointer (some ⟨x,0,none⟩))/\W.cell? ⟨x,3,none⟩=some (.pointer (some ⟨mb,0,none⟩)):=h.yx.cells
theorem hq_both (h:HqT p A) (k:q.Is A):(p.n == 7)=q.done:=by
 rcases h.end with ⟨a1,a2⟩ | ⟨a1,a,f,a2⟩
 ·rcases k.end with ⟨b1,b2⟩ | ⟨_,a',f',b2⟩
  ·exact a1.trans b1.symm
  ·rw [a2] at b2;cases b2
 ·rcases k.end with ⟨b1,b2⟩ | ⟨b1,_⟩
  ·rw [a2] at b2;cases b2
  ·exact a1.trans b1.symm
theorem pq_doc (h:Pq w W y b x mb m m1 ix c i f e p q tp A A1 j f' e' p' q' tp' A') (hl:q.tape.length<=15990) :
  Calls Tryz.prog 18 #[.pointer (some ⟨e,0,none⟩),.pointer (some ⟨mb,0,none⟩)] W fun r W'=>r=.returned (.bool (p.n == 7))/\∃ ix' q1 tp1,Ph w W' y b x mb m1 ix' c i f e p q1 tp1 A1 j f' e' p' q' tp' A'/\q1.tape.length<=q.tape.length+1:=by
 obtain ⟨T',i1,g1⟩:=Lp.is_step (d:=ix.m) h.i1 (by unfold Lp.N0;omega);obtain ⟨e1,e2,e3⟩:=h.go.same g1 h.ok.xs h.ok.size;rw [<- e1] at i1 g1;obtain ⟨w1,o1,b1⟩:=wx_goes h.wx h.ij.1 (by rw [h.ok.len];exact h.ij.2.1) g1;refine (doc_x w W y b x mb e m1 ix tp q h.yx h.l1 h.dj hl o1).mono ?_;rintro r W' ⟨rfl,tp1,h1,h2,h3,h4⟩;exact ⟨by rw [hq_both h.t1 i1],_,_,tp1,⟨h1,h2,h.l2.others h3 (fun _ e=>e),h4,h.h1.others h3,h.h2.others h3,h.ne,h.n1,h.n2,h.t1,h.t2,i1,h.i2,h.k1,h.k2,h.ok.goes w1 (b1 h.ok.big) e2 e3,w1,h.ij⟩,(q.step_tape ix.m).1⟩
end
theorem help_start {w W:World} {y b x mb f e f' e':Nat} {m:Mst} {ix:Ixp} {c:Nat} {a:Int} (h:Yx (fun k=>LB e Sl.nil k∨LB e' Sl.nil k) w W y b x mb m ix) (o:YOk m ix c) (hw:WX 3 (Lp.make 12 a).pr 4 (Lp.make 12 a).pr ix) (ha:0<=a/\a<=65536) (h1:HpAt W f (Hp.new a)) (h2:HpAt W f' (Hp.new a)) (ne:f'≠f) (n1:w.heap.size<=f) (n2:w.heap.size<=f') (l1:LrIs W w.heap.size e (Lp.make 12 a).settle Sl.nil) (l2:LrIs W w.heap.size e' (Lp.make 12 a).settle Sl.nil) (dj:∀ k,LB e' Sl.nil k->¬ LB e Sl.nil k) :
  Ph w W y b x mb m ix c 3 f e (Hp.new a) (Lp.make 12 a).settle Sl.nil (Lp.make 12 a).pr 4 f' e' (Hp.new a) (Lp.make 12 a).settle Sl.nil (Lp.make 12 a).pr:=by
 have k:(Hp.new a).Ok:=⟨⟨by show (0:Int)<=0;decide,by show (0:Int)<=7;decide⟩,⟨ha.1,by show a<=1000000;omega⟩,by show (0:Int)<=0;decide,by show (0:Int)<=10;decide⟩;exact ⟨h,l1,l2,dj,h1,h2,ne,n1,n2,HqT.new a,HqT.new a,Lp.is_make 12 a,Lp.is_make 12 a,k,k,o,hw,by decide,by decide,by decide⟩
end
section
set_option maxRecDepth 20000
theorem dcss13 (w:World) (g p k v:Int):Calls Tryz.prog 70 #[.int .i64 g,.int .i64 p,.int .i64 k,.int .i64 v] w (Fresh [g,p,k,v,0] w):=by
 go_enter Tryz.func70,Tryz.ntmps70;go_wp2;go_ret;exact ⟨_,rfl,row_new w 2 [g,p,k,v,0] _ (Nat.le_refl _) (by simp),Td.alloc _ _ _⟩
def okB (p:Hp) (s:Mst):Bool:=decide (0<=p.n) && decide (p.n<=7) && decide (0<=p.a) && decide (p.a<=1000000) && decide (0<=p.p) && decide (p.p<=10) && allI s.xs
theorem okB_ok {p:Hp} {s:Mst} (h:okB p s=true):p.Ok/\∀ a,I64 (s.look a):=by
 simp only [okB,Bool.and_eq_true,decide_eq_true_eq] at h;obtain ⟨⟨⟨⟨⟨⟨h1,h2⟩,h3⟩,h4⟩,h5⟩,h6⟩,h7⟩:=h;exact ⟨⟨⟨h1,h2⟩,⟨h3,h4⟩,h5,h6⟩,allI_ok h7⟩
def kr2:Mst:=⟨[1,0,0,0,0,57,0],20,3,0,0⟩
end
section
set_option maxRecDepth 20000
theorem now_read (w W:World) (b:Nat) (s:Mst) (a r:Int) (s':Mst) (h:Now w W b s) (e1:s.look a=r) (e2:s.touch a=s') :
  Calls Tryz.prog 63 #[.pointer (some ⟨b,0,none⟩),.int .i64 a] W fun e W'=>e=.returned (.int .i64 r)/\Now w W' b s':=by
 obtain ⟨⟨v,h⟩,hk⟩:=h;subst e1 e2;exact (read_p W _ b v s a h).mono fun _ _ ⟨h1,h2,h3⟩=>⟨h1,⟨v,h2⟩,hk.own (fun i hi=>by rw [hi];exact (h.lt b (.inl rfl)).1) h3⟩
theorem now_cas (w W:World) (b:Nat) (s:Mst) (a old x:Int) (r:Bool) (s':Mst) (h:Now w W b s) (e1:s.did a old=r) (e2:s.cas a old x=s') :
  Calls Tryz.prog 71 #[.pointer (some ⟨b,0,none⟩),.int .i64 a,.int .i64 old,.int .i64 x] W fun e W'=>e=.returned (.bool r)/\Now w W' b s':=by
 obtain ⟨⟨v,h⟩,hk⟩:=h;subst e1 e2;exact (cas_p W _ b v s a old x h).mono fun _ _ ⟨h1,h2,h3⟩=>⟨h1,⟨v,h2⟩,hk.own (fun i hi=>(h.lt i hi).1) h3⟩
structure MF (w W:World) (b:Nat) (s:Mst) (f:Nat) (p:Hp):Prop where
 mem:∃ v,PMem W w.heap.size b v s/\¬ Foot b v f
 frame:HpAt W f p
 new:w.heap.size<=f
 kept:Kept w W
theorem Now.frame {w W W':World} {b:Nat} {s:Mst} {p:Hp} (h:Now w W b s) (k:Kept W W') (hf:HpAt W' W.heap.size p):MF w W' b s W.heap.size p:=by
 obtain ⟨⟨v,h⟩,hk⟩:=h;exact ⟨⟨v,h.kept k,fun e=>Nat.lt_irrefl _ (h.lt _ e).2⟩,hf,hk.size,hk.trans k⟩
theorem MF.now {w W:World} {b f:Nat} {s:Mst} {p:Hp} (h:MF w W b s f p):Now w W b s:=by
 obtain ⟨⟨v,h1,_⟩,_,_,hk⟩:=h;exact ⟨⟨v,h1⟩,hk⟩
theorem mf_step (w W:World) (b:Nat) (s:Mst) (f:Nat) (p:Hp) (h:MF w W b s f p) (hok:p.Ok) (ho:∀ a,I64 (s.look a)) (p':Hp) (s':Mst) (r:Bool) (e1:p.step s=(p',s')) (e2:(p'.n == 7)=r) :
  Calls Tryz.prog 26 #[.pointer (some ⟨f,0,none⟩),.pointer (some ⟨b,0,none⟩)] W fun e W'=>e=.returned (.bool r)/\MF w W' b s' f p':=by
 obtain ⟨⟨v,hm,hf⟩,hp,hn,hk⟩:=h;refine (hp_step W _ b v f p s hp hm hok ho hf p' s' r e1 e2).mono ?_;rintro e W' ⟨rfl,R⟩;exact ⟨rfl,⟨v,R.mem,hf⟩,R.frame,hn,hk.own (fun i hi=>hi.elim (fun e=>e ▸ hn) (fun e=>(hm.lt i e).1)) R.turned⟩
def it (m:Mst):Nat->Hp × Mst
 | 0=>(Hp.new 8,m)
 | k+1=>(it m k).1.step (it m k).2
def itB (m:Mst):Bool:=(List.range 7).all fun k=>okB (it m k).1 (it m k).2 && ((it m k).1.n == (k:Int)) && ((it m (k+1)).1.n == (k:Int)+1)
structure ItOk (m:Mst) (k:Nat):Prop where
 ok:(it m k).1.Ok
 i64:∀ a,I64 ((it m k).2.look a)
 n:((it m k).1.n == 7)=false
 n':((it m (k+1)).1.n == 7)=decide (k=6)
theorem it_ok {m:Mst} (h:itB m=true) (k:Nat) (hk:k < 7):ItOk m k:=by
 have:=List.all_eq_true.1 h k (List.mem_range.2 hk)
 simp only [Bool.and_eq_true,beq_iff_eq] at this;obtain ⟨⟨h1,h2⟩,h3⟩:=this;obtain ⟨a,b⟩:=okB_ok h1;refine ⟨a,b,?_,?_⟩
 ·rw [h2];simp;omega
 ·rw [h3,Bool.eq_iff_iff];simp;omega
theorem it_step (m:Mst) (k:Nat):(it m k).1.step (it m k).2=((it m (k+1)).1,(it m (k+1)).2):=rfl
def kn1:Mst:=⟨[1,0,0,0,0,57,0],20,2,0,0⟩
theorem kn1_is:begun (Mst.new 20)=kn1:=by kernel_rfl
def kn2:Mst:=⟨[1,0,0,0,0,57,0,3,6,57,66,0],20,3,0,0⟩
def knK:Mst:=⟨[1,0,0,0,0,69,0,3,6,57,66,0],20,4,0,0⟩
theorem knK_ok:itB knK=true:=by kernel_rfl
set_option maxHeartbeats 2000000 in
theorem known12_c (w:World):Calls Tryz.prog 23 #[] w fun e w'=>e=.returned (.bool true)/\Kept w w':=by
 go_enter Tryz.func23,Tryz.ntmps23;go_wp2_with (fail);refine (now_new w w 20 (Kept.refl w) (by decide) (by decide)).mono ?_;rintro e W1 ⟨rfl,h1,-⟩;have H1:=gh h1;obtain ⟨b,hb⟩:∃ b,w.heap.size=b:=⟨_,rfl⟩;rw [hb] at H1;clear h1;rw [hb];clear hb;go_wp2_with (fail);refine (begin_c w W1 _ _ H1.o rfl (by decide)).mono ?_;rintro e W2 ⟨rfl,h2⟩;have H2:=gh h2;rw [kn1_is] at H2;clear h2 H1;go_wp2_with (fail);refine (dcss13 W2 3 6 57 66).mono ?_;intro e W3 hF;obtain ⟨fa,fc,rfl,hr,hc1,hc2,hn,_,hk⟩:=hF.form;have H3:=gh (H2.o.on hk);have HR:=gh hr;have HNB:Hid (∀ ad,fa=some ad->ad.block≠b):=gh (fun ad e=>by have:=hn ad e;have:=H2.o.lt.2;omega);clear hF hr hc1 hc2 hn hk H2;go_wp2_with (fail);refine (now_make w W3 b _ fa [3,6,57,66,0] fc 8 true kn2 H3.o HR.o (by unfold maxLen;decide) (fun _=>HNB.o) (by kernel_rfl) (by kernel_rfl) (by kernel_rfl)).mono ?_;rintro e W4 ⟨rfl,h4⟩;have H4:=gh h4;clear h4 H3 HR HNB;go_wp2_with (fail);refine (now_cas w W4 b _ 6 57 69 true knK H4.o (by kernel_rfl) (by kernel_rfl)).mono ?_;rintro e W5 ⟨rfl,h5⟩;have H5:=gh h5;clear h5 H4;go_wp2_with (fail);refine (hp_new W5 8).mono ?_;rintro e W6 ⟨rfl,p6,k6⟩;obtain ⟨f,hf⟩:∃ f,W5.heap.size=f:=⟨_,rfl⟩;have M6:=gh (H5.o.frame k6 p6);rw [hf] at M6;clear p6 k6 H5;rw [hf];clear hf;go_wp2_with (fail)
 go_loopw [7] (fun vn wr=>∃ k:Nat,k<=6/\vn=.int .i64 ((k:Int)+1)/\Hid (MF w wr b (it knK k).2 f (it knK k).1)) (fun vn _=>(20 - intOf vn).toNat)
 case atStart=>exact ⟨0,by omega,by simp,M6⟩
 case round=>
  obtain ⟨k,k6,rfl,M7⟩:=hrel;have IK:=gh (it_ok knK_ok k (by omega));have kk:(k:Int)<=6:=by omega
  have i0:(k:Int)+1 < 20:=by omega
  by_cases hk:k=6
  ·subst hk;clear M6 kk i0 k6;go_wp2_with (fail);refine (mf_step w wr b _ f _ M7.o IK.o.ok IK.o.i64 _ _ true (it_step knK 6) (by rw [IK.o.n'];rfl)).mono ?_;rintro e W8 ⟨rfl,m8⟩;have M8:=gh m8;clear m8 M7;go_wp2_with (fail);refine (hp_done W8 f _ M8.o.frame true (by kernel_rfl)).mono ?_;rintro e W9 ⟨rfl,rfl⟩;go_wp2_with (fail);refine (now_read w W8 b _ 6 66 (((it knK 7).2.touch 6)) M8.o.now (by kernel_rfl) rfl).mono ?_;rintro e W9 ⟨rfl,m9⟩;have M9:=gh m9;clear m9 M8;go_wp2_with (fail);refine (now_read w W9 b _ 12 1 _ M9.o (by kernel_rfl) rfl).mono ?_;rintro e W10 ⟨rfl,m10⟩;have M10:=gh m10;clear m10 M9;go_wp2;go_ret;exact ⟨rfl,M10.o.2⟩
  ·have i1:(k:Int)+1<=6:=by omega
   clear M6 kk;go_wp2_with (fail);refine (mf_step w wr b _ f _ M7.o IK.o.ok IK.o.i64 _ _ false (it_step knK k) (by rw [IK.o.n'];simp [hk])).mono ?_;rintro e W8 ⟨rfl,m8⟩;have M8:=gh m8;clear m8 M7;go_wp2;exact ⟨⟨k+1,by omega,by simp,M8⟩,by simp only [intOf];omega⟩
end
section
open Go.Shelf
open Sd (Pr)
set_option maxRecDepth 100000 in
set_option maxHeartbeats 4000000 in
theorem helpPlays_c (w:World) (cells:Int) (a1:Option Addr) (keys:List Int) (c1:Nat) (a2:Option Addr) (l:List Int) (c2:Nat) (at_:Int) (shut:Bool) (a3:Option Addr) (sc:List Int) (c3:Nat) (hr1:Reads w a1 keys) (hc1:keys.length<=c1) (hm1:c1<=maxLen) (hr2:Reads w a2 l) (hc2:l.length<=c2) (hm2:c2<=maxLen) (hi:∀ z ∈ l,I64 z) (hr3:Reads w a3 sc) (hc3:sc.length<=c3) (hi3:∀ z ∈ sc,I64 z) :
  Calls Tryz.prog 5 #[.int .i64 cells,.slice a1 keys.length c1,.slice a2 l.length c2,.int .i64 at_,.bool shut,.slice a3 sc.length c3] w fun e w'=>e=.returned (.bool true)/\Kept w w':=by
 have NW:=ynew_r w cells a1 keys c1 a2 l c2 hr1 hc1 hm1 hr2 hc2 hm2 hi;have HNW:=gh NW;obtain ⟨M3,hM3⟩:∃ M,sc.length=M:=⟨_,rfl⟩;rw [hM3];have HM3:=gh hM3;have HR3:=gh hr3;have HC3:=gh hc3;have HI3:=gh hi3;clear NW hr1 hc1 hm1 hr2 hc2 hm2 hi hM3 hr3 hc3 hi3;go_enter Tryz.func5,Tryz.ntmps5;go_wp2_with (fail);refine HNW.o.mono ?_;rintro e W1 ⟨y,m0,ix0,rfl,hyd,ok0⟩;obtain ⟨b,x,mb,hy⟩:=hyd.sees;have Y0:=gh hy;have O0:=gh ok0;clear hyd ok0 hy HNW;go_wp2_with (fail);refine (lay_h w W1 y b x mb m0 ix0 1680 Y0.o O0.o at_ shut).mono ?_;rintro e W2 ⟨a,m,ix,rfl,h1,o1,q1⟩;have Y1:=gh h1;have O1:=gh o1;have Q1:=gh q1;clear h1 o1 q1 Y0 O0;go_wp2_with (fail);refine (known12_c W2).mono ?_;rintro r W3 ⟨rfl,k3⟩;have Y3:=gh (Y1.o.kept k3);clear k3 Y1;go_wp2_with (fail);refine (same_y w W3 y m ix 1680 Y3.o.yd O1.o).mono ?_;rintro r W4 ⟨rfl,k4⟩;have Y4:=gh (Y3.o.kept k4);clear k4 Y3
 by_cases ha:a=0
 ·subst ha;go_wp2_with (fail);go_ret;exact ⟨rfl,Y4.o.since⟩
 have g0:(a == 0)=false:=by simp [ha]
 have QQ:=gh (Q1.o ha);clear ha Q1;go_wp2_with (fail);refine (hp_new W4 a).mono ?_;rintro r W5 ⟨rfl,h5,k5⟩;obtain ⟨f,hf⟩:∃ f,W4.heap.size=f:=⟨_,rfl⟩;rw [hf] at h5;rw [hf];have NF:Hid (w.heap.size<=f/\f < W5.heap.size):=gh ⟨by rw [<- hf];exact Y4.o.since.size,(Array.getElem?_eq_some_iff.1 h5).1⟩;have F5:=gh h5;have Y5:=gh (Y4.o.kept k5);clear h5 k5 hf Y4;go_wp2_with (fail);refine (hp_new W5 a).mono ?_;rintro r W6 ⟨rfl,h6,k6⟩;obtain ⟨f',hf'⟩:∃ f,W5.heap.size=f:=⟨_,rfl⟩;rw [hf'] at h6;rw [hf'];have NG:Hid (w.heap.size<=f'/\f'≠f):=gh ⟨by rw [<- hf'];exact Y5.o.since.size,by have:=NF.o.2;omega⟩;have F6:=gh (F5.o.kept k6);have G6:=gh h6;have Y6:=gh (Y5.o.kept k6);clear h6 k6 hf' Y5 F5;go_wp2_with (fail);refine (doc_new w W6 y b x mb m ix Y6.o 12 a ⟨.inr (.inl rfl),fun _=>QQ.o.1⟩).mono ?_;rintro r W7 ⟨e,rfl,y7,l7,_,k7⟩;have Y7:=gh y7;have L7:=gh l7;have F7:=gh (F6.o.kept k7);have G7:=gh (G6.o.kept k7);clear y7 l7 k7 Y6 F6 G6;go_wp2_with (fail);refine (doc_new w W7 y b x mb m ix Y7.o 12 a ⟨.inr (.inl rfl),fun _=>QQ.o.1⟩).mono ?_;rintro r W8 ⟨e',rfl,y8,l8,z8,k8⟩;have P8:=gh (Ph.swap (help_start (y8.congr (fun k=>by
  constructor
  ·rintro (h | h | h)
   ·exact .inl h
   ·exact .inr h
   ·exact h.elim
  ·rintro (h | h)
   ·exact .inl h
   ·exact .inr (.inl h))) O1.o QQ.o.2 QQ.o.1 (G7.o.kept k8) (F7.o.kept k8) NG.o.2.symm NG.o.1 NF.o.1 l8 (L7.o.kept k8) (fun k h=>z8 k (.inl h))))
 clear y8 l8 z8 k8 Y7 L7 F7 G7 NG NF O1 QQ g0;go_wp2_with (fail)
 go_loopw [19] (fun vi wr=>∃ (i:Nat) (m:Mst) (ix:Ixp) (p:Hp) (q:Lp) (tp:Sl) (A:Pr Int) (p':Hp) (q':Lp) (tp':Sl) (A':Pr Int),vi=.int .i64 (i:Int)/\i<=60/\Hid (q.tape.length<=i/\q'.tape.length<=i)/\Hid (Ph w wr y b x mb m ix (1680+2 * i) 4 f e p q tp A 3 f' e' p' q' tp' A')) (fun vi _=>60 - (intOf vi).toNat)
 case atStart=>exact ⟨0,_,_,_,_,_,_,_,_,_,_,rfl,by omega,gh ⟨by rw [(Lp.settle_play _).2.1];exact Nat.le_refl _,by rw [(Lp.settle_play _).2.1];exact Nat.le_refl _⟩,P8⟩
 case round=>
  obtain ⟨i,m,ix,p,q,tp,A,p',q',tp',A',rfl,hi,HB,P⟩:=hrel;clear P8;obtain ⟨⟨d0,d1,d2⟩,d3,d4⟩:=P.o.cells;obtain ⟨dn,hdn⟩:∃ dn,q.done=dn:=⟨_,rfl⟩;obtain ⟨dm,hdm⟩:∃ dm,q'.done=dm:=⟨_,rfl⟩;rw [hdn] at d3;rw [hdm] at d4;clear hdn hdm;have FIN:Hid (Calls Tryz.prog 15 #[.pointer (some ⟨y,0,none⟩)] wr fun e w'=>e=.returned (.bool true)/\Kept w w'):=gh ((same_y w wr y m ix _ P.o.yx.yd P.o.ok).mono (fun e w' h=>⟨h.1,P.o.yx.since.trans h.2⟩))
  by_cases hgo:(dn=true/\dm=true)∨i=60
  ·have STOP:(dn=true/\dm=true)∨¬ ((i:Int) < 60):=by
    rcases hgo with h | h
    ·exact .inl h
    ·exact .inr (by omega)
   clear hgo;rcases STOP with ⟨rfl,rfl⟩ | hj
   ·by_cases hj:(i:Int) < 60
    ·go_wp2_with (fail);refine FIN.o.mono ?_;rintro r V ⟨rfl,kk⟩;go_wp2;go_ret;exact ⟨rfl,kk⟩
    ·go_wp2_with (fail);refine FIN.o.mono ?_;rintro r V ⟨rfl,kk⟩;go_wp2;go_ret;exact ⟨rfl,kk⟩
   ·go_wp2_with (fail);refine FIN.o.mono ?_;rintro r V ⟨rfl,kk⟩;go_wp2;go_ret;exact ⟨rfl,kk⟩
  ·have hdd:(dn && dm)=false:=by
    cases dn with
    | false=>rfl
    | true=>
     cases dm with
     | false=>rfl
     | true=>exact absurd (.inl ⟨rfl,rfl⟩) hgo
   have i9:i < 60:=by
    have:i≠60:=fun e=>hgo (.inr e)
    omega
   have j1:(i:Int) < 60:=by omega
   clear hgo FIN
   go_upto_region 10 with (fail)
   go_cut [66] (fun c wx=>c=.bool true/\wr=wx)
   case first=>
    cases dn with
    | false=>
     go_wp2_with (fail)
     go_meet
     exact ⟨rfl,rfl⟩
    | true=>
     cases dm with
     | false=>
      go_wp2_with (fail)
      go_meet
      exact ⟨rfl,rfl⟩
     | true=>cases hdd
   case rest=>
   obtain ⟨rfl,rfl⟩:=hcut;clear hdd d3 d4
   go_upto_if 73 with (fail)
   go_cut [20] (fun c wx=>∃ kz:Int,c=.int .i64 kz/\I64 kz/\wr=wx)
   case first=>
    by_cases hs:i < M3
    ·have j2:(i:Int) < (M3:Int):=by omega
     obtain ⟨z,hz⟩:∃ z,sc[i]? = some z:=⟨_,List.getElem?_eq_getElem (by rw [HM3.o];exact hs)⟩;obtain ⟨bl,off,rfl,hbl,hcell0⟩:=HR3.o.at hz;have hcell:=P.o.yx.since.cell hcell0 id;have j3:i < c3:=by have:=HC3.o;have:=HM3.o;omega
     have ZI:Hid (I64 z):=gh (HI3.o z (List.mem_of_getElem? hz));clear hz hcell0 hbl;go_wp2_with (fail)
     go_meet
     exact ⟨z,rfl,ZI.o,rfl⟩
    ·have j2:¬ ((i:Int) < (M3:Int)):=by omega
     go_wp2_with (fail)
     go_meet
     exact ⟨(i:Int),rfl,⟨by omega,by omega⟩,rfl⟩
   case rest=>
   obtain ⟨kz,rfl,hkz,rfl⟩:=hcut;have KI:=gh hkz;clear hkz;obtain ⟨jn,hjn⟩:∃ j:Nat,kz % 5=(j:Int):=⟨(kz % 5).toNat,by omega⟩;have jn5:jn < 5:=by omega
   have C5:∀ X,Calls Tryz.prog 25 #[.int .i64 kz,.int .i64 5] X fun e X'=>e=.returned (.int .i64 (jn:Int))/\X=X':=fun X=>hjn ▸ cut_g X kz 5 (by decide) (by decide);have HC5:=gh C5;clear C5 hjn;go_wp2_with (fail);refine (HC5.o wr).mono ?_;rintro r w' ⟨rfl,rfl⟩;clear HC5;have J5:jn=0∨jn=1∨jn=2∨jn=3∨jn=4:=by omega
   clear jn5;rcases J5 with rfl | rfl | rfl | rfl | rfl
   ·have ST:=gh (ph_prog P.o);obtain ⟨p1,hp1⟩:∃ p1,(p.step m).1=p1:=⟨_,rfl⟩;obtain ⟨m1,hm1⟩:∃ m1,(p.step m).2=m1:=⟨_,rfl⟩;rw [hp1,hm1] at ST;clear hp1 hm1;obtain ⟨r1,hr1⟩:∃ r1,(p1.n == 7)=r1:=⟨_,rfl⟩;rw [hr1] at ST;have HR1:=gh hr1;clear hr1;go_wp2_with (fail);refine ST.o.mono ?_;rintro r V1 ⟨rfl,A1,Q1⟩;have HQ:=gh Q1;clear Q1 ST d0 d1 d2 P;obtain ⟨d0,d1,d2⟩:=HQ.o.cells;have ST:=gh (pq_doc HQ.o (by have:=HB.o.1;omega));rw [HR1.o] at ST;go_wp2_with (fail);refine ST.o.mono ?_;rintro r V2 ⟨rfl,ix2,q1,tp1,P2,t2⟩;have HP2:=gh P2;have T2:=gh t2;have ED:Hid (q1.done=r1):=gh ((hq_both P2.t1 P2.i1).symm.trans HR1.o);obtain ⟨_,d3,_⟩:=P2.cells;rw [ED.o] at d3;clear P2 t2 HQ ST d0 d1 d2;have x3:∀ u:Wd (Kept V2),u.w.cell? ⟨e,23,none⟩=some (.bool r1):=fun u=>u.ok.cell d3 id;have BD:Hid (q1.tape.length<=i+1/\q'.tape.length<=i+1):=gh ⟨by have:=HB.o.1;have:=T2.o;omega,by have:=HB.o.2;have:=T2.o;omega⟩;have NX:Hid (∀ V,Kept V2 V->Ph w V y b x mb m1 ix2 (1680+2 * (i+1)) 4 f e p1 q1 tp1 A1 3 f' e' p' q' tp' A'):=gh (fun V k=>(HP2.o.le (by omega)).kept k);cases r1 with
    | false=>
     go_wp2_with (fail);refine region_quiet (Kept V2) (by kernel_rfl) (by kernel_rfl) (Kept.drew _) (fun _=>?_)
     repeat (go_big_quiet_step (first
      | (go_at_call 27;rename_i u;refine (hp_done u.w f p1 (HP2.o.h1.kept u.ok) false HR1.o).mono ?_;rintro e w' ⟨rfl,rfl⟩;exact ⟨rfl,u,rfl⟩)))
     refine wpQuiet_nil ?_;intro u;obtain ⟨V3,hV3⟩:∃ V,u.w=V:=⟨_,rfl⟩;have P3:=gh (NX.o V3 (by rw [<- hV3];exact u.ok));rw [hV3];clear hV3 u x3 d3 NX HP2;go_wp2;exact ⟨⟨i+1,m1,ix2,p1,q1,tp1,A1,p',q',tp',A',by simp,by omega,BD,P3⟩,by simp only [intOf];omega⟩
    | true=>
     go_wp2_with (fail);refine region_quiet (Kept V2) (by kernel_rfl) (by kernel_rfl) (Kept.drew _) (fun _=>?_)
     repeat (go_big_quiet_step (first
      | (go_at_call 27;rename_i u;refine (hp_done u.w f p1 (HP2.o.h1.kept u.ok) true HR1.o).mono ?_;rintro e w' ⟨rfl,rfl⟩;exact ⟨rfl,u,rfl⟩)))
     refine wpQuiet_nil ?_;intro u;obtain ⟨V3,hV3⟩:∃ V,u.w=V:=⟨_,rfl⟩;have P3:=gh (NX.o V3 (by rw [<- hV3];exact u.ok));rw [hV3];clear hV3 u x3 d3 NX HP2;go_wp2;exact ⟨⟨i+1,m1,ix2,p1,q1,tp1,A1,p',q',tp',A',by simp,by omega,BD,P3⟩,by simp only [intOf];omega⟩
   ·have ST:=gh (ph_prog P.o);obtain ⟨p1,hp1⟩:∃ p1,(p.step m).1=p1:=⟨_,rfl⟩;obtain ⟨m1,hm1⟩:∃ m1,(p.step m).2=m1:=⟨_,rfl⟩;rw [hp1,hm1] at ST;clear hp1 hm1;obtain ⟨r1,hr1⟩:∃ r1,(p1.n == 7)=r1:=⟨_,rfl⟩;rw [hr1] at ST;have HR1:=gh hr1;clear hr1;go_wp2_with (fail);refine ST.o.mono ?_;rintro r V1 ⟨rfl,A1,Q1⟩;have HQ:=gh Q1;clear Q1 ST d0 d1 d2 P;obtain ⟨d0,d1,d2⟩:=HQ.o.cells;have ST:=gh (pq_doc HQ.o (by have:=HB.o.1;omega));rw [HR1.o] at ST;go_wp2_with (fail);refine ST.o.mono ?_;rintro r V2 ⟨rfl,ix2,q1,tp1,P2,t2⟩;have HP2:=gh P2;have T2:=gh t2;have ED:Hid (q1.done=r1):=gh ((hq_both P2.t1 P2.i1).symm.trans HR1.o);obtain ⟨_,d3,_⟩:=P2.cells;rw [ED.o] at d3;clear P2 t2 HQ ST d0 d1 d2;have x3:∀ u:Wd (Kept V2),u.w.cell? ⟨e,23,none⟩=some (.bool r1):=fun u=>u.ok.cell d3 id;have BD:Hid (q1.tape.length<=i+1/\q'.tape.length<=i+1):=gh ⟨by have:=HB.o.1;have:=T2.o;omega,by have:=HB.o.2;have:=T2.o;omega⟩;have NX:Hid (∀ V,Kept V2 V->Ph w V y b x mb m1 ix2 (1680+2 * (i+1)) 4 f e p1 q1 tp1 A1 3 f' e' p' q' tp' A'):=gh (fun V k=>(HP2.o.le (by omega)).kept k);cases r1 with
    | false=>
     go_wp2_with (fail);refine region_quiet (Kept V2) (by kernel_rfl) (by kernel_rfl) (Kept.drew _) (fun _=>?_)
     repeat (go_big_quiet_step (first
      | (go_at_call 27;rename_i u;refine (hp_done u.w f p1 (HP2.o.h1.kept u.ok) false HR1.o).mono ?_;rintro e w' ⟨rfl,rfl⟩;exact ⟨rfl,u,rfl⟩)))
     refine wpQuiet_nil ?_;intro u;obtain ⟨V3,hV3⟩:∃ V,u.w=V:=⟨_,rfl⟩;have P3:=gh (NX.o V3 (by rw [<- hV3];exact u.ok));rw [hV3];clear hV3 u x3 d3 NX HP2;go_wp2;exact ⟨⟨i+1,m1,ix2,p1,q1,tp1,A1,p',q',tp',A',by simp,by omega,BD,P3⟩,by simp only [intOf];omega⟩
    | true=>
     go_wp2_with (fail);refine region_quiet (Kept V2) (by kernel_rfl) (by kernel_rfl) (Kept.drew _) (fun _=>?_)
     repeat (go_big_quiet_step (first
      | (go_at_call 27;rename_i u;refine (hp_done u.w f p1 (HP2.o.h1.kept u.ok) true HR1.o).mono ?_;rintro e w' ⟨rfl,rfl⟩;exact ⟨rfl,u,rfl⟩)))
     refine wpQuiet_nil ?_;intro u;obtain ⟨V3,hV3⟩:∃ V,u.w=V:=⟨_,rfl⟩;have P3:=gh (NX.o V3 (by rw [<- hV3];exact u.ok));rw [hV3];clear hV3 u x3 d3 NX HP2;go_wp2;exact ⟨⟨i+1,m1,ix2,p1,q1,tp1,A1,p',q',tp',A',by simp,by omega,BD,P3⟩,by simp only [intOf];omega⟩
   ·have ST:=gh (ph_prog P.o.swap);obtain ⟨p1,hp1⟩:∃ p1,(p'.step m).1=p1:=⟨_,rfl⟩;obtain ⟨m1,hm1⟩:∃ m1,(p'.step m).2=m1:=⟨_,rfl⟩;rw [hp1,hm1] at ST;clear hp1 hm1;obtain ⟨r1,hr1⟩:∃ r1,(p1.n == 7)=r1:=⟨_,rfl⟩;rw [hr1] at ST;have HR1:=gh hr1;clear hr1;go_wp2_with (fail);refine ST.o.mono ?_;rintro r V1 ⟨rfl,A1,Q1⟩;have HQ:=gh Q1;clear Q1 ST d0 d1 d2 P;obtain ⟨d0,d1,d2⟩:=HQ.o.cells;have ST:=gh (pq_doc HQ.o (by have:=HB.o.2;omega));rw [HR1.o] at ST;go_wp2_with (fail);refine ST.o.mono ?_;rintro r V2 ⟨rfl,ix2,q1,tp1,P2,t2⟩;have HP2:=gh P2;have T2:=gh t2;have ED:Hid (q1.done=r1):=gh ((hq_both P2.t1 P2.i1).symm.trans HR1.o);obtain ⟨_,d3,_⟩:=P2.cells;rw [ED.o] at d3;clear P2 t2 HQ ST d0 d1 d2;have x3:∀ u:Wd (Kept V2),u.w.cell? ⟨e',23,none⟩=some (.bool r1):=fun u=>u.ok.cell d3 id;have BD:Hid (q.tape.length<=i+1/\q1.tape.length<=i+1):=gh ⟨by have:=HB.o.1;have:=T2.o;omega,by have:=HB.o.2;have:=T2.o;omega⟩;have NX:Hid (∀ V,Kept V2 V->Ph w V y b x mb m1 ix2 (1680+2 * (i+1)) 4 f e p q tp A 3 f' e' p1 q1 tp1 A1):=gh (fun V k=>(HP2.o.le (by omega)).swap.kept k);cases r1 with
    | false=>
     go_wp2_with (fail);refine region_quiet (Kept V2) (by kernel_rfl) (by kernel_rfl) (Kept.drew _) (fun _=>?_)
     repeat (go_big_quiet_step (first
      | (go_at_call 27;rename_i u;refine (hp_done u.w f' p1 (HP2.o.h1.kept u.ok) false HR1.o).mono ?_;rintro e w' ⟨rfl,rfl⟩;exact ⟨rfl,u,rfl⟩)))
     refine wpQuiet_nil ?_;intro u;obtain ⟨V3,hV3⟩:∃ V,u.w=V:=⟨_,rfl⟩;have P3:=gh (NX.o V3 (by rw [<- hV3];exact u.ok));rw [hV3];clear hV3 u x3 d3 NX HP2;go_wp2;exact ⟨⟨i+1,m1,ix2,p,q,tp,A,p1,q1,tp1,A1,by simp,by omega,BD,P3⟩,by simp only [intOf];omega⟩
    | true=>
     go_wp2_with (fail);refine region_quiet (Kept V2) (by kernel_rfl) (by kernel_rfl) (Kept.drew _) (fun _=>?_)
     repeat (go_big_quiet_step (first
      | (go_at_call 27;rename_i u;refine (hp_done u.w f' p1 (HP2.o.h1.kept u.ok) true HR1.o).mono ?_;rintro e w' ⟨rfl,rfl⟩;exact ⟨rfl,u,rfl⟩)))
     refine wpQuiet_nil ?_;intro u;obtain ⟨V3,hV3⟩:∃ V,u.w=V:=⟨_,rfl⟩;have P3:=gh (NX.o V3 (by rw [<- hV3];exact u.ok));rw [hV3];clear hV3 u x3 d3 NX HP2;go_wp2;exact ⟨⟨i+1,m1,ix2,p,q,tp,A,p1,q1,tp1,A1,by simp,by omega,BD,P3⟩,by simp only [intOf];omega⟩
   ·have ST:=gh (ph_prog P.o.swap);obtain ⟨p1,hp1⟩:∃ p1,(p'.step m).1=p1:=⟨_,rfl⟩;obtain ⟨m1,hm1⟩:∃ m1,(p'.step m).2=m1:=⟨_,rfl⟩;rw [hp1,hm1] at ST;clear hp1 hm1;obtain ⟨r1,hr1⟩:∃ r1,(p1.n == 7)=r1:=⟨_,rfl⟩;rw [hr1] at ST;have HR1:=gh hr1;clear hr1;go_wp2_with (fail);refine ST.o.mono ?_;rintro r V1 ⟨rfl,A1,Q1⟩;have HQ:=gh Q1;clear Q1 ST d0 d1 d2 P;obtain ⟨d0,d1,d2⟩:=HQ.o.cells;have ST:=gh (pq_doc HQ.o (by have:=HB.o.2;omega));rw [HR1.o] at ST;go_wp2_with (fail);refine ST.o.mono ?_;rintro r V2 ⟨rfl,ix2,q1,tp1,P2,t2⟩;have HP2:=gh P2;have T2:=gh t2;have ED:Hid (q1.done=r1):=gh ((hq_both P2.t1 P2.i1).symm.trans HR1.o);obtain ⟨_,d3,_⟩:=P2.cells;rw [ED.o] at d3;clear P2 t2 HQ ST d0 d1 d2;have x3:∀ u:Wd (Kept V2),u.w.cell? ⟨e',23,none⟩=some (.bool r1):=fun u=>u.ok.cell d3 id;have BD:Hid (q.tape.length<=i+1/\q1.tape.length<=i+1):=gh ⟨by have:=HB.o.1;have:=T2.o;omega,by have:=HB.o.2;have:=T2.o;omega⟩;have NX:Hid (∀ V,Kept V2 V->Ph w V y b x mb m1 ix2 (1680+2 * (i+1)) 4 f e p q tp A 3 f' e' p1 q1 tp1 A1):=gh (fun V k=>(HP2.o.le (by omega)).swap.kept k);cases r1 with
    | false=>
     go_wp2_with (fail);refine region_quiet (Kept V2) (by kernel_rfl) (by kernel_rfl) (Kept.drew _) (fun _=>?_)
     repeat (go_big_quiet_step (first
      | (go_at_call 27;rename_i u;refine (hp_done u.w f' p1 (HP2.o.h1.kept u.ok) false HR1.o).mono ?_;rintro e w' ⟨rfl,rfl⟩;exact ⟨rfl,u,rfl⟩)))
     refine wpQuiet_nil ?_;intro u;obtain ⟨V3,hV3⟩:∃ V,u.w=V:=⟨_,rfl⟩;have P3:=gh (NX.o V3 (by rw [<- hV3];exact u.ok));rw [hV3];clear hV3 u x3 d3 NX HP2;go_wp2;exact ⟨⟨i+1,m1,ix2,p,q,tp,A,p1,q1,tp1,A1,by simp,by omega,BD,P3⟩,by simp only [intOf];omega⟩
    | true=>
     go_wp2_with (fail);refine region_quiet (Kept V2) (by kernel_rfl) (by kernel_rfl) (Kept.drew _) (fun _=>?_)
     repeat (go_big_quiet_step (first
      | (go_at_call 27;rename_i u;refine (hp_done u.w f' p1 (HP2.o.h1.kept u.ok) true HR1.o).mono ?_;rintro e w' ⟨rfl,rfl⟩;exact ⟨rfl,u,rfl⟩)))
     refine wpQuiet_nil ?_;intro u;obtain ⟨V3,hV3⟩:∃ V,u.w=V:=⟨_,rfl⟩;have P3:=gh (NX.o V3 (by rw [<- hV3];exact u.ok));rw [hV3];clear hV3 u x3 d3 NX HP2;go_wp2;exact ⟨⟨i+1,m1,ix2,p,q,tp,A,p1,q1,tp1,A1,by simp,by omega,BD,P3⟩,by simp only [intOf];omega⟩
   ·obtain ⟨n,hn⟩:∃ n,kz.tdiv 5=n:=⟨_,rfl⟩;have NI:Hid (I64 n):=gh (by rw [<- hn];exact quo_i64 KI.o (by decide));have b1:-9223372036854775808<=n/\n<=9223372036854775807:=NI.o;go_wp2_with (fail)
    try rw [hn]
    refine (ph_pick P.o (by omega) n NI.o).mono ?_;rintro r V ⟨rfl,m',ix',P'⟩;have P3:=gh P';clear P' d0 d1 d2 P b1 hn;go_wp2;exact ⟨⟨i+1,m',ix',p,q,tp,A,p',q',tp',A',by simp,by omega,gh ⟨by have:=HB.o.1;omega,by have:=HB.o.2;omega⟩,P3⟩,by simp only [intOf];omega⟩
end
end Go.Proofs.YtoaicedkepcalaaGreat
