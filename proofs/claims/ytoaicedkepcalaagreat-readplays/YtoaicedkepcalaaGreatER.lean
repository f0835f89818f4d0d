/-
  What the proof of YtoaicedkepcalaaGreatReadPlaysProof goes by besides: contracts and plain facts. No conditions beyond each theorem's own.
-/
import Derived.Test.YtoaicedkepcalaaGreatY10
import Derived.Test.YtoaicedkepcalaaGreatRows
import Derived.WalkKit
import Derived.ProofKit
import Derived.OpenShut
import Derived.ShutString
import Derived.Deep.DeepCutAuto
import Derived.Deep.CutBlock
namespace Go.Proofs.YtoaicedkepcalaaGreat
open Go.RowKit
namespace Rf
open Go.ChangeShapes Go.WideShapes Go.ChangeAt Go.RowKit
theorem of_c (k t:Int) (w:World) :
  Calls Tryz.prog 41 #[.int .i64 k,.int .i64 t] w fun e w'=>e=.returned (.int .i64 (ofZ k t))/\w'=w:=by
 by_cases hm:1<=k/\k<=5/\1<=t/\t<=65536
 ·obtain ⟨c1,c2,c3,c4⟩:=hm;have eo:ofZ k t=8 * t+k:=by simp [ofZ,may,c1,c2,c3,c4]
  rw [eo];clear eo;go_enter Tryz.func41,Tryz.ntmps41;go_wp2;go_ret;exact ⟨rfl,rfl⟩
 ·have eo:ofZ k t=0:=by simp [ofZ,may];omega
  rw [eo];clear eo
  by_cases c1:1<=k
  ·by_cases c2:k<=5
   ·by_cases c3:1<=t
    ·have c4:¬ t<=65536:=by omega
     clear hm;go_enter Tryz.func41,Tryz.ntmps41;go_wp2;go_ret;exact ⟨rfl,rfl⟩
    ·clear hm;go_enter Tryz.func41,Tryz.ntmps41;go_wp2;go_ret;exact ⟨rfl,rfl⟩
   ·clear hm;go_enter Tryz.func41,Tryz.ntmps41;go_wp2;go_ret;exact ⟨rfl,rfl⟩
  ·clear hm;go_enter Tryz.func41,Tryz.ntmps41;go_wp2;go_ret;exact ⟨rfl,rfl⟩
end Rf
section
namespace Now
variable {w W W':World} {b:Nat} {s s':Mst}
end Now
theorem now_look (w W:World) (b:Nat) (s:Mst) (a r:Int) (h:Now w W b s) (e1:s.look a=r) :
  Calls Tryz.prog 33 #[.pointer (some ⟨b,0,none⟩),.int .i64 a] W fun e W'=>e=.returned (.int .i64 r)/\W=W':=by
 obtain ⟨⟨v,h⟩,hk⟩:=h;subst e1;exact (look_p W _ b v s a h).mono fun _ _ h=>h
end
section
set_option maxRecDepth 20000
theorem cas_p (w:World) (n₀ b:Nat) (v:Value) (s:Mst) (a old x:Int) (h:PMem w n₀ b v s) :
  Calls Tryz.prog 71 #[.pointer (some ⟨b,0,none⟩),.int .i64 a,.int .i64 old,.int .i64 x] w fun e w'=>e=.returned (.bool (s.did a old))/\PMem w' n₀ b v (s.cas a old x)/\Td (Foot b v) w w':=by
 have hl:=h.len;have H:=gh h;cases hu:s.used a with
 | true=>
  obtain ⟨j,rfl,hj⟩:=Mst.used_nat hu;obtain ⟨g,cap,z,rfl,hz,hc,hf,hgb⟩:=h.cellAt (by decide) hj;rw [Mst.cas,Mst.did_in hz];have HU:=gh hu;have i1:(j:Int) < (s.xs.length:Int):=by omega
  clear hu h hz;cases ho:z == old with
  | true=>
   have ho':(z == old)=true:=ho;go_enter Tryz.func71,Tryz.ntmps71;go_wp2_with (fail);refine (reach_p _ n₀ b _ _ _ true H.o HU.o).mono ?_;rintro e w1 ⟨rfl,h1,t1⟩;have c0:=h1.opened.1.1;have c1:=t1.cell hc hgb;have f1:=(t1.frozen (p:=⟨g,j,none⟩) (World.block_lt_of_cell? _ _ hc) hgb).trans hf;have HP:=gh (put_p hj h1 t1 x);clear h1 t1 hc;go_wp2;go_ret;exact ⟨rfl,HP.o⟩
  | false=>
   go_enter Tryz.func71,Tryz.ntmps71;go_wp2_with (fail);refine (reach_p _ n₀ b _ _ _ true H.o HU.o).mono ?_;rintro e w1 ⟨rfl,h1,t1⟩;have c0:=h1.opened.1.1;have c1:=t1.cell hc hgb;have H1:=gh h1;have T1:=gh (touched_p (v:=(.slice (some ⟨g,0,none⟩) s.xs.length cap)) t1);clear h1 t1 hc;go_wp2;go_ret;exact ⟨rfl,H1.o,T1.o⟩
 | false=>
  rw [Mst.cas,Mst.did_out hu,if_neg (by simp)];have HU:=gh hu;clear hu h;go_enter Tryz.func71,Tryz.ntmps71;go_wp2_with (fail);refine (reach_p _ n₀ b _ _ _ false H.o HU.o).mono ?_;rintro e w1 ⟨rfl,h1,t1⟩;have H1:=gh h1;have T1:=gh (touched_p (v:=v) t1);clear h1 t1;go_wp2;go_ret;exact ⟨rfl,H1.o,T1.o⟩
end
section
set_option maxRecDepth 20000
attribute [local go_sem] Oper.semAt_some
def HpAt (W:World) (f:Nat) (p:Hp):Prop:=W.heap[f]? = some (.cells #[.int .i64 p.n,.int .i64 p.a,.int .i64 p.g,.int .i64 p.o,.int .i64 p.s,.int .i64 p.p,.int .i64 p.w] 120)
theorem HpAt.turned {W W':World} {f:Nat} {p:Hp} {R:Nat->Prop} (h:HpAt W f p) (t:Td R W W') (hR:¬ R f):HpAt W' f p:=t.heap h hR
theorem HpAt.kept {W W':World} {f:Nat} {p:Hp} (h:HpAt W f p) (t:Kept W W'):HpAt W' f p:=t.heap h id
theorem HpAt.cells {W:World} {f:Nat} {p:Hp} (h:HpAt W f p):(W.cell? ⟨f,0,none⟩=some (.int .i64 p.n)/\W.cell? ⟨f,1,none⟩=some (.int .i64 p.a)/\W.cell? ⟨f,2,none⟩=some (.int .i64 p.g)/\W.cell? ⟨f,3,none⟩=some (.int .i64 p.o)/\W.cell? ⟨f,4,none⟩=some (.int .i64 p.s)/\W.cell? ⟨f,5,none⟩=some (.int .i64 p.p)/\W.cell? ⟨f,6,none⟩=some (.int .i64 p.w))/\∀ i,W.frozen? ⟨f,i,none⟩=false:=by
 have hb:W.heap[f]? = _:=h;simp [World.cell?,World.frozen?,hb]
namespace Hp
def new (a:Int):Hp:=⟨0,a,0,0,0,0,0⟩
def step (p:Hp) (m:Mst):Hp × Mst:=
 if p.n=0 then ({ p with g:=m.look p.a,n:=1 },m.touch p.a)
 else if p.n=1 then ({ p with o:=outZ (m.look p.g),n:=2 },m.touch p.g)
 else if p.n=2 then ({ p with n:=3 },m.cas (p.a+4) 0 p.o)
 else if p.n=3 then ({ p with p:=placeZ (m.look (p.a+4)),n:=4 },m.touch (p.a+4))
 else if p.n=4 then ({ p with s:=m.look (p.a+1),n:=5 },m.touch (p.a+1))
 else if p.n=5 then ({ p with w:=m.look (p.a+p.p),n:=6 },m.touch (p.a+p.p))
 else if p.n=6 then ({ p with n:=7 },m.cas p.s (Rf.ofZ 5 p.a) p.w)
 else (p,m)
structure Ok (p:Hp):Prop where
 n:0<=p.n/\p.n<=7
 a:0<=p.a/\p.a<=1000000
 p:0<=p.p/\p.p<=10
end Hp
theorem hp_new (W:World) (a:Int):Calls Tryz.prog 24 #[.int .i64 a] W fun e W'=>e=.returned (.pointer (some ⟨W.heap.size,0,none⟩))/\HpAt W' W.heap.size (Hp.new a)/\Kept W W':=by
 go_enter Tryz.func24,Tryz.ntmps24;go_wp2;go_ret;exact ⟨rfl,heap_new _ _,Td.alloc _ _ _⟩
theorem hp_done (W:World) (f:Nat) (p:Hp) (h:HpAt W f p) (r:Bool) (e1:(p.n == 7)=r):Calls Tryz.prog 27 #[.pointer (some ⟨f,0,none⟩)] W fun e W'=>e=.returned (.bool r)/\W=W':=by
 obtain ⟨⟨c0,_⟩,_⟩:=h.cells;subst e1;clear h;go_enter Tryz.func27,Tryz.ntmps27;go_wp2;go_ret;exact ⟨rfl,rfl⟩
theorem out_q (W:World) (z r:Int) (e1:Hp.outZ z=r):Calls Tryz.prog 72 #[.int .i64 z] W fun e W'=>e=.returned (.int .i64 r)/\W=W':=by
 subst e1;unfold Hp.outZ
 by_cases hz:z=0
 ·rw [if_pos hz];subst hz;go_enter Tryz.func72,Tryz.ntmps72;go_wp2;go_ret;exact ⟨rfl,rfl⟩
 ·rw [if_neg hz];have g:(z == 0)=false:=by simp [hz]
  go_enter Tryz.func72,Tryz.ntmps72;go_wp2;go_ret;exact ⟨rfl,rfl⟩
theorem place_q (W:World) (z r:Int) (e1:Hp.placeZ z=r):Calls Tryz.prog 73 #[.int .i64 z] W fun e W'=>e=.returned (.int .i64 r)/\W=W':=by
 subst e1;unfold Hp.placeZ
 by_cases hz:z=1
 ·rw [if_pos hz];subst hz;go_enter Tryz.func73,Tryz.ntmps73;go_wp2;go_ret;exact ⟨rfl,rfl⟩
 ·rw [if_neg hz];have g:(z == 1)=false:=by simp [hz]
  go_enter Tryz.func73,Tryz.ntmps73;go_wp2;go_ret;exact ⟨rfl,rfl⟩
theorem of_q (W:World) (k a r:Int) (e1:Rf.ofZ k a=r):Calls Tryz.prog 41 #[.int .i64 k,.int .i64 a] W fun e W'=>e=.returned (.int .i64 r)/\W=W':=by
 subst e1;refine (Rf.of_c k a W).mono ?_;rintro e w' ⟨rfl,rfl⟩;exact ⟨rfl,rfl⟩
structure HpRan (W:World) (n₀ b:Nat) (v:Value) (f:Nat) (p:Hp) (m:Mst) (W':World):Prop where
 frame:HpAt W' f p
 mem:PMem W' n₀ b v m
 turned:Td (fun k=>k=f∨Foot b v k) W W'
set_option maxHeartbeats 4000000 in
theorem hp_step (W:World) (n₀ b:Nat) (v:Value) (f:Nat) (p:Hp) (m:Mst) (h:HpAt W f p) (hm:PMem W n₀ b v m) (hok:p.Ok) (ho:∀ a,I64 (m.look a)) (hf:¬ Foot b v f) (p':Hp) (m':Mst) (r:Bool) (e1:p.step m=(p',m')) (e2:(p'.n == 7)=r) :
  Calls Tryz.prog 26 #[.pointer (some ⟨f,0,none⟩),.pointer (some ⟨b,0,none⟩)] W fun e W'=>e=.returned (.bool r)/\HpRan W n₀ b v f p' m' W':=by
 obtain ⟨⟨c0,c1,c2,c3,c4,c5,c6⟩,fz⟩:=h.cells;have H:=gh h;have HM:=gh hm;have HO:=gh ho;have HF:=gh hf;have HR:=gh e2;obtain ⟨⟨n1,n2⟩,⟨a1,a2⟩,p1,p2⟩:=hok;have D0:∀ (q:Bool),(p.n == 7)=q->Calls Tryz.prog 27 #[.pointer (some ⟨f,0,none⟩)] W fun e W'=>e=.returned (.bool q)/\W=W':=fun q hq=>hp_done W f p h q hq;unfold Hp.step at e1;obtain ⟨n,a,g,o,s,q,wd⟩:=p;simp only at c0 c1 c2 c3 c4 c5 c6 e1 n1 n2 a1 a2 p1 p2 D0;obtain rfl | rfl | rfl | rfl | rfl | rfl | rfl | rfl:n=0∨n=1∨n=2∨n=3∨n=4∨n=5∨n=6∨n=7:=by omega
 ·have ne:((0:Int) == 7)=false:=by decide
  simp (config:={ decide:=true }) only [reduceIte] at e1;obtain ⟨z,hz⟩:∃ z,m.look (a)=z:=⟨_,rfl⟩;rw [hz] at e1;obtain ⟨rfl,rfl⟩:=Prod.mk.inj e1;have HZ:=gh hz;obtain ⟨z1,z2⟩:I64 z:=by rw [<- hz];exact ho _
  clear h hm ho hf e1 e2 hz;go_enter Tryz.func26,Tryz.ntmps26;go_wp2_with (fail);refine (D0 false ne).mono ?_;rintro e w' ⟨rfl,rfl⟩;clear D0;go_wp2_with (fail);refine (read_p _ n₀ b v m (a) HM.o).mono ?_;rw [HZ.o];rintro e W1 ⟨rfl,m1,t1⟩;have M1:=gh m1;have T1:Hid (Td (Foot b v) W W1):=gh (t1.mono (fun _ _ e=>.inl e));have F1:=gh (H.o.turned T1.o HF.o);clear m1 t1;obtain ⟨⟨d0,d1,d2,d3,d4,d5,d6⟩,df⟩:=F1.o.cells;have df0:=df 0;have df2:=df 2;simp only at d0 d1 d2 d3 d4 d5 d6;obtain ⟨W2,hW2⟩:∃ W2,(W1.setCell ⟨f,2,none⟩ (.int .i64 z)).setCell ⟨f,0,none⟩ (.int .i64 1)=W2:=⟨_,rfl⟩;have F2:HpAt W2 f ⟨1,a,z,o,s,q,wd⟩:=by
   have hb:W1.heap[f]? = _:=F1.o;rw [<- hW2];simp [HpAt,World.setCell,Array.getElem?_modify,hb]
  have T2:Td (fun k=>k=f) W1 W2:=by
   rw [<- hW2];exact (Td.setCell (R:=fun k=>k=f) _ _ _ rfl).trans (Td.setCell (R:=fun k=>k=f) _ _ _ rfl) (fun _ e=>e) (fun _ _ e=>e)
  have HF2:=gh F2;have HT2:=gh T2;have HW2:=gh hW2;clear F2 T2 hW2 df;go_wp2_with (fail);rw [HW2.o];refine (hp_done W2 f _ HF2.o r (by have:=HR.o;simpa using this)).mono ?_;rintro e W3 ⟨rfl,rfl⟩;go_wp2;go_ret;exact ⟨rfl,HF2.o,M1.o.turned HT2.o (fun k hk e=>HF.o (by rw [<- e];exact hk)),T1.o.trans HT2.o (fun _ e=>.inr e) (fun _ _ e=>.inl e)⟩
 ·have ne:((1:Int) == 7)=false:=by decide
  simp (config:={ decide:=true }) only [reduceIte] at e1;obtain ⟨z,hz⟩:∃ z,m.look (g)=z:=⟨_,rfl⟩;rw [hz] at e1;obtain ⟨rfl,rfl⟩:=Prod.mk.inj e1;have HZ:=gh hz;obtain ⟨z1,z2⟩:I64 z:=by rw [<- hz];exact ho _
  obtain ⟨y,hy⟩:∃ y,Hp.outZ z=y:=⟨_,rfl⟩;have HY:=gh hy;clear h hm ho hf e1 e2 hz hy;go_enter Tryz.func26,Tryz.ntmps26;go_wp2_with (fail);refine (D0 false ne).mono ?_;rintro e w' ⟨rfl,rfl⟩;clear D0;go_wp2_with (fail);refine (read_p _ n₀ b v m (g) HM.o).mono ?_;rw [HZ.o];rintro e W1 ⟨rfl,m1,t1⟩;have M1:=gh m1;have T1:Hid (Td (Foot b v) W W1):=gh (t1.mono (fun _ _ e=>.inl e));have F1:=gh (H.o.turned T1.o HF.o);clear m1 t1;go_wp2_with (fail);refine (out_q _ z y HY.o).mono ?_;rintro e w' ⟨rfl,rfl⟩;obtain ⟨⟨d0,d1,d2,d3,d4,d5,d6⟩,df⟩:=F1.o.cells;have df0:=df 0;have df3:=df 3;simp only at d0 d1 d2 d3 d4 d5 d6;obtain ⟨W2,hW2⟩:∃ W2,(W1.setCell ⟨f,3,none⟩ (.int .i64 y)).setCell ⟨f,0,none⟩ (.int .i64 2)=W2:=⟨_,rfl⟩;have F2:HpAt W2 f ⟨2,a,g,y,s,q,wd⟩:=by
   have hb:W1.heap[f]? = _:=F1.o;rw [<- hW2];simp [HpAt,World.setCell,Array.getElem?_modify,hb]
  have T2:Td (fun k=>k=f) W1 W2:=by
   rw [<- hW2];exact (Td.setCell (R:=fun k=>k=f) _ _ _ rfl).trans (Td.setCell (R:=fun k=>k=f) _ _ _ rfl) (fun _ e=>e) (fun _ _ e=>e)
  have HF2:=gh F2;have HT2:=gh T2;have HW2:=gh hW2;clear F2 T2 hW2 df;go_wp2_with (fail);rw [HW2.o];refine (hp_done W2 f _ HF2.o r (by have:=HR.o;simpa using this)).mono ?_;rintro e W3 ⟨rfl,rfl⟩;go_wp2;go_ret;exact ⟨rfl,by rw [HY.o];exact HF2.o,M1.o.turned HT2.o (fun k hk e=>HF.o (by rw [<- e];exact hk)),T1.o.trans HT2.o (fun _ e=>.inr e) (fun _ _ e=>.inl e)⟩
 ·have ne:((2:Int) == 7)=false:=by decide
  simp (config:={ decide:=true }) only [reduceIte] at e1;obtain ⟨rfl,rfl⟩:=Prod.mk.inj e1;obtain ⟨V,hV⟩:∃ V,W.drew=V:=⟨_,rfl⟩;have kV:Kept W V:=by rw [<- hV];exact Kept.drew _
  obtain ⟨⟨v0,v1,v2,v3,v4,v5,v6⟩,_⟩:=(h.kept kV).cells;have x1:∀ u:Wd (fun U=>Td (Foot b v) V U),u.w.cell? ⟨f,1,none⟩=some (.int .i64 a):=fun u=>u.ok.cell v1 hf;have x3:∀ u:Wd (fun U=>Td (Foot b v) V U),u.w.cell? ⟨f,3,none⟩=some (.int .i64 o):=fun u=>u.ok.cell v3 hf;have HV:=gh hV;have KV:=gh kV;have FV:=gh (h.kept kV);have MV:=gh (hm.kept kV);clear hV kV v0 v1 v2 v3 v4 v5 v6;clear h hm ho hf e1 e2;go_enter Tryz.func26,Tryz.ntmps26;go_wp2_with (fail);refine (D0 false ne).mono ?_;rintro e w' ⟨rfl,rfl⟩;clear D0;go_wp2_with (fail);refine region_wide [0,1,2,3,4,5,6,7,8,9,10] (fun U=>Td (Foot b v) V U) (by kernel_rfl) (by kernel_rfl) (by rw [HV.o];exact Td.refl _ _) (fun _=>?_);rw [HV.o]
  repeat (refine pq rfl rfl ?_;go_big_quiet_step (fail);refine wpQuiet_nil ?_)
  refine pl rfl rfl ?_;gi_wp2_with (fail);refine ⟨trivial,?_⟩;refine (callsIn_wide.2 (cas_p V n₀ b v m (a+4) 0 o MV.o)).mono ?_;rintro e W1 ⟨rfl,m1,t1⟩;have T9:Hid (Td (Foot b v) V W1):=gh (t1);have M1:=gh m1;have T1:Hid (Td (Foot b v) W W1):=gh (KV.o.then T9.o);have F1:=gh (FV.o.turned T9.o HF.o);clear m1 t1;gi_wp2_with (fail);refine ⟨Wd.mem T9.o,?_⟩;refine perm_done ?_;clear x1 x3;obtain ⟨⟨d0,d1,d2,d3,d4,d5,d6⟩,df⟩:=F1.o.cells;have df0:=df 0;simp only at d0 d1 d2 d3 d4 d5 d6;obtain ⟨W2,hW2⟩:∃ W2,W1.setCell ⟨f,0,none⟩ (.int .i64 3)=W2:=⟨_,rfl⟩;have F2:HpAt W2 f ⟨3,a,g,o,s,q,wd⟩:=by
   have hb:W1.heap[f]? = _:=F1.o;rw [<- hW2];simp [HpAt,World.setCell,Array.getElem?_modify,hb]
  have T2:Td (fun k=>k=f) W1 W2:=by
   rw [<- hW2];exact Td.setCell (R:=fun k=>k=f) _ _ _ rfl
  have HF2:=gh F2;have HT2:=gh T2;have HW2:=gh hW2;clear F2 T2 hW2 df;go_wp2_with (fail);rw [HW2.o];refine (hp_done W2 f _ HF2.o r (by have:=HR.o;simpa using this)).mono ?_;rintro e W3 ⟨rfl,rfl⟩;go_wp2;go_ret;exact ⟨rfl,HF2.o,M1.o.turned HT2.o (fun k hk e=>HF.o (by rw [<- e];exact hk)),T1.o.trans HT2.o (fun _ e=>.inr e) (fun _ _ e=>.inl e)⟩
 ·have ne:((3:Int) == 7)=false:=by decide
  simp (config:={ decide:=true }) only [reduceIte] at e1;obtain ⟨z,hz⟩:∃ z,m.look (a+4)=z:=⟨_,rfl⟩;rw [hz] at e1;obtain ⟨rfl,rfl⟩:=Prod.mk.inj e1;have HZ:=gh hz;obtain ⟨z1,z2⟩:I64 z:=by rw [<- hz];exact ho _
  obtain ⟨y,hy⟩:∃ y,Hp.placeZ z=y:=⟨_,rfl⟩;have HY:=gh hy;clear h hm ho hf e1 e2 hz hy;go_enter Tryz.func26,Tryz.ntmps26;go_wp2_with (fail);refine (D0 false ne).mono ?_;rintro e w' ⟨rfl,rfl⟩;clear D0;go_wp2_with (fail);refine (read_p _ n₀ b v m (a+4) HM.o).mono ?_;rw [HZ.o];rintro e W1 ⟨rfl,m1,t1⟩;have M1:=gh m1;have T1:Hid (Td (Foot b v) W W1):=gh (t1.mono (fun _ _ e=>.inl e));have F1:=gh (H.o.turned T1.o HF.o);clear m1 t1;go_wp2_with (fail);refine (place_q _ z y HY.o).mono ?_;rintro e w' ⟨rfl,rfl⟩;obtain ⟨⟨d0,d1,d2,d3,d4,d5,d6⟩,df⟩:=F1.o.cells;have df0:=df 0;have df5:=df 5;simp only at d0 d1 d2 d3 d4 d5 d6;obtain ⟨W2,hW2⟩:∃ W2,(W1.setCell ⟨f,5,none⟩ (.int .i64 y)).setCell ⟨f,0,none⟩ (.int .i64 4)=W2:=⟨_,rfl⟩;have F2:HpAt W2 f ⟨4,a,g,o,s,y,wd⟩:=by
   have hb:W1.heap[f]? = _:=F1.o;rw [<- hW2];simp [HpAt,World.setCell,Array.getElem?_modify,hb]
  have T2:Td (fun k=>k=f) W1 W2:=by
   rw [<- hW2];exact (Td.setCell (R:=fun k=>k=f) _ _ _ rfl).trans (Td.setCell (R:=fun k=>k=f) _ _ _ rfl) (fun _ e=>e) (fun _ _ e=>e)
  have HF2:=gh F2;have HT2:=gh T2;have HW2:=gh hW2;clear F2 T2 hW2 df;go_wp2_with (fail);rw [HW2.o];refine (hp_done W2 f _ HF2.o r (by have:=HR.o;simpa using this)).mono ?_;rintro e W3 ⟨rfl,rfl⟩;go_wp2;go_ret;exact ⟨rfl,by rw [HY.o];exact HF2.o,M1.o.turned HT2.o (fun k hk e=>HF.o (by rw [<- e];exact hk)),T1.o.trans HT2.o (fun _ e=>.inr e) (fun _ _ e=>.inl e)⟩
 ·have ne:((4:Int) == 7)=false:=by decide
  simp (config:={ decide:=true }) only [reduceIte] at e1;obtain ⟨z,hz⟩:∃ z,m.look (a+1)=z:=⟨_,rfl⟩;rw [hz] at e1;obtain ⟨rfl,rfl⟩:=Prod.mk.inj e1;have HZ:=gh hz;obtain ⟨z1,z2⟩:I64 z:=by rw [<- hz];exact ho _
  clear h hm ho hf e1 e2 hz;go_enter Tryz.func26,Tryz.ntmps26;go_wp2_with (fail);refine (D0 false ne).mono ?_;rintro e w' ⟨rfl,rfl⟩;clear D0;go_wp2_with (fail);refine (read_p _ n₀ b v m (a+1) HM.o).mono ?_;rw [HZ.o];rintro e W1 ⟨rfl,m1,t1⟩;have M1:=gh m1;have T1:Hid (Td (Foot b v) W W1):=gh (t1.mono (fun _ _ e=>.inl e));have F1:=gh (H.o.turned T1.o HF.o);clear m1 t1;obtain ⟨⟨d0,d1,d2,d3,d4,d5,d6⟩,df⟩:=F1.o.cells;have df0:=df 0;have df4:=df 4;simp only at d0 d1 d2 d3 d4 d5 d6;obtain ⟨W2,hW2⟩:∃ W2,(W1.setCell ⟨f,4,none⟩ (.int .i64 z)).setCell ⟨f,0,none⟩ (.int .i64 5)=W2:=⟨_,rfl⟩;have F2:HpAt W2 f ⟨5,a,g,o,z,q,wd⟩:=by
   have hb:W1.heap[f]? = _:=F1.o;rw [<- hW2];simp [HpAt,World.setCell,Array.getElem?_modify,hb]
  have T2:Td (fun k=>k=f) W1 W2:=by
   rw [<- hW2];exact (Td.setCell (R:=fun k=>k=f) _ _ _ rfl).trans (Td.setCell (R:=fun k=>k=f) _ _ _ rfl) (fun _ e=>e) (fun _ _ e=>e)
  have HF2:=gh F2;have HT2:=gh T2;have HW2:=gh hW2;clear F2 T2 hW2 df;go_wp2_with (fail);rw [HW2.o];refine (hp_done W2 f _ HF2.o r (by have:=HR.o;simpa using this)).mono ?_;rintro e W3 ⟨rfl,rfl⟩;go_wp2;go_ret;exact ⟨rfl,HF2.o,M1.o.turned HT2.o (fun k hk e=>HF.o (by rw [<- e];exact hk)),T1.o.trans HT2.o (fun _ e=>.inr e) (fun _ _ e=>.inl e)⟩
 ·have ne:((5:Int) == 7)=false:=by decide
  simp (config:={ decide:=true }) only [reduceIte] at e1;obtain ⟨z,hz⟩:∃ z,m.look (a+q)=z:=⟨_,rfl⟩;rw [hz] at e1;obtain ⟨rfl,rfl⟩:=Prod.mk.inj e1;have HZ:=gh hz;obtain ⟨z1,z2⟩:I64 z:=by rw [<- hz];exact ho _
  obtain ⟨V,hV⟩:∃ V,W.drew=V:=⟨_,rfl⟩;have kV:Kept W V:=by rw [<- hV];exact Kept.drew _
  obtain ⟨⟨v0,v1,v2,v3,v4,v5,v6⟩,_⟩:=(h.kept kV).cells;have x1:∀ u:Wd (fun U=>Td (Foot b v) V U),u.w.cell? ⟨f,1,none⟩=some (.int .i64 a):=fun u=>u.ok.cell v1 hf;have x5:∀ u:Wd (fun U=>Td (Foot b v) V U),u.w.cell? ⟨f,5,none⟩=some (.int .i64 q):=fun u=>u.ok.cell v5 hf;have HV:=gh hV;have KV:=gh kV;have FV:=gh (h.kept kV);have MV:=gh (hm.kept kV);clear hV kV v0 v1 v2 v3 v4 v5 v6;clear h hm ho hf e1 e2 hz;go_enter Tryz.func26,Tryz.ntmps26;go_wp2_with (fail);refine (D0 false ne).mono ?_;rintro e w' ⟨rfl,rfl⟩;clear D0;go_wp2_with (fail);refine region_last [0,1,2,3,4,5,6,7,8,9,10,11,12,13] 14 (fun U=>Td (Foot b v) V U) (by kernel_rfl) (by kernel_rfl) (by rw [HV.o];exact Td.refl _ _) (fun _=>?_);rw [HV.o]
  repeat (refine lq rfl rfl ?_;go_big_quiet_step (fail);refine wpQuiet_nil ?_)
  refine ll rfl rfl ?_;gi_wp2_with (fail);refine ⟨trivial,?_⟩;refine (callsIn_wide.2 (read_p V n₀ b v m (a+q) MV.o)).mono ?_;rw [HZ.o];rintro e W1 ⟨rfl,m1,t1⟩;have T9:Hid (Td (Foot b v) V W1):=gh (t1.mono (fun _ _ e=>.inl e));have M1:=gh m1;have T1:Hid (Td (Foot b v) W W1):=gh (KV.o.then T9.o);have F1:=gh (FV.o.turned T9.o HF.o);clear m1 t1;gi_wp2_with (fail);refine ⟨Wd.mem T9.o,?_⟩
  repeat (refine lq rfl rfl ?_;go_big_quiet_step (fail);refine wpQuiet_nil ?_)
  obtain ⟨⟨d0,d1,d2,d3,d4,d5,d6⟩,df⟩:=F1.o.cells;have df0:=df 0;have df6:=df 6;simp only at d0 d1 d2 d3 d4 d5 d6;obtain ⟨W2,hW2⟩:∃ W2,(W1.setCell ⟨f,6,none⟩ (.int .i64 z)).setCell ⟨f,0,none⟩ (.int .i64 6)=W2:=⟨_,rfl⟩;have F2:HpAt W2 f ⟨6,a,g,o,s,q,z⟩:=by
   have hb:W1.heap[f]? = _:=F1.o;rw [<- hW2];simp [HpAt,World.setCell,Array.getElem?_modify,hb]
  have T2:Td (fun k=>k=f) W1 W2:=by
   rw [<- hW2];exact (Td.setCell (R:=fun k=>k=f) _ _ _ rfl).trans (Td.setCell (R:=fun k=>k=f) _ _ _ rfl) (fun _ e=>e) (fun _ _ e=>e)
  have HF2:=gh F2;have HT2:=gh T2;have HW2:=gh hW2;clear F2 T2 hW2 df;clear x1 x5;refine lz rfl ?_;gi_wp2;refine last_done ?_;go_wp2_with (fail);rw [HW2.o];refine (hp_done W2 f _ HF2.o r (by have:=HR.o;simpa using this)).mono ?_;rintro e W3 ⟨rfl,rfl⟩;go_wp2;go_ret;exact ⟨rfl,HF2.o,M1.o.turned HT2.o (fun k hk e=>HF.o (by rw [<- e];exact hk)),T1.o.trans HT2.o (fun _ e=>.inr e) (fun _ _ e=>.inl e)⟩
 ·have ne:((6:Int) == 7)=false:=by decide
  simp (config:={ decide:=true }) only [reduceIte] at e1;obtain ⟨rfl,rfl⟩:=Prod.mk.inj e1;obtain ⟨me,hme⟩:∃ me,Rf.ofZ 5 a=me:=⟨_,rfl⟩;have HME:=gh hme;have CO:∀ X,Calls Tryz.prog 41 #[.int .i64 5,.int .i64 a] X fun e W'=>e=.returned (.int .i64 me)/\X=W':=fun X=>of_q X 5 a me hme;obtain ⟨V,hV⟩:∃ V,W.drew=V:=⟨_,rfl⟩;have kV:Kept W V:=by rw [<- hV];exact Kept.drew _
  obtain ⟨⟨v0,v1,v2,v3,v4,v5,v6⟩,_⟩:=(h.kept kV).cells;have x1:∀ u:Wd (fun U=>Td (Foot b v) V U),u.w.cell? ⟨f,1,none⟩=some (.int .i64 a):=fun u=>u.ok.cell v1 hf;have x4:∀ u:Wd (fun U=>Td (Foot b v) V U),u.w.cell? ⟨f,4,none⟩=some (.int .i64 s):=fun u=>u.ok.cell v4 hf;have x6:∀ u:Wd (fun U=>Td (Foot b v) V U),u.w.cell? ⟨f,6,none⟩=some (.int .i64 wd):=fun u=>u.ok.cell v6 hf;have HV:=gh hV;have KV:=gh kV;have FV:=gh (h.kept kV);have MV:=gh (hm.kept kV);clear hV kV v0 v1 v2 v3 v4 v5 v6;clear h hm ho hf e1 e2 hme;go_enter Tryz.func26,Tryz.ntmps26;go_wp2_with (fail);refine (D0 false ne).mono ?_;rintro e w' ⟨rfl,rfl⟩;clear D0;go_wp2_with (fail);refine region_wide [0,1,2,3,4,5,6,7,8,10,11,12,13,9,14] (fun U=>Td (Foot b v) V U) (by kernel_rfl) (by kernel_rfl) (by rw [HV.o];exact Td.refl _ _) (fun _=>?_);rw [HV.o]
  repeat (refine pq rfl rfl ?_;go_big_quiet_step (fail);refine wpQuiet_nil ?_)
  refine pl rfl rfl ?_;gi_wp2_with (fail);refine ⟨trivial,?_⟩;refine (callsIn_wide.2 (CO V)).mono ?_;rintro e w' ⟨rfl,rfl⟩;gi_wp2_with (fail);refine ⟨Wd.mem (Td.refl _ _),?_⟩;refine pl rfl rfl ?_;gi_wp2_with (fail);refine ⟨trivial,?_⟩;refine (callsIn_wide.2 (cas_p V n₀ b v m s me wd MV.o)).mono ?_;rintro e W1 ⟨rfl,m1,t1⟩;have T9:Hid (Td (Foot b v) V W1):=gh (t1);have M1:=gh m1;have T1:Hid (Td (Foot b v) W W1):=gh (KV.o.then T9.o);have F1:=gh (FV.o.turned T9.o HF.o);clear m1 t1;gi_wp2_with (fail);refine ⟨Wd.mem T9.o,?_⟩;refine perm_done ?_;clear x1 x4 x6;obtain ⟨⟨d0,d1,d2,d3,d4,d5,d6⟩,df⟩:=F1.o.cells;have df0:=df 0;simp only at d0 d1 d2 d3 d4 d5 d6;obtain ⟨W2,hW2⟩:∃ W2,W1.setCell ⟨f,0,none⟩ (.int .i64 7)=W2:=⟨_,rfl⟩;have F2:HpAt W2 f ⟨7,a,g,o,s,q,wd⟩:=by
   have hb:W1.heap[f]? = _:=F1.o;rw [<- hW2];simp [HpAt,World.setCell,Array.getElem?_modify,hb]
  have T2:Td (fun k=>k=f) W1 W2:=by
   rw [<- hW2];exact Td.setCell (R:=fun k=>k=f) _ _ _ rfl
  have HF2:=gh F2;have HT2:=gh T2;have HW2:=gh hW2;clear F2 T2 hW2 df;go_wp2_with (fail);rw [HW2.o];refine (hp_done W2 f _ HF2.o r (by have:=HR.o;simpa using this)).mono ?_;rintro e W3 ⟨rfl,rfl⟩;go_wp2;go_ret;exact ⟨rfl,HF2.o,by rw [HME.o];exact M1.o.turned HT2.o (fun k hk e=>HF.o (by rw [<- e];exact hk)),T1.o.trans HT2.o (fun _ e=>.inr e) (fun _ _ e=>.inl e)⟩
 ·simp (config:={ decide:=true }) only [reduceIte] at e1;obtain ⟨rfl,rfl⟩:=Prod.mk.inj e1;clear h hm ho hf e1 e2;go_enter Tryz.func26,Tryz.ntmps26;go_wp2_with (fail);refine (D0 true rfl).mono ?_;rintro e w' ⟨rfl,rfl⟩;go_wp2_with (fail);refine (D0 r HR.o).mono ?_;rintro e w' ⟨rfl,rfl⟩;go_wp2;go_ret;exact ⟨rfl,H.o,HM.o,Td.refl _ _⟩
end
section
set_option maxRecDepth 20000
attribute [local go_sem] Oper.semAt_some
namespace Rd
def new (s:Int):Rd:=⟨s,none,0,false⟩
def take (p:Rd) (z:Int):Rd:=if kd z=5 then { p with c:=some (Hp.new (ad z)) } else { p with w:=z,d:=true }
def step (p:Rd) (m:Mst):Rd × Mst:=
 if p.d=true then (p,m) else
 match p.c with
 | none=>(p.take (m.look p.s),m.touch p.s)
 | some h=>({ p with c:=if ((h.step m).1.n == 7)=true then none else some (h.step m).1 },(h.step m).2)
end Rd
def RdAt (W:World) (f g:Nat) (p:Rd):Prop:=W.heap[f]? = some (.cells #[.int .i64 p.s,.pointer (if p.c.isSome then some ⟨g,0,none⟩ else none),.int .i64 p.w,.bool p.d] 123)/\∀ h,p.c=some h->HpAt W g h
theorem box4 {W:World} {f:Nat} {a b c d:Value} {T:TypeId} (h:W.heap[f]? = some (.cells #[a,b,c,d] T)):(W.cell? ⟨f,0,none⟩=some a/\W.cell? ⟨f,1,none⟩=some b/\W.cell? ⟨f,2,none⟩=some c/\W.cell? ⟨f,3,none⟩=some d)/\∀ i,W.frozen? ⟨f,i,none⟩=false:=by
 simp [World.cell?,World.frozen?,h]
theorem RdAt.lt {W:World} {f g:Nat} {p:Rd} (h:RdAt W f g p):f < W.heap.size:=(Array.getElem?_eq_some_iff.1 h.1).1
theorem RdAt.turned {W W':World} {f g:Nat} {p:Rd} {R:Nat->Prop} (h:RdAt W f g p) (t:Td R W W') (h1:¬ R f) (h2:p.c.isSome=true->¬ R g):RdAt W' f g p:=
 ⟨t.heap h.1 h1,fun q hq=>(h.2 q hq).turned t (h2 (by rw [hq];rfl))⟩
theorem rd_new (W:World) (s:Int):Calls Tryz.prog 28 #[.int .i64 s] W fun e W'=>e=.returned (.pointer (some ⟨W.heap.size,0,none⟩))/\RdAt W' W.heap.size 0 (Rd.new s)/\Kept W W':=by
 go_enter Tryz.func28,Tryz.ntmps28;go_wp2;go_ret;exact ⟨rfl,⟨heap_new _ _,fun _ e=>by cases e⟩,Td.alloc _ _ _⟩
theorem rd_word (W:World) (f g:Nat) (p:Rd) (h:RdAt W f g p) (r:Int) (e1:p.w=r):Calls Tryz.prog 32 #[.pointer (some ⟨f,0,none⟩)] W fun e W'=>e=.returned (.int .i64 r)/\W=W':=by
 obtain ⟨⟨_,_,c2,_⟩,_⟩:=box4 h.1;subst e1;clear h;go_enter Tryz.func32,Tryz.ntmps32;go_wp2;go_ret;exact ⟨rfl,rfl⟩
theorem rd_take (W:World) (f:Nat) (p:Rd) (h:RdAt W f 0 p) (hc:p.c=none) (hd:p.d=false) (z:Int) (hz:I64 z) (p':Rd) (e1:p.take z=p'):Calls Tryz.prog 75 #[.pointer (some ⟨f,0,none⟩),.int .i64 z] W fun e W'=>e=.returned (.tuple #[])/\∃ g,RdAt W' f g p'/\W.heap.size<=g/\Td (fun k=>k=f) W W':=by
 have H:=gh h;obtain ⟨s,c,w,d⟩:=p;simp only at hc hd;subst hc hd;have hlt:=h.lt;obtain ⟨⟨c0,c1,c2,c3⟩,fz⟩:=box4 h.1;simp only at c0 c2 c3;obtain ⟨k,hk⟩:∃ k,kd z=k:=⟨_,rfl⟩;obtain ⟨a,ha⟩:∃ a,ad z=a:=⟨_,rfl⟩;have K:∀ X,Calls Tryz.prog 35 #[.int .i64 z] X fun e w'=>e=.returned (.int .i64 k)/\X=w':=fun X=>kd_q X z k hz hk;have A:∀ X,Calls Tryz.prog 68 #[.int .i64 z] X fun e w'=>e=.returned (.int .i64 a)/\X=w':=fun X=>ad_q X z a hz ha;unfold Rd.take at e1;rw [hk,ha] at e1;have f1:=fz 1;have f2:=fz 2;have f3:=fz 3;clear fz hk ha h hz
 by_cases h5:k=5
 ·subst h5;rw [if_pos rfl] at e1;subst e1;go_enter Tryz.func75,Tryz.ntmps75;go_wp2_with (fail);refine (K W).mono ?_;rintro e w' ⟨rfl,rfl⟩;go_wp2_with (fail);refine (A W).mono ?_;rintro e w' ⟨rfl,rfl⟩;go_wp2_with (fail);refine (hp_new W a).mono ?_;rintro e W1 ⟨rfl,p1,k1⟩;obtain ⟨⟨d0,d1,d2,d3⟩,df⟩:=box4 (k1.heap H.o.1 id);have df1:=df 1;have K1:=gh k1;have P1:=gh p1;obtain ⟨g,hg⟩:∃ g,W.heap.size=g:=⟨_,rfl⟩;have HG:=gh hg;rw [hg] at P1;clear k1 p1 c0 c1 c2 c3 f1 f2 f3 df;rw [hg];clear hg;go_wp2;refine bodyPost_ret (results_none rfl _ _ _) rfl ?_;refine ⟨rfl,g,⟨?_,?_⟩,Nat.le_of_eq HG.o,K1.o.then (Td.setCell (R:=fun k=>k=f) _ _ _ rfl)⟩
  ·rw [box_set _ (K1.o.heap H.o.1 id)];rfl
  ·intro q hq;cases hq;exact P1.o.turned (Td.setCell (R:=fun k=>k=f) _ _ _ rfl) (by have:=HG.o;omega)
 ·have g5:(k == 5)=false:=by simp [h5]
  rw [if_neg h5] at e1;subst e1;go_enter Tryz.func75,Tryz.ntmps75;go_wp2_with (fail);refine (K W).mono ?_;rintro e w' ⟨rfl,rfl⟩;go_wp2
  go_end0
  refine ⟨rfl,W.heap.size,⟨?_,fun _ e=>by cases e⟩,Nat.le_refl _,(Td.setCell (R:=fun k=>k=f) _ _ _ rfl).trans (Td.setCell (R:=fun k=>k=f) _ _ _ rfl) (fun _ e=>e) (fun _ _ e=>e)⟩;rw [box_set _ (box_set _ H.o.1)];rfl
def RdRan (W:World) (n₀ b:Nat) (v:Value) (f g:Nat) (p p':Rd) (m':Mst) (W':World):Prop:=
 ∃ g',RdAt W' f g' p'/\PMem W' n₀ b v m'/\(p'.c.isSome=true->(p.c.isSome=true/\g'=g)∨W.heap.size<=g')/\Td (fun k=>k=f∨(p.c.isSome=true/\k=g)∨Foot b v k) W W'
theorem RdAt.some {W:World} {f g g':Nat} {p:Rd} (h:RdAt W f g p) (hc:p.c=none):RdAt W f g' p:=by
 obtain ⟨s,c,w,d⟩:=p;subst hc;exact ⟨h.1,fun _ e=>by cases e⟩
set_option maxHeartbeats 1000000 in
theorem rd_step (W:World) (n₀ b:Nat) (v:Value) (f g:Nat) (p:Rd) (m:Mst) (h:RdAt W f g p) (hm:PMem W n₀ b v m) (hok:∀ q,p.c=some q->q.Ok) (ho:∀ a,I64 (m.look a)) (p':Rd) (m':Mst) (r:Bool) (e1:p.step m=(p',m')) (e2:p'.d=r) :
  Calls Tryz.prog 30 #[.pointer (some ⟨f,0,none⟩),.pointer (some ⟨b,0,none⟩)] W fun e W'=>e=.returned (.bool r)/\RdRan W n₀ b v f g p p' m' W':=by
 have H:=gh h;have HM:=gh hm;have HO:=gh ho;have HF:=gh (hm.other h.1 (by decide) (by decide));obtain ⟨s,c,w,d⟩:=p;obtain ⟨⟨c0,c1,c2,c3⟩,fz⟩:=box4 h.1;simp only at c0 c1 c2 c3;unfold Rd.step at e1;simp only at e1;cases d with
 | true=>
  rw [if_pos rfl] at e1;obtain ⟨rfl,rfl⟩:=Prod.mk.inj e1;simp only at e2;subst e2;clear h hm ho hok e1 fz;go_enter Tryz.func30,Tryz.ntmps30;go_wp2;go_ret;exact ⟨rfl,g,H.o,HM.o,fun e=>.inl ⟨e,rfl⟩,Td.refl _ _⟩
 | false=>
  rw [if_neg (by decide)] at e1;cases c with
  | none=>
   simp only at e1;obtain ⟨z,hz⟩:∃ z,m.look s=z:=⟨_,rfl⟩;rw [hz] at e1;obtain ⟨e3,rfl⟩:=Prod.mk.inj e1;have HZ:=gh hz;have hz':I64 z:=by rw [<- hz];exact ho _
   have HI:=gh hz';have HT:=gh e3;have H0:=gh (H.o.some (g':=0) rfl);clear h hm ho hok e1 fz hz hz' e3;simp only [Option.isSome_none,Bool.false_eq_true,if_false] at c1;go_enter Tryz.func30,Tryz.ntmps30;go_wp2_with (fail);refine (read_p W n₀ b v m s HM.o).mono ?_;rw [HZ.o];rintro e W1 ⟨rfl,m1,t1⟩;have M1:=gh m1;have T1:Hid (Td (Foot b v) W W1):=gh (t1.mono (fun _ _ e=>.inl e));have H1:=gh (H0.o.turned T1.o HF.o (fun e=>by cases e));clear m1 t1 c0 c1 c2 c3;go_wp2_with (fail);refine (rd_take W1 f _ H1.o rfl rfl z HI.o p' HT.o).mono ?_;rintro e W2 ⟨rfl,g',h2,l2,t2⟩;obtain ⟨⟨d0,d1,d2,d3⟩,_⟩:=box4 h2.1;rw [e2] at d3;have H2:=gh h2;have T2:=gh t2;have L2:=gh l2;clear h2 t2 l2 e2;go_wp2;go_ret;exact ⟨rfl,g',H2.o,M1.o.turned T2.o (fun k hk e=>HF.o (by rw [<- e];exact hk)),fun _=>.inr (Nat.le_trans T1.o.size L2.o),T1.o.trans T2.o (fun _ e=>.inr (.inr e)) (fun _ _ e=>.inl e)⟩
  | some q=>
   simp only [Option.isSome_some,if_true] at c1;have hq:=h.2 q rfl;have HQ:=gh hq;have HK:=gh (hok q rfl);have HG:=gh (hm.other hq (by decide) (by decide));have hfg:f≠g:=by
    rintro rfl
    have:=h.1.symm.trans hq
    simp at this
   have HFG:=gh hfg;obtain ⟨q',m1,hs⟩:∃ q' m1,q.step m=(q',m1):=⟨_,_,rfl⟩;obtain ⟨u,hu⟩:∃ u,(q'.n == 7)=u:=⟨_,rfl⟩;simp only [hs] at e1;obtain ⟨e3,rfl⟩:=Prod.mk.inj e1;have HS:=gh hs;have HU:=gh hu;rw [hu] at e3;subst e3;simp only at e2;subst e2;clear h hm ho hok e1 fz hq hs hu hfg;go_enter Tryz.func30,Tryz.ntmps30;go_wp2_with (fail);refine (hp_step W n₀ b v g q m HQ.o HM.o HK.o HO.o HG.o q' m1 u HS.o HU.o).mono ?_;rintro e W1 ⟨rfl,R⟩;obtain ⟨r1,r2,r3⟩:=R;have R1:=gh r1;have R2:=gh r2;have R3:=gh r3;have hb:W1.heap[f]? = _:=r3.heap H.o.1 (fun e=>e.elim (fun e=>HFG.o e) HF.o);have HB:=gh hb;obtain ⟨⟨d0,d1,d2,d3⟩,df⟩:=box4 hb;simp only at d0 d1 d2 d3;have df1:=df 1;clear r1 r2 r3 hb df c0 c1 c2 c3;cases u with
   | true=>
    go_wp2;go_ret;refine ⟨rfl,g,⟨?_,fun _ e=>by cases e⟩,R2.o.turned (Td.setCell (R:=fun k=>k=f) _ _ _ rfl) (fun k hk e=>HF.o (by rw [<- e];exact hk)),fun e=>(by cases e),R3.o.trans (Td.setCell (R:=fun k=>k=f) _ _ _ rfl) (fun _ e=>e.elim (fun e=>.inr (.inl ⟨rfl,e⟩)) (fun e=>.inr (.inr e))) (fun _ _ e=>.inl e)⟩;rw [box_set _ HB.o];rfl
   | false=>
    go_wp2;go_ret;refine ⟨rfl,g,⟨HB.o,?_⟩,R2.o,fun _=>.inl ⟨rfl,rfl⟩,R3.o.mono (fun _ _ e=>e.elim (fun e=>.inr (.inl ⟨rfl,e⟩)) (fun e=>.inr (.inr e)))⟩;rintro x e;cases e;exact R1.o
end
section
open Go.Shelf
variable {X:Nat->Prop}
set_option maxRecDepth 20000
theorem HpAt.others {W W':World} {f:Nat} {p:Hp} (h:HpAt W f p) (t:Others X W W'):HpAt W' f p:=t _ _ _ h (.inr (by decide)) (by decide)
theorem RdAt.others {W W':World} {f g:Nat} {p:Rd} (h:RdAt W f g p) (t:Others X W W'):RdAt W' f g p:=⟨t _ _ _ h.1 (.inr (by decide)) (by decide),fun q hq=>(h.2 q hq).others t⟩
end
section
open Sd (Pr Fo)
namespace Lp
end Lp
section
variable {α:Type}
theorem help_hl (a:Int):Pr.help a=(Pr.read a).bind fun g=>hl1 a g:=by
 unfold Pr.help hl1 hl2 hl3 hl4 hl5 hl6;congr 1;funext g;congr 1;funext gd;show Pr.bind (Pr.cas (a+4) 0 (if gd=0 then 1 else 2)) _=Pr.bind (Pr.cas (a+4) 0 (if gd=0 then 1 else 2)) _;congr 1;funext _;congr 1;funext o;congr 1;funext s;unfold Hp.placeZ
 split <;> rfl
def HpT (p:Hp) (K:Unit->Pr α) (T:Pr α):Prop:=(p.n=0/\T=(Pr.help p.a).bind K)∨(p.n=1/\T=(hl1 p.a p.g).bind K)∨(p.n=2/\T=(hl2 p.a p.o).bind K)∨(p.n=3/\T=(hl3 p.a).bind K)∨(p.n=4/\T=(hl4 p.a p.p).bind K)∨(p.n=5/\T=(hl5 p.a p.s p.p).bind K)∨(p.n=6/\T=(hl6 p.a p.s p.w).bind K)
theorem HpT.step {p:Hp} {K:Unit->Pr α} {T:Pr α} {m:Mst} (h:HpT p K T):∃ q k,T=.ask q k/\(p.step m).2=(m.doA q).2/\(((p.step m).1.n=7/\k (m.doA q).1=K ())∨((p.step m).1.n≠7/\HpT (p.step m).1 K (k (m.doA q).1)))/\(p.step m).1.a=p.a:=by
 have no:∀ {i j:Int},i≠j->p.n=i->¬ p.n=j:=fun h e=>by rw [e];exact h
 rcases h with ⟨e,rfl⟩ | ⟨e,rfl⟩ | ⟨e,rfl⟩ | ⟨e,rfl⟩ | ⟨e,rfl⟩ | ⟨e,rfl⟩ | ⟨e,rfl⟩ <;> unfold Hp.step
 ·rw [if_pos e,help_hl];exact ⟨_,_,rfl,rfl,.inr ⟨(by show (1:Int)≠7;decide),.inr (.inl ⟨rfl,rfl⟩)⟩,rfl⟩
 ·rw [if_neg (no (by decide) e),if_pos e];exact ⟨_,_,rfl,rfl,.inr ⟨(by show (2:Int)≠7;decide),.inr (.inr (.inl ⟨rfl,rfl⟩))⟩,rfl⟩
 ·rw [if_neg (no (by decide) e),if_neg (no (by decide) e),if_pos e];exact ⟨_,_,rfl,rfl,.inr ⟨(by show (3:Int)≠7;decide),.inr (.inr (.inr (.inl ⟨rfl,rfl⟩)))⟩,rfl⟩
 ·rw [if_neg (no (by decide) e),if_neg (no (by decide) e),if_neg (no (by decide) e),if_pos e];exact ⟨_,_,rfl,rfl,.inr ⟨(by show (4:Int)≠7;decide),.inr (.inr (.inr (.inr (.inl ⟨rfl,rfl⟩))))⟩,rfl⟩
 ·rw [if_neg (no (by decide) e),if_neg (no (by decide) e),if_neg (no (by decide) e),if_neg (no (by decide) e),if_pos e];exact ⟨_,_,rfl,rfl,.inr ⟨(by show (5:Int)≠7;decide),.inr (.inr (.inr (.inr (.inr (.inl ⟨rfl,rfl⟩)))))⟩,rfl⟩
 ·rw [if_neg (no (by decide) e),if_neg (no (by decide) e),if_neg (no (by decide) e),if_neg (no (by decide) e),if_neg (no (by decide) e),if_pos e];exact ⟨_,_,rfl,rfl,.inr ⟨(by show (6:Int)≠7;decide),.inr (.inr (.inr (.inr (.inr (.inr ⟨rfl,rfl⟩)))))⟩,rfl⟩
 ·rw [if_neg (no (by decide) e),if_neg (no (by decide) e),if_neg (no (by decide) e),if_neg (no (by decide) e),if_neg (no (by decide) e),if_neg (no (by decide) e),if_pos e];exact ⟨_,_,rfl,rfl,.inl ⟨rfl,rfl⟩,rfl⟩
theorem HpT.n {p:Hp} {K:Unit->Pr α} {T:Pr α} (h:HpT p K T):(p.n == 7)=false/\∃ q k,T=.ask q k:=by
 obtain ⟨q,k,e,_⟩:=h.step (m:=Mst.new 0);rcases h with ⟨h,_⟩ | ⟨h,_⟩ | ⟨h,_⟩ | ⟨h,_⟩ | ⟨h,_⟩ | ⟨h,_⟩ | ⟨h,_⟩ <;> exact ⟨by rw [h];rfl,q,k,e⟩
end
theorem Hp.Ok.step {p:Hp} (h:p.Ok) (m:Mst):(p.step m).1.Ok:=by
 obtain ⟨⟨n1,n2⟩,h2,h3⟩:=h;have pz:∀ z,0<=placeZ z/\placeZ z<=10:=fun z=>by unfold placeZ;split <;> omega
 have no:∀ {i j:Int},i≠j->p.n=i->¬ p.n=j:=fun h e=>by rw [e];exact h
 unfold Hp.step;rcases (by omega:p.n=0∨p.n=1∨p.n=2∨p.n=3∨p.n=4∨p.n=5∨p.n=6∨p.n=7) with e | e | e | e | e | e | e | e
 ·rw [if_pos e];exact ⟨⟨by show (0:Int)<=1;decide,by show (1:Int)<=7;decide⟩,h2,h3⟩
 ·rw [if_neg (no (by decide) e),if_pos e];exact ⟨⟨by show (0:Int)<=2;decide,by show (2:Int)<=7;decide⟩,h2,h3⟩
 ·rw [if_neg (no (by decide) e),if_neg (no (by decide) e),if_pos e];exact ⟨⟨by show (0:Int)<=3;decide,by show (3:Int)<=7;decide⟩,h2,h3⟩
 ·rw [if_neg (no (by decide) e),if_neg (no (by decide) e),if_neg (no (by decide) e),if_pos e];exact ⟨⟨by show (0:Int)<=4;decide,by show (4:Int)<=7;decide⟩,h2,pz _⟩
 ·rw [if_neg (no (by decide) e),if_neg (no (by decide) e),if_neg (no (by decide) e),if_neg (no (by decide) e),if_pos e];exact ⟨⟨by show (0:Int)<=5;decide,by show (5:Int)<=7;decide⟩,h2,h3⟩
 ·rw [if_neg (no (by decide) e),if_neg (no (by decide) e),if_neg (no (by decide) e),if_neg (no (by decide) e),if_neg (no (by decide) e),if_pos e];exact ⟨⟨by show (0:Int)<=6;decide,by show (6:Int)<=7;decide⟩,h2,h3⟩
 ·rw [if_neg (no (by decide) e),if_neg (no (by decide) e),if_neg (no (by decide) e),if_neg (no (by decide) e),if_neg (no (by decide) e),if_neg (no (by decide) e),if_pos e];exact ⟨⟨by show (0:Int)<=7;decide,by show (7:Int)<=7;decide⟩,h2,h3⟩
 ·rw [if_neg (no (by decide) e),if_neg (no (by decide) e),if_neg (no (by decide) e),if_neg (no (by decide) e),if_neg (no (by decide) e),if_neg (no (by decide) e),if_neg (no (by decide) e)];exact ⟨⟨n1,n2⟩,h2,h3⟩
def RdT (p:Rd) (T:Pr Int):Prop:=(p.d=true/\T=.ret p.w)∨(p.d=false/\((p.c=none/\∃ n,T=(Pr.read p.s).bind fun z=>Pr.slotL n p.s z)∨(∃ h n,p.c=some h/\h.Ok/\HpT h (fun _=>(Pr.read p.s).bind fun z=>Pr.slotL n p.s z) T)))
theorem RdT.new (s:Int):RdT (Rd.new s) (Lp.make 13 s).pr:=.inr ⟨rfl,.inl ⟨rfl,_,rfl⟩⟩
theorem RdT.end {p:Rd} {T:Pr Int} (h:RdT p T):(p.d=true/\T=.ret p.w)∨(p.d=false/\∃ a k,T=.ask a k):=by
 rcases h with h | ⟨h,⟨_,n,e⟩ | ⟨q,n,_,_,e⟩⟩
 ·exact .inl h
 ·exact .inr ⟨h,by rw [e];exact ⟨_,_,rfl⟩⟩
 ·exact .inr ⟨h,e.n.2⟩
theorem RdT.ok {p:Rd} {T:Pr Int} (h:RdT p T):∀ q,p.c=some q->p.d=false->q.Ok:=by
 intro q hq hd;rcases h with ⟨h,_⟩ | ⟨h,⟨e,_⟩ | ⟨q',n,e,ok,_⟩⟩
 ·rw [hd] at h;cases h
 ·rw [e] at hq;cases hq
 ·rw [e] at hq;cases hq;exact ok
theorem RdT.step {p:Rd} {T:Pr Int} {m:Mst} (h:RdT p T):∃ T',(RdT (p.step m).1 T'∨T'=.stop)/\Goes T m T' (p.step m).2:=by
 rcases h with ⟨h,e⟩ | ⟨h,⟨hc,n,e⟩ | ⟨q,n,hc,ok,e⟩⟩
 ·have es:p.step m=(p,m):=by unfold Rd.step;rw [if_pos h]
  rw [es];exact ⟨T,.inl (.inl ⟨h,e⟩),.inr ⟨⟨_,e⟩,rfl,rfl⟩⟩
 ·have es:p.step m=(p.take (m.look p.s),m.touch p.s):=by unfold Rd.step;rw [if_neg (by rw [h];decide),hc]
  rw [es];refine ⟨Pr.slotL n p.s (m.look p.s),?_,.inl ⟨_,_,e,rfl,rfl⟩⟩;cases n with
  | zero=>exact .inr rfl
  | succ n=>
   left
   unfold Pr.slotL Rd.take
   split
   ·refine .inr ⟨h,.inr ⟨Hp.new (ad (m.look p.s)),n,rfl,?_,.inl ⟨rfl,rfl⟩⟩⟩
    have:=ad_range (m.look p.s)
    exact ⟨⟨by show (0:Int)<=0;decide,by show (0:Int)<=7;decide⟩,⟨this.1,by show ad (m.look p.s)<=1000000;omega⟩,by show (0:Int)<=0;decide,by show (0:Int)<=10;decide⟩
   ·exact .inl ⟨rfl,rfl⟩
 ·obtain ⟨a,k,e1,e2,e3,_⟩:=e.step (m:=m);have es:p.step m=({ p with c:=if ((q.step m).1.n == 7)=true then none else some (q.step m).1 },(q.step m).2):=by unfold Rd.step;rw [if_neg (by rw [h];decide),hc]
  rw [es];refine ⟨_,.inl (.inr ⟨h,?_⟩),.inl ⟨a,k,e1,rfl,e2⟩⟩;rcases e3 with ⟨e3,e4⟩ | ⟨e3,e4⟩
  ·exact .inl ⟨by dsimp only;rw [e3];rfl,n,e4⟩
  ·exact .inr ⟨_,n,by dsimp only;rw [if_neg (by simpa using e3)],ok.step m,e4⟩
end
section
open Go.Shelf
open Sd (Pr)
variable {X Z:Nat->Prop}
set_option maxRecDepth 20000
theorem rd_y (w W:World) (y b x mb:Nat) (m:Mst) (ix:Ixp) (f g:Nat) (p:Rd) (h:Yx X w W y b x mb m ix) (ho:m.ok) (hf:RdAt W f g p) (hok:∀ q,p.c=some q->q.Ok) (hn:w.heap.size<=f) (hg:p.c.isSome=true->w.heap.size<=g) :
  Calls Tryz.prog 30 #[.pointer (some ⟨f,0,none⟩),.pointer (some ⟨b,0,none⟩)] W fun e W'=>e=.returned (.bool (p.step m).1.d)/\∃ g',Yx X w W' y b x mb (p.step m).2 ix/\RdAt W' f g' (p.step m).1/\((p.step m).1.c.isSome=true->w.heap.size<=g')/\But X (fun k=>k=f∨(p.c.isSome=true/\k=g)) W W':=by
 obtain ⟨tb,v,mv,tv,lv,pz,h1,h2⟩:=h;refine (rd_step W _ b v f g p m hf h1.pm hok (fun a=>ho.look a) (p.step m).1 (p.step m).2 _ rfl rfl).mono ?_;rintro e W' ⟨rfl,g',r1,r2,r3,r4⟩;have t:Td (fun k=>(k=f∨(p.c.isSome=true/\k=g))∨Foot b v k) W W':=r4.mono (fun k _ e=>by
  rcases e with e | e | e
  ·exact .inl (.inl e)
  ·exact .inl (.inr e)
  ·exact .inr e)
 refine ⟨rfl,g',⟨tb,v,mv,tv,lv,pz,h1.prog t (fun k hk=>?_) r2 (fun k hk=>.inl hk),h2.own (fun k hk=>?_) t⟩,r1,fun hc=>?_,But.of h1 t⟩
 ·rcases hk with (rfl | ⟨hc,rfl⟩) | hk
  ·exact .inr ⟨_,_,hf.1,by decide,by decide⟩
  ·obtain ⟨q,hq⟩:=Option.isSome_iff_exists.1 hc;exact .inr ⟨_,_,hf.2 q hq,by decide,by decide⟩
  ·exact .inl hk
 ·rcases hk with (rfl | ⟨hc,rfl⟩) | hk
  ·exact hn
  ·exact hg hc
  ·exact (h1.pm.lt k hk).1
 ·rcases r3 hc with ⟨h3,h4⟩ | h3
  ·rw [h4];exact hg h3
  ·exact Nat.le_trans h2.size h3
end
section
open Go.Shelf
open Sd (Pr)
variable {X X' Z:Nat->Prop}
set_option maxRecDepth 20000
theorem rd_done (W:World) (f g:Nat) (p:Rd) (h:RdAt W f g p) (r:Bool) (e1:p.d=r):Calls Tryz.prog 31 #[.pointer (some ⟨f,0,none⟩)] W fun e W'=>e=.returned (.bool r)/\W=W':=by
 obtain ⟨⟨_,_,_,c3⟩,_⟩:=box4 h.1;subst e1;clear h;go_enter Tryz.func31,Tryz.ntmps31;go_wp2;go_ret;exact ⟨rfl,rfl⟩
def Frd (w:World) (f g:Nat) (p:Rd) (W:World) (A:Pr Int):Prop:=RdAt W f g p/\RdT p A/\w.heap.size<=f/\(p.c.isSome=true->w.heap.size<=g)/\(p.d=false->p.w=0)
theorem Frd.others {w W W':World} {f g:Nat} {p:Rd} {A:Pr Int} (t:Others X W W') (h:Frd w f g p W A):Frd w f g p W' A:=⟨h.1.others t,h.2⟩
theorem Frd.kept {w W W':World} {f g:Nat} {p:Rd} {A:Pr Int} (t:Kept W W') (h:Frd w f g p W A):Frd w f g p W' A:=⟨h.1.turned t id (fun _=>id),h.2⟩
theorem Rd.step_w (p:Rd) (m:Mst) (h:p.w=0) (hd:(p.step m).1.d=false):(p.step m).1.w=0:=by
 unfold Rd.step at hd ⊢
 split
 ·exact h
 ·rename_i n;rw [if_neg n] at hd
  split
  ·rename_i hc;rw [hc] at hd;unfold Rd.take at hd ⊢
   split
   ·exact h
   ·rename_i k;rw [if_neg k] at hd;cases hd
  ·exact h
theorem pj_rd {w W:World} {y b x mb e f g:Nat} {m:Mst} {ix:Ixp} {c:Nat} {A:Pr Int} {q:Lp} {tp:Sl} {p:Rd} (h:Pj (Frd w f g p) w W y b x mb e m ix c A q tp) (hd:p.d=false) :
  Calls Tryz.prog 30 #[.pointer (some ⟨f,0,none⟩),.pointer (some ⟨b,0,none⟩)] W fun r W'=>r=.returned (.bool (p.step m).1.d)/\∃ A1 g',Pm (Frd w f g' (p.step m).1) w W' y b x mb e m (p.step m).2 ix c A A1 q tp:=by
 obtain ⟨A1,t1,g1⟩:=h.fr.2.1.step (m:=m);refine (rd_y w W y b x mb m ix f g p h.yx h.ok.ok.2 h.fr.1 (fun q hq=>h.fr.2.1.ok q hq hd) h.fr.2.2.1 h.fr.2.2.2.1).mono ?_;rintro r W' ⟨rfl,g',h1,h2,h3,h4⟩;refine ⟨rfl,A1,g',h1,h.lr.but h4 (fun _ e=>.inl e) (fun k hk e=>?_),fun ns=>⟨h2,t1.resolve_right ns,h.fr.2.2.1,h3,fun e=>Rd.step_w p m (h.fr.2.2.2.2 hd) e⟩,h.is,h.ok,h.wx,g1⟩;obtain ⟨c',T,hc',hT⟩:=h.lr.typed hk;rcases e with e | ⟨hs,e⟩
 ·have:=h.fr.1.1
  rw [<- e,hc'] at this;simp at this;rw [this.2] at hT
  revert hT
  decide
 ·obtain ⟨hq,e2⟩:=Option.isSome_iff_exists.1 hs
  have:=h.fr.1.2 hq e2
  unfold HpAt at this;rw [<- e,hc'] at this;simp at this;rw [this.2] at hT
  revert hT
  decide
theorem rd_both {p:Rd} {q:Lp} {A:Pr Int} (h:RdT p A) (k:q.Is A):p.d=q.done/\(q.done=true->p.w=q.w):=by
 rcases h.end with ⟨a1,a2⟩ | ⟨a1,a,f,a2⟩
 ·rcases k.end with ⟨b1,b2⟩ | ⟨_,a',f',b2⟩
  ·rw [a2] at b2;exact ⟨a1.trans b1.symm,fun _=>Sd.Pr.ret.inj b2⟩
  ·rw [a2] at b2;cases b2
 ·rcases k.end with ⟨b1,b2⟩ | ⟨b1,_⟩
  ·rw [a2] at b2;cases b2
  ·exact ⟨a1.trans b1.symm,fun e=>(by rw [b1] at e;cases e)⟩
theorem read_start {w W:World} {y b x mb f e:Nat} {m:Mst} {ix:Ixp} {s:Int} (h:Yx (fun k=>LB e Sl.nil k∨NoP k) w W y b x mb m ix) (o:YOk m ix 1680) (hs:∃ nd,(nd,s) ∈ ownL ix.m) (hf:RdAt W f 0 (Rd.new s)) (hn:w.heap.size<=f) (hl:LrIs W w.heap.size e (Lp.make 13 s).settle Sl.nil):Pj (Frd w f 0 (Rd.new s)) w W y b x mb e m ix 1680 (Lp.make 13 s).pr (Lp.make 13 s).settle Sl.nil:=by
 obtain ⟨g,h1,h2⟩:=o.wi;obtain ⟨nd,hs⟩:=hs;obtain ⟨_,_,d,n,i,lo,hi,sl,_⟩:=Sd.own_sl h1 hs;exact ⟨h,hl,⟨hf,RdT.new s,hn,fun e=>(by cases e),fun _=>rfl⟩,Lp.is_make 13 s,o,g,h1,h2,Sd.Safe.mono (fun _ _ _ _=>trivial) (Sd.slot_safe Lp.N0 sl.ro),trivial⟩
section
variable {w W W':World} {y b x mb:Nat} {m m1:Mst} {ix:Ixp} {c i f e:Nat} {p:Hp} {q:Lp} {tp:Sl} {A A1:Pr Int} {j f' e':Nat} {p':Hp} {q':Lp} {tp':Sl} {A':Pr Int}
end
end
section
set_option maxRecDepth 20000
theorem dcss13 (w:World) (g p k v:Int):Calls Tryz.prog 70 #[.int .i64 g,.int .i64 p,.int .i64 k,.int .i64 v] w (Fresh [g,p,k,v,0] w):=by
 go_enter Tryz.func70,Tryz.ntmps70;go_wp2;go_ret;exact ⟨_,rfl,row_new w 2 [g,p,k,v,0] _ (Nat.le_refl _) (by simp),Td.alloc _ _ _⟩
theorem now_write (w W:World) (b:Nat) (s:Mst) (a x:Int) (s':Mst) (h:Now w W b s) (e1:s.write a x=s') :
  Calls Tryz.prog 74 #[.pointer (some ⟨b,0,none⟩),.int .i64 a,.int .i64 x] W fun e W'=>e=.returned (.tuple #[])/\Now w W' b s':=by
 obtain ⟨⟨v,h⟩,hk⟩:=h;subst e1;exact (write_p W _ b v s a x h).mono fun _ _ ⟨h1,h2,h3⟩=>⟨h1,⟨v,h2⟩,hk.own (fun i hi=>(h.lt i hi).1) h3⟩
def MR (w W:World) (b:Nat) (s:Mst) (f:Nat) (p:Rd):Prop:=
 ∃ v g,PMem W w.heap.size b v s/\RdAt W f g p/\w.heap.size<=f/\(p.c.isSome=true->w.heap.size<=g)/\Kept w W
theorem Now.read {w W W':World} {b:Nat} {s:Mst} {x:Int} (h:Now w W b s) (k:Kept W W') (hf:RdAt W' W.heap.size 0 (Rd.new x)):MR w W' b s W.heap.size (Rd.new x):=by
 obtain ⟨⟨v,h⟩,hk⟩:=h;exact ⟨v,0,h.kept k,hf,hk.size,(fun e=>by cases e),hk.trans k⟩
theorem MR.now {w W:World} {b f:Nat} {s:Mst} {p:Rd} (h:MR w W b s f p):Now w W b s:=by
 obtain ⟨v,g,h1,_,_,_,hk⟩:=h;exact ⟨⟨v,h1⟩,hk⟩
theorem mr_word (w W:World) (b:Nat) (s:Mst) (f:Nat) (p:Rd) (h:MR w W b s f p) (r:Int) (e1:p.w=r):Calls Tryz.prog 32 #[.pointer (some ⟨f,0,none⟩)] W fun e W'=>e=.returned (.int .i64 r)/\W=W':=by
 obtain ⟨_,g,_,h,_⟩:=h;exact rd_word W f g p h r e1
theorem mr_step (w W:World) (b:Nat) (s:Mst) (f:Nat) (p:Rd) (h:MR w W b s f p) (hok:∀ q,p.c=some q->q.Ok) (ho:∀ a,I64 (s.look a)) (p':Rd) (s':Mst) (r:Bool) (e1:p.step s=(p',s')) (e2:p'.d=r) :
  Calls Tryz.prog 30 #[.pointer (some ⟨f,0,none⟩),.pointer (some ⟨b,0,none⟩)] W fun e W'=>e=.returned (.bool r)/\MR w W' b s' f p':=by
 obtain ⟨v,g,hm,hp,hn,hg,hk⟩:=h;refine (rd_step W _ b v f g p s hp hm hok ho p' s' r e1 e2).mono ?_;rintro e W' ⟨rfl,g',h1,h2,h3,h4⟩;refine ⟨rfl,v,g',h2,h1,hn,fun e=>?_,hk.own (fun i hi=>hi.elim (fun e=>e ▸ hn) (fun e=>e.elim (fun e=>e.2 ▸ hg e.1) (fun e=>(hm.lt i e).1))) h4⟩;rcases h3 e with ⟨e1,rfl⟩ | h3
 ·exact hg e1
 ·exact Nat.le_trans hk.size h3
def okB (p:Hp) (s:Mst):Bool:=decide (0<=p.n) && decide (p.n<=7) && decide (0<=p.a) && decide (p.a<=1000000) && decide (0<=p.p) && decide (p.p<=10) && allI s.xs
theorem okB_ok {p:Hp} {s:Mst} (h:okB p s=true):p.Ok/\∀ a,I64 (s.look a):=by
 simp only [okB,Bool.and_eq_true,decide_eq_true_eq] at h;obtain ⟨⟨⟨⟨⟨⟨h1,h2⟩,h3⟩,h4⟩,h5⟩,h6⟩,h7⟩:=h;exact ⟨⟨⟨h1,h2⟩,⟨h3,h4⟩,h5,h6⟩,allI_ok h7⟩
def okR (p:Rd) (s:Mst):Bool:=(match p.c with | none=>true | some q=>okB q s) && allI s.xs
theorem okR_ok {p:Rd} {s:Mst} (h:okR p s=true):(∀ q,p.c=some q->q.Ok)/\∀ a,I64 (s.look a):=by
 simp only [okR,Bool.and_eq_true] at h;refine ⟨fun q hq=>?_,allI_ok h.2⟩
 have:=h.1
 rw [hq] at this;exact (okB_ok this).1
def ir (x:Rd × Mst):Nat->Rd × Mst
 | 0=>x
 | k+1=>(ir x k).1.step (ir x k).2
def irB (x:Rd × Mst) (n:Nat) (l:Bool):Bool:=(List.range n).all fun k=>okR (ir x k).1 (ir x k).2 && ((ir x (k+1)).1.d == (l && k+1 == n))
structure IrOk (x:Rd × Mst) (n:Nat) (l:Bool) (k:Nat):Prop where
 ok:∀ q,(ir x k).1.c=some q->q.Ok
 i64:∀ a,I64 ((ir x k).2.look a)
 d:(ir x (k+1)).1.d=(l && k+1 == n)
theorem ir_ok {x:Rd × Mst} {n:Nat} {l:Bool} (h:irB x n l=true) (k:Nat) (hk:k < n):IrOk x n l k:=by
 have:=List.all_eq_true.1 h k (List.mem_range.2 hk)
 simp only [Bool.and_eq_true,beq_iff_eq] at this;obtain ⟨a,b⟩:=okR_ok this.1;exact ⟨a,b,this.2⟩
theorem ir_step (x:Rd × Mst) (k:Nat):(ir x k).1.step (ir x k).2=((ir x (k+1)).1,(ir x (k+1)).2):=rfl
def kr1:Mst:=⟨[1,0,0,0,0,57,0],20,2,0,0⟩
theorem kr1_is:begun (Mst.new 20)=kr1:=by kernel_rfl
def kr2:Mst:=⟨[1,0,0,0,0,57,0],20,3,0,0⟩
def kr3:Mst:=⟨[1,0,0,0,0,57,0,3,6,57,66,0],20,4,0,0⟩
def krK:Mst:=⟨[1,0,0,0,0,69,0,3,6,57,66,0],20,5,0,0⟩
theorem kr_ok1:irB (Rd.new 6,kr1) 1 true=true:=by kernel_rfl
theorem kr_ok:irB (Rd.new 6,krK) 9 true=true:=by kernel_rfl
set_option maxHeartbeats 2000000 in
theorem known13_c (w:World):Calls Tryz.prog 29 #[] w fun e w'=>e=.returned (.bool true)/\Kept w w':=by
 go_enter Tryz.func29,Tryz.ntmps29;go_wp2_with (fail);refine (now_new w w 20 (Kept.refl w) (by decide) (by decide)).mono ?_;rintro e W1 ⟨rfl,h1,-⟩;have H1:=gh h1;obtain ⟨b,hb⟩:∃ b,w.heap.size=b:=⟨_,rfl⟩;rw [hb] at H1;clear h1;rw [hb];clear hb;go_wp2_with (fail);refine (begin_c w W1 _ _ H1.o rfl (by decide)).mono ?_;rintro e W2 ⟨rfl,h2⟩;have H2:=gh h2;rw [kr1_is] at H2;clear h2 H1;go_wp2_with (fail);refine (rd_new W2 6).mono ?_;rintro e W6 ⟨rfl,p6,k6⟩;obtain ⟨f,hf⟩:∃ f,W2.heap.size=f:=⟨_,rfl⟩;have M6:=gh (H2.o.read k6 p6);rw [hf] at M6;clear p6 k6 H2;rw [hf];clear hf;go_wp2_with (fail);refine (mr_step w W6 b (ir (Rd.new 6,kr1) 0).2 f (ir (Rd.new 6,kr1) 0).1 M6.o (ir_ok kr_ok1 0 (by decide)).ok (ir_ok kr_ok1 0 (by decide)).i64 _ _ true (ir_step _ 0) (by kernel_rfl)).mono ?_;rintro e W7 ⟨rfl,m7⟩;have M7:=gh m7;clear m7 M6;go_wp2_with (fail);refine (mr_word w W7 b _ f _ M7.o 57 (by kernel_rfl)).mono ?_;rintro e W8 ⟨rfl,rfl⟩;have H7:Hid (Now w W7 b kr2):=gh (by have:=M7.o.now;rw [show (ir (Rd.new 6,kr1) (0+1)).2=kr2 by kernel_rfl] at this;exact this);clear M7;go_wp2_with (fail);refine (dcss13 W7 3 6 57 66).mono ?_;intro e W3 hF;obtain ⟨fa,fc,rfl,hr,hc1,hc2,hn,_,hk⟩:=hF.form;have H3:=gh (H7.o.on hk);have HR:=gh hr;have HNB:Hid (∀ ad,fa=some ad->ad.block≠b):=gh (fun ad e=>by have:=hn ad e;have:=H7.o.lt.2;omega);clear hF hr hc1 hc2 hn hk H7;go_wp2_with (fail);refine (now_make w W3 b _ fa [3,6,57,66,0] fc 8 true kr3 H3.o HR.o (by unfold maxLen;decide) (fun _=>HNB.o) (by kernel_rfl) (by kernel_rfl) (by kernel_rfl)).mono ?_;rintro e W4 ⟨rfl,h4⟩;have H4:=gh h4;clear h4 H3 HR HNB;go_wp2_with (fail);refine (now_write w W4 b _ 6 69 krK H4.o (by kernel_rfl)).mono ?_;rintro e W5 ⟨rfl,h5⟩;have H5:=gh h5;clear h5 H4;go_wp2_with (fail);refine (rd_new W5 6).mono ?_;rintro e W6 ⟨rfl,p6,k6⟩;obtain ⟨f,hf⟩:∃ f,W5.heap.size=f:=⟨_,rfl⟩;have M6:=gh (H5.o.read k6 p6);rw [hf] at M6;clear p6 k6 H5;rw [hf];clear hf;go_wp2_with (fail)
 go_loopw [4] (fun vn wr=>∃ k:Nat,k<=8/\vn=.int .i64 ((k:Int)+1)/\Hid (MR w wr b (ir (Rd.new 6,krK) k).2 f (ir (Rd.new 6,krK) k).1)) (fun vn _=>(30 - intOf vn).toNat)
 case atStart=>exact ⟨0,by omega,by simp,M6⟩
 case round=>
  obtain ⟨k,k8,rfl,M7⟩:=hrel;have IK:=gh (ir_ok kr_ok k (by omega));have kk:(k:Int)<=8:=by omega
  have i0:(k:Int)+1 < 30:=by omega
  by_cases hk:k=8
  ·subst hk;clear M6 kk i0 k8;go_wp2_with (fail);refine (mr_step w wr b _ f _ M7.o IK.o.ok IK.o.i64 _ _ true (ir_step _ 8) (by rw [IK.o.d];rfl)).mono ?_;rintro e W8 ⟨rfl,m8⟩;have M8:=gh m8;clear m8 M7;go_wp2_with (fail);refine (mr_word w W8 b _ f _ M8.o 66 (by kernel_rfl)).mono ?_;rintro e W9 ⟨rfl,rfl⟩;go_wp2_with (fail);refine (now_look w W8 b _ 12 1 M8.o.now (by kernel_rfl)).mono ?_;rintro e W9 ⟨rfl,rfl⟩;go_wp2;go_ret;exact ⟨rfl,M8.o.now.2⟩
  ·have i1:(k:Int)+1<=8:=by omega
   clear M6 kk;go_wp2_with (fail);refine (mr_step w wr b _ f _ M7.o IK.o.ok IK.o.i64 _ _ false (ir_step _ k) (by rw [IK.o.d];simp;omega)).mono ?_;rintro e W8 ⟨rfl,m8⟩;have M8:=gh m8;clear m8 M7;go_wp2;exact ⟨⟨k+1,by omega,by simp,M8⟩,by simp only [intOf];omega⟩
end
section
open Go.Shelf
open Sd (Pr)
attribute [local go_sem] field_own
theorem settle_w (q:Lp) (h:q.w=0) (hd:q.settle.done=false):q.settle.w=0:=by
 unfold Lp.settle at hd ⊢
 split
 ·exact h
 ·rename_i n;rw [if_neg n] at hd;cases hd
set_option maxRecDepth 100000 in
set_option maxHeartbeats 4000000 in
theorem readPlays_c (w:World) (cells:Int) (a1:Option Addr) (keys:List Int) (c1:Nat) (a2:Option Addr) (l:List Int) (c2:Nat) (at_:Int) (lay shut:Bool) (a3:Option Addr) (sc:List Int) (c3:Nat) (hr1:Reads w a1 keys) (hc1:keys.length<=c1) (hm1:c1<=maxLen) (hr2:Reads w a2 l) (hc2:l.length<=c2) (hm2:c2<=maxLen) (hi:∀ z ∈ l,I64 z) (hr3:Reads w a3 sc) (hc3:sc.length<=c3) (hi3:∀ z ∈ sc,I64 z) :
  Calls Tryz.prog 6 #[.int .i64 cells,.slice a1 keys.length c1,.slice a2 l.length c2,.int .i64 at_,.bool lay,.bool shut,.slice a3 sc.length c3] w fun e w'=>e=.returned (.bool true)/\Kept w w':=by
 have NW:=ynew_r w cells a1 keys c1 a2 l c2 hr1 hc1 hm1 hr2 hc2 hm2 hi;have HNW:=gh NW;obtain ⟨M3,hM3⟩:∃ M,sc.length=M:=⟨_,rfl⟩;rw [hM3];have HM3:=gh hM3;have HR3:=gh hr3;have HC3:=gh hc3;have HI3:=gh hi3;clear NW hr1 hc1 hm1 hr2 hc2 hm2 hi hM3 hr3 hc3 hi3;go_enter Tryz.func6,Tryz.ntmps6;go_wp2_with (fail);refine HNW.o.mono ?_;rintro e W1 ⟨y,m0,ix0,rfl,hyd,ok0⟩;obtain ⟨b,x,mb,hy⟩:=hyd.sees;have Y0:=gh hy;have O0:=gh ok0;clear hyd ok0 hy HNW
 go_upto_if 26 with (fail)
 go_cut [] (fun wx=>∃ m ix,Hid (Yx NoP w wx y b x mb m ix/\YOk m ix 1680))
 case first=>
  cases lay with
  | false=>
   go_wp2_with (fail)
   go_meet
   exact ⟨m0,ix0,Y0.o,O0.o⟩
  | true=>
   go_wp2_with (fail);refine (lay_x w W1 y b x mb m0 ix0 1680 Y0.o O0.o at_ _).mono ?_;rintro e W2 ⟨r,m1,ix1,rfl,h1,o1⟩;have Y1:=gh h1;have O1:=gh o1;clear h1 o1;go_wp2_with (fail)
   go_meet
   exact ⟨m1,ix1,Y1.o,O1.o⟩
 case rest=>
 obtain ⟨m,ix,hc⟩:=hcut;have Y:=gh hc.o.1;have O:=gh hc.o.2;clear hc Y0 O0;obtain ⟨_,d1,d2⟩:=Y.o.cells;go_wp2_with (fail);refine (slot_d wc mb ix.m Y.o.dm O.o.ok.1 O.o.sound at_).mono ?_;rintro e W2 ⟨⟨nd,s⟩,hp,rfl,k2⟩;dsimp only;have HP:Hid (∃ nd,(nd,s) ∈ ownL ix.m):=gh ⟨_,hp⟩;have Y2:=gh (Y.o.kept k2);clear hp k2 d1 d2 Y;go_wp2_with (fail);refine (rd_new W2 s).mono ?_;rintro e W3 ⟨rfl,h3,k3⟩;obtain ⟨f,hf⟩:∃ f,W2.heap.size=f:=⟨_,rfl⟩;rw [hf] at h3;rw [hf];have NF:Hid (w.heap.size<=f):=gh (by rw [<- hf];exact Y2.o.since.size);have F3:=gh h3;have Y3:=gh (Y2.o.kept k3);clear h3 k3 hf Y2;go_wp2_with (fail);refine (doc_new w W3 y b x mb m ix Y3.o 13 s ⟨.inr (.inr rfl),fun e=>absurd e (by decide)⟩).mono ?_;rintro e W4 ⟨e,rfl,y4,l4,_,k4⟩;have P4:=gh (read_start y4 O.o HP.o (F3.o.turned k4 id (fun _=>id)) NF.o l4);clear y4 l4 k4 F3 Y3 NF;go_wp2_with (fail);refine (known13_c W4).mono ?_;rintro r W5 ⟨rfl,k5⟩;have P5:=gh (P4.o.kept k5 (fun h=>h.kept k5));clear k5 P4;go_wp2_with (fail);refine (same_y w W5 y m ix 1680 P5.o.yx.yd P5.o.ok).mono ?_;rintro r W6 ⟨rfl,k6⟩;have P6:=gh (P5.o.kept k6 (fun h=>h.kept k6));clear k6 P5 O;go_wp2_with (fail)
 go_loopw [19] (fun vi wr=>∃ (i:Nat) (p:Rd) (g:Nat) (A:Pr Int) (m:Mst) (ix:Ixp) (q:Lp) (tp:Sl),vi=.int .i64 (i:Int)/\i<=90/\Hid (q.tape.length<=i/\(q.done=false->q.w=0))/\Hid (Pj (Frd w f g p) w wr y b x mb e m ix (1680+2 * i) A q tp)) (fun vi _=>90 - (intOf vi).toNat)
 case atStart=>exact ⟨0,_,_,_,_,_,_,_,rfl,by omega,gh ⟨by rw [(Lp.settle_play _).2.1];exact Nat.le_refl _,fun h=>settle_w _ rfl h⟩,P6⟩
 case round=>
  obtain ⟨i,p,g,A,m,ix,q,tp,rfl,hi,HB,P⟩:=hrel;clear P6;obtain ⟨⟨d0,d1,d2⟩,d3,d4⟩:=P.o.cells;have PB:=gh (rd_both P.o.fr.2.1 P.o.is);obtain ⟨dn,hdn⟩:∃ dn,q.done=dn:=⟨_,rfl⟩;rw [hdn] at d3;have HD:=gh hdn;clear hdn;have HWW:Hid (p.w=q.w):=gh (by
   cases h:q.done with
   | true=>exact PB.o.2 h
   | false=>rw [HB.o.2 h,P.o.fr.2.2.2.2 (PB.o.1.trans h)])
  have HDD:Hid (p.d=dn):=gh (PB.o.1.trans HD.o);obtain ⟨wd,hwd⟩:∃ wd,q.w=wd:=⟨_,rfl⟩;rw [hwd] at d4 HWW;clear hwd PB;have g2:(dn == dn)=true:=by simp
  have g1:(wd == wd)=true:=by simp
  by_cases hgo:dn=true∨i=90
  ·have x3:∀ u:Wd (Kept wr),u.w.cell? ⟨e,23,none⟩=some (.bool dn):=fun u=>u.ok.cell d3 id;have x4:∀ u:Wd (Kept wr),u.w.cell? ⟨e,24,none⟩=some (.int .i64 wd):=fun u=>u.ok.cell d4 id;have STOP:dn=true∨(dn=false/\¬ ((i:Int) < 90))∨(dn=false/\False):=by
    cases dn with
    | true=>exact .inl rfl
    | false=>exact .inr (.inl ⟨rfl,by rcases hgo with h | h;cases h;omega⟩)
   clear hgo;rcases STOP with hh | ⟨hh,hj⟩ | ⟨_,hh⟩
   ·by_cases hj:(i:Int) < 90
    ·subst hh;go_wp2_with (fail);refine region_quiet (Kept wr) (by kernel_rfl) (by kernel_rfl) (Kept.drew _) (fun _=>?_)
     repeat (go_big_quiet_step (first
      | (go_at_call 31;rename_i u;refine (rd_done u.w f g p (P.o.fr.1.turned u.ok id (fun _=>id)) _ HDD.o).mono ?_;rintro e w' ⟨rfl,rfl⟩;exact ⟨rfl,u,rfl⟩)
      | (go_at_call 32;rename_i u;refine (rd_word u.w f g p (P.o.fr.1.turned u.ok id (fun _=>id)) wd HWW.o).mono ?_;rintro e w' ⟨rfl,rfl⟩;exact ⟨rfl,u,rfl⟩)
      | (go_at_call 15;rename_i u;refine (same_y w u.w y m ix _ (P.o.yx.kept u.ok).yd P.o.ok).mono ?_;rintro e w' ⟨rfl,k⟩;exact ⟨rfl,Wd.mem (u.ok.trans k)⟩)))
     refine wpQuiet_nil ?_;intro u;go_wp2;go_ret;exact ⟨rfl,P.o.yx.since.trans u.ok⟩
    ·subst hh;go_wp2_with (fail);refine region_quiet (Kept wr) (by kernel_rfl) (by kernel_rfl) (Kept.drew _) (fun _=>?_)
     repeat (go_big_quiet_step (first
      | (go_at_call 31;rename_i u;refine (rd_done u.w f g p (P.o.fr.1.turned u.ok id (fun _=>id)) _ HDD.o).mono ?_;rintro e w' ⟨rfl,rfl⟩;exact ⟨rfl,u,rfl⟩)
      | (go_at_call 32;rename_i u;refine (rd_word u.w f g p (P.o.fr.1.turned u.ok id (fun _=>id)) wd HWW.o).mono ?_;rintro e w' ⟨rfl,rfl⟩;exact ⟨rfl,u,rfl⟩)
      | (go_at_call 15;rename_i u;refine (same_y w u.w y m ix _ (P.o.yx.kept u.ok).yd P.o.ok).mono ?_;rintro e w' ⟨rfl,k⟩;exact ⟨rfl,Wd.mem (u.ok.trans k)⟩)))
     refine wpQuiet_nil ?_;intro u;go_wp2;go_ret;exact ⟨rfl,P.o.yx.since.trans u.ok⟩
   ·subst hh;go_wp2_with (fail);refine region_quiet (Kept wr) (by kernel_rfl) (by kernel_rfl) (Kept.drew _) (fun _=>?_)
    repeat (go_big_quiet_step (first
     | (go_at_call 31;rename_i u;refine (rd_done u.w f g p (P.o.fr.1.turned u.ok id (fun _=>id)) _ HDD.o).mono ?_;rintro e w' ⟨rfl,rfl⟩;exact ⟨rfl,u,rfl⟩)
     | (go_at_call 32;rename_i u;refine (rd_word u.w f g p (P.o.fr.1.turned u.ok id (fun _=>id)) wd HWW.o).mono ?_;rintro e w' ⟨rfl,rfl⟩;exact ⟨rfl,u,rfl⟩)
     | (go_at_call 15;rename_i u;refine (same_y w u.w y m ix _ (P.o.yx.kept u.ok).yd P.o.ok).mono ?_;rintro e w' ⟨rfl,k⟩;exact ⟨rfl,Wd.mem (u.ok.trans k)⟩)))
    refine wpQuiet_nil ?_;intro u;go_wp2;go_ret;exact ⟨rfl,P.o.yx.since.trans u.ok⟩
   ·exact hh.elim
  ·obtain ⟨rfl,hi9⟩:dn=false/\i≠90:=by
    cases dn with
    | true=>exact absurd (.inl rfl) hgo
    | false=>exact ⟨rfl,fun e=>hgo (.inr e)⟩
   have i9:i < 90:=by omega
   have j1:(i:Int) < 90:=by omega
   clear hgo hi9
   go_upto_region 12 with (fail)
   go_cut [75] (fun t wx=>∃ r:Bool,t=.bool r/\(r=true->i < M3)/\wx=wr)
   case first=>
    by_cases hs:i < M3
    ·have j2:(i:Int) < (M3:Int):=by omega
     obtain ⟨z,hz⟩:∃ z,sc[i]? = some z:=⟨_,List.getElem?_eq_getElem (by rw [HM3.o];exact hs)⟩;obtain ⟨bl,off,rfl,hbl,hcell0⟩:=HR3.o.at hz;have hcell:=P.o.yx.since.cell hcell0 id;have j3:i < c3:=by have:=HC3.o;have:=HM3.o;omega
     clear hz hcell0 hbl;obtain ⟨rm,hrm⟩:∃ r,z.tmod 2=r:=⟨_,rfl⟩
     by_cases hr:rm=0
     ·subst hr;go_wp2_with (fail)
      go_meet
      exact ⟨true,rfl,fun _=>hs,rfl⟩
     ·have g0:(rm == 0)=false:=by simp [hr]
      clear hr;go_wp2_with (fail)
      go_meet
      exact ⟨false,rfl,(fun e=>by cases e),rfl⟩
    ·have j2:¬ ((i:Int) < (M3:Int)):=by omega
     go_wp2_with (fail)
     go_meet
     exact ⟨false,rfl,(fun e=>by cases e),rfl⟩
   case rest=>
   obtain ⟨rb,rfl,hs,rfl⟩:=hcut
   go_upto_if 75 with (fail)
   go_cut [] (fun wx=>∃ m ix,Hid (Pj (Frd w f g p) w wx y b x mb e m ix (1680+2 * (i+1)) A q tp))
   case first=>
    cases rb with
    | false=>
     go_wp2_with (fail)
     go_meet
     exact ⟨m,ix,P.o.yx,P.o.lr,P.o.fr,P.o.is,P.o.ok.le (by omega),P.o.wx⟩
    | true=>
     have hs:=hs rfl;obtain ⟨z,hz⟩:∃ z,sc[i]? = some z:=⟨_,List.getElem?_eq_getElem (by rw [HM3.o];exact hs)⟩;obtain ⟨bl,off,rfl,hbl,hcell0⟩:=HR3.o.at hz;have hcell:=P.o.yx.since.cell hcell0 id;have j2:(i:Int) < (M3:Int):=by omega
     have j3:i < c3:=by have:=HC3.o;have:=HM3.o;omega
     obtain ⟨n,hn⟩:∃ n,z.tdiv 2=n:=⟨_,rfl⟩;have NI:Hid (I64 n):=gh (by rw [<- hn];exact quo_i64 (HI3.o z (List.mem_of_getElem? hz)) (by decide));have b1:-9223372036854775808<=n/\n<=9223372036854775807:=NI.o;clear hz hcell0 hbl;go_wp2_with (fail)
     try rw [hn]
     refine (pj_pick P.o (fun W' t h=>h.others t) (by omega) n NI.o).mono ?_;rintro r V ⟨rfl,m',ix',P'⟩;have PP:=gh P';clear P';go_wp2_with (fail)
     go_meet
     exact ⟨m',ix',PP.o⟩
   case rest=>
   obtain ⟨m1,ix1,hc⟩:=hcut;have P1:Hid (Pj (Frd w f g p) w wc y b x mb e m1 ix1 (1680+2 * (i+1)) A q tp):=hc;clear hc P d0 d1 d2 d3 d4;obtain ⟨⟨d0,d1,d2⟩,_⟩:=P1.o.cells;have ST:=gh (pj_rd P1.o (HDD.o));obtain ⟨p',hp'⟩:∃ p',(p.step m1).1=p':=⟨_,rfl⟩;obtain ⟨m2,hm2⟩:∃ m2,(p.step m1).2=m2:=⟨_,rfl⟩;rw [hp',hm2] at ST;clear hp' hm2;obtain ⟨r1,hr1⟩:∃ r1,p'.d=r1:=⟨_,rfl⟩;rw [hr1] at ST;have HR1:=gh hr1;clear hr1;go_wp2_with (fail);refine ST.o.mono ?_;rintro r V1 ⟨rfl,A1,g',M1⟩;have HM1:=gh M1;clear M1 ST d0 d1 d2 P1;obtain ⟨d0,d1,d2⟩:=HM1.o.cells;go_wp2_with (fail);refine (pm_doc HM1.o (fun W' t h=>h.others t) (by have:=HB.o.1;omega)).mono ?_;rintro r V2 ⟨ix2,q',tp',rfl,P2,t2,_,tw⟩;have HP2:=gh P2;have ED:Hid (q'.done=r1):=gh ((rd_both P2.fr.2.1 P2.is).1.symm.trans HR1.o);have T2:=gh t2;have TW:=gh tw;obtain ⟨_,d3,_⟩:=P2.cells;rw [ED.o] at d3;clear P2 t2 tw HM1 d0 d1 d2;rw [ED.o];have x3:∀ u:Wd (Kept V2),u.w.cell? ⟨e,23,none⟩=some (.bool r1):=fun u=>u.ok.cell d3 id;have FIN:Hid (∀ V,Kept V2 V->Pj (Frd w f g' p') w V y b x mb e m2 ix2 (1680+2 * (i+1)) A1 q' tp'):=gh (fun V k=>HP2.o.kept k (fun h=>h.kept k));have BD:Hid (q'.tape.length<=i+1/\(q'.done=false->q'.w=0)):=gh ⟨by have:=HB.o.1;have:=T2.o;omega,fun h=>TW.o HD.o (HB.o.2 HD.o) h⟩;cases r1 with
   | false=>
    go_wp2_with (fail);refine region_quiet (Kept V2) (by kernel_rfl) (by kernel_rfl) (Kept.drew _) (fun _=>?_)
    repeat (go_big_quiet_step (first
     | (go_at_call 31;rename_i u;refine (rd_done u.w f g' p' (HP2.o.fr.1.turned u.ok id (fun _=>id)) false HR1.o).mono ?_;rintro e w' ⟨rfl,rfl⟩;exact ⟨rfl,u,rfl⟩)))
    refine wpQuiet_nil ?_;intro u;obtain ⟨V3,hV3⟩:∃ V,u.w=V:=⟨_,rfl⟩;have P3:=gh (FIN.o V3 (by rw [<- hV3];exact u.ok));rw [hV3];clear hV3 u x3 d3 FIN HP2;go_wp2;exact ⟨⟨i+1,p',g',A1,m2,ix2,q',tp',by simp,by omega,BD,P3⟩,by simp only [intOf];omega⟩
   | true=>
    go_wp2_with (fail);refine region_quiet (Kept V2) (by kernel_rfl) (by kernel_rfl) (Kept.drew _) (fun _=>?_)
    repeat (go_big_quiet_step (first
     | (go_at_call 31;rename_i u;refine (rd_done u.w f g' p' (HP2.o.fr.1.turned u.ok id (fun _=>id)) true HR1.o).mono ?_;rintro e w' ⟨rfl,rfl⟩;exact ⟨rfl,u,rfl⟩)))
    refine wpQuiet_nil ?_;intro u;obtain ⟨V3,hV3⟩:∃ V,u.w=V:=⟨_,rfl⟩;have P3:=gh (FIN.o V3 (by rw [<- hV3];exact u.ok));rw [hV3];clear hV3 u x3 d3 FIN HP2;go_wp2;exact ⟨⟨i+1,p',g',A1,m2,ix2,q',tp',by simp,by omega,BD,P3⟩,by simp only [intOf];omega⟩
end
end Go.Proofs.YtoaicedkepcalaaGreat
