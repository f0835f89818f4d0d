/-
  What the proof of YtoaicedkepcalaaGreatReadCleanProof goes by besides: contracts and plain facts. No conditions beyond each theorem's own.
-/
import Derived.Test.YtoaicedkepcalaaGreatZ10
import Derived.Test.YtoaicedkepcalaaGreatRows
import Derived.WalkKit
import Derived.ProofKit
import Derived.OpenShut
import Derived.ShutString
import Derived.Laws.OwnMore
import Derived.BigQuiet
import Derived.Deep.QuietTactic
import Derived.Deep.DeepCutAuto
import Derived.Deep.CutBlock
namespace Go.Proofs.YtoaicedkepcalaaGreat
open Go.RowKit
namespace Rf
open Go.ChangeShapes Go.WideShapes Go.ChangeAt Go.RowKit
theorem of_c (k t:Int) (w:World) :
  Calls Tryz.prog 41 #[.int .i64 k,.int .i64 t] w fun e w'=>e=.returned (.int .i64 (ofZ k t))/\w'=w:=by
 by_cases hm:1<=k/\k<=5/\1<=t/\t<=65536
 ·obtain ⟨c1,c2,c3,c4⟩:=hm;have eo:ofZ k t=8 * t+k:=by simp [ofZ,may,c1,c2,c3,c4]
  rw [eo];clear eo;go_enter Tryz.func41,Tryz.ntmps41;go_wp2;go_ret;exact ⟨rfl,rfl⟩
 ·have eo:ofZ k t=0:=by simp [ofZ,may];omega
  rw [eo];clear eo
  by_cases c1:1<=k
  ·by_cases c2:k<=5
   ·by_cases c3:1<=t
    ·have c4:¬ t<=65536:=by omega
     clear hm;go_enter Tryz.func41,Tryz.ntmps41;go_wp2;go_ret;exact ⟨rfl,rfl⟩
    ·clear hm;go_enter Tryz.func41,Tryz.ntmps41;go_wp2;go_ret;exact ⟨rfl,rfl⟩
   ·clear hm;go_enter Tryz.func41,Tryz.ntmps41;go_wp2;go_ret;exact ⟨rfl,rfl⟩
  ·clear hm;go_enter Tryz.func41,Tryz.ntmps41;go_wp2;go_ret;exact ⟨rfl,rfl⟩
end Rf
section
namespace Mst
theorem touch_look (s:Mst) (a c:Int):(s.touch a).look c=s.look c:=by simp [Mst.look,touch_used,touch_xs]
end Mst
namespace MemAt
variable {T:TypeId} {lay:Value->Int->Int->Int->Int->Array Value} {w w':World} {n₀ b:Nat} {v:Value} {s s':Mst}
end MemAt
end
section
namespace Now
variable {w W W':World} {b:Nat} {s s':Mst}
end Now
theorem now_look (w W:World) (b:Nat) (s:Mst) (a r:Int) (h:Now w W b s) (e1:s.look a=r) :
  Calls Tryz.prog 33 #[.pointer (some ⟨b,0,none⟩),.int .i64 a] W fun e W'=>e=.returned (.int .i64 r)/\W=W':=by
 obtain ⟨⟨v,h⟩,hk⟩:=h;subst e1;exact (look_p W _ b v s a h).mono fun _ _ h=>h
end
section
set_option maxRecDepth 20000
theorem cas_p (w:World) (n₀ b:Nat) (v:Value) (s:Mst) (a old x:Int) (h:PMem w n₀ b v s) :
  Calls Tryz.prog 71 #[.pointer (some ⟨b,0,none⟩),.int .i64 a,.int .i64 old,.int .i64 x] w fun e w'=>e=.returned (.bool (s.did a old))/\PMem w' n₀ b v (s.cas a old x)/\Td (Foot b v) w w':=by
 have hl:=h.len;have H:=gh h;cases hu:s.used a with
 | true=>
  obtain ⟨j,rfl,hj⟩:=Mst.used_nat hu;obtain ⟨g,cap,z,rfl,hz,hc,hf,hgb⟩:=h.cellAt (by decide) hj;rw [Mst.cas,Mst.did_in hz];have HU:=gh hu;have i1:(j:Int) < (s.xs.length:Int):=by omega
  clear hu h hz;cases ho:z == old with
  | true=>
   have ho':(z == old)=true:=ho;go_enter Tryz.func71,Tryz.ntmps71;go_wp2_with (fail);refine (reach_p _ n₀ b _ _ _ true H.o HU.o).mono ?_;rintro e w1 ⟨rfl,h1,t1⟩;have c0:=h1.opened.1.1;have c1:=t1.cell hc hgb;have f1:=(t1.frozen (p:=⟨g,j,none⟩) (World.block_lt_of_cell? _ _ hc) hgb).trans hf;have HP:=gh (put_p hj h1 t1 x);clear h1 t1 hc;go_wp2;go_ret;exact ⟨rfl,HP.o⟩
  | false=>
   go_enter Tryz.func71,Tryz.ntmps71;go_wp2_with (fail);refine (reach_p _ n₀ b _ _ _ true H.o HU.o).mono ?_;rintro e w1 ⟨rfl,h1,t1⟩;have c0:=h1.opened.1.1;have c1:=t1.cell hc hgb;have H1:=gh h1;have T1:=gh (touched_p (v:=(.slice (some ⟨g,0,none⟩) s.xs.length cap)) t1);clear h1 t1 hc;go_wp2;go_ret;exact ⟨rfl,H1.o,T1.o⟩
 | false=>
  rw [Mst.cas,Mst.did_out hu,if_neg (by simp)];have HU:=gh hu;clear hu h;go_enter Tryz.func71,Tryz.ntmps71;go_wp2_with (fail);refine (reach_p _ n₀ b _ _ _ false H.o HU.o).mono ?_;rintro e w1 ⟨rfl,h1,t1⟩;have H1:=gh h1;have T1:=gh (touched_p (v:=v) t1);clear h1 t1;go_wp2;go_ret;exact ⟨rfl,H1.o,T1.o⟩
end
section
set_option maxRecDepth 20000
attribute [local go_sem] Oper.semAt_some
def HpAt (W:World) (f:Nat) (p:Hp):Prop:=W.heap[f]? = some (.cells #[.int .i64 p.n,.int .i64 p.a,.int .i64 p.g,.int .i64 p.o,.int .i64 p.s,.int .i64 p.p,.int .i64 p.w] 120)
theorem HpAt.turned {W W':World} {f:Nat} {p:Hp} {R:Nat->Prop} (h:HpAt W f p) (t:Td R W W') (hR:¬ R f):HpAt W' f p:=t.heap h hR
theorem HpAt.kept {W W':World} {f:Nat} {p:Hp} (h:HpAt W f p) (t:Kept W W'):HpAt W' f p:=t.heap h id
theorem HpAt.cells {W:World} {f:Nat} {p:Hp} (h:HpAt W f p):(W.cell? ⟨f,0,none⟩=some (.int .i64 p.n)/\W.cell? ⟨f,1,none⟩=some (.int .i64 p.a)/\W.cell? ⟨f,2,none⟩=some (.int .i64 p.g)/\W.cell? ⟨f,3,none⟩=some (.int .i64 p.o)/\W.cell? ⟨f,4,none⟩=some (.int .i64 p.s)/\W.cell? ⟨f,5,none⟩=some (.int .i64 p.p)/\W.cell? ⟨f,6,none⟩=some (.int .i64 p.w))/\∀ i,W.frozen? ⟨f,i,none⟩=false:=by
 have hb:W.heap[f]? = _:=h;simp [World.cell?,World.frozen?,hb]
namespace Hp
def new (a:Int):Hp:=⟨0,a,0,0,0,0,0⟩
def step (p:Hp) (m:Mst):Hp × Mst:=
 if p.n=0 then ({ p with g:=m.look p.a,n:=1 },m.touch p.a)
 else if p.n=1 then ({ p with o:=outZ (m.look p.g),n:=2 },m.touch p.g)
 else if p.n=2 then ({ p with n:=3 },m.cas (p.a+4) 0 p.o)
 else if p.n=3 then ({ p with p:=placeZ (m.look (p.a+4)),n:=4 },m.touch (p.a+4))
 else if p.n=4 then ({ p with s:=m.look (p.a+1),n:=5 },m.touch (p.a+1))
 else if p.n=5 then ({ p with w:=m.look (p.a+p.p),n:=6 },m.touch (p.a+p.p))
 else if p.n=6 then ({ p with n:=7 },m.cas p.s (Rf.ofZ 5 p.a) p.w)
 else (p,m)
structure Ok (p:Hp):Prop where
 n:0<=p.n/\p.n<=7
 a:0<=p.a/\p.a<=1000000
 p:0<=p.p/\p.p<=10
end Hp
theorem hp_new (W:World) (a:Int):Calls Tryz.prog 24 #[.int .i64 a] W fun e W'=>e=.returned (.pointer (some ⟨W.heap.size,0,none⟩))/\HpAt W' W.heap.size (Hp.new a)/\Kept W W':=by
 go_enter Tryz.func24,Tryz.ntmps24;go_wp2;go_ret;exact ⟨rfl,heap_new _ _,Td.alloc _ _ _⟩
theorem hp_done (W:World) (f:Nat) (p:Hp) (h:HpAt W f p) (r:Bool) (e1:(p.n == 7)=r):Calls Tryz.prog 27 #[.pointer (some ⟨f,0,none⟩)] W fun e W'=>e=.returned (.bool r)/\W=W':=by
 obtain ⟨⟨c0,_⟩,_⟩:=h.cells;subst e1;clear h;go_enter Tryz.func27,Tryz.ntmps27;go_wp2;go_ret;exact ⟨rfl,rfl⟩
theorem out_q (W:World) (z r:Int) (e1:Hp.outZ z=r):Calls Tryz.prog 72 #[.int .i64 z] W fun e W'=>e=.returned (.int .i64 r)/\W=W':=by
 subst e1;unfold Hp.outZ
 by_cases hz:z=0
 ·rw [if_pos hz];subst hz;go_enter Tryz.func72,Tryz.ntmps72;go_wp2;go_ret;exact ⟨rfl,rfl⟩
 ·rw [if_neg hz];have g:(z == 0)=false:=by simp [hz]
  go_enter Tryz.func72,Tryz.ntmps72;go_wp2;go_ret;exact ⟨rfl,rfl⟩
theorem place_q (W:World) (z r:Int) (e1:Hp.placeZ z=r):Calls Tryz.prog 73 #[.int .i64 z] W fun e W'=>e=.returned (.int .i64 r)/\W=W':=by
 subst e1;unfold Hp.placeZ
 by_cases hz:z=1
 ·rw [if_pos hz];subst hz;go_enter Tryz.func73,Tryz.ntmps73;go_wp2;go_ret;exact ⟨rfl,rfl⟩
 ·rw [if_neg hz];have g:(z == 1)=false:=by simp [hz]
  go_enter Tryz.func73,Tryz.ntmps73;go_wp2;go_ret;exact ⟨rfl,rfl⟩
theorem of_q (W:World) (k a r:Int) (e1:Rf.ofZ k a=r):Calls Tryz.prog 41 #[.int .i64 k,.int .i64 a] W fun e W'=>e=.returned (.int .i64 r)/\W=W':=by
 subst e1;refine (Rf.of_c k a W).mono ?_;rintro e w' ⟨rfl,rfl⟩;exact ⟨rfl,rfl⟩
structure HpRan (W:World) (n₀ b:Nat) (v:Value) (f:Nat) (p:Hp) (m:Mst) (W':World):Prop where
 frame:HpAt W' f p
 mem:PMem W' n₀ b v m
 turned:Td (fun k=>k=f∨Foot b v k) W W'
set_option maxHeartbeats 4000000 in
theorem hp_step (W:World) (n₀ b:Nat) (v:Value) (f:Nat) (p:Hp) (m:Mst) (h:HpAt W f p) (hm:PMem W n₀ b v m) (hok:p.Ok) (ho:∀ a,I64 (m.look a)) (hf:¬ Foot b v f) (p':Hp) (m':Mst) (r:Bool) (e1:p.step m=(p',m')) (e2:(p'.n == 7)=r) :
  Calls Tryz.prog 26 #[.pointer (some ⟨f,0,none⟩),.pointer (some ⟨b,0,none⟩)] W fun e W'=>e=.returned (.bool r)/\HpRan W n₀ b v f p' m' W':=by
 obtain ⟨⟨c0,c1,c2,c3,c4,c5,c6⟩,fz⟩:=h.cells;have H:=gh h;have HM:=gh hm;have HO:=gh ho;have HF:=gh hf;have HR:=gh e2;obtain ⟨⟨n1,n2⟩,⟨a1,a2⟩,p1,p2⟩:=hok;have D0:∀ (q:Bool),(p.n == 7)=q->Calls Tryz.prog 27 #[.pointer (some ⟨f,0,none⟩)] W fun e W'=>e=.returned (.bool q)/\W=W':=fun q hq=>hp_done W f p h q hq;unfold Hp.step at e1;obtain ⟨n,a,g,o,s,q,wd⟩:=p;simp only at c0 c1 c2 c3 c4 c5 c6 e1 n1 n2 a1 a2 p1 p2 D0;obtain rfl | rfl | rfl | rfl | rfl | rfl | rfl | rfl:n=0∨n=1∨n=2∨n=3∨n=4∨n=5∨n=6∨n=7:=by omega
 ·have ne:((0:Int) == 7)=false:=by decide
  simp (config:={ decide:=true }) only [reduceIte] at e1;obtain ⟨z,hz⟩:∃ z,m.look (a)=z:=⟨_,rfl⟩;rw [hz] at e1;obtain ⟨rfl,rfl⟩:=Prod.mk.inj e1;have HZ:=gh hz;obtain ⟨z1,z2⟩:I64 z:=by rw [<- hz];exact ho _
  clear h hm ho hf e1 e2 hz;go_enter Tryz.func26,Tryz.ntmps26;go_wp2_with (fail);refine (D0 false ne).mono ?_;rintro e w' ⟨rfl,rfl⟩;clear D0;go_wp2_with (fail);refine (read_p _ n₀ b v m (a) HM.o).mono ?_;rw [HZ.o];rintro e W1 ⟨rfl,m1,t1⟩;have M1:=gh m1;have T1:Hid (Td (Foot b v) W W1):=gh (t1.mono (fun _ _ e=>.inl e));have F1:=gh (H.o.turned T1.o HF.o);clear m1 t1;obtain ⟨⟨d0,d1,d2,d3,d4,d5,d6⟩,df⟩:=F1.o.cells;have df0:=df 0;have df2:=df 2;simp only at d0 d1 d2 d3 d4 d5 d6;obtain ⟨W2,hW2⟩:∃ W2,(W1.setCell ⟨f,2,none⟩ (.int .i64 z)).setCell ⟨f,0,none⟩ (.int .i64 1)=W2:=⟨_,rfl⟩;have F2:HpAt W2 f ⟨1,a,z,o,s,q,wd⟩:=by
   have hb:W1.heap[f]? = _:=F1.o;rw [<- hW2];simp [HpAt,World.setCell,Array.getElem?_modify,hb]
  have T2:Td (fun k=>k=f) W1 W2:=by
   rw [<- hW2];exact (Td.setCell (R:=fun k=>k=f) _ _ _ rfl).trans (Td.setCell (R:=fun k=>k=f) _ _ _ rfl) (fun _ e=>e) (fun _ _ e=>e)
  have HF2:=gh F2;have HT2:=gh T2;have HW2:=gh hW2;clear F2 T2 hW2 df;go_wp2_with (fail);rw [HW2.o];refine (hp_done W2 f _ HF2.o r (by have:=HR.o;simpa using this)).mono ?_;rintro e W3 ⟨rfl,rfl⟩;go_wp2;go_ret;exact ⟨rfl,HF2.o,M1.o.turned HT2.o (fun k hk e=>HF.o (by rw [<- e];exact hk)),T1.o.trans HT2.o (fun _ e=>.inr e) (fun _ _ e=>.inl e)⟩
 ·have ne:((1:Int) == 7)=false:=by decide
  simp (config:={ decide:=true }) only [reduceIte] at e1;obtain ⟨z,hz⟩:∃ z,m.look (g)=z:=⟨_,rfl⟩;rw [hz] at e1;obtain ⟨rfl,rfl⟩:=Prod.mk.inj e1;have HZ:=gh hz;obtain ⟨z1,z2⟩:I64 z:=by rw [<- hz];exact ho _
  obtain ⟨y,hy⟩:∃ y,Hp.outZ z=y:=⟨_,rfl⟩;have HY:=gh hy;clear h hm ho hf e1 e2 hz hy;go_enter Tryz.func26,Tryz.ntmps26;go_wp2_with (fail);refine (D0 false ne).mono ?_;rintro e w' ⟨rfl,rfl⟩;clear D0;go_wp2_with (fail);refine (read_p _ n₀ b v m (g) HM.o).mono ?_;rw [HZ.o];rintro e W1 ⟨rfl,m1,t1⟩;have M1:=gh m1;have T1:Hid (Td (Foot b v) W W1):=gh (t1.mono (fun _ _ e=>.inl e));have F1:=gh (H.o.turned T1.o HF.o);clear m1 t1;go_wp2_with (fail);refine (out_q _ z y HY.o).mono ?_;rintro e w' ⟨rfl,rfl⟩;obtain ⟨⟨d0,d1,d2,d3,d4,d5,d6⟩,df⟩:=F1.o.cells;have df0:=df 0;have df3:=df 3;simp only at d0 d1 d2 d3 d4 d5 d6;obtain ⟨W2,hW2⟩:∃ W2,(W1.setCell ⟨f,3,none⟩ (.int .i64 y)).setCell ⟨f,0,none⟩ (.int .i64 2)=W2:=⟨_,rfl⟩;have F2:HpAt W2 f ⟨2,a,g,y,s,q,wd⟩:=by
   have hb:W1.heap[f]? = _:=F1.o;rw [<- hW2];simp [HpAt,World.setCell,Array.getElem?_modify,hb]
  have T2:Td (fun k=>k=f) W1 W2:=by
   rw [<- hW2];exact (Td.setCell (R:=fun k=>k=f) _ _ _ rfl).trans (Td.setCell (R:=fun k=>k=f) _ _ _ rfl) (fun _ e=>e) (fun _ _ e=>e)
  have HF2:=gh F2;have HT2:=gh T2;have HW2:=gh hW2;clear F2 T2 hW2 df;go_wp2_with (fail);rw [HW2.o];refine (hp_done W2 f _ HF2.o r (by have:=HR.o;simpa using this)).mono ?_;rintro e W3 ⟨rfl,rfl⟩;go_wp2;go_ret;exact ⟨rfl,by rw [HY.o];exact HF2.o,M1.o.turned HT2.o (fun k hk e=>HF.o (by rw [<- e];exact hk)),T1.o.trans HT2.o (fun _ e=>.inr e) (fun _ _ e=>.inl e)⟩
 ·have ne:((2:Int) == 7)=false:=by decide
  simp (config:={ decide:=true }) only [reduceIte] at e1;obtain ⟨rfl,rfl⟩:=Prod.mk.inj e1;obtain ⟨V,hV⟩:∃ V,W.drew=V:=⟨_,rfl⟩;have kV:Kept W V:=by rw [<- hV];exact Kept.drew _
  obtain ⟨⟨v0,v1,v2,v3,v4,v5,v6⟩,_⟩:=(h.kept kV).cells;have x1:∀ u:Wd (fun U=>Td (Foot b v) V U),u.w.cell? ⟨f,1,none⟩=some (.int .i64 a):=fun u=>u.ok.cell v1 hf;have x3:∀ u:Wd (fun U=>Td (Foot b v) V U),u.w.cell? ⟨f,3,none⟩=some (.int .i64 o):=fun u=>u.ok.cell v3 hf;have HV:=gh hV;have KV:=gh kV;have FV:=gh (h.kept kV);have MV:=gh (hm.kept kV);clear hV kV v0 v1 v2 v3 v4 v5 v6;clear h hm ho hf e1 e2;go_enter Tryz.func26,Tryz.ntmps26;go_wp2_with (fail);refine (D0 false ne).mono ?_;rintro e w' ⟨rfl,rfl⟩;clear D0;go_wp2_with (fail);refine region_wide [0,1,2,3,4,5,6,7,8,9,10] (fun U=>Td (Foot b v) V U) (by kernel_rfl) (by kernel_rfl) (by rw [HV.o];exact Td.refl _ _) (fun _=>?_);rw [HV.o]
  repeat (refine pq rfl rfl ?_;go_big_quiet_step (fail);refine wpQuiet_nil ?_)
  refine pl rfl rfl ?_;gi_wp2_with (fail);refine ⟨trivial,?_⟩;refine (callsIn_wide.2 (cas_p V n₀ b v m (a+4) 0 o MV.o)).mono ?_;rintro e W1 ⟨rfl,m1,t1⟩;have T9:Hid (Td (Foot b v) V W1):=gh (t1);have M1:=gh m1;have T1:Hid (Td (Foot b v) W W1):=gh (KV.o.then T9.o);have F1:=gh (FV.o.turned T9.o HF.o);clear m1 t1;gi_wp2_with (fail);refine ⟨Wd.mem T9.o,?_⟩;refine perm_done ?_;clear x1 x3;obtain ⟨⟨d0,d1,d2,d3,d4,d5,d6⟩,df⟩:=F1.o.cells;have df0:=df 0;simp only at d0 d1 d2 d3 d4 d5 d6;obtain ⟨W2,hW2⟩:∃ W2,W1.setCell ⟨f,0,none⟩ (.int .i64 3)=W2:=⟨_,rfl⟩;have F2:HpAt W2 f ⟨3,a,g,o,s,q,wd⟩:=by
   have hb:W1.heap[f]? = _:=F1.o;rw [<- hW2];simp [HpAt,World.setCell,Array.getElem?_modify,hb]
  have T2:Td (fun k=>k=f) W1 W2:=by
   rw [<- hW2];exact Td.setCell (R:=fun k=>k=f) _ _ _ rfl
  have HF2:=gh F2;have HT2:=gh T2;have HW2:=gh hW2;clear F2 T2 hW2 df;go_wp2_with (fail);rw [HW2.o];refine (hp_done W2 f _ HF2.o r (by have:=HR.o;simpa using this)).mono ?_;rintro e W3 ⟨rfl,rfl⟩;go_wp2;go_ret;exact ⟨rfl,HF2.o,M1.o.turned HT2.o (fun k hk e=>HF.o (by rw [<- e];exact hk)),T1.o.trans HT2.o (fun _ e=>.inr e) (fun _ _ e=>.inl e)⟩
 ·have ne:((3:Int) == 7)=false:=by decide
  simp (config:={ decide:=true }) only [reduceIte] at e1;obtain ⟨z,hz⟩:∃ z,m.look (a+4)=z:=⟨_,rfl⟩;rw [hz] at e1;obtain ⟨rfl,rfl⟩:=Prod.mk.inj e1;have HZ:=gh hz;obtain ⟨z1,z2⟩:I64 z:=by rw [<- hz];exact ho _
  obtain ⟨y,hy⟩:∃ y,Hp.placeZ z=y:=⟨_,rfl⟩;have HY:=gh hy;clear h hm ho hf e1 e2 hz hy;go_enter Tryz.func26,Tryz.ntmps26;go_wp2_with (fail);refine (D0 false ne).mono ?_;rintro e w' ⟨rfl,rfl⟩;clear D0;go_wp2_with (fail);refine (read_p _ n₀ b v m (a+4) HM.o).mono ?_;rw [HZ.o];rintro e W1 ⟨rfl,m1,t1⟩;have M1:=gh m1;have T1:Hid (Td (Foot b v) W W1):=gh (t1.mono (fun _ _ e=>.inl e));have F1:=gh (H.o.turned T1.o HF.o);clear m1 t1;go_wp2_with (fail);refine (place_q _ z y HY.o).mono ?_;rintro e w' ⟨rfl,rfl⟩;obtain ⟨⟨d0,d1,d2,d3,d4,d5,d6⟩,df⟩:=F1.o.cells;have df0:=df 0;have df5:=df 5;simp only at d0 d1 d2 d3 d4 d5 d6;obtain ⟨W2,hW2⟩:∃ W2,(W1.setCell ⟨f,5,none⟩ (.int .i64 y)).setCell ⟨f,0,none⟩ (.int .i64 4)=W2:=⟨_,rfl⟩;have F2:HpAt W2 f ⟨4,a,g,o,s,y,wd⟩:=by
   have hb:W1.heap[f]? = _:=F1.o;rw [<- hW2];simp [HpAt,World.setCell,Array.getElem?_modify,hb]
  have T2:Td (fun k=>k=f) W1 W2:=by
   rw [<- hW2];exact (Td.setCell (R:=fun k=>k=f) _ _ _ rfl).trans (Td.setCell (R:=fun k=>k=f) _ _ _ rfl) (fun _ e=>e) (fun _ _ e=>e)
  have HF2:=gh F2;have HT2:=gh T2;have HW2:=gh hW2;clear F2 T2 hW2 df;go_wp2_with (fail);rw [HW2.o];refine (hp_done W2 f _ HF2.o r (by have:=HR.o;simpa using this)).mono ?_;rintro e W3 ⟨rfl,rfl⟩;go_wp2;go_ret;exact ⟨rfl,by rw [HY.o];exact HF2.o,M1.o.turned HT2.o (fun k hk e=>HF.o (by rw [<- e];exact hk)),T1.o.trans HT2.o (fun _ e=>.inr e) (fun _ _ e=>.inl e)⟩
 ·have ne:((4:Int) == 7)=false:=by decide
  simp (config:={ decide:=true }) only [reduceIte] at e1;obtain ⟨z,hz⟩:∃ z,m.look (a+1)=z:=⟨_,rfl⟩;rw [hz] at e1;obtain ⟨rfl,rfl⟩:=Prod.mk.inj e1;have HZ:=gh hz;obtain ⟨z1,z2⟩:I64 z:=by rw [<- hz];exact ho _
  clear h hm ho hf e1 e2 hz;go_enter Tryz.func26,Tryz.ntmps26;go_wp2_with (fail);refine (D0 false ne).mono ?_;rintro e w' ⟨rfl,rfl⟩;clear D0;go_wp2_with (fail);refine (read_p _ n₀ b v m (a+1) HM.o).mono ?_;rw [HZ.o];rintro e W1 ⟨rfl,m1,t1⟩;have M1:=gh m1;have T1:Hid (Td (Foot b v) W W1):=gh (t1.mono (fun _ _ e=>.inl e));have F1:=gh (H.o.turned T1.o HF.o);clear m1 t1;obtain ⟨⟨d0,d1,d2,d3,d4,d5,d6⟩,df⟩:=F1.o.cells;have df0:=df 0;have df4:=df 4;simp only at d0 d1 d2 d3 d4 d5 d6;obtain ⟨W2,hW2⟩:∃ W2,(W1.setCell ⟨f,4,none⟩ (.int .i64 z)).setCell ⟨f,0,none⟩ (.int .i64 5)=W2:=⟨_,rfl⟩;have F2:HpAt W2 f ⟨5,a,g,o,z,q,wd⟩:=by
   have hb:W1.heap[f]? = _:=F1.o;rw [<- hW2];simp [HpAt,World.setCell,Array.getElem?_modify,hb]
  have T2:Td (fun k=>k=f) W1 W2:=by
   rw [<- hW2];exact (Td.setCell (R:=fun k=>k=f) _ _ _ rfl).trans (Td.setCell (R:=fun k=>k=f) _ _ _ rfl) (fun _ e=>e) (fun _ _ e=>e)
  have HF2:=gh F2;have HT2:=gh T2;have HW2:=gh hW2;clear F2 T2 hW2 df;go_wp2_with (fail);rw [HW2.o];refine (hp_done W2 f _ HF2.o r (by have:=HR.o;simpa using this)).mono ?_;rintro e W3 ⟨rfl,rfl⟩;go_wp2;go_ret;exact ⟨rfl,HF2.o,M1.o.turned HT2.o (fun k hk e=>HF.o (by rw [<- e];exact hk)),T1.o.trans HT2.o (fun _ e=>.inr e) (fun _ _ e=>.inl e)⟩
 ·have ne:((5:Int) == 7)=false:=by decide
  simp (config:={ decide:=true }) only [reduceIte] at e1;obtain ⟨z,hz⟩:∃ z,m.look (a+q)=z:=⟨_,rfl⟩;rw [hz] at e1;obtain ⟨rfl,rfl⟩:=Prod.mk.inj e1;have HZ:=gh hz;obtain ⟨z1,z2⟩:I64 z:=by rw [<- hz];exact ho _
  obtain ⟨V,hV⟩:∃ V,W.drew=V:=⟨_,rfl⟩;have kV:Kept W V:=by rw [<- hV];exact Kept.drew _
  obtain ⟨⟨v0,v1,v2,v3,v4,v5,v6⟩,_⟩:=(h.kept kV).cells;have x1:∀ u:Wd (fun U=>Td (Foot b v) V U),u.w.cell? ⟨f,1,none⟩=some (.int .i64 a):=fun u=>u.ok.cell v1 hf;have x5:∀ u:Wd (fun U=>Td (Foot b v) V U),u.w.cell? ⟨f,5,none⟩=some (.int .i64 q):=fun u=>u.ok.cell v5 hf;have HV:=gh hV;have KV:=gh kV;have FV:=gh (h.kept kV);have MV:=gh (hm.kept kV);clear hV kV v0 v1 v2 v3 v4 v5 v6;clear h hm ho hf e1 e2 hz;go_enter Tryz.func26,Tryz.ntmps26;go_wp2_with (fail);refine (D0 false ne).mono ?_;rintro e w' ⟨rfl,rfl⟩;clear D0;go_wp2_with (fail);refine region_last [0,1,2,3,4,5,6,7,8,9,10,11,12,13] 14 (fun U=>Td (Foot b v) V U) (by kernel_rfl) (by kernel_rfl) (by rw [HV.o];exact Td.refl _ _) (fun _=>?_);rw [HV.o]
  repeat (refine lq rfl rfl ?_;go_big_quiet_step (fail);refine wpQuiet_nil ?_)
  refine ll rfl rfl ?_;gi_wp2_with (fail);refine ⟨trivial,?_⟩;refine (callsIn_wide.2 (read_p V n₀ b v m (a+q) MV.o)).mono ?_;rw [HZ.o];rintro e W1 ⟨rfl,m1,t1⟩;have T9:Hid (Td (Foot b v) V W1):=gh (t1.mono (fun _ _ e=>.inl e));have M1:=gh m1;have T1:Hid (Td (Foot b v) W W1):=gh (KV.o.then T9.o);have F1:=gh (FV.o.turned T9.o HF.o);clear m1 t1;gi_wp2_with (fail);refine ⟨Wd.mem T9.o,?_⟩
  repeat (refine lq rfl rfl ?_;go_big_quiet_step (fail);refine wpQuiet_nil ?_)
  obtain ⟨⟨d0,d1,d2,d3,d4,d5,d6⟩,df⟩:=F1.o.cells;have df0:=df 0;have df6:=df 6;simp only at d0 d1 d2 d3 d4 d5 d6;obtain ⟨W2,hW2⟩:∃ W2,(W1.setCell ⟨f,6,none⟩ (.int .i64 z)).setCell ⟨f,0,none⟩ (.int .i64 6)=W2:=⟨_,rfl⟩;have F2:HpAt W2 f ⟨6,a,g,o,s,q,z⟩:=by
   have hb:W1.heap[f]? = _:=F1.o;rw [<- hW2];simp [HpAt,World.setCell,Array.getElem?_modify,hb]
  have T2:Td (fun k=>k=f) W1 W2:=by
   rw [<- hW2];exact (Td.setCell (R:=fun k=>k=f) _ _ _ rfl).trans (Td.setCell (R:=fun k=>k=f) _ _ _ rfl) (fun _ e=>e) (fun _ _ e=>e)
  have HF2:=gh F2;have HT2:=gh T2;have HW2:=gh hW2;clear F2 T2 hW2 df;clear x1 x5;refine lz rfl ?_;gi_wp2;refine last_done ?_;go_wp2_with (fail);rw [HW2.o];refine (hp_done W2 f _ HF2.o r (by have:=HR.o;simpa using this)).mono ?_;rintro e W3 ⟨rfl,rfl⟩;go_wp2;go_ret;exact ⟨rfl,HF2.o,M1.o.turned HT2.o (fun k hk e=>HF.o (by rw [<- e];exact hk)),T1.o.trans HT2.o (fun _ e=>.inr e) (fun _ _ e=>.inl e)⟩
 ·have ne:((6:Int) == 7)=false:=by decide
  simp (config:={ decide:=true }) only [reduceIte] at e1;obtain ⟨rfl,rfl⟩:=Prod.mk.inj e1;obtain ⟨me,hme⟩:∃ me,Rf.ofZ 5 a=me:=⟨_,rfl⟩;have HME:=gh hme;have CO:∀ X,Calls Tryz.prog 41 #[.int .i64 5,.int .i64 a] X fun e W'=>e=.returned (.int .i64 me)/\X=W':=fun X=>of_q X 5 a me hme;obtain ⟨V,hV⟩:∃ V,W.drew=V:=⟨_,rfl⟩;have kV:Kept W V:=by rw [<- hV];exact Kept.drew _
  obtain ⟨⟨v0,v1,v2,v3,v4,v5,v6⟩,_⟩:=(h.kept kV).cells;have x1:∀ u:Wd (fun U=>Td (Foot b v) V U),u.w.cell? ⟨f,1,none⟩=some (.int .i64 a):=fun u=>u.ok.cell v1 hf;have x4:∀ u:Wd (fun U=>Td (Foot b v) V U),u.w.cell? ⟨f,4,none⟩=some (.int .i64 s):=fun u=>u.ok.cell v4 hf;have x6:∀ u:Wd (fun U=>Td (Foot b v) V U),u.w.cell? ⟨f,6,none⟩=some (.int .i64 wd):=fun u=>u.ok.cell v6 hf;have HV:=gh hV;have KV:=gh kV;have FV:=gh (h.kept kV);have MV:=gh (hm.kept kV);clear hV kV v0 v1 v2 v3 v4 v5 v6;clear h hm ho hf e1 e2 hme;go_enter Tryz.func26,Tryz.ntmps26;go_wp2_with (fail);refine (D0 false ne).mono ?_;rintro e w' ⟨rfl,rfl⟩;clear D0;go_wp2_with (fail);refine region_wide [0,1,2,3,4,5,6,7,8,10,11,12,13,9,14] (fun U=>Td (Foot b v) V U) (by kernel_rfl) (by kernel_rfl) (by rw [HV.o];exact Td.refl _ _) (fun _=>?_);rw [HV.o]
  repeat (refine pq rfl rfl ?_;go_big_quiet_step (fail);refine wpQuiet_nil ?_)
  refine pl rfl rfl ?_;gi_wp2_with (fail);refine ⟨trivial,?_⟩;refine (callsIn_wide.2 (CO V)).mono ?_;rintro e w' ⟨rfl,rfl⟩;gi_wp2_with (fail);refine ⟨Wd.mem (Td.refl _ _),?_⟩;refine pl rfl rfl ?_;gi_wp2_with (fail);refine ⟨trivial,?_⟩;refine (callsIn_wide.2 (cas_p V n₀ b v m s me wd MV.o)).mono ?_;rintro e W1 ⟨rfl,m1,t1⟩;have T9:Hid (Td (Foot b v) V W1):=gh (t1);have M1:=gh m1;have T1:Hid (Td (Foot b v) W W1):=gh (KV.o.then T9.o);have F1:=gh (FV.o.turned T9.o HF.o);clear m1 t1;gi_wp2_with (fail);refine ⟨Wd.mem T9.o,?_⟩;refine perm_done ?_;clear x1 x4 x6;obtain ⟨⟨d0,d1,d2,d3,d4,d5,d6⟩,df⟩:=F1.o.cells;have df0:=df 0;simp only at d0 d1 d2 d3 d4 d5 d6;obtain ⟨W2,hW2⟩:∃ W2,W1.setCell ⟨f,0,none⟩ (.int .i64 7)=W2:=⟨_,rfl⟩;have F2:HpAt W2 f ⟨7,a,g,o,s,q,wd⟩:=by
   have hb:W1.heap[f]? = _:=F1.o;rw [<- hW2];simp [HpAt,World.setCell,Array.getElem?_modify,hb]
  have T2:Td (fun k=>k=f) W1 W2:=by
   rw [<- hW2];exact Td.setCell (R:=fun k=>k=f) _ _ _ rfl
  have HF2:=gh F2;have HT2:=gh T2;have HW2:=gh hW2;clear F2 T2 hW2 df;go_wp2_with (fail);rw [HW2.o];refine (hp_done W2 f _ HF2.o r (by have:=HR.o;simpa using this)).mono ?_;rintro e W3 ⟨rfl,rfl⟩;go_wp2;go_ret;exact ⟨rfl,HF2.o,by rw [HME.o];exact M1.o.turned HT2.o (fun k hk e=>HF.o (by rw [<- e];exact hk)),T1.o.trans HT2.o (fun _ e=>.inr e) (fun _ _ e=>.inl e)⟩
 ·simp (config:={ decide:=true }) only [reduceIte] at e1;obtain ⟨rfl,rfl⟩:=Prod.mk.inj e1;clear h hm ho hf e1 e2;go_enter Tryz.func26,Tryz.ntmps26;go_wp2_with (fail);refine (D0 true rfl).mono ?_;rintro e w' ⟨rfl,rfl⟩;go_wp2_with (fail);refine (D0 r HR.o).mono ?_;rintro e w' ⟨rfl,rfl⟩;go_wp2;go_ret;exact ⟨rfl,H.o,HM.o,Td.refl _ _⟩
end
section
set_option maxRecDepth 20000
attribute [local go_sem] Oper.semAt_some
namespace Rd
def new (s:Int):Rd:=⟨s,none,0,false⟩
def take (p:Rd) (z:Int):Rd:=if kd z=5 then { p with c:=some (Hp.new (ad z)) } else { p with w:=z,d:=true }
def step (p:Rd) (m:Mst):Rd × Mst:=
 if p.d=true then (p,m) else
 match p.c with
 | none=>(p.take (m.look p.s),m.touch p.s)
 | some h=>({ p with c:=if ((h.step m).1.n == 7)=true then none else some (h.step m).1 },(h.step m).2)
end Rd
def RdAt (W:World) (f g:Nat) (p:Rd):Prop:=W.heap[f]? = some (.cells #[.int .i64 p.s,.pointer (if p.c.isSome then some ⟨g,0,none⟩ else none),.int .i64 p.w,.bool p.d] 123)/\∀ h,p.c=some h->HpAt W g h
theorem box4 {W:World} {f:Nat} {a b c d:Value} {T:TypeId} (h:W.heap[f]? = some (.cells #[a,b,c,d] T)):(W.cell? ⟨f,0,none⟩=some a/\W.cell? ⟨f,1,none⟩=some b/\W.cell? ⟨f,2,none⟩=some c/\W.cell? ⟨f,3,none⟩=some d)/\∀ i,W.frozen? ⟨f,i,none⟩=false:=by
 simp [World.cell?,World.frozen?,h]
theorem RdAt.lt {W:World} {f g:Nat} {p:Rd} (h:RdAt W f g p):f < W.heap.size:=(Array.getElem?_eq_some_iff.1 h.1).1
theorem RdAt.turned {W W':World} {f g:Nat} {p:Rd} {R:Nat->Prop} (h:RdAt W f g p) (t:Td R W W') (h1:¬ R f) (h2:p.c.isSome=true->¬ R g):RdAt W' f g p:=
 ⟨t.heap h.1 h1,fun q hq=>(h.2 q hq).turned t (h2 (by rw [hq];rfl))⟩
theorem rd_new (W:World) (s:Int):Calls Tryz.prog 28 #[.int .i64 s] W fun e W'=>e=.returned (.pointer (some ⟨W.heap.size,0,none⟩))/\RdAt W' W.heap.size 0 (Rd.new s)/\Kept W W':=by
 go_enter Tryz.func28,Tryz.ntmps28;go_wp2;go_ret;exact ⟨rfl,⟨heap_new _ _,fun _ e=>by cases e⟩,Td.alloc _ _ _⟩
theorem rd_word (W:World) (f g:Nat) (p:Rd) (h:RdAt W f g p) (r:Int) (e1:p.w=r):Calls Tryz.prog 32 #[.pointer (some ⟨f,0,none⟩)] W fun e W'=>e=.returned (.int .i64 r)/\W=W':=by
 obtain ⟨⟨_,_,c2,_⟩,_⟩:=box4 h.1;subst e1;clear h;go_enter Tryz.func32,Tryz.ntmps32;go_wp2;go_ret;exact ⟨rfl,rfl⟩
theorem rd_take (W:World) (f:Nat) (p:Rd) (h:RdAt W f 0 p) (hc:p.c=none) (hd:p.d=false) (z:Int) (hz:I64 z) (p':Rd) (e1:p.take z=p'):Calls Tryz.prog 75 #[.pointer (some ⟨f,0,none⟩),.int .i64 z] W fun e W'=>e=.returned (.tuple #[])/\∃ g,RdAt W' f g p'/\W.heap.size<=g/\Td (fun k=>k=f) W W':=by
 have H:=gh h;obtain ⟨s,c,w,d⟩:=p;simp only at hc hd;subst hc hd;have hlt:=h.lt;obtain ⟨⟨c0,c1,c2,c3⟩,fz⟩:=box4 h.1;simp only at c0 c2 c3;obtain ⟨k,hk⟩:∃ k,kd z=k:=⟨_,rfl⟩;obtain ⟨a,ha⟩:∃ a,ad z=a:=⟨_,rfl⟩;have K:∀ X,Calls Tryz.prog 35 #[.int .i64 z] X fun e w'=>e=.returned (.int .i64 k)/\X=w':=fun X=>kd_q X z k hz hk;have A:∀ X,Calls Tryz.prog 68 #[.int .i64 z] X fun e w'=>e=.returned (.int .i64 a)/\X=w':=fun X=>ad_q X z a hz ha;unfold Rd.take at e1;rw [hk,ha] at e1;have f1:=fz 1;have f2:=fz 2;have f3:=fz 3;clear fz hk ha h hz
 by_cases h5:k=5
 ·subst h5;rw [if_pos rfl] at e1;subst e1;go_enter Tryz.func75,Tryz.ntmps75;go_wp2_with (fail);refine (K W).mono ?_;rintro e w' ⟨rfl,rfl⟩;go_wp2_with (fail);refine (A W).mono ?_;rintro e w' ⟨rfl,rfl⟩;go_wp2_with (fail);refine (hp_new W a).mono ?_;rintro e W1 ⟨rfl,p1,k1⟩;obtain ⟨⟨d0,d1,d2,d3⟩,df⟩:=box4 (k1.heap H.o.1 id);have df1:=df 1;have K1:=gh k1;have P1:=gh p1;obtain ⟨g,hg⟩:∃ g,W.heap.size=g:=⟨_,rfl⟩;have HG:=gh hg;rw [hg] at P1;clear k1 p1 c0 c1 c2 c3 f1 f2 f3 df;rw [hg];clear hg;go_wp2;refine bodyPost_ret (results_none rfl _ _ _) rfl ?_;refine ⟨rfl,g,⟨?_,?_⟩,Nat.le_of_eq HG.o,K1.o.then (Td.setCell (R:=fun k=>k=f) _ _ _ rfl)⟩
  ·rw [box_set _ (K1.o.heap H.o.1 id)];rfl
  ·intro q hq;cases hq;exact P1.o.turned (Td.setCell (R:=fun k=>k=f) _ _ _ rfl) (by have:=HG.o;omega)
 ·have g5:(k == 5)=false:=by simp [h5]
  rw [if_neg h5] at e1;subst e1;go_enter Tryz.func75,Tryz.ntmps75;go_wp2_with (fail);refine (K W).mono ?_;rintro e w' ⟨rfl,rfl⟩;go_wp2
  go_end0
  refine ⟨rfl,W.heap.size,⟨?_,fun _ e=>by cases e⟩,Nat.le_refl _,(Td.setCell (R:=fun k=>k=f) _ _ _ rfl).trans (Td.setCell (R:=fun k=>k=f) _ _ _ rfl) (fun _ e=>e) (fun _ _ e=>e)⟩;rw [box_set _ (box_set _ H.o.1)];rfl
def RdRan (W:World) (n₀ b:Nat) (v:Value) (f g:Nat) (p p':Rd) (m':Mst) (W':World):Prop:=
 ∃ g',RdAt W' f g' p'/\PMem W' n₀ b v m'/\(p'.c.isSome=true->(p.c.isSome=true/\g'=g)∨W.heap.size<=g')/\Td (fun k=>k=f∨(p.c.isSome=true/\k=g)∨Foot b v k) W W'
theorem RdAt.some {W:World} {f g g':Nat} {p:Rd} (h:RdAt W f g p) (hc:p.c=none):RdAt W f g' p:=by
 obtain ⟨s,c,w,d⟩:=p;subst hc;exact ⟨h.1,fun _ e=>by cases e⟩
set_option maxHeartbeats 1000000 in
theorem rd_step (W:World) (n₀ b:Nat) (v:Value) (f g:Nat) (p:Rd) (m:Mst) (h:RdAt W f g p) (hm:PMem W n₀ b v m) (hok:∀ q,p.c=some q->q.Ok) (ho:∀ a,I64 (m.look a)) (p':Rd) (m':Mst) (r:Bool) (e1:p.step m=(p',m')) (e2:p'.d=r) :
  Calls Tryz.prog 30 #[.pointer (some ⟨f,0,none⟩),.pointer (some ⟨b,0,none⟩)] W fun e W'=>e=.returned (.bool r)/\RdRan W n₀ b v f g p p' m' W':=by
 have H:=gh h;have HM:=gh hm;have HO:=gh ho;have HF:=gh (hm.other h.1 (by decide) (by decide));obtain ⟨s,c,w,d⟩:=p;obtain ⟨⟨c0,c1,c2,c3⟩,fz⟩:=box4 h.1;simp only at c0 c1 c2 c3;unfold Rd.step at e1;simp only at e1;cases d with
 | true=>
  rw [if_pos rfl] at e1;obtain ⟨rfl,rfl⟩:=Prod.mk.inj e1;simp only at e2;subst e2;clear h hm ho hok e1 fz;go_enter Tryz.func30,Tryz.ntmps30;go_wp2;go_ret;exact ⟨rfl,g,H.o,HM.o,fun e=>.inl ⟨e,rfl⟩,Td.refl _ _⟩
 | false=>
  rw [if_neg (by decide)] at e1;cases c with
  | none=>
   simp only at e1;obtain ⟨z,hz⟩:∃ z,m.look s=z:=⟨_,rfl⟩;rw [hz] at e1;obtain ⟨e3,rfl⟩:=Prod.mk.inj e1;have HZ:=gh hz;have hz':I64 z:=by rw [<- hz];exact ho _
   have HI:=gh hz';have HT:=gh e3;have H0:=gh (H.o.some (g':=0) rfl);clear h hm ho hok e1 fz hz hz' e3;simp only [Option.isSome_none,Bool.false_eq_true,if_false] at c1;go_enter Tryz.func30,Tryz.ntmps30;go_wp2_with (fail);refine (read_p W n₀ b v m s HM.o).mono ?_;rw [HZ.o];rintro e W1 ⟨rfl,m1,t1⟩;have M1:=gh m1;have T1:Hid (Td (Foot b v) W W1):=gh (t1.mono (fun _ _ e=>.inl e));have H1:=gh (H0.o.turned T1.o HF.o (fun e=>by cases e));clear m1 t1 c0 c1 c2 c3;go_wp2_with (fail);refine (rd_take W1 f _ H1.o rfl rfl z HI.o p' HT.o).mono ?_;rintro e W2 ⟨rfl,g',h2,l2,t2⟩;obtain ⟨⟨d0,d1,d2,d3⟩,_⟩:=box4 h2.1;rw [e2] at d3;have H2:=gh h2;have T2:=gh t2;have L2:=gh l2;clear h2 t2 l2 e2;go_wp2;go_ret;exact ⟨rfl,g',H2.o,M1.o.turned T2.o (fun k hk e=>HF.o (by rw [<- e];exact hk)),fun _=>.inr (Nat.le_trans T1.o.size L2.o),T1.o.trans T2.o (fun _ e=>.inr (.inr e)) (fun _ _ e=>.inl e)⟩
  | some q=>
   simp only [Option.isSome_some,if_true] at c1;have hq:=h.2 q rfl;have HQ:=gh hq;have HK:=gh (hok q rfl);have HG:=gh (hm.other hq (by decide) (by decide));have hfg:f≠g:=by
    rintro rfl
    have:=h.1.symm.trans hq
    simp at this
   have HFG:=gh hfg;obtain ⟨q',m1,hs⟩:∃ q' m1,q.step m=(q',m1):=⟨_,_,rfl⟩;obtain ⟨u,hu⟩:∃ u,(q'.n == 7)=u:=⟨_,rfl⟩;simp only [hs] at e1;obtain ⟨e3,rfl⟩:=Prod.mk.inj e1;have HS:=gh hs;have HU:=gh hu;rw [hu] at e3;subst e3;simp only at e2;subst e2;clear h hm ho hok e1 fz hq hs hu hfg;go_enter Tryz.func30,Tryz.ntmps30;go_wp2_with (fail);refine (hp_step W n₀ b v g q m HQ.o HM.o HK.o HO.o HG.o q' m1 u HS.o HU.o).mono ?_;rintro e W1 ⟨rfl,R⟩;obtain ⟨r1,r2,r3⟩:=R;have R1:=gh r1;have R2:=gh r2;have R3:=gh r3;have hb:W1.heap[f]? = _:=r3.heap H.o.1 (fun e=>e.elim (fun e=>HFG.o e) HF.o);have HB:=gh hb;obtain ⟨⟨d0,d1,d2,d3⟩,df⟩:=box4 hb;simp only at d0 d1 d2 d3;have df1:=df 1;clear r1 r2 r3 hb df c0 c1 c2 c3;cases u with
   | true=>
    go_wp2;go_ret;refine ⟨rfl,g,⟨?_,fun _ e=>by cases e⟩,R2.o.turned (Td.setCell (R:=fun k=>k=f) _ _ _ rfl) (fun k hk e=>HF.o (by rw [<- e];exact hk)),fun e=>(by cases e),R3.o.trans (Td.setCell (R:=fun k=>k=f) _ _ _ rfl) (fun _ e=>e.elim (fun e=>.inr (.inl ⟨rfl,e⟩)) (fun e=>.inr (.inr e))) (fun _ _ e=>.inl e)⟩;rw [box_set _ HB.o];rfl
   | false=>
    go_wp2;go_ret;refine ⟨rfl,g,⟨HB.o,?_⟩,R2.o,fun _=>.inl ⟨rfl,rfl⟩,R3.o.mono (fun _ _ e=>e.elim (fun e=>.inr (.inl ⟨rfl,e⟩)) (fun e=>.inr (.inr e)))⟩;rintro x e;cases e;exact R1.o
end
section
theorem region_quiet {P:Program} {l:List Oper} {Q:Exit->Act->World->Prop} {id:Nat} {a:Act} {w:World} (S:World->Prop) (hm:P.follows .mixedOrders=true) (hB:Region.lexB .any l.toArray=true) (hS:S w.drew)
  (h:Nonempty (Wd S)->wpQuiet P l.toArray (fun w'=>∃ x:Wd S,w'=x.w) (fun a'=>∀ x:Wd S,Q .normal a' x.w) l a):(Code.region id l.toArray true).wp P Q a w:=by
 refine wp_region_quiet (C:=fun w'=>∃ x:Wd S,w'=x.w) hm hB (Wd.mem hS) ?_
 have:=h ⟨⟨_,hS⟩⟩
 have e:∀ (l:List Oper) (a:Act),wpQuiet P l.toArray (fun w'=>∃ x:Wd S,w'=x.w) (fun a'=>∀ x:Wd S,Q .normal a' x.w) l a->True:=fun _ _ _=>trivial;have q:(fun a'=>∀ x:Wd S,Q .normal a' x.w)=(fun a'=>∀ w',(∃ x:Wd S,w'=x.w)->Q .normal a' w'):=by
  funext a';exact propext ⟨fun h w' ⟨x,e⟩=>by rw [e];exact h x,fun h x=>h _ ⟨x,rfl⟩⟩
 rw [q] at this;simpa using this
end
section
open Go.Shelf
variable {X:Nat->Prop}
set_option maxRecDepth 20000
theorem HpAt.others {W W':World} {f:Nat} {p:Hp} (h:HpAt W f p) (t:Others X W W'):HpAt W' f p:=t _ _ _ h (.inr (by decide)) (by decide)
theorem RdAt.others {W W':World} {f g:Nat} {p:Rd} (h:RdAt W f g p) (t:Others X W W'):RdAt W' f g p:=⟨t _ _ _ h.1 (.inr (by decide)) (by decide),fun q hq=>(h.2 q hq).others t⟩
end
section
open Sd (Pr Fo)
def Goes {α:Type} (T:Pr α) (m:Mst) (T':Pr α) (m':Mst):Prop:=(∃ q k,T=.ask q k/\T'=k (m.doA q).1/\m'=(m.doA q).2)∨((∃ a,T=.ret a)/\T'=T/\m'=m)
theorem doA_same {m d:Mst} (hx:m.xs=d.xs) (hz:m.size=d.size) (q:Ak):(m.doA q).1=(d.doA q).1/\(m.doA q).2.xs=(d.doA q).2.xs/\(m.doA q).2.size=(d.doA q).2.size:=by
 have lk:∀ a,m.look a=d.look a:=look_xs hx;have us:∀ a,m.used a=d.used a:=fun a=>by unfold Mst.used;rw [hx]
 have di:∀ a o,m.did a o=d.did a o:=fun a o=>by unfold Mst.did;rw [us,lk]
 have ft:∀ n,m.fits n=d.fits n:=fun n=>by unfold Mst.fits;rw [hx,hz]
 have tx:∀ a,(m.touch a).xs=(d.touch a).xs:=fun a=>by rw [Mst.touch_xs,Mst.touch_xs,hx]
 have tz:∀ a,(m.touch a).size=(d.touch a).size:=fun a=>by rw [Mst.touch_size,Mst.touch_size,hz]
 have wr:∀ a x,(m.write a x).xs=(d.write a x).xs/\(m.write a x).size=(d.write a x).size:=fun a x=>by
  unfold Mst.write Mst.put;rw [Mst.touch_used,Mst.touch_used,us]
  split
  ·exact ⟨by dsimp only;rw [tx],by dsimp only;rw [tz]⟩
  ·exact ⟨tx a,tz a⟩
 unfold Mst.doA
 split
 ·exact ⟨lk _,tx _,tz _⟩
 split
 ·exact ⟨rfl,wr _ _⟩
 split
 ·dsimp only;rw [di];refine ⟨rfl,?_⟩;unfold Mst.cas;rw [di]
  split
  ·exact wr _ _
  ·exact ⟨tx _,tz _⟩
 split
 ·refine ⟨lk _,?_⟩;unfold Mst.add;rw [lk];exact wr _ _
 split
 ·dsimp only;unfold Mst.next Mst.make;rw [ft]
  split
  ·exact ⟨by rw [hx],by dsimp only;rw [hx],hz⟩
  ·exact ⟨rfl,hx,hz⟩
 ·exact ⟨rfl,hx,hz⟩
namespace Lp
end Lp
section
variable {α:Type}
theorem help_hl (a:Int):Pr.help a=(Pr.read a).bind fun g=>hl1 a g:=by
 unfold Pr.help hl1 hl2 hl3 hl4 hl5 hl6;congr 1;funext g;congr 1;funext gd;show Pr.bind (Pr.cas (a+4) 0 (if gd=0 then 1 else 2)) _=Pr.bind (Pr.cas (a+4) 0 (if gd=0 then 1 else 2)) _;congr 1;funext _;congr 1;funext o;congr 1;funext s;unfold Hp.placeZ
 split <;> rfl
def HpT (p:Hp) (K:Unit->Pr α) (T:Pr α):Prop:=(p.n=0/\T=(Pr.help p.a).bind K)∨(p.n=1/\T=(hl1 p.a p.g).bind K)∨(p.n=2/\T=(hl2 p.a p.o).bind K)∨(p.n=3/\T=(hl3 p.a).bind K)∨(p.n=4/\T=(hl4 p.a p.p).bind K)∨(p.n=5/\T=(hl5 p.a p.s p.p).bind K)∨(p.n=6/\T=(hl6 p.a p.s p.w).bind K)
theorem HpT.step {p:Hp} {K:Unit->Pr α} {T:Pr α} {m:Mst} (h:HpT p K T):∃ q k,T=.ask q k/\(p.step m).2=(m.doA q).2/\(((p.step m).1.n=7/\k (m.doA q).1=K ())∨((p.step m).1.n≠7/\HpT (p.step m).1 K (k (m.doA q).1)))/\(p.step m).1.a=p.a:=by
 have no:∀ {i j:Int},i≠j->p.n=i->¬ p.n=j:=fun h e=>by rw [e];exact h
 rcases h with ⟨e,rfl⟩ | ⟨e,rfl⟩ | ⟨e,rfl⟩ | ⟨e,rfl⟩ | ⟨e,rfl⟩ | ⟨e,rfl⟩ | ⟨e,rfl⟩ <;> unfold Hp.step
 ·rw [if_pos e,help_hl];exact ⟨_,_,rfl,rfl,.inr ⟨(by show (1:Int)≠7;decide),.inr (.inl ⟨rfl,rfl⟩)⟩,rfl⟩
 ·rw [if_neg (no (by decide) e),if_pos e];exact ⟨_,_,rfl,rfl,.inr ⟨(by show (2:Int)≠7;decide),.inr (.inr (.inl ⟨rfl,rfl⟩))⟩,rfl⟩
 ·rw [if_neg (no (by decide) e),if_neg (no (by decide) e),if_pos e];exact ⟨_,_,rfl,rfl,.inr ⟨(by show (3:Int)≠7;decide),.inr (.inr (.inr (.inl ⟨rfl,rfl⟩)))⟩,rfl⟩
 ·rw [if_neg (no (by decide) e),if_neg (no (by decide) e),if_neg (no (by decide) e),if_pos e];exact ⟨_,_,rfl,rfl,.inr ⟨(by show (4:Int)≠7;decide),.inr (.inr (.inr (.inr (.inl ⟨rfl,rfl⟩))))⟩,rfl⟩
 ·rw [if_neg (no (by decide) e),if_neg (no (by decide) e),if_neg (no (by decide) e),if_neg (no (by decide) e),if_pos e];exact ⟨_,_,rfl,rfl,.inr ⟨(by show (5:Int)≠7;decide),.inr (.inr (.inr (.inr (.inr (.inl ⟨rfl,rfl⟩)))))⟩,rfl⟩
 ·rw [if_neg (no (by decide) e),if_neg (no (by decide) e),if_neg (no (by decide) e),if_neg (no (by decide) e),if_neg (no (by decide) e),if_pos e];exact ⟨_,_,rfl,rfl,.inr ⟨(by show (6:Int)≠7;decide),.inr (.inr (.inr (.inr (.inr (.inr ⟨rfl,rfl⟩)))))⟩,rfl⟩
 ·rw [if_neg (no (by decide) e),if_neg (no (by decide) e),if_neg (no (by decide) e),if_neg (no (by decide) e),if_neg (no (by decide) e),if_neg (no (by decide) e),if_pos e];exact ⟨_,_,rfl,rfl,.inl ⟨rfl,rfl⟩,rfl⟩
end
theorem Hp.Ok.step {p:Hp} (h:p.Ok) (m:Mst):(p.step m).1.Ok:=by
 obtain ⟨⟨n1,n2⟩,h2,h3⟩:=h;have pz:∀ z,0<=placeZ z/\placeZ z<=10:=fun z=>by unfold placeZ;split <;> omega
 have no:∀ {i j:Int},i≠j->p.n=i->¬ p.n=j:=fun h e=>by rw [e];exact h
 unfold Hp.step;rcases (by omega:p.n=0∨p.n=1∨p.n=2∨p.n=3∨p.n=4∨p.n=5∨p.n=6∨p.n=7) with e | e | e | e | e | e | e | e
 ·rw [if_pos e];exact ⟨⟨by show (0:Int)<=1;decide,by show (1:Int)<=7;decide⟩,h2,h3⟩
 ·rw [if_neg (no (by decide) e),if_pos e];exact ⟨⟨by show (0:Int)<=2;decide,by show (2:Int)<=7;decide⟩,h2,h3⟩
 ·rw [if_neg (no (by decide) e),if_neg (no (by decide) e),if_pos e];exact ⟨⟨by show (0:Int)<=3;decide,by show (3:Int)<=7;decide⟩,h2,h3⟩
 ·rw [if_neg (no (by decide) e),if_neg (no (by decide) e),if_neg (no (by decide) e),if_pos e];exact ⟨⟨by show (0:Int)<=4;decide,by show (4:Int)<=7;decide⟩,h2,pz _⟩
 ·rw [if_neg (no (by decide) e),if_neg (no (by decide) e),if_neg (no (by decide) e),if_neg (no (by decide) e),if_pos e];exact ⟨⟨by show (0:Int)<=5;decide,by show (5:Int)<=7;decide⟩,h2,h3⟩
 ·rw [if_neg (no (by decide) e),if_neg (no (by decide) e),if_neg (no (by decide) e),if_neg (no (by decide) e),if_neg (no (by decide) e),if_pos e];exact ⟨⟨by show (0:Int)<=6;decide,by show (6:Int)<=7;decide⟩,h2,h3⟩
 ·rw [if_neg (no (by decide) e),if_neg (no (by decide) e),if_neg (no (by decide) e),if_neg (no (by decide) e),if_neg (no (by decide) e),if_neg (no (by decide) e),if_pos e];exact ⟨⟨by show (0:Int)<=7;decide,by show (7:Int)<=7;decide⟩,h2,h3⟩
 ·rw [if_neg (no (by decide) e),if_neg (no (by decide) e),if_neg (no (by decide) e),if_neg (no (by decide) e),if_neg (no (by decide) e),if_neg (no (by decide) e),if_neg (no (by decide) e)];exact ⟨⟨n1,n2⟩,h2,h3⟩
def RdT (p:Rd) (T:Pr Int):Prop:=(p.d=true/\T=.ret p.w)∨(p.d=false/\((p.c=none/\∃ n,T=(Pr.read p.s).bind fun z=>Pr.slotL n p.s z)∨(∃ h n,p.c=some h/\h.Ok/\HpT h (fun _=>(Pr.read p.s).bind fun z=>Pr.slotL n p.s z) T)))
theorem RdT.ok {p:Rd} {T:Pr Int} (h:RdT p T):∀ q,p.c=some q->p.d=false->q.Ok:=by
 intro q hq hd;rcases h with ⟨h,_⟩ | ⟨h,⟨e,_⟩ | ⟨q',n,e,ok,_⟩⟩
 ·rw [hd] at h;cases h
 ·rw [e] at hq;cases hq
 ·rw [e] at hq;cases hq;exact ok
end
section
open Go.Shelf
open Sd (Pr)
variable {X Z:Nat->Prop}
set_option maxRecDepth 20000
def WX (i:Nat) (A:Pr Int) (j:Nat) (B:Pr Int) (ix:Ixp):Prop:=∃ g:Sd.Gh,Sd.Inv ix.m g/\(∀ t q,ix.ts[t]? = some q->Sd.TOk t q ix.m g)/\Sd.Safe i A (fun _ _ _=>True) ix.m g/\Sd.Safe j B (fun _ _ _=>True) ix.m g
theorem WX.wi {i j:Nat} {A B:Pr Int} {ix:Ixp} (h:WX i A j B ix):Sd.WI ix:=by
 obtain ⟨g,h1,h2,_⟩:=h;exact ⟨g,h1,h2⟩
theorem wx_goes {i j:Nat} {A A' B:Pr Int} {ix:Ixp} {d:Mst} (h:WX i A j B ix) (hij:i≠j) (hi:ix.ts.length<=i) (G:Goes A ix.m A' d):WX i A' j B { ix with m:=d }/\d.ok/\(7<=ix.m.xs.length->7<=d.xs.length):=by
 obtain ⟨g,hI,hT,hA,hB⟩:=h;rcases G with ⟨q,k,rfl,rfl,rfl⟩ | ⟨_,rfl,rfl⟩
 ·obtain ⟨g2,G2,hs⟩:=hA ix.m g (Sd.Rl.refl hI);refine ⟨⟨g2,G2.inv,fun t p hp p' hp'=>(hT t p hp p' hp').rl (G2.rl ?_),hs,hB.rl (G2.rl hij)⟩,G2.inv.ok,fun h7=>?_⟩
  ·have h1:t < ix.ts.length:=(List.getElem?_eq_some_iff.1 hp).1;omega
  ·have:=G2.ex.len 7 (by unfold Mst.used;simp;omega)
   unfold Mst.used at this;simp at this;omega
 ·exact ⟨⟨g,hI,hT,hA,hB⟩,hI.ok,id⟩
theorem wx_pick {i j:Nat} {A B:Pr Int} {ix:Ixp} {c:Nat} (h:WX i A j B ix) (hi:ix.ts.length<=i) (hj:ix.ts.length<=j) (hg:ix.Gd c) (hc:c<=50000) (t:Nat):WX i A j B (ix.pickZ t).2:=by
 obtain ⟨g,hI,hT,hA,hB⟩:=h;unfold Ixp.pickZ
 split
 ·exact ⟨g,hI,hT,hA,hB⟩
 rename_i q hq;have tl:t < ix.ts.length:=(List.getElem?_eq_some_iff.1 hq).1
 split
 ·exact ⟨g,hI,hT,hA,hB⟩
 rename_i p hp
 split
 ·obtain ⟨g2,G,hF⟩:=Sd.frame_step hI (hT t q hq p hp) (Nat.le_trans (hg.tape t q p hq hp) hc);dsimp only;have em:(q.step p ix.m).2.2=(p.step ix.m).2:=by unfold Tp.step;split <;> rfl
  have ef:(q.step p ix.m).2.1.fr=some (p.step ix.m).1:=by unfold Tp.step;split <;> rfl
  have km:∀ (c i:Nat) (ix:Ixp),(Ixp.takesL c i ix).m=ix.m:=fun c=>by
   induction c with
   | zero=>intro i ix;rfl
   | succ c ih=>
    intro i ix;rw [Ixp.takesL,ih];unfold Ixp.takes1
    split
    ·split <;> rfl
    ·rfl
  refine ⟨g2,?_,fun i q' hq' p' hp'=>?_,?_,?_⟩
  ·show Sd.Inv (Ixp.takesL _ _ _).m g2;rw [km];show Sd.Inv (q.step p ix.m).2.2 g2;rw [em];exact G.inv
  ·show Sd.FOk i p' (Ixp.takesL _ _ _).m g2;rw [km];show Sd.FOk i p' (q.step p ix.m).2.2 g2;rw [em];obtain ⟨q1,h1,h2,_⟩:=Ixp.takesL_ts _ _ _ i q' hq';have h1':(ix.ts.set t (q.step p ix.m).2.1)[i]? = some q1:=h1;rw [List.getElem?_set] at h1'
   split at h1'
   ·rename_i e;cases h1';rw [h2,ef] at hp';cases hp';rw [<- e];exact hF
   ·rename_i e;rw [h2] at hp';exact (hT i q1 h1' p' hp').rl (G.rl e)
  ·show Sd.Safe i A _ (Ixp.takesL _ _ _).m g2;rw [km];show Sd.Safe i A _ (q.step p ix.m).2.2 g2;rw [em];exact hA.rl (G.rl (by omega))
  ·show Sd.Safe j B _ (Ixp.takesL _ _ _).m g2;rw [km];show Sd.Safe j B _ (q.step p ix.m).2.2 g2;rw [em];exact hB.rl (G.rl (by omega))
 ·exact ⟨g,hI,hT,hA,hB⟩
theorem wx_invoke {i j:Nat} {A B:Pr Int} {ix:Ixp} (h:WX i A j B ix) (t:Nat) {k key val:Int} (ik:I64 key) (iv:I64 val):WX i A j B (ix.invokeZ t k key val):=by
 have w:=h.wi;obtain ⟨g,hI,hT,hA,hB⟩:=h;have em:=Ixp.invokeZ_m ix t k key val;have key:∀ g0,(Sd.Inv ix.m g0/\∀ t q,ix.ts[t]? = some q->Sd.TOk t q ix.m g0)->Sd.Inv (ix.invokeZ t k key val).m g0/\∀ t' q,(ix.invokeZ t k key val).ts[t']? = some q->Sd.TOk t' q (ix.invokeZ t k key val).m g0:=by
  rintro g0 ⟨h1,h2⟩;rw [em];refine ⟨h1,?_⟩;unfold Ixp.invokeZ
  split
  ·exact h2
  rename_i q hq
  split
  ·exact h2
  intro i q' hq' p' hp';have hq2:(ix.ts.set t { q.begin k key val with no:=ix.inv })[i]? = some q':=hq';rw [List.getElem?_set] at hq2
  split at hq2
  ·split at hq2
   ·cases hq2;have e:(some (Fp.make k key val q.bud).settle:Option Fp)=some p':=hp';cases e;obtain ⟨ps1,ps2,ps3,ps4,ps5⟩:=Sd.play_settle (Fp.make k key val q.bud);refine ⟨by rw [ps4];exact ik,by rw [ps5];exact iv,fun d=>⟨by rw [ps1];exact Sd.done_settle d,fun _=>?_⟩⟩;rw [ps2,ps3,ps4,ps5];show Sd.Safe i ((Pr.change Sd.N0 k key val Sd.N0).res []) _ _ _;rw [Sd.res_nil];exact Sd.Safe.mono (fun _ _ _ _=>trivial) (Sd.change_safe Sd.N0 (by unfold Sd.N0;omega) ik iv Sd.N0 ix.m g0 h1)
   ·cases hq2
  ·exact h2 i q' hq2 p' hp'
 obtain ⟨k1,k2⟩:=key g ⟨hI,hT⟩;exact ⟨g,k1,k2,by rw [em];exact hA,by rw [em];exact hB⟩
theorem wx_pickY {i j:Nat} {A B:Pr Int} {m:Mst} {ix:Ixp} {c:Nat} (h:WX i A j B ix) (o:YOk m ix c) (hi:3<=i) (hj:3<=j) (hc:c<=6000) (n:Int):WX i A j B (pickY ix n):=by
 have ob:=op_bounds (n.tdiv 3);have w1:=wx_invoke h (n % (ix.ts.length:Int)).toNat (k:=opK (n.tdiv 3)) (key:=opKey (n.tdiv 3)) (val:=opVal (n.tdiv 3)) ⟨by omega,by omega⟩ ⟨by omega,by omega⟩;have g1:=Ixp.invokeZ_gd o.gd (n % (ix.ts.length:Int)).toNat (opK (n.tdiv 3)) (opKey (n.tdiv 3)) (opVal (n.tdiv 3));have hl:=o.len;exact wx_pick w1 (by rw [invokeZ_ts];omega) (by rw [invokeZ_ts];omega) g1 (by omega) _
theorem YOk.goes {m m':Mst} {ix:Ixp} {d:Mst} {c i j:Nat} {A' B:Pr Int} (o:YOk m ix c) (h:WX i A' j B { ix with m:=d }) (h7:7<=d.xs.length) (hx:m'.xs=d.xs) (hz:m'.size=d.size):YOk m' { ix with m:=d } c:=
 ⟨hx,hz,h.wi,⟨o.gd.ts,o.gd.tape,o.gd.bud,o.gd.log⟩,o.len,h7⟩
theorem rd_y (w W:World) (y b x mb:Nat) (m:Mst) (ix:Ixp) (f g:Nat) (p:Rd) (h:Yx X w W y b x mb m ix) (ho:m.ok) (hf:RdAt W f g p) (hok:∀ q,p.c=some q->q.Ok) (hn:w.heap.size<=f) (hg:p.c.isSome=true->w.heap.size<=g) :
  Calls Tryz.prog 30 #[.pointer (some ⟨f,0,none⟩),.pointer (some ⟨b,0,none⟩)] W fun e W'=>e=.returned (.bool (p.step m).1.d)/\∃ g',Yx X w W' y b x mb (p.step m).2 ix/\RdAt W' f g' (p.step m).1/\((p.step m).1.c.isSome=true->w.heap.size<=g')/\But X (fun k=>k=f∨(p.c.isSome=true/\k=g)) W W':=by
 obtain ⟨tb,v,mv,tv,lv,pz,h1,h2⟩:=h;refine (rd_step W _ b v f g p m hf h1.pm hok (fun a=>ho.look a) (p.step m).1 (p.step m).2 _ rfl rfl).mono ?_;rintro e W' ⟨rfl,g',r1,r2,r3,r4⟩;have t:Td (fun k=>(k=f∨(p.c.isSome=true/\k=g))∨Foot b v k) W W':=r4.mono (fun k _ e=>by
  rcases e with e | e | e
  ·exact .inl (.inl e)
  ·exact .inl (.inr e)
  ·exact .inr e)
 refine ⟨rfl,g',⟨tb,v,mv,tv,lv,pz,h1.prog t (fun k hk=>?_) r2 (fun k hk=>.inl hk),h2.own (fun k hk=>?_) t⟩,r1,fun hc=>?_,But.of h1 t⟩
 ·rcases hk with (rfl | ⟨hc,rfl⟩) | hk
  ·exact .inr ⟨_,_,hf.1,by decide,by decide⟩
  ·obtain ⟨q,hq⟩:=Option.isSome_iff_exists.1 hc;exact .inr ⟨_,_,hf.2 q hq,by decide,by decide⟩
  ·exact .inl hk
 ·rcases hk with (rfl | ⟨hc,rfl⟩) | hk
  ·exact hn
  ·exact hg hc
  ·exact (h1.pm.lt k hk).1
 ·rcases r3 hc with ⟨h3,h4⟩ | h3
  ·rw [h4];exact hg h3
  ·exact Nat.le_trans h2.size h3
end
section
open Go.Shelf
open Sd (Pr)
variable {X X' Z:Nat->Prop}
set_option maxRecDepth 20000
theorem rd_done (W:World) (f g:Nat) (p:Rd) (h:RdAt W f g p) (r:Bool) (e1:p.d=r):Calls Tryz.prog 31 #[.pointer (some ⟨f,0,none⟩)] W fun e W'=>e=.returned (.bool r)/\W=W':=by
 obtain ⟨⟨_,_,_,c3⟩,_⟩:=box4 h.1;subst e1;clear h;go_enter Tryz.func31,Tryz.ntmps31;go_wp2;go_ret;exact ⟨rfl,rfl⟩
section
variable {w W W':World} {y b x mb:Nat} {m m1:Mst} {ix:Ixp} {c i f e:Nat} {p:Hp} {q:Lp} {tp:Sl} {A A1:Pr Int} {j f' e':Nat} {p':Hp} {q':Lp} {tp':Sl} {A':Pr Int}
end
end
section
open Go.Shelf
attribute [local go_sem] Oper.semAt_some
set_option maxRecDepth 100000 in
set_option maxHeartbeats 4000000 in
theorem back_r (W:World) (n₀ n₁ b y x mb:Nat) (v mv:Value) (m d:Mst) (hm:PMem W n₁ b v m) (hd:DMem W n₀ mb mv d) (hbox:W.heap[y]? = some (.cells #[.pointer (some ⟨b,0,none⟩),.pointer (some ⟨x,0,none⟩)] 39)) (hix:W.cell? ⟨x,3,none⟩=some (.pointer (some ⟨mb,0,none⟩))) (hap:¬ Foot mb mv y/\¬ Foot mb mv x) (hl:m.xs.length=d.xs.length) (hb:m.xs.length<=65536) :
  Calls Tryz.prog 34 #[.pointer (some ⟨y,0,none⟩)] W fun e W'=>e=.returned (.tuple #[])/\∃ d',DMem W' n₀ mb mv d'/\Td (Foot mb mv) W W'/\d'.xs=m.xs/\d'.size=d.size:=by
 obtain ⟨N,hN⟩:∃ N,m.xs.length=N:=⟨_,rfl⟩;have c0:W.cell? ⟨y,0,none⟩=some (.pointer (some ⟨b,0,none⟩)):=by simp [World.cell?,hbox]
 have CC:=gh (cells_c W n₁ b v m hm);have HD:=gh hd;have HB:=gh hbox;have HX:=gh hix;have HA:=gh hap;have HN:=gh hN;have HL:Hid (d.xs.length=N):=gh (by rw [<- hl,hN]);have NB:Hid (N<=65536):=gh (hN ▸ hb);clear hm hd hbox hix hap hN hl hb;go_enter Tryz.func34,Tryz.ntmps34;go_wp2_with (fail);refine CC.o.mono ?_;rintro e W1 ⟨cv,rfl,hrow,hk⟩;obtain ⟨ac,cc,rfl,_,hcc,hcm,_⟩:=hrow.reads;rw [HN.o] at hcc;have ROW:=gh hrow;have K1:=gh hk;have CCN:=gh hcc;clear hrow hk hcc hcm CC c0;rw [HN.o];go_wp2_with (fail)
 go_loopw [3] (fun vi wr=>∃ (i:Nat) (di:Mst),vi=.int .i64 (i:Int)/\i<=N/\Hid (DMem wr n₀ mb mv di/\di.xs=m.xs.take i++d.xs.drop i/\di.size=d.size)/\Hid (Td (Foot mb mv) W wr)/\Hid (Row wr W.heap.size 2 (.slice ac m.xs.length cc) m.xs)) (fun vi _=>N - (intOf vi).toNat)
 case atStart=>exact ⟨0,d,rfl,Nat.zero_le _,gh ⟨HD.o.kept K1.o,by simp,rfl⟩,gh (K1.o.mono (fun _ _ e=>e.elim)),ROW⟩
 case round=>
  obtain ⟨i,di,rfl,hi,D,T,R⟩:=hrel;clear ROW;have LEN:Hid (di.xs.length=N):=gh (by rw [D.o.2.1,List.length_append,List.length_take,List.length_drop,HN.o,HL.o];omega);have by_:=T.o.heap HB.o HA.o.1;have c1:wr.cell? ⟨y,1,none⟩=some (.pointer (some ⟨x,0,none⟩)):=by simp [World.cell?,by_]
  have c2:=T.o.cell HX.o HA.o.2;obtain ⟨a0,cap,hmv,hrd,hcap,_⟩:=D.o.1.form;have c3:=D.o.1.opened.1.1;rw [hmv,LEN.o] at c3;rw [LEN.o] at hcap;clear by_ hmv;have tN:N<=65536:=NB.o
  by_cases hiN:i < N
  ·have j1:(i:Int) < (N:Int):=by omega
   obtain ⟨z,hz⟩:∃ z,m.xs[i]? = some z:=⟨_,List.getElem?_eq_getElem (by rw [HN.o];exact hiN)⟩;obtain ⟨o,ho⟩:∃ o,d.xs[i]? = some o:=⟨_,List.getElem?_eq_getElem (by rw [HL.o];exact hiN)⟩;obtain ⟨ac',cc',he,hrc,_,_,_⟩:=R.o.reads;obtain ⟨rfl,rfl⟩:ac=ac'/\cc=cc':=by
    simp only [Value.slice.injEq] at he;exact ⟨he.1,he.2.2⟩
   obtain ⟨bl,off,rfl,_,c4⟩:=hrc.at hz;obtain ⟨bl2,off2,rfl,_,c5⟩:=hrd.at (show di.xs[i]? = some o by rw [D.o.2.1,mid_at (by rw [HN.o];omega)];exact ho);have wi:wrap64 ((i:Int)+1)=(i:Int)+1:=by unfold wrap64;omega
   have WI:=gh wi;have i0:decide ((i:Int) < 0)=false:=by simp
   have i1:decide ((N:Int)<=(i:Int))=false:=by simp;omega
   have q1:i < cc:=by have:=CCN.o;omega
   have q2:i < cap:=by omega
   have HZ:=gh hz;have HO:=gh ho;have x1:∀ u:Wd (Kept wr),u.w.cell? ⟨y,1,none⟩=some (.pointer (some ⟨x,0,none⟩)):=fun u=>u.ok.cell c1 id;have x2:∀ u:Wd (Kept wr),u.w.cell? ⟨x,3,none⟩=some (.pointer (some ⟨mb,0,none⟩)):=fun u=>u.ok.cell c2 id;have x3:∀ u:Wd (Kept wr),u.w.cell? ⟨mb,1,none⟩=some (.slice (some ⟨bl2,off2,none⟩) N cap):=fun u=>u.ok.cell c3 id;have x4:∀ u:Wd (Kept wr),u.w.cell? ⟨bl,off+i,none⟩=some (.int .i64 z):=fun u=>u.ok.cell c4 id;have x5:∀ u:Wd (Kept wr),u.w.cell? ⟨bl2,off2+i,none⟩=some (.int .i64 o):=fun u=>u.ok.cell c5 id;clear hz ho hrc hrd he;go_wp2_with (fail);refine region_quiet (Kept wr) (by kernel_rfl) (by kernel_rfl) (Kept.drew _) (fun _=>?_)
   repeat (go_big_quiet_step (fail))
   refine wpQuiet_nil ?_;intro u
   by_cases hoz:o=z
   ·have g1:(o != z)=false:=by simp [hoz]
    have HOZ:=gh hoz;clear hoz;have KU:=gh u.ok;obtain ⟨V,hV⟩:∃ V,u.w=V:=⟨_,rfl⟩;rw [hV] at KU;rw [hV];clear hV x1 x2 x3 x4 x5 u;go_wp2;clear wi
    try rw [WI.o]
    refine ⟨⟨i+1,di,by simp,by omega,gh ⟨D.o.1.kept KU.o,by rw [D.o.2.1];exact take_drop_same HZ.o (by rw [<- HOZ.o];exact HO.o),D.o.2.2⟩,gh (Kept.behind T.o KU.o),gh (R.o.kept KU.o)⟩,?_⟩;simp only [intOf];omega
   ·have g1:(o != z)=true:=by simp [hoz]
    clear hoz;obtain ⟨V2,hV2⟩:∃ V2,u.w.drew=V2:=⟨_,rfl⟩;have kV2:Kept wr V2:=by rw [<- hV2];exact u.ok.trans (Kept.drew _)
    have y1:∀ u:Wd (fun U=>U=V2),u.w.cell? ⟨y,1,none⟩=some (.pointer (some ⟨x,0,none⟩)):=fun u=>by rw [u.ok];exact kV2.cell c1 id
    have y2:∀ u:Wd (fun U=>U=V2),u.w.cell? ⟨x,3,none⟩=some (.pointer (some ⟨mb,0,none⟩)):=fun u=>by rw [u.ok];exact kV2.cell c2 id
    have y4:∀ u:Wd (fun U=>U=V2),u.w.cell? ⟨bl,off+i,none⟩=some (.int .i64 z):=fun u=>by rw [u.ok];exact kV2.cell c4 id
    have HV2:=gh hV2;have KV2:=gh kV2;clear hV2 kV2 x1 x2 x3 x4 x5;go_wp2_with (fail);refine region_last [0,1,2,3,4,5,6,7,8,9,10,11,12] 13 (fun U=>U=V2) (by kernel_rfl) (by kernel_rfl) (by rw [HV2.o]) (fun _=>?_);rw [HV2.o]
    repeat (refine lq rfl rfl ?_;go_big_quiet_step (fail);refine wpQuiet_nil ?_)
    refine lz rfl ?_;gi_wp2_with (fail);refine ⟨trivial,?_⟩;refine (callsIn_wide.2 (write_d V2 n₀ mb mv di _ z (D.o.1.kept KV2.o))).mono ?_
    try rw [wi]
    rintro e W3 ⟨rfl,m3,t3⟩;have M3:=gh m3;have T3:=gh t3;clear m3 t3 y1 y2 y4;gi_wp2_with (fail);refine last_done ?_;go_wp2;clear wi
    try rw [WI.o]
    refine ⟨⟨i+1,_,by simp,by omega,gh ⟨M3.o,by
     rw [Mst.write_in (by rw [LEN.o];exact hiN)];show (di.xs.set i z)=_;rw [D.o.2.1];exact take_drop_step HZ.o (by rw [HL.o];exact hiN),by rw [(Mst.write_grew _ _ _).size];exact D.o.2.2⟩,gh (T.o.trans (KV2.o.then T3.o) (fun _ e=>e) (fun _ _ e=>e)),gh ((R.o.kept KV2.o).apt T3.o (fun g e f=>?_))⟩,?_⟩
    ·have:=(HD.o.lt g f).2
     have:=(R.o.lt g e).1
     omega
    ·simp only [intOf];omega
  ·have j1:¬ (i:Int) < (N:Int):=by omega
   obtain rfl:i=N:=by omega
   have j2:¬ ((i:Int) > (i:Int)):=by omega
   go_wp2
   go_end0
   exact ⟨rfl,di,D.o.1,T.o,by rw [D.o.2.1,List.take_of_length_le (by rw [HN.o];exact Nat.le_refl _),List.drop_of_length_le (by rw [HL.o];exact Nat.le_refl _),List.append_nil],D.o.2.2⟩
end
section
open Sd (Gh IsDc Pd Sl)
def rit (s:Int) (m:Mst):Nat->Rd × Mst
 | 0=>(Rd.new s,m)
 | k+1=>(rit s m k).1.step (rit s m k).2
structure Sh (m M:Mst) (φ:Int->Int):Prop where
 look:∀ c,M.look c=φ c
 size:M.size=m.size
 len:M.xs.length=m.xs.length
 ok:M.ok
theorem Sh.touch {m M:Mst} {φ:Int->Int} (h:Sh m M φ) (a:Int):Sh m (M.touch a) φ:=
 ⟨fun c=>by rw [Mst.touch_look];exact h.look c,(Mst.touch_size _ _).trans h.size,by rw [Mst.touch_xs];exact h.len,⟨by rw [Mst.touch_xs];exact h.ok.1,by rw [Mst.touch_xs];exact h.ok.2⟩⟩
theorem Sh.cas {m M:Mst} {φ:Int->Int} (h:Sh m M φ) {a old x:Int} (hu:M.used a=true) (hx:I64 x):Sh m (M.cas a old x) (fun c=>if c=a/\φ a=old then x else φ c):=by
 unfold Mst.cas Mst.did;rw [hu,h.look,Bool.true_and]
 by_cases e:φ a=old
 ·have e':(φ a == old)=true:=by simp [e]
  rw [if_pos e'];refine ⟨fun c=>?_,(Sd.size_set _ _ _).trans h.size,(Sd.len_set _ _ _).trans h.len,(Sd.write_put h.ok hu hx).ok⟩;rw [Sd.look_set hu,h.look]
  by_cases ec:c=a
  ·rw [if_pos ec,if_pos ⟨ec,e⟩]
  ·rw [if_neg ec,if_neg (fun q=>ec q.1)]
 ·have e':¬ (φ a == old)=true:=by simp [e]
  rw [if_neg e']
  have:=h.touch a
  refine ⟨fun c=>?_,this.size,this.len,this.ok⟩;rw [this.look,if_neg (fun q=>e q.2)]
theorem Sh.used {m M:Mst} {φ:Int->Int} (h:Sh m M φ) (a:Int):M.used a=m.used a:=by unfold Mst.used;rw [h.len]
theorem dcss_word {z:Int} (h:kd z=5):Rf.ofZ 5 (ad z)=z:=by
 have hk:Rf.kindZ z=5:=h;unfold Rf.kindZ at hk
 split at hk
 ·rename_i hr;have ha:ad z=z / 8:=by show Rf.atZ z=_;unfold Rf.atZ;rw [if_pos hr]
  unfold Rf.rt at hr;simp at hr;rw [ha];unfold Rf.ofZ Rf.may;rw [if_pos (by simp;omega)];omega
 ·cases hk
structure Dk (m:Mst) (s D gd o x:Int):Prop where
 z:m.look s=Rf.ofZ 5 D
 kz:kd (m.look s)=5/\ad (m.look s)=D
 b:1<=D/\D+4<=65536
 c0:m.look D=gd
 c1:m.look (D+1)=s
 c2:m.look (D+2)=o
 c3:m.look (D+3)=x
 ne:s≠D/\s≠D+1/\s≠D+2/\s≠D+3/\s≠D+4
 us:m.used s=true
 ud:m.used (D+4)=true
 ko:kd o≠5
 kx:kd x≠5
theorem dk_of {m:Mst} {g:Gh} (h:Sd.Inv m g) {s:Int} (hs:g.ro s=some .slot) (hk:kd (m.look s)=5):∃ gd o x,IsDc g (ad (m.look s)) gd s o x/\Dk m s (ad (m.look s)) gd o x:=by
 rcases h.sees hs with e | e | ⟨_,gd,o,x,P⟩
 ·rw [e] at hk;exact absurd hk (by decide)
 ·exact absurd hk e.ne.2
 ·obtain ⟨q1,q2,_⟩:=h.dc P.dc;have b:=h.dcB P.dc;have used:∀ {c:Int} {r:Sd.Ro},g.ro c=some r->m.used c=true:=fun e=>(h.used _).1 (by rw [e];exact fun e=>by cases e);have ne:∀ {c:Int} {r:Sd.Ro},g.ro c=some r->r≠.slot->s≠c:=fun e1 e2 e=>by
   rw [<- e,hs] at e1;cases e1;exact e2 rfl
  exact ⟨gd,o,x,P.dc,(dcss_word hk).symm,⟨hk,rfl⟩,⟨b.1,b.2.1⟩,h.fix P.dc.c0,h.fix P.dc.c1,h.fix P.dc.c2,h.fix P.dc.c3,
   ⟨ne P.dc.c0 (fun e=>by cases e),ne P.dc.c1 (fun e=>by cases e),ne P.dc.c2 (fun e=>by cases e),ne P.dc.c3 (fun e=>by cases e),ne P.dc.c4 (fun e=>by cases e)⟩,
   used hs,used P.dc.c4,q1.ne.2,q2.ne.2⟩
theorem rd_some (s:Int) (q:Hp) (M:Mst):(⟨s,some q,0,false⟩:Rd).step M=(⟨s,if ((q.step M).1.n == 7)=true then none else some (q.step M).1,0,false⟩,(q.step M).2):=rfl
theorem rd_none (s:Int) (M:Mst):(⟨s,none,0,false⟩:Rd).step M=((⟨s,none,0,false⟩:Rd).take (M.look s),M.touch s):=rfl
structure Rok (x:Rd × Mst):Prop where
 ok:∀ q,x.1.c=some q->q.Ok
 mem:x.2.ok
theorem rit_nine {m:Mst} (hm:m.ok) {s D gd o x:Int} (k:Dk m s D gd o x):∃ φ:Int->Int,(∀ j,j < 9->Rok (rit s m j)/\(rit s m (j+1)).1.d=decide (j+1=9))/\Sh m (rit s m 9).2 φ/\(rit s m 9).1.d=true/\∀ c,c≠s->c≠D+4->φ c=m.look c:=by
 have S0:Sh m m m.look:=⟨fun _=>rfl,rfl,rfl,hm⟩;obtain ⟨out,hout⟩:∃ out,Hp.outZ (m.look gd)=out:=⟨_,rfl⟩;have io:I64 out:=by rw [<- hout];unfold Hp.outZ;split <;> exact ⟨by decide,by decide⟩
 have hpn:∀ (q:Hp) (M:Mst),q.n=0->q.step M=({ q with g:=M.look q.a,n:=1 },M.touch q.a):=fun q M e=>by unfold Hp.step;rw [if_pos e]
 have e1:rit s m 1=(⟨s,some (Hp.new D),0,false⟩,m.touch s):=by
  show (⟨s,none,0,false⟩:Rd).step m=_;rw [rd_none];unfold Rd.take;rw [if_pos k.kz.1,k.kz.2]
 have S1:=S0.touch s;have e2:rit s m 2=(⟨s,some ⟨1,D,gd,0,0,0,0⟩,0,false⟩,(m.touch s).touch D):=by
  show (rit s m 1).1.step (rit s m 1).2=_;rw [e1,rd_some]
  have:(Hp.new D).step (m.touch s)=(⟨1,D,gd,0,0,0,0⟩,(m.touch s).touch D):=by
   unfold Hp.step Hp.new;rw [if_pos rfl];simp only [S1.look,k.c0]
  rw [this];rfl
 have S2:=S1.touch D;generalize (m.touch s).touch D=M2 at e2 S2;have e3:rit s m 3=(⟨s,some ⟨2,D,gd,out,0,0,0⟩,0,false⟩,M2.touch gd):=by
  show (rit s m 2).1.step (rit s m 2).2=_;rw [e2,rd_some]
  have:(⟨1,D,gd,0,0,0,0⟩:Hp).step M2=(⟨2,D,gd,out,0,0,0⟩,M2.touch gd):=by
   unfold Hp.step;rw [if_neg (show ¬ ((1:Int)=0) by decide),if_pos (show (1:Int)=1 from rfl)];simp only [S2.look,hout]
  rw [this];rfl
 have S3:=S2.touch gd;generalize M2.touch gd=M3 at e3 S3;have e4:rit s m 4=(⟨s,some ⟨3,D,gd,out,0,0,0⟩,0,false⟩,M3.cas (D+4) 0 out):=by
  show (rit s m 3).1.step (rit s m 3).2=_;rw [e3,rd_some]
  have:(⟨2,D,gd,out,0,0,0⟩:Hp).step M3=(⟨3,D,gd,out,0,0,0⟩,M3.cas (D+4) 0 out):=by
   unfold Hp.step;rw [if_neg (show ¬ ((2:Int)=0) by decide),if_neg (show ¬ ((2:Int)=1) by decide),if_pos (show (2:Int)=2 from rfl)]
  rw [this];rfl
 have S4:=S3.cas (a:=D+4) (old:=0) (x:=out) (by rw [S3.used];exact k.ud) io;obtain ⟨φ4,hφ⟩:∃ φ4:Int->Int,φ4=fun c=>if c=D+4/\m.look (D+4)=0 then out else m.look c:=⟨_,rfl⟩;have S4':Sh m (M3.cas (D+4) 0 out) φ4:=by rw [hφ];exact S4
 have f4:∀ c,c≠D+4->φ4 c=m.look c:=fun c hc=>by rw [hφ];exact if_neg (fun q=>hc q.1)
 clear S4;generalize M3.cas (D+4) 0 out=M4 at e4 S4';obtain ⟨r,hr⟩:∃ r,φ4 (D+4)=r:=⟨_,rfl⟩;obtain ⟨p,hp⟩:∃ p,Hp.placeZ r=p:=⟨_,rfl⟩;have e5:rit s m 5=(⟨s,some ⟨4,D,gd,out,0,p,0⟩,0,false⟩,M4.touch (D+4)):=by
  show (rit s m 4).1.step (rit s m 4).2=_;rw [e4,rd_some]
  have:(⟨3,D,gd,out,0,0,0⟩:Hp).step M4=(⟨4,D,gd,out,0,p,0⟩,M4.touch (D+4)):=by
   unfold Hp.step;rw [if_neg (show ¬ ((3:Int)=0) by decide),if_neg (show ¬ ((3:Int)=1) by decide),if_neg (show ¬ ((3:Int)=2) by decide),if_pos (show (3:Int)=3 from rfl)];simp only [S4'.look,hr,hp]
  rw [this];rfl
 have S5:=S4'.touch (D+4);generalize M4.touch (D+4)=M5 at e5 S5;have e6:rit s m 6=(⟨s,some ⟨5,D,gd,out,s,p,0⟩,0,false⟩,M5.touch (D+1)):=by
  show (rit s m 5).1.step (rit s m 5).2=_;rw [e5,rd_some]
  have:(⟨4,D,gd,out,0,p,0⟩:Hp).step M5=(⟨5,D,gd,out,s,p,0⟩,M5.touch (D+1)):=by
   unfold Hp.step;rw [if_neg (show ¬ ((4:Int)=0) by decide),if_neg (show ¬ ((4:Int)=1) by decide),if_neg (show ¬ ((4:Int)=2) by decide),if_neg (show ¬ ((4:Int)=3) by decide),if_pos (show (4:Int)=4 from rfl)];simp only [S5.look,f4 (D+1) (by omega),k.c1]
  rw [this];rfl
 have S6:=S5.touch (D+1);generalize M5.touch (D+1)=M6 at e6 S6;have hp23:p=2∨p=3:=by rw [<- hp];unfold Hp.placeZ;split <;> simp
 obtain ⟨wd,hwd⟩:∃ wd,φ4 (D+p)=wd:=⟨_,rfl⟩;have kw:kd wd≠5:=by
  rw [<- hwd];rcases hp23 with e | e
  ·rw [e,f4 _ (by omega),k.c2];exact k.ko
  ·rw [e,f4 _ (by omega),k.c3];exact k.kx
 have e7:rit s m 7=(⟨s,some ⟨6,D,gd,out,s,p,wd⟩,0,false⟩,M6.touch (D+p)):=by
  show (rit s m 6).1.step (rit s m 6).2=_;rw [e6,rd_some]
  have:(⟨5,D,gd,out,s,p,0⟩:Hp).step M6=(⟨6,D,gd,out,s,p,wd⟩,M6.touch (D+p)):=by
   unfold Hp.step;rw [if_neg (show ¬ ((5:Int)=0) by decide),if_neg (show ¬ ((5:Int)=1) by decide),if_neg (show ¬ ((5:Int)=2) by decide),if_neg (show ¬ ((5:Int)=3) by decide),if_neg (show ¬ ((5:Int)=4) by decide),if_pos (show (5:Int)=5 from rfl)];simp only [S6.look,hwd]
  rw [this];rfl
 have S7:=S6.touch (D+p);generalize M6.touch (D+p)=M7 at e7 S7;have e8:rit s m 8=(⟨s,none,0,false⟩,M7.cas s (Rf.ofZ 5 D) wd):=by
  show (rit s m 7).1.step (rit s m 7).2=_;rw [e7,rd_some]
  have:(⟨6,D,gd,out,s,p,wd⟩:Hp).step M7=(⟨7,D,gd,out,s,p,wd⟩,M7.cas s (Rf.ofZ 5 D) wd):=by
   unfold Hp.step;rw [if_neg (show ¬ ((6:Int)=0) by decide),if_neg (show ¬ ((6:Int)=1) by decide),if_neg (show ¬ ((6:Int)=2) by decide),if_neg (show ¬ ((6:Int)=3) by decide),if_neg (show ¬ ((6:Int)=4) by decide),if_neg (show ¬ ((6:Int)=5) by decide),if_pos (show (6:Int)=6 from rfl)]
  rw [this];rfl
 have iw:I64 wd:=by rw [<- hwd,<- S6.look];exact S6.ok.look _
 have S8:=S7.cas (a:=s) (old:=Rf.ofZ 5 D) (x:=wd) (by rw [S7.used];exact k.us) iw;have fs:φ4 s=Rf.ofZ 5 D:=by rw [f4 s k.ne.2.2.2.2];exact k.z
 generalize M7.cas s (Rf.ofZ 5 D) wd=M8 at e8 S8;have ls:M8.look s=wd:=by rw [S8.look];exact if_pos ⟨rfl,fs⟩
 have e9:rit s m 9=(⟨s,none,wd,true⟩,M8.touch s):=by
  show (rit s m 8).1.step (rit s m 8).2=_;rw [e8,rd_none];unfold Rd.take;rw [ls,if_neg kw]
 have S9:=S8.touch s;have pb:0<=p/\p<=10:=by omega
 have kb:=k.b;refine ⟨_,fun j hj=>?_,by rw [e9];exact S9,by rw [e9],fun c h1 h2=>?_⟩
 ·obtain rfl | rfl | rfl | rfl | rfl | rfl | rfl | rfl | rfl:j=0∨j=1∨j=2∨j=3∨j=4∨j=5∨j=6∨j=7∨j=8:=by omega
  ·exact ⟨⟨(fun q e=>by cases e),hm⟩,by rw [e1];rfl⟩
  ·rw [e2,e1];exact ⟨⟨(fun q e=>by cases e;exact ⟨⟨by show (0:Int)<=0;decide,by show (0:Int)<=7;decide⟩,⟨by show 0<=D;omega,by show D<=1000000;omega⟩,⟨by show (0:Int)<=0;decide,by show (0:Int)<=10;decide⟩⟩),S1.ok⟩,rfl⟩
  ·rw [e3,e2];exact ⟨⟨(fun q e=>by cases e;exact ⟨⟨by show (0:Int)<=1;decide,by show (1:Int)<=7;decide⟩,⟨by show 0<=D;omega,by show D<=1000000;omega⟩,⟨by show (0:Int)<=0;decide,by show (0:Int)<=10;decide⟩⟩),S2.ok⟩,rfl⟩
  ·rw [e4,e3];exact ⟨⟨(fun q e=>by cases e;exact ⟨⟨by show (0:Int)<=2;decide,by show (2:Int)<=7;decide⟩,⟨by show 0<=D;omega,by show D<=1000000;omega⟩,⟨by show (0:Int)<=0;decide,by show (0:Int)<=10;decide⟩⟩),S3.ok⟩,rfl⟩
  ·rw [e5,e4];exact ⟨⟨(fun q e=>by cases e;exact ⟨⟨by show (0:Int)<=3;decide,by show (3:Int)<=7;decide⟩,⟨by show 0<=D;omega,by show D<=1000000;omega⟩,⟨by show (0:Int)<=0;decide,by show (0:Int)<=10;decide⟩⟩),S4'.ok⟩,rfl⟩
  ·rw [e6,e5];exact ⟨⟨(fun q e=>by cases e;exact ⟨⟨by show (0:Int)<=4;decide,by show (4:Int)<=7;decide⟩,⟨by show 0<=D;omega,by show D<=1000000;omega⟩,pb⟩),S5.ok⟩,rfl⟩
  ·rw [e7,e6];exact ⟨⟨(fun q e=>by cases e;exact ⟨⟨by show (0:Int)<=5;decide,by show (5:Int)<=7;decide⟩,⟨by show 0<=D;omega,by show D<=1000000;omega⟩,pb⟩),S6.ok⟩,rfl⟩
  ·rw [e8,e7];exact ⟨⟨(fun q e=>by cases e;exact ⟨⟨by show (0:Int)<=6;decide,by show (6:Int)<=7;decide⟩,⟨by show 0<=D;omega,by show D<=1000000;omega⟩,pb⟩),S7.ok⟩,rfl⟩
  ·rw [e9,e8];exact ⟨⟨(fun q e=>by cases e),S8.ok⟩,rfl⟩
 ·show (if c=s/\φ4 s=Rf.ofZ 5 D then wd else φ4 c)=_;rw [if_neg (fun q=>h1 q.1),f4 c h2]
theorem rit_one {m:Mst} (hm:m.ok) {s:Int} (k5:kd (m.look s)≠5):(Rok (rit s m 0)/\(rit s m 1).1.d=true)/\(rit s m 1).2.xs=m.xs:=by
 have e1:rit s m 1=(⟨s,none,m.look s,true⟩,m.touch s):=by
  show (⟨s,none,0,false⟩:Rd).step m=_;rw [rd_none];unfold Rd.take;rw [if_neg k5]
 exact ⟨⟨⟨(fun q e=>by cases e),hm⟩,by rw [e1]⟩,by rw [e1];exact Mst.touch_xs _ _⟩
end
section
open Go.Shelf
open Sd (Pr)
set_option maxRecDepth 20000
def RdN (k:Nat) (p:Rd) (T:Pr Int):Prop:=(p.d=true/\T=.ret p.w)∨(p.d=false/\((p.c=none/\∃ n,k<=n/\T=(Pr.read p.s).bind fun z=>Pr.slotL n p.s z)∨(∃ h n,k<=n/\p.c=some h/\h.Ok/\HpT h (fun _=>(Pr.read p.s).bind fun z=>Pr.slotL n p.s z) T)))
theorem RdN.rdt {k:Nat} {p:Rd} {T:Pr Int} (h:RdN k p T):RdT p T:=by
 rcases h with h | ⟨h,⟨h1,n,_,h2⟩ | ⟨q,n,_,h1,h2,h3⟩⟩
 ·exact .inl h
 ·exact .inr ⟨h,.inl ⟨h1,n,h2⟩⟩
 ·exact .inr ⟨h,.inr ⟨q,n,h1,h2,h3⟩⟩
theorem RdN.new (n:Nat) (s:Int):RdN n (Rd.new s) (Pr.slot n s):=.inr ⟨rfl,.inl ⟨rfl,n,Nat.le_refl _,rfl⟩⟩
theorem RdN.step {k:Nat} {p:Rd} {T:Pr Int} {m:Mst} (h:RdN (k+1) p T):∃ T',RdN k (p.step m).1 T'/\Goes T m T' (p.step m).2:=by
 rcases h with ⟨h,e⟩ | ⟨h,⟨hc,n,hn,e⟩ | ⟨q,n,hn,hc,ok,e⟩⟩
 ·have es:p.step m=(p,m):=by unfold Rd.step;rw [if_pos h]
  rw [es];exact ⟨T,.inl ⟨h,e⟩,.inr ⟨⟨_,e⟩,rfl,rfl⟩⟩
 ·have es:p.step m=(p.take (m.look p.s),m.touch p.s):=by unfold Rd.step;rw [if_neg (by rw [h];decide),hc]
  rw [es];refine ⟨Pr.slotL n p.s (m.look p.s),?_,.inl ⟨_,_,e,rfl,rfl⟩⟩;cases n with
  | zero=>omega
  | succ n=>
   unfold Pr.slotL Rd.take
   split
   ·refine .inr ⟨h,.inr ⟨Hp.new (ad (m.look p.s)),n,by omega,rfl,?_,.inl ⟨rfl,rfl⟩⟩⟩
    have:=ad_range (m.look p.s)
    exact ⟨⟨by show (0:Int)<=0;decide,by show (0:Int)<=7;decide⟩,⟨this.1,by show ad (m.look p.s)<=1000000;omega⟩,by show (0:Int)<=0;decide,by show (0:Int)<=10;decide⟩
   ·exact .inl ⟨rfl,rfl⟩
 ·obtain ⟨a,k',e1,e2,e3,_⟩:=e.step (m:=m);have es:p.step m=({ p with c:=if ((q.step m).1.n == 7)=true then none else some (q.step m).1 },(q.step m).2):=by unfold Rd.step;rw [if_neg (by rw [h];decide),hc]
  rw [es];refine ⟨_,.inr ⟨h,?_⟩,.inl ⟨a,k',e1,rfl,e2⟩⟩;rcases e3 with ⟨e3,e4⟩ | ⟨e3,e4⟩
  ·exact .inl ⟨by dsimp only;rw [e3];rfl,n,by omega,e4⟩
  ·exact .inr ⟨_,n,by omega,by dsimp only;rw [if_neg (by simpa using e3)],ok.step m,e4⟩
theorem wx_quiet {i j:Nat} {A B:Pr Int} {ix:Ixp} {d:Mst} (h:WX i A j B ix) (hx:d.xs=ix.m.xs) (hz:d.size=ix.m.size):WX i A j B { ix with m:=d }:=by
 obtain ⟨g,hI,hT,hA,hB⟩:=h;have q:=hI.quiet hx hz;exact ⟨g,q.1,fun t p hp p' hp'=>(hT t p hp p' hp').rl (Sd.Gt.rl' q),hA.rl (Sd.Gt.rl' q),hB.rl (Sd.Gt.rl' q)⟩
theorem goes_like {A A1:Pr Int} {m m1 d:Mst} (h:Goes A m A1 m1) (hx:m.xs=d.xs) (hz:m.size=d.size):∃ d0,Goes A d A1 d0/\d0.xs=m1.xs/\d0.size=m1.size/\d0.size=d.size:=by
 rcases h with ⟨q,k,rfl,rfl,rfl⟩ | ⟨e,rfl,rfl⟩
 ·obtain ⟨e1,e2,e3⟩:=doA_same hx hz q;exact ⟨(d.doA q).2,.inl ⟨q,k,rfl,by rw [e1],rfl⟩,e2.symm,e3.symm,(Mst.doA_grew d q).size⟩
 ·exact ⟨d,.inr ⟨e,rfl,rfl⟩,hx.symm,hz.symm,rfl⟩
theorem cas_len (m:Mst) (a o x:Int):(m.cas a o x).xs.length=m.xs.length:=by
 unfold Mst.cas
 split
 ·exact Sd.len_set m a x
 ·rw [Mst.touch_xs]
theorem Hp.step_len (p:Hp) (m:Mst):(p.step m).2.xs.length=m.xs.length:=by
 unfold Hp.step
 repeat (first
  | (split)
  | (show (Mst.touch _ _).xs.length=_;rw [Mst.touch_xs])
  | exact cas_len _ _ _ _
  | rfl)
theorem Rd.step_len (p:Rd) (m:Mst):(p.step m).2.xs.length=m.xs.length:=by
 unfold Rd.step
 split
 ·rfl
 ·split
  ·show (Mst.touch _ _).xs.length=_;rw [Mst.touch_xs]
  ·exact Hp.step_len _ _
theorem Rd.step_s (p:Rd) (m:Mst):(p.step m).1.s=p.s:=by
 unfold Rd.step
 split
 ·rfl
 ·split
  ·unfold Rd.take;split <;> rfl
  ·rfl
theorem Rd.step_end (p:Rd) (m:Mst) (h:p.d=false) (h':(p.step m).1.d=true):(p.step m).1.w=(p.step m).2.look p.s/\kd (p.step m).1.w≠5:=by
 unfold Rd.step at h' ⊢;have n:¬ p.d=true:=by rw [h];decide
 rw [if_neg n] at h' ⊢
 split
 ·rename_i hc;rw [hc] at h';unfold Rd.take at h' ⊢
  by_cases k:kd (m.look p.s)=5
  ·rw [if_pos k] at h';exact absurd h' n
  ·rw [if_neg k];exact ⟨(Mst.touch_look _ _ _).symm,k⟩
 ·rename_i q hc;rw [hc] at h';exact absurd h' n
theorem Row.rd {W:World} {v:Value} {zs:List Int} {n₀:Nat} (h:Row W n₀ 2 v zs) {f g:Nat} {p:Rd} (hf:RdAt W f g p):¬ RB v f/\(p.c.isSome=true->¬ RB v g):=by
 refine ⟨fun e=>?_,fun hs e=>?_⟩
 ·obtain ⟨c,hc⟩:=h.typed f e
  have:=hf.1
  rw [hc] at this;simp at this
 ·obtain ⟨q,hq⟩:=Option.isSome_iff_exists.1 hs;obtain ⟨c,hc⟩:=h.typed g e
  have:=hf.2 q hq
  unfold HpAt at this;rw [hc] at this;simp at this
structure Rm (w W:World) (y b x mb f g:Nat) (m:Mst) (ix:Ixp) (c:Nat) (s:Int) (p:Rd) (k:Nat) (A:Pr Int) (v:Value) (zs:List Int):Prop where
 ym:Ym w W y b x mb m ix c v zs
 fr:RdAt W f g p
 nf:w.heap.size<=f
 ng:p.c.isSome=true->w.heap.size<=g
 t:RdN k p A
 wx:WX 3 A 4 (.ret 0) ix
 ps:p.s=s
structure Rb (w W:World) (y b x mb f g:Nat) (m m1:Mst) (ix:Ixp) (c:Nat) (s:Int) (p:Rd) (k:Nat) (A A1:Pr Int) (v:Value) (zs:List Int):Prop where
 yx:Yx (fun k=>RB v k∨NoP k) w W y b x mb m1 ix
 row:Row W w.heap.size 2 v zs
 ok:YOk m ix c
 fr:RdAt W f g p
 nf:w.heap.size<=f
 ng:p.c.isSome=true->w.heap.size<=g
 t:RdN k p A1
 wx:WX 3 A 4 (.ret 0) ix
 go:Goes A m A1 m1
 len:m1.xs.length=m.xs.length
 ps:p.s=s
section
variable {w W W':World} {y b x mb f g:Nat} {m m1:Mst} {ix:Ixp} {c:Nat} {s:Int} {p:Rd} {k:Nat} {A A1:Pr Int} {v:Value} {zs:List Int}
theorem Rm.le {c':Nat} (h:Rm w W y b x mb f g m ix c s p k A v zs) (q:c<=c'):Rm w W y b x mb f g m ix c' s p k A v zs:=⟨h.ym.le q,h.fr,h.nf,h.ng,h.t,h.wx,h.ps⟩
theorem rm_pick (h:Rm w W y b x mb f g m ix c s p k A v zs) (hc:c<=6000) (n:Int) (iz:I64 n) :
  Calls Tryz.prog 16 #[.pointer (some ⟨y,0,none⟩),.int .i64 n] W fun e W'=>e=.returned (.tuple #[])/\∃ m' ix',Rm w W' y b x mb f g m' ix' (c+2) s p k A v zs:=by
 refine (ym_pick h.ym hc n iz).mono ?_;rintro e W' ⟨rfl,m',h1,h2⟩;exact ⟨rfl,m',_,h1,h.fr.others h2,h.nf,h.ng,h.t,wx_pickY h.wx h.ym.ok (by omega) (by omega) hc n,h.ps⟩
theorem rm_step (h:Rm w W y b x mb f g m ix c s p (k+1) A v zs) (hd:p.d=false) :
  Calls Tryz.prog 30 #[.pointer (some ⟨f,0,none⟩),.pointer (some ⟨b,0,none⟩)] W fun r W'=>r=.returned (.bool (p.step m).1.d)/\∃ A1 g',Rb w W' y b x mb f g' m (p.step m).2 ix c s (p.step m).1 k A A1 v zs:=by
 obtain ⟨A1,t1,g1⟩:=h.t.step (m:=m);obtain ⟨a1,a2⟩:=Row.rd h.ym.row h.fr;refine (rd_y w W y b x mb m ix f g p h.ym.yx h.ym.ok.ok.2 h.fr (fun q hq=>h.t.rdt.ok q hq hd) h.nf h.ng).mono ?_;rintro r W' ⟨rfl,g',h1,h2,h3,h4⟩;refine ⟨rfl,A1,g',h1,h.ym.row.but h4 (fun _ e=>.inl e) (fun k e e2=>?_),h.ym.ok,h2,h.nf,h3,t1,h.wx,g1,p.step_len m,by rw [p.step_s m,h.ps]⟩;rcases e2 with rfl | ⟨e2,rfl⟩
 ·exact a1 e
 ·exact a2 e2 e
theorem rm_back (h:Rb w W y b x mb f g m m1 ix c s p k A A1 v zs) :
  Calls Tryz.prog 34 #[.pointer (some ⟨y,0,none⟩)] W fun r W'=>r=.returned (.tuple #[])/\∃ ix',Rm w W' y b x mb f g m1 ix' c s p k A1 v zs:=by
 obtain ⟨tb,v0,mv,tv,lv,pz,h1,h2⟩:=h.yx;have hl:m1.xs.length=ix.m.xs.length:=by rw [h.len,h.ok.xs]
 obtain ⟨d0,G,e1,e2,e3⟩:=goes_like h.go h.ok.xs h.ok.size;obtain ⟨w1,o1,b1⟩:=wx_goes h.wx (by omega) (by rw [h.ok.len];omega) G;have mo:m1.ok:=by
  refine ⟨by rw [<- e1];exact o1.1,?_⟩;rw [<- e1];exact o1.2
 have ml:m1.xs.length<=65536:=by rw [hl];exact h1.ixs.mem.len
 have bx:=h1.ixs.box;refine (back_r W w.heap.size _ b y x mb v0 mv m1 ix.m h1.pm h1.ixs.mem h1.box h1.ixs.cells.1.1 ⟨foot_apart h1.ixs.mem h1.box (by decide) (by decide),foot_apart h1.ixs.mem bx (by decide) (by decide)⟩ hl ml).mono ?_;rintro r W' ⟨rfl,d,hd,t,ex,ez⟩;have dx:d.xs=d0.xs:=ex.trans e1.symm;have dz:d.size=d0.size:=ez.trans e3.symm;have dok:d.ok:=⟨by rw [dx];exact o1.1,by rw [dx];exact o1.2⟩;have w2:WX 3 A1 4 (.ret 0) { ix with m:=d }:=wx_quiet (ix:={ ix with m:=d0 }) w1 dx dz;have rb:∀ k,v.ownBlock=some k->¬ Foot mb mv k:=fun k e=>by
  obtain ⟨_,n1,_⟩:=h1.ixs.np k (.inr (.inl e));rintro (e' | e')
  ·obtain ⟨c,hc⟩:=h.row.typed k e
   have:=h1.ixs.mem.box
   rw [<- e',hc] at this;simp at this
  ·exact n1 e'
 refine ⟨rfl,{ ix with m:=d },⟨⟨tb,v0,mv,tv,lv,pz,h1.doc t hd dok (fun _ e=>.inl e),h2.own (fun k hk=>(h1.ixs.mem.lt k hk).1) t⟩,h.row.apt t rb,h.ok.goes w2 (by rw [dx];exact b1 h.ok.big) ex.symm (by rw [dz,e2])⟩,h.fr.turned t (foot_apart h1.ixs.mem h.fr.1 (by decide) (by decide)) (fun hs=>?_),h.nf,h.ng,h.t,w2,h.ps⟩;obtain ⟨q,hq⟩:=Option.isSome_iff_exists.1 hs;exact foot_apart h1.ixs.mem (h.fr.2 q hq) (by decide) (by decide)
end
theorem rit_alone {m:Mst} {g:Sd.Gh} (h:Sd.Inv m g) {M:Mst} (hM:M.xs=m.xs) (hz:M.size=m.size) {s:Int} (hs:g.ro s=some .slot):∃ E,E<=9/\1<=E/\∀ j,j < E->(rit s M (j+1)).1.d=decide (j+1=E):=by
 have q:=(h.quiet hM hz).1
 by_cases k:kd (M.look s)=5
 ·obtain ⟨gd,o,x,_,D⟩:=dk_of q hs k;obtain ⟨φ,h1,_⟩:=rit_nine q.ok D;exact ⟨9,by omega,by omega,fun j hj=>(h1 j hj).2⟩
 ·refine ⟨1,by omega,by omega,fun j hj=>?_⟩;obtain rfl:j=0:=by omega
  exact (rit_one q.ok k).1.2
end
section
set_option maxRecDepth 20000
theorem dcss13 (w:World) (g p k v:Int):Calls Tryz.prog 70 #[.int .i64 g,.int .i64 p,.int .i64 k,.int .i64 v] w (Fresh [g,p,k,v,0] w):=by
 go_enter Tryz.func70,Tryz.ntmps70;go_wp2;go_ret;exact ⟨_,rfl,row_new w 2 [g,p,k,v,0] _ (Nat.le_refl _) (by simp),Td.alloc _ _ _⟩
theorem now_write (w W:World) (b:Nat) (s:Mst) (a x:Int) (s':Mst) (h:Now w W b s) (e1:s.write a x=s') :
  Calls Tryz.prog 74 #[.pointer (some ⟨b,0,none⟩),.int .i64 a,.int .i64 x] W fun e W'=>e=.returned (.tuple #[])/\Now w W' b s':=by
 obtain ⟨⟨v,h⟩,hk⟩:=h;subst e1;exact (write_p W _ b v s a x h).mono fun _ _ ⟨h1,h2,h3⟩=>⟨h1,⟨v,h2⟩,hk.own (fun i hi=>(h.lt i hi).1) h3⟩
def MR (w W:World) (b:Nat) (s:Mst) (f:Nat) (p:Rd):Prop:=
 ∃ v g,PMem W w.heap.size b v s/\RdAt W f g p/\w.heap.size<=f/\(p.c.isSome=true->w.heap.size<=g)/\Kept w W
theorem Now.read {w W W':World} {b:Nat} {s:Mst} {x:Int} (h:Now w W b s) (k:Kept W W') (hf:RdAt W' W.heap.size 0 (Rd.new x)):MR w W' b s W.heap.size (Rd.new x):=by
 obtain ⟨⟨v,h⟩,hk⟩:=h;exact ⟨v,0,h.kept k,hf,hk.size,(fun e=>by cases e),hk.trans k⟩
theorem MR.now {w W:World} {b f:Nat} {s:Mst} {p:Rd} (h:MR w W b s f p):Now w W b s:=by
 obtain ⟨v,g,h1,_,_,_,hk⟩:=h;exact ⟨⟨v,h1⟩,hk⟩
theorem mr_word (w W:World) (b:Nat) (s:Mst) (f:Nat) (p:Rd) (h:MR w W b s f p) (r:Int) (e1:p.w=r):Calls Tryz.prog 32 #[.pointer (some ⟨f,0,none⟩)] W fun e W'=>e=.returned (.int .i64 r)/\W=W':=by
 obtain ⟨_,g,_,h,_⟩:=h;exact rd_word W f g p h r e1
theorem mr_step (w W:World) (b:Nat) (s:Mst) (f:Nat) (p:Rd) (h:MR w W b s f p) (hok:∀ q,p.c=some q->q.Ok) (ho:∀ a,I64 (s.look a)) (p':Rd) (s':Mst) (r:Bool) (e1:p.step s=(p',s')) (e2:p'.d=r) :
  Calls Tryz.prog 30 #[.pointer (some ⟨f,0,none⟩),.pointer (some ⟨b,0,none⟩)] W fun e W'=>e=.returned (.bool r)/\MR w W' b s' f p':=by
 obtain ⟨v,g,hm,hp,hn,hg,hk⟩:=h;refine (rd_step W _ b v f g p s hp hm hok ho p' s' r e1 e2).mono ?_;rintro e W' ⟨rfl,g',h1,h2,h3,h4⟩;refine ⟨rfl,v,g',h2,h1,hn,fun e=>?_,hk.own (fun i hi=>hi.elim (fun e=>e ▸ hn) (fun e=>e.elim (fun e=>e.2 ▸ hg e.1) (fun e=>(hm.lt i e).1))) h4⟩;rcases h3 e with ⟨e1,rfl⟩ | h3
 ·exact hg e1
 ·exact Nat.le_trans hk.size h3
def okB (p:Hp) (s:Mst):Bool:=decide (0<=p.n) && decide (p.n<=7) && decide (0<=p.a) && decide (p.a<=1000000) && decide (0<=p.p) && decide (p.p<=10) && allI s.xs
theorem okB_ok {p:Hp} {s:Mst} (h:okB p s=true):p.Ok/\∀ a,I64 (s.look a):=by
 simp only [okB,Bool.and_eq_true,decide_eq_true_eq] at h;obtain ⟨⟨⟨⟨⟨⟨h1,h2⟩,h3⟩,h4⟩,h5⟩,h6⟩,h7⟩:=h;exact ⟨⟨⟨h1,h2⟩,⟨h3,h4⟩,h5,h6⟩,allI_ok h7⟩
def okR (p:Rd) (s:Mst):Bool:=(match p.c with | none=>true | some q=>okB q s) && allI s.xs
theorem okR_ok {p:Rd} {s:Mst} (h:okR p s=true):(∀ q,p.c=some q->q.Ok)/\∀ a,I64 (s.look a):=by
 simp only [okR,Bool.and_eq_true] at h;refine ⟨fun q hq=>?_,allI_ok h.2⟩
 have:=h.1
 rw [hq] at this;exact (okB_ok this).1
def ir (x:Rd × Mst):Nat->Rd × Mst
 | 0=>x
 | k+1=>(ir x k).1.step (ir x k).2
def irB (x:Rd × Mst) (n:Nat) (l:Bool):Bool:=(List.range n).all fun k=>okR (ir x k).1 (ir x k).2 && ((ir x (k+1)).1.d == (l && k+1 == n))
structure IrOk (x:Rd × Mst) (n:Nat) (l:Bool) (k:Nat):Prop where
 ok:∀ q,(ir x k).1.c=some q->q.Ok
 i64:∀ a,I64 ((ir x k).2.look a)
 d:(ir x (k+1)).1.d=(l && k+1 == n)
theorem ir_ok {x:Rd × Mst} {n:Nat} {l:Bool} (h:irB x n l=true) (k:Nat) (hk:k < n):IrOk x n l k:=by
 have:=List.all_eq_true.1 h k (List.mem_range.2 hk)
 simp only [Bool.and_eq_true,beq_iff_eq] at this;obtain ⟨a,b⟩:=okR_ok this.1;exact ⟨a,b,this.2⟩
theorem ir_step (x:Rd × Mst) (k:Nat):(ir x k).1.step (ir x k).2=((ir x (k+1)).1,(ir x (k+1)).2):=rfl
def kr1:Mst:=⟨[1,0,0,0,0,57,0],20,2,0,0⟩
theorem kr1_is:begun (Mst.new 20)=kr1:=by kernel_rfl
def kr2:Mst:=⟨[1,0,0,0,0,57,0],20,3,0,0⟩
def kr3:Mst:=⟨[1,0,0,0,0,57,0,3,6,57,66,0],20,4,0,0⟩
def krK:Mst:=⟨[1,0,0,0,0,69,0,3,6,57,66,0],20,5,0,0⟩
theorem kr_ok1:irB (Rd.new 6,kr1) 1 true=true:=by kernel_rfl
theorem kr_ok:irB (Rd.new 6,krK) 9 true=true:=by kernel_rfl
set_option maxHeartbeats 2000000 in
theorem known13_c (w:World):Calls Tryz.prog 29 #[] w fun e w'=>e=.returned (.bool true)/\Kept w w':=by
 go_enter Tryz.func29,Tryz.ntmps29;go_wp2_with (fail);refine (now_new w w 20 (Kept.refl w) (by decide) (by decide)).mono ?_;rintro e W1 ⟨rfl,h1,-⟩;have H1:=gh h1;obtain ⟨b,hb⟩:∃ b,w.heap.size=b:=⟨_,rfl⟩;rw [hb] at H1;clear h1;rw [hb];clear hb;go_wp2_with (fail);refine (begin_c w W1 _ _ H1.o rfl (by decide)).mono ?_;rintro e W2 ⟨rfl,h2⟩;have H2:=gh h2;rw [kr1_is] at H2;clear h2 H1;go_wp2_with (fail);refine (rd_new W2 6).mono ?_;rintro e W6 ⟨rfl,p6,k6⟩;obtain ⟨f,hf⟩:∃ f,W2.heap.size=f:=⟨_,rfl⟩;have M6:=gh (H2.o.read k6 p6);rw [hf] at M6;clear p6 k6 H2;rw [hf];clear hf;go_wp2_with (fail);refine (mr_step w W6 b (ir (Rd.new 6,kr1) 0).2 f (ir (Rd.new 6,kr1) 0).1 M6.o (ir_ok kr_ok1 0 (by decide)).ok (ir_ok kr_ok1 0 (by decide)).i64 _ _ true (ir_step _ 0) (by kernel_rfl)).mono ?_;rintro e W7 ⟨rfl,m7⟩;have M7:=gh m7;clear m7 M6;go_wp2_with (fail);refine (mr_word w W7 b _ f _ M7.o 57 (by kernel_rfl)).mono ?_;rintro e W8 ⟨rfl,rfl⟩;have H7:Hid (Now w W7 b kr2):=gh (by have:=M7.o.now;rw [show (ir (Rd.new 6,kr1) (0+1)).2=kr2 by kernel_rfl] at this;exact this);clear M7;go_wp2_with (fail);refine (dcss13 W7 3 6 57 66).mono ?_;intro e W3 hF;obtain ⟨fa,fc,rfl,hr,hc1,hc2,hn,_,hk⟩:=hF.form;have H3:=gh (H7.o.on hk);have HR:=gh hr;have HNB:Hid (∀ ad,fa=some ad->ad.block≠b):=gh (fun ad e=>by have:=hn ad e;have:=H7.o.lt.2;omega);clear hF hr hc1 hc2 hn hk H7;go_wp2_with (fail);refine (now_make w W3 b _ fa [3,6,57,66,0] fc 8 true kr3 H3.o HR.o (by unfold maxLen;decide) (fun _=>HNB.o) (by kernel_rfl) (by kernel_rfl) (by kernel_rfl)).mono ?_;rintro e W4 ⟨rfl,h4⟩;have H4:=gh h4;clear h4 H3 HR HNB;go_wp2_with (fail);refine (now_write w W4 b _ 6 69 krK H4.o (by kernel_rfl)).mono ?_;rintro e W5 ⟨rfl,h5⟩;have H5:=gh h5;clear h5 H4;go_wp2_with (fail);refine (rd_new W5 6).mono ?_;rintro e W6 ⟨rfl,p6,k6⟩;obtain ⟨f,hf⟩:∃ f,W5.heap.size=f:=⟨_,rfl⟩;have M6:=gh (H5.o.read k6 p6);rw [hf] at M6;clear p6 k6 H5;rw [hf];clear hf;go_wp2_with (fail)
 go_loopw [4] (fun vn wr=>∃ k:Nat,k<=8/\vn=.int .i64 ((k:Int)+1)/\Hid (MR w wr b (ir (Rd.new 6,krK) k).2 f (ir (Rd.new 6,krK) k).1)) (fun vn _=>(30 - intOf vn).toNat)
 case atStart=>exact ⟨0,by omega,by simp,M6⟩
 case round=>
  obtain ⟨k,k8,rfl,M7⟩:=hrel;have IK:=gh (ir_ok kr_ok k (by omega));have kk:(k:Int)<=8:=by omega
  have i0:(k:Int)+1 < 30:=by omega
  by_cases hk:k=8
  ·subst hk;clear M6 kk i0 k8;go_wp2_with (fail);refine (mr_step w wr b _ f _ M7.o IK.o.ok IK.o.i64 _ _ true (ir_step _ 8) (by rw [IK.o.d];rfl)).mono ?_;rintro e W8 ⟨rfl,m8⟩;have M8:=gh m8;clear m8 M7;go_wp2_with (fail);refine (mr_word w W8 b _ f _ M8.o 66 (by kernel_rfl)).mono ?_;rintro e W9 ⟨rfl,rfl⟩;go_wp2_with (fail);refine (now_look w W8 b _ 12 1 M8.o.now (by kernel_rfl)).mono ?_;rintro e W9 ⟨rfl,rfl⟩;go_wp2;go_ret;exact ⟨rfl,M8.o.now.2⟩
  ·have i1:(k:Int)+1<=8:=by omega
   clear M6 kk;go_wp2_with (fail);refine (mr_step w wr b _ f _ M7.o IK.o.ok IK.o.i64 _ _ false (ir_step _ k) (by rw [IK.o.d];simp;omega)).mono ?_;rintro e W8 ⟨rfl,m8⟩;have M8:=gh m8;clear m8 M7;go_wp2;exact ⟨⟨k+1,by omega,by simp,M8⟩,by simp only [intOf];omega⟩
end
section
open Go.Shelf
open Sd (Pr)
theorem field_own7 (a c:Value) (W:World):Sem.run Tryz.prog (Instr.field 27 (.agg #[a,c]) 1) W=.ok c W:=by
 first
 | kernel_rfl
 | (unfold Instr.field;simp [Tryz.underlying27,go_sem])
 | rfl
attribute [local go_sem] field_own7
theorem rm_start {w W:World} {y b x mb f:Nat} {m:Mst} {ix:Ixp} {c:Nat} {s:Int} (h:Yx NoP w W y b x mb m ix) (o:YOk m ix c) (hs:∃ nd,(nd,s) ∈ ownL ix.m) (hf:RdAt W f 0 (Rd.new s)) (hn:w.heap.size<=f) (z:Int):Rm w (W.alloc (.cells #[.int .i64 z] 2)) y b x mb f 0 m ix c s (Rd.new s) (200 - 0) (Pr.slot 200 s) (.slice (some ⟨W.heap.size,0,none⟩) 1 1) [z]/\∃ E,E<=9/\1<=E/\∀ j,j < E->(rit s m (j+1)).1.d=decide (j+1=E):=by
 obtain ⟨g,h1,h2⟩:=o.wi;obtain ⟨nd,hs⟩:=hs;obtain ⟨_,_,d,n,i,lo,hi,sl,_⟩:=Sd.own_sl h1 hs;exact ⟨⟨Ym.start h o z,hf.turned (Td.alloc (fun _=>False) _ _) id (fun _=>id),hn,fun e=>(by cases e),RdN.new 200 s,⟨g,h1,h2,Sd.Safe.mono (fun _ _ _ _=>trivial) (Sd.slot_safe 200 sl.ro),trivial⟩,rfl⟩,rit_alone h1 o.xs o.size sl.ro⟩
set_option maxRecDepth 100000 in
set_option maxHeartbeats 4000000 in
theorem readClean_c (w:World) (cells:Int) (a1:Option Addr) (keys:List Int) (c1:Nat) (a2:Option Addr) (l:List Int) (c2:Nat) (at_:Int) (lay:Bool) (a3:Option Addr) (sc:List Int) (c3:Nat) (hr1:Reads w a1 keys) (hc1:keys.length<=c1) (hm1:c1<=maxLen) (hr2:Reads w a2 l) (hc2:l.length<=c2) (hm2:c2<=maxLen) (hi:∀ z ∈ l,I64 z) (hr3:Reads w a3 sc) (hc3:sc.length<=c3) (hi3:∀ z ∈ sc,I64 z) :
  Calls Tryz.prog 7 #[.int .i64 cells,.slice a1 keys.length c1,.slice a2 l.length c2,.int .i64 at_,.bool lay,.slice a3 sc.length c3] w fun e w'=>e=.returned (.bool true)/\Kept w w':=by
 have NW:=ynew_r w cells a1 keys c1 a2 l c2 hr1 hc1 hm1 hr2 hc2 hm2 hi;have HNW:=gh NW;obtain ⟨M3,hM3⟩:∃ M,sc.length=M:=⟨_,rfl⟩;rw [hM3];have HM3:=gh hM3;have HR3:=gh hr3;have HC3:=gh hc3;have HI3:=gh hi3;clear NW hr1 hc1 hm1 hr2 hc2 hm2 hi hM3 hr3 hc3 hi3;go_enter Tryz.func7,Tryz.ntmps7;go_wp2_with (fail);refine HNW.o.mono ?_;rintro e W1 ⟨y,m0,ix0,rfl,hyd,ok0⟩;obtain ⟨b,x,mb,hy⟩:=hyd.sees;have Y0:=gh hy;have O0:=gh ok0;clear hyd ok0 hy HNW
 go_upto_if 25 with (fail)
 go_cut [] (fun wx=>∃ m ix,Hid (Yx NoP w wx y b x mb m ix/\YOk m ix 1680))
 case first=>
  cases lay with
  | false=>
   go_wp2_with (fail)
   go_meet
   exact ⟨m0,ix0,Y0.o,O0.o⟩
  | true=>
   go_wp2_with (fail);refine (lay_x w W1 y b x mb m0 ix0 1680 Y0.o O0.o at_ _).mono ?_;rintro e W2 ⟨r,m1,ix1,rfl,h1,o1⟩;have Y1:=gh h1;have O1:=gh o1;clear h1 o1;go_wp2_with (fail)
   go_meet
   exact ⟨m1,ix1,Y1.o,O1.o⟩
 case rest=>
 obtain ⟨ms,ix,hc⟩:=hcut;have Y:=gh hc.o.1;have O:=gh hc.o.2;clear hc Y0 O0;obtain ⟨_,d1,d2⟩:=Y.o.cells;go_wp2_with (fail);refine (slot_d wc mb ix.m Y.o.dm O.o.ok.1 O.o.sound at_).mono ?_;rintro e W2 ⟨⟨nd,s⟩,hp,rfl,k2⟩;dsimp only;have HP:Hid (∃ nd,(nd,s) ∈ ownL ix.m):=gh ⟨_,hp⟩;have Y2:=gh (Y.o.kept k2);clear hp k2 d1 d2 Y;go_wp2_with (fail);refine (rd_new W2 s).mono ?_;rintro e W3 ⟨rfl,h3,k3⟩;obtain ⟨f,hf⟩:∃ f,W2.heap.size=f:=⟨_,rfl⟩;rw [hf] at h3;rw [hf];have NF:Hid (w.heap.size<=f):=gh (by rw [<- hf];exact Y2.o.since.size);have F3:=gh h3;have Y3:=gh (Y2.o.kept k3);clear h3 k3 hf Y2;obtain ⟨d0,_,_⟩:=Y3.o.cells;obtain ⟨z0,hz0⟩:∃ z,ms.look s=z:=⟨_,rfl⟩;have LG:=gh (lk_p W3 b ms s z0 Y3.o.pm hz0);obtain ⟨R0,E,hE9,hE1,AE⟩:=rm_start Y3.o O.o HP.o F3.o NF.o z0;have M0:=gh R0;have HE:=gh (And.intro hE9 (And.intro hE1 AE));clear hz0 F3 NF R0 hE9 hE1 AE HP;go_wp2_with (fail);refine LG.o.mono ?_;rintro r W5 ⟨rfl,rfl⟩;clear LG d0 Y3 O;go_wp2_with (fail)
 go_loopw [16,17] (fun vv vi wr=>∃ (i g:Nat) (m:Mst) (ix:Ixp) (p:Rd) (A:Pr Int) (zs:List Int),vi=.int .i64 (i:Int)/\i<=80/\Hid (Rm w wr y b x mb f g m ix (1680+2 * i) s p (200 - i) A vv zs)/\Hid (zs.length<=1+2 * i/\(p.d=true->p.w=m.look s/\kd p.w≠5/\p.w ∈ zs))/\Hid (M3=0->i<=E/\p=(rit s ms i).1/\m=(rit s ms i).2/\p.d=decide (i=E))) (fun _ vi _=>80 - (intOf vi).toNat)
 case atStart=>exact ⟨0,_,_,_,_,_,_,rfl,by omega,M0,gh ⟨by simp,fun e=>by cases e⟩,gh (fun _=>⟨by omega,rfl,rfl,by
  have:=HE.o.2.1
  have:¬ 0=E:=by omega
  simp [this,Rd.new]⟩)⟩
 case round=>
  obtain ⟨i,g,m,ix,p,A,zs,rfl,hi,M,B,AL⟩:=hrel;clear M0;obtain ⟨dn,hdn⟩:∃ dn,p.d=dn:=⟨_,rfl⟩;have DN:Hid (∀ V,Kept wr V->Calls Tryz.prog 31 #[.pointer (some ⟨f,0,none⟩)] V fun e w'=>e=.returned (.bool dn)/\V=w'):=gh (fun V k=>rd_done V f g p (M.o.fr.turned k id (fun _=>id)) dn hdn);have HD:=gh hdn;clear hdn
  by_cases hgo:dn=false/\i < 80
  ·obtain ⟨rfl,i8⟩:=hgo;have j1:(i:Int) < 80:=by omega
   have k9:200 - i=(199 - i)+1:=by omega
   rw [k9] at M;clear k9;obtain ⟨d0,_,_⟩:=M.o.ym.yx.cells;have ST:=gh (rm_step M.o HD.o);obtain ⟨p1,hp1⟩:∃ p1,(p.step m).1=p1:=⟨_,rfl⟩;obtain ⟨m1,hm1⟩:∃ m1,(p.step m).2=m1:=⟨_,rfl⟩;have EN:Hid (p1.d=true->p1.w=m1.look s/\kd p1.w≠5):=gh (fun e=>by
    have:=Rd.step_end p m HD.o (by rw [hp1];exact e)
    rw [hp1,hm1,M.o.ps] at this;exact this)
   have AN:Hid (M3=0->i+1<=E/\p1=(rit s ms (i+1)).1/\m1=(rit s ms (i+1)).2/\p1.d=decide (i+1=E)):=gh (fun e=>by
    obtain ⟨q1,q2,q3,q4⟩:=AL.o e;have ne:i≠E:=fun h=>by rw [HD.o,h] at q4;simp at q4
    have f1:p1=(rit s ms (i+1)).1:=by rw [<- hp1,q2,q3];rfl
    have f2:m1=(rit s ms (i+1)).2:=by rw [<- hm1,q2,q3];rfl
    exact ⟨by omega,f1,f2,by rw [f1];exact HE.o.2.2 i (by omega)⟩)
   rw [hp1,hm1] at ST;clear hp1 hm1 AL M;obtain ⟨r1,hr1⟩:∃ r1,p1.d=r1:=⟨_,rfl⟩;rw [hr1] at ST;have HR1:=gh hr1;clear hr1;go_wp2_with (fail);refine (DN.o wr (Td.refl _ _)).mono ?_;rintro r w' ⟨rfl,rfl⟩;go_wp2_with (fail);refine ST.o.mono ?_;rintro r V1 ⟨rfl,A1,g1,R1⟩;have BK:=gh (rm_back R1);clear R1 ST DN d0;go_wp2_with (fail);refine BK.o.mono ?_;rintro r V2 ⟨rfl,ix2,R2⟩;have H2:=gh R2;clear R2 BK;obtain ⟨d0,_,_⟩:=H2.o.ym.yx.cells;obtain ⟨z,hz⟩:∃ z,m1.look s=z:=⟨_,rfl⟩;have LG:=gh (lk_p V2 b m1 s z H2.o.ym.yx.pm hz);have HZ:=gh hz;clear hz;go_wp2_with (fail);refine LG.o.mono ?_;rintro r w' ⟨rfl,rfl⟩;clear LG d0;go_wp2_with (at_builtin;refine Stop.out ?_);refine ⟨?_⟩;refine wpList_append_ym rfl _ _ rfl rfl rfl H2.o.ym (by have:=B.o.1;omega) ?_;intro v3 V3 Y3 t3;have H3:Hid (Rm w V3 y b x mb f g1 m1 ix2 (1680+2 * i) s p1 (199 - i) A1 v3 (zs++[z])):=gh ⟨Y3,H2.o.fr.turned t3 (Row.rd H2.o.ym.row H2.o.fr).1 (Row.rd H2.o.ym.row H2.o.fr).2,H2.o.nf,H2.o.ng,H2.o.t,H2.o.wx,H2.o.ps⟩;clear Y3 t3 H2;have e9:199 - i=200 - (i+1):=by omega
   have NX:Hid (Rm w V3 y b x mb f g1 m1 ix2 (1680+2 * (i+1)) s p1 (200 - (i+1)) A1 v3 (zs++[z])):=gh (e9 ▸ H3.o.le (by omega));have NB:Hid ((zs++[z]).length<=1+2 * (i+1)/\(p1.d=true->p1.w=m1.look s/\kd p1.w≠5/\p1.w ∈ zs++[z])):=gh ⟨by rw [List.length_append];have:=B.o.1;simp;omega,fun e=>by
    obtain ⟨q1,q2⟩:=EN.o e;exact ⟨q1,q2,by rw [q1,HZ.o];simp⟩⟩
   have D3:=gh (rd_done V3 f g1 p1 H3.o.fr r1 HR1.o);clear e9
   by_cases hs:i < M3
   ·have j2:(i:Int) < (M3:Int):=by omega
    cases r1 with
    | true=>
     clear H3;go_wp2_with (fail);refine D3.o.mono ?_;rintro r w' ⟨rfl,rfl⟩;clear D3;go_wp2;exact ⟨⟨i+1,g1,m1,ix2,p1,A1,zs++[z],by simp,by omega,NX,NB,AN⟩,by simp only [intOf];omega⟩
    | false=>
     obtain ⟨n,hn⟩:∃ n,sc[i]? = some n:=⟨_,List.getElem?_eq_getElem (by rw [HM3.o];exact hs)⟩;obtain ⟨bl,off,rfl,hbl,hcell0⟩:=HR3.o.at hn;have hcell:=H3.o.ym.yx.since.cell hcell0 id;have j3:i < c3:=by have:=HC3.o;have:=HM3.o;omega
     have NI:Hid (I64 n):=gh (HI3.o n (List.mem_of_getElem? hn));have b1:-9223372036854775808<=n/\n<=9223372036854775807:=NI.o;clear hn hcell0 hbl NX;go_wp2_with (fail);refine D3.o.mono ?_;rintro r w' ⟨rfl,rfl⟩;go_wp2_with (fail);refine (rm_pick H3.o (by omega) n NI.o).mono ?_;rintro r V4 ⟨rfl,m4,ix4,R4⟩;have H4:=gh R4;clear R4 D3 H3 hcell b1;obtain ⟨d0,_,_⟩:=H4.o.ym.yx.cells;obtain ⟨z4,hz4⟩:∃ z,m4.look s=z:=⟨_,rfl⟩;have LG:=gh (lk_p V4 b m4 s z4 H4.o.ym.yx.pm hz4);clear hz4;go_wp2_with (fail);refine LG.o.mono ?_;rintro r w' ⟨rfl,rfl⟩;clear LG d0;go_wp2_with (at_builtin;refine Stop.out ?_);refine ⟨?_⟩;refine wpList_append_ym rfl _ _ rfl rfl rfl H4.o.ym (by rw [List.length_append];have:=B.o.1;simp;omega) ?_;intro v5 V5 Y5 t5;have e9:199 - i=200 - (i+1):=by omega
     have H5:Hid (Rm w V5 y b x mb f g1 m4 ix4 (1680+2 * (i+1)) s p1 (200 - (i+1)) A1 v5 (zs++[z]++[z4])):=gh ⟨Y5.le (by omega),H4.o.fr.turned t5 (Row.rd H4.o.ym.row H4.o.fr).1 (Row.rd H4.o.ym.row H4.o.fr).2,H4.o.nf,H4.o.ng,e9 ▸ H4.o.t,H4.o.wx,H4.o.ps⟩;clear Y5 t5 H4 e9;go_wp2;exact ⟨⟨i+1,g1,m4,ix4,p1,A1,zs++[z]++[z4],by simp,by omega,H5,gh ⟨by rw [List.length_append,List.length_append];have:=B.o.1;simp;omega,fun e=>by rw [HR1.o] at e;cases e⟩,gh (fun e=>by omega)⟩,by simp only [intOf];omega⟩
   ·have j2:¬ ((i:Int) < (M3:Int)):=by omega
    clear D3 H3;go_wp2_with (fail);exact ⟨⟨i+1,g1,m1,ix2,p1,A1,zs++[z],by simp,by omega,NX,NB,AN⟩,by simp only [intOf];omega⟩
  ·cases dn with
   | true=>
    obtain ⟨wd,hwd⟩:∃ wd,p.w=wd:=⟨_,rfl⟩;obtain ⟨q1,q2,q3⟩:=B.o.2 HD.o;rw [hwd] at q1 q2 q3;have WD:Hid (∀ V,Kept wr V->Calls Tryz.prog 32 #[.pointer (some ⟨f,0,none⟩)] V fun e w'=>e=.returned (.int .i64 wd)/\V=w'):=gh (fun V k=>rd_word V f g p (M.o.fr.turned k id (fun _=>id)) wd hwd);obtain ⟨kq,hkq⟩:∃ kq,kd wd=kq:=⟨_,rfl⟩;have KK:Hid (∀ V,Calls Tryz.prog 35 #[.int .i64 wd] V fun e w'=>e=.returned (.int .i64 kq)/\V=w'):=gh (fun V=>kk_p V wd kq (by rw [q1];exact M.o.ym.ok.ok.2.look s) hkq);have LK:Hid (∀ V,Kept wr V->Calls Tryz.prog 33 #[.pointer (some ⟨b,0,none⟩),.int .i64 s] V fun e w'=>e=.returned (.int .i64 wd)/\V=w'):=gh (fun V k=>lk_p V b m s wd (M.o.ym.yx.kept k).pm q1.symm);have g5:(kq != 5)=true:=by rw [<- hkq];simpa using q2
    have CY:Hid (∀ V,Kept wr V->V.cell? ⟨y,0,none⟩=some (.pointer (some ⟨b,0,none⟩))):=gh (fun V k=>(M.o.ym.yx.kept k).cells.1);have IN:=gh q3;have ZL:Hid (zs.length<=161):=gh (by have:=B.o.1;omega);obtain ⟨av,cap,rfl,hrd,hcp,_,_⟩:=M.o.ym.row.reads;obtain ⟨N,hN⟩:∃ N,zs.length=N:=⟨_,rfl⟩;rw [hN] at ZL;rw [hN];have HRD:=gh hrd;have HCP:Hid (N<=cap):=gh (hN ▸ hcp);have HN:=gh hN;have MK:Hid (Kept w wr):=gh M.o.ym.yx.since;clear hrd hcp hwd M hN HD q1 q2 q3 hkq B AL
    by_cases i8:i < 80
    ·have j1:(i:Int) < 80:=by omega
     go_wp2_with (fail);refine (DN.o wr (Td.refl _ _)).mono ?_;rintro r w' ⟨rfl,rfl⟩;go_wp2_with (fail);refine (DN.o wr (Td.refl _ _)).mono ?_;rintro r w' ⟨rfl,rfl⟩;go_wp2_with (fail)
     go_loopw [18,109] (fun vm vi wx=>∃ (t:Nat) (mt:Bool),t<=N/\vi=.int .i64 (t:Int)/\vm=.bool mt/\Hid (mt=decide (wd ∈ zs.take t))/\wx=wr) (fun _ vi _=>N - (intOf vi).toNat)
     case atStart=>exact ⟨0,false,by omega,rfl,rfl,gh (by simp),rfl⟩
     case round=>
      obtain ⟨t,mt,ht,rfl,rfl,MT,rfl⟩:=hrel;have tN:N<=161:=ZL.o
      by_cases hs:t < N
      ·obtain ⟨z,hz⟩:∃ z,zs[t]? = some z:=⟨_,List.getElem?_eq_getElem (by rw [HN.o];exact hs)⟩;obtain ⟨bl,off,rfl,hbl,hcell⟩:=HRD.o.at hz;have q1:(t:Int) < (N:Int):=by omega
       have q2:t < cap:=by have:=HCP.o;omega
       have HZ:=gh hz;clear hz;cases mt with
       | true=>
        go_wp2_with (fail);exact ⟨⟨t+1,true,by omega,by simp,rfl,gh (by rw [mem_take_succ HZ.o,<- MT.o];rfl),trivial⟩,by simp only [intOf];omega⟩
       | false=>
        go_wp2_with (fail);refine (WD.o wr (Td.refl _ _)).mono ?_;rintro r w' ⟨rfl,rfl⟩;obtain ⟨eq,heq⟩:∃ eq,(z == wd)=eq:=⟨_,rfl⟩;have NM:Hid (eq=decide (wd ∈ zs.take (t+1))):=gh (by rw [mem_take_succ HZ.o,<- MT.o,heq];rfl);go_wp2_with (fail);exact ⟨⟨t+1,eq,by omega,by simp,by rw [<- heq],NM,trivial⟩,by simp only [intOf];omega⟩
      ·obtain rfl:t=N:=by omega
       have q1:¬ ((t:Int) < (t:Int)):=by omega
       have e1:mt=true:=by
        rw [MT.o,List.take_of_length_le (by rw [HN.o];exact Nat.le_refl _)];exact decide_eq_true IN.o
       subst e1;go_wp2_with (fail);refine (known13_c wr).mono ?_;rintro r V ⟨rfl,kV⟩;have KV:=gh kV;clear kV;go_wp2_with (fail);refine (WD.o V KV.o).mono ?_;rintro r w' ⟨rfl,rfl⟩;go_wp2_with (fail);refine (KK.o V).mono ?_;rintro r w' ⟨rfl,rfl⟩
       by_cases m0:M3=0
       ·have n0:¬ ((0:Int) < (M3:Int)):=by omega
        have d0:=CY.o V KV.o;have g1:(wd == wd)=true:=by simp
        go_wp2_with (fail);refine (LK.o V KV.o).mono ?_;rintro r w' ⟨rfl,rfl⟩;go_wp2_with (fail);refine (WD.o V KV.o).mono ?_;rintro r w' ⟨rfl,rfl⟩;go_wp2;go_ret;exact ⟨rfl,MK.o.trans KV.o⟩
       ·have n0:(0:Int) < (M3:Int):=by omega
        go_wp2;go_ret;exact ⟨rfl,MK.o.trans KV.o⟩
    ·have j1:¬ ((i:Int) < 80):=by omega
     go_wp2_with (fail);refine (DN.o wr (Td.refl _ _)).mono ?_;rintro r w' ⟨rfl,rfl⟩;go_wp2_with (fail)
     go_loopw [18,109] (fun vm vi wx=>∃ (t:Nat) (mt:Bool),t<=N/\vi=.int .i64 (t:Int)/\vm=.bool mt/\Hid (mt=decide (wd ∈ zs.take t))/\wx=wr) (fun _ vi _=>N - (intOf vi).toNat)
     case atStart=>exact ⟨0,false,by omega,rfl,rfl,gh (by simp),rfl⟩
     case round=>
      obtain ⟨t,mt,ht,rfl,rfl,MT,rfl⟩:=hrel;have tN:N<=161:=ZL.o
      by_cases hs:t < N
      ·obtain ⟨z,hz⟩:∃ z,zs[t]? = some z:=⟨_,List.getElem?_eq_getElem (by rw [HN.o];exact hs)⟩;obtain ⟨bl,off,rfl,hbl,hcell⟩:=HRD.o.at hz;have q1:(t:Int) < (N:Int):=by omega
       have q2:t < cap:=by have:=HCP.o;omega
       have HZ:=gh hz;clear hz;cases mt with
       | true=>
        go_wp2_with (fail);exact ⟨⟨t+1,true,by omega,by simp,rfl,gh (by rw [mem_take_succ HZ.o,<- MT.o];rfl),trivial⟩,by simp only [intOf];omega⟩
       | false=>
        go_wp2_with (fail);refine (WD.o wr (Td.refl _ _)).mono ?_;rintro r w' ⟨rfl,rfl⟩;obtain ⟨eq,heq⟩:∃ eq,(z == wd)=eq:=⟨_,rfl⟩;have NM:Hid (eq=decide (wd ∈ zs.take (t+1))):=gh (by rw [mem_take_succ HZ.o,<- MT.o,heq];rfl);go_wp2_with (fail);exact ⟨⟨t+1,eq,by omega,by simp,by rw [<- heq],NM,trivial⟩,by simp only [intOf];omega⟩
      ·obtain rfl:t=N:=by omega
       have q1:¬ ((t:Int) < (t:Int)):=by omega
       have e1:mt=true:=by
        rw [MT.o,List.take_of_length_le (by rw [HN.o];exact Nat.le_refl _)];exact decide_eq_true IN.o
       subst e1;go_wp2_with (fail);refine (known13_c wr).mono ?_;rintro r V ⟨rfl,kV⟩;have KV:=gh kV;clear kV;go_wp2_with (fail);refine (WD.o V KV.o).mono ?_;rintro r w' ⟨rfl,rfl⟩;go_wp2_with (fail);refine (KK.o V).mono ?_;rintro r w' ⟨rfl,rfl⟩
       by_cases m0:M3=0
       ·have n0:¬ ((0:Int) < (M3:Int)):=by omega
        have d0:=CY.o V KV.o;have g1:(wd == wd)=true:=by simp
        go_wp2_with (fail);refine (LK.o V KV.o).mono ?_;rintro r w' ⟨rfl,rfl⟩;go_wp2_with (fail);refine (WD.o V KV.o).mono ?_;rintro r w' ⟨rfl,rfl⟩;go_wp2;go_ret;exact ⟨rfl,MK.o.trans KV.o⟩
       ·have n0:(0:Int) < (M3:Int):=by omega
        go_wp2;go_ret;exact ⟨rfl,MK.o.trans KV.o⟩
   | false=>
    have i8:¬ i < 80:=fun e=>hgo ⟨rfl,e⟩;have j1:¬ ((i:Int) < 80):=by omega
    have m0:¬ M3=0:=fun e=>by have:=(AL.o e).1;have:=HE.o.1;omega
    have n0:(0:Int) < (M3:Int):=by omega
    have MK:Hid (Kept w wr):=gh M.o.ym.yx.since;clear M B AL HD;go_wp2_with (fail);refine (DN.o wr (Td.refl _ _)).mono ?_;rintro r w' ⟨rfl,rfl⟩;go_wp2_with (fail);refine (known13_c wr).mono ?_;rintro r V ⟨rfl,kV⟩;have KV:=gh kV;clear kV;go_wp2;go_ret;have pm:0 < M3:=by omega
    exact ⟨by simp [pm],MK.o.trans KV.o⟩
end
end Go.Proofs.YtoaicedkepcalaaGreat
