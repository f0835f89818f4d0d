/-
  What the proof of YtibnlaihiahjpaaGreatViewOrderProof goes by, part 9 of 11: contracts and plain facts; each part begins with its own sentence. No conditions beyond each theorem's own.
-/
import Derived.Test.YtibnlaihiahjpaaGreatV8
namespace Go.Proofs.YtibnlaihiahjpaaGreat
open Go.RowKit
section
open Go.Shelf
structure c0G (s s':Mst):Prop where
 size:s'.size=s.size
 len:s.xs.length<=s'.xs.length
theorem c0G.refl (s:Mst):c0G s s:=⟨rfl,Nat.le_refl _⟩
theorem c0G.trans {s s' s'':Mst} (h:c0G s s') (h':c0G s' s''):c0G s s'':=⟨h'.size.trans h.size,Nat.le_trans h.len h'.len⟩
theorem Mst.touch_grew (m:Mst) (a:Int):c0G m (m.touch a):=by unfold Mst.touch;split <;> exact ⟨rfl,Nat.le_refl _⟩
theorem Mst.write_grew (m:Mst) (a x:Int):c0G m (m.write a x):=by
 unfold Mst.write;refine (m.touch_grew a).trans ?_;unfold Mst.put
 split
 ·exact ⟨rfl,by simp⟩
 ·exact c0G.refl _
theorem Mst.make_grew (m:Mst) (w:List Int):c0G m (m.make w):=by
 unfold Mst.make
 split
 ·exact ⟨rfl,by simp⟩
 ·exact ⟨rfl,Nat.le_refl _⟩
theorem Mst.doA_grew (m:Mst) (q:Ak):c0G m (m.doA q).2:=by
 have hc:∀ a o x,c0G m (m.cas a o x):=fun a o x=>by
  unfold Mst.cas
  split
  ·exact m.write_grew _ _
  ·exact m.touch_grew _
 unfold Mst.doA
 split
 ·exact m.touch_grew _
 ·split
  ·exact m.write_grew _ _
  ·split
   ·exact hc _ _ _
   ·split
    ·exact m.write_grew _ _
    ·split
     ·exact m.make_grew _
     ·exact c0G.refl _
theorem o0T {L:Mst->List (Int × Int)->Int × Mst} (hL:∀ s ps,c0G s (L s ps).2) (ps:List (Int × Int)) (s:Mst):∀ n,c0G s (kidF L ps s n).2
 | 0=>c0G.refl s
 | n+1=>(o0T hL ps s n).trans (hL _ _)
theorem o0Q:∀ (f:Nat) (s:Mst) (ps:List (Int × Int)),c0G s (layF f s ps).2
 | 0,s,_=>c0G.refl s
 | f+1,s,ps=>by
  rw [f0X]
  split
  ·exact s.make_grew _
  ·split
   ·exact s.make_grew _
   ·exact (o0T (fun s ps=>o0Q f s ps) ps s _).trans (Mst.make_grew _ _)
theorem l0G (s:Mst) (ps:List (Int × Int)):c0G s (c0B s ps).2:=by
 unfold c0B
 split
 ·exact o0Q _ _ _
 ·exact c0G.refl s
namespace Ixp
theorem loadZ_grew (ix:Ixp) (ps:List (Int × Int)):c0G ix.m (ix.loadZ ps).2.m:=by
 unfold loadZ
 repeat' split
 all_goals first
  | exact c0G.refl _
  | exact l0G _ _
  | exact (l0G _ _).trans (Mst.write_grew _ _ _)
theorem t0S (p:Fp) (m:Mst):c0G m (p.step m).2:=by
 unfold Fp.step
 split
 ·exact c0G.refl _
 ·exact m.doA_grew _
theorem m0D (ix:Ixp) (j:Nat):c0G ix.m (ix.pickZ j).2.m:=by
 unfold pickZ
 split
 ·exact c0G.refl _
 ·rename_i q _
  split
  ·exact c0G.refl _
  ·rename_i p _
   split
   ·dsimp only;rw [(takesL_keeps _ _ _).2.2];show c0G ix.m (q.step p ix.m).2.2;rw [(tstep_fr q p ix.m).2.2.1];exact t0S p ix.m
   ·exact c0G.refl _
theorem s0A (j:Nat):∀ (n:Nat) (ix:Ixp),c0G ix.m (doZ j n ix).m
 | 0,_=>c0G.refl _
 | n+1,ix=>by
  rw [doZ]
  split
  ·exact m0D ix j
  ·exact (m0D ix j).trans (s0A j n _)
theorem v0G (ix:Ixp) (j:Nat) (k key val:Int):(ix.invokeZ j k key val).m=ix.m:=by
 unfold invokeZ
 split
 ·rfl
 ·split <;> rfl
theorem w0L (ix:Ixp) (z:Int):c0G ix.m (ix.actZ z).m:=by
 unfold actZ;dsimp only
 split
 ·exact s0A _ _ _
 ·rw [v0G];exact c0G.refl _
theorem fold_grew:∀ (L:List Int) (ix:Ixp),c0G ix.m (L.foldl actZ ix).m
 | [],_=>c0G.refl _
 | z :: L,ix=>(w0L ix z).trans (fold_grew L _)
end Ixp
theorem p0O (cells:Int) (keys l:List Int):(f0H cells keys l).m.size=150+cells % 650/\7<=(f0H cells keys l).m.xs.length:=by
 have h1:=Ixp.loadZ_grew (Ixp.fresh (150+cells % 650) 2 3) (Mp.pairsP (keys.take 20));have h2:=Ixp.fold_grew (l.take 70) (e0J cells keys);have h3:c0G (d0V (Mst.new (150+cells % 650))) (f0H cells keys l).m:=h1.trans h2;exact ⟨h3.size,h3.len⟩
theorem Wrl.mem {w W:World} {x mb tb:Nat} {ix:Ixp} (h:Wrl w W x mb tb ix):∃ v,DMem W w.heap.size mb v ix.m/\ix.m.ok/\W.cell? ⟨x,3,none⟩=some (.pointer (some ⟨mb,0,none⟩)):=by
 obtain ⟨mv,tv,lv,pz,I⟩:=h.ixs;exact ⟨mv,I.mem,I.mok,I.cells.1.1⟩
theorem cp_ok {s:Mst} (h:s.ok) (hl:(s.xs.length:Int)<=s.size):(cp s).ok:=⟨by rw [cp_xs hl];exact h.1,by rw [cp_xs hl];exact h.2⟩
end
section
open Go.Shelf
attribute [local go_sem] Oper.semAt_some
theorem PRow.form {w:World} {n₀:Nat} {E:TypeId} {v:Value} {xs:List (Int × Int)} (h:PRow w n₀ E v xs):∃ a cap,v=.slice a xs.length cap/\a0P w a xs/\xs.length<=cap/\cap<=maxLen/\(a=none->cap=0)/\∀ ad,a=some ad->n₀<=ad.block/\ad.block < w.heap.size:=by
 obtain ⟨a,cap,rfl,h1,h2,h3,h4,h5⟩:=h.reads;refine ⟨a,cap,rfl,h1,h2,h3,h4,fun ad e=>⟨h5 ad e,?_⟩⟩;subst e;rcases h.2 with ⟨e,_⟩ | ⟨g,cap',cur,e,hg,hh,_⟩
 ·cases e
 ·cases e;exact (Array.getElem?_eq_some_iff.1 hh).1
theorem leaves_k (w:World) (b:Nat) :
  Calls Tryz.prog 18 #[.pointer (some ⟨b,0,none⟩)] w fun e w'=>∃ B1,e=.returned (.func (.func 70) #[] #[.pointer (some ⟨B1,0,none⟩)])/\Kept w w'/\Boxed w' B1 23 (.pointer (some ⟨b,0,none⟩))/\w.heap.size<=B1:=by
 go_enter Tryz.func18,Tryz.ntmps18;go_wp2;go_ret;exact ⟨_,rfl,(Kept.refl w).alloc _,Boxed.new w 23 _,Nat.le_refl _⟩
set_option maxHeartbeats 4000000 in
set_option maxRecDepth 20000 in
theorem leaves_i (w W:World) (hk:Kept w W) (b:Nat) (s:Mst) (hM:PM w b s) (ho:s.ok) (xs:List (Int × Int)) (hxs:d0H s (s.logicZ 6)=xs) (hl:xs.length<=100000) (B1:Nat) (h1:Boxed W B1 23 (.pointer (some ⟨b,0,none⟩))) :
  Iter Tryz.prog 70 #[.pointer (some ⟨B1,0,none⟩)] enc2 xs (t0A w B1) W:=by
 intro l O₀ J Jx hR gJ gJx hY h0;obtain ⟨V,hV⟩:∃ V,W.drew=V:=⟨_,rfl⟩;have kV:Kept W V:=by rw [<- hV];exact Kept.drew _
 have x0:∀ u:Wd (fun U=>Kept V U),u.w.cell? ⟨B1,0,none⟩=some (.pointer (some ⟨b,0,none⟩)):=fun u=>u.ok.cell (kV.cell h1.cell id) id;obtain ⟨r,hr⟩:∃ r,s.logicZ 6=r:=⟨_,rfl⟩;rw [hr] at hxs;have HR:=gh hr;have HX:=gh hxs;have HI:Hid (I64 r):=gh (by rw [<- hr];exact ho.logic 6);have HM:=gh (hM.kept (hk.trans kV));have HO:=gh ho;have HY:=gh hY;have GJ:=gh gJ;have HV:=gh hV;have KV:=gh kV;have H0:=gh h0;obtain ⟨M,hMM⟩:∃ M,xs.length=M:=⟨_,rfl⟩;have HMM:=gh hMM;have ml:(M:Int)<=100000:=by omega
 have O0:Hid (∀ k,O₀ k->k < W.heap.size):=gh (gJ.within _ _ _ h0);clear hM ho hY h0 hk hR hxs hr hl hMM h1 hV kV gJ gJx;refine (callsIn_wide (n:=10)).1 ?_;refine callsIn_of_wp Tryz.func70 rfl trivial ?_ rfl;simp only [Tryz.ntmps70,List.size_toArray,List.length_cons,List.length_nil,Nat.reduceAdd,Nat.reduceSub,Array.replicate_succ,Array.replicate_zero,List.push_toArray,List.append_toArray,List.nil_append,List.cons_append];gi_wp2_with (fail);refine k0D [0,1,5,2,3,4] (fun U=>Kept V U) (by kernel_rfl) (by kernel_rfl) (by rw [HV.o];exact Kept.refl _) (fun _=>?_);rw [HV.o]
 repeat (refine pq rfl rfl ?_;go_big_quiet_step (fail);refine wpQuiet_nil ?_)
 refine pl rfl rfl ?_;gi_wp2_with (fail);refine ⟨trivial,?_⟩;refine (callsIn_wide.2 (f0W V b s 6 r HM.o HO.o HR.o)).mono ?_;rintro e U ⟨rfl,rfl⟩;gi_wp2_with (fail);refine ⟨Wd.mem (Kept.refl _),?_⟩;refine pl rfl rfl ?_;gi_wp2_with (fail);refine ⟨trivial,?_⟩;refine (callsIn_wide.2 (l0D V b s r HM.o HO.o HI.o xs HX.o)).mono ?_;rintro e W1 ⟨v1,rfl,row1,k1⟩;obtain ⟨a1,c1,rfl,pr1,q1,m1,-,b1⟩:=PRow.form row1;rw [HMM.o] at q1 ⊢;have K1:=gh k1;have KW:=gh (KV.o.trans k1);have PR:=gh pr1;have BB:Hid (∀ ad,a1=some ad->W.heap.size<=ad.block/\ad.block < W1.heap.size):=gh (fun ad e=>⟨Nat.le_trans KV.o.size (b1 ad e).1,(b1 ad e).2⟩);have J1:=gh (GJ.o.abides _ _ _ _ H0.o (KW.o.mono (fun _ _ e=>e.elim)));have mx:(c1:Int)<=9223372036854775807:=by unfold maxLen at m1;omega
 clear row1 k1 pr1 m1 b1 H0;gi_wp2_with (fail);refine ⟨Wd.mem K1.o,?_⟩
 repeat (refine pq rfl rfl ?_;go_big_quiet_step (fail);refine wpQuiet_nil ?_)
 refine a0J ?_;gi_wp2
 gi_loopw [4,10] (fun _ i wr=>∃ (k:Nat) (O:Nat->Prop),k<=M/\i=.int .i64 (k:Int)/\Hid (Sub O O₀ W1.heap.size)/\Hid (Td O₀ W1 wr)/\Hid (J O (xs.take k) wr)) (fun _ i _=>M - (intOf i).toNat)
 case atStart=>exact ⟨0,O₀,by omega,by simp,gh (Sub.refl _ _),gh (Td.refl _ _),gh (by simpa using J1.o)⟩
 case round=>
  obtain ⟨k,O,hk,rfl,HS,HTT,HJ⟩:=hrel;clear J1
  by_cases hkn:k < M
  ·have j1:(k:Int) < (M:Int):=by omega
   obtain ⟨⟨p1,p2⟩,hp⟩:∃ p,xs[k]? = some p:=⟨_,List.getElem?_eq_getElem (by have:=HMM.o;omega)⟩;obtain ⟨bl,off,rfl,_,g1,g2⟩:=(PR.o.turned HTT.o (fun i _ ⟨ad,e1,e2⟩ hi=>by
    have h1:=(BB.o ad e1).1;have h2:=O0.o i hi;omega)).at hp
   simp only at g1 g2;rw [<- Nat.add_assoc] at g2;have j2:k < c1:=by omega
   obtain ⟨A,hA⟩:∃ A,wr.alloc (.cells #[.int .i64 p1,.int .i64 p2] 43)=A:=⟨_,rfl⟩;have kA:Kept wr A:=by rw [<- hA];exact Td.alloc _ _ _
   have hhA:A.heap[wr.heap.size]? = some (.cells #[.int .i64 p1,.int .i64 p2] 43):=by rw [<- hA];exact a0C _ _
   have cA0:A.cell? ⟨wr.heap.size,0,none⟩=some (.int .i64 p1):=by simp [World.cell?,hhA]
   have cA1:A.cell? ⟨wr.heap.size,1,none⟩=some (.int .i64 p2):=by simp [World.cell?,hhA]
   have TA:Td O₀ W1 A:=kA.behind HTT.o;have JA:=GJ.o.abides _ _ _ _ HJ.o (kA.mono (fun _ _ e=>e.elim));obtain ⟨q1',q2'⟩:=n0S hp;obtain ⟨fn,tmps,assign,body,hy,hRd⟩:=HY.o O (xs.take k) (p1,p2) _ A q1' (KW.o.then TA) (HS.o.more KW.o.size) JA;rw [q2'] at hRd;have HRd:=gh hRd;have HAA:=gh hA;have TAA:=gh TA;have SZ:Hid (W1.heap.size<=A.heap.size):=gh TA.size;dsimp only [enc2] at hy;clear q1' q2' hRd hp kA TA JA hhA;gi_wp2_with (fail);refine HRd.o.mono ?_;rintro e W3 ⟨O',hs3,ht3,⟨rfl,hj3⟩ | ⟨rfl,hj3⟩⟩
   ·have S3:=gh (hs3.trans HS.o SZ.o);have T3:=gh (TAA.o.sub ht3 HS.o);have J3:=gh hj3;clear hs3 ht3 hj3 hy HRd HY hA;gi_wp2;exact ⟨⟨k+1,O',by omega,by simp,S3,T3,J3⟩,by simp [intOf];omega⟩
   ·have S3:=gh (hs3.trans HS.o SZ.o);have T3:=gh (TAA.o.sub ht3 HS.o);have J3:=gh hj3;clear hs3 ht3 hj3 hy HRd HY hA;gi_wp2;refine bodyPost_ret (results_none rfl _ _ _) rfl ?_;exact ⟨⟨_,rfl⟩,O',S3.o.more KW.o.size,KW.o.then T3.o,.inr ⟨_,xs.drop (k+1),(List.take_append_drop _ _).symm,J3.o⟩⟩
  ·have hkn':k=M:=by omega
   subst hkn';have j1:¬ ((k:Int) < (k:Int)):=by omega
   gi_wp2
   go_end0
   exact ⟨⟨_,rfl⟩,O,HS.o.more KW.o.size,KW.o.then HTT.o,.inl (by have:=HJ.o;rwa [List.take_of_length_le (by rw [HMM.o];omega)] at this)⟩
end
section
end
section
open Go.Shelf
attribute [local go_sem] Oper.semAt_some
def levF (s:Mst):Nat->Int->Int
 | 0,_=>0
 | f+1,x=>if kd (tgt s x)=3 then 1+(a0M s x).foldl (fun m p=>max m (levF s f (s.logicZ p.2))) 0 else 0
theorem o0P (s:Mst) (f:Nat) (x:Int):levF s (f+1) x=if kd (tgt s x)=3 then 1+(a0M s x).foldl (fun m p=>max m (levF s f (s.logicZ p.2))) 0 else 0:=rfl
def w0A (s:Mst) (x:Int):Int:=if d0D s x=true then levF s (fuel s) x else 0
theorem n0K {α:Type} (g:α->Int) (B:Int) (hg:∀ a,0<=g a/\g a<=B) (L:List α):∀ m,0<=m->m<=B->0<=L.foldl (fun m p=>max m (g p)) m/\L.foldl (fun m p=>max m (g p)) m<=B:=by
 induction L with
 | nil=>intro m h1 h2;exact ⟨h1,h2⟩
 | cons a L ih=>
  intro m h1 h2
  have:=hg a
  rw [List.foldl_cons];exact ih (max m (g a)) (by omega) (by omega)
theorem m0F (s:Mst):∀ (f:Nat) (x:Int),0<=levF s f x/\levF s f x<=f
 | 0,_=>by simp [levF]
 | f+1,x=>by
  unfold levF
  split
  ·have:=n0K (fun p:Int × Int=>levF s f (s.logicZ p.2)) f (fun p=>m0F s f _) (a0M s x) 0 (by omega) (by omega)
   omega
  ·omega
def Deep (n:Nat) (g:Int × Int->Int):Inv (Int × Int):=fun O pre A=>(∀ k,O k↔k=n)/\Boxed A n 3 (.int .i64 (pre.foldl (fun m p=>max m (g p)) 0))
theorem Deep.good (n:Nat) (g:Int × Int->Int):Good (Deep n g):=by
 constructor
 ·rintro O pre A B ⟨hO,hb⟩ ht;exact ⟨hO,ht.boxed hb (fun hn=>hn ((hO n).2 rfl))⟩
 ·rintro O pre A ⟨hO,hb⟩ k hk;rw [(hO k).1 hk];exact hb.lt
set_option maxHeartbeats 2000000 in
theorem r0K:∀ (f:Nat) (w:World) (b:Nat) (s:Mst) (x:Int),PM w b s->s.ok->Wf s f x->f<=100000->
  Calls Tryz.prog 116 #[.pointer (some ⟨b,0,none⟩),.int .i64 x] w fun e w'=>e=.returned (.int .i64 (levF s f x))/\Kept w w'
 | 0,_,_,_,_,_,_,h,_=>h.elim
 | f+1,w,b,s,x,h,ho,hw,hf=>by
  have ih:=r0K f;obtain ⟨hwh,hwk⟩:=hw;obtain ⟨n,hn⟩:∃ n,w.heap.size=n:=⟨_,rfl⟩;obtain ⟨W1,hW1⟩:∃ W1,w.alloc (.cells #[.pointer (some ⟨b,0,none⟩)] 23)=W1:=⟨_,rfl⟩;have t1:Kept w W1:=by rw [<- hW1];exact (Kept.refl w).alloc _
  have z1:W1.heap.size=n+1:=by rw [<- hW1];simp [hn]
  have bM:Boxed W1 n 23 (.pointer (some ⟨b,0,none⟩)):=by rw [<- hW1,<- hn];exact Boxed.new w 23 _
  have K1:=gh t1;have BM:=gh bM;have c0:=bM.cell;have H:=gh h;have HO:=gh ho;have HWH:=gh hwh;have HWK:=gh hwk;have IH:=gh ih;have HN:=gh hn;have Z1:=gh z1;have HF:=gh hf;obtain ⟨t,ht⟩:∃ t,tgt s x=t:=⟨_,rfl⟩;have HT:=gh ht;have HTI:Hid (I64 t):=gh (by rw [<- ht];exact p0S ho hwh.i64);obtain ⟨j,hj⟩:∃ j,kd t=j:=⟨_,rfl⟩;have HJ:=gh hj
  by_cases j3:j=3
  ·obtain ⟨g,hg⟩:∃ g:Int × Int->Int,(fun p=>levF s f (s.logicZ p.2))=g:=⟨_,rfl⟩;have HE:Hid (levF s (f+1) x=1+(a0M s x).foldl (fun m p=>max m (g p)) 0):=gh (by subst hg;rw [o0P,if_pos (by rw [ht,hj];exact j3)]);have HG:Hid (∀ p:Int × Int,levF s f (s.logicZ p.2)=g p):=gh (fun p=>by subst hg;rfl);have GB:Hid (∀ p:Int × Int,0<=g p/\g p<=100000):=gh (fun p=>by rw [<- hg];have:=m0F s f (s.logicZ p.2);have:=HF.o;dsimp only;omega);subst j3;clear t1 bM h ho hwh hwk ih z1 hf ht hj hg;refine c0L Tryz.func116 rfl ?_;simp only [Tryz.ntmps116,List.size_toArray,List.length_cons,List.length_nil,Nat.reduceAdd,Nat.reduceSub,Array.replicate_succ,Array.replicate_zero,List.push_toArray,List.append_toArray,List.nil_append,List.cons_append];go_wp2_with (fail);clear hW1 hn;refine (g0A _ b s x t (H.o.kept K1.o) HWH.o.i64 HT.o).mono ?_;rintro e w' ⟨rfl,rfl⟩;go_wp2_with (fail);refine (kk_p _ t 3 HTI.o HJ.o).mono ?_;rintro e w' ⟨rfl,rfl⟩;have ca:=(Kept.alloc (Kept.refl W1) (.cells #[.int .i64 0] 3)).cell c0 id;go_wp2_with (fail);rw [Z1.o];clear ca;obtain ⟨W2,hW2⟩:∃ W2,W1.alloc (.cells #[.int .i64 0] 3)=W2:=⟨_,rfl⟩;have zz:=Z1.o;have t2:Kept W1 W2:=by rw [<- hW2];exact (Kept.refl W1).alloc _
   have bD:Boxed W2 (n+1) 3 (.int .i64 0):=by rw [<- hW2,<- zz];exact Boxed.new W1 3 _
   have Z2:Hid (W2.heap.size=n+2):=gh (by rw [<- hW2];simp [zz]);have K2:=gh (K1.o.trans t2);have BM2:=gh (t2.boxed BM.o id);have BD:=gh bD;have c0':=BM2.o.cell;clear t2 bD c0;rw [hW2];clear hW2;refine (t0Z W2 b x).mono ?_;rintro e W3 ⟨B1,B2,rfl,k3,b1,b2,l1,l2⟩;have K3:=gh (K2.o.trans k3);have BM3:=gh (k3.boxed BM2.o id);have BD3:=gh (k3.boxed BD.o id);have BB1:=gh b1;have BB2:=gh b2;have L1:Hid (n+2<=B1/\n+2<=B2/\n+2<=W3.heap.size):=gh (by have:=Z2.o;have:=k3.size;omega);clear k3 b1 b2 l1 l2 c0' zz;go_wp2_with (fail);refine j0S (gf:=177) rfl (enters_of Tryz.func177 (by kernel_rfl) rfl) (encs:=enc2) (xs:=a0M s x) (R:=w0N w B1 B2)
    (fun X hX=>u0A w X (K3.o.trans hX) b s H.o HO.o x HWH.o B1 B2 (hX.boxed BB1.o id) (hX.boxed BB2.o id)) (fun _=>rfl)
    (fun k=>k=n+1) (Deep (n+1) g) (fun _ _ _ _=>False) ?hR (Deep.good _ _) (fun _=>g0I) ⟨fun _=>Iff.rfl,by simpa using BD3.o⟩ ?ab ?done (fun _ _ _ _ _ _ _ _ _ _ _ h=>h.elim)
   case hR=>
    rintro k (hk | rfl | rfl)
    ·have h1:=HN.o;have h2:=K3.o.size;exact ⟨by omega,by omega⟩
    ·have:=L1.o
     exact ⟨BB1.o.lt,by omega⟩
    ·have:=L1.o
     exact ⟨BB2.o.lt,by omega⟩
   case ab=>
    apply Exists.intro;refine ⟨?_,?_⟩
    ·intro l' p X K hK;gi_wp2;exact hK
    ·rintro l' O pre ⟨pi,sl⟩ rest B hx' tB sB ⟨hO,bD⟩;obtain ⟨y,hy⟩:∃ y,s.logicZ sl=y:=⟨_,rfl⟩;have HY:=gh hy;have HWF:Hid (Wf s f y):=gh (by
      have:=HWK.o (pi,sl) (by rw [hx'];simp)
      rwa [hy] at this)
     obtain ⟨v,hv⟩:∃ v,g (pi,sl)=v:=⟨_,rfl⟩;have HV:Hid (levF s f y=v):=gh (by rw [<- hy,HG.o (pi,sl)];exact hv);obtain ⟨D,hD⟩:∃ D,pre.foldl (fun m p=>max m (g p)) 0=D:=⟨_,rfl⟩;have HDN:Hid ((pre++[(pi,sl)]).foldl (fun m p=>max m (g p)) 0=max D v):=gh (by rw [List.foldl_append,hD];simp [hv]);rw [hD] at bD;have vb:0<=v/\v<=100000:=by rw [<- hv];exact GB.o _
     have db:0<=D/\D<=100000:=by rw [<- hD];exact n0K g 100000 GB.o pre 0 (by omega) (by omega)
     have KB:Hid (Kept w B):=gh (K3.o.did (by have:=HN.o;omega) tB);obtain ⟨V,hV⟩:∃ V,B.drew=V:=⟨_,rfl⟩;have kV:Kept B V:=by rw [<- hV];exact Kept.drew _
     have KV:=gh kV;have HVV:=gh hV;have bM':=(tB.boxed BM3.o (by omega));have MV:=gh (H.o.kept (KB.o.trans kV));have x0:∀ u:Wd (fun U=>Kept V U),u.w.cell? ⟨n,0,none⟩=some (.pointer (some ⟨b,0,none⟩)):=fun u=>u.ok.cell (kV.cell bM'.cell id) id;have x1:∀ u:Wd (fun U=>Kept V U),u.w.cell? ⟨n+1,0,none⟩=some (.int .i64 D):=fun u=>u.ok.cell (kV.cell bD.cell id) id;have BDV:=gh (kV.boxed bD id);have HOO:=gh hO;clear hx' tB sB hO bD hy hv hD hV kV bM';gi_wp2_with (fail);refine i0N [0,1,2,3,4,5,6] 7 (fun U=>Kept V U) (by kernel_rfl) (by kernel_rfl) (by kernel_rfl) (by rw [HVV.o];exact Kept.refl _) (fun _=>?_);rw [HVV.o]
     repeat (refine lq rfl rfl ?_;go_big_quiet_step (fail);refine wpQuiet_nil ?_)
     refine ll rfl rfl ?_;gi_wp2_with (fail);refine ⟨trivial,?_⟩;refine (callsIn_wide.2 (f0W _ b s sl y MV.o HO.o HY.o)).mono ?_;rintro e U ⟨rfl,rfl⟩;gi_wp2_with (fail);refine ⟨Wd.mem (Kept.refl _),?_⟩;refine ll rfl rfl ?_;gi_wp2_with (fail);refine ⟨trivial,?_⟩;refine (callsIn_wide.2 (IH.o V b s y MV.o HO.o HWF.o (by have:=HF.o;omega))).mono ?_;rw [HV.o];rintro e U ⟨rfl,kU⟩;have KU:=gh kU;have BDU:=gh (kU.boxed BDV.o id);have cD:=BDU.o.cell;have fD:=BDU.o.frozen;clear kU;gi_wp2_with (fail);refine ⟨Wd.mem KU.o,?_⟩;refine ll rfl rfl ?_;gi_wp2;refine ⟨Wd.mem KU.o,?_⟩;refine lz rfl ?_;gi_wp2;refine c0J ?_;gi_wp2;refine ⟨O,Sub.refl _ _,(Td.trans (KV.o.trans KU.o) (Td.setCell (R:=fun k=>k=n+1) _ _ _ rfl) (fun _ h=>h.elim) (fun k _ h=>(HOO.o k).2 h)),HOO.o,?_⟩;rw [HDN.o];exact BDU.o.set _
   case done=>
    rintro D O X hD nD tX sX ⟨hO,bD⟩ hK;obtain ⟨d,hd⟩:∃ d,(a0M s x).foldl (fun m p=>max m (g p)) 0=d:=⟨_,rfl⟩;rw [hd] at bD;have db:0<=d/\d<=100000:=by rw [<- hd];exact n0K g 100000 GB.o _ 0 (by omega) (by omega)
    have HE2:Hid (levF s (f+1) x=1+d):=gh (by rw [HE.o,hd]);have cD:=bD.cell;have HK:=gh hK;have KX:Hid (Kept w X):=gh (K3.o.did (by have:=HN.o;omega) tX);have HDn:Hid (n<=D):=gh (by have:=L1.o;omega);clear hK bD hO nD tX sX hd;go_wp2;refine a0X [D] X ?_ ?_ ?_
    ·intro k hk;simp at hk;rw [hk];exact HK.o
    ·simp
    ·intro X' hX';refine ⟨_,results_tmp rfl _ _ _,by rw [HE2.o];rfl,?_⟩;exact KX.o.own (fun i hi=>by simp at hi;have:=HDn.o;have:=HN.o;omega) hX'
  ·have HE:Hid (levF s (f+1) x=0):=gh (by rw [o0P,if_neg (by rw [ht,hj];exact j3)]);have g1:(j == 3)=false:=by simp [j3]
   have g2:(j != 3)=true:=by simp [j3]
   clear t1 bM h ho hwh hwk ih z1 hf ht hj j3;refine c0L Tryz.func116 rfl ?_;simp only [Tryz.ntmps116,List.size_toArray,List.length_cons,List.length_nil,Nat.reduceAdd,Nat.reduceSub,Array.replicate_succ,Array.replicate_zero,List.push_toArray,List.append_toArray,List.nil_append,List.cons_append];go_wp2_with (fail);clear hW1 hn;refine (g0A _ b s x t (H.o.kept K1.o) HWH.o.i64 HT.o).mono ?_;rintro e w' ⟨rfl,rfl⟩;go_wp2_with (fail);refine (kk_p _ t j HTI.o HJ.o).mono ?_;rintro e w' ⟨rfl,rfl⟩;go_wp2;refine a0X [] _ ?_ ?_ ?_
   ·intro k hk;cases hk
   ·simp
   ·intro X' hX';exact ⟨_,results_tmp rfl _ _ _,by rw [HE.o];rfl,K1.o.trans (hX'.mono fun _ _ h=>by cases h)⟩
theorem depth_p (w:World) (b:Nat) (s:Mst) (x:Int) (h:PM w b s) (ho:s.ok) (hx:I64 x) (d:Int) (e1:w0A s x=d) :
  Calls Tryz.prog 63 #[.pointer (some ⟨b,0,none⟩),.int .i64 x] w fun e w'=>e=.returned (.int .i64 d)/\Kept w w':=by
 have H:=gh h;have HO:=gh ho;have HX:=gh hx;obtain ⟨q,hq⟩:∃ q,d0D s x=q:=⟨_,rfl⟩;have HQ:=gh hq;unfold w0A at e1;rw [hq] at e1;cases q with
 | false=>
  have HE:Hid (d=0):=gh (by rw [<- e1];rfl);clear h ho hx hq e1;go_enter Tryz.func63,Tryz.ntmps63;go_wp2_with (fail);refine (e0P _ b s x H.o HO.o HX.o false HQ.o).mono ?_;rintro e W2 ⟨rfl,k2⟩;have K2:=gh k2;clear k2;go_wp2;go_ret;exact ⟨by rw [HE.o];rfl,K2.o⟩
 | true=>
  have HE:Hid (levF s (fuel s) x=d):=gh e1;have HFU:Hid (fuel s<=100000):=gh (by have:=ho.2;unfold fuel;omega);clear h ho hx hq e1;go_enter Tryz.func63,Tryz.ntmps63;go_wp2_with (fail);refine (e0P _ b s x H.o HO.o HX.o true HQ.o).mono ?_;rintro e W2 ⟨rfl,k2⟩;have K2:=gh k2;clear k2;go_wp2_with (fail);refine (r0K (fuel s) W2 b s x (H.o.kept K2.o) HO.o (f0Y HO.o HQ.o).1 HFU.o).mono ?_;rw [HE.o];rintro e W3 ⟨rfl,k3⟩;have K3:=gh (K2.o.trans k3);clear k3;go_wp2;go_ret;exact ⟨rfl,K3.o⟩
end
section
theorem s0Q (W:World) (b:Nat) (x:Int) (v:Value) (n₀:Nat) (hx:I64 x) (k1:kd x=1) (hr:PRow W n₀ 43 v []) :
  Calls Tryz.prog 117 #[.pointer (some ⟨b,0,none⟩),.int .i64 x,v] W fun e w'=>e=.returned (.bool true)/\W=w':=by
 obtain ⟨la,lc,rfl,_⟩:=hr.reads;have HX:=gh hx;have HK:=gh k1;simp only [List.length_nil];clear hx k1 hr;go_enter Tryz.func117,Tryz.ntmps117;go_wp2_with (fail);refine (kk_p _ x 1 HX.o HK.o).mono ?_;rintro e w' ⟨rfl,rfl⟩;go_wp2;go_ret;exact ⟨rfl,rfl⟩
theorem ideal0_p (w:World) (b:Nat) (s:Mst) (x:Int) (h:PM w b s) (ho:s.ok) (hx:I64 x) (ht:d0D s x=true) (k1:kd x=1) :
  Calls Tryz.prog 64 #[.pointer (some ⟨b,0,none⟩),.int .i64 x] w fun e w'=>e=.returned (.bool true)/\Kept w w':=by
 have H:=gh h;have HO:=gh ho;have HX:=gh hx;have HT:=gh ht;have HK:=gh k1;have HE:Hid (a0V s (fuel s) x=[]):=gh (by
  unfold a0V c0E;rw [if_neg (by rw [k1];decide),c0Q (by rw [tgt,if_neg (by rw [k1];decide),k1];decide)];rfl)
 clear h ho hx ht k1;go_enter Tryz.func64,Tryz.ntmps64;go_wp2_with (fail);refine (e0P _ b s x H.o HO.o HX.o true HT.o).mono ?_;rintro e W2 ⟨rfl,k2⟩;have K2:=gh k2;clear k2;go_wp2_with (fail);refine (i0V W2 b s (H.o.kept K2.o) HO.o (fuel s) x (f0Y HO.o HT.o).1 (f0Y HO.o HT.o).2 [] HE.o).mono ?_;rintro e W3 ⟨v,rfl,hr,k3⟩;have HR:=gh hr;have K3:=gh (K2.o.trans k3);clear hr k3;go_wp2_with (fail);refine (s0Q W3 b x v W2.heap.size HX.o HK.o HR.o).mono ?_;rintro e w' ⟨rfl,rfl⟩;go_wp2;go_ret;exact ⟨rfl,K3.o⟩
theorem Now.pm {w W:World} {b:Nat} {s:Mst} (h:Now w W b s):PM W b s:=by
 obtain ⟨⟨v,h⟩,_⟩:=h;exact ⟨_,_,h⟩
def kn0:Mst:=d0V (Mst.new 9)
theorem kn0_eq:kn0=⟨[1,0,0,0,0,57,0],9,2,0,0⟩:=by kernel_rfl
theorem k0P:kn0.ok:=by
 rw [kn0_eq];refine ⟨?_,by simp⟩;intro z hz;simp at hz;rcases hz with rfl | rfl | rfl | rfl <;> exact ⟨by decide,by decide⟩
theorem v0B:b0A kn0=true:=by decide +kernel
theorem kn0_calm:w0D kn0=true:=by decide +kernel
theorem v0C:kn0.logicZ 6=57:=by decide +kernel
theorem v0A:(if b0A kn0=true then b0K kn0 (fuel kn0) else [])=[(6,57)]:=by decide +kernel
theorem kn0_in:d0D kn0 57=true:=by decide +kernel
theorem q0L:d0H kn0 57=[]:=by decide +kernel
theorem v0D:w0A kn0 57=0:=by decide +kernel
theorem kn0_kind:kd 57=1:=by decide +kernel
set_option maxHeartbeats 1000000 in
set_option maxRecDepth 20000 in
theorem known_c (w:World):Calls Tryz.prog 14 #[] w fun e w'=>e=.returned (.bool true)/\Kept w w':=by
 go_enter Tryz.func14,Tryz.ntmps14;go_wp2_with (fail);refine (u0P w w 9 (Kept.refl w) (by decide) (by decide)).mono ?_;rintro e W1 ⟨rfl,N1,_⟩;obtain ⟨b,hb⟩:∃ b,w.heap.size=b:=⟨_,rfl⟩;rw [hb] at N1 ⊢;clear hb;have M1:=gh N1;clear N1;go_wp2_with (fail);refine (begin_c w W1 b (Mst.new 9) M1.o rfl (by decide)).mono ?_;rintro e W2 ⟨rfl,N2⟩;have K2:=gh N2.2;have M2:Hid (PM W2 b kn0):=gh N2.pm;clear N2 M1;have i57:Hid (I64 57):=gh ⟨by decide,by decide⟩;go_wp2_with (fail);refine (t0T W2 b kn0 M2.o k0P _ v0A).mono ?_;rintro e W3 ⟨v,rfl,hr,k3⟩;obtain ⟨la,lc,hv,hrd,hlc,_⟩:=hr.reads;simp only [List.length_singleton] at hv hlc;subst hv;obtain ⟨bl,off,rfl,_,q0,q1⟩:=hrd.at (j:=0) rfl;have K3:=gh (K2.o.trans k3);have M3:=gh (M2.o.kept k3);have C0:Hid (W3.cell? ⟨bl,off,none⟩=some (.int .i64 6)):=gh (by simpa using q0);have C1:Hid (W3.cell? ⟨bl,off+1,none⟩=some (.int .i64 57)):=gh (by simpa using q1);clear hr k3 hrd q0 q1 K2 M2;go_wp2_with (fail);refine (i0E W3 b kn0 M3.o k0P true v0B).mono ?_;rintro e W4 ⟨rfl,k4⟩;have K4:=gh (K3.o.trans k4);have M4:=gh (M3.o.kept k4);have C0:=gh (k4.cell C0.o id);have C1:=gh (k4.cell C1.o id);clear k4 K3 M3;go_wp2_with (fail);refine (calm_p W4 b kn0 M4.o k0P true kn0_calm).mono ?_;rintro e W5 ⟨rfl,k5⟩;have K5:=gh (K4.o.trans k5);have M5:=gh (M4.o.kept k5);have c0:=k5.cell C0.o id;have c1:=k5.cell C1.o id;clear k5 K4 M4;go_wp2_with (fail);refine (f0W W5 b kn0 6 57 M5.o k0P v0C).mono ?_;rintro e w' ⟨rfl,rfl⟩;go_wp2_with (fail);refine (l0D W5 b kn0 57 M5.o k0P i57.o [] q0L).mono ?_;rintro e W6 ⟨v6,rfl,hr6,k6⟩;obtain ⟨la6,lc6,hv6,_⟩:=hr6.reads;simp only [List.length_nil] at hv6;subst hv6;have K6:=gh (K5.o.trans k6);have M6:=gh (M5.o.kept k6);clear hr6 k6 K5 M5;go_wp2_with (fail);refine (depth_p W6 b kn0 57 M6.o k0P i57.o 0 v0D).mono ?_;rintro e W7 ⟨rfl,k7⟩;have K7:=gh (K6.o.trans k7);have M7:=gh (M6.o.kept k7);clear k7 K6 M6;go_wp2_with (fail);refine (ideal0_p W7 b kn0 57 M7.o k0P i57.o kn0_in kn0_kind).mono ?_;rintro e W8 ⟨rfl,k8⟩;have K8:=gh (K7.o.trans k8);clear k8 K7 M7;go_wp2;go_ret;exact ⟨rfl,K8.o⟩
end
section
open Go.Shelf
attribute [local go_sem] Oper.semAt_some
def MemI (W:World) (n2 bp bm:Nat) (s:Mst):Prop:=∃ v,PMem W n2 bm v s/\∀ k,Foot bm v k->k < bp
theorem MemI.turned {W W':World} {n2 bp bm:Nat} {s:Mst} {R:Nat->Prop} (h:MemI W n2 bp bm s) (t:Td R W W') (hR:∀ k,R k->n2<=k->k < bp->False):MemI W' n2 bp bm s:=by
 obtain ⟨v,hv,hk⟩:=h;exact ⟨v,hv.turned t (fun k e r=>hR k r (hv.lt k e).1 (hk k e)),hk⟩
theorem MemI.kept {W W':World} {n2 bp bm:Nat} {s:Mst} (h:MemI W n2 bp bm s) (t:Kept W W'):MemI W' n2 bp bm s:=h.turned t (fun _ e=>e.elim)
theorem MemI.pm {W:World} {n2 bp bm:Nat} {s:Mst} (h:MemI W n2 bp bm s):PM W bm s:=by
 obtain ⟨v,hv,_⟩:=h;exact ⟨n2,v,hv⟩
def CntN (n N:Nat):Inv (Int × Int):=fun O pre A=>(∀ k,O k↔k=n)/\Boxed A n 3 (.int .i64 (pre.length:Int))/\pre.length<=N
def StopN (n N:Nat) (c0:Code) (c:Code):Inv (Int × Int):=fun O pre A=>(∀ k,O k↔k=n)/\Boxed A n 3 (.int .i64 (N:Int))/\c=c0/\N < pre.length
theorem CntN.good (n N:Nat):Good (CntN n N):=by
 constructor
 ·rintro O pre A B ⟨hO,hb,hl⟩ ht;exact ⟨hO,ht.boxed hb (fun hn=>hn ((hO n).2 rfl)),hl⟩
 ·rintro O pre A ⟨hO,hb,_⟩ k hk;rw [(hO k).1 hk];exact hb.lt
theorem StopN.good (n N:Nat) (c0 c:Code):Good (StopN n N c0 c):=by
 constructor
 ·rintro O pre A B ⟨hO,hb,hl⟩ ht;exact ⟨hO,ht.boxed hb (fun hn=>hn ((hO n).2 rfl)),hl⟩
 ·rintro O pre A ⟨hO,hb,_⟩ k hk;rw [(hO k).1 hk];exact hb.lt
end
section
theorem d0I {N:Nat} {t u:Tk} {a n:Nat} (h:a0Y N t a n=some u):(∀ j,t j=true->u j=true)/\∀ i,i < n->t (a+i)=false/\u (a+i)=true:=by
 unfold a0Y at h
 split at h
 ·rename_i c;simp only [Bool.and_eq_true,decide_eq_true_eq] at c;simp only [Option.some.injEq] at h;subst h;refine ⟨fun j hj=>by simp [b0S,hj],fun i hi=>⟨?_,by simp [b0S];omega⟩⟩;have c3:=c.2;unfold f0E at c3;rw [List.all_eq_true] at c3
  have:=c3 i (by simpa using hi)
  simpa using this
 ·cases h
theorem g0K {s:Mst} {W:Int->Int->Int->Tk->Option Tk} (hW:∀ x l h t u,W x l h t=some u->∀ j,t j=true->u j=true) {a d:Nat} {lo hi:Int}:∀ {n:Nat} {t u:Tk},a0R (kidG s W a d lo hi) n t=some u->∀ j,t j=true->u j=true
 | 0,t,u,h=>by simp [a0R] at h;subst h;exact fun _ e=>e
 | n+1,t,u,h=>by
  rw [a0R,Option.bind_eq_some_iff] at h;obtain ⟨v,h1,h2⟩:=h;intro j hj;have e:=g0K hW h1 j hj;unfold kidG a0G at h2
  split at h2
  ·exact hW _ _ _ _ _ h2 j e
  ·cases h2
theorem j0I (s:Mst):∀ (f:Nat) (x lo hi:Int) (t u:Tk),sndW s f x lo hi t=some u->∀ j,t j=true->u j=true
 | 0,_,_,_,_,_,h=>by cases h
 | f+1,x,lo,hi,t,u,h=>by
  have ih:=j0I s f;rw [b0Y] at h
  split at h
  ·exact (d0I h).1
  ·split at h
   ·split at h
    ·exact (d0I h).1
    ·cases h
   ·split at h
    ·unfold a0W at h
     split at h
     ·cases h
     ·rw [Option.bind_eq_some_iff] at h;obtain ⟨t1,h1,h2⟩:=h
      split at h2
      ·exact fun j hj=>g0K ih h2 j ((d0I h1).1 j hj)
      ·cases h2
    ·split at h
     ·split at h
      ·rw [Option.bind_eq_some_iff] at h;obtain ⟨t1,h1,h2⟩:=h;exact fun j hj=>ih _ _ _ _ _ h2 j ((d0I h1).1 j hj)
      ·cases h
     ·cases h
structure Once (t u:Tk) (L:List (Int × Int)):Prop where
 fresh:∀ p ∈ L,∃ j:Nat,p.1=(j:Int)/\t j=false/\u j=true
 nodup:(L.map Prod.fst).Nodup
theorem Once.nil (t u:Tk):Once t u []:=⟨fun _ h=>(by cases h),List.nodup_nil⟩
theorem o0S {s:Mst} {f a d:Nat} {lo hi:Int} (ih:∀ (x lo hi:Int) (t u:Tk),I64 x->sndW s f x lo hi t=some u->Once t u (a0L s f x)) (ho:s.ok) {t:Tk} (ht:∀ i,i < d->t (a+4+d+i)=true) :
  ∀ (n:Nat) (u:Tk),n<=d->a0R (kidG s (sndW s f) a d lo hi) n t=some u->
   (∀ p ∈ ((List.range n).map (fun i:Nat=>((i:Int),b0C a d i))).flatMap (oneF s f),(∃ i:Nat,i < n/\p.1=b0C a d i)∨∃ j:Nat,p.1=(j:Int)/\t j=false/\u j=true)/\
   ((((List.range n).map (fun i:Nat=>((i:Int),b0C a d i))).flatMap (oneF s f)).map Prod.fst).Nodup
 | 0,u,_,_=>by simp
 | n+1,u,hn,h=>by
  rw [a0R,Option.bind_eq_some_iff] at h;obtain ⟨v,h1,h2⟩:=h;obtain ⟨f1,n1⟩:=o0S ih ho ht n v (by omega) h1;have m1:=g0K (j0I s f) h1;unfold kidG a0G at h2
  split at h2
  ·have o:=ih _ _ _ _ _ (ho.logic _) h2;have m2:=j0I s f _ _ _ _ _ h2;rw [List.range_succ,List.map_append,List.flatMap_append];simp only [List.map_cons,List.map_nil,List.flatMap_cons,List.flatMap_nil,List.append_nil,oneF];refine ⟨fun p hp=>?_,?_⟩
   ·rcases List.mem_append.1 hp with hp | hp
    ·rcases f1 p hp with ⟨i,hi,e⟩ | ⟨j,e,h3,h4⟩
     ·exact .inl ⟨i,by omega,e⟩
     ·exact .inr ⟨j,e,h3,m2 j h4⟩
    ·rcases List.mem_cons.1 hp with rfl | hp
     ·exact .inl ⟨n,by omega,rfl⟩
     ·obtain ⟨j,e,h3,h4⟩:=o.fresh p hp;refine .inr ⟨j,e,?_,h4⟩;cases e':t j with
      | false=>rfl
      | true=>rw [m1 j e'] at h3;cases h3
   ·rw [List.map_append,List.map_cons,List.nodup_append];refine ⟨n1,List.nodup_cons.2 ⟨fun hm=>?_,o.nodup⟩,fun x hx y hy=>?_⟩
    ·obtain ⟨p,hp,e⟩:=List.mem_map.1 hm;obtain ⟨j,e2,h3,_⟩:=o.fresh p hp
     have:j=a+4+d+n:=by unfold b0C at e;omega
     subst this;rw [m1 _ (ht n (by omega))] at h3;cases h3
    ·obtain ⟨p,hp,rfl⟩:=List.mem_map.1 hx;rcases List.mem_cons.1 hy with rfl | hy
     ·rcases f1 p hp with ⟨i,hi,e⟩ | ⟨j,e,h3,h4⟩
      ·rw [e];unfold b0C;omega
      ·intro e';rw [e] at e'
       have:j=a+4+d+n:=by unfold b0C at e';omega
       subst this;rw [ht n (by omega)] at h3;cases h3
     ·obtain ⟨q,hq,rfl⟩:=List.mem_map.1 hy;obtain ⟨j,e,h3,h4⟩:=o.fresh q hq;intro e';rcases f1 p hp with ⟨i,hi,e2⟩ | ⟨j2,e2,h5,h6⟩
      ·have:j=a+4+d+i:=by rw [e,e2] at e';unfold b0C at e';omega
       subst this;rw [m1 _ (ht i (by omega))] at h3;cases h3
      ·have:j=j2:=by omega
       subst this;rw [h6] at h3;cases h3
  ·cases h2
theorem i0B {s:Mst} (ho:s.ok):∀ (f:Nat) (x lo hi:Int) (t u:Tk),I64 x->sndW s f x lo hi t=some u->Once t u (a0L s f x)
 | 0,_,_,_,_,_,_,h=>by cases h
 | f+1,x,lo,hi,t,u,hx,h=>by
  have ih:=i0B ho f;rw [b0Y] at h;have plain:kd x≠3->kd x≠4->Once t u (a0L s (f+1) x):=fun h3 h4=>by
   rw [c0Q (by rw [tgt,if_neg h4];exact h3)];exact Once.nil _ _
  split at h
  ·rename_i k;exact plain (by omega) (by omega)
  ·split at h
   ·rename_i k;exact plain (by omega) (by omega)
   ·split at h
    ·rename_i k3;have e:tgt s x=x:=by rw [tgt,if_neg (by omega)]
     have ha:=a0U x;have ea:(((ad x).toNat:Nat):Int)=ad x:=by omega
     unfold a0W at h;rw [ea] at h
     split at h
     ·cases h
     ·rename_i hd;rw [Option.bind_eq_some_iff] at h;obtain ⟨t1,h1,h2⟩:=h
      split at h2
      ·have tm:=d0I h1;have e3:a0M s x=(List.range (s.look (ad x)).toNat).map (fun i:Nat=>((i:Int),b0C (ad x).toNat (s.look (ad x)).toNat i)):=by
        unfold a0M degN atN;rw [e,if_pos k3]
       rw [a0Q,e3];have at1:∀ i,i < (s.look (ad x)).toNat->t ((ad x).toNat+4+(s.look (ad x)).toNat+i)=false/\t1 ((ad x).toNat+4+(s.look (ad x)).toNat+i)=true:=fun i hi=>by
        have:=tm.2 (4+(s.look (ad x)).toNat+i) (by omega)
        rwa [show (ad x).toNat+(4+(s.look (ad x)).toNat+i)=(ad x).toNat+4+(s.look (ad x)).toNat+i by omega] at this
       obtain ⟨k1,k2⟩:=o0S ih ho (fun i hi=>(at1 i hi).2) _ _ (Nat.le_refl _) h2;refine ⟨fun p hp=>?_,k2⟩;rcases k1 p hp with ⟨i,hi,e'⟩ | ⟨j,e',h3,h4⟩
       ·refine ⟨(ad x).toNat+4+(s.look (ad x)).toNat+i,by rw [e'];unfold b0C;omega,(at1 i hi).1,?_⟩;exact g0K (j0I s f) h2 _ (at1 i hi).2
       ·refine ⟨j,e',?_,h4⟩;cases e2:t j with
        | false=>rfl
        | true=>rw [tm.1 j e2] at h3;cases h3
      ·cases h2
    ·split at h
     ·rename_i k4
      split at h
      ·rename_i k3;rw [Option.bind_eq_some_iff] at h;obtain ⟨t1,h1,h2⟩:=h;have e:tgt s x=s.look (ad x):=by rw [tgt,if_pos k4]
       have hw2:=d0P ho f _ _ _ _ _ (ho.look _) h2;have o:=ih _ _ _ _ _ (ho.look _) h2;rw [<- c0W (by rw [e];exact k3),e,c0R hw2 (by omega)];refine ⟨fun p hp=>?_,o.nodup⟩;obtain ⟨j,e',h3,h4⟩:=o.fresh p hp;refine ⟨j,e',?_,h4⟩;cases e2:t j with
       | false=>rfl
       | true=>rw [(d0I h1).1 j e2] at h3;cases h3
      ·cases h
     ·cases h
theorem p0Y {s:Mst} (ho:s.ok) (h:b0A s=true):((b0K s (fuel s)).map Prod.fst).Nodup:=by
 unfold b0A at h;simp only [Bool.and_eq_true] at h;have h4:=h.2;cases e:a0G s (sndW s (fuel s)) 6 (-9223372036854775808) 9223372036854775807 e0G with
 | none=>rw [e] at h4;cases h4
 | some u=>
  unfold a0G at e
  split at e
  ·have o:=i0B ho _ _ _ _ _ _ (ho.logic _) e;show (6 :: (a0L s (fuel s) (s.logicZ 6)).map Prod.fst).Nodup;refine List.nodup_cons.2 ⟨fun hm=>?_,o.nodup⟩;obtain ⟨p,hp,e2⟩:=List.mem_map.1 hm;obtain ⟨j,e3,h3,_⟩:=o.fresh p hp
   have:j=6:=by omega
   subst this
   revert h3
   decide
  ·cases e
structure Ris (lo hi:Int) (L:List (Int × Int)):Prop where
 low:∀ p ∈ L,lo<=p.1/\p.1<=hi
 up:L.Pairwise fun p q=>p.1 < q.1
theorem m0E (s:Mst) (f:Nat):∀ (L:List (Int × Int)),(L.flatMap (oneF s f)).flatMap (fun p=>c0E s p.2)=L.flatMap fun p=>a0V s f (s.logicZ p.2)
 | []=>rfl
 | p :: L=>by
  rw [List.flatMap_cons,List.flatMap_append,List.flatMap_cons,m0E s f L];rfl
theorem r0L {s:Mst} {f a d:Nat} {lo hi:Int} (ih:∀ (x lo hi:Int) (t u:Tk),I64 x->sndW s f x lo hi t=some u->Ris lo hi (a0V s f x)) (ho:s.ok) (hk:e0O s a d lo hi=true) :
  ∀ (n:Nat) (t u:Tk),n<=d->a0R (kidG s (sndW s f) a d lo hi) n t=some u->
   Ris lo hi (((List.range n).map (fun i:Nat=>((i:Int),b0C a d i))).flatMap fun p=>a0V s f (s.logicZ p.2))/\
   (n < d->∀ p ∈ (((List.range n).map (fun i:Nat=>((i:Int),b0C a d i))).flatMap fun p=>a0V s f (s.logicZ p.2)),p.1 < ky s a n)/\(n < d->lo<=lowZ s a lo n)
 | 0,_,_,_,_=>⟨⟨fun _ h=>(by simp at h),by simp⟩,fun _ _ h=>(by simp at h),fun _=>by unfold lowZ;rw [if_pos rfl];exact Int.le_refl _⟩
 | n+1,t,u,hn,h=>by
  rw [a0R,Option.bind_eq_some_iff] at h;obtain ⟨v,h1,h2⟩:=h;obtain ⟨i1,i2,i3⟩:=r0L ih ho hk n t v (by omega) h1;have i2:=i2 (by omega);have i3:=i3 (by omega);have key:n+1 < d->lowZ s a lo n < ky s a (n+1)/\ky s a (n+1)<=hi:=fun hd=>by
   have:=List.all_eq_true.1 hk n (by simp;omega)
   simpa using this
  have lowS:lowZ s a lo (n+1)=ky s a (n+1):=by unfold lowZ;rw [if_neg (by omega)]
  unfold kidG a0G at h2
  split at h2
  ·have o:=ih _ _ _ _ _ (ho.logic _) h2;rw [List.range_succ,List.map_append,List.flatMap_append];simp only [List.map_cons,List.map_nil,List.flatMap_cons,List.flatMap_nil,List.append_nil];have hh:e0Q s a d hi n<=hi:=by
    unfold e0Q
    split
    ·rename_i hd;have:=key hd;omega
    ·exact Int.le_refl _
   have before:∀ p ∈ (((List.range n).map (fun i:Nat=>((i:Int),b0C a d i))).flatMap fun p=>a0V s f (s.logicZ p.2)),p.1 < lowZ s a lo n:=fun p hp=>by
    by_cases n0:n=0
    ·subst n0;simp at hp
    ·have e:lowZ s a lo n=ky s a n:=by unfold lowZ;rw [if_neg n0]
     rw [e];exact i2 p hp
   refine ⟨⟨fun p hp=>?_,?_⟩,fun hd p hp=>?_,fun hd=>by rw [lowS];have:=key hd;omega⟩
   ·rcases List.mem_append.1 hp with hp | hp
    ·exact i1.low p hp
    ·have:=o.low p hp
     exact ⟨by omega,by omega⟩
   ·rw [List.pairwise_append];refine ⟨i1.up,o.up,fun p hp q hq=>?_⟩;have a1:=before p hp;have a2:=(o.low q hq).1;omega
   ·have k:=key hd;rcases List.mem_append.1 hp with hp | hp
    ·have a1:=before p hp;omega
    ·have a2:=(o.low p hp).2;unfold e0Q at a2;rw [if_pos hd] at a2;omega
  ·cases h2
theorem o0J {s:Mst} (ho:s.ok):∀ (f:Nat) (x lo hi:Int) (t u:Tk),I64 x->sndW s f x lo hi t=some u->Ris lo hi (a0V s f x)
 | 0,_,_,_,_,_,_,h=>by cases h
 | f+1,x,lo,hi,t,u,hx,h=>by
  have ih:=o0J ho f;rw [b0Y] at h;have noleaf:kd x≠2->c0E s x=[]:=fun h2=>by unfold c0E;rw [if_neg h2]
  have plain:kd x≠3->kd x≠4->a0V s (f+1) x=c0E s x:=fun h3 h4=>by
   unfold a0V;rw [c0Q (by rw [tgt,if_neg h4];exact h3)];simp
  split at h
  ·rename_i k;rw [plain (by omega) (by omega),noleaf (by omega)];exact ⟨fun _ h=>(by cases h),List.Pairwise.nil⟩
  ·split at h
   ·rename_i k;rw [plain (by omega) (by omega)];unfold c0E;rw [if_pos k]
    split at h
    ·rename_i hk;exact ⟨fun p hp=>by rw [List.mem_singleton] at hp;subst hp;exact hk,List.pairwise_singleton _ _⟩
    ·cases h
   ·split at h
    ·rename_i k3;have e:tgt s x=x:=by rw [tgt,if_neg (by omega)]
     have ha:=a0U x;have ea:(((ad x).toNat:Nat):Int)=ad x:=by omega
     unfold a0W at h;rw [ea] at h
     split at h
     ·cases h
     ·rw [Option.bind_eq_some_iff] at h;obtain ⟨t1,h1,h2⟩:=h
      split at h2
      ·rename_i hk;simp only [Bool.and_eq_true] at hk;have e3:a0M s x=(List.range (s.look (ad x)).toNat).map (fun i:Nat=>((i:Int),b0C (ad x).toNat (s.look (ad x)).toNat i)):=by
        unfold a0M degN atN;rw [e,if_pos k3]
       unfold a0V;rw [noleaf (by omega),List.nil_append,a0Q,e3,m0E];exact (r0L ih ho hk.1 _ _ _ (Nat.le_refl _) h2).1
      ·cases h2
    ·split at h
     ·rename_i k4
      split at h
      ·rename_i k3;rw [Option.bind_eq_some_iff] at h;obtain ⟨t1,h1,h2⟩:=h;have e:tgt s x=s.look (ad x):=by rw [tgt,if_pos k4]
       have hw2:=d0P ho f _ _ _ _ _ (ho.look _) h2;have o:=ih _ _ _ _ _ (ho.look _) h2;have n2:c0E s (s.look (ad x))=[]:=by unfold c0E;rw [if_neg (by omega)]
       unfold a0V at o ⊢;rw [noleaf (by omega),<- c0W (by rw [e];exact k3),e,c0R hw2 (by omega)];rw [n2] at o;exact o
      ·cases h
     ·cases h
theorem pairs_up {s:Mst} (ho:s.ok) (h:b0A s=true):(a0V s (fuel s) (s.logicZ 6)).Pairwise fun p q=>p.1 < q.1:=by
 unfold b0A at h;simp only [Bool.and_eq_true] at h;have h4:=h.2;cases e:a0G s (sndW s (fuel s)) 6 (-9223372036854775808) 9223372036854775807 e0G with
 | none=>rw [e] at h4;cases h4
 | some u=>
  unfold a0G at e
  split at e
  ·exact (o0J ho _ _ _ _ _ _ (ho.logic _) e).up
  ·cases e
theorem h0I {N:Nat} {t u:Tk} {a n:Nat} (h:a0Y N t a n=some u) (ht:∀ j,t j=true->j < N):∀ j,u j=true->j < N:=by
 unfold a0Y at h
 split at h
 ·rename_i c;simp only [Bool.and_eq_true,decide_eq_true_eq] at c;simp only [Option.some.injEq] at h;subst h;intro j hj;simp only [b0S,Bool.or_eq_true,decide_eq_true_eq] at hj;rcases hj with hj | hj
  ·exact ht j hj
  ·omega
 ·cases h
theorem p0H {s:Mst} {N:Nat} {W:Int->Int->Int->Tk->Option Tk} (hW:∀ x l h t u,W x l h t=some u->(∀ j,t j=true->j < N)->∀ j,u j=true->j < N) {a d:Nat} {lo hi:Int}:∀ {n:Nat} {t u:Tk},a0R (kidG s W a d lo hi) n t=some u->(∀ j,t j=true->j < N)->∀ j,u j=true->j < N
 | 0,t,u,h=>by simp [a0R] at h;subst h;exact fun ht=>ht
 | n+1,t,u,h=>by
  rw [a0R,Option.bind_eq_some_iff] at h;obtain ⟨v,h1,h2⟩:=h;intro ht;have e:=p0H hW h1 ht;unfold kidG a0G at h2
  split at h2
  ·exact hW _ _ _ _ _ h2 e
  ·cases h2
theorem t0Y (s:Mst):∀ (f:Nat) (x lo hi:Int) (t u:Tk),sndW s f x lo hi t=some u->(∀ j,t j=true->j < s.xs.length+1)->∀ j,u j=true->j < s.xs.length+1
 | 0,_,_,_,_,_,h=>by cases h
 | f+1,x,lo,hi,t,u,h=>by
  have ih:=t0Y s f;intro ht;rw [b0Y] at h
  split at h
  ·exact h0I h ht
  ·split at h
   ·split at h
    ·exact h0I h ht
    ·cases h
   ·split at h
    ·unfold a0W at h
     split at h
     ·cases h
     ·rw [Option.bind_eq_some_iff] at h;obtain ⟨t1,h1,h2⟩:=h
      split at h2
      ·exact p0H ih h2 (h0I h1 ht)
      ·cases h2
    ·split at h
     ·split at h
      ·rw [Option.bind_eq_some_iff] at h;obtain ⟨t1,h1,h2⟩:=h;exact ih _ _ _ _ _ h2 (h0I h1 ht)
      ·cases h
     ·cases h
theorem l0X (s:Mst):∀ (f:Nat) (x:Int),∀ p ∈ a0L s f x,1<=p.1
 | 0,_,_,h=>by cases h
 | f+1,x,p,h=>by
  rw [a0Q,List.mem_flatMap] at h;obtain ⟨q,hq,hp⟩:=h;unfold oneF at hp;rcases List.mem_cons.1 hp with rfl | hp
  ·unfold a0M at hq
   split at hq
   ·obtain ⟨i,_,rfl⟩:=List.mem_map.1 hq;show 1<=b0C _ _ _;unfold b0C;omega
   ·cases hq
  ·exact l0X s f _ p hp
theorem t0V {s:Mst} (ho:s.ok) (h:b0A s=true):∀ p ∈ b0K s (fuel s),1<=p.1/\p.1<=s.xs.length:=by
 unfold b0A at h;simp only [Bool.and_eq_true,decide_eq_true_eq] at h;have h4:=h.2;have h6:=h.1.1.1;cases e:a0G s (sndW s (fuel s)) 6 (-9223372036854775808) 9223372036854775807 e0G with
 | none=>rw [e] at h4;cases h4
 | some u=>
  unfold a0G at e
  split at e
  ·have o:=i0B ho _ _ _ _ _ _ (ho.logic _) e;intro p hp;rcases List.mem_cons.1 hp with rfl | hp
   ·exact ⟨by show (1:Int)<=6;omega,by show (6:Int)<=_;omega⟩
   ·refine ⟨l0X s _ _ p hp,?_⟩;obtain ⟨j,e3,_,h3⟩:=o.fresh p hp
    have:=t0Y s _ _ _ _ _ _ e (fun j hj=>by
     unfold e0G b0S at hj;simp at hj;omega) j h3
    omega
  ·cases e
theorem j0X {s:Mst} (ho:s.ok) (h:b0A s=true):(b0K s (fuel s)).length<=s.xs.length+2:=by
 unfold b0A at h;simp only [Bool.and_eq_true] at h;have h4:=h.2;cases e:a0G s (sndW s (fuel s)) 6 (-9223372036854775808) 9223372036854775807 e0G with
 | none=>rw [e] at h4;cases h4
 | some u=>
  unfold a0G at e
  split at e
  ·have h1:=g0V ho _ _ _ _ _ _ (ho.logic _) e;have h2:=h0T (s.xs.length+1) e0G;unfold b0K;rw [List.length_cons];omega
  ·cases e
theorem q0W {s:Mst} (ho:s.ok) (h:b0A s=true):((d0H s (s.logicZ 6)).map Prod.fst).Pairwise (· < ·):=by
 rw [List.pairwise_map];unfold d0H
 split
 ·exact pairs_up ho h
 ·exact List.Pairwise.nil
theorem n0R {s:Mst} (ho:s.ok) (h:b0A s=true):(d0H s (s.logicZ 6)).length<=s.xs.length+3:=by
 have h1:=j0X ho h;unfold b0K at h1;rw [List.length_cons] at h1;unfold d0H
 split
 ·have:=o0L s (fuel s) (s.logicZ 6)
  omega
 ·simp
theorem look_of {s r:Mst} (e:s.xs=r.xs) (a:Int):s.look a=r.look a:=by
 unfold Mst.look Mst.used;rw [e]
theorem t0X {s r:Mst} (e:s.xs=r.xs):b0A s=b0A r:=by
 have hl:s.look=r.look:=funext (look_of e);have hg:s.logicZ=r.logicZ:=by funext a;unfold Mst.logicZ;rw [hl]
 have hd:h0C s=h0C r:=by funext a;unfold h0C;rw [hl,e]
 have hk:ky s=ky r:=by funext a i;unfold ky;rw [hl]
 have hlo:lowZ s=lowZ r:=by funext a l i;unfold lowZ;rw [hk]
 have hhi:e0Q s=e0Q r:=by funext a d h i;unfold e0Q;rw [hk]
 have hkb:e0O s=e0O r:=by funext a d l h;unfold e0O;rw [hk,hlo]
 have hsh:d0U s=d0U r:=by funext a;unfold d0U;rw [hl]
 have hs:a0G s=a0G r:=by funext W c l h t;unfold a0G;rw [hd,hg]
 have hkd:kidG s=kidG r:=by funext W a d l h i t;unfold kidG;rw [hs,hlo,hhi]
 have hin:a0W s=a0W r:=by funext W a l h t;unfold a0W;rw [hl,hkb,hsh,hkd,e]
 have hw:∀ f,sndW s f=sndW r f:=by
  intro f
  induction f with
  | zero=>rfl
  | succ f ih=>funext x l h t;rw [b0Y,b0Y,hl,hin,ih,e]
 unfold b0A fuel;rw [hl,hs,hw,e]
end
namespace Sd
inductive Ro where
 | fix (z:Int) | key (z:Int) | shut | chg | sum | slot | root | cnt | out
structure Gh where
 ro:Int->Option Ro
 rb:Int->Int
 kn:Int->Int
 hm:Int->Option Int
 ow:Int->Nat
 lt:Int->Bool
 pl:Int->Bool
section
variable (g:Gh)
def Rec (a n:Int):Prop:=1<=a/\∀ j,0<=j->j < n->g.rb (a+j)=a/\g.ro (a+j)≠none
structure l0N (a:Int):Prop where
 kn:g.kn a=1
 rc:Rec g a 1
 c0:g.ro a=some (.fix 0)
structure c0C (a k v:Int):Prop where
 kn:g.kn a=2
 rc:Rec g a 2
 c0:g.ro a=some (.fix k)
 c1:g.ro (a+1)=some (.fix v)
structure a0E (a d n:Int):Prop where
 kn:g.kn a=3
 rc:Rec g a (2 * d+4)
 pos:1<=d
 c0:g.ro a=some (.fix d)
 c1:g.ro (a+1)=some (.fix n)
 c2:g.ro (a+2)=some .shut
 c3:g.ro (a+3)=some .chg
 c4:g.ro (a+4)=some .sum
 ck:∀ i,1<=i->i < d->∃ z,g.ro (a+4+i)=some (.key z)
 cs:∀ i,0<=i->i < d->g.ro (a+4+d+i)=some .slot
structure f0Z (a t gd p:Int):Prop where
 kn:g.kn a=4
 rc:Rec g a 5
 c0:g.ro a=some (.fix t)
 c1:g.ro (a+1)=some (.fix gd)
 c2:g.ro (a+2)=some (.fix p)
 c3:g.ro (a+3)=some .root
 c4:g.ro (a+4)=some .cnt
structure IsDc (a gd p o x:Int):Prop where
 kn:g.kn a=5
 rc:Rec g a 5
 c0:g.ro a=some (.fix gd)
 c1:g.ro (a+1)=some (.fix p)
 c2:g.ro (a+2)=some (.fix o)
 c3:g.ro (a+3)=some (.fix x)
 c4:g.ro (a+4)=some .out
def gk (a i:Int):Int:=match g.ro (a+4+i) with | some (.key z)=>z | _=>0
def gl (a lo i:Int):Int:=if i=0 then lo else gk g a i
def gu (a d hi i:Int):Int:=if i+1 < d then gk g a (i+1) - 1 else hi
inductive Iv:Int->Int->Int->Prop
 | top:a0E g 1 1 0->Iv 1 (-9223372036854775808) 9223372036854775807
 | sub {a lo hi d n i b:Int}:Iv a lo hi->a0E g a d n->0<=i->i < d->b≠1->g.hm b=some (a+4+d+i)->Iv b (gl g a lo i) (gu g a d hi i)
def SIv (c lo hi:Int):Prop:=∃ a d n l h i,Iv g a l h/\a0E g a d n/\0<=i/\i < d/\c=a+4+d+i/\lo=gl g a l i/\hi=gu g a d h i
def Slot (c a d n i:Int):Prop:=a0E g a d n/\0<=i/\i < d/\c=a+4+d+i
end
variable {g:Gh}
theorem Iv.slot {c b lo hi:Int} (h:SIv g c lo hi) (hb:b≠1) (e:g.hm b=some c):Iv g b lo hi:=by
 obtain ⟨a,d,n,l,u,i,h1,h2,h3,h4,rfl,rfl,rfl⟩:=h;exact Iv.sub h1 h2 h3 h4 hb e
theorem Slot.siv {c a d n i l u:Int} (h:Slot g c a d n i) (hi:Iv g a l u):SIv g c (gl g a l i) (gu g a d u i):=
 ⟨a,d,n,l,u,i,hi,h.1,h.2.1,h.2.2.1,h.2.2.2,rfl,rfl⟩
theorem a0E.deg {a d n d' n':Int} (h:a0E g a d n) (h':a0E g a d' n'):d=d'/\n=n':=by
 have e0:=h.c0.symm.trans h'.c0;have e1:=h.c1.symm.trans h'.c1;cases e0;cases e1;exact ⟨rfl,rfl⟩
theorem IsDc.fn {D gd p o x gd' p' o' x':Int} (h:IsDc g D gd p o x) (h':IsDc g D gd' p' o' x'):gd=gd'/\p=p'/\o=o'/\x=x':=by
 have e0:=h.c0.symm.trans h'.c0;have e1:=h.c1.symm.trans h'.c1;have e2:=h.c2.symm.trans h'.c2;have e3:=h.c3.symm.trans h'.c3;cases e0;cases e1;cases e2;cases e3;exact ⟨rfl,rfl,rfl,rfl⟩
theorem f0Z.fn {r t gd p t' gd' p':Int} (h:f0Z g r t gd p) (h':f0Z g r t' gd' p'):t=t'/\gd=gd'/\p=p':=by
 have e0:=h.c0.symm.trans h'.c0;have e1:=h.c1.symm.trans h'.c1;have e2:=h.c2.symm.trans h'.c2;cases e0;cases e1;cases e2;exact ⟨rfl,rfl,rfl⟩
theorem a0E.rb {a d n j:Int} (h:a0E g a d n) (h0:0<=j) (h1:j < 2 * d+4):g.rb (a+j)=a:=(h.rc.2 j h0 h1).1
theorem Slot.rb {c a d n i:Int} (h:Slot g c a d n i):g.rb c=a:=by
 obtain ⟨h1,h2,h3,rfl⟩:=h
 have:=h1.rb (j:=4+d+i) (by have:=h1.pos;omega) (by omega)
 rwa [show a+(4+d+i)=a+4+d+i by omega] at this
theorem Slot.fn {c a d n i a' d' n' i':Int} (h:Slot g c a d n i) (h':Slot g c a' d' n' i'):a=a'/\d=d'/\n=n'/\i=i':=by
 obtain rfl:a=a':=h.rb.symm.trans h'.rb;obtain ⟨rfl,rfl⟩:=h.1.deg h'.1;have e1:=h.2.2.2;have e2:=h'.2.2.2;exact ⟨rfl,rfl,rfl,by omega⟩
theorem Slot.ro {c a d n i:Int} (h:Slot g c a d n i):g.ro c=some .slot:=by
 obtain ⟨h1,h2,h3,rfl⟩:=h;exact h1.cs i h2 h3
theorem Iv.fn {a lo hi lo' hi':Int} (h:Iv g a lo hi) (h':Iv g a lo' hi'):lo=lo'/\hi=hi':=by
 induction h generalizing lo' hi' with
 | top h1=>
  cases h' with
  | top _=>exact ⟨rfl,rfl⟩
  | sub _ _ _ _ hb _=>exact absurd rfl hb
 | @sub a l u d n i b h1 h2 h3 h4 hb e ih=>
  cases h' with
  | top _=>exact absurd rfl hb
  | @sub a' l' u' d' n' i' _ h1' h2' h3' h4' _ e'=>
   have ec:a+4+d+i=a' + 4+d' + i':=Option.some.inj (e.symm.trans e');obtain ⟨rfl,rfl,rfl,rfl⟩:=Slot.fn (g:=g) (c:=a+4+d+i) ⟨h2,h3,h4,rfl⟩ ⟨h2',h3',h4',ec⟩;obtain ⟨rfl,rfl⟩:=ih h1';exact ⟨rfl,rfl⟩
theorem SIv.fn {c lo hi lo' hi':Int} (h:SIv g c lo hi) (h':SIv g c lo' hi'):lo=lo'/\hi=hi':=by
 obtain ⟨a,d,n,l,u,i,h1,h2,h3,h4,e,rfl,rfl⟩:=h;obtain ⟨a',d',n',l',u',i',h1',h2',h3',h4',e',rfl,rfl⟩:=h';obtain ⟨rfl,rfl,rfl,rfl⟩:=Slot.fn (g:=g) (c:=c) ⟨h2,h3,h4,e⟩ ⟨h2',h3',h4',e'⟩;obtain ⟨rfl,rfl⟩:=h1.fn h1';exact ⟨rfl,rfl⟩
section
variable (m:Mst) (g:Gh)
def e0I (a:Int):Prop:=∀ d n i,a0E g a d n->0<=i->i < d->m.look (a+4+d+i)≠0
def OkI (c w:Int):Prop:=kd w=3/\∃ d n,a0E g (ad w) d n/\2<=d/\ad w≠1/\g.hm (ad w)=some c/\e0I m g (ad w)
def OkW (c w:Int):Prop:=
 (kd w=1/\l0N g (ad w)/\g.hm (ad w)=some c)∨
 (kd w=2/\∃ k v,c0C g (ad w) k v/\∀ lo hi,SIv g c lo hi->lo<=k/\k<=hi)∨
 OkI m g c w∨
 (kd w=4/\∃ t gd,f0Z g (ad w) t gd c/\g.hm (ad w)=some c/\OkI m g c t)
def Fz (c w:Int):Prop:=∃ a d n i,Slot g c a d n i/\m.look (a+2)≠0/\w≠0/\kd w≠5/\
 (m.look c=w∨(kd (m.look c)=5/\g.pl (ad (m.look c))=true/\g.lt (ad (m.look c))=true/\∃ gd x,IsDc g (ad (m.look c)) gd c w x))
abbrev Ps:=List (Int × Int)
def FS (F:Int->Ps->Prop) (c:Int) (ps:Ps):Prop:=∃ w,Fz m g c w/\
 ((kd w=1/\ps=[])∨(kd w=2/\∃ k v,c0C g (ad w) k v/\ps=[(k,v)])∨
 (kd w=3/\F (ad w) ps/\m.look (ad w+4)=ps.length+1)∨
 (kd w=4/\∃ t gd p,f0Z g (ad w) t gd p/\F (ad t) ps/\m.look (ad t+4)=ps.length+1))
def FTf:Nat->Int->Ps->Prop
 | 0=>fun _ _=>False
 | f+1=>fun a ps=>∃ (d n:Int) (q:Nat->Ps),a0E g a d n/\m.look (a+2)≠0/\(∀ i:Nat,(i:Int) < d->FS m g (FTf f) (a+4+d+i) (q i))/\ps=(List.range d.toNat).flatMap q
def FT (a:Int) (ps:Ps):Prop:=∃ f,FTf m g f a ps
def At (gd p:Int):Prop:=∃ a d n i lo hi,Slot g p a d n i/\gd=a+2/\Iv g a lo hi
def DcOk (D:Int):Prop:=∃ gd p o x,IsDc g D gd p o x/\OkW m g p o/\OkW m g p x/\At g gd p/\(g.lt D=true->m.look gd≠0)
def RbOk (r:Int):Prop:=∃ t gd p,f0Z g r t gd p/\OkI m g p t/\At g gd p
def RtOk (r w:Int):Prop:=∃ t gd p ps,f0Z g r t gd p/\FT m g (ad t) ps/\
 ((ps.length < 2/\OkW m g p w/\kd w<=2)∨
 (2<=ps.length/\kd w=3/\ad w≠1/\g.hm (ad w)=some p/\∃ d,a0E g (ad w) d ps.length/\2<=d/\d=Pt.degZ ps.length/\∀ i,1<=i->i < d->gk g (ad w) i=((a0Z ps i).headD (0,0)).1))
def COk (c:Int):Prop:=match g.ro c with
 | none=>True
 | some (.fix z)=>m.look c=z
 | some (.key z)=>m.look c=0∨m.look c=z
 | some .shut=>m.look c=0∨(m.look c=1/\g.rb c≠1/\∃ d n,a0E g (g.rb c) d n/\e0I m g (g.rb c))
 | some .chg=>True
 | some .cnt=>True
 | some .sum=>m.look c=0∨∃ ps,FT m g (g.rb c) ps/\m.look c=ps.length+1
 | some .slot=>m.look c=0∨OkW m g c (m.look c)∨(kd (m.look c)=5/\g.pl (ad (m.look c))=true/\∃ gd o x,IsDc g (ad (m.look c)) gd c o x)
 | some .root=>RbOk m g (g.rb c)/\(m.look c=0∨RtOk m g (g.rb c) (m.look c))
 | some .out=>DcOk m g (g.rb c)/\(m.look c=0∨((m.look c=1∨m.look c=2)/\g.pl (g.rb c)=true))/\(g.lt (g.rb c)=true->m.look c≠1)
structure Inv:Prop where
 ok:m.ok
 sz:m.size<=16384/\(m.xs.length:Int)<=m.size
 used:∀ c,g.ro c≠none↔m.used c=true
 cell:∀ c,COk m g c
 top:a0E g 1 1 0/\m.look 6≠0
 keys:∀ a lo hi d n,Iv g a lo hi->a0E g a d n->∀ i,0<=i->i+1 < d->gl g a lo i < gk g a (i+1)/\gk g a (i+1)<=hi
 kin:∀ a d n i,a0E g a d n->1<=i->i < d->m.look (a+4+d+i)≠0->m.look (a+4+i)=gk g a i
 home:∀ b c,g.hm b=some c->∃ a d n i,Slot g c a d n i/\((∃ lo hi,Iv g a lo hi)∨ad (m.look c)=b)
 hm1:g.hm 1=none
 hml:∀ b c,g.hm b=some c->g.kn b≠2
 hmu:∀ b c,g.hm b=some c->g.ro b≠none
 late:∀ D,g.lt D=true->g.pl D=true
 plw:∀ D,g.pl D=true->∃ gd p o x,IsDc g D gd p o x
end
end Sd
namespace Sd
section
variable (g:Gh)
inductive Un (c:Int):Int->Prop
 | here {b:Int}:g.hm b=some c->Un c b
 | there {a b c' d n i:Int}:Un c a->Slot g c' a d n i->g.hm b=some c'->Un c b
def In (c lo hi j:Int):Prop:=Un g c (g.rb j)∨∃ k v,c0C g (g.rb j) k v/\lo<=k/\k<=hi
end
variable {g:Gh} {m:Mst}
theorem Un.trans {c c' a b d n i:Int} (h:Un g c a) (hs:Slot g c' a d n i) (h2:Un g c' b):Un g c b:=by
 induction h2 with
 | here e=>exact .there h hs e
 | there _ hs' e ih=>exact .there ih hs' e
theorem acyc (h1:g.hm 1=none) {a lo hi:Int} (h:Iv g a lo hi):∀ c d n i,Slot g c a d n i->¬ Un g c a:=by
 induction h with
 | top _=>
  intro c d n i hs hu;cases hu with
  | here e=>rw [h1] at e;cases e
  | there _ _ e=>rw [h1] at e;cases e
 | @sub a l u d n i b ha hi0 h2 h3 hb e ih=>
  intro c d' n' i' hs hu;have hs0:Slot g (a+4+d+i) a d n i:=⟨hi0,h2,h3,rfl⟩;cases hu with
  | here e'=>
   rw [e] at e';have ec:=Option.some.inj e';rw [<- ec] at hs;obtain ⟨rfl,_⟩:=hs.fn hs0;exact ih _ _ _ _ hs0 (.here e)
  | @there a' _ c' d2 n2 i2 hu' hs' e'=>
   rw [e] at e';have ec:=Option.some.inj e';rw [<- ec] at hs';obtain ⟨rfl,_⟩:=hs'.fn hs0;exact ih _ _ _ _ hs0 (Un.trans (.here e) hs hu')
theorem apart (h1:g.hm 1=none) {a lo hi c c' d n i d' n' i' b:Int} (h:Iv g a lo hi) (hs:Slot g c a d n i) (hs':Slot g c' a d' n' i') (hu:Un g c b):Un g c' b->c=c':=by
 induction hu with
 | here e=>
  intro hu';cases hu' with
  | here e'=>rw [e] at e';exact Option.some.inj e'
  | there hu2 hs2 e'=>
   rw [e] at e';have ec:=Option.some.inj e';rw [<- ec] at hs2;obtain ⟨rfl,_⟩:=hs2.fn hs;exact absurd hu2 (acyc h1 h _ _ _ _ hs')
 | there hu2 hs2 e ih=>
  intro hu';cases hu' with
  | here e'=>
   rw [e] at e';have ec:=Option.some.inj e';rw [ec] at hs2;obtain ⟨rfl,_⟩:=hs2.fn hs';exact absurd hu2 (acyc h1 h _ _ _ _ hs)
  | there hu3 hs3 e'=>
   rw [e] at e';have ec:=Option.some.inj e';rw [<- ec] at hs3;obtain ⟨rfl,_⟩:=hs3.fn hs2;exact ih hu3
theorem Un.hm {c b:Int} (h:Un g c b):∃ c',g.hm b=some c':=by
 cases h with
 | here e=>exact ⟨_,e⟩
 | there _ _ e=>exact ⟨_,e⟩
theorem Inv.rise (h:Inv m g) {a lo hi d n:Int} (hv:Iv g a lo hi) (hI:a0E g a d n):∀ (k:Nat) (i:Int),0<=i->i+k < d->gl g a lo i<=gl g a lo (i+k)
 | 0,i,_,_=>by simp
 | k+1,i,h0,h1=>by
  have ih:=h.rise hv hI k i h0 (by omega)
  have:=(h.keys a lo hi d n hv hI (i+k) (by omega) (by omega)).1
  have e:gl g a lo (i+(k+1:Nat))=gk g a (i+k+1):=by
   rw [gl,if_neg (by omega)];congr 1;omega
  rw [e];omega
theorem Inv.within (h:Inv m g) {a lo hi d n i:Int} (hv:Iv g a lo hi) (hI:a0E g a d n) (h0:0<=i) (h1:i < d):lo<=gl g a lo i/\gu g a d hi i<=hi:=by
 have r:=h.rise hv hI i.toNat 0 (by omega) (by omega);rw [show (0:Int)+(i.toNat:Int)=i by omega] at r;refine ⟨by simpa [gl] using r,?_⟩;unfold gu
 split
 ·have:=(h.keys a lo hi d n hv hI i h0 (by omega)).2
  omega
 ·exact Int.le_refl _
theorem Inv.order (h:Inv m g) {a lo hi d n i j:Int} (hv:Iv g a lo hi) (hI:a0E g a d n) (h0:0<=i) (h1:i < j) (h2:j < d):gu g a d hi i < gl g a lo j:=by
 have r:=h.rise hv hI (j - i - 1).toNat (i+1) (by omega) (by omega);rw [show i+1+((j - i - 1).toNat:Int)=j by omega] at r;have e:gl g a lo (i+1)=gk g a (i+1):=by rw [gl,if_neg (by omega)]
 have e2:gu g a d hi i=gk g a (i+1) - 1:=by rw [gu,if_pos (by omega)]
 omega
theorem Inv.fix (h:Inv m g) {c z:Int} (e:g.ro c=some (.fix z)):m.look c=z:=by
 have:=h.cell c
 unfold COk at this;rw [e] at this;exact this
theorem Inv.lt (h:Inv m g) {c:Int} (e:g.ro c≠none):1<=c/\c<=(m.xs.length:Int):=Mst.used_iff.1 ((h.used c).1 e)
theorem Inv.logic (h:Inv m g) {c a d n i:Int} (hs:Slot g c a d n i) (h0:m.look c≠0):OkW m g c (m.logicZ c)/\h0C m c=true:=by
 have hc:=h.cell c;unfold COk at hc;rw [hs.ro] at hc;rcases hc with e | e | ⟨k5,_,gd,o,x,hD⟩
 ·exact absurd e h0
 ·have k5:kd (m.look c)≠5:=by
   rcases e with ⟨k,_⟩ | ⟨k,_⟩ | ⟨k,_⟩ | ⟨k,_⟩ <;> omega
  refine ⟨by rw [Mst.logicZ,if_neg k5];exact e,?_⟩;simp only [h0C,Bool.or_eq_true,Bool.not_eq_true',beq_eq_false_iff_ne];exact .inl k5
 ·have ho:=h.cell (ad (m.look c)+4);unfold COk at ho;rw [hD.c4] at ho;have e4:g.rb (ad (m.look c)+4)=ad (m.look c):=(hD.rc.2 4 (by omega) (by omega)).1;rw [e4] at ho;obtain ⟨gd',c',o',x',hD',o1,o2,_⟩:=ho.1;obtain ⟨rfl,rfl,rfl,rfl⟩:=hD.fn hD';constructor
  ·rw [Mst.logicZ,if_pos k5]
   split
   ·rw [show m.look (Rf.atZ (m.look c)+3)=x from h.fix hD.c3];exact o2
   ·rw [show m.look (Rf.atZ (m.look c)+2)=o from h.fix hD.c2];exact o1
  ·have l4:=h.lt (c:=ad (m.look c)+4) (by rw [hD.c4];exact fun e=>by cases e);simp only [h0C,Bool.or_eq_true,Bool.and_eq_true,decide_eq_true_eq,beq_iff_eq];exact .inr ⟨l4.2,h.fix hD.c1⟩
def Tok (g:Gh) (t:Tk) (c lo hi:Int):Prop:=∀ j:Nat,t j=true->¬ In g c lo hi (j:Int)
def Got (g:Gh) (t t':Tk) (c lo hi:Int):Prop:=∀ j:Nat,t' j=true->t j=true∨In g c lo hi (j:Int)
theorem p0V (h:Inv m g) {t:Tk} {c lo hi a n:Int} (ht:Tok g t c lo hi) (hr:Rec g a n) (hn:1<=n) (hin:∀ j,a<=j->j < a+n->In g c lo hi j) :
  a0Y (m.xs.length+1) t a.toNat n.toNat=some (b0S t a.toNat n.toNat)/\Got g t (b0S t a.toNat n.toNat) c lo hi:=by
 have h1:=hr.1;have hl:=h.lt (c:=a+(n - 1)) (hr.2 (n - 1) (by omega) (by omega)).2;constructor
 ·unfold a0Y;rw [if_pos];simp only [Bool.and_eq_true,decide_eq_true_eq];refine ⟨⟨by omega,by omega⟩,?_⟩;unfold f0E;rw [List.all_eq_true];intro i hi';simp only [List.mem_range] at hi';cases e:t (a.toNat+i) with
  | false=>rfl
  | true=>exact absurd (hin _ (by omega) (by omega)) (ht _ e)
 ·intro j hj;unfold b0S at hj;rw [Bool.or_eq_true,decide_eq_true_eq] at hj;rcases hj with hj | hj
  ·exact .inl hj
  ·exact .inr (hin _ (by omega) (by omega))
theorem In.sub (h:Inv m g) {c c' a lo hi d n i j:Int} (hv:Iv g a lo hi) (ha:a≠1->g.hm a=some c) (ha':a≠1) (hs:Slot g c' a d n i) (hin:In g c' (gl g a lo i) (gu g a d hi i) j):In g c lo hi j:=by
 have w:=h.within hv hs.1 hs.2.1 hs.2.2.1;rcases hin with hu | ⟨k,v,hl,h1,h2⟩
 ·exact .inl (Un.trans (.here (ha ha')) hs hu)
 ·exact .inr ⟨k,v,hl,by omega,by omega⟩
def TokI (g:Gh) (t:Tk) (b d n lo hi:Int):Prop:=∀ j:Nat,t j=true->g.rb (j:Int)≠b/\∀ c i,Slot g c b d n i->¬ In g c (gl g b lo i) (gu g b d hi i) (j:Int)
def WOk (m:Mst) (g:Gh) (f:Nat):Prop:=∀ (c lo hi:Int) (t:Tk) (a d n i:Int),Slot g c a d n i->SIv g c lo hi->m.look c≠0->b0J (m.xs.length+1) t < f->Tok g t c lo hi->∃ t',a0G m (sndW m f) c lo hi t=some t'/\Got g t t' c lo hi
theorem Inv.bounds (h:Inv m g) {b d n:Int} (lo hi:Int) (hI:a0E g b d n) (hc:e0I m g b) {B D:Nat} (eb:b=(B:Int)) (ed:d=(D:Int)) (i:Nat) (hi':i < D):lowZ m B lo i=gl g b lo i/\e0Q m B D hi i=gu g b d hi i:=by
 have kk:∀ j:Nat,1<=j->j < D->ky m B j=gk g b j:=fun j h1 h2=>by
  have:=h.kin b d n j hI (by omega) (by omega) (hc d n j hI (by omega) (by omega))
  rw [ky,<- eb];exact this
 constructor
 ·unfold lowZ gl
  by_cases e:i=0
  ·rw [if_pos e,if_pos (by omega)]
  ·rw [if_neg e,if_neg (by omega),kk i (by omega) hi']
 ·unfold e0Q gu
  by_cases e:i+1 < D
  ·rw [if_pos e,if_pos (by omega),kk (i+1) (by omega) e];congr 2
  ·rw [if_neg e,if_neg (by omega)]
theorem r0B (h:Inv m g) {f:Nat} (ih:WOk m g f) {b d n lo hi:Int} (hv:Iv g b lo hi) (hI:a0E g b d n) (hc:e0I m g b) {B D:Nat} (eb:b=(B:Int)) (ed:d=(D:Int)) {t:Tk} (hf:b0J (m.xs.length+1) t < f)
  (ht:∀ j:Nat,t j=true->∀ c i,Slot g c b d n i->¬ In g c (gl g b lo i) (gu g b d hi i) (j:Int)) :
  ∀ k:Nat,k<=D->∃ t',a0R (kidG m (sndW m f) B D lo hi) k t=some t'/\∀ j:Nat,t' j=true->t j=true∨∃ i:Nat,i < k/\In g (b+4+d+i) (gl g b lo i) (gu g b d hi i) (j:Int)
 | 0,_=>⟨t,rfl,fun j hj=>.inl hj⟩
 | k+1,hk=>by
  obtain ⟨tk,h1,h2⟩:=r0B h ih hv hI hc eb ed hf ht k (by omega);have hs:Slot g (b+4+d+k) b d n k:=⟨hI,by omega,by omega,rfl⟩;have hl:=h.bounds lo hi hI hc eb ed k (by omega);have fr:=g0L (d0Q m f) h1;obtain ⟨t',h3,h4⟩:=ih _ _ _ tk _ _ _ _ hs (hs.siv hv) (hc d n k hI (by omega) (by omega)) (by omega) (by
   intro j hj hin;rcases h2 j hj with hj' | ⟨i,hi',hin'⟩
   ·exact ht j hj' _ _ hs hin
   ·have hs':Slot g (b+4+d+i) b d n i:=⟨hI,by omega,by omega,rfl⟩;have od:=h.order hv hI (i:=i) (j:=k) (by omega) (by omega) (by omega);rcases hin with u1 | ⟨k1,v1,l1,a1,b1⟩
    ·rcases hin' with u2 | ⟨k2,v2,l2,_,_⟩
     ·have:=apart h.hm1 hv hs hs' u1 u2
      omega
     ·obtain ⟨c',e⟩:=u1.hm;exact h.hml _ _ e l2.kn
    ·rcases hin' with u2 | ⟨k2,v2,l2,a2,b2⟩
     ·obtain ⟨c',e⟩:=u2.hm;exact h.hml _ _ e l1.kn
     ·have e:=l1.c0.symm.trans l2.c0;cases e;omega)
  refine ⟨t',?_,fun j hj=>?_⟩
  ·rw [a0R,h1];show a0G m (sndW m f) (b0C B D k) (lowZ m B lo k) (e0Q m B D hi k) tk=some t';rw [hl.1,hl.2,show b0C B D k=b+4+d+k by unfold b0C;omega];exact h3
  ·rcases h4 j hj with e | e
   ·rcases h2 j e with e | ⟨i,hi',e⟩
    ·exact .inl e
    ·exact .inr ⟨i,by omega,e⟩
   ·exact .inr ⟨k,by omega,e⟩
theorem snd_in (h:Inv m g) {f:Nat} (ih:WOk m g f) {b d n lo hi c:Int} (hv:Iv g b lo hi) (hb:b≠1) (hm:g.hm b=some c) (hI:a0E g b d n) (h2:2<=d) (hc:e0I m g b) {t:Tk} (hf:b0J (m.xs.length+1) t < f+1) (ht:TokI g t b d n lo hi) :
  ∃ t',a0W m (sndW m f) b.toNat lo hi t=some t'/\Got g t t' c lo hi:=by
 have hb1:=hI.rc.1;obtain ⟨B,eb⟩:∃ B:Nat,b=(B:Int):=⟨b.toNat,by omega⟩;obtain ⟨D,ed⟩:∃ D:Nat,d=(D:Int):=⟨d.toNat,by omega⟩;have elk:m.look (B:Int)=(D:Int):=by rw [<- eb,<- ed];exact h.fix hI.c0
 have last:=h.lt (c:=b+(2 * d+3)) (hI.rc.2 (2 * d+3) (by omega) (by omega)).2;have eB:b.toNat=B:=by omega
 rw [eB];have tk:a0Y (m.xs.length+1) t B (2 * D+4)=some (b0S t B (2 * D+4)):=by
  unfold a0Y;rw [if_pos];simp only [Bool.and_eq_true,decide_eq_true_eq];refine ⟨⟨by omega,by omega⟩,?_⟩;unfold f0E;rw [List.all_eq_true];intro i hi';simp only [List.mem_range] at hi';cases e:t (B+i) with
  | false=>rfl
  | true=>
   have h3:=(ht _ e).1;have h4:=hI.rb (j:=(i:Int)) (by omega) (by omega);rw [show b+(i:Int)=((B+i:Nat):Int) by omega] at h4;exact absurd h4 h3
 have fr:=c0D tk;obtain ⟨t',h3,h4⟩:=r0B h ih hv hI hc eb ed (t:=b0S t B (2 * D+4)) (by omega) (by
  intro j hj c' i hs hin;unfold b0S at hj;rw [Bool.or_eq_true,decide_eq_true_eq] at hj;rcases hj with hj | hj
  ·exact (ht j hj).2 c' i hs hin
  ·have e4:=hI.rb (j:=(j:Int) - b) (by omega) (by omega);rw [show b+((j:Int) - b)=(j:Int) by omega] at e4;rcases hin with u | ⟨k,v,l,_,_⟩
   ·rw [e4] at u;exact acyc h.hm1 hv _ _ _ _ hs u
   ·rw [e4] at l
    have:=l.kn.symm.trans hI.kn
    omega) D (Nat.le_refl _)
 refine ⟨t',?_,fun j hj=>?_⟩
 ·unfold a0W;rw [elk,Int.toNat_natCast,if_neg (by omega),tk];show (if (e0O m B D lo hi && d0U m B)=true then _ else none)=_;rw [if_pos,h3];rw [Bool.and_eq_true];constructor
  ·unfold e0O;rw [List.all_eq_true];intro i hi';simp only [List.mem_range] at hi';have hl:=h.bounds lo hi hI hc eb ed i (by omega);have hk:=h.keys b lo hi d n hv hI i (by omega) (by omega);have e:=h.kin b d n (i+1) hI (by omega) (by omega) (hc d n (i+1) hI (by omega) (by omega));rw [hl.1,show ky m B (i+1)=gk g b (i+1) by rw [ky,<- eb,<- e];congr 1];simp only [Bool.and_eq_true,decide_eq_true_eq];exact hk
  ·have e:=h.cell (b+2);unfold COk at e;rw [hI.c2] at e;unfold d0U;rw [<- eb];rcases e with e | ⟨e,_⟩ <;> simp [e]
 ·rcases h4 j hj with e | ⟨i,hi',e⟩
  ·unfold b0S at e;rw [Bool.or_eq_true,decide_eq_true_eq] at e;rcases e with e | e
   ·exact .inl e
   ·have e4:=hI.rb (j:=(j:Int) - b) (by omega) (by omega);rw [show b+((j:Int) - b)=(j:Int) by omega] at e4;exact .inr (.inl (by rw [e4];exact .here hm))
  ·exact .inr (In.sub h hv (fun _=>hm) hb ⟨hI,by omega,by omega,rfl⟩ e)
theorem tok_in (h:Inv m g) {b d n lo hi c:Int} {t:Tk} (hv:Iv g b lo hi) (hb:b≠1) (hm:g.hm b=some c) (ht:Tok g t c lo hi):TokI g t b d n lo hi:=fun j hj=>
 ⟨fun e=>ht j hj (.inl (by rw [e];exact .here hm)),fun _ _ hs hin=>ht j hj (In.sub h hv (fun _=>hm) hb hs hin)⟩
theorem wok (h:Inv m g):∀ f,WOk m g f:=by
 intro f
 induction f using Nat.strongRecOn with
 | ind f ih=>
  intro c lo hi t a d n i hs hsv h0 hf ht;cases f with
  | zero=>exact absurd hf (by omega)
  | succ f=>
   obtain ⟨hw,hd⟩:=h.logic hs h0;unfold a0G;rw [if_pos hd];generalize m.logicZ c=w at hw;show ∃ t',sndW m (f+1) w lo hi t=some t'/\_;rcases hw with ⟨k1,he,hm⟩ | ⟨k2,k,v,hl,hk⟩ | ⟨k3,d',n',hI,h2,hb,hm,hc⟩ | ⟨k4,tg,gd,hR,hmr,k3,d',n',hI,h2,hb,hm,hc⟩
   ·obtain ⟨e1,e2⟩:=p0V h ht he.rc (by omega) (fun j a1 a2=>.inl (by rw [show j=ad w by omega];have:=(he.rc.2 0 (by omega) (by omega)).1;rw [Int.add_zero] at this;rw [this];exact .here hm));exact ⟨_,by unfold sndW;rw [if_pos k1];exact e1,e2⟩
   ·have hk':=hk lo hi hsv;have elk:=h.fix hl.c0;obtain ⟨e1,e2⟩:=p0V h ht hl.rc (by omega) (fun j a1 a2=>by
     have:=(hl.rc.2 (j - ad w) (by omega) (by omega)).1
     rw [show ad w+(j - ad w)=j by omega] at this;exact .inr ⟨k,v,by rw [this];exact hl,hk'.1,hk'.2⟩)
    exact ⟨_,by unfold sndW;rw [if_neg (by rw [k2];decide),if_pos k2,elk,if_pos hk'];exact e1,e2⟩
   ·have hv:=Iv.slot hsv hb hm;obtain ⟨t',e1,e2⟩:=snd_in h (ih f (by omega)) hv hb hm hI h2 hc hf (tok_in h hv hb hm ht);exact ⟨t',by unfold sndW;rw [if_neg (by rw [k3];decide),if_neg (by rw [k3];decide),if_pos k3];exact e1,e2⟩
   ·have hv:=Iv.slot hsv hb hm;have elk:m.look (ad w)=tg:=h.fix hR.c0;have cellr:∀ j,ad w<=j->j < ad w+5->g.rb j=ad w:=fun j a1 a2=>by
     have:=(hR.rc.2 (j - ad w) (by omega) (by omega)).1
     rwa [show ad w+(j - ad w)=j by omega] at this
    obtain ⟨e1,e2⟩:=p0V h ht hR.rc (by omega) (fun j a1 a2=>.inl (by rw [cellr j a1 a2];exact .here hmr));have fr:=c0D e1;have r1:=hR.rc.1;obtain ⟨f',rfl⟩:∃ f',f=f' + 1:=⟨f - 1,by omega⟩;obtain ⟨a',lo',hi',hva⟩:∃ a' lo' hi',Iv g a' lo' hi'/\a'=a:=by
     obtain ⟨a',d2,n2,l',u',i',q1,q2,q3,q4,q5,_,_⟩:=hsv;exact ⟨a',l',u',q1,(Slot.fn (g:=g) (c:=c) ⟨q2,q3,q4,q5⟩ hs).1⟩
    obtain ⟨hva,rfl⟩:=hva;obtain ⟨t',e3,e4⟩:=snd_in h (ih f' (by omega)) (t:=b0S t (ad w).toNat (5:Int).toNat) hv hb hm hI h2 hc (by omega) (by
     intro j hj;unfold b0S at hj;rw [Bool.or_eq_true,decide_eq_true_eq] at hj;rcases hj with hj | hj
     ·exact tok_in h hv hb hm ht j hj
     ·have er:=cellr (j:Int) (by omega) (by omega);rw [er];refine ⟨fun e=>by have q1:=hR.kn;have q2:=hI.kn;rw [e] at q1;omega,fun c' i' hs' hin=>?_⟩;rcases hin with u | ⟨k,v,l,_,_⟩
      ·rw [er] at u;cases u with
       | here e=>
        rw [hmr] at e;have ec:=Option.some.inj e;rw [<- ec] at hs';obtain ⟨rfl,_⟩:=hs'.fn hs;exact acyc h.hm1 hv _ _ _ _ hs' (.here hm)
       | there u2 hs2 e=>
        rw [hmr] at e;have ec:=Option.some.inj e;rw [<- ec] at hs2;obtain ⟨rfl,_⟩:=hs2.fn hs;exact acyc h.hm1 hva _ _ _ _ hs (Un.trans (.here hm) hs' u2)
      ·rw [er] at l
       have:=l.kn.symm.trans hR.kn
       omega)
    refine ⟨t',?_,fun j hj=>?_⟩
    ·unfold sndW;rw [if_neg (by rw [k4];decide),if_neg (by rw [k4];decide),if_neg (by rw [k4];decide),if_pos k4,elk,if_pos k3];show (a0Y (m.xs.length+1) t (ad w).toNat (5:Int).toNat).bind _=_;rw [e1];show sndW m (f' + 1) tg lo hi _=_;unfold sndW;rw [if_neg (by rw [k3];decide),if_neg (by rw [k3];decide),if_pos k3];exact e3
    ·rcases e4 j hj with e | e
     ·exact e2 j e
     ·exact .inr e
theorem Inv.sound (h:Inv m g):b0A m=true:=by
 obtain ⟨hI,h6⟩:=h.top;have hs:Slot g 6 1 1 0 0:=⟨hI,by omega,by omega,rfl⟩;have l6:=h.lt (c:=6) (by rw [hs.ro];exact fun e=>by cases e);have e1:m.look 1=1:=h.fix hI.c0;have e3:m.look 3=0:=by
  have e:=h.cell 3;unfold COk at e;rw [show g.ro 3=some .shut from hI.c2] at e;rcases e with e | ⟨_,e,_⟩
  ·exact e
  ·exact absurd (hI.rb (j:=2) (by omega) (by omega)) e
 have sv:=hs.siv (Iv.top hI);have el:gl g 1 (-9223372036854775808) 0=-9223372036854775808:=by simp [gl]
 have eu:gu g 1 1 9223372036854775807 0=9223372036854775807:=by simp [gu]
 rw [el,eu] at sv;have fb:=h0T (m.xs.length+1) e0G;obtain ⟨t',ht,_⟩:=wok h (fuel m) 6 _ _ e0G _ _ _ _ hs sv h6 (by unfold fuel;omega) (by
  intro j hj hin;unfold e0G b0S at hj;simp only [Bool.false_or,decide_eq_true_eq] at hj;have er:=hI.rb (j:=(j:Int) - 1) (by omega) (by omega);rw [show (1:Int)+((j:Int) - 1)=(j:Int) by omega] at er;rcases hin with u | ⟨k,v,l,_,_⟩
  ·rw [er] at u;obtain ⟨c',e⟩:=u.hm;rw [h.hm1] at e;cases e
  ·rw [er] at l
   have:=l.kn.symm.trans hI.kn
   omega)
 unfold b0A;rw [e1,e3,ht];simp;omega
end Sd
namespace Sd
structure E0 (g g':Gh):Prop where
 ro:∀ c,g.ro c≠none->g'.ro c=g.ro c/\g'.rb c=g.rb c/\g'.kn c=g.kn c
 hm:∀ b c,g.hm b=some c->g'.hm b=some c
structure Ex (m:Mst) (g:Gh) (m':Mst) (g':Gh):Prop extends E0 g g' where
 pl:∀ D,g.pl D=true->g'.pl D=true/\g'.lt D=g.lt D
 shut:∀ c,g.ro c=some .shut->m.look c≠0->m'.look c≠0
 slot:∀ c,g.ro c=some .slot->m.look c≠0->m'.look c≠0
 stay:∀ c,g.ro c=some .sum∨g.ro c=some .root∨g.ro c=some .out->m.look c≠0->m'.look c=m.look c
 fz:∀ c w,Fz m g c w->Fz m' g' c w
 still:∀ c a d n i,Slot g c a d n i->(∀ lo hi,¬ Iv g' a lo hi)->m'.look c=m.look c
 len:∀ c,m.used c=true->m'.used c=true
 key:∀ c z,g.ro c=some (.key z)->m.look c=z->m'.look c=z
 lt:∀ D gd p o x,IsDc g D gd p o x->g'.lt D=true->g.lt D=true∨(g'.ro gd=some .shut/\m'.look gd≠0)
theorem Ex.refl (m:Mst) (g:Gh):Ex m g m g:=
 ⟨⟨fun _ _=>⟨rfl,rfl,rfl⟩,fun _ _ h=>h⟩,fun _ h=>⟨h,rfl⟩,fun _ _ h=>h,fun _ _ h=>h,fun _ _ _=>rfl,fun _ _ h=>h,fun _ _ _ _ _ _ _=>rfl,fun _ h=>h,fun _ _ _ e=>e,fun _ _ _ _ _ _ e=>.inl e⟩
section
variable {m m':Mst} {g g':Gh}
theorem E0.so (h:E0 g g') {c:Int} {r:Ro} (e:g.ro c=some r):g'.ro c=some r:=(h.ro c (by rw [e];exact fun e=>by cases e)).1.trans e
theorem E0.rc (h:E0 g g') {a n:Int} (hr:Rec g a n):Rec g' a n:=⟨hr.1,fun j h0 h1=>by
 obtain ⟨e1,e2,_⟩:=h.ro (a+j) (hr.2 j h0 h1).2;exact ⟨e2.trans (hr.2 j h0 h1).1,by rw [e1];exact (hr.2 j h0 h1).2⟩⟩
theorem E0.kn (h:E0 g g') {a k:Int} {r:Ro} (e:g.kn a=k) (e2:g.ro a=some r):g'.kn a=k:=(h.ro a (by rw [e2];exact fun e=>by cases e)).2.2.trans e
theorem E0.empty (h:E0 g g') {a:Int} (q:l0N g a):l0N g' a:=⟨h.kn q.kn q.c0,h.rc q.rc,h.so q.c0⟩
theorem E0.leaf (h:E0 g g') {a k v:Int} (q:c0C g a k v):c0C g' a k v:=⟨h.kn q.kn q.c0,h.rc q.rc,h.so q.c0,h.so q.c1⟩
theorem E0.inner (h:E0 g g') {a d n:Int} (q:a0E g a d n):a0E g' a d n:=
 ⟨h.kn q.kn q.c0,h.rc q.rc,q.pos,h.so q.c0,h.so q.c1,h.so q.c2,h.so q.c3,h.so q.c4,fun i h1 h2=>by obtain ⟨z,e⟩:=q.ck i h1 h2;exact ⟨z,h.so e⟩,fun i h1 h2=>h.so (q.cs i h1 h2)⟩
theorem E0.reb (h:E0 g g') {a t gd p:Int} (q:f0Z g a t gd p):f0Z g' a t gd p:=⟨h.kn q.kn q.c0,h.rc q.rc,h.so q.c0,h.so q.c1,h.so q.c2,h.so q.c3,h.so q.c4⟩
theorem E0.dc (h:E0 g g') {a gd p o x:Int} (q:IsDc g a gd p o x):IsDc g' a gd p o x:=⟨h.kn q.kn q.c0,h.rc q.rc,h.so q.c0,h.so q.c1,h.so q.c2,h.so q.c3,h.so q.c4⟩
theorem E0.sl (h:E0 g g') {c a d n i:Int} (q:Slot g c a d n i):Slot g' c a d n i:=⟨h.inner q.1,q.2⟩
theorem E0.gk (h:E0 g g') {a d n i:Int} (q:a0E g a d n) (h1:1<=i) (h2:i < d):gk g' a i=gk g a i:=by
 obtain ⟨z,e⟩:=q.ck i h1 h2;unfold Sd.gk;rw [e,h.so e]
theorem E0.gl (h:E0 g g') {a d n lo i:Int} (q:a0E g a d n) (h1:0<=i) (h2:i < d):gl g' a lo i=gl g a lo i:=by
 unfold Sd.gl
 split
 ·rfl
 ·exact h.gk q (by omega) h2
theorem E0.gu (h:E0 g g') {a d n hi i:Int} (q:a0E g a d n) (h1:0<=i):gu g' a d hi i=gu g a d hi i:=by
 unfold Sd.gu
 split
 ·rw [h.gk q (by omega) (by omega)]
 ·rfl
theorem E0.iv (h:E0 g g') {a lo hi:Int} (q:Iv g a lo hi):Iv g' a lo hi:=by
 induction q with
 | top h1=>exact Iv.top (h.inner h1)
 | sub h1 h2 h3 h4 hb e ih=>
  rw [<- h.gl h2 h3 h4,<- h.gu h2 h3];exact Iv.sub ih (h.inner h2) h3 h4 hb (h.hm _ _ e)
theorem E0.siv (h:E0 g g') {c lo hi:Int} (q:SIv g c lo hi):SIv g' c lo hi:=by
 obtain ⟨a,d,n,l,u,i,h1,h2,h3,h4,e,rfl,rfl⟩:=q;exact ⟨a,d,n,l,u,i,h.iv h1,h.inner h2,h3,h4,e,(h.gl h2 h3 h4).symm,(h.gu h2 h3).symm⟩
theorem E0.back (h:E0 g g') {c lo hi:Int} (hc:∃ l u,SIv g c l u) (q:SIv g' c lo hi):SIv g c lo hi:=by
 obtain ⟨l,u,e⟩:=hc;obtain ⟨rfl,rfl⟩:=(h.siv e).fn q;exact e
theorem At.siv {gd p:Int} (h:At g gd p):∃ l u,SIv g p l u:=by
 obtain ⟨a,d,n,i,lo,hi,h1,_,h3⟩:=h;exact ⟨_,_,h1.siv h3⟩
theorem E0.at (h:E0 g g') {gd p:Int} (q:At g gd p):At g' gd p:=by
 obtain ⟨a,d,n,i,lo,hi,h1,h2,h3⟩:=q;exact ⟨a,d,n,i,lo,hi,h.sl h1,h2,h.iv h3⟩
theorem Ex.compl (h:Ex m g m' g') {a d n:Int} (q:a0E g a d n) (hc:e0I m g a):e0I m' g' a:=by
 intro d' n' i q' h0 h1;obtain ⟨rfl,rfl⟩:=(h.inner q).deg q';exact h.slot _ (q.cs i h0 h1) (hc d n i q h0 h1)
theorem Ex.okI (h:Ex m g m' g') {c w:Int} (q:OkI m g c w):OkI m' g' c w:=by
 obtain ⟨k,d,n,h1,h2,h3,h4,h5⟩:=q;exact ⟨k,d,n,h.inner h1,h2,h3,h.hm _ _ h4,h.compl h1 h5⟩
theorem Ex.okW (h:Ex m g m' g') {c w:Int} (hc:∀ lo hi,SIv g' c lo hi->SIv g c lo hi) (q:OkW m g c w):OkW m' g' c w:=by
 rcases q with ⟨k,h1,h2⟩ | ⟨k,a,v,h1,h2⟩ | q | ⟨k,t,gd,h1,h2,h3⟩
 ·exact .inl ⟨k,h.empty h1,h.hm _ _ h2⟩
 ·exact .inr (.inl ⟨k,a,v,h.leaf h1,fun lo hi e=>h2 lo hi (hc lo hi e)⟩)
 ·exact .inr (.inr (.inl (h.okI q)))
 ·exact .inr (.inr (.inr ⟨k,t,gd,h.reb h1,h.hm _ _ h2,h.okI h3⟩))
theorem Ex.fs (h:Ex m g m' g') {F F':Int->Ps->Prop} (hF:∀ a ps,F a ps->F' a ps) (hi:∀ a ps,F a ps->∃ d n,a0E g a d n) {c:Int} {ps:Ps} (q:FS m g F c ps):FS m' g' F' c ps:=by
 have hs:∀ a,F a ps->m.look (a+4)=ps.length+1->m'.look (a+4)=ps.length+1:=fun a e1 e2=>by
  obtain ⟨d,n,hI⟩:=hi a ps e1;rw [h.stay _ (.inl hI.c4) (by omega),e2]
 obtain ⟨w,h1,h2⟩:=q;refine ⟨w,h.fz c w h1,?_⟩;rcases h2 with ⟨k,e⟩ | ⟨k,a,v,e1,e2⟩ | ⟨k,e1,e2⟩ | ⟨k,t,gd,p,e0,e1,e2⟩
 ·exact .inl ⟨k,e⟩
 ·exact .inr (.inl ⟨k,a,v,h.leaf e1,e2⟩)
 ·exact .inr (.inr (.inl ⟨k,hF _ _ e1,hs _ e1 e2⟩))
 ·exact .inr (.inr (.inr ⟨k,t,gd,p,h.reb e0,hF _ _ e1,hs _ e1 e2⟩))
theorem FTf.inner:∀ {f:Nat} {a:Int} {ps:Ps},FTf m g f a ps->∃ d n,a0E g a d n
 | 0,_,_,h=>h.elim
 | _+1,_,_,⟨d,n,_,h,_⟩=>⟨d,n,h⟩
theorem Ex.ftf (h:Ex m g m' g'):∀ (f:Nat) (a:Int) (ps:Ps),FTf m g f a ps->FTf m' g' f a ps
 | 0,_,_,q=>q.elim
 | f+1,_,_,⟨d,n,q,h1,h2,h3,h4⟩=>⟨d,n,q,h.inner h1,h.shut _ h1.c2 h2,fun i hi=>h.fs (h.ftf f) (fun _ _ e=>FTf.inner e) (h3 i hi),h4⟩
theorem Ex.ft (h:Ex m g m' g') {a:Int} {ps:Ps} (q:FT m g a ps):FT m' g' a ps:=by
 obtain ⟨f,q⟩:=q;exact ⟨f,h.ftf f a ps q⟩
theorem Ex.dcOk (h:Ex m g m' g') {D:Int} (q:DcOk m g D):DcOk m' g' D:=by
 obtain ⟨gd,p,o,x,h1,h2,h3,h4,h5⟩:=q;refine ⟨gd,p,o,x,h.dc h1,h.okW (fun _ _ e=>h.back h4.siv e) h2,h.okW (fun _ _ e=>h.back h4.siv e) h3,h.at h4,fun e=>?_⟩;rcases h.lt D gd p o x h1 e with e | ⟨_,e⟩
 ·obtain ⟨a,d,n,i,lo,hi,q1,q2,_⟩:=h4;exact h.shut gd (by rw [q2];exact q1.1.c2) (h5 e)
 ·exact e
theorem Ex.rbOk (h:Ex m g m' g') {r:Int} (q:RbOk m g r):RbOk m' g' r:=by
 obtain ⟨t,gd,p,h1,h2,h3⟩:=q;exact ⟨t,gd,p,h.reb h1,h.okI h2,h.at h3⟩
theorem Ex.rtOk (h:Ex m g m' g') {r w:Int} (hr:RbOk m g r) (q:RtOk m g r w):RtOk m' g' r w:=by
 obtain ⟨t,gd,p,ps,h1,h2,h3⟩:=q;obtain ⟨t',gd',p',h1',_,h3'⟩:=hr;obtain ⟨rfl,rfl,rfl⟩:=h1.fn h1';refine ⟨t,gd,p,ps,h.reb h1,h.ft h2,?_⟩;rcases h3 with ⟨e1,e2,e3⟩ | ⟨e1,e2,e3,e4,d,e5,e6,e7,e8⟩
 ·exact .inl ⟨e1,h.okW (fun _ _ e=>h.back h3'.siv e) e2,e3⟩
 ·exact .inr ⟨e1,e2,e3,h.hm _ _ e4,d,h.inner e5,e6,e7,fun i a b=>by rw [h.gk e5 a b];exact e8 i a b⟩
theorem Ex.cok (h:Ex m g m' g') {c:Int} (hu:g.ro c≠none) (e:m'.look c=m.look c) (hc:g.ro c=some .slot->∀ lo hi,SIv g' c lo hi->SIv g c lo hi) (q:COk m g c):COk m' g' c:=by
 obtain ⟨r1,r2,_⟩:=h.ro c hu;unfold COk at q ⊢;rw [r1,e];cases er:g.ro c with
 | none=>exact absurd er hu
 | some r=>
  rw [er] at q;cases r with
  | fix z=>exact q
  | key z=>exact q
  | shut=>
   simp only at q ⊢;rw [r2];rcases q with q | ⟨q1,q2,d,n,q3,q4⟩
   ·exact .inl q
   ·exact .inr ⟨q1,q2,d,n,h.inner q3,h.compl q3 q4⟩
  | chg=>trivial
  | cnt=>trivial
  | sum=>
   simp only at q ⊢;rw [r2];rcases q with q | ⟨ps,q1,q2⟩
   ·exact .inl q
   ·exact .inr ⟨ps,h.ft q1,q2⟩
  | slot=>
   simp only at q ⊢;rcases q with q | q | ⟨q1,q2,gd,o,x,q3⟩
   ·exact .inl q
   ·exact .inr (.inl (h.okW (hc er) q))
   ·exact .inr (.inr ⟨q1,(h.pl _ q2).1,gd,o,x,h.dc q3⟩)
  | root=>
   simp only at q ⊢;rw [r2];refine ⟨h.rbOk q.1,?_⟩;rcases q.2 with q2 | q2
   ·exact .inl q2
   ·exact .inr (h.rtOk q.1 q2)
  | out=>
   simp only at q ⊢;rw [r2];obtain ⟨q1,q2,q3⟩:=q;refine ⟨h.dcOk q1,?_,?_⟩
   ·rcases q2 with q2 | ⟨q2,q4⟩
    ·exact .inl q2
    ·exact .inr ⟨q2,(h.pl _ q4).1⟩
   ·intro hl;rcases q2 with q2 | ⟨_,q4⟩
    ·rw [q2];decide
    ·exact q3 ((h.pl _ q4).2.symm.trans hl)
end
theorem Ex.trans {m m' m'':Mst} {g g' g'':Gh} (h:Ex m g m' g') (h':Ex m' g' m'' g''):Ex m g m'' g'':=by
 have rr:∀ c,g.ro c≠none->g'.ro c≠none:=fun c hc=>by rw [(h.ro c hc).1];exact hc
 have rs':∀ {c r},g'.ro c=some r->g''.ro c=some r:=fun {c r} e=>(h'.ro c (by rw [e];exact fun e=>by cases e)).1.trans e;have rs:∀ {c r},g.ro c=some r->g'.ro c=some r:=fun {c r} e=>(h.ro c (by rw [e];exact fun e=>by cases e)).1.trans e;refine ⟨⟨fun c hc=>?_,fun b c e=>h'.hm b c (h.hm b c e)⟩,fun D e=>?_,fun c e q=>h'.shut c (rs e) (h.shut c e q),fun c e q=>h'.slot c (rs e) (h.slot c e q),fun c e q=>?_,fun c w e=>h'.fz c w (h.fz c w e),fun c a d n i hs hn=>?_,fun c e=>h'.len c (h.len c e),fun c z e q=>h'.key c z (rs e) (h.key c z e q),fun D gd p o x hD e=>?_⟩
 ·obtain ⟨a1,a2,a3⟩:=h.ro c hc;obtain ⟨b1,b2,b3⟩:=h'.ro c (rr c hc);exact ⟨b1.trans a1,b2.trans a2,b3.trans a3⟩
 ·obtain ⟨a1,a2⟩:=h.pl D e;obtain ⟨b1,b2⟩:=h'.pl D a1;exact ⟨b1,b2.trans a2⟩
 ·have e1:=h.stay c e q;rw [h'.stay c (by rcases e with e | e | e;exact .inl (rs e);exact .inr (.inl (rs e));exact .inr (.inr (rs e))) (by rw [e1];exact q),e1]
 ·rw [h'.still c a d n i (h.sl hs) hn,h.still c a d n i hs (fun lo hi e=>hn lo hi (h'.iv e))]
 ·rcases h'.lt D gd p o x (h.dc hD) e with e | e
  ·rcases h.lt D gd p o x hD e with e | ⟨e1,e2⟩
   ·exact .inl e
   ·exact .inr ⟨rs' e1,h'.shut gd e1 e2⟩
  ·exact .inr e
end Sd
namespace Sd
structure Put1 (m m':Mst) (c0 x:Int):Prop where
 look:∀ c,m'.look c=if c=c0 then x else m.look c
 used:∀ c,m'.used c=m.used c
 ok:m'.ok
 size:m'.size=m.size
 len:m'.xs.length=m.xs.length
theorem look_set {s:Mst} {a x:Int} (hu:s.used a=true) (c:Int):(s.write a x).look c=if c=a then x else s.look c:=by
 obtain ⟨j,rfl,hj⟩:=Mst.used_nat hu;rw [Mst.write_in hj]
 by_cases hc:s.used c=true
 ·obtain ⟨i,rfl,hi⟩:=Mst.used_nat hc
  by_cases e:i=j
  ·subst e;rw [if_pos rfl];exact Mst.look_succ (by simp [hi])
  ·rw [if_neg (by omega)];have h1:s.look ((i:Int)+1)=s.xs[i]:=Mst.look_succ (List.getElem?_eq_getElem hi);rw [h1];refine Mst.look_succ ?_;show (s.xs.set j x)[i]? = _;rw [List.getElem?_set_ne (by omega),List.getElem?_eq_getElem hi]
 ·have h1:s.used c=false:=by simpa using hc
  have h2:Mst.used { s with count:=wrap64 (s.count+1),xs:=s.xs.set j x } c=false:=by
   unfold Mst.used at h1 ⊢;simpa using h1
  rw [Mst.look_none h1,Mst.look_none h2,if_neg];rintro rfl;rw [hu] at h1;cases h1
theorem u0X (s:Mst) (a x:Int):(s.write a x).xs.length=s.xs.length:=by
 unfold Mst.write Mst.put
 split
 ·simp [Mst.touch_xs]
 ·rw [Mst.touch_xs]
theorem used_set (s:Mst) (a x c:Int):(s.write a x).used c=s.used c:=by
 unfold Mst.used;rw [u0X s a x]
theorem e0L (s:Mst) (a:Int):(s.touch a).size=s.size:=by unfold Mst.touch;split <;> rfl
theorem size_set (s:Mst) (a x:Int):(s.write a x).size=s.size:=by
 unfold Mst.write Mst.put
 split
 ·exact e0L s a
 ·exact e0L s a
theorem c0H {s:Mst} (h:s.ok) {a x:Int} (hu:s.used a=true) (hx:I64 x):Put1 s (s.write a x) a x:=by
 refine ⟨look_set hu,used_set s a x,?_,size_set s a x,u0X s a x⟩;obtain ⟨j,rfl,hj⟩:=Mst.used_nat hu;rw [Mst.write_in hj];refine ⟨fun z hz=>?_,by simpa using h.2⟩;rcases List.mem_or_eq_of_mem_set hz with hz | rfl
 ·exact h.1 z hz
 ·exact hx
variable {m m':Mst} {g:Gh} {c0 x:Int}
theorem Put1.ne (hp:Put1 m m' c0 x) {c:Int} (h:c≠c0):m'.look c=m.look c:=by rw [hp.look,if_neg h]
theorem Put1.eq (hp:Put1 m m' c0 x):m'.look c0=x:=by rw [hp.look,if_pos rfl]
theorem Put1.ex (hp:Put1 m m' c0 x) (h1:g.ro c0=some .shut->x≠0) (h2:g.ro c0=some .sum∨g.ro c0=some .root∨g.ro c0=some .out->m.look c0≠0->x=m.look c0)
  (h3:g.ro c0=some .slot->x≠0/\(∀ a d n i,Slot g c0 a d n i->∃ lo hi,Iv g a lo hi)/\∀ w,Fz m g c0 w->Fz m' g c0 w) (h4:∀ z,g.ro c0=some (.key z)->x=z):Ex m g m' g:=by
 refine ⟨⟨fun _ _=>⟨rfl,rfl,rfl⟩,fun _ _ e=>e⟩,fun _ e=>⟨e,rfl⟩,fun c e q=>?_,fun c e q=>?_,fun c e q=>?_,fun c w q=>?_,fun c a d n i hs hn=>?_,fun c e=>by rw [hp.used];exact e,fun c z e q=>?_,fun _ _ _ _ _ _ e=>.inl e⟩
 ·by_cases ec:c=c0
  ·rw [ec,hp.eq];exact h1 (ec ▸ e)
  ·rw [hp.ne ec];exact q
 ·by_cases ec:c=c0
  ·rw [ec,hp.eq];exact (h3 (ec ▸ e)).1
  ·rw [hp.ne ec];exact q
 ·by_cases ec:c=c0
  ·rw [ec,hp.eq];exact h2 (ec ▸ e) (ec ▸ q)
  ·exact hp.ne ec
 ·by_cases ec:c=c0
  ·have hs:g.ro c0=some .slot:=by
    obtain ⟨a,d,n,i,hs,_⟩:=q;rw [<- ec];exact hs.ro
   rw [ec] at q ⊢;exact (h3 hs).2.2 w q
  ·obtain ⟨a,d,n,i,hs,q1,q2,q3,q4⟩:=q;refine ⟨a,d,n,i,hs,?_,q2,q3,by rw [hp.ne ec];exact q4⟩
   by_cases e2:a+2=c0
   ·rw [e2,hp.eq];exact h1 (e2 ▸ hs.1.c2)
   ·rw [hp.ne e2];exact q1
 ·by_cases ec:c=c0
  ·rw [ec] at hs;obtain ⟨lo,hi,e⟩:=(h3 hs.ro).2.1 a d n i hs;exact absurd e (hn lo hi)
  ·exact hp.ne ec
 ·by_cases ec:c=c0
  ·rw [ec,hp.eq];exact h4 z (ec ▸ e)
  ·rw [hp.ne ec];exact q
theorem Inv.put (h:Inv m g) (hp:Put1 m m' c0 x) (hE:Ex m g m' g) (hc:COk m' g c0)
  (hk:∀ a d n i,a0E g a d n->1<=i->i < d->m'.look (a+4+d+i)≠0->m'.look (a+4+i)=gk g a i):Inv m' g:=by
 refine ⟨hp.ok,by rw [hp.size,hp.len];exact h.sz,fun c=>by rw [hp.used];exact h.used c,fun c=>?_,⟨h.top.1,?_⟩,h.keys,hk,fun b c e=>?_,h.hm1,h.hml,h.hmu,h.late,h.plw⟩
 ·by_cases ec:c=c0
  ·rw [ec];exact hc
  ·by_cases hu:g.ro c=none
   ·unfold COk;rw [hu];trivial
   ·exact hE.cok hu (hp.ne ec) (fun _ _ _ e=>e) (h.cell c)
 ·have hs:Slot g 6 1 1 0 0:=⟨h.top.1,by omega,by omega,rfl⟩;exact hE.slot 6 hs.ro h.top.2
 ·obtain ⟨a,d,n,i,hs,q⟩:=h.home b c e;refine ⟨a,d,n,i,hs,?_⟩;rcases q with q | q
  ·exact .inl q
  ·by_cases hr:∃ lo hi,Iv g a lo hi
   ·exact .inl hr
   ·exact .inr (by rw [hE.still c a d n i hs (fun lo hi e=>hr ⟨lo,hi,e⟩)];exact q)
theorem Inv.put_plain (h:Inv m g) (hp:Put1 m m' c0 x) (hs:g.ro c0≠some .slot) (hk:∀ z,g.ro c0≠some (.key z)) (h1:g.ro c0=some .shut->x≠0) (h2:g.ro c0=some .sum∨g.ro c0=some .root∨g.ro c0=some .out->m.look c0≠0->x=m.look c0) (hc:Ex m g m' g->COk m' g c0):Inv m' g/\Ex m g m' g:=by
 have hE:=hp.ex (g:=g) h1 h2 (fun e=>absurd e hs) (fun z e=>absurd e (hk z));refine ⟨h.put hp hE (hc hE) (fun a d n i hI a1 a2 q=>?_),hE⟩;have e1:a+4+d+i≠c0:=fun e=>hs (e ▸ hI.cs i (by omega) a2);have e2:a+4+i≠c0:=fun e=>by obtain ⟨z,ez⟩:=hI.ck i a1 a2;exact hk z (e ▸ ez)
 rw [hp.ne e1] at q;rw [hp.ne e2];exact h.kin a d n i hI a1 a2 q
theorem Fz.fn {c w w':Int} (h:Fz m g c w) (h':Fz m g c w'):w=w':=by
 obtain ⟨_,_,_,_,_,_,_,k,q⟩:=h;obtain ⟨_,_,_,_,_,_,_,k',q'⟩:=h';rcases q with q | ⟨q,_,_,gd,x,hD⟩
 ·rcases q' with q' | ⟨q',_⟩
  ·exact q.symm.trans q'
  ·rw [q] at q';exact absurd q' k
 ·rcases q' with q' | ⟨_,_,_,gd',x',hD'⟩
  ·rw [q'] at q;exact absurd q k'
  ·exact (hD.fn hD').2.2.1
theorem FTf.fn:∀ {f f':Nat} {a:Int} {ps ps':Ps},FTf m g f a ps->FTf m g f' a ps'->ps=ps'
 | 0,_,_,_,_,h,_=>h.elim
 | _+1,0,_,_,_,_,h=>h.elim
 | f+1,f' + 1,a,ps,ps',⟨d,n,q,hI,_,hq,e⟩,⟨d',n',q',hI',_,hq',e'⟩=>by
  obtain ⟨rfl,rfl⟩:=hI.deg hI';rw [e,e']
  suffices hh:∀ i:Nat,(i:Int) < d->q i=q' i by
   have:∀ l:List Nat,(∀ i ∈ l,(i:Int) < d)->l.flatMap q=l.flatMap q':=by
    intro l
    induction l with
    | nil=>intro _;rfl
    | cons i l ih=>
     intro hl;rw [List.flatMap_cons,List.flatMap_cons,hh i (hl i (by simp)),ih (fun j hj=>hl j (by simp [hj]))]
   exact this (List.range d.toNat) (fun i hi=>by have:=List.mem_range.1 hi;omega)
  intro i hi;obtain ⟨w,z,hw⟩:=hq i hi;obtain ⟨w',z',hw'⟩:=hq' i hi;obtain rfl:=z.fn z';rcases hw with ⟨k,e1⟩ | ⟨k,u,v,hl,e1⟩ | ⟨k,e1,_⟩ | ⟨k,t,gd,p,hR,e1,_⟩
  ·rcases hw' with ⟨k',e2⟩ | ⟨k',_⟩ | ⟨k',_⟩ | ⟨k',_⟩
   ·rw [e1,e2]
   all_goals omega
  ·rcases hw' with ⟨k',_⟩ | ⟨k',u',v',hl',e2⟩ | ⟨k',_⟩ | ⟨k',_⟩
   ·omega
   ·have a1:=hl.c0.symm.trans hl'.c0;have a2:=hl.c1.symm.trans hl'.c1;cases a1;cases a2;rw [e1,e2]
   all_goals omega
  ·rcases hw' with ⟨k',_⟩ | ⟨k',_⟩ | ⟨k',e2,_⟩ | ⟨k',_⟩
   ·omega
   ·omega
   ·exact FTf.fn e1 e2
   ·omega
  ·rcases hw' with ⟨k',_⟩ | ⟨k',_⟩ | ⟨k',_⟩ | ⟨k',t',gd',p',hR',e2,_⟩
   ·omega
   ·omega
   ·omega
   ·obtain ⟨rfl,_⟩:=hR.fn hR';exact FTf.fn e1 e2
theorem FT.fn {a:Int} {ps ps':Ps} (h:FT m g a ps) (h':FT m g a ps'):ps=ps':=by
 obtain ⟨f,h⟩:=h;obtain ⟨f',h'⟩:=h';exact h.fn h'
theorem t0Q (h:Inv m g) {a d n:Int} (hI:a0E g a d n) (ha:a≠1) (hc:e0I m g a) (hp:Put1 m m' (a+2) 1):Inv m' g/\Ex m g m' g:=by
 have r:=hI.c2;refine h.put_plain hp (by rw [r];exact fun e=>by cases e) (fun z=>by rw [r];exact fun e=>by cases e) (fun _=>by decide) (fun e=>by rw [r] at e;rcases e with e | e | e <;> cases e) (fun hE=>?_);unfold COk;rw [r];refine .inr ⟨hp.eq,?_,d,n,?_,?_⟩
 ·rw [hI.rb (j:=2) (by omega) (by have:=hI.pos;omega)];exact ha
 ·rw [hI.rb (j:=2) (by omega) (by have:=hI.pos;omega)];exact hI
 ·rw [hI.rb (j:=2) (by omega) (by have:=hI.pos;omega)];exact hE.compl hI hc
theorem step_sum (h:Inv m g) {a d n:Int} (hI:a0E g a d n) {ps:Ps} (hF:FT m g a ps) (hp:Put1 m m' (a+4) (ps.length+1)):Inv m' g/\Ex m g m' g:=by
 have r:=hI.c4;have er:g.rb (a+4)=a:=hI.rb (j:=4) (by omega) (by have:=hI.pos;omega);refine h.put_plain hp (by rw [r];exact fun e=>by cases e) (fun z=>by rw [r];exact fun e=>by cases e) (fun e=>by rw [r] at e;cases e) (fun _ q=>?_) (fun hE=>?_)
 ·have e:=h.cell (a+4);unfold COk at e;rw [r,er] at e;rcases e with e | ⟨ps',e1,e2⟩
  ·exact absurd e q
  ·rw [e2,hF.fn e1]
 ·unfold COk;rw [r,er];exact .inr ⟨ps,hE.ft hF,hp.eq⟩
theorem l0U (h:Inv m g) {c:Int} (r:g.ro c=some .chg∨g.ro c=some .cnt) (hp:Put1 m m' c x):Inv m' g/\Ex m g m' g:=by
 refine h.put_plain hp (fun e=>by rcases r with r | r <;> (rw [r] at e;cases e)) (fun z e=>by rcases r with r | r <;> (rw [r] at e;cases e)) (fun e=>by rcases r with r | r <;> (rw [r] at e;cases e)) (fun e=>by rcases r with r | r <;> (rw [r] at e;rcases e with e | e | e <;> cases e)) (fun hE=>?_);unfold COk;rcases r with r | r <;> (rw [r];trivial)
theorem step_out (h:Inv m g) {D gd p o y:Int} (hD:IsDc g D gd p o y) (hpl:g.pl D=true) (h0:m.look (D+4)=0) (hx:x=1/\g.lt D=false∨x=2) (hp:Put1 m m' (D+4) x):Inv m' g/\Ex m g m' g:=by
 have r:=hD.c4;have er:g.rb (D+4)=D:=(hD.rc.2 4 (by omega) (by omega)).1;refine h.put_plain hp (by rw [r];exact fun e=>by cases e) (fun z=>by rw [r];exact fun e=>by cases e) (fun e=>by rw [r] at e;cases e) (fun _ q=>absurd h0 q) (fun hE=>?_);have e:=h.cell (D+4);unfold COk at e ⊢;rw [r,er] at e;rw [r,er];simp only at e ⊢;rw [hp.eq];refine ⟨hE.dcOk e.1,.inr ⟨by omega,hpl⟩,fun hl=>?_⟩;rcases hx with ⟨_,e2⟩ | e2
 ·rw [hl] at e2;cases e2
 ·omega
theorem t0R (h:Inv m g) {b t gd p:Int} (hR:f0Z g b t gd p) (h0:m.look (b+3)=0) (hw:RtOk m g b x) (hp:Put1 m m' (b+3) x):Inv m' g/\Ex m g m' g:=by
 have r:=hR.c3;have er:g.rb (b+3)=b:=(hR.rc.2 3 (by omega) (by omega)).1;refine h.put_plain hp (by rw [r];exact fun e=>by cases e) (fun z=>by rw [r];exact fun e=>by cases e) (fun e=>by rw [r] at e;cases e) (fun _ q=>absurd h0 q) (fun hE=>?_);have e:=h.cell (b+3);unfold COk at e ⊢;rw [r,er] at e;rw [r,er];simp only at e ⊢;rw [hp.eq];exact ⟨hE.rbOk e.1,.inr (hE.rtOk e.1 hw)⟩
theorem step_key (h:Inv m g) {a d n i:Int} (hI:a0E g a d n) (h1:1<=i) (h2:i < d) (hp:Put1 m m' (a+4+i) (gk g a i)):Inv m' g/\Ex m g m' g:=by
 obtain ⟨z,r⟩:=hI.ck i h1 h2;have ez:gk g a i=z:=by unfold gk;rw [r]
 rw [ez] at hp;have hE:=hp.ex (g:=g) (fun e=>by rw [r] at e;cases e) (fun e=>by rw [r] at e;rcases e with e | e | e <;> cases e) (fun e=>by rw [r] at e;cases e) (fun z' e=>by rw [r] at e;cases e;rfl);refine ⟨h.put hp hE ?_ (fun a' d' n' i' hI' q1 q2 q=>?_),hE⟩
 ·unfold COk;rw [r];exact .inr hp.eq
 ·have e1:a' + 4+d' + i'≠a+4+i:=fun e=>by have:=hI'.cs i' (by omega) q2;rw [e,r] at this;cases this
  rw [hp.ne e1] at q;have hk:=h.kin a' d' n' i' hI' q1 q2 q
  by_cases e2:a' + 4+i'=a+4+i
  ·rw [e2,hp.eq];unfold gk;rw [e2,r]
  ·rw [hp.ne e2];exact hk
theorem h0J (h:Inv m g) {c a d n i lo hi:Int} (hs:Slot g c a d n i) (hv:Iv g a lo hi) (hx:x≠0) (hfz:∀ w,Fz m g c w->Fz m' g c w) (hk:1<=i->m.look (a+4+i)=gk g a i) (hp:Put1 m m' c x) (hc:Ex m g m' g->OkW m' g c x∨(kd x=5/\g.pl (ad x)=true/\∃ gd o y,IsDc g (ad x) gd c o y)):Inv m' g/\Ex m g m' g:=by
 have r:=hs.ro;have hE:=hp.ex (g:=g) (fun e=>by rw [r] at e;cases e) (fun e=>by rw [r] at e;rcases e with e | e | e <;> cases e) (fun _=>⟨hx,fun a' d' n' i' hs'=>by obtain ⟨rfl,_⟩:=hs.fn hs';exact ⟨lo,hi,hv⟩,hfz⟩) (fun z e=>by rw [r] at e;cases e);refine ⟨h.put hp hE ?_ (fun a' d' n' i' hI' q1 q2 q=>?_),hE⟩
 ·unfold COk;rw [r];simp only;rw [hp.eq];exact .inr (hc hE)
 ·have e2:a' + 4+i'≠c:=fun e=>by obtain ⟨z,ez⟩:=hI'.ck i' q1 q2;rw [e,r] at ez;cases ez
  rw [hp.ne e2]
  by_cases e1:a' + 4+d' + i'=c
  ·obtain ⟨rfl,rfl,rfl,rfl⟩:=Slot.fn (g:=g) (c:=c) ⟨hI',by omega,q2,e1.symm⟩ hs;exact hk q1
  ·rw [hp.ne e1] at q;exact h.kin a' d' n' i' hI' q1 q2 q
end Sd
namespace Sd
variable {m m':Mst} {g:Gh}
def Gh.put (g:Gh) (D:Int) (b:Bool):Gh:={ g with pl:=fun x=>if x=D then true else g.pl x,lt:=fun x=>if x=D then b else g.lt x }
theorem Gh.put_e0 (g:Gh) (D:Int) (b:Bool):E0 g (g.put D b):=⟨fun _ _=>⟨rfl,rfl,rfl⟩,fun _ _ e=>e⟩
theorem Gh.put_e0' (g:Gh) (D:Int) (b:Bool):E0 (g.put D b) g:=⟨fun _ _=>⟨rfl,rfl,rfl⟩,fun _ _ e=>e⟩
theorem step_pl (h:Inv m g) {D gd p o x:Int} (hD:IsDc g D gd p o x) (h0:g.pl D=false) (b:Bool) (hb:b=true->m.look gd≠0):Inv m (g.put D b)/\Ex m g m (g.put D b):=by
 have f:=g.put_e0 D b;have r:=g.put_e0' D b;have hp:∀ E,g.pl E=true->(g.put D b).pl E=true/\(g.put D b).lt E=g.lt E:=fun E e=>by
  have:E≠D:=fun q=>by rw [q,h0] at e;cases e
  exact ⟨by show (if E=D then true else g.pl E)=true;rw [if_neg this];exact e,by show (if E=D then b else g.lt E)=_;rw [if_neg this]⟩
 have hE:Ex m g m (g.put D b):=⟨f,hp,fun _ _ e=>e,fun _ _ e=>e,fun _ _ _=>rfl,fun c w q=>by
  obtain ⟨a,d,n,i,hs,q1,q2,q3,q4⟩:=q;refine ⟨a,d,n,i,f.sl hs,q1,q2,q3,?_⟩;rcases q4 with q4 | ⟨k,p1,p2,gd',x',hD'⟩
  ·exact .inl q4
  ·exact .inr ⟨k,(hp _ p1).1,by rw [(hp _ p1).2];exact p2,gd',x',f.dc hD'⟩,fun _ _ _ _ _ _ _=>rfl,fun _ e=>e,fun _ _ _ e=>e,fun E gd' p' o' x' hE' e=>by
  have e':(if E=D then b else g.lt E)=true:=e
  by_cases ed:E=D
  ·rw [if_pos ed] at e';rw [ed] at hE';obtain ⟨rfl,rfl,rfl,rfl⟩:=hD.fn hE';refine .inr ⟨?_,hb e'⟩;have q:=h.cell (D+4);unfold COk at q;rw [hD.c4,(hD.rc.2 4 (by omega) (by omega)).1] at q;obtain ⟨⟨gd2,p2,o2,x2,q1,_,_,⟨a,d,n,i,lo,hi,q2,q3,_⟩,_⟩,_⟩:=q;obtain ⟨rfl,_⟩:=hD.fn q1;rw [q3];exact q2.1.c2
  ·rw [if_neg ed] at e';exact .inl e'⟩
 refine ⟨⟨h.ok,h.sz,h.used,fun c=>?_,⟨f.inner h.top.1,h.top.2⟩,fun a lo hi d n hv hI=>h.keys a lo hi d n (r.iv hv) (r.inner hI),fun a d n i hI=>h.kin a d n i (r.inner hI),fun x c e=>?_,h.hm1,h.hml,h.hmu,fun E e=>?_,fun E e=>?_⟩,hE⟩
 ·by_cases hu:g.ro c=none
  ·unfold COk;rw [show (g.put D b).ro c=g.ro c from rfl,hu];trivial
  ·exact hE.cok hu rfl (fun _ _ _ e=>r.siv e) (h.cell c)
 ·obtain ⟨a,d,n,i,hs,q⟩:=h.home x c e;exact ⟨a,d,n,i,f.sl hs,q.imp (fun ⟨lo,hi,e⟩=>⟨lo,hi,f.iv e⟩) id⟩
 ·show (if E=D then true else g.pl E)=true
  split
  ·rfl
  ·rename_i ne;have e':(if E=D then b else g.lt E)=true:=e;rw [if_neg ne] at e';exact h.late E e'
 ·by_cases ed:E=D
  ·exact ⟨gd,p,o,x,f.dc (ed ▸ hD)⟩
  ·have e':(if E=D then true else g.pl E)=true:=e;rw [if_neg ed] at e';obtain ⟨gd',p',o',x',q⟩:=h.plw E e';exact ⟨gd',p',o',x',f.dc q⟩
def PTf (m:Mst) (g:Gh):Nat->Int->Int->Int->Prop
 | 0=>fun _ _ _=>False
 | f+1=>fun b lo hi=>∀ d n,a0E g b d n->(∀ i,0<=i->i+1 < d->gl g b lo i < gk g b (i+1)/\gk g b (i+1)<=hi)/\
   ∀ i,0<=i->i < d->m.look (b+4+d+i)=0∨(kd (m.look (b+4+d+i))≠5/\
    (∀ k v,c0C g (ad (m.look (b+4+d+i))) k v->gl g b lo i<=k/\k<=gu g b d hi i)/\
    ∀ d' n',a0E g (ad (m.look (b+4+d+i))) d' n'->PTf m g f (ad (m.look (b+4+d+i))) (gl g b lo i) (gu g b d hi i))
def Gh.link (g:Gh) (b c:Int):Gh:={ g with hm:=fun x=>if x=b then some c else g.hm x }
theorem Gh.link_inner {b c a d n:Int} (h:a0E (g.link b c) a d n):a0E g a d n:=⟨h.kn,h.rc,h.pos,h.c0,h.c1,h.c2,h.c3,h.c4,h.ck,h.cs⟩
theorem Gh.link_e0 {b c:Int} (h:g.hm b=none):E0 g (g.link b c):=⟨fun _ _=>⟨rfl,rfl,rfl⟩,fun x c' e=>by
 show (if x=b then some c else g.hm x)=some c';rw [if_neg (fun q=>by rw [q,h] at e;cases e)];exact e⟩
theorem link_iv (h:Inv m g) {b c a d n i l u:Int} (hb:g.hm b=none) (hb1:b≠1) (hs:Slot g c a d n i) (hv:Iv g a l u)
  (hP:∀ d' n',a0E g b d' n'->∃ f,PTf m g f b (gl g a l i) (gu g a d u i)) {x lo hi:Int} (hx:Iv (g.link b c) x lo hi) :
  Iv g x lo hi∨((∀ lo hi,¬ Iv g x lo hi)/\∀ d' n',a0E g x d' n'->∃ f,PTf m g f x lo hi):=by
 have f:=Gh.link_e0 (c:=c) hb
 induction hx with
 | top h1=>exact .inl (Iv.top (Gh.link_inner h1))
 | @sub a' l' u' d' n' i' x hv' hI' h3 h4 hx1 e ih=>
  have hI:=Gh.link_inner hI';have hs':Slot g (a' + 4+d' + i') a' d' n' i':=⟨hI,h3,h4,rfl⟩
  by_cases hr:∃ l0 u0,Iv g a' l0 u0
  ·obtain ⟨l0,u0,h0⟩:=hr;obtain ⟨rfl,rfl⟩:=(f.iv h0).fn hv';have e':(if x=b then some c else g.hm x)=some (a' + 4+d' + i'):=e
   by_cases ex:x=b
   ·rw [if_pos ex] at e';have ec:=Option.some.inj e';rw [<- ec] at hs';obtain ⟨rfl,rfl,rfl,rfl⟩:=hs'.fn hs;obtain ⟨rfl,rfl⟩:=h0.fn hv;subst ex;refine .inr ⟨fun lo hi q=>?_,hP⟩;cases q with
    | top _=>exact hb1 rfl
    | sub _ _ _ _ _ e2=>rw [hb] at e2;cases e2
   ·rw [if_neg ex] at e';exact .inl (Iv.sub h0 hI h3 h4 hx1 e')
  ·have e':(if x=b then some c else g.hm x)=some (a' + 4+d' + i'):=e
   by_cases ex:x=b
   ·rw [if_pos ex] at e';have ec:=Option.some.inj e';rw [<- ec] at hs';obtain ⟨rfl,_⟩:=hs'.fn hs;exact absurd ⟨l,u,hv⟩ hr
   ·rw [if_neg ex] at e';have hun:∀ lo hi,¬ Iv g x lo hi:=fun lo hi q=>by
     cases q with
     | top _=>exact hx1 rfl
     | @sub a2 l2 u2 d2 n2 i2 _ q1 q2 q3 q4 _ e2=>
      rw [e'] at e2;have ec:=Option.some.inj e2;obtain ⟨rfl,_⟩:=Slot.fn (g:=g) (c:=a2+4+d2+i2) ⟨q2,q3,q4,rfl⟩ (ec ▸ hs');exact hr ⟨_,_,q1⟩
    refine .inr ⟨hun,fun d2 n2 hI2=>?_⟩;rcases ih with q | ⟨_,q⟩
    ·exact absurd ⟨_,_,q⟩ hr
    ·obtain ⟨fu,q⟩:=q d' n' hI;obtain ⟨a3,d3,n3,i3,hs3,q3⟩:=h.home x _ e';obtain ⟨rfl,rfl,rfl,rfl⟩:=hs3.fn hs';rcases q3 with q3 | q3
     ·exact absurd q3 hr
     ·cases fu with
      | zero=>exact q.elim
      | succ fu=>
       rcases (q _ _ hI).2 _ h3 h4 with q0 | ⟨_,_,q5⟩
       ·rw [q0] at q3
        have:ad 0=0:=by decide
        rw [this] at q3
        have:=hI2.rc.1
        omega
       ·rw [q3] at q5;exact ⟨fu,q5 d2 n2 hI2⟩
theorem j0W (h:Inv m g) {b c a d n i l u:Int} (hb:g.hm b=none) (hb1:b≠1) (hk:g.kn b≠2) (hu:g.ro b≠none) (hs:Slot g c a d n i) (hv:Iv g a l u)
  (hP:∀ d' n',a0E g b d' n'->∃ f,PTf m g f b (gl g a l i) (gu g a d u i)):Inv m (g.link b c)/\Ex m g m (g.link b c):=by
 have f:=Gh.link_e0 (c:=c) hb;have cl:∀ {x lo hi:Int},Iv (g.link b c) x lo hi->Iv g x lo hi∨((∀ lo hi,¬ Iv g x lo hi)/\∀ d' n',a0E g x d' n'->∃ f,PTf m g f x lo hi):=fun q=>link_iv h hb hb1 hs hv hP q;have hE:Ex m g m (g.link b c):=⟨f,fun _ e=>⟨e,rfl⟩,fun _ _ e=>e,fun _ _ e=>e,fun _ _ _=>rfl,fun c' w q=>by
  obtain ⟨a',d',n',i',hs',q1,q2,q3,q4⟩:=q;refine ⟨a',d',n',i',f.sl hs',q1,q2,q3,?_⟩;rcases q4 with q4 | ⟨k,p1,p2,gd',x',hD'⟩
  ·exact .inl q4
  ·exact .inr ⟨k,p1,p2,gd',x',f.dc hD'⟩,fun _ _ _ _ _ _ _=>rfl,fun _ e=>e,fun _ _ _ e=>e,fun _ _ _ _ _ _ e=>.inl e⟩
 refine ⟨⟨h.ok,h.sz,h.used,fun c'=>?_,⟨f.inner h.top.1,h.top.2⟩,fun a' lo hi d' n' hv' hI'=>?_,fun a' d' n' i' hI'=>h.kin a' d' n' i' (Gh.link_inner hI'),fun x c' e=>?_,?_,fun x c' e=>?_,fun x c' e=>?_,h.late,fun E e=>?_⟩,hE⟩
 ·by_cases hu':g.ro c'=none
  ·unfold COk;rw [show (g.link b c).ro c'=g.ro c' from rfl,hu'];trivial
  ·by_cases hr:g.ro c'=some .slot/\¬ ∃ lo hi,SIv g c' lo hi
   ·obtain ⟨r,hr⟩:=hr;have q:=h.cell c';unfold COk at q ⊢;rw [show (g.link b c).ro c'=g.ro c' from rfl,r];rw [r] at q;simp only at q ⊢;rcases q with q | q | ⟨q1,q2,gd,o,x,q3⟩
    ·exact .inl q
    ·rcases q with ⟨k,h1,h2⟩ | ⟨k,ky',v,h1,h2⟩ | q | ⟨k,t,gd,h1,h2,h3⟩
     ·exact .inr (.inl (.inl ⟨k,f.empty h1,f.hm _ _ h2⟩))
     ·refine .inr (.inl (.inr (.inl ⟨k,ky',v,f.leaf h1,fun lo hi e=>?_⟩)));obtain ⟨a',d',n',l',u',i',q1,q2,q3,q4,q5,rfl,rfl⟩:=e;have hI:=Gh.link_inner q2;rcases cl q1 with e1 | ⟨_,e1⟩
      ·exact absurd ⟨_,_,Slot.siv ⟨hI,q3,q4,q5⟩ e1⟩ hr
      ·obtain ⟨fu,e1⟩:=e1 _ _ hI;cases fu with
       | zero=>exact e1.elim
       | succ fu=>
        have e2:=(e1 _ _ hI).2 i' q3 q4;rw [<- q5] at e2;rcases e2 with e2 | ⟨_,e2,_⟩
        ·rw [e2] at k;exact absurd k (by decide)
        ·exact e2 _ _ h1
     ·exact .inr (.inl (.inr (.inr (.inl (hE.okI q)))))
     ·exact .inr (.inl (.inr (.inr (.inr ⟨k,t,gd,f.reb h1,f.hm _ _ h2,hE.okI h3⟩))))
    ·exact .inr (.inr ⟨q1,q2,gd,o,x,f.dc q3⟩)
   ·exact hE.cok hu' rfl (fun r lo hi e=>f.back (Classical.byContradiction fun q=>hr ⟨r,q⟩) e) (h.cell c')
 ·have hI:=Gh.link_inner hI';rcases cl hv' with e | ⟨_,e⟩
  ·exact h.keys a' lo hi d' n' e hI
  ·obtain ⟨fu,e⟩:=e _ _ hI;cases fu with
   | zero=>exact e.elim
   | succ fu=>exact (e _ _ hI).1
 ·have e':(if x=b then some c else g.hm x)=some c':=e
  by_cases ex:x=b
  ·rw [if_pos ex] at e';have ec:=Option.some.inj e';rw [<- ec];exact ⟨a,d,n,i,f.sl hs,.inl ⟨l,u,f.iv hv⟩⟩
  ·rw [if_neg ex] at e';obtain ⟨a',d',n',i',hs',q⟩:=h.home x c' e';exact ⟨a',d',n',i',f.sl hs',q.imp (fun ⟨lo,hi,e⟩=>⟨lo,hi,f.iv e⟩) id⟩
 ·show (if (1:Int)=b then some c else g.hm 1)=none;rw [if_neg (fun e=>hb1 e.symm)];exact h.hm1
 ·have e':(if x=b then some c else g.hm x)=some c':=e
  by_cases ex:x=b
  ·rw [ex];exact hk
  ·rw [if_neg ex] at e';exact h.hml x c' e'
 ·have e':(if x=b then some c else g.hm x)=some c':=e
  by_cases ex:x=b
  ·rw [ex];exact hu
  ·rw [if_neg ex] at e';exact h.hmu x c' e'
 ·obtain ⟨gd',p',o',x',q⟩:=h.plw E e;exact ⟨gd',p',o',x',f.dc q⟩
end Sd
namespace Sd
variable {m m':Mst} {g:Gh}
def Gh.add (g:Gh) (A n:Int) (R:Int->Ro) (K:Int) (H:Int->Option Int) (t:Nat):Gh where
 ro:=fun c=>if A<=c/\c < A+n then some (R (c - A)) else g.ro c
 rb:=fun c=>if A<=c/\c < A+n then A else g.rb c
 kn:=fun c=>if A<=c/\c < A+n then K else g.kn c
 hm:=H
 ow:=fun c=>if A<=c/\c < A+n then t else g.ow c
 lt:=g.lt
 pl:=g.pl
structure More (m m':Mst) (ws:List Int):Prop where
 old:∀ c,m.used c=true->m'.look c=m.look c
 new:∀ i:Nat,i < ws.length->m'.look ((m.xs.length:Int)+1+i)=ws.getD i 0
 used:∀ c,m'.used c=true↔m.used c=true∨((m.xs.length:Int)+1<=c/\c < (m.xs.length:Int)+1+ws.length)
 ok:m'.ok
 size:m'.size=m.size
 cap:(m'.xs.length:Int)<=m'.size
theorem more_of {s s':Mst} {ws:List Int} (e:s'.xs=s.xs++ws) (h:s'.ok) (hz:s'.size=s.size) (hc:(s'.xs.length:Int)<=s'.size):More s s' ws:=by
 have hu:∀ c,s'.used c=true↔s.used c=true∨((s.xs.length:Int)+1<=c/\c < (s.xs.length:Int)+1+ws.length):=fun c=>by
  rw [Mst.used_iff,Mst.used_iff,e,List.length_append];omega
 refine ⟨fun c hc=>?_,fun i hi=>?_,hu,h,hz,hc⟩
 ·obtain ⟨j,rfl,hj⟩:=Mst.used_nat hc;have h1:s.look ((j:Int)+1)=s.xs[j]:=Mst.look_succ (List.getElem?_eq_getElem hj);rw [h1];refine Mst.look_succ ?_;rw [e,List.getElem?_append_left hj,List.getElem?_eq_getElem hj]
 ·rw [show (s.xs.length:Int)+1+i=((s.xs.length+i:Nat):Int)+1 by omega];refine Mst.look_succ ?_;rw [e,List.getElem?_append_right (by omega),show s.xs.length+i - s.xs.length=i by omega,List.getElem?_eq_getElem hi,List.getD_eq_getElem?_getD,List.getElem?_eq_getElem hi];rfl
section
variable {A n K:Int} {R:Int->Ro} {H:Int->Option Int} {t:Nat}
theorem Gh.add_in {c:Int} (h1:A<=c) (h2:c < A+n):(g.add A n R K H t).ro c=some (R (c - A))/\(g.add A n R K H t).rb c=A/\(g.add A n R K H t).kn c=K/\(g.add A n R K H t).ow c=t:=by
 unfold Gh.add;simp only;rw [if_pos ⟨h1,h2⟩,if_pos ⟨h1,h2⟩,if_pos ⟨h1,h2⟩,if_pos ⟨h1,h2⟩];exact ⟨rfl,rfl,rfl,rfl⟩
theorem Gh.add_out {c:Int} (h:¬ (A<=c/\c < A+n)):(g.add A n R K H t).ro c=g.ro c/\(g.add A n R K H t).rb c=g.rb c/\(g.add A n R K H t).kn c=g.kn c/\(g.add A n R K H t).ow c=g.ow c:=by
 unfold Gh.add;simp only;rw [if_neg h,if_neg h,if_neg h,if_neg h];exact ⟨rfl,rfl,rfl,rfl⟩
theorem Gh.add_rec (h0:1<=A) {k:Int} (hk:k<=n):Rec (g.add A n R K H t) A k:=⟨h0,fun j h1 h2=>by
 obtain ⟨e1,e2,_⟩:=Gh.add_in (g:=g) (A:=A) (n:=n) (R:=R) (K:=K) (H:=H) (t:=t) (c:=A+j) (by omega) (by omega);exact ⟨e2,by rw [e1];exact fun e=>by cases e⟩⟩
structure p0N (m':Mst) (g g':Gh) (A:Int) (H:Int->Option Int):Prop where
 none:H A=none
 keep:∀ b c,g.hm b=some c->H b=some c
 new:∀ b c,H b=some c->g.hm b=some c∨(b≠1/\g.kn b≠2/\g.ro b≠Option.none/\∃ d n i,Slot g' c A d n i/\ad (m'.look c)=b)
theorem Inv.free (h:Inv m g) {ws:List Int} {c:Int} (hc:(m.xs.length:Int)+1<=c/\c < (m.xs.length:Int)+1+ws.length):g.ro c=none:=by
 cases e:g.ro c with
 | none=>rfl
 | some r=>
  have:=h.lt (c:=c) (by rw [e];exact fun e=>by cases e)
  omega
theorem h0K (h:Inv m g) {ws:List Int} (hm:More m m' ws) (hA:A=(m.xs.length:Int)+1) (hn:n=(ws.length:Int)) (hL:p0N m' g (g.add A n R K H t) A H)
  (hc:Ex m g m' (g.add A n R K H t)->∀ j,0<=j->j < n->COk m' (g.add A n R K H t) (A+j))
  (hk:∀ d n' i,a0E (g.add A n R K H t) A d n'->1<=i->i < d->m'.look (A+4+d+i)≠0->m'.look (A+4+i)=gk (g.add A n R K H t) A i) :
  Inv m' (g.add A n R K H t)/\Ex m g m' (g.add A n R K H t):=by
 have used_out:∀ c,g.ro c≠none->¬ (A<=c/\c < A+n):=fun c hc q=>hc (h.free (ws:=ws) ⟨by omega,by omega⟩);have f:E0 g (g.add A n R K H t):=⟨fun c hc=>by
  obtain ⟨e1,e2,e3,_⟩:=Gh.add_out (g:=g) (A:=A) (n:=n) (R:=R) (K:=K) (H:=H) (t:=t) (used_out c hc);exact ⟨e1,e2,e3⟩,hL.keep⟩
 generalize hg:g.add A n R K H t=g' at *;have hlook:∀ c,g.ro c≠none->m'.look c=m.look c:=fun c hc=>hm.old c ((h.used c).1 hc);have so:∀ {c r},g.ro c=some r->m'.look c=m.look c:=fun e=>hlook _ (by rw [e];exact fun e=>by cases e);have hpl:g'.pl=g.pl:=by rw [<- hg];rfl
 have hlt:g'.lt=g.lt:=by rw [<- hg];rfl
 have hhm:g'.hm=H:=by rw [<- hg];rfl
 have out:∀ {c},¬ (A<=c/\c < A+n)->g'.ro c=g.ro c/\g'.rb c=g.rb c/\g'.kn c=g.kn c:=fun {c} q=>by
  obtain ⟨e1,e2,e3,_⟩:=Gh.add_out (g:=g) (A:=A) (n:=n) (R:=R) (K:=K) (H:=H) (t:=t) q;rw [<- hg];exact ⟨e1,e2,e3⟩
 have inn:∀ {c},A<=c->c < A+n->g'.ro c=some (R (c - A))/\g'.rb c=A/\g'.kn c=K:=fun {c} q1 q2=>by
  obtain ⟨e1,e2,e3,_⟩:=Gh.add_in (g:=g) (A:=A) (n:=n) (R:=R) (K:=K) (H:=H) (t:=t) q1 q2;rw [<- hg];exact ⟨e1,e2,e3⟩
 have hE:Ex m g m' g':=⟨f,fun D e=>⟨by rw [hpl];exact e,by rw [hlt]⟩,fun c e q=>by rw [so e];exact q,fun c e q=>by rw [so e];exact q,fun c e _=>by rcases e with e | e | e <;> exact so e,fun c w q=>by
  obtain ⟨a,d,n,i,hs,q1,q2,q3,q4⟩:=q;refine ⟨a,d,n,i,f.sl hs,by rw [so hs.1.c2];exact q1,q2,q3,?_⟩;rw [so hs.ro];rcases q4 with q4 | ⟨k,p1,p2,gd',x',hD'⟩
  ·exact .inl q4
  ·exact .inr ⟨k,by rw [hpl];exact p1,by rw [hlt];exact p2,gd',x',f.dc hD'⟩,fun c a d n i hs _=>so hs.ro,fun c e=>(hm.used c).2 (.inl e),fun c z e q=>by rw [so e];exact q,fun D _ _ _ _ _ e=>.inl (by rw [hlt] at e;exact e)⟩
 have oldI:∀ a d n',g.ro a≠none->a0E g' a d n'->a0E g a d n':=fun a d n' ha hI=>by
  have hj:∀ j,0<=j->j < 2 * d+4->¬ (A<=a+j/\a+j < A+n):=fun j h1 h2 q=>by
   have e1:=hI.rb h1 h2;rw [(inn q.1 q.2).2.1] at e1;exact used_out a ha ⟨by omega,by have:=q.1;have:=q.2;omega⟩
  have o:=fun j h1 h2=>out (hj j h1 h2);have p:=hI.pos;have e0:=o 0 (by omega) (by omega);rw [Int.add_zero] at e0;exact ⟨e0.2.2.symm.trans hI.kn,⟨hI.rc.1,fun j h1 h2=>by have:=o j h1 h2;rw [<- this.1,<- this.2.1];exact hI.rc.2 j h1 h2⟩,p,e0.1.symm.trans hI.c0,(o 1 (by omega) (by omega)).1.symm.trans hI.c1,(o 2 (by omega) (by omega)).1.symm.trans hI.c2,(o 3 (by omega) (by omega)).1.symm.trans hI.c3,(o 4 (by omega) (by omega)).1.symm.trans hI.c4,
   fun i h1 h2=>by obtain ⟨z,e⟩:=hI.ck i h1 h2;exact ⟨z,by have e3:=(o (4+i) (by omega) (by omega)).1;rw [show a+(4+i)=a+4+i by omega] at e3;exact e3.symm.trans e⟩,
   fun i h1 h2=>by have e3:=(o (4+d+i) (by omega) (by omega)).1;rw [show a+(4+d+i)=a+4+d+i by omega] at e3;exact e3.symm.trans (hI.cs i h1 h2)⟩
 have newA:∀ a d n',g.ro a=none->a0E g' a d n'->a=A:=fun a d n' ha hI=>by
  by_cases q:A<=a/\a < A+n
  ·have e1:=hI.rb (j:=0) (by omega) (by have:=hI.pos;omega);rw [Int.add_zero,(inn q.1 q.2).2.1] at e1;exact e1.symm
  ·have:=(out q).1.symm.trans hI.c0
   rw [ha] at this;cases this
 have cl:∀ {x lo hi:Int},Iv g' x lo hi->Iv g x lo hi:=fun {x lo hi} hx=>by
  induction hx with
  | top h1=>exact Iv.top h.top.1
  | @sub a' l' u' d' n' i' x hv' hI' h3 h4 hx1 e ih=>
   have ha:g.ro a'≠none:=by
    cases ih with
    | top h1=>rw [h1.c0];exact fun e=>by cases e
    | sub _ _ _ _ _ e2=>exact h.hmu _ _ e2
   have hI:=oldI a' d' n' ha hI';rw [f.gl hI h3 h4,f.gu hI h3];rw [hhm] at e;rcases hL.new _ _ e with e2 | ⟨_,_,_,d2,n2,i2,hs,_⟩
   ·exact Iv.sub ih hI h3 h4 hx1 e2
   ·obtain ⟨rfl,_⟩:=hs.fn (⟨hI',h3,h4,rfl⟩:Slot g' (a' + 4+d' + i') a' d' n' i');exact absurd ha (by rw [h.free (ws:=ws) (c:=A) ⟨by omega,by have:=hI'.pos;have:=hI'.rc;have q:=(hm.used A);have e5:=hI'.c0;by_cases q2:A < A+n;omega;exfalso;have e6:=(out (c:=A) (by omega)).1;rw [e6] at e5;have:=h.lt (c:=A) (by rw [e5];exact fun e=>by cases e);omega⟩];simp)
 refine ⟨⟨hm.ok,⟨by rw [hm.size];exact h.sz.1,hm.cap⟩,fun c=>?_,fun c=>?_,⟨f.inner h.top.1,by rw [so (Slot.ro (g:=g) (c:=6) (a:=1) (d:=1) (n:=0) (i:=0) ⟨h.top.1,by omega,by omega,rfl⟩)];exact h.top.2⟩,fun a lo hi d n' hv hI=>?_,fun a d n' i hI h1 h2 q=>?_,fun x c e=>?_,?_,fun x c e=>?_,fun x c e=>?_,fun D e=>?_,fun D e=>?_⟩,hE⟩
 ·rw [hm.used]
  by_cases q:A<=c/\c < A+n
  ·rw [(inn q.1 q.2).1];exact ⟨fun _=>.inr (by omega),fun _ e=>by cases e⟩
  ·rw [(out q).1,h.used];exact ⟨fun e=>.inl e,fun e=>e.resolve_right (by omega)⟩
 ·by_cases q:A<=c/\c < A+n
  ·have:=hc hE (c - A) (by omega) (by omega)
   rwa [show A+(c - A)=c by omega] at this
  ·by_cases hu:g.ro c=none
   ·unfold COk;rw [(out q).1,hu];trivial
   ·refine hE.cok hu (hlook c hu) (fun _ lo hi e=>?_) (h.cell c);obtain ⟨a,d,n',l,u,i,e1,e2,e3,e4,e5,rfl,rfl⟩:=e;have e1':=cl e1;have ha:g.ro a≠none:=by
     cases e1' with
     | top h1=>rw [h1.c0];exact fun e=>by cases e
     | sub _ _ _ _ _ e2=>exact h.hmu _ _ e2
    have hI:=oldI a d n' ha e2;exact ⟨a,d,n',l,u,i,e1',hI,e3,e4,e5,f.gl hI e3 e4,f.gu hI e3⟩
 ·have hv':=cl hv;have ha:g.ro a≠none:=by
   cases hv' with
   | top h1=>rw [h1.c0];exact fun e=>by cases e
   | sub _ _ _ _ _ e2=>exact h.hmu _ _ e2
  have hI':=oldI a d n' ha hI;intro i h1 h2
  have:=h.keys a lo hi d n' hv' hI' i h1 h2
  rw [f.gl hI' h1 (by omega),f.gk hI' (by omega) h2];exact this
 ·by_cases ha:g.ro a=none
  ·obtain rfl:=newA a d n' ha hI;exact hk d n' i hI h1 h2 q
  ·have hI':=oldI a d n' ha hI;obtain ⟨z,ez⟩:=hI'.ck i h1 h2;rw [so (hI'.cs i (by omega) h2)] at q;rw [so ez,f.gk hI' h1 h2];exact h.kin a d n' i hI' h1 h2 q
 ·rw [hhm] at e;rcases hL.new _ _ e with e2 | ⟨_,_,_,d2,n2,i2,hs,e3⟩
  ·obtain ⟨a,d,n',i,hs,q⟩:=h.home x c e2;refine ⟨a,d,n',i,f.sl hs,q.imp (fun ⟨lo,hi,e⟩=>⟨lo,hi,f.iv e⟩) (fun e=>by rw [so hs.ro];exact e)⟩
  ·exact ⟨A,d2,n2,i2,hs,.inr e3⟩
 ·rw [hhm];cases e:H 1 with
  | none=>rfl
  | some c=>
   rcases hL.new _ _ e with e2 | ⟨e2,_⟩
   ·rw [h.hm1] at e2;cases e2
   ·exact absurd rfl e2
 ·rw [hhm] at e;rcases hL.new _ _ e with e2 | ⟨_,e3,e4,_⟩
  ·rw [(f.ro x (h.hmu x c e2)).2.2];exact h.hml x c e2
  ·rw [(f.ro x e4).2.2];exact e3
 ·rw [hhm] at e;rcases hL.new _ _ e with e2 | ⟨_,e3,e4,_⟩
  ·rw [(f.ro x (h.hmu x c e2)).1];exact h.hmu x c e2
  ·rw [(f.ro x e4).1];exact e4
 ·rw [hpl];rw [hlt] at e;exact h.late D e
 ·rw [hpl] at e;obtain ⟨gd',p',o',x',q⟩:=h.plw D e;exact ⟨gd',p',o',x',f.dc q⟩
end
end Sd
namespace Sd
variable {m m':Mst} {g:Gh}
structure Rl (t:Nat) (m:Mst) (g:Gh) (m':Mst) (g':Gh):Prop where
 inv:Inv m' g'
 ex:Ex m g m' g'
 own:∀ b,g.ro b≠none->g'.ow b=g.ow b/\(g.ow b=t->g'.hm b=g.hm b/\g'.pl b=g.pl b)
structure Gt (t:Nat) (m:Mst) (g:Gh) (m':Mst) (g':Gh):Prop where
 inv:Inv m' g'
 ex:Ex m g m' g'
 own:∀ b,g.ro b≠none->g'.ow b=g.ow b/\(g.ow b≠t->g'.hm b=g.hm b/\g'.pl b=g.pl b)
theorem Rl.refl {t:Nat} (h:Inv m g):Rl t m g m g:=⟨h,Ex.refl m g,fun _ _=>⟨rfl,fun _=>⟨rfl,rfl⟩⟩⟩
theorem Rl.trans {t:Nat} {m1 m2 m3:Mst} {g1 g2 g3:Gh} (h:Rl t m1 g1 m2 g2) (h':Rl t m2 g2 m3 g3):Rl t m1 g1 m3 g3:=
 ⟨h'.inv,h.ex.trans h'.ex,fun b hb=>by
  obtain ⟨e1,e2⟩:=h.own b hb;obtain ⟨e3,e4⟩:=h'.own b (by rw [(h.ex.ro b hb).1];exact hb);exact ⟨e3.trans e1,fun e=>⟨(e4 (e1.trans e)).1.trans (e2 e).1,(e4 (e1.trans e)).2.trans (e2 e).2⟩⟩⟩
theorem Gt.trans {t:Nat} {m1 m2 m3:Mst} {g1 g2 g3:Gh} (h:Gt t m1 g1 m2 g2) (h':Gt t m2 g2 m3 g3):Gt t m1 g1 m3 g3:=
 ⟨h'.inv,h.ex.trans h'.ex,fun b hb=>by
  obtain ⟨e1,e2⟩:=h.own b hb;obtain ⟨e3,e4⟩:=h'.own b (by rw [(h.ex.ro b hb).1];exact hb);exact ⟨e3.trans e1,fun e=>⟨(e4 (by rw [e1];exact e)).1.trans (e2 e).1,(e4 (by rw [e1];exact e)).2.trans (e2 e).2⟩⟩⟩
theorem Gt.rl {t t':Nat} (ht:t≠t') {m':Mst} {g':Gh} (h:Gt t m g m' g'):Rl t' m g m' g':=⟨h.inv,h.ex,fun b hb=>⟨(h.own b hb).1,fun e=>(h.own b hb).2 (fun e2=>ht (e2.symm.trans e))⟩⟩
theorem Gt.same {t:Nat} (h:Inv m' g/\Ex m g m' g):Gt t m g m' g:=⟨h.1,h.2,fun _ _=>⟨rfl,fun _=>⟨rfl,rfl⟩⟩⟩
theorem Inv.hmA (h:Inv m g) {b:Int} (hb:g.ro b=none):g.hm b=none:=by
 cases e:g.hm b with
 | none=>rfl
 | some c=>exact absurd hb (h.hmu b c e)
theorem Inv.noA (h:Inv m g):g.ro ((m.xs.length:Int)+1)=none:=by
 cases e:g.ro ((m.xs.length:Int)+1) with
 | none=>rfl
 | some r=>
  have:=h.lt (c:=(m.xs.length:Int)+1) (by rw [e];exact fun e=>by cases e)
  omega
theorem p0N.old (h:Inv m g) {g':Gh} {A:Int} (hA:A=(m.xs.length:Int)+1):p0N m' g g' A g.hm:=
 ⟨h.hmA (by rw [hA];exact h.noA),fun _ _ e=>e,fun _ _ e=>.inl e⟩
theorem l0K {A n K:Int} {R:Int->Ro} {H:Int->Option Int} {t:Nat} (h:Inv m g) {ws:List Int} (hA:A=(m.xs.length:Int)+1) (hn:n=(ws.length:Int)) (hH:∀ b,g.ow b≠t->H b=g.hm b):∀ b,g.ro b≠none->(g.add A n R K H t).ow b=g.ow b/\(g.ow b≠t->(g.add A n R K H t).hm b=g.hm b/\(g.add A n R K H t).pl b=g.pl b):=fun b hb=>
 ⟨(Gh.add_out (fun q=>hb (h.free (ws:=ws) ⟨by omega,by omega⟩))).2.2.2,fun e=>⟨hH b e,rfl⟩⟩
theorem More.at {ws:List Int} (hm:More m m' ws) {A j:Int} (hA:A=(m.xs.length:Int)+1) (h0:0<=j) (h1:j < (ws.length:Int)):m'.look (A+j)=ws.getD j.toNat 0:=by
 have:=hm.new j.toNat (by omega)
 rwa [show (m.xs.length:Int)+1+(j.toNat:Int)=A+j by omega] at this
theorem COk.fix {c z:Int} (r:g.ro c=some (.fix z)) (e:m.look c=z):COk m g c:=by unfold COk;rw [r];exact e
theorem COk.key {c z:Int} (r:g.ro c=some (.key z)) (e:m.look c=0∨m.look c=z):COk m g c:=by unfold COk;rw [r];exact e
theorem COk.free {c:Int} (r:g.ro c=some .chg∨g.ro c=some .cnt):COk m g c:=by unfold COk;rcases r with r | r <;> (rw [r];trivial)
theorem COk.zero {c:Int} (r:g.ro c=some .shut∨g.ro c=some .sum∨g.ro c=some .slot) (e:m.look c=0):COk m g c:=by unfold COk;rcases r with r | r | r <;> (rw [r];exact .inl e)
theorem COk.child {c:Int} (r:g.ro c=some .slot) (e:OkW m g c (m.look c)):COk m g c:=by unfold COk;rw [r];exact .inr (.inl e)
theorem COk.root {c b:Int} (r:g.ro c=some .root) (eb:g.rb c=b) (h:RbOk m g b) (e:m.look c=0):COk m g c:=by unfold COk;rw [r];simp only;rw [eb];exact ⟨h,.inl e⟩
theorem COk.o {c b:Int} (r:g.ro c=some .out) (eb:g.rb c=b) (h:DcOk m g b) (e:m.look c=0):COk m g c:=by unfold COk;rw [r];simp only;rw [eb];exact ⟨h,.inl e,fun _=>by rw [e];decide⟩
section
variable {t:Nat} {A:Int}
theorem r0J (h:Inv m g) (hA:A=(m.xs.length:Int)+1) (hm:More m m' [0]):∃ g',Gt t m g m' g'/\l0N g' A/\g'.hm A=none/\g'.ow A=t/\g'.hm=g.hm/\g'.pl=g.pl:=by
 have h0:1<=A:=by omega
 have e:=fun c=>Gh.add_in (g:=g) (A:=A) (n:=1) (R:=fun _=>.fix 0) (K:=1) (H:=g.hm) (t:=t) (c:=c);obtain ⟨a1,a2,a3,a4⟩:=e A (by omega) (by omega);have st:=h0K h hm hA (n:=1) rfl (p0N.old h hA) (R:=fun _=>.fix 0) (K:=1) (t:=t) (fun _ j j0 j1=>by
  have lk:m'.look (A+j)=[(0:Int)].getD j.toNat 0:=hm.at hA j0 (by simp;omega);refine COk.fix (e (A+j) (by omega) (by omega)).1 ?_;rw [lk,show j=0 by omega];rfl) (fun d n' i hI _ _ _=>by have:=hI.kn;rw [a3] at this;omega)
 exact ⟨_,⟨st.1,st.2,l0K h (ws:=[0]) hA rfl (fun _ _=>rfl)⟩,⟨a3,Gh.add_rec h0 (Int.le_refl _),a1⟩,h.hmA (by rw [hA];exact h.noA),a4,rfl,rfl⟩
theorem u0R (h:Inv m g) (hA:A=(m.xs.length:Int)+1) {k v:Int} (hm:More m m' [k,v]):∃ g',Gt t m g m' g'/\c0C g' A k v/\g'.hm=g.hm/\g'.pl=g.pl:=by
 have h0:1<=A:=by omega
 have e:=fun c=>Gh.add_in (g:=g) (A:=A) (n:=2) (R:=fun j=>.fix ([k,v].getD j.toNat 0)) (K:=2) (H:=g.hm) (t:=t) (c:=c);obtain ⟨a1,a2,a3,a4⟩:=e A (by omega) (by omega);obtain ⟨b1,_⟩:=e (A+1) (by omega) (by omega);rw [Int.sub_self] at a1;rw [show A+1 - A=1 by omega] at b1;have st:=h0K h hm hA (n:=2) rfl (p0N.old h hA) (R:=fun j=>.fix ([k,v].getD j.toNat 0)) (K:=2) (t:=t) (fun _ j j0 j1=>by
  refine COk.fix (e (A+j) (by omega) (by omega)).1 ?_;rw [hm.at hA j0 (by simpa using j1),show A+j - A=j by omega]) (fun d n' i hI _ _ _=>by have:=hI.kn;rw [a3] at this;omega)
 exact ⟨_,⟨st.1,st.2,l0K h (ws:=[k,v]) hA rfl (fun _ _=>rfl)⟩,⟨a3,Gh.add_rec h0 (Int.le_refl _),a1,b1⟩,rfl,rfl⟩
theorem mk_dc (h:Inv m g) (hA:A=(m.xs.length:Int)+1) {gd p o x:Int} (ho:OkW m g p o) (hx:OkW m g p x) (hat:At g gd p) (hm:More m m' [gd,p,o,x,0]):∃ g',Gt t m g m' g'/\IsDc g' A gd p o x/\g'.pl A=false/\g'.ow A=t:=by
 have h0:1<=A:=by omega
 have hpl:g.pl A=false:=by
  cases e:g.pl A with
  | false=>rfl
  | true=>
   obtain ⟨_,_,_,_,q⟩:=h.plw A e
   have:=q.c0
   have hno:g.ro A=none:=by rw [hA];exact h.noA
   rw [hno] at this;cases this
 obtain ⟨R,hR⟩:∃ R:Int->Ro,R=fun j=>if j=4 then Ro.out else .fix ([gd,p,o,x,0].getD j.toNat 0):=⟨_,rfl⟩;have e:=fun c=>Gh.add_in (g:=g) (A:=A) (n:=5) (R:=R) (K:=5) (H:=g.hm) (t:=t) (c:=c);have e':∀ j,0<=j->j < 5->(g.add A 5 R 5 g.hm t).ro (A+j)=some (R j)/\(g.add A 5 R 5 g.hm t).rb (A+j)=A:=fun j q1 q2=>by
  obtain ⟨u1,u2,_⟩:=e (A+j) (by omega) (by omega);rw [show A+j - A=j by omega] at u1;exact ⟨u1,u2⟩
 obtain ⟨_,_,a3,a4⟩:=e A (by omega) (by omega);have hD:IsDc (g.add A 5 R 5 g.hm t) A gd p o x:=by
  refine ⟨a3,Gh.add_rec h0 (Int.le_refl _),?_,?_,?_,?_,?_⟩
  ·have:=(e' 0 (by omega) (by omega)).1;rw [Int.add_zero] at this;rw [this,hR];rfl
  ·rw [(e' 1 (by omega) (by omega)).1,hR];rfl
  ·rw [(e' 2 (by omega) (by omega)).1,hR];rfl
  ·rw [(e' 3 (by omega) (by omega)).1,hR];rfl
  ·rw [(e' 4 (by omega) (by omega)).1,hR];rfl
 have st:=h0K h hm hA (n:=5) rfl (p0N.old h hA) (R:=R) (K:=5) (t:=t) (fun hE j j0 j1=>by
  obtain ⟨q,q2⟩:=e' j j0 j1;have lk:=hm.at hA j0 (by simpa using j1)
  by_cases j4:j=4
  ·have r:R j=.out:=by rw [hR];exact if_pos j4
   exact COk.o (by rw [q,r]) q2 ⟨gd,p,o,x,hD,hE.okW (fun _ _ e=>hE.back hat.siv e) ho,hE.okW (fun _ _ e=>hE.back hat.siv e) hx,hE.at hat,fun e=>by have:=h.late A e;rw [hpl] at this;cases this⟩ (by rw [lk,j4];rfl)
  ·have r:R j=.fix ([gd,p,o,x,0].getD j.toNat 0):=by rw [hR];exact if_neg j4
   exact COk.fix (by rw [q,r]) lk) (fun d n' i hI _ _ _=>by have:=hI.kn;rw [a3] at this;omega)
 exact ⟨_,⟨st.1,st.2,l0K h (ws:=[gd,p,o,x,0]) hA rfl (fun _ _=>rfl)⟩,hD,hpl,a4⟩
theorem mk_reb (h:Inv m g) (hA:A=(m.xs.length:Int)+1) {w gd p:Int} (hw:OkI m g p w) (hat:At g gd p) (hm:More m m' [w,gd,p,0,0]):∃ g',Gt t m g m' g'/\f0Z g' A w gd p/\g'.hm A=none/\g'.ow A=t:=by
 have h0:1<=A:=by omega
 obtain ⟨R,hR⟩:∃ R:Int->Ro,R=fun j=>if j=4 then Ro.cnt else if j=3 then Ro.root else .fix ([w,gd,p,0,0].getD j.toNat 0):=⟨_,rfl⟩;have e:=fun c=>Gh.add_in (g:=g) (A:=A) (n:=5) (R:=R) (K:=4) (H:=g.hm) (t:=t) (c:=c);have e':∀ j,0<=j->j < 5->(g.add A 5 R 4 g.hm t).ro (A+j)=some (R j)/\(g.add A 5 R 4 g.hm t).rb (A+j)=A:=fun j q1 q2=>by
  obtain ⟨u1,u2,_⟩:=e (A+j) (by omega) (by omega);rw [show A+j - A=j by omega] at u1;exact ⟨u1,u2⟩
 obtain ⟨_,_,a3,a4⟩:=e A (by omega) (by omega);have hD:f0Z (g.add A 5 R 4 g.hm t) A w gd p:=by
  refine ⟨a3,Gh.add_rec h0 (Int.le_refl _),?_,?_,?_,?_,?_⟩
  ·have:=(e' 0 (by omega) (by omega)).1;rw [Int.add_zero] at this;rw [this,hR];rfl
  ·rw [(e' 1 (by omega) (by omega)).1,hR];rfl
  ·rw [(e' 2 (by omega) (by omega)).1,hR];rfl
  ·rw [(e' 3 (by omega) (by omega)).1,hR];rfl
  ·rw [(e' 4 (by omega) (by omega)).1,hR];rfl
 have st:=h0K h hm hA (n:=5) rfl (p0N.old h hA) (R:=R) (K:=4) (t:=t) (fun hE j j0 j1=>by
  obtain ⟨q,q2⟩:=e' j j0 j1;have lk:=hm.at hA j0 (by simpa using j1)
  by_cases j4:j=4
  ·have r:R j=.cnt:=by rw [hR];exact if_pos j4
   exact COk.free (.inr (by rw [q,r]))
  ·by_cases j3:j=3
   ·have r:R j=.root:=by rw [hR];exact (if_neg j4).trans (if_pos j3)
    exact COk.root (by rw [q,r]) q2 ⟨w,gd,p,hD,hE.okI hw,hE.at hat⟩ (by rw [lk,j3];rfl)
   ·have r:R j=.fix ([w,gd,p,0,0].getD j.toNat 0):=by rw [hR];exact (if_neg j4).trans (if_neg j3)
    exact COk.fix (by rw [q,r]) lk) (fun d n' i hI _ _ _=>by have:=hI.kn;rw [a3] at this;omega)
 exact ⟨_,⟨st.1,st.2,l0K h (ws:=[w,gd,p,0,0]) hA rfl (fun _ _=>rfl)⟩,hD,h.hmA (by rw [hA];exact h.noA),a4⟩
def Kid (m:Mst) (g:Gh) (t:Nat) (w:Int):Prop:=w=0∨(kd w=2/\∃ k v,c0C g (ad w) k v)∨(kd w=3/\ad w≠1/\g.hm (ad w)=none/\g.ow (ad w)=t/\e0I m g (ad w)/\∃ d n,a0E g (ad w) d n/\2<=d)
def kidI (b w:Int):Bool:=kd w == 3 && ad w == b
def h0P (g:Gh) (A d:Int) (cs:List Int) (b:Int):Option Int:=match cs.findIdx? (kidI b) with
 | some i=>some (A+4+d+i)
 | none=>g.hm b
theorem g0G {cs:List Int} {b:Int} {i:Nat} (h:cs.findIdx? (kidI b)=some i):∃ w,cs[i]? = some w/\kd w=3/\ad w=b:=by
 rw [List.findIdx?_eq_some_iff_getElem] at h;obtain ⟨h1,h2,_⟩:=h;simp only [kidI,Bool.and_eq_true,beq_iff_eq] at h2;exact ⟨_,List.getElem?_eq_getElem h1,h2.1,h2.2⟩
theorem idx_is {cs:List Int} (hd:∀ i j:Nat,∀ v w,cs[i]? = some v->cs[j]? = some w->kd v=3->kd w=3->ad v=ad w->i=j) {i:Nat} {w:Int} (h:cs[i]? = some w) (k:kd w=3):cs.findIdx? (kidI (ad w))=some i:=by
 cases e:cs.findIdx? (kidI (ad w)) with
 | none=>
  rw [List.findIdx?_eq_none_iff] at e
  have:=e w (List.mem_of_getElem? h)
  simp [kidI,k] at this
 | some j=>
  obtain ⟨v,e1,e2,e3⟩:=g0G e;rw [hd i j w v h e1 k e2 e3.symm]
theorem n0E (h:Inv m g) (hA:A=(m.xs.length:Int)+1) {size d:Int} {q cs:List Int} (kz:Int->Int) (hd:(cs.length:Int)=d) (hd1:1<=d) (hq:(q.length:Int)=d - 1) (hkid:∀ w ∈ cs,Kid m g t w)
  (hdis:∀ i j:Nat,∀ v w,cs[i]? = some v->cs[j]? = some w->kd v=3->kd w=3->ad v=ad w->i=j)
  (hkey:∀ i:Nat,1<=i->(i:Int) < d->q.getD (i - 1) 0=kz i∨(q.getD (i - 1) 0=0/\cs.getD i 0=0))
  (hm:More m m' (a0S size q cs)) :
  ∃ g',Gt t m g m' g'/\a0E g' A d size/\g'.hm A=none/\g'.ow A=t/\(∀ i,1<=i->i < d->gk g' A i=kz i)/\(∀ i:Nat,(i:Int) < d->m'.look (A+4+d+i)=cs.getD i 0)/\(∀ b,(∀ w ∈ cs,kd w=3->ad w≠b)->g'.hm b=g.hm b)/\g'.pl=g.pl:=by
 have h0:1<=A:=by omega
 have hl:((a0S size q cs).length:Int)=2 * d+4:=by rw [f0B];omega
 obtain ⟨R,hR⟩:∃ R:Int->Ro,R=fun j=>if j=0 then .fix d else if j=1 then .fix size else if j=2 then .shut else if j=3 then .chg else if j=4 then .sum else if j < 4+d then .key (kz (j - 4)) else .slot:=⟨_,rfl⟩;obtain ⟨g',hg⟩:∃ g',g.add A (2 * d+4) R 3 (h0P g A d cs) t=g':=⟨_,rfl⟩;have e':∀ j,0<=j->j < 2 * d+4->g'.ro (A+j)=some (R j)/\g'.rb (A+j)=A/\g'.kn (A+j)=3/\g'.ow (A+j)=t:=fun j q1 q2=>by
  obtain ⟨u1,u2⟩:=Gh.add_in (g:=g) (A:=A) (n:=2 * d+4) (R:=R) (K:=3) (H:=h0P g A d cs) (t:=t) (c:=A+j) (by omega) (by omega);rw [show A+j - A=j by omega] at u1;rw [<- hg];exact ⟨u1,u2⟩
 have r0:R 0=.fix d:=by rw [hR];rfl
 have r1:R 1=.fix size:=by rw [hR];rfl
 have r2:R 2=.shut:=by rw [hR];rfl
 have r3:R 3=.chg:=by rw [hR];rfl
 have r4:R 4=.sum:=by rw [hR];rfl
 have rk:∀ i,1<=i->i < d->R (4+i)=.key (kz i):=fun i i1 i2=>by
  rw [hR];show (if 4+i=0 then _ else _)=_;rw [if_neg (by omega),if_neg (by omega),if_neg (by omega),if_neg (by omega),if_neg (by omega),if_pos (by omega),show 4+i - 4=i by omega]
 have rs:∀ i,0<=i->i < d->R (4+d+i)=.slot:=fun i i1 i2=>by
  rw [hR];show (if 4+d+i=0 then _ else _)=_;rw [if_neg (by omega),if_neg (by omega),if_neg (by omega),if_neg (by omega),if_neg (by omega),if_neg (by omega)]
 have eA:=e' 0 (by omega) (by omega);rw [Int.add_zero] at eA;have hI:a0E g' A d size:=by
  refine ⟨eA.2.2.1,by rw [<- hg];exact Gh.add_rec h0 (Int.le_refl _),hd1,by rw [eA.1,r0],by rw [(e' 1 (by omega) (by omega)).1,r1],by rw [(e' 2 (by omega) (by omega)).1,r2],by rw [(e' 3 (by omega) (by omega)).1,r3],by rw [(e' 4 (by omega) (by omega)).1,r4],fun i i1 i2=>⟨kz i,?_⟩,fun i i1 i2=>?_⟩
  ·rw [show A+4+i=A+(4+i) by omega,(e' (4+i) (by omega) (by omega)).1,rk i i1 i2]
  ·rw [show A+4+d+i=A+(4+d+i) by omega,(e' (4+d+i) (by omega) (by omega)).1,rs i i1 i2]
 have hgk:∀ i,1<=i->i < d->gk g' A i=kz i:=fun i i1 i2=>by
  unfold gk;rw [show A+4+i=A+(4+i) by omega,(e' (4+i) (by omega) (by omega)).1,rk i i1 i2]
 have lks:∀ i:Nat,(i:Int) < d->m'.look (A+4+d+i)=cs.getD i 0:=fun i i2=>by
  have:=hm.at hA (j:=4+d+i) (by omega) (by omega)
  rw [show A+(4+d+(i:Int))=A+4+d+i by omega] at this;rw [this];unfold a0S;rw [List.getD_eq_getElem?_getD,List.getD_eq_getElem?_getD,List.getElem?_append_right (by simp;omega),List.getElem?_append_right (by simp;omega)];congr 2;simp;omega
 have lkk:∀ i:Nat,1<=i->(i:Int) < d->m'.look (A+4+i)=q.getD (i - 1) 0:=fun i i1 i2=>by
  have:=hm.at hA (j:=4+i) (by omega) (by omega)
  rw [show A+(4+(i:Int))=A+4+i by omega] at this;rw [this];unfold a0S;rw [List.getD_eq_getElem?_getD,List.getD_eq_getElem?_getD,List.getElem?_append_right (by simp;omega),List.getElem?_append_left (by simp;omega)];congr 2;simp;omega
 have noA:g.hm A=none:=h.hmA (by rw [hA];exact h.noA);have hmA:h0P g A d cs A=none:=by
  unfold h0P;cases e:cs.findIdx? (kidI A) with
  | none=>exact noA
  | some i=>
   obtain ⟨w,e1,e2,e3⟩:=g0G e;rcases hkid w (List.mem_of_getElem? e1) with q | ⟨q,_⟩ | ⟨_,_,_,_,_,d',n',q,_⟩
   ·rw [q] at e2;exact absurd e2 (by decide)
   ·omega
   ·have:=q.c0
    have hno:g.ro A=none:=by rw [hA];exact h.noA
    rw [e3,hno] at this;cases this
 have hL:p0N m' g g' A (h0P g A d cs):=by
  refine ⟨hmA,fun b c e=>?_,fun b c e=>?_⟩
  ·unfold h0P;cases e2:cs.findIdx? (kidI b) with
   | none=>exact e
   | some i=>
    obtain ⟨w,e1,e2,e3⟩:=g0G e2;rcases hkid w (List.mem_of_getElem? e1) with q | ⟨q,_⟩ | ⟨_,_,q,_⟩
    ·rw [q] at e2;exact absurd e2 (by decide)
    ·omega
    ·rw [e3,e] at q;cases q
  ·unfold h0P at e;cases e2:cs.findIdx? (kidI b) with
   | none=>rw [e2] at e;exact .inl e
   | some i=>
    rw [e2] at e;have ec:=Option.some.inj e;obtain ⟨w,e1,e2,e3⟩:=g0G e2;have hil:=(List.getElem?_eq_some_iff.1 e1).1;have lw:m'.look c=w:=by
     rw [<- ec,lks i (by omega),List.getD_eq_getElem?_getD,e1];rfl
    rcases hkid w (List.mem_of_getElem? e1) with q | ⟨q,_⟩ | ⟨_,q1,_,_,_,d',n',q2,_⟩
    ·rw [q] at e2;exact absurd e2 (by decide)
    ·omega
    ·rw [e3] at q1 q2;exact .inr ⟨q1,by rw [q2.kn];decide,(by rw [q2.c0];exact (fun e=>by cases e)),d,size,i,⟨hI,by omega,by omega,ec.symm⟩,by rw [lw];exact e3⟩
 have noIv:∀ lo hi,¬ Iv g' A lo hi:=fun lo hi e=>by
  cases e with
  | top _=>
   have:=h.noA
   rw [<- hA,h.top.1.c0] at this;cases this
  | sub _ _ _ _ _ e2=>
   have:g'.hm A=none:=by rw [<- hg];exact hmA
   rw [this] at e2;cases e2
 have hk:∀ d' n' i,a0E g' A d' n'->1<=i->i < d'->m'.look (A+4+d' + i)≠0->m'.look (A+4+i)=gk g' A i:=fun d' n' i hI' i1 i2 q=>by
  obtain ⟨rfl,rfl⟩:=hI.deg hI';rw [hgk i i1 i2];have a1:=lks i.toNat (by omega);have a2:=lkk i.toNat (by omega) (by omega);have a3:=hkey i.toNat (by omega) (by omega);rw [show ((i.toNat:Nat):Int)=i by omega] at a1 a2 a3;rw [a1] at q;rw [a2];rcases a3 with a3 | ⟨_,a3⟩
  ·exact a3
  ·exact absurd a3 q
 have st:=h0K h hm hA (n:=2 * d+4) hl.symm (R:=R) (K:=3) (t:=t) (H:=h0P g A d cs) (by rw [hg];exact hL) (fun hE j j0 j1=>by
  rw [hg] at hE ⊢;obtain ⟨q1,q2,_⟩:=e' j j0 j1;have lk:=hm.at hA j0 (by omega)
  by_cases c0:j=0
  ·subst c0;exact COk.fix (by rw [q1,r0]) (by rw [lk,<- hd];rfl)
  by_cases c1:j=1
  ·subst c1;exact COk.fix (by rw [q1,r1]) (by rw [lk];rfl)
  by_cases c2:j=2
  ·subst c2;exact COk.zero (.inl (by rw [q1,r2])) (by rw [lk];rfl)
  by_cases c3:j=3
  ·subst c3;exact COk.free (.inl (by rw [q1,r3]))
  by_cases c4:j=4
  ·subst c4;exact COk.zero (.inr (.inl (by rw [q1,r4]))) (by rw [lk];rfl)
  by_cases c5:j < 4+d
  ·obtain ⟨i,rfl⟩:∃ i:Nat,j=4+(i:Int):=⟨(j - 4).toNat,by omega⟩;refine COk.key (z:=kz i) (by rw [q1,rk i (by omega) (by omega)]) ?_;have a2:=lkk i (by omega) (by omega);rw [show A+4+(i:Int)=A+(4+i) by omega] at a2;rw [a2];rcases hkey i (by omega) (by omega) with a3 | ⟨a3,_⟩
   ·exact .inr a3
   ·exact .inl a3
  ·obtain ⟨i,rfl⟩:∃ i:Nat,j=4+d+(i:Int):=⟨(j - 4 - d).toNat,by omega⟩;have r:g'.ro (A+(4+d+i))=some .slot:=by rw [q1,rs i (by omega) (by omega)]
   have a1:=lks i (by omega);rw [show A+4+d+(i:Int)=A+(4+d+i) by omega] at a1;have hil:i < cs.length:=by omega
   obtain ⟨w,ew⟩:∃ w,cs[i]? = some w:=⟨_,List.getElem?_eq_getElem hil⟩;rw [List.getD_eq_getElem?_getD,ew] at a1;have a1':m'.look (A+(4+d+i))=w:=a1;rcases hkid w (List.mem_of_getElem? ew) with q | ⟨k,u,v,hl'⟩ | ⟨k,b1,b2,b3,b4,d',n',b5,b6⟩
   ·exact COk.zero (.inr (.inr r)) (by rw [a1',q])
   ·have hw:OkW m' g' (A+(4+d+i)) w:=.inr (.inl ⟨k,u,v,hE.leaf hl',fun lo hi e=>by
     obtain ⟨a,d2,n2,l2,u2,i2,z1,z2,z3,z4,z5,_,_⟩:=e;obtain ⟨rfl,_⟩:=Slot.fn (g:=g') (c:=A+(4+d+i)) ⟨z2,z3,z4,z5⟩ ⟨hI,by omega,by omega,(by omega:A+(4+d+(i:Int))=A+4+d+i)⟩;exact absurd z1 (noIv _ _)⟩)
    exact COk.child r (by rw [a1'];exact hw)
   ·have hh:g'.hm (ad w)=some (A+(4+d+i)):=by
     rw [<- hg];show h0P g A d cs (ad w)=_;unfold h0P;rw [idx_is hdis ew k];show some (A+4+d+(i:Int))=_;congr 1;omega
    have hw:OkW m' g' (A+(4+d+i)) w:=.inr (.inr (.inl ⟨k,d',n',hE.inner b5,b6,b1,hh,hE.compl b5 b4⟩));exact COk.child r (by rw [a1'];exact hw)) (by rw [hg];exact hk)
 rw [hg] at st;have hH:∀ b,g.ow b≠t->h0P g A d cs b=g.hm b:=fun b hb=>by
  unfold h0P;cases e:cs.findIdx? (kidI b) with
  | none=>rfl
  | some i=>
   obtain ⟨w,e1,e2,e3⟩:=g0G e;rcases hkid w (List.mem_of_getElem? e1) with q | ⟨q,_⟩ | ⟨_,_,_,q,_⟩
   ·rw [q] at e2;exact absurd e2 (by decide)
   ·omega
   ·exact absurd (e3 ▸ q) hb
 have ow:=l0K (R:=R) (K:=3) h (ws:=a0S size q cs) hA hl.symm hH;rw [hg] at ow;refine ⟨g',⟨st.1,st.2,ow⟩,hI,by rw [<- hg];exact hmA,eA.2.2.2,hgk,lks,fun b hb=>?_,by rw [<- hg];rfl⟩;rw [<- hg];show h0P g A d cs b=_;unfold h0P;cases e:cs.findIdx? (kidI b) with
 | none=>rfl
 | some i=>
  obtain ⟨w,e1,e2,e3⟩:=g0G e;exact absurd e3 (hb w (List.mem_of_getElem? e1) e2)
end
end Sd
namespace Sd
inductive Pr (α:Type) where
 | ret (a:α)
 | ask (q:Ak) (k:Int->Pr α)
 | stop
namespace Pr
variable {α β:Type}
def bind:Pr α->(α->Pr β)->Pr β
 | ret a,f=>f a
 | ask q k,f=>ask q (fun z=>(k z).bind f)
 | stop,_=>stop
def read (a:Int):Pr Int:=ask ⟨1,a,0,0,[]⟩ ret
def write (a x:Int):Pr Unit:=ask ⟨2,a,x,0,[]⟩ (fun _=>ret ())
def cas (a old x:Int):Pr Bool:=ask ⟨3,a,old,x,[]⟩ (fun z=>ret (z == 1))
def add (a d:Int):Pr Int:=ask ⟨4,a,d,0,[]⟩ ret
def make (w:List Int):Pr Int:=ask ⟨5,0,0,0,w⟩ ret
end Pr
section
variable {α β:Type}
def Safe (t:Nat):Pr α->(α->Mst->Gh->Prop)->Mst->Gh->Prop
 | .ret a,Q,m,g=>Q a m g
 | .ask q k,Q,m,g=>∀ m1 g1,Rl t m g m1 g1->∃ g2,Gt t m1 g1 (m1.doA q).2 g2/\Safe t (k (m1.doA q).1) Q (m1.doA q).2 g2
 | .stop,_,_,_=>True
variable {t:Nat} {m:Mst} {g:Gh}
theorem Safe.mono {p:Pr α} {Q Q':α->Mst->Gh->Prop} (h:∀ a m g,Q a m g->Q' a m g):∀ {m:Mst} {g:Gh},Safe t p Q m g->Safe t p Q' m g:=by
 induction p with
 | ret a=>intro m g hs;exact h a m g hs
 | ask q k ih=>
  intro m g hs m1 g1 hr;obtain ⟨g2,h1,h2⟩:=hs m1 g1 hr;exact ⟨g2,h1,ih _ h2⟩
 | stop=>intro m g _;trivial
theorem Safe.bind {p:Pr α} {f:α->Pr β} {Q:β->Mst->Gh->Prop}:∀ {m:Mst} {g:Gh},Safe t p (fun a m g=>Safe t (f a) Q m g) m g->Safe t (p.bind f) Q m g:=by
 induction p with
 | ret a=>intro m g hs;exact hs
 | ask q k ih=>
  intro m g hs m1 g1 hr;obtain ⟨g2,h1,h2⟩:=hs m1 g1 hr;exact ⟨g2,h1,ih _ h2⟩
 | stop=>intro m g _;trivial
theorem Gt.rl' {m':Mst} (h:Inv m' g/\Ex m g m' g):Rl t m g m' g:=⟨h.1,h.2,fun _ _=>⟨rfl,fun _=>⟨rfl,rfl⟩⟩⟩
theorem k0M {m m':Mst} (h:m'.xs=m.xs) (c:Int):m'.look c=m.look c:=by unfold Mst.look Mst.used;rw [h]
theorem n0U {m m':Mst} (h:m'.xs=m.xs) (c:Int):m'.used c=m.used c:=by unfold Mst.used;rw [h]
theorem Inv.quiet (h:Inv m g) {m':Mst} (hx:m'.xs=m.xs) (hz:m'.size=m.size):Inv m' g/\Ex m g m' g:=by
 have r:=h.top.1.c0;have hp:Put1 m m' 1 1:=⟨fun c=>by
  rw [k0M hx]
  split
  ·rename_i e;rw [e];exact h.fix r
  ·rfl,n0U hx,by have:=h.ok;unfold Mst.ok at this ⊢;rw [hx];exact this,hz,by rw [hx]⟩
 refine h.put_plain hp (by rw [r];exact fun e=>by cases e) (fun z=>by rw [r];exact fun e=>by cases e) (fun e=>by rw [r] at e;cases e) (fun e=>by rw [r] at e;rcases e with e | e | e <;> cases e) (fun _=>COk.fix r hp.eq)
theorem Safe.read {a:Int} {Q:Int->Mst->Gh->Prop} (h:∀ m1 g1,Rl t m g m1 g1->Q (m1.look a) m1 g1):Safe t (Pr.read a) Q m g:=by
 intro m1 g1 hr;have e:m1.doA ⟨1,a,0,0,[]⟩=(m1.look a,m1.touch a):=rfl;rw [e];have q:=hr.inv.quiet (Mst.touch_xs m1 a) (e0L m1 a);refine ⟨g1,Gt.same q,?_⟩
 have:=h (m1.touch a) g1 (hr.trans (Gt.rl' q))
 rwa [k0M (Mst.touch_xs m1 a)] at this
theorem Safe.write {a x:Int} {Q:Unit->Mst->Gh->Prop} (h:∀ m1 g1,Rl t m g m1 g1->∃ g2,Gt t m1 g1 (m1.write a x) g2/\Q () (m1.write a x) g2):Safe t (Pr.write a x) Q m g:=by
 intro m1 g1 hr;exact h m1 g1 hr
theorem Safe.add {a d:Int} {Q:Int->Mst->Gh->Prop} (h:∀ m1 g1,Rl t m g m1 g1->∃ g2,Gt t m1 g1 (m1.write a (wrap64 (m1.look a+d))) g2/\Q (m1.look a) (m1.write a (wrap64 (m1.look a+d))) g2):Safe t (Pr.add a d) Q m g:=by
 intro m1 g1 hr;exact h m1 g1 hr
theorem Safe.cas {a old x:Int} {Q:Bool->Mst->Gh->Prop} (h1:∀ m1 g1,Rl t m g m1 g1->m1.used a=true->m1.look a=old->∃ g2,Gt t m1 g1 (m1.write a x) g2/\Q true (m1.write a x) g2)
  (h0:∀ m1 g1,Rl t m g m1 g1->¬ (m1.used a=true/\m1.look a=old)->Q false m1 g1):Safe t (Pr.cas a old x) Q m g:=by
 intro m1 g1 hr;have e:m1.doA ⟨3,a,old,x,[]⟩=(if m1.did a old=true then 1 else 0,m1.cas a old x):=rfl;rw [e]
 by_cases hd:m1.did a old=true
 ·have hd':=hd;unfold Mst.did at hd';rw [Bool.and_eq_true,beq_iff_eq] at hd';rw [if_pos hd,Mst.cas,if_pos hd];exact h1 m1 g1 hr hd'.1 hd'.2
 ·rw [if_neg hd,Mst.cas,if_neg hd];have q:=hr.inv.quiet (Mst.touch_xs m1 a) (e0L m1 a);refine ⟨g1,Gt.same q,?_⟩;refine h0 (m1.touch a) g1 (hr.trans (Gt.rl' q)) ?_;rw [n0U (Mst.touch_xs m1 a),k0M (Mst.touch_xs m1 a)];rintro ⟨u1,u2⟩;exact hd (by unfold Mst.did;rw [u1,u2];simp)
theorem u0U (h:Inv m g) {ws:List Int} (hw:∀ z ∈ ws,I64 z) (hf:m.fits ws.length=true):More m (m.make ws) ws:=by
 have e:(m.make ws).xs=m.xs++ws:=by unfold Mst.make;rw [if_pos hf]
 have hz:=h.sz;have es:(m.make ws).size=m.size:=by unfold Mst.make;rw [if_pos hf]
 refine more_of e ⟨fun z hz=>?_,?_⟩ es (by
  rw [e,es,List.length_append];unfold Mst.fits at hf;simp only [Bool.and_eq_true,decide_eq_true_eq] at hf;omega)
 ·rw [e] at hz;rcases List.mem_append.1 hz with hz | hz
  ·exact h.ok.1 z hz
  ·exact hw z hz
 ·rw [e,List.length_append];unfold Mst.fits at hf;simp only [Bool.and_eq_true,decide_eq_true_eq] at hf;omega
theorem Safe.make {ws:List Int} {Q:Int->Mst->Gh->Prop} (hw:∀ z ∈ ws,I64 z)
  (h1:∀ m1 g1 m2,Rl t m g m1 g1->More m1 m2 ws->∃ g2,Gt t m1 g1 m2 g2/\Q ((m1.xs.length:Int)+1) m2 g2) (h0:∀ m1 g1,Rl t m g m1 g1->Q 0 m1 g1):Safe t (Pr.make ws) Q m g:=by
 intro m1 g1 hr;have e:m1.doA ⟨5,0,0,0,ws⟩=(m1.next ws,m1.make ws):=rfl;rw [e]
 by_cases hf:m1.fits ws.length=true
 ·obtain ⟨g2,q1,q2⟩:=h1 m1 g1 (m1.make ws) hr (u0U hr.inv hw hf);refine ⟨g2,q1,?_⟩;show Q (m1.next ws) (m1.make ws) g2;unfold Mst.next;rw [if_pos hf];exact q2
 ·have e2:(m1.make ws).xs=m1.xs:=by unfold Mst.make;rw [if_neg hf]
  have e3:(m1.make ws).size=m1.size:=by unfold Mst.make;rw [if_neg hf]
  have q:=hr.inv.quiet e2 e3;refine ⟨g1,Gt.same q,?_⟩;show Q (m1.next ws) (m1.make ws) g1;unfold Mst.next;rw [if_neg hf];exact h0 _ g1 (hr.trans (Gt.rl' q))
end
end Sd
namespace Sd
namespace Pr
def peek (a:Int):Pr Int:=(read a).bind fun w=>if kd w=5 then (read (ad w+4)).bind fun o=>if o=1 then read (ad w+3) else read (ad w+2) else ret w
def help (a:Int):Pr Unit:=
 (read a).bind fun p=>(read p).bind fun gd=>(cas (a+4) 0 (if gd=0 then 1 else 2)).bind fun _=>(read (a+4)).bind fun o=>(read (a+1)).bind fun s=>
 (if o=1 then read (a+3) else read (a+2)).bind fun v=>(cas s (Rf.ofZ 5 a) v).bind fun _=>ret ()
def slotL:Nat->Int->Int->Pr Int
 | 0,_,_=>stop
 | n+1,a,z=>if kd z=5 then (help (ad z)).bind fun _=>(read a).bind fun y=>slotL n a y else ret z
def slot (n:Nat) (a:Int):Pr Int:=(read a).bind fun z=>slotL n a z
def dcss (gd p old x:Int):Pr Int:=
 (make [gd,p,old,x,0]).bind fun A=>if 0 < A then (cas p old (Rf.ofZ 5 A)).bind fun c=>
  if c=true then (read gd).bind fun q=>(cas (wrap64 (A+4)) 0 (if q=0 then 1 else 2)).bind fun _=>(read (wrap64 (A+4))).bind fun o=>
   if o=1 then (cas p (Rf.ofZ 5 A) x).bind fun _=>ret 1 else (cas p (Rf.ofZ 5 A) old).bind fun _=>ret 2
  else ret 0
 else ret 3
end Pr
variable {t:Nat} {m m':Mst} {g g':Gh} {c0 w0:Int}
theorem of5 {D:Int} (h1:1<=D) (h2:D<=65536):kd (Rf.ofZ 5 D)=5/\ad (Rf.ofZ 5 D)=D/\Rf.ofZ 5 D≠0:=by
 have e:Rf.ofZ 5 D=8 * D+5:=by unfold Rf.ofZ Rf.may;rw [if_pos (by simp;omega)]
 have r:Rf.rt (8 * D+5)=true:=by unfold Rf.rt;simp;omega
 rw [e];refine ⟨?_,?_,by omega⟩
 ·unfold kd Rf.kindZ;rw [if_pos r];omega
 ·unfold ad Rf.atZ;rw [if_pos r];omega
theorem OkW.knd {c w:Int} (h:OkW m g c w):1<=kd w/\kd w<=4:=by
 rcases h with ⟨k,_⟩ | ⟨k,_⟩ | ⟨k,_⟩ | ⟨k,_⟩ <;> omega
theorem OkW.ne {c w:Int} (h:OkW m g c w):w≠0/\kd w≠5:=by
 have:=h.knd
 refine ⟨fun e=>?_,by omega⟩;rw [e] at this;exact absurd this.1 (by decide)
theorem Inv.dc (h:Inv m g) {D gd p o x:Int} (hD:IsDc g D gd p o x):OkW m g p o/\OkW m g p x/\At g gd p/\(g.lt D=true->m.look gd≠0)/\(m.look (D+4)=0∨((m.look (D+4)=1∨m.look (D+4)=2)/\g.pl D=true))/\(g.lt D=true->m.look (D+4)≠1):=by
 have q:=h.cell (D+4);unfold COk at q;rw [hD.c4,(hD.rc.2 4 (by omega) (by omega)).1] at q;obtain ⟨⟨gd2,p2,o2,x2,q1,q2,q3,q4,q5⟩,q6,q7⟩:=q;obtain ⟨rfl,rfl,rfl,rfl⟩:=hD.fn q1;exact ⟨q2,q3,q4,q5,q6,q7⟩
theorem Inv.dcB (h:Inv m g) {D gd p o x:Int} (hD:IsDc g D gd p o x):1<=D/\D+4<=65536/\D+4<=(m.xs.length:Int):=by
 have h1:=h.lt (c:=D+4) (by rw [hD.c4];exact fun e=>by cases e);have h2:=h.ok.2;have h3:=hD.rc.1;omega
theorem t0P (h:Inv m g) {D gd p o x v:Int} (hD:IsDc g D gd p o x) (hl:m.look p=Rf.ofZ 5 D) (hv:v=if m.look (D+4)=1 then x else o):Gt t m g (m.write p v) g:=by
 obtain ⟨q1,q2,q3,q4,q5,q6⟩:=h.dc hD;have b:=h.dcB hD;obtain ⟨k1,k2,k3⟩:=of5 b.1 (by omega);have sv:=q3.siv;obtain ⟨a,d,n,i,lo,hi,hs,eg,hv'⟩:=q3;have ov:OkW m g p v:=by rw [hv];split;exact q2;exact q1
 have hu:m.used p=true:=(h.used p).1 (by rw [hs.ro];exact fun e=>by cases e);have iv:I64 v:=by
  rw [hv]
  split
  ·rw [<- h.fix hD.c3];exact h.ok.look _
  ·rw [<- h.fix hD.c2];exact h.ok.look _
 have hp:=c0H h.ok hu iv;refine Gt.same (h0J h hs hv' ov.ne.1 (fun w q=>?_) (fun i1=>?_) hp (fun hE=>.inl (hE.okW (fun _ _ e=>hE.back sv e) ov)))
 ·obtain ⟨a',d',n',i',hs',r1,r2,r3,r4⟩:=q;obtain ⟨rfl,rfl,rfl,rfl⟩:=hs'.fn hs;have e2:a' + 2≠p:=fun e=>by have e3:=hs.1.c2;rw [e,hs.ro] at e3;cases e3
  refine ⟨a',d',n',i',hs,by rw [hp.ne e2];exact r1,r2,r3,.inl ?_⟩;rw [hp.eq];rw [hl] at r4;rcases r4 with r4 | ⟨_,_,r5,gd',x',hD'⟩
  ·rw [<- r4] at r3;exact absurd k1 r3
  ·rw [k2] at r5 hD';obtain ⟨_,_,rfl,_⟩:=hD.fn hD';rw [hv,if_neg (q6 r5)]
 ·have ep:=hs.2.2.2;exact h.kin a d n i hs.1 i1 hs.2.2.1 (by rw [<- ep,hl];exact k3)
structure Pd (g:Gh) (D gd p o x:Int):Prop where
 dc:IsDc g D gd p o x
 pl:g.pl D=true
theorem Rl.pd (h:Rl t m g m' g') {D gd p o x:Int} (q:Pd g D gd p o x):Pd g' D gd p o x:=⟨h.ex.dc q.dc,(h.ex.pl _ q.pl).1⟩
theorem k0A {A D gd p o x q:Int} (hD:Pd g D gd p o x) (eA:A=D+4) (hq:q=0->g.lt D=false):Safe t (Pr.cas A 0 (if q=0 then 1 else 2)) (fun _ m' g'=>Rl t m g m' g'/\m'.look (D+4)≠0) m g:=by
 subst eA;refine Safe.cas (fun m1 g1 hr hu h0=>?_) (fun m1 g1 hr hn=>?_)
 ·have hD1:=hr.pd hD;have lt1:=(hr.ex.pl _ hD.pl).2;have hp:=c0H hr.inv.ok hu (x:=if q=0 then 1 else 2) (by split <;> exact ⟨by decide,by decide⟩);have st:=step_out hr.inv hD1.dc hD1.pl h0 (x:=if q=0 then 1 else 2) (by
   by_cases e:q=0
   ·rw [if_pos e];exact .inl ⟨rfl,by rw [lt1];exact hq e⟩
   ·rw [if_neg e];exact .inr rfl) hp
  refine ⟨g1,Gt.same st,hr.trans (Gt.rl' st),?_⟩;rw [hp.eq]
  split <;> decide
 ·have hD1:=hr.pd hD;refine ⟨hr,fun e=>hn ⟨(hr.inv.used _).1 (by rw [hD1.dc.c4];exact fun e=>by cases e),e⟩⟩
theorem j0V {D gd p o x v:Int} (hD:Pd g D gd p o x) (h4:m.look (D+4)≠0) (hv:v=if m.look (D+4)=1 then x else o):Safe t (Pr.cas p (Rf.ofZ 5 D) v) (fun _ m' g'=>Rl t m g m' g') m g:=by
 refine Safe.cas (fun m1 g1 hr _ hl=>?_) (fun m1 g1 hr _=>hr);have hD1:=hr.pd hD;have e4:=hr.ex.stay _ (.inr (.inr hD.dc.c4)) h4;have st:=t0P (t:=t) (v:=v) hr.inv hD1.dc hl (by rw [e4];exact hv);exact ⟨g1,st,hr.trans ⟨st.inv,st.ex,fun _ _=>⟨rfl,fun _=>⟨rfl,rfl⟩⟩⟩⟩
theorem v0K {D gd p o x:Int} (hD:Pd g D gd p o x):Safe t (Pr.help D) (fun _ m' g'=>Rl t m g m' g') m g:=by
 unfold Pr.help;refine Safe.bind (Safe.read fun m1 g1 r1=>?_);have hD1:=r1.pd hD;rw [r1.inv.fix hD1.dc.c0];refine Safe.bind (Safe.read fun m2 g2 r2=>?_);have R2:=r1.trans r2;have hD2:=R2.pd hD;obtain ⟨_,_,_,q4,_,_⟩:=R2.inv.dc hD2.dc;generalize hq:m2.look gd=q;refine Safe.bind (Safe.mono ?_ (k0A (q:=q) hD2 rfl (fun e=>by
  cases el:g2.lt D with
  | false=>rfl
  | true=>exact absurd (hq.trans e) (q4 el))))
 rintro _ m3 g3 ⟨r3,n3⟩;have R3:=R2.trans r3;refine Safe.bind (Safe.read fun m4 g4 r4=>?_);have R4:=R3.trans r4;have hD3:=R3.pd hD;have hD4:=R4.pd hD;have n4:m4.look (D+4)≠0:=by rw [r4.ex.stay _ (.inr (.inr hD3.dc.c4)) n3];exact n3
 refine Safe.bind (Safe.read fun m5 g5 r5=>?_);have R5:=R4.trans r5;have hD5:=R5.pd hD;have e5:=r5.ex.stay _ (.inr (.inr hD4.dc.c4)) n4;rw [R5.inv.fix hD5.dc.c1,<- e5];have n5:m5.look (D+4)≠0:=by rw [e5];exact n4
 refine Safe.bind (Safe.mono (Q:=fun v m6 g6=>Rl t m5 g5 m6 g6/\v=if m5.look (D+4)=1 then x else o) ?_ ?_)
 ·rintro v m6 g6 ⟨r6,ev⟩;have R6:=R5.trans r6;have e6:=r6.ex.stay _ (.inr (.inr hD5.dc.c4)) n5;refine Safe.bind (Safe.mono ?_ (j0V (R6.pd hD) (by rw [e6];exact n5) (by rw [e6];exact ev)));intro _ m7 g7 r7;exact R6.trans r7
 ·split
  ·exact Safe.read fun m6 g6 r6=>⟨r6,r6.inv.fix (r6.pd hD5).dc.c3⟩
  ·exact Safe.read fun m6 g6 r6=>⟨r6,r6.inv.fix (r6.pd hD5).dc.c2⟩
theorem Inv.sees (h:Inv m g) {c:Int} (hs:g.ro c=some .slot):m.look c=0∨OkW m g c (m.look c)∨(kd (m.look c)=5/\∃ gd o x,Pd g (ad (m.look c)) gd c o x):=by
 have q:=h.cell c;unfold COk at q;rw [hs] at q;rcases q with q | q | ⟨q1,q2,gd,o,x,q3⟩
 ·exact .inl q
 ·exact .inr (.inl q)
 ·exact .inr (.inr ⟨q1,gd,o,x,q3,q2⟩)
theorem n0Y (n:Nat) {c:Int} (hs:g.ro c=some .slot):Safe t (Pr.slot n c) (fun w m' g'=>Rl t m g m' g'/\m'.look c=w/\kd w≠5) m g:=by
 have loop:∀ (n:Nat) (m1:Mst) (g1:Gh),Rl t m g m1 g1->Safe t (Pr.slotL n c (m1.look c)) (fun w m' g'=>Rl t m g m' g'/\m'.look c=w/\kd w≠5) m1 g1:=by
  intro n
  induction n with
  | zero=>intro m1 g1 _;trivial
  | succ n ih=>
   intro m1 g1 r1;unfold Pr.slotL
   split
   ·rename_i k5;have hs1:=r1.ex.so hs;rcases r1.inv.sees hs1 with q | q | ⟨_,gd,o,x,hD⟩
    ·rw [q] at k5;exact absurd k5 (by decide)
    ·exact absurd k5 q.ne.2
    ·refine Safe.bind (Safe.mono ?_ (v0K hD));intro _ m2 g2 r2;refine Safe.bind (Safe.read fun m3 g3 r3=>?_);exact ih m3 g3 ((r1.trans r2).trans r3)
   ·rename_i k5;exact ⟨r1,rfl,k5⟩
 unfold Pr.slot;exact Safe.bind (Safe.read fun m1 g1 r1=>loop n m1 g1 r1)
structure Fw (m:Mst) (g:Gh) (m':Mst) (g':Gh):Prop where
 inv:Inv m' g'
 ex:Ex m g m' g'
theorem Rl.fw (h:Rl t m g m' g'):Fw m g m' g':=⟨h.inv,h.ex⟩
theorem Gt.fw (h:Gt t m g m' g'):Fw m g m' g':=⟨h.inv,h.ex⟩
theorem Fw.trans {m1 m2 m3:Mst} {g1 g2 g3:Gh} (h:Fw m1 g1 m2 g2) (h':Fw m2 g2 m3 g3):Fw m1 g1 m3 g3:=⟨h'.inv,h.ex.trans h'.ex⟩
def Can (t:Nat) (m:Mst) (g:Gh) (c w:Int):Prop:=∀ m1 g1,Rl t m g m1 g1->∃ g2,Gt t m1 g1 m1 g2/\OkW m1 g2 c w
theorem OkW.can (h:OkW m g c0 w0) (hs:∃ lo hi,SIv g c0 lo hi):Can t m g c0 w0:=fun _ _ hr=>⟨_,Gt.same ⟨hr.inv,Ex.refl _ _⟩,hr.ex.okW (fun _ _ e=>hr.ex.back hs e) h⟩
theorem step_in (h:Inv m g) {D gd p o x:Int} (hD:IsDc g D gd p o x) (h0:g.pl D=false) (hl:m.look p=o):∃ g',Gt (g.ow D) m g (m.write p (Rf.ofZ 5 D)) g'/\Pd g' D gd p o x:=by
 obtain ⟨q1,q2,q3,q4,q5,q6⟩:=h.dc hD;have b:=h.dcB hD;obtain ⟨k1,k2,k3⟩:=of5 b.1 (by omega);obtain ⟨s1,s2⟩:=step_pl h hD h0 (decide (m.look gd≠0)) (fun e=>by simpa using e);have f:=g.put_e0 D (decide (m.look gd≠0));obtain ⟨a,d,n,i,lo,hi,hs,eg,hv'⟩:=q3;have hu:m.used p=true:=(h.used p).1 (by rw [hs.ro];exact fun e=>by cases e);have hp:=c0H h.ok hu (x:=Rf.ofZ 5 D) (c0O 5 D);have plD:(g.put D (decide (m.look gd≠0))).pl D=true:=by show (if D=D then true else _)=true;rw [if_pos rfl]
 have ltD:(g.put D (decide (m.look gd≠0))).lt D=decide (m.look gd≠0):=by show (if D=D then _ else _)=_;rw [if_pos rfl]
 have st:=h0J s1 (f.sl hs) (f.iv hv') k3 (fun w q=>by
  obtain ⟨a',d',n',i',hs',r1,r2,r3,r4⟩:=q;obtain ⟨rfl,rfl,rfl,rfl⟩:=hs'.fn (f.sl hs);have e2:a' + 2≠p:=fun e=>by have e3:=hs.1.c2;rw [e,hs.ro] at e3;cases e3
  refine ⟨a',d',n',i',hs',by rw [hp.ne e2];exact r1,r2,r3,.inr ?_⟩;rw [hp.eq,k2];refine ⟨k1,plD,by rw [ltD,eg];simpa using r1,gd,x,?_⟩;rcases r4 with r4 | ⟨r4,_⟩
  ·rw [<- r4,hl];exact f.dc hD
  ·rw [hl] at r4;exact absurd r4 q1.ne.2) (fun i1=>by
  have ep:=hs.2.2.2;exact s1.kin a d n i (f.inner hs.1) i1 hs.2.2.1 (by rw [<- ep,hl];exact q1.ne.1)) hp (fun _=>.inr ⟨k1,by rw [k2];exact plD,gd,o,x,by rw [k2];exact f.dc hD⟩)
 refine ⟨_,⟨st.1,s2.trans st.2,fun b _=>⟨rfl,fun e=>⟨rfl,?_⟩⟩⟩,f.dc hD,plD⟩;show (if b=D then true else g.pl b)=_;rw [if_neg (fun q=>e (by rw [q]))]
theorem l0C {gd p o x:Int} (ho:OkW m g p o) (hx:Can t m g p x) (hat:At g gd p) (ig:I64 gd) (ip:I64 p) (io:I64 o) (ix:I64 x):Safe t (Pr.dcss gd p o x) (fun z m' g'=>Fw m g m' g'/\(z≠3->OkW m' g' p x)) m g:=by
 have sv:=hat.siv;unfold Pr.dcss;refine Safe.bind (Safe.make (by
  intro z hz;simp only [List.mem_cons,List.not_mem_nil,or_false] at hz;rcases hz with rfl | rfl | rfl | rfl | rfl
  all_goals first | assumption | exact ⟨by decide,by decide⟩) (fun m1 g1 m2 r1 hm=>?_) (fun m1 g1 r1=>?_))
 ·obtain ⟨g1',c1,c2⟩:=hx m1 g1 r1;have R1:=r1.fw.trans c1.fw;obtain ⟨g2,d1,hD,hpl,how⟩:=mk_dc (t:=t) c1.inv rfl (R1.ex.okW (fun _ _ e=>R1.ex.back sv e) ho) c2 (R1.ex.at hat) hm;refine ⟨g2,c1.trans d1,?_⟩;have R2:=R1.trans d1.fw;have fin:∀ {z:Int} {m':Mst} {g':Gh},Fw m2 g2 m' g'->Fw m g m' g'/\(z≠3->OkW m' g' p x):=fun {z m' g'} r=>⟨R2.trans r,fun _=>by
   have e:=d1.ex.trans r.ex;exact e.okW (fun _ _ q=>e.back (R1.ex.at hat).siv q) c2⟩
  have b2:=d1.inv.dcB hD;generalize hA:(m1.xs.length:Int)+1=A at hD hpl how b2 ⊢;have ew:wrap64 (A+4)=A+4:=Pt.wrap_same (by omega) (by omega);rw [if_pos (by omega)];refine Safe.bind (Safe.cas (fun m3 g3 r3 _ hl=>?_) (fun m3 g3 r3 _=>?_))
  ·have hro:g2.ro A≠none:=by rw [hD.c0];exact fun e=>by cases e
   have ow3:=r3.own A hro;have hD3:=r3.ex.dc hD;obtain ⟨g4,i1,hP⟩:=step_in r3.inv hD3 (by rw [(ow3.2 how).2];exact hpl) hl;rw [ow3.1,how] at i1;refine ⟨g4,i1,?_⟩;have R4:=r3.fw.trans i1.fw;rw [if_pos rfl];refine Safe.bind (Safe.read fun m5 g5 r5=>?_);have hP5:=r5.pd hP;obtain ⟨_,_,_,q4,_,_⟩:=r5.inv.dc hP5.dc;generalize hq:m5.look gd=q;rw [ew];refine Safe.bind (Safe.mono ?_ (k0A (q:=q) hP5 rfl (fun e=>by
    cases el:g5.lt A with
    | false=>rfl
    | true=>exact absurd (hq.trans e) (q4 el))))
   rintro _ m6 g6 ⟨r6,n6⟩;refine Safe.bind (Safe.read fun m7 g7 r7=>?_);have hP6:=r6.pd hP5;have hP7:=r7.pd hP6;have e7:=r7.ex.stay _ (.inr (.inr hP6.dc.c4)) n6;have R7:=((R4.trans r5.fw).trans r6.fw).trans r7.fw
   split
   ·rename_i e1;refine Safe.bind (Safe.mono ?_ (j0V hP7 (by rw [e7];exact n6) (by rw [if_pos e1])));intro _ m8 g8 r8;exact fin (R7.trans r8.fw)
   ·rename_i e1;refine Safe.bind (Safe.mono ?_ (j0V hP7 (by rw [e7];exact n6) (by rw [if_neg e1])));intro _ m8 g8 r8;exact fin (R7.trans r8.fw)
  ·rw [if_neg (by decide)];exact fin r3.fw
 ·rw [if_neg (by decide)];exact ⟨r1.fw,fun e=>absurd rfl e⟩
end Sd
end Go.Proofs.YtibnlaihiahjpaaGreat
