/-
  What the proof of YtoaicedkepcalaaGreatDcssPlaysProof goes by, part 5 of 11: contracts and plain facts; each part begins with its own sentence. No conditions beyond each theorem's own.
-/
import Derived.Test.YtoaicedkepcalaaGreatD4
namespace Go.Proofs.YtoaicedkepcalaaGreat
open Go.RowKit
section
set_option maxRecDepth 20000
def Mst.doA (s:Mst) (q:Ak):Int × Mst:=
 if q.k=1 then (s.look q.a,s.touch q.a)
 else if q.k=2 then (0,s.write q.a q.x)
 else if q.k=3 then (if s.did q.a q.x=true then 1 else 0,s.cas q.a q.x q.y)
 else if q.k=4 then (s.look q.a,s.add q.a q.x)
 else if q.k=5 then (s.next q.w,s.make q.w)
 else (0,s)
theorem do_d (W:World) (n₀ b:Nat) (v:Value) (s:Mst) (q:Ak) (wa:Option Addr) (wn wc:Nat) (h:DMem W n₀ b v s) (hn:n₀<=W.heap.size) (hw:q.w.length=wn) (hr:Reads W wa q.w) (hl:wn<=maxLen) (ha:∀ ad,wa=some ad->ad.block≠b) (z:Int) (s':Mst) (e1:s.doA q=(z,s')) :
  Calls Tryz.prog 67 #[.pointer (some ⟨b,0,none⟩),.agg #[.int .i64 q.k,.int .i64 q.a,.int .i64 q.x,.int .i64 q.y,.slice wa wn wc]] W fun e W'=>e=.returned (.int .i64 z)/\Does 126 layD n₀ b v s' W W':=by
 obtain ⟨k,a,x,y,ws⟩:=q;simp only at hw hr ⊢;unfold Mst.doA at e1;simp only at e1;obtain ⟨V,hV⟩:∃ V,W.alloc (.cells #[.int .i64 k,.int .i64 a,.int .i64 x,.int .i64 y,.slice wa wn wc] 114)=V:=⟨_,rfl⟩;have kV:Kept W V:=by rw [<- hV];exact Td.alloc _ _ _
 have hb:V.heap[W.heap.size]? = some (.cells #[.int .i64 k,.int .i64 a,.int .i64 x,.int .i64 y,.slice wa wn wc] 114):=by rw [<- hV];exact heap_new _ _
 have c0:V.cell? ⟨W.heap.size,0,none⟩=some (.int .i64 k):=by simp [World.cell?,hb]
 have c1:V.cell? ⟨W.heap.size,1,none⟩=some (.int .i64 a):=by simp [World.cell?,hb]
 have c2:V.cell? ⟨W.heap.size,2,none⟩=some (.int .i64 x):=by simp [World.cell?,hb]
 have c3:V.cell? ⟨W.heap.size,3,none⟩=some (.int .i64 y):=by simp [World.cell?,hb]
 have c4:V.cell? ⟨W.heap.size,4,none⟩=some (.slice wa wn wc):=by simp [World.cell?,hb]
 have H:=gh (h.kept kV);have KV:=gh kV;have HN:=gh (Nat.le_trans hn kV.size);have HR:=gh (hr.kept kV);have HA:=gh ha;have HW:=gh hw;clear h hn hr ha hw hb kV
 by_cases k1:k=1
 ·subst k1;rw [if_pos rfl] at e1;simp only [Prod.mk.injEq] at e1;obtain ⟨rfl,rfl⟩:=e1;go_enter Tryz.func67,Tryz.ntmps67;go_wp2_with (fail);clear hV;refine (read_d V n₀ b v s a H.o).mono ?_;rintro e W1 ⟨rfl,m1,t1⟩;have D1:=gh (Does.same m1 ((KV.o.then (t1.mono (fun _ _ e=>.inl e))):Td (Foot b v) W W1));clear m1 t1;go_wp2;go_ret;exact ⟨rfl,D1.o⟩
 ·rw [if_neg k1] at e1;have g1:(k == 1)=false:=by simp [k1]
  by_cases k2:k=2
  ·subst k2;rw [if_pos rfl] at e1;simp only [Prod.mk.injEq] at e1;obtain ⟨rfl,rfl⟩:=e1;go_enter Tryz.func67,Tryz.ntmps67;go_wp2_with (fail);clear hV;refine (write_d V n₀ b v s a x H.o).mono ?_;rintro e W1 ⟨rfl,m1,t1⟩;have D1:=gh (Does.same m1 (KV.o.then t1));clear m1 t1;go_wp2;go_ret;exact ⟨rfl,D1.o⟩
  ·rw [if_neg k2] at e1;have g2:(k == 2)=false:=by simp [k2]
   by_cases k3:k=3
   ·subst k3;rw [if_pos rfl] at e1;simp only [Prod.mk.injEq] at e1;obtain ⟨e1,rfl⟩:=e1;have HC:=gh (cas_d V n₀ b v s a x y H.o);cases hd:s.did a x with
    | true=>
     rw [hd,if_pos rfl] at e1;rw [hd] at HC;subst e1;go_enter Tryz.func67,Tryz.ntmps67;go_wp2_with (fail);clear hV;refine HC.o.mono ?_;rintro e W1 ⟨rfl,m1,t1⟩;have D1:=gh (Does.same m1 (KV.o.then t1));clear m1 t1;go_wp2;go_ret;exact ⟨rfl,D1.o⟩
    | false=>
     rw [hd,if_neg (by decide)] at e1;rw [hd] at HC;subst e1;go_enter Tryz.func67,Tryz.ntmps67;go_wp2_with (fail);clear hV;refine HC.o.mono ?_;rintro e W1 ⟨rfl,m1,t1⟩;have D1:=gh (Does.same m1 (KV.o.then t1));clear m1 t1;go_wp2;go_ret;exact ⟨rfl,D1.o⟩
   ·rw [if_neg k3] at e1;have g3:(k == 3)=false:=by simp [k3]
    by_cases k4:k=4
    ·subst k4;rw [if_pos rfl] at e1;simp only [Prod.mk.injEq] at e1;obtain ⟨rfl,rfl⟩:=e1;go_enter Tryz.func67,Tryz.ntmps67;go_wp2_with (fail);clear hV;refine (add_d V n₀ b v s a x H.o).mono ?_;rintro e W1 ⟨rfl,m1,t1⟩;have D1:=gh (Does.same m1 (KV.o.then t1));clear m1 t1;go_wp2;go_ret;exact ⟨rfl,D1.o⟩
    ·rw [if_neg k4] at e1;have g4:(k == 4)=false:=by simp [k4]
     by_cases k5:k=5
     ·subst k5;rw [if_pos rfl] at e1;simp only [Prod.mk.injEq] at e1;obtain ⟨rfl,rfl⟩:=e1;have HM:=gh (make_d V n₀ b v s wa ws wc H.o HN.o HR.o (by rw [HW.o];exact hl) (fun _=>HA.o));rw [HW.o] at HM;go_enter Tryz.func67,Tryz.ntmps67;go_wp2_with (fail);clear hV;refine HM.o.mono ?_;rintro e W1 ⟨rfl,d1⟩;have D1:Hid (Does 126 layD n₀ b v (s.make ws) W W1):=gh (by
       obtain ⟨v',m',t',f'⟩:=d1;exact ⟨v',m',KV.o.then t',fun j hj=>(f' j hj).imp id (fun e=>Nat.le_trans KV.o.size e)⟩)
      clear d1;go_wp2;go_ret;exact ⟨rfl,D1.o⟩
     ·rw [if_neg k5] at e1;simp only [Prod.mk.injEq] at e1;obtain ⟨rfl,rfl⟩:=e1;have g5:(k == 5)=false:=by simp [k5]
      have D1:=gh (Does.same H.o (KV.o.mono (fun _ _ e=>e.elim):Td (Foot b v) W V));go_enter Tryz.func67,Tryz.ntmps67;go_wp2;go_ret;exact ⟨rfl,D1.o⟩
end
section
open Go.Shelf
variable {X:Nat->Prop} {lo:Nat}
attribute [local go_sem] Oper.semAt_some
def Fp.make (k key val b:Int):Fp:=⟨k,key,val,b,[],false,Rs.none,[],0,0⟩
theorem wpListIn_append_int {F:Fence} {nF:Nat} {w:World} {ops:Array Oper} {rest:List Oper} {o:Oper} {a:Act} {Q:Exit->Act->World->Prop} (hgd:o.guard=none) (s x:Operand) (ho:o.op=.call { callee:=.builtin .append,args:=#[s,x],argTypes:=#[56,56] })
  (base:Nat) (v:Value) (xs ys:List Int) (hs:a.eval s=v) (hown:Row w base 2 v xs) (m:Nat) (p:Int) (hx:a.eval x=.slice (some ⟨m,0,none⟩) 1 1) (hc:w.heap[m]? = some (.cells #[.int .i64 p] 2))
  (hl:xs.length<=1000000) (hbase:base<=w.heap.size) (hy:ys=xs++[p])
  (h:∀ v' w',Row w' base 2 v' ys->w.grownBy w' v.ownBlock->(v'.ownBlock=v.ownBlock∨v'.ownBlock=some w.heap.size)->wpListIn F nF Tryz.prog ops Q rest (a.put o.dst v') w'):wpListIn F nF Tryz.prog ops Q (o :: rest) a w:=by
 obtain ⟨i0,hi,hz0,hz1,hz2⟩:=info_parts info2_p;refine wpListIn_append_own_at w hgd s x 56 ho base 2 i0 _ 1 8 Tryz.underlying56 hi hz0 hz1 hz2 rfl (by decide) v xs.length (cellsOf xs) hs hown ⟨m,0,none⟩ 1 1 (cellsOf [p]) hx rfl ?_ (ints_oneCell _ _) (by unfold maxLen;omega) (by omega) hbase ?_
 ·intro j u hu;rcases j with _ | j
  ·simp [cellsOf] at hu;subst hu;simp [World.cell?,hc,Addr.add]
  ·simp [cellsOf] at hu
 ·intro v' w' h1 h2 _ h4;refine h v' w' ?_ h2 h4;rw [hy];show World.ownsRow _ _ _ _ _ (xs++[p]).length (cellsOf (xs++[p]));rw [List.length_append,show cellsOf (xs++[p])=cellsOf xs++cellsOf [p] by simp [cellsOf]];exact h1
def Fp.step (p:Fp) (m:Mst):Fp × Mst:=
 if p.done=true then (p,m)
 else (({ p with tape:=p.tape++[(m.doA p.play.2.nx).1] }:Fp).settle,(m.doA p.play.2.nx).2)
theorem Mst.doA_i64 {m:Mst} (h:m.ok) (q:Ak):I64 (m.doA q).1:=by
 have i0:I64 0:=⟨by decide,by decide⟩;have i1:I64 1:=⟨by decide,by decide⟩;unfold doA
 split
 ·exact h.look _
 ·split
  ·exact i0
  ·split
   ·dsimp only;split
    ·exact i1
    ·exact i0
   ·split
    ·exact h.look _
    ·split
     ·dsimp only;unfold next
      split
      ·have:=h.2
       constructor <;> omega
      ·exact i0
     ·exact i0
theorem foot_apart {W:World} {n₀ mb:Nat} {mv:Value} {m:Mst} (hd:DMem W n₀ mb mv m) {x:Nat} {c:Array Value} {T:TypeId} (hx:W.heap[x]? = some (.cells c T)) (h1:T≠126) (h2:T≠2):¬ Foot mb mv x:=by
 rintro (rfl | e)
 ·have:=hd.box
  rw [hx] at this;simp at this;exact h1 this.2
 ·exact hd.row.apart hx (Ne.symm h2) x e rfl
theorem Row.typed {W:World} {n₀:Nat} {v:Value} {xs:List Int} (h:Row W n₀ 2 v xs):∀ g,v.ownBlock=some g->∃ c,W.heap[g]? = some (.cells c 2):=by
 intro g e;rcases h.2 with ⟨rfl,_⟩ | ⟨g',cap,cur,rfl,hg,hh,_⟩
 ·simp [Value.ownBlock] at e
 ·simp [Value.ownBlock] at e;subst e;exact ⟨_,hh⟩
theorem PRow.apartRow {W:World} {n₀ n₁:Nat} {v v':Value} {xs:List (Int × Int)} {ys:List Int} (h:PRow W n₀ 59 v xs) (h':Row W n₁ 2 v' ys):∀ g,v.ownBlock=some g->v'.ownBlock≠some g:=by
 intro g e e';obtain ⟨c,hc⟩:=h'.typed g e';exact h.apart hc (by decide) g e rfl
theorem FrIs.lstF {W W':World} {n₀ f mb:Nat} {p:Fp} {tp l:Sl} {mv:Value} {m:Mst} (h:FrIs W n₀ f p tp l) (hd:DMem W n₀ mb mv m) (t:Td (fun k=>k=f∨tp.v.ownBlock=some k∨Foot mb mv k) W W'):PRow W' n₀ 59 l.v p.L:=by
 refine h.lst.turned t (fun g e e'=>?_);rcases e' with e' | e' | e' | e'
 ·exact h.lst.apart h.box (by decide) g e e'
 ·exact h.lst.apartRow h.row g e e'
 ·exact h.lst.apart hd.box (by decide) g e e'
 ·exact h.lst.apartRow hd.row g e e'
set_option maxRecDepth 100000 in
set_option maxHeartbeats 2000000 in
theorem fstep_r (W:World) (n₀ f:Nat) (p:Fp) (tp l:Sl) (mb:Nat) (mv:Value) (m:Mst) (h:FrIs W n₀ f p tp l) (hd:DMem W n₀ mb mv m) (hok:m.ok) (hap:∀ g,tp.v.ownBlock=some g->mv.ownBlock≠some g) (hn:n₀<=W.heap.size) (hlen:p.tape.length<=15990) :
  Calls Tryz.prog 18 #[.pointer (some ⟨f,0,none⟩),.pointer (some ⟨mb,0,none⟩)] W fun e W'=>e=.returned (.bool (p.step m).1.done)/\∃ tp' l' mv',FrIs W' n₀ f (p.step m).1 tp' l'/\DMem W' n₀ mb mv' (p.step m).2/\(∀ g,tp'.v.ownBlock=some g->mv'.ownBlock≠some g)/\Td (fun k=>k=f∨tp.v.ownBlock=some k∨Foot mb mv k) W W'/\(∀ k,tp'.v.ownBlock=some k->tp.v.ownBlock=some k∨W.heap.size<=k)/\(∀ k,Foot mb mv' k->Foot mb mv k∨W.heap.size<=k):=by
 have H:=gh h;have HD:=gh hd;have HAP:=gh hap;have HN:=gh hn;have HLEN:=gh hlen;have HOK:=gh hok;have c23:W.cell? ⟨f,23,none⟩=some (.bool p.done):=by
  have hb:=h.box;simp [World.cell?,hb,Fm.cs,Fp.fm]
 cases hdn:p.done with
 | true=>
  rw [hdn] at c23;have es:Hid (p.step m=(p,m)):=gh (by unfold Fp.step;rw [if_pos hdn]);clear h hd hap hn hlen hok;go_enter Tryz.func18,Tryz.ntmps18;go_wp2;go_ret;rw [es.o];exact ⟨by rw [hdn];rfl,tp,l,mv,H.o,HD.o,HAP.o,Td.refl _ _,fun _ e=>.inl e,fun _ e=>.inl e⟩
 | false=>
  rw [hdn] at c23;obtain ⟨x,L,sE,hp⟩:∃ x L sE,p.play=((x,L),sE):=⟨_,_,_,rfl⟩;obtain ⟨z,m',hz⟩:∃ z m',m.doA sE.nx=(z,m'):=⟨_,_,rfl⟩;have es:Hid (p.step m=(({ p with tape:=p.tape++[z] }:Fp).settle,m')):=gh (by
   unfold Fp.step;rw [if_neg (by rw [hdn];decide),hp];dsimp only;rw [hz])
  have IZ:Hid (I64 z):=gh (by have:=Mst.doA_i64 hok sE.nx;rw [hz] at this;exact this);obtain ⟨hr,hn',hc,hb⟩:=h.tape;have CT:=play_r W f (p.fm l) tp p.tape h.box (h.good.fm l) hr hn' hc (by omega) (fun a e=>(hb a e).1) h.i64 x L sE (by rw [Fp.play_fm];exact hp);have HCT:=gh CT;have HZ:=gh hz;have HB:=gh hb;have HTN:=gh hn';clear h hd hap hn hlen hok hr hn' hc hb CT hp hz hdn;go_enter Tryz.func18,Tryz.ntmps18;go_wp2_with (fail);refine HCT.o.mono ?_;rintro e W1 ⟨r,l1,rfl,PL⟩;have HPL:=gh PL;have fW1:=gh (PL.kept.heap H.o.box id);obtain ⟨W3,hW3⟩:∃ W3,(W1.alloc (.cells #[.int .i64 0,.bool false,.int .i64 0,.int .i64 0,.int .i64 0,.slice none 0 0,.slice none 0 0,.int .i64 0,.bool false,.int .i64 0,.int .i64 0,.int .i64 0,.slice none 0 0] 63)).setRow W1.heap.size (Ou.cs { Ou.none with rs:=x,l:=l1 })=W3:=⟨_,rfl⟩;have k3:Kept W1 W3:=by
   rw [<- hW3];exact (Kept.then (Td.alloc (fun _=>False) W1 _) (turned_setRow _ _ _)).mono (fun k hk e=>by omega)
  have HW3:=gh hW3;obtain ⟨V,hV⟩:∃ V,W3.drew=V:=⟨_,rfl⟩;have kV:Kept W3 V:=by rw [<- hV];exact Kept.drew _
  have KWV:Hid (Kept W V):=gh ((PL.kept.trans k3).trans kV);obtain ⟨ta,tc,wa,wc,RI⟩:=PL.run.kept (k3.trans kV);have DV:=gh (HD.o.kept KWV.o);have fV:=gh (KWV.o.heap H.o.box id);have nfm:Hid (¬ Foot mb mv f):=gh (foot_apart DV.o fV.o (by decide) (by decide));have nft:Hid (tp.v.ownBlock≠some f):=gh (fun e=>(H.o.row.apart H.o.box (by decide) f e) rfl);have rnew:W.heap.size<=r:=PL.new;have nr:Hid (¬ (Foot mb mv r∨tp.v.ownBlock=some r)):=gh (by
   rintro (e | e)
   ·have:=(HD.o.lt r e).2;omega
   ·have:=(H.o.row.lt r e).2;omega)
  obtain ⟨n3,n4,n5,n6,n7⟩:=RI.nexts;obtain ⟨q,hq⟩:∃ q,sE.nx=q:=⟨_,rfl⟩;rw [hq] at n3 n4 n5 n6 n7;obtain ⟨qn,hqn⟩:∃ qn,q.w.length=qn:=⟨_,rfl⟩;rw [hqn] at n7;have NX:Hid (Reads V wa q.w/\qn<=maxLen/\∀ ad,wa=some ad->ad.block≠mb):=gh (by
   have h1:=RI.next;rw [hq] at h1;refine ⟨h1.reads,by rw [<- hqn];exact h1.short,fun ad e he=>?_⟩;rcases (h1.ne ad e).1.1 with ⟨a',ea,eb⟩ | hk
   ·have:=HD.o.box
    rw [<- he,eb] at this;exact (H.o.row.apart this (by decide) a'.block (by unfold Sl.v;rw [ea];simp [Value.ownBlock])) rfl
   ·have:=(HD.o.lt mb (.inl rfl)).2
    omega)
  have HQ:=gh hq;have HQN:=gh hqn;obtain ⟨q1,q2,q3,q4,q5⟩:=q;dsimp only at n3 n4 n5 n6 n7;have c22:V.cell? ⟨f,22,none⟩=some (.slice tp.a tp.n tp.c):=by
   have hb:=fV.o;simp [World.cell?,hb,Fm.cs,Fp.fm]
  have x0:∀ u:Wd (fun U=>Td (fun k=>Foot mb mv k∨tp.v.ownBlock=some k) V U),u.w.cell? ⟨f,22,none⟩=some (.slice tp.a tp.n tp.c):=fun u=>u.ok.cell c22 (fun e=>e.elim nfm.o nft.o);have x3:∀ u:Wd (fun U=>Td (fun k=>Foot mb mv k∨tp.v.ownBlock=some k) V U),u.w.cell? ⟨r,3,none⟩=some (.int .i64 q1):=fun u=>u.ok.cell n3 nr.o;have x4:∀ u:Wd (fun U=>Td (fun k=>Foot mb mv k∨tp.v.ownBlock=some k) V U),u.w.cell? ⟨r,4,none⟩=some (.int .i64 q2):=fun u=>u.ok.cell n4 nr.o;have x5:∀ u:Wd (fun U=>Td (fun k=>Foot mb mv k∨tp.v.ownBlock=some k) V U),u.w.cell? ⟨r,5,none⟩=some (.int .i64 q3):=fun u=>u.ok.cell n5 nr.o;have x6:∀ u:Wd (fun U=>Td (fun k=>Foot mb mv k∨tp.v.ownBlock=some k) V U),u.w.cell? ⟨r,6,none⟩=some (.int .i64 q4):=fun u=>u.ok.cell n6 nr.o;have x7:∀ u:Wd (fun U=>Td (fun k=>Foot mb mv k∨tp.v.ownBlock=some k) V U),u.w.cell? ⟨r,7,none⟩=some (.slice wa qn wc):=fun u=>u.ok.cell n7 nr.o;have HV:=gh hV;clear PL hW3 k3 kV hV RI rnew n3 n4 n5 n6 n7 hq hqn c22 HCT c23;go_wp2_with (with_reducible refine at_store63 ?_);refine ⟨?_⟩;refine wpList_store_row rfl 63 _ _ rfl W1.heap.size _ rfl rfl 63 _ (heap_new _ _) info63 rfl (by simp [Ou.cs,Value.oneCell']) ?_;rw [HW3.o];dsimp only [Act.put];go_wp2_with (fail);refine region_last [0,1,2,3,4,5,6,7,8,9,10,11,12,13,14] 15 (fun U=>Td (fun k=>Foot mb mv k∨tp.v.ownBlock=some k) V U) (by kernel_rfl) (by kernel_rfl) (by rw [HV.o];exact Td.refl _ _) (fun _=>?_);rw [HV.o]
  repeat (refine lq rfl rfl ?_;go_big_quiet_step (fail);refine wpQuiet_nil ?_)
  refine ll rfl rfl ?_;gi_wp2_with (fail);refine ⟨trivial,?_⟩;refine (callsIn_wide.2 (do_d V n₀ mb mv m ⟨q1,q2,q3,q4,q5⟩ wa qn wc DV.o (Nat.le_trans HN.o KWV.o.size) HQN.o NX.o.1 NX.o.2.1 NX.o.2.2 z m' (by rw [<- HQ.o];exact HZ.o))).mono ?_;rintro e U ⟨rfl,mv',hm',ht',hf'⟩;have HM:=gh hm';have HTT:=gh ht';have HFF:=gh hf';have TU:Hid (Td (fun k=>Foot mb mv k∨tp.v.ownBlock=some k) V U):=gh (ht'.mono (fun _ _ e=>.inl e));clear hm' ht' hf';gi_wp2_with (fail);refine ⟨Wd.mem TU.o,?_⟩;refine ll rfl rfl ?_;gi_wp2;refine ⟨Wd.mem (Kept.behind TU.o (Td.alloc _ _ _)),?_⟩;refine ll rfl rfl ?_;gi_wp2_with (gi_at_builtin;refine Stop.out ?_);refine ⟨?_⟩;have RU:Hid (Row (U.alloc (.cells #[.int .i64 z] 2)) n₀ 2 tp.v p.tape):=gh (((H.o.row.kept KWV.o).turnedO HTT.o (fun g e e'=>by
   rcases e' with e' | e'
   ·have h1:=(DV.o.box);rw [<- e'] at h1;exact (H.o.row.kept KWV.o).apart h1 (by decide) g e rfl
   ·exact HAP.o g e e')).kept (Td.alloc _ _ _))
  refine wpListIn_append_int rfl _ _ rfl n₀ tp.v p.tape (p.tape++[z]) rfl RU.o U.heap.size z rfl (heap_new _ _) (by have:=HLEN.o;omega) (by have:=HN.o;have:=KWV.o.size;have:=TU.o.size;simp;omega) rfl ?_;intro v9 A1 hown hgrow hat;have TA:Hid (Td (fun k=>Foot mb mv k∨tp.v.ownBlock=some k) V A1):=gh ((Kept.behind TU.o (Td.alloc _ _ _)).trans (Td.of_grownBy (R:=fun k=>tp.v.ownBlock=some k) hgrow (fun _ h=>h)) (fun _ e=>e) (fun _ _ e=>.inr e));have fA:=TA.o.heap fV.o (fun e=>e.elim nfm.o nft.o);have sUV:V.heap.size<=U.heap.size:=TU.o.size;have mA:DMem A1 n₀ mb mv' m':=by
   refine (HM.o.kept (Td.alloc (fun _=>False) U _)).turned (Td.of_grownBy (R:=fun k=>tp.v.ownBlock=some k) hgrow (fun _ h=>h)) (fun k hk e=>?_);have hkW:=(H.o.row.lt k e).2;have hWV:=KWV.o.size;rcases HFF.o k hk with h1 | h1
   ·rcases h1 with h1 | h1
    ·have hbx:=DV.o.box;rw [<- h1] at hbx;exact (H.o.row.kept KWV.o).apart hbx (by decide) k e rfl
    ·exact HAP.o k e h1
   ·omega
  have apA:∀ g,v9.ownBlock=some g->mv'.ownBlock≠some g:=by
   intro g e e';have hg:=(HM.o.row.lt g e').2;rcases hat with h1 | h1
   ·rw [h1] at e;have hkW:=(H.o.row.lt g e).2;have hWV:=KWV.o.size;rcases HFF.o g (.inr e') with h2 | h2
    ·rcases h2 with h2 | h2
     ·have hbx:=DV.o.box;rw [<- h2] at hbx;exact (H.o.row.kept KWV.o).apart hbx (by decide) g e rfl
     ·exact HAP.o g e h2
    ·omega
   ·rw [h1] at e;simp at e;omega
  have new9:∀ k,v9.ownBlock=some k->tp.v.ownBlock=some k∨W.heap.size<=k:=by
   intro k e;rcases hat with h1 | h1
   ·exact .inl (by rw [<- h1];exact e)
   ·rw [h1] at e;simp at e
    have:=KWV.o.size
    exact .inr (by omega)
  obtain ⟨ta9,tc9,hv9,_⟩:=hown.form;obtain ⟨N9,hN9⟩:∃ N,(p.tape++[z]).length=N:=⟨_,rfl⟩;rw [hN9] at hv9;subst hv9;have cA:A1.cell? ⟨f,22,none⟩=some (.slice tp.a tp.n tp.c):=by simp [World.cell?,fA,Fm.cs,Fp.fm]
  have gA:A1.frozen? ⟨f,22,none⟩=false:=by simp [World.frozen?,fA]
  obtain ⟨A2,hA2⟩:∃ A2,A1.setCell ⟨f,22,none⟩ (.slice ta9 N9 tc9)=A2:=⟨_,rfl⟩;have t2:Td (fun k=>k=f) A1 A2:=by rw [<- hA2];exact Td.setCell (R:=fun k=>k=f) _ _ _ rfl
  have f2:A2.heap[f]? = some (.cells ((({ p with tape:=p.tape++[z] }:Fp).fm l).cs ⟨ta9,N9,tc9⟩) 65):=by
   rw [<- hA2];simp [World.setCell,Array.getElem?_modify,fA,Fm.cs,Fp.fm]
  have TW:Hid (Td (fun k=>k=f∨tp.v.ownBlock=some k∨Foot mb mv k) W A2):=gh ((KWV.o.then TA.o).trans t2 (fun _ e=>e.elim (fun e=>.inr (.inr e)) (fun e=>.inr (.inl e))) (fun _ _ e=>.inl e));have FR:Hid (FrIs A2 n₀ f { p with tape:=p.tape++[z] } ⟨ta9,N9,tc9⟩ l):=gh ⟨H.o.le,f2,hown.turnedO t2 (fun g e=>hown.apart fA (by decide) g e),H.o.lstF HD.o TW.o,⟨H.o.good.kind,H.o.good.bud,H.o.good.key,H.o.good.val⟩,fun y hy=>(List.mem_append.1 hy).elim (H.o.i64 y) (fun h=>by rw [List.mem_singleton.1 h];exact IZ.o)⟩;have DM:Hid (DMem A2 n₀ mb mv' m'):=gh (mA.turned t2 (fun k hk e=>foot_apart mA fA (by decide) (by decide) (e ▸ hk)));have APA:=gh apA;have NEW:=gh new9;have HFW:Hid (∀ k,Foot mb mv' k->Foot mb mv k∨W.heap.size<=k):=gh (fun k hk=>(HFF.o k hk).imp id (fun h=>Nat.le_trans KWV.o.size h));have HA2:=gh hA2;have SZ:Hid (n₀<=A2.heap.size):=gh (Nat.le_trans HN.o TW.o.size);clear hown hgrow hat fA mA apA new9 t2 f2 hA2 sUV;gi_wp2;refine ⟨Wd.mem TA.o,?_⟩;simp only [Act.put,List.setIfInBounds_toArray,List.set_cons_succ,List.set_cons_zero]
  repeat (refine lq rfl rfl ?_;go_big_quiet_step (fail);refine wpQuiet_nil ?_)
  refine lz rfl ?_;gi_wp2;refine last_done ?_;clear x0 x3 x4 x5 x6 x7;go_wp2_with (fail);rw [HA2.o];refine (settle_r A2 n₀ f { p with tape:=p.tape++[z] } ⟨ta9,N9,tc9⟩ l FR.o SZ.o (by show (p.tape++[z]).length<=16000;have:=HLEN.o;simp;omega)).mono ?_;rintro e W9 ⟨rfl,⟨l',F9⟩,T9⟩;have HF9:=gh F9;have HT9:=gh T9;have d23:W9.cell? ⟨f,23,none⟩=some (.bool (({ p with tape:=p.tape++[z] }:Fp).settle).done):=by
   have hb:=F9.box;simp [World.cell?,hb,Fm.cs,Fp.fm]
  obtain ⟨ps,hps⟩:∃ ps,({ p with tape:=p.tape++[z] }:Fp).settle=ps:=⟨_,rfl⟩;rw [hps] at d23;have HPS:=gh hps;clear F9 T9 cA gA hps;go_wp2;go_ret;rw [es.o,HPS.o];refine ⟨rfl,⟨ta9,N9,tc9⟩,l',mv',by rw [<- HPS.o];exact HF9.o,DM.o.turned HT9.o (fun k hk e=>foot_apart DM.o FR.o.box (by decide) (by decide) (e ▸ hk)),APA.o,TW.o.trans HT9.o (fun _ e=>e) (fun _ _ e=>.inl e),NEW.o,HFW.o⟩
end
section
open Go.Shelf
variable {X:Nat->Prop} {lo:Nat}
set_option maxRecDepth 100000 in
set_option maxHeartbeats 2000000 in
theorem fnew_r (W:World) (k key val b:Int) (hg:(Fp.make k key val b).good) (pz:Int) (hz:(if k<=3 then (24:Int) else 25)=pz) :
  Calls Tryz.prog 13 #[.int .i64 pz,.agg #[.int .i64 0,.int .i64 b,.int .i64 0,.int .i64 0,.int .i64 0,.int .i64 0,.int .i64 0,.bool false,.int .i64 0,.bool false,.slice none 0 0,.slice none 0 0,.slice none 0 0,.slice none 0 0,.slice none 0 0,.int .i64 0,.int .i64 0,.int .i64 0,.int .i64 k,.int .i64 key,.int .i64 val]] W fun e W'=>∃ f l,e=.returned (.pointer (some ⟨f,0,none⟩))/\FrIs W' W.heap.size f (Fp.make k key val b).settle Sl.nil l/\Kept W W':=by
 obtain ⟨V,hV⟩:∃ V,(W.alloc (.cells #[.int .i64 0,.int .i64 b,.int .i64 0,.int .i64 0,.int .i64 0,.int .i64 0,.int .i64 0,.bool false,.int .i64 0,.bool false,.slice none 0 0,.slice none 0 0,.slice none 0 0,.slice none 0 0,.slice none 0 0,.int .i64 0,.int .i64 0,.int .i64 0,.int .i64 k,.int .i64 key,.int .i64 val] 54)).alloc (.cells (((Fp.make k key val b).fm Sl.nil).cs Sl.nil) 65)=V:=⟨_,rfl⟩;have kV:Kept W V:=by rw [<- hV];exact (Kept.alloc (Kept.refl W) _).alloc _
 have b1:V.heap[W.heap.size+1]? = some (.cells (((Fp.make k key val b).fm Sl.nil).cs Sl.nil) 65):=by rw [<- hV];exact heap_alloc2_new _ _ _
 have F0:FrIs V W.heap.size (W.heap.size+1) (Fp.make k key val b) Sl.nil Sl.nil:=by
  refine ⟨by omega,b1,?_,?_,hg,fun z hz=>by cases hz⟩
  ·exact ⟨rfl,.inl ⟨rfl,rfl⟩⟩
  ·exact PRow.nil _ _ _
 have CT:=settle_r V W.heap.size (W.heap.size+1) (Fp.make k key val b) Sl.nil Sl.nil F0 kV.size (by simp [Fp.make]);have HCT:=gh CT;have KV:=gh kV;have HV:=gh hV;have HZ:=gh hz;clear kV b1 F0 CT hV hz;go_enter Tryz.func13,Tryz.ntmps13;go_wp2_with (with_reducible refine at_load54 ?_);refine ⟨?_⟩;refine wpList_load_row rfl 54 _ rfl W.heap.size rfl 54 _ _ _ (heap_new _ _) Tryz.underlying54 rfl info54 ?_;go_wp2_with (fail);have e0:(W.alloc (.cells #[.int .i64 0,.int .i64 b,.int .i64 0,.int .i64 0,.int .i64 0,.int .i64 0,.int .i64 0,.bool false,.int .i64 0,.bool false,.slice none 0 0,.slice none 0 0,.slice none 0 0,.slice none 0 0,.slice none 0 0,.int .i64 0,.int .i64 0,.int .i64 0,.int .i64 k,.int .i64 key,.int .i64 val] 54)).alloc (.cells #[.int .i64 pz,.int .i64 0,.int .i64 b,.int .i64 0,.int .i64 0,.int .i64 0,.int .i64 0,.int .i64 0,.bool false,.int .i64 0,.bool false,.slice none 0 0,.slice none 0 0,.slice none 0 0,.slice none 0 0,.slice none 0 0,.int .i64 0,.int .i64 0,.int .i64 0,.int .i64 k,.int .i64 key,.int .i64 val,.slice none 0 0,.bool false,.int .i64 0,.bool false,.int .i64 0,.int .i64 0,.int .i64 0,.slice none 0 0,.slice none 0 0,.int .i64 0,.bool false,.int .i64 0,.int .i64 0,.int .i64 0,.slice none 0 0,.int .i64 0,.int .i64 0] 65)=V:=by
  rw [<- HV.o,<- HZ.o];rfl
 rw [e0];clear e0;refine HCT.o.mono ?_;rintro e U ⟨rfl,⟨l,F⟩,T⟩;have HF:=gh F;have HT:=gh T;clear F T HCT;go_wp2;go_ret;exact ⟨_,l,rfl,HF.o,(KV.o.then HT.o).mono (fun k hk e=>by omega)⟩
end
section
open Go.Shelf
variable {X:Nat->Prop} {lo:Nat}
attribute [local go_sem] Oper.semAt_some
structure Tp where
 bud:Int
 busy:Bool
 k:Int
 key:Int
 val:Int
 fr:Option Fp
 steps:Int
 took:Bool
 no:Int
def Tp.cs (q:Tp) (fa:Option Nat):Array Value:=#[.int .i64 q.bud,.bool q.busy,.int .i64 q.k,.int .i64 q.key,.int .i64 q.val,.pointer (fa.map fun f=>⟨f,0,none⟩),.int .i64 q.steps,.bool q.took,.int .i64 q.no]
def FrO (W:World) (n₀:Nat) (fa:Option Nat) (fr:Option Fp) (tp l:Sl):Prop:=
 (fa=none/\fr=none/\tp=Sl.nil)∨∃ f p,fa=some f/\fr=some p/\FrIs W n₀ f p tp l
structure ThIs (W:World) (n₀ t:Nat) (q:Tp) (fa:Option Nat) (tp l:Sl):Prop where
 le:n₀<=t
 box:W.heap[t]? = some (.cells (q.cs fa) 102)
 fr:FrO W n₀ fa q.fr tp l
theorem ThIs.cells {W:World} {n₀ t:Nat} {q:Tp} {fa:Option Nat} {tp l:Sl} (h:ThIs W n₀ t q fa tp l) :
  (W.cell? ⟨t,0,none⟩=some (.int .i64 q.bud)/\W.cell? ⟨t,1,none⟩=some (.bool q.busy)/\W.cell? ⟨t,2,none⟩=some (.int .i64 q.k)/\W.cell? ⟨t,3,none⟩=some (.int .i64 q.key)/\W.cell? ⟨t,4,none⟩=some (.int .i64 q.val)/\W.cell? ⟨t,5,none⟩=some (.pointer (fa.map fun f=>⟨f,0,none⟩))/\W.cell? ⟨t,6,none⟩=some (.int .i64 q.steps)/\W.cell? ⟨t,7,none⟩=some (.bool q.took)/\W.cell? ⟨t,8,none⟩=some (.int .i64 q.no))/\∀ i,W.frozen? ⟨t,i,none⟩=false:=by
 have hb:=h.box;simp [World.cell?,World.frozen?,hb,Tp.cs]
def Tp.begin (q:Tp) (k key val:Int):Tp:=⟨q.bud,true,k,key,val,some (Fp.make k key val q.bud).settle,0,false,q.no⟩
set_option maxRecDepth 100000 in
set_option maxHeartbeats 2000000 in
theorem tbegin_busy (W:World) (n₀ t:Nat) (q:Tp) (fa:Option Nat) (tp l:Sl) (k key val:Int) (h:ThIs W n₀ t q fa tp l) (hb:q.busy=true) :
  Calls Tryz.prog 99 #[.pointer (some ⟨t,0,none⟩),.agg #[.int .i64 k,.int .i64 key,.int .i64 val]] W fun e W'=>e=.returned (.int .i64 4)/\Kept W W':=by
 have c1:∀ o,(W.alloc o).cell? ⟨t,1,none⟩=some (.bool true):=fun o=>by
  have:=h.cells.1.2.1
  rw [hb] at this;exact (Kept.alloc (Kept.refl W) o).cell this id
 clear h;go_enter Tryz.func99,Tryz.ntmps99;go_wp2;go_ret;exact ⟨rfl,Td.alloc _ _ _⟩
set_option maxRecDepth 100000 in
set_option maxHeartbeats 2000000 in
theorem tbegin_r (W:World) (n₀ t:Nat) (q:Tp) (fa:Option Nat) (tp l:Sl) (k key val:Int) (h:ThIs W n₀ t q fa tp l) (hb:q.busy=false) (hn:n₀<=W.heap.size) (hg:(Fp.make k key val q.bud).good) :
  Calls Tryz.prog 99 #[.pointer (some ⟨t,0,none⟩),.agg #[.int .i64 k,.int .i64 key,.int .i64 val]] W fun e W'=>e=.returned (.int .i64 0)/\∃ f' l',ThIs W' n₀ t (q.begin k key val) (some f') Sl.nil l'/\Td (fun k=>k=t) W W'/\W.heap.size<=f':=by
 obtain ⟨V,hV⟩:∃ V,W.alloc (.cells #[.int .i64 k,.int .i64 key,.int .i64 val] 52)=V:=⟨_,rfl⟩;obtain ⟨mo,hmo⟩:∃ m,W.heap.size=m:=⟨_,rfl⟩;have kV:Kept W V:=by rw [<- hV];exact Td.alloc _ _ _
 have bo:V.heap[mo]? = some (.cells #[.int .i64 k,.int .i64 key,.int .i64 val] 52):=by rw [<- hV,<- hmo];exact heap_new _ _
 have bt:V.heap[t]? = some (.cells (q.cs fa) 102):=kV.heap h.box id;have htl:t < mo:=by rw [<- hmo];exact (Array.getElem?_eq_some_iff.1 h.box).1
 have o0:V.cell? ⟨mo,0,none⟩=some (.int .i64 k):=by simp [World.cell?,bo]
 have o1:V.cell? ⟨mo,1,none⟩=some (.int .i64 key):=by simp [World.cell?,bo]
 have o2:V.cell? ⟨mo,2,none⟩=some (.int .i64 val):=by simp [World.cell?,bo]
 have hV0:ThIs V n₀ t q fa tp l->True:=fun _=>trivial;obtain ⟨⟨c0,c1,c2,c3,c4,c5,c6,c7,c8⟩,cf⟩:(V.cell? ⟨t,0,none⟩=some (.int .i64 q.bud)/\V.cell? ⟨t,1,none⟩=some (.bool q.busy)/\V.cell? ⟨t,2,none⟩=some (.int .i64 q.k)/\V.cell? ⟨t,3,none⟩=some (.int .i64 q.key)/\V.cell? ⟨t,4,none⟩=some (.int .i64 q.val)/\V.cell? ⟨t,5,none⟩=some (.pointer (fa.map fun f=>⟨f,0,none⟩))/\V.cell? ⟨t,6,none⟩=some (.int .i64 q.steps)/\V.cell? ⟨t,7,none⟩=some (.bool q.took)/\V.cell? ⟨t,8,none⟩=some (.int .i64 q.no))/\∀ i,V.frozen? ⟨t,i,none⟩=false:=by
  simp [World.cell?,World.frozen?,bt,Tp.cs]
 rw [hb] at c1;have f1:=cf 1;have f2:=cf 2;have f3:=cf 3;have f4:=cf 4;have f5:=cf 5;have f6:=cf 6;have f7:=cf 7;have hne:mo≠t:=by omega
 have hne':t≠mo:=by omega
 obtain ⟨A,hA⟩:∃ A,(((((V.setCell ⟨t,1,none⟩ (.bool true)).setCell ⟨t,2,none⟩ (.int .i64 k)).setCell ⟨t,3,none⟩ (.int .i64 key)).setCell ⟨t,4,none⟩ (.int .i64 val)).setCell ⟨t,6,none⟩ (.int .i64 0)).setCell ⟨t,7,none⟩ (.bool false)=A:=⟨_,rfl⟩;have tA:Td (fun k=>k=t) V A:=by
  rw [<- hA];exact ((putL_turned t [.bool true,.int .i64 k,.int .i64 key,.int .i64 val] V 1).trans (putL_turned t [.int .i64 0,.bool false] _ 6) (fun _ e=>e) (fun _ _ e=>e))
 have bA:A.heap[t]? = some (.cells #[.int .i64 q.bud,.bool true,.int .i64 k,.int .i64 key,.int .i64 val,.pointer (fa.map fun f=>⟨f,0,none⟩),.int .i64 0,.bool false,.int .i64 q.no] 102):=by
  rw [<- hA];simp [World.setCell,Array.getElem?_modify,bt,Tp.cs]
 have HA:=gh hA;have TA:=gh tA;have BA:=gh bA;have KV:=gh kV;have OA:=gh (tA.heap bo (fun e=>by omega));have H:=gh h;have HN:=gh hn;have HG:=gh hg;have HMO:=gh hmo;have hk:=hg.kind;have hbd:=hg.bud;have q1:decide (k < 1)=false:=by have:=hk.1;simp [Fp.make] at this ⊢;omega
 have q2:decide (10 < k)=false:=by have:=hk.2;simp [Fp.make] at this ⊢;omega
 have q3:decide (q.bud < 1)=false:=by have:=hbd.1;simp [Fp.make] at this ⊢;omega
 have q4:decide (64 < q.bud)=false:=by have:=hbd.2;simp [Fp.make] at this ⊢;omega
 obtain ⟨pz,hpz⟩:∃ pz,(if k<=3 then (24:Int) else 25)=pz:=⟨_,rfl⟩;have HPZ:=gh hpz;clear h hn hg hk hbd hA tA bA kV bo bt hV0 cf
 by_cases k3:3 < k
 ·rw [if_neg (by omega)] at hpz;subst hpz;obtain ⟨V9,hV9⟩:∃ V9,A.drew=V9:=⟨_,rfl⟩;have k9:Kept A V9:=by rw [<- hV9];exact Kept.drew _
  have x0:∀ u:Wd (fun U=>Td (fun _=>False) V9 U),u.w.cell? ⟨t,0,none⟩=some (.int .i64 q.bud):=fun u=>u.ok.cell (k9.cell (by simp [World.cell?,BA.o]) id) id;have x1:∀ u:Wd (fun U=>Td (fun _=>False) V9 U),u.w.cell? ⟨mo,0,none⟩=some (.int .i64 k):=fun u=>u.ok.cell (k9.cell (by simp [World.cell?,OA.o]) id) id;have x2:∀ u:Wd (fun U=>Td (fun _=>False) V9 U),u.w.cell? ⟨mo,1,none⟩=some (.int .i64 key):=fun u=>u.ok.cell (k9.cell (by simp [World.cell?,OA.o]) id) id;have x3:∀ u:Wd (fun U=>Td (fun _=>False) V9 U),u.w.cell? ⟨mo,2,none⟩=some (.int .i64 val):=fun u=>u.ok.cell (k9.cell (by simp [World.cell?,OA.o]) id) id;have HV9:=gh hV9;have K9:=gh k9;clear hV9 k9;go_enter Tryz.func99,Tryz.ntmps99;go_wp2_with (fail);rw [HA.o];refine region_last [0,1,2,3,4,5,6,7,8,9,10] 11 (fun U=>Td (fun _=>False) V9 U) (by kernel_rfl) (by kernel_rfl) (by rw [HV9.o];exact Td.refl _ _) (fun _=>?_);rw [HV9.o]
  repeat (refine lq rfl rfl ?_;go_big_quiet_step (fail);refine wpQuiet_nil ?_)
  refine ll rfl rfl ?_;gi_wp2_with (fail);refine ⟨trivial,?_⟩;refine (callsIn_wide.2 (fnew_r V9 k key val q.bud HG.o 25 HPZ.o)).mono ?_;rintro e U ⟨f,l',rfl,F,KU⟩;have HF:=gh F;have HKU:=gh KU;have bU:=gh (KU.heap (K9.o.heap BA.o id) id);have g5:U.cell? ⟨t,5,none⟩=some (.pointer (fa.map fun f=>⟨f,0,none⟩)):=by simp [World.cell?,bU.o]
  have g5f:U.frozen? ⟨t,5,none⟩=false:=by simp [World.frozen?,bU.o]
  clear F KU;gi_wp2_with (fail);refine ⟨Wd.mem HKU.o,?_⟩
  repeat (refine lq rfl rfl ?_;go_big_quiet_step (fail);refine wpQuiet_nil ?_)
  refine lz rfl ?_;gi_wp2;refine last_done ?_;clear x0 x1 x2 x3 g5 g5f;obtain ⟨B,hB⟩:∃ B,U.setCell ⟨t,5,none⟩ (.pointer (some ⟨f,0,none⟩))=B:=⟨_,rfl⟩;have tB:Td (fun k=>k=t) U B:=by rw [<- hB];exact Td.setCell (R:=fun k=>k=t) _ _ _ rfl
  have bB:B.heap[t]? = some (.cells ((q.begin k key val).cs (some f)) 102):=by
   rw [<- hB]
   have:=bU.o
   simp [World.setCell,Array.getElem?_modify,this,Tp.cs,Tp.begin]
  have HB:=gh hB;have HTB:=gh tB;have HBB:=gh bB;clear hB tB bB;go_wp2;go_ret;rw [HB.o];have hs:W.heap.size<=V9.heap.size:=Nat.le_trans KV.o.size (Nat.le_trans TA.o.size K9.o.size);have hsf:V9.heap.size<=f:=HF.o.le;have htn:=HN.o;have htt:t < W.heap.size:=by have:=HMO.o;omega
  refine ⟨rfl,f,l',⟨H.o.le,HBB.o,.inr ⟨f,_,rfl,rfl,?_⟩⟩,?_,by omega⟩
  ·have F:=HF.o;have nt:∀ k,k=t->k < V9.heap.size:=fun k e=>by omega
   refine ⟨by omega,HTB.o.heap F.box (fun e=>by omega),?_,?_,F.good,F.i64⟩
   ·have e:(Fp.make k key val q.bud).settle.tape=[]:=by unfold Fp.settle;split <;> rfl
    rw [e];exact ⟨rfl,.inl ⟨rfl,rfl⟩⟩
   ·exact PRow.low (F.lst.turned HTB.o (fun g e' he=>by have:=F.lst.from g e';omega)) (by omega)
  ·exact ((KV.o.then TA.o).trans ((K9.o.trans HKU.o).then HTB.o) (fun _ e=>e) (fun _ _ e=>e))
 ·rw [if_pos (by omega)] at hpz;have g3:decide (3 < k)=false:=by simp;omega
  subst hpz;obtain ⟨V9,hV9⟩:∃ V9,A.drew=V9:=⟨_,rfl⟩;have k9:Kept A V9:=by rw [<- hV9];exact Kept.drew _
  have x0:∀ u:Wd (fun U=>Td (fun _=>False) V9 U),u.w.cell? ⟨t,0,none⟩=some (.int .i64 q.bud):=fun u=>u.ok.cell (k9.cell (by simp [World.cell?,BA.o]) id) id;have x1:∀ u:Wd (fun U=>Td (fun _=>False) V9 U),u.w.cell? ⟨mo,0,none⟩=some (.int .i64 k):=fun u=>u.ok.cell (k9.cell (by simp [World.cell?,OA.o]) id) id;have x2:∀ u:Wd (fun U=>Td (fun _=>False) V9 U),u.w.cell? ⟨mo,1,none⟩=some (.int .i64 key):=fun u=>u.ok.cell (k9.cell (by simp [World.cell?,OA.o]) id) id;have x3:∀ u:Wd (fun U=>Td (fun _=>False) V9 U),u.w.cell? ⟨mo,2,none⟩=some (.int .i64 val):=fun u=>u.ok.cell (k9.cell (by simp [World.cell?,OA.o]) id) id;have HV9:=gh hV9;have K9:=gh k9;clear hV9 k9;go_enter Tryz.func99,Tryz.ntmps99;go_wp2_with (fail);rw [HA.o];refine region_last [0,1,2,3,4,5,6,7,8,9,10] 11 (fun U=>Td (fun _=>False) V9 U) (by kernel_rfl) (by kernel_rfl) (by rw [HV9.o];exact Td.refl _ _) (fun _=>?_);rw [HV9.o]
  repeat (refine lq rfl rfl ?_;go_big_quiet_step (fail);refine wpQuiet_nil ?_)
  refine ll rfl rfl ?_;gi_wp2_with (fail);refine ⟨trivial,?_⟩;refine (callsIn_wide.2 (fnew_r V9 k key val q.bud HG.o 24 HPZ.o)).mono ?_;rintro e U ⟨f,l',rfl,F,KU⟩;have HF:=gh F;have HKU:=gh KU;have bU:=gh (KU.heap (K9.o.heap BA.o id) id);have g5:U.cell? ⟨t,5,none⟩=some (.pointer (fa.map fun f=>⟨f,0,none⟩)):=by simp [World.cell?,bU.o]
  have g5f:U.frozen? ⟨t,5,none⟩=false:=by simp [World.frozen?,bU.o]
  clear F KU;gi_wp2_with (fail);refine ⟨Wd.mem HKU.o,?_⟩
  repeat (refine lq rfl rfl ?_;go_big_quiet_step (fail);refine wpQuiet_nil ?_)
  refine lz rfl ?_;gi_wp2;refine last_done ?_;clear x0 x1 x2 x3 g5 g5f;obtain ⟨B,hB⟩:∃ B,U.setCell ⟨t,5,none⟩ (.pointer (some ⟨f,0,none⟩))=B:=⟨_,rfl⟩;have tB:Td (fun k=>k=t) U B:=by rw [<- hB];exact Td.setCell (R:=fun k=>k=t) _ _ _ rfl
  have bB:B.heap[t]? = some (.cells ((q.begin k key val).cs (some f)) 102):=by
   rw [<- hB]
   have:=bU.o
   simp [World.setCell,Array.getElem?_modify,this,Tp.cs,Tp.begin]
  have HB:=gh hB;have HTB:=gh tB;have HBB:=gh bB;clear hB tB bB;go_wp2;go_ret;rw [HB.o];have hs:W.heap.size<=V9.heap.size:=Nat.le_trans KV.o.size (Nat.le_trans TA.o.size K9.o.size);have hsf:V9.heap.size<=f:=HF.o.le;have htn:=HN.o;have htt:t < W.heap.size:=by have:=HMO.o;omega
  refine ⟨rfl,f,l',⟨H.o.le,HBB.o,.inr ⟨f,_,rfl,rfl,?_⟩⟩,?_,by omega⟩
  ·have F:=HF.o;have nt:∀ k,k=t->k < V9.heap.size:=fun k e=>by omega
   refine ⟨by omega,HTB.o.heap F.box (fun e=>by omega),?_,?_,F.good,F.i64⟩
   ·have e:(Fp.make k key val q.bud).settle.tape=[]:=by unfold Fp.settle;split <;> rfl
    rw [e];exact ⟨rfl,.inl ⟨rfl,rfl⟩⟩
   ·exact PRow.low (F.lst.turned HTB.o (fun g e' he=>by have:=F.lst.from g e';omega)) (by omega)
  ·exact ((KV.o.then TA.o).trans ((K9.o.trans HKU.o).then HTB.o) (fun _ e=>e) (fun _ _ e=>e))
end
section
open Go.Shelf
variable {X:Nat->Prop} {lo:Nat}
def Tp.laid (q:Tp):Int:=if q.busy=true then (match q.fr with | some p=>p.ld | none=>0) else 0
theorem tlaid_r (W:World) (n₀ t:Nat) (q:Tp) (fa:Option Nat) (tp l:Sl) (h:ThIs W n₀ t q fa tp l) (hb:q.busy=true->∃ p,q.fr=some p) :
  Calls Tryz.prog 120 #[.pointer (some ⟨t,0,none⟩)] W fun e W'=>e=.returned (.int .i64 q.laid)/\W=W':=by
 obtain ⟨⟨_,c1,_,_,_,c5,_,_,_⟩,_⟩:=h.cells;cases hbb:q.busy with
 | false=>
  rw [hbb] at c1;have e:q.laid=0:=by unfold Tp.laid;rw [hbb];rfl
  rw [e];clear h hb hbb e;go_enter Tryz.func120,Tryz.ntmps120;go_wp2;go_ret;exact ⟨rfl,rfl⟩
 | true=>
  rw [hbb] at c1;obtain ⟨p,hp⟩:=hb hbb;rcases h.fr with ⟨_,h2,_⟩ | ⟨f,p',h1,h2,F⟩
  ·rw [hp] at h2;cases h2
  ·rw [hp] at h2;cases h2;have e:q.laid=p.ld:=by unfold Tp.laid;rw [hbb,hp];rfl
   rw [e];have c38:W.cell? ⟨f,38,none⟩=some (.int .i64 p.ld):=by
    have hx:=F.box;simp [World.cell?,hx,Fm.cs,Fp.fm]
   rw [h1] at c5;simp only [Option.map] at c5;clear h hb hbb e h1 hp F;go_enter Tryz.func120,Tryz.ntmps120;go_wp2;go_ret;exact ⟨rfl,rfl⟩
theorem FrIs.other {U U2:World} {n₀ f y:Nat} {p:Fp} {tp l:Sl} {c:Array Value} {T:TypeId} (h:FrIs U n₀ f p tp l) (hy:U.heap[y]? = some (.cells c T)) (e1:T≠65) (e2:T≠2) (e3:T≠59) (t:Td (fun k=>k=y) U U2):FrIs U2 n₀ f p tp l:=
 ⟨h.le,t.heap h.box (fun e=>by
  have:=h.box
  rw [e,hy] at this;simp at this;exact e1 this.2),h.row.turnedO t (fun g e e'=>(h.row.apart hy (Ne.symm e2) g e) e'),h.lst.turned t (fun g e e'=>(h.lst.apart hy (Ne.symm e3) g e) e'),h.good,h.i64⟩
theorem DMem.other {U U2:World} {n₀ mb y:Nat} {mv:Value} {m:Mst} {c:Array Value} {T:TypeId} (h:DMem U n₀ mb mv m) (hy:U.heap[y]? = some (.cells c T)) (e1:T≠126) (e2:T≠2) (t:Td (fun k=>k=y) U U2):DMem U2 n₀ mb mv m:=
 h.turned t (fun _ hk e=>foot_apart h hy e1 e2 (e ▸ hk))
def Tp.step (q:Tp) (p:Fp) (m:Mst):((Rs × List (Int × Int)) × Bool) × (Tp × Mst):=
 if (p.step m).1.done=true then ((((p.step m).1.rs,(p.step m).1.L),true),({ q with steps:=wrap64 (q.steps+1),busy:=false,fr:=some (p.step m).1 },(p.step m).2))
 else (((Rs.none,[]),false),({ q with steps:=wrap64 (q.steps+1),fr:=some (p.step m).1 },(p.step m).2))
structure Stept (W:World) (n₀ t f mb:Nat) (tp:Sl) (mv:Value) (q':Tp) (m':Mst) (tp':Sl) (W':World):Prop where
 th:∃ l',ThIs W' n₀ t q' (some f) tp' l'
 mem:∃ mv',DMem W' n₀ mb mv' m'/\(∀ g,tp'.v.ownBlock=some g->mv'.ownBlock≠some g)/\∀ k,Foot mb mv' k->Foot mb mv k∨W.heap.size<=k
 turned:Td (fun k=>k=t∨k=f∨tp.v.ownBlock=some k∨Foot mb mv k) W W'
 new:∀ k,tp'.v.ownBlock=some k->tp.v.ownBlock=some k∨W.heap.size<=k
set_option maxRecDepth 100000 in
set_option maxHeartbeats 2000000 in
theorem tstep_r (W:World) (n₀ t f:Nat) (q:Tp) (p:Fp) (tp l:Sl) (mb:Nat) (mv:Value) (m:Mst) (h:ThIs W n₀ t q (some f) tp l) (hb:q.busy=true) (hp:q.fr=some p) (hd:DMem W n₀ mb mv m) (hok:m.ok) (hap:∀ g,tp.v.ownBlock=some g->mv.ownBlock≠some g) (hn:n₀<=W.heap.size) (hlen:p.tape.length<=15990) (x:Rs) (L:List (Int × Int)) (b:Bool) (q':Tp) (m':Mst) (he:q.step p m=(((x,L),b),(q',m'))) :
  Calls Tryz.prog 100 #[.pointer (some ⟨t,0,none⟩),.pointer (some ⟨mb,0,none⟩)] W fun e W'=>∃ tp' l',e=.returned (.tuple #[.agg (x.cs l'),.bool b])/\PRow W' n₀ 59 l' L/\Stept W n₀ t f mb tp mv q' m' tp' W':=by
 obtain ⟨⟨c0,c1,c2,c3,c4,c5,c6,c7,c8⟩,cf⟩:=h.cells;obtain ⟨F,hF⟩:∃ F,F=FrIs W n₀ f p tp l:=⟨_,rfl⟩;have fr:FrIs W n₀ f p tp l:=by
  rcases h.fr with ⟨h1,_⟩ | ⟨f',p',h1,h2,F⟩
  ·cases h1
  ·cases h1;rw [hp] at h2;cases h2;exact F
 obtain ⟨mo,hmo⟩:∃ m,W.heap.size=m:=⟨_,rfl⟩;have htl:t < mo:=by rw [<- hmo];exact (Array.getElem?_eq_some_iff.1 h.box).1
 obtain ⟨A,hA⟩:∃ A,(W.setCell ⟨t,6,none⟩ (.int .i64 (wrap64 (q.steps+1)))).alloc (.cells #[.int .i64 0,.bool false,.int .i64 0,.int .i64 0,.int .i64 0,.slice none 0 0] 61)=A:=⟨_,rfl⟩;have k1:∀ o,Kept W (W.alloc o):=fun o=>Td.alloc _ _ _;have tA:Td (fun k=>k=t) W A:=by
  rw [<- hA];exact Kept.behind (Td.setCell (R:=fun k=>k=t) _ _ _ rfl) (Td.alloc _ _ _)
 have bA:A.heap[t]? = some (.cells (({ q with steps:=wrap64 (q.steps+1) }:Tp).cs (some f)) 102):=by
  rw [<- hA];refine (Td.alloc (fun _=>False) _ _).heap ?_ id
  have:=h.box
  simp [World.setCell,Array.getElem?_modify,this,Tp.cs]
 have rA:A.heap[mo]? = some (.cells #[.int .i64 0,.bool false,.int .i64 0,.int .i64 0,.int .i64 0,.slice none 0 0] 61):=by
  rw [<- hA,<- hmo]
  have:=heap_new (W.setCell ⟨t,6,none⟩ (.int .i64 (wrap64 (q.steps+1)))) (.cells #[.int .i64 0,.bool false,.int .i64 0,.int .i64 0,.int .i64 0,.slice none 0 0] 61)
  rwa [World.size_setCell] at this
 have nft:¬ Foot mb mv t:=foot_apart hd h.box (by decide) (by decide);have ntf:f≠t:=fun e=>by
  have:=fr.box
  rw [e,h.box] at this;simp at this
 have frA:FrIs A n₀ f p tp l:=⟨fr.le,tA.heap fr.box ntf,fr.row.turnedO tA (fun g e e'=>(fr.row.apart h.box (by decide) g e) e'),fr.lst.turned tA (fun g e e'=>(fr.lst.apart h.box (by decide) g e) e'),fr.good,fr.i64⟩;have dA:DMem A n₀ mb mv m:=hd.turned tA (fun k hk e=>nft (e ▸ hk));have CT:=fstep_r A n₀ f p tp l mb mv m frA dA hok hap (Nat.le_trans hn tA.size) hlen;have c1':∀ o,(W.alloc o).cell? ⟨t,1,none⟩=some (.bool true):=fun o=>by rw [hb] at c1;exact (k1 o).cell c1 id
 have c6':∀ o,(W.alloc o).cell? ⟨t,6,none⟩=some (.int .i64 q.steps):=fun o=>(k1 o).cell c6 id;have f6':∀ o,(W.alloc o).frozen? ⟨t,6,none⟩=false:=fun o=>by rw [(k1 o).frozen (by simp only;omega) id];exact cf 6
 have c5':∀ o,((W.setCell ⟨t,6,none⟩ (.int .i64 (wrap64 (q.steps+1)))).alloc o).cell? ⟨t,5,none⟩=some (.pointer (some ⟨f,0,none⟩)):=fun o=>by
  refine (Td.alloc (fun _=>False) _ _).cell ?_ id
  have:=h.box
  simp [World.cell?,World.setCell,Array.getElem?_modify,this,Tp.cs]
 have HA:=gh hA;have TA:=gh tA;have BA:=gh bA;have RA:=gh rA;have HCT:=gh CT;have H:=gh h;have HD:=gh hd;have HFR:=gh fr;have HMO:Hid (W.heap.size=mo/\t < mo):=gh ⟨hmo,htl⟩;have HE:=gh he;have HN:=gh hn;have NFT:=gh nft;have NTF:=gh ntf;clear h hd hok hap hlen he hn hF F hA tA bA rA nft ntf frA dA CT fr c0 c1 c2 c3 c4 c5 c6 c7 c8 cf k1;go_enter Tryz.func100,Tryz.ntmps100;go_wp2_with (fail);rw [HA.o];refine HCT.o.mono ?_;rintro e U ⟨rfl,tp',l',mv',F',D',ap',T',n1,n2⟩;have HT:=gh T';have HF:=gh F';have HD':=gh D';have HAP:=gh ap';have HN1:=gh n1;have HN2:=gh n2;have bU:=gh (T'.heap BA.o (fun e=>by
  rcases e with e | e | e
  ·exact NTF.o e.symm
  ·exact (HFR.o.row.apart H.o.box (by decide) t e) rfl
  ·exact NFT.o e))
 have rU:=gh (T'.heap RA.o (fun e=>by
  have:=HMO.o
  rcases e with e | e | e
  ·have:=(Array.getElem?_eq_some_iff.1 HFR.o.box).1;omega
  ·have:=(HFR.o.row.lt mo e).2;omega
  ·have:=(HD.o.lt mo e).2;omega))
 obtain ⟨d0,d1,d2,d3,d4,d5,df⟩:=cells6 rU.o;have f0:=df 0;have f1:=df 1;have f2:=df 2;have f3:=df 3;have f4:=df 4;have f5:=df 5;have g1:U.cell? ⟨t,1,none⟩=some (.bool true):=by simp [World.cell?,bU.o,Tp.cs,hb]
 have g5:U.cell? ⟨t,5,none⟩=some (.pointer (some ⟨f,0,none⟩)):=by simp [World.cell?,bU.o,Tp.cs]
 have g1f:U.frozen? ⟨t,1,none⟩=false:=by simp [World.frozen?,bU.o]
 obtain ⟨ps,hps⟩:∃ ps,p.step m=ps:=⟨_,rfl⟩;obtain ⟨p1,m1⟩:=ps;have HPS:=gh hps;have he:=HE.o;unfold Tp.step at he;rw [hps] at he;dsimp only at he;have HE1:=gh he;rw [hps] at HF HD';dsimp only at HF HD';have TW:Hid (Td (fun k=>k=t∨k=f∨tp.v.ownBlock=some k∨Foot mb mv k) W U):=gh (TA.o.trans T' (fun _ e=>.inl e) (fun _ _ e=>.inr e));have HNW:Hid ((∀ k,tp'.v.ownBlock=some k->tp.v.ownBlock=some k∨W.heap.size<=k)/\∀ k,Foot mb mv' k->Foot mb mv k∨W.heap.size<=k):=gh ⟨fun k e=>(n1 k e).imp id (fun h=>Nat.le_trans TA.o.size h),fun k e=>(n2 k e).imp id (fun h=>Nat.le_trans TA.o.size h)⟩;clear T' F' D' ap' n1 n2 df he HE;cases hdn:p1.done with
 | false=>
  have hz:=HE1.o;rw [if_neg (by rw [hdn];decide)] at hz;obtain ⟨hz1,hz2⟩:=Prod.mk.inj hz;obtain ⟨hz3,rfl⟩:=Prod.mk.inj hz1;obtain ⟨rfl,rfl⟩:=Prod.mk.inj hz3;obtain ⟨rfl,rfl⟩:=Prod.mk.inj hz2;have hpd:(p.step m).1.done=false:=by rw [HPS.o];exact hdn
  clear hz hz1 hz2 hz3 HE1 hps;go_wp2;refine bodyPost_ret (rcb rfl _ _ mo 61 _ _ _ rfl (put6 rU.o _ _ _ _ _ _).1 Tryz.underlying61 rfl info61) rfl ?_;obtain ⟨U2,hU2⟩:∃ U2,((((((U.setCell ⟨mo,0,none⟩ (.int .i64 0)).setCell ⟨mo,1,none⟩ (.bool false)).setCell ⟨mo,2,none⟩ (.int .i64 0)).setCell ⟨mo,3,none⟩ (.int .i64 0)).setCell ⟨mo,4,none⟩ (.int .i64 0)).setCell ⟨mo,5,none⟩ (.slice none 0 0))=U2:=⟨_,rfl⟩;have t2:Td (fun k=>k=mo) U U2:=by rw [<- hU2];exact (put6 rU.o _ _ _ _ _ _).2
  rw [hU2];have hmt:mo≠t:=fun e=>by have:=HMO.o;omega
  refine ⟨tp',.slice none 0 0,rfl,PRow.nil _ _ _,⟨l',H.o.le,t2.heap bU.o (fun e=>hmt e.symm),.inr ⟨f,_,rfl,rfl,HF.o.other rU.o (by decide) (by decide) (by decide) t2⟩⟩,⟨mv',DMem.other HD'.o rU.o (by decide) (by decide) t2,HAP.o,HNW.o.2⟩,?_,HNW.o.1⟩;exact TW.o.trans t2 (fun _ e=>e) (fun i hi e=>by have:=HMO.o;omega)
 | true=>
  have hz:=HE1.o;rw [if_pos hdn] at hz;obtain ⟨hz1,hz2⟩:=Prod.mk.inj hz;obtain ⟨hz3,rfl⟩:=Prod.mk.inj hz1;obtain ⟨rfl,rfl⟩:=Prod.mk.inj hz3;obtain ⟨rfl,rfl⟩:=Prod.mk.inj hz2;have hpd:(p.step m).1.done=true:=by rw [HPS.o];exact hdn
  have fx:=HF.o.box;obtain ⟨z0,hz0⟩:∃ z0,p1.rs=z0:=⟨_,rfl⟩;obtain ⟨r0,r1,r2,r3,r4⟩:=z0;have w31:U.cell? ⟨f,31,none⟩=some (.int .i64 r0)/\U.cell? ⟨f,32,none⟩=some (.bool r1)/\U.cell? ⟨f,33,none⟩=some (.int .i64 r2)/\U.cell? ⟨f,34,none⟩=some (.int .i64 r3)/\U.cell? ⟨f,35,none⟩=some (.int .i64 r4)/\U.cell? ⟨f,36,none⟩=some (.slice l'.a l'.n l'.c):=by
   simp [World.cell?,fx,Fm.cs,Fp.fm,hz0]
  obtain ⟨w31,w32,w33,w34,w35,w36⟩:=w31;have hft:f≠t:=NTF.o;have hmt:mo≠t:=fun e=>by have:=HMO.o;omega
  have hmf:mo≠f:=fun e=>by have:=(Array.getElem?_eq_some_iff.1 HFR.o.box).1;have:=HMO.o;omega
  clear hz hz1 hz2 hz3 HE1 hps fx;go_wp2;obtain ⟨U1,hU1⟩:∃ U1,U.setCell ⟨t,1,none⟩ (.bool false)=U1:=⟨_,rfl⟩;rw [hU1];have t1:Td (fun k=>k=t) U U1:=by rw [<- hU1];exact Td.setCell (R:=fun k=>k=t) _ _ _ rfl
  have r1U:=t1.heap rU.o hmt;have b1:U1.heap[t]? = some (.cells (({ bud:=q.bud,busy:=false,k:=q.k,key:=q.key,val:=q.val,fr:=some p1,steps:=wrap64 (q.steps+1),took:=q.took,no:=q.no }:Tp).cs (some f)) 102):=by
   rw [<- hU1]
   have:=bU.o
   simp [World.setCell,Array.getElem?_modify,this,Tp.cs]
  refine bodyPost_ret (rcb rfl _ _ mo 61 _ _ _ rfl (put6 r1U _ _ _ _ _ _).1 Tryz.underlying61 rfl info61) rfl ?_;obtain ⟨U2,hU2⟩:∃ U2,((((((U1.setCell ⟨mo,0,none⟩ (.int .i64 r0)).setCell ⟨mo,1,none⟩ (.bool r1)).setCell ⟨mo,2,none⟩ (.int .i64 r2)).setCell ⟨mo,3,none⟩ (.int .i64 r3)).setCell ⟨mo,4,none⟩ (.int .i64 r4)).setCell ⟨mo,5,none⟩ (.slice l'.a l'.n l'.c))=U2:=⟨_,rfl⟩;have t2:Td (fun k=>k=mo) U1 U2:=by rw [<- hU2];exact (put6 r1U _ _ _ _ _ _).2
  rw [hU2];have F1:=HF.o.other bU.o (by decide) (by decide) (by decide) t1;have F2:=F1.other r1U (by decide) (by decide) (by decide) t2;have D1:=DMem.other HD'.o bU.o (by decide) (by decide) t1;refine ⟨tp',l'.v,by rw [hz0];rfl,F2.lst,⟨l',H.o.le,t2.heap b1 (fun e=>hmt e.symm),.inr ⟨f,_,rfl,rfl,F2⟩⟩,⟨mv',DMem.other D1 r1U (by decide) (by decide) t2,HAP.o,HNW.o.2⟩,?_,HNW.o.1⟩;exact (TW.o.trans t1 (fun _ e=>e) (fun _ _ e=>.inl e)).trans t2 (fun _ e=>e) (fun i hi e=>by have:=HMO.o;omega)
end
section
open Go.Shelf
variable {P:Nat->Prop}
theorem info_ev:(Tryz.prog.info? 145).map (fun i=>(i.zero,i.size,i.bytes))=some (some (.agg #[.int .i64 0,.int .i64 0,.int .i64 0,.int .i64 0,.int .i64 0,.int .i64 0,.int .i64 0,.bool false,.int .i64 0,.int .i64 0,.int .i64 0,.slice none 0 0,.int .i64 0]),13,120):=by kernel_rfl
def Log (W:World) (n₀:Nat) (v:Value) (n:Nat):Prop:=∃ cs,W.ownsRow n₀ 145 13 v n cs
theorem Log.typed {W:World} {n₀ n:Nat} {v:Value} (h:Log W n₀ v n):∀ g,v.ownBlock=some g->∃ c,W.heap[g]? = some (.cells c 145):=by
 obtain ⟨cs,h⟩:=h;intro g e;rcases h.2 with ⟨rfl,_⟩ | ⟨g',cap,cur,rfl,hg,hh,_⟩
 ·simp [Value.ownBlock] at e
 ·simp [Value.ownBlock] at e;subst e;exact ⟨_,hh⟩
theorem Log.turned {W W':World} {n₀ n:Nat} {v:Value} (h:Log W n₀ v n) {R:Nat->Prop} (t:Td R W W') (hn:∀ g,v.ownBlock=some g->¬ R g):Log W' n₀ v n:=by
 obtain ⟨cs,h1,h2⟩:=h;refine ⟨cs,h1,?_⟩;rcases h2 with h2 | ⟨g,cap,cur,rfl,hg,hh,r⟩
 ·exact .inl h2
 ·exact .inr ⟨g,cap,cur,rfl,hg,t.heap hh (hn g rfl),r⟩
theorem wpListIn_append_ev {F:Fence} {nF:Nat} {w:World} {ops:Array Oper} {rest:List Oper} {o:Oper} {a:Act} {Q:Exit->Act->World->Prop} (hgd:o.guard=none) (s x:Operand) (ho:o.op=.call { callee:=.builtin .append,args:=#[s,x],argTypes:=#[33,33] })
  (base:Nat) (v:Value) (n:Nat) (hs:a.eval s=v) (hown:Log w base v n) (m:Nat) (c:Array Value) (hx:a.eval x=.slice (some ⟨m,0,none⟩) 1 1) (hc:w.heap[m]? = some (.cells c 145)) (hz:c.size=13) (h1:∀ u ∈ c.toList,u.oneCell'=true)
  (hl:n<=900000) (hbase:base<=w.heap.size)
  (h:∀ v' w',Log w' base v' (n+1)->(∃ a' c',v'=.slice a' (n+1) c')->w.grownBy w' v.ownBlock->(v'.ownBlock=v.ownBlock∨v'.ownBlock=some w.heap.size)->wpListIn F nF Tryz.prog ops Q rest (a.put o.dst v') w'):wpListIn F nF Tryz.prog ops Q (o :: rest) a w:=by
 obtain ⟨i0,hi,hz0,hz1,hz2⟩:=info_parts info_ev;obtain ⟨cs,hown⟩:=hown;refine wpListIn_append_own_at w hgd s x 33 ho base 145 i0 _ 13 120 Tryz.underlying33 hi hz0 hz1 hz2 rfl (by decide) v n cs hs hown ⟨m,0,none⟩ 1 1 c.toList hx (by simp [hz]) ?_ h1 (by unfold maxLen;omega) (by omega) hbase ?_
 ·intro j u hu;rw [Addr.add_mid];simp only [Nat.zero_add];rw [cell_of_row w m j c 145 (0,0) hc];simpa using hu
 ·intro v' w' h3 h2 _ h4;refine h v' w' ⟨_,h3⟩ ?_ h2 h4;rcases h3.2 with ⟨rfl,e⟩ | ⟨g,cap,cur,rfl,_⟩
  ·omega
  ·exact ⟨_,_,rfl⟩
structure Ixp where
 cells:Int
 threads:Int
 bud:Int
 m:Mst
 ts:List Tp
 inv:Int
 picks:Int
 logn:Nat
structure Pt where
 t:Nat
 fa:Option Nat
 tp:Sl
 l:Sl
def Ixp.cs (ix:Ixp) (mb:Nat) (tv lv:Sl):Array Value:=#[.int .i64 ix.cells,.int .i64 ix.threads,.int .i64 ix.bud,.pointer (some ⟨mb,0,none⟩),.slice tv.a tv.n tv.c,.slice lv.a lv.n lv.c,.int .i64 ix.inv,.int .i64 ix.picks]
structure IxIs (P:Nat->Prop) (W:World) (n₀ x:Nat) (ix:Ixp) (mb:Nat) (mv:Value) (tb:Nat) (tv lv:Sl) (pl:List Pt):Prop where
 le:n₀<=x
 box:W.heap[x]? = some (.cells (ix.cs mb tv lv) 35)
 mem:DMem W n₀ mb mv ix.m
 mok:ix.m.ok
 tva:tv.a=some ⟨tb,0,none⟩
 tvn:tv.n=ix.ts.length/\tv.n<=tv.c
 row:∃ c:Array Value,W.heap[tb]? = some (.cells c 103)/\∀ (i:Nat) (p:Pt),pl[i]? = some p->c[i]? = some (.pointer (some ⟨p.t,0,none⟩))
 pn:pl.length=ix.ts.length
 th:∀ (i:Nat) (q:Tp) (p:Pt),ix.ts[i]? = some q->pl[i]? = some p->ThIs W n₀ p.t q p.fa p.tp p.l
 log:Log W n₀ lv.v ix.logn
 dt:∀ (i j:Nat) (p p':Pt),pl[i]? = some p->pl[j]? = some p'->i≠j->p.t≠p'.t/\(∀ f,p.fa=some f->p'.fa≠some f)/\∀ g,p.tp.v.ownBlock=some g->p'.tp.v.ownBlock≠some g
 da:∀ (i:Nat) (p:Pt),pl[i]? = some p->∀ g,p.tp.v.ownBlock=some g->mv.ownBlock≠some g
 bz:∀ (i:Nat) (q:Tp),ix.ts[i]? = some q->q.busy=true->∃ p,q.fr=some p
 np:∀ k,P k->(∃ c T,W.heap[k]? = some (.cells c T)/\(T=2∨T=65))/\mv.ownBlock≠some k/\∀ p,p ∈ pl->p.tp.v.ownBlock≠some k/\p.fa≠some k
theorem FrO.types {W:World} {n₀:Nat} {fa:Option Nat} {fr:Option Fp} {tp l:Sl} (h:FrO W n₀ fa fr tp l):(∀ f,fa=some f->∃ c,W.heap[f]? = some (.cells c 65))/\∀ g,tp.v.ownBlock=some g->∃ c,W.heap[g]? = some (.cells c 2):=by
 rcases h with ⟨h1,_,h3⟩ | ⟨f,p,h1,_,F⟩
 ·exact ⟨(fun f e=>by rw [h1] at e;cases e),(fun g e=>by rw [h3] at e;simp [Sl.nil,Sl.v,Value.ownBlock] at e)⟩
 ·exact ⟨(fun f' e=>by rw [h1] at e;cases e;exact ⟨_,F.box⟩),F.row.typed⟩
theorem DMem.types {W:World} {n₀ mb:Nat} {mv:Value} {m:Mst} (h:DMem W n₀ mb mv m):∀ k,Foot mb mv k->∃ c,W.heap[k]? = some (.cells c 126)∨W.heap[k]? = some (.cells c 2):=by
 rintro k (rfl | e)
 ·exact ⟨_,.inl h.box⟩
 ·obtain ⟨c,hc⟩:=h.row.typed k e;exact ⟨c,.inr hc⟩
def Own (p:Pt) (mb:Nat) (mv:Value):Nat->Prop:=fun k=>k=p.t∨p.fa=some k∨p.tp.v.ownBlock=some k∨Foot mb mv k
theorem own_type {W:World} {n₀ mb:Nat} {mv:Value} {m:Mst} {p:Pt} {q:Tp} (h:ThIs W n₀ p.t q p.fa p.tp p.l) (hd:DMem W n₀ mb mv m) {y:Nat} {c:Array Value} {T:TypeId} (hy:W.heap[y]? = some (.cells c T)) (e1:T≠102) (e2:T≠65) (e3:T≠2) (e4:T≠126):¬ Own p mb mv y:=by
 have key:∀ {c':Array Value} {T':TypeId},W.heap[y]? = some (.cells c' T')->T=T':=fun h'=>by
  rw [hy] at h';simp at h';exact h'.2
 obtain ⟨h1,h2⟩:=h.fr.types;rintro (e | e | e | e)
 ·exact e1 (key (by rw [e];exact h.box))
 ·obtain ⟨c',hc⟩:=h1 y e;exact e2 (key hc)
 ·obtain ⟨c',hc⟩:=h2 y e;exact e3 (key hc)
 ·obtain ⟨c',hc | hc⟩:=hd.types y e
  ·exact e4 (key hc)
  ·exact e3 (key hc)
theorem prow_own {W W':World} {n₀ n₁ mb:Nat} {mv:Value} {m:Mst} {p:Pt} {q:Tp} {v:Value} {xs:List (Int × Int)} (hr:PRow W n₁ 59 v xs) (h:ThIs W n₀ p.t q p.fa p.tp p.l) (hd:DMem W n₀ mb mv m) (t:Td (Own p mb mv) W W'):PRow W' n₁ 59 v xs:=by
 refine hr.turned t (fun g e=>?_);obtain ⟨c,hc⟩:=hr.typed g e;exact own_type h hd hc (by decide) (by decide) (by decide) (by decide)
theorem ThIs.beside {W W':World} {n₀ mb:Nat} {mv:Value} {m:Mst} {p p':Pt} {q q':Tp} (h':ThIs W n₀ p'.t q' p'.fa p'.tp p'.l) (h:ThIs W n₀ p.t q p.fa p.tp p.l) (hd:DMem W n₀ mb mv m) (t:Td (Own p mb mv) W W')
  (d1:p'.t≠p.t) (d2:∀ f,p'.fa=some f->p.fa≠some f) (d3:∀ g,p'.tp.v.ownBlock=some g->p.tp.v.ownBlock≠some g) (d4:∀ g,p'.tp.v.ownBlock=some g->mv.ownBlock≠some g):ThIs W' n₀ p'.t q' p'.fa p'.tp p'.l:=by
 obtain ⟨ht1,ht2⟩:=h.fr.types;have nt:¬ Own p mb mv p'.t:=by
  have key:∀ {c':Array Value} {T':TypeId},W.heap[p'.t]? = some (.cells c' T')->102=T':=fun h2=>by
   have:=h'.box
   rw [this] at h2;simp at h2;exact h2.2
  rintro (e | e | e | e)
  ·exact d1 e
  ·obtain ⟨c,hc⟩:=ht1 _ e;exact absurd (key hc) (by decide)
  ·obtain ⟨c,hc⟩:=ht2 _ e;exact absurd (key hc) (by decide)
  ·obtain ⟨c,hc | hc⟩:=hd.types _ e
   ·exact absurd (key hc) (by decide)
   ·exact absurd (key hc) (by decide)
 refine ⟨h'.le,t.heap h'.box nt,?_⟩;rcases h'.fr with hn | ⟨f,pp,h1,h2,F⟩
 ·exact .inl hn
 ·refine .inr ⟨f,pp,h1,h2,F.le,t.heap F.box ?_,F.row.turnedO t (fun g e=>?_),prow_own F.lst h hd t,F.good,F.i64⟩
  ·have key:∀ {c':Array Value} {T':TypeId},W.heap[f]? = some (.cells c' T')->65=T':=fun h2=>by
    rw [F.box] at h2;simp at h2;exact h2.2
   rintro (e | e | e | e)
   ·exact absurd (key (by rw [e];exact h.box)) (by decide)
   ·exact d2 f h1 e
   ·obtain ⟨c,hc⟩:=ht2 _ e;exact absurd (key hc) (by decide)
   ·obtain ⟨c,hc | hc⟩:=hd.types _ e
    ·exact absurd (key hc) (by decide)
    ·exact absurd (key hc) (by decide)
  ·obtain ⟨c,hc⟩:=F.row.typed g e;have key:∀ {c':Array Value} {T':TypeId},W.heap[g]? = some (.cells c' T')->2=T':=fun h2=>by
    rw [hc] at h2;simp at h2;exact h2.2
   rintro (e' | e' | e' | e' | e')
   ·exact absurd (key (by rw [e'];exact h.box)) (by decide)
   ·obtain ⟨c,hc⟩:=ht1 _ e';exact absurd (key hc) (by decide)
   ·exact d3 g e e'
   ·exact absurd (key (by rw [e'];exact hd.box)) (by decide)
   ·exact d4 g e e'
theorem IxIs.thread {W W':World} {n₀ x mb tb:Nat} {ix:Ixp} {mv:Value} {tv lv:Sl} {pl:List Pt} (h:IxIs P W n₀ x ix mb mv tb tv lv pl) {j:Nat} {q q':Tp} {p p':Pt} (hq:ix.ts[j]? = some q) (hp:pl[j]? = some p) {m':Mst} {mv':Value}
  (hth:ThIs W' n₀ p'.t q' p'.fa p'.tp p'.l) (et:p'.t=p.t) (hm:DMem W' n₀ mb mv' m') (hmok:m'.ok) (t:Td (Own p mb mv) W W') (hfa:∀ f,p'.fa=some f->p.fa=some f∨W.heap.size<=f) (htp:∀ k,p'.tp.v.ownBlock=some k->p.tp.v.ownBlock=some k∨W.heap.size<=k)
  (hft:∀ k,Foot mb mv' k->Foot mb mv k∨W.heap.size<=k) (hap:∀ g,p'.tp.v.ownBlock=some g->mv'.ownBlock≠some g) (hbz:q'.busy=true->∃ p,q'.fr=some p) :
  IxIs P W' n₀ x { ix with m:=m',ts:=ix.ts.set j q' } mb mv' tb tv lv (pl.set j p'):=by
 have hj:=h.th j q p hq hp;have lt:∀ {i:Nat} {q1:Tp} {p1:Pt},ix.ts[i]? = some q1->pl[i]? = some p1->(∀ f,p1.fa=some f->f < W.heap.size)/\∀ g,p1.tp.v.ownBlock=some g->g < W.heap.size:=fun h1 h2=>by
  obtain ⟨a,b⟩:=(h.th _ _ _ h1 h2).fr.types;exact ⟨fun f e=>by obtain ⟨c,hc⟩:=a f e;exact (Array.getElem?_eq_some_iff.1 hc).1,fun g e=>by obtain ⟨c,hc⟩:=b g e;exact (Array.getElem?_eq_some_iff.1 hc).1⟩
 have get:∀ {i:Nat} {p1:Pt},pl[i]? = some p1->∃ q1,ix.ts[i]? = some q1:=fun h1=>by
  have:=(List.getElem?_eq_some_iff.1 h1).1
  rw [h.pn] at this;exact ⟨_,List.getElem?_eq_getElem this⟩
 have jl:j < pl.length:=(List.getElem?_eq_some_iff.1 hp).1;have jt:j < ix.ts.length:=(List.getElem?_eq_some_iff.1 hq).1;have np':∀ k,P k->¬ Own p mb mv k:=fun k hk=>by
  obtain ⟨⟨c,T,hc,hT⟩,h2,h3⟩:=h.np k hk;have key:∀ {c':Array Value} {T':TypeId},W.heap[k]? = some (.cells c' T')->T'=2∨T'=65:=fun h'=>by
   rw [hc] at h';simp at h';rw [<- h'.2];exact hT
  rintro (e | e | e | e | e)
  ·exact absurd (key (by rw [e];exact hj.box)) (by decide)
  ·exact (h3 p (List.mem_of_getElem? hp)).2 e
  ·exact (h3 p (List.mem_of_getElem? hp)).1 e
  ·exact absurd (key (by rw [e];exact h.mem.box)) (by decide)
  ·exact h2 e
 refine ⟨h.le,?_,hm,hmok,h.tva,?_,?_,?_,?_,?_,?_,?_,?_,?_⟩
 ·exact t.heap h.box (own_type hj h.mem h.box (by decide) (by decide) (by decide) (by decide))
 ·simpa using h.tvn
 ·obtain ⟨c,h1,h2⟩:=h.row;refine ⟨c,t.heap h1 (own_type hj h.mem h1 (by decide) (by decide) (by decide) (by decide)),fun i p1 e=>?_⟩;rw [List.getElem?_set] at e
  by_cases hij:j=i
  ·subst hij;rw [if_pos rfl,if_pos jl] at e;cases e;rw [et];exact h2 j p hp
  ·rw [if_neg hij] at e;exact h2 i p1 e
 ·simpa using h.pn
 ·intro i q1 p1 e1 e2;rw [List.getElem?_set] at e1 e2
  by_cases hij:j=i
  ·subst hij;rw [if_pos rfl,if_pos jt] at e1;rw [if_pos rfl,if_pos jl] at e2;cases e1;cases e2;exact hth
  ·rw [if_neg hij] at e1 e2;obtain ⟨a,b,c⟩:=h.dt i j p1 p e2 hp (Ne.symm hij);exact (h.th i q1 p1 e1 e2).beside hj h.mem t a b c (h.da i p1 e2)
 ·refine h.log.turned t (fun g e=>?_);obtain ⟨c,hc⟩:=h.log.typed g e;exact own_type hj h.mem hc (by decide) (by decide) (by decide) (by decide)
 ·intro i k p1 p2 e1 e2 hik;rw [List.getElem?_set] at e1 e2
  by_cases hji:j=i
  ·subst hji;rw [if_pos rfl,if_pos jl] at e1;rw [if_neg hik] at e2;cases e1;obtain ⟨a,b,c⟩:=h.dt j k p p2 hp e2 hik;obtain ⟨q2,hq2⟩:=get e2;obtain ⟨l1,l2⟩:=lt hq2 e2;refine ⟨by rw [et];exact a,fun f ef ef'=>?_,fun g eg eg'=>?_⟩
   ·rcases hfa f ef with h1 | h1
    ·exact b f h1 ef'
    ·have:=l1 f ef';omega
   ·rcases htp g eg with h1 | h1
    ·exact c g h1 eg'
    ·have:=l2 g eg';omega
  ·rw [if_neg hji] at e1
   by_cases hjk:j=k
   ·subst hjk;rw [if_pos rfl,if_pos jl] at e2;cases e2;obtain ⟨a,b,c⟩:=h.dt i j p1 p e1 hp hik;obtain ⟨q1,hq1⟩:=get e1;obtain ⟨l1,l2⟩:=lt hq1 e1;refine ⟨by rw [et];exact a,fun f ef ef'=>?_,fun g eg eg'=>?_⟩
    ·rcases hfa f ef' with h1 | h1
     ·exact b f ef h1
     ·have:=l1 f ef;omega
    ·rcases htp g eg' with h1 | h1
     ·exact c g eg h1
     ·have:=l2 g eg;omega
   ·rw [if_neg hjk] at e2;exact h.dt i k p1 p2 e1 e2 hik
 ·intro i p1 e1 g eg eg';rw [List.getElem?_set] at e1
  by_cases hji:j=i
  ·subst hji;rw [if_pos rfl,if_pos jl] at e1;cases e1;exact hap g eg eg'
  ·rw [if_neg hji] at e1;obtain ⟨q1,hq1⟩:=get e1;have l2:=(lt hq1 e1).2 g eg;rcases hft g (.inr eg') with h1 | h1
   ·rcases h1 with h1 | h1
    ·obtain ⟨c,hc⟩:=(h.th i q1 p1 hq1 e1).fr.types.2 g eg
     have:=h.mem.box
     rw [<- h1,hc] at this;simp at this
    ·exact h.da i p1 e1 g eg h1
   ·omega
 ·intro i q1 e1 hb;rw [List.getElem?_set] at e1
  by_cases hji:j=i
  ·subst hji;rw [if_pos rfl,if_pos jt] at e1;cases e1;exact hbz hb
  ·rw [if_neg hji] at e1;exact h.bz i q1 e1 hb
 ·intro k hk;obtain ⟨⟨c,T,hc,hT⟩,h2,h3⟩:=h.np k hk;have hl:=(Array.getElem?_eq_some_iff.1 hc).1;refine ⟨⟨c,T,t.heap hc (np' k hk),hT⟩,fun e=>?_,fun p1 hp1=>⟨fun e=>?_,fun e=>?_⟩⟩
  ·rcases hft k (.inr e) with h1 | h1
   ·exact np' k hk (.inr (.inr (.inr h1)))
   ·omega
  ·rcases List.mem_or_eq_of_mem_set hp1 with h1 | h1
   ·exact (h3 p1 h1).1 e
   ·rw [h1] at e;rcases htp k e with h1 | h1
    ·exact (h3 p (List.mem_of_getElem? hp)).1 h1
    ·omega
  ·rcases List.mem_or_eq_of_mem_set hp1 with h1 | h1
   ·exact (h3 p1 h1).2 e
   ·rw [h1] at e;rcases hfa k e with h1 | h1
    ·exact (h3 p (List.mem_of_getElem? hp)).2 h1
    ·omega
abbrev NoP:Nat->Prop:=fun _=>False
theorem IxIs.nt {W:World} {n₀ x mb tb:Nat} {ix:Ixp} {mv:Value} {tv lv:Sl} {pl:List Pt} (h:IxIs P W n₀ x ix mb mv tb tv lv pl) {k:Nat} {c:Array Value} {T:TypeId} (hk:W.heap[k]? = some (.cells c T)) (hT:T≠2) (hT2:T≠65):¬ P k:=fun e=>by
 obtain ⟨⟨c',T',hc,h1⟩,_⟩:=h.np k e;rw [hc] at hk;simp at hk;rw [hk.2] at h1;exact h1.elim hT hT2
theorem IxIs.other {Q:Nat->Prop} {W:World} {n₀ x mb tb:Nat} {ix:Ixp} {mv:Value} {tv lv:Sl} {pl:List Pt} (h:IxIs P W n₀ x ix mb mv tb tv lv pl) (hq:∀ k,Q k->(∃ c T,W.heap[k]? = some (.cells c T)/\(T=2∨T=65))/\mv.ownBlock≠some k/\∀ p,p ∈ pl->p.tp.v.ownBlock≠some k/\p.fa≠some k):IxIs Q W n₀ x ix mb mv tb tv lv pl:=
 ⟨h.le,h.box,h.mem,h.mok,h.tva,h.tvn,h.row,h.pn,h.th,h.log,h.dt,h.da,h.bz,hq⟩
end
section
open Go.Shelf
variable {P:Nat->Prop}
def Aside (R:Nat->Prop) (W:World):Prop:=∀ k,R k->∀ (c:Array Value) (T:TypeId),W.heap[k]? = some (.cells c T)->T=35∨T=145∨T=61
theorem Aside.not {R:Nat->Prop} {W:World} (h:Aside R W) {k:Nat} {c:Array Value} {T:TypeId} (hk:W.heap[k]? = some (.cells c T)) (e1:T≠35) (e2:T≠145) (e3:T≠61):¬ R k:=fun e=>(h k e c T hk).elim e1 (fun h=>h.elim e2 e3)
theorem FrIs.aside {W W':World} {n₀ f:Nat} {p:Fp} {tp l:Sl} {R:Nat->Prop} (h:FrIs W n₀ f p tp l) (a:Aside R W) (t:Td R W W'):FrIs W' n₀ f p tp l:=
 ⟨h.le,t.heap h.box (a.not h.box (by decide) (by decide) (by decide)),
 h.row.turnedO t (fun g e=>by obtain ⟨c,hc⟩:=h.row.typed g e;exact a.not hc (by decide) (by decide) (by decide)),
 h.lst.turned t (fun g e=>by obtain ⟨c,hc⟩:=h.lst.typed g e;exact a.not hc (by decide) (by decide) (by decide)),h.good,h.i64⟩
theorem ThIs.aside {W W':World} {n₀ t:Nat} {q:Tp} {fa:Option Nat} {tp l:Sl} {R:Nat->Prop} (h:ThIs W n₀ t q fa tp l) (a:Aside R W) (tt:Td R W W'):ThIs W' n₀ t q fa tp l:=by
 refine ⟨h.le,tt.heap h.box (a.not h.box (by decide) (by decide) (by decide)),?_⟩;rcases h.fr with hn | ⟨f,p,h1,h2,F⟩
 ·exact .inl hn
 ·exact .inr ⟨f,p,h1,h2,F.aside a tt⟩
theorem DMem.aside {W W':World} {n₀ mb:Nat} {mv:Value} {m:Mst} {R:Nat->Prop} (h:DMem W n₀ mb mv m) (a:Aside R W) (t:Td R W W'):DMem W' n₀ mb mv m:=
 h.turned t (fun k hk=>by
  obtain ⟨c,hc | hc⟩:=h.types k hk
  ·exact a.not hc (by decide) (by decide) (by decide)
  ·exact a.not hc (by decide) (by decide) (by decide))
theorem IxIs.boxed {W W':World} {n₀ x mb tb:Nat} {ix ix':Ixp} {mv:Value} {tv lv lv':Sl} {pl:List Pt} (h:IxIs P W n₀ x ix mb mv tb tv lv pl) (t:Td (fun k=>k=x∨lv.v.ownBlock=some k) W W') (hb:W'.heap[x]? = some (.cells (ix'.cs mb tv lv') 35)) (em:ix'.m=ix.m) (et:ix'.ts=ix.ts) (hl:Log W' n₀ lv'.v ix'.logn) :
  IxIs P W' n₀ x ix' mb mv tb tv lv' pl:=by
 have a:Aside (fun k=>k=x∨lv.v.ownBlock=some k) W:=by
  rintro k (e | e) c T hc
  ·rw [e,h.box] at hc;simp at hc;exact .inl hc.2.symm
  ·obtain ⟨c',hc'⟩:=h.log.typed k e;rw [hc'] at hc;simp at hc;exact .inr (.inl hc.2.symm)
 refine ⟨h.le,hb,by rw [em];exact h.mem.aside a t,by rw [em];exact h.mok,h.tva,by rw [et];exact h.tvn,?_,by rw [et];exact h.pn,?_,hl,h.dt,h.da,by rw [et];exact h.bz,?_⟩
 ·obtain ⟨c,h1,h2⟩:=h.row;exact ⟨c,t.heap h1 (a.not h1 (by decide) (by decide) (by decide)),h2⟩
 ·intro i q p e1 e2;rw [et] at e1;exact (h.th i q p e1 e2).aside a t
 ·intro k hk;obtain ⟨⟨c,T,hc,hT⟩,h2⟩:=h.np k hk;exact ⟨⟨c,T,t.heap hc (a.not hc (by rcases hT with rfl | rfl <;> decide) (by rcases hT with rfl | rfl <;> decide) (by rcases hT with rfl | rfl <;> decide)),hT⟩,h2⟩
theorem IxIs.kept {W W':World} {n₀ x mb tb:Nat} {ix:Ixp} {mv:Value} {tv lv:Sl} {pl:List Pt} (h:IxIs P W n₀ x ix mb mv tb tv lv pl) (t:Kept W W'):IxIs P W' n₀ x ix mb mv tb tv lv pl:=
 h.boxed (t.mono fun _ _ e=>e.elim) (t.heap h.box id) rfl rfl (h.log.turned t (fun _ _ e=>e))
theorem IxIs.answer {W W':World} {n₀ x mb tb y:Nat} {ix:Ixp} {mv:Value} {tv lv:Sl} {pl:List Pt} {c:Array Value} (h:IxIs P W n₀ x ix mb mv tb tv lv pl) (hy:W.heap[y]? = some (.cells c 61)) (t:Td (fun k=>k=y) W W'):IxIs P W' n₀ x ix mb mv tb tv lv pl:=by
 have a:Aside (fun k=>k=y) W:=by
  rintro k e c' T hc;rw [e,hy] at hc;simp at hc;exact .inr (.inr hc.2.symm)
 have key:∀ {z:Nat} {c':Array Value} {T:TypeId},W.heap[z]? = some (.cells c' T)->T≠61->¬ z=y:=fun hz e1 e2=>by
  rw [e2,hy] at hz;simp at hz;exact e1 hz.2.symm
 refine ⟨h.le,t.heap h.box (key h.box (by decide)),h.mem.aside a t,h.mok,h.tva,h.tvn,?_,h.pn,fun i q p e1 e2=>(h.th i q p e1 e2).aside a t,?_,h.dt,h.da,h.bz,fun k hk=>by
  obtain ⟨⟨c',T,hc,hT⟩,h2⟩:=h.np k hk;exact ⟨⟨c',T,t.heap hc (key hc (by rcases hT with rfl | rfl <;> decide)),hT⟩,h2⟩⟩
 ·obtain ⟨c',h1,h2⟩:=h.row;exact ⟨c',t.heap h1 (key h1 (by decide)),h2⟩
 ·refine h.log.turned t (fun g e=>?_);obtain ⟨c',hc⟩:=h.log.typed g e;exact key hc (by decide)
theorem IxIs.number {W W':World} {n₀ x mb tb:Nat} {ix:Ixp} {mv:Value} {tv lv:Sl} {pl:List Pt} (h:IxIs P W n₀ x ix mb mv tb tv lv pl) {j:Nat} {q q':Tp} {p:Pt} (hq:ix.ts[j]? = some q) (hp:pl[j]? = some p) (t:Td (fun k=>k=p.t) W W') (hb:W'.heap[p.t]? = some (.cells (q'.cs p.fa) 102)) (ef:q'.fr=q.fr) (eb:q'.busy=q.busy) :
  IxIs P W' n₀ x { ix with ts:=ix.ts.set j q' } mb mv tb tv lv (pl.set j p):=by
 have hj:=h.th j q p hq hp;refine h.thread (W':=W') (m':=ix.m) (mv':=mv) hq hp ⟨hj.le,hb,?_⟩ rfl ?_ h.mok (t.mono fun _ _ e=>.inl e) (fun _ e=>.inl e) (fun _ e=>.inl e) (fun _ e=>.inl e) (h.da j p hp) ?_
 ·rw [ef];rcases hj.fr with hn | ⟨f,pp,h1,h2,F⟩
  ·exact .inl hn
  ·exact .inr ⟨f,pp,h1,h2,F.other hj.box (by decide) (by decide) (by decide) t⟩
 ·exact DMem.other h.mem hj.box (by decide) (by decide) t
 ·rw [ef,eb];exact h.bz j q hq
theorem IxIs.cells {W:World} {n₀ x mb tb:Nat} {ix:Ixp} {mv:Value} {tv lv:Sl} {pl:List Pt} (h:IxIs P W n₀ x ix mb mv tb tv lv pl):(W.cell? ⟨x,3,none⟩=some (.pointer (some ⟨mb,0,none⟩))/\W.cell? ⟨x,4,none⟩=some (.slice (some ⟨tb,0,none⟩) tv.n tv.c)/\W.cell? ⟨x,5,none⟩=some (.slice lv.a lv.n lv.c)/\W.cell? ⟨x,6,none⟩=some (.int .i64 ix.inv)/\W.cell? ⟨x,7,none⟩=some (.int .i64 ix.picks))/\∀ i,W.frozen? ⟨x,i,none⟩=false:=by
 have hb:=h.box;have ha:=h.tva;simp [World.cell?,World.frozen?,hb,Ixp.cs,ha]
theorem IxIs.slot {W:World} {n₀ x mb tb:Nat} {ix:Ixp} {mv:Value} {tv lv:Sl} {pl:List Pt} (h:IxIs P W n₀ x ix mb mv tb tv lv pl) {j:Nat} {p:Pt} (hp:pl[j]? = some p):W.cell? ⟨tb,j,none⟩=some (.pointer (some ⟨p.t,0,none⟩)):=by
 obtain ⟨c,h1,h2⟩:=h.row;rw [cell_of_row W tb j c 103 (0,0) h1];exact h2 j p hp
def Mine (P:Nat->Prop) (W:World) (n₀:Nat) (k:Nat):Prop:=n₀<=k/\¬ P k/\∀ (c:Array Value) (T:TypeId),W.heap[k]? = some (.cells c T)->T=35∨T=102∨T=65∨T=2∨T=126∨T=145
theorem Mine.of {W:World} {n₀ k:Nat} (h:n₀<=k) (hP:¬ P k) {c:Array Value} {T:TypeId} (hk:W.heap[k]? = some (.cells c T)) (hT:T=35∨T=102∨T=65∨T=2∨T=126∨T=145):Mine P W n₀ k:=
 ⟨h,hP,fun c' T' hk'=>by
  rw [hk] at hk';simp at hk';rw [<- hk'.2];exact hT⟩
structure Mines (P:Nat->Prop) (W:World) (n₀ x mb:Nat) (mv:Value) (lv:Sl) (pz:List Pt):Prop where
 box:Mine P W n₀ x
 log:∀ k,lv.v.ownBlock=some k->Mine P W n₀ k
 th:∀ p,p ∈ pz->Mine P W n₀ p.t/\∀ k,Own p mb mv k->Mine P W n₀ k
theorem IxIs.mines {W:World} {n₀ x mb tb:Nat} {ix:Ixp} {mv:Value} {tv lv:Sl} {pz:List Pt} (h:IxIs P W n₀ x ix mb mv tb tv lv pz):Mines P W n₀ x mb mv lv pz:=by
 refine ⟨Mine.of h.le (h.nt h.box (by decide) (by decide)) h.box (by decide),fun k e=>?_,fun p hp=>?_⟩
 ·obtain ⟨c,hc⟩:=h.log.typed k e;obtain ⟨cs,hl⟩:=h.log;exact Mine.of (hl.lt k e).1 (h.nt hc (by decide) (by decide)) hc (by decide)
 ·obtain ⟨i,hi,hi'⟩:=List.getElem_of_mem hp;have h1:pz[i]? = some p:=by rw [List.getElem?_eq_getElem hi,hi']
  have h2:i < ix.ts.length:=by rw [<- h.pn];exact hi
  have t:=h.th i _ p (List.getElem?_eq_getElem h2) h1;have m1:Mine P W n₀ p.t:=Mine.of t.le (h.nt t.box (by decide) (by decide)) t.box (by decide);refine ⟨m1,fun k e=>?_⟩;rcases e with e | e | e | e
  ·rw [e];exact m1
  ·rcases t.fr with ⟨h1,_⟩ | ⟨f',p',h1,h2,F⟩
   ·rw [h1] at e;cases e
   ·rw [h1] at e;cases e;exact Mine.of F.le (fun hk=>((h.np _ hk).2.2 p hp).2 h1) F.box (by decide)
  ·rcases t.fr with ⟨_,_,h3⟩ | ⟨f',p',h1,h2,F⟩
   ·rw [h3] at e;simp [Sl.nil,Sl.v,Value.ownBlock] at e
   ·obtain ⟨c,hc⟩:=F.row.typed k e;exact Mine.of (F.row.lt k e).1 (fun hk=>((h.np k hk).2.2 p hp).1 e) hc (by decide)
  ·obtain ⟨c,hc | hc⟩:=h.mem.types k e
   ·exact Mine.of (h.mem.lt k e).1 (h.nt hc (by decide) (by decide)) hc (by decide)
   ·refine Mine.of (h.mem.lt k e).1 (fun hk=>?_) hc (by decide);rcases e with e | e
    ·have:=h.mem.box
     rw [<- e,hc] at this;simp at this
    ·exact (h.np k hk).2.1 e
theorem Td.mine {W W':World} {n₀ k:Nat} (t:Td (Mine P W n₀) W W') {c:Array Value} {T:TypeId} (hk:W.heap[k]? = some (.cells c T)) (hT:¬ (T=35∨T=102∨T=65∨T=2∨T=126∨T=145)):W'.heap[k]? = some (.cells c T):=t.heap hk (fun e=>hT (e.2.2 c T hk))
theorem Td.since {W W':World} {n₀:Nat} (t:Td (Mine P W n₀) W W'):Td (fun k=>n₀<=k) W W':=t.mono fun _ _ e=>e.1
end
section
open Go.Shelf
variable {P:Nat->Prop}
attribute [local go_sem] Oper.semAt_some
def Ixp.invoke (ix:Ixp) (j:Nat) (q:Tp) (k key val:Int):Ixp:={ ix with ts:=ix.ts.set j { q.begin k key val with no:=ix.inv },inv:=wrap64 (ix.inv+1),logn:=ix.logn+1 }
set_option maxRecDepth 100000 in
set_option maxHeartbeats 4000000 in
theorem invoke_busy (W:World) (n₀ x mb tb:Nat) (ix:Ixp) (mv:Value) (tv lv:Sl) (ps:List Pt) (h:IxIs P W n₀ x ix mb mv tb tv lv ps) (j:Nat) (q:Tp) (p:Pt) (hq:ix.ts[j]? = some q) (hp:ps[j]? = some p) (hb:q.busy=true) (k key val:Int) :
  Calls Tryz.prog 59 #[.pointer (some ⟨x,0,none⟩),.int .i64 (j:Int),.agg #[.int .i64 k,.int .i64 key,.int .i64 val]] W fun e W'=>e=.returned (.int .i64 4)/\Kept W W':=by
 obtain ⟨V,hV⟩:∃ V,W.alloc (.cells #[.int .i64 k,.int .i64 key,.int .i64 val] 52)=V:=⟨_,rfl⟩;have kV:Kept W V:=by rw [<- hV];exact Td.alloc _ _ _
 have bo:V.heap[W.heap.size]? = some (.cells #[.int .i64 k,.int .i64 key,.int .i64 val] 52):=by rw [<- hV];exact heap_new _ _
 have hx:=h.kept kV;obtain ⟨⟨_,c4,_⟩,_⟩:=hx.cells;have cj:=hx.slot hp;obtain ⟨V9,hV9⟩:∃ V9,V.drew=V9:=⟨_,rfl⟩;have k9:Kept V V9:=by rw [<- hV9];exact Kept.drew _
 have x0:∀ u:Wd (fun U=>Td (fun _=>False) V9 U),u.w.cell? ⟨x,4,none⟩=some (.slice (some ⟨tb,0,none⟩) tv.n tv.c):=fun u=>u.ok.cell (k9.cell c4 id) id;have x1:∀ u:Wd (fun U=>Td (fun _=>False) V9 U),u.w.cell? ⟨tb,j,none⟩=some (.pointer (some ⟨p.t,0,none⟩)):=fun u=>u.ok.cell (k9.cell cj id) id;have x2:∀ u:Wd (fun U=>Td (fun _=>False) V9 U),u.w.cell? ⟨W.heap.size,0,none⟩=some (.int .i64 k):=fun u=>u.ok.cell (k9.cell (by simp [World.cell?,bo]) id) id;have x3:∀ u:Wd (fun U=>Td (fun _=>False) V9 U),u.w.cell? ⟨W.heap.size,1,none⟩=some (.int .i64 key):=fun u=>u.ok.cell (k9.cell (by simp [World.cell?,bo]) id) id;have x4:∀ u:Wd (fun U=>Td (fun _=>False) V9 U),u.w.cell? ⟨W.heap.size,2,none⟩=some (.int .i64 val):=fun u=>u.ok.cell (k9.cell (by simp [World.cell?,bo]) id) id;have jl:j < ix.ts.length:=(List.getElem?_eq_some_iff.1 hq).1;have j1:(j:Int) < (tv.n:Int):=by have:=h.tvn.1;omega
 have j2:j < tv.c:=by have:=h.tvn;omega
 have j0:decide ((j:Int) < 0)=false:=by simp
 have j3:decide ((tv.n:Int)<=(j:Int))=false:=by simp;omega
 have CT:=tbegin_busy V9 n₀ p.t q p.fa p.tp p.l k key val ((hx.kept k9).th j q p hq hp) hb;have HCT:=gh CT;have KV:=gh kV;have K9:=gh k9;have HV9:=gh hV9;have HV:=gh hV;have c4':∀ o,(W.alloc o).cell? ⟨x,4,none⟩=some (.slice (some ⟨tb,0,none⟩) tv.n tv.c):=fun o=>(Td.alloc (fun _=>False) W o).cell h.cells.1.2.1 id;clear h hq hp hb kV bo hx c4 cj hV9 k9 CT jl hV;go_enter Tryz.func59,Tryz.ntmps59;go_wp2_with (fail);rw [HV.o];refine region_wide [0,1,2,3,4,5,6,7,8,9] (fun U=>Td (fun _=>False) V9 U) (by kernel_rfl) (by kernel_rfl) (by rw [HV9.o];exact Td.refl _ _) (fun _=>?_);rw [HV9.o]
 repeat (refine pq rfl rfl ?_;go_big_quiet_step (fail);refine wpQuiet_nil ?_)
 refine pl rfl rfl ?_;gi_wp2_with (fail);refine ⟨trivial,?_⟩;refine (callsIn_wide.2 HCT.o).mono ?_;rintro e U ⟨rfl,KU⟩;have HKU:=gh KU;clear KU;gi_wp2_with (fail);refine ⟨Wd.mem HKU.o,?_⟩
 repeat (refine pq rfl rfl ?_;go_big_quiet_step (fail);refine wpQuiet_nil ?_)
 refine perm_done ?_;clear x0 x1 x2 x3 x4;go_wp2;go_ret;exact ⟨rfl,(KV.o.trans K9.o).trans HKU.o⟩
set_option maxRecDepth 100000 in
set_option maxHeartbeats 4000000 in
theorem invoke_r (W:World) (n₀ x mb tb:Nat) (ix:Ixp) (mv:Value) (tv lv:Sl) (ps:List Pt) (h:IxIs P W n₀ x ix mb mv tb tv lv ps) (j:Nat) (q:Tp) (p:Pt) (hq:ix.ts[j]? = some q) (hp:ps[j]? = some p) (hb:q.busy=false) (hn:n₀<=W.heap.size) (hlog:ix.logn<=800000) (k key val:Int) (hg:(Fp.make k key val q.bud).good) :
  Calls Tryz.prog 59 #[.pointer (some ⟨x,0,none⟩),.int .i64 (j:Int),.agg #[.int .i64 k,.int .i64 key,.int .i64 val]] W fun e W'=>e=.returned (.int .i64 0)/\(∃ lv' ps',IxIs P W' n₀ x (ix.invoke j q k key val) mb mv tb tv lv' ps')/\Td (Mine P W n₀) W W':=by
 obtain ⟨V,hV⟩:∃ V,W.alloc (.cells #[.int .i64 k,.int .i64 key,.int .i64 val] 52)=V:=⟨_,rfl⟩;obtain ⟨mo,hmo⟩:∃ m,W.heap.size=m:=⟨_,rfl⟩;have kV:Kept W V:=by rw [<- hV];exact Td.alloc _ _ _
 have bo:V.heap[mo]? = some (.cells #[.int .i64 k,.int .i64 key,.int .i64 val] 52):=by rw [<- hV,<- hmo];exact heap_new _ _
 have hx:=h.kept kV;obtain ⟨⟨_,c4,_⟩,_⟩:=hx.cells;have cj:=hx.slot hp;obtain ⟨V9,hV9⟩:∃ V9,V.drew=V9:=⟨_,rfl⟩;have k9:Kept V V9:=by rw [<- hV9];exact Kept.drew _
 have th:=(hx.kept k9).th j q p hq hp;have bo9:=k9.heap bo id;have nt:∀ {y:Nat} {c:Array Value} {T:TypeId},V9.heap[y]? = some (.cells c T)->T≠102->y≠p.t:=fun hy e1 e2=>by
  rw [e2,th.box] at hy;simp at hy;exact e1 hy.2.symm
 have nx:x≠p.t:=nt (hx.kept k9).box (by decide);have ntb:tb≠p.t:=by
  obtain ⟨c,h1,_⟩:=(hx.kept k9).row;exact nt h1 (by decide)
 have nmo:mo≠p.t:=nt bo9 (by decide);have x0:∀ u:Wd (fun U=>Td (fun k=>k=p.t) V9 U),u.w.cell? ⟨x,4,none⟩=some (.slice (some ⟨tb,0,none⟩) tv.n tv.c):=fun u=>u.ok.cell (k9.cell c4 id) nx;have x1:∀ u:Wd (fun U=>Td (fun k=>k=p.t) V9 U),u.w.cell? ⟨tb,j,none⟩=some (.pointer (some ⟨p.t,0,none⟩)):=fun u=>u.ok.cell (k9.cell cj id) ntb;have x2:∀ u:Wd (fun U=>Td (fun k=>k=p.t) V9 U),u.w.cell? ⟨mo,0,none⟩=some (.int .i64 k):=fun u=>u.ok.cell (by simp [World.cell?,bo9]) nmo;have x3:∀ u:Wd (fun U=>Td (fun k=>k=p.t) V9 U),u.w.cell? ⟨mo,1,none⟩=some (.int .i64 key):=fun u=>u.ok.cell (by simp [World.cell?,bo9]) nmo;have x4:∀ u:Wd (fun U=>Td (fun k=>k=p.t) V9 U),u.w.cell? ⟨mo,2,none⟩=some (.int .i64 val):=fun u=>u.ok.cell (by simp [World.cell?,bo9]) nmo;have jl:j < ix.ts.length:=(List.getElem?_eq_some_iff.1 hq).1;have j1:(j:Int) < (tv.n:Int):=by have:=h.tvn.1;omega
 have j2:j < tv.c:=by have:=h.tvn;omega
 have j0:decide ((j:Int) < 0)=false:=by simp
 have j3:decide ((tv.n:Int)<=(j:Int))=false:=by simp;omega
 have HMI:Hid (Mines P W n₀ x mb mv lv ps/\p ∈ ps):=gh ⟨h.mines,List.mem_of_getElem? hp⟩;have HTL:Hid (p.t < W.heap.size/\n₀<=p.t):=gh ⟨(Array.getElem?_eq_some_iff.1 (h.th j q p hq hp).box).1,(h.th j q p hq hp).le⟩;have CT:=tbegin_r V9 n₀ p.t q p.fa p.tp p.l k key val th hb (Nat.le_trans hn (kV.trans k9).size) hg;have HCT:=gh CT;have KV:=gh kV;have K9:=gh k9;have HV9:=gh hV9;have HV:=gh hV;have HX9:=gh (hx.kept k9);have BO:=gh bo9;have HQ:=gh hq;have HP:=gh hp;have NX:=gh (And.intro nx (And.intro ntb nmo));have HLOG:=gh hlog;have HN:=gh hn;have HB:=gh hb;have HMO:=gh hmo;have JL:Hid (j < ix.ts.length/\ps.length=ix.ts.length):=gh ⟨jl,h.pn⟩;have c4':∀ o,(W.alloc o).cell? ⟨x,4,none⟩=some (.slice (some ⟨tb,0,none⟩) tv.n tv.c):=fun o=>(Td.alloc (fun _=>False) W o).cell h.cells.1.2.1 id;clear h hq hp hb kV bo hx c4 cj hV9 k9 CT jl hV th bo9 nt nx ntb nmo hn hlog hg;go_enter Tryz.func59,Tryz.ntmps59;go_wp2_with (fail);rw [HV.o];refine region_wide [0,1,2,3,4,5,6,7,8,9] (fun U=>Td (fun k=>k=p.t) V9 U) (by kernel_rfl) (by kernel_rfl) (by rw [HV9.o];exact Td.refl _ _) (fun _=>?_);rw [HV9.o]
 repeat (refine pq rfl rfl ?_;go_big_quiet_step (fail);refine wpQuiet_nil ?_)
 refine pl rfl rfl ?_;gi_wp2_with (fail);refine ⟨trivial,?_⟩;refine (callsIn_wide.2 HCT.o).mono ?_;rintro e U ⟨rfl,f',l',TH,TU,hf'⟩;have HTU:=gh TU;have IX:Hid (IxIs P U n₀ x { ix with m:=ix.m,ts:=ix.ts.set j (q.begin k key val) } mb mv tb tv lv (ps.set j ⟨p.t,some f',Sl.nil,l'⟩)):=gh (HX9.o.thread HQ.o HP.o (p':=⟨p.t,some f',Sl.nil,l'⟩) TH rfl (DMem.other HX9.o.mem (HX9.o.th j q p HQ.o HP.o).box (by decide) (by decide) TU) HX9.o.mok (TU.mono fun _ _ e=>.inl e) (fun f e=>by cases e;exact .inr hf') (fun g e=>by simp [Sl.nil,Sl.v,Value.ownBlock] at e) (fun _ e=>.inl e) (fun g e=>by simp [Sl.nil,Sl.v,Value.ownBlock] at e) (fun _=>⟨_,rfl⟩));clear TH TU hf';gi_wp2_with (fail);refine ⟨Wd.mem HTU.o,?_⟩
 repeat (refine pq rfl rfl ?_;go_big_quiet_step (fail);refine wpQuiet_nil ?_)
 refine perm_done ?_;clear x0 x1 x2 x3 x4;obtain ⟨V8,hV8⟩:∃ V8,U.drew=V8:=⟨_,rfl⟩;have k8:Kept U V8:=by rw [<- hV8];exact Kept.drew _
 have ix8:=IX.o.kept k8;obtain ⟨⟨_,c4,c5,c6,c7⟩,cf⟩:=ix8.cells;have hp8:(ps.set j (⟨p.t,some f',Sl.nil,l'⟩:Pt))[j]? = some ⟨p.t,some f',Sl.nil,l'⟩:=by rw [List.getElem?_set];have:=JL.o;rw [if_pos rfl,if_pos (by omega)]
 have hq8:(ix.ts.set j (q.begin k key val))[j]? = some (q.begin k key val):=by rw [List.getElem?_set];rw [if_pos rfl,if_pos JL.o.1]
 have cj:=ix8.slot hp8;have th8:=ix8.th j _ _ hq8 hp8;have y0:∀ u:Wd (fun U=>Td (fun _=>False) V8 U),u.w.cell? ⟨x,4,none⟩=some (.slice (some ⟨tb,0,none⟩) tv.n tv.c):=fun u=>u.ok.cell c4 id;have y1:∀ u:Wd (fun U=>Td (fun _=>False) V8 U),u.w.cell? ⟨tb,j,none⟩=some (.pointer (some ⟨p.t,0,none⟩)):=fun u=>u.ok.cell cj id;have y2:∀ u:Wd (fun U=>Td (fun _=>False) V8 U),u.w.cell? ⟨x,6,none⟩=some (.int .i64 ix.inv):=fun u=>u.ok.cell c6 id;have g8:=th8.cells.1.2.2.2.2.2.2.2.2;have g8f:=th8.cells.2 8;obtain ⟨B1,hB1⟩:∃ B1,V8.setCell ⟨p.t,8,none⟩ (.int .i64 ix.inv)=B1:=⟨_,rfl⟩;have tB1:Td (fun k=>k=p.t) V8 B1:=by rw [<- hB1];exact Td.setCell (R:=fun k=>k=p.t) _ _ _ rfl
 have bB1:B1.heap[p.t]? = some (.cells (({ q.begin k key val with no:=ix.inv }:Tp).cs (some f')) 102):=by
  rw [<- hB1]
  have:=th8.box
  simp [World.setCell,Array.getElem?_modify,this,Tp.cs]
 have i1:=ix8.number hq8 hp8 tB1 bB1 rfl rfl;simp only [List.set_set] at i1;obtain ⟨⟨_,c4',_,c6',_⟩,cf'⟩:=i1.cells;obtain ⟨B2,hB2⟩:∃ B2,B1.setCell ⟨x,6,none⟩ (.int .i64 (wrap64 (ix.inv+1)))=B2:=⟨_,rfl⟩;have tB2:Td (fun k=>k=x) B1 B2:=by rw [<- hB2];exact Td.setCell (R:=fun k=>k=x) _ _ _ rfl
 have i2:IxIs P B2 n₀ x { ix with ts:=ix.ts.set j { q.begin k key val with no:=ix.inv },inv:=wrap64 (ix.inv+1) } mb mv tb tv lv (ps.set j ⟨p.t,some f',Sl.nil,l'⟩):=by
  refine i1.boxed (ix':={ ix with ts:=ix.ts.set j { q.begin k key val with no:=ix.inv },inv:=wrap64 (ix.inv+1) }) (tB2.mono fun _ _ e=>.inl e) ?_ rfl rfl (i1.log.turned tB2 (fun g e e'=>?_))
  ·rw [<- hB2]
   have:=i1.box
   simp [World.setCell,Array.getElem?_modify,this,Ixp.cs]
  ·obtain ⟨c,hc⟩:=i1.log.typed g e;rw [e',i1.box] at hc;simp at hc
 have g6f:B1.frozen? ⟨x,6,none⟩=false:=cf' 6;have HB1:=gh hB1;have HB2:=gh hB2;have I2:=gh i2;have HV8:=gh hV8;have K8:=gh k8;have TB1:=gh tB1;have TB2:=gh tB2;have HP8:=gh hp8;have HQ8:=gh hq8;have T0:Hid (Td (Mine P W n₀) W B2):=gh ((((KV.o.trans K9.o).then HTU.o).trans ((K8.o.then tB1).trans tB2 (R'':=fun k=>k=p.t∨k=x) (fun _ e=>.inl e) (fun _ _ e=>.inr e)) (R'':=fun k=>k=p.t∨k=x) (fun _ e=>.inl e) (fun _ _ e=>e)).mono (fun k _ e=>by
  rcases e with e | e
  ·rw [e];exact (HMI.o.1.th p HMI.o.2).1
  ·rw [e];exact HMI.o.1.box))
 clear hV8 hB1 hB2 i1 i2 k8 tB1 tB2 bB1 hp8 hq8 ix8 th8 cf c4' cj c4 c5 c7;go_wp2_with (fail);refine region_last [0,1,2,3,4,5,6,7,8,9,10,11,12] 13 (fun U=>Td (fun _=>False) V8 U) (by kernel_rfl) (by kernel_rfl) (by rw [HV8.o];exact Td.refl _ _) (fun _=>?_);rw [HV8.o]
 repeat (refine lq rfl rfl ?_;go_big_quiet_step (fail);refine wpQuiet_nil ?_)
 refine lz rfl ?_;gi_wp2;refine last_done ?_;rw [HB1.o];clear y0 y1 y2 g8 g8f c6;obtain ⟨V7,hV7⟩:∃ V7,B2.drew=V7:=⟨_,rfl⟩;have k7:Kept B2 V7:=by rw [<- hV7];exact Kept.drew _
 have ix7:=I2.o.kept k7;have lt:∀ {y:Nat} {c:Array Value} {T:TypeId},V7.heap[y]? = some (.cells c T)->T≠145->¬ lv.v.ownBlock=some y:=fun hy e1 e2=>by
  obtain ⟨c',hc⟩:=ix7.log.typed _ e2;rw [hy] at hc;simp at hc;exact e1 hc.2
 have hp7:(ps.set j (⟨p.t,some f',Sl.nil,l'⟩:Pt))[j]? = some ⟨p.t,some f',Sl.nil,l'⟩:=HP8.o;have hq7:(ix.ts.set j ({ q.begin k key val with no:=ix.inv }:Tp))[j]? = some { q.begin k key val with no:=ix.inv }:=by rw [List.getElem?_set];rw [if_pos rfl,if_pos JL.o.1]
 have th7:=ix7.th j _ _ hq7 hp7;obtain ⟨⟨_,d4,d5,_,d7⟩,df⟩:=ix7.cells;have dj:=ix7.slot hp7;have d8:=th7.cells.1.2.2.2.2.2.2.2.2;have bo7:V7.heap[mo]? = some (.cells #[.int .i64 k,.int .i64 key,.int .i64 val] 52):=k7.heap (TB2.o.heap (TB1.o.heap (K8.o.heap (HTU.o.heap BO.o NX.o.2.2) id) NX.o.2.2) (fun e=>by
  have:=(Array.getElem?_eq_some_iff.1 HX9.o.box).1
  have h1:=HX9.o.box;rw [<- e,BO.o] at h1;simp at h1)) id
 have nlx:¬ lv.v.ownBlock=some x:=lt ix7.box (by decide);have nlt:¬ lv.v.ownBlock=some p.t:=lt th7.box (by decide);have nlm:¬ lv.v.ownBlock=some mo:=lt bo7 (by decide);have nlb:¬ lv.v.ownBlock=some tb:=by
  obtain ⟨c,h1,_⟩:=ix7.row;exact lt h1 (by decide)
 have z0:∀ u:Wd (fun U=>Td (fun k=>lv.v.ownBlock=some k) V7 U),u.w.cell? ⟨x,4,none⟩=some (.slice (some ⟨tb,0,none⟩) tv.n tv.c):=fun u=>u.ok.cell d4 nlx;have z1:∀ u:Wd (fun U=>Td (fun k=>lv.v.ownBlock=some k) V7 U),u.w.cell? ⟨tb,j,none⟩=some (.pointer (some ⟨p.t,0,none⟩)):=fun u=>u.ok.cell dj nlb;have z2:∀ u:Wd (fun U=>Td (fun k=>lv.v.ownBlock=some k) V7 U),u.w.cell? ⟨x,5,none⟩=some (.slice lv.a lv.n lv.c):=fun u=>u.ok.cell d5 nlx;have z3:∀ u:Wd (fun U=>Td (fun k=>lv.v.ownBlock=some k) V7 U),u.w.cell? ⟨x,7,none⟩=some (.int .i64 ix.picks):=fun u=>u.ok.cell d7 nlx;have z4:∀ u:Wd (fun U=>Td (fun k=>lv.v.ownBlock=some k) V7 U),u.w.cell? ⟨p.t,8,none⟩=some (.int .i64 ix.inv):=fun u=>u.ok.cell d8 nlt;have z5:∀ u:Wd (fun U=>Td (fun k=>lv.v.ownBlock=some k) V7 U),u.w.cell? ⟨mo,0,none⟩=some (.int .i64 k):=fun u=>u.ok.cell (by simp [World.cell?,bo7]) nlm;have z6:∀ u:Wd (fun U=>Td (fun k=>lv.v.ownBlock=some k) V7 U),u.w.cell? ⟨mo,1,none⟩=some (.int .i64 key):=fun u=>u.ok.cell (by simp [World.cell?,bo7]) nlm;have z7:∀ u:Wd (fun U=>Td (fun k=>lv.v.ownBlock=some k) V7 U),u.w.cell? ⟨mo,2,none⟩=some (.int .i64 val):=fun u=>u.ok.cell (by simp [World.cell?,bo7]) nlm;have IX7:=gh ix7;have HV7:=gh hV7;have K7:=gh k7;have NLX:=gh nlx;have SZ7:Hid (n₀<=V7.heap.size):=gh (Nat.le_trans HN.o (Nat.le_trans T0.o.size k7.size));clear hV7 k7 ix7 lt hp7 hq7 th7 d4 d5 d7 df dj d8 bo7 nlx nlt nlm nlb cf';go_wp2_with (fail);rw [HB2.o];refine region_last [0,1,2,3,4,5,6,7,8,9,10,11,12,13,14,15,16,17,18,19,20,21,22,23,24,25] 26 (fun U=>Td (fun k=>lv.v.ownBlock=some k) V7 U) (by kernel_rfl) (by kernel_rfl) (by rw [HV7.o];exact Td.refl _ _) (fun _=>?_);rw [HV7.o]
 repeat (refine lq rfl rfl ?_;go_big_quiet_step (fail);refine wpQuiet_nil ?_)
 refine ll rfl rfl ?_;gi_wp2;refine ⟨Wd.mem (Td.alloc _ _ _),?_⟩;refine ll rfl rfl ?_;gi_wp2_with (gi_at_builtin;refine Stop.out ?_);refine ⟨?_⟩;refine wpListIn_append_ev rfl _ _ rfl n₀ lv.v ix.logn rfl (IX7.o.log.turned (Td.alloc (fun _=>False) V7 _) (fun _ _ e=>e)) V7.heap.size _ rfl (heap_new _ _) rfl (by simp [Value.oneCell']) (by have:=HLOG.o;omega) (by have:=SZ7.o;simp;omega) ?_;rintro v9 A1 hlog9 ⟨la9,lc9,rfl⟩ hgrow hat;have TA:Hid (Td (fun k=>lv.v.ownBlock=some k) V7 A1):=gh (Kept.then (Td.alloc (fun _=>False) V7 _) (Td.of_grownBy (R:=fun k=>lv.v.ownBlock=some k) hgrow (fun _ h=>h)));have bxA:=TA.o.heap IX7.o.box NLX.o;have cA:A1.cell? ⟨x,5,none⟩=some (.slice lv.a lv.n lv.c):=by simp [World.cell?,bxA,Ixp.cs]
 have gA:A1.frozen? ⟨x,5,none⟩=false:=by simp [World.frozen?,bxA]
 obtain ⟨A2,hA2⟩:∃ A2,A1.setCell ⟨x,5,none⟩ (.slice la9 (ix.logn+1) lc9)=A2:=⟨_,rfl⟩;have tA2:Td (fun k=>k=x) A1 A2:=by rw [<- hA2];exact Td.setCell (R:=fun k=>k=x) _ _ _ rfl
 have IXE:Hid (IxIs P A2 n₀ x (ix.invoke j q k key val) mb mv tb tv ⟨la9,ix.logn+1,lc9⟩ (ps.set j ⟨p.t,some f',Sl.nil,l'⟩)):=gh (by
  refine IX7.o.boxed (ix':=ix.invoke j q k key val) (TA.o.trans tA2 (fun _ e=>.inr e) (fun _ _ e=>.inl e)) ?_ rfl rfl (hlog9.turned tA2 (fun g e e'=>?_))
  ·rw [<- hA2];simp [World.setCell,Array.getElem?_modify,bxA,Ixp.cs,Ixp.invoke]
  ·obtain ⟨c,hc⟩:=hlog9.typed g e;rw [e',bxA] at hc;simp at hc)
 have TE:Hid (Td (Mine P W n₀) W A2):=gh ((T0.o.trans (K7.o.then (TA.o.trans tA2 (R'':=fun k=>lv.v.ownBlock=some k∨k=x) (fun _ e=>.inl e) (fun _ _ e=>.inr e))) (fun _ e=>e) (fun k _ e=>by
  rcases e with e | e
  ·exact HMI.o.1.log k e
  ·rw [e];exact HMI.o.1.box)))
 have HA2:=gh hA2;clear hlog9 hgrow hat hA2 tA2 bxA;gi_wp2;refine ⟨Wd.mem TA.o,?_⟩;simp only [Act.put,List.setIfInBounds_toArray,List.set_cons_succ,List.set_cons_zero]
 repeat (refine lq rfl rfl ?_;go_big_quiet_step (fail);refine wpQuiet_nil ?_)
 refine lz rfl ?_;gi_wp2;refine last_done ?_;rw [HA2.o];clear z0 z1 z2 z3 z4 z5 z6 z7 cA gA;go_wp2;go_ret;exact ⟨rfl,⟨_,_,IXE.o⟩,TE.o⟩
end
section
open Go.Shelf
variable {P:Nat->Prop}
attribute [local go_sem] Oper.semAt_some
def Tp.takes (q:Tp) (m:Mst):Bool:=q.busy && !q.took && decide (0 < q.laid) && (m.look (wrap64 (q.laid+4)) == 1)
def Ixp.takes1 (ix:Ixp) (i:Nat):Ixp:=
 match ix.ts[i]? with
 | some q=>if q.takes ix.m=true then { ix with ts:=ix.ts.set i { q with took:=true },logn:=ix.logn+1 } else ix
 | none=>ix
def Ixp.takesL:Nat->Nat->Ixp->Ixp
 | 0,_,ix=>ix
 | c+1,i,ix=>takesL c (i+1) (ix.takes1 i)
theorem Ixp.takes1_no {ix:Ixp} {i:Nat} {q:Tp} (h:ix.ts[i]? = some q) (e:q.takes ix.m=false):ix.takes1 i=ix:=by
 unfold takes1;rw [h];dsimp only;rw [if_neg (by rw [e];decide)]
theorem Ixp.takes1_yes {ix:Ixp} {i:Nat} {q:Tp} (h:ix.ts[i]? = some q) (e:q.takes ix.m=true):ix.takes1 i={ ix with ts:=ix.ts.set i { q with took:=true },logn:=ix.logn+1 }:=by
 unfold takes1;rw [h];dsimp only;rw [if_pos e]
theorem set_same {α:Type} {l:List α} {i:Nat} {a:α} (h:l[i]? = some a):l.set i a=l:=by
 apply List.ext_getElem?;intro k;rw [List.getElem?_set]
 split
 ·next e=>
  subst e
  have:=(List.getElem?_eq_some_iff.1 h).1
  rw [if_pos this,h]
 ·rfl
set_option maxRecDepth 100000 in
set_option maxHeartbeats 4000000 in
theorem takes_r (W:World) (n₀ x mb tb:Nat) (ix:Ixp) (mv:Value) (tv lv:Sl) (pz:List Pt) (h:IxIs P W n₀ x ix mb mv tb tv lv pz) (hn:n₀<=W.heap.size) (hlog:ix.logn+ix.ts.length<=800000) (ixE:Ixp) (he:Ixp.takesL ix.ts.length 0 ix=ixE) :
  Calls Tryz.prog 101 #[.pointer (some ⟨x,0,none⟩)] W fun e W'=>e=.returned (.tuple #[])/\(∃ lv',IxIs P W' n₀ x ixE mb mv tb tv lv' pz/\∀ k,lv'.v.ownBlock=some k->lv.v.ownBlock=some k∨W.heap.size<=k)/\Td (fun k=>k=x∨(∃ p,p ∈ pz/\k=p.t)∨lv.v.ownBlock=some k) W W':=by
 obtain ⟨n,hnn⟩:∃ n,ix.ts.length=n:=⟨_,rfl⟩;rw [hnn] at he hlog;have n8:n<=800000:=by omega
 have H:=gh h;have HN:=gh hn;have HLOG:=gh hlog;have HE:=gh he;have HNN:=gh hnn;have tvn:=h.tvn;rw [hnn] at tvn;obtain ⟨tvn1,tvn2⟩:=tvn;clear h hn hlog he hnn;go_enter Tryz.func101,Tryz.ntmps101;go_wp2_with (fail)
 go_loopw [2,3] (fun vi _ wr=>∃ (i:Nat) (ixi:Ixp) (lvi:Sl) (psi:List Pt),vi=.int .i64 (i:Int)/\i<=n/\IxIs P wr n₀ x ixi mb mv tb tv lvi psi/\Td (fun k=>k=x∨(∃ p,p ∈ pz/\k=p.t)∨lv.v.ownBlock=some k) W wr/\ixi.ts.length=n/\(ixi.logn<=ix.logn+i/\psi=pz/\∀ k,lvi.v.ownBlock=some k->lv.v.ownBlock=some k∨W.heap.size<=k)/\Ixp.takesL (n - i) i ixi=ixE) (fun vi _ _=>n - (intOf vi).toNat)
 case atStart=>exact ⟨0,ix,lv,pz,rfl,by omega,H.o,Td.refl _ _,HNN.o,⟨by omega,rfl,fun _ e=>.inl e⟩,by simpa using HE.o⟩
 case round=>
  obtain ⟨i,ixi,lvi,psi,rfl,i1,hI,hT,hl,⟨hg,hps⟩,hk⟩:=hrel;have I:=gh hI;have T:=gh hT;have HL:=gh hl;have HG:=gh (And.intro hg hps);have HK:=gh hk;obtain ⟨⟨c3,c4,c5,_,c7⟩,cf⟩:=hI.cells;clear hI hT hl hg hps hk
  by_cases hi:i < n
  ·obtain ⟨q,hq⟩:∃ q,ixi.ts[i]? = some q:=⟨_,List.getElem?_eq_getElem (by rw [HL.o];exact hi)⟩;obtain ⟨p,hp⟩:∃ p,psi[i]? = some p:=⟨_,List.getElem?_eq_getElem (by rw [I.o.pn,HL.o];exact hi)⟩;have cj:=I.o.slot hp;have j1:(i:Int) < (tv.n:Int):=by omega
   have j2:i < tv.c:=by omega
   have HQ:=gh hq;have HP:=gh hp;obtain ⟨V9,hV9⟩:∃ V9,wr.drew=V9:=⟨_,rfl⟩;have k9:Kept wr V9:=by rw [<- hV9];exact Kept.drew _
   have i9:=I.o.kept k9;have th:=i9.th i q p hq hp;obtain ⟨⟨_,t1,_,_,_,_,_,t7,t8⟩,tf⟩:=th.cells;obtain ⟨⟨e3,_,_,_,_⟩,_⟩:=i9.cells;have f7:=tf 7;obtain ⟨L,hLL⟩:∃ L,q.laid=L:=⟨_,rfl⟩;obtain ⟨a,ha⟩:∃ a,wrap64 (L+4)=a:=⟨_,rfl⟩;obtain ⟨z,hz⟩:∃ z,ixi.m.look a=z:=⟨_,rfl⟩;have CL:Hid (Calls Tryz.prog 120 #[.pointer (some ⟨p.t,0,none⟩)] V9 fun e w'=>e=.returned (.int .i64 L)/\V9=w'):=gh (by
    refine (tlaid_r V9 n₀ p.t q p.fa p.tp p.l th (i9.bz i q hq)).mono ?_;rintro e w' ⟨rfl,rfl⟩;exact ⟨by rw [hLL],rfl⟩)
   have CK:Hid (Calls Tryz.prog 36 #[.pointer (some ⟨mb,0,none⟩),.int .i64 a] V9 fun e w'=>e=.returned (.int .i64 z)/\V9=w'):=gh (by
    refine (look_d V9 n₀ mb mv ixi.m a i9.mem).mono ?_;rintro e w' ⟨rfl,rfl⟩;exact ⟨by rw [hz],rfl⟩)
   have HLL:=gh hLL;have HA:=gh ha;have HZ:=gh hz;have TH:=gh th;have T7:=gh t7;have T8:=gh t8;have I9:=gh i9;have K9:=gh k9;have HV9:=gh hV9;have x1:∀ u:Wd (fun U=>U=V9),u.w.cell? ⟨p.t,1,none⟩=some (.bool q.busy):=fun u=>by rw [u.ok];exact t1
   have x7:∀ u:Wd (fun U=>U=V9),u.w.cell? ⟨p.t,7,none⟩=some (.bool q.took):=fun u=>by rw [u.ok];exact t7
   have xm:∀ u:Wd (fun U=>U=V9),u.w.cell? ⟨x,3,none⟩=some (.pointer (some ⟨mb,0,none⟩)):=fun u=>by rw [u.ok];exact e3
   clear hq hp th tf hLL hz t1 t7 t8 i9 k9 hV9 e3;cases hb:q.busy with
   | false=>
    rw [hb] at x1;have NOE:Hid (q.takes ixi.m=false):=gh (by unfold Tp.takes;rw [hb];rfl);clear hb ha;go_wp2_with (fail);refine region_wide [0,1,2,3,4,5,6,7,8,9,10,11,12,13,14,15,16,17,18,19,20,21,22,23,24,25,26] (fun U=>U=V9) (by kernel_rfl) (by kernel_rfl) HV9.o (fun _=>?_);rw [HV9.o]
    repeat (refine pq rfl rfl ?_;go_big_quiet_step (fail);refine wpQuiet_nil ?_)
    refine ps rfl rfl rfl (Wd.mem rfl) ?_
    go_big_quiet_skip
    refine wpQuiet_nil ?_
    repeat (refine pq rfl rfl ?_;go_big_quiet_step (fail);refine wpQuiet_nil ?_)
    refine ps rfl rfl rfl (Wd.mem rfl) ?_
    go_big_quiet_skip
    refine wpQuiet_nil ?_
    repeat (refine pq rfl rfl ?_;go_big_quiet_step (fail);refine wpQuiet_nil ?_)
    refine ps rfl rfl rfl (Wd.mem rfl) ?_
    go_big_quiet_skip
    refine wpQuiet_nil ?_
    repeat (refine pq rfl rfl ?_;go_big_quiet_step (fail);refine wpQuiet_nil ?_)
    refine perm_done ?_;clear x1 x7 xm;go_wp2;refine ⟨⟨i+1,ixi,lvi,psi,by simp,by omega,I.o.kept K9.o,Kept.behind T.o K9.o,HL.o,⟨by have:=HG.o.1;omega,HG.o.2⟩,?_⟩,by simp [intOf];omega⟩;have hz:=HK.o;rw [show n - i=(n - (i+1))+1 by omega,Ixp.takesL,Ixp.takes1_no HQ.o NOE.o] at hz;exact hz
   | true=>
    rw [hb] at x1;cases ht:q.took with
    | true=>
     rw [ht] at x7;have NOE:Hid (q.takes ixi.m=false):=gh (by unfold Tp.takes;rw [hb,ht];rfl);clear hb ht ha;go_wp2_with (fail);refine region_wide [0,1,2,3,4,5,6,7,8,9,10,11,12,13,14,15,16,17,18,19,20,21,22,23,24,25,26] (fun U=>U=V9) (by kernel_rfl) (by kernel_rfl) HV9.o (fun _=>?_);rw [HV9.o]
     repeat (refine pq rfl rfl ?_;go_big_quiet_step (fail);refine wpQuiet_nil ?_)
     refine ps rfl rfl rfl (Wd.mem rfl) ?_
     go_big_quiet_skip
     refine wpQuiet_nil ?_
     repeat (refine pq rfl rfl ?_;go_big_quiet_step (fail);refine wpQuiet_nil ?_)
     refine ps rfl rfl rfl (Wd.mem rfl) ?_
     go_big_quiet_skip
     refine wpQuiet_nil ?_
     repeat (refine pq rfl rfl ?_;go_big_quiet_step (fail);refine wpQuiet_nil ?_)
     refine ps rfl rfl rfl (Wd.mem rfl) ?_
     go_big_quiet_skip
     refine wpQuiet_nil ?_
     repeat (refine pq rfl rfl ?_;go_big_quiet_step (fail);refine wpQuiet_nil ?_)
     refine perm_done ?_;clear x1 x7 xm;go_wp2;refine ⟨⟨i+1,ixi,lvi,psi,by simp,by omega,I.o.kept K9.o,Kept.behind T.o K9.o,HL.o,⟨by have:=HG.o.1;omega,HG.o.2⟩,?_⟩,by simp [intOf];omega⟩;have hz:=HK.o;rw [show n - i=(n - (i+1))+1 by omega,Ixp.takesL,Ixp.takes1_no HQ.o NOE.o] at hz;exact hz
    | false=>
     rw [ht] at x7
     by_cases l0:0 < L
     ·have g0:decide (0 < L)=true:=by simp [l0]
      by_cases z1:z=1
      ·have YES:Hid (q.takes ixi.m=true):=gh (by unfold Tp.takes;rw [hb,ht,HLL.o,HA.o,HZ.o];simp [l0,z1]);have g1:(z == 1)=true:=by simp [z1]
       have HBT:=gh (And.intro hb ht);clear hb ht z1 l0;go_wp2_with (fail);refine region_wide [0,1,2,3,4,5,6,7,8,9,10,11,12,13,14,15,16,17,18,19,20,21,22,23,24,25,26] (fun U=>U=V9) (by kernel_rfl) (by kernel_rfl) HV9.o (fun _=>?_);rw [HV9.o]
       repeat (refine pq rfl rfl ?_;go_big_quiet_step (fail);refine wpQuiet_nil ?_)
       refine pl rfl rfl ?_;gi_wp2_with (fail);refine ⟨trivial,?_⟩;refine (callsIn_wide.2 CL.o).mono ?_;rintro e U ⟨rfl,rfl⟩;gi_wp2_with (fail);refine ⟨Wd.mem rfl,?_⟩
       repeat (refine pq rfl rfl ?_;go_big_quiet_step (fail);refine wpQuiet_nil ?_)
       refine pl rfl rfl ?_;gi_wp2_with (fail);refine ⟨trivial,?_⟩;refine (callsIn_wide.2 CL.o).mono ?_;rintro e U ⟨rfl,rfl⟩;gi_wp2_with (fail);refine ⟨Wd.mem rfl,?_⟩
       repeat (refine pq rfl rfl ?_;go_big_quiet_step (fail);refine wpQuiet_nil ?_)
       refine pl rfl rfl ?_;gi_wp2_with (fail);refine ⟨trivial,?_⟩;refine (callsIn_wide.2 CK.o).mono ?_;rintro e U ⟨rfl,rfl⟩;gi_wp2_with (fail);refine ⟨Wd.mem rfl,?_⟩
       repeat (refine pq rfl rfl ?_;go_big_quiet_step (fail);refine wpQuiet_nil ?_)
       refine perm_done ?_;clear x1 x7 xm;have t7:=T7.o;have t8:=T8.o;rw [HBT.o.2] at t7;obtain ⟨B1,hB1⟩:∃ B1,V9.setCell ⟨p.t,7,none⟩ (.bool true)=B1:=⟨_,rfl⟩;have tB1:Td (fun k=>k=p.t) V9 B1:=by rw [<- hB1];exact Td.setCell (R:=fun k=>k=p.t) _ _ _ rfl
       have bB1:B1.heap[p.t]? = some (.cells (({ q with took:=true }:Tp).cs p.fa) 102):=by
        rw [<- hB1]
        have:=TH.o.box
        simp [World.setCell,Array.getElem?_modify,this,Tp.cs]
       have i1':=I9.o.number HQ.o HP.o tB1 bB1 rfl rfl;rw [set_same HP.o] at i1';have HB1:=gh hB1;have I1:=gh i1';have TB1:=gh tB1;obtain ⟨V7,hV7⟩:∃ V7,B1.drew=V7:=⟨_,rfl⟩;have k7:Kept B1 V7:=by rw [<- hV7];exact Kept.drew _
       have ix7:=i1'.kept k7;have lt:∀ {y:Nat} {c:Array Value} {T:TypeId},V7.heap[y]? = some (.cells c T)->T≠145->¬ lvi.v.ownBlock=some y:=fun hy e1 e2=>by
        obtain ⟨c',hc⟩:=ix7.log.typed _ e2;rw [hy] at hc;simp at hc;exact e1 hc.2
       have th7:=ix7.th i _ p (by rw [List.getElem?_set];rw [if_pos rfl,if_pos (by rw [HL.o];exact hi)]) HP.o;obtain ⟨⟨_,_,d5,_,d7⟩,df⟩:=ix7.cells;have d8:=th7.cells.1.2.2.2.2.2.2.2.2;have nlx:¬ lvi.v.ownBlock=some x:=lt ix7.box (by decide);have nlt:¬ lvi.v.ownBlock=some p.t:=lt th7.box (by decide);have z2:∀ u:Wd (fun U=>Td (fun k=>lvi.v.ownBlock=some k) V7 U),u.w.cell? ⟨x,5,none⟩=some (.slice lvi.a lvi.n lvi.c):=fun u=>u.ok.cell d5 nlx;have z3:∀ u:Wd (fun U=>Td (fun k=>lvi.v.ownBlock=some k) V7 U),u.w.cell? ⟨x,7,none⟩=some (.int .i64 ixi.picks):=fun u=>u.ok.cell d7 nlx;have z4:∀ u:Wd (fun U=>Td (fun k=>lvi.v.ownBlock=some k) V7 U),u.w.cell? ⟨p.t,8,none⟩=some (.int .i64 q.no):=fun u=>u.ok.cell d8 nlt;have IX7:=gh ix7;have HV7:=gh hV7;have K7:=gh k7;have NLX:=gh nlx;have SZ7:Hid (n₀<=V7.heap.size):=gh (Nat.le_trans HN.o (Nat.le_trans T.o.size (Nat.le_trans K9.o.size (Nat.le_trans tB1.size k7.size))));clear hB1 tB1 bB1 i1' hV7 k7 ix7 lt th7 d5 d7 df d8 nlx nlt;go_wp2_with (fail);rw [HB1.o];refine region_last [0,1,2,3,4,5,6,7,8,9,10,11,12,13,14,15,16,17,18] 19 (fun U=>Td (fun k=>lvi.v.ownBlock=some k) V7 U) (by kernel_rfl) (by kernel_rfl) (by rw [HV7.o];exact Td.refl _ _) (fun _=>?_);rw [HV7.o]
       repeat (refine lq rfl rfl ?_;go_big_quiet_step (fail);refine wpQuiet_nil ?_)
       refine ll rfl rfl ?_;gi_wp2;refine ⟨Wd.mem (Td.alloc _ _ _),?_⟩;refine ll rfl rfl ?_;gi_wp2_with (gi_at_builtin;refine Stop.out ?_);refine ⟨?_⟩;refine wpListIn_append_ev rfl _ _ rfl n₀ lvi.v ixi.logn rfl (IX7.o.log.turned (Td.alloc (fun _=>False) V7 _) (fun _ _ e=>e)) V7.heap.size _ rfl (heap_new _ _) rfl (by simp [Value.oneCell']) (by have:=HLOG.o;have:=HG.o.1;omega) (by have:=SZ7.o;simp;omega) ?_;rintro v9 A1 hlog9 ⟨la9,lc9,rfl⟩ hgrow hat;have TA:Hid (Td (fun k=>lvi.v.ownBlock=some k) V7 A1):=gh (Kept.then (Td.alloc (fun _=>False) V7 _) (Td.of_grownBy (R:=fun k=>lvi.v.ownBlock=some k) hgrow (fun _ h=>h)));have bxA:=TA.o.heap IX7.o.box NLX.o;have cA:A1.cell? ⟨x,5,none⟩=some (.slice lvi.a lvi.n lvi.c):=by simp [World.cell?,bxA,Ixp.cs]
       have gA:A1.frozen? ⟨x,5,none⟩=false:=by simp [World.frozen?,bxA]
       obtain ⟨A2,hA2⟩:∃ A2,A1.setCell ⟨x,5,none⟩ (.slice la9 (ixi.logn+1) lc9)=A2:=⟨_,rfl⟩;have tA2:Td (fun k=>k=x) A1 A2:=by rw [<- hA2];exact Td.setCell (R:=fun k=>k=x) _ _ _ rfl
       have IXE:Hid (IxIs P A2 n₀ x { ixi with ts:=ixi.ts.set i { q with took:=true },logn:=ixi.logn+1 } mb mv tb tv ⟨la9,ixi.logn+1,lc9⟩ psi):=gh (by
        refine IX7.o.boxed (ix':={ ixi with ts:=ixi.ts.set i { q with took:=true },logn:=ixi.logn+1 }) (TA.o.trans tA2 (fun _ e=>.inr e) (fun _ _ e=>.inl e)) ?_ rfl rfl (hlog9.turned tA2 (fun g e e'=>?_))
        ·rw [<- hA2];simp [World.setCell,Array.getElem?_modify,bxA,Ixp.cs]
        ·obtain ⟨c,hc⟩:=hlog9.typed g e;rw [e',bxA] at hc;simp at hc)
       have TE:Hid (Td (fun k=>k=x∨(∃ p,p ∈ pz/\k=p.t)∨lv.v.ownBlock=some k) W A2):=gh (((T.o.trans (K9.o.then TB1.o) (fun _ e=>e) (fun k _ e=>.inr (.inl ⟨p,HG.o.2.1 ▸ List.mem_of_getElem? HP.o,e⟩))).trans (K7.o.then (TA.o.trans tA2 (R'':=fun k=>lvi.v.ownBlock=some k∨k=x) (fun _ e=>.inl e) (fun _ _ e=>.inr e))) (fun _ e=>e) (fun k hk e=>by
        rcases e with e | e
        ·rcases HG.o.2.2 k e with e | e
         ·exact .inr (.inr e)
         ·omega
        ·exact .inl e)))
       have LV9:Hid (∀ k,(⟨la9,ixi.logn+1,lc9⟩:Sl).v.ownBlock=some k->lv.v.ownBlock=some k∨W.heap.size<=k):=gh (fun k e=>by
        have e':(Value.slice la9 (ixi.logn+1) lc9).ownBlock=some k:=e;rcases hat with hat | hat
        ·exact HG.o.2.2 k (hat ▸ e')
        ·rw [hat] at e';cases e';exact .inr (by have:=T.o.size;have:=K9.o.size;have:=TB1.o.size;have:=K7.o.size;simp;omega))
       have HA2:=gh hA2;clear hlog9 hgrow hat hA2 tA2 bxA;gi_wp2;refine ⟨Wd.mem TA.o,?_⟩;simp only [Act.put,List.setIfInBounds_toArray,List.set_cons_succ,List.set_cons_zero]
       repeat (refine lq rfl rfl ?_;go_big_quiet_step (fail);refine wpQuiet_nil ?_)
       refine lz rfl ?_;gi_wp2;refine last_done ?_;rw [HA2.o];clear z2 z3 z4 cA gA;go_wp2;refine ⟨⟨i+1,_,_,psi,by simp,by omega,IXE.o,TE.o,by simp [HL.o],⟨by have:=HG.o.1;simp;omega,HG.o.2.1,LV9.o⟩,?_⟩,by simp [intOf];omega⟩;have hz:=HK.o;rw [show n - i=(n - (i+1))+1 by omega,Ixp.takesL,Ixp.takes1_yes HQ.o YES.o] at hz;exact hz
      ·have NOE:Hid (q.takes ixi.m=false):=gh (by unfold Tp.takes;rw [hb,ht,HLL.o,HA.o,HZ.o];simp [z1]);have g1:(z == 1)=false:=by simp [z1]
       clear hb ht z1 l0;go_wp2_with (fail);refine region_wide [0,1,2,3,4,5,6,7,8,9,10,11,12,13,14,15,16,17,18,19,20,21,22,23,24,25,26] (fun U=>U=V9) (by kernel_rfl) (by kernel_rfl) HV9.o (fun _=>?_);rw [HV9.o]
       repeat (refine pq rfl rfl ?_;go_big_quiet_step (fail);refine wpQuiet_nil ?_)
       refine pl rfl rfl ?_;gi_wp2_with (fail);refine ⟨trivial,?_⟩;refine (callsIn_wide.2 CL.o).mono ?_;rintro e U ⟨rfl,rfl⟩;gi_wp2_with (fail);refine ⟨Wd.mem rfl,?_⟩
       repeat (refine pq rfl rfl ?_;go_big_quiet_step (fail);refine wpQuiet_nil ?_)
       refine pl rfl rfl ?_;gi_wp2_with (fail);refine ⟨trivial,?_⟩;refine (callsIn_wide.2 CL.o).mono ?_;rintro e U ⟨rfl,rfl⟩;gi_wp2_with (fail);refine ⟨Wd.mem rfl,?_⟩
       repeat (refine pq rfl rfl ?_;go_big_quiet_step (fail);refine wpQuiet_nil ?_)
       refine pl rfl rfl ?_;gi_wp2_with (fail);refine ⟨trivial,?_⟩;refine (callsIn_wide.2 CK.o).mono ?_;rintro e U ⟨rfl,rfl⟩;gi_wp2_with (fail);refine ⟨Wd.mem rfl,?_⟩
       repeat (refine pq rfl rfl ?_;go_big_quiet_step (fail);refine wpQuiet_nil ?_)
       refine perm_done ?_;clear x1 x7 xm;go_wp2;refine ⟨⟨i+1,ixi,lvi,psi,by simp,by omega,I.o.kept K9.o,Kept.behind T.o K9.o,HL.o,⟨by have:=HG.o.1;omega,HG.o.2⟩,?_⟩,by simp [intOf];omega⟩;have hz:=HK.o;rw [show n - i=(n - (i+1))+1 by omega,Ixp.takesL,Ixp.takes1_no HQ.o NOE.o] at hz;exact hz
     ·have NOE:Hid (q.takes ixi.m=false):=gh (by unfold Tp.takes;rw [hb,ht,HLL.o];simp;omega);have g0:decide (0 < L)=false:=by simp;omega
      clear hb ht ha l0;go_wp2_with (fail);refine region_wide [0,1,2,3,4,5,6,7,8,9,10,11,12,13,14,15,16,17,18,19,20,21,22,23,24,25,26] (fun U=>U=V9) (by kernel_rfl) (by kernel_rfl) HV9.o (fun _=>?_);rw [HV9.o]
      repeat (refine pq rfl rfl ?_;go_big_quiet_step (fail);refine wpQuiet_nil ?_)
      refine pl rfl rfl ?_;gi_wp2_with (fail);refine ⟨trivial,?_⟩;refine (callsIn_wide.2 CL.o).mono ?_;rintro e U ⟨rfl,rfl⟩;gi_wp2_with (fail);refine ⟨Wd.mem rfl,?_⟩
      repeat (refine pq rfl rfl ?_;go_big_quiet_step (fail);refine wpQuiet_nil ?_)
      refine ps rfl rfl rfl (Wd.mem rfl) ?_
      go_big_quiet_skip
      refine wpQuiet_nil ?_
      repeat (refine pq rfl rfl ?_;go_big_quiet_step (fail);refine wpQuiet_nil ?_)
      refine ps rfl rfl rfl (Wd.mem rfl) ?_
      go_big_quiet_skip
      refine wpQuiet_nil ?_
      repeat (refine pq rfl rfl ?_;go_big_quiet_step (fail);refine wpQuiet_nil ?_)
      refine perm_done ?_;clear x1 x7 xm;go_wp2;refine ⟨⟨i+1,ixi,lvi,psi,by simp,by omega,I.o.kept K9.o,Kept.behind T.o K9.o,HL.o,⟨by have:=HG.o.1;omega,HG.o.2⟩,?_⟩,by simp [intOf];omega⟩;have hz:=HK.o;rw [show n - i=(n - (i+1))+1 by omega,Ixp.takesL,Ixp.takes1_no HQ.o NOE.o] at hz;exact hz
  ·have hz:=HK.o;rw [show n - i=0 by omega] at hz;have hz':ixi=ixE:=hz;subst hz';have hps:=HG.o.2.1;have hlv:=HG.o.2.2;subst hps;have j1:¬ ((i:Int) < (tv.n:Int)):=by omega
   clear HK HG;go_wp2
   go_end0
   exact ⟨rfl,⟨_,I.o,hlv⟩,T.o⟩
end
section
section
variable {P:Program} {ops:Array Oper} {Q:Exit->Act->World->Prop} {md:Region.Mode} {C:World->Prop} {n:Nat}
def wpFork (P:Program) (ops:Array Oper) (Q:Exit->Act->World->Prop) (C:World->Prop) (n i k:Nat) (is js:List Nat):List Nat->Act->World->Prop
 | [],a,w=>wpOpIn Fence.wide n P ops Q i (fun a' w'=>C w'/\wpPerm P ops Q C n is a' w') a w/\wpOpIn Fence.wide n P ops Q k (fun a' w'=>C w'/\wpPerm P ops Q C n js a' w') a w
 | p :: ps,a,w=>match ops[p]? with
  | none=>False
  | some o=>∃ v,YieldsIf P ops C o v a/\wpFork P ops Q C n i k is js ps (a.put o.dst v) w
def forkB (md:Region.Mode) (ops:Array Oper) (i k:Nat) (is js:List Nat):List Nat->Array Bool->Bool
 | [],listed=>Region.ready md ops listed == [i,k] && is.length == js.length && permB md ops is (listed.setIfInBounds i true) && permB md ops js (listed.setIfInBounds k true)
 | p :: ps,listed=>(match ops[p]? with | none=>false | some o=>plainOp o.op && (Region.ready md ops listed).contains p && Region.free md ops listed p) && forkB md ops i k is js ps (listed.setIfInBounds p true)
theorem fork_any {i k:Nat} {is js:List Nat} (hs:Region.noSelect ops=true) (hQ:∀ c a d v w,Q (.panic c) (Act.put a d v) w->Q (.panic c) a w):∀ (ps:List Nat) (listed:Array Bool) (a:Act) (w:World),C w->forkB md ops i k is js ps listed=true->wpFork P ops Q C n i k is js ps a w->anyC P md ops Q C n (ps.length+(is.length+1)) listed a w
 | [],listed,a,w,_,hB,h=>by
  simp only [forkB,Bool.and_eq_true,beq_iff_eq] at hB;obtain ⟨⟨⟨hr,hl⟩,hB1⟩,hB2⟩:=hB;simp only [List.length_nil,Nat.zero_add];refine ⟨fun h0=>(by rw [hr] at h0;cases h0),fun j hj=>?_⟩;rw [hr] at hj;have hj':j=i∨j=k:=by simpa using hj
  rcases hj' with rfl | rfl
  ·exact wpOpIn_mono (fun a' w' h'=>⟨h'.1,perm_any hs hQ is _ _ _ h'.1 hB1 h'.2⟩) h.1
  ·rw [hl];exact wpOpIn_mono (fun a' w' h'=>⟨h'.1,perm_any hs hQ js _ _ _ h'.1 hB2 h'.2⟩) h.2
 | p :: ps,listed,a,w,hC,hB,h=>by
  simp only [forkB,Bool.and_eq_true] at hB;obtain ⟨hB1,hB2⟩:=hB;unfold wpFork at h;cases ho:ops[p]? with
  | none=>simp [ho] at hB1
  | some o=>
   simp only [ho,Bool.and_eq_true] at hB1 h;obtain ⟨⟨hp,hr⟩,hf⟩:=hB1;obtain ⟨v,hy,hk⟩:=h;have hr':p ∈ Region.ready md ops listed:=by simpa using hr
   rw [List.length_cons,Nat.add_right_comm];exact anyC_first ho (Region.noSelect_spec hs) (fun c a w=>hQ c a _ v w) _ listed a w (Region.free_spec ho hf) hr' hy hC (fork_any hs hQ ps _ _ _ hC hB2 hk)
end
section
variable {P:Program} {l:List Oper} {Q:Exit->Act->World->Prop} {C:World->Prop} {n:Nat} {i k p:Nat} {is js ps:List Nat} {o o':Oper} {a:Act} {w:World}
theorem fq (ho:nth l p=some o) (hp:plainOp o.op=true) (h:wpQuiet P l.toArray C (fun a'=>wpFork P l.toArray Q C n i k is js ps a' w) [o] a):wpFork P l.toArray Q C n i k is js (p :: ps) a w:=by
 unfold wpFork;simp only [(nth_eq l p).trans ho];unfold wpQuiet at h
 by_cases hw:Region.wanted o (yielded l.toArray a.tmps)=true
 ·rw [if_pos hw] at h;obtain ⟨v,hv,hk⟩:=h;refine ⟨v,.inl ⟨hw,fun w1 hC=>?_⟩,hk⟩;have h1:=hv w1 hC;unfold Oper.quietAt at h1;cases hr:(execOp a.eval o).run P w1 with
  | ok x w'=>
   rw [hr] at h1;obtain ⟨u,rfl⟩:=plain_value hp hr;simp only [Oper.quietUpon] at h1;rw [h1.1,h1.2]
  | halt x w'=>rw [hr] at h1;exact h1.elim
 ·rw [if_neg hw] at h;exact ⟨undef,.inr ⟨by simpa using hw,rfl⟩,h⟩
theorem fl (ho:nth l i=some o) (ho':nth l k=some o') (h:wpListIn Fence.wide n P l.toArray (Exit.then (fun a' w'=>C w'/\wpPerm P l.toArray Q C n is a' w') Q) [o] a w) (h':wpListIn Fence.wide n P l.toArray (Exit.then (fun a' w'=>C w'/\wpPerm P l.toArray Q C n js a' w') Q) [o'] a w):wpFork P l.toArray Q C n i k is js [] a w:=
 ⟨loud_list ho h,loud_list ho' h'⟩
end
theorem region_fork {P:Program} {ops:Array Oper} {Q:Exit->Act->World->Prop} {id:Nat} {a:Act} {w:World} (ps:List Nat) (i k:Nat) (is js:List Nat) (S:World->Prop) (hm:P.follows .mixedOrders=true)
  (hB:(Region.noSelect ops && ps.length+(is.length+1) == ops.size && forkB .any ops i k is js ps (Array.replicate ops.size false))=true)
  (hS:S w.drew) (h:Nonempty (Wd S)->wpFork P ops (calm Q) (fun w'=>∃ x:Wd S,w'=x.w) 10 i k is js ps a w.drew):(Code.region id ops true).wp P Q a w:=by
 simp only [Bool.and_eq_true,beq_iff_eq] at hB
 have:=fork_any (md:=.any) hB.1.1 (fun _ _ _ _ _ h=>h) ps _ a _ (Wd.mem hS) hB.2 (h ⟨⟨_,hS⟩⟩)
 rw [hB.1.2] at this;exact (wpIn_wide (n:=10)).1 (Go.wpIn_mono (wpIn_region_any hm (wpAnyIn_of_anyC _ _ _ _ this)) (fun _ _ _ h=>calm_imp h))
end
section
open Go.Shelf
variable {P:Nat->Prop}
attribute [local go_sem] Oper.semAt_some
theorem Ixp.takes1_keeps (ix:Ixp) (i:Nat):(ix.takes1 i).ts.length=ix.ts.length/\(ix.takes1 i).logn<=ix.logn+1/\(ix.takes1 i).m=ix.m:=by
 unfold takes1
 split
 ·split
  ·exact ⟨by simp,by simp,rfl⟩
  ·exact ⟨rfl,by omega,rfl⟩
 ·exact ⟨rfl,by omega,rfl⟩
theorem Ixp.takesL_keeps:∀ (c i:Nat) (ix:Ixp),(Ixp.takesL c i ix).ts.length=ix.ts.length/\(Ixp.takesL c i ix).logn<=ix.logn+c/\(Ixp.takesL c i ix).m=ix.m
 | 0,_,ix=>⟨rfl,by simp [Ixp.takesL],rfl⟩
 | c+1,i,ix=>by
  obtain ⟨a1,a2,a3⟩:=Ixp.takes1_keeps ix i;obtain ⟨b1,b2,b3⟩:=Ixp.takesL_keeps c (i+1) (ix.takes1 i);refine ⟨by rw [Ixp.takesL,b1,a1],by rw [Ixp.takesL];omega,by rw [Ixp.takesL,b3,a3]⟩
theorem Tp.step_fr {q:Tp} {p:Fp} {m:Mst} {r:(Rs × List (Int × Int)) × Bool} {q':Tp} {m':Mst} (h:q.step p m=(r,(q',m'))):∃ p',q'.fr=some p':=by
 unfold Tp.step at h
 split at h
 ·have:=(Prod.mk.inj (Prod.mk.inj h).2).1
  exact ⟨_,by rw [<- this]⟩
 ·have:=(Prod.mk.inj (Prod.mk.inj h).2).1
  exact ⟨_,by rw [<- this]⟩
theorem Tp.step_none {q:Tp} {p:Fp} {m:Mst} {r:Rs} {L:List (Int × Int)} {z:Tp × Mst} (h:q.step p m=(((r,L),false),z)):r=Rs.none/\L=[]:=by
 unfold Tp.step at h
 split at h
 ·have:=(Prod.mk.inj (Prod.mk.inj h).1).2
  cases this
 ·have:=(Prod.mk.inj (Prod.mk.inj (Prod.mk.inj h).1).1)
  exact ⟨this.1.symm,this.2.symm⟩
def Ixp.pick1 (ix:Ixp) (j:Nat) (q1:Tp) (m1:Mst):Ixp:={ ix with m:=m1,ts:=ix.ts.set j q1,picks:=wrap64 (ix.picks+1) }
set_option maxRecDepth 100000 in
set_option maxHeartbeats 4000000 in
theorem pick_r (W:World) (n₀ x mb tb:Nat) (ix:Ixp) (mv:Value) (tv lv:Sl) (pz:List Pt) (h:IxIs P W n₀ x ix mb mv tb tv lv pz) (j:Nat) (q:Tp) (pt:Pt) (p:Fp) (hq:ix.ts[j]? = some q) (hp:pz[j]? = some pt) (hb:q.busy=true) (hfr:q.fr=some p) (hlen:p.tape.length<=15990) (hn:n₀<=W.heap.size) (hlog:ix.logn+ix.ts.length<=800000)
  (r:Rs) (L:List (Int × Int)) (b:Bool) (q1:Tp) (m1:Mst) (hs:q.step p ix.m=(((r,L),b),(q1,m1))) (hm1:m1.ok) (ix2:Ixp) (he:Ixp.takesL ix.ts.length 0 (ix.pick1 j q1 m1)=ix2) :
  Calls Tryz.prog 61 #[.pointer (some ⟨x,0,none⟩),.int .i64 (j:Int)] W fun e W'=>(∃ l',e=.returned (.tuple #[.agg (r.cs l'),.bool b])/\PRow W' n₀ 59 l' L)/\(∃ mv' lv' pz',IxIs P W' n₀ x { ix2 with logn:=ix2.logn+(if b=true then 1 else 0) } mb mv' tb tv lv' pz')/\Td (Mine P W n₀) W W':=by
 obtain ⟨mo,hmo⟩:∃ m,W.heap.size=m:=⟨_,rfl⟩;obtain ⟨Z,hZ⟩:∃ Z:Obj,Z=.cells #[.int .i64 0,.bool false,.int .i64 0,.int .i64 0,.int .i64 0,.slice none 0 0] 61:=⟨_,rfl⟩;obtain ⟨A,hA⟩:∃ A,(W.alloc (.cells #[.int .i64 0,.bool false,.int .i64 0,.int .i64 0,.int .i64 0,.slice none 0 0] 61)).setCell ⟨x,7,none⟩ (.int .i64 (wrap64 (ix.picks+1)))=A:=⟨_,rfl⟩;have tA:Td (fun k=>k=x) W A:=by
  rw [<- hA];exact Kept.then (Td.alloc _ _ _) (Td.setCell (R:=fun k=>k=x) _ _ _ rfl)
 have xb:=h.box;have kM:Kept W (W.alloc (.cells #[.int .i64 0,.bool false,.int .i64 0,.int .i64 0,.int .i64 0,.slice none 0 0] 61)):=Td.alloc _ _ _;have bA:A.heap[x]? = some (.cells (({ ix with picks:=wrap64 (ix.picks+1) }:Ixp).cs mb tv lv) 35):=by
  rw [<- hA]
  have:=kM.heap xb id
  simp [World.setCell,Array.getElem?_modify,this,Ixp.cs]
 have rA:A.heap[mo]? = some (.cells #[.int .i64 0,.bool false,.int .i64 0,.int .i64 0,.int .i64 0,.slice none 0 0] 61):=by
  have h1:=heap_new W (.cells #[.int .i64 0,.bool false,.int .i64 0,.int .i64 0,.int .i64 0,.slice none 0 0] 61);rw [hmo] at h1;have h2:mo≠x:=by have:=(Array.getElem?_eq_some_iff.1 xb).1;omega
  rw [<- hA];exact (Td.setCell (R:=fun k=>k=x) _ _ _ rfl).heap h1 h2
 have iA:IxIs P A n₀ x { ix with picks:=wrap64 (ix.picks+1) } mb mv tb tv lv pz:=h.boxed (ix':={ ix with picks:=wrap64 (ix.picks+1) }) (tA.mono fun _ _ e=>.inl e) bA rfl rfl (h.log.turned tA (fun g e e'=>by
  obtain ⟨c,hc⟩:=h.log.typed g e;rw [e',xb] at hc;simp at hc))
 obtain ⟨V,hV⟩:∃ V,A.drew=V:=⟨_,rfl⟩;have kV:Kept A V:=by rw [<- hV];exact Kept.drew _
 have iV:=iA.kept kV;have th:=iV.th j q pt hq hp;obtain ⟨f,hf⟩:∃ f,pt.fa=some f:=by
  rcases th.fr with ⟨_,h2,_⟩ | ⟨f,_,h1,_,_⟩
  ·rw [hfr] at h2;cases h2
  ·exact ⟨f,h1⟩
 have thf:ThIs V n₀ pt.t q (some f) pt.tp pt.l:=by rw [<- hf];exact th
 have xl:x < W.heap.size:=(Array.getElem?_eq_some_iff.1 xb).1;have CT:∀ X,Kept V X->Calls Tryz.prog 100 #[.pointer (some ⟨pt.t,0,none⟩),.pointer (some ⟨mb,0,none⟩)] X fun e W'=>∃ tp' l',e=.returned (.tuple #[.agg (r.cs l'),.bool b])/\PRow W' n₀ 59 l' L/\Stept X n₀ pt.t f mb pt.tp mv q1 m1 tp' W':=fun X kX=>by
  have iX:=iV.kept kX;have thX:=iX.th j q pt hq hp;rw [hf] at thX;exact tstep_r X n₀ pt.t f q p pt.tp pt.l mb mv ix.m thX hb hfr iX.mem iX.mok (iX.da j pt hp) (Nat.le_trans hn (Nat.le_trans tA.size (Nat.le_trans kV.size kX.size))) hlen r L b q1 m1 hs
 obtain ⟨⟨c3,c4,_,_,c7⟩,cf⟩:=h.cells;obtain ⟨⟨e3,e4,_,_,_⟩,_⟩:=iV.cells;have ej:=iV.slot hp;have cj:=h.slot hp;have cb:=(h.th j q pt hq hp).cells.1.2.1;rw [hb] at cb;have k1:∀ o,Kept W (W.alloc o):=fun o=>Td.alloc _ _ _;have w4:∀ o,(W.alloc o).cell? ⟨x,4,none⟩=some (.slice (some ⟨tb,0,none⟩) tv.n tv.c):=fun o=>(k1 o).cell c4 id;have w7:∀ o,(W.alloc o).cell? ⟨x,7,none⟩=some (.int .i64 ix.picks):=fun o=>(k1 o).cell c7 id;have wj:∀ o,(W.alloc o).cell? ⟨tb,j,none⟩=some (.pointer (some ⟨pt.t,0,none⟩)):=fun o=>(k1 o).cell cj id;have wb:∀ o,(W.alloc o).cell? ⟨pt.t,1,none⟩=some (.bool true):=fun o=>(k1 o).cell cb id;have wf:∀ o,(W.alloc o).frozen? ⟨x,7,none⟩=false:=fun o=>by rw [(k1 o).frozen (by simp only;omega) id];exact cf 7
 have nox:¬ Own pt mb mv x:=own_type th iV.mem iV.box (by decide) (by decide) (by decide) (by decide);have notb:¬ Own pt mb mv tb:=by
  obtain ⟨c,h1,_⟩:=iV.row;exact own_type th iV.mem h1 (by decide) (by decide) (by decide) (by decide)
 have rV:=kV.heap rA id;have nomo:¬ Own pt mb mv mo:=own_type th iV.mem rV (by decide) (by decide) (by decide) (by decide);have x3:∀ u:Wd (fun U=>Td (Own pt mb mv) V U),u.w.cell? ⟨x,3,none⟩=some (.pointer (some ⟨mb,0,none⟩)):=fun u=>u.ok.cell e3 nox;have x4:∀ u:Wd (fun U=>Td (Own pt mb mv) V U),u.w.cell? ⟨x,4,none⟩=some (.slice (some ⟨tb,0,none⟩) tv.n tv.c):=fun u=>u.ok.cell e4 nox;have xj:∀ u:Wd (fun U=>Td (Own pt mb mv) V U),u.w.cell? ⟨tb,j,none⟩=some (.pointer (some ⟨pt.t,0,none⟩)):=fun u=>u.ok.cell ej notb;have jl:j < ix.ts.length:=(List.getElem?_eq_some_iff.1 hq).1;have j1:(j:Int) < (tv.n:Int):=by have:=h.tvn.1;omega
 have j2:j < tv.c:=by have:=h.tvn;omega
 have j0:decide ((j:Int) < 0)=false:=by simp
 have j3:decide ((tv.n:Int)<=(j:Int))=false:=by simp;omega
 have HOWN:Hid (∀ k,Own pt mb mv k->n₀<=k):=gh (by
  rintro k (e | e | e | e)
  ·rw [e];exact th.le
  ·rcases th.fr with ⟨h1,_⟩ | ⟨f',p',h1,h2,F⟩
   ·rw [h1] at e;cases e
   ·rw [h1] at e;cases e;exact F.le
  ·rcases th.fr with ⟨_,_,h3⟩ | ⟨f',p',h1,h2,F⟩
   ·rw [h3] at e;simp [Sl.nil,Sl.v,Value.ownBlock] at e
   ·exact (F.row.lt k e).1
  ·exact (iV.mem.lt k e).1)
 have HCT:=gh CT;have HA:=gh hA;have HV:=gh hV;have TA:=gh tA;have KV:=gh kV;have IV:=gh iV;have HQ:=gh hq;have HP:=gh hp;have HF:=gh hf;have RV:=gh rV;have NOMO:=gh nomo;have HN:=gh hn;have HLOG:=gh hlog;have HS:=gh hs;have HM1:=gh hm1;have HE:=gh he;have HMI:Hid (Mines P W n₀ x mb mv lv pz/\pt ∈ pz):=gh ⟨h.mines,List.mem_of_getElem? hp⟩;have XL:Hid (x < W.heap.size/\n₀<=x/\W.heap.size=mo):=gh ⟨xl,h.le,hmo⟩;have JL:=gh jl;clear h hq hp hb hfr hlen hn hlog hs hm1 he hmo hZ hA tA xb bA rA kM iA hV kV iV th hf thf xl CT c3 c4 c7 cf e3 e4 ej cj cb k1 nox notb rV nomo jl;go_enter Tryz.func61,Tryz.ntmps61;go_wp2_with (fail);rw [HA.o,XL.o.2.2];obtain ⟨r0,r1,r2,r3,r4⟩:=r;refine region_fork [0,1,2,3,4,5,6,7,8,9,10] 11 15 [12,13,14,15,16,17] [11,12,13,14,16,17] (fun U=>Td (Own pt mb mv) V U) (by kernel_rfl) (by kernel_rfl) (by rw [HV.o];exact Td.refl _ _) (fun _=>?_);rw [HV.o]
 repeat (refine fq rfl rfl ?_;go_big_quiet_step (fail);refine wpQuiet_nil ?_)
 refine fl rfl rfl ?_ ?_
 ·gi_wp2_with (fail);refine ⟨trivial,?_⟩;have KV0:Kept V V:=Td.refl _ _;refine (callsIn_wide.2 (HCT.o V KV0)).mono ?_;rintro e U ⟨tp',l0,rfl,PR,ST⟩;obtain ⟨la,ln,lc,hl'⟩:∃ la ln lc,l0=.slice la ln lc:=by
   obtain ⟨a,cap,e,_⟩:=PR.reads;exact ⟨_,_,_,e⟩
  subst hl';have HPR:=gh PR;have TU:Hid (Td (Own pt mb mv) V U):=gh (ST.turned.mono fun k _ e=>by
   rcases e with e | e | e | e
   ·exact .inl e
   ·exact .inr (.inl (by rw [e];exact HF.o))
   ·exact .inr (.inr (.inl e))
   ·exact .inr (.inr (.inr e)))
  have IX:=IV.o.kept KV0;obtain ⟨⟨l2,TH⟩,⟨mv',D',AP,FT⟩,_,NEW⟩:=ST;obtain ⟨P',hP'⟩:∃ P':Pt,P'=⟨pt.t,some f,tp',l2⟩:=⟨_,rfl⟩;have IU:Hid (IxIs P U n₀ x (ix.pick1 j q1 m1) mb mv' tb tv lv (pz.set j P')):=gh (by
   subst hP';exact IX.thread HQ.o HP.o (p':=⟨pt.t,some f,tp',l2⟩) TH rfl D' HM1.o TU.o (fun f' e=>.inl (by rw [HF.o];exact e)) NEW FT AP (fun _=>Tp.step_fr HS.o))
  have HPT:Hid (P'.t=pt.t):=gh (by rw [hP']);have OU:=gh (TU.o.heap (KV0.heap RV.o id) NOMO.o);clear PR TH D' AP FT NEW hP' IX;dsimp only [Rs.cs];gi_wp2_with (fail);refine ⟨Wd.mem TU.o,?_⟩
  repeat (refine pq rfl rfl ?_;go_big_quiet_step (fail);refine wpQuiet_nil ?_)
  refine pl rfl rfl ?_;gi_wp2;obtain ⟨mr,hmr⟩:∃ m,U.heap.size=m:=⟨_,rfl⟩;obtain ⟨U1,hU1⟩:∃ U1,U.alloc (.cells #[.int .i64 0,.bool false,.int .i64 0,.int .i64 0,.int .i64 0,.slice none 0 0] 61)=U1:=⟨_,rfl⟩;have kU1:Kept U U1:=by rw [<- hU1];exact Td.alloc _ _ _
  have rU1:U1.heap[mr]? = some (.cells #[.int .i64 0,.bool false,.int .i64 0,.int .i64 0,.int .i64 0,.slice none 0 0] 61):=by rw [<- hU1,<- hmr];exact heap_new _ _
  have KT:Hid (Td (Own pt mb mv) V U1):=gh (TU.o.trans kU1 (fun _ e=>e) (fun _ _ e=>e.elim));have HM:Hid (V.heap.size<=mr):=gh (by have:=TU.o.size;omega);have HPR1:=gh (HPR.o.turned kU1 (fun _ _ e=>e));have IU1:=gh (IU.o.kept kU1);have OU1:=gh (kU1.heap OU.o id);rw [hU1,hmr];refine ⟨Wd.mem KT.o,?_⟩;clear IU OU HPR hmr hU1 kU1 TU KV0;obtain ⟨d0,d1,d2,d3,d4,d5,df⟩:=cells6 rU1;have f0:=df 0;have f1:=df 1;have f2:=df 2;have f3:=df 3;have f4:=df 4;have f5:=df 5;obtain ⟨U6,hU6⟩:∃ U6,((((((U1.setCell ⟨mr,0,none⟩ (.int .i64 r0)).setCell ⟨mr,1,none⟩ (.bool r1)).setCell ⟨mr,2,none⟩ (.int .i64 r2)).setCell ⟨mr,3,none⟩ (.int .i64 r3)).setCell ⟨mr,4,none⟩ (.int .i64 r4)).setCell ⟨mr,5,none⟩ (.slice la ln lc))=U6:=⟨_,rfl⟩;have t6:Td (fun k=>k=mr) U1 U6:=by rw [<- hU6];exact (put6 rU1 _ _ _ _ _ _).2
  have r6:U6.heap[mr]? = some (.cells #[.int .i64 r0,.bool r1,.int .i64 r2,.int .i64 r3,.int .i64 r4,.slice la ln lc] 61):=by rw [<- hU6];exact (put6 rU1 _ _ _ _ _ _).1
  have RU1:=gh rU1;have T6:=gh t6;have R6:=gh r6;have HU6:=gh hU6;clear rU1 df t6 r6 hU6;refine pl rfl rfl ?_;gi_wp2;rw [HU6.o];refine ⟨Wd.mem (KT.o.trans T6.o (fun _ e=>e) (fun k hk e=>by have:=HM.o;omega)),?_⟩
  try dsimp only [Act.put]
  repeat (refine pq rfl rfl ?_;go_big_quiet_step (fail);refine wpQuiet_nil ?_)
  refine perm_done ?_;clear x3 x4 xj d0 d1 d2 d3 d4 d5 f0 f1 f2 f3 f4 f5;have i6:=IU1.o.answer RU1.o T6.o;have pl6:(ix.pick1 j q1 m1).ts.length=ix.ts.length:=by simp [Ixp.pick1]
  have nmr:mo≠mr:=fun e=>by
   have h1:=(Array.getElem?_eq_some_iff.1 RV.o).1
   have:=HM.o
   omega
  have o6:=T6.o.heap OU1.o nmr;have PR6:PRow U6 n₀ 59 (.slice la ln lc) L:=HPR1.o.turned T6.o (fun g e e'=>by
   obtain ⟨c,hc⟩:=HPR1.o.typed g e;rw [e',RU1.o] at hc;simp at hc)
  have T0:Hid (Td (Mine P W n₀) W U6):=gh (((TA.o.trans KV.o (R'':=Mine P W n₀) (fun k e=>by rw [e];exact HMI.o.1.box) (fun _ _ e=>e.elim)).trans KT.o (fun _ e=>e) (fun k _ e=>(HMI.o.1.th pt HMI.o.2).2 k e)).trans T6.o (fun _ e=>e) (fun k hk e=>absurd hk (by
   have h2:=HN.o;have h3:=TA.o.size;have h4:=KV.o.size
   have:=HM.o
   omega)))
  have CT7:=gh (takes_r U6 n₀ x mb tb (ix.pick1 j q1 m1) mv' tv lv (pz.set j P') i6 (Nat.le_trans HN.o T0.o.size) (by rw [pl6];exact HLOG.o) ix2 (by rw [pl6];exact HE.o));have I6:=gh i6;have O6:=gh o6;have HPR6:=gh PR6;have NMR:=gh nmr;have PL6:=gh pl6;clear i6 pl6 nmr o6 PR6;go_wp2_with (fail);refine CT7.o.mono ?_;rintro e U7 ⟨rfl,⟨lv7,i7,hlv7⟩,T7⟩;have apart:∀ {y:Nat} {c:Array Value} {T:TypeId},U6.heap[y]? = some (.cells c T)->T≠35->T≠102->T≠145->¬ (y=x∨(∃ p,p ∈ pz.set j P'/\y=p.t)∨lv.v.ownBlock=some y):=fun {y c T} hy e1 e2 e3=>by
   rintro (e | ⟨p,hp,e⟩ | e)
   ·have:=I6.o.box
    rw [<- e,hy] at this;simp at this;exact e1 this.2
   ·obtain ⟨i,hi,hi'⟩:=List.getElem_of_mem hp;have h1:(pz.set j P')[i]? = some p:=by rw [List.getElem?_eq_getElem hi,hi']
    have h2:i < (ix.pick1 j q1 m1).ts.length:=by rw [<- I6.o.pn];exact hi
    have:=(I6.o.th i _ p (List.getElem?_eq_getElem h2) h1).box
    rw [<- e,hy] at this;simp at this;exact e2 this.2
   ·obtain ⟨c',hc⟩:=I6.o.log.typed y e;rw [hy] at hc;simp at hc;exact e3 hc.2
  have o7:=T7.heap O6.o (apart O6.o (by decide) (by decide) (by decide));have r7:=T7.heap R6.o (apart R6.o (by decide) (by decide) (by decide));have HPR7:=gh (HPR6.o.turned T7 (fun g e=>by
   obtain ⟨c,hc⟩:=HPR6.o.typed g e;exact apart hc (by decide) (by decide) (by decide)))
  have T07:Hid (Td (Mine P W n₀) W U7):=gh (T0.o.trans T7 (fun _ e=>e) (fun k _ e=>by
   rcases e with e | ⟨p,hp,e⟩ | e
   ·rw [e];exact HMI.o.1.box
   ·rw [e];rcases List.mem_or_eq_of_mem_set hp with hp | rfl
    ·exact (HMI.o.1.th p hp).1
    ·rw [HPT.o];exact (HMI.o.1.th pt HMI.o.2).1
   ·exact HMI.o.1.log k e))
  have HLV7:=gh hlv7;have I7:=gh i7;have O7:=gh o7;have R7:=gh r7;obtain ⟨d0,d1,d2,d3,d4,d5,df⟩:=cells6 o7;have f0:=df 0;have f1:=df 1;have f2:=df 2;have f3:=df 3;have f4:=df 4;have f5:=df 5;clear i7 hlv7 T7 apart o7 r7 df;cases b with
  | false=>
   obtain ⟨h1,h2⟩:=Tp.step_none HS.o;have H1:=gh h1;have H2:=gh h2;clear h1 h2;go_wp2;refine bodyPost_ret (rcb rfl _ _ mo 61 _ _ _ rfl (put6 O7.o _ _ _ _ _ _).1 Tryz.underlying61 rfl info61) rfl ?_;obtain ⟨U8,hU8⟩:∃ U8,((((((U7.setCell ⟨mo,0,none⟩ (.int .i64 0)).setCell ⟨mo,1,none⟩ (.bool false)).setCell ⟨mo,2,none⟩ (.int .i64 0)).setCell ⟨mo,3,none⟩ (.int .i64 0)).setCell ⟨mo,4,none⟩ (.int .i64 0)).setCell ⟨mo,5,none⟩ (.slice none 0 0))=U8:=⟨_,rfl⟩;have t8:Td (fun k=>k=mo) U7 U8:=by rw [<- hU8];exact (put6 O7.o _ _ _ _ _ _).2
   rw [hU8];refine ⟨⟨.slice none 0 0,by rw [H1.o];rfl,by rw [H2.o];exact PRow.nil _ _ _⟩,⟨mv',lv7,_,I7.o.answer O7.o t8⟩,T07.o.trans t8 (fun _ e=>e) (fun k hk e=>absurd hk (by rw [e];have:=XL.o;omega))⟩
  | true=>
   have ln2:ix2.ts.length=ix.ts.length:=by rw [<- HE.o,(Ixp.takesL_keeps _ _ _).1];exact PL6.o
   have lg2:ix2.logn<=800000:=by
    have h1:=(Ixp.takesL_keeps ix.ts.length 0 (ix.pick1 j q1 m1)).2.1;rw [HE.o] at h1;have h2:(ix.pick1 j q1 m1).logn=ix.logn:=rfl
    have:=HLOG.o
    omega
   obtain ⟨q2,hq2⟩:∃ q2,ix2.ts[j]? = some q2:=⟨_,List.getElem?_eq_getElem (by rw [ln2];exact JL.o)⟩;have hp7:(pz.set j P')[j]? = some P':=by
    have h1:pz.length=ix.ts.length:=IV.o.pn
    have:=JL.o
    rw [List.getElem?_set,if_pos rfl,if_pos (by omega)]
   obtain ⟨V8,hV8⟩:∃ V8,U7.drew=V8:=⟨_,rfl⟩;have k8:Kept U7 V8:=by rw [<- hV8];exact Kept.drew _
   have ix8:=I7.o.kept k8;have th8:=ix8.th j q2 P' hq2 hp7;obtain ⟨⟨_,c4,c5,_,c7⟩,_⟩:=ix8.cells;have cj:=ix8.slot hp7;have c8:=th8.cells.1.2.2.2.2.2.2.2.2;have r8:=k8.heap R7.o id;have o8:=k8.heap O7.o id;obtain ⟨s0,s1,s2,s3,s4,s5,_⟩:=cells6 r8;have lt:∀ {y:Nat} {c:Array Value} {T:TypeId},V8.heap[y]? = some (.cells c T)->T≠145->¬ lv7.v.ownBlock=some y:=fun hy e1 e2=>by
    obtain ⟨c',hc⟩:=ix8.log.typed _ e2;rw [hy] at hc;simp at hc;exact e1 hc.2
   have nlx:¬ lv7.v.ownBlock=some x:=lt ix8.box (by decide);have nlt:¬ lv7.v.ownBlock=some P'.t:=lt th8.box (by decide);have nlr:¬ lv7.v.ownBlock=some mr:=lt r8 (by decide);have nlo:¬ lv7.v.ownBlock=some mo:=lt o8 (by decide);have nlb:¬ lv7.v.ownBlock=some tb:=by
    obtain ⟨c,h1,_⟩:=ix8.row;exact lt h1 (by decide)
   have z0:∀ u:Wd (fun U=>Td (fun k=>lv7.v.ownBlock=some k) V8 U),u.w.cell? ⟨x,4,none⟩=some (.slice (some ⟨tb,0,none⟩) tv.n tv.c):=fun u=>u.ok.cell c4 nlx;have z1:∀ u:Wd (fun U=>Td (fun k=>lv7.v.ownBlock=some k) V8 U),u.w.cell? ⟨tb,j,none⟩=some (.pointer (some ⟨P'.t,0,none⟩)):=fun u=>u.ok.cell cj nlb;have z2:∀ u:Wd (fun U=>Td (fun k=>lv7.v.ownBlock=some k) V8 U),u.w.cell? ⟨x,5,none⟩=some (.slice lv7.a lv7.n lv7.c):=fun u=>u.ok.cell c5 nlx;have z3:∀ u:Wd (fun U=>Td (fun k=>lv7.v.ownBlock=some k) V8 U),u.w.cell? ⟨x,7,none⟩=some (.int .i64 ix2.picks):=fun u=>u.ok.cell c7 nlx;have z4:∀ u:Wd (fun U=>Td (fun k=>lv7.v.ownBlock=some k) V8 U),u.w.cell? ⟨P'.t,8,none⟩=some (.int .i64 q2.no):=fun u=>u.ok.cell c8 nlt;have y0:∀ u:Wd (fun U=>Td (fun k=>lv7.v.ownBlock=some k) V8 U),u.w.cell? ⟨mr,0,none⟩=some (.int .i64 r0):=fun u=>u.ok.cell s0 nlr;have y1:∀ u:Wd (fun U=>Td (fun k=>lv7.v.ownBlock=some k) V8 U),u.w.cell? ⟨mr,1,none⟩=some (.bool r1):=fun u=>u.ok.cell s1 nlr;have y2:∀ u:Wd (fun U=>Td (fun k=>lv7.v.ownBlock=some k) V8 U),u.w.cell? ⟨mr,2,none⟩=some (.int .i64 r2):=fun u=>u.ok.cell s2 nlr;have y3:∀ u:Wd (fun U=>Td (fun k=>lv7.v.ownBlock=some k) V8 U),u.w.cell? ⟨mr,3,none⟩=some (.int .i64 r3):=fun u=>u.ok.cell s3 nlr;have y4:∀ u:Wd (fun U=>Td (fun k=>lv7.v.ownBlock=some k) V8 U),u.w.cell? ⟨mr,4,none⟩=some (.int .i64 r4):=fun u=>u.ok.cell s4 nlr;have y5:∀ u:Wd (fun U=>Td (fun k=>lv7.v.ownBlock=some k) V8 U),u.w.cell? ⟨mr,5,none⟩=some (.slice la ln lc):=fun u=>u.ok.cell s5 nlr;have IX8:=gh ix8;have HV8:=gh hV8;have K8:=gh k8;have R8:=gh r8;have O8:=gh o8;have LG2:=gh lg2;have NL:=gh (And.intro nlx (And.intro nlr nlo));have HPR8:=gh (HPR7.o.turned k8 (fun _ _ e=>e));have SZ8:Hid (n₀<=V8.heap.size):=gh (Nat.le_trans HN.o (Nat.le_trans T07.o.size k8.size));clear ln2 lg2 hq2 hp7 hV8 k8 ix8 th8 c4 c5 c7 cj c8 r8 o8 s0 s1 s2 s3 s4 s5 lt nlx nlt nlr nlo nlb d0 d1 d2 d3 d4 d5 f0 f1 f2 f3 f4 f5;go_wp2_with (fail);refine region_last [0,1,2,3,4,5,6,7,8,9,10,11,12,13,14,15,16,17,18,19,20,21,22,23,24,25] 26 (fun U=>Td (fun k=>lv7.v.ownBlock=some k) V8 U) (by kernel_rfl) (by kernel_rfl) (by rw [HV8.o];exact Td.refl _ _) (fun _=>?_);rw [HV8.o]
   repeat (refine lq rfl rfl ?_;go_big_quiet_step (fail);refine wpQuiet_nil ?_)
   refine ll rfl rfl ?_;gi_wp2;refine ⟨Wd.mem (Td.alloc _ _ _),?_⟩;refine ll rfl rfl ?_;gi_wp2_with (gi_at_builtin;refine Stop.out ?_);refine ⟨?_⟩;refine wpListIn_append_ev rfl _ _ rfl n₀ lv7.v ix2.logn rfl (IX8.o.log.turned (Td.alloc (fun _=>False) V8 _) (fun _ _ e=>e)) V8.heap.size _ rfl (heap_new _ _) rfl (by simp [Value.oneCell']) (by have:=LG2.o;omega) (by have:=SZ8.o;simp;omega) ?_;rintro v9 A1 hlog9 ⟨la9,lc9,rfl⟩ hgrow hat;have TA9:Hid (Td (fun k=>lv7.v.ownBlock=some k) V8 A1):=gh (Kept.then (Td.alloc (fun _=>False) V8 _) (Td.of_grownBy (R:=fun k=>lv7.v.ownBlock=some k) hgrow (fun _ h=>h)));have bxA:=TA9.o.heap IX8.o.box NL.o.1;have cA:A1.cell? ⟨x,5,none⟩=some (.slice lv7.a lv7.n lv7.c):=by simp [World.cell?,bxA,Ixp.cs]
   have gA:A1.frozen? ⟨x,5,none⟩=false:=by simp [World.frozen?,bxA]
   obtain ⟨A2,hA2⟩:∃ A2,A1.setCell ⟨x,5,none⟩ (.slice la9 (ix2.logn+1) lc9)=A2:=⟨_,rfl⟩;have tA2:Td (fun k=>k=x) A1 A2:=by rw [<- hA2];exact Td.setCell (R:=fun k=>k=x) _ _ _ rfl
   have TX:Hid (Td (fun k=>k=x∨lv7.v.ownBlock=some k) V8 A2):=gh (TA9.o.trans tA2 (fun _ e=>.inr e) (fun _ _ e=>.inl e));have IXE:Hid (IxIs P A2 n₀ x { ix2 with logn:=ix2.logn+1 } mb mv' tb tv ⟨la9,ix2.logn+1,lc9⟩ (pz.set j P')):=gh (by
    refine IX8.o.boxed (ix':={ ix2 with logn:=ix2.logn+1 }) TX.o ?_ rfl rfl (hlog9.turned tA2 (fun g e e'=>?_))
    ·rw [<- hA2];simp [World.setCell,Array.getElem?_modify,bxA,Ixp.cs]
    ·obtain ⟨c,hc⟩:=hlog9.typed g e;rw [e',bxA] at hc;simp at hc)
   have nx:∀ {y:Nat} {c:Array Value},V8.heap[y]? = some (.cells c 61)->y≠x:=fun hy e=>by
    have:=IX8.o.box
    rw [<- e,hy] at this;simp at this
   have o9:=TX.o.heap O8.o (fun e=>e.elim (nx O8.o) NL.o.2.2);have r9:=TX.o.heap R8.o (fun e=>e.elim (nx R8.o) NL.o.2.1);have PR9:Hid (PRow A2 n₀ 59 (.slice la ln lc) L):=gh (HPR8.o.turned TX.o (fun g e=>by
    obtain ⟨c,hc⟩:=HPR8.o.typed g e;rintro (e' | e')
    ·have:=IX8.o.box
     rw [<- e',hc] at this;simp at this
    ·obtain ⟨c',hc'⟩:=IX8.o.log.typed g e';rw [hc] at hc';simp at hc'))
   have TE:Hid (Td (Mine P W n₀) W A2):=gh ((T07.o.trans K8.o (fun _ e=>e) (fun _ _ e=>e.elim)).trans TX.o (fun _ e=>e) (fun k hk e=>by
    rcases e with e | e
    ·rw [e];exact HMI.o.1.box
    ·rcases HLV7.o k e with e | e
     ·exact HMI.o.1.log k e
     ·exact absurd hk (by have:=T0.o.size;omega)))
   have O9:=gh o9;have R9:=gh r9;have HA2:=gh hA2;clear hlog9 hgrow hat hA2 tA2 bxA nx o9 r9;gi_wp2;refine ⟨Wd.mem TA9.o,?_⟩;simp only [Act.put,List.setIfInBounds_toArray,List.set_cons_succ,List.set_cons_zero]
   repeat (refine lq rfl rfl ?_;go_big_quiet_step (fail);refine wpQuiet_nil ?_)
   refine lz rfl ?_;gi_wp2;refine last_done ?_;rw [HA2.o];clear z0 z1 z2 z3 z4 y0 y1 y2 y3 y4 y5 cA gA;obtain ⟨d0,d1,d2,d3,d4,d5,df⟩:=cells6 O9.o;obtain ⟨g0,g1,g2,g3,g4,g5,_⟩:=cells6 R9.o;have f0:=df 0;have f1:=df 1;have f2:=df 2;have f3:=df 3;have f4:=df 4;have f5:=df 5;clear df;go_wp2;refine bodyPost_ret (rcb rfl _ _ mo 61 _ _ _ rfl (put6 O9.o _ _ _ _ _ _).1 Tryz.underlying61 rfl info61) rfl ?_;obtain ⟨U8,hU8⟩:∃ U8,((((((A2.setCell ⟨mo,0,none⟩ (.int .i64 r0)).setCell ⟨mo,1,none⟩ (.bool r1)).setCell ⟨mo,2,none⟩ (.int .i64 r2)).setCell ⟨mo,3,none⟩ (.int .i64 r3)).setCell ⟨mo,4,none⟩ (.int .i64 r4)).setCell ⟨mo,5,none⟩ (.slice la ln lc))=U8:=⟨_,rfl⟩;have t8:Td (fun k=>k=mo) A2 U8:=by rw [<- hU8];exact (put6 O9.o _ _ _ _ _ _).2
   rw [hU8];refine ⟨⟨.slice la ln lc,rfl,PR9.o.turned t8 (fun g e e'=>by
    obtain ⟨c,hc⟩:=PR9.o.typed g e;rw [e',O9.o] at hc;simp at hc)⟩,⟨mv',⟨la9,ix2.logn+1,lc9⟩,_,IXE.o.answer O9.o t8⟩,TE.o.trans t8 (fun _ e=>e) (fun k hk e=>absurd hk (by rw [e];have:=XL.o;omega))⟩
 ·gi_wp2;obtain ⟨mr,hmr⟩:∃ m,V.heap.size=m:=⟨_,rfl⟩;obtain ⟨VX,hVX⟩:∃ VX,V.alloc (.cells #[.int .i64 0,.bool false,.int .i64 0,.int .i64 0,.int .i64 0,.slice none 0 0] 61)=VX:=⟨_,rfl⟩;have KVX:Kept V VX:=by rw [<- hVX];exact Td.alloc _ _ _
  have rX:VX.heap[mr]? = some (.cells #[.int .i64 0,.bool false,.int .i64 0,.int .i64 0,.int .i64 0,.slice none 0 0] 61):=by rw [<- hVX,<- hmr];exact heap_new _ _
  have nox:¬ Own pt mb mv mr:=own_type ((IV.o.kept KVX).th j q pt HQ.o HP.o) (IV.o.kept KVX).mem rX (by decide) (by decide) (by decide) (by decide);rw [hVX,hmr];refine ⟨Wd.mem (KVX.mono fun _ _ e=>e.elim),?_⟩;refine pl rfl rfl ?_;gi_wp2_with (fail);refine ⟨trivial,?_⟩;refine (callsIn_wide.2 (HCT.o VX KVX)).mono ?_;rintro e U ⟨tp',l0,rfl,PR,ST⟩;obtain ⟨la,ln,lc,hl'⟩:∃ la ln lc,l0=.slice la ln lc:=by
   obtain ⟨a,cap,e,_⟩:=PR.reads;exact ⟨_,_,_,e⟩
  subst hl';have HPR:=gh PR;have TU:Hid (Td (Own pt mb mv) VX U):=gh (ST.turned.mono fun k _ e=>by
   rcases e with e | e | e | e
   ·exact .inl e
   ·exact .inr (.inl (by rw [e];exact HF.o))
   ·exact .inr (.inr (.inl e))
   ·exact .inr (.inr (.inr e)))
  have IX:=IV.o.kept KVX;obtain ⟨⟨l2,TH⟩,⟨mv',D',AP,FT⟩,_,NEW⟩:=ST;obtain ⟨P',hP'⟩:∃ P':Pt,P'=⟨pt.t,some f,tp',l2⟩:=⟨_,rfl⟩;have IU:Hid (IxIs P U n₀ x (ix.pick1 j q1 m1) mb mv' tb tv lv (pz.set j P')):=gh (by
   subst hP';exact IX.thread HQ.o HP.o (p':=⟨pt.t,some f,tp',l2⟩) TH rfl D' HM1.o TU.o (fun f' e=>.inl (by rw [HF.o];exact e)) NEW FT AP (fun _=>Tp.step_fr HS.o))
  have HPT:Hid (P'.t=pt.t):=gh (by rw [hP']);have OU:=gh (TU.o.heap (KVX.heap RV.o id) NOMO.o);clear PR TH D' AP FT NEW hP' IX;dsimp only [Rs.cs];gi_wp2_with (fail);have KT:Hid (Td (Own pt mb mv) V U):=gh (KVX.then TU.o);refine ⟨Wd.mem KT.o,?_⟩;obtain ⟨U1,hU1⟩:∃ U1,U=U1:=⟨_,rfl⟩;have rU1:=TU.o.heap rX nox;have HM:Hid (V.heap.size<=mr):=gh (by omega);have IU1:=IU;have OU1:=OU;have HPR1:=HPR;rw [hU1] at rU1 IU1 OU1 HPR1 KT;rw [hU1];clear IU OU HPR hmr hU1 TU KVX hVX rX nox
  repeat (refine pq rfl rfl ?_;go_big_quiet_step (fail);refine wpQuiet_nil ?_)
  obtain ⟨d0,d1,d2,d3,d4,d5,df⟩:=cells6 rU1;have f0:=df 0;have f1:=df 1;have f2:=df 2;have f3:=df 3;have f4:=df 4;have f5:=df 5;obtain ⟨U6,hU6⟩:∃ U6,((((((U1.setCell ⟨mr,0,none⟩ (.int .i64 r0)).setCell ⟨mr,1,none⟩ (.bool r1)).setCell ⟨mr,2,none⟩ (.int .i64 r2)).setCell ⟨mr,3,none⟩ (.int .i64 r3)).setCell ⟨mr,4,none⟩ (.int .i64 r4)).setCell ⟨mr,5,none⟩ (.slice la ln lc))=U6:=⟨_,rfl⟩;have t6:Td (fun k=>k=mr) U1 U6:=by rw [<- hU6];exact (put6 rU1 _ _ _ _ _ _).2
  have r6:U6.heap[mr]? = some (.cells #[.int .i64 r0,.bool r1,.int .i64 r2,.int .i64 r3,.int .i64 r4,.slice la ln lc] 61):=by rw [<- hU6];exact (put6 rU1 _ _ _ _ _ _).1
  have RU1:=gh rU1;have T6:=gh t6;have R6:=gh r6;have HU6:=gh hU6;clear rU1 df t6 r6 hU6;refine pl rfl rfl ?_;gi_wp2;rw [HU6.o];refine ⟨Wd.mem (KT.o.trans T6.o (fun _ e=>e) (fun k hk e=>by have:=HM.o;omega)),?_⟩
  try dsimp only [Act.put]
  repeat (refine pq rfl rfl ?_;go_big_quiet_step (fail);refine wpQuiet_nil ?_)
  refine perm_done ?_;clear x3 x4 xj d0 d1 d2 d3 d4 d5 f0 f1 f2 f3 f4 f5;have i6:=IU1.o.answer RU1.o T6.o;have pl6:(ix.pick1 j q1 m1).ts.length=ix.ts.length:=by simp [Ixp.pick1]
  have nmr:mo≠mr:=fun e=>by
   have h1:=(Array.getElem?_eq_some_iff.1 RV.o).1
   have:=HM.o
   omega
  have o6:=T6.o.heap OU1.o nmr;have PR6:PRow U6 n₀ 59 (.slice la ln lc) L:=HPR1.o.turned T6.o (fun g e e'=>by
   obtain ⟨c,hc⟩:=HPR1.o.typed g e;rw [e',RU1.o] at hc;simp at hc)
  have T0:Hid (Td (Mine P W n₀) W U6):=gh (((TA.o.trans KV.o (R'':=Mine P W n₀) (fun k e=>by rw [e];exact HMI.o.1.box) (fun _ _ e=>e.elim)).trans KT.o (fun _ e=>e) (fun k _ e=>(HMI.o.1.th pt HMI.o.2).2 k e)).trans T6.o (fun _ e=>e) (fun k hk e=>absurd hk (by
   have h2:=HN.o;have h3:=TA.o.size;have h4:=KV.o.size
   have:=HM.o
   omega)))
  have CT7:=gh (takes_r U6 n₀ x mb tb (ix.pick1 j q1 m1) mv' tv lv (pz.set j P') i6 (Nat.le_trans HN.o T0.o.size) (by rw [pl6];exact HLOG.o) ix2 (by rw [pl6];exact HE.o));have I6:=gh i6;have O6:=gh o6;have HPR6:=gh PR6;have NMR:=gh nmr;have PL6:=gh pl6;clear i6 pl6 nmr o6 PR6;go_wp2_with (fail);refine CT7.o.mono ?_;rintro e U7 ⟨rfl,⟨lv7,i7,hlv7⟩,T7⟩;have apart:∀ {y:Nat} {c:Array Value} {T:TypeId},U6.heap[y]? = some (.cells c T)->T≠35->T≠102->T≠145->¬ (y=x∨(∃ p,p ∈ pz.set j P'/\y=p.t)∨lv.v.ownBlock=some y):=fun {y c T} hy e1 e2 e3=>by
   rintro (e | ⟨p,hp,e⟩ | e)
   ·have:=I6.o.box
    rw [<- e,hy] at this;simp at this;exact e1 this.2
   ·obtain ⟨i,hi,hi'⟩:=List.getElem_of_mem hp;have h1:(pz.set j P')[i]? = some p:=by rw [List.getElem?_eq_getElem hi,hi']
    have h2:i < (ix.pick1 j q1 m1).ts.length:=by rw [<- I6.o.pn];exact hi
    have:=(I6.o.th i _ p (List.getElem?_eq_getElem h2) h1).box
    rw [<- e,hy] at this;simp at this;exact e2 this.2
   ·obtain ⟨c',hc⟩:=I6.o.log.typed y e;rw [hy] at hc;simp at hc;exact e3 hc.2
  have o7:=T7.heap O6.o (apart O6.o (by decide) (by decide) (by decide));have r7:=T7.heap R6.o (apart R6.o (by decide) (by decide) (by decide));have HPR7:=gh (HPR6.o.turned T7 (fun g e=>by
   obtain ⟨c,hc⟩:=HPR6.o.typed g e;exact apart hc (by decide) (by decide) (by decide)))
  have T07:Hid (Td (Mine P W n₀) W U7):=gh (T0.o.trans T7 (fun _ e=>e) (fun k _ e=>by
   rcases e with e | ⟨p,hp,e⟩ | e
   ·rw [e];exact HMI.o.1.box
   ·rw [e];rcases List.mem_or_eq_of_mem_set hp with hp | rfl
    ·exact (HMI.o.1.th p hp).1
    ·rw [HPT.o];exact (HMI.o.1.th pt HMI.o.2).1
   ·exact HMI.o.1.log k e))
  have HLV7:=gh hlv7;have I7:=gh i7;have O7:=gh o7;have R7:=gh r7;obtain ⟨d0,d1,d2,d3,d4,d5,df⟩:=cells6 o7;have f0:=df 0;have f1:=df 1;have f2:=df 2;have f3:=df 3;have f4:=df 4;have f5:=df 5;clear i7 hlv7 T7 apart o7 r7 df;cases b with
  | false=>
   obtain ⟨h1,h2⟩:=Tp.step_none HS.o;have H1:=gh h1;have H2:=gh h2;clear h1 h2;go_wp2;refine bodyPost_ret (rcb rfl _ _ mo 61 _ _ _ rfl (put6 O7.o _ _ _ _ _ _).1 Tryz.underlying61 rfl info61) rfl ?_;obtain ⟨U8,hU8⟩:∃ U8,((((((U7.setCell ⟨mo,0,none⟩ (.int .i64 0)).setCell ⟨mo,1,none⟩ (.bool false)).setCell ⟨mo,2,none⟩ (.int .i64 0)).setCell ⟨mo,3,none⟩ (.int .i64 0)).setCell ⟨mo,4,none⟩ (.int .i64 0)).setCell ⟨mo,5,none⟩ (.slice none 0 0))=U8:=⟨_,rfl⟩;have t8:Td (fun k=>k=mo) U7 U8:=by rw [<- hU8];exact (put6 O7.o _ _ _ _ _ _).2
   rw [hU8];refine ⟨⟨.slice none 0 0,by rw [H1.o];rfl,by rw [H2.o];exact PRow.nil _ _ _⟩,⟨mv',lv7,_,I7.o.answer O7.o t8⟩,T07.o.trans t8 (fun _ e=>e) (fun k hk e=>absurd hk (by rw [e];have:=XL.o;omega))⟩
  | true=>
   have ln2:ix2.ts.length=ix.ts.length:=by rw [<- HE.o,(Ixp.takesL_keeps _ _ _).1];exact PL6.o
   have lg2:ix2.logn<=800000:=by
    have h1:=(Ixp.takesL_keeps ix.ts.length 0 (ix.pick1 j q1 m1)).2.1;rw [HE.o] at h1;have h2:(ix.pick1 j q1 m1).logn=ix.logn:=rfl
    have:=HLOG.o
    omega
   obtain ⟨q2,hq2⟩:∃ q2,ix2.ts[j]? = some q2:=⟨_,List.getElem?_eq_getElem (by rw [ln2];exact JL.o)⟩;have hp7:(pz.set j P')[j]? = some P':=by
    have h1:pz.length=ix.ts.length:=IV.o.pn
    have:=JL.o
    rw [List.getElem?_set,if_pos rfl,if_pos (by omega)]
   obtain ⟨V8,hV8⟩:∃ V8,U7.drew=V8:=⟨_,rfl⟩;have k8:Kept U7 V8:=by rw [<- hV8];exact Kept.drew _
   have ix8:=I7.o.kept k8;have th8:=ix8.th j q2 P' hq2 hp7;obtain ⟨⟨_,c4,c5,_,c7⟩,_⟩:=ix8.cells;have cj:=ix8.slot hp7;have c8:=th8.cells.1.2.2.2.2.2.2.2.2;have r8:=k8.heap R7.o id;have o8:=k8.heap O7.o id;obtain ⟨s0,s1,s2,s3,s4,s5,_⟩:=cells6 r8;have lt:∀ {y:Nat} {c:Array Value} {T:TypeId},V8.heap[y]? = some (.cells c T)->T≠145->¬ lv7.v.ownBlock=some y:=fun hy e1 e2=>by
    obtain ⟨c',hc⟩:=ix8.log.typed _ e2;rw [hy] at hc;simp at hc;exact e1 hc.2
   have nlx:¬ lv7.v.ownBlock=some x:=lt ix8.box (by decide);have nlt:¬ lv7.v.ownBlock=some P'.t:=lt th8.box (by decide);have nlr:¬ lv7.v.ownBlock=some mr:=lt r8 (by decide);have nlo:¬ lv7.v.ownBlock=some mo:=lt o8 (by decide);have nlb:¬ lv7.v.ownBlock=some tb:=by
    obtain ⟨c,h1,_⟩:=ix8.row;exact lt h1 (by decide)
   have z0:∀ u:Wd (fun U=>Td (fun k=>lv7.v.ownBlock=some k) V8 U),u.w.cell? ⟨x,4,none⟩=some (.slice (some ⟨tb,0,none⟩) tv.n tv.c):=fun u=>u.ok.cell c4 nlx;have z1:∀ u:Wd (fun U=>Td (fun k=>lv7.v.ownBlock=some k) V8 U),u.w.cell? ⟨tb,j,none⟩=some (.pointer (some ⟨P'.t,0,none⟩)):=fun u=>u.ok.cell cj nlb;have z2:∀ u:Wd (fun U=>Td (fun k=>lv7.v.ownBlock=some k) V8 U),u.w.cell? ⟨x,5,none⟩=some (.slice lv7.a lv7.n lv7.c):=fun u=>u.ok.cell c5 nlx;have z3:∀ u:Wd (fun U=>Td (fun k=>lv7.v.ownBlock=some k) V8 U),u.w.cell? ⟨x,7,none⟩=some (.int .i64 ix2.picks):=fun u=>u.ok.cell c7 nlx;have z4:∀ u:Wd (fun U=>Td (fun k=>lv7.v.ownBlock=some k) V8 U),u.w.cell? ⟨P'.t,8,none⟩=some (.int .i64 q2.no):=fun u=>u.ok.cell c8 nlt;have y0:∀ u:Wd (fun U=>Td (fun k=>lv7.v.ownBlock=some k) V8 U),u.w.cell? ⟨mr,0,none⟩=some (.int .i64 r0):=fun u=>u.ok.cell s0 nlr;have y1:∀ u:Wd (fun U=>Td (fun k=>lv7.v.ownBlock=some k) V8 U),u.w.cell? ⟨mr,1,none⟩=some (.bool r1):=fun u=>u.ok.cell s1 nlr;have y2:∀ u:Wd (fun U=>Td (fun k=>lv7.v.ownBlock=some k) V8 U),u.w.cell? ⟨mr,2,none⟩=some (.int .i64 r2):=fun u=>u.ok.cell s2 nlr;have y3:∀ u:Wd (fun U=>Td (fun k=>lv7.v.ownBlock=some k) V8 U),u.w.cell? ⟨mr,3,none⟩=some (.int .i64 r3):=fun u=>u.ok.cell s3 nlr;have y4:∀ u:Wd (fun U=>Td (fun k=>lv7.v.ownBlock=some k) V8 U),u.w.cell? ⟨mr,4,none⟩=some (.int .i64 r4):=fun u=>u.ok.cell s4 nlr;have y5:∀ u:Wd (fun U=>Td (fun k=>lv7.v.ownBlock=some k) V8 U),u.w.cell? ⟨mr,5,none⟩=some (.slice la ln lc):=fun u=>u.ok.cell s5 nlr;have IX8:=gh ix8;have HV8:=gh hV8;have K8:=gh k8;have R8:=gh r8;have O8:=gh o8;have LG2:=gh lg2;have NL:=gh (And.intro nlx (And.intro nlr nlo));have HPR8:=gh (HPR7.o.turned k8 (fun _ _ e=>e));have SZ8:Hid (n₀<=V8.heap.size):=gh (Nat.le_trans HN.o (Nat.le_trans T07.o.size k8.size));clear ln2 lg2 hq2 hp7 hV8 k8 ix8 th8 c4 c5 c7 cj c8 r8 o8 s0 s1 s2 s3 s4 s5 lt nlx nlt nlr nlo nlb d0 d1 d2 d3 d4 d5 f0 f1 f2 f3 f4 f5;go_wp2_with (fail);refine region_last [0,1,2,3,4,5,6,7,8,9,10,11,12,13,14,15,16,17,18,19,20,21,22,23,24,25] 26 (fun U=>Td (fun k=>lv7.v.ownBlock=some k) V8 U) (by kernel_rfl) (by kernel_rfl) (by rw [HV8.o];exact Td.refl _ _) (fun _=>?_);rw [HV8.o]
   repeat (refine lq rfl rfl ?_;go_big_quiet_step (fail);refine wpQuiet_nil ?_)
   refine ll rfl rfl ?_;gi_wp2;refine ⟨Wd.mem (Td.alloc _ _ _),?_⟩;refine ll rfl rfl ?_;gi_wp2_with (gi_at_builtin;refine Stop.out ?_);refine ⟨?_⟩;refine wpListIn_append_ev rfl _ _ rfl n₀ lv7.v ix2.logn rfl (IX8.o.log.turned (Td.alloc (fun _=>False) V8 _) (fun _ _ e=>e)) V8.heap.size _ rfl (heap_new _ _) rfl (by simp [Value.oneCell']) (by have:=LG2.o;omega) (by have:=SZ8.o;simp;omega) ?_;rintro v9 A1 hlog9 ⟨la9,lc9,rfl⟩ hgrow hat;have TA9:Hid (Td (fun k=>lv7.v.ownBlock=some k) V8 A1):=gh (Kept.then (Td.alloc (fun _=>False) V8 _) (Td.of_grownBy (R:=fun k=>lv7.v.ownBlock=some k) hgrow (fun _ h=>h)));have bxA:=TA9.o.heap IX8.o.box NL.o.1;have cA:A1.cell? ⟨x,5,none⟩=some (.slice lv7.a lv7.n lv7.c):=by simp [World.cell?,bxA,Ixp.cs]
   have gA:A1.frozen? ⟨x,5,none⟩=false:=by simp [World.frozen?,bxA]
   obtain ⟨A2,hA2⟩:∃ A2,A1.setCell ⟨x,5,none⟩ (.slice la9 (ix2.logn+1) lc9)=A2:=⟨_,rfl⟩;have tA2:Td (fun k=>k=x) A1 A2:=by rw [<- hA2];exact Td.setCell (R:=fun k=>k=x) _ _ _ rfl
   have TX:Hid (Td (fun k=>k=x∨lv7.v.ownBlock=some k) V8 A2):=gh (TA9.o.trans tA2 (fun _ e=>.inr e) (fun _ _ e=>.inl e));have IXE:Hid (IxIs P A2 n₀ x { ix2 with logn:=ix2.logn+1 } mb mv' tb tv ⟨la9,ix2.logn+1,lc9⟩ (pz.set j P')):=gh (by
    refine IX8.o.boxed (ix':={ ix2 with logn:=ix2.logn+1 }) TX.o ?_ rfl rfl (hlog9.turned tA2 (fun g e e'=>?_))
    ·rw [<- hA2];simp [World.setCell,Array.getElem?_modify,bxA,Ixp.cs]
    ·obtain ⟨c,hc⟩:=hlog9.typed g e;rw [e',bxA] at hc;simp at hc)
   have nx:∀ {y:Nat} {c:Array Value},V8.heap[y]? = some (.cells c 61)->y≠x:=fun hy e=>by
    have:=IX8.o.box
    rw [<- e,hy] at this;simp at this
   have o9:=TX.o.heap O8.o (fun e=>e.elim (nx O8.o) NL.o.2.2);have r9:=TX.o.heap R8.o (fun e=>e.elim (nx R8.o) NL.o.2.1);have PR9:Hid (PRow A2 n₀ 59 (.slice la ln lc) L):=gh (HPR8.o.turned TX.o (fun g e=>by
    obtain ⟨c,hc⟩:=HPR8.o.typed g e;rintro (e' | e')
    ·have:=IX8.o.box
     rw [<- e',hc] at this;simp at this
    ·obtain ⟨c',hc'⟩:=IX8.o.log.typed g e';rw [hc] at hc';simp at hc'))
   have TE:Hid (Td (Mine P W n₀) W A2):=gh ((T07.o.trans K8.o (fun _ e=>e) (fun _ _ e=>e.elim)).trans TX.o (fun _ e=>e) (fun k hk e=>by
    rcases e with e | e
    ·rw [e];exact HMI.o.1.box
    ·rcases HLV7.o k e with e | e
     ·exact HMI.o.1.log k e
     ·exact absurd hk (by have:=T0.o.size;omega)))
   have O9:=gh o9;have R9:=gh r9;have HA2:=gh hA2;clear hlog9 hgrow hat hA2 tA2 bxA nx o9 r9;gi_wp2;refine ⟨Wd.mem TA9.o,?_⟩;simp only [Act.put,List.setIfInBounds_toArray,List.set_cons_succ,List.set_cons_zero]
   repeat (refine lq rfl rfl ?_;go_big_quiet_step (fail);refine wpQuiet_nil ?_)
   refine lz rfl ?_;gi_wp2;refine last_done ?_;rw [HA2.o];clear z0 z1 z2 z3 z4 y0 y1 y2 y3 y4 y5 cA gA;obtain ⟨d0,d1,d2,d3,d4,d5,df⟩:=cells6 O9.o;obtain ⟨g0,g1,g2,g3,g4,g5,_⟩:=cells6 R9.o;have f0:=df 0;have f1:=df 1;have f2:=df 2;have f3:=df 3;have f4:=df 4;have f5:=df 5;clear df;go_wp2;refine bodyPost_ret (rcb rfl _ _ mo 61 _ _ _ rfl (put6 O9.o _ _ _ _ _ _).1 Tryz.underlying61 rfl info61) rfl ?_;obtain ⟨U8,hU8⟩:∃ U8,((((((A2.setCell ⟨mo,0,none⟩ (.int .i64 r0)).setCell ⟨mo,1,none⟩ (.bool r1)).setCell ⟨mo,2,none⟩ (.int .i64 r2)).setCell ⟨mo,3,none⟩ (.int .i64 r3)).setCell ⟨mo,4,none⟩ (.int .i64 r4)).setCell ⟨mo,5,none⟩ (.slice la ln lc))=U8:=⟨_,rfl⟩;have t8:Td (fun k=>k=mo) A2 U8:=by rw [<- hU8];exact (put6 O9.o _ _ _ _ _ _).2
   rw [hU8];refine ⟨⟨.slice la ln lc,rfl,PR9.o.turned t8 (fun g e e'=>by
    obtain ⟨c,hc⟩:=PR9.o.typed g e;rw [e',O9.o] at hc;simp at hc)⟩,⟨mv',⟨la9,ix2.logn+1,lc9⟩,_,IXE.o.answer O9.o t8⟩,TE.o.trans t8 (fun _ e=>e) (fun k hk e=>absurd hk (by rw [e];have:=XL.o;omega))⟩
end
section
open Go.Shelf
variable {P:Nat->Prop}
attribute [local go_sem] Oper.semAt_some
theorem info52:(Tryz.prog.info? 52).map (·.size)=some 3:=by kernel_rfl
def opK (z:Int):Int:=if 10 < 1+z % 14 then 1+(1+z % 14) % 3 else 1+z % 14
def opKey (z:Int):Int:=z.tdiv 14 % 41 - 10
def opVal (z:Int):Int:=(z.tdiv 14).tdiv 41 % 50
theorem op_bounds (z:Int):(1<=opK z/\opK z<=10)/\(-10<=opKey z/\opKey z<=30)/\0<=opVal z/\opVal z<=49:=by
 unfold opK opKey opVal;refine ⟨?_,⟨by omega,by omega⟩,by omega,by omega⟩
 split <;> omega
set_option maxRecDepth 100000 in
set_option maxHeartbeats 2000000 in
theorem op_r (W:World) (z:Int) (hz:I64 z) :
  Calls Tryz.prog 60 #[.int .i64 z] W fun e W'=>e=.returned (.agg #[.int .i64 (opK z),.int .i64 (opKey z),.int .i64 (opVal z)])/\Kept W W':=by
 obtain ⟨z1,z2⟩:=hz;obtain ⟨m,hm⟩:∃ m,z % 14=m:=⟨_,rfl⟩;have m0:0<=m/\m < 14:=by omega
 obtain ⟨d,hd⟩:∃ d,z.tdiv 14=d:=⟨_,rfl⟩;obtain ⟨key,hkey⟩:∃ k,d % 41=k:=⟨_,rfl⟩;have key0:0<=key/\key < 41:=by omega
 obtain ⟨v,hv⟩:∃ v,d.tdiv 41 % 50=v:=⟨_,rfl⟩;have C1:∀ X,Calls Tryz.prog 25 #[.int .i64 z,.int .i64 14] X fun e X'=>e=.returned (.int .i64 m)/\X=X':=fun X=>hm ▸ cut_g X z 14 (by decide) (by decide);have C3:∀ X,Calls Tryz.prog 25 #[.int .i64 d,.int .i64 41] X fun e X'=>e=.returned (.int .i64 key)/\X=X':=fun X=>hkey ▸ cut_g X d 41 (by decide) (by decide);have C4:∀ X,Calls Tryz.prog 25 #[.int .i64 (d.tdiv 41),.int .i64 50] X fun e X'=>e=.returned (.int .i64 v)/\X=X':=fun X=>hv ▸ cut_g X (d.tdiv 41) 50 (by decide) (by decide);obtain ⟨m3,hm3⟩:∃ m3,(1+m) % 3=m3:=⟨_,rfl⟩;have m30:0<=m3/\m3 < 3:=by omega
 have C2:∀ X,Calls Tryz.prog 25 #[.int .i64 (1+m),.int .i64 3] X fun e X'=>e=.returned (.int .i64 m3)/\X=X':=fun X=>hm3 ▸ cut_g X (1+m) 3 (by decide) (by decide);have n1:z.tmod 14+14 * d=z:=by rw [<- hd];first | exact Int.tmod_add_tdiv z 14 | exact Int.tmod_add_mul_tdiv z 14
 have n2:d.tmod 41+41 * d.tdiv 41=d:=by first | exact Int.tmod_add_tdiv d 41 | exact Int.tmod_add_mul_tdiv d 41
 have n3:=Int.lt_tmod_of_pos z (show (0:Int) < 14 by decide);have n4:=Int.tmod_lt_of_pos z (show (0:Int) < 14 by decide);have n5:=Int.lt_tmod_of_pos d (show (0:Int) < 41 by decide);have n6:=Int.tmod_lt_of_pos d (show (0:Int) < 41 by decide);generalize z.tmod 14=p1 at n1 n3 n4;generalize d.tmod 41=p2 at n2 n5 n6;have d0:-9223372036854775808<=d/\d<=9223372036854775807:=by omega
 have e0:-9223372036854775808<=d.tdiv 41/\d.tdiv 41<=9223372036854775807:=by
  generalize d.tdiv 41=p3 at n2;omega
 clear n1 n2 n3 n4 n5 n6;have HC2:=gh C2;have HC3:=gh C3;have HC4:=gh C4;have HK:Hid (opK z=(if 10 < 1+m then 1+m3 else 1+m)):=gh (by unfold opK;rw [hm,hm3]);have HKEY:Hid (opKey z=key - 10/\opVal z=v):=gh (by unfold opKey opVal;rw [hd,hkey,hv];exact ⟨rfl,rfl⟩);clear hm hm3 hkey hv C2 C3 C4;go_enter Tryz.func60,Tryz.ntmps60;go_wp2_with (fail);refine (C1 _).mono ?_;rintro e U ⟨rfl,rfl⟩;clear C1
 by_cases h10:10 < 1+m
 ·have hk:=HK.o;rw [if_pos h10] at hk;have HKK:=gh hk;clear hk HK;go_wp2_with (fail);refine (HC2.o _).mono ?_;rintro e U ⟨rfl,rfl⟩;go_wp2_with (fail)
  try rw [hd]
  refine (HC3.o _).mono ?_;rintro e U ⟨rfl,rfl⟩;go_wp2_with (fail);refine (HC4.o _).mono ?_;rintro e U ⟨rfl,rfl⟩;go_wp2;refine bodyPost_ret (results_cell_row rfl _ _ W.heap.size 52 #[.int .i64 (1+m3),.int .i64 (key - 10),.int .i64 v] _ _ rfl (heap_new _ _) Tryz.underlying52 rfl info52) rfl ?_;exact ⟨by rw [HKK.o,HKEY.o.1,HKEY.o.2],Td.alloc _ _ _⟩
 ·have hk:=HK.o;rw [if_neg h10] at hk;have HKK:=gh hk;clear hk HK;go_wp2_with (fail)
  try rw [hd]
  refine (HC3.o _).mono ?_;rintro e U ⟨rfl,rfl⟩;go_wp2_with (fail);refine (HC4.o _).mono ?_;rintro e U ⟨rfl,rfl⟩;go_wp2;refine bodyPost_ret (results_cell_row rfl _ _ W.heap.size 52 #[.int .i64 (1+m),.int .i64 (key - 10),.int .i64 v] _ _ rfl (heap_new _ _) Tryz.underlying52 rfl info52) rfl ?_;exact ⟨by rw [HKK.o,HKEY.o.1,HKEY.o.2],Td.alloc _ _ _⟩
end
end Go.Proofs.YtoaicedkepcalaaGreat
