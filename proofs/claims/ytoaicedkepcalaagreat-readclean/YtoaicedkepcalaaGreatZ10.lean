/-
  What the proof of YtoaicedkepcalaaGreatPeekMomentProof goes by, part 10 of 10: contracts and plain facts; each part begins with its own sentence. No conditions beyond each theorem's own.
-/
import Derived.Test.YtoaicedkepcalaaGreatZ9
import Derived.BigQuiet
import Derived.Deep.QuietTactic
import Derived.Deep.DeepCutAuto
import Derived.Deep.CutBlock
namespace Go.Proofs.YtoaicedkepcalaaGreat
open Go.RowKit
section
set_option maxRecDepth 20000
structure MPk (w W:World) (b:Nat) (s:Mst) (f:Nat) (p:Pk):Prop where
 mem:∃ v,PMem W w.heap.size b v s/\¬ Foot b v f
 frame:PkAt W f p
 new:w.heap.size<=f
 kept:Kept w W
theorem Now.peek {w W W':World} {b:Nat} {s:Mst} {p:Pk} (h:Now w W b s) (k:Kept W W') (hf:PkAt W' W.heap.size p):MPk w W' b s W.heap.size p:=by
 obtain ⟨⟨v,h⟩,hk⟩:=h;exact ⟨⟨v,h.kept k,fun e=>Nat.lt_irrefl _ (h.lt _ e).2⟩,hf,hk.size,hk.trans k⟩
theorem MPk.now {w W:World} {b f:Nat} {s:Mst} {p:Pk} (h:MPk w W b s f p):Now w W b s:=by
 obtain ⟨⟨v,h1,_⟩,_,_,hk⟩:=h;exact ⟨⟨v,h1⟩,hk⟩
theorem mpk_step (w W:World) (b:Nat) (s:Mst) (f:Nat) (p:Pk) (h:MPk w W b s f p) (ho:∀ a,I64 (s.look a)) (p':Pk) (s':Mst) (r:Bool) (e1:p.step s=(p',s')) (e2:(p'.n == 4)=r) :
  Calls Tryz.prog 17 #[.pointer (some ⟨f,0,none⟩),.pointer (some ⟨b,0,none⟩)] W fun e W'=>e=.returned (.bool r)/\MPk w W' b s' f p':=by
 obtain ⟨⟨v,hm,hf⟩,hp,hn,hk⟩:=h;refine (pk_step W _ b v f p s hp hm ho hf p' s' r e1 e2).mono ?_;rintro e W' ⟨rfl,R⟩;exact ⟨rfl,⟨v,R.mem,hf⟩,R.frame,hn,hk.own (fun i hi=>hi.elim (fun e=>e ▸ hn) (fun e=>e ▸ (hm.lt b (.inl rfl)).1)) R.turned⟩
theorem Mst.look_i64 {s:Mst} (h:∀ z ∈ s.xs,I64 z) (a:Int):I64 (s.look a):=by
 unfold Mst.look
 split
 ·rename_i hu;cases hx:s.xs[(a - 1).toNat]? with
  | none=>rw [List.getD_eq_getElem?_getD,hx];exact ⟨by decide,by decide⟩
  | some z=>
   rw [List.getD_eq_getElem?_getD,hx];exact h z (List.mem_of_getElem? hx)
 ·exact ⟨by decide,by decide⟩
def allI (l:List Int):Bool:=l.all fun z=>decide (-9223372036854775808<=z) && decide (z<=9223372036854775807)
theorem allI_ok {s:Mst} (h:allI s.xs=true):∀ a,I64 (s.look a):=Mst.look_i64 (fun z hz=>by
 have:=List.all_eq_true.1 h z hz
 simp only [Bool.and_eq_true,decide_eq_true_eq] at this;exact this)
theorem count_q (W:World) (n₀ b:Nat) (v:Value) (m:Mst) (h:PMem W n₀ b v m) (r:Int) (e1:m.count=r):Calls Tryz.prog 22 #[.pointer (some ⟨b,0,none⟩)] W fun e W'=>e=.returned (.int .i64 r)/\W=W':=by
 obtain ⟨⟨_,_,c2,_⟩,_⟩:=h.opened;rw [e1] at c2;clear h e1;go_enter Tryz.func22,Tryz.ntmps22;go_wp2;go_ret;exact ⟨rfl,rfl⟩
theorem now_count (w W:World) (b:Nat) (s:Mst) (r:Int) (h:Now w W b s) (e1:s.count=r):Calls Tryz.prog 22 #[.pointer (some ⟨b,0,none⟩)] W fun e W'=>e=.returned (.int .i64 r)/\W=W':=by
 obtain ⟨⟨v,h⟩,_⟩:=h;exact count_q W _ b v s h r e1
def pkn0:Mst:=⟨[1,0,0,0,0,57,0],9,2,0,0⟩
theorem pkn0_is:begun (Mst.new 9)=pkn0:=by kernel_rfl
theorem known11_c (w:World):Calls Tryz.prog 14 #[] w fun e w'=>e=.returned (.bool true)/\Kept w w':=by
 go_enter Tryz.func14,Tryz.ntmps14;go_wp2_with (fail);refine (now_new w w 9 (Kept.refl w) (by decide) (by decide)).mono ?_;rintro e W1 ⟨rfl,h1,-⟩;have H1:=gh h1;clear h1;go_wp2_with (fail);refine (begin_c w W1 _ _ H1.o rfl (by decide)).mono ?_;rintro e W2 ⟨rfl,h2⟩;have H2:=gh h2;rw [pkn0_is] at H2;clear h2 H1;go_wp2_with (fail);refine (pk_new W2 6).mono ?_;rintro e W3 ⟨rfl,p3,k3⟩;obtain ⟨f,hf⟩:∃ f,W2.heap.size=f:=⟨_,rfl⟩;have M3:=gh (H2.o.peek k3 p3);rw [hf] at M3;clear p3 k3 H2;rw [hf];clear hf;go_wp2_with (fail);refine (pk_done W3 f _ M3.o.frame false rfl).mono ?_;rintro e W4 ⟨rfl,rfl⟩;go_wp2_with (fail);refine (pk_word W3 f _ M3.o.frame 0 rfl).mono ?_;rintro e W4 ⟨rfl,rfl⟩;go_wp2_with (fail);refine (mpk_step w W3 _ _ f _ M3.o (allI_ok (by kernel_rfl)) ⟨4,6,0,57⟩ ⟨[1,0,0,0,0,57,0],9,3,0,0⟩ true (by kernel_rfl) rfl).mono ?_;rintro e W4 ⟨rfl,m4⟩;have M4:=gh m4;clear m4 M3;go_wp2_with (fail);refine (pk_done W4 f _ M4.o.frame true rfl).mono ?_;rintro e W5 ⟨rfl,rfl⟩;go_wp2_with (fail);refine (pk_word W4 f _ M4.o.frame 57 rfl).mono ?_;rintro e W5 ⟨rfl,rfl⟩;go_wp2_with (fail);refine (mpk_step w W4 _ _ f _ M4.o (allI_ok (by kernel_rfl)) ⟨4,6,0,57⟩ ⟨[1,0,0,0,0,57,0],9,3,0,0⟩ true (by kernel_rfl) rfl).mono ?_;rintro e W5 ⟨rfl,m5⟩;have M5:=gh m5;clear m5 M4;go_wp2_with (fail);refine (now_count w W5 _ _ 3 M5.o.now rfl).mono ?_;rintro e W6 ⟨rfl,rfl⟩;go_wp2;go_ret;exact ⟨rfl,M5.o.kept⟩
end
section
end
section
open Go.Shelf
variable {X:Nat->Prop}
def Yx (X:Nat->Prop) (w W:World) (y b x mb:Nat) (m:Mst) (ix:Ixp):Prop:=∃ tb v mv tv lv pz,YdIs X W w.heap.size y b x mb tb v mv tv lv pz m ix/\Kept w W
theorem Yd.sees {w W:World} {y:Nat} {m:Mst} {ix:Ixp} (h:Yd X w W y m ix):∃ b x mb,Yx X w W y b x mb m ix:=by
 obtain ⟨b,x,mb,tb,v,mv,tv,lv,pz,h⟩:=h;exact ⟨b,x,mb,tb,v,mv,tv,lv,pz,h⟩
namespace Yx
variable {w W W':World} {y b x mb:Nat} {m m':Mst} {ix:Ixp}
theorem yd (h:Yx X w W y b x mb m ix):Yd X w W y m ix:=by
 obtain ⟨tb,v,mv,tv,lv,pz,h⟩:=h;exact ⟨b,x,mb,tb,v,mv,tv,lv,pz,h⟩
theorem since (h:Yx X w W y b x mb m ix):Kept w W:=by
 obtain ⟨tb,v,mv,tv,lv,pz,_,h⟩:=h;exact h
theorem kept (h:Yx X w W y b x mb m ix) (k:Kept W W'):Yx X w W' y b x mb m ix:=by
 obtain ⟨tb,v,mv,tv,lv,pz,h1,h2⟩:=h;exact ⟨tb,v,mv,tv,lv,pz,h1.kept k,h2.trans k⟩
theorem cells (h:Yx X w W y b x mb m ix):W.cell? ⟨y,0,none⟩=some (.pointer (some ⟨b,0,none⟩))/\W.cell? ⟨y,1,none⟩=some (.pointer (some ⟨x,0,none⟩))/\W.cell? ⟨x,3,none⟩=some (.pointer (some ⟨mb,0,none⟩)):=by
 obtain ⟨tb,v,mv,tv,lv,pz,h1,_⟩:=h;have hb:=h1.box;exact ⟨by simp [World.cell?,hb],by simp [World.cell?,hb],h1.ixs.cells.1.1⟩
theorem pm (h:Yx X w W y b x mb m ix):PM W b m:=by
 obtain ⟨tb,v,mv,tv,lv,pz,h1,_⟩:=h;exact ⟨_,v,h1.pm⟩
theorem dm (h:Yx X w W y b x mb m ix):DM W mb ix.m:=by
 obtain ⟨tb,v,mv,tv,lv,pz,h1,_⟩:=h;exact ⟨_,mv,ix.m,rfl,h1.ixs.mem⟩
end Yx
theorem YOk.like {m m':Mst} {ix:Ixp} {c:Nat} (h:YOk m ix c) (e1:m'.xs=m.xs) (e2:m'.size=m.size):YOk m' ix c:=⟨e1.trans h.xs,e2.trans h.size,h.wi,h.gd,h.len,h.big⟩
theorem YOk.le {m:Mst} {ix:Ixp} {c c':Nat} (h:YOk m ix c) (hc:c<=c'):YOk m ix c':=⟨h.xs,h.size,h.wi,h.gd.le hc,h.len,h.big⟩
theorem layZ_len {m:Mst} {g:Sd.Gh} (h:Sd.Inv m g) {p:Int × Int} (hs:Sd.Sl m g p) (sh:Bool) (h7:7<=m.xs.length):7<=(Sd.layZ m p sh).1.xs.length:=by
 obtain ⟨g',G⟩:=Sd.lay_gt h hs sh 0
 have:=G.ex.len 7 (by unfold Mst.used;simp;omega)
 unfold Mst.used at this;simp at this;omega
theorem lay_xx (w W:World) (y b x mb:Nat) (m:Mst) (ix:Ixp) (c:Nat) (h:Yx X w W y b x mb m ix) (o:YOk m ix c) (n:Int) (sh:Bool) :
  Calls Tryz.prog 10 #[.pointer (some ⟨y,0,none⟩),.int .i64 n,.bool sh] W fun e W'=>∃ p m' ix',e=.returned (.int .i64 (Sd.layZ ix.m p sh).2)/\p ∈ ownL ix.m/\ix'.m=(Sd.layZ ix.m p sh).1/\Yx X w W' y b x mb m' ix'/\YOk m' ix' c:=by
 obtain ⟨tb,v,mv,tv,lv,pz,h1,h2⟩:=h;refine (lay_y W w.heap.size y b x mb tb v mv tv lv pz m ix h1 h2.size o.xs o.size o.sound o.big n sh).mono ?_;rintro e W' ⟨r,rfl,p,v',mv',m',hp,hr,q1,q2,q3,q4⟩;obtain ⟨g,hI,_⟩:=o.wi;exact ⟨p,m',_,by rw [hr],hp,rfl,⟨tb,v',mv',tv,lv,pz,q1,h2.own (fun _ e=>e) q4⟩,q2,q3,Sd.wi_lay o.wi hp sh,⟨o.gd.ts,o.gd.tape,o.gd.bud,o.gd.log⟩,o.len,layZ_len hI (Sd.own_sl hI hp) sh o.big⟩
theorem lay_x (w W:World) (y b x mb:Nat) (m:Mst) (ix:Ixp) (c:Nat) (h:Yx X w W y b x mb m ix) (o:YOk m ix c) (n:Int) (sh:Bool) :
  Calls Tryz.prog 10 #[.pointer (some ⟨y,0,none⟩),.int .i64 n,.bool sh] W fun e W'=>∃ r m' ix',e=.returned (.int .i64 r)/\Yx X w W' y b x mb m' ix'/\YOk m' ix' c:=by
 refine (lay_xx w W y b x mb m ix c h o n sh).mono ?_;rintro e W' ⟨p,m',ix',rfl,_,_,q1,q2⟩;exact ⟨_,m',ix',rfl,q1,q2⟩
theorem Pk.step_xs (p:Pk) (m:Mst):(p.step m).2.xs=m.xs/\(p.step m).2.size=m.size:=by
 unfold Pk.step
 split
 ·exact ⟨Mst.touch_xs _ _,Mst.touch_size _ _⟩
 ·split
  ·exact ⟨Mst.touch_xs _ _,Mst.touch_size _ _⟩
  ·split
   ·exact ⟨Mst.touch_xs _ _,Mst.touch_size _ _⟩
   ·split
    ·exact ⟨Mst.touch_xs _ _,Mst.touch_size _ _⟩
    ·exact ⟨rfl,rfl⟩
end
section
open Go.Shelf
variable {X:Nat->Prop}
set_option maxRecDepth 20000
def pickY (ix:Ixp) (n:Int):Ixp:=((ix.invokeZ (n % (ix.ts.length:Int)).toNat (opK (n.tdiv 3)) (opKey (n.tdiv 3)) (opVal (n.tdiv 3))).pickZ (n % (ix.ts.length:Int)).toNat).2
theorem invokeZ_busy (ix:Ixp) (j:Nat) (hj:j < ix.ts.length) (k key val:Int):∃ q,(ix.invokeZ j k key val).ts[j]? = some q/\q.busy=true:=by
 obtain ⟨q,hq⟩:∃ q,ix.ts[j]? = some q:=⟨_,List.getElem?_eq_getElem hj⟩;unfold Ixp.invokeZ;rw [hq];dsimp only
 by_cases hb:q.busy=true
 ·rw [if_pos hb];exact ⟨q,hq,hb⟩
 ·rw [if_neg hb];unfold Ixp.invoke;exact ⟨_,by rw [List.getElem?_set_self hj],rfl⟩
theorem invokeZ_ts (ix:Ixp) (j:Nat) (k key val:Int):(ix.invokeZ j k key val).ts.length=ix.ts.length:=by
 unfold Ixp.invokeZ
 split
 ·rfl
 ·split
  ·rfl
  ·unfold Ixp.invoke;exact List.length_set ..
theorem pickY_ok {m:Mst} {ix:Ixp} {c:Nat} (o:YOk m ix c) (hc:c<=6000) (n:Int):Sd.WI (pickY ix n)/\(pickY ix n).Gd (c+2)/\(pickY ix n).ts.length=3/\7<=(pickY ix n).m.xs.length/\ix.m.xs.length<=(pickY ix n).m.xs.length/\(pickY ix n).m.size=ix.m.size:=by
 have ob:=op_bounds (n.tdiv 3);have w1:=Sd.wi_invoke o.wi (n % (ix.ts.length:Int)).toNat (k:=opK (n.tdiv 3)) (key:=opKey (n.tdiv 3)) (val:=opVal (n.tdiv 3)) ⟨by omega,by omega⟩ ⟨by omega,by omega⟩;have g1:=Ixp.invokeZ_gd o.gd (n % (ix.ts.length:Int)).toNat (opK (n.tdiv 3)) (opKey (n.tdiv 3)) (opVal (n.tdiv 3));have gr:=Ixp.pickZ_grew (ix.invokeZ (n % (ix.ts.length:Int)).toNat (opK (n.tdiv 3)) (opKey (n.tdiv 3)) (opVal (n.tdiv 3))) (n % (ix.ts.length:Int)).toNat;have em:=Ixp.invokeZ_m ix (n % (ix.ts.length:Int)).toNat (opK (n.tdiv 3)) (opKey (n.tdiv 3)) (opVal (n.tdiv 3));have hl:=gr.len;have hs:=gr.size;rw [em] at hl hs;have ob:=o.big;refine ⟨Sd.wi_pick w1 g1 (by omega) _,Ixp.pickZ_gd g1 _,?_,Nat.le_trans ob hl,hl,hs⟩;unfold pickY;rw [Ixp.pickZ_len,invokeZ_ts];exact o.len
theorem YdIs.idx {W W':World} {n₀ y b x mb tb:Nat} {v mv mv':Value} {tv lv lv':Sl} {pz pz':List Pt} {m:Mst} {ix ix':Ixp} (h:YdIs X W n₀ y b x mb tb v mv tv lv pz m ix) (t:Td (Mine (fun k=>v.ownBlock=some k∨X k) W n₀) W W') (hi:IxIs (fun k=>v.ownBlock=some k∨X k) W' n₀ x ix' mb mv' tb tv lv' pz'):YdIs X W' n₀ y b x mb tb v mv' tv lv' pz' m ix':=by
 refine ⟨h.le,t.mine h.box (by decide),h.pm.turned t (fun k hk e=>?_),hi,h.xv⟩;rcases hk with rfl | hk
 ·have:=e.2.2 _ _ h.pm.box
  revert this
  decide
 ·exact e.2.1 (.inl hk)
def Others (X:Nat->Prop) (W W':World):Prop:=∀ (k:Nat) (c:Array Value) (T:TypeId),W.heap[k]? = some (.cells c T)->X k∨¬ (T=35∨T=102∨T=65∨T=2∨T=126∨T=145)->T≠118->W'.heap[k]? = some (.cells c T)
theorem Others.trans {A B C:World} (h:Others X A B) (k:Others X B C):Others X A C:=fun i c T e h1 h2=>k i c T (h i c T e h1 h2) h1 h2
theorem Others.kept {A B:World} (h:Kept A B):Others X A B:=fun _ _ _ e _ _=>h.heap e id
end
section
open Go.Shelf
variable {X:Nat->Prop}
set_option maxRecDepth 20000
theorem Others.mine {P:Nat->Prop} {W W':World} {n₀:Nat} (hX:∀ k,X k->P k) (t:Td (Mine P W n₀) W W'):Others X W W':=fun k _ _ e h1 _=>h1.elim (fun hx=>t.heap e (fun m=>m.2.1 (hX k hx))) (fun h1=>t.mine e h1)
theorem follow_yy (W:World) (n₀ y b x mb tb:Nat) (v mv:Value) (tv lv:Sl) (pz:List Pt) (m:Mst) (ix:Ixp) (h:YdIs X W n₀ y b x mb tb v mv tv lv pz m ix) (hn:n₀<=W.heap.size) (h0:0 < ix.m.xs.length) (hl:m.xs.length<=ix.m.xs.length) (hz:m.size=ix.m.size) :
  Calls Tryz.prog 40 #[.pointer (some ⟨y,0,none⟩)] W fun e W'=>e=.returned (.tuple #[])/\∃ v' m',YdIs X W' n₀ y b x mb tb v' mv tv lv pz m' ix/\m'.xs=ix.m.xs/\m'.size=ix.m.size/\Td (fun k=>n₀<=k) W W'/\Others X W W':=by
 obtain ⟨g,cc,hs,hc,hm,hap⟩:=h.sees h0;refine (follow_r W n₀ b y x mb g cc v m ix.m.xs h.pm hs hn hap hl (by have:=h.ixs.mem.room;omega) hc hm).mono ?_;rintro e W' ⟨rfl,m',⟨v',hm',t,hf⟩,e1,e2⟩;exact ⟨rfl,v',m',h.prog t (fun _ e=>.inl e) hm' hf,e1,e2.trans hz,t.mono (fun k _ hk=>(h.pm.lt k hk).1),fun k c T hk h1 h2=>t.heap hk (h1.elim (fun hx e=>e.elim (fun e=>by
  have:=h.pm.box
  rw [<- e,hk] at this;simp at this;exact h2 this.2) (fun e=>h.xv k hx e)) (fun h1=>h.pm.other hk h2 (fun e=>h1 (by rw [e];simp))))⟩
def Picked (X:Nat->Prop) (W:World) (n₀ y b x mb tb:Nat) (tv:Sl) (ix:Ixp) (c:Nat) (n:Int) (W':World):Prop:=
 ∃ v' mv' lv' pz' m',YdIs X W' n₀ y b x mb tb v' mv' tv lv' pz' m' (pickY ix n)/\YOk m' (pickY ix n) (c+2)/\Td (fun k=>n₀<=k) W W'/\Others X W W'
set_option maxHeartbeats 2000000 in
theorem pick_y (W:World) (n₀ y b x mb tb:Nat) (v mv:Value) (tv lv:Sl) (pz:List Pt) (m:Mst) (ix:Ixp) (c:Nat) (h:YdIs X W n₀ y b x mb tb v mv tv lv pz m ix) (hn:n₀<=W.heap.size) (o:YOk m ix c) (hc:c<=6000) (n:Int) (iz:I64 n) :
  Calls Tryz.prog 16 #[.pointer (some ⟨y,0,none⟩),.int .i64 n] W fun e W'=>e=.returned (.tuple #[])/\Picked X W n₀ y b x mb tb tv ix c n W':=by
 have tlen:tv.n=3:=by rw [h.ixs.tvn.1];exact o.len
 have tcap:3<=tv.c:=by have:=h.ixs.tvn;omega
 obtain ⟨tt,htt⟩:∃ tt:Nat,n % 3=(tt:Int):=⟨(n % 3).toNat,by omega⟩;have tt3:tt < 3:=by omega
 obtain ⟨d,hd⟩:∃ d,n.tdiv 3=d:=⟨_,rfl⟩;obtain ⟨z1,z2⟩:=iz;have d1:n.tmod 3+3 * d=n:=by rw [<- hd];first | exact Int.tmod_add_tdiv n 3 | exact Int.tmod_add_mul_tdiv n 3
 have d3:=Int.lt_tmod_of_pos n (show (0:Int) < 3 by decide);have d4:=Int.tmod_lt_of_pos n (show (0:Int) < 3 by decide);have b1:-9223372036854775808<=d/\d<=9223372036854775807:=by omega
 obtain ⟨ix1,hx1⟩:∃ ix1,ix.invokeZ tt (opK d) (opKey d) (opVal d)=ix1:=⟨_,rfl⟩;have PY:Hid (pickY ix n=(ix1.pickZ tt).2):=gh (by
  unfold pickY;rw [o.len,hd]
  have:(n % ((3:Nat):Int)).toNat=tt:=by show (n % 3).toNat=tt;omega
  rw [this,hx1])
 have tl:tt < ix.ts.length:=by rw [o.len];exact tt3
 obtain ⟨q,hq⟩:∃ q,ix.ts[tt]? = some q:=⟨_,List.getElem?_eq_getElem tl⟩;obtain ⟨p,hp⟩:∃ p,pz[tt]? = some p:=⟨_,List.getElem?_eq_getElem (by rw [h.ixs.pn];exact tl)⟩;obtain ⟨bz,hb⟩:∃ bz,q.busy=bz:=⟨_,rfl⟩;have c1:W.cell? ⟨y,1,none⟩=some (.pointer (some ⟨x,0,none⟩)):=by have:=h.box;simp [World.cell?,this]
 have f4:=h.ixs.cells.1.2.1;have fj:=h.ixs.slot hp;have fb:=(h.ixs.th tt q p hq hp).cells.1.2.1;rw [hb] at fb;rw [tlen] at f4;have C3:∀ X,Calls Tryz.prog 25 #[.int .i64 n,.int .i64 3] X fun e X'=>e=.returned (.int .i64 (tt:Int))/\X=X':=fun X=>htt ▸ cut_g X n 3 (by decide) (by decide);have u1:(tt:Int) < 3:=by omega
 have u2:tt < tv.c:=by omega
 have u0:decide ((tt:Int) < 0)=false:=by simp
 have u3:decide ((3:Int)<=(tt:Int))=false:=by simp;omega
 have HI:=gh h;have HN:=gh hn;have HO:=gh o;have HC:=gh hc;have HP:=pickY_ok o hc n;have HPO:=gh HP;have HC3:=gh C3;have GD1:Hid (ix1.Gd (c+1)):=gh (by rw [<- hx1];exact Ixp.invokeZ_gd o.gd _ _ _ _);have BZ:Hid (∃ q,ix1.ts[tt]? = some q/\q.busy=true):=gh (by rw [<- hx1];exact invokeZ_busy ix tt tl _ _ _);have IDLE:Hid (bz=true->ix1=ix):=gh (fun e=>by
  rw [<- hx1];unfold Ixp.invokeZ;rw [hq];dsimp only;rw [if_pos (by rw [hb];exact e)])
 have HX1:=gh hx1;have TL:=gh tl;have REST:Hid (∀ (V:World) (lv1:Sl) (pz1:List Pt),YdIs X V n₀ y b x mb tb v mv tv lv1 pz1 m ix1->n₀<=V.heap.size->Calls Tryz.prog 61 #[.pointer (some ⟨x,0,none⟩),.int .i64 (tt:Int)] V fun e V'=>(∃ u,e=.returned u)/\(∃ mv2 lv2 pz2,YdIs X V' n₀ y b x mb tb v mv2 tv lv2 pz2 m (ix1.pickZ tt).2)/\Td (fun k=>n₀<=k) V V'/\Others X V V'):=gh (fun V lv1 pz1 hy hv=>by
  obtain ⟨q',hq',hb'⟩:=BZ.o;obtain ⟨p',hp'⟩:=hy.ixs.bz tt q' hq' hb';refine (pickz_r V n₀ x mb tb ix1 mv tv lv1 pz1 hy.ixs hv tt q' p' hq' hb' hp' (c+1) GD1.o (by have:=HC.o;omega) _ _ rfl).mono ?_;rintro e V' ⟨⟨u,la,ln,lc,rfl⟩,⟨mv2,lv2,pz2,h2⟩,t2⟩;exact ⟨⟨_,rfl⟩,⟨mv2,lv2,pz2,hy.idx t2 h2⟩,t2.since,Others.mine (fun _ e=>.inr e) t2⟩)
 have FIN:Hid (∀ (V:World) (mv2:Value) (lv2:Sl) (pz2:List Pt),YdIs X V n₀ y b x mb tb v mv2 tv lv2 pz2 m (ix1.pickZ tt).2->n₀<=V.heap.size->Td (fun k=>n₀<=k) W V->Others X W V->Calls Tryz.prog 40 #[.pointer (some ⟨y,0,none⟩)] V fun e W'=>e=.returned (.tuple #[])/\Picked X W n₀ y b x mb tb tv ix c n W'):=gh (fun V mv2 lv2 pz2 hy hv t ot=>by
  rw [<- PY.o] at hy;obtain ⟨q1,q2,q3,q4,q5,q6⟩:=HPO.o;refine (follow_yy V n₀ y b x mb tb v mv2 tv lv2 pz2 m _ hy hv (by omega) (by rw [HO.o.xs];exact q5) (by rw [HO.o.size,q6])).mono ?_;rintro e W' ⟨rfl,v',m',h1,h2,h3,h4,h5⟩;exact ⟨rfl,v',mv2,lv2,pz2,m',h1,⟨h2,h3,q1,q2,q3,q4⟩,t.trans h4 (fun _ e=>e) (fun _ _ e=>e),ot.trans h5⟩)
 clear h hn o hc HP C3 htt hq hp hb d1 d3 d4 hx1 tl tlen tcap;go_enter Tryz.func16,Tryz.ntmps16;go_wp2_with (fail);refine (HC3.o W).mono ?_;rintro e w' ⟨rfl,rfl⟩;cases bz with
 | true=>
  have e1:=gh (IDLE.o rfl);go_wp2_with (fail);refine (REST.o W lv pz (by rw [e1.o];exact HI.o) HN.o).mono ?_;rintro e V ⟨⟨u,rfl⟩,⟨mv2,lv2,pz2,y2⟩,t2,o2⟩;have FF:=gh (FIN.o V mv2 lv2 pz2 y2 (Nat.le_trans HN.o t2.size) t2 o2);clear y2 t2 o2 c1 f4 fj fb;go_wp2_with (fail);refine FF.o.mono ?_;rintro e W' ⟨rfl,P⟩;have PP:=gh P;clear P FF;go_wp2
  go_end0
  exact ⟨rfl,PP.o⟩
 | false=>
  go_upto_region 2 with (fail)
  obtain ⟨V,hV⟩:∃ V,W.drew=V:=⟨_,rfl⟩;have K0:Hid (Kept W V):=gh (by rw [<- hV];exact Kept.drew _);have BY:Hid (V.heap[y]? = some (.cells #[.pointer (some ⟨b,0,none⟩),.pointer (some ⟨x,0,none⟩)] 39)):=gh (K0.o.heap HI.o.box id);have x0:∀ u:Wd (fun U=>Td (Mine (fun k=>v.ownBlock=some k∨X k) V n₀) V U),u.w.cell? ⟨y,1,none⟩=some (.pointer (some ⟨x,0,none⟩)):=fun u=>by
   have:=u.ok.mine BY.o (by decide)
   simp [World.cell?,this]
  clear c1 f4 fj fb;refine region_wide [0,1,2,3,4,5,6,7,8] (fun U=>Td (Mine (fun k=>v.ownBlock=some k∨X k) V n₀) V U) (by kernel_rfl) (by kernel_rfl) (by rw [hV];exact Td.refl _ _) (fun _=>?_);rw [hV];clear hV
  iterate 7 (refine pq rfl rfl ?_;go_big_quiet_step (rfl);refine wpQuiet_nil ?_)
  refine pl rfl rfl ?_;gi_wp2_with (fail);refine ⟨trivial,?_⟩
  try rw [hd]
  refine (callsIn_wide.2 (op_r V d ⟨b1.1,b1.2⟩)).mono ?_;rintro e W5 ⟨rfl,k5⟩;have K5:=gh k5;clear k5;gi_wp2_with (fail);refine ⟨Wd.mem (K5.o.mono (fun _ _ e=>e.elim)),?_⟩;refine pl rfl rfl ?_;gi_wp2_with (fail);refine ⟨trivial,?_⟩;refine (callsIn_wide.2 (invokez_r W5 n₀ x mb tb ix mv tv lv pz ((HI.o.kept K0.o).kept K5.o).ixs (Nat.le_trans HN.o (Nat.le_trans K0.o.size K5.o.size)) tt TL.o c HO.o.gd (by have:=HC.o;omega) d)).mono ?_;rintro e W6 ⟨⟨rr,rfl⟩,⟨lv1,pz1,i6⟩,t6⟩;rw [HX1.o] at i6;have Y6:Hid (YdIs X W6 n₀ y b x mb tb v mv tv lv1 pz1 m ix1):=gh (((HI.o.kept K0.o).kept K5.o).idx t6 i6);have T6:Hid (Td (Mine (fun k=>v.ownBlock=some k∨X k) V n₀) V W6):=gh (Td.mine_kept K5.o t6);have TW:Hid (Td (fun k=>n₀<=k) W W6):=gh (K0.o.then T6.o.since);have OW:Hid (Others X W W6):=gh ((Others.kept K0.o).trans (Others.mine (fun _ e=>.inr e) T6.o));clear i6 t6;gi_wp2_with (fail);refine ⟨Wd.mem T6.o,?_⟩;refine perm_done ?_;have c1:W6.cell? ⟨y,1,none⟩=some (.pointer (some ⟨x,0,none⟩)):=by have:=Y6.o.box;simp [World.cell?,this]
  clear x0;go_wp2_with (fail);refine (REST.o W6 lv1 pz1 Y6.o (Nat.le_trans HN.o TW.o.size)).mono ?_;rintro e V9 ⟨⟨u,rfl⟩,⟨mv2,lv2,pz2,y2⟩,t2,o2⟩;have FF:=gh (FIN.o V9 mv2 lv2 pz2 y2 (Nat.le_trans HN.o (Nat.le_trans TW.o.size t2.size)) (TW.o.trans t2 (fun _ e=>e) (fun _ _ e=>e)) (OW.o.trans o2));clear y2 t2 o2 c1;go_wp2_with (fail);refine FF.o.mono ?_;rintro e W' ⟨rfl,P⟩;have PP:=gh P;clear P FF;go_wp2
  go_end0
  exact ⟨rfl,PP.o⟩
theorem pick_x (w W:World) (y b x mb:Nat) (m:Mst) (ix:Ixp) (c:Nat) (h:Yx X w W y b x mb m ix) (o:YOk m ix c) (hc:c<=6000) (n:Int) (iz:I64 n) :
  Calls Tryz.prog 16 #[.pointer (some ⟨y,0,none⟩),.int .i64 n] W fun e W'=>e=.returned (.tuple #[])/\∃ m',Yx X w W' y b x mb m' (pickY ix n)/\YOk m' (pickY ix n) (c+2)/\Others X W W':=by
 obtain ⟨tb,v,mv,tv,lv,pz,h1,h2⟩:=h;refine (pick_y W w.heap.size y b x mb tb v mv tv lv pz m ix c h1 h2.size o hc n iz).mono ?_;rintro e W' ⟨rfl,v',mv',lv',pz',m',q1,q2,q3,q4⟩;exact ⟨rfl,m',⟨tb,v',mv',tv,lv',pz',q1,h2.own (fun _ e=>e) q3⟩,q2,q4⟩
theorem PkAt.others {W W':World} {f:Nat} {p:Pk} (h:PkAt W f p) (t:Others X W W'):PkAt W' f p:=t _ _ _ h (.inr (by decide)) (by decide)
end
section
open Go.Shelf
variable {X:Nat->Prop} {lo:Nat}
set_option maxRecDepth 100000 in
set_option maxHeartbeats 2000000 in
set_option maxRecDepth 100000 in
set_option maxHeartbeats 2000000 in
set_option maxRecDepth 100000 in
set_option maxHeartbeats 2000000 in
end
section
open Go.Shelf
variable {X:Nat->Prop} {lo:Nat}
end
section
open Go.Shelf
variable {X:Nat->Prop} {lo:Nat}
structure Lp where
 pc:Int
 a:Int
 tape:List Int
 done:Bool
 w:Int
 rc:Int
 ld:Int
namespace Lp
end Lp
end
section
open Go.Shelf
variable {X:Nat->Prop} {lo:Nat}
attribute [local go_sem] Oper.semAt_some
end
section
open Go.Shelf
variable {P Q X Z:Nat->Prop}
set_option maxRecDepth 20000
end
section
open Sd (Pr Fo)
namespace Lp
end Lp
section
variable {α:Type}
def hl6 (a s w:Int):Pr Unit:=(Pr.cas s (Rf.ofZ 5 a) w).bind fun _=>.ret ()
def hl5 (a s p:Int):Pr Unit:=(Pr.read (a+p)).bind fun v=>hl6 a s v
def hl4 (a p:Int):Pr Unit:=(Pr.read (a+1)).bind fun s=>hl5 a s p
def hl3 (a:Int):Pr Unit:=(Pr.read (a+4)).bind fun o=>hl4 a (Hp.placeZ o)
def hl2 (a o:Int):Pr Unit:=(Pr.cas (a+4) 0 o).bind fun _=>hl3 a
def hl1 (a g:Int):Pr Unit:=(Pr.read g).bind fun gd=>hl2 a (Hp.outZ gd)
end
end
section
open Go.Shelf
open Sd (Pr)
variable {X Z:Nat->Prop}
set_option maxRecDepth 20000
def But (X:Nat->Prop) (F:Nat->Prop) (W W':World):Prop:=∀ (k:Nat) (c:Array Value) (T:TypeId),W.heap[k]? = some (.cells c T)->¬ F k->X k∨T≠2->T≠118->W'.heap[k]? = some (.cells c T)
theorem But.of {w W W':World} {y b x mb tb:Nat} {v mv:Value} {tv lv:Sl} {pz:List Pt} {m:Mst} {ix:Ixp} {F:Nat->Prop} (h1:YdIs X W w.heap.size y b x mb tb v mv tv lv pz m ix) (t:Td (fun k=>F k∨Foot b v k) W W'):But X F W W':=fun k c T hk hF h3 h4=>t.heap hk (fun e=>e.elim hF (fun e=>by
 rcases h3 with h3 | h3
 ·rcases e with e | e
  ·have:=h1.pm.box
   rw [<- e,hk] at this;simp at this;exact h4 this.2
  ·exact h1.xv k h3 e
 ·exact h1.pm.other hk h4 h3 e))
theorem pk_y (w W:World) (y b x mb:Nat) (m:Mst) (ix:Ixp) (f:Nat) (p:Pk) (h:Yx X w W y b x mb m ix) (ho:m.ok) (hf:PkAt W f p) (hn:w.heap.size<=f) :
  Calls Tryz.prog 17 #[.pointer (some ⟨f,0,none⟩),.pointer (some ⟨b,0,none⟩)] W fun e W'=>e=.returned (.bool ((p.step m).1.n == 4))/\Yx X w W' y b x mb (p.step m).2 ix/\PkAt W' f (p.step m).1/\But X (fun k=>k=f) W W':=by
 obtain ⟨tb,v,mv,tv,lv,pz,h1,h2⟩:=h;have hnf:¬ Foot b v f:=h1.pm.other hf (by decide) (by decide);refine (pk_step W _ b v f p m hf h1.pm (fun a=>ho.look a) hnf (p.step m).1 (p.step m).2 _ rfl rfl).mono ?_;rintro e W' ⟨rfl,R⟩;have t:Td (fun k=>k=f∨Foot b v k) W W':=R.turned.mono (fun k _ e=>e.imp id .inl);refine ⟨rfl,⟨tb,v,mv,tv,lv,pz,h1.prog t (fun k hk=>?_) R.mem (fun k hk=>.inl hk),h2.own (fun k hk=>?_) t⟩,R.frame,But.of h1 t⟩
 ·rcases hk with rfl | hk
  ·exact .inr ⟨_,_,hf,by decide,by decide⟩
  ·exact .inl hk
 ·rcases hk with rfl | hk
  ·exact hn
  ·exact (h1.pm.lt k hk).1
end
section
open Go.Shelf
open Sd (Pr)
variable {X Z:Nat->Prop}
set_option maxRecDepth 20000
section
variable {F F':World->Pr Int->Prop} {w W W':World} {y b x mb e:Nat} {m m1:Mst} {ix:Ixp} {c:Nat} {A A1:Pr Int} {q:Lp} {tp:Sl}
end
def Pk.rk (p:Pk):Nat:=if p.n=0 then 3 else if p.n=1 then 2 else if p.n=4 then 0 else 1
theorem Pk.rk_step (p:Pk) (m:Mst) (h:p.n=0∨p.n=1∨p.n=2∨p.n=3∨p.n=4):(p.step m).1.rk<=p.rk - 1:=by
 have no:∀ {i j:Int},i≠j->p.n=i->¬ p.n=j:=fun h e=>by rw [e];exact h
 unfold Pk.step;rcases h with e | e | e | e | e
 ·rw [if_pos e]
  have:p.rk=3:=if_pos e
  rw [this];unfold Pk.take
  split
  ·show (2:Nat)<=3 - 1;decide
  ·show (0:Nat)<=_;exact Nat.zero_le _
 ·rw [if_neg (no (by decide) e),if_pos e]
  have:p.rk=2:=by unfold Pk.rk;rw [if_neg (no (by decide) e),if_pos e]
  rw [this];unfold Pk.choose
  split
  ·show (1:Nat)<=2 - 1;decide
  ·show (1:Nat)<=2 - 1;decide
 ·rw [if_neg (no (by decide) e),if_neg (no (by decide) e),if_pos e];show (if (4:Int)=0 then _ else _)<=_;exact Nat.zero_le _
 ·rw [if_neg (no (by decide) e),if_neg (no (by decide) e),if_neg (no (by decide) e),if_pos e];show (if (4:Int)=0 then _ else _)<=_;exact Nat.zero_le _
 ·rw [if_neg (no (by decide) e),if_neg (no (by decide) e),if_neg (no (by decide) e),if_neg (no (by decide) e)]
  have:p.rk=0:=by unfold Pk.rk;rw [if_neg (no (by decide) e),if_neg (no (by decide) e),if_pos e]
  rw [this];exact Nat.zero_le _
end
section
open Go.Shelf
variable {X Z:Nat->Prop}
set_option maxRecDepth 20000
def WP (Φ:Mst->Sd.Gh->Prop) (ix:Ixp):Prop:=∃ g:Sd.Gh,Sd.Inv ix.m g/\(∀ t q,ix.ts[t]? = some q->Sd.TOk t q ix.m g)/\Φ ix.m g
def One (m m':Mst):Prop:=m'=m∨∃ q,m'=(m.doA q).2
theorem WP.mono {Φ Φ':Mst->Sd.Gh->Prop} {ix:Ixp} (h:WP Φ ix) (k:∀ g,Sd.Inv ix.m g->Φ ix.m g->Φ' ix.m g):WP Φ' ix:=by
 obtain ⟨g,h1,h2,h3⟩:=h;exact ⟨g,h1,h2,k g h1 h3⟩
theorem wp_pick (t:Nat) {Φ Φ':Mst->Sd.Gh->Prop} {ix:Ixp} {c:Nat} (h:WP Φ ix) (hΦ:∀ g m' g',Sd.Inv ix.m g->Sd.Inv m' g'->Sd.Ex ix.m g m' g'->One ix.m m'->m'=(ix.pickZ t).2.m->Φ ix.m g->Φ' m' g') (hg:ix.Gd c) (hc:c<=50000):WP Φ' (ix.pickZ t).2:=by
 obtain ⟨g,hI,hT,hA⟩:=h;have same:∀ ix',ix'=ix->ix'=(ix.pickZ t).2->WP Φ' ix':=fun ix' e e'=>by
  subst e;exact ⟨g,hI,hT,hΦ g _ g hI hI (Sd.Ex.refl _ _) (.inl rfl) (congrArg Ixp.m e') hA⟩
 generalize hr:(ix.pickZ t).2=r at *;unfold Ixp.pickZ at hr
 split at hr
 ·exact same r hr.symm rfl
 rename_i q hq;have tl:t < ix.ts.length:=(List.getElem?_eq_some_iff.1 hq).1
 split at hr
 ·exact same r hr.symm rfl
 rename_i p hp
 split at hr
 ·obtain ⟨g2,G,hF⟩:=Sd.frame_step hI (hT t q hq p hp) (Nat.le_trans (hg.tape t q p hq hp) hc);dsimp only at hr;have em:(q.step p ix.m).2.2=(p.step ix.m).2:=by unfold Tp.step;split <;> rfl
  have ef:(q.step p ix.m).2.1.fr=some (p.step ix.m).1:=by unfold Tp.step;split <;> rfl
  have km:∀ (c i:Nat) (ix:Ixp),(Ixp.takesL c i ix).m=ix.m:=fun c=>by
   induction c with
   | zero=>intro i ix;rfl
   | succ c ih=>
    intro i ix;rw [Ixp.takesL,ih];unfold Ixp.takes1
    split
    ·split <;> rfl
    ·rfl
  have rm:r.m=(p.step ix.m).2:=by
   rw [<- hr,km];exact em
  have one:One ix.m (p.step ix.m).2:=by
   unfold Fp.step
   split
   ·exact .inl rfl
   ·exact .inr ⟨_,rfl⟩
  have G':Sd.Gt t ix.m g (p.step ix.m).2 g2:=by rw [<- em];first | exact G | (rw [em];exact G)
  refine ⟨g2,by rw [rm];exact G'.inv,fun i q' hq' p' hp'=>?_,by rw [rm];exact hΦ g _ g2 hI G'.inv G'.ex one rm.symm hA⟩;rw [rm];rw [<- hr] at hq';obtain ⟨q1,h1,h2,_⟩:=Ixp.takesL_ts _ _ _ i q' hq';have h1':(ix.ts.set t (q.step p ix.m).2.1)[i]? = some q1:=h1;rw [List.getElem?_set] at h1'
  split at h1'
  ·rename_i e;cases h1';rw [h2,ef] at hp';cases hp';rw [<- e];exact hF
  ·rename_i e;rw [h2] at hp';exact (hT i q1 h1' p' hp').rl (G'.rl e)
 ·exact same r hr.symm rfl
theorem wp_invoke {Φ:Mst->Sd.Gh->Prop} {ix:Ixp} (h:WP Φ ix) (t:Nat) {k key val:Int} (ik:I64 key) (iv:I64 val):WP Φ (ix.invokeZ t k key val):=by
 obtain ⟨g,hI,hT,hA⟩:=h;have em:=Ixp.invokeZ_m ix t k key val;refine ⟨g,by rw [em];exact hI,?_,by rw [em];exact hA⟩;rw [em];unfold Ixp.invokeZ
 split
 ·exact hT
 rename_i q hq
 split
 ·exact hT
 intro i q' hq' p' hp';have hq2:(ix.ts.set t { q.begin k key val with no:=ix.inv })[i]? = some q':=hq';rw [List.getElem?_set] at hq2
 split at hq2
 ·split at hq2
  ·cases hq2;have e:(some (Fp.make k key val q.bud).settle:Option Fp)=some p':=hp';cases e;obtain ⟨ps1,ps2,ps3,ps4,ps5⟩:=Sd.play_settle (Fp.make k key val q.bud);refine ⟨by rw [ps4];exact ik,by rw [ps5];exact iv,fun d=>⟨by rw [ps1];exact Sd.done_settle d,fun _=>?_⟩⟩;rw [ps2,ps3,ps4,ps5];show Sd.Safe i ((Sd.Pr.change Sd.N0 k key val Sd.N0).res []) _ _ _;rw [Sd.res_nil];exact Sd.Safe.mono (fun _ _ _ _=>trivial) (Sd.change_safe Sd.N0 (by unfold Sd.N0;omega) ik iv Sd.N0 ix.m g hI)
  ·cases hq2
 ·exact hT i q' hq2 p' hp'
theorem wp_pickY {Φ Φ':Mst->Sd.Gh->Prop} {m:Mst} {ix:Ixp} {c:Nat} (h:WP Φ ix) (o:YOk m ix c) (hc:c<=6000) (n:Int) (hΦ:∀ g m' g',Sd.Inv ix.m g->Sd.Inv m' g'->Sd.Ex ix.m g m' g'->One ix.m m'->m'=(pickY ix n).m->Φ ix.m g->Φ' m' g'):WP Φ' (pickY ix n):=by
 have ob:=op_bounds (n.tdiv 3);have w1:=wp_invoke h (n % (ix.ts.length:Int)).toNat (k:=opK (n.tdiv 3)) (key:=opKey (n.tdiv 3)) (val:=opVal (n.tdiv 3)) ⟨by omega,by omega⟩ ⟨by omega,by omega⟩;have g1:=Ixp.invokeZ_gd o.gd (n % (ix.ts.length:Int)).toNat (opK (n.tdiv 3)) (opKey (n.tdiv 3)) (opVal (n.tdiv 3));have em:=Ixp.invokeZ_m ix (n % (ix.ts.length:Int)).toNat (opK (n.tdiv 3)) (opKey (n.tdiv 3)) (opVal (n.tdiv 3));exact wp_pick _ w1 (by rw [em];exact hΦ) g1 (by omega)
theorem write_else (m:Mst) (a x c:Int) (h:c≠a):(m.write a x).look c=m.look c:=by
 by_cases hu:m.used a=true
 ·rw [Sd.look_set hu,if_neg h]
 ·refine Sd.look_same ?_ c;unfold Mst.write Mst.put;rw [if_neg (by rw [Sd.used_same (Mst.touch_xs m a)];exact hu)];exact Mst.touch_xs m a
theorem one_cell (m:Mst) (q:Ak) (c c':Int) (hc:m.used c=true) (hne:c≠c'):(m.doA q).2.look c=m.look c∨(m.doA q).2.look c'=m.look c':=by
 have tk:∀ a,(m.touch a).look c=m.look c:=fun a=>Sd.look_same (Mst.touch_xs m a) c;have wr:∀ a x,(m.write a x).look c=m.look c∨(m.write a x).look c'=m.look c':=fun a x=>by
  by_cases e:c=a
  ·exact .inr (write_else m a x c' (fun e'=>hne (e.trans e'.symm)))
  ·exact .inl (write_else m a x c e)
 unfold Mst.doA
 split
 ·exact .inl (tk _)
 ·split
  ·exact wr _ _
  ·split
   ·dsimp only;unfold Mst.cas
    split
    ·exact wr _ _
    ·exact .inl (tk _)
   ·split
    ·exact wr _ _
    ·split
     ·exact .inl (Sd.make_keeps m _ c hc).2
     ·exact .inl rfl
def Mt (s:Int) (p:Pk) (zs:List Int) (m:Mst) (g:Sd.Gh):Prop:=
 g.ro s=some .slot/\m.logicZ s ∈ zs/\p.s=s/\
 (p.n=0∨(p.n=4/\p.w ∈ zs)∨∃ gd o x,Sd.Pd g p.d gd s o x/\
  ((p.n=1/\((kd (m.look s)=5/\ad (m.look s)=p.d/\m.look (p.d+4)=0)∨(m.look (p.d+4)≠0/\(if m.look (p.d+4)=1 then x else o) ∈ zs)))∨
  (p.n=2/\x ∈ zs)∨(p.n=3/\o ∈ zs)))
theorem logic_dc {m:Mst} {g:Sd.Gh} (h:Sd.Inv m g) {s gd o x:Int} (k:kd (m.look s)=5) (hP:Sd.Pd g (ad (m.look s)) gd s o x):m.logicZ s=if m.look (ad (m.look s)+4)=1 then x else o:=by
 unfold Mst.logicZ;rw [if_pos k,<- h.fix hP.dc.c3,<- h.fix hP.dc.c2]
theorem mt_pick {s:Int} {p:Pk} {zs:List Int} {m m':Mst} {g g':Sd.Gh} (hI:Sd.Inv m g) (hI':Sd.Inv m' g') (hE:Sd.Ex m g m' g') (ho:One m m') (h:Mt s p zs m g):Mt s p (zs++[m'.logicZ s]) m' g':=by
 obtain ⟨h1,h2,h3,h4⟩:=h;have old:∀ {z},z ∈ zs->z ∈ zs++[m'.logicZ s]:=fun e=>List.mem_append.2 (.inl e);have new:m'.logicZ s ∈ zs++[m'.logicZ s]:=List.mem_append.2 (.inr (by simp));refine ⟨hE.so h1,new,h3,?_⟩;rcases h4 with e | ⟨e,e2⟩ | ⟨gd,o,x,hP,h4⟩
 ·exact .inl e
 ·exact .inr (.inl ⟨e,old e2⟩)
 ·have hP':Sd.Pd g' p.d gd s o x:=⟨hE.dc hP.dc,(hE.pl _ hP.pl).1⟩;refine .inr (.inr ⟨gd,o,x,hP',?_⟩);rcases h4 with ⟨e,h4⟩ | ⟨e,h4⟩ | ⟨e,h4⟩
  ·refine .inl ⟨e,?_⟩;rcases h4 with ⟨k1,k2,k3⟩ | ⟨k1,k2⟩
   ·have q:=hE.dcs s gd o x h1 k1 (by rw [k2];exact hP.dc);rw [k2] at q
    by_cases e0:m'.look (p.d+4)=0
    ·rcases q with q | q
     ·exact .inl ⟨by rw [q];exact k1,by rw [q];exact k2,e0⟩
     ·exact absurd e0 q
    ·refine .inr ⟨e0,?_⟩;have same:m'.look s=m.look s:=by
      rcases ho with rfl | ⟨ak,rfl⟩
      ·rfl
      ·have us:m.used s=true:=(hI.used s).1 (by rw [h1];exact (fun e=>by cases e));rcases one_cell m ak s (p.d+4) us (fun e=>by have:=hP.dc.c4;rw [<- e,h1] at this;cases this) with e | e
       ·exact e
       ·exact absurd (e.trans k3) e0
     have l:=logic_dc hI' (s:=s) (gd:=gd) (o:=o) (x:=x) (by rw [same];exact k1) (by rw [same,k2];exact hP');rw [same,k2] at l;rw [<- l];exact new
   ·rw [hE.stay _ (.inr (.inr hP.dc.c4)) k1];exact .inr ⟨k1,old k2⟩
  ·exact .inr (.inl ⟨e,old h4⟩)
  ·exact .inr (.inr ⟨e,old h4⟩)
theorem mt_step {s:Int} {p:Pk} {zs:List Int} {m d:Mst} {g:Sd.Gh} (hI:Sd.Inv d g) (hx:m.xs=d.xs) (h:Mt s p zs d g):Mt s (p.step m).1 zs d g:=by
 have lk:∀ a,m.look a=d.look a:=look_xs hx;obtain ⟨h1,h2,h3,h4⟩:=h;unfold Pk.step;rcases h4 with e | ⟨e,e2⟩ | ⟨gd,o,x,hP,h4⟩
 ·rw [if_pos e];dsimp only;rw [h3,lk];unfold Pk.take
  by_cases k:kd (d.look s)=5
  ·rw [if_pos k];rcases hI.sees h1 with q | q | ⟨_,gd,o,x,q⟩
   ·rw [q] at k;exact absurd k (by decide)
   ·exact absurd k q.ne.2
   ·refine ⟨h1,h2,h3,.inr (.inr ⟨gd,o,x,q,.inl ⟨rfl,?_⟩⟩)⟩;dsimp only
    by_cases e0:d.look (ad (d.look s)+4)=0
    ·exact .inl ⟨k,rfl,e0⟩
    ·refine .inr ⟨e0,?_⟩;rw [<- logic_dc hI k q];exact h2
  ·rw [if_neg k];refine ⟨h1,h2,h3,.inr (.inl ⟨rfl,?_⟩)⟩
   have:d.logicZ s=d.look s:=by unfold Mst.logicZ;rw [if_neg k]
   rw [<- this];exact h2
 ·rw [if_neg (by omega),if_neg (by omega),if_neg (by omega),if_neg (by omega)];exact ⟨h1,h2,h3,.inr (.inl ⟨e,e2⟩)⟩
 ·have b:=hI.dcB hP.dc;have w4:wrap64 (p.d+4)=p.d+4:=Pt.wrap_same (by omega) (by omega);have w3:wrap64 (p.d+3)=p.d+3:=Pt.wrap_same (by omega) (by omega);have w2:wrap64 (p.d+2)=p.d+2:=Pt.wrap_same (by omega) (by omega);rcases h4 with ⟨e,h4⟩ | ⟨e,h4⟩ | ⟨e,h4⟩
  ·rw [if_neg (by omega),if_pos e];dsimp only;rw [w4,lk];unfold Pk.choose;refine ⟨h1,h2,h3,.inr (.inr ⟨gd,o,x,hP,.inr ?_⟩)⟩
   by_cases e1:d.look (p.d+4)=1
   ·rcases h4 with ⟨_,_,k3⟩ | ⟨_,k2⟩
    ·rw [k3] at e1;cases e1
    ·rw [if_pos e1] at k2;exact .inl ⟨by dsimp only;rw [if_pos e1],k2⟩
   ·refine .inr ⟨by dsimp only;rw [if_neg e1],?_⟩;rcases h4 with ⟨k1,k2,_⟩ | ⟨_,k2⟩
    ·have l:=logic_dc hI k1 (by rw [k2];exact hP);rw [k2,if_neg e1] at l;rw [<- l];exact h2
    ·rwa [if_neg e1] at k2
  ·rw [if_neg (by omega),if_neg (by omega),if_pos e];dsimp only;rw [w3,lk,hI.fix hP.dc.c3];exact ⟨h1,h2,h3,.inr (.inl ⟨rfl,h4⟩)⟩
  ·rw [if_neg (by omega),if_neg (by omega),if_neg (by omega),if_pos e];dsimp only;rw [w2,lk,hI.fix hP.dc.c2];exact ⟨h1,h2,h3,.inr (.inl ⟨rfl,h4⟩)⟩
abbrev RB (v:Value):Nat->Prop:=fun k=>v.ownBlock=some k
theorem Row.others {W W':World} {n₀:Nat} {v:Value} {zs:List Int} (h:Row W n₀ 2 v zs) (t:Others X W W') (hX:∀ k,v.ownBlock=some k->X k):Row W' n₀ 2 v zs:=by
 obtain ⟨h1,h2⟩:=h;refine ⟨h1,?_⟩;rcases h2 with h2 | ⟨g,cap,cur,e,hg,hh,r⟩
 ·exact .inl h2
 ·exact .inr ⟨g,cap,cur,e,hg,t g _ _ hh (.inl (hX g (by rw [e];rfl))) (by decide),r⟩
theorem Row.but {W W':World} {n₀:Nat} {v:Value} {zs:List Int} {F:Nat->Prop} (h:Row W n₀ 2 v zs) (t:But X F W W') (hX:∀ k,v.ownBlock=some k->X k) (hF:∀ k,v.ownBlock=some k->¬ F k):Row W' n₀ 2 v zs:=by
 obtain ⟨h1,h2⟩:=h;refine ⟨h1,?_⟩;rcases h2 with h2 | ⟨g,cap,cur,e,hg,hh,r⟩
 ·exact .inl h2
 ·have o:v.ownBlock=some g:=by rw [e];rfl
  exact .inr ⟨g,cap,cur,e,hg,t g _ _ hh (hF g o) (.inl (hX g o)) (by decide),r⟩
theorem Yx.row {w W W':World} {y b x mb:Nat} {m:Mst} {ix:Ixp} {v:Value} {zs:List Int} (h:Yx Z w W y b x mb m ix) (hk:Kept W W') (hr:Row W' W.heap.size 2 v zs):Yx (fun k=>RB v k∨Z k) w W' y b x mb m ix:=by
 obtain ⟨tb,v0,mv,tv,lv,pz,h1,h2⟩:=h;have h':=h1.kept hk;refine ⟨tb,v0,mv,tv,lv,pz,⟨h'.le,h'.box,h'.pm,h'.ixs.other (fun k hk=>?_),fun k hk e=>?_⟩,h2.trans hk⟩
 ·rcases hk with hk | hk | hk
  ·exact h'.ixs.np k (.inl hk)
  ·obtain ⟨c,hc⟩:=hr.typed k hk;exact ⟨⟨c,2,hc,.inl rfl⟩,h1.ixs.lts (hr.lt k hk).1⟩
  ·exact h'.ixs.np k (.inr hk)
 ·rcases hk with hk | hk
  ·have:=(hr.lt k hk).1
   have:=h1.ixs.xl (.inl e)
   omega
  ·exact h'.xv k hk e
theorem Yx.grown {w W W':World} {y b x mb:Nat} {m:Mst} {ix:Ixp} {v v':Value} {zs:List Int} {n₀:Nat} (h:Yx (fun k=>RB v k∨Z k) w W y b x mb m ix) (hz:∀ k,Z k->¬ RB v k) (t:Td (RB v) W W') (hl:∀ k,RB v k->w.heap.size<=k) (hr:Row W' n₀ 2 v' zs) (hn:∀ k,RB v' k->RB v k∨W.heap.size<=k):Yx (fun k=>RB v' k∨Z k) w W' y b x mb m ix/\∀ k,Z k->¬ RB v' k:=by
 obtain ⟨tb,v0,mv,tv,lv,pz,h1,h2⟩:=h;have ty:∀ {k:Nat} {c:Array Value} {T:TypeId},W.heap[k]? = some (.cells c T)->T≠2->T≠65->¬ RB v k:=fun hc e1 e2 e=>(h1.ixs.xt (.inr (.inl e)) hc).elim e1 e2;refine ⟨⟨tb,v0,mv,tv,lv,pz,⟨h1.le,t.heap h1.box (ty h1.box (by decide) (by decide)),h1.pm.turned t (fun k hk=>?_),h1.ixs.beside (R:=RB v) (fun k hk=>.inl (.inr (.inl hk))) t (fun k hk=>?_),fun k hk e=>?_⟩,h2.own (fun k hk=>hl k hk) t⟩,fun k hk e=>?_⟩
 ·rcases hk with rfl | hk
  ·exact ty h1.pm.box (by decide) (by decide)
  ·exact fun e=>h1.xv k (.inl e) hk
 ·rcases hk with hk | hk | hk
  ·obtain ⟨⟨c,T,hc,hT⟩,n1⟩:=h1.ixs.np k (.inl hk);exact ⟨⟨c,T,t.heap hc (fun e=>h1.xv k (.inl e) hk),hT⟩,n1⟩
  ·obtain ⟨c,hc⟩:=hr.typed k hk;refine ⟨⟨c,2,hc,.inl rfl⟩,?_⟩;rcases hn k hk with e | e
   ·exact (h1.ixs.np k (.inr (.inl e))).2
   ·exact h1.ixs.lts e
  ·obtain ⟨⟨c,T,hc,hT⟩,n1⟩:=h1.ixs.np k (.inr (.inr hk));exact ⟨⟨c,T,t.heap hc (hz k hk),hT⟩,n1⟩
 ·rcases hk with hk | hk
  ·rcases hn k hk with e' | e'
   ·exact h1.xv k (.inl e') e
   ·have:=h1.ixs.xl (.inl e)
    omega
  ·exact h1.xv k (.inr hk) e
 ·rcases hn k e with e' | e'
  ·exact hz k hk e'
  ·have:=h1.ixs.xl (.inr (.inr hk))
   omega
end
section
open Go.Shelf
set_option maxRecDepth 20000
structure Ym (w W:World) (y b x mb:Nat) (m:Mst) (ix:Ixp) (c:Nat) (v:Value) (zs:List Int):Prop where
 yx:Yx (fun k=>RB v k∨NoP k) w W y b x mb m ix
 row:Row W w.heap.size 2 v zs
 ok:YOk m ix c
theorem Mst.logic_xs {m d:Mst} (h:m.xs=d.xs) (s:Int):m.logicZ s=d.logicZ s:=by
 have lk:∀ a,m.look a=d.look a:=look_xs h;unfold logicZ;simp only [lk]
section
variable {w W W':World} {y b x mb:Nat} {m:Mst} {ix:Ixp} {c:Nat} {v:Value} {zs:List Int}
theorem Ym.kept (h:Ym w W y b x mb m ix c v zs) (k:Kept W W'):Ym w W' y b x mb m ix c v zs:=⟨h.yx.kept k,h.row.kept k,h.ok⟩
theorem Ym.le {c':Nat} (h:Ym w W y b x mb m ix c v zs) (k:c<=c'):Ym w W y b x mb m ix c' v zs:=⟨h.yx,h.row,h.ok.le k⟩
theorem Ym.start (h:Yx NoP w W y b x mb m ix) (o:YOk m ix c) (z:Int):Ym w (W.alloc (.cells #[.int .i64 z] 2)) y b x mb m ix c (.slice (some ⟨W.heap.size,0,none⟩) 1 1) [z]:=by
 have hr:Row (W.alloc (.cells #[.int .i64 z] 2)) W.heap.size 2 (.slice (some ⟨W.heap.size,0,none⟩) 1 1) [z]:=row_new W 2 [z] W.heap.size (Nat.le_refl _) (by simp);exact ⟨h.row (Td.alloc _ _ _) hr,hr.low h.since.size,o⟩
theorem Ym.pk (h:Ym w W y b x mb m ix c v zs) {f:Nat} {p:Pk} (hf:PkAt W f p):¬ RB v f:=fun e=>by
 obtain ⟨c,hc⟩:=h.row.typed f e;unfold PkAt at hf;rw [hc] at hf;simp at hf
theorem ym_pick (h:Ym w W y b x mb m ix c v zs) (hc:c<=6000) (n:Int) (iz:I64 n) :
  Calls Tryz.prog 16 #[.pointer (some ⟨y,0,none⟩),.int .i64 n] W fun e W'=>e=.returned (.tuple #[])/\∃ m',Ym w W' y b x mb m' (pickY ix n) (c+2) v zs/\Others (fun k=>RB v k∨NoP k) W W':=by
 refine (pick_x w W y b x mb m ix c h.yx h.ok hc n iz).mono ?_;rintro r W' ⟨rfl,m',h1,h2,h3⟩;exact ⟨rfl,m',⟨h1,h.row.others h3 (fun _ e=>.inl e),h2⟩,h3⟩
theorem ym_pk (h:Ym w W y b x mb m ix c v zs) {f:Nat} {p:Pk} (hf:PkAt W f p) (hn:w.heap.size<=f) :
  Calls Tryz.prog 17 #[.pointer (some ⟨f,0,none⟩),.pointer (some ⟨b,0,none⟩)] W fun e W'=>e=.returned (.bool ((p.step m).1.n == 4))/\Ym w W' y b x mb (p.step m).2 ix c v zs/\PkAt W' f (p.step m).1:=by
 refine (pk_y w W y b x mb m ix f p h.yx h.ok.ok.2 hf hn).mono ?_;rintro e W' ⟨rfl,h1,h2,h3⟩;obtain ⟨e1,e2⟩:=p.step_xs m;exact ⟨rfl,⟨h1,h.row.but h3 (fun _ e=>.inl e) (fun k e1 e2=>h.pk hf (e2 ▸ e1)),h.ok.like e1 e2⟩,h2⟩
theorem wpList_append_ym {z:Int} {ops:Array Oper} {rest:List Oper} {o:Oper} {a:Act} {Q:Exit->Act->World->Prop} (hgd:o.guard=none) (s t:Operand)
  (ho:o.op=.call { callee:=.builtin .append,args:=#[s,t],argTypes:=#[56,56] }) (hs:a.eval s=v) (hx:a.eval t=.slice (some ⟨W.heap.size,0,none⟩) 1 1) (h:Ym w W y b x mb m ix c v zs) (hl:zs.length<=999999)
  (hk:∀ v' w',Ym w w' y b x mb m ix c v' (zs++[z])->Td (RB v) W w'->wpList Tryz.prog ops Q rest (a.put o.dst v') w') :
  wpList Tryz.prog ops Q (o :: rest) a (W.alloc (.cells #[.int .i64 z] 2)):=by
 have k1:Kept W (W.alloc (.cells #[.int .i64 z] 2)):=Td.alloc _ _ _;refine wpList_append_reads hgd s t ho w.heap.size v zs.length (cellsOf zs) hs (h.row.kept k1) _ [z] 1 hx (Reads.new W 2 [z]) (fun e=>by cases e) (by simp;omega) (Nat.le_trans h.yx.since.size k1.size) ?_;intro v2 w2 hown hg hat;have t:Td (RB v) (W.alloc (.cells #[.int .i64 z] 2)) w2:=Td.of_grownBy (R:=RB v) hg (fun _ h=>h);have hr:Row w2 w.heap.size 2 v2 (zs++[z]):=by
  show World.ownsRow _ _ 2 1 _ (zs++[z]).length (cellsOf (zs++[z]));rw [List.length_append,cellsOf,List.map_append];exact hown
 obtain ⟨g1,_⟩:=(h.yx.kept k1).grown (Z:=NoP) (fun _ e=>e.elim) t (fun k e=>(h.row.lt k e).1) hr (fun k e=>by
  rcases hat with hat | hat
  ·exact .inl (hat.symm.trans e)
  ·have e':v2.ownBlock=some k:=e;rw [hat] at e';cases e';exact .inr (Nat.le_refl _))
 exact hk v2 w2 ⟨g1,hr,h.ok⟩ (Kept.then k1 t)
end
structure Mm (w W:World) (y b x mb f:Nat) (m:Mst) (ix:Ixp) (c:Nat) (s:Int) (p:Pk) (v:Value) (zs:List Int):Prop where
 ym:Ym w W y b x mb m ix c v zs
 fr:PkAt W f p
 nf:w.heap.size<=f
 wp:WP (Mt s p zs) ix
section
variable {w W W':World} {y b x mb f:Nat} {m:Mst} {ix:Ixp} {c:Nat} {s:Int} {p:Pk} {v:Value} {zs:List Int}
theorem Mm.kept (h:Mm w W y b x mb f m ix c s p v zs) (k:Kept W W'):Mm w W' y b x mb f m ix c s p v zs:=⟨h.ym.kept k,h.fr.kept k,h.nf,h.wp⟩
theorem Mm.le {c':Nat} (h:Mm w W y b x mb f m ix c s p v zs) (k:c<=c'):Mm w W y b x mb f m ix c' s p v zs:=⟨h.ym.le k,h.fr,h.nf,h.wp⟩
theorem mm_pick (h:Mm w W y b x mb f m ix c s p v zs) (hc:c<=6000) (n:Int) (iz:I64 n) :
  Calls Tryz.prog 16 #[.pointer (some ⟨y,0,none⟩),.int .i64 n] W fun e W'=>e=.returned (.tuple #[])/\∃ m' ix',Ym w W' y b x mb m' ix' (c+2) v zs/\PkAt W' f p/\WP (Mt s p (zs++[m'.logicZ s])) ix':=by
 refine (ym_pick h.ym hc n iz).mono ?_;rintro e W' ⟨rfl,m',h1,h2⟩;refine ⟨rfl,m',_,h1,h.fr.others h2,?_⟩;rw [Mst.logic_xs h1.ok.xs];exact wp_pickY h.wp h.ym.ok hc n (fun g m1 g1 hI hI1 hE ho em hM=>by rw [<- em];exact mt_pick hI hI1 hE ho hM)
theorem mm_step (h:Mm w W y b x mb f m ix c s p v zs) :
  Calls Tryz.prog 17 #[.pointer (some ⟨f,0,none⟩),.pointer (some ⟨b,0,none⟩)] W fun e W'=>e=.returned (.bool ((p.step m).1.n == 4))/\Mm w W' y b x mb f (p.step m).2 ix c s (p.step m).1 v zs:=by
 refine (ym_pk h.ym h.fr h.nf).mono ?_;rintro e W' ⟨rfl,h1,h2⟩;exact ⟨rfl,h1,h2,h.nf,h.wp.mono (fun g hI hM=>mt_step hI h.ym.ok.xs hM)⟩
theorem Mm.end (h:Mm w W y b x mb f m ix c s p v zs) (hd:(p.n == 4)=true):p.w ∈ zs:=by
 obtain ⟨g,_,_,_,_,_,h4⟩:=h.wp;have e4:p.n=4:=by simpa using hd
 rcases h4 with e | ⟨_,e⟩ | ⟨_,_,_,_,⟨e,_⟩ | ⟨e,_⟩ | ⟨e,_⟩⟩
 ·omega
 ·exact e
 ·omega
 ·omega
 ·omega
theorem Mm.ns (h:Mm w W y b x mb f m ix c s p v zs):p.n=0∨p.n=1∨p.n=2∨p.n=3∨p.n=4:=by
 obtain ⟨g,_,_,_,_,_,h4⟩:=h.wp;rcases h4 with e | ⟨e,_⟩ | ⟨_,_,_,_,⟨e,_⟩ | ⟨e,_⟩ | ⟨e,_⟩⟩ <;> omega
theorem mm_start (h:Yx NoP w W y b x mb m ix) (o:YOk m ix c) {nd s:Int} (hs:(nd,s) ∈ ownL ix.m) (hf:PkAt W f (Pk.new s)) (hn:w.heap.size<=f):Mm w (W.alloc (.cells #[.int .i64 (m.logicZ s)] 2)) y b x mb f m ix c s (Pk.new s) (.slice (some ⟨W.heap.size,0,none⟩) 1 1) [m.logicZ s]:=by
 refine ⟨Ym.start h o _,hf.kept (Td.alloc _ _ _),hn,?_⟩;obtain ⟨g,h1,h2⟩:=o.wi;obtain ⟨_,_,d,n,i,lo,hi,hsl,_⟩:=Sd.own_sl h1 hs;refine ⟨g,h1,h2,hsl.ro,?_,rfl,.inl rfl⟩;rw [Mst.logic_xs o.xs];simp
theorem Pk.step_count (p:Pk) (m:Mst) (h:p.n=0∨p.n=1∨p.n=2∨p.n=3∨p.n=4) (hn:(p.n == 4)=false):(p.step m).2.count=wrap64 (m.count+1):=by
 have tc:∀ a,(m.touch a).count=wrap64 (m.count+1):=fun a=>by unfold Mst.touch;split <;> rfl
 have n4:¬ p.n=4:=by simpa using hn
 unfold Pk.step
 split
 ·exact tc _
 ·split
  ·exact tc _
  ·split
   ·exact tc _
   ·split
    ·exact tc _
    ·omega
end
theorem cnt_p (w:World) (b:Nat) (s:Mst) (r:Int) (h:PM w b s) (e1:s.count=r):Calls Tryz.prog 22 #[.pointer (some ⟨b,0,none⟩)] w fun e w'=>e=.returned (.int .i64 r)/\w=w':=by
 obtain ⟨n₀,v,h⟩:=h;subst e1;have c2:=h.opened.1.2.2.1;clear h;go_enter Tryz.func22,Tryz.ntmps22;go_wp2;go_ret;exact ⟨rfl,rfl⟩
theorem mem_take_succ {zs:List Int} {t:Nat} {z wd:Int} (h:zs[t]? = some z):decide (wd ∈ zs.take (t+1))=(decide (wd ∈ zs.take t) || (z == wd)):=by
 rw [List.take_add_one,h]
 by_cases e:z=wd
 ·simp [e]
 ·have e':¬ wd=z:=fun q=>e q.symm;simp [e,e']
end
section
open Go.Shelf
theorem field_own4 (a c:Value) (W:World):Sem.run Tryz.prog (Instr.field 27 (.agg #[a,c]) 1) W=.ok c W:=by
 first
 | kernel_rfl
 | (unfold Instr.field;simp [Tryz.underlying27,go_sem])
 | rfl
attribute [local go_sem] field_own4
set_option maxRecDepth 100000 in
set_option maxHeartbeats 4000000 in
theorem peekMoment_c (w:World) (cells:Int) (a1:Option Addr) (keys:List Int) (c1:Nat) (a2:Option Addr) (l:List Int) (c2:Nat) (at_:Int) (a3:Option Addr) (sc:List Int) (c3:Nat) (hr1:Reads w a1 keys) (hc1:keys.length<=c1) (hm1:c1<=maxLen) (hr2:Reads w a2 l) (hc2:l.length<=c2) (hm2:c2<=maxLen) (hi:∀ z ∈ l,I64 z) (hr3:Reads w a3 sc) (hc3:sc.length<=c3) (hi3:∀ z ∈ sc,I64 z) :
  Calls Tryz.prog 4 #[.int .i64 cells,.slice a1 keys.length c1,.slice a2 l.length c2,.int .i64 at_,.slice a3 sc.length c3] w fun e w'=>e=.returned (.bool true)/\Kept w w':=by
 have NW:=ynew_r w cells a1 keys c1 a2 l c2 hr1 hc1 hm1 hr2 hc2 hm2 hi;have HNW:=gh NW;obtain ⟨M3,hM3⟩:∃ M,sc.length=M:=⟨_,rfl⟩;rw [hM3];have HM3:=gh hM3;have HR3:=gh hr3;have HC3:=gh hc3;have HI3:=gh hi3;clear NW hr1 hc1 hm1 hr2 hc2 hm2 hi hM3 hr3 hc3 hi3;go_enter Tryz.func4,Tryz.ntmps4;go_wp2_with (fail);refine HNW.o.mono ?_;rintro e W1 ⟨y,m0,ix0,rfl,hyd,ok0⟩;obtain ⟨b,x,mb,hy⟩:=hyd.sees;have Y0:=gh hy;have O0:=gh ok0;clear hyd ok0 hy HNW;go_wp2_with (fail);refine (lay_x w W1 y b x mb m0 ix0 1680 Y0.o O0.o at_ _).mono ?_;rintro e W2 ⟨r,m,ix,rfl,h1,o1⟩;have Y:=gh h1;have O:=gh o1;clear h1 o1 Y0 O0;obtain ⟨_,d1,d2⟩:=Y.o.cells;go_wp2_with (fail);refine (slot_d W2 mb ix.m Y.o.dm O.o.ok.1 O.o.sound at_).mono ?_;rintro e W3 ⟨⟨nd,s⟩,hp,rfl,k2⟩;dsimp only;have Y2:=gh (Y.o.kept k2);have HS:=gh hp;clear hp k2 d1 d2 Y;go_wp2_with (fail);refine (pk_new W3 s).mono ?_;rintro e W4 ⟨rfl,h3,k3⟩;obtain ⟨f,hf⟩:∃ f,W3.heap.size=f:=⟨_,rfl⟩;rw [hf] at h3;rw [hf];have NF:Hid (w.heap.size<=f):=gh (by rw [<- hf];exact Y2.o.since.size);have F4:=gh h3;have Y4:=gh (Y2.o.kept k3);clear h3 k3 hf Y2;obtain ⟨d0,_,_⟩:=Y4.o.cells;obtain ⟨z0,hz0⟩:∃ z,m.logicZ s=z:=⟨_,rfl⟩;have LG:=gh (logic_p W4 b m s z0 Y4.o.pm O.o.ok.2 hz0);have M0:=gh (mm_start Y4.o O.o HS.o F4.o NF.o);rw [hz0] at M0;clear hz0 HS F4 NF;go_wp2_with (fail);refine LG.o.mono ?_;rintro r W5 ⟨rfl,rfl⟩;clear LG d0 Y4 O;go_wp2_with (fail)
 go_loopw [14,15] (fun vv vi wr=>∃ (i:Nat) (m:Mst) (ix:Ixp) (p:Pk) (zs:List Int),vi=.int .i64 (i:Int)/\i<=3/\Hid (i+p.rk<=3/\zs.length<=1+5 * i)/\Hid (Mm w wr y b x mb f m ix (1680+10 * i) s p vv zs)) (fun _ vi _=>12 - (intOf vi).toNat)
 case atStart=>exact ⟨0,_,_,_,_,rfl,by omega,gh ⟨by show 0+3<=3;exact Nat.le_refl _,by simp⟩,M0⟩
 case round=>
  obtain ⟨i,m,ix,p,zs,rfl,hi,HB,M⟩:=hrel;clear M0;obtain ⟨dn,hdn⟩:∃ dn,(p.n == 4)=dn:=⟨_,rfl⟩;have DN:=gh (pk_done wr f p M.o.fr dn hdn);have HD:=gh hdn;clear hdn;have j1:(i:Int) < 12:=by omega
  cases dn with
  | true=>
   go_wp2_with (fail);refine DN.o.mono ?_;rintro r w' ⟨rfl,rfl⟩;obtain ⟨wd,hwd⟩:∃ wd,p.w=wd:=⟨_,rfl⟩;have WD:=gh (pk_word wr f p M.o.fr wd hwd);have IN:Hid (wd ∈ zs):=gh (hwd ▸ M.o.end HD.o);have ZL:Hid (zs.length<=16):=gh (by have:=HB.o.2;omega);obtain ⟨av,cap,rfl,hrd,hcp,_,_⟩:=M.o.ym.row.reads;obtain ⟨N,hN⟩:∃ N,zs.length=N:=⟨_,rfl⟩;rw [hN] at ZL;rw [hN];have HRD:=gh hrd;have HCP:Hid (N<=cap):=gh (hN ▸ hcp);have HN:=gh hN;have MK:Hid (Kept w wr):=gh M.o.ym.yx.since;have DN2:Hid (∀ V,Kept wr V->Calls Tryz.prog 19 #[.pointer (some ⟨f,0,none⟩)] V fun e w'=>e=.returned (.bool true)/\V=w'):=gh (fun V k=>pk_done V f p (M.o.fr.kept k) true HD.o);clear hrd hcp hwd M hN DN HD;go_wp2_with (fail)
   go_loopw [18,118] (fun vm vi wx=>∃ (t:Nat) (mt:Bool),t<=N/\vi=.int .i64 (t:Int)/\vm=.bool mt/\Hid (mt=decide (wd ∈ zs.take t))/\wx=wr) (fun _ vi _=>N - (intOf vi).toNat)
   case atStart=>exact ⟨0,false,by omega,rfl,rfl,gh (by simp),rfl⟩
   case round=>
    obtain ⟨t,mt,ht,rfl,rfl,MT,rfl⟩:=hrel;have tN:N<=16:=ZL.o
    by_cases hs:t < N
    ·obtain ⟨z,hz⟩:∃ z,zs[t]? = some z:=⟨_,List.getElem?_eq_getElem (by rw [HN.o];exact hs)⟩;obtain ⟨bl,off,rfl,hbl,hcell⟩:=HRD.o.at hz;have q1:(t:Int) < (N:Int):=by omega
     have q2:t < cap:=by have:=HCP.o;omega
     have HZ:=gh hz;clear hz;cases mt with
     | true=>
      go_wp2_with (fail);exact ⟨⟨t+1,true,by omega,by simp,rfl,gh (by rw [mem_take_succ HZ.o,<- MT.o];rfl),trivial⟩,by simp only [intOf];omega⟩
     | false=>
      go_wp2_with (fail);refine WD.o.mono ?_;rintro r w' ⟨rfl,rfl⟩;obtain ⟨eq,heq⟩:∃ eq,(z == wd)=eq:=⟨_,rfl⟩;have NM:Hid (eq=decide (wd ∈ zs.take (t+1))):=gh (by rw [mem_take_succ HZ.o,<- MT.o,heq];rfl);go_wp2_with (fail);exact ⟨⟨t+1,eq,by omega,by simp,by rw [<- heq],NM,trivial⟩,by simp only [intOf];omega⟩
    ·obtain rfl:t=N:=by omega
     have q1:¬ ((t:Int) < (t:Int)):=by omega
     have E:mt=true:=by
      rw [MT.o,List.take_of_length_le (by rw [HN.o];exact Nat.le_refl _)];exact decide_eq_true IN.o
     subst E;go_wp2_with (fail);refine (known11_c wr).mono ?_;rintro r V ⟨rfl,kV⟩;have KV:=gh kV;clear kV;go_wp2_with (fail);refine (DN2.o V KV.o).mono ?_;rintro r w' ⟨rfl,rfl⟩;go_wp2;go_ret;exact ⟨rfl,MK.o.trans KV.o⟩
  | false=>
   have RK:Hid (1<=p.rk):=gh (by
    rcases M.o.ns with e | e | e | e | e
    ·unfold Pk.rk;rw [if_pos e];omega
    ·unfold Pk.rk;rw [if_neg (by omega),if_pos e];omega
    ·unfold Pk.rk;rw [if_neg (by omega),if_neg (by omega),if_neg (by omega)];omega
    ·unfold Pk.rk;rw [if_neg (by omega),if_neg (by omega),if_neg (by omega)];omega
    ·have:=HD.o;rw [e] at this;cases this)
   have i3:i < 3:=by have:=HB.o.1;have:=RK.o;omega
   obtain ⟨d0,_,_⟩:=M.o.ym.yx.cells;obtain ⟨cn,hcn⟩:∃ cn,m.count=cn:=⟨_,rfl⟩;have CN:=gh (cnt_p wr b m cn M.o.ym.yx.pm hcn);have ST:=gh (mm_step M.o);have CC:Hid ((p.step m).2.count=wrap64 (cn+1)):=gh (by rw [<- hcn];exact Pk.step_count p m M.o.ns HD.o);obtain ⟨p',hp'⟩:∃ p',(p.step m).1=p':=⟨_,rfl⟩;obtain ⟨m2,hm2⟩:∃ m2,(p.step m).2=m2:=⟨_,rfl⟩;rw [hp',hm2] at ST;rw [hm2] at CC;have RS:Hid (p'.rk<=p.rk - 1):=gh (by rw [<- hp'];exact Pk.rk_step p m M.o.ns);clear hp' hm2 hcn M;obtain ⟨r1,hr1⟩:∃ r1,(p'.n == 4)=r1:=⟨_,rfl⟩;rw [hr1] at ST;have HR1:=gh hr1;clear hr1;go_wp2_with (fail);refine DN.o.mono ?_;rintro r w' ⟨rfl,rfl⟩;go_wp2_with (fail);refine CN.o.mono ?_;rintro r w' ⟨rfl,rfl⟩;go_wp2_with (fail);refine ST.o.mono ?_;rintro r V1 ⟨rfl,M1⟩;have HM1:=gh M1;clear M1 ST CN DN d0 HD;obtain ⟨d0,_,_⟩:=HM1.o.ym.yx.cells;obtain ⟨c2,hc2⟩:∃ c2,wrap64 (cn+1)=c2:=⟨_,rfl⟩;have C2:=gh (cnt_p V1 b m2 c2 HM1.o.ym.yx.pm (CC.o.trans hc2));have g2:(c2 != c2)=false:=by simp
   go_wp2_with (fail);refine C2.o.mono ?_;rintro r w' ⟨rfl,rfl⟩;go_wp2_with (fail)
   try rw [hc2]
   refine (same_y w V1 y m2 ix _ HM1.o.ym.yx.yd HM1.o.ym.ok).mono ?_;rintro r V2 ⟨rfl,k2⟩;have HM2:=gh (HM1.o.kept k2);clear k2 HM1 d0 C2 hc2 g2;go_wp2_with (fail)
   go_loopw [14,17] (fun vv vk wx=>∃ (k:Nat) (m:Mst) (ix:Ixp) (zs:List Int),vk=.int .i64 (k:Int)/\k<=5/\Hid (zs.length<=1+5 * i+k)/\Hid (Mm w wx y b x mb f m ix (1680+10 * i+2 * k) s p' vv zs)) (fun _ vk _=>5 - (intOf vk).toNat)
   case atStart=>exact ⟨0,_,_,_,rfl,by omega,gh (by have:=HB.o.2;omega),HM2⟩
   case round=>
    obtain ⟨k,m3,ix3,zs3,rfl,hk,HL,M3'⟩:=hrel;clear HM2;have DN3:=gh (pk_done wr f p' M3'.o.fr r1 HR1.o);obtain ⟨j,hj⟩:∃ j:Nat,i * 5+k=j:=⟨_,rfl⟩;have e5:(i:Int) * 5+(k:Int)=(j:Int):=by omega
    have NX:Hid (i+1+p'.rk<=3/\zs3.length<=1+5 * (i+1)):=gh ⟨by have:=HB.o.1;have:=RS.o;have:=RK.o;omega,by have:=HL.o;omega⟩;have NM:Hid (Mm w wr y b x mb f m3 ix3 (1680+10 * (i+1)) s p' u14 zs3):=gh (M3'.o.le (by omega))
    by_cases hgo:k < 5/\j < M3/\r1=false
    ·obtain ⟨h5,hs,rfl⟩:=hgo;have j2:(k:Int) < 5:=by omega
     have j3:(j:Int) < (M3:Int):=by omega
     obtain ⟨z,hz⟩:∃ z,sc[j]? = some z:=⟨_,List.getElem?_eq_getElem (by rw [HM3.o];exact hs)⟩;obtain ⟨bl,off,rfl,hbl,hcell0⟩:=HR3.o.at hz;have hcell:=M3'.o.ym.yx.since.cell hcell0 id;have j4:j < c3:=by have:=HC3.o;have:=HM3.o;omega
     have ZI:Hid (I64 z):=gh (HI3.o z (List.mem_of_getElem? hz));have b1:-9223372036854775808<=z/\z<=9223372036854775807:=ZI.o;clear hz hcell0 hbl NM;go_wp2_with (fail);refine DN3.o.mono ?_;rintro r w' ⟨rfl,rfl⟩;go_wp2_with (fail);refine (mm_pick M3'.o (by omega) z ZI.o).mono ?_;rintro r V3 ⟨rfl,m4,ix4,Y4,F4,W4⟩;have HY4:=gh Y4;have HF4:=gh F4;have NF:Hid (w.heap.size<=f):=gh M3'.o.nf;obtain ⟨lz,hlz⟩:∃ lz,m4.logicZ s=lz:=⟨_,rfl⟩;rw [hlz] at W4;have HW4:=gh W4;have LG:=gh (logic_p V3 b m4 s lz Y4.yx.pm Y4.ok.ok.2 hlz);obtain ⟨d0,_,_⟩:=Y4.yx.cells;clear Y4 F4 W4 hlz M3' DN3 hcell b1;go_wp2_with (fail);refine LG.o.mono ?_;rintro r w' ⟨rfl,rfl⟩;clear LG d0;go_wp2_with (at_builtin;refine Stop.out ?_);refine ⟨?_⟩;refine wpList_append_ym rfl _ _ rfl rfl rfl HY4.o (by have:=HL.o;omega) ?_;intro v5 V5 Y5 t5;have M5:Hid (Mm w V5 y b x mb f m4 ix4 (1680+10 * i+2 * (k+1)) s p' v5 (zs3++[lz])):=gh ⟨Y5.le (by omega),HF4.o.turned t5 (HY4.o.pk HF4.o),NF.o,HW4.o⟩;clear Y5 t5 HY4 HF4 HW4;go_wp2;exact ⟨⟨k+1,m4,ix4,zs3++[lz],by simp,by omega,gh (by rw [List.length_append];have:=HL.o;simp;omega),M5⟩,by simp only [intOf];omega⟩
    ·by_cases h5:k < 5
     ·have j2:(k:Int) < 5:=by omega
      by_cases hs:j < M3
      ·have j3:(j:Int) < (M3:Int):=by omega
       obtain rfl:r1=true:=by
        cases r1 with
        | true=>rfl
        | false=>exact absurd ⟨h5,hs,rfl⟩ hgo
       clear hgo;go_wp2_with (fail);refine DN3.o.mono ?_;rintro r w' ⟨rfl,rfl⟩;go_wp2_with (fail);exact ⟨⟨i+1,m3,ix3,p',zs3,by simp,by omega,NX,NM⟩,by simp only [intOf];omega⟩
      ·have j3:¬ ((j:Int) < (M3:Int)):=by omega
       clear hgo;go_wp2_with (fail);exact ⟨⟨i+1,m3,ix3,p',zs3,by simp,by omega,NX,NM⟩,by simp only [intOf];omega⟩
     ·have j2:¬ ((k:Int) < 5):=by omega
      clear hgo;go_wp2_with (fail);exact ⟨⟨i+1,m3,ix3,p',zs3,by simp,by omega,NX,NM⟩,by simp only [intOf];omega⟩
end
end Go.Proofs.YtoaicedkepcalaaGreat
