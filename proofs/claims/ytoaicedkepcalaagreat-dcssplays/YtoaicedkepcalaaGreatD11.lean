/-
  What the proof of YtoaicedkepcalaaGreatDcssPlaysProof goes by, part 11 of 11: contracts and plain facts; each part begins with its own sentence. No conditions beyond each theorem's own.
-/
import Derived.Test.YtoaicedkepcalaaGreatD10
import Derived.Deep.DeepCutAuto
import Derived.Deep.CutBlock
namespace Go.Proofs.YtoaicedkepcalaaGreat
open Go.RowKit
section
open Go.Shelf
open Sd (Pr)
variable {X Z:Nat->Prop}
set_option maxRecDepth 20000
theorem DpAt.others {W W':World} {f:Nat} {p:Dp} (h:DpAt W f p) (t:Others X W W'):DpAt W' f p:=t _ _ _ h (.inr (by decide)) (by decide)
def Fdp (w:World) (f:Nat) (p:Dp) (W:World) (A:Pr Int):Prop:=DpAt W f p/\DpT p A/\w.heap.size<=f
theorem Fdp.others {w W W':World} {f:Nat} {p:Dp} {A:Pr Int} (t:Others X W W') (h:Fdp w f p W A):Fdp w f p W' A:=⟨h.1.others t,h.2⟩
theorem Fdp.kept {w W W':World} {f:Nat} {p:Dp} {A:Pr Int} (t:Kept W W') (h:Fdp w f p W A):Fdp w f p W' A:=⟨h.1.kept t,h.2⟩
theorem dp_y (w W:World) (y b x mb:Nat) (m:Mst) (ix:Ixp) (f:Nat) (p:Dp) (h:Yx X w W y b x mb m ix) (ho:m.ok) (hf:DpAt W f p) (hp:0<=p.n/\p.n<=6) (hr:0<=p.r/\p.r<=65536) (hn:w.heap.size<=f) :
  Calls Tryz.prog 43 #[.pointer (some ⟨f,0,none⟩),.pointer (some ⟨b,0,none⟩)] W fun e W'=>e=.returned (.bool ((p.step m).1.n == 6))/\Yx X w W' y b x mb (p.step m).2 ix/\DpAt W' f (p.step m).1/\But X (fun k=>k=f) W W':=by
 obtain ⟨tb,v,mv,tv,lv,pz,h1,h2⟩:=h;have hnf:¬ Foot b v f:=h1.pm.other hf (by decide) (by decide);refine (dp_step W _ b v f p m hf h1.pm h2.size hp ⟨hr.1,by omega⟩ (fun a=>ho.look a) hnf (p.step m).1 (p.step m).2 _ rfl rfl).mono ?_;rintro e W' ⟨rfl,v',R⟩;refine ⟨rfl,⟨tb,v',mv,tv,lv,pz,h1.prog R.turned (fun k hk=>?_) R.mem R.foot,h2.own (fun k hk=>?_) R.turned⟩,R.frame,But.of h1 R.turned⟩
 ·rcases hk with rfl | hk
  ·exact .inr ⟨_,_,hf,by decide,by decide⟩
  ·exact .inl hk
 ·rcases hk with rfl | hk
  ·exact hn
  ·exact (h1.pm.lt k hk).1
theorem pj_dp {w W:World} {y b x mb e f:Nat} {m:Mst} {ix:Ixp} {c:Nat} {A:Pr Int} {q:Lp} {tp:Sl} {p:Dp} (h:Pj (Fdp w f p) w W y b x mb e m ix c A q tp) :
  Calls Tryz.prog 43 #[.pointer (some ⟨f,0,none⟩),.pointer (some ⟨b,0,none⟩)] W fun r W'=>r=.returned (.bool ((p.step m).1.n == 6))/\∃ A1,Pm (Fdp w f (p.step m).1) w W' y b x mb e m (p.step m).2 ix c A A1 q tp:=by
 have hz:m.size<=65536:=by
  obtain ⟨g,hI,_⟩:=h.ok.wi
  have:=hI.sz
  have:=h.ok.size
  omega
 obtain ⟨A1,t1,g1⟩:=h.fr.2.1.step hz;refine (dp_y w W y b x mb m ix f p h.yx h.ok.ok.2 h.fr.1 h.fr.2.1.ns h.fr.2.1.1 h.fr.2.2).mono ?_;rintro r W' ⟨rfl,h1,h2,h3⟩;refine ⟨rfl,A1,h1,h.lr.but h3 (fun _ e=>.inl e) (fun k hk e=>?_),fun _=>⟨h2,t1,h.fr.2.2⟩,h.is,h.ok,h.wx,g1⟩;obtain ⟨c',T,hc',hT⟩:=h.lr.typed hk
 have:=h.fr.1
 unfold DpAt at this;rw [<- e,hc'] at this;simp at this;rw [this.2] at hT
 revert hT
 decide
theorem dcss_start {w W:World} {y b x mb f e:Nat} {m:Mst} {ix:Ixp} {c:Nat} {gd s old nw:Int} (h:Yx (fun k=>LB e Sl.nil k∨NoP k) w W y b x mb m ix) (o:YOk m ix c) (wx:WX 3 (Pr.dcss gd s old nw) 4 (.ret 0) ix) (hf:DpAt W f (Dp.new gd s old nw)) (hn:w.heap.size<=f) (hl:LrIs W w.heap.size e (Lp.make5 14 gd s old nw).settle Sl.nil):Pj (Fdp w f (Dp.new gd s old nw)) w W y b x mb e m ix c (Pr.dcss gd s old nw) (Lp.make5 14 gd s old nw).settle Sl.nil:=
 ⟨h,hl,⟨hf,DpT.new gd s old nw,hn⟩,Lp.is_make 14 gd,o,wx⟩
theorem kd_next {z:Int} (h:1<=kd z/\kd z<=4):wrap64 (z+8)≠0/\kd (wrap64 (z+8))≠5:=by
 have r:Rf.rt z=true:=by
  cases e:Rf.rt z with
  | true=>rfl
  | false=>
   have:kd z=0:=by unfold kd Rf.kindZ;rw [e];rfl
   omega
 have k:kd z=z % 8:=by unfold kd Rf.kindZ;rw [if_pos r]
 have b:9<=z/\z<=524293:=by
  unfold Rf.rt at r
  have:=of_decide_eq_true r
  exact ⟨this.1,this.2.1⟩
 have w:wrap64 (z+8)=z+8:=Rf.wrap_same (by omega) (by omega);rw [w];refine ⟨by omega,?_⟩;unfold kd Rf.kindZ
 split <;> omega
theorem dc_lay {m:Mst} {ix:Ixp} {c:Nat} (o:YOk m ix c) {nd s:Int} (hp:(nd,s) ∈ ownL ix.m):Sd.WI { ix with m:=ix.m.make [0] }/\7<=(ix.m.make [0]).xs.length/\ix.m.xs.length<=(ix.m.make [0]).xs.length/\(ix.m.make [0]).size=ix.m.size/\(ix.m.make [0]).ok/\wrap64 (nd+2)=nd+2/\
  (kd (ix.m.look s)≠5->∀ old,(old=ix.m.look s∨old=wrap64 (ix.m.look s+8))->ix.m.fits 1=true->WX 3 (Pr.dcss (nd+2) s old (Rf.ofZ 1 (ix.m.next [0]))) 4 (.ret 0) { ix with m:=ix.m.make [0] }):=by
 obtain ⟨g,h,hT⟩:=o.wi;obtain ⟨h0,hcm,d,n,i,lo,hi,sl,iv⟩:=Sd.own_sl h hp;have hat:Sd.At g (nd+2) s:=⟨nd,d,n,i,lo,hi,sl,rfl,iv⟩;obtain ⟨w2,i2⟩:=hat.small h;have gr:=Mst.make_grew ix.m [0];have big:=o.big;have i01:∀ z ∈ ([0]:List Int),I64 z:=by intro z hz;simp at hz;rw [hz];exact ⟨by decide,by decide⟩
 have hok:(ix.m.make [0]).ok:=make_ok h.ok i01 (by have:=h.sz;omega)
 by_cases f1:ix.m.fits 1=true
 ·have f1':ix.m.fits ([0]:List Int).length=true:=f1;have hfz:(ix.m.xs.length:Int)+1<=ix.m.size:=by unfold Mst.fits at f1;simp at f1;omega
  have hz:=h.sz;obtain ⟨A,hA⟩:∃ A,(ix.m.xs.length:Int)+1=A:=⟨_,rfl⟩;obtain ⟨g1,G1,E1,hm1,o1,_,_⟩:=Sd.mk_empty (t:=3) h hA.symm (Sd.make_more h i01 f1');have en:ix.m.next [0]=A:=by unfold Mst.next;rw [if_pos f1',hA]
  have r1:g1.ro A≠none:=by rw [E1.c0];exact fun e=>by cases e
  have TT:∀ t q,ix.ts[t]? = some q->Sd.TOk t q (ix.m.make [0]) g1:=fun j q hq p' hp'=>(hT j q hq p' hp').rl (G1.rl (by
   have h1:j < ix.ts.length:=(List.getElem?_eq_some_iff.1 hq).1
   have:=o.len
   omega))
  refine ⟨⟨g1,G1.inv,TT⟩,Nat.le_trans big gr.len,gr.len,gr.size,hok,w2,fun k5 old ho _=>⟨g1,G1.inv,TT,?_,trivial⟩⟩;rw [en];have ow:Sd.OkW ix.m g s (ix.m.look s):=by
   rcases h.sees sl.ro with e | e | ⟨e,_⟩
   ·exact absurd e h0
   ·exact e
   ·exact absurd e k5
  have ho':old≠0/\kd old≠5:=by
   rcases ho with rfl | rfl
   ·exact ⟨h0,k5⟩
   ·exact kd_next ow.knd
  have io:I64 old:=by
   rcases ho with rfl | rfl
   ·exact h.ok.look _
   ·constructor <;> (unfold wrap64;omega)
  have lp:=h.lt (c:=s) (by rw [sl.ro];exact fun e=>by cases e);have sl1:=G1.ex.sl sl;have iv1:=G1.ex.iv iv;obtain ⟨k1,a1⟩:=Sd.ofk (k:=1) (D:=A) (by omega) (by omega) (by omega) (by omega);refine Sd.Safe.mono (fun _ _ _ _=>trivial) (Sd.dcss_safe ho' (fun m1 g2 r=>?_) (G1.ex.at hat) i2 (Sd.i64_1 (by omega) (by omega)) io (i64_of 1 A));have ow:=r.own A r1;have E2:=r.ex.empty E1;have r2:g2.ro A≠none:=by rw [E2.c0];exact fun e=>by cases e
  obtain ⟨I2,X2⟩:=Sd.step_link r.inv ((ow.2 o1).1.trans hm1) (by omega) (by rw [E2.kn];decide) r2 (r.ex.sl sl1) (r.ex.iv iv1) (fun d' n' hI=>by have:=hI.kn;rw [E2.kn] at this;omega);refine ⟨g2.link A s,⟨I2,X2,fun b _=>⟨rfl,fun hb=>⟨?_,rfl⟩⟩⟩,.inl ⟨k1,by rw [a1];exact X2.empty E2,?_⟩⟩
  ·show (if b=A then some s else g2.hm b)=g2.hm b;rw [if_neg (fun e=>hb (by rw [e];exact ow.1.trans o1))]
  ·rw [a1];show (if A=A then some s else _)=some s;rw [if_pos rfl]
 ·have e:(ix.m.make [0]).xs=ix.m.xs:=by unfold Mst.make;rw [if_neg (show ¬ ix.m.fits ([0]:List Int).length=true from f1)]
  have q:=h.quiet e gr.size;exact ⟨⟨g,q.1,fun j q' hq p' hp'=>(hT j q' hq p' hp').rl (Sd.Gt.rl' q)⟩,Nat.le_trans big gr.len,gr.len,gr.size,hok,w2,fun _ _ _ hf=>absurd hf f1⟩
end
section
set_option maxRecDepth 20000
def Ot (f:Nat) (W W':World):Prop:=∀ (k:Nat) (c:Array Value) (T:TypeId),k≠f->W.heap[k]? = some (.cells c T)->T≠2->T≠118->W'.heap[k]? = some (.cells c T)
theorem foot_ty {W:World} {n₀ b:Nat} {v:Value} {m:Mst} (h:PMem W n₀ b v m) {k:Nat} {c:Array Value} {T:TypeId} (hk:W.heap[k]? = some (.cells c T)) (h1:T≠2) (h2:T≠118):¬ Foot b v k:=by
 rintro (e | e)
 ·have:=h.box
  rw [<- e,hk] at this;simp at this;exact h2 this.2
 ·obtain ⟨c',hc⟩:=h.row.typed k e;rw [hk] at hc;simp at hc;exact h1 hc.2
theorem Ot.turned {f b n₀:Nat} {W W':World} {v:Value} {m:Mst} (h:PMem W n₀ b v m) (t:Td (fun k=>k=f∨Foot b v k) W W'):Ot f W W':=fun _ _ _ hf hk h1 h2=>t.heap hk (fun e=>e.elim hf (foot_ty h hk h1 h2))
theorem DpAt.ot {W W':World} {f g:Nat} {p:Dp} (h:DpAt W f p) (t:Ot g W W') (hf:f≠g):DpAt W' f p:=t _ _ _ hf h (by decide) (by decide)
theorem d_step (w W:World) (b:Nat) (s:Mst) (f:Nat) (p:Dp) (h:Now w W b s) (hp:DpAt W f p) (hnew:w.heap.size<=f) (hn:0<=p.n/\p.n<=6) (hr:0<=p.r/\p.r<=1000000) (ho:∀ a,I64 (s.look a)) (p':Dp) (s':Mst) (r:Bool) (e1:p.step s=(p',s')) (e2:(p'.n == 6)=r) :
  Calls Tryz.prog 43 #[.pointer (some ⟨f,0,none⟩),.pointer (some ⟨b,0,none⟩)] W fun e W'=>e=.returned (.bool r)/\Now w W' b s'/\DpAt W' f p'/\Ot f W W':=by
 obtain ⟨⟨v,hm⟩,hk⟩:=h;refine (dp_step W _ b v f p s hp hm hk.size hn hr ho (foot_ty hm hp (by decide) (by decide)) p' s' r e1 e2).mono ?_;rintro e W' ⟨rfl,v',R⟩;exact ⟨rfl,⟨⟨v',R.mem⟩,hk.own (fun i hi=>hi.elim (fun e=>e ▸ hnew) (fun e=>(hm.lt i e).1)) R.turned⟩,R.frame,Ot.turned hm R.turned⟩
theorem d_read (w W:World) (b:Nat) (s:Mst) (a r:Int) (s':Mst) (h:Now w W b s) (e1:s.look a=r) (e2:s.touch a=s') :
  Calls Tryz.prog 63 #[.pointer (some ⟨b,0,none⟩),.int .i64 a] W fun e W'=>e=.returned (.int .i64 r)/\Now w W' b s'/\Ot b W W':=by
 obtain ⟨⟨v,h⟩,hk⟩:=h;subst e1 e2;exact (read_p W _ b v s a h).mono fun _ _ ⟨h1,h2,h3⟩=>⟨h1,Now.box h hk h2 h3,Ot.turned h (h3.mono (fun _ _ e=>.inl e))⟩
theorem d_write (w W:World) (b:Nat) (s:Mst) (a x:Int) (s':Mst) (h:Now w W b s) (e1:s.write a x=s') :
  Calls Tryz.prog 74 #[.pointer (some ⟨b,0,none⟩),.int .i64 a,.int .i64 x] W fun e W'=>e=.returned (.tuple #[])/\Now w W' b s'/\Ot b W W':=by
 obtain ⟨⟨v,h⟩,hk⟩:=h;subst e1;exact (write_p W _ b v s a x h).mono fun _ _ ⟨h1,h2,h3⟩=>⟨h1,Now.put h hk h2 h3,Ot.turned h (h3.mono (fun _ _ e=>.inr e))⟩
def dt (p:Dp) (m:Mst):Nat->Dp × Mst
 | 0=>(p,m)
 | k+1=>(dt p m k).1.step (dt p m k).2
theorem dt_step (p:Dp) (m:Mst) (k:Nat):(dt p m k).1.step (dt p m k).2=((dt p m (k+1)).1,(dt p m (k+1)).2):=rfl
def dokB (p:Dp) (s:Mst):Bool:=decide (0<=p.n) && decide (p.n<=6) && decide (0<=p.r) && decide (p.r<=1000000) && allI s.xs
structure DOk (p:Dp) (s:Mst):Prop where
 n:0<=p.n/\p.n<=6
 r:0<=p.r/\p.r<=1000000
 i64:∀ a,I64 (s.look a)
theorem dokB_ok {p:Dp} {s:Mst} (h:dokB p s=true):DOk p s:=by
 simp only [dokB,Bool.and_eq_true,decide_eq_true_eq] at h;obtain ⟨⟨⟨⟨h1,h2⟩,h3⟩,h4⟩,h5⟩:=h;exact ⟨⟨h1,h2⟩,⟨h3,h4⟩,allI_ok h5⟩
def dtB (p:Dp) (m:Mst):Bool:=(List.range 6).all fun k=>dokB (dt p m k).1 (dt p m k).2 && ((dt p m (k+1)).1.n == (k:Int)+1)
structure DtOk (p:Dp) (m:Mst) (k:Nat):Prop where
 ok:DOk (dt p m k).1 (dt p m k).2
 n':((dt p m (k+1)).1.n == 6)=decide (k=5)
theorem dt_ok {p:Dp} {m:Mst} (h:dtB p m=true) (k:Nat) (hk:k < 6):DtOk p m k:=by
 have:=List.all_eq_true.1 h k (List.mem_range.2 hk)
 simp only [Bool.and_eq_true,beq_iff_eq] at this;obtain ⟨h1,h3⟩:=this;refine ⟨dokB_ok h1,?_⟩;rw [h3,Bool.eq_iff_iff];simp;omega
def kd0:Mst:=⟨[1,0,0,0,0,57,0],40,2,0,0⟩
theorem kd0_is:begun (Mst.new 40)=kd0:=by kernel_rfl
def kdF:Dp:=Dp.new 3 6 57 66
def kd1:Mst:=(dt kdF kd0 6).2
def kdG:Dp:=Dp.new 3 6 57 74
def kd2:Mst:=(dt kdG kd1 2).2
def kd3:Mst:=((kd2.touch 6).write 3 1)
def kdH:Dp:=Dp.new 3 6 66 74
theorem kdF_ok:dtB kdF kd0=true:=by kernel_rfl
theorem kdH_ok:dtB kdH kd3=true:=by kernel_rfl
set_option maxHeartbeats 4000000 in
theorem known14_c (w:World):Calls Tryz.prog 37 #[] w fun e w'=>e=.returned (.bool true)/\Kept w w':=by
 go_enter Tryz.func37,Tryz.ntmps37;go_wp2_with (fail);refine (now_new w w 40 (Kept.refl w) (by decide) (by decide)).mono ?_;rintro e W1 ⟨rfl,h1,-⟩;have H1:=gh h1;obtain ⟨b,hb⟩:∃ b,w.heap.size=b:=⟨_,rfl⟩;rw [hb] at H1;clear h1;rw [hb];clear hb;go_wp2_with (fail);refine (begin_c w W1 _ _ H1.o rfl (by decide)).mono ?_;rintro e W2 ⟨rfl,h2⟩;have H2:=gh h2;rw [kd0_is] at H2;clear h2 H1;go_wp2_with (fail);refine (dp_new W2 3 6 57 66).mono ?_;rintro e W3 ⟨rfl,p3,k3⟩;have H3:=gh (H2.o.on k3);have NF:=gh H2.o.2.size;have FL:=gh H2.o.lt;obtain ⟨f,hf⟩:∃ f,W2.heap.size=f:=⟨_,rfl⟩;have P3:=gh p3;rw [hf] at P3 NF FL;clear p3 k3 H2;rw [hf];clear hf;go_wp2_with (fail)
 rename World=>U0
 go_loopw [4] (fun vi wr=>∃ k:Nat,k<=6/\vi=.int .i64 (k:Int)/\Hid (Now w wr b (dt kdF kd0 k).2)/\Hid (DpAt wr f (dt kdF kd0 k).1)) (fun vi _=>(6 - intOf vi).toNat)
 case atStart=>exact ⟨0,by omega,by simp,H3,P3⟩
 case round=>
  obtain ⟨k,k6,rfl,M,P⟩:=hrel;clear H3 P3
  by_cases hk:k=6
  ·subst hk;clear k6
   rename World=>wr
   obtain ⟨S,hS⟩:∃ S,(dt kdF kd0 6).2=S:=⟨_,rfl⟩;rw [show (dt kdF kd0 6).2=kd1 from rfl] at M;clear hS;go_wp2_with (fail);refine (dp_new wr 3 6 57 74).mono ?_;rintro e V1 ⟨rfl,q1,k1⟩;have M1:=gh (M.o.on k1);have P1:=gh (P.o.kept k1);have NG:=gh M.o.2.size;have FG:Hid (f≠wr.heap.size):=gh (Nat.ne_of_lt P.o.lt);have BG:Hid (b≠wr.heap.size):=gh (Nat.ne_of_lt M.o.lt.2);obtain ⟨g,hg⟩:∃ g,wr.heap.size=g:=⟨_,rfl⟩;have Q1:=gh q1;rw [hg] at Q1 NG FG BG;clear q1 k1 M P;rw [hg];clear hg;go_wp2_with (fail);refine (d_step w V1 b kd1 g kdG M1.o Q1.o NG.o (by decide) (by decide) (allI_ok (by kernel_rfl)) (dt kdG kd1 1).1 (dt kdG kd1 1).2 false rfl (by kernel_rfl)).mono ?_;rintro e V2 ⟨rfl,m2,q2,o2⟩;have M2:=gh m2;have Q2:=gh q2;have P2:=gh (P1.o.ot o2 FG.o);clear m2 q2 o2 M1 Q1 P1;go_wp2_with (fail);refine (d_step w V2 b _ g _ M2.o Q2.o NG.o (by decide) (by decide) (allI_ok (by kernel_rfl)) (dt kdG kd1 2).1 (dt kdG kd1 2).2 true rfl (by kernel_rfl)).mono ?_;rintro e V3 ⟨rfl,m3,q3,o3⟩;have M3:Hid (Now w V3 b kd2):=gh m3;have Q3:=gh q3;have P3:=gh (P2.o.ot o3 FG.o);clear m3 q3 o3 M2 Q2 P2;go_wp2_with (fail);refine (dp_outcome V3 f _ P3.o 1 (by kernel_rfl)).mono ?_;rintro e w' ⟨rfl,rfl⟩;go_wp2_with (fail);refine (dp_rec V3 f _ P3.o 8 (by kernel_rfl)).mono ?_;rintro e w' ⟨rfl,rfl⟩;go_wp2_with (fail);refine (d_read w V3 b kd2 6 66 (kd2.touch 6) M3.o (by kernel_rfl) rfl).mono ?_;rintro e V4 ⟨rfl,m4,o4⟩;have M4:=gh m4;have Q4:=gh (Q3.o.ot o4 (Ne.symm BG.o));clear m4 o4 M3 Q3 P3;go_wp2_with (fail);refine (dp_outcome V4 g _ Q4.o 0 (by kernel_rfl)).mono ?_;rintro e w' ⟨rfl,rfl⟩;clear Q4;go_wp2_with (fail);refine (d_write w V4 b _ 3 1 kd3 M4.o rfl).mono ?_;rintro e V5 ⟨rfl,m5,-⟩;have M5:=gh m5;clear m5 M4;go_wp2_with (fail);refine (dp_new V5 3 6 66 74).mono ?_;rintro e V6 ⟨rfl,p6,k6⟩;have H6:=gh (M5.o.on k6);have NH:=gh M5.o.2.size;obtain ⟨h,hh⟩:∃ h,V5.heap.size=h:=⟨_,rfl⟩;have P6:=gh p6;rw [hh] at P6 NH;clear p6 k6 M5;rw [hh];clear hh;go_wp2_with (fail)
   go_loopw [7] (fun vi wr=>∃ k:Nat,k<=6/\vi=.int .i64 (k:Int)/\Hid (Now w wr b (dt kdH kd3 k).2)/\Hid (DpAt wr h (dt kdH kd3 k).1)) (fun vi _=>(6 - intOf vi).toNat)
   case atStart=>exact ⟨0,by omega,by simp,H6,P6⟩
   case round=>
    obtain ⟨k,k6,rfl,M,P⟩:=hrel;clear H6 P6
    by_cases hk:k=6
    ·subst hk;clear k6
     rename World=>wz
     go_wp2_with (fail);refine (dp_outcome wz h _ P.o 2 (by kernel_rfl)).mono ?_;rintro e w' ⟨rfl,rfl⟩;go_wp2_with (fail);refine (d_read w wz b _ 6 66 _ M.o (by kernel_rfl) rfl).mono ?_;rintro e X ⟨rfl,mx,-⟩;have KX:=gh mx.2;clear mx M P;go_wp2;go_ret;exact ⟨rfl,KX.o⟩
    ·have k1:k < 6:=by omega
     have IK:=gh (dt_ok kdH_ok k k1);have i1:(k:Int) < 6:=by omega
     clear k6
     rename World=>wz
     go_wp2_with (fail);refine (d_step w wz b _ h _ M.o P.o NH.o IK.o.ok.n IK.o.ok.r IK.o.ok.i64 _ _ (decide (k=5)) (dt_step kdH kd3 k) IK.o.n').mono ?_;rintro e X ⟨rfl,m8,p8,-⟩;have M8:=gh m8;have P8:=gh p8;clear m8 p8 M P
     by_cases hk5:k=5
     ·subst hk5;go_wp2;exact ⟨⟨6,by omega,by simp,M8,P8⟩,by simp only [intOf];omega⟩
     ·have g6:decide (k=5)=false:=by simp [hk5]
      have g7:((k:Int) == 5)=false:=by simp;omega
      rw [g6];go_wp2;exact ⟨⟨k+1,by omega,by simp,M8,P8⟩,by simp only [intOf];omega⟩
  ·have k1:k < 6:=by omega
   have IK:=gh (dt_ok kdF_ok k k1);have i1:(k:Int) < 6:=by omega
   clear k6
   rename World=>wz
   go_wp2_with (fail);refine (d_step w wz b _ f _ M.o P.o NF.o IK.o.ok.n IK.o.ok.r IK.o.ok.i64 _ _ (decide (k=5)) (dt_step kdF kd0 k) IK.o.n').mono ?_;rintro e X ⟨rfl,m8,p8,-⟩;have M8:=gh m8;have P8:=gh p8;clear m8 p8 M P
   by_cases hk5:k=5
   ·subst hk5;go_wp2;exact ⟨⟨6,by omega,by simp,M8,P8⟩,by simp only [intOf];omega⟩
   ·have g6:decide (k=5)=false:=by simp [hk5]
    have g7:((k:Int) == 5)=false:=by simp;omega
    rw [g6];go_wp2;exact ⟨⟨k+1,by omega,by simp,M8,P8⟩,by simp only [intOf];omega⟩
end
section
open Go.Shelf
open Sd (Pr)
variable {X:Nat->Prop}
theorem follow_x (w W:World) (y b x mb:Nat) (m:Mst) (ix:Ixp) (h:Yx X w W y b x mb m ix) (h0:0 < ix.m.xs.length) (hl:m.xs.length<=ix.m.xs.length) (hz:m.size=ix.m.size) :
  Calls Tryz.prog 40 #[.pointer (some ⟨y,0,none⟩)] W fun e W'=>e=.returned (.tuple #[])/\∃ m',Yx X w W' y b x mb m' ix/\m'.xs=ix.m.xs/\m'.size=ix.m.size/\Others X W W':=by
 obtain ⟨tb,v,mv,tv,lv,pz,h1,h2⟩:=h;refine (follow_yy W w.heap.size y b x mb tb v mv tv lv pz m ix h1 h2.size h0 hl hz).mono ?_;rintro e W' ⟨rfl,v',m',q1,q2,q3,q4,q5⟩;exact ⟨rfl,m',⟨tb,v',mv,tv,lv,pz,q1,h2.own (fun _ e=>e) q4⟩,q2,q3,q5⟩
theorem box27 {W W':World} {o:Nat} {c:Array Value} (h:W.heap[o]? = some (.cells c 27)) (t:Others X W W'):W'.heap[o]? = some (.cells c 27):=t _ _ _ h (.inr (by decide)) (by decide)
set_option maxRecDepth 100000 in
set_option maxHeartbeats 4000000 in
theorem dcssPlays_c (w:World) (cells:Int) (a1:Option Addr) (keys:List Int) (c1:Nat) (a2:Option Addr) (l:List Int) (c2:Nat) (at_:Int) (wrong:Bool) (a3:Option Addr) (sc:List Int) (c3:Nat) (hr1:Reads w a1 keys) (hc1:keys.length<=c1) (hm1:c1<=maxLen) (hr2:Reads w a2 l) (hc2:l.length<=c2) (hm2:c2<=maxLen) (hi:∀ z ∈ l,I64 z) (hr3:Reads w a3 sc) (hc3:sc.length<=c3) (hi3:∀ z ∈ sc,I64 z) :
  Calls Tryz.prog 8 #[.int .i64 cells,.slice a1 keys.length c1,.slice a2 l.length c2,.int .i64 at_,.bool wrong,.slice a3 sc.length c3] w fun e w'=>e=.returned (.bool true)/\Kept w w':=by
 have NW:=ynew_r w cells a1 keys c1 a2 l c2 hr1 hc1 hm1 hr2 hc2 hm2 hi;have HNW:=gh NW;obtain ⟨M3,hM3⟩:∃ M,sc.length=M:=⟨_,rfl⟩;rw [hM3];have HM3:=gh hM3;have HR3:=gh hr3;have HC3:=gh hc3;have HI3:=gh hi3;clear NW hr1 hc1 hm1 hr2 hc2 hm2 hi hM3 hr3 hc3 hi3;go_enter Tryz.func8,Tryz.ntmps8;go_wp2_with (fail);refine HNW.o.mono ?_;rintro e W1 ⟨y,m,ix,rfl,hyd,ok0⟩;obtain ⟨b,x,mb,hy⟩:=hyd.sees;have Y:=gh hy;have O:=gh ok0;obtain ⟨_,d1,d2⟩:=hy.cells;clear hyd ok0 hy HNW;go_wp2_with (fail);refine (slot_d W1 mb ix.m Y.o.dm O.o.ok.1 O.o.sound at_).mono ?_;rintro e W2 ⟨⟨nd,s⟩,hp,rfl,k2⟩;have HP:=gh hp;obtain ⟨V,hV⟩:∃ V,W2.alloc (.cells #[.int .i64 nd,.int .i64 s] 27)=V:=⟨_,rfl⟩;obtain ⟨o,hoo⟩:∃ o,W2.heap.size=o:=⟨_,rfl⟩;have kV:Kept W2 V:=by rw [<- hV];exact Td.alloc _ _ _
 have bo:V.heap[o]? = some (.cells #[.int .i64 nd,.int .i64 s] 27):=by rw [<- hV,<- hoo];exact heap_new _ _
 have BO:=gh bo;have Y2:=gh ((Y.o.kept k2).kept kV);have HV:=gh hV;have HOO:=gh hoo;obtain ⟨z,hz⟩:∃ z,ix.m.look s=z:=⟨_,rfl⟩;have HZ:=gh hz;have o1:V.cell? ⟨o,1,none⟩=some (.int .i64 s):=by simp [World.cell?,bo]
 obtain ⟨_,d1,d2⟩:=Y2.o.cells;have x1:∀ u:Wd (Kept V),u.w.cell? ⟨y,1,none⟩=some (.pointer (some ⟨x,0,none⟩)):=fun u=>u.ok.cell d1 id;have x2:∀ u:Wd (Kept V),u.w.cell? ⟨x,3,none⟩=some (.pointer (some ⟨mb,0,none⟩)):=fun u=>u.ok.cell d2 id;have x3:∀ u:Wd (Kept V),u.w.cell? ⟨o,1,none⟩=some (.int .i64 s):=fun u=>u.ok.cell o1 id;clear hp k2 hV hoo kV bo hz Y d1 d2 o1;go_wp2_with (fail);rw [HV.o,HOO.o];refine region_quiet (Kept V) (by kernel_rfl) (by kernel_rfl) (Kept.drew _) (fun _=>?_)
 repeat (go_big_quiet_step (first
  | (go_at_call 36;rename_i u;refine (lk_d u.w mb ix.m s z (Y2.o.kept u.ok).dm HZ.o).mono ?_;rintro e w' ⟨rfl,rfl⟩;exact ⟨rfl,u,rfl⟩)))
 refine wpQuiet_nil ?_;intro u;obtain ⟨V1,hV1⟩:∃ V,u.w=V:=⟨_,rfl⟩;have Y3:=gh (Y2.o.kept (hV1 ▸ u.ok));have BO3:Hid (V1.heap[o]? = some (.cells #[.int .i64 nd,.int .i64 s] 27)):=gh ((hV1 ▸ u.ok:Kept V V1).heap BO.o id);rw [hV1];clear hV1 u x1 x2 x3 Y2 BO HV;obtain ⟨kq,hkq⟩:∃ kq,kd z=kq:=⟨_,rfl⟩;have KK:=gh (kk_p V1 z kq (by rw [<- HZ.o];exact O.o.ok.1.look s) hkq);have HKQ:=gh hkq;clear hkq;go_wp2_with (fail);refine KK.o.mono ?_;rintro r w' ⟨rfl,rfl⟩;clear KK
 by_cases k5:kq=5
 ·subst k5;go_wp2_with (fail);refine (known14_c V1).mono ?_;rintro r V2 ⟨rfl,k⟩;have KF:Hid (Kept w V2):=gh (Y3.o.since.trans k);clear k;go_wp2;go_ret;exact ⟨rfl,KF.o⟩
 have g5:(kq == 5)=false:=by simp [k5]
 have K5:=gh k5;clear k5
 go_upto_if 51 with (fail)
 go_cut [15] (fun vo wx=>∃ old,vo=.int .i64 old/\Hid (old=z∨old=wrap64 (z+8))/\V1=wx)
 case first=>
  cases wrong with
  | false=>
   go_wp2_with (fail)
   go_meet
   exact ⟨z,rfl,gh (.inl rfl),rfl⟩
  | true=>
   go_wp2_with (fail)
   go_meet
   exact ⟨_,rfl,gh (.inr rfl),rfl⟩
 case rest=>
 obtain ⟨old,rfl,HOLD,rfl⟩:=hcut;clear g5;obtain ⟨L1,L2,L3,L4,L5,L6,L7⟩:=dc_lay O.o HP.o;obtain ⟨f1,hf1⟩:∃ f1,ix.m.fits 1=f1:=⟨_,rfl⟩;obtain ⟨ea,hea⟩:∃ ea,ix.m.next [0]=ea:=⟨_,rfl⟩;obtain ⟨m1,hm1⟩:∃ m1,ix.m.make [0]=m1:=⟨_,rfl⟩;rw [hm1] at L1 L2 L3 L4 L5 L7;rw [hea,hf1,HZ.o] at L7;have WXX:Hid (f1=true->WX 3 (Pr.dcss (nd+2) s old (Rf.ofZ 1 ea)) 4 (.ret 0) { ix with m:=m1 }):=gh (L7 (by rw [HKQ.o];exact K5.o) old HOLD.o);have HL:=gh (And.intro L1 (And.intro L2 (And.intro L3 (And.intro L4 (And.intro L5 L6)))));have HF1:=gh hf1;have HEA:=gh hea;have HM1:=gh hm1;clear L1 L2 L3 L4 L5 L6 L7 hf1 hea hm1;obtain ⟨tb,v0,mv,tv,lv,pz,y1,y2⟩:=Y3.o;have Y1:=gh y1;have S1:=gh y2;clear y1 y2;obtain ⟨V2,hV2⟩:∃ V2,V1.drew=V2:=⟨_,rfl⟩;have kV2:Kept V1 V2:=by rw [<- hV2];exact Kept.drew _
 have Y4:=gh (Y1.o.kept kV2);have S4:=gh (S1.o.trans kV2);have BO4:Hid (V2.heap[o]? = some (.cells #[.int .i64 nd,.int .i64 s] 27)):=gh (kV2.heap BO3.o id);have b1:=Y4.o.box;have d1:V2.cell? ⟨y,1,none⟩=some (.pointer (some ⟨x,0,none⟩)):=by simp [World.cell?,b1]
 have d2:=Y4.o.ixs.cells.1.1;have ny:¬ Foot mb mv y:=foot_apart Y4.o.ixs.mem b1 (by decide) (by decide);have nx:¬ Foot mb mv x:=foot_apart Y4.o.ixs.mem Y4.o.ixs.box (by decide) (by decide);have no:¬ Foot mb mv o:=foot_apart Y4.o.ixs.mem BO4.o (by decide) (by decide);have x1:∀ u:Wd (fun U=>Td (Foot mb mv) V2 U),u.w.cell? ⟨y,1,none⟩=some (.pointer (some ⟨x,0,none⟩)):=fun u=>u.ok.cell d1 ny;have x2:∀ u:Wd (fun U=>Td (Foot mb mv) V2 U),u.w.cell? ⟨x,3,none⟩=some (.pointer (some ⟨mb,0,none⟩)):=fun u=>u.ok.cell d2 nx;have HV2:=gh hV2;have NO:=gh no;clear hV2 kV2 b1 d1 d2 ny nx no Y3 Y1 S1 BO3;go_wp2_with (fail);refine region_wide [0,1,2,3,4,5,6,7,8,9,10,11,12,13] (fun U=>Td (Foot mb mv) V2 U) (by kernel_rfl) (by kernel_rfl) (by rw [HV2.o];exact Td.refl _ _) (fun _=>?_);rw [HV2.o]
 iterate 7 (refine pq rfl rfl ?_;go_big_quiet_step (fail);refine wpQuiet_nil ?_)
 refine pl rfl rfl ?_;gi_wp2_with (fail);refine ⟨trivial,?_⟩;refine (callsIn_wide.2 (empty_r V2)).mono ?_;intro e V5 hF;obtain ⟨fa,fc,rfl,hr,hc1,hc2,hnb,hrow,hk⟩:=hF.form;have NV:Hid (w.heap.size<=V5.heap.size):=gh (by have:=S4.o.size;have:=hk.size;omega);have K5':=gh hk;have Y5:=gh (Y4.o.kept hk);have MK:=make_d V5 w.heap.size mb mv ix.m fa [0] fc Y5.o.ixs.mem NV.o hr (by unfold maxLen;decide) (fun _ ad e=>by
  have h1:=hnb ad e;have h2:=(Y4.o.ixs.mem.lt mb (.inl rfl)).2;omega)
 rw [show ([0]:List Int).length=1 from rfl,HF1.o,HEA.o,HM1.o] at MK;have HMK:=gh MK;clear hF hr hc1 hc2 hnb hrow hk MK;gi_wp2_with (fail);refine ⟨Wd.mem (K5'.o.mono (fun _ _ e=>e.elim)),?_⟩;refine pl rfl rfl ?_;gi_wp2_with (fail);refine ⟨trivial,?_⟩;refine (callsIn_wide.2 HMK.o).mono ?_;rintro e V6 ⟨rfl,mv2,dm2,t2,n2⟩;have Y6:=gh (Y5.o.doc t2 dm2 HL.o.2.2.2.2.1 n2);have T6:Hid (Td (Foot mb mv) V2 V6):=gh (K5'.o.then t2);clear dm2 t2 n2 HMK;gi_wp2_with (fail);refine ⟨Wd.mem T6.o,?_⟩
 iterate 5 (refine pq rfl rfl ?_;go_big_quiet_step (fail);refine wpQuiet_nil ?_)
 refine perm_done ?_;have BO6:Hid (V6.heap[o]? = some (.cells #[.int .i64 nd,.int .i64 s] 27)):=gh (T6.o.heap BO4.o NO.o);have YX:Hid (Yx NoP w V6 y b x mb m { ix with m:=m1 }):=gh ⟨tb,v0,mv2,tv,lv,pz,Y6.o,S4.o.own (fun k hk=>(Y4.o.ixs.mem.lt k hk).1) T6.o⟩;have OK2:∀ m2:Mst,m2.xs=m1.xs->m2.size=m1.size->YOk m2 { ix with m:=m1 } 1680:=fun m2 e1 e2=>⟨e1,e2,HL.o.1,⟨O.o.gd.ts,O.o.gd.tape,O.o.gd.bud,O.o.gd.log⟩,O.o.len,HL.o.2.1⟩;have OK2:=gh OK2;have FL:=gh (follow_x w V6 y b x mb m { ix with m:=m1 } YX.o (by have:=HL.o.2.1;show 0 < m1.xs.length;omega) (by rw [O.o.xs];exact HL.o.2.2.1) (by rw [O.o.size];exact HL.o.2.2.2.1.symm));have W2':=HL.o.2.2.2.2.2;have HW2:=gh W2';obtain ⟨ix2,hix2⟩:∃ ix2,({ ix with m:=m1 }:Ixp)=ix2:=⟨_,rfl⟩;have EM:Hid (ix2.m=m1):=gh (by rw [<- hix2]);rw [hix2] at FL OK2 WXX;clear W2' hix2 x1 x2 Y4 S4 BO4 HV2 NO NV K5' Y5 Y6 T6 YX HL HF1 HEA HM1 HP O HZ HKQ K5 HOLD;go_wp2_with (fail);refine FL.o.mono ?_;rintro r V7 ⟨rfl,m2,h7,e7,z7,o7⟩;have O7:=gh (OK2.o m2 (by rw [e7,EM.o]) (by rw [z7,EM.o]));have Y7:=gh h7;have BO7:=gh (box27 BO6.o o7);clear h7 e7 z7 o7 FL BO6 OK2 EM;go_wp2_with (fail);refine (known14_c V7).mono ?_;rintro r V8 ⟨rfl,k8⟩;have Y8:=gh (Y7.o.kept k8);have BO8:Hid (V8.heap[o]? = some (.cells #[.int .i64 nd,.int .i64 s] 27)):=gh (k8.heap BO7.o id);clear k8 Y7 BO7;go_wp2_with (fail);refine (same_y w V8 y m2 ix2 1680 Y8.o.yd O7.o).mono ?_;rintro r V9 ⟨rfl,k9⟩;have Y9:=gh (Y8.o.kept k9);have BO9:Hid (V9.heap[o]? = some (.cells #[.int .i64 nd,.int .i64 s] 27)):=gh (k9.heap BO8.o id);clear k9 Y8 BO8;cases f1 with
 | false=>
  go_wp2;go_ret;exact ⟨rfl,Y9.o.since⟩
 | true=>
  obtain ⟨nw,hnw⟩:∃ nw,Rf.ofZ 1 ea=nw:=⟨_,rfl⟩;obtain ⟨gd,hgd⟩:∃ gd,nd+2=gd:=⟨_,rfl⟩;have WX9:=WXX.o rfl;rw [hnw,hgd] at WX9;have HWX:=gh WX9;have wg:wrap64 (nd+2)=gd:=by rw [HW2.o,hgd]
  have OF:Hid (∀ V,Calls Tryz.prog 41 #[.int .i64 1,.int .i64 ea] V fun e w'=>e=.returned (.int .i64 nw)/\V=w'):=gh (fun V=>(Rf.of_c 1 ea V).mono (fun _ _ h=>⟨by rw [h.1,hnw],h.2.symm⟩));have bo:=BO9.o;have o0:V9.cell? ⟨o,0,none⟩=some (.int .i64 nd):=by simp [World.cell?,bo]
  have o1:V9.cell? ⟨o,1,none⟩=some (.int .i64 s):=by simp [World.cell?,bo]
  clear WX9 WXX HW2 hnw hgd bo;go_wp2_with (fail);refine (OF.o V9).mono ?_;rintro r w' ⟨rfl,rfl⟩;clear OF;go_wp2_with (fail)
  try rw [wg]
  refine (dp_new V9 gd s old nw).mono ?_;rintro r V10 ⟨rfl,h10,k10⟩;obtain ⟨f,hf⟩:∃ f,V9.heap.size=f:=⟨_,rfl⟩;rw [hf] at h10;rw [hf];have NF:Hid (w.heap.size<=f):=gh (by rw [<- hf];exact Y9.o.since.size);have F10:=gh h10;have Y10:=gh (Y9.o.kept k10);have o0:=k10.cell o0 id;have o1:=k10.cell o1 id;clear h10 k10 hf Y9 BO9;go_wp2_with (fail)
  try rw [wg]
  refine (doc_new5 w V10 y b x mb m2 ix2 Y10.o 14 gd s old nw ⟨.inr (.inr (.inr rfl)),fun e=>absurd e (by decide)⟩).mono ?_;rintro r V11 ⟨e,rfl,y11,l11,_,k11⟩;have P11:=gh (dcss_start y11 O7.o HWX.o (F10.o.kept k11) NF.o l11);clear y11 l11 k11 F10 Y10 NF O7 HWX o0 o1 wg;go_wp2_with (fail)
  go_loopw [21] (fun vi wr=>∃ (i:Nat) (p:Dp) (A:Pr Int) (m:Mst) (ix:Ixp) (q:Lp) (tp:Sl),vi=.int .i64 (i:Int)/\i<=6/\Hid ((i:Int)<=p.n/\q.tape.length<=i)/\Hid (DcTr p q)/\Hid (Pj (Fdp w f p) w wr y b x mb e m ix (1680+2 * i) A q tp)) (fun vi _=>40 - (intOf vi).toNat)
  case atStart=>exact ⟨0,_,_,_,_,_,_,rfl,by omega,gh ⟨by show (0:Int)<=0;decide,by rw [(Lp.settle_play _).2.1];exact Nat.le_refl _⟩,gh (DcTr.new gd s old nw),P11⟩
  case round=>
   obtain ⟨i,p,A,m,ix,q,tp,rfl,hi,HB,TR,P⟩:=hrel;clear P11;obtain ⟨d3,d4,d5⟩:=P.o.lr.cells4 TR.o.pc;have PB:=gh (dp_both P.o.fr.2.1 P.o.is);obtain ⟨dn,hdn⟩:∃ dn,q.done=dn:=⟨_,rfl⟩;rw [hdn] at d3;have HD:=gh hdn;clear hdn;have j1:(i:Int) < 40:=by omega
   cases dn with
   | true=>
    obtain ⟨wd,hwd⟩:∃ wd,q.w=wd:=⟨_,rfl⟩;rw [hwd] at d4;have OC:Hid ((if p.n=6 then p.c else 0)=wd):=gh (by
     have e6:p.n=6:=by have:=PB.o.1.trans HD.o;simpa using this
     rw [if_pos e6,PB.o.2 HD.o,hwd])
    clear hwd d5;have x3:∀ u:Wd (Kept wr),u.w.cell? ⟨e,23,none⟩=some (.bool true):=fun u=>u.ok.cell d3 id;have x4:∀ u:Wd (Kept wr),u.w.cell? ⟨e,26,none⟩=some (.int .i64 wd):=fun u=>u.ok.cell d4 id;have g1:(wd == wd)=true:=by simp
    go_wp2_with (fail);refine region_quiet (Kept wr) (by kernel_rfl) (by kernel_rfl) (Kept.drew _) (fun _=>?_)
    repeat (go_big_quiet_step (first
     | (go_at_call 46;rename_i u;refine (dp_outcome u.w f p (P.o.fr.1.kept u.ok) wd OC.o).mono ?_;rintro e w' ⟨rfl,rfl⟩;exact ⟨rfl,u,rfl⟩)
     | (go_at_call 15;rename_i u;refine (same_y w u.w y m ix _ (P.o.yx.kept u.ok).yd P.o.ok).mono ?_;rintro e w' ⟨rfl,k⟩;exact ⟨rfl,Wd.mem (u.ok.trans k)⟩)))
    refine wpQuiet_nil ?_;intro u;go_wp2;go_ret;exact ⟨rfl,P.o.yx.since.trans u.ok⟩
   | false=>
    have N5:Hid (0<=p.n/\p.n<=5):=gh (by
     have:=P.o.fr.2.1.ns
     have e6:p.n≠6:=by have:=PB.o.1.trans HD.o;simpa using this
     omega)
    have i5:i<=5:=by have:=HB.o.1;have:=N5.o;omega
    clear PB d4 d5
    go_upto_region 20 with (fail)
    go_cut [118] (fun t wx=>∃ r:Bool,t=.bool r/\(r=true->i < M3)/\wx=wr)
    case first=>
     by_cases hs:i < M3
     ·have j2:(i:Int) < (M3:Int):=by omega
      obtain ⟨z,hz⟩:∃ z,sc[i]? = some z:=⟨_,List.getElem?_eq_getElem (by rw [HM3.o];exact hs)⟩;obtain ⟨bl,off,rfl,hbl,hcell0⟩:=HR3.o.at hz;have hcell:=P.o.yx.since.cell hcell0 id;have j3:i < c3:=by have:=HC3.o;have:=HM3.o;omega
      clear hz hcell0 hbl;obtain ⟨rm,hrm⟩:∃ r,z.tmod 3=r:=⟨_,rfl⟩
      by_cases hr:rm=0
      ·subst hr;go_wp2_with (fail)
       go_meet
       exact ⟨true,rfl,fun _=>hs,rfl⟩
      ·have g0:(rm == 0)=false:=by simp [hr]
       clear hr;go_wp2_with (fail)
       go_meet
       exact ⟨false,rfl,(fun e=>by cases e),rfl⟩
     ·have j2:¬ ((i:Int) < (M3:Int)):=by omega
      go_wp2_with (fail)
      go_meet
      exact ⟨false,rfl,(fun e=>by cases e),rfl⟩
    case rest=>
    obtain ⟨rb,rfl,hs,rfl⟩:=hcut
    go_upto_if 118 with (fail)
    go_cut [] (fun wx=>∃ m ix,Hid (Pj (Fdp w f p) w wx y b x mb e m ix (1680+2 * (i+1)) A q tp))
    case first=>
     cases rb with
     | false=>
      go_wp2_with (fail)
      go_meet
      exact ⟨m,ix,P.o.yx,P.o.lr,P.o.fr,P.o.is,P.o.ok.le (by omega),P.o.wx⟩
     | true=>
      have hs:=hs rfl;obtain ⟨z,hz⟩:∃ z,sc[i]? = some z:=⟨_,List.getElem?_eq_getElem (by rw [HM3.o];exact hs)⟩;obtain ⟨bl,off,rfl,hbl,hcell0⟩:=HR3.o.at hz;have hcell:=P.o.yx.since.cell hcell0 id;have j2:(i:Int) < (M3:Int):=by omega
      have j3:i < c3:=by have:=HC3.o;have:=HM3.o;omega
      obtain ⟨n,hn⟩:∃ n,z.tdiv 3=n:=⟨_,rfl⟩;have NI:Hid (I64 n):=gh (by rw [<- hn];exact quo_i64 (HI3.o z (List.mem_of_getElem? hz)) (by decide));have b1:-9223372036854775808<=n/\n<=9223372036854775807:=NI.o;clear hz hcell0 hbl;go_wp2_with (fail)
      try rw [hn]
      refine (pj_pick P.o (fun W' t h=>h.others t) (by omega) n NI.o).mono ?_;rintro r V ⟨rfl,m',ix',P'⟩;have PP:=gh P';clear P';go_wp2_with (fail)
      go_meet
      exact ⟨m',ix',PP.o⟩
    case rest=>
    obtain ⟨m1,ix1,hc⟩:=hcut;have P1:Hid (Pj (Fdp w f p) w wc y b x mb e m1 ix1 (1680+2 * (i+1)) A q tp):=hc;clear hc P d3;obtain ⟨⟨d0,d1,d2⟩,_⟩:=P1.o.cells;have ST:=gh (pj_dp P1.o);have UP:Hid (p.n+1<=(p.step m1).1.n):=gh (p.step_up m1 N5.o);have TS:Hid (DcTr (p.step m1).1 (q.step ix1.m).1):=gh (TR.o.step P1.o.fr.2.1 P1.o.is P1.o.ok.xs P1.o.ok.size HD.o (by have:=HB.o.2;unfold Lp.N0;omega));obtain ⟨p',hp'⟩:∃ p',(p.step m1).1=p':=⟨_,rfl⟩;obtain ⟨m2,hm2⟩:∃ m2,(p.step m1).2=m2:=⟨_,rfl⟩;rw [hp',hm2] at ST;rw [hp'] at UP TS;clear hp' hm2;obtain ⟨r1,hr1⟩:∃ r1,(p'.n == 6)=r1:=⟨_,rfl⟩;rw [hr1] at ST;have HR1:=gh hr1;clear hr1;go_wp2_with (fail);refine ST.o.mono ?_;rintro r V1 ⟨rfl,A1,M1⟩;have HM1:=gh M1;clear M1 ST d0 d1 d2 P1;obtain ⟨d0,d1,d2⟩:=HM1.o.cells;go_wp2_with (fail);refine (pm_doc HM1.o (fun W' t h=>h.others t) (by have:=HB.o.2;omega)).mono ?_;rintro r V2 ⟨ix2,q',tp',rfl,P2,t2,_,eq',_⟩;rw [<- eq'] at TS;have HP2:=gh P2;have ED:Hid (q'.done=r1):=gh ((dp_both P2.fr.2.1 P2.is).1.symm.trans HR1.o);have T2:=gh t2;obtain ⟨d3,_,d5⟩:=P2.lr.cells4 TS.o.pc;rw [ED.o] at d3;rw [TS.o.rc] at d5;obtain ⟨rr,hrr⟩:∃ rr,p'.r=rr:=⟨_,rfl⟩;rw [hrr] at d5;have HRR:=gh hrr;clear P2 t2 HM1 d0 d1 d2 eq' hrr;rw [ED.o];have x3:∀ u:Wd (Kept V2),u.w.cell? ⟨e,23,none⟩=some (.bool r1):=fun u=>u.ok.cell d3 id;have x5:∀ u:Wd (Kept V2),u.w.cell? ⟨e,37,none⟩=some (.int .i64 rr):=fun u=>u.ok.cell d5 id;have g1:(rr != rr)=false:=by simp
    have FIN:Hid (∀ V,Kept V2 V->Pj (Fdp w f p') w V y b x mb e m2 ix2 (1680+2 * (i+1)) A1 q' tp'):=gh (fun V k=>HP2.o.kept k (fun h=>h.kept k));have BD:Hid (((i+1:Nat):Int)<=p'.n/\q'.tape.length<=i+1):=gh ⟨by have:=HB.o.1;have:=UP.o;omega,by have:=HB.o.2;have:=T2.o;omega⟩;cases r1 with
    | false=>
     go_wp2_with (fail);refine region_quiet (Kept V2) (by kernel_rfl) (by kernel_rfl) (Kept.drew _) (fun _=>?_)
     repeat (go_big_quiet_step (first
      | (go_at_call 44;rename_i u;refine (dp_done u.w f p' (HP2.o.fr.1.kept u.ok) false HR1.o).mono ?_;rintro e w' ⟨rfl,rfl⟩;exact ⟨rfl,u,rfl⟩)
      | (go_at_call 45;rename_i u;refine (dp_rec u.w f p' (HP2.o.fr.1.kept u.ok) rr HRR.o).mono ?_;rintro e w' ⟨rfl,rfl⟩;exact ⟨rfl,u,rfl⟩)))
     refine wpQuiet_nil ?_;intro u;obtain ⟨V3,hV3⟩:∃ V,u.w=V:=⟨_,rfl⟩;have P3:=gh (FIN.o V3 (by rw [<- hV3];exact u.ok));rw [hV3];clear hV3 u x3 x5 d3 d5 FIN HP2;go_wp2;exact ⟨⟨i+1,p',A1,m2,ix2,q',tp',by simp,by omega,BD,TS,P3⟩,by simp only [intOf];omega⟩
    | true=>
     go_wp2_with (fail);refine region_quiet (Kept V2) (by kernel_rfl) (by kernel_rfl) (Kept.drew _) (fun _=>?_)
     repeat (go_big_quiet_step (first
      | (go_at_call 44;rename_i u;refine (dp_done u.w f p' (HP2.o.fr.1.kept u.ok) true HR1.o).mono ?_;rintro e w' ⟨rfl,rfl⟩;exact ⟨rfl,u,rfl⟩)
      | (go_at_call 45;rename_i u;refine (dp_rec u.w f p' (HP2.o.fr.1.kept u.ok) rr HRR.o).mono ?_;rintro e w' ⟨rfl,rfl⟩;exact ⟨rfl,u,rfl⟩)))
     refine wpQuiet_nil ?_;intro u;obtain ⟨V3,hV3⟩:∃ V,u.w=V:=⟨_,rfl⟩;have P3:=gh (FIN.o V3 (by rw [<- hV3];exact u.ok));rw [hV3];clear hV3 u x3 x5 d3 d5 FIN HP2;go_wp2;exact ⟨⟨i+1,p',A1,m2,ix2,q',tp',by simp,by omega,BD,TS,P3⟩,by simp only [intOf];omega⟩
end
end Go.Proofs.YtoaicedkepcalaaGreat
