/-
  What the proof of YtoaicedkepcalaaGreatDcssPlaysProof goes by, part 4 of 11: contracts and plain facts; each part begins with its own sentence. No conditions beyond each theorem's own.
-/
import Derived.Test.YtoaicedkepcalaaGreatD3
import Derived.Laws.Rows
import Derived.Laws.ResultCell
import Derived.Deep.DeepCutAuto
import Derived.Deep.MidRow
namespace Go.Proofs.YtoaicedkepcalaaGreat
open Go.RowKit
section
open Go.Shelf
variable {X:Nat->Prop} {lo:Nat}
attribute [local go_sem] Oper.semAt_some
namespace Rn
variable {T:Rn->Wk->Int->(Bool × Wk) × Rn} {n d i z q w:Int} {c:Nat} {k k3:Wk} {t t2 t3 t4:Rn}
theorem thrL_off (h:t.off=true):thrL T n d c i k t=((true,k),t):=by
 cases c with
 | zero=>rfl
 | succ c=>rw [thrL,if_pos h]
theorem thrL_brk (h:t.off=false) (e:t.peek (childZ n d i)=(z,t2)) (h2:t2.off=true):thrL T n d (c+1) i k t=((true,k),t2):=by
 rw [thrL,if_neg (by rw [h];decide),e];dsimp only;rw [if_pos h2]
theorem thrL_hit (h:t.off=false) (e:t.peek (childZ n d i)=(z,t2)) (h2:t2.off=false) (e3:belowW T t2 { k with ss:=k.ss++[(childZ n d i,z)] } z=((true,k3),t3)):thrL T n d (c+1) i k t=((true,k3),t3):=by
 rw [thrL,if_neg (by rw [h];decide),e];dsimp only;rw [if_neg (by rw [h2];decide),e3];rfl
theorem thrL_b0 (h:t.off=false) (e:t.peek (childZ n d i)=(z,t2)) (h2:t2.off=false) (e3:belowW T t2 { k with ss:=k.ss++[(childZ n d i,z)] } z=((false,k3),t3)) (hb:k.back=true) (hi:i=0):thrL T n d (c+1) i k t=((false,k3),t3):=by
 rw [thrL,if_neg (by rw [h];decide),e];dsimp only;rw [if_neg (by rw [h2];decide),e3];dsimp only;rw [if_neg (by decide),if_pos hb,if_pos hi]
theorem thrL_b1 (h:t.off=false) (e:t.peek (childZ n d i)=(z,t2)) (h2:t2.off=false) (e3:belowW T t2 { k with ss:=k.ss++[(childZ n d i,z)] } z=((false,k3),t3)) (hb:k.back=true) (hi:i≠0) (e4:t3.read (keyZ n i)=(q,t4)):thrL T n d (c+1) i k t=if q<=k.lo then ((false,k3),t4) else thrL T n d c (wrap64 (i - 1)) k3 t4:=by
 rw [thrL,if_neg (by rw [h];decide),e];dsimp only;rw [if_neg (by rw [h2];decide),e3];dsimp only;rw [if_neg (by decide),if_pos hb,if_neg hi,e4]
theorem thrL_f0 (h:t.off=false) (e:t.peek (childZ n d i)=(z,t2)) (h2:t2.off=false) (e3:belowW T t2 { k with ss:=k.ss++[(childZ n d i,z)] } z=((false,k3),t3)) (hb:k.back=false) (hi:wrap64 (i+1)=d):thrL T n d (c+1) i k t=((false,k3),t3):=by
 rw [thrL,if_neg (by rw [h];decide),e];dsimp only;rw [if_neg (by rw [h2];decide),e3];dsimp only;rw [if_neg (by decide),if_neg (by rw [hb];decide),if_pos hi]
theorem thrL_f1 (h:t.off=false) (e:t.peek (childZ n d i)=(z,t2)) (h2:t2.off=false) (e3:belowW T t2 { k with ss:=k.ss++[(childZ n d i,z)] } z=((false,k3),t3)) (hb:k.back=false) (hi:wrap64 (i+1)≠d) (e4:t3.read (keyZ n (wrap64 (i+1)))=(q,t4)):thrL T n d (c+1) i k t=if k.hi < q then ((false,k3),t4) else thrL T n d c (wrap64 (i+1)) k3 t4:=by
 rw [thrL,if_neg (by rw [h];decide),e];dsimp only;rw [if_neg (by rw [h2];decide),e3];dsimp only;rw [if_neg (by decide),if_neg (by rw [hb];decide),if_neg hi,e4]
end Rn
def Thr (X:Nat->Prop) (lo r x N:Nat) (T:Rn->Wk->Int->(Bool × Wk) × Rn):Prop:=
 ∀ (W:World) (s:Rn) (n:Int) (k:Wk),s.left < N->RunAt X W r s->s.ok->I64 k.lo/\I64 k.hi->WalkAt W lo x k->lo<=W.heap.size->k.ps.length+s.left<=1000000->k.ss.length+s.left<=1000000->∀ (b:Bool) (k':Wk) (s':Rn),T s k n=((b,k'),s')->
  Calls Tryz.prog 127 #[.pointer (some ⟨x,0,none⟩),.pointer (some ⟨r,0,none⟩),.int .i64 n] W fun e W'=>e=.returned (.bool b)/\Wlk X lo x W r s s' k k' W'
set_option maxRecDepth 100000 in
set_option maxHeartbeats 1000000 in
theorem below_r (hX:∀ k,X k->k < lo) (r x N:Nat) (T:Rn->Wk->Int->(Bool × Wk) × Rn) (HT:Thr X lo r x N T) (W:World) (s:Rn) (w:Int) (k:Wk) (hN:s.left < N) (h:RunAt X W r s) (ho:s.ok) (hof:s.off=false) (hk:I64 k.lo/\I64 k.hi) (iw:I64 w) (hw:WalkAt W lo x k) (hlo:lo<=W.heap.size) (hp:k.ps.length+s.left<=1000000) (hs:k.ss.length+s.left<=1000000) (b:Bool) (k':Wk) (s':Rn) (he:Rn.belowW T s k w=((b,k'),s')) :
  Calls Tryz.prog 152 #[.pointer (some ⟨x,0,none⟩),.pointer (some ⟨r,0,none⟩),.int .i64 w] W fun e W'=>e=.returned (.bool b)/\Wlk X lo x W r s s' k k' W':=by
 have HR0:=gh (h.rlo hX);have H:=gh h;have OK:=gh ho;have HOF:=gh hof;have HW:=gh hw;have HK0:=gh hk;have IW:=gh iw;have HN:=gh hN;have HLO:=gh hlo;have HP:=gh hp;have HS:=gh hs;have HE:=gh he;obtain ⟨kk,hkk⟩:∃ kk,kd w=kk:=⟨_,rfl⟩;obtain ⟨p,hpp⟩:∃ p,ad w=p:=⟨_,rfl⟩;have kr:=ad_range w;rw [hpp] at kr;obtain ⟨p0,p1⟩:=kr;have HK:=gh hkk;have HPP:=gh hpp;clear he h ho hof hw hk iw hN hlo hp hs hkk hpp;go_enter Tryz.func152,Tryz.ntmps152;go_wp2_with (fail);refine (ak_d _ w p IW.o HPP.o).mono ?_;rintro e w' ⟨rfl,rfl⟩;go_wp2_with (fail);refine (kk_d _ w kk IW.o HK.o).mono ?_;rintro e w' ⟨rfl,rfl⟩
 by_cases k2:kk=2
 ·subst k2;have hz:=HE.o;rw [Rn.belowW,if_pos HK.o,HPP.o] at hz;have HZ:=gh hz;clear hz HE;go_wp2_with (fail);refine (meets_r hX W r x s k p p0 p1 H.o OK.o HOF.o HW.o HLO.o HP.o b k' s' HZ.o).mono ?_;rintro e W2 ⟨rfl,G2⟩;go_wp2;go_ret;exact ⟨rfl,G2⟩
 ·by_cases k3:kk=3
  ·subst k3;have hz:=HE.o;rw [Rn.belowW,if_neg (by rw [HK.o];decide),if_pos HK.o,HPP.o] at hz;have HZ:=gh hz;clear hz HE;go_wp2_with (fail);refine (HT W s p k HN.o H.o OK.o HK0.o HW.o HLO.o HP.o HS.o b k' s' HZ.o).mono ?_;rintro e W2 ⟨rfl,G2⟩;go_wp2;go_ret;exact ⟨rfl,G2⟩
  ·by_cases k4:kk=4
   ·subst k4;obtain ⟨q,s1,hq⟩:∃ q s1,s.read p=(q,s1):=⟨_,_,rfl⟩;obtain ⟨a,ha⟩:∃ a,ad q=a:=⟨_,rfl⟩;have hz:=HE.o;rw [Rn.belowW,if_neg (by rw [HK.o];decide),if_neg (by rw [HK.o];decide),if_pos HK.o,HPP.o,hq] at hz;dsimp only at hz;rw [ha] at hz;have HZ:=gh hz;have HQ:=gh hq;have HA:=gh ha;clear hz HE hq ha;go_wp2_with (fail);refine (read_r _ r s p H.o q s1 HQ.o).mono ?_;rintro e W2 ⟨rfl,R2⟩;have IQ:=gh (OK.o.read HQ.o).1;have G2:=gh (R2.went_read OK.o HQ.o);have L2:=gh (G2.o.wlk HW.o HR0.o);clear R2;go_wp2_with (fail);refine (ak_d _ q a IQ.o HA.o).mono ?_;rintro e w' ⟨rfl,rfl⟩;go_wp2_with (fail);refine (HT _ s1 a k (by have:=G2.o.on.left;have:=HN.o;omega) G2.o.at G2.o.ok HK0.o L2.o.walk (Nat.le_trans HLO.o L2.o.gath.turned.size) (by have:=G2.o.on.left;have:=HP.o;omega) (by have:=G2.o.on.left;have:=HS.o;omega) b k' s' HZ.o).mono ?_;rintro e W3 ⟨rfl,G3⟩;have G4:=gh (L2.o.trans G3);clear G3;go_wp2;go_ret;exact ⟨rfl,G4.o⟩
   ·have g2:(kk == 2)=false:=by simp [k2]
    have g3:(kk == 3)=false:=by simp [k3]
    have g4:(kk == 4)=false:=by simp [k4]
    have hz:=HE.o;rw [Rn.belowW,if_neg (by rw [HK.o];exact k2),if_neg (by rw [HK.o];exact k3),if_neg (by rw [HK.o];exact k4)] at hz;obtain ⟨hz1,rfl⟩:=Prod.mk.inj hz;obtain ⟨rfl,rfl⟩:=Prod.mk.inj hz1;clear hz hz1 HE;go_wp2;go_ret;exact ⟨rfl,(Went.refl H.o OK.o).wlk HW.o HR0.o⟩
theorem Wlk.drawn {x r:Nat} {W W' W'':World} {s s':Rn} {k k':Wk} (h:Wlk X lo x W r s s' k k' W') (t:Kept W' W''):Wlk X lo x W r s s' k k' W'':=
 ⟨⟨h.gath.lies.kept t,Kept.behind h.gath.turned t,h.gath.on,h.gath.ok⟩,h.walk.turned t (fun _ e=>e.elim),h.plen,h.slen,h.same⟩
theorem WalkAt.parts {W:World} {x:Nat} {k:Wk} (h:WalkAt W lo x k):W.cell? ⟨x,0,none⟩=some (.int .i64 k.lo)/\W.cell? ⟨x,1,none⟩=some (.int .i64 k.hi)/\W.cell? ⟨x,2,none⟩=some (.bool k.back)/\lo<=x:=by
 obtain ⟨vp,vs,h⟩:=h;obtain ⟨c0,c1,c2,_⟩:=h.cells;exact ⟨c0,c1,c2,h.le⟩
theorem RunAt.offs {W:World} {r:Nat} {s:Rn} (h:RunAt X W r s):W.cell? ⟨r,2,none⟩=some (.bool s.off):=by
 obtain ⟨ta,tc,wa,wc,h⟩:=h;exact h.cells.2.2.1
theorem Rn.peek_lt'' {s s':Rn} {a z:Int} (e:s.peek a=(z,s')) (h:s.off=false):s'.left < s.left:=by
 have:=Rn.peek_lt a h
 rw [e] at this;exact this
set_option maxRecDepth 100000 in
set_option maxHeartbeats 4000000 in
theorem through_r (hX:∀ k,X k->k < lo) (r x:Nat):∀ N,Thr X lo r x N (Rn.thrF N):=by
 intro N
 induction N with
 | zero=>intro W s n k h;omega
 | succ N ih=>
  intro W s n k hN h ho hk hw hlo hp hs bE kE sE he;have HR0:=gh (h.rlo hX);have H:=gh h;have OK:=gh ho;have HK0:=gh hk;have HW:=gh hw;have HLO:=gh hlo;have HN:=gh hN;have HP:=gh hp;have HS:=gh hs;obtain ⟨c0,c1,c2,xlo⟩:=hw.parts;have HX0:Hid (x≠r):=gh (by have:=HR0.o;omega);obtain ⟨fr,hfr⟩:∃ fr,(if k.back=true then k.hi else k.lo)=fr:=⟨_,rfl⟩;obtain ⟨d,i0,s1,hro⟩:∃ d i s1,s.route n fr=((d,i),s1):=⟨_,_,_,rfl⟩;have he1:Rn.thrL (Rn.thrF N) n d (s1.left+1) i0 k s1=((bE,kE),sE):=by
   have:Rn.thrF (N+1) s k n=Rn.thrL (Rn.thrF N) n (s.route n (if k.back=true then k.hi else k.lo)).1.1 ((s.route n (if k.back=true then k.hi else k.lo)).2.left+1) (s.route n (if k.back=true then k.hi else k.lo)).1.2 k (s.route n (if k.back=true then k.hi else k.lo)).2:=rfl
   rw [this,hfr,hro] at he;exact he
  have HE:=gh he1;have HRO:=gh hro;have IFR:Hid (I64 fr):=gh (by rw [<- hfr];split;exact hk.2;exact hk.1);have HFR:=gh hfr;clear he he1 hro hfr h ho hk hw hlo hN hp hs xlo;go_enter Tryz.func127,Tryz.ntmps127;have START:∀ (W1:World),Ran X W r s1 W1->Wlk X lo x W r s s1 k k W1:=by
   intro W1 R1
   have:Went X W r s s1 W1:=by
    have hon:=(Rn.read_on rfl).trans (Rn.route_on s n fr);rw [HRO.o] at hon;exact ⟨R1,hon,hon.ok OK.o⟩
   exact this.wlk HW.o HR0.o
  have HSTART:=gh START;clear START;have hif:fr=(if k.back=true then k.hi else k.lo):=HFR.o.symm;cases hbk:k.back with
  | true=>
   rw [hbk] at c2 hif;rw [if_pos rfl] at hif;subst hif;have HBK:=gh hbk;clear hbk;go_wp2_with (fail);refine (route_r _ r s n k.hi H.o OK.o IFR.o d i0 s1 HRO.o).mono ?_;rintro e W1 ⟨rfl,R1⟩;have G1:=gh (HSTART.o _ R1);clear R1 c0 c1 c2 HSTART;go_wp2_with (fail)
   go_loopw [9,10,11] (fun vi _ _ wr=>∃ (i:Int) (c:Nat) (k1:Wk) (t:Rn),vi=.int .i64 i/\Wlk X lo x W r s t k k1 wr/\t.left < c/\t.left<=s1.left/\Rn.thrL (Rn.thrF N) n d c i k1 t=((bE,kE),sE)) (fun _ _ _ wr=>leftAt wr r)
   case atStart=>exact ⟨i0,s1.left+1,k,s1,rfl,G1.o,by omega,Nat.le_refl _,HE.o⟩
   case round=>
    obtain ⟨i,c,k1,t,rfl,hG,hc,hl,hk1⟩:=hrel;have G:=gh hG;have HL:=gh hl;have HKK:=gh hk1;have c2:=hG.gath.lies.offs;have HC:=gh hc;clear hG hl hk1 hc;cases hof:t.off with
    | true=>
     rw [hof] at c2;have hz:=HKK.o;rw [Rn.thrL_off hof] at hz;obtain ⟨hz1,rfl⟩:=Prod.mk.inj hz;obtain ⟨rfl,rfl⟩:=Prod.mk.inj hz1;clear hz hz1 HKK hof;go_wp2;go_ret;exact ⟨rfl,G.o⟩
    | false=>
     rw [hof] at c2;have HOF:=gh hof;obtain ⟨cz,hcz⟩:∃ cz,childZ n d i=cz:=⟨_,rfl⟩;obtain ⟨z,t2,hpk⟩:∃ z t2,t.peek cz=(z,t2):=⟨_,_,rfl⟩;obtain ⟨c',rfl⟩:∃ c',c=c' + 1:=⟨c - 1,by have:=HC.o;omega⟩;have HPK:Hid (t.peek (childZ n d i)=(z,t2)):=gh (by rw [hcz];exact hpk);have HPK':=gh hpk;have L2:=gh (Rn.peek_lt'' hpk hof);have HCZ:=gh hcz;clear hof hcz hpk;go_wp2_with (fail);refine (child_r _ n d i cz HCZ.o).mono ?_;rintro e w' ⟨rfl,rfl⟩;go_wp2_with (fail);refine (peek_r _ r t cz G.o.gath.lies G.o.gath.ok z t2 HPK'.o).mono ?_;rintro e W2 ⟨rfl,R2⟩;have IZ:=gh (G.o.gath.ok.peek HPK'.o).1;have G2:=gh (G.o.trans ((R2.went_peek G.o.gath.ok HPK'.o).wlk G.o.walk HR0.o));have d2:=G2.o.gath.lies.offs;clear R2;cases hof2:t2.off with
     | true=>
      rw [hof2] at d2;have hz:=HKK.o;rw [Rn.thrL_brk HOF.o HPK.o hof2] at hz;obtain ⟨hz1,rfl⟩:=Prod.mk.inj hz;obtain ⟨rfl,rfl⟩:=Prod.mk.inj hz1;clear hz hz1 HKK hof2;go_wp2;go_ret;exact ⟨rfl,G2.o⟩
     | false=>
      rw [hof2] at d2;have HOF2:=gh hof2;clear hof2;obtain ⟨vp,vs,WI⟩:=G2.o.walk;obtain ⟨_,_,_,_,_,_,c6,ff⟩:=WI.cells;have f6:=ff 6;have HWI:=gh WI;obtain ⟨la,lc,hvs,_⟩:=WI.srow.reads;obtain ⟨M,hM⟩:∃ M,k1.ss.length=M:=⟨_,rfl⟩;rw [hM] at hvs;have HM:=gh hM;subst hvs;clear ff WI hM;go_wp2_with (at_builtin;refine Stop.out ?_);refine ⟨?_⟩;have HRA:=gh (HWI.o.srow.kept (Kept.alloc (Kept.refl W2) (.cells #[.int .i64 cz,.int .i64 z] 182)));have HNW:Hid ((W2.alloc (.cells #[.int .i64 cz,.int .i64 z] 182)).heap[W2.heap.size]? = some (.cells #[.int .i64 cz,.int .i64 z] 182)):=gh (heap_new _ _);refine wpList_append_pair ptS rfl _ _ rfl lo _ k1.ss (k1.ss++[(cz,z)]) rfl HRA.o W2.heap.size cz z rfl HNW.o (by have:=HS.o;have:=G2.o.slen;omega) (by have:=G2.o.gath.turned.size;have:=HLO.o;simp;omega) rfl ?_;intro v9 W9 hown hg hat;obtain ⟨b9,w9,t9⟩:=HWI.o.spot _ _ hg hown;have y6:W9.frozen? ⟨x,6,none⟩=false:=by simp [World.frozen?,b9]
      have x6:W9.cell? ⟨x,6,none⟩=some (.slice la M lc):=by simp [World.cell?,b9,wkCells]
      obtain ⟨la9,lc9,hv9,_⟩:=hown.reads;obtain ⟨Q,hQ⟩:∃ Q,(k1.ss++[(cz,z)]).length=Q:=⟨_,rfl⟩;rw [hQ] at hv9;subst hv9;obtain ⟨W4,hW4⟩:∃ W4,W9.setCell ⟨x,6,none⟩ (.slice la9 Q lc9)=W4:=⟨_,rfl⟩;obtain ⟨k2,hk2⟩:∃ k2,({ k1 with ss:=k1.ss++[(cz,z)] }:Wk)=k2:=⟨_,rfl⟩;rw [hW4] at w9 t9;have G4:Hid (Wlk X lo x W r s t2 k k2 W4):=gh (by
       have h:=G2.o;have hl:=L2.o;have hg:=G.o.slen;subst hk2;exact ⟨h.gath.more hX t9,⟨_,_,w9⟩,h.plen,by simp;omega,h.same⟩)
      have HK2:Hid ({ k1 with ss:=k1.ss++[(childZ n d i,z)] }=k2):=gh (by rw [HCZ.o];exact hk2);have HB:Hid (k1.back=true/\k1.lo=k.lo/\k1.hi=k.hi):=gh ⟨G2.o.same.2.1.trans HBK.o,G2.o.same.1.1,G2.o.same.1.2⟩;obtain ⟨b3,k3,t3,hb3⟩:∃ b3 k3 t3,Rn.belowW (Rn.thrF N) t2 k2 z=((b3,k3),t3):=⟨_,_,_,rfl⟩;have HB3:Hid (Rn.belowW (Rn.thrF N) t2 { k1 with ss:=k1.ss++[(childZ n d i,z)] } z=((b3,k3),t3)):=gh (by rw [HK2.o];exact hb3);have HB3':=gh hb3;clear hown hg hat HRA HNW c6 f6 b9 w9 t9 hQ hk2 hb3 G2 HWI d2;go_wp2_with (fail);refine (below_r hX r x N (Rn.thrF N) ih _ t2 z k2 (by have:=L2.o;have:=HL.o;have:=HN.o;have:=HRO.o;have h:=G1.o.gath.on.left;omega) G4.o.gath.lies G4.o.gath.ok HOF2.o (by have:=G4.o.same.1;rw [this.1,this.2];exact HK0.o) IZ.o G4.o.walk (Nat.le_trans HLO.o G4.o.gath.turned.size) (by have:=G4.o.plen;have:=HP.o;omega) (by have:=G4.o.slen;have:=HS.o;omega) b3 k3 t3 HB3'.o).mono ?_;rintro e W5 ⟨rfl,G5'⟩;have L5:=gh G5'.gath.on.left;have G5:=gh (G4.o.trans G5');clear G5' hW4 x6 y6;cases b3 with
      | true=>
       have hz:=HKK.o;rw [Rn.thrL_hit HOF.o HPK.o HOF2.o HB3.o] at hz;obtain ⟨hz1,rfl⟩:=Prod.mk.inj hz;obtain ⟨rfl,rfl⟩:=Prod.mk.inj hz1;clear hz hz1 HKK;go_wp2;go_ret;exact ⟨rfl,G5.o⟩
      | false=>
       obtain ⟨d0,d1,d2,_⟩:=G5.o.walk.parts;rw [G5.o.same.1.1] at d0;rw [G5.o.same.1.2] at d1;rw [G5.o.same.2.1,HBK.o] at d2
       by_cases hi0:i=0
       ·have hz:=HKK.o;rw [Rn.thrL_b0 HOF.o HPK.o HOF2.o HB3.o HB.o.1 hi0] at hz;obtain ⟨hz1,rfl⟩:=Prod.mk.inj hz;obtain ⟨rfl,rfl⟩:=Prod.mk.inj hz1;clear hz hz1 HKK;subst hi0;go_wp2;go_quiet (fail);go_wp2;go_ret;exact ⟨rfl,G5.o.drawn (Kept.drewN _ _)⟩
       ·have gi:(i == 0)=false:=by simp [hi0]
        obtain ⟨j,hj⟩:∃ j,wrap64 (i - 1)=j:=⟨_,rfl⟩;obtain ⟨kz,hkz⟩:∃ kz,keyZ n i=kz:=⟨_,rfl⟩;obtain ⟨q,t4,hq⟩:∃ q t4,t3.read kz=(q,t4):=⟨_,_,rfl⟩;have hz:=HKK.o;rw [Rn.thrL_b1 (q:=q) (t4:=t4) HOF.o HPK.o HOF2.o HB3.o HB.o.1 hi0 (by rw [hkz];exact hq),hj,HB.o.2.1] at hz;have HZ:=gh hz;have HKZ:=gh hkz;have HQ:=gh hq;obtain ⟨V,hV⟩:∃ V,W5.drew=V:=⟨_,rfl⟩;have kV:Kept W5 V:=by rw [<- hV];exact Kept.drew _
        have x0:∀ u:Wd (fun U=>Td (fun k=>k=r) V U),u.w.cell? ⟨x,0,none⟩=some (.int .i64 k.lo):=fun u=>u.ok.cell (kV.cell d0 id) HX0.o;have HV:=gh hV;have KV:=gh kV;have HG5:=gh (G5.o.drawn kV);clear hz HKK hkz hq hV kV d0 d1;go_wp2_with (fail);refine region_wide [0,1,2,3,4,5,8,9,10,11,6,7,12,13] (fun U=>Td (fun k=>k=r) V U) (by kernel_rfl) (by kernel_rfl) (by rw [HV.o];exact Td.refl _ _) (fun _=>?_);rw [HV.o]
        repeat (refine pq rfl rfl ?_;go_big_quiet_step (fail);refine wpQuiet_nil ?_)
        refine pl rfl rfl ?_;gi_wp2_with (fail);refine ⟨trivial,?_⟩;refine (callsIn_wide.2 (key_r V n i kz HKZ.o)).mono ?_;rintro e U ⟨rfl,rfl⟩;gi_wp2_with (fail);refine ⟨Wd.mem (Td.refl _ _),?_⟩;refine pl rfl rfl ?_;gi_wp2_with (fail);refine ⟨trivial,?_⟩;refine (callsIn_wide.2 (read_r V r t3 kz HG5.o.gath.lies q t4 HQ.o)).mono ?_;rintro e W6 ⟨rfl,R6⟩;have TU:=gh R6.2;have L6:=gh (Rn.read_on HQ.o).left;have G6:=gh (HG5.o.trans ((R6.went_read HG5.o.gath.ok HQ.o).wlk HG5.o.walk HR0.o));clear R6
        by_cases hqk:q<=k.lo
        ·have hz:=HZ.o;rw [if_pos hqk] at hz;obtain ⟨hz1,rfl⟩:=Prod.mk.inj hz;obtain ⟨rfl,rfl⟩:=Prod.mk.inj hz1;clear hz hz1 HZ;gi_wp2_with (fail);refine ⟨Wd.mem TU.o,?_⟩
         repeat (refine pq rfl rfl ?_;go_big_quiet_step (fail);refine wpQuiet_nil ?_)
         refine perm_done ?_;clear x0;go_wp2;go_ret;exact ⟨rfl,G6.o⟩
        ·have gq:decide (q<=k.lo)=false:=by simp;omega
         have hz:=HZ.o;rw [if_neg hqk] at hz;have HZ2:=gh hz;clear hz HZ;gi_wp2_with (fail);refine ⟨Wd.mem TU.o,?_⟩
         repeat (refine pq rfl rfl ?_;go_big_quiet_step (fail);refine wpQuiet_nil ?_)
         refine perm_done ?_;clear x0;go_wp2;refine ⟨⟨j,c',k3,t4,(by first | rfl | rw [hj]),G6.o,by have:=L2.o;have:=L5.o;have:=L6.o;have:=HC.o;omega,by have:=L2.o;have:=L5.o;have:=L6.o;have:=HL.o;omega,HZ2.o⟩,?_⟩;rw [G6.o.gath.lies.leftAt,G.o.gath.lies.leftAt]
         have:=L2.o;have:=L5.o;have:=L6.o;omega
  | false=>
   rw [hbk] at c2 hif;rw [if_neg (by decide)] at hif;subst hif;have HBK:=gh hbk;clear hbk;go_wp2_with (fail);refine (route_r _ r s n k.lo H.o OK.o IFR.o d i0 s1 HRO.o).mono ?_;rintro e W1 ⟨rfl,R1⟩;have G1:=gh (HSTART.o _ R1);clear R1 c0 c1 c2 HSTART;go_wp2_with (fail)
   go_loopw [9,10,11] (fun vi _ _ wr=>∃ (i:Int) (c:Nat) (k1:Wk) (t:Rn),vi=.int .i64 i/\Wlk X lo x W r s t k k1 wr/\t.left < c/\t.left<=s1.left/\Rn.thrL (Rn.thrF N) n d c i k1 t=((bE,kE),sE)) (fun _ _ _ wr=>leftAt wr r)
   case atStart=>exact ⟨i0,s1.left+1,k,s1,rfl,G1.o,by omega,Nat.le_refl _,HE.o⟩
   case round=>
    obtain ⟨i,c,k1,t,rfl,hG,hc,hl,hk1⟩:=hrel;have G:=gh hG;have HL:=gh hl;have HKK:=gh hk1;have c2:=hG.gath.lies.offs;have HC:=gh hc;clear hG hl hk1 hc;cases hof:t.off with
    | true=>
     rw [hof] at c2;have hz:=HKK.o;rw [Rn.thrL_off hof] at hz;obtain ⟨hz1,rfl⟩:=Prod.mk.inj hz;obtain ⟨rfl,rfl⟩:=Prod.mk.inj hz1;clear hz hz1 HKK hof;go_wp2;go_ret;exact ⟨rfl,G.o⟩
    | false=>
     rw [hof] at c2;have HOF:=gh hof;obtain ⟨cz,hcz⟩:∃ cz,childZ n d i=cz:=⟨_,rfl⟩;obtain ⟨z,t2,hpk⟩:∃ z t2,t.peek cz=(z,t2):=⟨_,_,rfl⟩;obtain ⟨c',rfl⟩:∃ c',c=c' + 1:=⟨c - 1,by have:=HC.o;omega⟩;have HPK:Hid (t.peek (childZ n d i)=(z,t2)):=gh (by rw [hcz];exact hpk);have HPK':=gh hpk;have L2:=gh (Rn.peek_lt'' hpk hof);have HCZ:=gh hcz;clear hof hcz hpk;go_wp2_with (fail);refine (child_r _ n d i cz HCZ.o).mono ?_;rintro e w' ⟨rfl,rfl⟩;go_wp2_with (fail);refine (peek_r _ r t cz G.o.gath.lies G.o.gath.ok z t2 HPK'.o).mono ?_;rintro e W2 ⟨rfl,R2⟩;have IZ:=gh (G.o.gath.ok.peek HPK'.o).1;have G2:=gh (G.o.trans ((R2.went_peek G.o.gath.ok HPK'.o).wlk G.o.walk HR0.o));have d2:=G2.o.gath.lies.offs;clear R2;cases hof2:t2.off with
     | true=>
      rw [hof2] at d2;have hz:=HKK.o;rw [Rn.thrL_brk HOF.o HPK.o hof2] at hz;obtain ⟨hz1,rfl⟩:=Prod.mk.inj hz;obtain ⟨rfl,rfl⟩:=Prod.mk.inj hz1;clear hz hz1 HKK hof2;go_wp2;go_ret;exact ⟨rfl,G2.o⟩
     | false=>
      rw [hof2] at d2;have HOF2:=gh hof2;clear hof2;obtain ⟨vp,vs,WI⟩:=G2.o.walk;obtain ⟨_,_,_,_,_,_,c6,ff⟩:=WI.cells;have f6:=ff 6;have HWI:=gh WI;obtain ⟨la,lc,hvs,_⟩:=WI.srow.reads;obtain ⟨M,hM⟩:∃ M,k1.ss.length=M:=⟨_,rfl⟩;rw [hM] at hvs;have HM:=gh hM;subst hvs;clear ff WI hM;go_wp2_with (at_builtin;refine Stop.out ?_);refine ⟨?_⟩;have HRA:=gh (HWI.o.srow.kept (Kept.alloc (Kept.refl W2) (.cells #[.int .i64 cz,.int .i64 z] 182)));have HNW:Hid ((W2.alloc (.cells #[.int .i64 cz,.int .i64 z] 182)).heap[W2.heap.size]? = some (.cells #[.int .i64 cz,.int .i64 z] 182)):=gh (heap_new _ _);refine wpList_append_pair ptS rfl _ _ rfl lo _ k1.ss (k1.ss++[(cz,z)]) rfl HRA.o W2.heap.size cz z rfl HNW.o (by have:=HS.o;have:=G2.o.slen;omega) (by have:=G2.o.gath.turned.size;have:=HLO.o;simp;omega) rfl ?_;intro v9 W9 hown hg hat;obtain ⟨b9,w9,t9⟩:=HWI.o.spot _ _ hg hown;have y6:W9.frozen? ⟨x,6,none⟩=false:=by simp [World.frozen?,b9]
      have x6:W9.cell? ⟨x,6,none⟩=some (.slice la M lc):=by simp [World.cell?,b9,wkCells]
      obtain ⟨la9,lc9,hv9,_⟩:=hown.reads;obtain ⟨Q,hQ⟩:∃ Q,(k1.ss++[(cz,z)]).length=Q:=⟨_,rfl⟩;rw [hQ] at hv9;subst hv9;obtain ⟨W4,hW4⟩:∃ W4,W9.setCell ⟨x,6,none⟩ (.slice la9 Q lc9)=W4:=⟨_,rfl⟩;obtain ⟨k2,hk2⟩:∃ k2,({ k1 with ss:=k1.ss++[(cz,z)] }:Wk)=k2:=⟨_,rfl⟩;rw [hW4] at w9 t9;have G4:Hid (Wlk X lo x W r s t2 k k2 W4):=gh (by
       have h:=G2.o;have hl:=L2.o;have hg:=G.o.slen;subst hk2;exact ⟨h.gath.more hX t9,⟨_,_,w9⟩,h.plen,by simp;omega,h.same⟩)
      have HK2:Hid ({ k1 with ss:=k1.ss++[(childZ n d i,z)] }=k2):=gh (by rw [HCZ.o];exact hk2);have HB:Hid (k1.back=false/\k1.lo=k.lo/\k1.hi=k.hi):=gh ⟨G2.o.same.2.1.trans HBK.o,G2.o.same.1.1,G2.o.same.1.2⟩;obtain ⟨b3,k3,t3,hb3⟩:∃ b3 k3 t3,Rn.belowW (Rn.thrF N) t2 k2 z=((b3,k3),t3):=⟨_,_,_,rfl⟩;have HB3:Hid (Rn.belowW (Rn.thrF N) t2 { k1 with ss:=k1.ss++[(childZ n d i,z)] } z=((b3,k3),t3)):=gh (by rw [HK2.o];exact hb3);have HB3':=gh hb3;clear hown hg hat HRA HNW c6 f6 b9 w9 t9 hQ hk2 hb3 G2 HWI d2;go_wp2_with (fail);refine (below_r hX r x N (Rn.thrF N) ih _ t2 z k2 (by have:=L2.o;have:=HL.o;have:=HN.o;have:=HRO.o;have h:=G1.o.gath.on.left;omega) G4.o.gath.lies G4.o.gath.ok HOF2.o (by have:=G4.o.same.1;rw [this.1,this.2];exact HK0.o) IZ.o G4.o.walk (Nat.le_trans HLO.o G4.o.gath.turned.size) (by have:=G4.o.plen;have:=HP.o;omega) (by have:=G4.o.slen;have:=HS.o;omega) b3 k3 t3 HB3'.o).mono ?_;rintro e W5 ⟨rfl,G5'⟩;have L5:=gh G5'.gath.on.left;have G5:=gh (G4.o.trans G5');clear G5' hW4 x6 y6;cases b3 with
      | true=>
       have hz:=HKK.o;rw [Rn.thrL_hit HOF.o HPK.o HOF2.o HB3.o] at hz;obtain ⟨hz1,rfl⟩:=Prod.mk.inj hz;obtain ⟨rfl,rfl⟩:=Prod.mk.inj hz1;clear hz hz1 HKK;go_wp2;go_ret;exact ⟨rfl,G5.o⟩
      | false=>
       obtain ⟨d0,d1,d2,_⟩:=G5.o.walk.parts;rw [G5.o.same.1.1] at d0;rw [G5.o.same.1.2] at d1;rw [G5.o.same.2.1,HBK.o] at d2;obtain ⟨j,hj⟩:∃ j,wrap64 (i+1)=j:=⟨_,rfl⟩
       by_cases hi0:j=d
       ·have hz:=HKK.o;rw [Rn.thrL_f0 HOF.o HPK.o HOF2.o HB3.o HB.o.1 (hj.trans hi0)] at hz;obtain ⟨hz1,rfl⟩:=Prod.mk.inj hz;obtain ⟨rfl,rfl⟩:=Prod.mk.inj hz1;clear hz hz1 HKK;subst hi0;go_wp2;go_quiet (fail);go_wp2;go_ret;exact ⟨rfl,G5.o.drawn (Kept.drewN _ _)⟩
       ·have gi:(j == d)=false:=by simp [hi0]
        obtain ⟨kz,hkz⟩:∃ kz,keyZ n j=kz:=⟨_,rfl⟩;obtain ⟨q,t4,hq⟩:∃ q t4,t3.read kz=(q,t4):=⟨_,_,rfl⟩;have hz:=HKK.o;rw [Rn.thrL_f1 (q:=q) (t4:=t4) HOF.o HPK.o HOF2.o HB3.o HB.o.1 (by rw [hj];exact hi0) (by rw [hj,hkz];exact hq),hj,HB.o.2.2] at hz;have HZ:=gh hz;have HKZ:=gh hkz;have HQ:=gh hq;obtain ⟨V,hV⟩:∃ V,W5.drew=V:=⟨_,rfl⟩;have kV:Kept W5 V:=by rw [<- hV];exact Kept.drew _
        have x0:∀ u:Wd (fun U=>Td (fun k=>k=r) V U),u.w.cell? ⟨x,1,none⟩=some (.int .i64 k.hi):=fun u=>u.ok.cell (kV.cell d1 id) HX0.o;have HV:=gh hV;have KV:=gh kV;have HG5:=gh (G5.o.drawn kV);clear hz HKK hkz hq hV kV d0 d1;go_wp2_with (fail);refine region_wide [0,1,2,3,4,5,6,9,10,11,12,7,8,13,14] (fun U=>Td (fun k=>k=r) V U) (by kernel_rfl) (by kernel_rfl) (by rw [HV.o];exact Td.refl _ _) (fun _=>?_);rw [HV.o]
        repeat (refine pq rfl rfl ?_;go_big_quiet_step (fail);refine wpQuiet_nil ?_)
        refine pl rfl rfl ?_;gi_wp2_with (fail);refine ⟨trivial,?_⟩;refine (callsIn_wide.2 (key_r V n j kz HKZ.o)).mono ?_;rintro e U ⟨rfl,rfl⟩;gi_wp2_with (fail);refine ⟨Wd.mem (Td.refl _ _),?_⟩;refine pl rfl rfl ?_;gi_wp2_with (fail);refine ⟨trivial,?_⟩;refine (callsIn_wide.2 (read_r V r t3 kz HG5.o.gath.lies q t4 HQ.o)).mono ?_;rintro e W6 ⟨rfl,R6⟩;have TU:=gh R6.2;have L6:=gh (Rn.read_on HQ.o).left;have G6:=gh (HG5.o.trans ((R6.went_read HG5.o.gath.ok HQ.o).wlk HG5.o.walk HR0.o));clear R6
        by_cases hqk:k.hi < q
        ·have hz:=HZ.o;rw [if_pos hqk] at hz;obtain ⟨hz1,rfl⟩:=Prod.mk.inj hz;obtain ⟨rfl,rfl⟩:=Prod.mk.inj hz1;clear hz hz1 HZ;gi_wp2_with (fail);refine ⟨Wd.mem TU.o,?_⟩
         repeat (refine pq rfl rfl ?_;go_big_quiet_step (fail);refine wpQuiet_nil ?_)
         refine perm_done ?_;clear x0;go_wp2;go_ret;exact ⟨rfl,G6.o⟩
        ·have gq:decide (k.hi < q)=false:=by simp;omega
         have hz:=HZ.o;rw [if_neg hqk] at hz;have HZ2:=gh hz;clear hz HZ;gi_wp2_with (fail);refine ⟨Wd.mem TU.o,?_⟩
         repeat (refine pq rfl rfl ?_;go_big_quiet_step (fail);refine wpQuiet_nil ?_)
         refine perm_done ?_;clear x0;go_wp2;refine ⟨⟨j,c',k3,t4,(by first | rfl | rw [hj]),G6.o,by have:=L2.o;have:=L5.o;have:=L6.o;have:=HC.o;omega,by have:=L2.o;have:=L5.o;have:=L6.o;have:=HL.o;omega,HZ2.o⟩,?_⟩;rw [G6.o.gath.lies.leftAt,G.o.gath.lies.leftAt]
         have:=L2.o;have:=L5.o;have:=L6.o;omega
end
section
open Go.Shelf
variable {X:Nat->Prop} {lo:Nat}
theorem rcb {P:Program} {fn:Func} {p u:Tmp} {ty:TypeId} (h:fn.results=#[.cell p ty,.tmp u]) (tmps:Array Value) (w:World) (g:Nat) (t:TypeId) (cs:Array Value) (fr:Nat × Nat) (d:TypeDesc)
  (hp:tmps.getD p undef=.pointer (some ⟨g,0,none⟩)) (hg:w.heap[g]? = some (.cells cs t fr))
  (hu:P.underlying ty=some d) (hd:(match d with | .struct _ | .array _ _=>true | _=>false)=true) (hi:(P.info? ty).map (·.size)=some cs.size) :
  (results fn tmps).run P w=.ok (.tuple #[.agg cs,tmps.getD u undef]) w:=by
 rw [results_cell_tmp h,hp];simp [asAddr,Result.andThen,run_loadVar_row w g t ty cs fr d hg hu hd hi]
structure Rs where
 why:Int
 found:Bool
 key:Int
 val:Int
 n:Int
def Rs.cs (x:Rs) (l:Value):Array Value:=#[.int .i64 x.why,.bool x.found,.int .i64 x.key,.int .i64 x.val,.int .i64 x.n,l]
def Rs.none:Rs:=⟨0,false,0,0,0⟩
def Rs.nomem:Rs:=⟨8,false,0,0,0⟩
theorem info61:(Tryz.prog.info? 61).map (·.size)=some 6:=by kernel_rfl
theorem nomem_r (w:World):Calls Tryz.prog 173 #[] w fun e w'=>e=.returned (.agg (Rs.nomem.cs (.slice .none 0 0)))/\Kept w w':=by
 go_enter Tryz.func173,Tryz.ntmps173;go_wp2;refine bodyPost_ret (results_cell_row rfl _ _ w.heap.size 61 (Rs.nomem.cs (.slice .none 0 0)) _ _ rfl (heap_new _ _) Tryz.underlying61 rfl info61) rfl ?_;exact ⟨rfl,Td.alloc _ _ _⟩
def Rs.told (kind:Int) (ps:List (Int × Int)):Rs:=
 if kind=9 then Rs.none else if kind=10 then ⟨0,false,0,0,ps.length⟩ else if ps.length=0 then Rs.none else ⟨0,true,(ps.headD (0,0)).1,(ps.headD (0,0)).2,0⟩
set_option maxHeartbeats 1000000 in
theorem told_r (w:World) (kind key value:Int) (a:Option Addr) (M cap:Nat) (ps:List (Int × Int)) (hp:PReads w a ps) (hM:ps.length=M) (hc:M<=cap) (hm:M<=1000000) :
  Calls Tryz.prog 165 #[.agg #[.int .i64 kind,.int .i64 key,.int .i64 value],.slice a M cap] w fun e w'=>e=.returned (.agg ((Rs.told kind ps).cs (if kind=9 then .slice a M cap else .slice .none 0 0)))/\Kept w w':=by
 by_cases k9:kind=9
 ·subst k9;go_enter Tryz.func165,Tryz.ntmps165;go_wp2;refine bodyPost_ret (results_cell_row rfl _ _ (w.heap.size+1) 61 ((Rs.told 9 ps).cs (.slice a M cap)) _ _ rfl (heap_alloc2_new _ _ _) Tryz.underlying61 rfl info61) rfl ?_;exact ⟨rfl,(Kept.alloc (Kept.refl w) _).alloc _⟩
 ·by_cases k10:kind=10
  ·subst k10;go_enter Tryz.func165,Tryz.ntmps165;go_wp2;refine bodyPost_ret (results_cell_row rfl _ _ (w.heap.size+1) 61 (#[.int .i64 0,.bool false,.int .i64 0,.int .i64 0,.int .i64 (M:Int),.slice .none 0 0]) _ _ rfl (heap_alloc2_new _ _ _) Tryz.underlying61 rfl info61) rfl ?_;exact ⟨by rw [<- hM];rfl,(Kept.alloc (Kept.refl w) _).alloc _⟩
  ·have g9:(kind == 9)=false:=by simp [k9]
   have g10:(kind == 10)=false:=by simp [k10]
   by_cases h0:M=0
   ·have et:Rs.told kind ps=Rs.none:=by unfold Rs.told;rw [if_neg k9,if_neg k10,if_pos (by omega)]
    rw [et,if_neg k9];have g0:((M:Int) == 0)=true:=by simp [h0]
    go_enter Tryz.func165,Tryz.ntmps165;go_wp2;refine bodyPost_ret (results_cell_row rfl _ _ (w.heap.size+1) 61 (Rs.none.cs (.slice .none 0 0)) _ _ rfl (heap_alloc2_new _ _ _) Tryz.underlying61 rfl info61) rfl ?_;exact ⟨rfl,(Kept.alloc (Kept.refl w) _).alloc _⟩
   ·obtain ⟨bl,off,rfl⟩:∃ bl off,a=some ⟨bl,off,none⟩:=by
     rcases hp with e | ⟨bl,off,e,_⟩
     ·rw [e] at hM;simp at hM;omega
     ·exact ⟨bl,off,e⟩
    obtain ⟨h1,h2⟩:=preads_head hp (by omega);have et:Rs.told kind ps=⟨0,true,(ps.headD (0,0)).1,(ps.headD (0,0)).2,0⟩:=by unfold Rs.told;rw [if_neg k9,if_neg k10,if_neg (by omega)]
    rw [et,if_neg k9];obtain ⟨p1,hp1⟩:∃ p1,(ps.headD (0,0)).1=p1:=⟨_,rfl⟩;obtain ⟨p2,hp2⟩:∃ p2,(ps.headD (0,0)).2=p2:=⟨_,rfl⟩;rw [hp1] at h1;rw [hp2] at h2;rw [hp1,hp2];have m0:(0:Int) < (M:Int):=by omega
    have m1:0 < cap:=by omega
    have m2:((M:Int) == 0)=false:=by simp;omega
    have kA:∀ o o',Kept w ((w.alloc o).alloc o'):=fun o o'=>(Kept.alloc (Kept.refl w) o).alloc o';have x1:∀ o o',((w.alloc o).alloc o').cell? ⟨bl,off,none⟩=some (.int .i64 p1):=fun o o'=>(kA o o').cell h1 id;have x2:∀ o o',((w.alloc o).alloc o').cell? ⟨bl,off+1,none⟩=some (.int .i64 p2):=fun o o'=>(kA o o').cell h2 id;clear kA h1 h2 et hp1 hp2;go_enter Tryz.func165,Tryz.ntmps165;go_wp2;refine bodyPost_ret (results_cell_row rfl _ _ (w.heap.size+1) 61 (#[.int .i64 0,.bool true,.int .i64 p1,.int .i64 p2,.int .i64 0,.slice .none 0 0]) _ _ rfl (heap_alloc2_new _ _ _) Tryz.underlying61 rfl info61) rfl ?_;exact ⟨rfl,(Kept.alloc (Kept.refl w) _).alloc _⟩
def Wk.asked (kind key value:Int):Wk:=
 ⟨if kind=6∨kind=9∨kind=10 then key else -9223372036854775808,if kind=5 then key else if kind=9∨kind=10 then value else 9223372036854775807,
  decide (kind=5∨kind=8),if kind=9∨kind=10 then 0 else 1,decide (kind≠10),[],[]⟩
theorem asked_r (w:World) (kind key value:Int):Calls Tryz.prog 164 #[.agg #[.int .i64 kind,.int .i64 key,.int .i64 value]] w fun e w'=>∃ x,e=.returned (.pointer (some ⟨x,0,.none⟩))/\WalkAt w' w.heap.size x (Wk.asked kind key value)/\Kept w w':=by
 have fin:∀ (W:World) (k:Wk),W.heap[w.heap.size+1]? = some (.cells (wkCells k (.slice .none 0 0) (.slice .none 0 0)) 47)->k.ps=[]->k.ss=[]->WalkAt W w.heap.size (w.heap.size+1) k:=by
  intro W k hb e1 e2;refine ⟨_,_,hb,by omega,?_,?_⟩
  ·rw [e1];exact PRow.nil _ _ _
  ·rw [e2];exact PRow.nil _ _ _
 by_cases k5:kind=5
 ·subst k5;go_enter Tryz.func164,Tryz.ntmps164;go_wp2;go_ret;exact ⟨_,rfl,fin _ _ (by rw [heap_alloc2_new];simp [Wk.asked,wkCells]) rfl rfl,(Kept.alloc (Kept.refl w) _).alloc _⟩
 by_cases k6:kind=6
 ·subst k6;go_enter Tryz.func164,Tryz.ntmps164;go_wp2;go_ret;exact ⟨_,rfl,fin _ _ (by rw [heap_alloc2_new];simp [Wk.asked,wkCells]) rfl rfl,(Kept.alloc (Kept.refl w) _).alloc _⟩
 by_cases k8:kind=8
 ·subst k8;go_enter Tryz.func164,Tryz.ntmps164;go_wp2;go_ret;exact ⟨_,rfl,fin _ _ (by rw [heap_alloc2_new];simp [Wk.asked,wkCells]) rfl rfl,(Kept.alloc (Kept.refl w) _).alloc _⟩
 by_cases k9:kind=9
 ·subst k9;go_enter Tryz.func164,Tryz.ntmps164;go_wp2;go_ret;exact ⟨_,rfl,fin _ _ (by rw [heap_alloc2_new];simp [Wk.asked,wkCells]) rfl rfl,(Kept.alloc (Kept.refl w) _).alloc _⟩
 by_cases k10:kind=10
 ·subst k10;go_enter Tryz.func164,Tryz.ntmps164;go_wp2;go_ret;exact ⟨_,rfl,fin _ _ (by rw [heap_alloc2_new];simp [Wk.asked,wkCells]) rfl rfl,(Kept.alloc (Kept.refl w) _).alloc _⟩
 have g5:(kind == 5)=false:=by simp [k5]
 have g6:(kind == 6)=false:=by simp [k6]
 have g8:(kind == 8)=false:=by simp [k8]
 have g9:(kind == 9)=false:=by simp [k9]
 have g10:(kind == 10)=false:=by simp [k10]
 go_enter Tryz.func164,Tryz.ntmps164;go_wp2;go_ret;exact ⟨_,rfl,fin _ _ (by rw [heap_alloc2_new];simp [Wk.asked,wkCells,k5,k6,k8,k9,k10]) rfl rfl,(Kept.alloc (Kept.refl w) _).alloc _⟩
end
section
open Go.Shelf
variable {X:Nat->Prop} {lo:Nat}
attribute [local go_sem] Oper.semAt_some
def Rs.retry:Rs:=⟨9,false,0,0,0⟩
namespace Rn
def queryL (N:Nat) (kind key value:Int):Nat->Rn->(Rs × List (Int × Int)) × Rn
 | 0,s=>((Rs.retry,[]),s)
 | c+1,s=>
  if s.off=true then ((Rs.retry,[]),s)
  else
   let t:=thrF N s (Wk.asked kind key value) 1
   if t.2.off=true then ((Rs.retry,[]),t.2)
   else
    let a:=againL t.1.2.ss t.2
    if a.1=true then ((Rs.told kind t.1.2.ps,if kind=9 then t.1.2.ps else []),a.2)
    else queryL N kind key value c a.2
def queryR (N:Nat) (s:Rn) (kind key value budget:Int):(Rs × List (Int × Int)) × Rn:=
 if kind=4 then
  let z:=s.seek key
  if z.1.2=true then ((⟨0,true,key,z.1.1,0⟩,[]),z.2) else ((Rs.none,[]),z.2)
 else queryL N kind key value budget.toNat s
theorem seekL_on (n:Nat):∀ (s:Rn) (a k:Int),s.left<=n->On s (s.seekL a k).2:=by
 induction n with
 | zero=>
  intro s a k h
  have:s.off=true:=by
   cases ho:s.off with
   | true=>rfl
   | false=>unfold left at h;rw [ho] at h;simp at h
  rw [seekL_off this];exact On.refl s
 | succ n ih=>
  intro s a k h;cases ho:s.off with
  | true=>rw [seekL_off ho];exact On.refl s
  | false=>
   have l1:=child_lt a k ho;obtain ⟨c,t,hc⟩:∃ c t,s.child a k=(c,t):=⟨_,_,rfl⟩;obtain ⟨w,u,hw⟩:∃ w u,t.peek c=(w,u):=⟨_,_,rfl⟩;have o1:On s t:=by have:=(read_on rfl).trans (child_on s a k);rw [hc] at this;exact this
   rw [hc] at l1;have o2:On s u:=o1.trans (peek_on hw);have l2:u.left < s.left:=(peek_on hw).lt l1;obtain ⟨q,v,hq⟩:∃ q v,u.read (ad w)=(q,v):=⟨_,_,rfl⟩;have o3:On s v:=o2.trans (read_on hq);have l3:v.left < s.left:=(read_on hq).lt l2
   by_cases k2:kd w=2
   ·rw [seekL_leaf ho hc hw k2 hq]
    split
    ·exact o3.trans (ask_on _ _)
    ·exact o3
   ·by_cases k3:kd w=3
    ·rw [seekL_inner ho hc hw k3];exact o2.trans (ih _ _ _ (by omega))
    ·by_cases k4:kd w=4
     ·rw [seekL_again ho hc hw k4 hq];exact o3.trans (ih _ _ _ (by omega))
     ·rw [seekL_none ho hc hw k2 k3 k4];exact o2
theorem seek_on (s:Rn) (k:Int):On s (s.seek k).2:=seekL_on _ _ _ _ (Nat.le_refl _)
theorem queryL_off {N:Nat} {kind key value:Int} {c:Nat} {s:Rn} (h:s.off=true):queryL N kind key value c s=((Rs.retry,[]),s):=by
 cases c with
 | zero=>rfl
 | succ c=>rw [queryL,if_pos h]
variable {N:Nat} {kind key value:Int} {c:Nat} {s t u:Rn} {k:Wk} {b:Bool}
theorem queryL_brk (h:s.off=false) (e:thrF N s (Wk.asked kind key value) 1=((b,k),t)) (h2:t.off=true):queryL N kind key value (c+1) s=((Rs.retry,[]),t):=by
 rw [queryL,if_neg (by rw [h];decide),e];dsimp only;rw [if_pos h2]
theorem queryL_same (h:s.off=false) (e:thrF N s (Wk.asked kind key value) 1=((b,k),t)) (h2:t.off=false) (e2:againL k.ss t=(true,u)):queryL N kind key value (c+1) s=((Rs.told kind k.ps,if kind=9 then k.ps else []),u):=by
 rw [queryL,if_neg (by rw [h];decide),e];dsimp only;rw [if_neg (by rw [h2];decide),e2];rfl
theorem queryL_other (h:s.off=false) (e:thrF N s (Wk.asked kind key value) 1=((b,k),t)) (h2:t.off=false) (e2:againL k.ss t=(false,u)):queryL N kind key value (c+1) s=queryL N kind key value c u:=by
 rw [queryL,if_neg (by rw [h];decide),e];dsimp only;rw [if_neg (by rw [h2];decide),e2];rfl
end Rn
theorem cells6 {U:World} {m:Nat} {a0 a1 a2 a3 a4 a5:Value} (h:U.heap[m]? = some (.cells #[a0,a1,a2,a3,a4,a5] 61)):U.cell? ⟨m,0,none⟩=some a0/\U.cell? ⟨m,1,none⟩=some a1/\U.cell? ⟨m,2,none⟩=some a2/\U.cell? ⟨m,3,none⟩=some a3/\U.cell? ⟨m,4,none⟩=some a4/\U.cell? ⟨m,5,none⟩=some a5/\∀ i,U.frozen? ⟨m,i,none⟩=false:=by
 simp [World.cell?,World.frozen?,h]
theorem put6 {U:World} {m:Nat} {a0 a1 a2 a3 a4 a5:Value} (h:U.heap[m]? = some (.cells #[a0,a1,a2,a3,a4,a5] 61)) (b0 b1 b2 b3 b4 b5:Value) :
  ((((((U.setCell ⟨m,0,none⟩ b0).setCell ⟨m,1,none⟩ b1).setCell ⟨m,2,none⟩ b2).setCell ⟨m,3,none⟩ b3).setCell ⟨m,4,none⟩ b4).setCell ⟨m,5,none⟩ b5).heap[m]? = some (.cells #[b0,b1,b2,b3,b4,b5] 61)/\
  Td (fun k=>k=m) U ((((((U.setCell ⟨m,0,none⟩ b0).setCell ⟨m,1,none⟩ b1).setCell ⟨m,2,none⟩ b2).setCell ⟨m,3,none⟩ b3).setCell ⟨m,4,none⟩ b4).setCell ⟨m,5,none⟩ b5):=by
 refine ⟨by simp [World.setCell,Array.getElem?_modify,h],?_⟩;exact (Td.setCell (R:=fun k=>k=m) _ _ _ rfl).trans ((Td.setCell (R:=fun k=>k=m) _ _ _ rfl).trans ((Td.setCell (R:=fun k=>k=m) _ _ _ rfl).trans ((Td.setCell (R:=fun k=>k=m) _ _ _ rfl).trans ((Td.setCell (R:=fun k=>k=m) _ _ _ rfl).trans (Td.setCell (R:=fun k=>k=m) _ _ _ rfl) (fun _ e=>e) (fun _ _ e=>e)) (fun _ e=>e) (fun _ _ e=>e)) (fun _ e=>e) (fun _ _ e=>e)) (fun _ e=>e) (fun _ _ e=>e)) (fun _ e=>e) (fun _ _ e=>e)
structure Ans (X:Nat->Prop) (W:World) (r:Nat) (s s':Rn) (l:Value) (L:List (Int × Int)) (W':World):Prop where
 went:Went X W r s s' W'
 row:PRow W' W.heap.size 59 l L
 len:L.length<=s.left
theorem Went.other {W W' W'':World} {r m:Nat} {s s':Rn} (h:Went X W r s s' W') (t:Td (fun k=>k=m) W' W'') (hm:¬ X m) (hw:W.heap.size<=m):Went X W r s s' W'':=
 ⟨⟨h.at.above t (fun k h1 h2=>hm (h2 ▸ h1)),h.turned.trans t (fun _ e=>e) (fun i hi e=>by omega)⟩,h.on,h.ok⟩
theorem Went.to {Y:Nat->Prop} {W W':World} {r:Nat} {s s':Rn} (h:Went X W r s s' W') (hY:∀ k,X k->Y k):Went Y W r s s' W':=⟨⟨h.at.to (fun k a _=>hY k a),h.turned⟩,h.on,h.ok⟩
set_option maxRecDepth 100000 in
set_option maxHeartbeats 4000000 in
theorem query_r (N:Nat) (W:World) (r:Nat) (s:Rn) (kind key value budget:Int) (h:RunAt X W r s) (ho:s.ok) (hX:∀ k,W.heap.size<=k->X k) (ik:I64 key) (iv:I64 value) (hbu:budget<=64) (hN:s.left < N) (hl:s.left<=16384) (x:Rs) (L:List (Int × Int)) (sE:Rn) (he:s.queryR N kind key value budget=((x,L),sE)) :
  Calls Tryz.prog 136 #[.pointer (some ⟨r,0,none⟩),.agg #[.int .i64 kind,.int .i64 key,.int .i64 value],.int .i64 budget] W fun e W'=>∃ l,e=.returned (.agg (x.cs l))/\Ans X W r s sE l L W':=by
 obtain ⟨V1,hV1⟩:∃ V,W.alloc (.cells #[.int .i64 kind,.int .i64 key,.int .i64 value] 52)=V:=⟨_,rfl⟩;obtain ⟨V2,hV2⟩:∃ V,V1.alloc (.cells #[.int .i64 0,.bool false,.int .i64 0,.int .i64 0,.int .i64 0,.slice none 0 0] 61)=V:=⟨_,rfl⟩;obtain ⟨mo,hmo⟩:∃ m,W.heap.size=m:=⟨_,rfl⟩;obtain ⟨m,hm⟩:∃ m,V1.heap.size=m:=⟨_,rfl⟩;have k1:Kept W V1:=by rw [<- hV1];exact Td.alloc _ _ _
 have k2:Kept V1 V2:=by rw [<- hV2];exact Td.alloc _ _ _
 have b1:V1.heap[mo]? = some (.cells #[.int .i64 kind,.int .i64 key,.int .i64 value] 52):=by rw [<- hV1,<- hmo];exact heap_new _ _
 have b1':V2.heap[mo]? = some (.cells #[.int .i64 kind,.int .i64 key,.int .i64 value] 52):=k2.heap b1 id;have b2:V2.heap[m]? = some (.cells #[.int .i64 0,.bool false,.int .i64 0,.int .i64 0,.int .i64 0,.slice none 0 0] 61):=by rw [<- hV2,<- hm];exact heap_new _ _
 have s1:m=mo+1:=by rw [<- hm,<- hV1,<- hmo];simp
 have s2:V2.heap.size=m+1:=by rw [<- hV2,<- hm];simp
 have hlt:=h.lt;have c0:V2.cell? ⟨mo,0,none⟩=some (.int .i64 kind):=by simp [World.cell?,b1']
 have c1:V2.cell? ⟨mo,1,none⟩=some (.int .i64 key):=by simp [World.cell?,b1']
 have c2:V2.cell? ⟨mo,2,none⟩=some (.int .i64 value):=by simp [World.cell?,b1']
 have KV:=gh (k1.trans k2);have HRM:Hid (r < mo/\m=mo+1/\W.heap.size=mo/\V2.heap.size=m+1):=gh ⟨by omega,by omega,hmo,s2⟩;have B1:=gh b1';have B2:=gh b2;obtain ⟨Y,hYd⟩:∃ Y:Nat->Prop,Y=fun k=>X k/\k≠m:=⟨_,rfl⟩;have HYX:Hid (∀ k,Y k->X k):=gh (by rw [hYd];exact fun k h=>h.1);have HYM:Hid (¬ Y m):=gh (by rw [hYd];exact fun h=>h.2 rfl);have H:Hid (RunAt Y V2 r s):=gh ((h.to (Y:=Y) (by rw [hYd];exact fun k a b=>⟨a,by omega⟩)).kept (k1.trans k2));have HY:Hid (∀ k,V2.heap.size<=k->Y k):=gh (by rw [hYd];exact fun k h=>⟨hX k (by omega),by omega⟩);have OK:=gh ho;have IK:=gh ik;have IV:=gh iv;have HN:=gh hN;have HL:=gh hl;unfold Rn.queryR at he;have KEEP:∀ U:World,Td (fun k=>k=r) V2 U->U.heap[mo]? = some (.cells #[.int .i64 kind,.int .i64 key,.int .i64 value] 52)/\U.heap[m]? = some (.cells #[.int .i64 0,.bool false,.int .i64 0,.int .i64 0,.int .i64 0,.slice none 0 0] 61):=fun U t=>
  ⟨t.heap B1.o (fun e=>by have:=HRM.o;omega),t.heap B2.o (fun e=>by have:=HRM.o;omega)⟩
 have HKEEP:=gh KEEP;have FIN:∀ (U U':World) (t:Rn) (l:Value),Went Y V2 r s t U->Td (fun k=>k=m) U U'->PRow U' W.heap.size 59 l L->L.length<=s.left->Ans X W r s t l L U':=by
  intro U U' t l hm ht hp hl;exact ⟨((hm.behind KV.o).other ht HYM.o (by have:=HRM.o;omega)).to HYX.o,hp,hl⟩
 have HFIN:=gh FIN;have NIL:∀ U:World,PRow U W.heap.size 59 (.slice none 0 0) []:=fun U=>PRow.nil _ _ _;have HNIL:=gh NIL;clear h ho hX ik iv hN hl k1 k2 b1 b1' b2 s1 s2 hlt hYd KEEP FIN NIL
 by_cases k4:kind=4
 ·subst k4;rw [if_pos rfl] at he;obtain ⟨z,b,t,hz⟩:∃ z b t,s.seek key=((z,b),t):=⟨_,_,_,rfl⟩;rw [hz] at he;dsimp only at he;have HE:=gh he;have HZ:=gh hz;have ON:Hid (Rn.On s t):=gh (by have:=Rn.seek_on s key;rw [HZ.o] at this;exact this);clear he hz;go_enter Tryz.func136,Tryz.ntmps136;go_wp2_with (fail);clear hV1 hV2;refine (seek_r V2 r s key H.o OK.o IK.o z b t HZ.o).mono ?_;rintro e U ⟨rfl,R⟩;have G:Hid (Went Y V2 r s t U):=gh ⟨R,ON.o,ON.o.ok OK.o⟩;obtain ⟨u1,u2⟩:=HKEEP.o U R.2;have U2:=gh u2;obtain ⟨d0,d1,d2,d3,d4,d5,df⟩:=cells6 u2;have f0:=df 0;have f1:=df 1;have f2:=df 2;have f3:=df 3;have f4:=df 4;have f5:=df 5;have e1:U.cell? ⟨mo,1,none⟩=some (.int .i64 key):=by simp [World.cell?,u1]
  clear R u1 u2 df c0 c1 c2;cases b with
  | false=>
   have hz:=HE.o;rw [if_neg (by decide)] at hz;obtain ⟨hz1,rfl⟩:=Prod.mk.inj hz;obtain ⟨rfl,rfl⟩:=Prod.mk.inj hz1;clear hz hz1 HE;go_wp2;refine bodyPost_ret (results_cell_row rfl _ _ m 61 _ _ _ rfl (put6 U2.o _ _ _ _ _ _).1 Tryz.underlying61 rfl info61) rfl ?_;exact ⟨_,rfl,HFIN.o U _ t _ G.o (put6 U2.o _ _ _ _ _ _).2 (HNIL.o _) (by simp)⟩
  | true=>
   have hz:=HE.o;rw [if_pos rfl] at hz;obtain ⟨hz1,rfl⟩:=Prod.mk.inj hz;obtain ⟨rfl,rfl⟩:=Prod.mk.inj hz1;clear hz hz1 HE;go_wp2;refine bodyPost_ret (results_cell_row rfl _ _ m 61 _ _ _ rfl (put6 U2.o _ _ _ _ _ _).1 Tryz.underlying61 rfl info61) rfl ?_;exact ⟨_,rfl,HFIN.o U _ t _ G.o (put6 U2.o _ _ _ _ _ _).2 (HNIL.o _) (by simp)⟩
 ·have g4:(kind == 4)=false:=by simp [k4]
  rw [if_neg k4] at he;have HE:=gh he;clear he;go_enter Tryz.func136,Tryz.ntmps136;go_wp2_with (fail);clear hV1 hV2
  go_loopw [9,10] (fun vi _ wr=>∃ (i:Int) (t:Rn),vi=.int .i64 i/\0<=i/\i<=9223372036854775807/\Went Y V2 r s t wr/\Rn.queryL N kind key value (budget - i).toNat t=((x,L),sE)) (fun vi _ _=>(budget - intOf vi).toNat)
  case atStart=>exact ⟨0,s,rfl,by omega,by omega,Went.refl H.o OK.o,by simpa using HE.o⟩
  case round=>
   obtain ⟨i,t,rfl,i0,i1,hG,hq⟩:=hrel;have G:=gh hG;have HQQ:=gh hq;have cf:=hG.at.offs;clear hG hq
   by_cases hib:i < budget
   ·cases hof:t.off with
    | true=>
     rw [hof] at cf;have hz:=HQQ.o;rw [Rn.queryL_off hof] at hz;obtain ⟨hz1,rfl⟩:=Prod.mk.inj hz;obtain ⟨rfl,rfl⟩:=Prod.mk.inj hz1;clear hz hz1 HQQ;obtain ⟨u1,u2⟩:=HKEEP.o wr G.o.turned;have U2:=gh u2;obtain ⟨d0,d1,d2,d3,d4,d5,df⟩:=cells6 u2;have f0:=df 0;have f1:=df 1;have f2:=df 2;have f3:=df 3;have f4:=df 4;have f5:=df 5;clear u1 u2 df hof;go_wp2;refine bodyPost_ret (results_cell_row rfl _ _ m 61 _ _ _ rfl (put6 U2.o _ _ _ _ _ _).1 Tryz.underlying61 rfl info61) rfl ?_;exact ⟨_,rfl,HFIN.o wr _ t _ G.o (put6 U2.o _ _ _ _ _ _).2 (HNIL.o _) (by simp)⟩
    | false=>
     rw [hof] at cf;have HOF:=gh hof;obtain ⟨c,hc⟩:∃ c,(budget - (i+1)).toNat=c:=⟨_,rfl⟩;have HC:Hid ((budget - i).toNat=c+1):=gh (by omega);have HC':=gh hc;obtain ⟨b,k,t2,hth⟩:∃ b k t2,Rn.thrF N t (Wk.asked kind key value) 1=((b,k),t2):=⟨_,_,_,rfl⟩;have HTH:=gh hth;obtain ⟨u1,u2⟩:=HKEEP.o wr G.o.turned;have e0:wr.cell? ⟨mo,0,none⟩=some (.int .i64 kind):=by simp [World.cell?,u1]
     have e1:wr.cell? ⟨mo,1,none⟩=some (.int .i64 key):=by simp [World.cell?,u1]
     have e2:wr.cell? ⟨mo,2,none⟩=some (.int .i64 value):=by simp [World.cell?,u1]
     have HWS:Hid (V2.heap.size<=wr.heap.size):=gh G.o.turned.size;clear hof hc hth u1 u2;go_wp2_with (fail);refine (asked_r wr kind key value).mono ?_;rintro e w1 ⟨xx,rfl,hwk,kA⟩;have HWK:=gh hwk;have KA:=gh kA;have HBD:Hid (I64 (Wk.asked kind key value).lo/\I64 (Wk.asked kind key value).hi):=gh (by
      have:=IK.o
      have:=IV.o
      constructor
      ·show I64 (if kind=6∨kind=9∨kind=10 then key else -9223372036854775808)
       split
       ·assumption
       ·exact ⟨by decide,by decide⟩
      ·show I64 (if kind=5 then key else if kind=9∨kind=10 then value else 9223372036854775807)
       split
       ·assumption
       ·split
        ·assumption
        ·exact ⟨by decide,by decide⟩)
     clear hwk kA e0 e1 e2;go_wp2_with (fail);refine (through_r (X:=fun k=>Y k/\k < wr.heap.size) (lo:=wr.heap.size) (fun k h=>h.2) r xx N w1 t 1 (Wk.asked kind key value) (by have:=G.o.on.left;have:=HN.o;omega) ((G.o.at.to (fun k a b=>⟨a,b⟩)).kept KA.o) G.o.ok HBD.o HWK.o KA.o.size (by have:=G.o.on.left;have:=HL.o;simp [Wk.asked];omega) (by have:=G.o.on.left;have:=HL.o;simp [Wk.asked];omega) b k t2 HTH.o).mono ?_;rintro e W3 ⟨rfl,L3⟩;have GT:Went Y wr r t t2 W3:=⟨⟨L3.gath.lies.to (fun k h _=>h.1),(KA.o.then L3.gath.turned).mono (fun k hk e=>e.elim id (fun e=>by omega))⟩,L3.gath.on,L3.gath.ok⟩;have G3:=gh (G.o.trans GT);have LW:=gh L3;have cf3:=G3.o.at.offs;clear L3 GT;cases hof3:t2.off with
     | true=>
      rw [hof3] at cf3;have hz:=HQQ.o;rw [HC.o,Rn.queryL_brk HOF.o HTH.o hof3] at hz;obtain ⟨hz1,rfl⟩:=Prod.mk.inj hz;obtain ⟨rfl,rfl⟩:=Prod.mk.inj hz1;clear hz hz1 HQQ;obtain ⟨u1,u2⟩:=HKEEP.o W3 G3.o.turned;have U2:=gh u2;obtain ⟨d0,d1,d2,d3,d4,d5,df⟩:=cells6 u2;have f0:=df 0;have f1:=df 1;have f2:=df 2;have f3:=df 3;have f4:=df 4;have f5:=df 5;clear u1 u2 df hof3;go_wp2;refine bodyPost_ret (results_cell_row rfl _ _ m 61 _ _ _ rfl (put6 U2.o _ _ _ _ _ _).1 Tryz.underlying61 rfl info61) rfl ?_;exact ⟨_,rfl,HFIN.o W3 _ t2 _ G3.o (put6 U2.o _ _ _ _ _ _).2 (HNIL.o _) (by simp)⟩
     | false=>
      rw [hof3] at cf3;have HOF3:=gh hof3;obtain ⟨vp,vs,WI⟩:=LW.o.walk;obtain ⟨sa,sc,hvs,srd,sle,_,_,sbl⟩:=WI.srow.reads;obtain ⟨M,hM⟩:∃ M,k.ss.length=M:=⟨_,rfl⟩;rw [hM] at hvs sle;subst hvs;obtain ⟨pa,pc,hvp,prd,ple,_,_,pbl⟩:=WI.prow.reads;obtain ⟨Q,hQ⟩:∃ Q,k.ps.length=Q:=⟨_,rfl⟩;rw [hQ] at hvp ple;subst hvp;have HWI:=gh WI;have c6:=WI.cells.2.2.2.2.2.2.1;obtain ⟨bb,t3,hag⟩:∃ bb t3,Rn.againL k.ss t2=(bb,t3):=⟨_,_,rfl⟩;have HAG:=gh hag;have HSL:Hid (M<=1000000/\Q<=1000000/\Q<=s.left):=gh (by
       have h1:=LW.o.plen;have h2:=LW.o.slen;have h3:=G.o.on.left;have h4:=HL.o;simp [Wk.asked] at h1 h2;omega)
      have SRD:=gh srd;have PRD:=gh prd;have HSB:Hid (∀ ad,sa=some ad->ad.block≠r):=gh (fun ad e=>by have:=sbl ad e;have:=HRM.o;have:=HWS.o;omega);have HPB:Hid (∀ ad,pa=some ad->ad.block≠r/\ad.block≠m):=gh (fun ad e=>by have:=pbl ad e;have:=HRM.o;have:=HWS.o;omega);have HM:=gh hM;have HQ:=gh hQ;have HXX:Hid (xx≠r/\xx≠m/\wr.heap.size<=xx):=gh (by have:=WI.le;have:=HRM.o;have:=HWS.o;omega);clear hof3 WI srd sbl prd pbl hM hQ hag;go_wp2_with (fail);refine (again_r W3 r t2 sa M sc k.ss G3.o.at G3.o.ok SRD.o HM.o sle HSL.o.1 HSB.o bb t3 HAG.o).mono ?_;rintro e W4 ⟨rfl,G4'⟩;have G4:=gh (G3.o.trans G4');have HWI4:=gh (HWI.o.turned G4'.turned (fun j e=>by rw [e];have:=HRM.o;have:=HWS.o;omega));have PRD4:=gh (PRD.o.turned G4'.turned (fun k _ ⟨ad,e,e'⟩ hk=>(HPB.o ad e).1 (by rw [e',hk])));clear G4' c6;cases bb with
      | false=>
       go_wp2;refine ⟨⟨i+1,t3,rfl,by omega,by omega,G4.o,?_⟩,by simp [intOf];omega⟩;have hz:=HQQ.o;rw [HC.o,Rn.queryL_other HOF.o HTH.o HOF3.o HAG.o] at hz;rw [HC'.o];exact hz
      | true=>
       have hz:=HQQ.o;rw [HC.o,Rn.queryL_same HOF.o HTH.o HOF3.o HAG.o] at hz;obtain ⟨hz1,rfl⟩:=Prod.mk.inj hz;obtain ⟨hx,hL⟩:=Prod.mk.inj hz1;have HLE:=gh hL;obtain ⟨t0,t1,t2',t3',t4⟩:=x;obtain ⟨la,lm,lcc,hlv⟩:∃ la lm lc,(if kind=9 then Value.slice pa Q pc else .slice none 0 0)=.slice la lm lc:=by split <;> exact ⟨_,_,_,rfl⟩
       obtain ⟨V,hV⟩:∃ V,W4.drew=V:=⟨_,rfl⟩;have kV:Kept W4 V:=by rw [<- hV];exact Kept.drew _
       obtain ⟨u1,u2⟩:=HKEEP.o V (Kept.behind G4.o.turned kV);have HV2:=gh u2;have GV:=gh (⟨⟨G4.o.at.kept kV,Kept.behind G4.o.turned kV⟩,G4.o.on,G4.o.ok⟩:Went Y V2 r s t3 V);have WV:=gh (HWI4.o.kept kV);have PV:=gh (PRD4.o.kept kV);have hmo':mo≠m:=by have:=HRM.o;omega
       have c5:=WV.o.cells.2.2.2.2.2.1;have x0:∀ u:Wd (fun U=>Td (fun k=>k=m) V U),u.w.cell? ⟨mo,0,none⟩=some (.int .i64 kind):=fun u=>u.ok.cell (by simp [World.cell?,u1]) hmo';have x1:∀ u:Wd (fun U=>Td (fun k=>k=m) V U),u.w.cell? ⟨mo,1,none⟩=some (.int .i64 key):=fun u=>u.ok.cell (by simp [World.cell?,u1]) hmo';have x2:∀ u:Wd (fun U=>Td (fun k=>k=m) V U),u.w.cell? ⟨mo,2,none⟩=some (.int .i64 value):=fun u=>u.ok.cell (by simp [World.cell?,u1]) hmo';have x5:∀ u:Wd (fun U=>Td (fun k=>k=m) V U),u.w.cell? ⟨xx,5,none⟩=some (.slice pa Q pc):=fun u=>u.ok.cell c5 HXX.o.2.1;have HV:=gh hV;have KV4:=gh kV;have CT:Hid (Calls Tryz.prog 165 #[.agg #[.int .i64 kind,.int .i64 key,.int .i64 value],.slice pa Q pc] V fun e w'=>e=.returned (.agg #[.int .i64 t0,.bool t1,.int .i64 t2',.int .i64 t3',.int .i64 t4,.slice la lm lcc])/\Kept V w'):=gh (by
        have h:=told_r V kind key value pa Q pc k.ps PV.o HQ.o ple HSL.o.2.1;rw [hx,hlv] at h;exact h)
       have HLV:=gh hlv;clear hz hz1 HQQ hx hL hV kV u1 u2 c5 hmo' hlv;go_wp2_with (fail);refine region_wide [0,1,2,3,4,5,6] (fun U=>Td (fun k=>k=m) V U) (by kernel_rfl) (by kernel_rfl) (by rw [HV.o];exact Td.refl _ _) (fun _=>?_);rw [HV.o]
       repeat (refine pq rfl rfl ?_;go_big_quiet_step (fail);refine wpQuiet_nil ?_)
       refine pl rfl rfl ?_;gi_wp2_with (fail);refine ⟨trivial,?_⟩;refine (callsIn_wide.2 CT.o).mono ?_;rintro e U ⟨rfl,kU⟩;have KU:=gh kU;have u2:=kU.heap HV2.o id;have U2:=gh u2;obtain ⟨d0,d1,d2,d3,d4,d5,df⟩:=cells6 u2;have f0:=df 0;have f1:=df 1;have f2:=df 2;have f3:=df 3;have f4:=df 4;have f5:=df 5;clear kU u2 df;gi_wp2_with (fail);refine ⟨Wd.mem (KU.o.mono fun _ _ e=>e.elim),?_⟩;refine pl rfl rfl ?_;gi_wp2_with (fail);refine ⟨Wd.mem (KU.o.then (put6 U2.o _ _ _ _ _ _).2),?_⟩;refine perm_done ?_;clear x0 x1 x2 x5;go_wp2;refine bodyPost_ret (results_cell_row rfl _ _ m 61 _ _ _ rfl (put6 U2.o _ _ _ _ _ _).1 Tryz.underlying61 rfl info61) rfl ?_;have GU:Went Y V2 r s t3 U:=⟨⟨GV.o.at.kept KU.o,Kept.behind GV.o.turned KU.o⟩,GV.o.on,GV.o.ok⟩;refine ⟨_,rfl,HFIN.o U _ t3 _ GU (put6 U2.o _ _ _ _ _ _).2 ?_ ?_⟩
       ·rw [<- HLE.o]
        have:=HLV.o
        split at this
        ·rename_i k9;rw [if_pos k9,<- this];refine PRow.low (((WV.o.prow.kept KU.o).turned (put6 U2.o _ _ _ _ _ _).2 (fun g e e'=>?_))) (by have:=HRM.o;have:=HWS.o;omega)
         have:=WV.o.prow.from g e
         have:=HRM.o
         have:=HWS.o
         omega
        ·rename_i k9;rw [if_neg k9,<- this];exact HNIL.o _
       ·rw [<- HLE.o]
        split
        ·have:=HSL.o;have:=HQ.o;omega
        ·simp
   ·have q1:¬ (i < budget):=hib;have hz:=HQQ.o;rw [show (budget - i).toNat=0 by omega] at hz;obtain ⟨hz1,rfl⟩:=Prod.mk.inj hz;obtain ⟨rfl,rfl⟩:=Prod.mk.inj hz1;clear hz hz1 HQQ;obtain ⟨u1,u2⟩:=HKEEP.o wr G.o.turned;have U2:=gh u2;obtain ⟨d0,d1,d2,d3,d4,d5,df⟩:=cells6 u2;have f0:=df 0;have f1:=df 1;have f2:=df 2;have f3:=df 3;have f4:=df 4;have f5:=df 5;clear u1 u2 df;go_wp2;refine bodyPost_ret (results_cell_row rfl _ _ m 61 _ _ _ rfl (put6 U2.o _ _ _ _ _ _).1 Tryz.underlying61 rfl info61) rfl ?_;exact ⟨_,rfl,HFIN.o wr _ t _ G.o (put6 U2.o _ _ _ _ _ _).2 (HNIL.o _) (by simp)⟩
end
section
open Go.Shelf
variable {X:Nat->Prop} {lo:Nat}
namespace Rn
def layB (N:Nat) (s:Rn) (kind key value n sl w q:Int) (res:Rs) (leaf found:Bool) (path:List En):(Rs × Bool) × Rn:=
 if s.off=true∨(kind=1/\found=true)∨(kind=3/\found=false) then ((res,true),s)
 else
  let x:=s.freshR kind key value w q leaf found
  if x.1.2=false then ((Rs.nomem,true),x.2)
  else
   let o:=({ x.2 with rc:=0 }:Rn).dcss (wrap64 (n+2)) sl w x.1.1
   let s1:Rn:=if 0 < o.2.rc then { o.2 with ld:=o.2.rc } else o.2
   if o.1=3 then ((Rs.nomem,true),s1)
   else ((res,decide (o.1=1)),if o.1=1/\(kind≠2∨found=false) then tallyR N s1 path else s1)
def layR (N:Nat) (s:Rn) (kind key value n sl w:Int) (path:List En):(Rs × Bool) × Rn:=
 if kd w=2 then
  let q:=s.read (ad w)
  if q.1=key then
   let v:=q.2.read (ad w+1)
   layB N v.2 kind key value n sl w q.1 ⟨0,true,q.1,v.1,0⟩ true true path
  else layB N q.2 kind key value n sl w q.1 Rs.none true false path
 else layB N s kind key value n sl w 0 Rs.none false false path
end Rn
theorem RunAt.notes {W:World} {r:Nat} {s:Rn} (h:RunAt X W r s):W.cell? ⟨r,8,none⟩=some (.int .i64 s.rc)/\W.cell? ⟨r,9,none⟩=some (.int .i64 s.ld)/\∀ i,W.frozen? ⟨r,i,none⟩=false:=by
 obtain ⟨ta,tc,wa,wc,h⟩:=h;exact ⟨h.cells.2.2.2.1,h.cells.2.2.2.2.1,h.cells.2.2.2.2.2⟩
theorem RunAt.rc {W:World} {r:Nat} {s:Rn} (h:RunAt X W r s) (x:Int):Ran X W r { s with rc:=x } (W.setCell ⟨r,8,none⟩ (.int .i64 x)):=(Ran.refl h).record x
theorem RunAt.ld {W:World} {r:Nat} {s:Rn} (h:RunAt X W r s) (x:Int):Ran X W r { s with ld:=x } (W.setCell ⟨r,9,none⟩ (.int .i64 x)):=by
 obtain ⟨ta,tc,wa,wc,h1⟩:=h;have t:Td (fun k=>k=r) W (W.setCell ⟨r,9,none⟩ (.int .i64 x)):=Td.setCell (R:=fun k=>k=r) _ _ _ rfl;refine ⟨⟨ta,tc,wa,wc,h1.put t ?_ rfl h1.at_le (h1.next.turned t)⟩,t⟩;have hb:=h1.box;simp [World.setCell,Array.getElem?_modify,hb,runCells]
theorem Rn.rc_on (s:Rn) (x:Int):Rn.On s { s with rc:=x }:=⟨rfl,Nat.le_refl _⟩
theorem Rn.ld_on (s:Rn) (x:Int):Rn.On s { s with ld:=x }:=⟨rfl,Nat.le_refl _⟩
structure Lm (U:World) (mo:Nat) (kind key value:Int) (res:Rs):Prop where
 op:U.heap[mo]? = some (.cells #[.int .i64 kind,.int .i64 key,.int .i64 value] 52)
 rs:U.heap[mo+1]? = some (.cells #[.int .i64 0,.bool false,.int .i64 0,.int .i64 0,.int .i64 0,.slice none 0 0] 61)
 re:U.heap[mo+2]? = some (.cells #[.int .i64 res.why,.bool res.found,.int .i64 res.key,.int .i64 res.val,.int .i64 res.n,.slice none 0 0] 61)
theorem Lm.cells {U:World} {mo:Nat} {kind key value:Int} {res:Rs} (h:Lm U mo kind key value res):(U.cell? ⟨mo,0,none⟩=some (.int .i64 kind)/\U.cell? ⟨mo,1,none⟩=some (.int .i64 key)/\U.cell? ⟨mo,2,none⟩=some (.int .i64 value))/\(U.cell? ⟨mo+1,0,none⟩=some (.int .i64 0)/\U.cell? ⟨mo+1,1,none⟩=some (.bool false)/\U.cell? ⟨mo+1,2,none⟩=some (.int .i64 0)/\U.cell? ⟨mo+1,3,none⟩=some (.int .i64 0)/\U.cell? ⟨mo+1,4,none⟩=some (.int .i64 0)/\U.cell? ⟨mo+1,5,none⟩=some (.slice none 0 0))/\(U.cell? ⟨mo+2,0,none⟩=some (.int .i64 res.why)/\U.cell? ⟨mo+2,1,none⟩=some (.bool res.found)/\U.cell? ⟨mo+2,2,none⟩=some (.int .i64 res.key)/\U.cell? ⟨mo+2,3,none⟩=some (.int .i64 res.val)/\U.cell? ⟨mo+2,4,none⟩=some (.int .i64 res.n)/\U.cell? ⟨mo+2,5,none⟩=some (.slice none 0 0))/\U.frozen? ⟨mo+1,0,none⟩=false/\U.frozen? ⟨mo+1,1,none⟩=false/\U.frozen? ⟨mo+1,2,none⟩=false/\U.frozen? ⟨mo+1,3,none⟩=false/\U.frozen? ⟨mo+1,4,none⟩=false/\U.frozen? ⟨mo+1,5,none⟩=false:=by
 obtain ⟨h1,h2,h3⟩:=h;simp [World.cell?,World.frozen?,h1,h2,h3]
structure Lay (X Y:Nat->Prop) (W U:World) (r mo:Nat) (s t:Rn) (kind key value:Int) (res:Rs) (la:Option Addr) (es:List En):Prop where
 went:Went Y W r s t U
 lm:Lm U mo kind key value res
 new:∀ k,U.heap.size<=k->Y k
 reads:EReads U la es
 side:r < mo/\W.heap.size<=mo/\¬ Y (mo+1)/\¬ Y (mo+2)/\(∀ k,Y k->X k)/\∀ ad,la=some ad->ad.block≠r/\ad.block < mo
theorem Lay.step {Y:Nat->Prop} {W U U':World} {r mo:Nat} {s t t':Rn} {kind key value:Int} {res:Rs} {la:Option Addr} {es:List En} (h:Lay X Y W U r mo s t kind key value res la es) (g:Went Y U r t t' U'):Lay X Y W U' r mo s t' kind key value res la es:=by
 obtain ⟨h1,⟨h2,h3,h4⟩,h5,h6,h7⟩:=h;have T:=g.turned;refine ⟨h1.trans g,⟨T.heap h2 (fun e=>by omega),T.heap h3 (fun e=>by omega),T.heap h4 (fun e=>by omega)⟩,fun k hk=>h5 k (Nat.le_trans T.size hk),h6.turned T (fun k _ ⟨ad,e,e'⟩ hk=>(h7.2.2.2.2.2 ad e).1 (by rw [e',hk])),h7⟩
theorem Lay.kept {Y:Nat->Prop} {W U U':World} {r mo:Nat} {s t:Rn} {kind key value:Int} {res:Rs} {la:Option Addr} {es:List En} (h:Lay X Y W U r mo s t kind key value res la es) (k:Kept U U'):Lay X Y W U' r mo s t kind key value res la es:=
 h.step ⟨⟨h.went.at.kept k,k.mono fun _ _ e=>e.elim⟩,Rn.On.refl _,h.went.ok⟩
theorem Lay.found {Y:Nat->Prop} {W U U':World} {r mo:Nat} {s t:Rn} {kind key value:Int} {res res':Rs} {la:Option Addr} {es:List En} (h:Lay X Y W U r mo s t kind key value res la es) (T:Td (fun k=>k=mo+2) U U') (hb:U'.heap[mo+2]? = some (.cells #[.int .i64 res'.why,.bool res'.found,.int .i64 res'.key,.int .i64 res'.val,.int .i64 res'.n,.slice none 0 0] 61)):Lay X Y W U' r mo s t kind key value res' la es:=by
 obtain ⟨h1,⟨h2,h3,_⟩,h5,h6,h7⟩:=h;refine ⟨h1.other T h7.2.2.2.1 (by omega),⟨T.heap h2 (fun e=>by omega),T.heap h3 (fun e=>by omega),hb⟩,fun k hk=>h5 k (Nat.le_trans T.size hk),h6.turned T (fun k _ ⟨ad,e,e'⟩ hk=>by have:=(h7.2.2.2.2.2 ad e).2;omega),h7⟩
theorem Lay.fin {Y:Nat->Prop} {W U U':World} {r mo:Nat} {s t:Rn} {kind key value:Int} {res:Rs} {la:Option Addr} {es:List En} (h:Lay X Y W U r mo s t kind key value res la es) (T:Td (fun k=>k=mo+1) U U'):Went X W r s t U':=
 (h.went.other T h.side.2.2.1 (by have:=h.side.2.1;omega)).to h.side.2.2.2.2.1
set_option maxRecDepth 100000 in
set_option maxHeartbeats 4000000 in
theorem lay_r (N:Nat) (W:World) (r:Nat) (s:Rn) (kind key value n sl w:Int) (la:Option Addr) (L lc:Nat) (es:List En) (h:RunAt X W r s) (ho:s.ok) (hX:∀ k,W.heap.size<=k->X k) (iw:I64 w) (hr:EReads W la es) (hwd:∀ e ∈ es,I64 e.wd) (hL:es.length=L) (hc:L<=lc) (hm:L<=1000000) (hb:∀ ad,la=some ad->ad.block≠r/\ad.block < W.heap.size) (hN:s.left < N) (hl:s.left<=16384) (x:Rs) (bE:Bool) (sE:Rn) (he:s.layR N kind key value n sl w es=((x,bE),sE)) :
  Calls Tryz.prog 174 #[.pointer (some ⟨r,0,none⟩),.agg #[.int .i64 kind,.int .i64 key,.int .i64 value],.int .i64 n,.int .i64 sl,.int .i64 w,.slice la L lc] W fun e W'=>e=.returned (.tuple #[.agg (x.cs (.slice none 0 0)),.bool bE])/\Went X W r s sE W':=by
 obtain ⟨V,hV⟩:∃ V,((W.alloc (.cells #[.int .i64 kind,.int .i64 key,.int .i64 value] 52)).alloc (.cells #[.int .i64 0,.bool false,.int .i64 0,.int .i64 0,.int .i64 0,.slice none 0 0] 61)).alloc (.cells #[.int .i64 0,.bool false,.int .i64 0,.int .i64 0,.int .i64 0,.slice none 0 0] 61)=V:=⟨_,rfl⟩;obtain ⟨mo,hmo⟩:∃ m,W.heap.size=m:=⟨_,rfl⟩;have k1:Kept W V:=by rw [<- hV];exact ((Kept.alloc (Kept.refl W) _).alloc _).alloc _
 have b0:V.heap[mo]? = some (.cells #[.int .i64 kind,.int .i64 key,.int .i64 value] 52):=by
  rw [<- hV,<- hmo];exact ((Td.alloc (fun _=>False) (W.alloc _) _).trans (Td.alloc (fun _=>False) _ _) (fun _ e=>e) (fun _ _ e=>e)).heap (heap_new _ _) id
 have b1:V.heap[mo+1]? = some (.cells #[.int .i64 0,.bool false,.int .i64 0,.int .i64 0,.int .i64 0,.slice none 0 0] 61):=by
  rw [<- hV,<- hmo];exact (Td.alloc (fun _=>False) _ _).heap (heap_alloc2_new _ _ _) id
 have b2:V.heap[mo+2]? = some (.cells #[.int .i64 0,.bool false,.int .i64 0,.int .i64 0,.int .i64 0,.slice none 0 0] 61):=by
  rw [<- hV,<- hmo]
  have:=heap_alloc2_new (W.alloc (.cells #[.int .i64 kind,.int .i64 key,.int .i64 value] 52)) (.cells #[.int .i64 0,.bool false,.int .i64 0,.int .i64 0,.int .i64 0,.slice none 0 0] 61) (.cells #[.int .i64 0,.bool false,.int .i64 0,.int .i64 0,.int .i64 0,.slice none 0 0] 61)
  simpa using this
 have s2:V.heap.size=mo+3:=by rw [<- hV,<- hmo];simp
 have hlt:=h.lt;obtain ⟨Y,hYd⟩:∃ Y:Nat->Prop,Y=fun k=>X k/\k≠mo+1/\k≠mo+2:=⟨_,rfl⟩;have H:Hid (Lay X Y W V r mo s s kind key value Rs.none la es):=gh ⟨(Went.refl ((h.to (Y:=Y) (by rw [hYd];exact fun k a b=>⟨a,by omega,by omega⟩)).kept k1) ho).behind k1,⟨b0,b1,b2⟩,by rw [hYd];exact fun k h=>⟨hX k (by omega),by omega,by omega⟩,hr.kept k1,
  by omega,by omega,by rw [hYd];exact fun h=>h.2.1 rfl,by rw [hYd];exact fun h=>h.2.2 rfl,by rw [hYd];exact fun k h=>h.1,by rw [<- hmo];exact hb⟩
 have HV:=gh hV;have IW:=gh iw;have HWD:=gh hwd;have HLL:=gh hL;have HN:=gh hN;have HL:=gh hl;clear h ho hX iw hr hwd hL hb hN hl k1 b0 b1 b2 s2 hlt hYd hV;unfold Rn.layR at he;obtain ⟨kk,hkk⟩:∃ kk,kd w=kk:=⟨_,rfl⟩;obtain ⟨p,hpp⟩:∃ p,ad w=p:=⟨_,rfl⟩;have kr:=ad_range w;rw [hpp] at kr;obtain ⟨p0,p1⟩:=kr;rw [hkk,hpp] at he;have HE:=gh he;have HK:=gh hkk;have HPP:=gh hpp;obtain ⟨leaf,hleaf⟩:∃ b,(kk == 2)=b:=⟨_,rfl⟩;clear he hkk hpp;go_enter Tryz.func174,Tryz.ntmps174;go_wp2_with (fail);rw [HV.o];refine (kk_d _ w kk IW.o HK.o).mono ?_;rintro e w' ⟨rfl,rfl⟩
 go_upto_if 24 with (fail)
 go_cut [14] (fun c wx=>∃ (t:Rn) (q:Int) (res:Rs),c=.int .i64 q/\Hid (Rn.layB N t kind key value n sl w q res leaf res.found es=((x,bE),sE)/\Lay X Y W wx r mo s t kind key value res la es))
 case first=>
  have hz:=HE.o;cases leaf with
  | false=>
   rw [if_neg (by simpa using hleaf)] at hz;have HZ:=gh hz;clear hz hleaf HE;go_wp2_with (fail)
   go_meet
   exact ⟨s,0,Rs.none,rfl,HZ.o,H.o⟩
  | true=>
   rw [if_pos (by simpa using hleaf)] at hz;obtain ⟨q,s1,hq⟩:∃ q s1,s.read p=(q,s1):=⟨_,_,rfl⟩;rw [hq] at hz;dsimp only at hz;have HZ:=gh hz;have HQ:=gh hq;clear hz hq HE hleaf;go_wp2_with (fail);refine (ak_d _ w p IW.o HPP.o).mono ?_;rintro e w' ⟨rfl,rfl⟩;go_wp2_with (fail);refine (read_r _ r s p H.o.went.at q s1 HQ.o).mono ?_;rintro e U ⟨rfl,R1⟩;have G:=gh (H.o.step (R1.went_read H.o.went.ok HQ.o));clear R1 H;obtain ⟨⟨_,o1,_⟩,_⟩:=G.o.lm.cells
   by_cases qk:q=key
   ·obtain ⟨v,s2,hv⟩:∃ v s2,s1.read (p+1)=(v,s2):=⟨_,_,rfl⟩;have hz:=HZ.o;rw [if_pos qk,hv] at hz;have HLB:=gh hz;have HVV:=gh hv;have g1:(q == key)=true:=by simp [qk]
    clear hz hv HZ qk;go_wp2_with (fail);refine (ak_d _ w p IW.o HPP.o).mono ?_;rintro e w' ⟨rfl,rfl⟩;go_wp2_with (fail);refine (read_r _ r s1 (p+1) G.o.went.at v s2 HVV.o).mono ?_;rintro e U' ⟨rfl,R2⟩;have G2:=gh (G.o.step (R2.went_read G.o.went.ok HVV.o));clear R2 G o1;have F2:=G2.o.lm.re;obtain ⟨e0,e1,e2,e3,e4,e5,ef⟩:=cells6 F2;have f0:=ef 0;have f1:=ef 1;have f2:=ef 2;have f3:=ef 3;have f4:=ef 4;have f5:=ef 5;have HF2:=gh F2;clear ef F2;go_wp2_with (fail)
    go_meet
    exact ⟨s2,q,⟨0,true,q,v,0⟩,rfl,HLB.o,G2.o.found (put6 HF2.o _ _ _ _ _ _).2 (put6 HF2.o _ _ _ _ _ _).1⟩
   ·have hz:=HZ.o;rw [if_neg qk] at hz;have HLB:=gh hz;have g1:(q == key)=false:=by simp [qk]
    clear hz HZ qk;go_wp2_with (fail)
    go_meet
    exact ⟨s1,q,Rs.none,rfl,HLB.o,G.o⟩
 case rest=>
 obtain ⟨t,q,res,rfl,hc2⟩:=hcut;have HLB:=gh hc2.o.1;have G:=gh hc2.o.2;obtain ⟨rw0,fd,rk,rv,rn⟩:=res;clear hc2 H HE hleaf;obtain ⟨⟨o0,o1,o2⟩,⟨d0,d1,d2,d3,d4,d5⟩,⟨e0,e1,e2,e3,e4,e5⟩,f0,f1,f2,f3,f4,f5⟩:=G.o.lm.cells;have cf:=G.o.went.at.offs;obtain ⟨of,hof⟩:∃ b,t.off=b:=⟨_,rfl⟩;rw [hof] at cf
 go_upto_region 8 with (fail)
 go_cut [63] (fun c wx=>c=.bool (decide (of=true∨(kind=1/\fd=true)∨(kind=3/\fd=false)))/\wc=wx)
 case first=>
  clear HLB
  by_cases k1:kind=1
  ·have g1:(kind == 1)=true:=by simp [k1]
   have g3:(kind == 3)=false:=by simp [k1]
   have K1:=gh k1;clear k1;cases of <;> cases fd <;> (go_wp2_with (fail);go_meet;exact ⟨by simp [K1.o],rfl⟩)
  ·have g1:(kind == 1)=false:=by simp [k1]
   have K1:=gh k1;clear k1
   by_cases k3:kind=3
   ·have g3:(kind == 3)=true:=by simp [k3]
    have K3:=gh k3;clear k3;cases of <;> cases fd <;> (go_wp2_with (fail);go_meet;exact ⟨by simp [K3.o],rfl⟩)
   ·have g3:(kind == 3)=false:=by simp [k3]
    have K3:=gh k3;clear k3;cases of <;> (go_wp2_with (fail);go_meet;exact ⟨by simp [K1.o,K3.o],rfl⟩)
 case rest=>
 obtain ⟨rfl,rfl⟩:=hcut;have hz:=HLB.o;unfold Rn.layB at hz;rw [hof] at hz;clear HLB hof cf
 by_cases hbad:of=true∨(kind=1/\fd=true)∨(kind=3/\fd=false)
 ·rw [if_pos hbad] at hz;obtain ⟨hz1,rfl⟩:=Prod.mk.inj hz;obtain ⟨rfl,rfl⟩:=Prod.mk.inj hz1;rw [decide_eq_true hbad];clear hz hz1 hbad;go_wp2;refine bodyPost_ret (rcb rfl _ _ (mo+1) 61 _ _ _ rfl (put6 G.o.lm.rs _ _ _ _ _ _).1 Tryz.underlying61 rfl info61) rfl ?_;exact ⟨rfl,G.o.fin (put6 G.o.lm.rs _ _ _ _ _ _).2⟩
 ·rw [if_neg hbad] at hz;rw [decide_eq_false hbad];obtain ⟨y,ok,t1,hfr⟩:∃ y ok t1,t.freshR kind key value w q leaf fd=((y,ok),t1):=⟨_,_,_,rfl⟩;rw [hfr] at hz;dsimp only at hz;have HZ:=gh hz;have HFR:=gh hfr;clear hz hfr hbad;go_wp2_with (fail);refine (fresh_r _ r t kind key value w q leaf fd G.o.went.at G.o.went.ok G.o.new y ok t1 HFR.o).mono ?_;rintro e U3 ⟨rfl,GF⟩;have G3:=gh (G.o.step GF);clear GF G o0 o1 o2 d0 d1 d2 d3 d4 d5 e0 e1 e2 e3 e4 e5 f0 f1 f2 f3 f4 f5;cases ok with
  | false=>
   have hz:=HZ.o;rw [if_pos rfl] at hz;obtain ⟨hz1,rfl⟩:=Prod.mk.inj hz;obtain ⟨rfl,rfl⟩:=Prod.mk.inj hz1;clear hz hz1 HZ;go_wp2_with (fail);refine (nomem_r U3).mono ?_;rintro e U4 ⟨rfl,K4⟩;have G4:=gh (G3.o.kept K4);obtain ⟨_,⟨d0,d1,d2,d3,d4,d5⟩,_,f0,f1,f2,f3,f4,f5⟩:=G4.o.lm.cells;clear K4;unfold Rs.nomem Rs.cs;go_wp2;refine bodyPost_ret (rcb rfl _ _ (mo+1) 61 _ _ _ rfl (put6 G4.o.lm.rs _ _ _ _ _ _).1 Tryz.underlying61 rfl info61) rfl ?_;exact ⟨rfl,G4.o.fin (put6 G4.o.lm.rs _ _ _ _ _ _).2⟩
  | true=>
   have hz:=HZ.o;rw [if_neg (by decide)] at hz;obtain ⟨zd,t3,hzd⟩:∃ zd t3,({ t1 with rc:=0 }:Rn).dcss (wrap64 (n+2)) sl w y=(zd,t3):=⟨_,_,rfl⟩;rw [hzd] at hz;dsimp only at hz;obtain ⟨c8,_,rf⟩:=G3.o.went.at.notes;have r8:=rf 8;have HZD:=gh hzd;have HZ2:=gh hz;have G4:Hid (Lay X Y W (U3.setCell ⟨r,8,none⟩ (.int .i64 0)) r mo s { t1 with rc:=0 } kind key value ⟨rw0,fd,rk,rv,rn⟩ la es):=gh (G3.o.step ⟨G3.o.went.at.rc 0,Rn.rc_on _ _,G3.o.went.ok⟩);clear rf hz hzd HZ;go_wp2_with (fail);refine (dcss_r _ r _ _ sl w y G4.o.went.at G4.o.new zd t3 HZD.o).mono ?_;rintro e U5 ⟨rfl,R5⟩;have G5:=gh (G4.o.step (R5.moved_dcss G4.o.went.ok HZD.o));obtain ⟨n8,n9,nf⟩:=G5.o.went.at.notes;have nf9:=nf 9;clear R5 nf c8 r8 G4 G3
   go_upto_if 93 with (fail)
   go_cut [] (fun wx=>Hid (Lay X Y W wx r mo s (if 0 < t3.rc then { t3 with ld:=t3.rc } else t3) kind key value ⟨rw0,fd,rk,rv,rn⟩ la es))
   case first=>
    clear HZ2
    by_cases rc0:0 < t3.rc
    ·go_wp2_with (fail)
     go_meet
     rw [if_pos rc0];exact G5.o.step ⟨G5.o.went.at.ld t3.rc,Rn.ld_on _ _,G5.o.went.ok⟩
    ·have gr:decide (0 < t3.rc)=false:=by simp;omega
     go_wp2_with (fail)
     go_meet
     rw [if_neg (by omega)];exact G5.o
   case rest=>
   have G6:=hcut;have HZ3:=HZ2;clear hcut G5 n8 n9 nf9 HZ2;generalize hg4:(if 0 < t3.rc then { t3 with ld:=t3.rc } else t3)=t4 at G6 HZ3;clear hg4;have hz:=HZ3.o;clear HZ3
   by_cases z3:zd=3
   ·rw [if_pos z3] at hz;obtain ⟨hz1,rfl⟩:=Prod.mk.inj hz;obtain ⟨rfl,rfl⟩:=Prod.mk.inj hz1;clear hz hz1;subst z3;go_wp2_with (fail);refine (nomem_r wc).mono ?_;rintro e U7 ⟨rfl,K7⟩;have G7:=gh (G6.o.kept K7);obtain ⟨_,⟨d0,d1,d2,d3,d4,d5⟩,_,f0,f1,f2,f3,f4,f5⟩:=G7.o.lm.cells;clear K7;unfold Rs.nomem Rs.cs;go_wp2;refine bodyPost_ret (rcb rfl _ _ (mo+1) 61 _ _ _ rfl (put6 G7.o.lm.rs _ _ _ _ _ _).1 Tryz.underlying61 rfl info61) rfl ?_;exact ⟨rfl,G7.o.fin (put6 G7.o.lm.rs _ _ _ _ _ _).2⟩
   ·rw [if_neg z3] at hz;have g3:(zd == 3)=false:=by simp [z3]
    obtain ⟨hz1,hz2⟩:=Prod.mk.inj hz;obtain ⟨rfl,rfl⟩:=Prod.mk.inj hz1;have HZ4:=gh hz2;clear hz hz1 hz2 z3;obtain ⟨⟨o0,_,_⟩,_,⟨_,e1,_⟩,_⟩:=G6.o.lm.cells
    go_upto_region 19 with (fail)
    go_cut [115] (fun c wx=>c=.bool (decide (zd=1/\(kind≠2∨fd=false)))/\wc=wx)
    case first=>
     by_cases z1:zd=1
     ·have g1:(zd == 1)=true:=by simp [z1]
      have Z1:=gh z1;clear z1
      by_cases k2:kind=2
      ·have g2:(kind != 2)=false:=by simp [k2]
       have K2:=gh k2;clear k2;cases fd <;> (go_wp2_with (fail);go_meet;exact ⟨by simp [Z1.o,K2.o],rfl⟩)
      ·have g2:(kind != 2)=true:=by simp [k2]
       have K2:=gh k2;clear k2;go_wp2_with (fail)
       go_meet
       exact ⟨by simp [Z1.o,K2.o],rfl⟩
     ·have g1:(zd == 1)=false:=by simp [z1]
      have Z1:=gh z1;clear z1;go_wp2_with (fail)
      go_meet
      exact ⟨by simp [Z1.o],rfl⟩
    case rest=>
    obtain ⟨rfl,rfl⟩:=hcut;clear o0 e1 g3
    go_upto_if 115 with (fail)
    go_cut [] (fun wx=>Hid (Lay X Y W wx r mo s sE kind key value ⟨rw0,fd,rk,rv,rn⟩ la es))
    case first=>
     have hz:=HZ4.o;clear HZ4
     by_cases tl:zd=1/\(kind≠2∨fd=false)
     ·rw [if_pos (by simpa using tl)] at hz;rw [decide_eq_true tl];have HZ5:=gh hz;clear hz tl;go_wp2_with (fail);refine (tally_r N _ r t4 la L lc es G6.o.went.at G6.o.went.ok G6.o.new G6.o.reads HWD.o HLL.o hc hm (fun ad e=>(G6.o.side.2.2.2.2.2 ad e).1) (by have:=G6.o.went.on.left;have:=HN.o;omega) (by have:=G6.o.went.on.left;have:=HL.o;omega) sE HZ5.o).mono ?_;rintro e U8 ⟨rfl,GT⟩;have G8:=gh (G6.o.step GT);clear GT;go_wp2_with (fail)
      go_meet
      exact G8.o
     ·rw [if_neg (by simpa using tl)] at hz;rw [decide_eq_false tl];subst hz;clear tl;go_wp2_with (fail)
      go_meet
      exact G6.o
    case rest=>
    have G8:=hcut;clear hcut G6 HZ4;obtain ⟨_,⟨d0,d1,d2,d3,d4,d5⟩,⟨e0,e1,e2,e3,e4,e5⟩,f0,f1,f2,f3,f4,f5⟩:=G8.o.lm.cells;have gz:(zd == 1)=decide (zd=1):=by simp [Bool.beq_eq_decide_eq]
    go_wp2;refine bodyPost_ret (rcb rfl _ _ (mo+1) 61 _ _ _ rfl (put6 G8.o.lm.rs _ _ _ _ _ _).1 Tryz.underlying61 rfl info61) rfl ?_;exact ⟨rfl,G8.o.fin (put6 G8.o.lm.rs _ _ _ _ _ _).2⟩
end
section
open Go.Shelf
variable {X:Nat->Prop} {lo:Nat}
namespace Rn
def attemptL (N:Nat) (kind key value:Int):Nat->Int->List En->Rn->(Rs × Bool) × Rn
 | 0,_,_,s=>((Rs.none,true),s)
 | c+1,n,es,s=>
  if s.off=true then ((Rs.none,true),s)
  else
   let z:=s.child n key
   let w:=z.2.slot z.1
   if kd w.1=4 then
    let y:=renewR N w.2 (ad w.1)
    if y.1=false then ((Rs.nomem,true),y.2) else ((Rs.none,false),y.2)
   else if kd w.1=3 then attemptL N kind key value c (ad w.1) (es++[⟨n,z.1,w.1⟩]) w.2
   else layR N w.2 kind key value n z.1 w.1 es
variable {N:Nat} {kind key value n z w:Int} {c:Nat} {es:List En} {s t u v:Rn}
theorem attemptL_off (h:s.off=true):attemptL N kind key value c n es s=((Rs.none,true),s):=by
 cases c with
 | zero=>rfl
 | succ c=>rw [attemptL,if_pos h]
theorem attemptL_4 {b:Bool} (h:s.off=false) (e1:s.child n key=(z,t)) (e2:t.slot z=(w,u)) (k:kd w=4) (e3:renewR N u (ad w)=(b,v)):attemptL N kind key value (c+1) n es s=if b=false then ((Rs.nomem,true),v) else ((Rs.none,false),v):=by
 rw [attemptL,if_neg (by rw [h];decide),e1];dsimp only;rw [e2];dsimp only;rw [if_pos k,e3]
theorem attemptL_3 (h:s.off=false) (e1:s.child n key=(z,t)) (e2:t.slot z=(w,u)) (k:kd w=3):attemptL N kind key value (c+1) n es s=attemptL N kind key value c (ad w) (es++[⟨n,z,w⟩]) u:=by
 rw [attemptL,if_neg (by rw [h];decide),e1];dsimp only;rw [e2];dsimp only;rw [if_neg (by rw [k];decide),if_pos k]
theorem attemptL_0 (h:s.off=false) (e1:s.child n key=(z,t)) (e2:t.slot z=(w,u)) (k4:kd w≠4) (k3:kd w≠3):attemptL N kind key value (c+1) n es s=layR N u kind key value n z w es:=by
 rw [attemptL,if_neg (by rw [h];decide),e1];dsimp only;rw [e2];dsimp only;rw [if_neg k4,if_neg k3]
end Rn
theorem Gath.grownE {W W':World} {r:Nat} {s:Rn} {v:Value} {xs:List En} (hX:∀ k,X k->k < lo) (h:RunAt X W r s) (ho:s.ok) (hr:ERow W lo v xs) (tmp:Obj) (hg:(W.alloc tmp).grownBy W' v.ownBlock):Gath X lo W r s s W':=by
 have t0:Td (fun k=>lo<=k) W (W.alloc tmp):=Td.alloc _ _ _;have t1:Td (fun k=>lo<=k) (W.alloc tmp) W':=Td.of_grownBy hg (fun k e=>hr.own k e);have t:=t0.trans t1 (fun _ e=>e) (fun _ _ e=>e);exact ⟨h.above t (fun k h1 h2=>by have:=hX k h1;omega),t.mono (fun _ _ e=>.inr e),Rn.On.refl s,ho⟩
theorem ERow.ran {W W':World} {r:Nat} {v:Value} {xs:List En} (h:ERow W lo v xs) (t:Td (fun k=>k=r) W W') (hr:r < lo):ERow W' lo v xs:=
 h.turned t (fun g e hg=>by have:=h.own g e;omega)
set_option maxRecDepth 100000 in
set_option maxHeartbeats 4000000 in
theorem attempt_r (N:Nat) (W:World) (r:Nat) (s:Rn) (kind key value:Int) (h:RunAt X W r s) (ho:s.ok) (hX:∀ k,W.heap.size<=k->X k) (ik:I64 key) (hN:s.left < N) (hl:s.left<=16384) (x:Rs) (bE:Bool) (sE:Rn) (he:Rn.attemptL N kind key value (s.left+1) 1 [] s=((x,bE),sE)) :
  Calls Tryz.prog 163 #[.pointer (some ⟨r,0,none⟩),.agg #[.int .i64 kind,.int .i64 key,.int .i64 value]] W fun e W'=>e=.returned (.tuple #[.agg (x.cs (.slice none 0 0)),.bool bE])/\Went X W r s sE W'/\(s.off=false->sE.left < s.left):=by
 obtain ⟨V,hV⟩:∃ V,(W.alloc (.cells #[.int .i64 kind,.int .i64 key,.int .i64 value] 52)).alloc (.cells #[.int .i64 0,.bool false,.int .i64 0,.int .i64 0,.int .i64 0,.slice none 0 0] 61)=V:=⟨_,rfl⟩;obtain ⟨mo,hmo⟩:∃ m,W.heap.size=m:=⟨_,rfl⟩;have k1:Kept W V:=by rw [<- hV];exact (Kept.alloc (Kept.refl W) _).alloc _
 have b0:V.heap[mo]? = some (.cells #[.int .i64 kind,.int .i64 key,.int .i64 value] 52):=by
  rw [<- hV,<- hmo];exact (Td.alloc (fun _=>False) (W.alloc _) _).heap (heap_new _ _) id
 have b1:V.heap[mo+1]? = some (.cells #[.int .i64 0,.bool false,.int .i64 0,.int .i64 0,.int .i64 0,.slice none 0 0] 61):=by
  rw [<- hV,<- hmo];exact heap_alloc2_new _ _ _
 have s2:V.heap.size=mo+2:=by rw [<- hV,<- hmo];simp
 have hlt:=h.lt;have HV:=gh hV;have KV:=gh k1;have HRM:Hid (r < mo/\W.heap.size=mo/\V.heap.size=mo+2):=gh ⟨by omega,hmo,s2⟩;have B0:=gh b0;have B1:=gh b1;have HX:=gh hX;have H:Hid (RunAt (fun k=>X k/\k < mo) V r s):=gh ((h.to (Y:=fun k=>X k/\k < mo) (fun k a b=>⟨a,by omega⟩)).kept k1);have OK:=gh ho;have IK:=gh ik;have HN:=gh hN;have HL:=gh hl;have HE:=gh he;have KEEP:∀ U:World,Td (fun k=>k=r∨mo+2<=k) V U->U.heap[mo]? = some (.cells #[.int .i64 kind,.int .i64 key,.int .i64 value] 52)/\U.heap[mo+1]? = some (.cells #[.int .i64 0,.bool false,.int .i64 0,.int .i64 0,.int .i64 0,.slice none 0 0] 61):=fun U t=>
  ⟨t.heap B0.o (fun e=>by have:=HRM.o;omega),t.heap B1.o (fun e=>by have:=HRM.o;omega)⟩
 have HKEEP:=gh KEEP;have FIN:∀ (U U1 U':World) (t u:Rn),Gath (fun k=>X k/\k < mo) (mo+2) V r s t U->Went (fun k=>(X k/\k < mo)∨U.heap.size<=k) U r t u U1->Td (fun k=>k=mo+1) U1 U'->Went X W r s u U':=by
  intro U U1 U' t u hg hw ht;have hs:=hg.turned.size;have w2:=hw.other ht (m:=mo+1);refine ⟨⟨(hw.at.above ht (fun k h1 h2=>?_)).to (fun k h1 _=>?_),?_⟩,hg.on.trans hw.on,hw.ok⟩
  ·have:=HRM.o
   rcases h1 with h1 | h1 <;> omega
  ·rcases h1 with h1 | h1
   ·exact h1.1
   ·exact HX.o k (by have:=HRM.o;omega)
  ·have t1:Td (fun k=>k=r∨mo<=k) W U:=KV.o.then (hg.turned.mono (fun k _ e=>e.imp id (fun e=>by omega)));have t2:Td (fun k=>k=r∨mo<=k) W U1:=t1.trans hw.turned (fun _ e=>e) (fun _ _ e=>.inl e);have t3:Td (fun k=>k=r∨mo<=k) W U':=t2.trans ht (fun _ e=>e) (fun _ _ e=>.inr (by omega));exact t3.mono (fun k hk e=>e.elim id (fun e=>by have:=HRM.o;omega))
 have HFIN:=gh FIN;clear h ho hX ik hN hl he k1 b0 b1 s2 hlt hV KEEP FIN;go_enter Tryz.func163,Tryz.ntmps163;go_wp2_with (fail);rw [HV.o]
 go_loopw [6,7,8,9] (fun vn vp _ _ wr=>∃ (n:Int) (t:Rn) (es:List En) (c:Nat) (vv:Value),vn=.int .i64 n/\vv=vp/\Gath (fun k=>X k/\k < mo) (mo+2) V r s t wr/\ERow wr (mo+2) vv es/\(∀ e ∈ es,I64 e.wd)/\es.length+t.left<=s.left/\t.left < c/\(t.left < s.left∨(t.off=s.off/\t.left=s.left))/\Rn.attemptL N kind key value c n es t=((x,bE),sE)) (fun _ _ _ _ wr=>leftAt wr r)
 case atStart=>
  refine ⟨1,s,[],s.left+1,_,rfl,rfl,⟨H.o,Td.refl _ _,Rn.On.refl s,OK.o⟩,ERow.nil _ _,(fun e he=>by cases he),by simp,by omega,.inr ⟨rfl,rfl⟩,HE.o⟩
 case round=>
  obtain ⟨n,t,es,c,vv,rfl,rfl,hG,hR,hwd,hlen,hc,hst,hat⟩:=hrel;have G:=gh hG;have HR:=gh hR;have HWD:=gh hwd;have HLEN:=gh hlen;have HC:=gh hc;have HST:=gh hst;have HAT:=gh hat;have cf:=hG.lies.offs;obtain ⟨u0,u1⟩:=HKEEP.o wr hG.turned;have U2:=gh u1;obtain ⟨d0,d1,d2,d3,d4,d5,df⟩:=cells6 u1;have f0:=df 0;have f1:=df 1;have f2:=df 2;have f3:=df 3;have f4:=df 4;have f5:=df 5;have o1:wr.cell? ⟨mo,1,none⟩=some (.int .i64 key):=by simp [World.cell?,u0]
  clear hG hR hwd hlen hc hst hat u0 u1 df;cases hof:t.off with
  | true=>
   rw [hof] at cf;have hz:=HAT.o;rw [Rn.attemptL_off hof] at hz;obtain ⟨hz1,rfl⟩:=Prod.mk.inj hz;obtain ⟨rfl,rfl⟩:=Prod.mk.inj hz1;have HLT:Hid (s.off=false->t.left < s.left):=gh (fun h=>HST.o.elim id (fun e=>by rw [hof,h] at e;exact absurd e.1 (by decide)));clear hz hz1 HAT hof;go_wp2;refine bodyPost_ret (rcb rfl _ _ (mo+1) 61 _ _ _ rfl (put6 U2.o _ _ _ _ _ _).1 Tryz.underlying61 rfl info61) rfl ?_;exact ⟨rfl,HFIN.o wr wr _ t t G.o (Went.refl (G.o.lies.to (fun k a _=>.inl a)) G.o.ok) (put6 U2.o _ _ _ _ _ _).2,HLT.o⟩
  | false=>
   rw [hof] at cf;have HOF:=gh hof;obtain ⟨c',rfl⟩:∃ c',c=c' + 1:=⟨c - 1,by have:=HC.o;omega⟩;obtain ⟨z,t1,hz1⟩:∃ z t1,t.child n key=(z,t1):=⟨_,_,rfl⟩;obtain ⟨w,t2,hz2⟩:∃ w t2,t1.slot z=(w,t2):=⟨_,_,rfl⟩;have HZ1:=gh hz1;have HZ2:=gh hz2;have l1:t1.left < t.left:=by have:=Rn.child_lt n key hof;rw [hz1] at this;exact this
   have on1:Rn.On t t1:=by have:=(Rn.read_on rfl).trans (Rn.child_on t n key);rw [hz1] at this;exact this
   have L1:=gh l1;have ON1:=gh on1;have L2:Hid (t2.left<=t1.left):=gh (by have:=Rn.slot_le t1 z;rw [hz2] at this;exact this);have HLT:Hid (t2.left < s.left):=gh (by have:=HST.o;have:=L2.o;omega);clear hof hz1 hz2 l1 on1;go_wp2_with (fail);refine (childr_r _ r t n key G.o.lies G.o.ok IK.o z t1 HZ1.o).mono ?_;rintro e U1 ⟨rfl,R1⟩;have G1:=gh (G.o.trans (⟨R1,ON1.o,ON1.o.ok G.o.ok⟩:Went _ wr r t t1 U1).gath);have HR1:=gh (HR.o.ran R1.2 (by have:=HRM.o;omega));have T1:=gh R1.2;clear R1;go_wp2_with (fail);refine (slot_r _ r t1 z G1.o.lies G1.o.ok w t2 HZ2.o).mono ?_;rintro e U3 ⟨rfl,R2⟩;have IW:=gh (G1.o.ok.slot HZ2.o).1;have G2:=gh (G1.o.trans (R2.went_slot G1.o.ok HZ2.o).gath);have HR2:=gh (HR1.o.ran R2.2 (by have:=HRM.o;omega));clear R2 d0 d1 d2 d3 d4 d5 f0 f1 f2 f3 f4 f5 o1 U2;obtain ⟨u0,u1⟩:=HKEEP.o U3 G2.o.turned;have U2:=gh u1;obtain ⟨d0,d1,d2,d3,d4,d5,df⟩:=cells6 u1;have o0:U3.cell? ⟨mo,0,none⟩=some (.int .i64 kind):=by simp [World.cell?,u0]
   have o1:U3.cell? ⟨mo,1,none⟩=some (.int .i64 key):=by simp [World.cell?,u0]
   have o2:U3.cell? ⟨mo,2,none⟩=some (.int .i64 value):=by simp [World.cell?,u0]
   have HY:Hid (∀ k,U3.heap.size<=k->(fun k=>(X k/\k < mo)∨U3.heap.size<=k) k):=gh (fun k h=>.inr h);have RT:Hid (RunAt (fun k=>(X k/\k < mo)∨U3.heap.size<=k) U3 r t2):=gh (G2.o.lies.to (fun k a _=>.inl a));have KP:Hid (∀ U,Td (fun k=>k=r) U3 U->U.heap[mo+1]? = some (.cells #[.int .i64 0,.bool false,.int .i64 0,.int .i64 0,.int .i64 0,.slice none 0 0] 61)):=gh (fun U t=>t.heap U2.o (fun e=>by have:=HRM.o;omega));clear u0 u1 df d0 d1 d2 d3 d4 d5;obtain ⟨kk,hkk⟩:∃ kk,kd w=kk:=⟨_,rfl⟩;obtain ⟨p,hpp⟩:∃ p,ad w=p:=⟨_,rfl⟩;have HK:=gh hkk;have HPP:=gh hpp;clear hkk hpp;go_wp2_with (fail);refine (kk_d _ w kk IW.o HK.o).mono ?_;rintro e w' ⟨rfl,rfl⟩
   by_cases k4:kk=4
   ·subst k4;obtain ⟨b,t3,hz3⟩:∃ b t3,Rn.renewR N t2 p=(b,t3):=⟨_,_,rfl⟩;have hz:=HAT.o;rw [Rn.attemptL_4 (b:=b) (v:=t3) HOF.o HZ1.o HZ2.o HK.o (by rw [HPP.o];exact hz3)] at hz;have HZ:=gh hz;have HZ3:=gh hz3;clear hz hz3 HAT;go_wp2_with (fail);refine (ak_d _ w p IW.o HPP.o).mono ?_;rintro e w' ⟨rfl,rfl⟩;go_wp2_with (fail);refine (renew_r N _ r t2 p RT.o G2.o.ok HY.o (by have:=HLT.o;have:=HN.o;omega) (by have:=HLT.o;have:=HL.o;omega) b t3 HZ3.o).mono ?_;rintro e U4 ⟨rfl,W4⟩;have G4:=gh W4;cases b with
    | false=>
     have hz:=HZ.o;rw [if_pos rfl] at hz;obtain ⟨hz1,rfl⟩:=Prod.mk.inj hz;obtain ⟨rfl,rfl⟩:=Prod.mk.inj hz1;clear hz hz1 HZ W4 o0 o1 o2;go_wp2_with (fail);refine (nomem_r U4).mono ?_;rintro e U5 ⟨rfl,K5⟩;have G5:=gh (⟨⟨G4.o.at.kept K5,Kept.behind G4.o.turned K5⟩,G4.o.on,G4.o.ok⟩:Went _ U3 r t2 t3 U5);have u5:=KP.o U5 G5.o.turned;have U5':=gh u5;obtain ⟨d0,d1,d2,d3,d4,d5,df⟩:=cells6 u5;have f0:=df 0;have f1:=df 1;have f2:=df 2;have f3:=df 3;have f4:=df 4;have f5:=df 5;clear df u5 K5;unfold Rs.nomem Rs.cs;go_wp2;refine bodyPost_ret (rcb rfl _ _ (mo+1) 61 _ _ _ rfl (put6 U5'.o _ _ _ _ _ _).1 Tryz.underlying61 rfl info61) rfl ?_;exact ⟨rfl,HFIN.o U3 U5 _ t2 t3 G2.o G5.o (put6 U5'.o _ _ _ _ _ _).2,fun _=>by have:=G5.o.on.left;have:=HLT.o;omega⟩
    | true=>
     have hz:=HZ.o;rw [if_neg (by decide)] at hz;obtain ⟨hz1,rfl⟩:=Prod.mk.inj hz;obtain ⟨rfl,rfl⟩:=Prod.mk.inj hz1;have u5:=KP.o U4 G4.o.turned;have U5':=gh u5;obtain ⟨d0,d1,d2,d3,d4,d5,df⟩:=cells6 u5;have f0:=df 0;have f1:=df 1;have f2:=df 2;have f3:=df 3;have f4:=df 4;have f5:=df 5;clear hz hz1 HZ df u5 W4 o0 o1 o2;go_wp2;refine bodyPost_ret (rcb rfl _ _ (mo+1) 61 _ _ _ rfl (put6 U5'.o _ _ _ _ _ _).1 Tryz.underlying61 rfl info61) rfl ?_;exact ⟨rfl,HFIN.o U3 U4 _ t2 t3 G2.o G4.o (put6 U5'.o _ _ _ _ _ _).2,fun _=>by have:=G4.o.on.left;have:=HLT.o;omega⟩
   ·by_cases k3:kk=3
    ·subst k3;have hz:=HAT.o;rw [Rn.attemptL_3 HOF.o HZ1.o HZ2.o HK.o,HPP.o] at hz;have HZ:=gh hz;obtain ⟨la,lc,hv,_⟩:=HR2.o.reads;obtain ⟨M,hM⟩:∃ M,es.length=M:=⟨_,rfl⟩;rw [hM] at hv;have HM:=gh hM;subst hv;clear hz HAT hM o0 o1 o2;go_wp2_with (at_builtin;refine Stop.out ?_);refine ⟨?_⟩;have HRA:=gh (HR2.o.kept (Kept.alloc (Kept.refl U3) (.cells #[.int .i64 n,.int .i64 z,.int .i64 w] 50)));have HNW:Hid ((U3.alloc (.cells #[.int .i64 n,.int .i64 z,.int .i64 w] 50)).heap[U3.heap.size]? = some (.cells #[.int .i64 n,.int .i64 z,.int .i64 w] 50)):=gh (heap_new _ _);refine wpList_append_entry rfl _ _ rfl (mo+2) _ es (es++[⟨n,z,w⟩]) rfl HRA.o U3.heap.size n z w rfl HNW.o (by have:=HL.o;have:=HLEN.o;omega) (by have:=G2.o.turned.size;have:=HRM.o;simp;omega) rfl ?_;intro v9 W9 hown hg hat;have HR9:=gh hown;have G9:=gh (G2.o.trans (Gath.grownE (fun k h=>by have:=HRM.o;omega) G2.o.lies G2.o.ok HR2.o _ hg));clear hown hg hat HRA HNW;go_wp2_with (fail);refine (ak_d _ w p IW.o HPP.o).mono ?_;rintro e w' ⟨rfl,rfl⟩;go_wp2;refine ⟨⟨p,t2,es++[⟨n,z,w⟩],c',v9,rfl,rfl,G9.o,HR9.o,?_,?_,?_,.inl HLT.o,HZ.o⟩,?_⟩
     ·intro e he;rcases List.mem_append.1 he with he | he
      ·exact HWD.o e he
      ·rw [List.mem_singleton.1 he];exact IW.o
     ·have:=HLEN.o;have:=L1.o;have:=L2.o;simp;omega
     ·have:=HC.o;have:=L1.o;have:=L2.o;omega
     ·rw [G9.o.lies.leftAt,G.o.lies.leftAt]
      have:=L1.o;have:=L2.o;omega
    ·have g4:(kk == 4)=false:=by simp [k4]
     have g3:(kk == 3)=false:=by simp [k3]
     have hz:=HAT.o;rw [Rn.attemptL_0 HOF.o HZ1.o HZ2.o (by rw [HK.o];exact k4) (by rw [HK.o];exact k3)] at hz;have HZ:=gh hz;obtain ⟨la,lc,hv,erd,elc,_,_,ebl⟩:=HR2.o.reads;obtain ⟨M,hM⟩:∃ M,es.length=M:=⟨_,rfl⟩;rw [hM] at hv elc;have HM:=gh hM;have ERD:=gh erd;have EBL:Hid (∀ ad,la=some ad->ad.block≠r/\ad.block < U3.heap.size):=gh (fun ad e=>⟨by have:=ebl ad e;have:=HRM.o;omega,by
      have:=HR2.o.lt (ad.block) (by rw [hv,e];simp [Value.ownBlock])
      exact this.2⟩)
     subst hv;clear hz HAT hM erd ebl k3 k4;go_wp2_with (fail);refine (lay_r N _ r t2 kind key value n z w la M lc es RT.o G2.o.ok HY.o IW.o ERD.o HWD.o HM.o elc (by have:=HLEN.o;have:=HM.o;have:=HL.o;omega) EBL.o (by have:=HLT.o;have:=HN.o;omega) (by have:=HLT.o;have:=HL.o;omega) x bE sE HZ.o).mono ?_;rintro e U4 ⟨rfl,W4⟩;have G4:=gh W4;have u5:=KP.o U4 G4.o.turned;have U5':=gh u5;obtain ⟨d0,d1,d2,d3,d4,d5,df⟩:=cells6 u5;have f0:=df 0;have f1:=df 1;have f2:=df 2;have f3:=df 3;have f4:=df 4;have f5:=df 5;clear df u5 W4 o0 o1 o2;obtain ⟨x0,x1,x2,x3,x4⟩:=x;unfold Rs.cs;dsimp only;go_wp2;refine bodyPost_ret (rcb rfl _ _ (mo+1) 61 _ _ _ rfl (put6 U5'.o _ _ _ _ _ _).1 Tryz.underlying61 rfl info61) rfl ?_;exact ⟨rfl,HFIN.o U3 U4 _ t2 sE G2.o G4.o (put6 U5'.o _ _ _ _ _ _).2,fun _=>by have:=G4.o.on.left;have:=HLT.o;omega⟩
end
section
open Go.Shelf
variable {X:Nat->Prop} {lo:Nat}
namespace Rn
def changeL (N:Nat) (kind key value:Int):Nat->Rn->Rs × Rn
 | 0,s=>(Rs.none,s)
 | c+1,s=>
  if s.off=true then (Rs.none,s)
  else
   let a:=attemptL N kind key value (s.left+1) 1 [] s
   if a.1.2=true then (a.1.1,a.2) else changeL N kind key value c a.2
variable {N:Nat} {kind key value:Int} {c:Nat} {s t:Rn} {x:Rs}
theorem changeL_off (h:s.off=true):changeL N kind key value c s=(Rs.none,s):=by
 cases c with
 | zero=>rfl
 | succ c=>rw [changeL,if_pos h]
theorem changeL_end (h:s.off=false) (e:attemptL N kind key value (s.left+1) 1 [] s=((x,true),t)):changeL N kind key value (c+1) s=(x,t):=by
 rw [changeL,if_neg (by rw [h];decide),e];rfl
theorem changeL_go (h:s.off=false) (e:attemptL N kind key value (s.left+1) 1 [] s=((x,false),t)):changeL N kind key value (c+1) s=changeL N kind key value c t:=by
 rw [changeL,if_neg (by rw [h];decide),e];rfl
end Rn
set_option maxRecDepth 100000 in
set_option maxHeartbeats 4000000 in
theorem change_r (N:Nat) (W:World) (r:Nat) (s:Rn) (kind key value:Int) (h:RunAt X W r s) (ho:s.ok) (hX:∀ k,W.heap.size<=k->X k) (ik:I64 key) (hN:s.left < N) (hl:s.left<=16384) (x:Rs) (sE:Rn) (he:Rn.changeL N kind key value (s.left+1) s=(x,sE)) :
  Calls Tryz.prog 135 #[.pointer (some ⟨r,0,none⟩),.agg #[.int .i64 kind,.int .i64 key,.int .i64 value]] W fun e W'=>e=.returned (.agg (x.cs (.slice none 0 0)))/\Went X W r s sE W':=by
 obtain ⟨V,hV⟩:∃ V,(W.alloc (.cells #[.int .i64 kind,.int .i64 key,.int .i64 value] 52)).alloc (.cells #[.int .i64 0,.bool false,.int .i64 0,.int .i64 0,.int .i64 0,.slice none 0 0] 61)=V:=⟨_,rfl⟩;obtain ⟨mo,hmo⟩:∃ m,W.heap.size=m:=⟨_,rfl⟩;have k1:Kept W V:=by rw [<- hV];exact (Kept.alloc (Kept.refl W) _).alloc _
 have b0:V.heap[mo]? = some (.cells #[.int .i64 kind,.int .i64 key,.int .i64 value] 52):=by
  rw [<- hV,<- hmo];exact (Td.alloc (fun _=>False) (W.alloc _) _).heap (heap_new _ _) id
 have b1:V.heap[mo+1]? = some (.cells #[.int .i64 0,.bool false,.int .i64 0,.int .i64 0,.int .i64 0,.slice none 0 0] 61):=by
  rw [<- hV,<- hmo];exact heap_alloc2_new _ _ _
 have s2:V.heap.size=mo+2:=by rw [<- hV,<- hmo];simp
 have hlt:=h.lt;have HV:=gh hV;have KV:=gh k1;have HRM:Hid (r < mo/\W.heap.size=mo/\V.heap.size=mo+2):=gh ⟨by omega,hmo,s2⟩;have B0:=gh b0;have B1:=gh b1;have HX:=gh hX;obtain ⟨Y,hYd⟩:∃ Y:Nat->Prop,Y=fun k=>X k/\k≠mo+1:=⟨_,rfl⟩;have HYX:Hid (∀ k,Y k->X k):=gh (by rw [hYd];exact fun k h=>h.1);have HYM:Hid (¬ Y (mo+1)):=gh (by rw [hYd];exact fun h=>h.2 rfl);have H:Hid (RunAt Y V r s):=gh ((h.to (Y:=Y) (by rw [hYd];exact fun k a b=>⟨a,by omega⟩)).kept k1);have HY:Hid (∀ k,V.heap.size<=k->Y k):=gh (by rw [hYd];exact fun k h=>⟨hX k (by omega),by omega⟩);have OK:=gh ho;have IK:=gh ik;have HN:=gh hN;have HL:=gh hl;have HE:=gh he;have KEEP:∀ U:World,Td (fun k=>k=r) V U->U.heap[mo]? = some (.cells #[.int .i64 kind,.int .i64 key,.int .i64 value] 52)/\U.heap[mo+1]? = some (.cells #[.int .i64 0,.bool false,.int .i64 0,.int .i64 0,.int .i64 0,.slice none 0 0] 61):=fun U t=>
  ⟨t.heap B0.o (fun e=>by have:=HRM.o;omega),t.heap B1.o (fun e=>by have:=HRM.o;omega)⟩
 have HKEEP:=gh KEEP;have FIN:∀ (U U':World) (t:Rn),Went Y V r s t U->Td (fun k=>k=mo+1) U U'->Went X W r s t U':=by
  intro U U' t hm ht;exact ((hm.behind KV.o).other ht HYM.o (by have:=HRM.o;omega)).to HYX.o
 have HFIN:=gh FIN;clear h ho hX ik hN hl he k1 b0 b1 s2 hlt hV KEEP FIN hYd;go_enter Tryz.func135,Tryz.ntmps135;go_wp2_with (fail);rw [HV.o]
 go_loopw [5,6] (fun _ _ wr=>∃ (t:Rn) (c:Nat),Went Y V r s t wr/\t.left < c/\Rn.changeL N kind key value c t=(x,sE)) (fun _ _ wr=>leftAt wr r)
 case atStart=>exact ⟨s,s.left+1,Went.refl H.o OK.o,by omega,HE.o⟩
 case round=>
  obtain ⟨t,c,hG,hc,hat⟩:=hrel;have G:=gh hG;have HC:=gh hc;have HAT:=gh hat;have cf:=hG.at.offs;obtain ⟨u0,u1⟩:=HKEEP.o wr hG.turned;have U2:=gh u1;obtain ⟨d0,d1,d2,d3,d4,d5,df⟩:=cells6 u1;have f0:=df 0;have f1:=df 1;have f2:=df 2;have f3:=df 3;have f4:=df 4;have f5:=df 5;have o0:wr.cell? ⟨mo,0,none⟩=some (.int .i64 kind):=by simp [World.cell?,u0]
  have o1:wr.cell? ⟨mo,1,none⟩=some (.int .i64 key):=by simp [World.cell?,u0]
  have o2:wr.cell? ⟨mo,2,none⟩=some (.int .i64 value):=by simp [World.cell?,u0]
  clear hG hc hat u0 u1 df;cases hof:t.off with
  | true=>
   rw [hof] at cf;have hz:=HAT.o;rw [Rn.changeL_off hof] at hz;obtain ⟨rfl,rfl⟩:=Prod.mk.inj hz;clear hz HAT hof;go_wp2;refine bodyPost_ret (results_cell_row rfl _ _ (mo+1) 61 _ _ _ rfl (put6 U2.o _ _ _ _ _ _).1 Tryz.underlying61 rfl info61) rfl ?_;exact ⟨rfl,HFIN.o wr _ t G.o (put6 U2.o _ _ _ _ _ _).2⟩
  | false=>
   rw [hof] at cf;have HOF:=gh hof;obtain ⟨c',rfl⟩:∃ c',c=c' + 1:=⟨c - 1,by have:=HC.o;omega⟩;obtain ⟨y,b,t2,hz2⟩:∃ y b t2,Rn.attemptL N kind key value (t.left+1) 1 [] t=((y,b),t2):=⟨_,_,_,rfl⟩;have HZ2:=gh hz2;have CT:Hid (Calls Tryz.prog 163 #[.pointer (some ⟨r,0,none⟩),.agg #[.int .i64 kind,.int .i64 key,.int .i64 value]] wr fun e W'=>e=.returned (.tuple #[.agg #[.int .i64 y.why,.bool y.found,.int .i64 y.key,.int .i64 y.val,.int .i64 y.n,.slice none 0 0],.bool b])/\Went Y wr r t t2 W'/\(t.off=false->t2.left < t.left)):=gh (attempt_r N wr r t kind key value G.o.at G.o.ok (fun k h=>HY.o k (Nat.le_trans G.o.turned.size h)) IK.o (by have:=G.o.on.left;have:=HN.o;omega) (by have:=G.o.on.left;have:=HL.o;omega) y b t2 hz2);obtain ⟨y0,y1,y2,y3,y4⟩:=y;dsimp only at CT;clear hof hz2 d0 d1 d2 d3 d4 d5 f0 f1 f2 f3 f4 f5 U2;go_wp2_with (fail);refine CT.o.mono ?_;rintro e U ⟨rfl,W2,hlt⟩;have G2:=gh (G.o.trans W2);have HLT:=gh (hlt HOF.o);obtain ⟨u0,u1⟩:=HKEEP.o U G2.o.turned;clear W2 hlt CT o0 o1 o2;have U2:Hid (∀ o,(U.alloc o).heap[mo+1]? = some (.cells #[.int .i64 0,.bool false,.int .i64 0,.int .i64 0,.int .i64 0,.slice none 0 0] 61)):=gh (fun o=>(Td.alloc (fun _=>False) U o).heap u1 id);have d0:∀ o,(U.alloc o).cell? ⟨mo+1,0,none⟩=some (.int .i64 0):=fun o=>(cells6 (U2.o o)).1;have d1:∀ o,(U.alloc o).cell? ⟨mo+1,1,none⟩=some (.bool false):=fun o=>(cells6 (U2.o o)).2.1;have d2:∀ o,(U.alloc o).cell? ⟨mo+1,2,none⟩=some (.int .i64 0):=fun o=>(cells6 (U2.o o)).2.2.1;have d3:∀ o,(U.alloc o).cell? ⟨mo+1,3,none⟩=some (.int .i64 0):=fun o=>(cells6 (U2.o o)).2.2.2.1;have d4:∀ o,(U.alloc o).cell? ⟨mo+1,4,none⟩=some (.int .i64 0):=fun o=>(cells6 (U2.o o)).2.2.2.2.1;have d5:∀ o,(U.alloc o).cell? ⟨mo+1,5,none⟩=some (.slice none 0 0):=fun o=>(cells6 (U2.o o)).2.2.2.2.2.1;have f0:∀ o,(U.alloc o).frozen? ⟨mo+1,0,none⟩=false:=fun o=>(cells6 (U2.o o)).2.2.2.2.2.2 0;have f1:∀ o,(U.alloc o).frozen? ⟨mo+1,1,none⟩=false:=fun o=>(cells6 (U2.o o)).2.2.2.2.2.2 1;have f2:∀ o,(U.alloc o).frozen? ⟨mo+1,2,none⟩=false:=fun o=>(cells6 (U2.o o)).2.2.2.2.2.2 2;have f3:∀ o,(U.alloc o).frozen? ⟨mo+1,3,none⟩=false:=fun o=>(cells6 (U2.o o)).2.2.2.2.2.2 3;have f4:∀ o,(U.alloc o).frozen? ⟨mo+1,4,none⟩=false:=fun o=>(cells6 (U2.o o)).2.2.2.2.2.2 4;have f5:∀ o,(U.alloc o).frozen? ⟨mo+1,5,none⟩=false:=fun o=>(cells6 (U2.o o)).2.2.2.2.2.2 5;have GA:Hid (∀ o,Went Y V r s t2 (U.alloc o)):=gh (fun o=>⟨⟨G2.o.at.kept (Td.alloc _ _ _),Kept.behind G2.o.turned (Td.alloc _ _ _)⟩,G2.o.on,G2.o.ok⟩);clear u0 u1;cases b with
   | true=>
    have hz:=HAT.o;rw [Rn.changeL_end HOF.o HZ2.o] at hz;obtain ⟨rfl,rfl⟩:=Prod.mk.inj hz;clear hz HAT;go_wp2;refine bodyPost_ret (results_cell_row rfl _ _ (mo+1) 61 _ _ _ rfl (put6 (U2.o _) _ _ _ _ _ _).1 Tryz.underlying61 rfl info61) rfl ?_;exact ⟨rfl,HFIN.o _ _ t2 (GA.o _) (put6 (U2.o _) _ _ _ _ _ _).2⟩
   | false=>
    have hz:=HAT.o;rw [Rn.changeL_go HOF.o HZ2.o] at hz;have HZ:=gh hz;clear hz HAT;go_wp2;refine ⟨⟨t2,c',GA.o _,by have:=HC.o;have:=HLT.o;omega,HZ.o⟩,?_⟩;rw [(GA.o _).ran.leftAt,G.o.ran.leftAt];exact HLT.o
end
section
open Go.Shelf
variable {X:Nat->Prop} {lo:Nat}
def arrSet (cs:Array Value) (i:Nat):List Value->Array Value
 | []=>cs
 | v :: vs=>arrSet (cs.setIfInBounds i v) (i+1) vs
def putL (U:World) (m:Nat) (i:Nat):List Value->World
 | []=>U
 | v :: vs=>putL (U.setCell ⟨m,i,none⟩ v) m (i+1) vs
theorem putL_turned (m:Nat):∀ (vs:List Value) (U:World) (i:Nat),Td (fun k=>k=m) U (putL U m i vs)
 | [],_,_=>Td.refl _ _
 | _ :: vs,_,i=>(Td.setCell (R:=fun k=>k=m) _ _ _ rfl).trans (putL_turned m vs _ (i+1)) (fun _ e=>e) (fun _ _ e=>e)
structure Sl where
 a:Option Addr
 n:Nat
 c:Nat
def Sl.v (s:Sl):Value:=.slice s.a s.n s.c
def Sl.nil:Sl:=⟨none,0,0⟩
structure Ag where
 a:Int
 b:Int
 c:Int
 p:Int
 q:Int
 wl:Int
 wh:Int
 wb:Bool
 wm:Int
 wv:Bool
 wp:Sl
 ws:Sl
 sp:Sl
 pr:Sl
 pa:Sl
 en:Int
 es:Int
 ew:Int
 k:Int
 key:Int
 val:Int
structure Ou where
 word:Int
 ok:Bool
 n:Int
 m:Int
 v:Int
 ps:Sl
 ss:Sl
 rs:Rs
 l:Sl
def Ou.none:Ou:=⟨0,false,0,0,0,Sl.nil,Sl.nil,Rs.none,Sl.nil⟩
def Ag.cs (g:Ag):Array Value:=#[.int .i64 g.a,.int .i64 g.b,.int .i64 g.c,.int .i64 g.p,.int .i64 g.q,.int .i64 g.wl,.int .i64 g.wh,.bool g.wb,.int .i64 g.wm,.bool g.wv,.slice g.wp.a g.wp.n g.wp.c,.slice g.ws.a g.ws.n g.ws.c,.slice g.sp.a g.sp.n g.sp.c,.slice g.pr.a g.pr.n g.pr.c,.slice g.pa.a g.pa.n g.pa.c,.int .i64 g.en,.int .i64 g.es,.int .i64 g.ew,.int .i64 g.k,.int .i64 g.key,.int .i64 g.val]
def Ou.cs (o:Ou):Array Value:=#[.int .i64 o.word,.bool o.ok,.int .i64 o.n,.int .i64 o.m,.int .i64 o.v,.slice o.ps.a o.ps.n o.ps.c,.slice o.ss.a o.ss.n o.ss.c,.int .i64 o.rs.why,.bool o.rs.found,.int .i64 o.rs.key,.int .i64 o.rs.val,.int .i64 o.rs.n,.slice o.l.a o.l.n o.l.c]
structure Fm where
 proc:Int
 g:Ag
 done:Bool
 o:Ou
 rc:Int
 ld:Int
def Fm.cs (f:Fm) (tp:Sl):Array Value:=#[.int .i64 f.proc,.int .i64 f.g.a,.int .i64 f.g.b,.int .i64 f.g.c,.int .i64 f.g.p,.int .i64 f.g.q,.int .i64 f.g.wl,.int .i64 f.g.wh,.bool f.g.wb,.int .i64 f.g.wm,.bool f.g.wv,.slice f.g.wp.a f.g.wp.n f.g.wp.c,.slice f.g.ws.a f.g.ws.n f.g.ws.c,.slice f.g.sp.a f.g.sp.n f.g.sp.c,.slice f.g.pr.a f.g.pr.n f.g.pr.c,.slice f.g.pa.a f.g.pa.n f.g.pa.c,.int .i64 f.g.en,.int .i64 f.g.es,.int .i64 f.g.ew,.int .i64 f.g.k,.int .i64 f.g.key,.int .i64 f.g.val,.slice tp.a tp.n tp.c,.bool f.done,.int .i64 f.o.word,.bool f.o.ok,.int .i64 f.o.n,.int .i64 f.o.m,.int .i64 f.o.v,.slice f.o.ps.a f.o.ps.n f.o.ps.c,.slice f.o.ss.a f.o.ss.n f.o.ss.c,.int .i64 f.o.rs.why,.bool f.o.rs.found,.int .i64 f.o.rs.key,.int .i64 f.o.rs.val,.int .i64 f.o.rs.n,.slice f.o.l.a f.o.l.n f.o.l.c,.int .i64 f.rc,.int .i64 f.ld]
theorem at_load63 {P:Program} {ops:Array Oper} {Q:Exit->Act->World->Prop} {d:Option Tmp} {x:Operand} {ty:TypeId} {pos:String} {after:Array Edge} {rest:List Oper} {a:Act} {w:World}
  (h:Stop (wpList P ops Q ({ dst:=d,op:=.load 63 x,type:=ty,pos:=pos,after:=after,guard:=none } :: rest) a w)):wpList P ops Q ({ dst:=d,op:=.load 63 x,type:=ty,pos:=pos,after:=after,guard:=none } :: rest) a w:=h.o
theorem at_store63 {P:Program} {ops:Array Oper} {Q:Exit->Act->World->Prop} {d:Option Tmp} {x y:Operand} {ty:TypeId} {pos:String} {after:Array Edge} {rest:List Oper} {a:Act} {w:World}
  (h:Stop (wpList P ops Q ({ dst:=d,op:=.store 63 x y,type:=ty,pos:=pos,after:=after,guard:=none } :: rest) a w)):wpList P ops Q ({ dst:=d,op:=.store 63 x y,type:=ty,pos:=pos,after:=after,guard:=none } :: rest) a w:=h.o
theorem at_load54 {P:Program} {ops:Array Oper} {Q:Exit->Act->World->Prop} {d:Option Tmp} {x:Operand} {ty:TypeId} {pos:String} {after:Array Edge} {rest:List Oper} {a:Act} {w:World}
  (h:Stop (wpList P ops Q ({ dst:=d,op:=.load 54 x,type:=ty,pos:=pos,after:=after,guard:=none } :: rest) a w)):wpList P ops Q ({ dst:=d,op:=.load 54 x,type:=ty,pos:=pos,after:=after,guard:=none } :: rest) a w:=h.o
theorem at_store54 {P:Program} {ops:Array Oper} {Q:Exit->Act->World->Prop} {d:Option Tmp} {x y:Operand} {ty:TypeId} {pos:String} {after:Array Edge} {rest:List Oper} {a:Act} {w:World}
  (h:Stop (wpList P ops Q ({ dst:=d,op:=.store 54 x y,type:=ty,pos:=pos,after:=after,guard:=none } :: rest) a w)):wpList P ops Q ({ dst:=d,op:=.store 54 x y,type:=ty,pos:=pos,after:=after,guard:=none } :: rest) a w:=h.o
theorem turned_setRow (w:World) (g:Nat) (cs:Array Value):Td (fun k=>k=g) w (w.setRow g cs):=
 ⟨rfl,rfl,rfl,by simp,fun k _ hn=>setRow_other w g k cs hn⟩
theorem info63:(Tryz.prog.info? 63).map (·.size)=some 13:=by kernel_rfl
theorem info54:(Tryz.prog.info? 54).map (·.size)=some 21:=by kernel_rfl
theorem frm_cells {W:World} {f:Nat} {fm:Fm} {tp:Sl} (h:W.heap[f]? = some (.cells (fm.cs tp) 65)):W.cell? ⟨f,0,none⟩=some (.int .i64 fm.proc)/\W.cell? ⟨f,1,none⟩=some (.int .i64 fm.g.a)/\W.cell? ⟨f,2,none⟩=some (.int .i64 fm.g.b)/\W.cell? ⟨f,3,none⟩=some (.int .i64 fm.g.c)/\W.cell? ⟨f,4,none⟩=some (.int .i64 fm.g.p)/\W.cell? ⟨f,5,none⟩=some (.int .i64 fm.g.q)/\W.cell? ⟨f,6,none⟩=some (.int .i64 fm.g.wl)/\W.cell? ⟨f,7,none⟩=some (.int .i64 fm.g.wh)/\W.cell? ⟨f,8,none⟩=some (.bool fm.g.wb)/\W.cell? ⟨f,9,none⟩=some (.int .i64 fm.g.wm)/\W.cell? ⟨f,10,none⟩=some (.bool fm.g.wv)/\W.cell? ⟨f,11,none⟩=some (.slice fm.g.wp.a fm.g.wp.n fm.g.wp.c)/\W.cell? ⟨f,12,none⟩=some (.slice fm.g.ws.a fm.g.ws.n fm.g.ws.c)/\W.cell? ⟨f,13,none⟩=some (.slice fm.g.sp.a fm.g.sp.n fm.g.sp.c)/\W.cell? ⟨f,14,none⟩=some (.slice fm.g.pr.a fm.g.pr.n fm.g.pr.c)/\W.cell? ⟨f,15,none⟩=some (.slice fm.g.pa.a fm.g.pa.n fm.g.pa.c)/\W.cell? ⟨f,16,none⟩=some (.int .i64 fm.g.en)/\W.cell? ⟨f,17,none⟩=some (.int .i64 fm.g.es)/\W.cell? ⟨f,18,none⟩=some (.int .i64 fm.g.ew)/\W.cell? ⟨f,19,none⟩=some (.int .i64 fm.g.k)/\W.cell? ⟨f,20,none⟩=some (.int .i64 fm.g.key)/\W.cell? ⟨f,21,none⟩=some (.int .i64 fm.g.val)/\W.cell? ⟨f,22,none⟩=some (.slice tp.a tp.n tp.c)/\W.cell? ⟨f,23,none⟩=some (.bool fm.done)/\W.cell? ⟨f,24,none⟩=some (.int .i64 fm.o.word)/\W.cell? ⟨f,25,none⟩=some (.bool fm.o.ok)/\W.cell? ⟨f,26,none⟩=some (.int .i64 fm.o.n)/\W.cell? ⟨f,27,none⟩=some (.int .i64 fm.o.m)/\W.cell? ⟨f,28,none⟩=some (.int .i64 fm.o.v)/\W.cell? ⟨f,29,none⟩=some (.slice fm.o.ps.a fm.o.ps.n fm.o.ps.c)/\W.cell? ⟨f,30,none⟩=some (.slice fm.o.ss.a fm.o.ss.n fm.o.ss.c)/\W.cell? ⟨f,31,none⟩=some (.int .i64 fm.o.rs.why)/\W.cell? ⟨f,32,none⟩=some (.bool fm.o.rs.found)/\W.cell? ⟨f,33,none⟩=some (.int .i64 fm.o.rs.key)/\W.cell? ⟨f,34,none⟩=some (.int .i64 fm.o.rs.val)/\W.cell? ⟨f,35,none⟩=some (.int .i64 fm.o.rs.n)/\W.cell? ⟨f,36,none⟩=some (.slice fm.o.l.a fm.o.l.n fm.o.l.c)/\W.cell? ⟨f,37,none⟩=some (.int .i64 fm.rc)/\W.cell? ⟨f,38,none⟩=some (.int .i64 fm.ld)/\∀ i,W.frozen? ⟨f,i,none⟩=false:=by
 refine ⟨?_,?_,?_,?_,?_,?_,?_,?_,?_,?_,?_,?_,?_,?_,?_,?_,?_,?_,?_,?_,?_,?_,?_,?_,?_,?_,?_,?_,?_,?_,?_,?_,?_,?_,?_,?_,?_,?_,?_,?_⟩ <;> simp [World.cell?,World.frozen?,h,Fm.cs]
theorem ou_cells {W:World} {f:Nat} {o:Ou} (h:W.heap[f]? = some (.cells o.cs 63)):W.cell? ⟨f,0,none⟩=some (.int .i64 o.word)/\W.cell? ⟨f,1,none⟩=some (.bool o.ok)/\W.cell? ⟨f,2,none⟩=some (.int .i64 o.n)/\W.cell? ⟨f,3,none⟩=some (.int .i64 o.m)/\W.cell? ⟨f,4,none⟩=some (.int .i64 o.v)/\W.cell? ⟨f,5,none⟩=some (.slice o.ps.a o.ps.n o.ps.c)/\W.cell? ⟨f,6,none⟩=some (.slice o.ss.a o.ss.n o.ss.c)/\W.cell? ⟨f,7,none⟩=some (.int .i64 o.rs.why)/\W.cell? ⟨f,8,none⟩=some (.bool o.rs.found)/\W.cell? ⟨f,9,none⟩=some (.int .i64 o.rs.key)/\W.cell? ⟨f,10,none⟩=some (.int .i64 o.rs.val)/\W.cell? ⟨f,11,none⟩=some (.int .i64 o.rs.n)/\W.cell? ⟨f,12,none⟩=some (.slice o.l.a o.l.n o.l.c)/\∀ i,W.frozen? ⟨f,i,none⟩=false:=by
 refine ⟨?_,?_,?_,?_,?_,?_,?_,?_,?_,?_,?_,?_,?_,?_⟩ <;> simp [World.cell?,World.frozen?,h,Ou.cs]
theorem ag_cells {W:World} {f:Nat} {g:Ag} (h:W.heap[f]? = some (.cells g.cs 54)):W.cell? ⟨f,0,none⟩=some (.int .i64 g.a)/\W.cell? ⟨f,1,none⟩=some (.int .i64 g.b)/\W.cell? ⟨f,2,none⟩=some (.int .i64 g.c)/\W.cell? ⟨f,3,none⟩=some (.int .i64 g.p)/\W.cell? ⟨f,4,none⟩=some (.int .i64 g.q)/\W.cell? ⟨f,5,none⟩=some (.int .i64 g.wl)/\W.cell? ⟨f,6,none⟩=some (.int .i64 g.wh)/\W.cell? ⟨f,7,none⟩=some (.bool g.wb)/\W.cell? ⟨f,8,none⟩=some (.int .i64 g.wm)/\W.cell? ⟨f,9,none⟩=some (.bool g.wv)/\W.cell? ⟨f,10,none⟩=some (.slice g.wp.a g.wp.n g.wp.c)/\W.cell? ⟨f,11,none⟩=some (.slice g.ws.a g.ws.n g.ws.c)/\W.cell? ⟨f,12,none⟩=some (.slice g.sp.a g.sp.n g.sp.c)/\W.cell? ⟨f,13,none⟩=some (.slice g.pr.a g.pr.n g.pr.c)/\W.cell? ⟨f,14,none⟩=some (.slice g.pa.a g.pa.n g.pa.c)/\W.cell? ⟨f,15,none⟩=some (.int .i64 g.en)/\W.cell? ⟨f,16,none⟩=some (.int .i64 g.es)/\W.cell? ⟨f,17,none⟩=some (.int .i64 g.ew)/\W.cell? ⟨f,18,none⟩=some (.int .i64 g.k)/\W.cell? ⟨f,19,none⟩=some (.int .i64 g.key)/\W.cell? ⟨f,20,none⟩=some (.int .i64 g.val):=by
 refine ⟨?_,?_,?_,?_,?_,?_,?_,?_,?_,?_,?_,?_,?_,?_,?_,?_,?_,?_,?_,?_,?_⟩ <;> simp [World.cell?,h,Ag.cs]
set_option maxRecDepth 100000 in
set_option maxHeartbeats 2000000 in
theorem high_w (N:Nat) (W:World) (f r:Nat) (fm:Fm) (tp:Sl) (s:Rn) (hf:W.heap[f]? = some (.cells (fm.cs tp) 65)) (h24:fm.proc=24) (hk1:1<=fm.g.k) (hk3:fm.g.k<=3) (h:RunAt X W r s) (ho:s.ok) (hX:∀ k,W.heap.size<=k->X k) (ik:I64 fm.g.key) (hN:s.left < N) (hl:s.left<=16384) (x:Rs) (sE:Rn) (he:Rn.changeL N fm.g.k fm.g.key fm.g.val (s.left+1) s=(x,sE)) :
  Calls Tryz.prog 105 #[.pointer (some ⟨f,0,none⟩),.pointer (some ⟨r,0,none⟩)] W fun e W'=>∃ l:Sl,e=.returned (.agg (Ou.cs { Ou.none with rs:=x,l:=l }))/\Ans X W r s sE l.v [] W':=by
 obtain ⟨A1,hA1⟩:∃ V,W.alloc (.cells #[.int .i64 0,.bool false,.int .i64 0,.int .i64 0,.int .i64 0,.slice none 0 0,.slice none 0 0,.int .i64 0,.bool false,.int .i64 0,.int .i64 0,.int .i64 0,.slice none 0 0] 63)=V:=⟨_,rfl⟩;obtain ⟨A2,hA2⟩:∃ V,A1.alloc (.cells #[.int .i64 0,.int .i64 0,.int .i64 0,.int .i64 0,.int .i64 0,.int .i64 0,.int .i64 0,.bool false,.int .i64 0,.bool false,.slice none 0 0,.slice none 0 0,.slice none 0 0,.slice none 0 0,.slice none 0 0,.int .i64 0,.int .i64 0,.int .i64 0,.int .i64 0,.int .i64 0,.int .i64 0] 54)=V:=⟨_,rfl⟩;obtain ⟨mo,hmo⟩:∃ m,W.heap.size=m:=⟨_,rfl⟩;obtain ⟨A3,hA3⟩:∃ V,A2.setRow (mo+1) fm.g.cs=V:=⟨_,rfl⟩;obtain ⟨V,hV⟩:∃ V,A3.alloc (.cells #[.int .i64 0,.bool false,.int .i64 0,.int .i64 0,.int .i64 0,.slice none 0 0,.slice none 0 0,.int .i64 0,.bool false,.int .i64 0,.int .i64 0,.int .i64 0,.slice none 0 0] 63)=V:=⟨_,rfl⟩;have k1:Kept W A1:=by rw [<- hA1];exact Td.alloc _ _ _
 have k2:Kept A1 A2:=by rw [<- hA2];exact Td.alloc _ _ _
 have t3:Td (fun k=>k=mo+1) A2 A3:=by rw [<- hA3];exact turned_setRow _ _ _
 have k4:Kept A3 V:=by rw [<- hV];exact Td.alloc _ _ _
 have z1:A1.heap.size=mo+1:=by rw [<- hA1,<- hmo];simp
 have z2:A2.heap.size=mo+2:=by rw [<- hA2];simp;omega
 have z3:A3.heap.size=mo+2:=by rw [<- hA3];simp;omega
 have z4:V.heap.size=mo+3:=by rw [<- hV];simp;omega
 have y2:A2.heap[mo+1]? = some (.cells #[.int .i64 0,.int .i64 0,.int .i64 0,.int .i64 0,.int .i64 0,.int .i64 0,.int .i64 0,.bool false,.int .i64 0,.bool false,.slice none 0 0,.slice none 0 0,.slice none 0 0,.slice none 0 0,.slice none 0 0,.int .i64 0,.int .i64 0,.int .i64 0,.int .i64 0,.int .i64 0,.int .i64 0] 54):=by rw [<- hA2,<- z1];exact heap_new _ _
 have y3:A3.heap[mo+1]? = some (.cells fm.g.cs 54):=by rw [<- hA3];exact setRow_heap A2 _ _ _ _ _ y2
 have hlt:=h.lt;have hft:=(Array.getElem?_eq_some_iff.1 hf).1;have f1:A1.heap[f]? = some (.cells (fm.cs tp) 65):=k1.heap hf id;have f3:V.heap[f]? = some (.cells (fm.cs tp) 65):=k4.heap (t3.heap (k2.heap f1 id) (fun e=>by omega)) id;have y0:A1.heap[mo]? = some (.cells #[.int .i64 0,.bool false,.int .i64 0,.int .i64 0,.int .i64 0,.slice none 0 0,.slice none 0 0,.int .i64 0,.bool false,.int .i64 0,.int .i64 0,.int .i64 0,.slice none 0 0] 63):=by rw [<- hA1,<- hmo];exact heap_new _ _
 have b0:V.heap[mo]? = some (.cells #[.int .i64 0,.bool false,.int .i64 0,.int .i64 0,.int .i64 0,.slice none 0 0,.slice none 0 0,.int .i64 0,.bool false,.int .i64 0,.int .i64 0,.int .i64 0,.slice none 0 0] 63):=k4.heap (t3.heap (k2.heap y0 id) (fun e=>by omega)) id;have b1:V.heap[mo+1]? = some (.cells fm.g.cs 54):=k4.heap y3 id;have b2:V.heap[mo+2]? = some (.cells #[.int .i64 0,.bool false,.int .i64 0,.int .i64 0,.int .i64 0,.slice none 0 0,.slice none 0 0,.int .i64 0,.bool false,.int .i64 0,.int .i64 0,.int .i64 0,.slice none 0 0] 63):=by rw [<- hV,<- z3];exact heap_new _ _
 have kV3:Kept W A3:=((k1.trans k2).then t3).mono (fun k hk e=>by omega);have kV:Kept W V:=kV3.trans k4;have RG:Hid (A1.rangeAt f 1 fm.g.cs.toList):=gh (by
  obtain ⟨_,g0,g1,g2,g3,g4,g5,g6,g7,g8,g9,g10,g11,g12,g13,g14,g15,g16,g17,g18,g19,g20,_,_,_,_,_,_,_,_,_,_,_,_,_,_,_,_,_,_⟩:=frm_cells f1;intro j v hv;have hj:j < 21:=by have:=(List.getElem?_eq_some_iff.1 hv).1;simpa [Ag.cs] using this
  rcases j with _ | _ | _ | _ | _ | _ | _ | _ | _ | _ | _ | _ | _ | _ | _ | _ | _ | _ | _ | _ | _ | j
  all_goals first | (simp [Ag.cs] at hv;subst hv;assumption) | omega)
 have KV:=gh kV;have HA1:=gh hA1;have HA2:=gh hA2;have HA3:=gh hA3;have HV:=gh hV;have HS:=gh (And.intro z1 (And.intro z2 z3));have Y2:=gh y2;have HRM:Hid (r < mo/\W.heap.size=mo/\V.heap.size=mo+3):=gh ⟨by omega,hmo,z4⟩;have B0:=gh b0;have B2:=gh b2;obtain ⟨Y,hYd⟩:∃ Y:Nat->Prop,Y=fun k=>X k/\k≠mo/\k≠mo+2:=⟨_,rfl⟩;have HYX:Hid (∀ k,Y k->X k):=gh (by rw [hYd];exact fun k h=>h.1);have HYM:Hid (¬ Y mo/\¬ Y (mo+2)):=gh (by rw [hYd];exact ⟨fun h=>h.2.1 rfl,fun h=>h.2.2 rfl⟩);have H:Hid (RunAt Y V r s):=gh ((h.to (Y:=Y) (by rw [hYd];exact fun k a b=>⟨a,by omega,by omega⟩)).kept kV);have HY:Hid (∀ k,V.heap.size<=k->Y k):=gh (by rw [hYd];exact fun k h=>⟨hX k (by omega),by omega,by omega⟩);have OK:=gh ho;have IK:=gh ik;have HN:=gh hN;have HL:=gh hl;have HE:=gh he;have HK:=gh (And.intro hk1 hk3);have f3':A3.heap[f]? = some (.cells (fm.cs tp) 65):=t3.heap (k2.heap f1 id) (fun e=>by omega);have c0:∀ o,(A3.alloc o).cell? ⟨f,0,none⟩=some (.int .i64 24):=fun o=>by have:=(frm_cells f3').1;rw [h24] at this;exact (Kept.alloc (Kept.refl A3) o).cell this id
 obtain ⟨_,a1',_,_,_,_,_,_,_,_,_,_,_,_,_,_,_,_,a18',a19',a20'⟩:=ag_cells y3;have a1:∀ o,(A3.alloc o).cell? ⟨mo+1,1,none⟩=some (.int .i64 fm.g.b):=fun o=>(Kept.alloc (Kept.refl A3) o).cell a1' id;have a18:∀ o,(A3.alloc o).cell? ⟨mo+1,18,none⟩=some (.int .i64 fm.g.k):=fun o=>(Kept.alloc (Kept.refl A3) o).cell a18' id;have a19:∀ o,(A3.alloc o).cell? ⟨mo+1,19,none⟩=some (.int .i64 fm.g.key):=fun o=>(Kept.alloc (Kept.refl A3) o).cell a19' id;have a20:∀ o,(A3.alloc o).cell? ⟨mo+1,20,none⟩=some (.int .i64 fm.g.val):=fun o=>(Kept.alloc (Kept.refl A3) o).cell a20' id;clear a1' a18' a19' a20' f3';have CT:=change_r N V r s fm.g.k fm.g.key fm.g.val H.o OK.o HY.o IK.o HN.o HL.o x sE HE.o;obtain ⟨x0,x1,x2,x3,x4⟩:=x;unfold Rs.cs at CT;dsimp only at CT;have HCT:Hid (Calls Tryz.prog 135 #[.pointer (some ⟨r,0,none⟩),.agg #[.int .i64 fm.g.k,.int .i64 fm.g.key,.int .i64 fm.g.val]] V fun e W'=>∃ l:Sl,e=.returned (.agg #[.int .i64 x0,.bool x1,.int .i64 x2,.int .i64 x3,.int .i64 x4,.slice l.a l.n l.c])/\Ans Y V r s sE l.v [] W'):=gh (CT.mono (by
  rintro e W' ⟨rfl,G⟩;exact ⟨Sl.nil,rfl,G,PRow.nil _ _ _,by simp⟩))
 have q1:decide (fm.g.k < 1)=false:=by simp;exact hk1
 have q3:decide (3 < fm.g.k)=false:=by simp;exact hk3
 clear h ho hX ik hN hl he k1 k2 t3 k4 kV3 z1 z2 z3 z4 y0 y2 y3 hlt hft f1 f3 b0 b1 b2 kV hA1 hA2 hA3 hV hYd CT hk1 hk3 hf;go_enter Tryz.func105,Tryz.ntmps105;go_wp2_with (with_reducible refine at_load54 ?_);refine ⟨?_⟩;rw [HA1.o];refine wpList_load_mid rfl 54 _ rfl f 1 rfl fm.g.cs.toList _ RG.o Tryz.underlying54 rfl (by simpa [Ag.cs] using info54) ?_;go_wp2_with (with_reducible refine at_store54 ?_);refine ⟨?_⟩;rw [HA2.o,HS.o.1];refine wpList_store_row rfl 54 _ _ rfl (mo+1) fm.g.cs.toList.toArray rfl rfl 54 _ Y2.o (by simpa [Ag.cs] using info54) (by simp [Ag.cs]) (by simp [Ag.cs,Value.oneCell']) ?_;rw [show (fm.g.cs.toList.toArray)=fm.g.cs from by simp,HA3.o];have HS3:=HS.o.2.2;go_wp2_with (fail);clear HS3;rw [HV.o];refine HCT.o.mono ?_;rintro e U ⟨l,rfl,G⟩;have HG:=gh G;have u0:=G.went.turned.heap B0.o (fun e=>by have:=HRM.o;omega);have u2:=G.went.turned.heap B2.o (fun e=>by have:=HRM.o;omega);have U0:=gh u0;have U2:=gh u2;obtain ⟨d0,d1,d2,d3,d4,d5,d6,d7,d8,d9,d10,d11,d12,df⟩:=ou_cells (o:=Ou.none) u2;unfold Ou.none Sl.nil Rs.none at *;dsimp only at *;have f7:=df 7;have f8:=df 8;have f9:=df 9;have f10:=df 10;have f11:=df 11;have f12:=df 12;clear u0 u2 df G c0 HCT a1 a18 a19 a20 d0 d1 d2 d3 d4 d5 d6;go_wp2_with (with_reducible refine at_load63 ?_);refine ⟨?_⟩;obtain ⟨U6,hU6⟩:∃ U6,((((((U.setCell ⟨mo+2,7,none⟩ (.int .i64 x0)).setCell ⟨mo+2,8,none⟩ (.bool x1)).setCell ⟨mo+2,9,none⟩ (.int .i64 x2)).setCell ⟨mo+2,10,none⟩ (.int .i64 x3)).setCell ⟨mo+2,11,none⟩ (.int .i64 x4)).setCell ⟨mo+2,12,none⟩ (.slice l.a l.n l.c))=U6:=⟨_,rfl⟩;rw [hU6];have T6:Td (fun k=>k=mo+2) U U6:=by rw [<- hU6];exact putL_turned (mo+2) [_,_,_,_,_,_] U 7
 have w2:U6.heap[mo+2]? = some (.cells #[.int .i64 0,.bool false,.int .i64 0,.int .i64 0,.int .i64 0,.slice none 0 0,.slice none 0 0,.int .i64 x0,.bool x1,.int .i64 x2,.int .i64 x3,.int .i64 x4,.slice l.a l.n l.c] 63):=by
  rw [<- hU6];have hb:=U2.o;simp [World.setCell,Array.getElem?_modify,hb]
 have w0:=T6.heap U0.o (fun e=>by omega);clear hU6;refine wpList_load_row rfl 63 _ rfl (mo+2) rfl 63 _ _ _ w2 Tryz.underlying63 rfl info63 ?_;refine wpList_store_row rfl 63 _ _ rfl mo _ rfl rfl 63 _ w0 info63 rfl (by simp [Value.oneCell']) ?_;obtain ⟨U7,hU7⟩:∃ U7,U6.setRow mo #[.int .i64 0,.bool false,.int .i64 0,.int .i64 0,.int .i64 0,.slice none 0 0,.slice none 0 0,.int .i64 x0,.bool x1,.int .i64 x2,.int .i64 x3,.int .i64 x4,.slice l.a l.n l.c]=U7:=⟨_,rfl⟩;rw [hU7];have w7:U7.heap[mo]? = some (.cells #[.int .i64 0,.bool false,.int .i64 0,.int .i64 0,.int .i64 0,.slice none 0 0,.slice none 0 0,.int .i64 x0,.bool x1,.int .i64 x2,.int .i64 x3,.int .i64 x4,.slice l.a l.n l.c] 63):=by rw [<- hU7];exact setRow_heap U6 mo _ _ _ _ w0
 have T7:Td (fun k=>k=mo) U6 U7:=by rw [<- hU7];exact turned_setRow _ _ _
 have W7:=gh w7;clear w7 hU7 w0 w2;go_wp2;refine bodyPost_ret (results_cell_row rfl _ _ mo 63 _ _ _ rfl W7.o Tryz.underlying63 rfl info63) rfl ?_;refine ⟨l,rfl,(((HG.o.went.behind KV.o).other T6 HYM.o.2 (by have:=HRM.o;omega)).other T7 HYM.o.1 (by have:=HRM.o;omega)).to HYX.o,?_,HG.o.len⟩;have hr:=HG.o.row;refine PRow.low (n₀:=V.heap.size) ((hr.turned T6 (fun g e e'=>?_)).turned T7 (fun g e e'=>?_)) KV.o.size
 ·have:=hr.from g e;have:=HRM.o;omega
 ·have:=hr.from g e;have:=HRM.o;omega
set_option maxRecDepth 100000 in
set_option maxHeartbeats 2000000 in
theorem high_q (N:Nat) (W:World) (f r:Nat) (fm:Fm) (tp:Sl) (s:Rn) (hf:W.heap[f]? = some (.cells (fm.cs tp) 65)) (h24:fm.proc=25) (hk1:4<=fm.g.k) (hk3:fm.g.k<=10) (hb1:1<=fm.g.b) (hb2:fm.g.b<=64) (h:RunAt X W r s) (ho:s.ok) (hX:∀ k,W.heap.size<=k->X k) (ik:I64 fm.g.key) (iv:I64 fm.g.val) (hN:s.left < N) (hl:s.left<=16384) (x:Rs) (L:List (Int × Int)) (sE:Rn) (he:s.queryR N fm.g.k fm.g.key fm.g.val fm.g.b=((x,L),sE)) :
  Calls Tryz.prog 105 #[.pointer (some ⟨f,0,none⟩),.pointer (some ⟨r,0,none⟩)] W fun e W'=>∃ l:Sl,e=.returned (.agg (Ou.cs { Ou.none with rs:=x,l:=l }))/\Ans X W r s sE l.v L W':=by
 obtain ⟨A1,hA1⟩:∃ V,W.alloc (.cells #[.int .i64 0,.bool false,.int .i64 0,.int .i64 0,.int .i64 0,.slice none 0 0,.slice none 0 0,.int .i64 0,.bool false,.int .i64 0,.int .i64 0,.int .i64 0,.slice none 0 0] 63)=V:=⟨_,rfl⟩;obtain ⟨A2,hA2⟩:∃ V,A1.alloc (.cells #[.int .i64 0,.int .i64 0,.int .i64 0,.int .i64 0,.int .i64 0,.int .i64 0,.int .i64 0,.bool false,.int .i64 0,.bool false,.slice none 0 0,.slice none 0 0,.slice none 0 0,.slice none 0 0,.slice none 0 0,.int .i64 0,.int .i64 0,.int .i64 0,.int .i64 0,.int .i64 0,.int .i64 0] 54)=V:=⟨_,rfl⟩;obtain ⟨mo,hmo⟩:∃ m,W.heap.size=m:=⟨_,rfl⟩;obtain ⟨A3,hA3⟩:∃ V,A2.setRow (mo+1) fm.g.cs=V:=⟨_,rfl⟩;obtain ⟨V,hV⟩:∃ V,A3.alloc (.cells #[.int .i64 0,.bool false,.int .i64 0,.int .i64 0,.int .i64 0,.slice none 0 0,.slice none 0 0,.int .i64 0,.bool false,.int .i64 0,.int .i64 0,.int .i64 0,.slice none 0 0] 63)=V:=⟨_,rfl⟩;have k1:Kept W A1:=by rw [<- hA1];exact Td.alloc _ _ _
 have k2:Kept A1 A2:=by rw [<- hA2];exact Td.alloc _ _ _
 have t3:Td (fun k=>k=mo+1) A2 A3:=by rw [<- hA3];exact turned_setRow _ _ _
 have k4:Kept A3 V:=by rw [<- hV];exact Td.alloc _ _ _
 have z1:A1.heap.size=mo+1:=by rw [<- hA1,<- hmo];simp
 have z2:A2.heap.size=mo+2:=by rw [<- hA2];simp;omega
 have z3:A3.heap.size=mo+2:=by rw [<- hA3];simp;omega
 have z4:V.heap.size=mo+3:=by rw [<- hV];simp;omega
 have y2:A2.heap[mo+1]? = some (.cells #[.int .i64 0,.int .i64 0,.int .i64 0,.int .i64 0,.int .i64 0,.int .i64 0,.int .i64 0,.bool false,.int .i64 0,.bool false,.slice none 0 0,.slice none 0 0,.slice none 0 0,.slice none 0 0,.slice none 0 0,.int .i64 0,.int .i64 0,.int .i64 0,.int .i64 0,.int .i64 0,.int .i64 0] 54):=by rw [<- hA2,<- z1];exact heap_new _ _
 have y3:A3.heap[mo+1]? = some (.cells fm.g.cs 54):=by rw [<- hA3];exact setRow_heap A2 _ _ _ _ _ y2
 have hlt:=h.lt;have hft:=(Array.getElem?_eq_some_iff.1 hf).1;have f1:A1.heap[f]? = some (.cells (fm.cs tp) 65):=k1.heap hf id;have f3:V.heap[f]? = some (.cells (fm.cs tp) 65):=k4.heap (t3.heap (k2.heap f1 id) (fun e=>by omega)) id;have y0:A1.heap[mo]? = some (.cells #[.int .i64 0,.bool false,.int .i64 0,.int .i64 0,.int .i64 0,.slice none 0 0,.slice none 0 0,.int .i64 0,.bool false,.int .i64 0,.int .i64 0,.int .i64 0,.slice none 0 0] 63):=by rw [<- hA1,<- hmo];exact heap_new _ _
 have b0:V.heap[mo]? = some (.cells #[.int .i64 0,.bool false,.int .i64 0,.int .i64 0,.int .i64 0,.slice none 0 0,.slice none 0 0,.int .i64 0,.bool false,.int .i64 0,.int .i64 0,.int .i64 0,.slice none 0 0] 63):=k4.heap (t3.heap (k2.heap y0 id) (fun e=>by omega)) id;have b1:V.heap[mo+1]? = some (.cells fm.g.cs 54):=k4.heap y3 id;have b2:V.heap[mo+2]? = some (.cells #[.int .i64 0,.bool false,.int .i64 0,.int .i64 0,.int .i64 0,.slice none 0 0,.slice none 0 0,.int .i64 0,.bool false,.int .i64 0,.int .i64 0,.int .i64 0,.slice none 0 0] 63):=by rw [<- hV,<- z3];exact heap_new _ _
 have kV3:Kept W A3:=((k1.trans k2).then t3).mono (fun k hk e=>by omega);have kV:Kept W V:=kV3.trans k4;have RG:Hid (A1.rangeAt f 1 fm.g.cs.toList):=gh (by
  obtain ⟨_,g0,g1,g2,g3,g4,g5,g6,g7,g8,g9,g10,g11,g12,g13,g14,g15,g16,g17,g18,g19,g20,_,_,_,_,_,_,_,_,_,_,_,_,_,_,_,_,_,_⟩:=frm_cells f1;intro j v hv;have hj:j < 21:=by have:=(List.getElem?_eq_some_iff.1 hv).1;simpa [Ag.cs] using this
  rcases j with _ | _ | _ | _ | _ | _ | _ | _ | _ | _ | _ | _ | _ | _ | _ | _ | _ | _ | _ | _ | _ | j
  all_goals first | (simp [Ag.cs] at hv;subst hv;assumption) | omega)
 have KV:=gh kV;have HA1:=gh hA1;have HA2:=gh hA2;have HA3:=gh hA3;have HV:=gh hV;have HS:=gh (And.intro z1 (And.intro z2 z3));have Y2:=gh y2;have HRM:Hid (r < mo/\W.heap.size=mo/\V.heap.size=mo+3):=gh ⟨by omega,hmo,z4⟩;have B0:=gh b0;have B2:=gh b2;obtain ⟨Y,hYd⟩:∃ Y:Nat->Prop,Y=fun k=>X k/\k≠mo/\k≠mo+2:=⟨_,rfl⟩;have HYX:Hid (∀ k,Y k->X k):=gh (by rw [hYd];exact fun k h=>h.1);have HYM:Hid (¬ Y mo/\¬ Y (mo+2)):=gh (by rw [hYd];exact ⟨fun h=>h.2.1 rfl,fun h=>h.2.2 rfl⟩);have H:Hid (RunAt Y V r s):=gh ((h.to (Y:=Y) (by rw [hYd];exact fun k a b=>⟨a,by omega,by omega⟩)).kept kV);have HY:Hid (∀ k,V.heap.size<=k->Y k):=gh (by rw [hYd];exact fun k h=>⟨hX k (by omega),by omega,by omega⟩);have OK:=gh ho;have IK:=gh ik;have HN:=gh hN;have HL:=gh hl;have HE:=gh he;have HK:=gh (And.intro hk1 hk3);have f3':A3.heap[f]? = some (.cells (fm.cs tp) 65):=t3.heap (k2.heap f1 id) (fun e=>by omega);have c0:∀ o,(A3.alloc o).cell? ⟨f,0,none⟩=some (.int .i64 25):=fun o=>by have:=(frm_cells f3').1;rw [h24] at this;exact (Kept.alloc (Kept.refl A3) o).cell this id
 obtain ⟨_,a1',_,_,_,_,_,_,_,_,_,_,_,_,_,_,_,_,a18',a19',a20'⟩:=ag_cells y3;have a1:∀ o,(A3.alloc o).cell? ⟨mo+1,1,none⟩=some (.int .i64 fm.g.b):=fun o=>(Kept.alloc (Kept.refl A3) o).cell a1' id;have a18:∀ o,(A3.alloc o).cell? ⟨mo+1,18,none⟩=some (.int .i64 fm.g.k):=fun o=>(Kept.alloc (Kept.refl A3) o).cell a18' id;have a19:∀ o,(A3.alloc o).cell? ⟨mo+1,19,none⟩=some (.int .i64 fm.g.key):=fun o=>(Kept.alloc (Kept.refl A3) o).cell a19' id;have a20:∀ o,(A3.alloc o).cell? ⟨mo+1,20,none⟩=some (.int .i64 fm.g.val):=fun o=>(Kept.alloc (Kept.refl A3) o).cell a20' id;clear a1' a18' a19' a20' f3';have CT:=query_r N V r s fm.g.k fm.g.key fm.g.val fm.g.b H.o OK.o HY.o IK.o iv hb2 HN.o HL.o x L sE HE.o;obtain ⟨x0,x1,x2,x3,x4⟩:=x;unfold Rs.cs at CT;dsimp only at CT;have HCT:Hid (Calls Tryz.prog 136 #[.pointer (some ⟨r,0,none⟩),.agg #[.int .i64 fm.g.k,.int .i64 fm.g.key,.int .i64 fm.g.val],.int .i64 fm.g.b] V fun e W'=>∃ l:Sl,e=.returned (.agg #[.int .i64 x0,.bool x1,.int .i64 x2,.int .i64 x3,.int .i64 x4,.slice l.a l.n l.c])/\Ans Y V r s sE l.v L W'):=gh (CT.mono (by
  rintro e W' ⟨l,rfl,G⟩;obtain ⟨la,lc,hv,_⟩:=G.row.reads;exact ⟨⟨la,L.length,lc⟩,by rw [hv],by rw [show Sl.v ⟨la,L.length,lc⟩=l from hv.symm];exact G⟩))
 have q5:decide (fm.g.b < 1)=false:=by simp;exact hb1
 have q6:decide (64 < fm.g.b)=false:=by simp;exact hb2
 have q1:decide (fm.g.k < 4)=false:=by simp;exact hk1
 have q3:decide (10 < fm.g.k)=false:=by simp;exact hk3
 clear h ho hX ik hN hl he k1 k2 t3 k4 kV3 z1 z2 z3 z4 y0 y2 y3 hlt hft f1 f3 b0 b1 b2 kV hA1 hA2 hA3 hV hYd CT hk1 hk3 hf hb1 hb2 iv;go_enter Tryz.func105,Tryz.ntmps105;go_wp2_with (with_reducible refine at_load54 ?_);refine ⟨?_⟩;rw [HA1.o];refine wpList_load_mid rfl 54 _ rfl f 1 rfl fm.g.cs.toList _ RG.o Tryz.underlying54 rfl (by simpa [Ag.cs] using info54) ?_;go_wp2_with (with_reducible refine at_store54 ?_);refine ⟨?_⟩;rw [HA2.o,HS.o.1];refine wpList_store_row rfl 54 _ _ rfl (mo+1) fm.g.cs.toList.toArray rfl rfl 54 _ Y2.o (by simpa [Ag.cs] using info54) (by simp [Ag.cs]) (by simp [Ag.cs,Value.oneCell']) ?_;rw [show (fm.g.cs.toList.toArray)=fm.g.cs from by simp,HA3.o];have HS3:=HS.o.2.2;go_wp2_with (fail);clear HS3;rw [HV.o];refine HCT.o.mono ?_;rintro e U ⟨l,rfl,G⟩;have HG:=gh G;have u0:=G.went.turned.heap B0.o (fun e=>by have:=HRM.o;omega);have u2:=G.went.turned.heap B2.o (fun e=>by have:=HRM.o;omega);have U0:=gh u0;have U2:=gh u2;obtain ⟨d0,d1,d2,d3,d4,d5,d6,d7,d8,d9,d10,d11,d12,df⟩:=ou_cells (o:=Ou.none) u2;unfold Ou.none Sl.nil Rs.none at *;dsimp only at *;have f7:=df 7;have f8:=df 8;have f9:=df 9;have f10:=df 10;have f11:=df 11;have f12:=df 12;clear u0 u2 df G c0 HCT a1 a18 a19 a20 d0 d1 d2 d3 d4 d5 d6;go_wp2_with (with_reducible refine at_load63 ?_);refine ⟨?_⟩;obtain ⟨U6,hU6⟩:∃ U6,((((((U.setCell ⟨mo+2,7,none⟩ (.int .i64 x0)).setCell ⟨mo+2,8,none⟩ (.bool x1)).setCell ⟨mo+2,9,none⟩ (.int .i64 x2)).setCell ⟨mo+2,10,none⟩ (.int .i64 x3)).setCell ⟨mo+2,11,none⟩ (.int .i64 x4)).setCell ⟨mo+2,12,none⟩ (.slice l.a l.n l.c))=U6:=⟨_,rfl⟩;rw [hU6];have T6:Td (fun k=>k=mo+2) U U6:=by rw [<- hU6];exact putL_turned (mo+2) [_,_,_,_,_,_] U 7
 have w2:U6.heap[mo+2]? = some (.cells #[.int .i64 0,.bool false,.int .i64 0,.int .i64 0,.int .i64 0,.slice none 0 0,.slice none 0 0,.int .i64 x0,.bool x1,.int .i64 x2,.int .i64 x3,.int .i64 x4,.slice l.a l.n l.c] 63):=by
  rw [<- hU6];have hb:=U2.o;simp [World.setCell,Array.getElem?_modify,hb]
 have w0:=T6.heap U0.o (fun e=>by omega);clear hU6;refine wpList_load_row rfl 63 _ rfl (mo+2) rfl 63 _ _ _ w2 Tryz.underlying63 rfl info63 ?_;refine wpList_store_row rfl 63 _ _ rfl mo _ rfl rfl 63 _ w0 info63 rfl (by simp [Value.oneCell']) ?_;obtain ⟨U7,hU7⟩:∃ U7,U6.setRow mo #[.int .i64 0,.bool false,.int .i64 0,.int .i64 0,.int .i64 0,.slice none 0 0,.slice none 0 0,.int .i64 x0,.bool x1,.int .i64 x2,.int .i64 x3,.int .i64 x4,.slice l.a l.n l.c]=U7:=⟨_,rfl⟩;rw [hU7];have w7:U7.heap[mo]? = some (.cells #[.int .i64 0,.bool false,.int .i64 0,.int .i64 0,.int .i64 0,.slice none 0 0,.slice none 0 0,.int .i64 x0,.bool x1,.int .i64 x2,.int .i64 x3,.int .i64 x4,.slice l.a l.n l.c] 63):=by rw [<- hU7];exact setRow_heap U6 mo _ _ _ _ w0
 have T7:Td (fun k=>k=mo) U6 U7:=by rw [<- hU7];exact turned_setRow _ _ _
 have W7:=gh w7;clear w7 hU7 w0 w2;go_wp2;refine bodyPost_ret (results_cell_row rfl _ _ mo 63 _ _ _ rfl W7.o Tryz.underlying63 rfl info63) rfl ?_;refine ⟨l,rfl,(((HG.o.went.behind KV.o).other T6 HYM.o.2 (by have:=HRM.o;omega)).other T7 HYM.o.1 (by have:=HRM.o;omega)).to HYX.o,?_,HG.o.len⟩;have hr:=HG.o.row;refine PRow.low (n₀:=V.heap.size) ((hr.turned T6 (fun g e e'=>?_)).turned T7 (fun g e e'=>?_)) KV.o.size
 ·have:=hr.from g e;have:=HRM.o;omega
 ·have:=hr.from g e;have:=HRM.o;omega
end
section
open Go.Shelf
variable {X:Nat->Prop} {lo:Nat}
theorem results_tmp_cell {P:Program} {fn:Func} {p u:Tmp} {ty:TypeId} (h:fn.results=#[.tmp u,.cell p ty]) (tmps:Array Value) (w:World) (g:Nat) (t:TypeId) (cs:Array Value) (fr:Nat × Nat) (d:TypeDesc)
  (hp:tmps.getD p undef=.pointer (some ⟨g,0,none⟩)) (hg:w.heap[g]? = some (.cells cs t fr))
  (hu:P.underlying ty=some d) (hd:(match d with | .struct _ | .array _ _=>true | _=>false)=true) (hi:(P.info? ty).map (·.size)=some cs.size) :
  (results fn tmps).run P w=.ok (.tuple #[tmps.getD u undef,.agg cs]) w:=by
 have hp':tmps[p]?.getD undef=.pointer (some ⟨g,0,none⟩):=by simpa using hp
 simp [results,h,hp',asAddr,Result.andThen,run_loadVar_row w g t ty cs fr d hg hu hd hi]
def Rn.start (tape:List Int):Rn:=⟨tape,0,false,⟨0,0,0,0,[]⟩,0,0⟩
theorem Rn.start_left (tape:List Int):(Rn.start tape).left=tape.length+1:=by simp [Rn.start,Rn.left]
structure Fm.good (fm:Fm):Prop where
 kind:(fm.proc=24/\1<=fm.g.k/\fm.g.k<=3)∨(fm.proc=25/\(4<=fm.g.k/\fm.g.k<=10)/\1<=fm.g.b/\fm.g.b<=64)
 key:I64 fm.g.key
 val:I64 fm.g.val
def Fm.play (fm:Fm) (tape:List Int):(Rs × List (Int × Int)) × Rn:=
 if fm.proc=24 then
  let z:=Rn.changeL (tape.length+2) fm.g.k fm.g.key fm.g.val (tape.length+2) (Rn.start tape)
  ((z.1,[]),z.2)
 else (Rn.start tape).queryR (tape.length+2) fm.g.k fm.g.key fm.g.val fm.g.b
def Keeps (W:World) (tp:Sl):Nat->Prop:=fun k=>(∃ a,tp.a=some a/\k=a.block)∨W.heap.size<=k
structure Played (W:World) (tp:Sl) (r:Nat) (s s':Rn) (l:Sl) (L:List (Int × Int)) (W':World):Prop where
 run:RunAt (Keeps W tp) W' r s'
 kept:Kept W W'
 row:PRow W' W.heap.size 59 l.v L
 new:W.heap.size<=r
 on:Rn.On s s'
set_option maxRecDepth 100000 in
set_option maxHeartbeats 2000000 in
theorem play_r (W:World) (f:Nat) (fm:Fm) (tp:Sl) (tape:List Int) (hf:W.heap[f]? = some (.cells (fm.cs tp) 65)) (hg:fm.good) (hr:Reads W tp.a tape) (hn:tape.length=tp.n) (hc:tp.n<=tp.c) (hm:tp.n<=16000) (hb:∀ a,tp.a=some a->a.block < W.heap.size) (hi:∀ z ∈ tape,I64 z) (x:Rs) (L:List (Int × Int)) (sE:Rn) (he:fm.play tape=((x,L),sE)) :
  Calls Tryz.prog 66 #[.pointer (some ⟨f,0,none⟩)] W fun e W'=>∃ (r:Nat) (l:Sl),e=.returned (.tuple #[.pointer (some ⟨r,0,none⟩),.agg (Ou.cs { Ou.none with rs:=x,l:=l })])/\Played W tp r (Rn.start tape) sE l L W':=by
 obtain ⟨V,hV⟩:∃ V,(W.alloc (.cells #[.int .i64 0,.bool false,.int .i64 0,.int .i64 0,.int .i64 0,.slice none 0 0,.slice none 0 0,.int .i64 0,.bool false,.int .i64 0,.int .i64 0,.int .i64 0,.slice none 0 0] 63)).alloc (.cells #[.slice tp.a tp.n tp.c,.int .i64 0,.bool false,.int .i64 0,.int .i64 0,.int .i64 0,.int .i64 0,.slice none 0 0,.int .i64 0,.int .i64 0] 116)=V:=⟨_,rfl⟩;obtain ⟨mo,hmo⟩:∃ m,W.heap.size=m:=⟨_,rfl⟩;have kV:Kept W V:=by rw [<- hV];exact (Kept.alloc (Kept.refl W) _).alloc _
 have b0:V.heap[mo]? = some (.cells #[.int .i64 0,.bool false,.int .i64 0,.int .i64 0,.int .i64 0,.slice none 0 0,.slice none 0 0,.int .i64 0,.bool false,.int .i64 0,.int .i64 0,.int .i64 0,.slice none 0 0] 63):=by
  rw [<- hV,<- hmo];exact (Td.alloc (fun _=>False) (W.alloc _) _).heap (heap_new _ _) id
 have b1:V.heap[mo+1]? = some (.cells #[.slice tp.a tp.n tp.c,.int .i64 0,.bool false,.int .i64 0,.int .i64 0,.int .i64 0,.int .i64 0,.slice none 0 0,.int .i64 0,.int .i64 0] 116):=by
  rw [<- hV,<- hmo];exact heap_alloc2_new _ _ _
 have z:V.heap.size=mo+2:=by rw [<- hV,<- hmo];simp
 have hft:=(Array.getElem?_eq_some_iff.1 hf).1;have fV:V.heap[f]? = some (.cells (fm.cs tp) 65):=kV.heap hf id;obtain ⟨Y,hYd⟩:∃ Y:Nat->Prop,Y=fun k=>Keeps W tp k/\k≠mo:=⟨_,rfl⟩;have hRun:RunAt Y V (mo+1) (Rn.start tape):=by
  refine ⟨tp.a,tp.c,none,0,?_,⟨hr.kept kV,fun a e=>⟨⟨?_,?_⟩,?_⟩,(by show tape.length<=maxLen;unfold maxLen;omega)⟩,?_,⟨.inl rfl,(fun _ e=>by cases e),(by simp [Rn.start])⟩,?_,?_,?_⟩
  ·rw [b1]
   have:tape.length=tp.n:=hn
   simp [runCells,Rn.start,this]
  ·rw [hYd];exact ⟨.inl ⟨a,e,rfl⟩,by have:=hb a e;omega⟩
  ·have:=hb a e;omega
  ·have:=hb a e;omega
  ·show tape.length<=tp.c;omega
  ·show 0<=tape.length;omega
  ·show tape.length<=1000000;omega
  ·rw [hYd];exact ⟨.inr (by omega),by omega⟩
 have H:=gh hRun;have KV:=gh kV;have HV:=gh hV;have B0:=gh b0;have HRM:Hid (W.heap.size=mo/\V.heap.size=mo+2):=gh ⟨hmo,z⟩;have HYX:Hid (∀ k,Y k->Keeps W tp k):=gh (by rw [hYd];exact fun k h=>h.1);have HYM:Hid (¬ Y mo):=gh (by rw [hYd];exact fun h=>h.2 rfl);have HY:∀ k,V.heap.size<=k->Y k:=by rw [hYd];exact fun k h=>⟨.inr (by omega),by omega⟩
 have hl1:(Rn.start tape).left < tape.length+2:=by rw [Rn.start_left];omega
 have hl2:(Rn.start tape).left<=16384:=by rw [Rn.start_left];omega
 have ok:(Rn.start tape).ok:=hi;obtain ⟨pz,hpz⟩:∃ pz,fm.proc=pz:=⟨_,rfl⟩;have CT:Calls Tryz.prog 105 #[.pointer (some ⟨f,0,none⟩),.pointer (some ⟨mo+1,0,none⟩)] V fun e W'=>∃ l:Sl,e=.returned (.agg (Ou.cs { Ou.none with rs:=x,l:=l }))/\Ans Y V (mo+1) (Rn.start tape) sE l.v L W':=by
  unfold Fm.play at he;rcases hg.kind with ⟨h24,h1,h2⟩ | ⟨h25,⟨h1,h2⟩,h3,h4⟩
  ·rw [if_pos h24] at he;obtain ⟨y,s',hz⟩:∃ y s',Rn.changeL (tape.length+2) fm.g.k fm.g.key fm.g.val (tape.length+2) (Rn.start tape)=(y,s'):=⟨_,_,rfl⟩;rw [hz] at he;obtain ⟨hz1,rfl⟩:=Prod.mk.inj he;obtain ⟨rfl,rfl⟩:=Prod.mk.inj hz1;exact high_w (tape.length+2) V f (mo+1) fm tp (Rn.start tape) fV h24 h1 h2 hRun ok HY hg.key hl1 hl2 y s' (by rw [Rn.start_left];exact hz)
  ·rw [if_neg (by rw [h25];decide)] at he;exact high_q (tape.length+2) V f (mo+1) fm tp (Rn.start tape) fV h25 h1 h2 h3 h4 hRun ok HY hg.key hg.val hl1 hl2 x L sE he
 have HCT:=gh CT;have p0:pz=24∨pz=25:=by rcases hg.kind with ⟨h,_⟩ | ⟨h,_⟩ <;> omega
 have q1:decide (pz<=16)=false:=by simp;omega
 have q2:decide (pz<=21)=false:=by simp;omega
 have c0:∀ o o',((W.alloc o).alloc o').cell? ⟨f,0,none⟩=some (.int .i64 pz):=fun o o'=>by have:=(frm_cells hf).1;rw [hpz] at this;exact ((Kept.alloc (Kept.refl W) o).alloc o').cell this id
 have c22:∀ o,(W.alloc o).cell? ⟨f,22,none⟩=some (.slice tp.a tp.n tp.c):=fun o=>by
  obtain ⟨_,_,_,_,_,_,_,_,_,_,_,_,_,_,_,_,_,_,_,_,_,_,h22,_⟩:=frm_cells hf;exact (Kept.alloc (Kept.refl W) o).cell h22 id
 clear hf hg hr hn hc hm hb hi he kV b0 b1 z hft fV hYd hRun HY hl1 hl2 ok hpz CT hV;go_enter Tryz.func66,Tryz.ntmps66;go_wp2_with (fail);rw [HV.o];refine HCT.o.mono ?_;rintro e U ⟨l,rfl,G⟩;have HG:=gh G;have u0:=gh (G.went.turned.heap B0.o (fun e=>by omega));clear G HCT c0 c22;go_wp2_with (with_reducible refine at_store63 ?_);refine ⟨?_⟩;refine wpList_store_row rfl 63 _ _ rfl mo _ rfl rfl 63 _ u0.o info63 rfl (by simp [Ou.cs,Value.oneCell']) ?_;obtain ⟨U7,hU7⟩:∃ U7,U.setRow mo (Ou.cs { Ou.none with rs:=x,l:=l })=U7:=⟨_,rfl⟩;rw [hU7];have w7:Hid (U7.heap[mo]? = some (.cells (Ou.cs { Ou.none with rs:=x,l:=l }) 63)):=gh (by rw [<- hU7];exact setRow_heap U mo _ _ _ _ u0.o);have T7:Hid (Td (fun k=>k=mo) U U7):=gh (by rw [<- hU7];exact turned_setRow _ _ _);clear hU7;go_wp2;refine bodyPost_ret (results_tmp_cell rfl _ _ mo 63 _ _ _ rfl w7.o Tryz.underlying63 rfl info63) rfl ?_;refine ⟨mo+1,l,rfl,?_,?_,?_,?_,HG.o.went.on⟩
 ·exact (HG.o.went.at.above T7.o (fun k h1 h2=>HYM.o (h2 ▸ h1))).to (fun k a _=>HYX.o k a)
 ·have t1:Td (fun k=>k=mo∨k=mo+1) W U7:=(KV.o.then HG.o.went.turned).trans T7.o (fun _ e=>.inr e) (fun _ _ e=>.inl e);exact t1.mono (fun k hk e=>by have:=HRM.o;omega)
 ·refine PRow.low (n₀:=V.heap.size) (HG.o.row.turned T7.o (fun g e e'=>?_)) KV.o.size
  have:=HG.o.row.from g e;have:=HRM.o;omega
 ·have:=HRM.o;omega
end
section
open Go.Shelf
variable {X:Nat->Prop} {lo:Nat}
structure Fp where
 k:Int
 key:Int
 val:Int
 b:Int
 tape:List Int
 done:Bool
 rs:Rs
 L:List (Int × Int)
 rc:Int
 ld:Int
namespace Fp
def fm (p:Fp) (l:Sl):Fm:=⟨if p.k<=3 then 24 else 25,⟨0,p.b,0,0,0,0,0,false,0,false,Sl.nil,Sl.nil,Sl.nil,Sl.nil,Sl.nil,0,0,0,p.k,p.key,p.val⟩,p.done,{ Ou.none with rs:=p.rs,l:=l },p.rc,p.ld⟩
structure good (p:Fp):Prop where
 kind:1<=p.k/\p.k<=10
 bud:1<=p.b/\p.b<=64
 key:I64 p.key
 val:I64 p.val
theorem good.fm {p:Fp} (h:p.good) (l:Sl):(p.fm l).good:=by
 refine ⟨?_,h.key,h.val⟩
 by_cases k3:p.k<=3
 ·left
  exact ⟨by show (if p.k<=3 then (24:Int) else 25)=24;rw [if_pos k3],h.kind.1,k3⟩
 ·right
  exact ⟨by show (if p.k<=3 then (24:Int) else 25)=25;rw [if_neg k3],⟨by show 4<=p.k;omega,h.kind.2⟩,h.bud⟩
def play (p:Fp):(Rs × List (Int × Int)) × Rn:=
 if p.k<=3 then
  let z:=Rn.changeL (p.tape.length+2) p.k p.key p.val (p.tape.length+2) (Rn.start p.tape)
  ((z.1,[]),z.2)
 else (Rn.start p.tape).queryR (p.tape.length+2) p.k p.key p.val p.b
theorem play_fm (p:Fp) (l:Sl):(p.fm l).play p.tape=p.play:=by
 unfold Fm.play play
 by_cases k3:p.k<=3
 ·have e:(p.fm l).proc=24:=by show (if p.k<=3 then (24:Int) else 25)=24;rw [if_pos k3]
  rw [if_pos e,if_pos k3];rfl
 ·have e:(p.fm l).proc=25:=by show (if p.k<=3 then (24:Int) else 25)=25;rw [if_neg k3]
  rw [if_neg (by rw [e];decide),if_neg k3];rfl
def settle (p:Fp):Fp:=
 if p.play.2.off=true then { p with rc:=p.play.2.rc,ld:=p.play.2.ld }
 else { p with rc:=p.play.2.rc,ld:=p.play.2.ld,done:=true,rs:=p.play.1.1,L:=p.play.1.2 }
end Fp
structure FrIs (W:World) (n₀ f:Nat) (p:Fp) (tp l:Sl):Prop where
 le:n₀<=f
 box:W.heap[f]? = some (.cells ((p.fm l).cs tp) 65)
 row:Row W n₀ 2 tp.v p.tape
 lst:PRow W n₀ 59 l.v p.L
 good:p.good
 i64:∀ z ∈ p.tape,I64 z
theorem Sl.form {s:Sl} {a:Option Addr} {n c:Nat} (h:s.v=.slice a n c):s.a=a/\s.n=n/\s.c=c:=by
 unfold Sl.v at h;simpa using h
theorem FrIs.tape {W:World} {n₀ f:Nat} {p:Fp} {tp l:Sl} (h:FrIs W n₀ f p tp l):Reads W tp.a p.tape/\p.tape.length=tp.n/\tp.n<=tp.c/\∀ a,tp.a=some a->a.block < W.heap.size/\n₀<=a.block:=by
 obtain ⟨a,cap,e,hr,_⟩:=h.row.form;obtain ⟨e1,e2,e3⟩:=Sl.form e;have hr':=h.row;refine ⟨by rw [e1];exact hr,e2.symm,?_,?_⟩
 ·rcases hr'.2 with ⟨e',h0⟩ | ⟨g,cap',cur,e',hg,hh,hc,hm,_⟩
  ·rw [e'] at e;simp at e;omega
  ·rw [e'] at e;simp at e;omega
 ·intro ad ha
  have:=hr'.lt ad.block (by unfold Sl.v;rw [ha];simp [Value.ownBlock])
  exact ⟨this.2,this.1⟩
theorem setCells_turned (m:Nat):∀ (vs:List Value) (U:World) (i:Nat),Td (fun k=>k=m) U (U.setCells m i vs)
 | [],_,_=>Td.refl _ _
 | _ :: vs,_,i=>(Td.setCell (R:=fun k=>k=m) _ _ _ rfl).trans (setCells_turned m vs _ (i+1)) (fun _ e=>e) (fun _ _ e=>e)
theorem Row.turnedO {w w':World} {n₀:Nat} {v:Value} {xs:List Int} (h:Row w n₀ 2 v xs) {R:Nat->Prop} (ht:Td R w w') (hn:∀ g,v.ownBlock=some g->¬ R g):Row w' n₀ 2 v xs:=by
 obtain ⟨h1,h2⟩:=h;refine ⟨h1,?_⟩;rcases h2 with h2 | ⟨g,cap,cur,rfl,hg,hh,r⟩
 ·exact .inl h2
 ·exact .inr ⟨g,cap,cur,rfl,hg,ht.heap hh (hn g rfl),r⟩
theorem Row.apart {W:World} {v:Value} {xs:List Int} {n₀:Nat} (h:Row W n₀ 2 v xs) {x:Nat} {c:Array Value} {E':TypeId} (hb:W.heap[x]? = some (.cells c E')) (ne:2≠E'):∀ g,v.ownBlock=some g->g≠x:=by
 intro g e hx;rcases h.2 with ⟨rfl,_⟩ | ⟨g',cap,cur,rfl,hg,hh,_⟩
 ·simp [Value.ownBlock] at e
 ·simp [Value.ownBlock] at e;subst e;rw [hx,hb] at hh;simp at hh;exact ne hh.2.symm
theorem FrIs.put {W W':World} {n₀ f:Nat} {p p':Fp} {tp l l':Sl} (h:FrIs W n₀ f p tp l) (t:Td (fun k=>k=f) W W') (hb:W'.heap[f]? = some (.cells ((p'.fm l').cs tp) 65)) (e:p'.tape=p.tape) (hl:PRow W' n₀ 59 l'.v p'.L) (hg:p'.good):FrIs W' n₀ f p' tp l':=
 ⟨h.le,hb,by rw [e];exact h.row.turnedO t (fun g he=>h.row.apart h.box (by decide) g he),hl,hg,by rw [e];exact h.i64⟩
theorem FrIs.lstT {W W':World} {n₀ f:Nat} {p:Fp} {tp l:Sl} (h:FrIs W n₀ f p tp l) (t:Td (fun k=>k=f) W W'):PRow W' n₀ 59 l.v p.L:=h.lst.turned t (fun g e' he=>h.lst.apart h.box (by decide) g e' he)
set_option maxRecDepth 100000 in
set_option maxHeartbeats 2000000 in
theorem settle_r (W:World) (n₀ f:Nat) (p:Fp) (tp l0:Sl) (h:FrIs W n₀ f p tp l0) (hn:n₀<=W.heap.size) (hm:p.tape.length<=16000) :
  Calls Tryz.prog 55 #[.pointer (some ⟨f,0,none⟩)] W fun e W'=>e=.returned (.tuple #[])/\(∃ l',FrIs W' n₀ f p.settle tp l')/\Td (fun k=>k=f) W W':=by
 obtain ⟨hr,hn',hc,hb⟩:=h.tape;obtain ⟨x,L,sE,hp⟩:∃ x L sE,p.play=((x,L),sE):=⟨_,_,_,rfl⟩;have CT:=play_r W f (p.fm l0) tp p.tape h.box (h.good.fm l0) hr hn' hc (by omega) (fun a e=>(hb a e).1) h.i64 x L sE (by rw [Fp.play_fm];exact hp);have H:=gh h;have HN:=gh hn;have HCT:=gh CT;have HP:=gh hp;clear h hr hn' hc hb hm CT hp;go_enter Tryz.func55,Tryz.ntmps55;go_wp2_with (fail);refine HCT.o.mono ?_;rintro e W1 ⟨r,l,rfl,PL⟩;have HPL:=gh PL;have fW1:=gh (PL.kept.heap H.o.box id);have hft:f < W.heap.size:=(Array.getElem?_eq_some_iff.1 H.o.box).1;have HRF:Hid (r≠f/\f < W1.heap.size):=gh ⟨by have:=PL.new;omega,Nat.lt_of_lt_of_le hft PL.kept.size⟩;obtain ⟨W3,hW3⟩:∃ W3,(W1.alloc (.cells #[.int .i64 0,.bool false,.int .i64 0,.int .i64 0,.int .i64 0,.slice none 0 0,.slice none 0 0,.int .i64 0,.bool false,.int .i64 0,.int .i64 0,.int .i64 0,.slice none 0 0] 63)).setRow W1.heap.size (Ou.cs { Ou.none with rs:=x,l:=l })=W3:=⟨_,rfl⟩;have k3:Kept W1 W3:=by
  rw [<- hW3];exact (Kept.then (Td.alloc (fun _=>False) W1 _) (turned_setRow _ _ _)).mono (fun k hk e=>by omega)
 have m3:Hid (W3.heap[W1.heap.size]? = some (.cells (Ou.cs { Ou.none with rs:=x,l:=l }) 63)):=gh (by rw [<- hW3];exact setRow_heap _ _ _ _ _ _ (heap_new _ _));have K3:=gh k3;have fW3:=gh (k3.heap fW1.o id);have HW3:=gh hW3;have run3:=gh (PL.run.kept k3);have r2:=run3.o.offs;obtain ⟨r8,r9,_⟩:=run3.o.notes;obtain ⟨rc,hrc⟩:∃ rc,sE.rc=rc:=⟨_,rfl⟩;obtain ⟨ld,hld⟩:∃ ld,sE.ld=ld:=⟨_,rfl⟩;rw [hrc] at r8;rw [hld] at r9;have HRC:=gh hrc;have HLD:=gh hld;have y37:W3.cell? ⟨f,37,none⟩=some (.int .i64 p.rc)/\W3.cell? ⟨f,38,none⟩=some (.int .i64 p.ld)/\W3.cell? ⟨f,23,none⟩=some (.bool p.done)/\∀ i,W3.frozen? ⟨f,i,none⟩=false:=by
  have hb:=fW3.o;refine ⟨?_,?_,?_,?_⟩ <;> simp [World.cell?,World.frozen?,hb,Fm.cs,Fp.fm]
 obtain ⟨c37,c38,c23,cf⟩:=y37;have f37:=cf 37;have f38:=cf 38;have f23:=cf 23;have hne:=HRF.o.1;have hne':f≠r:=Ne.symm hne;clear PL hW3 k3 hrc hld HCT hft cf;go_wp2_with (with_reducible refine at_store63 ?_);refine ⟨?_⟩;refine wpList_store_row rfl 63 _ _ rfl W1.heap.size _ rfl rfl 63 _ (heap_new _ _) info63 rfl (by simp [Ou.cs,Value.oneCell']) ?_;rw [HW3.o];cases hof:sE.off with
 | true=>
  rw [hof] at r2;have HOF:=gh hof;clear hof;go_wp2
  go_end0
  have fb:=fW3.o;have HT:Td (fun k=>k=f) W ((W3.setCell ⟨f,37,none⟩ (.int .i64 rc)).setCell ⟨f,38,none⟩ (.int .i64 ld)):=(HPL.o.kept.trans K3.o).then ((Td.setCell (R:=fun k=>k=f) _ _ _ rfl).trans (Td.setCell (R:=fun k=>k=f) _ _ _ rfl) (fun _ e=>e) (fun _ _ e=>e));have es:p.settle={ p with rc:=rc,ld:=ld }:=by
   unfold Fp.settle;rw [HP.o];dsimp only;rw [if_pos HOF.o,HRC.o,HLD.o]
  refine ⟨rfl,⟨l0,?_⟩,HT⟩;rw [es];refine H.o.put HT ?_ rfl (H.o.lstT HT) ⟨H.o.good.kind,H.o.good.bud,H.o.good.key,H.o.good.val⟩;simp [World.setCell,Array.getElem?_modify,fb,Fm.cs,Fp.fm]
 | false=>
  rw [hof] at r2;have HOF:=gh hof;clear hof;go_wp2_with (with_reducible refine at_load63 ?_);refine ⟨?_⟩;obtain ⟨W5,hW5⟩:∃ W5,((W3.setCell ⟨f,37,none⟩ (.int .i64 rc)).setCell ⟨f,38,none⟩ (.int .i64 ld)).setCell ⟨f,23,none⟩ (.bool true)=W5:=⟨_,rfl⟩;rw [hW5];have T5:Td (fun k=>k=f) W3 W5:=by
   rw [<- hW5];exact (Td.setCell (R:=fun k=>k=f) _ _ _ rfl).trans ((Td.setCell (R:=fun k=>k=f) _ _ _ rfl).trans (Td.setCell (R:=fun k=>k=f) _ _ _ rfl) (fun _ e=>e) (fun _ _ e=>e)) (fun _ e=>e) (fun _ _ e=>e)
  have fb:=fW3.o;have f5:W5.heap[f]? = some (.cells (({ p with rc:=rc,ld:=ld,done:=true }:Fp).fm l0 |>.cs tp) 65):=by
   rw [<- hW5];simp [World.setCell,Array.getElem?_modify,fb,Fm.cs,Fp.fm]
  have m5:=T5.heap m3.o (fun e=>by have:=HRF.o.2;omega);clear hW5 fb r2 r8 r9 c37 c38 c23 f37 f38 f23;have th:W5.there f 24 (Ou.cs { Ou.none with rs:=x,l:=l }).size:=by
   intro j hj;have hj':j < 13:=by simpa [Ou.cs] using hj
   have hs:24+j < ((({ p with rc:=rc,ld:=ld,done:=true }:Fp).fm l0).cs tp).size:=by simp [Fm.cs];omega
   simp [World.cell?,World.frozen?,f5,Array.getElem?_eq_getElem hs]
  refine wpList_load_row rfl 63 _ rfl W1.heap.size rfl 63 _ _ _ m5 Tryz.underlying63 rfl info63 ?_;go_wp2_with (with_reducible refine at_store63 ?_);refine ⟨?_⟩;refine wpList_store_mid rfl 63 _ _ rfl f 24 _ rfl rfl th info63 (by simp [Ou.cs,Value.oneCell']) ?_;obtain ⟨W6,hW6⟩:∃ W6,W5.setCells f 24 (Ou.cs { Ou.none with rs:=x,l:=l }).toList=W6:=⟨_,rfl⟩;rw [hW6];have T6:Hid (Td (fun k=>k=f) W5 W6):=gh (by rw [<- hW6];exact setCells_turned _ _ _ _);have es:p.settle={ p with rc:=rc,ld:=ld,done:=true,rs:=x,L:=L }:=by
   unfold Fp.settle;rw [HP.o];dsimp only;rw [if_neg (by rw [HOF.o];decide),HRC.o,HLD.o]
  have F6:Hid (W6.heap[f]? = some (.cells (((p.settle).fm l).cs tp) 65)):=gh (by
   rw [<- hW6,es];simp [World.setCells,World.setCell,Array.getElem?_modify,f5,Fm.cs,Fp.fm,Ou.cs,Ou.none])
  clear hW6 f5 th m5;go_wp2
  go_end0
  have HT:Td (fun k=>k=f) W W6:=(HPL.o.kept.trans K3.o).then (T5.trans T6.o (fun _ e=>e) (fun _ _ e=>e));refine ⟨rfl,⟨l,?_⟩,HT⟩;have hl:PRow W6 n₀ 59 l.v L:=PRow.low ((((HPL.o.row.kept K3.o).turned T5 (fun g e e'=>?_)).turned T6.o (fun g e e'=>?_))) HN.o
  ·have F6':=F6.o;rw [es] at F6';refine H.o.put HT F6' rfl ?_ ?_
   ·exact hl
   ·exact ⟨H.o.good.kind,H.o.good.bud,H.o.good.key,H.o.good.val⟩
  ·have:=HPL.o.row.from g e
   have:=(Array.getElem?_eq_some_iff.1 H.o.box).1
   omega
  ·have:=HPL.o.row.from g e
   have:=(Array.getElem?_eq_some_iff.1 H.o.box).1
   omega
end
section
set_option maxRecDepth 20000
theorem reach_d (w:World) (n₀ b:Nat) (v:Value) (s:Mst) (a:Int) (u:Bool) (h:DMem w n₀ b v s) (hu:s.used a=u) :
  Calls Tryz.prog 92 #[.pointer (some ⟨b,0,none⟩),.int .i64 a] w fun e w'=>e=.returned (.bool u)/\DMem w' n₀ b v (s.touch a)/\Td (fun k=>k=b) w w':=by
 obtain ⟨⟨c0,c1,c2,c3,c4⟩,f⟩:=h.opened;have f2:=f 2;have f3:=f 3;have H1:=gh (count_d h (wrap64 (s.count+1)));have H2:=gh (odd_d H1.o (wrap64 (s.odd+1)));obtain ⟨a0,cap,rfl,_⟩:=h.form;have hl:=h.len;have HU:=gh hu;cases u with
 | true=>
  have HE:Hid (s.touch a={ s with count:=wrap64 (s.count+1) }):=gh (by rw [Mst.touch,if_pos hu]);obtain ⟨i1,i2⟩:=Mst.used_iff.1 hu;clear h f hu;go_enter Tryz.func92,Tryz.ntmps92;go_wp2;go_ret;exact ⟨rfl,by rw [HE.o];exact H1.o,Td.setCell _ _ _ rfl⟩
 | false=>
  have HE:Hid (s.touch a={ s with count:=wrap64 (s.count+1),odd:=wrap64 (s.odd+1) }):=gh (by rw [Mst.touch,hu];rfl);have HN:¬ (1<=a/\a<=(s.xs.length:Int)):=fun e=>by rw [Mst.used_iff.2 e] at hu;cases hu
  clear h f hu
  by_cases h1:1<=a
  ·have h2:(s.xs.length:Int) < a:=by omega
   clear HN;go_enter Tryz.func92,Tryz.ntmps92;go_wp2;go_ret;exact ⟨rfl,by rw [HE.o];exact H2.o,(Td.setCell (R:=fun k=>k=b) w ⟨b,2,none⟩ _ rfl).trans (Td.setCell (R:=fun k=>k=b) _ ⟨b,3,none⟩ _ rfl) (fun _ h=>h) (fun _ _ h=>h)⟩
  ·have h2:a < 1:=by omega
   clear HN;go_enter Tryz.func92,Tryz.ntmps92;go_wp2;go_ret;exact ⟨rfl,by rw [HE.o];exact H2.o,(Td.setCell (R:=fun k=>k=b) w ⟨b,2,none⟩ _ rfl).trans (Td.setCell (R:=fun k=>k=b) _ ⟨b,3,none⟩ _ rfl) (fun _ h=>h) (fun _ _ h=>h)⟩
theorem read_d (w:World) (n₀ b:Nat) (v:Value) (s:Mst) (a:Int) (h:DMem w n₀ b v s) :
  Calls Tryz.prog 106 #[.pointer (some ⟨b,0,none⟩),.int .i64 a] w fun e w'=>e=.returned (.int .i64 (s.look a))/\DMem w' n₀ b v (s.touch a)/\Td (fun k=>k=b) w w':=by
 have hl:=h.len;have H:=gh h;cases hu:s.used a with
 | true=>
  obtain ⟨j,rfl,hj⟩:=Mst.used_nat hu;obtain ⟨g,cap,z,rfl,hz,hc,_,hgb⟩:=h.cellAt (by decide) hj;rw [Mst.look_succ hz];have HU:=gh hu;have i1:(j:Int) < (s.xs.length:Int):=by omega
  clear hu h hz;go_enter Tryz.func106,Tryz.ntmps106;go_wp2_with (fail);refine (reach_d _ n₀ b _ _ _ true H.o HU.o).mono ?_;rintro e w' ⟨rfl,h1,t1⟩;have c0:=h1.opened.1.1;have c1:=t1.cell hc hgb;have H1:=gh h1;have T1:=gh t1;clear h1 t1 hc;go_wp2;go_ret;exact ⟨rfl,H1.o,T1.o⟩
 | false=>
  rw [Mst.look_none hu];have HU:=gh hu;clear hu h;go_enter Tryz.func106,Tryz.ntmps106;go_wp2_with (fail);refine (reach_d _ n₀ b _ _ _ false H.o HU.o).mono ?_;rintro e w' ⟨rfl,h1,t1⟩;have H1:=gh h1;have T1:=gh t1;clear h1 t1;go_wp2;go_ret;exact ⟨rfl,H1.o,T1.o⟩
theorem write_d (w:World) (n₀ b:Nat) (v:Value) (s:Mst) (a x:Int) (h:DMem w n₀ b v s) :
  Calls Tryz.prog 53 #[.pointer (some ⟨b,0,none⟩),.int .i64 a,.int .i64 x] w fun e w'=>e=.returned (.tuple #[])/\DMem w' n₀ b v (s.write a x)/\Td (Foot b v) w w':=by
 have hl:=h.len;have H:=gh h;cases hu:s.used a with
 | true=>
  obtain ⟨j,rfl,hj⟩:=Mst.used_nat hu;obtain ⟨g,cap,z,rfl,hz,hc,hf,hgb⟩:=h.cellAt (by decide) hj;have HU:=gh hu;have i1:(j:Int) < (s.xs.length:Int):=by omega
  clear hu h hz;go_enter Tryz.func53,Tryz.ntmps53;go_wp2_with (fail);refine (reach_d _ n₀ b _ _ _ true H.o HU.o).mono ?_;rintro e w1 ⟨rfl,h1,t1⟩;have c0:=h1.opened.1.1;have c1:=t1.cell hc hgb;have f1:=(t1.frozen (p:=⟨g,j,none⟩) (World.block_lt_of_cell? _ _ hc) hgb).trans hf;have HP:=gh (put_d hj h1 t1 x);clear h1 t1 hc;go_wp2
  go_end0
  exact ⟨rfl,HP.o⟩
 | false=>
  rw [Mst.write_out hu];have HU:=gh hu;clear hu h;go_enter Tryz.func53,Tryz.ntmps53;go_wp2_with (fail);refine (reach_d _ n₀ b _ _ _ false H.o HU.o).mono ?_;rintro e w1 ⟨rfl,h1,t1⟩;have H1:=gh h1;have T1:=gh (touched_d (v:=v) t1);clear h1 t1;go_wp2
  go_end0
  exact ⟨rfl,H1.o,T1.o⟩
theorem add_d (w:World) (n₀ b:Nat) (v:Value) (s:Mst) (a x:Int) (h:DMem w n₀ b v s) :
  Calls Tryz.prog 107 #[.pointer (some ⟨b,0,none⟩),.int .i64 a,.int .i64 x] w fun e w'=>e=.returned (.int .i64 (s.look a))/\DMem w' n₀ b v (s.add a x)/\Td (Foot b v) w w':=by
 have hl:=h.len;have H:=gh h;cases hu:s.used a with
 | true=>
  obtain ⟨j,rfl,hj⟩:=Mst.used_nat hu;obtain ⟨g,cap,z,rfl,hz,hc,hf,hgb⟩:=h.cellAt (by decide) hj;rw [Mst.add,Mst.look_succ hz];have HU:=gh hu;have i1:(j:Int) < (s.xs.length:Int):=by omega
  clear hu h hz;go_enter Tryz.func107,Tryz.ntmps107;go_wp2_with (fail);refine (reach_d _ n₀ b _ _ _ true H.o HU.o).mono ?_;rintro e w1 ⟨rfl,h1,t1⟩;have c0:=h1.opened.1.1;have c1:=t1.cell hc hgb;have f1:=(t1.frozen (p:=⟨g,j,none⟩) (World.block_lt_of_cell? _ _ hc) hgb).trans hf;have HP:=gh (put_d hj h1 t1 (wrap64 (z+x)));clear h1 t1 hc;go_wp2;go_ret;exact ⟨rfl,HP.o⟩
 | false=>
  rw [Mst.add,Mst.write_out hu,Mst.look_none hu];have HU:=gh hu;clear hu h;go_enter Tryz.func107,Tryz.ntmps107;go_wp2_with (fail);refine (reach_d _ n₀ b _ _ _ false H.o HU.o).mono ?_;rintro e w1 ⟨rfl,h1,t1⟩;have H1:=gh h1;have T1:=gh (touched_d (v:=v) t1);clear h1 t1;go_wp2;go_ret;exact ⟨rfl,H1.o,T1.o⟩
theorem cas_d (w:World) (n₀ b:Nat) (v:Value) (s:Mst) (a old x:Int) (h:DMem w n₀ b v s) :
  Calls Tryz.prog 52 #[.pointer (some ⟨b,0,none⟩),.int .i64 a,.int .i64 old,.int .i64 x] w fun e w'=>e=.returned (.bool (s.did a old))/\DMem w' n₀ b v (s.cas a old x)/\Td (Foot b v) w w':=by
 have hl:=h.len;have H:=gh h;cases hu:s.used a with
 | true=>
  obtain ⟨j,rfl,hj⟩:=Mst.used_nat hu;obtain ⟨g,cap,z,rfl,hz,hc,hf,hgb⟩:=h.cellAt (by decide) hj;rw [Mst.cas,Mst.did_in hz];have HU:=gh hu;have i1:(j:Int) < (s.xs.length:Int):=by omega
  clear hu h hz;cases ho:z == old with
  | true=>
   have ho':(z == old)=true:=ho;go_enter Tryz.func52,Tryz.ntmps52;go_wp2_with (fail);refine (reach_d _ n₀ b _ _ _ true H.o HU.o).mono ?_;rintro e w1 ⟨rfl,h1,t1⟩;have c0:=h1.opened.1.1;have c1:=t1.cell hc hgb;have f1:=(t1.frozen (p:=⟨g,j,none⟩) (World.block_lt_of_cell? _ _ hc) hgb).trans hf;have HP:=gh (put_d hj h1 t1 x);clear h1 t1 hc;go_wp2;go_ret;exact ⟨rfl,HP.o⟩
  | false=>
   go_enter Tryz.func52,Tryz.ntmps52;go_wp2_with (fail);refine (reach_d _ n₀ b _ _ _ true H.o HU.o).mono ?_;rintro e w1 ⟨rfl,h1,t1⟩;have c0:=h1.opened.1.1;have c1:=t1.cell hc hgb;have H1:=gh h1;have T1:=gh (touched_d (v:=(.slice (some ⟨g,0,none⟩) s.xs.length cap)) t1);clear h1 t1 hc;go_wp2;go_ret;exact ⟨rfl,H1.o,T1.o⟩
 | false=>
  rw [Mst.cas,Mst.did_out hu,if_neg (by simp)];have HU:=gh hu;clear hu h;go_enter Tryz.func52,Tryz.ntmps52;go_wp2_with (fail);refine (reach_d _ n₀ b _ _ _ false H.o HU.o).mono ?_;rintro e w1 ⟨rfl,h1,t1⟩;have H1:=gh h1;have T1:=gh (touched_d (v:=v) t1);clear h1 t1;go_wp2;go_ret;exact ⟨rfl,H1.o,T1.o⟩
end
end Go.Proofs.YtoaicedkepcalaaGreat
