/-
  What the proof of YtoaicedkepcalaaGreatDcssPlaysProof goes by, part 3 of 11: contracts and plain facts; each part begins with its own sentence. No conditions beyond each theorem's own.
-/
import Derived.Test.YtoaicedkepcalaaGreatD2
namespace Go.Proofs.YtoaicedkepcalaaGreat
open Go.RowKit
section
variable {X:Nat->Prop}
namespace Rn
def markK (g:Rn->Int->Int × Rn) (n d:Int):Nat->Int->Int->Rn->Int × Rn
 | 0,_,m,t=>(m,t)
 | c+1,i,m,t=>
  if t.off=true then (m,t)
  else if kd (t.slot (childZ n d i)).1=2 then markK g n d c (i+1) (wrap64 (m+1)) (t.slot (childZ n d i)).2
  else if kd (t.slot (childZ n d i)).1=3 then markK g n d c (i+1) (wrap64 (m+(g (t.slot (childZ n d i)).2 (ad (t.slot (childZ n d i)).1)).1)) (g (t.slot (childZ n d i)).2 (ad (t.slot (childZ n d i)).1)).2
  else if kd (t.slot (childZ n d i)).1=4 then
   let q:=(t.slot (childZ n d i)).2.read (ad (t.slot (childZ n d i)).1)
   markK g n d c (i+1) (wrap64 (m+(g q.2 (ad q.1)).1)) (g q.2 (ad q.1)).2
  else markK g n d c (i+1) m (t.slot (childZ n d i)).2
def markF:Nat->Rn->Int->Int × Rn
 | 0=>fun s _=>(0,s)
 | f+1=>fun s n=>
  if (s.read (wrap64 (n+4))).1=0 then
   let d:=((s.read (wrap64 (n+4))).2.write (wrap64 (n+2)) 1).read n
   let m:=markK (markF f) n d.1 d.1.toNat 0 0 d.2
   (m.1,m.2.write (wrap64 (n+4)) (wrap64 (m.1+1)))
  else (wrap64 ((s.read (wrap64 (n+4))).1 - 1),(s.read (wrap64 (n+4))).2)
theorem markF_shut {f:Nat} {s s1:Rn} {n x:Int} (h:s.read (wrap64 (n+4))=(x,s1)) (hx:x≠0):markF (f+1) s n=(wrap64 (x - 1),s1):=by
 show (if (s.read (wrap64 (n+4))).1=0 then _ else _)=_;rw [h,if_neg hx]
theorem markF_go {f:Nat} {s s1 s2 s3 s4 s5:Rn} {n d m:Int} (h:s.read (wrap64 (n+4))=(0,s1)) (h2:s1.write (wrap64 (n+2)) 1=s2) (h3:s2.read n=(d,s3)) (h4:markK (markF f) n d d.toNat 0 0 s3=(m,s4)) (h5:s4.write (wrap64 (n+4)) (wrap64 (m+1))=s5):markF (f+1) s n=(m,s5):=by
 show (if (s.read (wrap64 (n+4))).1=0 then _ else _)=_;rw [h,if_pos rfl];dsimp only;rw [h2,h3];dsimp only;rw [h4,h5]
variable {g:Rn->Int->Int × Rn} {n d i m x:Int} {c:Nat} {t t2:Rn}
theorem markK_off (h:t.off=true):markK g n d c i m t=(m,t):=by
 cases c with
 | zero=>rfl
 | succ c=>rw [markK,if_pos h]
theorem markK_2 (h:t.off=false) (e:t.slot (childZ n d i)=(x,t2)) (k:kd x=2):markK g n d (c+1) i m t=markK g n d c (i+1) (wrap64 (m+1)) t2:=by
 rw [markK,h,e];simp [k]
theorem markK_3 {y:Int} {t3:Rn} (h:t.off=false) (e:t.slot (childZ n d i)=(x,t2)) (k:kd x=3) (e2:g t2 (ad x)=(y,t3)):markK g n d (c+1) i m t=markK g n d c (i+1) (wrap64 (m+y)) t3:=by
 rw [markK,h,e];simp [k,e2]
theorem markK_4 {y q:Int} {t3 t4:Rn} (h:t.off=false) (e:t.slot (childZ n d i)=(x,t2)) (k:kd x=4) (e1:t2.read (ad x)=(q,t3)) (e2:g t3 (ad q)=(y,t4)):markK g n d (c+1) i m t=markK g n d c (i+1) (wrap64 (m+y)) t4:=by
 rw [markK,h,e];simp [k,e1,e2]
theorem markK_0 (h:t.off=false) (e:t.slot (childZ n d i)=(x,t2)) (k2:kd x≠2) (k3:kd x≠3) (k4:kd x≠4):markK g n d (c+1) i m t=markK g n d c (i+1) m t2:=by
 rw [markK,h,e];simp [k2,k3,k4]
end Rn
theorem Ran.went_read {W W':World} {r:Nat} {s s':Rn} {a z:Int} (R:Ran X W r s' W') (ho:s.ok) (e:s.read a=(z,s')):Went X W r s s' W':=by
 have h:=ho.read e
 have:s'=(s.read a).2:=by rw [e]
 exact ⟨R,by rw [this];exact Rn.ask_on s _,h.2⟩
theorem Ran.went_write {W W':World} {r:Nat} {s s':Rn} {a x:Int} (R:Ran X W r s' W') (ho:s.ok) (e:s.write a x=s'):Went X W r s s' W':=by
 subst e;exact ⟨R,Rn.ask_on s _,(Rn.ask_on s _).ok ho⟩
theorem Ran.went_slot {W W':World} {r:Nat} {s s':Rn} {a z:Int} (R:Ran X W r s' W') (ho:s.ok) (e:s.slot a=(z,s')):Went X W r s s' W':=by
 have h:=ho.slot e
 have:s'=(s.slot a).2:=by rw [e]
 exact ⟨R,by rw [this];exact ⟨Rn.slot_tape s a,Rn.slot_le s a⟩,h.2⟩
theorem Rn.slot_lt' {s s':Rn} {a z:Int} (e:s.slot a=(z,s')) (h:s.off=false):s'.left < s.left:=by
 have:=Rn.slot_lt a h
 rw [e] at this;exact this
set_option maxHeartbeats 1000000 in
theorem mark_r (r N:Nat):∀ (W:World) (s:Rn) (n:Int),s.left < N->RunAt X W r s->s.ok->∀ (z:Int) (s':Rn),Rn.markF N s n=(z,s')->
  Calls Tryz.prog 129 #[.pointer (some ⟨r,0,none⟩),.int .i64 n] W fun e W'=>e=.returned (.int .i64 z)/\Went X W r s s' W':=by
 induction N with
 | zero=>intro W s n h;omega
 | succ N ih=>
  intro W s n hN h ho z s' he;have H:=gh h;have OK:=gh ho;have HN:=gh hN;obtain ⟨x1,s1,hx1⟩:∃ x s1,s.read (wrap64 (n+4))=(x,s1):=⟨_,_,rfl⟩;have HE:=gh he;have HX:=gh hx1;clear h ho hN he hx1;go_enter Tryz.func129,Tryz.ntmps129;go_wp2_with (fail);refine (read_r _ r s _ H.o x1 s1 HX.o).mono ?_;rintro e W1 ⟨rfl,R1⟩
  replace R1:=R1.went_read OK.o HX.o
  by_cases hx:x1=0
  ·subst hx;obtain ⟨s2,h2⟩:∃ s2,s1.write (wrap64 (n+2)) 1=s2:=⟨_,rfl⟩;obtain ⟨d,s3,h3⟩:∃ d s3,s2.read n=(d,s3):=⟨_,_,rfl⟩;obtain ⟨m,s4,h4⟩:∃ m s4,Rn.markK (Rn.markF N) n d d.toNat 0 0 s3=(m,s4):=⟨_,_,rfl⟩;obtain ⟨s5,h5⟩:∃ s5,s4.write (wrap64 (n+4)) (wrap64 (m+1))=s5:=⟨_,rfl⟩;have hez:=Rn.markF_go HX.o h2 h3 h4 h5;rw [HE.o] at hez;have hez1:=congrArg Prod.fst hez;have hez2:=congrArg Prod.snd hez;simp only at hez1 hez2;subst hez1 hez2;have H2:=gh h2;have H3:=gh h3;have H4:=gh h4;have H5:=gh h5;clear h2 h3 h4 h5 hez HE;go_wp2_with (fail);refine (write_r _ r s1 _ 1 R1.at s2 H2.o).mono ?_;rintro e W2 ⟨rfl,R2⟩
   replace R2:=R1.trans (R2.went_write R1.ok H2.o)
   go_wp2_with (fail);refine (read_r _ r s2 n R2.at d s3 H3.o).mono ?_;rintro e W3 ⟨rfl,R3⟩;obtain ⟨d0,d1⟩:=(R2.ok.read H3.o).1;have G3:=R2.trans (R3.went_read R2.ok H3.o);clear R3 R2;go_wp2_with (fail)
   go_loopw [7,8,9,10] (fun va vi _ _ wr=>∃ (i al:Int) (t:Rn),vi=.int .i64 i/\va=.int .i64 al/\0<=i/\i<=9223372036854775807/\Went X W r s t wr/\Rn.markK (Rn.markF N) n d (d - i).toNat i al t=(z,s4)) (fun _ vi _ _ _=>(d - intOf vi).toNat)
   case atStart=>exact ⟨0,0,s3,rfl,rfl,by omega,by omega,G3,by simpa using H4.o⟩
   case round=>
    obtain ⟨i,al,t,rfl,rfl,i0,i1,G,hk⟩:=hrel;have HK0:=gh hk;obtain ⟨ta,tc,wa,wc,RI⟩:=G.at;obtain ⟨_,_,c2,_,_,ff⟩:=RI.cells;clear RI ff hk
    by_cases hid:i < d
    ·cases hof:t.off with
     | true=>
      rw [hof] at c2;have hz:=HK0.o;rw [Rn.markK_off hof] at hz;obtain ⟨rfl,rfl⟩:=Prod.mk.inj hz;clear hof hz;go_wp2_with (fail);refine (write_r _ r t _ _ G.at _ H5.o).mono ?_;rintro e W4 ⟨rfl,G4⟩;go_wp2;go_ret;exact ⟨rfl,G.trans (G4.went_write G.ok H5.o)⟩
     | false=>
      rw [hof] at c2;have HOF:=gh hof;obtain ⟨c,hc⟩:∃ c,(d - (i+1)).toNat=c:=⟨_,rfl⟩;have HC:Hid ((d - i).toNat=c+1):=gh (by omega);have HC':=gh hc;obtain ⟨cz,hcz⟩:∃ cz,childZ n d i=cz:=⟨_,rfl⟩;have HCZ:=gh hcz;obtain ⟨x,t2,hx⟩:∃ x t2,t.slot cz=(x,t2):=⟨_,_,rfl⟩;have HXT:=gh hx;have HSL:Hid (t.slot (childZ n d i)=(x,t2)):=gh (by rw [hcz];exact hx);clear hof hcz hc hx;go_wp2_with (fail);refine (child_r _ n d i cz HCZ.o).mono ?_;rintro e w' ⟨rfl,rfl⟩;go_wp2_with (fail);refine (slot_r _ r t cz G.at G.ok x t2 HXT.o).mono ?_;rintro e W5 ⟨rfl,R5⟩;have IX:=gh (G.ok.slot HXT.o).1;have G5:=R5.went_slot G.ok HXT.o;have L5:=gh (Rn.slot_lt' HXT.o HOF.o);clear R5;obtain ⟨kk,hkk⟩:∃ kk,kd x=kk:=⟨_,rfl⟩;obtain ⟨p,hp⟩:∃ p,ad x=p:=⟨_,rfl⟩;have HK:=gh hkk;have HP:=gh hp;go_wp2_with (fail);refine (ak_d _ x p IX.o HP.o).mono ?_;rintro e w' ⟨rfl,rfl⟩;go_wp2_with (fail);refine (kk_d _ x kk IX.o HK.o).mono ?_;rintro e w' ⟨rfl,rfl⟩;clear hkk hp
      by_cases k2:kk=2
      ·subst k2;go_wp2;refine ⟨⟨i+1,_,t2,rfl,rfl,by omega,by omega,G.trans G5,?_⟩,by simp [intOf];omega⟩
       have:=HK0.o
       rw [HC.o,Rn.markK_2 HOF.o HSL.o HK.o] at this;rw [HC'.o];exact this
      ·by_cases k3:kk=3
       ·subst k3;obtain ⟨y,t3,hy⟩:∃ y t3,Rn.markF N t2 p=(y,t3):=⟨_,_,rfl⟩;have HY:=gh hy;clear hy;go_wp2_with (fail);refine (ih _ t2 p (by have:=L5.o;have:=G.on.left;have:=HN.o;omega) G5.at G5.ok y t3 HY.o).mono ?_;rintro e W6 ⟨rfl,G6⟩;go_wp2;refine ⟨⟨i+1,_,t3,rfl,rfl,by omega,by omega,(G.trans G5).trans G6,?_⟩,by simp [intOf];omega⟩
        have:=HK0.o
        rw [HC.o,Rn.markK_3 (y:=y) (t3:=t3) HOF.o HSL.o HK.o (by rw [HP.o];exact HY.o)] at this;rw [HC'.o];exact this
       ·by_cases k4:kk=4
        ·subst k4;obtain ⟨q,t3,hq⟩:∃ q t3,t2.read p=(q,t3):=⟨_,_,rfl⟩;have HQ:=gh hq;clear hq;go_wp2_with (fail);refine (read_r _ r t2 p G5.at q t3 HQ.o).mono ?_;rintro e W6 ⟨rfl,R6⟩;have IQ:=gh (G5.ok.read HQ.o).1;have G6:=R6.went_read G5.ok HQ.o;clear R6;obtain ⟨a,ha⟩:∃ a,ad q=a:=⟨_,rfl⟩;have HA:=gh ha;clear ha;obtain ⟨y,t4,hy⟩:∃ y t4,Rn.markF N t3 a=(y,t4):=⟨_,_,rfl⟩;have HY:=gh hy;clear hy;go_wp2_with (fail);refine (ak_d _ q a IQ.o HA.o).mono ?_;rintro e w' ⟨rfl,rfl⟩;go_wp2_with (fail);refine (ih _ t3 a (by have:=L5.o;have:=G.on.left;have:=HN.o;have:=G6.on.left;omega) G6.at G6.ok y t4 HY.o).mono ?_;rintro e W7 ⟨rfl,G7⟩;go_wp2;refine ⟨⟨i+1,_,t4,rfl,rfl,by omega,by omega,((G.trans G5).trans G6).trans G7,?_⟩,by simp [intOf];omega⟩
         have:=HK0.o
         rw [HC.o,Rn.markK_4 (y:=y) (q:=q) (t3:=t3) (t4:=t4) HOF.o HSL.o HK.o (by rw [HP.o];exact HQ.o) (by rw [HA.o];exact HY.o)] at this;rw [HC'.o];exact this
        ·have g2:(kk == 2)=false:=by simp [k2]
         have g3:(kk == 3)=false:=by simp [k3]
         have g4:(kk == 4)=false:=by simp [k4]
         go_wp2;refine ⟨⟨i+1,_,t2,rfl,rfl,by omega,by omega,G.trans G5,?_⟩,by simp [intOf];omega⟩
         have:=HK0.o
         rw [HC.o,Rn.markK_0 HOF.o HSL.o (by rw [HK.o];exact k2) (by rw [HK.o];exact k3) (by rw [HK.o];exact k4)] at this;rw [HC'.o];exact this
    ·have hz:=HK0.o;rw [show (d - i).toNat=0 from by omega] at hz;obtain ⟨rfl,rfl⟩:=Prod.mk.inj hz;clear hz;go_wp2_with (fail);refine (write_r _ r t _ _ G.at _ H5.o).mono ?_;rintro e W4 ⟨rfl,G4⟩;go_wp2;go_ret;exact ⟨rfl,G.trans (G4.went_write G.ok H5.o)⟩
  ·have g1:(x1 == 0)=false:=by simp [hx]
   have g2:(x1 != 0)=true:=by simp [hx]
   have hez:=Rn.markF_shut (f:=N) HX.o hx;rw [HE.o] at hez;obtain ⟨rfl,rfl⟩:=Prod.mk.inj hez;clear hez HE;go_wp2;go_ret;exact ⟨rfl,R1⟩
end
section
open Go.Shelf
variable {X:Nat->Prop} {lo:Nat}
attribute [local go_sem] Oper.semAt_some
namespace Rn
def gatherK (g:Rn->Int->Int->Int->List (Int × Int)->List (Int × Int) × Rn) (n d f tu:Int):Nat->Int->Int->List (Int × Int)->Rn->List (Int × Int) × Rn
 | 0,_,_,ys,t=>(ys,t)
 | c+1,i,rk,ys,t=>
  if tu<=rk∨t.off=true then (ys,t)
  else
   let x:=t.peek (childZ n d i)
   if kd x.1=2 then
    if f<=rk then
     let k:=x.2.read (ad x.1)
     let v:=k.2.read (ad x.1+1)
     gatherK g n d f tu c (i+1) (wrap64 (rk+1)) (ys++[(k.1,v.1)]) v.2
    else gatherK g n d f tu c (i+1) (wrap64 (rk+1)) ys x.2
   else if kd x.1=3 then
    let q:=x.2.read (ad x.1+4)
    if f < wrap64 (rk+wrap64 (q.1 - 1)) then
     let y:=g q.2 (ad x.1) (wrap64 (f - rk)) (wrap64 (tu - rk)) ys
     gatherK g n d f tu c (i+1) (wrap64 (rk+wrap64 (q.1 - 1))) y.1 y.2
    else gatherK g n d f tu c (i+1) (wrap64 (rk+wrap64 (q.1 - 1))) ys q.2
   else if kd x.1=4 then
    let b:=x.2.read (ad x.1)
    let q:=b.2.read (ad b.1+4)
    if f < wrap64 (rk+wrap64 (q.1 - 1)) then
     let y:=g q.2 (ad b.1) (wrap64 (f - rk)) (wrap64 (tu - rk)) ys
     gatherK g n d f tu c (i+1) (wrap64 (rk+wrap64 (q.1 - 1))) y.1 y.2
    else gatherK g n d f tu c (i+1) (wrap64 (rk+wrap64 (q.1 - 1))) ys q.2
   else gatherK g n d f tu c (i+1) rk ys x.2
def gatherF:Nat->Rn->Int->Int->Int->List (Int × Int)->List (Int × Int) × Rn
 | 0=>fun s _ _ _ xs=>(xs,s)
 | F+1=>fun s n f tu xs=>gatherK (gatherF F) n (s.read n).1 f tu (s.read n).1.toNat 0 0 xs (s.read n).2
theorem gatherF_go {F:Nat} {s s1:Rn} {n d f tu:Int} {xs:List (Int × Int)} (h:s.read n=(d,s1)):gatherF (F+1) s n f tu xs=gatherK (gatherF F) n d f tu d.toNat 0 0 xs s1:=by
 show gatherK (gatherF F) n (s.read n).1 f tu (s.read n).1.toNat 0 0 xs (s.read n).2=_;rw [h]
variable {g:Rn->Int->Int->Int->List (Int × Int)->List (Int × Int) × Rn} {n d f tu i rk x:Int} {c:Nat} {t t2:Rn} {ys:List (Int × Int)}
theorem gatherK_end (h:tu<=rk∨t.off=true):gatherK g n d f tu c i rk ys t=(ys,t):=by
 cases c with
 | zero=>rfl
 | succ c=>rw [gatherK,if_pos h]
theorem gatherK_2 {k v:Int} {t3 t4:Rn} (hr:rk < tu) (h:t.off=false) (e:t.peek (childZ n d i)=(x,t2)) (hk:kd x=2) (hf:f<=rk) (e1:t2.read (ad x)=(k,t3)) (e2:t3.read (ad x+1)=(v,t4)):gatherK g n d f tu (c+1) i rk ys t=gatherK g n d f tu c (i+1) (wrap64 (rk+1)) (ys++[(k,v)]) t4:=by
 rw [gatherK,if_neg (by rw [h];simp;omega),e];simp [hk,hf,e1,e2]
theorem gatherK_2' (hr:rk < tu) (h:t.off=false) (e:t.peek (childZ n d i)=(x,t2)) (hk:kd x=2) (hf:¬ f<=rk):gatherK g n d f tu (c+1) i rk ys t=gatherK g n d f tu c (i+1) (wrap64 (rk+1)) ys t2:=by
 rw [gatherK,if_neg (by rw [h];simp;omega),e];simp [hk,hf]
theorem gatherK_3 {q:Int} {t4 t5:Rn} {zs:List (Int × Int)} (hr:rk < tu) (h:t.off=false) (e:t.peek (childZ n d i)=(x,t2)) (hk:kd x=3) (e1:t2.read (ad x+4)=(q,t4)) (hf:f < wrap64 (rk+wrap64 (q - 1))) (e2:g t4 (ad x) (wrap64 (f - rk)) (wrap64 (tu - rk)) ys=(zs,t5)):gatherK g n d f tu (c+1) i rk ys t=gatherK g n d f tu c (i+1) (wrap64 (rk+wrap64 (q - 1))) zs t5:=by
 rw [gatherK,if_neg (by rw [h];simp;omega),e];simp [hk,e1,hf,e2]
theorem gatherK_3' {q:Int} {t4:Rn} (hr:rk < tu) (h:t.off=false) (e:t.peek (childZ n d i)=(x,t2)) (hk:kd x=3) (e1:t2.read (ad x+4)=(q,t4)) (hf:¬ f < wrap64 (rk+wrap64 (q - 1))):gatherK g n d f tu (c+1) i rk ys t=gatherK g n d f tu c (i+1) (wrap64 (rk+wrap64 (q - 1))) ys t4:=by
 rw [gatherK,if_neg (by rw [h];simp;omega),e];simp [hk,e1,hf]
theorem gatherK_4 {b q:Int} {t3 t4 t5:Rn} {zs:List (Int × Int)} (hr:rk < tu) (h:t.off=false) (e:t.peek (childZ n d i)=(x,t2)) (hk:kd x=4) (e0:t2.read (ad x)=(b,t3)) (e1:t3.read (ad b+4)=(q,t4)) (hf:f < wrap64 (rk+wrap64 (q - 1))) (e2:g t4 (ad b) (wrap64 (f - rk)) (wrap64 (tu - rk)) ys=(zs,t5)):gatherK g n d f tu (c+1) i rk ys t=gatherK g n d f tu c (i+1) (wrap64 (rk+wrap64 (q - 1))) zs t5:=by
 rw [gatherK,if_neg (by rw [h];simp;omega),e];simp [hk,e0,e1,hf,e2]
theorem gatherK_4' {b q:Int} {t3 t4:Rn} (hr:rk < tu) (h:t.off=false) (e:t.peek (childZ n d i)=(x,t2)) (hk:kd x=4) (e0:t2.read (ad x)=(b,t3)) (e1:t3.read (ad b+4)=(q,t4)) (hf:¬ f < wrap64 (rk+wrap64 (q - 1))):gatherK g n d f tu (c+1) i rk ys t=gatherK g n d f tu c (i+1) (wrap64 (rk+wrap64 (q - 1))) ys t4:=by
 rw [gatherK,if_neg (by rw [h];simp;omega),e];simp [hk,e0,e1,hf]
theorem gatherK_0 (hr:rk < tu) (h:t.off=false) (e:t.peek (childZ n d i)=(x,t2)) (k2:kd x≠2) (k3:kd x≠3) (k4:kd x≠4):gatherK g n d f tu (c+1) i rk ys t=gatherK g n d f tu c (i+1) rk ys t2:=by
 rw [gatherK,if_neg (by rw [h];simp;omega),e];simp [k2,k3,k4]
end Rn
theorem Ran.went_peek {X:Nat->Prop} {W W':World} {r:Nat} {s s':Rn} {a z:Int} (R:Ran X W r s' W') (ho:s.ok) (e:s.peek a=(z,s')):Went X W r s s' W':=⟨R,Rn.peek_on e,(ho.peek e).2⟩
theorem Rn.peek_lt' {s s':Rn} {a z:Int} (e:s.peek a=(z,s')) (h:s.off=false):s'.left < s.left:=by
 have:=Rn.peek_lt a h
 rw [e] at this;exact this
set_option maxRecDepth 100000 in
set_option maxHeartbeats 2000000 in
theorem gather_r (hX:∀ k,X k->k < lo) (r B:Nat):∀ (W:World) (s:Rn) (n f tu:Int) (v:Value) (xs:List (Int × Int)),s.left < B->RunAt X W r s->s.ok->PRow W lo 59 v xs->xs.length+s.left<=1000000->lo<=W.heap.size->∀ (ys:List (Int × Int)) (s':Rn),Rn.gatherF B s n f tu xs=(ys,s')->
  Calls Tryz.prog 130 #[.pointer (some ⟨r,0,none⟩),.int .i64 n,.int .i64 f,.int .i64 tu,v] W fun e W'=>∃ v',e=.returned v'/\PRow W' lo 59 v' ys/\Gath X lo W r s s' W'/\ys.length+s'.left<=xs.length+s.left:=by
 induction B with
 | zero=>intro W s n f tu v xs h;omega
 | succ B ih=>
  intro W s n f tu v xs hN h ho hp hx hlo res sE he;obtain ⟨d,s1,hd⟩:∃ d s1,s.read n=(d,s1):=⟨_,_,rfl⟩;rw [Rn.gatherF_go hd] at he;have HE:=gh he;have HD:=gh hd;clear he hd;have HLO:=gh hlo;clear hlo;have H:=gh h;have OK:=gh ho;have HN:=gh hN;have HPR:=gh hp;have HXS:=gh hx;have HR0:=gh (h.rlo hX);clear h ho hN hp hx;go_enter Tryz.func130,Tryz.ntmps130;go_wp2_with (fail);refine (read_r _ r s n H.o d s1 HD.o).mono ?_;rintro e W1 ⟨rfl,R1⟩;obtain ⟨d0,d1⟩:=(OK.o.read HD.o).1;have G1:=R1.went_read OK.o HD.o;clear R1;have HG1:=gh G1;have PR1:=gh (HPR.o.ran G1.ran.2 HR0.o);clear G1;go_wp2_with (fail)
  go_loopw [4,12,13,14,15,16,17,18] (fun vo vr vi _ _ _ _ _ wr=>∃ (i rk:Int) (t:Rn) (vv:Value) (ys:List (Int × Int)),vi=.int .i64 i/\vr=.int .i64 rk/\vv=vo/\0<=i/\i<=9223372036854775807/\PRow wr lo 59 vv ys/\Gath X lo W r s t wr/\ys.length+t.left<=xs.length+s.left/\Rn.gatherK (Rn.gatherF B) n d f tu (d - i).toNat i rk ys t=(res,sE)) (fun _ _ vi _ _ _ _ _ _=>(d - intOf vi).toNat)
  case atStart=>exact ⟨0,0,s1,v,xs,rfl,rfl,rfl,by omega,by omega,PR1.o,HG1.o.gath,by have:=HG1.o.on.left;omega,by simpa using HE.o⟩
  case round=>
   obtain ⟨i,rk,t,vv,ys,rfl,rfl,rfl,i0,i1,hpr,hG,hl,hgk⟩:=hrel;have HGK:=gh hgk;have PR:=gh hpr;have G:=gh hG;have HL:=gh hl;obtain ⟨ta,tc,wa,wc,RI⟩:=hG.lies;obtain ⟨_,_,c2,_,_,ff⟩:=RI.cells;have HTN:=gh (Nat.lt_of_le_of_lt hG.on.left HN.o);clear RI ff hpr hG hl hgk
   by_cases hid:i < d
   ·by_cases hrt:rk < tu
    ·cases hof:t.off with
     | true=>
      rw [hof] at c2;have hz:=HGK.o;rw [Rn.gatherK_end (.inr hof)] at hz;obtain ⟨rfl,rfl⟩:=Prod.mk.inj hz;clear hof hz;go_wp2;go_ret
      first | exact ⟨vv,rfl,PR.o,G.o,HL.o⟩ | exact ⟨PR.o,G.o,HL.o⟩
     | false=>
      rw [hof] at c2;have HOF:=gh hof;obtain ⟨cz,hcz⟩:∃ cz,childZ n d i=cz:=⟨_,rfl⟩;have HCZ:=gh hcz;obtain ⟨c,hc⟩:∃ c,(d - (i+1)).toNat=c:=⟨_,rfl⟩;have HC:Hid ((d - i).toNat=c+1):=gh (by omega);have HC':=gh hc;obtain ⟨x,t2,hx⟩:∃ x t2,t.peek cz=(x,t2):=⟨_,_,rfl⟩;have HXT:=gh hx;have HSL:Hid (t.peek (childZ n d i)=(x,t2)):=gh (by rw [hcz];exact hx);clear hof hcz hc hx;go_wp2_with (fail);refine (child_r _ n d i cz HCZ.o).mono ?_;rintro e w' ⟨rfl,rfl⟩;go_wp2_with (fail);refine (peek_r _ r t cz G.o.lies G.o.ok x t2 HXT.o).mono ?_;rintro e W5 ⟨rfl,R5⟩;have G5':=R5.went_peek G.o.ok HXT.o;have L5:=gh (Rn.peek_lt' HXT.o HOF.o);have IX:=gh (G.o.ok.peek HXT.o).1;have PR5:=gh (PR.o.ran G5'.ran.2 HR0.o);have G5:=gh (G.o.trans G5'.gath);clear R5 G5';obtain ⟨kk,hkk⟩:∃ kk,kd x=kk:=⟨_,rfl⟩;obtain ⟨p,hp⟩:∃ p,ad x=p:=⟨_,rfl⟩;have kr:=ad_range x;rw [hp] at kr;obtain ⟨p0,p1⟩:=kr;have HK:=gh hkk;have HP:=gh hp;go_wp2_with (fail);refine (ak_d _ x p IX.o HP.o).mono ?_;rintro e w' ⟨rfl,rfl⟩;go_wp2_with (fail);refine (kk_d _ x kk IX.o HK.o).mono ?_;rintro e w' ⟨rfl,rfl⟩;clear hkk hp
      by_cases k2:kk=2
      ·subst k2
       by_cases hrf:f<=rk
       ·obtain ⟨k1,t3,hk1⟩:∃ k1 t3,t2.read p=(k1,t3):=⟨_,_,rfl⟩;obtain ⟨v1,t4,hv1⟩:∃ v1 t4,t3.read (p+1)=(v1,t4):=⟨_,_,rfl⟩;have HK1:=gh hk1;have HV1:=gh hv1;clear hk1 hv1;go_wp2_with (fail);refine (read_r _ r t2 p G5.o.lies k1 t3 HK1.o).mono ?_;rintro e W6 ⟨rfl,R6⟩;have G6':=R6.went_read G5.o.ok HK1.o;clear R6;have PR6:=gh (PR5.o.ran G6'.ran.2 HR0.o);have L6:=gh (G6'.on.left);have G6:=gh (G5.o.trans G6'.gath);clear G6';go_wp2_with (fail);refine (read_r _ r t3 (p+1) G6.o.lies v1 t4 HV1.o).mono ?_;rintro e W7 ⟨rfl,R7⟩;have G7':=R7.went_read G6.o.ok HV1.o;clear R7;have PR7:=gh (PR6.o.ran G7'.ran.2 HR0.o);have L7:=gh (G7'.on.left);have G7:=gh (G6.o.trans G7'.gath);clear G7';obtain ⟨la,lc,hv,_⟩:=PR7.o.reads;obtain ⟨M,hM⟩:∃ M,ys.length=M:=⟨_,rfl⟩;rw [hM] at hv;have HM:=gh hM;subst hv;clear hM;go_wp2_with (at_builtin;refine Stop.out ?_);refine ⟨?_⟩;have HRA:=gh (PR7.o.kept (Kept.alloc (Kept.refl W7) (.cells #[.int .i64 k1,.int .i64 v1] 59)));have HNW:Hid ((W7.alloc (.cells #[.int .i64 k1,.int .i64 v1] 59)).heap[W7.heap.size]? = some (.cells #[.int .i64 k1,.int .i64 v1] 59)):=gh (heap_new _ _);refine wpList_append_pair ptP rfl _ _ rfl lo _ ys (ys++[(k1,v1)]) rfl HRA.o W7.heap.size k1 v1 rfl HNW.o (by have:=HXS.o;have:=HL.o;omega) (by have:=G7.o.turned.size;have:=HLO.o;simp;omega) rfl ?_;intro v9 W9 hown hg hat;have HR9:=gh hown;have G9:=gh (G7.o.trans (Gath.grown hX G7.o.lies G7.o.ok PR7.o _ hg));clear hown hg hat HRA HNW;go_wp2;refine ⟨⟨i+1,_,t4,v9,ys++[(k1,v1)],rfl,rfl,rfl,by omega,by omega,HR9.o,G9.o,by have:=L5.o;have:=L6.o;have:=L7.o;have:=HL.o;simp;omega,?_⟩,by simp [intOf];omega⟩;have hz:=HGK.o;rw [HC.o,Rn.gatherK_2 (k:=k1) (v:=v1) (t3:=t3) (t4:=t4) hrt HOF.o HSL.o HK.o hrf (by rw [HP.o];exact HK1.o) (by rw [HP.o];exact HV1.o)] at hz;rw [HC'.o];exact hz
       ·go_wp2;refine ⟨⟨i+1,_,t2,vv,ys,rfl,rfl,rfl,by omega,by omega,PR5.o,G5.o,by have:=L5.o;have:=HL.o;omega,?_⟩,by simp [intOf];omega⟩;have hz:=HGK.o;rw [HC.o,Rn.gatherK_2' hrt HOF.o HSL.o HK.o (Int.not_le.2 hrf)] at hz;rw [HC'.o];exact hz
      ·by_cases k3:kk=3
       ·subst k3;go_wp2_with (fail);refine (kk_d _ x 3 IX.o HK.o).mono ?_;rintro e w' ⟨rfl,rfl⟩;have GP:=G5;have PRP:=PR5;obtain ⟨q,t4,hq⟩:∃ q t4,t2.read (p+4)=(q,t4):=⟨_,_,rfl⟩;have HQ:=gh hq;clear hq;obtain ⟨zs,t5,hzs⟩:∃ zs t5,Rn.gatherF B t4 p (wrap64 (f - rk)) (wrap64 (tu - rk)) ys=(zs,t5):=⟨_,_,rfl⟩;have HZ:=gh hzs;clear hzs;go_wp2_with (fail);refine (read_r _ r t2 _ GP.o.lies q t4 HQ.o).mono ?_;rintro e W7 ⟨rfl,R7⟩;have G7':=R7.went_read GP.o.ok HQ.o;clear R7;have PR7:=gh (PRP.o.ran G7'.ran.2 HR0.o);have L7:=gh (G7'.on.left);have G7:=gh (GP.o.trans G7'.gath);clear G7'
        by_cases hgt:f < wrap64 (rk+wrap64 (q - 1))
        ·go_wp2_with (fail);refine (ih _ t4 _ _ _ vv ys (by have:=L5.o;have:=HTN.o;have:=L7.o;omega) G7.o.lies G7.o.ok PR7.o (by have:=L5.o;have:=L7.o;have:=HL.o;have:=HXS.o;omega) (Nat.le_trans HLO.o G7.o.turned.size) zs t5 HZ.o).mono ?_;rintro e W8 ⟨v8,rfl,PR8,G8,l8⟩;have L8:=gh l8;have HP8:=gh PR8;have G8':=gh (G7.o.trans G8);clear PR8 G8 l8;go_wp2;refine ⟨⟨i+1,_,t5,v8,zs,rfl,rfl,rfl,by omega,by omega,HP8.o,G8'.o,by have:=L5.o;have:=L7.o;have:=HL.o;have:=L8.o;omega,?_⟩,by simp [intOf];omega⟩;have hz:=HGK.o;rw [HC.o,Rn.gatherK_3 (q:=q) (t4:=t4) (t5:=t5) (zs:=zs) hrt HOF.o HSL.o HK.o (by rw [HP.o];exact HQ.o) hgt (by rw [HP.o];exact HZ.o)] at hz;rw [HC'.o];exact hz
        ·go_wp2;refine ⟨⟨i+1,_,t4,vv,ys,rfl,rfl,rfl,by omega,by omega,PR7.o,G7.o,by have:=L5.o;have:=L7.o;have:=HL.o;omega,?_⟩,by simp [intOf];omega⟩;have hz:=HGK.o;rw [HC.o,Rn.gatherK_3' (q:=q) (t4:=t4) hrt HOF.o HSL.o HK.o (by rw [HP.o];exact HQ.o) (Int.not_lt.2 hgt)] at hz;rw [HC'.o];exact hz
       ·by_cases k4:kk=4
        ·subst k4;obtain ⟨a1,t3,hb⟩:∃ a1 t3,t2.read p=(a1,t3):=⟨_,_,rfl⟩;have HB:=gh hb;clear hb;go_wp2_with (fail);refine (kk_d _ x 4 IX.o HK.o).mono ?_;rintro e w' ⟨rfl,rfl⟩;go_wp2_with (fail);refine (read_r _ r t2 p G5.o.lies a1 t3 HB.o).mono ?_;rintro e W6 ⟨rfl,R6⟩;have ia:=(G5.o.ok.read HB.o).1;have G6':=R6.went_read G5.o.ok HB.o;clear R6;have PRP:=gh (PR5.o.ran G6'.ran.2 HR0.o);have L6:=gh (G6'.on.left);have GP:=gh (G5.o.trans G6'.gath);have IA:=gh ia;clear G6' ia;obtain ⟨a2,ha⟩:∃ a2,ad a1=a2:=⟨_,rfl⟩;have HA:=gh ha;have kr2:=ad_range a1;rw [ha] at kr2;obtain ⟨q0,q1⟩:=kr2;clear ha;go_wp2_with (fail);refine (ak_d _ a1 a2 IA.o HA.o).mono ?_;rintro e w' ⟨rfl,rfl⟩;go_wp2_with (fail);obtain ⟨q,t4,hq⟩:∃ q t4,t3.read (a2+4)=(q,t4):=⟨_,_,rfl⟩;have HQ:=gh hq;clear hq;obtain ⟨zs,t5,hzs⟩:∃ zs t5,Rn.gatherF B t4 a2 (wrap64 (f - rk)) (wrap64 (tu - rk)) ys=(zs,t5):=⟨_,_,rfl⟩;have HZ:=gh hzs;clear hzs;refine (read_r _ r t3 _ GP.o.lies q t4 HQ.o).mono ?_;rintro e W7 ⟨rfl,R7⟩;have G7':=R7.went_read GP.o.ok HQ.o;clear R7;have PR7:=gh (PRP.o.ran G7'.ran.2 HR0.o);have L7:=gh (G7'.on.left);have G7:=gh (GP.o.trans G7'.gath);clear G7'
         by_cases hgt:f < wrap64 (rk+wrap64 (q - 1))
         ·go_wp2_with (fail);refine (ih _ t4 _ _ _ vv ys (by have:=L5.o;have:=HTN.o;have:=L7.o;have:=L6.o;omega) G7.o.lies G7.o.ok PR7.o (by have:=L5.o;have:=L7.o;have:=HL.o;have:=HXS.o;have:=L6.o;omega) (Nat.le_trans HLO.o G7.o.turned.size) zs t5 HZ.o).mono ?_;rintro e W8 ⟨v8,rfl,PR8,G8,l8⟩;have L8:=gh l8;have HP8:=gh PR8;have G8':=gh (G7.o.trans G8);clear PR8 G8 l8;go_wp2;refine ⟨⟨i+1,_,t5,v8,zs,rfl,rfl,rfl,by omega,by omega,HP8.o,G8'.o,by have:=L5.o;have:=L7.o;have:=HL.o;have:=L8.o;have:=L6.o;omega,?_⟩,by simp [intOf];omega⟩;have hz:=HGK.o;rw [HC.o,Rn.gatherK_4 (b:=a1) (q:=q) (t3:=t3) (t4:=t4) (t5:=t5) (zs:=zs) hrt HOF.o HSL.o HK.o (by rw [HP.o];exact HB.o) (by rw [HA.o];exact HQ.o) hgt (by rw [HA.o];exact HZ.o)] at hz;rw [HC'.o];exact hz
         ·go_wp2;refine ⟨⟨i+1,_,t4,vv,ys,rfl,rfl,rfl,by omega,by omega,PR7.o,G7.o,by have:=L5.o;have:=L7.o;have:=HL.o;have:=L6.o;omega,?_⟩,by simp [intOf];omega⟩;have hz:=HGK.o;rw [HC.o,Rn.gatherK_4' (b:=a1) (q:=q) (t3:=t3) (t4:=t4) hrt HOF.o HSL.o HK.o (by rw [HP.o];exact HB.o) (by rw [HA.o];exact HQ.o) (Int.not_lt.2 hgt)] at hz;rw [HC'.o];exact hz
        ·have g2:(kk == 2)=false:=by simp [k2]
         have g3:(kk == 3)=false:=by simp [k3]
         have g4:(kk == 4)=false:=by simp [k4]
         go_wp2;refine ⟨⟨i+1,_,t2,vv,ys,rfl,rfl,rfl,by omega,by omega,PR5.o,G5.o,by have:=L5.o;have:=HL.o;omega,?_⟩,by simp [intOf];omega⟩;have hz:=HGK.o;rw [HC.o,Rn.gatherK_0 hrt HOF.o HSL.o (by rw [HK.o];exact k2) (by rw [HK.o];exact k3) (by rw [HK.o];exact k4)] at hz;rw [HC'.o];exact hz
    ·have hz:=HGK.o;rw [Rn.gatherK_end (.inl (by omega))] at hz;obtain ⟨rfl,rfl⟩:=Prod.mk.inj hz;clear hz;go_wp2;go_ret
     first | exact ⟨vv,rfl,PR.o,G.o,HL.o⟩ | exact ⟨PR.o,G.o,HL.o⟩
   ·have hz:=HGK.o;rw [show (d - i).toNat=0 from by omega] at hz;obtain ⟨rfl,rfl⟩:=Prod.mk.inj hz;clear hz;go_wp2;go_ret
    first | exact ⟨vv,rfl,PR.o,G.o,HL.o⟩ | exact ⟨PR.o,G.o,HL.o⟩
end
section
open Go.Shelf
variable {X:Nat->Prop}
attribute [local go_sem] Oper.semAt_some
namespace Rn
def againL:List (Int × Int)->Rn->Bool × Rn
 | [],s=>(true,s)
 | p :: L,s=>if s.off=true then (true,s) else if (s.peek p.1).1=p.2 then againL L (s.peek p.1).2 else (false,(s.peek p.1).2)
theorem againL_off {L:List (Int × Int)} {s:Rn} (h:s.off=true):againL L s=(true,s):=by
 cases L with
 | nil=>rfl
 | cons p L=>rw [againL,if_pos h]
theorem againL_same {L:List (Int × Int)} {s t:Rn} {a y:Int} (h:s.off=false) (e:s.peek a=(y,t)):againL ((a,y) :: L) s=againL L t:=by
 rw [againL,h,e];simp
theorem againL_other {L:List (Int × Int)} {s t:Rn} {a y z:Int} (h:s.off=false) (e:s.peek a=(z,t)) (hz:z≠y):againL ((a,y) :: L) s=(false,t):=by
 rw [againL,h,e];simp [hz]
end Rn
set_option maxRecDepth 100000 in
set_option maxHeartbeats 1000000 in
theorem again_r (W:World) (r:Nat) (s:Rn) (la:Option Addr) (N lc:Nat) (L:List (Int × Int)) (h:RunAt X W r s) (ho:s.ok) (hr:PReads W la L) (hN:L.length=N) (hc:N<=lc) (hm:N<=1000000) (hb:∀ ad,la=some ad->ad.block≠r) (b:Bool) (sE:Rn) (he:Rn.againL L s=(b,sE)) :
  Calls Tryz.prog 128 #[.pointer (some ⟨r,0,none⟩),.slice la N lc] W fun e W'=>e=.returned (.bool b)/\Went X W r s sE W':=by
 have H:=gh h;have OK:=gh ho;have HR:=gh hr;have HL:=gh hN;have HB:=gh hb;have HE:=gh he;clear h ho hr hN hb he;go_enter Tryz.func128,Tryz.ntmps128;go_wp2_with (fail)
 go_loopw [5] (fun v wr=>∃ (i:Nat) (t:Rn),v=.int .i64 (i:Int)/\i<=N/\Went X W r s t wr/\Rn.againL (L.drop i) t=(b,sE)) (fun v _=>N - (intOf v).toNat)
 case atStart=>exact ⟨0,s,rfl,by omega,Went.refl H.o OK.o,by simpa using HE.o⟩
 case round=>
  obtain ⟨i,t,rfl,i1,hG,hA⟩:=hrel;have HAG:=gh hA;clear hA;have G:=gh hG;obtain ⟨ta,tc,wa,wc,RI⟩:=hG.at;obtain ⟨_,_,c2,_,_,ff⟩:=RI.cells;clear RI ff
  by_cases hi:i < N
  ·have q1:(i:Int) < (N:Int):=by omega
   have q2:i < lc:=by omega
   cases hof:t.off with
   | true=>
    rw [hof] at c2;have hz:=HAG.o;rw [Rn.againL_off hof] at hz;obtain ⟨rfl,rfl⟩:=Prod.mk.inj hz;clear hof hG hz;go_wp2;go_ret;exact ⟨rfl,G.o⟩
   | false=>
    rw [hof] at c2;have hr2:=HR.o.turned hG.ran.2 (fun k _ ⟨ad,e,e'⟩ hk=>HB.o ad e (by rw [e',hk]));obtain ⟨p,hp⟩:∃ p,L[i]? = some p:=⟨_,List.getElem?_eq_getElem (by rw [HL.o];exact hi)⟩;obtain ⟨sl,y⟩:=p;have HDR:Hid (L.drop i=(sl,y) :: L.drop (i+1)):=gh (by
     obtain ⟨hi',e⟩:=List.getElem?_eq_some_iff.1 hp;rw [List.drop_eq_getElem_cons hi',e])
    have HOF:=gh hof;obtain ⟨z,t2,hpk⟩:∃ z t2,t.peek sl=(z,t2):=⟨_,_,rfl⟩;have HPK:=gh hpk;clear hpk;obtain ⟨bl,off,rfl,hbl,cs,cy⟩:=hr2.at hp;have hne:bl≠r:=HB.o _ rfl;obtain ⟨V,hV⟩:∃ V,wr.drew=V:=⟨_,rfl⟩;have kV:Kept wr V:=by rw [<- hV];exact Kept.drew _
    have x0:∀ u:Wd (fun U=>Td (fun k=>k=r) V U),u.w.cell? ⟨bl,off+i * 2,none⟩=some (.int .i64 sl):=fun u=>u.ok.cell (kV.cell cs id) hne;have x1:∀ u:Wd (fun U=>Td (fun k=>k=r) V U),u.w.cell? ⟨bl,off+(i * 2+1),none⟩=some (.int .i64 y):=fun u=>u.ok.cell (kV.cell cy id) hne;have x2:∀ u:Wd (fun U=>Td (fun k=>k=r) V U),u.w.cell? ⟨bl,off+i * 2+1,none⟩=some (.int .i64 y):=fun u=>x1 u;have HV:=gh hV;have KV:=gh kV;clear hV kV hr2 hp cs cy hG hof;go_wp2_with (fail);refine region_wide [0,1,2,3,4,5,7,8,9,10,11,6,12] (fun U=>Td (fun k=>k=r) V U) (by kernel_rfl) (by kernel_rfl) (by rw [HV.o];exact Td.refl _ _) (fun _=>?_);rw [HV.o]
    repeat (refine pq rfl rfl ?_;go_big_quiet_step (fail);refine wpQuiet_nil ?_)
    refine pl rfl rfl ?_;gi_wp2_with (fail);refine ⟨trivial,?_⟩;refine (callsIn_wide.2 (peek_r _ r t sl (G.o.at.kept KV.o) G.o.ok z t2 HPK.o)).mono ?_;rintro e U ⟨rfl,R2⟩;have G2':=R2.went_peek G.o.ok HPK.o;clear R2;have G2:=gh (G.o.trans (⟨Ran.behind KV.o G2'.ran,G2'.on,G2'.ok⟩:Went X wr r t t2 U));have TU:=gh G2'.ran.2;clear G2'
    by_cases hzy:z=y
    ·subst hzy;gi_wp2_with (fail);refine ⟨Wd.mem TU.o,?_⟩
     repeat (refine pq rfl rfl ?_;go_big_quiet_step (fail);refine wpQuiet_nil ?_)
     refine perm_done ?_;go_wp2;refine ⟨⟨i+1,t2,by simp,by omega,G2.o,?_⟩,by simp [intOf];omega⟩;have hz:=HAG.o;rw [HDR.o,Rn.againL_same HOF.o HPK.o] at hz;exact hz
    ·have g1:(z == y)=false:=by simp [hzy]
     have g2:(z != y)=true:=by simp [hzy]
     gi_wp2_with (fail);refine ⟨Wd.mem TU.o,?_⟩
     repeat (refine pq rfl rfl ?_;go_big_quiet_step (fail);refine wpQuiet_nil ?_)
     refine perm_done ?_;have hz:=HAG.o;rw [HDR.o,Rn.againL_other HOF.o HPK.o hzy] at hz;obtain ⟨rfl,rfl⟩:=Prod.mk.inj hz;clear hz;go_wp2;go_ret;exact ⟨rfl,G2.o⟩
  ·have q1:¬ ((i:Int) < (N:Int)):=by omega
   have hz:=HAG.o;rw [List.drop_eq_nil_of_le (by rw [HL.o];omega)] at hz;obtain ⟨rfl,rfl⟩:=Prod.mk.inj hz;clear hz;go_wp2;go_ret
   first | exact ⟨rfl,G.o⟩ | exact G.o
end
section
open Go.Shelf
variable {X:Nat->Prop}
attribute [local go_sem] Oper.semAt_some
def Rn.partR (N:Nat) (s:Rn) (n m root d i:Int):Bool × Rn:=
 let g:=Rn.gatherF N s n (Pt.fromZ m i) (wrap64 (Pt.fromZ m i+Pt.sizeZ m i)) []
 if g.2.off=true then (true,g.2)
 else
  let w:=Rn.growF (g.1.length+1) g.2 g.1
  if w.1.2=false then (false,w.2)
  else
   let t:=if 0 < i/\0 < g.1.length then w.2.write (keyZ root i) (g.1.headD (0,0)).1 else w.2
   (true,(t.cas (childZ root d i) 0 w.1.1).2)
namespace Rn
theorem recM_on (s:Rn) (k:Int) (ws:List Int):On s (s.recM k ws).2:=Rn.ask_on s _
theorem growK_on (L:Rn->List (Int × Int)->(Int × Bool) × Rn) (hL:∀ s ps,On s (L s ps).2) (ps:List (Int × Int)) (s:Rn):∀ n,On s (growK L ps s n).2
 | 0=>On.refl s
 | n+1=>by
  rw [growK]
  split
  ·exact growK_on L hL ps s n
  ·exact (growK_on L hL ps s n).trans (hL _ _)
theorem growF_on:∀ (f:Nat) (s:Rn) (ps:List (Int × Int)),On s (growF f s ps).2
 | 0,s,_=>On.refl s
 | f+1,s,ps=>by
  rw [growF_succ]
  split
  ·exact recM_on _ _ _
  ·split
   ·exact recM_on _ _ _
   ·split
    ·exact (growK_on _ (growF_on f) ps s _).trans (recM_on _ _ _)
    ·exact growK_on _ (growF_on f) ps s _
end Rn
theorem cas_on {s s':Rn} {a x y:Int} {b:Bool} (e:s.cas a x y=(b,s')):Rn.On s s':=by
 have:s'=(s.ask ⟨3,a,x,y,[]⟩).2:=(congrArg Prod.snd e).symm
 rw [this];exact Rn.ask_on s _
set_option maxRecDepth 100000 in
set_option maxHeartbeats 2000000 in
theorem part_r (N:Nat) (W:World) (r:Nat) (s:Rn) (n m root d i:Int) (h:RunAt X W r s) (ho:s.ok) (hX:∀ k,W.heap.size<=k->X k) (hm:I64 m) (hN:s.left < N) (hl:s.left<=16384) (b:Bool) (sE:Rn) (he:s.partR N n m root d i=(b,sE)) :
  Calls Tryz.prog 172 #[.pointer (some ⟨r,0,none⟩),.int .i64 n,.int .i64 m,.int .i64 root,.int .i64 d,.int .i64 i] W fun e W'=>e=.returned (.bool b)/\Went X W r s sE W':=by
 have HRL:=gh h.lt;have H:Hid (RunAt (fun k=>X k/\k < W.heap.size) W r s):=gh (h.to fun k a c=>⟨a,c⟩);have HX:=gh hX;have HM:=gh hm;have OK:=gh ho;have HN:=gh hN;have HL:=gh hl;obtain ⟨fr,hfr⟩:∃ fr,Pt.fromZ m i=fr:=⟨_,rfl⟩;obtain ⟨sz,hsz⟩:∃ sz,Pt.sizeZ m i=sz:=⟨_,rfl⟩;obtain ⟨ys,s1,hg⟩:∃ ys s1,Rn.gatherF N s n fr (wrap64 (fr+sz)) []=(ys,s1):=⟨_,_,rfl⟩;unfold Rn.partR at he;rw [hfr,hsz,hg] at he;dsimp only at he;have HE:=gh he;have HFR:=gh hfr;have HSZ:=gh hsz;have HG:=gh hg;clear h ho hX hm hN hl he hfr hsz hg;go_enter Tryz.func172,Tryz.ntmps172;go_wp2_with (fail);refine (Pt.from_r m i (I64.wf HM.o) _).mono ?_;rw [HFR.o];rintro e w' ⟨rfl,rfl⟩;go_wp2_with (fail);refine (Pt.size_r m i (I64.wf HM.o) _).mono ?_;rw [HSZ.o];rintro e w' ⟨rfl,rfl⟩;go_wp2_with (fail);refine (gather_r (lo:=W.heap.size) (fun k h=>h.2) r N W s n fr _ _ [] HN.o H.o OK.o (PRow.nil _ _ _) (by have:=HL.o;simp;omega) (Nat.le_refl _) ys s1 HG.o).mono ?_;rintro e W1 ⟨v,rfl,PR,G,hlen⟩;obtain ⟨a,cap,rfl,pr,hc,hcm,ha0,hab⟩:=PR.reads;have T1:Hid (Td (fun k=>k=r) W W1):=gh (G.turned.mono fun k h1 h2=>h2.elim id (fun h3=>absurd h1 (Nat.not_lt.2 h3)));have ON1:=gh G.on;have OK1:=gh G.ok;have R1:Hid (RunAt X W1 r s1):=gh (G.lies.to fun k h _=>h.1);have HLEN:Hid (ys.length<=16384):=gh (by have:=HL.o;simp at hlen;omega);obtain ⟨ta,tc,wa,wc,RI⟩:=G.lies;obtain ⟨_,_,c2,_,_,ff⟩:=RI.cells;have PRD:=gh pr;have HC:=gh hc;have HCM:=gh hcm;have HAB:Hid (∀ ad,a=some ad->ad.block≠r):=gh (fun ad e=>by have:=hab ad e;have:=HRL.o;omega);obtain ⟨M,hM⟩:∃ M,ys.length=M:=⟨_,rfl⟩;have hM':=hM;have HXN:Hid (∀ k,W1.heap.size<=k->X k):=gh (fun k h=>HX.o k (Nat.le_trans T1.o.size h));rw [hM] at HLEN HC;have HMM:=gh hM;have HE1:=gh HE.o;have m0:=HLEN.o;rw [hM] at HE1;rw [hM'];clear RI ff PR G hlen pr hc hcm ha0 hab hM hM' HE;cases hof:s1.off with
 | true=>
  rw [hof] at c2;have hz:=HE1.o;rw [if_pos hof] at hz;obtain ⟨rfl,rfl⟩:=Prod.mk.inj hz;clear hz HE1 hof;go_wp2;go_ret;exact ⟨rfl,⟨R1.o,T1.o⟩,ON1.o,OK1.o⟩
 | false=>
  rw [hof] at c2;obtain ⟨x,ok,s2,hgr⟩:∃ x ok s2,Rn.growF (M+1) s1 ys=((x,ok),s2):=⟨_,_,_,rfl⟩;have HE2:Hid ((if ok=false then (false,s2) else (true,((if 0 < i/\0 < M then s2.write (keyZ root i) (ys.headD (0,0)).1 else s2).cas (childZ root d i) 0 x).2))=(b,sE)):=gh (by
   have:=HE1.o
   rw [if_neg (by rw [hof];decide),hgr] at this;exact this)
  have HGR:=gh hgr;clear hof hgr HE1;go_wp2_with (fail);refine (grow_r (M+1) X W1 r s1 a ys M cap R1.o HXN.o PRD.o HMM.o HC.o HCM.o HLEN.o (by omega) (fun _=>HAB.o) x ok s2 HGR.o).mono ?_;rintro e W2 ⟨rfl,R2⟩;have D2:Hid (Ran X W r s2 W2):=gh ⟨R2.1,T1.o.trans R2.2 (fun _ e=>e) (fun _ _ e=>e)⟩;have ON2:Hid (Rn.On s s2):=gh (ON1.o.trans (by have:=Rn.growF_on (M+1) s1 ys;rw [HGR.o] at this;exact this));have P2:Hid (PReads W2 a ys):=gh (PRD.o.turned R2.2 (fun k _ ⟨ad,e,e'⟩ hk=>HAB.o ad e (by rw [e',hk])));clear R2;cases ok with
  | false=>
   have hz:=HE2.o;rw [if_pos rfl] at hz;obtain ⟨rfl,rfl⟩:=Prod.mk.inj hz;clear hz HE2;go_wp2;go_ret;exact ⟨rfl,D2.o,ON2.o,ON2.o.ok OK.o⟩
  | true=>
   obtain ⟨kz,hkz⟩:∃ kz,keyZ root i=kz:=⟨_,rfl⟩;obtain ⟨cz,hcz⟩:∃ cz,childZ root d i=cz:=⟨_,rfl⟩;have HKZ:=gh hkz;have HCZ:=gh hcz
   by_cases i0:0 < i
   ·by_cases l0:0 < M
    ·obtain ⟨bl,off,rfl⟩:∃ bl off,a=some ⟨bl,off,none⟩:=by
      rcases P2.o with e | ⟨bl,off,e,_⟩
      ·have:=HMM.o;rw [e] at this;simp at this;omega
      ·exact ⟨bl,off,e⟩
     obtain ⟨q,hq⟩:∃ q,(ys.headD (0,0)).1=q:=⟨_,rfl⟩;have c1:=(preads_head P2.o (by have:=HMM.o;omega)).1;rw [hq] at c1;obtain ⟨s3,h3⟩:∃ s3,s2.write kz q=s3:=⟨_,rfl⟩;obtain ⟨b4,s4,h4⟩:∃ b4 s4,s3.cas cz 0 x=(b4,s4):=⟨_,_,rfl⟩;have hz:=HE2.o;rw [if_neg (by decide),if_pos ⟨i0,l0⟩,hkz,hcz,hq,h3,h4] at hz;obtain ⟨rfl,rfl⟩:=Prod.mk.inj hz;have H3:=gh h3;have H4:=gh h4;have l1:(0:Int) < (M:Int):=by omega
     have l2:0 < cap:=by have:=HC.o;omega
     obtain ⟨V,hV⟩:∃ V,W2.drew=V:=⟨_,rfl⟩;have kV:Kept W2 V:=by rw [<- hV];exact Kept.drew _
     have hna:=HAB.o _ rfl;have x1:∀ u:Wd (fun U=>Td (fun k=>k=r) V U),u.w.cell? ⟨bl,off,none⟩=some (.int .i64 q):=fun u=>u.ok.cell (kV.cell c1 id) hna;have HV:=gh hV;have KV:=gh kV;clear hz HE2 h3 h4 hkz hcz hq c1 hV kV hna;go_wp2_with (fail);refine region_wide [0,1,2,4,5,6,7,3,8] (fun U=>Td (fun k=>k=r) V U) (by kernel_rfl) (by kernel_rfl) (by rw [HV.o];exact Td.refl _ _) (fun _=>?_);rw [HV.o]
     repeat (refine pq rfl rfl ?_;go_big_quiet_step (fail);refine wpQuiet_nil ?_)
     refine pl rfl rfl ?_;gi_wp2_with (fail);refine ⟨trivial,?_⟩;refine (callsIn_wide.2 (key_r V root i kz HKZ.o)).mono ?_;rintro e U ⟨rfl,rfl⟩;gi_wp2_with (fail);refine ⟨Wd.mem (Td.refl _ _),?_⟩;refine pl rfl rfl ?_;gi_wp2_with (fail);refine ⟨trivial,?_⟩;refine (callsIn_wide.2 (write_r V r s2 kz q (D2.o.1.kept KV.o) s3 H3.o)).mono ?_;rintro e W3 ⟨rfl,R3⟩;have D3:=gh (D2.o.trans (Ran.behind KV.o R3));have TU:=gh R3.2;clear R3;gi_wp2_with (fail);refine ⟨Wd.mem TU.o,?_⟩
     repeat (refine pq rfl rfl ?_;go_big_quiet_step (fail);refine wpQuiet_nil ?_)
     refine perm_done ?_;go_wp2_with (fail);refine (child_r _ root d i cz HCZ.o).mono ?_;rintro e w' ⟨rfl,rfl⟩;go_wp2_with (fail);refine (cas_r _ r s3 cz 0 x D3.o.1 b4 _ H4.o).mono ?_;rintro e W4 ⟨rfl,R4⟩;go_wp2;go_ret;have ON4:=(ON2.o.trans (s'':=s3) (by rw [<- H3.o];exact Rn.ask_on _ _)).trans (cas_on H4.o);exact ⟨rfl,D3.o.trans R4,ON4,ON4.ok OK.o⟩
    ·obtain ⟨b4,s4,h4⟩:∃ b4 s4,s2.cas cz 0 x=(b4,s4):=⟨_,_,rfl⟩;have hz:=HE2.o;rw [if_neg (by decide),if_neg (fun h=>l0 h.2),hcz,h4] at hz;obtain ⟨rfl,rfl⟩:=Prod.mk.inj hz;have H4:=gh h4;have l1:¬ (0:Int) < (M:Int):=by omega
     clear hz HE2 h4 hkz hcz;go_wp2_with (fail);refine (child_r _ root d i cz HCZ.o).mono ?_;rintro e w' ⟨rfl,rfl⟩;go_wp2_with (fail);refine (cas_r _ r s2 cz 0 x D2.o.1 b4 _ H4.o).mono ?_;rintro e W4 ⟨rfl,R4⟩;go_wp2;go_ret;have ON4:=ON2.o.trans (cas_on H4.o);exact ⟨rfl,D2.o.trans R4,ON4,ON4.ok OK.o⟩
   ·obtain ⟨b4,s4,h4⟩:∃ b4 s4,s2.cas cz 0 x=(b4,s4):=⟨_,_,rfl⟩;have hz:=HE2.o;rw [if_neg (by decide),if_neg (fun h=>i0 h.1),hcz,h4] at hz;obtain ⟨rfl,rfl⟩:=Prod.mk.inj hz;have H4:=gh h4;clear hz HE2 h4 hkz hcz;go_wp2_with (fail);refine (child_r _ root d i cz HCZ.o).mono ?_;rintro e w' ⟨rfl,rfl⟩;go_wp2_with (fail);refine (cas_r _ r s2 cz 0 x D2.o.1 b4 _ H4.o).mono ?_;rintro e W4 ⟨rfl,R4⟩;go_wp2;go_ret;have ON4:=ON2.o.trans (cas_on H4.o);exact ⟨rfl,D2.o.trans R4,ON4,ON4.ok OK.o⟩
end
section
section
variable {P:Program} {ops:Array Oper} {Q:Exit->Act->World->Prop} {md:Region.Mode} {C:World->Prop} {n:Nat}
def Closed (md:Region.Mode) (ops:Array Oper) (listed:Array Bool):Prop:=
 ∀ (j:Nat) (o:Oper),ops[j]? = some o->listed.getD j false=true->∀ e ∈ o.after,Region.binds md e=true->listed.getD e.on false=true
theorem closed_start (m:Nat):Closed md ops (Array.replicate m false):=fun j o _ h=>by
 exfalso;rcases Nat.lt_or_ge j m with h' | h'
 ·simp [h'] at h
 ·simp [Nat.not_lt.2 h'] at h
theorem closed_step {listed:Array Bool} {j:Nat} (h:Closed md ops listed) (hj:j ∈ Region.ready md ops listed):Closed md ops (listed.setIfInBounds j true):=by
 intro k o hk hl e he hb
 by_cases hkj:j=k
 ·subst hkj;obtain ⟨_,o',ho',hall⟩:=mem_ready.1 hj;rw [hk] at ho';cases ho';exact getD_set_true (hall e he hb)
 ·rw [getD_set_ne false hkj] at hl;exact getD_set_true (h k o hk hl e he hb)
inductive Anc (md:Region.Mode) (ops:Array Oper):Nat->Nat->Prop
 | direct {i:Nat} {o:Oper} {e:Edge}:ops[i]? = some o->e ∈ o.after->Region.binds md e=true->Anc md ops e.on i
 | trans {p q i:Nat}:Anc md ops p q->Anc md ops q i->Anc md ops p i
theorem anc_done {listed:Array Bool} (hc:Closed md ops listed) {p i:Nat} (h:Anc md ops p i):(∀ o,ops[i]? = some o->∀ e ∈ o.after,Region.binds md e=true->listed.getD e.on false=true)->listed.getD p false=true:=by
 induction h with
 | direct ho he hb=>exact fun h=>h _ ho _ he hb
 | trans _ _ ih1 ih2=>exact fun h=>ih1 (fun o ho e he hb=>hc _ o ho (ih2 h) e he hb)
def ancB (md:Region.Mode) (ops:Array Oper):Nat->Nat->Nat->Bool
 | 0,_,_=>false
 | f+1,p,i=>match ops[i]? with
  | none=>false
  | some o=>o.after.any fun e=>Region.binds md e && (e.on == p || ancB md ops f p e.on)
theorem ancB_sound:∀ (f p i:Nat),ancB md ops f p i=true->Anc md ops p i
 | 0,_,_,h=>by cases h
 | f+1,p,i,h=>by
  unfold ancB at h;cases ho:ops[i]? with
  | none=>rw [ho] at h;cases h
  | some o=>
   rw [ho] at h;obtain ⟨e,he,hb⟩:=Array.any_eq_true'.1 h;simp only [Bool.and_eq_true,Bool.or_eq_true,beq_iff_eq] at hb;obtain ⟨h1,h2⟩:=hb;have hd:Anc md ops e.on i:=.direct ho he h1;rcases h2 with h2 | h2
   ·rw [<- h2];exact hd
   ·exact .trans (ancB_sound f p e.on h2) hd
theorem not_ready {listed:Array Bool} (hc:Closed md ops listed) {p i:Nat} (h:Anc md ops p i) (hp:p ∈ Region.ready md ops listed):i ∉ Region.ready md ops listed:=by
 intro hi;obtain ⟨_,o,ho,hall⟩:=mem_ready.1 hi;have h1:=anc_done hc h (fun o' ho'=>by rw [ho] at ho';cases ho';exact hall);have h0:=(mem_ready.1 hp).1;rcases Nat.lt_or_ge p listed.size with h' | h'
 ·simp [h'] at h0 h1;rw [h0] at h1;cases h1
 ·simp [Array.getElem?_eq_none h'] at h1
def anyB (P:Program) (md:Region.Mode) (ops:Array Oper) (Q:Exit->Act->World->Prop) (C:World->Prop) (n i:Nat):Nat->Array Bool->Act->World->Prop
 | 0,_,_,_=>False
 | fuel+1,listed,a,w=>
  (Region.ready md ops listed=[]->Q .normal a w)/\
  ∀ j ∈ Region.ready md ops listed,wpOpIn Fence.wide n P ops Q j (fun a' w'=>if j=i then wpAnyIn Fence.wide n P md ops Q fuel (listed.setIfInBounds j true) a' w' else C w'/\anyB P md ops Q C n i fuel (listed.setIfInBounds j true) a' w') a w
theorem wpAnyIn_of_anyB {i:Nat}:∀ (fuel:Nat) (listed:Array Bool) (a:Act) (w:World),anyB P md ops Q C n i fuel listed a w->wpAnyIn Fence.wide n P md ops Q fuel listed a w
 | 0,_,_,_,h=>h.elim
 | fuel+1,_,_,_,h=>⟨h.1,fun j hj=>wpOpIn_mono (fun a' w' h'=>by
   by_cases e:j=i
   ·rw [if_pos e] at h';exact h'
   ·rw [if_neg e] at h';exact wpAnyIn_of_anyB fuel _ a' w' h'.2) (h.2 j hj)⟩
theorem anyB_first {p i:Nat} {oi:Oper} {v:Value} (hi:ops[p]? = some oi) (hpi:p≠i) (hanc:Anc md ops p i) (hsel:∀ (j:Nat) (o:Oper) cs b,ops[j]? = some o->o.op≠.select cs b)
  (hQ:∀ c a w,Q (.panic c) (a.put oi.dst v) w->Q (.panic c) a w) :
  ∀ (fuel:Nat) (listed:Array Bool) (a:Act) (w:World),Closed md ops listed->
   (∀ j oj,ops[j]? = some oj->j≠p->listed.getD j true=false->(∀ e ∈ oj.after,Region.binds md e=true->e.on≠p)->oi.apart ops oj=true)->
   p ∈ Region.ready md ops listed->YieldsIf P ops C oi v a->C w->
   anyB P md ops Q C n i fuel (listed.setIfInBounds p true) (a.put oi.dst v) w->anyB P md ops Q C n i (fuel+1) listed a w:=by
 intro fuel
 induction fuel with
 | zero=>
  intro listed a w _ _ _ _ _ H;exact H.elim
 | succ fuel ih=>
  intro listed a w hcl hfree hr hy hS H;refine ⟨fun h=>(by rw [h] at hr;cases hr),fun j hj=>?_⟩
  by_cases hjp:j=p
  ·subst hjp;refine yieldsIf_wpOpIn hi hy hS ?_;rw [if_neg hpi];exact ⟨hS,H⟩
  ·have hji:j≠i:=fun e=>not_ready hcl hanc hr (e ▸ hj);have h1:=H.2 j (ready_mono hj hjp);simp only [if_neg hji] at h1 ⊢;obtain ⟨hjun,oj,hoj,hall⟩:=mem_ready.1 hj;have hnot:∀ e ∈ oj.after,Region.binds md e=true->e.on≠p:=fun e he hb heq=>by
    have h1:=hall e he hb;have h0:=(mem_ready.1 hr).1;rw [heq] at h1;rcases Nat.lt_or_ge p listed.size with h' | h'
    ·simp [h'] at h0 h1;rw [h0] at h1;cases h1
    ·simp [Array.getElem?_eq_none h'] at h1
   have h2:=wpOpIn_putIf hoj (hfree j oj hoj hjp hjun hnot) (fun cs b=>hsel p oi cs b hi) (fun cs b=>hsel j oj cs b hoj) hQ hy h1;have hfree':∀ k ok,ops[k]? = some ok->k≠p->(listed.setIfInBounds j true).getD k true=false->
     (∀ e ∈ ok.after,Region.binds md e=true->e.on≠p)->oi.apart ops ok=true:=fun k ok hk hki hun hno=>by
    refine hfree k ok hk hki ?_ hno
    by_cases hjk:j=k
    ·subst hjk;exact hjun
    ·rw [getD_set_ne true hjk] at hun;exact hun
   refine wpOpIn_mono (fun a' w' h3=>⟨h3.2.1,ih (listed.setIfInBounds j true) a' w' (closed_step hcl hj) hfree' (ready_mono hr (Ne.symm hjp)) h3.1 h3.2.1 ?_⟩) h2;rw [Array.setIfInBounds_comm _ _ hjp];exact h3.2.2
def wpTwo (P:Program) (ops:Array Oper) (Q:Exit->Act->World->Prop) (C:World->Prop) (n i:Nat) (is:List Nat):List Nat->Act->World->Prop
 | [],a,w=>wpOpIn Fence.wide n P ops Q i (fun a' w'=>∃ S2:World->Prop,S2 w'/\wpPerm P ops Q (fun V=>∃ x:Wd S2,V=x.w) n is a' w') a w
 | p :: ps,a,w=>match ops[p]? with
  | none=>False
  | some o=>∃ v,YieldsIf P ops C o v a/\wpTwo P ops Q C n i is ps (a.put o.dst v) w
end
section
variable {P:Program} {l:List Oper} {Q:Exit->Act->World->Prop} {C:World->Prop} {n:Nat} {i p:Nat} {is ps:List Nat} {o:Oper} {a:Act} {w:World}
theorem loud_list {K:Act->World->Prop} (ho:nth l i=some o) (h:wpListIn Fence.wide n P l.toArray (Exit.then K Q) [o] a w):wpOpIn Fence.wide n P l.toArray Q i K a w:=by
 unfold wpOpIn;simp only [(nth_eq l i).trans ho];unfold wpListIn at h
 split
 ·rename_i hw;rw [if_pos hw] at h;unfold Oper.wpIn at h ⊢;refine ⟨h.1,?_⟩;have h:=h.2;generalize (o.semAt Fence.wide.round a.eval).run P w=r at h ⊢;cases r with
  | ok x w'=>
   cases x <;> simp only [Oper.uponIn,wpListIn,Exit.then] at h ⊢ <;> exact h
  | halt x w'=>cases x <;> simp only [Oper.uponIn,Exit.then] at h ⊢ <;> exact h
 ·rename_i hw;rw [if_neg hw] at h;exact h
theorem tl (ho:nth l i=some o) (h:wpListIn Fence.wide n P l.toArray (Exit.then (fun a' w'=>∃ S2:World->Prop,S2 w'/\wpPerm P l.toArray Q (fun V=>∃ x:Wd S2,V=x.w) n is a' w') Q) [o] a w):wpTwo P l.toArray Q C n i is [] a w:=by
 unfold wpTwo;exact loud_list ho h
end
end
section
section
variable {P:Program} {ops:Array Oper} {Q:Exit->Act->World->Prop} {md:Region.Mode} {C:World->Prop} {n:Nat}
def wpLast (P:Program) (ops:Array Oper) (Q:Exit->Act->World->Prop) (C:World->Prop) (n i:Nat):List Nat->Act->World->Prop
 | [],a,w=>wpOpIn Fence.wide n P ops Q i (fun a' w'=>Q .normal a' w') a w
 | p :: ps,a,w=>match ops[p]? with
  | none=>False
  | some o=>if plainOp o.op then (∃ v,YieldsIf P ops C o v a/\wpLast P ops Q C n i ps (a.put o.dst v) w) else wpOpIn Fence.wide n P ops Q p (fun a' w'=>C w'/\wpLast P ops Q C n i ps a' w') a w
def lastB (md:Region.Mode) (ops:Array Oper) (i:Nat):List Nat->Array Bool->Bool
 | [],listed=>Region.ready md ops listed == [i] && (Region.ready md ops (listed.setIfInBounds i true)).isEmpty
 | p :: ps,listed=>(match ops[p]? with | none=>false | some o=>if plainOp o.op then (Region.ready md ops listed).contains p && Region.free md ops listed p && ancB md ops ops.size p i else Region.ready md ops listed == [p]) && p != i && lastB md ops i ps (listed.setIfInBounds p true)
theorem last_any {i:Nat} (hs:Region.noSelect ops=true) (hQ:∀ c a d v w,Q (.panic c) (Act.put a d v) w->Q (.panic c) a w):∀ (ps:List Nat) (listed:Array Bool) (a:Act) (w:World),C w->Closed md ops listed->lastB md ops i ps listed=true->wpLast P ops Q C n i ps a w->anyB P md ops Q C n i (ps.length+1) listed a w
 | [],listed,a,w,_,_,hB,h=>by
  simp only [lastB,Bool.and_eq_true,beq_iff_eq] at hB;obtain ⟨hr,hB2⟩:=hB;refine ⟨fun h0=>(by rw [hr] at h0;cases h0),fun j hj=>?_⟩;rw [hr] at hj;obtain rfl:j=i:=by simpa using hj
  refine wpOpIn_mono (fun a' w' h'=>?_) h;rw [if_pos rfl];exact ⟨by simpa using hB2,h'⟩
 | p :: ps,listed,a,w,hC,hcl,hB,h=>by
  simp only [lastB,Bool.and_eq_true,bne_iff_ne,ne_eq] at hB;obtain ⟨⟨hB1,hpi⟩,hB2⟩:=hB;unfold wpLast at h;cases ho:ops[p]? with
  | none=>simp [ho] at hB1
  | some o=>
   simp only [ho] at hB1 h
   by_cases hp:plainOp o.op=true
   ·simp only [hp,if_true,Bool.and_eq_true] at hB1 h;obtain ⟨⟨hr,hf⟩,hanc⟩:=hB1;obtain ⟨v,hy,hk⟩:=h;have hr':p ∈ Region.ready md ops listed:=by simpa using hr
    exact anyB_first ho hpi (ancB_sound _ _ _ hanc) (Region.noSelect_spec hs) (fun c a w=>hQ c a _ v w) _ listed a w hcl (Region.free_spec ho hf) hr' hy hC (last_any hs hQ ps _ _ _ hC (closed_step hcl hr') hB2 hk)
   ·simp only [hp,Bool.false_eq_true,if_false] at hB1 h;have hr:Region.ready md ops listed=[p]:=by simpa using hB1
    refine ⟨fun h0=>(by rw [hr] at h0;cases h0),fun j hj=>?_⟩;rw [hr] at hj;obtain rfl:j=p:=by simpa using hj
    have hj':j ∈ Region.ready md ops listed:=by rw [hr];simp
    refine wpOpIn_mono (fun a' w' h'=>?_) h;rw [if_neg hpi];exact ⟨h'.1,last_any hs hQ ps _ _ _ h'.1 (closed_step hcl hj') hB2 h'.2⟩
end
section
variable {P:Program} {l:List Oper} {Q:Exit->Act->World->Prop} {C:World->Prop} {n:Nat} {i p:Nat} {ps:List Nat} {o:Oper} {a:Act} {w:World}
theorem lq (ho:nth l p=some o) (hp:plainOp o.op=true) (h:wpQuiet P l.toArray C (fun a'=>wpLast P l.toArray Q C n i ps a' w) [o] a):wpLast P l.toArray Q C n i (p :: ps) a w:=by
 have ho':=(nth_eq l p).trans ho;unfold wpLast;simp only [ho',hp,if_true];unfold wpQuiet at h
 by_cases hw:Region.wanted o (yielded l.toArray a.tmps)=true
 ·rw [if_pos hw] at h;obtain ⟨v,hv,hk⟩:=h;refine ⟨v,.inl ⟨hw,fun w1 hC=>?_⟩,hk⟩;have h1:=hv w1 hC;unfold Oper.quietAt at h1;cases hr:(execOp a.eval o).run P w1 with
  | ok x w'=>
   rw [hr] at h1;obtain ⟨u,rfl⟩:=plain_value hp hr;simp only [Oper.quietUpon] at h1;rw [h1.1,h1.2]
  | halt x w'=>rw [hr] at h1;exact h1.elim
 ·rw [if_neg hw] at h;exact ⟨undef,.inr ⟨by simpa using hw,rfl⟩,h⟩
theorem ll (ho:nth l p=some o) (hp:plainOp o.op=false) (h:wpListIn Fence.wide n P l.toArray (Exit.then (fun a' w'=>C w'/\wpLast P l.toArray Q C n i ps a' w') Q) [o] a w):wpLast P l.toArray Q C n i (p :: ps) a w:=by
 unfold wpLast;simp only [(nth_eq l p).trans ho,hp,Bool.false_eq_true,if_false];exact loud_list ho h
theorem lz (ho:nth l i=some o) (h:wpListIn Fence.wide n P l.toArray (Exit.then (fun a' w'=>Q .normal a' w') Q) [o] a w):wpLast P l.toArray Q C n i [] a w:=by
 unfold wpLast;exact loud_list ho h
end
theorem region_last {P:Program} {ops:Array Oper} {Q:Exit->Act->World->Prop} {id:Nat} {a:Act} {w:World} (ps:List Nat) (i:Nat) (S:World->Prop) (hm:P.follows .mixedOrders=true)
  (hB:(Region.noSelect ops && ps.length+1 == ops.size && lastB .any ops i ps (Array.replicate ops.size false))=true)
  (hS:S w.drew) (h:Nonempty (Wd S)->wpLast P ops (calm Q) (fun w'=>∃ x:Wd S,w'=x.w) 10 i ps a w.drew):(Code.region id ops true).wp P Q a w:=by
 simp only [Bool.and_eq_true,beq_iff_eq] at hB
 have:=last_any (md:=.any) hB.1.1 (Q:=calm Q) (fun _ _ _ _ _ h=>h) ps _ a _ (Wd.mem hS) (closed_start _) hB.2 (h ⟨⟨_,hS⟩⟩)
 rw [hB.1.2] at this;exact (wpIn_wide (n:=10)).1 (Go.wpIn_mono (wpIn_region_any hm (wpAnyIn_of_anyB _ _ _ _ this)) (fun _ _ _ h=>calm_imp h))
theorem last_done {Q:Exit->Act->World->Prop} {a:Act} {w:World} (h:Q .normal a w):calm Q .normal a w:=h
end
section
theorem region_tree {P:Program} {ops:Array Oper} {Q:Exit->Act->World->Prop} {id:Nat} {a:Act} {w:World} (S:World->Prop) (hm:P.follows .mixedOrders=true)
  (hS:S w.drew) (h:Nonempty (Wd S)->anyC P .any ops (calm Q) (fun w'=>∃ x:Wd S,w'=x.w) 10 ops.size (Array.replicate ops.size false) a w.drew):(Code.region id ops true).wp P Q a w:=
 (wpIn_wide (n:=10)).1 (Go.wpIn_mono (wpIn_region_any hm (wpAnyIn_of_anyC _ _ _ _ (h ⟨⟨_,hS⟩⟩))) (fun _ _ _ h=>calm_imp h))
section
variable {P:Program} {l:List Oper} {Q:Exit->Act->World->Prop} {C:World->Prop} {n:Nat} {fuel:Nat} {o:Oper} {a:Act} {w:World} {listed:Array Bool}
theorem aq (i:Nat) (listed':Array Bool) (ho:nth l i=some o) (hp:plainOp o.op=true) (hB:(Region.noSelect l.toArray && (Region.ready .any l.toArray listed).contains i && Region.free .any l.toArray listed i)=true) (hl:listed.setIfInBounds i true=listed') (hC:C w)
  (h:wpQuiet P l.toArray C (fun a'=>anyC P .any l.toArray (calm Q) C n fuel listed' a' w) [o] a):anyC P .any l.toArray (calm Q) C n (fuel+1) listed a w:=by
 simp only [Bool.and_eq_true] at hB;obtain ⟨⟨h1,h2⟩,h3⟩:=hB;have ho':=(nth_eq l i).trans ho;subst hl;obtain ⟨v,hy,hk⟩:∃ v,YieldsIf P l.toArray C o v a/\anyC P .any l.toArray (calm Q) C n fuel (listed.setIfInBounds i true) (a.put o.dst v) w:=by
  unfold wpQuiet at h
  by_cases hw:Region.wanted o (yielded l.toArray a.tmps)=true
  ·rw [if_pos hw] at h;obtain ⟨v,hv,hk⟩:=h;refine ⟨v,.inl ⟨hw,fun w1 hC=>?_⟩,hk⟩;have h1:=hv w1 hC;unfold Oper.quietAt at h1;cases hr:(execOp a.eval o).run P w1 with
   | ok x w'=>
    rw [hr] at h1;obtain ⟨u,rfl⟩:=plain_value hp hr;simp only [Oper.quietUpon] at h1;rw [h1.1,h1.2]
   | halt x w'=>rw [hr] at h1;exact h1.elim
  ·rw [if_neg hw] at h;exact ⟨undef,.inr ⟨by simpa using hw,rfl⟩,h⟩
 exact anyC_first ho' (Region.noSelect_spec h1) (fun c a w h=>h) fuel listed a w (Region.free_spec ho' h3) (by simpa using h2) hy hC hk
theorem al (is:List Nat) (hr:(Region.ready .any l.toArray listed == is && !is.isEmpty)=true)
  (h:∀ i ∈ is,∃ o listed',nth l i=some o/\listed.setIfInBounds i true=listed'/\wpListIn Fence.wide n P l.toArray (Exit.then (fun a' w'=>C w'/\anyC P .any l.toArray (calm Q) C n fuel listed' a' w') (calm Q)) [o] a w):anyC P .any l.toArray (calm Q) C n (fuel+1) listed a w:=by
 simp only [Bool.and_eq_true,beq_iff_eq] at hr;obtain ⟨hr,he⟩:=hr;refine ⟨fun h0=>?_,fun j hj=>?_⟩
 ·rw [hr] at h0;rw [h0] at he;cases he
 ·rw [hr] at hj;obtain ⟨o,_,ho,rfl,hh⟩:=h j hj;exact loud_list ho hh
theorem adone (hr:(Region.ready .any l.toArray listed).isEmpty=true) (h:Q .normal a w):anyC P .any l.toArray (calm Q) C n 0 listed a w:=⟨by simpa using hr,h⟩
end
end
section
open Go.Shelf
variable {X:Nat->Prop}
attribute [local go_sem] Oper.semAt_some
def Rn.topR (N:Nat) (s:Rn) (t n:Int):(Int × Bool) × Rn:=
 if 2<=n then s.recM 3 (innerL n (List.replicate ((max (Pt.degZ n) 1).toNat - 1) 0) (List.replicate (max (Pt.degZ n) 1).toNat 0))
 else if n=1 then
  (if (Rn.gatherF N s t 0 1 []).2.off=true then ((0,false),(Rn.gatherF N s t 0 1 []).2) else Rn.growF ((Rn.gatherF N s t 0 1 []).1.length+1) (Rn.gatherF N s t 0 1 []).2 (Rn.gatherF N s t 0 1 []).1)
 else if s.off=true then ((0,false),s) else Rn.growF 1 s []
theorem made_reads (W:World) (N:Nat):Reads (W.alloc (.cells (madeCells #[.int .i64 0] N) 2)) (some ⟨W.heap.size,0,none⟩) (List.replicate N 0):=by
 refine .inr ⟨W.heap.size,0,rfl,fun j z hz=>?_⟩;have hj:j < N:=by have:=(List.getElem?_eq_some_iff.1 hz).1;simpa using this
 have e:(List.replicate N (0:Int))[j]? = some 0:=by simp [hj]
 rw [e] at hz;cases hz;rw [Nat.zero_add,(World.rowIs_made W (.int .i64 0) N 2).cell hj]
theorem deg_small (n:Int):0<=Pt.degZ n/\Pt.degZ n<=128:=by
 by_cases h:2<=n/\n<=16384
 ·have:=Pt.deg_bound h.1 h.2
  omega
 ·unfold Pt.degZ;rw [if_neg h];omega
theorem recM_on' {s s':Rn} {k:Int} {ws:List Int} {z:Int × Bool} (e:s.recM k ws=(z,s')):Rn.On s s':=by
 have:s'=(s.recM k ws).2:=by rw [e]
 rw [this];exact Rn.recM_on s k ws
theorem growF_on' {f:Nat} {s s':Rn} {ps:List (Int × Int)} {z:Int × Bool} (e:Rn.growF f s ps=(z,s')):Rn.On s s':=by
 have:s'=(Rn.growF f s ps).2:=by rw [e]
 rw [this];exact Rn.growF_on f s ps
set_option maxRecDepth 100000 in
set_option maxHeartbeats 2000000 in
theorem top_r (N:Nat) (W:World) (r:Nat) (s:Rn) (t n:Int) (h:RunAt X W r s) (ho:s.ok) (hX:∀ k,W.heap.size<=k->X k) (hn:I64 n) (hN:s.left < N) (hl:s.left<=16384) (z:Int) (ok:Bool) (s':Rn) (he:s.topR N t n=((z,ok),s')) :
  Calls Tryz.prog 158 #[.pointer (some ⟨r,0,none⟩),.int .i64 t,.int .i64 n] W fun e W'=>e=.returned (.tuple #[.int .i64 z,.bool ok])/\Went X W r s s' W':=by
 have OK:=gh ho;have HLN:=gh hn;have HN:=gh hN;have HL:=gh hl;unfold Rn.topR at he;obtain ⟨n0,n9⟩:=hn
 by_cases h2:2<=n
 ·rw [if_pos h2] at he;obtain ⟨D,hD⟩:∃ D:Nat,max (Pt.degZ n) 1=(D:Int):=⟨(max (Pt.degZ n) 1).toNat,by have:=deg_small n;omega⟩;have dS:=deg_small n;have d0:1<=D:=by omega
  have d1:D<=128:=by omega
  rw [hD,Int.toNat_natCast] at he;obtain ⟨dg,hdg⟩:∃ dg,Pt.degZ n=dg:=⟨_,rfl⟩;rw [hdg] at hD dS;have M1:=run_make39 (D - 1) (by omega);have M2:=run_make39 D (by omega);rw [show ((D - 1:Nat):Int)=(D:Int) - 1 from by omega] at M1;obtain ⟨ws,hws⟩:∃ ws,innerL n (List.replicate (D - 1) 0) (List.replicate D 0)=ws:=⟨_,rfl⟩;rw [hws] at he;have E2:=gh he;obtain ⟨V,hV⟩:∃ V,W.drew=V:=⟨_,rfl⟩;have kV:Kept W V:=by rw [<- hV];exact Kept.drew _
  have KV:=gh kV;have HV:=gh hV;have H:=gh (h.kept kV);have HX:Hid (∀ k,V.heap.size<=k->X k):=gh (fun k hk=>hX k (Nat.le_trans kV.size hk));have HRL:=gh (h.kept kV).lt;have KA1:Hid (Kept V ((V.alloc (.cells (madeCells #[.int .i64 0] (D - 1)) 2)).alloc (.cells (madeCells #[.int .i64 0] D) 2))):=gh (((Kept.refl V).alloc _).alloc _);have KA2:Hid (Kept V ((V.alloc (.cells (madeCells #[.int .i64 0] D) 2)).alloc (.cells (madeCells #[.int .i64 0] (D - 1)) 2))):=gh (((Kept.refl V).alloc _).alloc _);have A1:Hid (Calls Tryz.prog 137 #[.int .i64 n,.slice (some ⟨V.heap.size,0,none⟩) (D - 1) (D - 1),.slice (some ⟨V.heap.size+1,0,none⟩) D D] ((V.alloc (.cells (madeCells #[.int .i64 0] (D - 1)) 2)).alloc (.cells (madeCells #[.int .i64 0] D) 2)) (Fresh ws ((V.alloc (.cells (madeCells #[.int .i64 0] (D - 1)) 2)).alloc (.cells (madeCells #[.int .i64 0] D) 2)))):=gh (by
   have c2:=made_reads (V.alloc (.cells (madeCells #[.int .i64 0] (D - 1)) 2)) D;rw [World.size_alloc] at c2
   have:=inner_r ((V.alloc (.cells (madeCells #[.int .i64 0] (D - 1)) 2)).alloc (.cells (madeCells #[.int .i64 0] D) 2)) n (some ⟨V.heap.size,0,none⟩) (List.replicate (D - 1) 0) (D - 1) (some ⟨V.heap.size+1,0,none⟩) (List.replicate D 0) D ((made_reads V (D - 1)).kept (Td.alloc _ _ _)) c2 (fun e=>by cases e) (fun e=>by cases e) (by simp;omega) (by simp;omega)
   rw [hws] at this;simpa using this)
  have A2:Hid (Calls Tryz.prog 137 #[.int .i64 n,.slice (some ⟨V.heap.size+1,0,none⟩) (D - 1) (D - 1),.slice (some ⟨V.heap.size,0,none⟩) D D] ((V.alloc (.cells (madeCells #[.int .i64 0] D) 2)).alloc (.cells (madeCells #[.int .i64 0] (D - 1)) 2)) (Fresh ws ((V.alloc (.cells (madeCells #[.int .i64 0] D) 2)).alloc (.cells (madeCells #[.int .i64 0] (D - 1)) 2)))):=gh (by
   have c2:=made_reads (V.alloc (.cells (madeCells #[.int .i64 0] D) 2)) (D - 1);rw [World.size_alloc] at c2
   have:=inner_r ((V.alloc (.cells (madeCells #[.int .i64 0] D) 2)).alloc (.cells (madeCells #[.int .i64 0] (D - 1)) 2)) n (some ⟨V.heap.size+1,0,none⟩) (List.replicate (D - 1) 0) (D - 1) (some ⟨V.heap.size,0,none⟩) (List.replicate D 0) D c2 ((made_reads V D).kept (Td.alloc _ _ _)) (fun e=>by cases e) (fun e=>by cases e) (by simp;omega) (by simp;omega)
   rw [hws] at this;simpa using this)
  have HDG:=gh hdg;clear h ho hX hN hl he hws hV kV hdg;go_enter Tryz.func158,Tryz.ntmps158;go_wp2_with (fail);refine (Pt.deg_r n (I64.wf HLN.o) _).mono ?_;rw [HDG.o];rintro e w' ⟨rfl,rfl⟩;go_wp2_with (fail);refine region_tree (fun U=>Td (fun k=>k=r) V U) (by kernel_rfl) (by rw [HV.o];exact Td.refl _ _) (fun _=>?_);rw [HV.o];refine aq 0 #[true,false,false,false,false,false,false,false,false,false,false,false,false,false] rfl rfl (by kernel_rfl) (by kernel_rfl) (Wd.mem (Td.refl _ _)) ?_;go_big_quiet_step (fail);refine wpQuiet_nil ?_;refine aq 1 #[true,true,false,false,false,false,false,false,false,false,false,false,false,false] rfl rfl (by kernel_rfl) (by kernel_rfl) (Wd.mem (Td.refl _ _)) ?_;go_big_quiet_step (fail);refine wpQuiet_nil ?_;refine aq 2 #[true,true,true,false,false,false,false,false,false,false,false,false,false,false] rfl rfl (by kernel_rfl) (by kernel_rfl) (Wd.mem (Td.refl _ _)) ?_;go_big_quiet_step (fail);refine wpQuiet_nil ?_;refine aq 3 #[true,true,true,true,false,false,false,false,false,false,false,false,false,false] rfl rfl (by kernel_rfl) (by kernel_rfl) (Wd.mem (Td.refl _ _)) ?_;go_big_quiet_step (fail);refine wpQuiet_nil ?_;refine aq 5 #[true,true,true,true,false,true,false,false,false,false,false,false,false,false] rfl rfl (by kernel_rfl) (by kernel_rfl) (Wd.mem (Td.refl _ _)) ?_;go_big_quiet_step (fail);refine wpQuiet_nil ?_;refine al [4,6] (by kernel_rfl) (fun i hi=>?_);simp only [List.mem_cons,List.not_mem_nil,or_false] at hi;rcases hi with rfl | rfl
  ·refine ⟨_,#[true,true,true,true,true,true,false,false,false,false,false,false,false,false],rfl,by kernel_rfl,?_⟩;gi_wp2;refine ⟨Wd.mem ((Td.alloc _ _ _:Kept V _).mono (fun _ _ e=>e.elim)),?_⟩;refine al [6] (by kernel_rfl) (fun i hi=>?_);obtain rfl:i=6:=by simpa using hi
   refine ⟨_,#[true,true,true,true,true,true,true,false,false,false,false,false,false,false],rfl,by kernel_rfl,?_⟩;gi_wp2;refine ⟨Wd.mem (KA1.o.mono (fun _ _ e=>e.elim)),?_⟩;refine al [7] (by kernel_rfl) (fun i hi=>?_);obtain rfl:i=7:=by simpa using hi
   refine ⟨_,#[true,true,true,true,true,true,true,true,false,false,false,false,false,false],rfl,by kernel_rfl,?_⟩;gi_wp2_with (fail);refine ⟨trivial,?_⟩;refine (callsIn_wide.2 A1.o).mono ?_;intro e w1 hff;obtain ⟨a1,cap1,rfl,k1,far⟩:=hff.far;have K1:=gh ((KA1).o.trans k1);have FAR:=gh (far X r (fun k hk=>HX.o k (Nat.le_trans (KA1).o.size hk)) (Nat.lt_of_lt_of_le HRL.o (KA1).o.size));clear hff k1 far;gi_wp2_with (fail);refine ⟨Wd.mem (K1.o.mono (fun _ _ e=>e.elim)),?_⟩;refine al [8] (by kernel_rfl) (fun i hi=>?_);obtain rfl:i=8:=by simpa using hi
   refine ⟨_,#[true,true,true,true,true,true,true,true,true,false,false,false,false,false],rfl,by kernel_rfl,?_⟩;gi_wp2_with (fail);refine ⟨trivial,?_⟩;obtain ⟨x2,ex,eo,hx2⟩:=recM_r X w1 r s 3 a1 ws _ cap1 rfl (H.o.kept K1.o) FAR.o z ok s' E2.o;refine (callsIn_wide.2 hx2).mono ?_;rintro e w3 ⟨rfl,d3⟩;have D3:=gh (Ran.behind (KV.o.trans K1.o) d3);have T3:Hid (Td (fun k=>k=r) V w3):=gh (Ran.behind K1.o d3).2;have EX:=gh ex;clear d3 hx2 ex eo;gi_wp2_with (fail);refine ⟨Wd.mem T3.o,?_⟩;refine aq 9 #[true,true,true,true,true,true,true,true,true,true,false,false,false,false] rfl rfl (by kernel_rfl) (by kernel_rfl) (Wd.mem T3.o) ?_;go_big_quiet_step (fail);refine wpQuiet_nil ?_;refine aq 10 #[true,true,true,true,true,true,true,true,true,true,true,false,false,false] rfl rfl (by kernel_rfl) (by kernel_rfl) (Wd.mem T3.o) ?_;go_big_quiet_step (fail);refine wpQuiet_nil ?_;refine aq 11 #[true,true,true,true,true,true,true,true,true,true,true,true,false,false] rfl rfl (by kernel_rfl) (by kernel_rfl) (Wd.mem T3.o) ?_;go_big_quiet_step (fail);refine wpQuiet_nil ?_;refine aq 12 #[true,true,true,true,true,true,true,true,true,true,true,true,true,false] rfl rfl (by kernel_rfl) (by kernel_rfl) (Wd.mem T3.o) ?_;go_big_quiet_step (fail);refine wpQuiet_nil ?_;refine aq 13 #[true,true,true,true,true,true,true,true,true,true,true,true,true,true] rfl rfl (by kernel_rfl) (by kernel_rfl) (Wd.mem T3.o) ?_;go_big_quiet_step (fail);refine wpQuiet_nil ?_;refine adone (by kernel_rfl) ?_;go_wp2_with (fail);refine (ofr_c 3 x2 z EX.o _).mono ?_;rintro e w4 ⟨rfl,rfl⟩;go_wp2
   go_ret2
   exact ⟨rfl,D3.o,recM_on' E2.o,(recM_on' E2.o).ok OK.o⟩
  ·refine ⟨_,#[true,true,true,true,false,true,true,false,false,false,false,false,false,false],rfl,by kernel_rfl,?_⟩;gi_wp2;refine ⟨Wd.mem ((Td.alloc _ _ _:Kept V _).mono (fun _ _ e=>e.elim)),?_⟩;refine al [4] (by kernel_rfl) (fun i hi=>?_);obtain rfl:i=4:=by simpa using hi
   refine ⟨_,#[true,true,true,true,true,true,true,false,false,false,false,false,false,false],rfl,by kernel_rfl,?_⟩;gi_wp2;refine ⟨Wd.mem (KA2.o.mono (fun _ _ e=>e.elim)),?_⟩;refine al [7] (by kernel_rfl) (fun i hi=>?_);obtain rfl:i=7:=by simpa using hi
   refine ⟨_,#[true,true,true,true,true,true,true,true,false,false,false,false,false,false],rfl,by kernel_rfl,?_⟩;gi_wp2_with (fail);refine ⟨trivial,?_⟩;refine (callsIn_wide.2 A2.o).mono ?_;intro e w1 hff;obtain ⟨a1,cap1,rfl,k1,far⟩:=hff.far;have K1:=gh ((KA2).o.trans k1);have FAR:=gh (far X r (fun k hk=>HX.o k (Nat.le_trans (KA2).o.size hk)) (Nat.lt_of_lt_of_le HRL.o (KA2).o.size));clear hff k1 far;gi_wp2_with (fail);refine ⟨Wd.mem (K1.o.mono (fun _ _ e=>e.elim)),?_⟩;refine al [8] (by kernel_rfl) (fun i hi=>?_);obtain rfl:i=8:=by simpa using hi
   refine ⟨_,#[true,true,true,true,true,true,true,true,true,false,false,false,false,false],rfl,by kernel_rfl,?_⟩;gi_wp2_with (fail);refine ⟨trivial,?_⟩;obtain ⟨x2,ex,eo,hx2⟩:=recM_r X w1 r s 3 a1 ws _ cap1 rfl (H.o.kept K1.o) FAR.o z ok s' E2.o;refine (callsIn_wide.2 hx2).mono ?_;rintro e w3 ⟨rfl,d3⟩;have D3:=gh (Ran.behind (KV.o.trans K1.o) d3);have T3:Hid (Td (fun k=>k=r) V w3):=gh (Ran.behind K1.o d3).2;have EX:=gh ex;clear d3 hx2 ex eo;gi_wp2_with (fail);refine ⟨Wd.mem T3.o,?_⟩;refine aq 9 #[true,true,true,true,true,true,true,true,true,true,false,false,false,false] rfl rfl (by kernel_rfl) (by kernel_rfl) (Wd.mem T3.o) ?_;go_big_quiet_step (fail);refine wpQuiet_nil ?_;refine aq 10 #[true,true,true,true,true,true,true,true,true,true,true,false,false,false] rfl rfl (by kernel_rfl) (by kernel_rfl) (Wd.mem T3.o) ?_;go_big_quiet_step (fail);refine wpQuiet_nil ?_;refine aq 11 #[true,true,true,true,true,true,true,true,true,true,true,true,false,false] rfl rfl (by kernel_rfl) (by kernel_rfl) (Wd.mem T3.o) ?_;go_big_quiet_step (fail);refine wpQuiet_nil ?_;refine aq 12 #[true,true,true,true,true,true,true,true,true,true,true,true,true,false] rfl rfl (by kernel_rfl) (by kernel_rfl) (Wd.mem T3.o) ?_;go_big_quiet_step (fail);refine wpQuiet_nil ?_;refine aq 13 #[true,true,true,true,true,true,true,true,true,true,true,true,true,true] rfl rfl (by kernel_rfl) (by kernel_rfl) (Wd.mem T3.o) ?_;go_big_quiet_step (fail);refine wpQuiet_nil ?_;refine adone (by kernel_rfl) ?_;go_wp2_with (fail);refine (ofr_c 3 x2 z EX.o _).mono ?_;rintro e w4 ⟨rfl,rfl⟩;go_wp2
   go_ret2
   exact ⟨rfl,D3.o,recM_on' E2.o,(recM_on' E2.o).ok OK.o⟩
 ·rw [if_neg h2] at he;have g2:decide (2<=n)=false:=by simp;omega
  by_cases h1:n=1
  ·subst h1;rw [if_pos rfl] at he;have HRL:=gh h.lt;have H:Hid (RunAt (fun k=>X k/\k < W.heap.size) W r s):=gh (h.to fun k a c=>⟨a,c⟩);have HX:=gh hX;obtain ⟨ys,s1,hg⟩:∃ ys s1,Rn.gatherF N s t 0 1 []=(ys,s1):=⟨_,_,rfl⟩;rw [hg] at he;have HE:=gh he;have HG:=gh hg;clear h ho hX hN hl he hg;go_enter Tryz.func158,Tryz.ntmps158;go_wp2_with (fail);refine (gather_r (lo:=W.heap.size) (fun k h=>h.2) r N W s t 0 1 _ [] HN.o H.o OK.o (PRow.nil _ _ _) (by have:=HL.o;simp;omega) (Nat.le_refl _) ys s1 HG.o).mono ?_;rintro e W1 ⟨v,rfl,PR,G,hlen⟩;obtain ⟨a,cap,rfl,pr,hc,hcm,ha0,hab⟩:=PR.reads;have T1:Hid (Td (fun k=>k=r) W W1):=gh (G.turned.mono fun k h1 h2=>h2.elim id (fun h3=>absurd h1 (Nat.not_lt.2 h3)));have ON1:=gh G.on;have OK1:=gh G.ok;have R1:Hid (RunAt X W1 r s1):=gh (G.lies.to fun k h _=>h.1);have HLEN:Hid (ys.length<=16384):=gh (by have:=HL.o;simp at hlen;omega);obtain ⟨ta,tc,wa,wc,RI⟩:=G.lies;obtain ⟨_,_,c2,_,_,ff⟩:=RI.cells;have PRD:=gh pr;have HC:=gh hc;have HCM:=gh hcm;have HAB:Hid (∀ ad,a=some ad->ad.block≠r):=gh (fun ad e=>by have:=hab ad e;have:=HRL.o;omega);obtain ⟨M,hM⟩:∃ M,ys.length=M:=⟨_,rfl⟩;have hM':=hM;have HXN:Hid (∀ k,W1.heap.size<=k->X k):=gh (fun k h=>HX.o k (Nat.le_trans T1.o.size h));rw [hM] at HLEN HC;have HMM:=gh hM;have HE1:=gh HE.o;rw [hM] at HE1;rw [hM'];clear RI ff PR G hlen pr hc hcm ha0 hab hM hM' HE;cases hof:s1.off with
   | true=>
    rw [hof] at c2;have hz:=HE1.o;rw [if_pos hof] at hz;obtain ⟨hz1,rfl⟩:=Prod.mk.inj hz;obtain ⟨rfl,rfl⟩:=Prod.mk.inj hz1;clear hz HE1 hof hz1;go_wp2
    go_ret2
    exact ⟨rfl,⟨R1.o,T1.o⟩,ON1.o,OK1.o⟩
   | false=>
    rw [hof] at c2;have HGR:Hid (Rn.growF (M+1) s1 ys=((z,ok),s')):=gh (by
     have:=HE1.o
     rw [if_neg (by rw [hof];decide)] at this;exact this)
    clear hof HE1;go_wp2_with (fail);refine (grow_r (M+1) X W1 r s1 a ys M cap R1.o HXN.o PRD.o HMM.o HC.o HCM.o HLEN.o (by omega) (fun _=>HAB.o) z ok s' HGR.o).mono ?_;rintro e W2 ⟨rfl,R2⟩;have D2:Hid (Ran X W r s' W2):=gh ⟨R2.1,T1.o.trans R2.2 (fun _ e=>e) (fun _ _ e=>e)⟩;have ON2:Hid (Rn.On s s'):=gh (ON1.o.trans (growF_on' HGR.o));clear R2;go_wp2
    go_ret2
    exact ⟨rfl,D2.o,ON2.o,ON2.o.ok OK.o⟩
  ·rw [if_neg h1] at he;have g1:(n == 1)=false:=by simp [h1]
   have HE:=gh he;have H:=gh h;have HX:=gh hX;obtain ⟨ta,tc,wa,wc,RI⟩:=h;obtain ⟨_,_,c2,_,_,ff⟩:=RI.cells;clear RI ff ho hX hN hl he;cases hof:s.off with
   | true=>
    rw [hof] at c2;have hz:=HE.o;rw [if_pos hof] at hz;obtain ⟨hz1,rfl⟩:=Prod.mk.inj hz;obtain ⟨rfl,rfl⟩:=Prod.mk.inj hz1;clear hz HE hof hz1;go_enter Tryz.func158,Tryz.ntmps158;go_wp2
    go_ret2
    exact ⟨rfl,Went.refl H.o OK.o⟩
   | false=>
    rw [hof] at c2;have HGR:Hid (Rn.growF 1 s []=((z,ok),s')):=gh (by
     have:=HE.o
     rw [if_neg (by rw [hof];decide)] at this;exact this)
    clear hof HE;go_enter Tryz.func158,Tryz.ntmps158;go_wp2_with (fail);refine (grow_r 1 X W r s none [] 0 0 H.o HX.o (.inl rfl) rfl (Nat.le_refl _) (Nat.zero_le _) (by omega) (by omega) (fun h=>absurd rfl h) z ok s' HGR.o).mono ?_;rintro e W2 ⟨rfl,R2⟩;have R:=gh R2;clear R2;go_wp2
    go_ret2
    exact ⟨rfl,R.o,growF_on' HGR.o,(growF_on' HGR.o).ok OK.o⟩
end
section
open Go.Shelf
variable {X:Nat->Prop}
namespace Rn
def partsA (N:Nat) (b t n x d:Int):Nat->Rn->Bool × Rn
 | 0,s=>(true,s)
 | f+1,s=>
  if s.off=true then (true,s)
  else if d<=(s.add (wrap64 (b+4)) 1).1 then (true,(s.add (wrap64 (b+4)) 1).2)
  else if (s.add (wrap64 (b+4)) 1).2.off=true then (true,(s.add (wrap64 (b+4)) 1).2)
  else
   let p:=(s.add (wrap64 (b+4)) 1).2.partR N t n x d (s.add (wrap64 (b+4)) 1).1
   if p.1=true then partsA N b t n x d f p.2 else (false,p.2)
def partsB (N:Nat) (t n x d:Int):Nat->Int->Rn->Bool × Rn
 | 0,_,s=>(true,s)
 | c+1,j,s=>
  if s.off=true then (true,s)
  else if (s.read (childZ x d j)).1≠0∨(s.read (childZ x d j)).2.off=true then partsB N t n x d c (j+1) (s.read (childZ x d j)).2
  else
   let p:=(s.read (childZ x d j)).2.partR N t n x d j
   if p.1=true then partsB N t n x d c (j+1) p.2 else (false,p.2)
def partsR (N:Nat) (s:Rn) (b t n x:Int):Bool × Rn:=
 let a:=partsA N b t n x (Pt.degZ n) N s
 if a.1=true then partsB N t n x (Pt.degZ n) (Pt.degZ n).toNat 0 a.2 else (false,a.2)
variable {N f c:Nat} {b t n x d j q:Int} {s s1 s2:Rn} {ok:Bool}
theorem partsA_off (h:s.off=true):partsA N b t n x d f s=(true,s):=by
 cases f with
 | zero=>rfl
 | succ f=>rw [partsA,if_pos h]
theorem partsA_end (h:s.off=false) (e:s.add (wrap64 (b+4)) 1=(q,s1)) (h1:d<=q∨s1.off=true):partsA N b t n x d (f+1) s=(true,s1):=by
 rw [partsA,h,e]
 by_cases hq:d<=q
 ·simp [hq]
 ·simp [hq,h1.resolve_left hq]
theorem partsA_go (h:s.off=false) (e:s.add (wrap64 (b+4)) 1=(q,s1)) (h1:¬ d<=q) (h2:s1.off=false) (e2:s1.partR N t n x d q=(ok,s2)):partsA N b t n x d (f+1) s=if ok=true then partsA N b t n x d f s2 else (false,s2):=by
 rw [partsA,h,e];simp [h1,h2,e2]
theorem partsB_off (h:s.off=true):partsB N t n x d c j s=(true,s):=by
 cases c with
 | zero=>rfl
 | succ f=>rw [partsB,if_pos h]
theorem partsB_skip (h:s.off=false) (e:s.read (childZ x d j)=(q,s1)) (h1:q≠0∨s1.off=true):partsB N t n x d (c+1) j s=partsB N t n x d c (j+1) s1:=by
 rw [partsB,h,e];simp only [Bool.false_eq_true,if_false];rw [if_pos h1]
theorem partsB_go (h:s.off=false) (e:s.read (childZ x d j)=(q,s1)) (h1:q=0) (h2:s1.off=false) (e2:s1.partR N t n x d j=(ok,s2)):partsB N t n x d (c+1) j s=if ok=true then partsB N t n x d c (j+1) s2 else (false,s2):=by
 rw [partsB,h,e];simp [h1,h2,e2]
theorem add_lt' {a y:Int} (h:s.off=false) (e:s.add a y=(q,s1)):s1.left < s.left:=by
 have:=ask_left (s:=s) ⟨4,a,y,0,[]⟩ h
 have e':s.ask ⟨4,a,y,0,[]⟩=(q,s1):=e;rw [e'] at this;exact this
end Rn
theorem Ran.went_add {W W':World} {r:Nat} {s s':Rn} {a y z:Int} (R:Ran X W r s' W') (ho:s.ok) (e:s.add a y=(z,s')):Went X W r s s' W':=by
 have:s'=(s.add a y).2:=by rw [e]
 subst this;exact ⟨R,Rn.ask_on s _,(Rn.ask_on s _).ok ho⟩
theorem Rn.ok.add {s:Rn} (h:s.ok) {a y z:Int} {s':Rn} (e:s.add a y=(z,s')):I64 z:=by
 have:=Rn.ask_i64 (s:=s) ⟨4,a,y,0,[]⟩ h
 have e':s.ask ⟨4,a,y,0,[]⟩=(z,s'):=e;rw [e'] at this;exact this
set_option maxRecDepth 100000 in
set_option maxHeartbeats 2000000 in
theorem parts_r (N:Nat) (W:World) (r:Nat) (s:Rn) (b tt n x:Int) (h:RunAt X W r s) (ho:s.ok) (hX:∀ k,W.heap.size<=k->X k) (hn:I64 n) (hN:s.left < N) (hl:s.left<=16384) (bE:Bool) (sE:Rn) (he:s.partsR N b tt n x=(bE,sE)) :
  Calls Tryz.prog 159 #[.pointer (some ⟨r,0,none⟩),.int .i64 b,.int .i64 tt,.int .i64 n,.int .i64 x] W fun e W'=>e=.returned (.bool bE)/\Went X W r s sE W':=by
 have H:=gh h;have OK:=gh ho;have HX:=gh hX;have HNI:=gh hn;have HN:=gh hN;have HL:=gh hl;unfold Rn.partsR at he;obtain ⟨d,hd⟩:∃ d,Pt.degZ n=d:=⟨_,rfl⟩;obtain ⟨dl,dh⟩:=deg_small n;rw [hd] at he dl dh;obtain ⟨okA,sA,ha⟩:∃ okA sA,Rn.partsA N b tt n x d N s=(okA,sA):=⟨_,_,rfl⟩;rw [ha] at he;dsimp only at he;have HE:=gh he;have HA:=gh ha;have HD:=gh hd;clear h ho hX hn hN hl he ha hd;go_enter Tryz.func159,Tryz.ntmps159;go_wp2_with (fail);refine (Pt.deg_r n (I64.wf HNI.o) _).mono ?_;rw [HD.o];rintro e w' ⟨rfl,rfl⟩;go_wp2_with (fail)
 go_loopw [12] (fun _ wr=>∃ (F:Nat) (t:Rn),t.left < F/\Went X W r s t wr/\Rn.partsA N b tt n x d F t=(okA,sA)) (fun _ wr=>leftAt wr r)
 case atStart=>exact ⟨N,s,HN.o,Went.refl H.o OK.o,HA.o⟩
 case round=>
  obtain ⟨F,t,hF,hG,hk⟩:=hrel;have G:=gh hG;have HK:=gh hk;have HF:=gh hF;obtain ⟨ta,tc,wa,wc,RI⟩:=hG.at;obtain ⟨_,_,c2,_,_,ff⟩:=RI.cells;clear RI ff hk hG hF;cases hof:t.off with
  | true=>
   rw [hof] at c2;have hz:=HK.o;rw [Rn.partsA_off hof] at hz;obtain ⟨rfl,rfl⟩:=Prod.mk.inj hz;have hz2:=HE.o;rw [if_pos rfl] at hz2;have E2:=gh hz2;clear hof hz hz2 HE
   rename World=>W1
   go_wp2_with (fail)
   go_loopw [13,14] (fun vj _ wr=>∃ (j:Int) (t:Rn),vj=.int .i64 j/\0<=j/\j<=9223372036854775807/\Went X W r s t wr/\Rn.partsB N tt n x d (d - j).toNat j t=(bE,sE)) (fun vj _ _=>(d - intOf vj).toNat)
   case atStart=>exact ⟨0,t,rfl,by omega,by omega,G.o,by simpa using E2.o⟩
   case round=>
    obtain ⟨j,t,rfl,j0,j1,hG,hk⟩:=hrel;have G:=gh hG;have HK:=gh hk;obtain ⟨ta,tc,wa,wc,RI⟩:=hG.at;obtain ⟨_,_,c2,_,_,ff⟩:=RI.cells;clear RI ff hk hG
    by_cases hjd:j < d
    ·cases hof:t.off with
     | true=>
      rw [hof] at c2;have hz:=HK.o;rw [Rn.partsB_off hof] at hz;obtain ⟨rfl,rfl⟩:=Prod.mk.inj hz;clear hof hz;go_wp2;go_ret;exact ⟨rfl,G.o⟩
     | false=>
      rw [hof] at c2;have HOF:=gh hof;obtain ⟨c,hc⟩:∃ c,(d - (j+1)).toNat=c:=⟨_,rfl⟩;have HC:Hid ((d - j).toNat=c+1):=gh (by omega);have HC':=gh hc;obtain ⟨cz,hcz⟩:∃ cz,childZ x d j=cz:=⟨_,rfl⟩;have HCZ:=gh hcz;obtain ⟨q,t1,hq⟩:∃ q t1,t.read cz=(q,t1):=⟨_,_,rfl⟩;have HQ:=gh hq;have HQ':Hid (t.read (childZ x d j)=(q,t1)):=gh (by rw [hcz];exact hq);clear hof hcz hc hq;go_wp2_with (fail);refine (child_r _ x d j cz HCZ.o).mono ?_;rintro e w' ⟨rfl,rfl⟩;go_wp2_with (fail);refine (read_r _ r t cz G.o.at q t1 HQ.o).mono ?_;rintro e W5 ⟨rfl,R5⟩;have G5:=gh (G.o.trans (R5.went_read G.o.ok HQ.o));obtain ⟨ta,tc,wa,wc,RI⟩:=R5.1;obtain ⟨_,_,c2',_,_,ff⟩:=RI.cells;clear RI ff R5 c2
      by_cases q0:q=0
      ·subst q0;cases hof1:t1.off with
       | true=>
        rw [hof1] at c2';have hz:=HK.o;rw [HC.o,Rn.partsB_skip HOF.o HQ'.o (.inr hof1)] at hz;have HZ:=gh hz;clear hof1 hz;go_wp2;exact ⟨⟨j+1,t1,rfl,by omega,by omega,G5.o,by rw [HC'.o];exact HZ.o⟩,by simp [intOf];omega⟩
       | false=>
        rw [hof1] at c2';obtain ⟨b,t2,hp⟩:∃ b t2,t1.partR N tt n x d j=(b,t2):=⟨_,_,rfl⟩;have HP:=gh hp;have hz:=HK.o;rw [HC.o,Rn.partsB_go HOF.o HQ'.o rfl hof1 hp] at hz;have HZ:=gh hz;clear hof1 hz hp;go_wp2_with (fail);refine (part_r N _ r t1 tt n x d j G5.o.at G5.o.ok (fun k h=>HX.o k (Nat.le_trans G5.o.turned.size h)) HNI.o (by have:=G5.o.on.left;have:=HN.o;omega) (by have:=G5.o.on.left;have:=HL.o;omega) b t2 HP.o).mono ?_;rintro e W6 ⟨rfl,G6'⟩;have G6:=gh (G5.o.trans G6');clear G6';cases b with
        | true=>
         have hz:=HZ.o;rw [if_pos rfl] at hz;have HZ1:=gh hz;clear hz HZ;go_wp2;exact ⟨⟨j+1,t2,rfl,by omega,by omega,G6.o,by rw [HC'.o];exact HZ1.o⟩,by simp [intOf];omega⟩
        | false=>
         have hz:=HZ.o;rw [if_neg (by decide)] at hz;obtain ⟨rfl,rfl⟩:=Prod.mk.inj hz;clear hz HZ;go_wp2;go_ret;exact ⟨rfl,G6.o⟩
      ·have g1:(q == 0)=false:=by simp [q0]
       have g2:(q != 0)=true:=by simp [q0]
       have hz:=HK.o;rw [HC.o,Rn.partsB_skip HOF.o HQ'.o (.inl q0)] at hz;have HZ:=gh hz;clear hz;go_wp2;exact ⟨⟨j+1,t1,rfl,by omega,by omega,G5.o,by rw [HC'.o];exact HZ.o⟩,by simp [intOf];omega⟩
    ·have hz:=HK.o;rw [show (d - j).toNat=0 from by omega] at hz;obtain ⟨rfl,rfl⟩:=Prod.mk.inj hz;clear hz;go_wp2;go_ret;exact ⟨rfl,G.o⟩
  | false=>
   rw [hof] at c2;obtain ⟨F',rfl⟩:∃ F',F=F' + 1:=⟨F - 1,by have:=HF.o;omega⟩;obtain ⟨q,t1,hq⟩:∃ q t1,t.add (wrap64 (b+4)) 1=(q,t1):=⟨_,_,rfl⟩;have HQ:=gh hq;have HOF:=gh hof;clear hq hof;go_wp2_with (fail);refine (add_r _ r t _ 1 G.o.at q t1 HQ.o).mono ?_;rintro e W5 ⟨rfl,R5⟩;have G5:=gh (G.o.trans (R5.went_add G.o.ok HQ.o));obtain ⟨q0,q9⟩:=G.o.ok.add HQ.o;have LT:=gh (Rn.add_lt' HOF.o HQ.o);obtain ⟨ta,tc,wa,wc,RI⟩:=R5.1;obtain ⟨_,_,c2',_,_,ff⟩:=RI.cells;clear RI ff R5 c2
   by_cases hdq:d<=q
   ·have hz:=HK.o;rw [Rn.partsA_end HOF.o HQ.o (.inl hdq)] at hz;obtain ⟨rfl,rfl⟩:=Prod.mk.inj hz;have hz2:=HE.o;rw [if_pos rfl] at hz2;have E2:=gh hz2;clear hz hz2 HE c2'
    rename World=>W1
    go_wp2_with (fail)
    go_loopw [13,14] (fun vj _ wr=>∃ (j:Int) (t:Rn),vj=.int .i64 j/\0<=j/\j<=9223372036854775807/\Went X W r s t wr/\Rn.partsB N tt n x d (d - j).toNat j t=(bE,sE)) (fun vj _ _=>(d - intOf vj).toNat)
    case atStart=>exact ⟨0,t1,rfl,by omega,by omega,G5.o,by simpa using E2.o⟩
    case round=>
     obtain ⟨j,t,rfl,j0,j1,hG,hk⟩:=hrel;have G:=gh hG;have HK:=gh hk;obtain ⟨ta,tc,wa,wc,RI⟩:=hG.at;obtain ⟨_,_,c2,_,_,ff⟩:=RI.cells;clear RI ff hk hG
     by_cases hjd:j < d
     ·cases hof:t.off with
      | true=>
       rw [hof] at c2;have hz:=HK.o;rw [Rn.partsB_off hof] at hz;obtain ⟨rfl,rfl⟩:=Prod.mk.inj hz;clear hof hz;go_wp2;go_ret;exact ⟨rfl,G.o⟩
      | false=>
       rw [hof] at c2;have HOF:=gh hof;obtain ⟨c,hc⟩:∃ c,(d - (j+1)).toNat=c:=⟨_,rfl⟩;have HC:Hid ((d - j).toNat=c+1):=gh (by omega);have HC':=gh hc;obtain ⟨cz,hcz⟩:∃ cz,childZ x d j=cz:=⟨_,rfl⟩;have HCZ:=gh hcz;obtain ⟨q,t1,hq⟩:∃ q t1,t.read cz=(q,t1):=⟨_,_,rfl⟩;have HQ:=gh hq;have HQ':Hid (t.read (childZ x d j)=(q,t1)):=gh (by rw [hcz];exact hq);clear hof hcz hc hq;go_wp2_with (fail);refine (child_r _ x d j cz HCZ.o).mono ?_;rintro e w' ⟨rfl,rfl⟩;go_wp2_with (fail);refine (read_r _ r t cz G.o.at q t1 HQ.o).mono ?_;rintro e W5 ⟨rfl,R5⟩;have G5:=gh (G.o.trans (R5.went_read G.o.ok HQ.o));obtain ⟨ta,tc,wa,wc,RI⟩:=R5.1;obtain ⟨_,_,c2',_,_,ff⟩:=RI.cells;clear RI ff R5 c2
       by_cases q0:q=0
       ·subst q0;cases hof1:t1.off with
        | true=>
         rw [hof1] at c2';have hz:=HK.o;rw [HC.o,Rn.partsB_skip HOF.o HQ'.o (.inr hof1)] at hz;have HZ:=gh hz;clear hof1 hz;go_wp2;exact ⟨⟨j+1,t1,rfl,by omega,by omega,G5.o,by rw [HC'.o];exact HZ.o⟩,by simp [intOf];omega⟩
        | false=>
         rw [hof1] at c2';obtain ⟨b,t2,hp⟩:∃ b t2,t1.partR N tt n x d j=(b,t2):=⟨_,_,rfl⟩;have HP:=gh hp;have hz:=HK.o;rw [HC.o,Rn.partsB_go HOF.o HQ'.o rfl hof1 hp] at hz;have HZ:=gh hz;clear hof1 hz hp;go_wp2_with (fail);refine (part_r N _ r t1 tt n x d j G5.o.at G5.o.ok (fun k h=>HX.o k (Nat.le_trans G5.o.turned.size h)) HNI.o (by have:=G5.o.on.left;have:=HN.o;omega) (by have:=G5.o.on.left;have:=HL.o;omega) b t2 HP.o).mono ?_;rintro e W6 ⟨rfl,G6'⟩;have G6:=gh (G5.o.trans G6');clear G6';cases b with
         | true=>
          have hz:=HZ.o;rw [if_pos rfl] at hz;have HZ1:=gh hz;clear hz HZ;go_wp2;exact ⟨⟨j+1,t2,rfl,by omega,by omega,G6.o,by rw [HC'.o];exact HZ1.o⟩,by simp [intOf];omega⟩
         | false=>
          have hz:=HZ.o;rw [if_neg (by decide)] at hz;obtain ⟨rfl,rfl⟩:=Prod.mk.inj hz;clear hz HZ;go_wp2;go_ret;exact ⟨rfl,G6.o⟩
       ·have g1:(q == 0)=false:=by simp [q0]
        have g2:(q != 0)=true:=by simp [q0]
        have hz:=HK.o;rw [HC.o,Rn.partsB_skip HOF.o HQ'.o (.inl q0)] at hz;have HZ:=gh hz;clear hz;go_wp2;exact ⟨⟨j+1,t1,rfl,by omega,by omega,G5.o,by rw [HC'.o];exact HZ.o⟩,by simp [intOf];omega⟩
     ·have hz:=HK.o;rw [show (d - j).toNat=0 from by omega] at hz;obtain ⟨rfl,rfl⟩:=Prod.mk.inj hz;clear hz;go_wp2;go_ret;exact ⟨rfl,G.o⟩
   ·have gq:decide (d<=q)=false:=by simp;omega
    cases hof1:t1.off with
    | true=>
     rw [hof1] at c2';have hz:=HK.o;rw [Rn.partsA_end HOF.o HQ.o (.inr hof1)] at hz;obtain ⟨rfl,rfl⟩:=Prod.mk.inj hz;have hz2:=HE.o;rw [if_pos rfl] at hz2;have E2:=gh hz2;clear hz hz2 HE hof1
     rename World=>W1
     go_wp2_with (fail)
     go_loopw [13,14] (fun vj _ wr=>∃ (j:Int) (t:Rn),vj=.int .i64 j/\0<=j/\j<=9223372036854775807/\Went X W r s t wr/\Rn.partsB N tt n x d (d - j).toNat j t=(bE,sE)) (fun vj _ _=>(d - intOf vj).toNat)
     case atStart=>exact ⟨0,t1,rfl,by omega,by omega,G5.o,by simpa using E2.o⟩
     case round=>
      obtain ⟨j,t,rfl,j0,j1,hG,hk⟩:=hrel;have G:=gh hG;have HK:=gh hk;obtain ⟨ta,tc,wa,wc,RI⟩:=hG.at;obtain ⟨_,_,c2,_,_,ff⟩:=RI.cells;clear RI ff hk hG
      by_cases hjd:j < d
      ·cases hof:t.off with
       | true=>
        rw [hof] at c2;have hz:=HK.o;rw [Rn.partsB_off hof] at hz;obtain ⟨rfl,rfl⟩:=Prod.mk.inj hz;clear hof hz;go_wp2;go_ret;exact ⟨rfl,G.o⟩
       | false=>
        rw [hof] at c2;have HOF:=gh hof;obtain ⟨c,hc⟩:∃ c,(d - (j+1)).toNat=c:=⟨_,rfl⟩;have HC:Hid ((d - j).toNat=c+1):=gh (by omega);have HC':=gh hc;obtain ⟨cz,hcz⟩:∃ cz,childZ x d j=cz:=⟨_,rfl⟩;have HCZ:=gh hcz;obtain ⟨q,t1,hq⟩:∃ q t1,t.read cz=(q,t1):=⟨_,_,rfl⟩;have HQ:=gh hq;have HQ':Hid (t.read (childZ x d j)=(q,t1)):=gh (by rw [hcz];exact hq);clear hof hcz hc hq;go_wp2_with (fail);refine (child_r _ x d j cz HCZ.o).mono ?_;rintro e w' ⟨rfl,rfl⟩;go_wp2_with (fail);refine (read_r _ r t cz G.o.at q t1 HQ.o).mono ?_;rintro e W5 ⟨rfl,R5⟩;have G5:=gh (G.o.trans (R5.went_read G.o.ok HQ.o));obtain ⟨ta,tc,wa,wc,RI⟩:=R5.1;obtain ⟨_,_,c2',_,_,ff⟩:=RI.cells;clear RI ff R5 c2
        by_cases q0:q=0
        ·subst q0;cases hof1:t1.off with
         | true=>
          rw [hof1] at c2';have hz:=HK.o;rw [HC.o,Rn.partsB_skip HOF.o HQ'.o (.inr hof1)] at hz;have HZ:=gh hz;clear hof1 hz;go_wp2;exact ⟨⟨j+1,t1,rfl,by omega,by omega,G5.o,by rw [HC'.o];exact HZ.o⟩,by simp [intOf];omega⟩
         | false=>
          rw [hof1] at c2';obtain ⟨b,t2,hp⟩:∃ b t2,t1.partR N tt n x d j=(b,t2):=⟨_,_,rfl⟩;have HP:=gh hp;have hz:=HK.o;rw [HC.o,Rn.partsB_go HOF.o HQ'.o rfl hof1 hp] at hz;have HZ:=gh hz;clear hof1 hz hp;go_wp2_with (fail);refine (part_r N _ r t1 tt n x d j G5.o.at G5.o.ok (fun k h=>HX.o k (Nat.le_trans G5.o.turned.size h)) HNI.o (by have:=G5.o.on.left;have:=HN.o;omega) (by have:=G5.o.on.left;have:=HL.o;omega) b t2 HP.o).mono ?_;rintro e W6 ⟨rfl,G6'⟩;have G6:=gh (G5.o.trans G6');clear G6';cases b with
          | true=>
           have hz:=HZ.o;rw [if_pos rfl] at hz;have HZ1:=gh hz;clear hz HZ;go_wp2;exact ⟨⟨j+1,t2,rfl,by omega,by omega,G6.o,by rw [HC'.o];exact HZ1.o⟩,by simp [intOf];omega⟩
          | false=>
           have hz:=HZ.o;rw [if_neg (by decide)] at hz;obtain ⟨rfl,rfl⟩:=Prod.mk.inj hz;clear hz HZ;go_wp2;go_ret;exact ⟨rfl,G6.o⟩
        ·have g1:(q == 0)=false:=by simp [q0]
         have g2:(q != 0)=true:=by simp [q0]
         have hz:=HK.o;rw [HC.o,Rn.partsB_skip HOF.o HQ'.o (.inl q0)] at hz;have HZ:=gh hz;clear hz;go_wp2;exact ⟨⟨j+1,t1,rfl,by omega,by omega,G5.o,by rw [HC'.o];exact HZ.o⟩,by simp [intOf];omega⟩
      ·have hz:=HK.o;rw [show (d - j).toNat=0 from by omega] at hz;obtain ⟨rfl,rfl⟩:=Prod.mk.inj hz;clear hz;go_wp2;go_ret;exact ⟨rfl,G.o⟩
    | false=>
     rw [hof1] at c2';obtain ⟨p,t2,hp⟩:∃ p t2,t1.partR N tt n x d q=(p,t2):=⟨_,_,rfl⟩;have HP:=gh hp;have hz:=HK.o;rw [Rn.partsA_go HOF.o HQ.o hdq hof1 hp] at hz;have HZ:=gh hz;clear hof1 hz hp;go_wp2_with (fail);refine (part_r N _ r t1 tt n x d q G5.o.at G5.o.ok (fun k h=>HX.o k (Nat.le_trans G5.o.turned.size h)) HNI.o (by have:=G5.o.on.left;have:=HN.o;omega) (by have:=G5.o.on.left;have:=HL.o;omega) p t2 HP.o).mono ?_;rintro e W6 ⟨rfl,G6'⟩;have G6:=gh (G5.o.trans G6');have L6:=gh G6'.on.left;clear G6';cases p with
     | true=>
      have hz:=HZ.o;rw [if_pos rfl] at hz;have HZ1:=gh hz;clear hz HZ;go_wp2;exact ⟨⟨F',t2,by have:=L6.o;have:=LT.o;have:=HF.o;omega,G6.o,HZ1.o⟩,by rw [G6.o.at.leftAt,G.o.at.leftAt];have:=L6.o;have:=LT.o;omega⟩
     | false=>
      have hz:=HZ.o;rw [if_neg (by decide)] at hz;obtain ⟨rfl,rfl⟩:=Prod.mk.inj hz;have hz2:=HE.o;rw [if_neg (by decide)] at hz2;obtain ⟨rfl,rfl⟩:=Prod.mk.inj hz2;clear hz hz2 HZ HE;go_wp2;go_ret;exact ⟨rfl,G6.o⟩
end
section
open Go.Shelf
variable {X:Nat->Prop}
theorem i64_wrap (z:Int):I64 (wrap64 z):=by unfold I64 wrap64;omega
theorem i64_0:I64 0:=⟨by decide,by decide⟩
namespace Rn
theorem markK_i64 (g:Rn->Int->Int × Rn) (n d:Int):∀ (c:Nat) (i m:Int) (t:Rn),I64 m->I64 (markK g n d c i m t).1
 | 0,_,_,_,h=>h
 | c+1,i,m,t,h=>by
  rw [markK]
  split
  ·exact h
  ·split
   ·exact markK_i64 g n d c _ _ _ (i64_wrap _)
   ·split
    ·exact markK_i64 g n d c _ _ _ (i64_wrap _)
    ·split
     ·exact markK_i64 g n d c _ _ _ (i64_wrap _)
     ·exact markK_i64 g n d c _ _ _ h
theorem markF_i64:∀ (f:Nat) (s:Rn) (n:Int),I64 (markF f s n).1
 | 0,_,_=>i64_0
 | f+1,s,n=>by
  show I64 (if (s.read (wrap64 (n+4))).1=0 then _ else _:Int × Rn).1
  split
  ·exact markK_i64 _ _ _ _ _ _ _ i64_0
  ·exact i64_wrap _
def renewE (N:Nat) (b a n w:Int) (s:Rn):Bool × Rn:=
 let q:=if 2<=n then s.partsR N b a n (ad w) else (true,s)
 if q.1=false then (false,q.2)
 else
  let g:=q.2.read (wrap64 (b+1))
  let p:=g.2.read (wrap64 (b+2))
  let z:=p.2.dcss g.1 p.1 (Rf.ofZ 4 b) w
  (decide (z.1≠3),z.2)
def renewR (N:Nat) (s:Rn) (b:Int):Bool × Rn:=
 let a:=s.read b
 let m:=markF N a.2 (ad a.1)
 let w:=m.2.read (wrap64 (b+3))
 if w.2.off=true then (true,w.2)
 else if w.1=0 then
  let t:=topR N w.2 (ad a.1) m.1
  if t.1.2=false then (false,t.2)
  else
   let c:=t.2.cas (wrap64 (b+3)) 0 t.1.1
   let y:=c.2.read (wrap64 (b+3))
   renewE N b (ad a.1) m.1 y.1 y.2
 else renewE N b (ad a.1) m.1 w.1 w.2
end Rn
theorem Ran.moved_dcss {W W':World} {r:Nat} {s s':Rn} {g p o x z:Int} (R:Ran X W r s' W') (ho:s.ok) (e:s.dcss g p o x=(z,s')):Went X W r s s' W':=by
 have:s'=(s.dcss g p o x).2:=by rw [e]
 subst this;exact ⟨⟨R.1,R.2⟩,Rn.dcss_on s g p o x,(Rn.dcss_on s g p o x).ok ho⟩
theorem Ran.went_cas {W W':World} {r:Nat} {s s':Rn} {a x y:Int} {z:Bool} (R:Ran X W r s' W') (ho:s.ok) (e:s.cas a x y=(z,s')):Went X W r s s' W':=⟨R,cas_on e,(cas_on e).ok ho⟩
set_option maxRecDepth 100000 in
set_option maxHeartbeats 2000000 in
theorem renew_r (N:Nat) (W:World) (r:Nat) (s:Rn) (b:Int) (h:RunAt X W r s) (ho:s.ok) (hX:∀ k,W.heap.size<=k->X k) (hN:s.left < N) (hl:s.left<=16384) (bE:Bool) (sE:Rn) (he:s.renewR N b=(bE,sE)) :
  Calls Tryz.prog 132 #[.pointer (some ⟨r,0,none⟩),.int .i64 b] W fun e W'=>e=.returned (.bool bE)/\Went X W r s sE W':=by
 have H:=gh h;have HX:=gh hX;clear hX;have OK:=gh ho;have HN:=gh hN;have HL:=gh hl;unfold Rn.renewR at he;obtain ⟨tw,s1,h1⟩:∃ tw s1,s.read b=(tw,s1):=⟨_,_,rfl⟩;obtain ⟨a,ha⟩:∃ a,ad tw=a:=⟨_,rfl⟩;obtain ⟨n,s2,h2⟩:∃ n s2,Rn.markF N s1 a=(n,s2):=⟨_,_,rfl⟩;obtain ⟨w0,s3,h3⟩:∃ w0 s3,s2.read (wrap64 (b+3))=(w0,s3):=⟨_,_,rfl⟩;rw [h1] at he;dsimp only at he;rw [ha,h2] at he;dsimp only at he;rw [h3] at he;dsimp only at he;have HIN:Hid (I64 n):=gh (by have:=Rn.markF_i64 N s1 a;rw [h2] at this;exact this);have H1:=gh h1;have HA:=gh ha;have H2:=gh h2;have H3:=gh h3;have HE0:=gh he;clear h ho hN hl h1 ha h2 h3 he;go_enter Tryz.func132,Tryz.ntmps132;go_wp2_with (fail);refine (read_r _ r s b H.o tw s1 H1.o).mono ?_;rintro e W1 ⟨rfl,R1⟩;have G1:=gh (R1.went_read OK.o H1.o);have IT:=gh (OK.o.read H1.o).1;clear R1;go_wp2_with (fail);refine (ak_d _ tw a IT.o HA.o).mono ?_;rintro e w' ⟨rfl,rfl⟩;go_wp2_with (fail);refine (mark_r r N _ s1 a (by have:=G1.o.on.left;have:=HN.o;omega) G1.o.at G1.o.ok n s2 H2.o).mono ?_;rintro e W2 ⟨rfl,G2'⟩;have G2:=gh (G1.o.trans G2');clear G2';obtain ⟨n0,n9⟩:=HIN.o;go_wp2_with (fail);refine (read_r _ r s2 _ G2.o.at w0 s3 H3.o).mono ?_;rintro e W3 ⟨rfl,R3⟩;have G3:=gh (G2.o.trans (R3.went_read G2.o.ok H3.o));have IW0:=gh (G2.o.ok.read H3.o).1;obtain ⟨ta,tc,wa,wc,RI⟩:=R3.1;obtain ⟨_,_,c2,_,_,ff⟩:=RI.cells;clear RI ff R3;cases hof:s3.off with
 | true=>
  rw [hof] at c2;have hz:=HE0.o;rw [if_pos hof] at hz;obtain ⟨rfl,rfl⟩:=Prod.mk.inj hz;clear hof hz HE0;go_wp2;go_ret;exact ⟨rfl,G3.o⟩
 | false=>
  rw [hof] at c2
  by_cases hw:w0=0
  ·subst hw;obtain ⟨x,ok,s4,h4⟩:∃ x ok s4,Rn.topR N s3 a n=((x,ok),s4):=⟨_,_,_,rfl⟩;have hz:=HE0.o;rw [if_neg (by rw [hof];decide),if_pos rfl,h4] at hz
   try dsimp only at hz
   have HE1:=gh hz;have H4:=gh h4;clear hof hz HE0 h4;go_wp2_with (fail);refine (top_r N _ r s3 a n G3.o.at G3.o.ok (fun k h=>HX.o k (Nat.le_trans G3.o.turned.size h)) HIN.o (by have:=G3.o.on.left;have:=HN.o;omega) (by have:=G3.o.on.left;have:=HL.o;omega) x ok s4 H4.o).mono ?_;rintro e W4 ⟨rfl,G4'⟩;have G4:=gh (G3.o.trans G4');clear G4';cases ok with
   | false=>
    have hz:=HE1.o;rw [if_pos rfl] at hz;obtain ⟨rfl,rfl⟩:=Prod.mk.inj hz;clear hz HE1;go_wp2;go_ret;exact ⟨rfl,G4.o⟩
   | true=>
    obtain ⟨cb,s5,h5⟩:∃ cb s5,s4.cas (wrap64 (b+3)) 0 x=(cb,s5):=⟨_,_,rfl⟩;obtain ⟨y,s6,h6⟩:∃ y s6,s5.read (wrap64 (b+3))=(y,s6):=⟨_,_,rfl⟩;have hz:=HE1.o;rw [if_neg (by decide),h5] at hz
    try dsimp only at hz
    rw [h6] at hz
    try dsimp only at hz
    have HE:=gh hz;have H5:=gh h5;have H6:=gh h6;clear hz HE1 h5 h6;go_wp2_with (fail);refine (cas_r _ r s4 _ 0 x G4.o.at cb s5 H5.o).mono ?_;rintro e W5 ⟨rfl,R5⟩;have G5:=gh (G4.o.trans (R5.went_cas G4.o.ok H5.o));clear R5;go_wp2_with (fail);refine (read_r _ r s5 _ G5.o.at y s6 H6.o).mono ?_;rintro e W5' ⟨rfl,R6⟩;have GY:=gh (G5.o.trans (R6.went_read G5.o.ok H6.o));have IY:=gh (G5.o.ok.read H6.o).1;clear R6
    by_cases n2:2<=n
    ·obtain ⟨rt,hrt⟩:∃ rt,ad y=rt:=⟨_,rfl⟩;obtain ⟨pb,t4,hpb⟩:∃ pb t4,Rn.partsR N s6 b a n rt=(pb,t4):=⟨_,_,rfl⟩;have hz:=HE.o;rw [Rn.renewE,if_pos n2,hrt,hpb] at hz;have HRT:=gh hrt;have HPB:=gh hpb;have HE:=gh hz;clear hrt hpb hz;go_wp2_with (fail);refine (ak_d _ y rt IY.o HRT.o).mono ?_;rintro e w' ⟨rfl,rfl⟩;go_wp2_with (fail);refine (parts_r N _ r s6 b a n rt GY.o.at GY.o.ok (fun k h=>HX.o k (Nat.le_trans GY.o.turned.size h)) HIN.o (by have:=GY.o.on.left;have:=HN.o;omega) (by have:=GY.o.on.left;have:=HL.o;omega) pb t4 HPB.o).mono ?_;rintro e W6 ⟨rfl,G6'⟩;have G6:=gh (GY.o.trans G6');clear G6';cases pb with
     | false=>
      have hz:=HE.o;rw [if_pos rfl] at hz;obtain ⟨rfl,rfl⟩:=Prod.mk.inj hz;clear hz HE;go_wp2;go_ret;exact ⟨rfl,G6.o⟩
     | true=>
      have hz:=HE.o;rw [if_neg (by decide)] at hz
      try dsimp only at hz
      have HE:=gh hz;clear hz;obtain ⟨g,t5,hg⟩:∃ g t5,Rn.read t4 (wrap64 (b+1))=(g,t5):=⟨_,_,rfl⟩;obtain ⟨p,t6,hp⟩:∃ p t6,t5.read (wrap64 (b+2))=(p,t6):=⟨_,_,rfl⟩;obtain ⟨me,hme⟩:∃ me,Rf.ofZ 4 b=me:=⟨_,rfl⟩;obtain ⟨zd,t7,hzd⟩:∃ zd t7,t6.dcss g p me y=(zd,t7):=⟨_,_,rfl⟩;have hz:=HE.o;rw [hg,hp,hme,hzd] at hz;obtain ⟨hbe,rfl⟩:=Prod.mk.inj hz;have HBE:=gh hbe;have HG:=gh hg;have HP:=gh hp;have HME:=gh hme;have HZD:=gh hzd;clear hg hp hme hzd hz hbe HE;go_wp2_with (fail);refine (read_r _ r t4 _ G6.o.at g t5 HG.o).mono ?_;rintro e W7 ⟨rfl,R7⟩;have G7:=gh (G6.o.trans (R7.went_read G6.o.ok HG.o));clear R7;go_wp2_with (fail);refine (read_r _ r t5 _ G7.o.at p t6 HP.o).mono ?_;rintro e W8 ⟨rfl,R8⟩;have G8:=gh (G7.o.trans (R8.went_read G7.o.ok HP.o));clear R8;go_wp2_with (fail);refine (ofr_c 4 b me HME.o _).mono ?_;rintro e w' ⟨rfl,rfl⟩;go_wp2_with (fail);refine (dcss_r _ r t6 g p me y G8.o.at (fun k h=>HX.o k (Nat.le_trans G8.o.turned.size h)) zd _ HZD.o).mono ?_;rintro e W9 ⟨rfl,R9⟩;have G9:=gh (G8.o.trans (R9.moved_dcss G8.o.ok HZD.o));clear R9
      by_cases z3:zd=3
      ·subst z3;go_wp2;go_ret;exact ⟨by rw [<- HBE.o];rfl,G9.o⟩
      ·have k1:(zd == 3)=false:=by simp [z3]
       have k2:(zd != 3)=true:=by simp [z3]
       have k3:decide (zd≠3)=true:=by simp [z3]
       go_wp2;go_ret;exact ⟨by rw [<- HBE.o,k3];rfl,G9.o⟩
    ·have g2:decide (2<=n)=false:=by simp;omega
     have hz:=HE.o;rw [Rn.renewE,if_neg n2,if_neg (by simp)] at hz
     try dsimp only at hz
     have HE:=gh hz;clear hz;obtain ⟨g,t5,hg⟩:∃ g t5,Rn.read s6 (wrap64 (b+1))=(g,t5):=⟨_,_,rfl⟩;obtain ⟨p,t6,hp⟩:∃ p t6,t5.read (wrap64 (b+2))=(p,t6):=⟨_,_,rfl⟩;obtain ⟨me,hme⟩:∃ me,Rf.ofZ 4 b=me:=⟨_,rfl⟩;obtain ⟨zd,t7,hzd⟩:∃ zd t7,t6.dcss g p me y=(zd,t7):=⟨_,_,rfl⟩;have hz:=HE.o;rw [hg,hp,hme,hzd] at hz;obtain ⟨hbe,rfl⟩:=Prod.mk.inj hz;have HBE:=gh hbe;have HG:=gh hg;have HP:=gh hp;have HME:=gh hme;have HZD:=gh hzd;clear hg hp hme hzd hz hbe HE;go_wp2_with (fail);refine (read_r _ r s6 _ GY.o.at g t5 HG.o).mono ?_;rintro e W7 ⟨rfl,R7⟩;have G7:=gh (GY.o.trans (R7.went_read GY.o.ok HG.o));clear R7;go_wp2_with (fail);refine (read_r _ r t5 _ G7.o.at p t6 HP.o).mono ?_;rintro e W8 ⟨rfl,R8⟩;have G8:=gh (G7.o.trans (R8.went_read G7.o.ok HP.o));clear R8;go_wp2_with (fail);refine (ofr_c 4 b me HME.o _).mono ?_;rintro e w' ⟨rfl,rfl⟩;go_wp2_with (fail);refine (dcss_r _ r t6 g p me y G8.o.at (fun k h=>HX.o k (Nat.le_trans G8.o.turned.size h)) zd _ HZD.o).mono ?_;rintro e W9 ⟨rfl,R9⟩;have G9:=gh (G8.o.trans (R9.moved_dcss G8.o.ok HZD.o));clear R9
     by_cases z3:zd=3
     ·subst z3;go_wp2;go_ret;exact ⟨by rw [<- HBE.o];rfl,G9.o⟩
     ·have k1:(zd == 3)=false:=by simp [z3]
      have k2:(zd != 3)=true:=by simp [z3]
      have k3:decide (zd≠3)=true:=by simp [z3]
      go_wp2;go_ret;exact ⟨by rw [<- HBE.o,k3];rfl,G9.o⟩
  ·have g0:(w0 == 0)=false:=by simp [hw]
   have hz:=HE0.o;rw [if_neg (by rw [hof];decide),if_neg hw] at hz;have HE:=gh hz;clear hof hz HE0
   by_cases n2:2<=n
   ·obtain ⟨rt,hrt⟩:∃ rt,ad w0=rt:=⟨_,rfl⟩;obtain ⟨pb,t4,hpb⟩:∃ pb t4,Rn.partsR N s3 b a n rt=(pb,t4):=⟨_,_,rfl⟩;have hz:=HE.o;rw [Rn.renewE,if_pos n2,hrt,hpb] at hz;have HRT:=gh hrt;have HPB:=gh hpb;have HE:=gh hz;clear hrt hpb hz;go_wp2_with (fail);refine (ak_d _ w0 rt IW0.o HRT.o).mono ?_;rintro e w' ⟨rfl,rfl⟩;go_wp2_with (fail);refine (parts_r N _ r s3 b a n rt G3.o.at G3.o.ok (fun k h=>HX.o k (Nat.le_trans G3.o.turned.size h)) HIN.o (by have:=G3.o.on.left;have:=HN.o;omega) (by have:=G3.o.on.left;have:=HL.o;omega) pb t4 HPB.o).mono ?_;rintro e W6 ⟨rfl,G6'⟩;have G6:=gh (G3.o.trans G6');clear G6';cases pb with
    | false=>
     have hz:=HE.o;rw [if_pos rfl] at hz;obtain ⟨rfl,rfl⟩:=Prod.mk.inj hz;clear hz HE;go_wp2;go_ret;exact ⟨rfl,G6.o⟩
    | true=>
     have hz:=HE.o;rw [if_neg (by decide)] at hz
     try dsimp only at hz
     have HE:=gh hz;clear hz;obtain ⟨g,t5,hg⟩:∃ g t5,Rn.read t4 (wrap64 (b+1))=(g,t5):=⟨_,_,rfl⟩;obtain ⟨p,t6,hp⟩:∃ p t6,t5.read (wrap64 (b+2))=(p,t6):=⟨_,_,rfl⟩;obtain ⟨me,hme⟩:∃ me,Rf.ofZ 4 b=me:=⟨_,rfl⟩;obtain ⟨zd,t7,hzd⟩:∃ zd t7,t6.dcss g p me w0=(zd,t7):=⟨_,_,rfl⟩;have hz:=HE.o;rw [hg,hp,hme,hzd] at hz;obtain ⟨hbe,rfl⟩:=Prod.mk.inj hz;have HBE:=gh hbe;have HG:=gh hg;have HP:=gh hp;have HME:=gh hme;have HZD:=gh hzd;clear hg hp hme hzd hz hbe HE;go_wp2_with (fail);refine (read_r _ r t4 _ G6.o.at g t5 HG.o).mono ?_;rintro e W7 ⟨rfl,R7⟩;have G7:=gh (G6.o.trans (R7.went_read G6.o.ok HG.o));clear R7;go_wp2_with (fail);refine (read_r _ r t5 _ G7.o.at p t6 HP.o).mono ?_;rintro e W8 ⟨rfl,R8⟩;have G8:=gh (G7.o.trans (R8.went_read G7.o.ok HP.o));clear R8;go_wp2_with (fail);refine (ofr_c 4 b me HME.o _).mono ?_;rintro e w' ⟨rfl,rfl⟩;go_wp2_with (fail);refine (dcss_r _ r t6 g p me w0 G8.o.at (fun k h=>HX.o k (Nat.le_trans G8.o.turned.size h)) zd _ HZD.o).mono ?_;rintro e W9 ⟨rfl,R9⟩;have G9:=gh (G8.o.trans (R9.moved_dcss G8.o.ok HZD.o));clear R9
     by_cases z3:zd=3
     ·subst z3;go_wp2;go_ret;exact ⟨by rw [<- HBE.o];rfl,G9.o⟩
     ·have k1:(zd == 3)=false:=by simp [z3]
      have k2:(zd != 3)=true:=by simp [z3]
      have k3:decide (zd≠3)=true:=by simp [z3]
      go_wp2;go_ret;exact ⟨by rw [<- HBE.o,k3];rfl,G9.o⟩
   ·have g2:decide (2<=n)=false:=by simp;omega
    have hz:=HE.o;rw [Rn.renewE,if_neg n2,if_neg (by simp)] at hz
    try dsimp only at hz
    have HE:=gh hz;clear hz;obtain ⟨g,t5,hg⟩:∃ g t5,Rn.read s3 (wrap64 (b+1))=(g,t5):=⟨_,_,rfl⟩;obtain ⟨p,t6,hp⟩:∃ p t6,t5.read (wrap64 (b+2))=(p,t6):=⟨_,_,rfl⟩;obtain ⟨me,hme⟩:∃ me,Rf.ofZ 4 b=me:=⟨_,rfl⟩;obtain ⟨zd,t7,hzd⟩:∃ zd t7,t6.dcss g p me w0=(zd,t7):=⟨_,_,rfl⟩;have hz:=HE.o;rw [hg,hp,hme,hzd] at hz;obtain ⟨hbe,rfl⟩:=Prod.mk.inj hz;have HBE:=gh hbe;have HG:=gh hg;have HP:=gh hp;have HME:=gh hme;have HZD:=gh hzd;clear hg hp hme hzd hz hbe HE;go_wp2_with (fail);refine (read_r _ r s3 _ G3.o.at g t5 HG.o).mono ?_;rintro e W7 ⟨rfl,R7⟩;have G7:=gh (G3.o.trans (R7.went_read G3.o.ok HG.o));clear R7;go_wp2_with (fail);refine (read_r _ r t5 _ G7.o.at p t6 HP.o).mono ?_;rintro e W8 ⟨rfl,R8⟩;have G8:=gh (G7.o.trans (R8.went_read G7.o.ok HP.o));clear R8;go_wp2_with (fail);refine (ofr_c 4 b me HME.o _).mono ?_;rintro e w' ⟨rfl,rfl⟩;go_wp2_with (fail);refine (dcss_r _ r t6 g p me w0 G8.o.at (fun k h=>HX.o k (Nat.le_trans G8.o.turned.size h)) zd _ HZD.o).mono ?_;rintro e W9 ⟨rfl,R9⟩;have G9:=gh (G8.o.trans (R9.moved_dcss G8.o.ok HZD.o));clear R9
    by_cases z3:zd=3
    ·subst z3;go_wp2;go_ret;exact ⟨by rw [<- HBE.o];rfl,G9.o⟩
    ·have k1:(zd == 3)=false:=by simp [z3]
     have k2:(zd != 3)=true:=by simp [z3]
     have k3:decide (zd≠3)=true:=by simp [z3]
     go_wp2;go_ret;exact ⟨by rw [<- HBE.o,k3];rfl,G9.o⟩
end
section
open Go.Shelf
variable {X:Nat->Prop}
attribute [local go_sem] Oper.semAt_some
def Rn.startR (N:Nat) (s:Rn) (nd sl w:Int):Bool × Rn:=
 let a:=s.make [w,wrap64 (nd+2),sl,0,0]
 if 0 < a.1 then
  let z:=a.2.dcss (wrap64 (nd+2)) sl w (Rf.ofZ 4 a.1)
  if z.1=1 then Rn.renewR N z.2 a.1 else (decide (z.1≠3),z.2)
 else (false,a.2)
theorem Ran.went_make {W W':World} {r:Nat} {s s':Rn} {ws:List Int} {z:Int} (R:Ran X W r s' W') (ho:s.ok) (e:s.make ws=(z,s')):Went X W r s s' W':=by
 have:s'=(s.make ws).2:=by rw [e]
 subst this;exact ⟨R,Rn.ask_on s _,(Rn.ask_on s _).ok ho⟩
set_option maxRecDepth 100000 in
set_option maxHeartbeats 2000000 in
theorem start_r (N:Nat) (W:World) (r:Nat) (s:Rn) (nd sl w:Int) (h:RunAt X W r s) (ho:s.ok) (hX:∀ k,W.heap.size<=k->X k) (hN:s.left < N) (hl:s.left<=16384) (bE:Bool) (sE:Rn) (he:s.startR N nd sl w=(bE,sE)) :
  Calls Tryz.prog 133 #[.pointer (some ⟨r,0,none⟩),.agg #[.int .i64 nd,.int .i64 sl,.int .i64 w]] W fun e W'=>e=.returned (.bool bE)/\Went X W r s sE W':=by
 obtain ⟨V,hV⟩:∃ V,W.alloc (.cells #[.int .i64 nd,.int .i64 sl,.int .i64 w] 50)=V:=⟨_,rfl⟩;have kV:Kept W V:=by rw [<- hV];exact Td.alloc _ _ _
 obtain ⟨m,hm⟩:∃ m,W.heap.size=m:=⟨_,rfl⟩;have hb:V.heap[m]? = some (.cells #[.int .i64 nd,.int .i64 sl,.int .i64 w] 50):=by rw [<- hV,<- hm];exact heap_new _ _
 have hrm:m≠r:=by have:=h.lt;omega
 have c0:V.cell? ⟨m,0,none⟩=some (.int .i64 nd):=by simp [World.cell?,hb]
 have c1:V.cell? ⟨m,1,none⟩=some (.int .i64 sl):=by simp [World.cell?,hb]
 have c2:V.cell? ⟨m,2,none⟩=some (.int .i64 w):=by simp [World.cell?,hb]
 have HC:=gh (And.intro c0 (And.intro c1 c2));have HRM:=gh hrm;have H:=gh (h.kept kV);have HX:=gh hX;clear hX;have KV:=gh kV;have OK:=gh ho;have HN:=gh hN;have HL:=gh hl;unfold Rn.startR at he;obtain ⟨g,hg⟩:∃ g,wrap64 (nd+2)=g:=⟨_,rfl⟩;obtain ⟨a,s1,h1⟩:∃ a s1,s.make [w,g,sl,0,0]=(a,s1):=⟨_,_,rfl⟩;rw [hg,h1] at he;dsimp only at he;have HE:=gh he;have H1:=gh h1;clear h ho hN hl he h1 hb kV hrm;go_enter Tryz.func133,Tryz.ntmps133;go_wp2_with (fail);clear hV c0 c1 c2;refine (rebuildw_r V w g sl).mono ?_;intro e W1 hff;obtain ⟨a1,cap1,rfl,k1,far⟩:=hff.far;have K1:=gh k1;have FAR:=gh (far X r (fun k h=>HX.o k (Nat.le_trans KV.o.size h)) H.o.lt);clear hff k1 far;go_wp2_with (fail);refine (make_r W1 r s a1 5 cap1 [w,g,sl,0,0] (H.o.kept K1.o) FAR.o rfl a s1 H1.o).mono ?_;rintro e W2 ⟨rfl,R2⟩;have G2:=gh ((R2.went_make OK.o H1.o).behind (KV.o.trans K1.o));have T2:Hid (Td (fun k=>k=r) V W2):=gh (K1.o.then R2.2);clear R2 FAR
 by_cases a0:0 < a
 ·have d0:decide (0 < a)=true:=by simp [a0]
  obtain ⟨me,hme⟩:∃ me,Rf.ofZ 4 a=me:=⟨_,rfl⟩;obtain ⟨zd,s2,h2⟩:∃ zd s2,s1.dcss g sl w me=(zd,s2):=⟨_,_,rfl⟩;have hz:=HE.o;rw [if_pos a0,hme,h2] at hz;dsimp only at hz;have HE1:=gh hz;have HME:=gh hme;have H2:=gh h2;obtain ⟨U,hU⟩:∃ U,W2.drew=U:=⟨_,rfl⟩;have kU:Kept W2 U:=by rw [<- hU];exact Kept.drew _
  have x0:∀ u:Wd (fun Y=>Td (fun k=>k=r) U Y),u.w.cell? ⟨m,0,none⟩=some (.int .i64 nd):=fun u=>u.ok.cell (kU.cell (T2.o.cell HC.o.1 HRM.o) id) HRM.o;have x1:∀ u:Wd (fun Y=>Td (fun k=>k=r) U Y),u.w.cell? ⟨m,1,none⟩=some (.int .i64 sl):=fun u=>u.ok.cell (kU.cell (T2.o.cell HC.o.2.1 HRM.o) id) HRM.o;have x2:∀ u:Wd (fun Y=>Td (fun k=>k=r) U Y),u.w.cell? ⟨m,2,none⟩=some (.int .i64 w):=fun u=>u.ok.cell (kU.cell (T2.o.cell HC.o.2.2 HRM.o) id) HRM.o;have HU:=gh hU;have KU:=gh kU;clear hz HE hme h2 hU kU;go_wp2_with (fail);refine region_wide [0,1,2,3,4,5,6,7,8,9,10] (fun Y=>Td (fun k=>k=r) U Y) (by kernel_rfl) (by kernel_rfl) (by rw [HU.o];exact Td.refl _ _) (fun _=>?_);rw [HU.o]
  repeat (refine pq rfl rfl ?_;go_big_quiet_step (fail);refine wpQuiet_nil ?_)
  refine pl rfl rfl ?_;gi_wp2_with (fail);refine ⟨trivial,?_⟩;refine (callsIn_wide.2 (ofr_c 4 a me HME.o _)).mono ?_;rintro e Y ⟨rfl,rfl⟩;gi_wp2_with (fail);refine ⟨Wd.mem (Td.refl _ _),?_⟩;refine pl rfl rfl ?_;gi_wp2_with (fail);refine ⟨trivial,?_⟩;refine (callsIn_wide.2 (dcss_r U r s1 g sl w me (G2.o.at.kept KU.o) (fun k h=>HX.o k (Nat.le_trans G2.o.turned.size (Nat.le_trans KU.o.size h))) zd s2 H2.o)).mono ?_;rintro e W3 ⟨rfl,R3⟩;have T3:=gh R3.2;have G3:=gh (G2.o.trans ((R3.moved_dcss G2.o.ok H2.o).behind KU.o));clear R3;gi_wp2_with (fail);refine ⟨Wd.mem T3.o,?_⟩;refine perm_done ?_;clear x0 x1 x2 KU HU
  by_cases z1:zd=1
  ·subst z1;have hz:=HE1.o;rw [if_pos rfl] at hz;have HE2:=gh hz;clear hz HE1;go_wp2_with (fail);refine (renew_r N W3 r s2 a G3.o.at G3.o.ok (fun k h=>HX.o k (Nat.le_trans G3.o.turned.size h)) (by have:=G3.o.on.left;have:=HN.o;omega) (by have:=G3.o.on.left;have:=HL.o;omega) bE sE HE2.o).mono ?_;rintro e W4 ⟨rfl,G4'⟩;have G4:=gh (G3.o.trans G4');clear G4';go_wp2;go_ret;exact ⟨rfl,G4.o⟩
  ·have g1:(zd == 1)=false:=by simp [z1]
   have hz:=HE1.o;rw [if_neg z1] at hz;obtain ⟨hbe,rfl⟩:=Prod.mk.inj hz;have HBE:=gh hbe;clear hz HE1 hbe
   by_cases z3:zd=3
   ·subst z3;go_wp2;go_ret;exact ⟨by rw [<- HBE.o];rfl,G3.o⟩
   ·have g3:(zd == 3)=false:=by simp [z3]
    have k3:decide (zd≠3)=true:=by simp [z3]
    go_wp2;go_ret;exact ⟨by rw [<- HBE.o,k3];rfl,G3.o⟩
 ·have d0:decide (0 < a)=false:=by simp [a0]
  have hz:=HE.o;rw [if_neg a0] at hz;obtain ⟨rfl,rfl⟩:=Prod.mk.inj hz;clear hz HE;go_wp2;go_ret;exact ⟨rfl,G2.o⟩
end
section
structure En where
 nd:Int
 sl:Int
 wd:Int
def flat3:List En->List Value
 | []=>[]
 | p :: xs=>.int .i64 p.nd :: .int .i64 p.sl :: .int .i64 p.wd :: flat3 xs
theorem flat3_append:(xs ys:List En)->flat3 (xs++ys)=flat3 xs++flat3 ys
 | [],_=>rfl
 | p :: xs,ys=>by simp [flat3,flat3_append xs ys]
theorem flat3_length:(xs:List En)->(flat3 xs).length=xs.length * 3
 | []=>rfl
 | p :: xs=>by simp [flat3,flat3_length xs];omega
theorem flat3_at:{xs:List En}->{j:Nat}->{p:En}->xs[j]? = some p->(flat3 xs)[j * 3]? = some (.int .i64 p.nd)/\(flat3 xs)[j * 3+1]? = some (.int .i64 p.sl)/\(flat3 xs)[j * 3+2]? = some (.int .i64 p.wd)
 | x :: xs,0,p,h=>by
  obtain rfl:x=p:=by simpa using h
  exact ⟨rfl,rfl,rfl⟩
 | x :: xs,j+1,p,h=>by
  have:=flat3_at (xs:=xs) (j:=j) (p:=p) (by simpa using h)
  rw [show (j+1) * 3=j * 3+1+1+1 by omega];simpa [flat3] using this
theorem flat3_one:(xs:List En)->∀ u ∈ flat3 xs,u.oneCell'=true
 | []=>by simp [flat3]
 | p :: xs=>by
  intro u hu;simp only [flat3,List.mem_cons] at hu;rcases hu with rfl | rfl | rfl | hu
  ·rfl
  ·rfl
  ·rfl
  ·exact flat3_one xs u hu
def EReads (w:World) (a:Option Addr) (xs:List En):Prop:=
 xs=[]∨∃ bl off,a=some ⟨bl,off,none⟩/\∀ j p,xs[j]? = some p->w.cell? ⟨bl,off+j * 3,none⟩=some (.int .i64 p.nd)/\w.cell? ⟨bl,off+(j * 3+1),none⟩=some (.int .i64 p.sl)/\w.cell? ⟨bl,off+(j * 3+2),none⟩=some (.int .i64 p.wd)
theorem EReads.turned {w w':World} {a:Option Addr} {xs:List En} (h:EReads w a xs) {R:Nat->Prop} (ht:Td R w w') (hR:∀ k,k < w.heap.size->(∃ ad,a=some ad/\ad.block=k)->¬ R k):EReads w' a xs:=by
 rcases h with h | ⟨bl,off,rfl,h⟩
 ·exact .inl h
 ·refine .inr ⟨bl,off,rfl,fun j p hp=>?_⟩;have hc:=h j p hp;have hn:=hR bl (World.block_lt_of_cell? _ _ hc.1) ⟨_,rfl,rfl⟩;exact ⟨ht.cell hc.1 hn,ht.cell hc.2.1 hn,ht.cell hc.2.2 hn⟩
theorem EReads.kept {w w':World} {a:Option Addr} {xs:List En} (h:EReads w a xs) (ht:Kept w w'):EReads w' a xs:=h.turned ht (fun _ _ _ e=>e)
theorem EReads.at {w:World} {a:Option Addr} {xs:List En} (h:EReads w a xs) {j:Nat} {p:En} (hp:xs[j]? = some p):∃ bl off,a=some ⟨bl,off,none⟩/\bl < w.heap.size/\w.cell? ⟨bl,off+j * 3,none⟩=some (.int .i64 p.nd)/\w.cell? ⟨bl,off+(j * 3+1),none⟩=some (.int .i64 p.sl)/\w.cell? ⟨bl,off+(j * 3+2),none⟩=some (.int .i64 p.wd):=by
 rcases h with h | ⟨bl,off,ha,hc⟩
 ·rw [h] at hp;simp at hp
 ·exact ⟨bl,off,ha,World.block_lt_of_cell? _ _ (hc j p hp).1,hc j p hp⟩
abbrev ERow (w:World) (n₀:Nat) (v:Value) (xs:List En):Prop:=w.ownsRow n₀ 50 3 v xs.length (flat3 xs)
theorem ERow.reads {w:World} {n₀:Nat} {v:Value} {xs:List En} (h:ERow w n₀ v xs):∃ a cap,v=.slice a xs.length cap/\EReads w a xs/\xs.length<=cap/\cap<=maxLen/\(a=none->cap=0)/\∀ ad,a=some ad->n₀<=ad.block:=by
 rcases h.2 with ⟨rfl,h0⟩ | ⟨g,cap,cur,rfl,hg,_,hc,hm,_⟩
 ·obtain rfl:=List.length_eq_zero_iff.1 h0;exact ⟨none,0,rfl,.inl rfl,Nat.le_refl _,Nat.zero_le _,fun _=>rfl,fun _ e=>by cases e⟩
 ·refine ⟨_,cap,rfl,.inr ⟨g,0,rfl,fun j p hp=>?_⟩,hc,hm,fun e=>(by cases e),fun ad e=>by cases e;exact hg⟩;have hj:=(List.getElem?_eq_some_iff.1 hp).1;rw [Nat.zero_add,Nat.zero_add,Nat.zero_add,h.cellAt (j * 3) (by omega),h.cellAt (j * 3+1) (by omega),h.cellAt (j * 3+2) (by omega)];exact flat3_at hp
theorem ERow.turned {w w':World} {n₀:Nat} {v:Value} {xs:List En} (h:ERow w n₀ v xs) {R:Nat->Prop} (ht:Td R w w') (hn:∀ g,v.ownBlock=some g->¬ R g):ERow w' n₀ v xs:=by
 obtain ⟨h1,h2⟩:=h;refine ⟨h1,?_⟩;rcases h2 with h2 | ⟨g,cap,cur,rfl,hg,hh,r⟩
 ·exact .inl h2
 ·exact .inr ⟨g,cap,cur,rfl,hg,ht.heap hh (hn g rfl),r⟩
theorem ERow.kept {w w':World} {n₀:Nat} {v:Value} {xs:List En} (h:ERow w n₀ v xs) (ht:Kept w w'):ERow w' n₀ v xs:=h.turned ht (fun _ _ e=>e)
theorem ERow.nil (w:World) (n₀:Nat):ERow w n₀ (.slice none 0 0) []:=⟨rfl,.inl ⟨rfl,rfl⟩⟩
theorem ERow.own {w:World} {n₀:Nat} {v:Value} {xs:List En} (h:ERow w n₀ v xs):∀ g,v.ownBlock=some g->n₀<=g:=by
 obtain ⟨a,cap,rfl,_,_,_,_,hb⟩:=h.reads;intro g e;cases a with
 | none=>simp [Value.ownBlock] at e
 | some ad=>
  have:=hb ad rfl
  simp [Value.ownBlock] at e;omega
theorem info_e:(Tryz.prog.info? 50).map (fun i=>(i.zero,i.size,i.bytes))=some (some (.agg #[.int .i64 0,.int .i64 0,.int .i64 0]),3,24):=by kernel_rfl
theorem three_cells {w:World} {m:Nat} {x y z:Int} {E:TypeId} (h:w.heap[m]? = some (.cells #[.int .i64 x,.int .i64 y,.int .i64 z] E)):∀ (j:Nat) (u:Value),(flat3 [⟨x,y,z⟩])[j]? = some u->w.cell? ((⟨m,0,none⟩:Addr).add j)=some u:=by
 intro j u hu;rcases j with _ | _ | _ | j
 ·simp [flat3] at hu;subst hu;simp [World.cell?,h,Addr.add]
 ·simp [flat3] at hu;subst hu;simp [World.cell?,h,Addr.add]
 ·simp [flat3] at hu;subst hu;simp [World.cell?,h,Addr.add]
 ·simp [flat3] at hu
section
variable {w:World} {ops:Array Oper} {rest:List Oper} {o:Oper} {a:Act} {Q:Exit->Act->World->Prop}
theorem wpList_append_entry (hgd:o.guard=none) (s x:Operand) (ho:o.op=.call { callee:=.builtin .append,args:=#[s,x],argTypes:=#[48,48] })
  (base:Nat) (v:Value) (xs ys:List En) (hs:a.eval s=v) (hown:ERow w base v xs) (m:Nat) (p q t:Int) (hx:a.eval x=.slice (some ⟨m,0,none⟩) 1 1) (hc:w.heap[m]? = some (.cells #[.int .i64 p,.int .i64 q,.int .i64 t] 50))
  (hl:xs.length<=1000000) (hbase:base<=w.heap.size) (hy:ys=xs++[⟨p,q,t⟩])
  (h:∀ v' w',ERow w' base v' ys->w.grownBy w' v.ownBlock->(v'.ownBlock=v.ownBlock∨v'.ownBlock=some w.heap.size)->wpList Tryz.prog ops Q rest (a.put o.dst v') w'):wpList Tryz.prog ops Q (o :: rest) a w:=by
 obtain ⟨i0,hi,hz0,hz1,hz2⟩:=info_parts info_e;refine wpList_append_own_at w hgd s x 48 ho base 50 i0 _ 3 24 Tryz.underlying48 hi hz0 hz1 hz2 rfl (by decide) v xs.length (flat3 xs) hs hown ⟨m,0,none⟩ 1 1 (flat3 [⟨p,q,t⟩]) hx rfl (three_cells hc) (flat3_one _) (by unfold maxLen;omega) (by omega) hbase ?_;intro v' w' h1 h2 _ h4;refine h v' w' ?_ h2 h4;rw [hy];show World.ownsRow _ _ _ _ _ (xs++[(⟨p,q,t⟩:En)]).length (flat3 (xs++[(⟨p,q,t⟩:En)]));rw [List.length_append,flat3_append];exact h1
end
end
section
open Go.Shelf
variable {X:Nat->Prop}
namespace Rn
def tallyL:List En->Nat->Int->Rn->Int × Rn
 | [],_,f,s=>(f,s)
 | e :: l,i,f,s=>
  if s.off=true then (f,s)
  else
   let c:=s.add (ad e.wd+3) 1
   let z:=c.2.read (ad e.wd+1)
   tallyL l (i+1) (if f < 0/\Pt.limZ z.1<=wrap64 (c.1+1) then (i:Int) else f) z.2
def tallyR (N:Nat) (s:Rn) (es:List En):Rn:=
 let p:=tallyL es 0 (-1) s
 if 0<=p.1/\p.2.off=false then
  (startR N p.2 (es.getD p.1.toNat ⟨0,0,0⟩).nd (es.getD p.1.toNat ⟨0,0,0⟩).sl (es.getD p.1.toNat ⟨0,0,0⟩).wd).2
 else p.2
theorem tallyL_off {l:List En} {i:Nat} {f:Int} {s:Rn} (h:s.off=true):tallyL l i f s=(f,s):=by
 cases l with
 | nil=>rfl
 | cons e l=>rw [tallyL,if_pos h]
theorem tallyL_go {e:En} {l:List En} {i:Nat} {f c z:Int} {s s1 s2:Rn} (h:s.off=false) (e1:s.add (ad e.wd+3) 1=(c,s1)) (e2:s1.read (ad e.wd+1)=(z,s2)):tallyL (e :: l) i f s=tallyL l (i+1) (if f < 0/\Pt.limZ z<=wrap64 (c+1) then (i:Int) else f) s2:=by
 rw [tallyL,if_neg (by rw [h];decide),e1];dsimp only;rw [e2]
end Rn
set_option maxRecDepth 100000 in
set_option maxHeartbeats 2000000 in
theorem tally_r (N:Nat) (W:World) (r:Nat) (s:Rn) (la:Option Addr) (L lc:Nat) (es:List En) (h:RunAt X W r s) (ho:s.ok) (hX:∀ k,W.heap.size<=k->X k) (hr:EReads W la es) (hwd:∀ e ∈ es,I64 e.wd) (hL:es.length=L) (hc:L<=lc) (hm:L<=1000000) (hb:∀ ad,la=some ad->ad.block≠r) (hN:s.left < N) (hl:s.left<=16384) (sE:Rn) (he:s.tallyR N es=sE) :
  Calls Tryz.prog 134 #[.pointer (some ⟨r,0,none⟩),.slice la L lc] W fun e W'=>e=.returned (.tuple #[])/\Went X W r s sE W':=by
 have H:=gh h;have HX:=gh hX;clear hX;have OK:=gh ho;have HR:=gh hr;have HWD:=gh hwd;have HL:=gh hL;have HB:=gh hb;have HN:=gh hN;have HLE:=gh hl;unfold Rn.tallyR at he;obtain ⟨fE,sB,hp⟩:∃ fE sB,Rn.tallyL es 0 (-1) s=(fE,sB):=⟨_,_,rfl⟩;rw [hp] at he;dsimp only at he;have HE:=gh he;have HP:=gh hp;clear h ho hr hwd hL hb hN hl he hp;go_enter Tryz.func134,Tryz.ntmps134;go_wp2_with (fail)
 go_loopw [4,5,6,7,8] (fun vf vi _ _ _ wr=>∃ (i:Nat) (f:Int) (t:Rn),vi=.int .i64 (i:Int)/\vf=.int .i64 f/\i<=L/\-1<=f/\f < i/\Went X W r s t wr/\Rn.tallyL (es.drop i) i f t=(fE,sB)) (fun _ vi _ _ _ _=>L - (intOf vi).toNat)
 case atStart=>exact ⟨0,-1,s,rfl,rfl,by omega,by omega,by omega,Went.refl H.o OK.o,by simpa using HP.o⟩
 case round=>
  obtain ⟨i,f,t,rfl,rfl,i1,f1,f2,hG,hk⟩:=hrel;have G:=gh hG;have HK:=gh hk;obtain ⟨ta,tc,wa,wc,RI⟩:=hG.at;obtain ⟨_,_,c2,_,_,ff⟩:=RI.cells;clear RI ff hk hG
  by_cases hi:i < L
  ·have q1:(i:Int) < (L:Int):=by omega
   have q2:i < lc:=by omega
   cases hof:t.off with
   | true=>
    rw [hof] at c2;have hz:=HK.o;rw [Rn.tallyL_off hof] at hz;obtain ⟨rfl,rfl⟩:=Prod.mk.inj hz;have HEND:=gh HE.o;clear hz HE;have hz:=HEND.o;rw [if_neg (by rw [hof];simp)] at hz;subst hz;clear hof
    by_cases f0:0<=f
    ·go_wp2
     go_end0
     exact ⟨rfl,G.o⟩
    ·have g0:decide (0<=f)=false:=by simp;omega
     go_wp2
     go_end0
     exact ⟨rfl,G.o⟩
   | false=>
    rw [hof] at c2;have hr2:=HR.o.turned G.o.turned (fun k _ ⟨ad,e,e'⟩ hk=>HB.o ad e (by rw [e',hk]));obtain ⟨en,hen⟩:∃ en,es[i]? = some en:=⟨_,List.getElem?_eq_getElem (by rw [HL.o];exact hi)⟩;obtain ⟨nd,sl,wd⟩:=en;have HDR:Hid (es.drop i=⟨nd,sl,wd⟩ :: es.drop (i+1)):=gh (by
     obtain ⟨hi',e⟩:=List.getElem?_eq_some_iff.1 hen;rw [List.drop_eq_getElem_cons hi',e])
    have IW:Hid (I64 wd):=gh (HWD.o _ (List.mem_of_getElem? hen));obtain ⟨bl,off,rfl,hbl,cn,cs,cw⟩:=hr2.at hen;have cw':wr.cell? ⟨bl,off+i * 3+2,none⟩=some (.int .i64 wd):=cw;obtain ⟨p,hp⟩:∃ p,ad wd=p:=⟨_,rfl⟩;have kr:=ad_range wd;rw [hp] at kr;obtain ⟨p0,p9⟩:=kr;obtain ⟨c,t1,h1⟩:∃ c t1,t.add (p+3) 1=(c,t1):=⟨_,_,rfl⟩;obtain ⟨z,t2,h2⟩:∃ z t2,t1.read (p+1)=(z,t2):=⟨_,_,rfl⟩;obtain ⟨lz,hlz⟩:∃ lz,Pt.limZ z=lz:=⟨_,rfl⟩;obtain ⟨cp,hcp⟩:∃ cp,wrap64 (c+1)=cp:=⟨_,rfl⟩;have hz:=HK.o;rw [HDR.o,Rn.tallyL_go (c:=c) (z:=z) (s1:=t1) (s2:=t2) hof (by rw [hp];exact h1) (by rw [hp];exact h2),hlz,hcp] at hz;have HK1:=gh hz;have HPP:=gh hp;have H1:=gh h1;have H2:=gh h2;have HLZ:=gh hlz;clear hof hz hr2 hen hp h1 h2 hlz HK hbl;go_wp2_with (fail);refine (ak_d _ wd p IW.o HPP.o).mono ?_;rintro e w' ⟨rfl,rfl⟩;go_wp2_with (fail);refine (add_r _ r t _ 1 G.o.at c t1 H1.o).mono ?_;rintro e W5 ⟨rfl,R5⟩;have G5:=gh (G.o.trans (R5.went_add G.o.ok H1.o));clear R5;go_wp2_with (fail);refine (read_r _ r t1 _ G5.o.at z t2 H2.o).mono ?_;rintro e W6 ⟨rfl,R6⟩;have G6:=gh (G5.o.trans (R6.went_read G5.o.ok H2.o));have IZ:=gh (G5.o.ok.read H2.o).1;clear R6
    by_cases f0:f < 0
    ·go_wp2_with (fail);refine (Pt.lim_r z (I64.wf IZ.o) _).mono ?_;rw [HLZ.o];rintro e w' ⟨rfl,rfl⟩
     by_cases hlc:lz<=cp
     ·have hz:=HK1.o;rw [if_pos ⟨f0,hlc⟩] at hz;have HK2:=gh hz;clear hz HK1;go_wp2;exact ⟨⟨i+1,(i:Int),t2,by simp,rfl,by omega,by omega,by omega,G6.o,HK2.o⟩,by simp [intOf];omega⟩
     ·have g1:decide (lz<=cp)=false:=by simp;omega
      have hz:=HK1.o;rw [if_neg (fun h=>hlc h.2)] at hz;have HK2:=gh hz;clear hz HK1;go_wp2;exact ⟨⟨i+1,f,t2,by simp,rfl,by omega,by omega,by omega,G6.o,HK2.o⟩,by simp [intOf];omega⟩
    ·have g1:decide (f < 0)=false:=by simp;omega
     have hz:=HK1.o;rw [if_neg (fun h=>f0 h.1)] at hz;have HK2:=gh hz;clear hz HK1;go_wp2;exact ⟨⟨i+1,f,t2,by simp,rfl,by omega,by omega,by omega,G6.o,HK2.o⟩,by simp [intOf];omega⟩
  ·have q1:¬ ((i:Int) < (L:Int)):=by omega
   have hz:=HK.o;rw [List.drop_eq_nil_of_le (by rw [HL.o];omega)] at hz;obtain ⟨rfl,rfl⟩:=Prod.mk.inj hz;have HEND:=gh HE.o;clear hz HE;cases hof:t.off with
   | true=>
    rw [hof] at c2;have hz:=HEND.o;rw [if_neg (by rw [hof];simp)] at hz;subst hz;clear hof
    by_cases f0:0<=f
    ·go_wp2
     go_end0
     exact ⟨rfl,G.o⟩
    ·have g0:decide (0<=f)=false:=by simp;omega
     go_wp2
     go_end0
     exact ⟨rfl,G.o⟩
   | false=>
    rw [hof] at c2
    by_cases f0:0<=f
    ·obtain ⟨k,rfl⟩:∃ k:Nat,f=(k:Int):=⟨f.toNat,by omega⟩;have kL:k < L:=by omega
     have kc:k < lc:=by omega
     have kLi:(k:Int) < (L:Int):=by omega
     obtain ⟨en,hen⟩:∃ en,es[k]? = some en:=⟨_,List.getElem?_eq_getElem (by rw [HL.o];exact kL)⟩;obtain ⟨nd,sl,wd⟩:=en;have hr2:=HR.o.turned G.o.turned (fun k _ ⟨ad,e,e'⟩ hk=>HB.o ad e (by rw [e',hk]));obtain ⟨bl,off,rfl,hbl,cn,cs,cw⟩:=hr2.at hen;have cs':wr.cell? ⟨bl,off+k * 3+1,none⟩=some (.int .i64 sl):=cs;have cw':wr.cell? ⟨bl,off+k * 3+2,none⟩=some (.int .i64 wd):=cw;have hz:=HEND.o;rw [if_pos ⟨f0,hof⟩,show ((k:Int)).toNat=k from Int.toNat_natCast k,List.getD_eq_getElem?_getD,hen] at hz;dsimp only [Option.getD] at hz;obtain ⟨bs,hst⟩:∃ bs,Rn.startR N t nd sl wd=(bs,sE):=⟨(Rn.startR N t nd sl wd).1,by rw [<- hz]⟩;have HST:=gh hst;clear hof hz hr2 hen hst HEND hbl;go_wp2_with (fail);refine (start_r N _ r t nd sl wd G.o.at G.o.ok (fun k h=>HX.o k (Nat.le_trans G.o.turned.size h)) (by have:=G.o.on.left;have:=HN.o;omega) (by have:=G.o.on.left;have:=HLE.o;omega) bs sE HST.o).mono ?_;rintro e W8 ⟨rfl,G8'⟩;have G8:=gh (G.o.trans G8');clear G8';go_wp2
     go_end0
     exact ⟨rfl,G8.o⟩
    ·have g0:decide (0<=f)=false:=by simp;omega
     have hz:=HEND.o;rw [if_neg (fun h=>f0 h.1)] at hz;subst hz;clear hof;go_wp2
     go_end0
     exact ⟨rfl,G.o⟩
end
section
open Go.Shelf
variable {X:Nat->Prop}
def Rn.freshR (s:Rn) (kind key value w q:Int) (leaf there:Bool):(Int × Bool) × Rn:=
 if kind=3 then s.recM 1 [0]
 else if (s.recM 2 [key,value]).1.2=false∨leaf=false∨there=true then s.recM 2 [key,value]
 else (s.recM 2 [key,value]).2.recM 3 (innerL 2 [max q key] (if key < q then [(s.recM 2 [key,value]).1.1,w] else [w,(s.recM 2 [key,value]).1.1]))
set_option maxRecDepth 100000 in
set_option maxHeartbeats 2000000 in
theorem fresh_r (W:World) (r:Nat) (s:Rn) (kind key value w q:Int) (leaf there:Bool) (h:RunAt X W r s) (ho:s.ok) (hX:∀ k,W.heap.size<=k->X k) (z:Int) (ok:Bool) (s':Rn) (he:s.freshR kind key value w q leaf there=((z,ok),s')) :
  Calls Tryz.prog 176 #[.pointer (some ⟨r,0,none⟩),.agg #[.int .i64 kind,.int .i64 key,.int .i64 value],.int .i64 w,.int .i64 q,.bool leaf,.bool there] W fun e W'=>e=.returned (.tuple #[.int .i64 z,.bool ok])/\Went X W r s s' W':=by
 obtain ⟨V,hV⟩:∃ V,W.alloc (.cells #[.int .i64 kind,.int .i64 key,.int .i64 value] 52)=V:=⟨_,rfl⟩;have kV:Kept W V:=by rw [<- hV];exact Td.alloc _ _ _
 obtain ⟨m,hm⟩:∃ m,W.heap.size=m:=⟨_,rfl⟩;have hb:V.heap[m]? = some (.cells #[.int .i64 kind,.int .i64 key,.int .i64 value] 52):=by rw [<- hV,<- hm];exact heap_new _ _
 have hrm:m≠r:=by have:=h.lt;omega
 have c0:V.cell? ⟨m,0,none⟩=some (.int .i64 kind):=by simp [World.cell?,hb]
 have c1:V.cell? ⟨m,1,none⟩=some (.int .i64 key):=by simp [World.cell?,hb]
 have c2:V.cell? ⟨m,2,none⟩=some (.int .i64 value):=by simp [World.cell?,hb]
 have HC1:=gh c1;have HRM:=gh hrm;have H:=gh (h.kept kV);have HX:Hid (∀ k,V.heap.size<=k->X k):=gh (fun k h=>hX k (Nat.le_trans kV.size h));clear hX;have KV:=gh kV;have OK:=gh ho;unfold Rn.freshR at he
 by_cases k3:kind=3
 ·subst k3;rw [if_pos rfl] at he;have E2:=gh he;clear h ho he hb kV hrm;go_enter Tryz.func176,Tryz.ntmps176;go_wp2_with (fail);clear hV c0 c1 c2;refine (emptyw_r V).mono ?_;intro e W1 hff;obtain ⟨a1,cap1,rfl,k1,far⟩:=hff.far;have K1:=gh k1;have FAR:=gh (far X r HX.o H.o.lt);clear hff k1 far;go_wp2_with (fail);obtain ⟨x2,ex,eo,hx2⟩:=recM_r X W1 r s 1 a1 [0] _ cap1 rfl (H.o.kept K1.o) FAR.o z ok s' E2.o;refine hx2.mono ?_;rintro e W3 ⟨rfl,d3⟩;have G3:Hid (Went X W r s s' W3):=gh ⟨Ran.behind (KV.o.trans K1.o) d3,recM_on' E2.o,(recM_on' E2.o).ok OK.o⟩;have EX:=gh ex;clear d3 hx2 ex eo;go_wp2_with (fail);refine (ofr_c 1 x2 z EX.o _).mono ?_;rintro e w4 ⟨rfl,rfl⟩;go_wp2
  go_ret2
  exact ⟨rfl,G3.o⟩
 ·rw [if_neg k3] at he;have g3:(kind == 3)=false:=by simp [k3]
  obtain ⟨y,oy,s2,hy⟩:∃ y oy s2,s.recM 2 [key,value]=((y,oy),s2):=⟨_,_,_,rfl⟩;rw [hy] at he;dsimp only at he;have HE:=gh he;have HY:=gh hy;clear h ho he hb kV hrm hy;go_enter Tryz.func176,Tryz.ntmps176;go_wp2_with (fail);clear hV c0 c1 c2;refine (leafw_r V key value).mono ?_;intro e W1 hff;obtain ⟨a1,cap1,rfl,k1,far⟩:=hff.far;have K1:=gh k1;have FAR:=gh (far X r HX.o H.o.lt);clear hff k1 far;go_wp2_with (fail);obtain ⟨x2,ex,eo,hx2⟩:=recM_r X W1 r s 2 a1 [key,value] _ cap1 rfl (H.o.kept K1.o) FAR.o y oy s2 HY.o;refine hx2.mono ?_;rintro e W2 ⟨rfl,d3⟩;have G2:Hid (Went X W r s s2 W2):=gh ⟨Ran.behind (KV.o.trans K1.o) d3,recM_on' HY.o,(recM_on' HY.o).ok OK.o⟩;have b2:W2.cell? ⟨m,1,none⟩=some (.int .i64 key):=d3.2.cell (K1.o.cell HC1.o id) HRM.o;have EX:=gh ex;have HS2:Hid (V.heap.size<=W2.heap.size):=gh (Nat.le_trans K1.o.size d3.2.size);clear d3 hx2 ex eo;go_wp2_with (fail);refine (ofr_c 2 x2 y EX.o _).mono ?_;rintro e w4 ⟨rfl,rfl⟩;cases oy with
  | false=>
   have hz:=HE.o;rw [if_pos (.inl rfl)] at hz;obtain ⟨hz1,rfl⟩:=Prod.mk.inj hz;obtain ⟨rfl,rfl⟩:=Prod.mk.inj hz1;clear hz hz1 HE;go_wp2
   go_ret2
   exact ⟨rfl,G2.o⟩
  | true=>
   cases leaf with
   | false=>
    have hz:=HE.o;rw [if_pos (.inr (.inl rfl))] at hz;obtain ⟨hz1,rfl⟩:=Prod.mk.inj hz;obtain ⟨rfl,rfl⟩:=Prod.mk.inj hz1;clear hz hz1 HE;go_wp2
    go_ret2
    exact ⟨rfl,G2.o⟩
   | true=>
    cases there with
    | true=>
     have hz:=HE.o;rw [if_pos (.inr (.inr rfl))] at hz;obtain ⟨hz1,rfl⟩:=Prod.mk.inj hz;obtain ⟨rfl,rfl⟩:=Prod.mk.inj hz1;clear hz hz1 HE;go_wp2
     go_ret2
     exact ⟨rfl,G2.o⟩
    | false=>
     obtain ⟨mx,hmx⟩:∃ mx,max q key=mx:=⟨_,rfl⟩;have hz:=HE.o;rw [if_neg (by simp),hmx] at hz
     by_cases hk:key < q
     ·rw [if_pos hk] at hz;obtain ⟨ws,hws⟩:∃ ws,innerL 2 [mx] [y,w]=ws:=⟨_,rfl⟩;rw [hws] at hz;have E3:=gh hz;clear hz HE;obtain ⟨A1,hA1⟩:∃ A1,W2.alloc (.cells #[.int .i64 w,.int .i64 y] 2)=A1:=⟨_,rfl⟩;obtain ⟨A2,hA2⟩:∃ A2,A1.alloc (.cells #[.int .i64 y,.int .i64 w] 2)=A2:=⟨_,rfl⟩;obtain ⟨A3,hA3⟩:∃ A3,A2.alloc (.cells #[.int .i64 mx] 2)=A3:=⟨_,rfl⟩;have kA1:Kept W2 A1:=by rw [<- hA1];exact Td.alloc _ _ _
      have kA2:Kept A1 A2:=by rw [<- hA2];exact Td.alloc _ _ _
      have kA3:Kept A2 A3:=by rw [<- hA3];exact Td.alloc _ _ _
      have KA:=gh ((kA1.trans kA2).trans kA3);have RC:Reads A3 (some ⟨A1.heap.size,0,none⟩) [y,w]:=Reads.kept (by rw [<- hA2];exact Reads.new A1 2 [y,w]) kA3;have RQ:Reads A3 (some ⟨A2.heap.size,0,none⟩) [mx]:=by rw [<- hA3];exact Reads.new A2 2 [mx]
      have CQ:=gh (inner_r A3 2 (some ⟨A2.heap.size,0,none⟩) [mx] 1 (some ⟨A1.heap.size,0,none⟩) [y,w] 2 RQ RC (fun e=>by cases e) (fun e=>by cases e) rfl (by simp));have b1:A1.cell? ⟨m,1,none⟩=some (.int .i64 key):=kA1.cell b2 id;have b3:A2.cell? ⟨m,1,none⟩=some (.int .i64 key):=kA2.cell b1 id;rw [hws] at CQ;clear RC RQ kA1 kA3 kA2;go_wp2_with (fail);refine CQ.o.mono ?_;intro e W3 hff;obtain ⟨a3,cap3,rfl,k3,far3⟩:=hff.far;have K3:=gh (KA.o.trans k3);have FAR3:=gh (far3 X r (fun k h=>HX.o k (by have:=KA.o.size;have:=HS2.o;omega)) (Nat.lt_of_lt_of_le G2.o.at.lt KA.o.size));clear hff k3 far3 CQ hws hA1 hA3 hA2;go_wp2_with (fail);obtain ⟨x4,ex4,eo4,hx4⟩:=recM_r X W3 r s2 3 a3 ws _ cap3 rfl (G2.o.at.kept K3.o) FAR3.o z ok s' E3.o;refine hx4.mono ?_;rintro e W4 ⟨rfl,d4⟩;have G4:Hid (Went X W r s s' W4):=gh (G2.o.trans ⟨Ran.behind K3.o d4,recM_on' E3.o,(recM_on' E3.o).ok G2.o.ok⟩);have EX4:=gh ex4;clear d4 hx4 ex4 eo4;go_wp2_with (fail);refine (ofr_c 3 x4 z EX4.o _).mono ?_;rintro e w4 ⟨rfl,rfl⟩;go_wp2
      go_ret2
      exact ⟨rfl,G4.o⟩
     ·rw [if_neg hk] at hz;have gk:decide (key < q)=false:=by simp;omega
      obtain ⟨ws,hws⟩:∃ ws,innerL 2 [mx] [w,y]=ws:=⟨_,rfl⟩;rw [hws] at hz;have E3:=gh hz;clear hz HE;obtain ⟨A1,hA1⟩:∃ A1,W2.alloc (.cells #[.int .i64 w,.int .i64 y] 2)=A1:=⟨_,rfl⟩;obtain ⟨A3,hA3⟩:∃ A3,A1.alloc (.cells #[.int .i64 mx] 2)=A3:=⟨_,rfl⟩;have kA1:Kept W2 A1:=by rw [<- hA1];exact Td.alloc _ _ _
      have kA3:Kept A1 A3:=by rw [<- hA3];exact Td.alloc _ _ _
      have KA:=gh (kA1.trans kA3);have RC:Reads A3 (some ⟨W2.heap.size,0,none⟩) [w,y]:=Reads.kept (by rw [<- hA1];exact Reads.new W2 2 [w,y]) kA3;have RQ:Reads A3 (some ⟨A1.heap.size,0,none⟩) [mx]:=by rw [<- hA3];exact Reads.new A1 2 [mx]
      have CQ:=gh (inner_r A3 2 (some ⟨A1.heap.size,0,none⟩) [mx] 1 (some ⟨W2.heap.size,0,none⟩) [w,y] 2 RQ RC (fun e=>by cases e) (fun e=>by cases e) rfl (by simp));have b1:A1.cell? ⟨m,1,none⟩=some (.int .i64 key):=kA1.cell b2 id;rw [hws] at CQ;clear RC RQ kA1 kA3;go_wp2_with (fail);refine CQ.o.mono ?_;intro e W3 hff;obtain ⟨a3,cap3,rfl,k3,far3⟩:=hff.far;have K3:=gh (KA.o.trans k3);have FAR3:=gh (far3 X r (fun k h=>HX.o k (by have:=KA.o.size;have:=HS2.o;omega)) (Nat.lt_of_lt_of_le G2.o.at.lt KA.o.size));clear hff k3 far3 CQ hws hA1 hA3;go_wp2_with (fail);obtain ⟨x4,ex4,eo4,hx4⟩:=recM_r X W3 r s2 3 a3 ws _ cap3 rfl (G2.o.at.kept K3.o) FAR3.o z ok s' E3.o;refine hx4.mono ?_;rintro e W4 ⟨rfl,d4⟩;have G4:Hid (Went X W r s s' W4):=gh (G2.o.trans ⟨Ran.behind K3.o d4,recM_on' E3.o,(recM_on' E3.o).ok G2.o.ok⟩);have EX4:=gh ex4;clear d4 hx4 ex4 eo4;go_wp2_with (fail);refine (ofr_c 3 x4 z EX4.o _).mono ?_;rintro e w4 ⟨rfl,rfl⟩;go_wp2
      go_ret2
      exact ⟨rfl,G4.o⟩
end
section
variable {X:Nat->Prop} {lo:Nat}
structure Wk where
 lo:Int
 hi:Int
 back:Bool
 most:Int
 vals:Bool
 ps:List (Int × Int)
 ss:List (Int × Int)
namespace Rn
def meetsW (s:Rn) (k:Wk) (a:Int):(Bool × Wk) × Rn:=
 if (s.read a).1 < k.lo∨k.hi < (s.read a).1 then ((false,k),(s.read a).2)
 else if k.vals=true then
  let v:=(s.read a).2.read (a+1)
  ((decide (0 < k.most/\k.most<=((k.ps.length+1:Nat):Int)),{ k with ps:=k.ps++[((s.read a).1,v.1)] }),v.2)
 else ((decide (0 < k.most/\k.most<=((k.ps.length+1:Nat):Int)),{ k with ps:=k.ps++[((s.read a).1,0)] }),(s.read a).2)
def belowW (T:Rn->Wk->Int->(Bool × Wk) × Rn) (s:Rn) (k:Wk) (w:Int):(Bool × Wk) × Rn:=
 if kd w=2 then s.meetsW k (ad w)
 else if kd w=3 then T s k (ad w)
 else if kd w=4 then T (s.read (ad w)).2 k (ad (s.read (ad w)).1)
 else ((false,k),s)
def thrL (T:Rn->Wk->Int->(Bool × Wk) × Rn) (n d:Int):Nat->Int->Wk->Rn->(Bool × Wk) × Rn
 | 0,_,k,t=>((true,k),t)
 | c+1,i,k,t=>
  if t.off=true then ((true,k),t)
  else
   let z:=t.peek (childZ n d i)
   if z.2.off=true then ((true,k),z.2)
   else
    let b:=belowW T z.2 { k with ss:=k.ss++[(childZ n d i,z.1)] } z.1
    if b.1.1=true then ((true,b.1.2),b.2)
    else if k.back=true then
     if i=0 then ((false,b.1.2),b.2)
     else
      let q:=b.2.read (keyZ n i)
      if q.1<=k.lo then ((false,b.1.2),q.2) else thrL T n d c (wrap64 (i - 1)) b.1.2 q.2
    else if wrap64 (i+1)=d then ((false,b.1.2),b.2)
    else
     let q:=b.2.read (keyZ n (wrap64 (i+1)))
     if k.hi < q.1 then ((false,b.1.2),q.2) else thrL T n d c (wrap64 (i+1)) b.1.2 q.2
def thrF:Nat->Rn->Wk->Int->(Bool × Wk) × Rn
 | 0=>fun s k _=>((true,k),s)
 | f+1=>fun s k n=>
  let o:=s.route n (if k.back=true then k.hi else k.lo)
  thrL (thrF f) n o.1.1 (o.2.left+1) o.1.2 k o.2
end Rn
def wkCells (k:Wk) (vp vs:Value):Array Value:=#[.int .i64 k.lo,.int .i64 k.hi,.bool k.back,.int .i64 k.most,.bool k.vals,vp,vs]
structure WalkIs (W:World) (lo x:Nat) (k:Wk) (vp vs:Value):Prop where
 box:W.heap[x]? = some (.cells (wkCells k vp vs) 47)
 le:lo<=x
 prow:PRow W lo 59 vp k.ps
 srow:PRow W lo 182 vs k.ss
def WalkAt (W:World) (lo x:Nat) (k:Wk):Prop:=∃ vp vs,WalkIs W lo x k vp vs
theorem WalkIs.cells {W:World} {x:Nat} {k:Wk} {vp vs:Value} (h:WalkIs W lo x k vp vs):W.cell? ⟨x,0,none⟩=some (.int .i64 k.lo)/\W.cell? ⟨x,1,none⟩=some (.int .i64 k.hi)/\W.cell? ⟨x,2,none⟩=some (.bool k.back)/\W.cell? ⟨x,3,none⟩=some (.int .i64 k.most)/\W.cell? ⟨x,4,none⟩=some (.bool k.vals)/\W.cell? ⟨x,5,none⟩=some vp/\W.cell? ⟨x,6,none⟩=some vs/\∀ i,W.frozen? ⟨x,i,none⟩=false:=by
 have hb:=h.box;simp [World.cell?,World.frozen?,hb,wkCells]
theorem PRow.turnedR {W W':World} {R:Nat->Prop} {E:TypeId} {v:Value} {xs:List (Int × Int)} (h:PRow W lo E v xs) (t:Td R W W') (hR:∀ k,R k->k < lo):PRow W' lo E v xs:=by
 refine h.turned t ?_;obtain ⟨a,cap,rfl,_,_,_,_,hb⟩:=h.reads;intro g e hg;cases a with
 | none=>simp [Value.ownBlock] at e
 | some ad=>
  have:=hb ad rfl
  have:=hR g hg
  simp [Value.ownBlock] at e;omega
theorem WalkIs.turned {W W':World} {R:Nat->Prop} {x:Nat} {k:Wk} {vp vs:Value} (h:WalkIs W lo x k vp vs) (t:Td R W W') (hR:∀ k,R k->k < lo):WalkIs W' lo x k vp vs:=
 ⟨t.heap h.box (fun e=>by have:=hR x e;have:=h.le;omega),h.le,h.prow.turnedR t hR,h.srow.turnedR t hR⟩
theorem WalkIs.kept {W W':World} {x:Nat} {k:Wk} {vp vs:Value} (h:WalkIs W lo x k vp vs) (t:Kept W W'):WalkIs W' lo x k vp vs:=h.turned t (fun _ e=>e.elim)
theorem WalkAt.turned {W W':World} {R:Nat->Prop} {x:Nat} {k:Wk} (h:WalkAt W lo x k) (t:Td R W W') (hR:∀ k,R k->k < lo):WalkAt W' lo x k:=by
 obtain ⟨vp,vs,h⟩:=h;exact ⟨vp,vs,h.turned t hR⟩
theorem PRow.typed {W:World} {E:TypeId} {v:Value} {xs:List (Int × Int)} (h:PRow W lo E v xs):∀ g,v.ownBlock=some g->∃ c,W.heap[g]? = some (.cells c E):=by
 intro g e;rcases h.2 with ⟨rfl,_⟩ | ⟨g',cap,cur,rfl,hg,hh,_⟩
 ·simp [Value.ownBlock] at e
 ·simp [Value.ownBlock] at e;subst e;exact ⟨_,hh⟩
theorem PRow.apart {W:World} {E E':TypeId} {v:Value} {xs:List (Int × Int)} (h:PRow W lo E v xs) {x:Nat} {c:Array Value} (hb:W.heap[x]? = some (.cells c E')) (ne:E≠E'):∀ g,v.ownBlock=some g->g≠x:=by
 intro g e hx;obtain ⟨c',h'⟩:=h.typed g e;rw [hx,hb] at h';simp at h';exact ne h'.2.symm
theorem PRow.apart2 {W:World} {E E':TypeId} {v v':Value} {xs ys:List (Int × Int)} (h:PRow W lo E v xs) (h':PRow W lo E' v' ys) (ne:E≠E'):∀ g,v.ownBlock=some g->v'.ownBlock≠some g:=by
 intro g e e';obtain ⟨c,hc⟩:=h'.typed g e';exact h.apart hc ne g e rfl
theorem PRow.from {W:World} {E:TypeId} {v:Value} {xs:List (Int × Int)} (h:PRow W lo E v xs):∀ g,v.ownBlock=some g->lo<=g:=by
 obtain ⟨a,cap,rfl,_,_,_,_,hb⟩:=h.reads;intro g e;cases a with
 | none=>simp [Value.ownBlock] at e
 | some ad=>
  have:=hb ad rfl
  simp [Value.ownBlock] at e;omega
theorem WalkIs.pair {W W1:World} {x:Nat} {k:Wk} {vp vs v':Value} (h:WalkIs W lo x k vp vs) (tmp:Obj) (ys:List (Int × Int)) (hg:(W.alloc tmp).grownBy W1 vp.ownBlock) (hr:PRow W1 lo 59 v' ys) :
  W1.heap[x]? = some (.cells (wkCells k vp vs) 47)/\WalkIs (W1.setCell ⟨x,5,none⟩ v') lo x { k with ps:=ys } v' vs/\Td (fun k=>lo<=k) W (W1.setCell ⟨x,5,none⟩ v'):=by
 have t0:Kept W (W.alloc tmp):=Td.alloc _ _ _;have h0:=h.kept t0;have t1:Td (fun k=>vp.ownBlock=some k) (W.alloc tmp) W1:=Td.of_grownBy hg (fun _ e=>e);have b1:W1.heap[x]? = some (.cells (wkCells k vp vs) 47):=t1.heap h0.box (fun e=>h0.prow.apart h0.box (by decide) x e rfl);have s1:PRow W1 lo 182 vs k.ss:=h0.srow.turned t1 (fun g e e'=>h0.srow.apart2 h0.prow (by decide) g e e');have t2:Td (fun j=>j=x) W1 (W1.setCell ⟨x,5,none⟩ v'):=Td.setCell _ _ _ rfl;refine ⟨b1,⟨?_,h.le,hr.turned t2 (fun g e e'=>hr.apart b1 (by decide) g e e'),s1.turned t2 (fun g e e'=>s1.apart b1 (by decide) g e e')⟩,?_⟩
 ·simp [World.setCell,Array.getElem?_modify,b1,wkCells]
 ·refine (t0.then (t1.trans (R'':=fun j=>lo<=j) t2 (fun g e=>h.prow.from g e) (fun g _ e=>?_)));subst e;exact h.le
theorem WalkIs.spot {W W1:World} {x:Nat} {k:Wk} {vp vs v':Value} (h:WalkIs W lo x k vp vs) (tmp:Obj) (ys:List (Int × Int)) (hg:(W.alloc tmp).grownBy W1 vs.ownBlock) (hr:PRow W1 lo 182 v' ys) :
  W1.heap[x]? = some (.cells (wkCells k vp vs) 47)/\WalkIs (W1.setCell ⟨x,6,none⟩ v') lo x { k with ss:=ys } vp v'/\Td (fun k=>lo<=k) W (W1.setCell ⟨x,6,none⟩ v'):=by
 have t0:Kept W (W.alloc tmp):=Td.alloc _ _ _;have h0:=h.kept t0;have t1:Td (fun k=>vs.ownBlock=some k) (W.alloc tmp) W1:=Td.of_grownBy hg (fun _ e=>e);have b1:W1.heap[x]? = some (.cells (wkCells k vp vs) 47):=t1.heap h0.box (fun e=>h0.srow.apart h0.box (by decide) x e rfl);have s1:PRow W1 lo 59 vp k.ps:=h0.prow.turned t1 (fun g e e'=>h0.prow.apart2 h0.srow (by decide) g e e');have t2:Td (fun j=>j=x) W1 (W1.setCell ⟨x,6,none⟩ v'):=Td.setCell _ _ _ rfl;refine ⟨b1,⟨?_,h.le,s1.turned t2 (fun g e e'=>s1.apart b1 (by decide) g e e'),hr.turned t2 (fun g e e'=>hr.apart b1 (by decide) g e e')⟩,?_⟩
 ·simp [World.setCell,Array.getElem?_modify,b1,wkCells]
 ·refine (t0.then (t1.trans (R'':=fun j=>lo<=j) t2 (fun g e=>h.srow.from g e) (fun g _ e=>?_)));subst e;exact h.le
end
section
open Go.Shelf
variable {X:Nat->Prop} {lo:Nat}
theorem Rn.meetsW_out {s s1:Rn} {k:Wk} {a q:Int} (e:s.read a=(q,s1)) (h:q < k.lo∨k.hi < q):s.meetsW k a=((false,k),s1):=by
 unfold meetsW;rw [e,if_pos h]
theorem Rn.meetsW_val {s s1 s2:Rn} {k:Wk} {a q v:Int} (e:s.read a=(q,s1)) (h:¬ (q < k.lo∨k.hi < q)) (hv:k.vals=true) (e2:s1.read (a+1)=(v,s2)):s.meetsW k a=((decide (0 < k.most/\k.most<=((k.ps.length+1:Nat):Int)),{ k with ps:=k.ps++[(q,v)] }),s2):=by
 unfold meetsW;rw [e,if_neg h,if_pos hv,e2]
theorem Rn.meetsW_key {s s1:Rn} {k:Wk} {a q:Int} (e:s.read a=(q,s1)) (h:¬ (q < k.lo∨k.hi < q)) (hv:k.vals=false):s.meetsW k a=((decide (0 < k.most/\k.most<=((k.ps.length+1:Nat):Int)),{ k with ps:=k.ps++[(q,0)] }),s1):=by
 unfold meetsW;rw [e,if_neg h,if_neg (by rw [hv];decide)]
theorem Gath.more {W W' W'':World} {r:Nat} {s s':Rn} (hX:∀ k,X k->k < lo) (h:Gath X lo W r s s' W') (t:Td (fun k=>lo<=k) W' W''):Gath X lo W r s s' W'':=
 ⟨h.lies.above t (fun k h1 h2=>by have:=hX k h1;omega),h.turned.trans t (fun _ e=>e) (fun _ _ e=>.inr e),h.on,h.ok⟩
structure Wlk (X:Nat->Prop) (lo x:Nat) (W:World) (r:Nat) (s s':Rn) (k k':Wk) (W':World):Prop where
 gath:Gath X lo W r s s' W'
 walk:WalkAt W' lo x k'
 plen:k'.ps.length+s'.left<=k.ps.length+s.left
 slen:k'.ss.length+s'.left<=k.ss.length+s.left
 same:(k'.lo=k.lo/\k'.hi=k.hi)/\k'.back=k.back/\k'.most=k.most/\k'.vals=k.vals
theorem Wlk.trans {x r:Nat} {W W' W'':World} {s s' s'':Rn} {k k' k'':Wk} (h:Wlk X lo x W r s s' k k' W') (h':Wlk X lo x W' r s' s'' k' k'' W''):Wlk X lo x W r s s'' k k'' W'':=
 ⟨h.gath.trans h'.gath,h'.walk,by have:=h.plen;have:=h'.plen;omega,by have:=h.slen;have:=h'.slen;omega,
 ⟨h'.same.1.1.trans h.same.1.1,h'.same.1.2.trans h.same.1.2⟩,h'.same.2.1.trans h.same.2.1,h'.same.2.2.1.trans h.same.2.2.1,h'.same.2.2.2.trans h.same.2.2.2⟩
theorem Went.wlk {x r:Nat} {W W':World} {s s':Rn} {k:Wk} (h:Went X W r s s' W') (hw:WalkAt W lo x k) (hr:r < lo):Wlk X lo x W r s s' k k W':=
 ⟨h.gath,hw.turned h.turned (fun j e=>by rw [e];exact hr),by have:=h.on.left;omega,by have:=h.on.left;omega,⟨rfl,rfl⟩,rfl,rfl,rfl⟩
set_option maxRecDepth 100000 in
set_option maxHeartbeats 2000000 in
theorem meets_r (hX:∀ k,X k->k < lo) (W:World) (r x:Nat) (s:Rn) (k:Wk) (a:Int) (a0:0<=a) (a1:a<=65536) (h:RunAt X W r s) (ho:s.ok) (hof:s.off=false) (hw:WalkAt W lo x k) (hlo:lo<=W.heap.size) (hp:k.ps.length+s.left<=1000000) (b:Bool) (k':Wk) (s':Rn) (he:s.meetsW k a=((b,k'),s')) :
  Calls Tryz.prog 170 #[.pointer (some ⟨x,0,none⟩),.pointer (some ⟨r,0,none⟩),.int .i64 a] W fun e W'=>e=.returned (.bool b)/\Wlk X lo x W r s s' k k' W':=by
 have HR0:=gh (h.rlo hX);obtain ⟨q,s1,hq⟩:∃ q s1,s.read a=(q,s1):=⟨_,_,rfl⟩;have HL1:Hid (s1.left < s.left):=gh (by have:=Rn.read_lt a hof;rw [hq] at this;exact this);have HQ:=gh hq;have HE:=gh he;have H:=gh h;have OK:=gh ho;have HW:=gh hw;have HP:=gh hp;have HLO:=gh hlo;clear hq he h ho hof hw hp hlo;go_enter Tryz.func170,Tryz.ntmps170;go_wp2_with (fail);refine (read_r _ r s a H.o q s1 HQ.o).mono ?_;rintro e W1 ⟨rfl,R1⟩;have G1:=gh (R1.went_read OK.o HQ.o);have HW1:=HW.o.turned R1.2 (fun k e=>by rw [e];exact HR0.o);clear R1;obtain ⟨vp,vs,WI⟩:=HW1;obtain ⟨c0,c1,c2,c3,c4,c5,c6,f⟩:=WI.cells;have f5:=f 5;have HWI:=gh WI;clear f WI c6 c2;have DONE:∀ (W':World) (s2:Rn),Went X W1 r s1 s2 W'->s2.left < s.left->WalkAt W' lo x k->((false,k),s2)=((b,k'),s')->b=false/\Wlk X lo x W r s s' k k' W':=by
  intro W' s2 hw hl hk e;cases e;exact ⟨rfl,G1.o.gath.trans hw.gath,hk,by omega,by omega,⟨rfl,rfl⟩,rfl,rfl,rfl⟩
 have HD:=gh DONE;clear DONE
 by_cases h1:q < k.lo
 ·have hz:=HE.o;rw [Rn.meetsW_out HQ.o (.inl h1)] at hz;have HZ:=gh hz;clear hz;go_wp2;go_ret;obtain ⟨rfl,h⟩:=HD.o _ s1 (Went.refl G1.o.at G1.o.ok) HL1.o ⟨_,_,HWI.o⟩ HZ.o;exact ⟨rfl,h⟩
 ·by_cases h2:k.hi < q
  ·have hz:=HE.o;rw [Rn.meetsW_out HQ.o (.inr h2)] at hz;have HZ:=gh hz;clear hz;have g1:decide (q < k.lo)=false:=by simp;omega
   go_wp2;go_ret;obtain ⟨rfl,h⟩:=HD.o _ s1 (Went.refl G1.o.at G1.o.ok) HL1.o ⟨_,_,HWI.o⟩ HZ.o;exact ⟨rfl,h⟩
  ·have g1:decide (q < k.lo)=false:=by simp;omega
   have g2:decide (k.hi < q)=false:=by simp;omega
   have NH:Hid (¬ (q < k.lo∨k.hi < q)):=gh (by omega);clear h1 h2 HD;cases hv:k.vals with
   | true=>
    rw [hv] at c4;obtain ⟨v,s2,hv2⟩:∃ v s2,s1.read (a+1)=(v,s2):=⟨_,_,rfl⟩;have hz:=HE.o;rw [Rn.meetsW_val HQ.o NH.o hv hv2] at hz;have HZ:=gh hz;have HV2:=gh hv2;clear hz hv hv2 HE;go_wp2_with (fail);refine (read_r _ r s1 (a+1) G1.o.at v s2 HV2.o).mono ?_;rintro e W2 ⟨rfl,R2⟩;have HL2:=gh (Rn.read_on HV2.o).left;have G2':=R2.went_read G1.o.ok HV2.o;have WI:=HWI.o.turned R2.2 (fun k e=>by rw [e];exact HR0.o);have G2:=gh (G1.o.trans G2');clear R2 G2' c0 c1 c3 c4 c5 f5;obtain ⟨c0,c1,c2,c3,c4,c5,c6,f⟩:=WI.cells;have f5:=f 5;have HWJ:=gh WI;obtain ⟨la,lc,hvp,_⟩:=WI.prow.reads;obtain ⟨M,hM⟩:∃ M,k.ps.length=M:=⟨_,rfl⟩;rw [hM] at hvp;have HM:=gh hM;subst hvp;clear f WI c6 c2 hM;go_wp2_with (at_builtin;refine Stop.out ?_);refine ⟨?_⟩;have HRA:=gh (HWJ.o.prow.kept (Kept.alloc (Kept.refl W2) (.cells #[.int .i64 q,.int .i64 v] 59)));have HNW:Hid ((W2.alloc (.cells #[.int .i64 q,.int .i64 v] 59)).heap[W2.heap.size]? = some (.cells #[.int .i64 q,.int .i64 v] 59)):=gh (heap_new _ _);refine wpList_append_pair ptP rfl _ _ rfl lo _ k.ps (k.ps++[(q,v)]) rfl HRA.o W2.heap.size q v rfl HNW.o (by have:=HP.o;omega) (by have:=G2.o.turned.size;have:=HLO.o;simp;omega) rfl ?_;intro v9 W9 hown hg hat;obtain ⟨b9,w9,t9⟩:=HWJ.o.pair _ _ hg hown;have HW9:=gh w9;have HT9:=gh t9;obtain ⟨la9,lc9,hv9,_⟩:=hown.reads;obtain ⟨N,hN⟩:∃ N,(k.ps++[(q,v)]).length=N:=⟨_,rfl⟩;rw [hN] at hv9;have HN:Hid (N=M+1):=gh (by rw [<- hN];have:=HM.o;simp;omega);have y5:W9.frozen? ⟨x,5,none⟩=false:=by simp [World.frozen?,b9]
    have x5:W9.cell? ⟨x,5,none⟩=some (.slice la M lc):=by simp [World.cell?,b9,wkCells]
    subst hv9;obtain ⟨d0,d1,d2,d3,d4,d5,d6,_⟩:=w9.cells;have HZ':=HZ.o;clear hown hg hat HRA HNW c0 c1 c3 c4 c5 f5 b9 w9 t9 hN d0 d1 d2 d4 d6;have FIN:∀ (W':World),Kept (W9.setCell ⟨x,5,none⟩ (.slice la9 N lc9)) W'->b=decide (0 < k.most/\k.most<=(N:Int))/\Wlk X lo x W r s s' k k' W':=by
     intro W' kk;have hz:=HZ.o;rw [show k.ps.length+1=N by have:=HM.o;have:=HN.o;omega] at hz;cases hz;refine ⟨rfl,(G2.o.gath.more hX HT9.o).more hX (kk.mono fun _ _ e=>e.elim),⟨_,_,HW9.o.kept kk⟩,?_,?_,⟨rfl,rfl⟩,rfl,rfl,rfl⟩
     ·have:=HL1.o;have:=HL2.o;simp at this ⊢;omega
     ·have:=HL1.o;have:=HL2.o;simp at this ⊢;omega
    have HF:=gh FIN;clear FIN HZ HZ'
    by_cases m0:0 < k.most
    ·by_cases m1:k.most<=(N:Int)
     ·have g4:decide (k.most<=(N:Int))=true:=by simp [m1]
      have e9:decide (0 < k.most/\k.most<=(N:Int))=true:=by simp [m0,m1]
      rw [e9] at HF;go_wp2;go_quiet (fail);go_wp2;go_ret;obtain ⟨rfl,h⟩:=HF.o _ (Kept.drewN _ _);exact ⟨rfl,h⟩
     ·have g4:decide (k.most<=(N:Int))=false:=by simp;omega
      have e9:decide (0 < k.most/\k.most<=(N:Int))=false:=by simp;omega
      rw [e9] at HF;go_wp2;go_quiet (fail);go_wp2;go_ret;obtain ⟨rfl,h⟩:=HF.o _ (Kept.drewN _ _);exact ⟨rfl,h⟩
    ·have g4:decide (0 < k.most)=false:=by simp;omega
     have e9:decide (0 < k.most/\k.most<=(N:Int))=false:=by simp;omega
     rw [e9] at HF;go_wp2;go_quiet (fail);go_wp2;go_ret;obtain ⟨rfl,h⟩:=HF.o _ (Kept.drewN _ _);exact ⟨rfl,h⟩
   | false=>
    rw [hv] at c4;have hz:=HE.o;rw [Rn.meetsW_key HQ.o NH.o hv] at hz;have HZ:=gh hz;clear hz hv HE;have HWJ:=HWI;obtain ⟨la,lc,hvp,_⟩:=HWI.o.prow.reads;obtain ⟨M,hM⟩:∃ M,k.ps.length=M:=⟨_,rfl⟩;rw [hM] at hvp;have HM:=gh hM;subst hvp;clear hM;go_wp2_with (at_builtin;refine Stop.out ?_);refine ⟨?_⟩;have HRA:=gh (HWJ.o.prow.kept (Kept.alloc (Kept.refl W1) (.cells #[.int .i64 q,.int .i64 0] 59)));have HNW:Hid ((W1.alloc (.cells #[.int .i64 q,.int .i64 0] 59)).heap[W1.heap.size]? = some (.cells #[.int .i64 q,.int .i64 0] 59)):=gh (heap_new _ _);refine wpList_append_pair ptP rfl _ _ rfl lo _ k.ps (k.ps++[(q,0)]) rfl HRA.o W1.heap.size q 0 rfl HNW.o (by have:=HP.o;omega) (by have:=G1.o.turned.size;have:=HLO.o;simp;omega) rfl ?_;intro v9 W9 hown hg hat;obtain ⟨b9,w9,t9⟩:=HWJ.o.pair _ _ hg hown;have HW9:=gh w9;have HT9:=gh t9;obtain ⟨la9,lc9,hv9,_⟩:=hown.reads;obtain ⟨N,hN⟩:∃ N,(k.ps++[(q,0)]).length=N:=⟨_,rfl⟩;rw [hN] at hv9;have HN:Hid (N=M+1):=gh (by rw [<- hN];have:=HM.o;simp;omega);have y5:W9.frozen? ⟨x,5,none⟩=false:=by simp [World.frozen?,b9]
    have x5:W9.cell? ⟨x,5,none⟩=some (.slice la M lc):=by simp [World.cell?,b9,wkCells]
    subst hv9;obtain ⟨d0,d1,d2,d3,d4,d5,d6,_⟩:=w9.cells;clear hown hg hat HRA HNW c0 c1 c3 c4 c5 f5 b9 w9 t9 hN d0 d1 d2 d4 d6;have FIN:∀ (W':World),Kept (W9.setCell ⟨x,5,none⟩ (.slice la9 N lc9)) W'->b=decide (0 < k.most/\k.most<=(N:Int))/\Wlk X lo x W r s s' k k' W':=by
     intro W' kk;have hz:=HZ.o;rw [show k.ps.length+1=N by have:=HM.o;have:=HN.o;omega] at hz;cases hz;refine ⟨rfl,(G1.o.gath.more hX HT9.o).more hX (kk.mono fun _ _ e=>e.elim),⟨_,_,HW9.o.kept kk⟩,?_,?_,⟨rfl,rfl⟩,rfl,rfl,rfl⟩
     ·have:=HL1.o;simp;omega
     ·have:=HL1.o;simp;omega
    have HF:=gh FIN;clear FIN HZ
    by_cases m0:0 < k.most
    ·by_cases m1:k.most<=(N:Int)
     ·have g4:decide (k.most<=(N:Int))=true:=by simp [m1]
      have e9:decide (0 < k.most/\k.most<=(N:Int))=true:=by simp [m0,m1]
      rw [e9] at HF;go_wp2;go_quiet (fail);go_wp2;go_ret;obtain ⟨rfl,h⟩:=HF.o _ (Kept.drewN _ _);exact ⟨rfl,h⟩
     ·have g4:decide (k.most<=(N:Int))=false:=by simp;omega
      have e9:decide (0 < k.most/\k.most<=(N:Int))=false:=by simp;omega
      rw [e9] at HF;go_wp2;go_quiet (fail);go_wp2;go_ret;obtain ⟨rfl,h⟩:=HF.o _ (Kept.drewN _ _);exact ⟨rfl,h⟩
    ·have g4:decide (0 < k.most)=false:=by simp;omega
     have e9:decide (0 < k.most/\k.most<=(N:Int))=false:=by simp;omega
     rw [e9] at HF;go_wp2;go_quiet (fail);go_wp2;go_ret;obtain ⟨rfl,h⟩:=HF.o _ (Kept.drewN _ _);exact ⟨rfl,h⟩
end
end Go.Proofs.YtoaicedkepcalaaGreat
