/-
  What the proof of YtnjkmmmfhponlaaGreatU2 goes by, part 7 of 11: contracts and plain facts; each part begins with its own sentence. No conditions beyond each theorem's own.
-/
import Derived.Test.YtnjkmmmfhponlaaGreatT6
namespace Go.Proofs.YtnjkmmmfhponlaaGreat
open Go.RowKit
section
open Go.Shelf
variable {X:Nat→Prop} {lo:Nat}
namespace Rn
def layB (N:Nat) (s:Rn) (kind key value n sl w q:Int) (res:Rs) (leaf found:Bool) (path:List En):(Rs × Bool) × Rn:=
 if s.off=true∨(kind=1∧found=true)∨(kind=3∧found=false) then ((res,true),s)
 else
  let x:=s.freshR kind key value w q leaf found
  if x.1.2=false then ((Rs.nomem,true),x.2)
  else
   let o:=({ x.2 with rc:=0 }:Rn).dcss (wrap64 (n+2)) sl w x.1.1
   let s1:Rn:=if 0 < o.2.rc then { o.2 with ld:=o.2.rc } else o.2
   if o.1=3 then ((Rs.nomem,true),s1)
   else ((res,decide (o.1=1)),if o.1=1∧(kind≠2∨found=false) then tallyR N s1 path else s1)
def layR (N:Nat) (s:Rn) (kind key value n sl w:Int) (path:List En):(Rs × Bool) × Rn:=
 if kd w=2 then
  let q:=s.read (ad w)
  if q.1=key then
   let v:=q.2.read (ad w+1)
   layB N v.2 kind key value n sl w q.1 ⟨0,true,q.1,v.1,0⟩ true true path
  else layB N q.2 kind key value n sl w q.1 Rs.none true false path
 else layB N s kind key value n sl w 0 Rs.none false false path
end Rn
theorem RunAt.notes {W:World} {r:Nat} {s:Rn} (h:RunAt X W r s):W.cell? ⟨r,8,none⟩=some (.int .i64 s.rc)∧W.cell? ⟨r,9,none⟩=some (.int .i64 s.ld)∧∀ i,W.frozen? ⟨r,i,none⟩=false:=by
 obtain ⟨ta,tc,wa,wc,h⟩:=h
 exact ⟨h.cells.2.2.2.1,h.cells.2.2.2.2.1,h.cells.2.2.2.2.2⟩
theorem RunAt.rc {W:World} {r:Nat} {s:Rn} (h:RunAt X W r s) (x:Int):Ran X W r { s with rc:=x } (W.setCell ⟨r,8,none⟩ (.int .i64 x)):=(Ran.refl h).record x
theorem RunAt.ld {W:World} {r:Nat} {s:Rn} (h:RunAt X W r s) (x:Int):Ran X W r { s with ld:=x } (W.setCell ⟨r,9,none⟩ (.int .i64 x)):=by
 obtain ⟨ta,tc,wa,wc,h1⟩:=h
 have t:Td (fun k=>k=r) W (W.setCell ⟨r,9,none⟩ (.int .i64 x)):=Td.setCell (R:=fun k=>k=r) _ _ _ rfl
 refine ⟨⟨ta,tc,wa,wc,h1.put t ?_ rfl h1.at_le (h1.next.turned t)⟩,t⟩
 have hb:=h1.box
 simp [World.setCell,Array.getElem?_modify,hb,runCells]
theorem Rn.rc_on (s:Rn) (x:Int):Rn.On s { s with rc:=x }:=⟨rfl,Nat.le_refl _⟩
theorem Rn.ld_on (s:Rn) (x:Int):Rn.On s { s with ld:=x }:=⟨rfl,Nat.le_refl _⟩
theorem Rn.freshR_on (s:Rn) (kind key value w q:Int) (leaf there:Bool):Rn.On s (s.freshR kind key value w q leaf there).2:=by
 unfold freshR
 split
 ·exact recM_on _ _ _
 ·split
  ·exact recM_on _ _ _
  ·exact (recM_on _ _ _).trans (recM_on _ _ _)
set_option maxRecDepth 100000 in
set_option maxHeartbeats 4000000 in
theorem lay_r (N:Nat) (W:World) (r:Nat) (s:Rn) (kind key value n sl w:Int) (la:Option Addr) (L lc:Nat) (es:List En) (h:RunAt X W r s) (ho:s.ok) (hX:∀ k,W.heap.size≤k→X k) (iw:I64 w) (hr:EReads W la es) (hwd:∀ e ∈ es,I64 e.wd) (hL:es.length=L) (hc:L≤lc) (hm:L≤1000000) (hb:∀ ad,la=some ad→ad.block≠r∧ad.block < W.heap.size) (hN:s.left < N) (hl:s.left≤16384) (x:Rs) (bE:Bool) (sE:Rn) (he:s.layR N kind key value n sl w es=((x,bE),sE)) :
  Calls Tryz.prog 211 #[.pointer (some ⟨r,0,none⟩),.agg #[.int .i64 kind,.int .i64 key,.int .i64 value],.int .i64 n,.int .i64 sl,.int .i64 w,.slice la L lc] W fun e W'=>e=.returned (.tuple #[.agg (x.cs (.slice none 0 0)),.bool bE])∧Went X W r s sE W':=by
 obtain ⟨V,hV⟩:∃ V,((W.alloc (.cells #[.int .i64 kind,.int .i64 key,.int .i64 value] 52)).alloc (.cells #[.int .i64 0,.bool false,.int .i64 0,.int .i64 0,.int .i64 0,.slice none 0 0] 61)).alloc (.cells #[.int .i64 0,.bool false,.int .i64 0,.int .i64 0,.int .i64 0,.slice none 0 0] 61)=V:=⟨_,rfl⟩
 obtain ⟨mo,hmo⟩:∃ m,W.heap.size=m:=⟨_,rfl⟩
 have k1:Kept W V:=by rw [← hV];exact ((Kept.alloc (Kept.refl W) _).alloc _).alloc _
 have b0:V.heap[mo]? = some (.cells #[.int .i64 kind,.int .i64 key,.int .i64 value] 52):=by
  rw [← hV,← hmo]
  exact ((Td.alloc (fun _=>False) (W.alloc _) _).trans (Td.alloc (fun _=>False) _ _) (fun _ e=>e) (fun _ _ e=>e)).heap (heap_new _ _) id
 have b1:V.heap[mo+1]? = some (.cells #[.int .i64 0,.bool false,.int .i64 0,.int .i64 0,.int .i64 0,.slice none 0 0] 61):=by
  rw [← hV,← hmo]
  exact (Td.alloc (fun _=>False) _ _).heap (heap_alloc2_new _ _ _) id
 have b2:V.heap[mo+2]? = some (.cells #[.int .i64 0,.bool false,.int .i64 0,.int .i64 0,.int .i64 0,.slice none 0 0] 61):=by
  rw [← hV,← hmo]
  have:=heap_alloc2_new (W.alloc (.cells #[.int .i64 kind,.int .i64 key,.int .i64 value] 52)) (.cells #[.int .i64 0,.bool false,.int .i64 0,.int .i64 0,.int .i64 0,.slice none 0 0] 61) (.cells #[.int .i64 0,.bool false,.int .i64 0,.int .i64 0,.int .i64 0,.slice none 0 0] 61)
  simpa using this
 have s2:V.heap.size=mo+3:=by rw [← hV,← hmo];simp
 have hlt:=h.lt
 have HV:=gh hV
 have KV:=gh k1
 have HRM:Hid (r < mo∧W.heap.size=mo∧V.heap.size=mo+3):=gh ⟨by omega,hmo,s2⟩
 have B0:=gh b0
 have B1:=gh b1
 have B2:=gh b2
 obtain ⟨Y,hYd⟩:∃ Y:Nat→Prop,Y=fun k=>X k∧k≠mo+1∧k≠mo+2:=⟨_,rfl⟩
 have HYX:Hid (∀ k,Y k→X k):=gh (by rw [hYd];exact fun k h=>h.1)
 have HYM:Hid (¬ Y (mo+1)∧¬ Y (mo+2)):=gh (by rw [hYd];exact ⟨fun h=>h.2.1 rfl,fun h=>h.2.2 rfl⟩)
 have H:Hid (RunAt Y V r s):=gh ((h.to (Y:=Y) (by rw [hYd];exact fun k a b=>⟨a,by omega,by omega⟩)).kept k1)
 have HY:Hid (∀ k,V.heap.size≤k→Y k):=gh (by rw [hYd];exact fun k h=>⟨hX k (by omega),by omega,by omega⟩)
 have OK:=gh ho
 have IW:=gh iw
 have HR:=gh (hr.kept k1)
 have HWD:=gh hwd
 have HLL:=gh hL
 have HB:Hid (∀ ad,la=some ad→ad.block≠r∧ad.block < mo):=gh (by rw [← hmo];exact hb)
 have HN:=gh hN
 have HL:=gh hl
 have KEEP:∀ U:World,Td (fun k=>k=r) V U→U.heap[mo]? = some (.cells #[.int .i64 kind,.int .i64 key,.int .i64 value] 52)∧U.heap[mo+1]? = some (.cells #[.int .i64 0,.bool false,.int .i64 0,.int .i64 0,.int .i64 0,.slice none 0 0] 61)∧U.heap[mo+2]? = some (.cells #[.int .i64 0,.bool false,.int .i64 0,.int .i64 0,.int .i64 0,.slice none 0 0] 61):=fun U t=>
  ⟨t.heap B0.out (fun e=>by have:=HRM.out;omega),t.heap B1.out (fun e=>by have:=HRM.out;omega),t.heap B2.out (fun e=>by have:=HRM.out;omega)⟩
 have HKEEP:=gh KEEP
 have FIN:∀ (U U':World) (t:Rn),Went Y W r s t U→Td (fun k=>k=mo+1) U U'→Went X W r s t U':=by
  intro U U' t hm ht
  exact (hm.other ht HYM.out.1 (by have:=HRM.out;omega)).to HYX.out
 have HFIN:=gh FIN
 clear h ho hX iw hr hwd hL hb hN hl k1 b0 b1 b2 s2 hlt hYd KEEP FIN hV
 unfold Rn.layR at he
 have HE:=gh he
 obtain ⟨kk,hkk⟩:∃ kk,kd w=kk:=⟨_,rfl⟩
 obtain ⟨p,hpp⟩:∃ p,ad w=p:=⟨_,rfl⟩
 have kr:=ad_range w
 rw [hpp] at kr
 obtain ⟨p0,p1⟩:=kr
 have HK:=gh hkk
 have HPP:=gh hpp
 clear he hkk hpp
 go_enter Tryz.func211,Tryz.ntmps211
 go_wp2_with (fail)
 rw [HV.out]
 refine (kk_d _ w kk IW.out HK.out).mono ?_
 rintro e w' ⟨rfl,rfl⟩
 by_cases k2:kk=2
 ·subst k2
  have hz:=HE.out
  rw [if_pos HK.out,HPP.out] at hz
  obtain ⟨q,s1,hq⟩:∃ q s1,s.read p=(q,s1):=⟨_,_,rfl⟩
  rw [hq] at hz
  dsimp only at hz
  have HZ0:=gh hz
  have HQ:=gh hq
  clear hz hq HE
  go_wp2_with (fail)
  refine (ak_d _ w p IW.out HPP.out).mono ?_
  rintro e w' ⟨rfl,rfl⟩
  go_wp2_with (fail)
  refine (read_r _ r s p H.out q s1 HQ.out).mono ?_
  rintro e U ⟨rfl,R1⟩
  have T1:=gh R1.2
  have G1:=gh ((R1.went_read OK.out HQ.out).behind KV.out)
  clear R1
  have o1:U.cell? ⟨mo,1,none⟩=some (.int .i64 key):=by simp [World.cell?,(HKEEP.out U T1.out).1]
  by_cases qk:q=key
  ·obtain ⟨v,s2,hv⟩:∃ v s2,s1.read (p+1)=(v,s2):=⟨_,_,rfl⟩
   have hz:=HZ0.out
   rw [if_pos qk,hv] at hz
   dsimp only at hz
   have HLB:=gh hz
   have HVV:=gh hv
   have g1:(q == key)=true:=by simp [qk]
   have HQK:=gh qk
   clear hz hv HZ0 qk
   go_wp2_with (fail)
   refine (ak_d _ w p IW.out HPP.out).mono ?_
   rintro e w' ⟨rfl,rfl⟩
   go_wp2_with (fail)
   refine (read_r _ r s1 (p+1) G1.out.at v s2 HVV.out).mono ?_
   rintro e U' ⟨rfl,R2⟩
   have G2':=gh (G1.out.trans (R2.went_read G1.out.ok HVV.out))
   have T2:=gh (T1.out.trans R2.2 (fun _ e=>e) (fun _ _ e=>e))
   clear R2 o1
   obtain ⟨u0,u1,u2⟩:=HKEEP.out U' T2.out
   obtain ⟨d0,d1,d2,d3,d4,d5,df⟩:=cells6 u2
   have f0:=df 0
   have f1:=df 1
   have f2:=df 2
   have f3:=df 3
   have f4:=df 4
   have f5:=df 5
   obtain ⟨UB,hUB⟩:∃ UB,((((((U'.setCell ⟨mo+2,0,none⟩ (.int .i64 0)).setCell ⟨mo+2,1,none⟩ (.bool true)).setCell ⟨mo+2,2,none⟩ (.int .i64 q)).setCell ⟨mo+2,3,none⟩ (.int .i64 v)).setCell ⟨mo+2,4,none⟩ (.int .i64 0)).setCell ⟨mo+2,5,none⟩ (.slice none 0 0))=UB:=⟨_,rfl⟩
   obtain ⟨q1,q2⟩:=put6 u2 (.int .i64 0) (.bool true) (.int .i64 q) (.int .i64 v) (.int .i64 0) (.slice none 0 0)
   rw [hUB] at q1 q2
   have q0:UB.heap[mo]? = some (.cells #[.int .i64 kind,.int .i64 key,.int .i64 value] 52):=q2.heap u0 (fun e=>by omega)
   have q3:UB.heap[mo+1]? = some (.cells #[.int .i64 0,.bool false,.int .i64 0,.int .i64 0,.int .i64 0,.slice none 0 0] 61):=q2.heap u1 (fun e=>by omega)
   have G2:Hid (Went Y W r s s2 UB):=gh (G2'.out.other q2 HYM.out.2 (by have:=HRM.out;omega))
   have HKP:Hid (∀ U'':World,Td (fun k=>k=r) UB U''→U''.heap[mo]? = some (.cells #[.int .i64 kind,.int .i64 key,.int .i64 value] 52)∧U''.heap[mo+1]? = some (.cells #[.int .i64 0,.bool false,.int .i64 0,.int .i64 0,.int .i64 0,.slice none 0 0] 61)∧U''.heap[mo+2]? = some (.cells #[.int .i64 0,.bool true,.int .i64 q,.int .i64 v,.int .i64 0,.slice none 0 0] 61)):=gh (fun U'' t=>⟨t.heap q0 (fun e=>by have:=HRM.out;omega),t.heap q3 (fun e=>by have:=HRM.out;omega),t.heap q1 (fun e=>by have:=HRM.out;omega)⟩)
   have HYU:Hid (∀ k,UB.heap.size≤k→Y k):=gh (fun k h=>HY.out k (Nat.le_trans T2.out.size (Nat.le_trans q2.size h)))
   have HRU:Hid (EReads UB la es):=gh ((HR.out.turned T2.out (fun k _ ⟨ad,e,e'⟩ hk=>(HB.out ad e).1 (by rw [e',hk]))).turned q2 (fun k _ ⟨ad,e,e'⟩ hk=>by have:=(HB.out ad e).2;omega))
   clear u0 u1 u2 q0 q1 q2 q3 df
   skip
   have cf:=G2.out.at.offs
   obtain ⟨u0,u1,u2⟩:=HKP.out UB (Td.refl _ _)
   have U2:=gh u1
   obtain ⟨d0,d1,d2,d3,d4,d5,df⟩:=cells6 u1
   have f0:=df 0
   have f1:=df 1
   have f2:=df 2
   have f3:=df 3
   have f4:=df 4
   have f5:=df 5
   obtain ⟨e0,e1,e2,e3,e4,e5,_⟩:=cells6 u2
   have o0:UB.cell? ⟨mo,0,none⟩=some (.int .i64 kind):=by simp [World.cell?,u0]
   have o1:UB.cell? ⟨mo,1,none⟩=some (.int .i64 key):=by simp [World.cell?,u0]
   have o2:UB.cell? ⟨mo,2,none⟩=some (.int .i64 value):=by simp [World.cell?,u0]
   clear u0 u1 u2 df
   cases hof:s2.off with
   | true=>
    rw [hof] at cf
    have hz:=HLB.out
    unfold Rn.layB at hz
    rw [if_pos (.inl hof)] at hz
    obtain ⟨hz1,rfl⟩:=Prod.mk.inj hz
    obtain ⟨rfl,rfl⟩:=Prod.mk.inj hz1
    clear hz hz1 HLB hof
    go_wp2
    refine bodyPost_ret (rcb rfl _ _ (mo+1) 61 _ _ _ rfl (put6 U2.out _ _ _ _ _ _).1 Tryz.underlying61 rfl info61) rfl ?_
    exact ⟨rfl,HFIN.out UB _ s2 G2.out (put6 U2.out _ _ _ _ _ _).2⟩
   | false=>
    rw [hof] at cf
    by_cases kE:kind=1
    ·have hz:=HLB.out
     unfold Rn.layB at hz
     rw [if_pos (.inr (.inl ⟨kE,rfl⟩))] at hz
     obtain ⟨hz1,rfl⟩:=Prod.mk.inj hz
     obtain ⟨rfl,rfl⟩:=Prod.mk.inj hz1
     clear hz hz1 HLB hof
     subst kE
     go_wp2
     refine bodyPost_ret (rcb rfl _ _ (mo+1) 61 _ _ _ rfl (put6 U2.out _ _ _ _ _ _).1 Tryz.underlying61 rfl info61) rfl ?_
     exact ⟨rfl,HFIN.out UB _ s2 G2.out (put6 U2.out _ _ _ _ _ _).2⟩
    ·have hz:=HLB.out
     unfold Rn.layB at hz
     rw [if_neg (by rw [hof];simp [kE])] at hz
     obtain ⟨y,ok,t1,hfr⟩:∃ y ok t1,s2.freshR kind key value w q true true=((y,ok),t1):=⟨_,_,_,rfl⟩
     rw [hfr] at hz
     dsimp only at hz
     have HZ:=gh hz
     have HFR:=gh hfr
     have ON1:Hid (Rn.On s2 t1):=gh (by have:=Rn.freshR_on s2 kind key value w q true true;rw [HFR.out] at this;exact this)
     have gE:(kind == 1)=false:=by simp [kE]
     have HKE:=gh kE
     clear hz hfr HLB hof kE
     by_cases kO:kind=3
     ·have kOT:(kind == 3)=true:=by simp [kO]
      clear kO
      go_wp2_with (fail)
      refine (fresh_r UB r s2 kind key value w q true true G2.out.at G2.out.ok HYU.out y ok t1 HFR.out).mono ?_
      rintro e U3 ⟨rfl,GF⟩
      have G3:=gh (G2.out.trans GF)
      have T3:=gh GF.turned
      clear GF d0 d1 d2 d3 d4 d5 f0 f1 f2 f3 f4 f5 e0 e1 e2 e3 e4 e5 o0 o1 o2 U2
      cases ok with
      | false=>
       have hz:=HZ.out
       rw [if_pos rfl] at hz
       obtain ⟨hz1,rfl⟩:=Prod.mk.inj hz
       obtain ⟨rfl,rfl⟩:=Prod.mk.inj hz1
       clear hz hz1 HZ
       go_wp2_with (fail)
       refine (nomem_r U3).mono ?_
       rintro e U4 ⟨rfl,K4⟩
       have G4:=gh (⟨⟨G3.out.at.kept K4,Kept.behind G3.out.turned K4⟩,G3.out.on,G3.out.ok⟩:Went Y W r s t1 U4)
       obtain ⟨u0,u1,u2⟩:=HKP.out U4 (Kept.behind T3.out K4)
       have U2:=gh u1
       obtain ⟨d0,d1,d2,d3,d4,d5,df⟩:=cells6 u1
       have f0:=df 0
       have f1:=df 1
       have f2:=df 2
       have f3:=df 3
       have f4:=df 4
       have f5:=df 5
       obtain ⟨e0,e1,e2,e3,e4,e5,_⟩:=cells6 u2
       have o0:U4.cell? ⟨mo,0,none⟩=some (.int .i64 kind):=by simp [World.cell?,u0]
       have o1:U4.cell? ⟨mo,1,none⟩=some (.int .i64 key):=by simp [World.cell?,u0]
       have o2:U4.cell? ⟨mo,2,none⟩=some (.int .i64 value):=by simp [World.cell?,u0]
       clear u0 u1 u2 df
       clear K4
       unfold Rs.nomem Rs.cs
       go_wp2
       refine bodyPost_ret (rcb rfl _ _ (mo+1) 61 _ _ _ rfl (put6 U2.out _ _ _ _ _ _).1 Tryz.underlying61 rfl info61) rfl ?_
       exact ⟨rfl,HFIN.out U4 _ t1 G4.out (put6 U2.out _ _ _ _ _ _).2⟩
      | true=>
       have hz:=HZ.out
       rw [if_neg (by decide)] at hz
       have HZ1:=gh hz
       clear hz HZ
       obtain ⟨_,_,rf⟩:=G3.out.at.notes
       have r8:=rf 8
       obtain ⟨c8,_,_⟩:=G3.out.at.notes
       obtain ⟨zd,t3,hzd⟩:∃ zd t3,({ t1 with rc:=0 }:Rn).dcss (wrap64 (n+2)) sl w y=(zd,t3):=⟨_,_,rfl⟩
       have HZD:=gh hzd
       have hz:=HZ1.out
       rw [hzd] at hz
       dsimp only at hz
       have HZ2:=gh hz
       have R4:=G3.out.at.rc 0
       have G4:Hid (Went Y W r s { t1 with rc:=0 } (U3.setCell ⟨r,8,none⟩ (.int .i64 0))):=gh (G3.out.trans ⟨R4,Rn.rc_on _ _,G3.out.ok⟩)
       have T4:Hid (Td (fun k=>k=r) UB (U3.setCell ⟨r,8,none⟩ (.int .i64 0))):=gh (T3.out.trans R4.2 (fun _ e=>e) (fun _ _ e=>e))
       clear rf hz hzd HZ1 R4
       go_wp2_with (fail)
       refine (dcss_r _ r _ _ sl w y G4.out.at (fun k h=>HYU.out k (Nat.le_trans T4.out.size h)) zd t3 HZD.out).mono ?_
       rintro e U5 ⟨rfl,R5⟩
       have G5:=gh (G4.out.trans (R5.moved_dcss G4.out.ok HZD.out))
       have T5:=gh (T4.out.trans R5.2 (fun _ e=>e) (fun _ _ e=>e))
       obtain ⟨n8,n9,nf⟩:=G5.out.at.notes
       have nf9:=nf 9
       clear R5 nf c8 r8
       have HZ3:=HZ2
       clear HZ2
       by_cases rc0:0 < t3.rc
       ·have hz:=HZ3.out
        rw [if_pos rc0] at hz
        obtain ⟨t4,ht4⟩:∃ t4,({ t3 with ld:=t3.rc }:Rn)=t4:=⟨_,rfl⟩
        rw [ht4] at hz
        have HZ4:=gh hz
        have R6:=G5.out.at.ld t3.rc
        obtain ⟨U6,hU6⟩:∃ U6,U5.setCell ⟨r,9,none⟩ (.int .i64 t3.rc)=U6:=⟨_,rfl⟩
        rw [hU6,ht4] at R6
        have G6:Hid (Went Y W r s t4 U6):=gh (G5.out.trans ⟨R6,by rw [← ht4];exact Rn.ld_on _ _,by rw [← ht4];exact G5.out.ok⟩)
        have T6:Hid (Td (fun k=>k=r) UB U6):=gh (T5.out.trans R6.2 (fun _ e=>e) (fun _ _ e=>e))
        clear hz HZ3 R6 ht4
        by_cases z3:zd=3
        ·have hz:=HZ4.out
         rw [if_pos z3] at hz
         obtain ⟨hz1,rfl⟩:=Prod.mk.inj hz
         obtain ⟨rfl,rfl⟩:=Prod.mk.inj hz1
         clear hz hz1 HZ4
         subst z3
         go_wp2_with (fail)
         refine (nomem_r U6).mono ?_
         rintro e U7 ⟨rfl,K7⟩
         have G7:=gh (⟨⟨G6.out.at.kept K7,Kept.behind G6.out.turned K7⟩,G6.out.on,G6.out.ok⟩:Went Y W r s t4 U7)
         obtain ⟨u0,u1,u2⟩:=HKP.out U7 (Kept.behind T6.out K7)
         have U2:=gh u1
         obtain ⟨d0,d1,d2,d3,d4,d5,df⟩:=cells6 u1
         have f0:=df 0
         have f1:=df 1
         have f2:=df 2
         have f3:=df 3
         have f4:=df 4
         have f5:=df 5
         obtain ⟨e0,e1,e2,e3,e4,e5,_⟩:=cells6 u2
         have o0:U7.cell? ⟨mo,0,none⟩=some (.int .i64 kind):=by simp [World.cell?,u0]
         have o1:U7.cell? ⟨mo,1,none⟩=some (.int .i64 key):=by simp [World.cell?,u0]
         have o2:U7.cell? ⟨mo,2,none⟩=some (.int .i64 value):=by simp [World.cell?,u0]
         clear u0 u1 u2 df
         clear K7
         unfold Rs.nomem Rs.cs
         go_wp2
         refine bodyPost_ret (rcb rfl _ _ (mo+1) 61 _ _ _ rfl (put6 U2.out _ _ _ _ _ _).1 Tryz.underlying61 rfl info61) rfl ?_
         exact ⟨rfl,HFIN.out U7 _ t4 G7.out (put6 U2.out _ _ _ _ _ _).2⟩
        ·have hz:=HZ4.out
         rw [if_neg z3] at hz
         have g3:(zd == 3)=false:=by simp [z3]
         by_cases z1:zd=1
         ·subst z1
          rw [show decide ((1:Int)=1)=true from rfl] at hz
          by_cases k2:kind=2
          ·rw [if_neg (by simp [k2])] at hz
           obtain ⟨hz1,hz2⟩:=Prod.mk.inj hz
           obtain ⟨rfl,rfl⟩:=Prod.mk.inj hz1
           have HZ5:=gh hz2
           clear hz hz1 hz2 HZ4
           have k2F:(kind != 2)=false:=by simp [k2]
           clear k2
           obtain ⟨u0,u1,u2⟩:=HKP.out U6 T6.out
           have U2:=gh u1
           obtain ⟨d0,d1,d2,d3,d4,d5,df⟩:=cells6 u1
           have f0:=df 0
           have f1:=df 1
           have f2:=df 2
           have f3:=df 3
           have f4:=df 4
           have f5:=df 5
           obtain ⟨e0,e1,e2,e3,e4,e5,_⟩:=cells6 u2
           have o0:U6.cell? ⟨mo,0,none⟩=some (.int .i64 kind):=by simp [World.cell?,u0]
           have o1:U6.cell? ⟨mo,1,none⟩=some (.int .i64 key):=by simp [World.cell?,u0]
           have o2:U6.cell? ⟨mo,2,none⟩=some (.int .i64 value):=by simp [World.cell?,u0]
           clear u0 u1 u2 df
           have e9:=HZ5.out
           subst e9
           go_wp2
           refine bodyPost_ret (rcb rfl _ _ (mo+1) 61 _ _ _ rfl (put6 U2.out _ _ _ _ _ _).1 Tryz.underlying61 rfl info61) rfl ?_
           exact ⟨rfl,HFIN.out U6 _ t4 G6.out (put6 U2.out _ _ _ _ _ _).2⟩
          ·rw [if_pos (by exact ⟨rfl,.inl k2⟩)] at hz
           obtain ⟨hz1,hz2⟩:=Prod.mk.inj hz
           obtain ⟨rfl,rfl⟩:=Prod.mk.inj hz1
           have HZ5:=gh hz2
           clear hz hz1 hz2 HZ4
           have k2F:(kind != 2)=true:=by simp [k2]
           clear k2
           obtain ⟨u0,u1,u2⟩:=HKP.out U6 T6.out
           have U2:=gh u1
           obtain ⟨d0,d1,d2,d3,d4,d5,df⟩:=cells6 u1
           have f0:=df 0
           have f1:=df 1
           have f2:=df 2
           have f3:=df 3
           have f4:=df 4
           have f5:=df 5
           obtain ⟨e0,e1,e2,e3,e4,e5,_⟩:=cells6 u2
           have o0:U6.cell? ⟨mo,0,none⟩=some (.int .i64 kind):=by simp [World.cell?,u0]
           have o1:U6.cell? ⟨mo,1,none⟩=some (.int .i64 key):=by simp [World.cell?,u0]
           have o2:U6.cell? ⟨mo,2,none⟩=some (.int .i64 value):=by simp [World.cell?,u0]
           clear u0 u1 u2 df
           go_wp2_with (fail)
           refine (tally_r N _ r t4 la L lc es G6.out.at G6.out.ok (fun k h=>HYU.out k (Nat.le_trans T6.out.size h)) (HRU.out.turned T6.out (fun k _ ⟨ad,e,e'⟩ hk=>(HB.out ad e).1 (by rw [e',hk]))) HWD.out HLL.out hc hm (fun ad e=>(HB.out ad e).1) (by have:=G6.out.on.left;have:=HN.out;omega) (by have:=G6.out.on.left;have:=HL.out;omega) sE HZ5.out).mono ?_
           rintro e U8 ⟨rfl,GT⟩
           have G8:=gh (G6.out.trans GT)
           have T8:=gh (T6.out.trans GT.turned (fun _ e=>e) (fun _ _ e=>e))
           clear GT d0 d1 d2 d3 d4 d5 f0 f1 f2 f3 f4 f5 e0 e1 e2 e3 e4 e5 o0 o1 o2 U2
           obtain ⟨u0,u1,u2⟩:=HKP.out U8 T8.out
           have U2:=gh u1
           obtain ⟨d0,d1,d2,d3,d4,d5,df⟩:=cells6 u1
           have f0:=df 0
           have f1:=df 1
           have f2:=df 2
           have f3:=df 3
           have f4:=df 4
           have f5:=df 5
           obtain ⟨e0,e1,e2,e3,e4,e5,_⟩:=cells6 u2
           have o0:U8.cell? ⟨mo,0,none⟩=some (.int .i64 kind):=by simp [World.cell?,u0]
           have o1:U8.cell? ⟨mo,1,none⟩=some (.int .i64 key):=by simp [World.cell?,u0]
           have o2:U8.cell? ⟨mo,2,none⟩=some (.int .i64 value):=by simp [World.cell?,u0]
           clear u0 u1 u2 df
           go_wp2
           refine bodyPost_ret (rcb rfl _ _ (mo+1) 61 _ _ _ rfl (put6 U2.out _ _ _ _ _ _).1 Tryz.underlying61 rfl info61) rfl ?_
           exact ⟨rfl,HFIN.out U8 _ sE G8.out (put6 U2.out _ _ _ _ _ _).2⟩
         ·have g1:(zd == 1)=false:=by simp [z1]
          rw [show decide (zd=1)=false by simp [z1],if_neg (by rintro ⟨h,_⟩;exact z1 h)] at hz
          obtain ⟨hz1,rfl⟩:=Prod.mk.inj hz
          obtain ⟨rfl,rfl⟩:=Prod.mk.inj hz1
          clear hz hz1 HZ4 z1 z3
          obtain ⟨u0,u1,u2⟩:=HKP.out U6 T6.out
          have U2:=gh u1
          obtain ⟨d0,d1,d2,d3,d4,d5,df⟩:=cells6 u1
          have f0:=df 0
          have f1:=df 1
          have f2:=df 2
          have f3:=df 3
          have f4:=df 4
          have f5:=df 5
          obtain ⟨e0,e1,e2,e3,e4,e5,_⟩:=cells6 u2
          have o0:U6.cell? ⟨mo,0,none⟩=some (.int .i64 kind):=by simp [World.cell?,u0]
          have o1:U6.cell? ⟨mo,1,none⟩=some (.int .i64 key):=by simp [World.cell?,u0]
          have o2:U6.cell? ⟨mo,2,none⟩=some (.int .i64 value):=by simp [World.cell?,u0]
          clear u0 u1 u2 df
          go_wp2
          refine bodyPost_ret (rcb rfl _ _ (mo+1) 61 _ _ _ rfl (put6 U2.out _ _ _ _ _ _).1 Tryz.underlying61 rfl info61) rfl ?_
          exact ⟨rfl,HFIN.out U6 _ t4 G6.out (put6 U2.out _ _ _ _ _ _).2⟩
       ·have hz:=HZ3.out
        rw [if_neg rc0] at hz
        have HZ4:=gh hz
        have gr:decide (0 < t3.rc)=false:=by simp;omega
        have G6:=G5
        have T6:=T5
        clear hz HZ3 rc0
        by_cases z3:zd=3
        ·have hz:=HZ4.out
         rw [if_pos z3] at hz
         obtain ⟨hz1,rfl⟩:=Prod.mk.inj hz
         obtain ⟨rfl,rfl⟩:=Prod.mk.inj hz1
         clear hz hz1 HZ4
         subst z3
         go_wp2_with (fail)
         refine (nomem_r U5).mono ?_
         rintro e U7 ⟨rfl,K7⟩
         have G7:=gh (⟨⟨G6.out.at.kept K7,Kept.behind G6.out.turned K7⟩,G6.out.on,G6.out.ok⟩:Went Y W r s t3 U7)
         obtain ⟨u0,u1,u2⟩:=HKP.out U7 (Kept.behind T6.out K7)
         have U2:=gh u1
         obtain ⟨d0,d1,d2,d3,d4,d5,df⟩:=cells6 u1
         have f0:=df 0
         have f1:=df 1
         have f2:=df 2
         have f3:=df 3
         have f4:=df 4
         have f5:=df 5
         obtain ⟨e0,e1,e2,e3,e4,e5,_⟩:=cells6 u2
         have o0:U7.cell? ⟨mo,0,none⟩=some (.int .i64 kind):=by simp [World.cell?,u0]
         have o1:U7.cell? ⟨mo,1,none⟩=some (.int .i64 key):=by simp [World.cell?,u0]
         have o2:U7.cell? ⟨mo,2,none⟩=some (.int .i64 value):=by simp [World.cell?,u0]
         clear u0 u1 u2 df
         clear K7
         unfold Rs.nomem Rs.cs
         go_wp2
         refine bodyPost_ret (rcb rfl _ _ (mo+1) 61 _ _ _ rfl (put6 U2.out _ _ _ _ _ _).1 Tryz.underlying61 rfl info61) rfl ?_
         exact ⟨rfl,HFIN.out U7 _ t3 G7.out (put6 U2.out _ _ _ _ _ _).2⟩
        ·have hz:=HZ4.out
         rw [if_neg z3] at hz
         have g3:(zd == 3)=false:=by simp [z3]
         by_cases z1:zd=1
         ·subst z1
          rw [show decide ((1:Int)=1)=true from rfl] at hz
          by_cases k2:kind=2
          ·rw [if_neg (by simp [k2])] at hz
           obtain ⟨hz1,hz2⟩:=Prod.mk.inj hz
           obtain ⟨rfl,rfl⟩:=Prod.mk.inj hz1
           have HZ5:=gh hz2
           clear hz hz1 hz2 HZ4
           have k2F:(kind != 2)=false:=by simp [k2]
           clear k2
           obtain ⟨u0,u1,u2⟩:=HKP.out U5 T6.out
           have U2:=gh u1
           obtain ⟨d0,d1,d2,d3,d4,d5,df⟩:=cells6 u1
           have f0:=df 0
           have f1:=df 1
           have f2:=df 2
           have f3:=df 3
           have f4:=df 4
           have f5:=df 5
           obtain ⟨e0,e1,e2,e3,e4,e5,_⟩:=cells6 u2
           have o0:U5.cell? ⟨mo,0,none⟩=some (.int .i64 kind):=by simp [World.cell?,u0]
           have o1:U5.cell? ⟨mo,1,none⟩=some (.int .i64 key):=by simp [World.cell?,u0]
           have o2:U5.cell? ⟨mo,2,none⟩=some (.int .i64 value):=by simp [World.cell?,u0]
           clear u0 u1 u2 df
           have e9:=HZ5.out
           subst e9
           go_wp2
           refine bodyPost_ret (rcb rfl _ _ (mo+1) 61 _ _ _ rfl (put6 U2.out _ _ _ _ _ _).1 Tryz.underlying61 rfl info61) rfl ?_
           exact ⟨rfl,HFIN.out U5 _ t3 G6.out (put6 U2.out _ _ _ _ _ _).2⟩
          ·rw [if_pos (by exact ⟨rfl,.inl k2⟩)] at hz
           obtain ⟨hz1,hz2⟩:=Prod.mk.inj hz
           obtain ⟨rfl,rfl⟩:=Prod.mk.inj hz1
           have HZ5:=gh hz2
           clear hz hz1 hz2 HZ4
           have k2F:(kind != 2)=true:=by simp [k2]
           clear k2
           obtain ⟨u0,u1,u2⟩:=HKP.out U5 T6.out
           have U2:=gh u1
           obtain ⟨d0,d1,d2,d3,d4,d5,df⟩:=cells6 u1
           have f0:=df 0
           have f1:=df 1
           have f2:=df 2
           have f3:=df 3
           have f4:=df 4
           have f5:=df 5
           obtain ⟨e0,e1,e2,e3,e4,e5,_⟩:=cells6 u2
           have o0:U5.cell? ⟨mo,0,none⟩=some (.int .i64 kind):=by simp [World.cell?,u0]
           have o1:U5.cell? ⟨mo,1,none⟩=some (.int .i64 key):=by simp [World.cell?,u0]
           have o2:U5.cell? ⟨mo,2,none⟩=some (.int .i64 value):=by simp [World.cell?,u0]
           clear u0 u1 u2 df
           go_wp2_with (fail)
           refine (tally_r N _ r t3 la L lc es G6.out.at G6.out.ok (fun k h=>HYU.out k (Nat.le_trans T6.out.size h)) (HRU.out.turned T6.out (fun k _ ⟨ad,e,e'⟩ hk=>(HB.out ad e).1 (by rw [e',hk]))) HWD.out HLL.out hc hm (fun ad e=>(HB.out ad e).1) (by have:=G6.out.on.left;have:=HN.out;omega) (by have:=G6.out.on.left;have:=HL.out;omega) sE HZ5.out).mono ?_
           rintro e U8 ⟨rfl,GT⟩
           have G8:=gh (G6.out.trans GT)
           have T8:=gh (T6.out.trans GT.turned (fun _ e=>e) (fun _ _ e=>e))
           clear GT d0 d1 d2 d3 d4 d5 f0 f1 f2 f3 f4 f5 e0 e1 e2 e3 e4 e5 o0 o1 o2 U2
           obtain ⟨u0,u1,u2⟩:=HKP.out U8 T8.out
           have U2:=gh u1
           obtain ⟨d0,d1,d2,d3,d4,d5,df⟩:=cells6 u1
           have f0:=df 0
           have f1:=df 1
           have f2:=df 2
           have f3:=df 3
           have f4:=df 4
           have f5:=df 5
           obtain ⟨e0,e1,e2,e3,e4,e5,_⟩:=cells6 u2
           have o0:U8.cell? ⟨mo,0,none⟩=some (.int .i64 kind):=by simp [World.cell?,u0]
           have o1:U8.cell? ⟨mo,1,none⟩=some (.int .i64 key):=by simp [World.cell?,u0]
           have o2:U8.cell? ⟨mo,2,none⟩=some (.int .i64 value):=by simp [World.cell?,u0]
           clear u0 u1 u2 df
           go_wp2
           refine bodyPost_ret (rcb rfl _ _ (mo+1) 61 _ _ _ rfl (put6 U2.out _ _ _ _ _ _).1 Tryz.underlying61 rfl info61) rfl ?_
           exact ⟨rfl,HFIN.out U8 _ sE G8.out (put6 U2.out _ _ _ _ _ _).2⟩
         ·have g1:(zd == 1)=false:=by simp [z1]
          rw [show decide (zd=1)=false by simp [z1],if_neg (by rintro ⟨h,_⟩;exact z1 h)] at hz
          obtain ⟨hz1,rfl⟩:=Prod.mk.inj hz
          obtain ⟨rfl,rfl⟩:=Prod.mk.inj hz1
          clear hz hz1 HZ4 z1 z3
          obtain ⟨u0,u1,u2⟩:=HKP.out U5 T6.out
          have U2:=gh u1
          obtain ⟨d0,d1,d2,d3,d4,d5,df⟩:=cells6 u1
          have f0:=df 0
          have f1:=df 1
          have f2:=df 2
          have f3:=df 3
          have f4:=df 4
          have f5:=df 5
          obtain ⟨e0,e1,e2,e3,e4,e5,_⟩:=cells6 u2
          have o0:U5.cell? ⟨mo,0,none⟩=some (.int .i64 kind):=by simp [World.cell?,u0]
          have o1:U5.cell? ⟨mo,1,none⟩=some (.int .i64 key):=by simp [World.cell?,u0]
          have o2:U5.cell? ⟨mo,2,none⟩=some (.int .i64 value):=by simp [World.cell?,u0]
          clear u0 u1 u2 df
          go_wp2
          refine bodyPost_ret (rcb rfl _ _ (mo+1) 61 _ _ _ rfl (put6 U2.out _ _ _ _ _ _).1 Tryz.underlying61 rfl info61) rfl ?_
          exact ⟨rfl,HFIN.out U5 _ t3 G6.out (put6 U2.out _ _ _ _ _ _).2⟩
     ·have kOF:(kind == 3)=false:=by simp [kO]
      clear kO
      go_wp2_with (fail)
      refine (fresh_r UB r s2 kind key value w q true true G2.out.at G2.out.ok HYU.out y ok t1 HFR.out).mono ?_
      rintro e U3 ⟨rfl,GF⟩
      have G3:=gh (G2.out.trans GF)
      have T3:=gh GF.turned
      clear GF d0 d1 d2 d3 d4 d5 f0 f1 f2 f3 f4 f5 e0 e1 e2 e3 e4 e5 o0 o1 o2 U2
      cases ok with
      | false=>
       have hz:=HZ.out
       rw [if_pos rfl] at hz
       obtain ⟨hz1,rfl⟩:=Prod.mk.inj hz
       obtain ⟨rfl,rfl⟩:=Prod.mk.inj hz1
       clear hz hz1 HZ
       go_wp2_with (fail)
       refine (nomem_r U3).mono ?_
       rintro e U4 ⟨rfl,K4⟩
       have G4:=gh (⟨⟨G3.out.at.kept K4,Kept.behind G3.out.turned K4⟩,G3.out.on,G3.out.ok⟩:Went Y W r s t1 U4)
       obtain ⟨u0,u1,u2⟩:=HKP.out U4 (Kept.behind T3.out K4)
       have U2:=gh u1
       obtain ⟨d0,d1,d2,d3,d4,d5,df⟩:=cells6 u1
       have f0:=df 0
       have f1:=df 1
       have f2:=df 2
       have f3:=df 3
       have f4:=df 4
       have f5:=df 5
       obtain ⟨e0,e1,e2,e3,e4,e5,_⟩:=cells6 u2
       have o0:U4.cell? ⟨mo,0,none⟩=some (.int .i64 kind):=by simp [World.cell?,u0]
       have o1:U4.cell? ⟨mo,1,none⟩=some (.int .i64 key):=by simp [World.cell?,u0]
       have o2:U4.cell? ⟨mo,2,none⟩=some (.int .i64 value):=by simp [World.cell?,u0]
       clear u0 u1 u2 df
       clear K4
       unfold Rs.nomem Rs.cs
       go_wp2
       refine bodyPost_ret (rcb rfl _ _ (mo+1) 61 _ _ _ rfl (put6 U2.out _ _ _ _ _ _).1 Tryz.underlying61 rfl info61) rfl ?_
       exact ⟨rfl,HFIN.out U4 _ t1 G4.out (put6 U2.out _ _ _ _ _ _).2⟩
      | true=>
       have hz:=HZ.out
       rw [if_neg (by decide)] at hz
       have HZ1:=gh hz
       clear hz HZ
       obtain ⟨_,_,rf⟩:=G3.out.at.notes
       have r8:=rf 8
       obtain ⟨c8,_,_⟩:=G3.out.at.notes
       obtain ⟨zd,t3,hzd⟩:∃ zd t3,({ t1 with rc:=0 }:Rn).dcss (wrap64 (n+2)) sl w y=(zd,t3):=⟨_,_,rfl⟩
       have HZD:=gh hzd
       have hz:=HZ1.out
       rw [hzd] at hz
       dsimp only at hz
       have HZ2:=gh hz
       have R4:=G3.out.at.rc 0
       have G4:Hid (Went Y W r s { t1 with rc:=0 } (U3.setCell ⟨r,8,none⟩ (.int .i64 0))):=gh (G3.out.trans ⟨R4,Rn.rc_on _ _,G3.out.ok⟩)
       have T4:Hid (Td (fun k=>k=r) UB (U3.setCell ⟨r,8,none⟩ (.int .i64 0))):=gh (T3.out.trans R4.2 (fun _ e=>e) (fun _ _ e=>e))
       clear rf hz hzd HZ1 R4
       go_wp2_with (fail)
       refine (dcss_r _ r _ _ sl w y G4.out.at (fun k h=>HYU.out k (Nat.le_trans T4.out.size h)) zd t3 HZD.out).mono ?_
       rintro e U5 ⟨rfl,R5⟩
       have G5:=gh (G4.out.trans (R5.moved_dcss G4.out.ok HZD.out))
       have T5:=gh (T4.out.trans R5.2 (fun _ e=>e) (fun _ _ e=>e))
       obtain ⟨n8,n9,nf⟩:=G5.out.at.notes
       have nf9:=nf 9
       clear R5 nf c8 r8
       have HZ3:=HZ2
       clear HZ2
       by_cases rc0:0 < t3.rc
       ·have hz:=HZ3.out
        rw [if_pos rc0] at hz
        obtain ⟨t4,ht4⟩:∃ t4,({ t3 with ld:=t3.rc }:Rn)=t4:=⟨_,rfl⟩
        rw [ht4] at hz
        have HZ4:=gh hz
        have R6:=G5.out.at.ld t3.rc
        obtain ⟨U6,hU6⟩:∃ U6,U5.setCell ⟨r,9,none⟩ (.int .i64 t3.rc)=U6:=⟨_,rfl⟩
        rw [hU6,ht4] at R6
        have G6:Hid (Went Y W r s t4 U6):=gh (G5.out.trans ⟨R6,by rw [← ht4];exact Rn.ld_on _ _,by rw [← ht4];exact G5.out.ok⟩)
        have T6:Hid (Td (fun k=>k=r) UB U6):=gh (T5.out.trans R6.2 (fun _ e=>e) (fun _ _ e=>e))
        clear hz HZ3 R6 ht4
        by_cases z3:zd=3
        ·have hz:=HZ4.out
         rw [if_pos z3] at hz
         obtain ⟨hz1,rfl⟩:=Prod.mk.inj hz
         obtain ⟨rfl,rfl⟩:=Prod.mk.inj hz1
         clear hz hz1 HZ4
         subst z3
         go_wp2_with (fail)
         refine (nomem_r U6).mono ?_
         rintro e U7 ⟨rfl,K7⟩
         have G7:=gh (⟨⟨G6.out.at.kept K7,Kept.behind G6.out.turned K7⟩,G6.out.on,G6.out.ok⟩:Went Y W r s t4 U7)
         obtain ⟨u0,u1,u2⟩:=HKP.out U7 (Kept.behind T6.out K7)
         have U2:=gh u1
         obtain ⟨d0,d1,d2,d3,d4,d5,df⟩:=cells6 u1
         have f0:=df 0
         have f1:=df 1
         have f2:=df 2
         have f3:=df 3
         have f4:=df 4
         have f5:=df 5
         obtain ⟨e0,e1,e2,e3,e4,e5,_⟩:=cells6 u2
         have o0:U7.cell? ⟨mo,0,none⟩=some (.int .i64 kind):=by simp [World.cell?,u0]
         have o1:U7.cell? ⟨mo,1,none⟩=some (.int .i64 key):=by simp [World.cell?,u0]
         have o2:U7.cell? ⟨mo,2,none⟩=some (.int .i64 value):=by simp [World.cell?,u0]
         clear u0 u1 u2 df
         clear K7
         unfold Rs.nomem Rs.cs
         go_wp2
         refine bodyPost_ret (rcb rfl _ _ (mo+1) 61 _ _ _ rfl (put6 U2.out _ _ _ _ _ _).1 Tryz.underlying61 rfl info61) rfl ?_
         exact ⟨rfl,HFIN.out U7 _ t4 G7.out (put6 U2.out _ _ _ _ _ _).2⟩
        ·have hz:=HZ4.out
         rw [if_neg z3] at hz
         have g3:(zd == 3)=false:=by simp [z3]
         by_cases z1:zd=1
         ·subst z1
          rw [show decide ((1:Int)=1)=true from rfl] at hz
          by_cases k2:kind=2
          ·rw [if_neg (by simp [k2])] at hz
           obtain ⟨hz1,hz2⟩:=Prod.mk.inj hz
           obtain ⟨rfl,rfl⟩:=Prod.mk.inj hz1
           have HZ5:=gh hz2
           clear hz hz1 hz2 HZ4
           have k2F:(kind != 2)=false:=by simp [k2]
           clear k2
           obtain ⟨u0,u1,u2⟩:=HKP.out U6 T6.out
           have U2:=gh u1
           obtain ⟨d0,d1,d2,d3,d4,d5,df⟩:=cells6 u1
           have f0:=df 0
           have f1:=df 1
           have f2:=df 2
           have f3:=df 3
           have f4:=df 4
           have f5:=df 5
           obtain ⟨e0,e1,e2,e3,e4,e5,_⟩:=cells6 u2
           have o0:U6.cell? ⟨mo,0,none⟩=some (.int .i64 kind):=by simp [World.cell?,u0]
           have o1:U6.cell? ⟨mo,1,none⟩=some (.int .i64 key):=by simp [World.cell?,u0]
           have o2:U6.cell? ⟨mo,2,none⟩=some (.int .i64 value):=by simp [World.cell?,u0]
           clear u0 u1 u2 df
           have e9:=HZ5.out
           subst e9
           go_wp2
           refine bodyPost_ret (rcb rfl _ _ (mo+1) 61 _ _ _ rfl (put6 U2.out _ _ _ _ _ _).1 Tryz.underlying61 rfl info61) rfl ?_
           exact ⟨rfl,HFIN.out U6 _ t4 G6.out (put6 U2.out _ _ _ _ _ _).2⟩
          ·rw [if_pos (by exact ⟨rfl,.inl k2⟩)] at hz
           obtain ⟨hz1,hz2⟩:=Prod.mk.inj hz
           obtain ⟨rfl,rfl⟩:=Prod.mk.inj hz1
           have HZ5:=gh hz2
           clear hz hz1 hz2 HZ4
           have k2F:(kind != 2)=true:=by simp [k2]
           clear k2
           obtain ⟨u0,u1,u2⟩:=HKP.out U6 T6.out
           have U2:=gh u1
           obtain ⟨d0,d1,d2,d3,d4,d5,df⟩:=cells6 u1
           have f0:=df 0
           have f1:=df 1
           have f2:=df 2
           have f3:=df 3
           have f4:=df 4
           have f5:=df 5
           obtain ⟨e0,e1,e2,e3,e4,e5,_⟩:=cells6 u2
           have o0:U6.cell? ⟨mo,0,none⟩=some (.int .i64 kind):=by simp [World.cell?,u0]
           have o1:U6.cell? ⟨mo,1,none⟩=some (.int .i64 key):=by simp [World.cell?,u0]
           have o2:U6.cell? ⟨mo,2,none⟩=some (.int .i64 value):=by simp [World.cell?,u0]
           clear u0 u1 u2 df
           go_wp2_with (fail)
           refine (tally_r N _ r t4 la L lc es G6.out.at G6.out.ok (fun k h=>HYU.out k (Nat.le_trans T6.out.size h)) (HRU.out.turned T6.out (fun k _ ⟨ad,e,e'⟩ hk=>(HB.out ad e).1 (by rw [e',hk]))) HWD.out HLL.out hc hm (fun ad e=>(HB.out ad e).1) (by have:=G6.out.on.left;have:=HN.out;omega) (by have:=G6.out.on.left;have:=HL.out;omega) sE HZ5.out).mono ?_
           rintro e U8 ⟨rfl,GT⟩
           have G8:=gh (G6.out.trans GT)
           have T8:=gh (T6.out.trans GT.turned (fun _ e=>e) (fun _ _ e=>e))
           clear GT d0 d1 d2 d3 d4 d5 f0 f1 f2 f3 f4 f5 e0 e1 e2 e3 e4 e5 o0 o1 o2 U2
           obtain ⟨u0,u1,u2⟩:=HKP.out U8 T8.out
           have U2:=gh u1
           obtain ⟨d0,d1,d2,d3,d4,d5,df⟩:=cells6 u1
           have f0:=df 0
           have f1:=df 1
           have f2:=df 2
           have f3:=df 3
           have f4:=df 4
           have f5:=df 5
           obtain ⟨e0,e1,e2,e3,e4,e5,_⟩:=cells6 u2
           have o0:U8.cell? ⟨mo,0,none⟩=some (.int .i64 kind):=by simp [World.cell?,u0]
           have o1:U8.cell? ⟨mo,1,none⟩=some (.int .i64 key):=by simp [World.cell?,u0]
           have o2:U8.cell? ⟨mo,2,none⟩=some (.int .i64 value):=by simp [World.cell?,u0]
           clear u0 u1 u2 df
           go_wp2
           refine bodyPost_ret (rcb rfl _ _ (mo+1) 61 _ _ _ rfl (put6 U2.out _ _ _ _ _ _).1 Tryz.underlying61 rfl info61) rfl ?_
           exact ⟨rfl,HFIN.out U8 _ sE G8.out (put6 U2.out _ _ _ _ _ _).2⟩
         ·have g1:(zd == 1)=false:=by simp [z1]
          rw [show decide (zd=1)=false by simp [z1],if_neg (by rintro ⟨h,_⟩;exact z1 h)] at hz
          obtain ⟨hz1,rfl⟩:=Prod.mk.inj hz
          obtain ⟨rfl,rfl⟩:=Prod.mk.inj hz1
          clear hz hz1 HZ4 z1 z3
          obtain ⟨u0,u1,u2⟩:=HKP.out U6 T6.out
          have U2:=gh u1
          obtain ⟨d0,d1,d2,d3,d4,d5,df⟩:=cells6 u1
          have f0:=df 0
          have f1:=df 1
          have f2:=df 2
          have f3:=df 3
          have f4:=df 4
          have f5:=df 5
          obtain ⟨e0,e1,e2,e3,e4,e5,_⟩:=cells6 u2
          have o0:U6.cell? ⟨mo,0,none⟩=some (.int .i64 kind):=by simp [World.cell?,u0]
          have o1:U6.cell? ⟨mo,1,none⟩=some (.int .i64 key):=by simp [World.cell?,u0]
          have o2:U6.cell? ⟨mo,2,none⟩=some (.int .i64 value):=by simp [World.cell?,u0]
          clear u0 u1 u2 df
          go_wp2
          refine bodyPost_ret (rcb rfl _ _ (mo+1) 61 _ _ _ rfl (put6 U2.out _ _ _ _ _ _).1 Tryz.underlying61 rfl info61) rfl ?_
          exact ⟨rfl,HFIN.out U6 _ t4 G6.out (put6 U2.out _ _ _ _ _ _).2⟩
       ·have hz:=HZ3.out
        rw [if_neg rc0] at hz
        have HZ4:=gh hz
        have gr:decide (0 < t3.rc)=false:=by simp;omega
        have G6:=G5
        have T6:=T5
        clear hz HZ3 rc0
        by_cases z3:zd=3
        ·have hz:=HZ4.out
         rw [if_pos z3] at hz
         obtain ⟨hz1,rfl⟩:=Prod.mk.inj hz
         obtain ⟨rfl,rfl⟩:=Prod.mk.inj hz1
         clear hz hz1 HZ4
         subst z3
         go_wp2_with (fail)
         refine (nomem_r U5).mono ?_
         rintro e U7 ⟨rfl,K7⟩
         have G7:=gh (⟨⟨G6.out.at.kept K7,Kept.behind G6.out.turned K7⟩,G6.out.on,G6.out.ok⟩:Went Y W r s t3 U7)
         obtain ⟨u0,u1,u2⟩:=HKP.out U7 (Kept.behind T6.out K7)
         have U2:=gh u1
         obtain ⟨d0,d1,d2,d3,d4,d5,df⟩:=cells6 u1
         have f0:=df 0
         have f1:=df 1
         have f2:=df 2
         have f3:=df 3
         have f4:=df 4
         have f5:=df 5
         obtain ⟨e0,e1,e2,e3,e4,e5,_⟩:=cells6 u2
         have o0:U7.cell? ⟨mo,0,none⟩=some (.int .i64 kind):=by simp [World.cell?,u0]
         have o1:U7.cell? ⟨mo,1,none⟩=some (.int .i64 key):=by simp [World.cell?,u0]
         have o2:U7.cell? ⟨mo,2,none⟩=some (.int .i64 value):=by simp [World.cell?,u0]
         clear u0 u1 u2 df
         clear K7
         unfold Rs.nomem Rs.cs
         go_wp2
         refine bodyPost_ret (rcb rfl _ _ (mo+1) 61 _ _ _ rfl (put6 U2.out _ _ _ _ _ _).1 Tryz.underlying61 rfl info61) rfl ?_
         exact ⟨rfl,HFIN.out U7 _ t3 G7.out (put6 U2.out _ _ _ _ _ _).2⟩
        ·have hz:=HZ4.out
         rw [if_neg z3] at hz
         have g3:(zd == 3)=false:=by simp [z3]
         by_cases z1:zd=1
         ·subst z1
          rw [show decide ((1:Int)=1)=true from rfl] at hz
          by_cases k2:kind=2
          ·rw [if_neg (by simp [k2])] at hz
           obtain ⟨hz1,hz2⟩:=Prod.mk.inj hz
           obtain ⟨rfl,rfl⟩:=Prod.mk.inj hz1
           have HZ5:=gh hz2
           clear hz hz1 hz2 HZ4
           have k2F:(kind != 2)=false:=by simp [k2]
           clear k2
           obtain ⟨u0,u1,u2⟩:=HKP.out U5 T6.out
           have U2:=gh u1
           obtain ⟨d0,d1,d2,d3,d4,d5,df⟩:=cells6 u1
           have f0:=df 0
           have f1:=df 1
           have f2:=df 2
           have f3:=df 3
           have f4:=df 4
           have f5:=df 5
           obtain ⟨e0,e1,e2,e3,e4,e5,_⟩:=cells6 u2
           have o0:U5.cell? ⟨mo,0,none⟩=some (.int .i64 kind):=by simp [World.cell?,u0]
           have o1:U5.cell? ⟨mo,1,none⟩=some (.int .i64 key):=by simp [World.cell?,u0]
           have o2:U5.cell? ⟨mo,2,none⟩=some (.int .i64 value):=by simp [World.cell?,u0]
           clear u0 u1 u2 df
           have e9:=HZ5.out
           subst e9
           go_wp2
           refine bodyPost_ret (rcb rfl _ _ (mo+1) 61 _ _ _ rfl (put6 U2.out _ _ _ _ _ _).1 Tryz.underlying61 rfl info61) rfl ?_
           exact ⟨rfl,HFIN.out U5 _ t3 G6.out (put6 U2.out _ _ _ _ _ _).2⟩
          ·rw [if_pos (by exact ⟨rfl,.inl k2⟩)] at hz
           obtain ⟨hz1,hz2⟩:=Prod.mk.inj hz
           obtain ⟨rfl,rfl⟩:=Prod.mk.inj hz1
           have HZ5:=gh hz2
           clear hz hz1 hz2 HZ4
           have k2F:(kind != 2)=true:=by simp [k2]
           clear k2
           obtain ⟨u0,u1,u2⟩:=HKP.out U5 T6.out
           have U2:=gh u1
           obtain ⟨d0,d1,d2,d3,d4,d5,df⟩:=cells6 u1
           have f0:=df 0
           have f1:=df 1
           have f2:=df 2
           have f3:=df 3
           have f4:=df 4
           have f5:=df 5
           obtain ⟨e0,e1,e2,e3,e4,e5,_⟩:=cells6 u2
           have o0:U5.cell? ⟨mo,0,none⟩=some (.int .i64 kind):=by simp [World.cell?,u0]
           have o1:U5.cell? ⟨mo,1,none⟩=some (.int .i64 key):=by simp [World.cell?,u0]
           have o2:U5.cell? ⟨mo,2,none⟩=some (.int .i64 value):=by simp [World.cell?,u0]
           clear u0 u1 u2 df
           go_wp2_with (fail)
           refine (tally_r N _ r t3 la L lc es G6.out.at G6.out.ok (fun k h=>HYU.out k (Nat.le_trans T6.out.size h)) (HRU.out.turned T6.out (fun k _ ⟨ad,e,e'⟩ hk=>(HB.out ad e).1 (by rw [e',hk]))) HWD.out HLL.out hc hm (fun ad e=>(HB.out ad e).1) (by have:=G6.out.on.left;have:=HN.out;omega) (by have:=G6.out.on.left;have:=HL.out;omega) sE HZ5.out).mono ?_
           rintro e U8 ⟨rfl,GT⟩
           have G8:=gh (G6.out.trans GT)
           have T8:=gh (T6.out.trans GT.turned (fun _ e=>e) (fun _ _ e=>e))
           clear GT d0 d1 d2 d3 d4 d5 f0 f1 f2 f3 f4 f5 e0 e1 e2 e3 e4 e5 o0 o1 o2 U2
           obtain ⟨u0,u1,u2⟩:=HKP.out U8 T8.out
           have U2:=gh u1
           obtain ⟨d0,d1,d2,d3,d4,d5,df⟩:=cells6 u1
           have f0:=df 0
           have f1:=df 1
           have f2:=df 2
           have f3:=df 3
           have f4:=df 4
           have f5:=df 5
           obtain ⟨e0,e1,e2,e3,e4,e5,_⟩:=cells6 u2
           have o0:U8.cell? ⟨mo,0,none⟩=some (.int .i64 kind):=by simp [World.cell?,u0]
           have o1:U8.cell? ⟨mo,1,none⟩=some (.int .i64 key):=by simp [World.cell?,u0]
           have o2:U8.cell? ⟨mo,2,none⟩=some (.int .i64 value):=by simp [World.cell?,u0]
           clear u0 u1 u2 df
           go_wp2
           refine bodyPost_ret (rcb rfl _ _ (mo+1) 61 _ _ _ rfl (put6 U2.out _ _ _ _ _ _).1 Tryz.underlying61 rfl info61) rfl ?_
           exact ⟨rfl,HFIN.out U8 _ sE G8.out (put6 U2.out _ _ _ _ _ _).2⟩
         ·have g1:(zd == 1)=false:=by simp [z1]
          rw [show decide (zd=1)=false by simp [z1],if_neg (by rintro ⟨h,_⟩;exact z1 h)] at hz
          obtain ⟨hz1,rfl⟩:=Prod.mk.inj hz
          obtain ⟨rfl,rfl⟩:=Prod.mk.inj hz1
          clear hz hz1 HZ4 z1 z3
          obtain ⟨u0,u1,u2⟩:=HKP.out U5 T6.out
          have U2:=gh u1
          obtain ⟨d0,d1,d2,d3,d4,d5,df⟩:=cells6 u1
          have f0:=df 0
          have f1:=df 1
          have f2:=df 2
          have f3:=df 3
          have f4:=df 4
          have f5:=df 5
          obtain ⟨e0,e1,e2,e3,e4,e5,_⟩:=cells6 u2
          have o0:U5.cell? ⟨mo,0,none⟩=some (.int .i64 kind):=by simp [World.cell?,u0]
          have o1:U5.cell? ⟨mo,1,none⟩=some (.int .i64 key):=by simp [World.cell?,u0]
          have o2:U5.cell? ⟨mo,2,none⟩=some (.int .i64 value):=by simp [World.cell?,u0]
          clear u0 u1 u2 df
          go_wp2
          refine bodyPost_ret (rcb rfl _ _ (mo+1) 61 _ _ _ rfl (put6 U2.out _ _ _ _ _ _).1 Tryz.underlying61 rfl info61) rfl ?_
          exact ⟨rfl,HFIN.out U5 _ t3 G6.out (put6 U2.out _ _ _ _ _ _).2⟩
  ·have hz:=HZ0.out
   rw [if_neg qk] at hz
   have HLB:=gh hz
   have g1:(q == key)=false:=by simp [qk]
   have HKP:Hid (∀ U'':World,Td (fun k=>k=r) U U''→U''.heap[mo]? = some (.cells #[.int .i64 kind,.int .i64 key,.int .i64 value] 52)∧U''.heap[mo+1]? = some (.cells #[.int .i64 0,.bool false,.int .i64 0,.int .i64 0,.int .i64 0,.slice none 0 0] 61)∧U''.heap[mo+2]? = some (.cells #[.int .i64 0,.bool false,.int .i64 0,.int .i64 0,.int .i64 0,.slice none 0 0] 61)):=gh (fun U'' t=>HKEEP.out U'' (T1.out.trans t (fun _ e=>e) (fun _ _ e=>e)))
   have HYU:Hid (∀ k,U.heap.size≤k→Y k):=gh (fun k h=>HY.out k (Nat.le_trans T1.out.size h))
   have HRU:Hid (EReads U la es):=gh (HR.out.turned T1.out (fun k _ ⟨ad,e,e'⟩ hk=>(HB.out ad e).1 (by rw [e',hk])))
   clear hz HZ0 qk o1
   have cf:=G1.out.at.offs
   obtain ⟨u0,u1,u2⟩:=HKP.out U (Td.refl _ _)
   have U2:=gh u1
   obtain ⟨d0,d1,d2,d3,d4,d5,df⟩:=cells6 u1
   have f0:=df 0
   have f1:=df 1
   have f2:=df 2
   have f3:=df 3
   have f4:=df 4
   have f5:=df 5
   obtain ⟨e0,e1,e2,e3,e4,e5,_⟩:=cells6 u2
   have o0:U.cell? ⟨mo,0,none⟩=some (.int .i64 kind):=by simp [World.cell?,u0]
   have o1:U.cell? ⟨mo,1,none⟩=some (.int .i64 key):=by simp [World.cell?,u0]
   have o2:U.cell? ⟨mo,2,none⟩=some (.int .i64 value):=by simp [World.cell?,u0]
   clear u0 u1 u2 df
   cases hof:s1.off with
   | true=>
    rw [hof] at cf
    have hz:=HLB.out
    unfold Rn.layB at hz
    rw [if_pos (.inl hof)] at hz
    obtain ⟨hz1,rfl⟩:=Prod.mk.inj hz
    obtain ⟨rfl,rfl⟩:=Prod.mk.inj hz1
    clear hz hz1 HLB hof
    go_wp2
    refine bodyPost_ret (rcb rfl _ _ (mo+1) 61 _ _ _ rfl (put6 U2.out _ _ _ _ _ _).1 Tryz.underlying61 rfl info61) rfl ?_
    exact ⟨rfl,HFIN.out U _ s1 G1.out (put6 U2.out _ _ _ _ _ _).2⟩
   | false=>
    rw [hof] at cf
    by_cases kE:kind=3
    ·have hz:=HLB.out
     unfold Rn.layB at hz
     rw [if_pos (.inr (.inr ⟨kE,rfl⟩))] at hz
     obtain ⟨hz1,rfl⟩:=Prod.mk.inj hz
     obtain ⟨rfl,rfl⟩:=Prod.mk.inj hz1
     clear hz hz1 HLB hof
     subst kE
     go_wp2
     refine bodyPost_ret (rcb rfl _ _ (mo+1) 61 _ _ _ rfl (put6 U2.out _ _ _ _ _ _).1 Tryz.underlying61 rfl info61) rfl ?_
     exact ⟨rfl,HFIN.out U _ s1 G1.out (put6 U2.out _ _ _ _ _ _).2⟩
    ·have hz:=HLB.out
     unfold Rn.layB at hz
     rw [if_neg (by rw [hof];simp [kE])] at hz
     obtain ⟨y,ok,t1,hfr⟩:∃ y ok t1,s1.freshR kind key value w q true false=((y,ok),t1):=⟨_,_,_,rfl⟩
     rw [hfr] at hz
     dsimp only at hz
     have HZ:=gh hz
     have HFR:=gh hfr
     have ON1:Hid (Rn.On s1 t1):=gh (by have:=Rn.freshR_on s1 kind key value w q true false;rw [HFR.out] at this;exact this)
     have gE:(kind == 3)=false:=by simp [kE]
     have HKE:=gh kE
     clear hz hfr HLB hof kE
     by_cases kO:kind=1
     ·have kOT:(kind == 1)=true:=by simp [kO]
      clear kO
      go_wp2_with (fail)
      refine (fresh_r U r s1 kind key value w q true false G1.out.at G1.out.ok HYU.out y ok t1 HFR.out).mono ?_
      rintro e U3 ⟨rfl,GF⟩
      have G3:=gh (G1.out.trans GF)
      have T3:=gh GF.turned
      clear GF d0 d1 d2 d3 d4 d5 f0 f1 f2 f3 f4 f5 e0 e1 e2 e3 e4 e5 o0 o1 o2 U2
      cases ok with
      | false=>
       have hz:=HZ.out
       rw [if_pos rfl] at hz
       obtain ⟨hz1,rfl⟩:=Prod.mk.inj hz
       obtain ⟨rfl,rfl⟩:=Prod.mk.inj hz1
       clear hz hz1 HZ
       go_wp2_with (fail)
       refine (nomem_r U3).mono ?_
       rintro e U4 ⟨rfl,K4⟩
       have G4:=gh (⟨⟨G3.out.at.kept K4,Kept.behind G3.out.turned K4⟩,G3.out.on,G3.out.ok⟩:Went Y W r s t1 U4)
       obtain ⟨u0,u1,u2⟩:=HKP.out U4 (Kept.behind T3.out K4)
       have U2:=gh u1
       obtain ⟨d0,d1,d2,d3,d4,d5,df⟩:=cells6 u1
       have f0:=df 0
       have f1:=df 1
       have f2:=df 2
       have f3:=df 3
       have f4:=df 4
       have f5:=df 5
       obtain ⟨e0,e1,e2,e3,e4,e5,_⟩:=cells6 u2
       have o0:U4.cell? ⟨mo,0,none⟩=some (.int .i64 kind):=by simp [World.cell?,u0]
       have o1:U4.cell? ⟨mo,1,none⟩=some (.int .i64 key):=by simp [World.cell?,u0]
       have o2:U4.cell? ⟨mo,2,none⟩=some (.int .i64 value):=by simp [World.cell?,u0]
       clear u0 u1 u2 df
       clear K4
       unfold Rs.nomem Rs.cs
       go_wp2
       refine bodyPost_ret (rcb rfl _ _ (mo+1) 61 _ _ _ rfl (put6 U2.out _ _ _ _ _ _).1 Tryz.underlying61 rfl info61) rfl ?_
       exact ⟨rfl,HFIN.out U4 _ t1 G4.out (put6 U2.out _ _ _ _ _ _).2⟩
      | true=>
       have hz:=HZ.out
       rw [if_neg (by decide)] at hz
       have HZ1:=gh hz
       clear hz HZ
       obtain ⟨_,_,rf⟩:=G3.out.at.notes
       have r8:=rf 8
       obtain ⟨c8,_,_⟩:=G3.out.at.notes
       obtain ⟨zd,t3,hzd⟩:∃ zd t3,({ t1 with rc:=0 }:Rn).dcss (wrap64 (n+2)) sl w y=(zd,t3):=⟨_,_,rfl⟩
       have HZD:=gh hzd
       have hz:=HZ1.out
       rw [hzd] at hz
       dsimp only at hz
       have HZ2:=gh hz
       have R4:=G3.out.at.rc 0
       have G4:Hid (Went Y W r s { t1 with rc:=0 } (U3.setCell ⟨r,8,none⟩ (.int .i64 0))):=gh (G3.out.trans ⟨R4,Rn.rc_on _ _,G3.out.ok⟩)
       have T4:Hid (Td (fun k=>k=r) U (U3.setCell ⟨r,8,none⟩ (.int .i64 0))):=gh (T3.out.trans R4.2 (fun _ e=>e) (fun _ _ e=>e))
       clear rf hz hzd HZ1 R4
       go_wp2_with (fail)
       refine (dcss_r _ r _ _ sl w y G4.out.at (fun k h=>HYU.out k (Nat.le_trans T4.out.size h)) zd t3 HZD.out).mono ?_
       rintro e U5 ⟨rfl,R5⟩
       have G5:=gh (G4.out.trans (R5.moved_dcss G4.out.ok HZD.out))
       have T5:=gh (T4.out.trans R5.2 (fun _ e=>e) (fun _ _ e=>e))
       obtain ⟨n8,n9,nf⟩:=G5.out.at.notes
       have nf9:=nf 9
       clear R5 nf c8 r8
       have HZ3:=HZ2
       clear HZ2
       by_cases rc0:0 < t3.rc
       ·have hz:=HZ3.out
        rw [if_pos rc0] at hz
        obtain ⟨t4,ht4⟩:∃ t4,({ t3 with ld:=t3.rc }:Rn)=t4:=⟨_,rfl⟩
        rw [ht4] at hz
        have HZ4:=gh hz
        have R6:=G5.out.at.ld t3.rc
        obtain ⟨U6,hU6⟩:∃ U6,U5.setCell ⟨r,9,none⟩ (.int .i64 t3.rc)=U6:=⟨_,rfl⟩
        rw [hU6,ht4] at R6
        have G6:Hid (Went Y W r s t4 U6):=gh (G5.out.trans ⟨R6,by rw [← ht4];exact Rn.ld_on _ _,by rw [← ht4];exact G5.out.ok⟩)
        have T6:Hid (Td (fun k=>k=r) U U6):=gh (T5.out.trans R6.2 (fun _ e=>e) (fun _ _ e=>e))
        clear hz HZ3 R6 ht4
        by_cases z3:zd=3
        ·have hz:=HZ4.out
         rw [if_pos z3] at hz
         obtain ⟨hz1,rfl⟩:=Prod.mk.inj hz
         obtain ⟨rfl,rfl⟩:=Prod.mk.inj hz1
         clear hz hz1 HZ4
         subst z3
         go_wp2_with (fail)
         refine (nomem_r U6).mono ?_
         rintro e U7 ⟨rfl,K7⟩
         have G7:=gh (⟨⟨G6.out.at.kept K7,Kept.behind G6.out.turned K7⟩,G6.out.on,G6.out.ok⟩:Went Y W r s t4 U7)
         obtain ⟨u0,u1,u2⟩:=HKP.out U7 (Kept.behind T6.out K7)
         have U2:=gh u1
         obtain ⟨d0,d1,d2,d3,d4,d5,df⟩:=cells6 u1
         have f0:=df 0
         have f1:=df 1
         have f2:=df 2
         have f3:=df 3
         have f4:=df 4
         have f5:=df 5
         obtain ⟨e0,e1,e2,e3,e4,e5,_⟩:=cells6 u2
         have o0:U7.cell? ⟨mo,0,none⟩=some (.int .i64 kind):=by simp [World.cell?,u0]
         have o1:U7.cell? ⟨mo,1,none⟩=some (.int .i64 key):=by simp [World.cell?,u0]
         have o2:U7.cell? ⟨mo,2,none⟩=some (.int .i64 value):=by simp [World.cell?,u0]
         clear u0 u1 u2 df
         clear K7
         unfold Rs.nomem Rs.cs
         go_wp2
         refine bodyPost_ret (rcb rfl _ _ (mo+1) 61 _ _ _ rfl (put6 U2.out _ _ _ _ _ _).1 Tryz.underlying61 rfl info61) rfl ?_
         exact ⟨rfl,HFIN.out U7 _ t4 G7.out (put6 U2.out _ _ _ _ _ _).2⟩
        ·have hz:=HZ4.out
         rw [if_neg z3] at hz
         have g3:(zd == 3)=false:=by simp [z3]
         by_cases z1:zd=1
         ·subst z1
          rw [show decide ((1:Int)=1)=true from rfl] at hz
          rw [if_pos (by first | exact ⟨rfl,.inr rfl⟩ | simp)] at hz
          obtain ⟨hz1,hz2⟩:=Prod.mk.inj hz
          obtain ⟨rfl,rfl⟩:=Prod.mk.inj hz1
          have HZ5:=gh hz2
          clear hz hz1 hz2 HZ4
          obtain ⟨u0,u1,u2⟩:=HKP.out U6 T6.out
          have U2:=gh u1
          obtain ⟨d0,d1,d2,d3,d4,d5,df⟩:=cells6 u1
          have f0:=df 0
          have f1:=df 1
          have f2:=df 2
          have f3:=df 3
          have f4:=df 4
          have f5:=df 5
          obtain ⟨e0,e1,e2,e3,e4,e5,_⟩:=cells6 u2
          have o0:U6.cell? ⟨mo,0,none⟩=some (.int .i64 kind):=by simp [World.cell?,u0]
          have o1:U6.cell? ⟨mo,1,none⟩=some (.int .i64 key):=by simp [World.cell?,u0]
          have o2:U6.cell? ⟨mo,2,none⟩=some (.int .i64 value):=by simp [World.cell?,u0]
          clear u0 u1 u2 df
          by_cases k2:kind=2
          ·have k2F:(kind != 2)=false:=by simp [k2]
           clear k2
           go_wp2_with (fail)
           refine (tally_r N _ r t4 la L lc es G6.out.at G6.out.ok (fun k h=>HYU.out k (Nat.le_trans T6.out.size h)) (HRU.out.turned T6.out (fun k _ ⟨ad,e,e'⟩ hk=>(HB.out ad e).1 (by rw [e',hk]))) HWD.out HLL.out hc hm (fun ad e=>(HB.out ad e).1) (by have:=G6.out.on.left;have:=HN.out;omega) (by have:=G6.out.on.left;have:=HL.out;omega) sE HZ5.out).mono ?_
           rintro e U8 ⟨rfl,GT⟩
           have G8:=gh (G6.out.trans GT)
           have T8:=gh (T6.out.trans GT.turned (fun _ e=>e) (fun _ _ e=>e))
           clear GT d0 d1 d2 d3 d4 d5 f0 f1 f2 f3 f4 f5 e0 e1 e2 e3 e4 e5 o0 o1 o2 U2
           obtain ⟨u0,u1,u2⟩:=HKP.out U8 T8.out
           have U2:=gh u1
           obtain ⟨d0,d1,d2,d3,d4,d5,df⟩:=cells6 u1
           have f0:=df 0
           have f1:=df 1
           have f2:=df 2
           have f3:=df 3
           have f4:=df 4
           have f5:=df 5
           obtain ⟨e0,e1,e2,e3,e4,e5,_⟩:=cells6 u2
           have o0:U8.cell? ⟨mo,0,none⟩=some (.int .i64 kind):=by simp [World.cell?,u0]
           have o1:U8.cell? ⟨mo,1,none⟩=some (.int .i64 key):=by simp [World.cell?,u0]
           have o2:U8.cell? ⟨mo,2,none⟩=some (.int .i64 value):=by simp [World.cell?,u0]
           clear u0 u1 u2 df
           go_wp2
           refine bodyPost_ret (rcb rfl _ _ (mo+1) 61 _ _ _ rfl (put6 U2.out _ _ _ _ _ _).1 Tryz.underlying61 rfl info61) rfl ?_
           exact ⟨rfl,HFIN.out U8 _ sE G8.out (put6 U2.out _ _ _ _ _ _).2⟩
          ·have k2F:(kind != 2)=true:=by simp [k2]
           clear k2
           go_wp2_with (fail)
           refine (tally_r N _ r t4 la L lc es G6.out.at G6.out.ok (fun k h=>HYU.out k (Nat.le_trans T6.out.size h)) (HRU.out.turned T6.out (fun k _ ⟨ad,e,e'⟩ hk=>(HB.out ad e).1 (by rw [e',hk]))) HWD.out HLL.out hc hm (fun ad e=>(HB.out ad e).1) (by have:=G6.out.on.left;have:=HN.out;omega) (by have:=G6.out.on.left;have:=HL.out;omega) sE HZ5.out).mono ?_
           rintro e U8 ⟨rfl,GT⟩
           have G8:=gh (G6.out.trans GT)
           have T8:=gh (T6.out.trans GT.turned (fun _ e=>e) (fun _ _ e=>e))
           clear GT d0 d1 d2 d3 d4 d5 f0 f1 f2 f3 f4 f5 e0 e1 e2 e3 e4 e5 o0 o1 o2 U2
           obtain ⟨u0,u1,u2⟩:=HKP.out U8 T8.out
           have U2:=gh u1
           obtain ⟨d0,d1,d2,d3,d4,d5,df⟩:=cells6 u1
           have f0:=df 0
           have f1:=df 1
           have f2:=df 2
           have f3:=df 3
           have f4:=df 4
           have f5:=df 5
           obtain ⟨e0,e1,e2,e3,e4,e5,_⟩:=cells6 u2
           have o0:U8.cell? ⟨mo,0,none⟩=some (.int .i64 kind):=by simp [World.cell?,u0]
           have o1:U8.cell? ⟨mo,1,none⟩=some (.int .i64 key):=by simp [World.cell?,u0]
           have o2:U8.cell? ⟨mo,2,none⟩=some (.int .i64 value):=by simp [World.cell?,u0]
           clear u0 u1 u2 df
           go_wp2
           refine bodyPost_ret (rcb rfl _ _ (mo+1) 61 _ _ _ rfl (put6 U2.out _ _ _ _ _ _).1 Tryz.underlying61 rfl info61) rfl ?_
           exact ⟨rfl,HFIN.out U8 _ sE G8.out (put6 U2.out _ _ _ _ _ _).2⟩
         ·have g1:(zd == 1)=false:=by simp [z1]
          rw [show decide (zd=1)=false by simp [z1],if_neg (by rintro ⟨h,_⟩;exact z1 h)] at hz
          obtain ⟨hz1,rfl⟩:=Prod.mk.inj hz
          obtain ⟨rfl,rfl⟩:=Prod.mk.inj hz1
          clear hz hz1 HZ4 z1 z3
          obtain ⟨u0,u1,u2⟩:=HKP.out U6 T6.out
          have U2:=gh u1
          obtain ⟨d0,d1,d2,d3,d4,d5,df⟩:=cells6 u1
          have f0:=df 0
          have f1:=df 1
          have f2:=df 2
          have f3:=df 3
          have f4:=df 4
          have f5:=df 5
          obtain ⟨e0,e1,e2,e3,e4,e5,_⟩:=cells6 u2
          have o0:U6.cell? ⟨mo,0,none⟩=some (.int .i64 kind):=by simp [World.cell?,u0]
          have o1:U6.cell? ⟨mo,1,none⟩=some (.int .i64 key):=by simp [World.cell?,u0]
          have o2:U6.cell? ⟨mo,2,none⟩=some (.int .i64 value):=by simp [World.cell?,u0]
          clear u0 u1 u2 df
          go_wp2
          refine bodyPost_ret (rcb rfl _ _ (mo+1) 61 _ _ _ rfl (put6 U2.out _ _ _ _ _ _).1 Tryz.underlying61 rfl info61) rfl ?_
          exact ⟨rfl,HFIN.out U6 _ t4 G6.out (put6 U2.out _ _ _ _ _ _).2⟩
       ·have hz:=HZ3.out
        rw [if_neg rc0] at hz
        have HZ4:=gh hz
        have gr:decide (0 < t3.rc)=false:=by simp;omega
        have G6:=G5
        have T6:=T5
        clear hz HZ3 rc0
        by_cases z3:zd=3
        ·have hz:=HZ4.out
         rw [if_pos z3] at hz
         obtain ⟨hz1,rfl⟩:=Prod.mk.inj hz
         obtain ⟨rfl,rfl⟩:=Prod.mk.inj hz1
         clear hz hz1 HZ4
         subst z3
         go_wp2_with (fail)
         refine (nomem_r U5).mono ?_
         rintro e U7 ⟨rfl,K7⟩
         have G7:=gh (⟨⟨G6.out.at.kept K7,Kept.behind G6.out.turned K7⟩,G6.out.on,G6.out.ok⟩:Went Y W r s t3 U7)
         obtain ⟨u0,u1,u2⟩:=HKP.out U7 (Kept.behind T6.out K7)
         have U2:=gh u1
         obtain ⟨d0,d1,d2,d3,d4,d5,df⟩:=cells6 u1
         have f0:=df 0
         have f1:=df 1
         have f2:=df 2
         have f3:=df 3
         have f4:=df 4
         have f5:=df 5
         obtain ⟨e0,e1,e2,e3,e4,e5,_⟩:=cells6 u2
         have o0:U7.cell? ⟨mo,0,none⟩=some (.int .i64 kind):=by simp [World.cell?,u0]
         have o1:U7.cell? ⟨mo,1,none⟩=some (.int .i64 key):=by simp [World.cell?,u0]
         have o2:U7.cell? ⟨mo,2,none⟩=some (.int .i64 value):=by simp [World.cell?,u0]
         clear u0 u1 u2 df
         clear K7
         unfold Rs.nomem Rs.cs
         go_wp2
         refine bodyPost_ret (rcb rfl _ _ (mo+1) 61 _ _ _ rfl (put6 U2.out _ _ _ _ _ _).1 Tryz.underlying61 rfl info61) rfl ?_
         exact ⟨rfl,HFIN.out U7 _ t3 G7.out (put6 U2.out _ _ _ _ _ _).2⟩
        ·have hz:=HZ4.out
         rw [if_neg z3] at hz
         have g3:(zd == 3)=false:=by simp [z3]
         by_cases z1:zd=1
         ·subst z1
          rw [show decide ((1:Int)=1)=true from rfl] at hz
          rw [if_pos (by first | exact ⟨rfl,.inr rfl⟩ | simp)] at hz
          obtain ⟨hz1,hz2⟩:=Prod.mk.inj hz
          obtain ⟨rfl,rfl⟩:=Prod.mk.inj hz1
          have HZ5:=gh hz2
          clear hz hz1 hz2 HZ4
          obtain ⟨u0,u1,u2⟩:=HKP.out U5 T6.out
          have U2:=gh u1
          obtain ⟨d0,d1,d2,d3,d4,d5,df⟩:=cells6 u1
          have f0:=df 0
          have f1:=df 1
          have f2:=df 2
          have f3:=df 3
          have f4:=df 4
          have f5:=df 5
          obtain ⟨e0,e1,e2,e3,e4,e5,_⟩:=cells6 u2
          have o0:U5.cell? ⟨mo,0,none⟩=some (.int .i64 kind):=by simp [World.cell?,u0]
          have o1:U5.cell? ⟨mo,1,none⟩=some (.int .i64 key):=by simp [World.cell?,u0]
          have o2:U5.cell? ⟨mo,2,none⟩=some (.int .i64 value):=by simp [World.cell?,u0]
          clear u0 u1 u2 df
          by_cases k2:kind=2
          ·have k2F:(kind != 2)=false:=by simp [k2]
           clear k2
           go_wp2_with (fail)
           refine (tally_r N _ r t3 la L lc es G6.out.at G6.out.ok (fun k h=>HYU.out k (Nat.le_trans T6.out.size h)) (HRU.out.turned T6.out (fun k _ ⟨ad,e,e'⟩ hk=>(HB.out ad e).1 (by rw [e',hk]))) HWD.out HLL.out hc hm (fun ad e=>(HB.out ad e).1) (by have:=G6.out.on.left;have:=HN.out;omega) (by have:=G6.out.on.left;have:=HL.out;omega) sE HZ5.out).mono ?_
           rintro e U8 ⟨rfl,GT⟩
           have G8:=gh (G6.out.trans GT)
           have T8:=gh (T6.out.trans GT.turned (fun _ e=>e) (fun _ _ e=>e))
           clear GT d0 d1 d2 d3 d4 d5 f0 f1 f2 f3 f4 f5 e0 e1 e2 e3 e4 e5 o0 o1 o2 U2
           obtain ⟨u0,u1,u2⟩:=HKP.out U8 T8.out
           have U2:=gh u1
           obtain ⟨d0,d1,d2,d3,d4,d5,df⟩:=cells6 u1
           have f0:=df 0
           have f1:=df 1
           have f2:=df 2
           have f3:=df 3
           have f4:=df 4
           have f5:=df 5
           obtain ⟨e0,e1,e2,e3,e4,e5,_⟩:=cells6 u2
           have o0:U8.cell? ⟨mo,0,none⟩=some (.int .i64 kind):=by simp [World.cell?,u0]
           have o1:U8.cell? ⟨mo,1,none⟩=some (.int .i64 key):=by simp [World.cell?,u0]
           have o2:U8.cell? ⟨mo,2,none⟩=some (.int .i64 value):=by simp [World.cell?,u0]
           clear u0 u1 u2 df
           go_wp2
           refine bodyPost_ret (rcb rfl _ _ (mo+1) 61 _ _ _ rfl (put6 U2.out _ _ _ _ _ _).1 Tryz.underlying61 rfl info61) rfl ?_
           exact ⟨rfl,HFIN.out U8 _ sE G8.out (put6 U2.out _ _ _ _ _ _).2⟩
          ·have k2F:(kind != 2)=true:=by simp [k2]
           clear k2
           go_wp2_with (fail)
           refine (tally_r N _ r t3 la L lc es G6.out.at G6.out.ok (fun k h=>HYU.out k (Nat.le_trans T6.out.size h)) (HRU.out.turned T6.out (fun k _ ⟨ad,e,e'⟩ hk=>(HB.out ad e).1 (by rw [e',hk]))) HWD.out HLL.out hc hm (fun ad e=>(HB.out ad e).1) (by have:=G6.out.on.left;have:=HN.out;omega) (by have:=G6.out.on.left;have:=HL.out;omega) sE HZ5.out).mono ?_
           rintro e U8 ⟨rfl,GT⟩
           have G8:=gh (G6.out.trans GT)
           have T8:=gh (T6.out.trans GT.turned (fun _ e=>e) (fun _ _ e=>e))
           clear GT d0 d1 d2 d3 d4 d5 f0 f1 f2 f3 f4 f5 e0 e1 e2 e3 e4 e5 o0 o1 o2 U2
           obtain ⟨u0,u1,u2⟩:=HKP.out U8 T8.out
           have U2:=gh u1
           obtain ⟨d0,d1,d2,d3,d4,d5,df⟩:=cells6 u1
           have f0:=df 0
           have f1:=df 1
           have f2:=df 2
           have f3:=df 3
           have f4:=df 4
           have f5:=df 5
           obtain ⟨e0,e1,e2,e3,e4,e5,_⟩:=cells6 u2
           have o0:U8.cell? ⟨mo,0,none⟩=some (.int .i64 kind):=by simp [World.cell?,u0]
           have o1:U8.cell? ⟨mo,1,none⟩=some (.int .i64 key):=by simp [World.cell?,u0]
           have o2:U8.cell? ⟨mo,2,none⟩=some (.int .i64 value):=by simp [World.cell?,u0]
           clear u0 u1 u2 df
           go_wp2
           refine bodyPost_ret (rcb rfl _ _ (mo+1) 61 _ _ _ rfl (put6 U2.out _ _ _ _ _ _).1 Tryz.underlying61 rfl info61) rfl ?_
           exact ⟨rfl,HFIN.out U8 _ sE G8.out (put6 U2.out _ _ _ _ _ _).2⟩
         ·have g1:(zd == 1)=false:=by simp [z1]
          rw [show decide (zd=1)=false by simp [z1],if_neg (by rintro ⟨h,_⟩;exact z1 h)] at hz
          obtain ⟨hz1,rfl⟩:=Prod.mk.inj hz
          obtain ⟨rfl,rfl⟩:=Prod.mk.inj hz1
          clear hz hz1 HZ4 z1 z3
          obtain ⟨u0,u1,u2⟩:=HKP.out U5 T6.out
          have U2:=gh u1
          obtain ⟨d0,d1,d2,d3,d4,d5,df⟩:=cells6 u1
          have f0:=df 0
          have f1:=df 1
          have f2:=df 2
          have f3:=df 3
          have f4:=df 4
          have f5:=df 5
          obtain ⟨e0,e1,e2,e3,e4,e5,_⟩:=cells6 u2
          have o0:U5.cell? ⟨mo,0,none⟩=some (.int .i64 kind):=by simp [World.cell?,u0]
          have o1:U5.cell? ⟨mo,1,none⟩=some (.int .i64 key):=by simp [World.cell?,u0]
          have o2:U5.cell? ⟨mo,2,none⟩=some (.int .i64 value):=by simp [World.cell?,u0]
          clear u0 u1 u2 df
          go_wp2
          refine bodyPost_ret (rcb rfl _ _ (mo+1) 61 _ _ _ rfl (put6 U2.out _ _ _ _ _ _).1 Tryz.underlying61 rfl info61) rfl ?_
          exact ⟨rfl,HFIN.out U5 _ t3 G6.out (put6 U2.out _ _ _ _ _ _).2⟩
     ·have kOF:(kind == 1)=false:=by simp [kO]
      clear kO
      go_wp2_with (fail)
      refine (fresh_r U r s1 kind key value w q true false G1.out.at G1.out.ok HYU.out y ok t1 HFR.out).mono ?_
      rintro e U3 ⟨rfl,GF⟩
      have G3:=gh (G1.out.trans GF)
      have T3:=gh GF.turned
      clear GF d0 d1 d2 d3 d4 d5 f0 f1 f2 f3 f4 f5 e0 e1 e2 e3 e4 e5 o0 o1 o2 U2
      cases ok with
      | false=>
       have hz:=HZ.out
       rw [if_pos rfl] at hz
       obtain ⟨hz1,rfl⟩:=Prod.mk.inj hz
       obtain ⟨rfl,rfl⟩:=Prod.mk.inj hz1
       clear hz hz1 HZ
       go_wp2_with (fail)
       refine (nomem_r U3).mono ?_
       rintro e U4 ⟨rfl,K4⟩
       have G4:=gh (⟨⟨G3.out.at.kept K4,Kept.behind G3.out.turned K4⟩,G3.out.on,G3.out.ok⟩:Went Y W r s t1 U4)
       obtain ⟨u0,u1,u2⟩:=HKP.out U4 (Kept.behind T3.out K4)
       have U2:=gh u1
       obtain ⟨d0,d1,d2,d3,d4,d5,df⟩:=cells6 u1
       have f0:=df 0
       have f1:=df 1
       have f2:=df 2
       have f3:=df 3
       have f4:=df 4
       have f5:=df 5
       obtain ⟨e0,e1,e2,e3,e4,e5,_⟩:=cells6 u2
       have o0:U4.cell? ⟨mo,0,none⟩=some (.int .i64 kind):=by simp [World.cell?,u0]
       have o1:U4.cell? ⟨mo,1,none⟩=some (.int .i64 key):=by simp [World.cell?,u0]
       have o2:U4.cell? ⟨mo,2,none⟩=some (.int .i64 value):=by simp [World.cell?,u0]
       clear u0 u1 u2 df
       clear K4
       unfold Rs.nomem Rs.cs
       go_wp2
       refine bodyPost_ret (rcb rfl _ _ (mo+1) 61 _ _ _ rfl (put6 U2.out _ _ _ _ _ _).1 Tryz.underlying61 rfl info61) rfl ?_
       exact ⟨rfl,HFIN.out U4 _ t1 G4.out (put6 U2.out _ _ _ _ _ _).2⟩
      | true=>
       have hz:=HZ.out
       rw [if_neg (by decide)] at hz
       have HZ1:=gh hz
       clear hz HZ
       obtain ⟨_,_,rf⟩:=G3.out.at.notes
       have r8:=rf 8
       obtain ⟨c8,_,_⟩:=G3.out.at.notes
       obtain ⟨zd,t3,hzd⟩:∃ zd t3,({ t1 with rc:=0 }:Rn).dcss (wrap64 (n+2)) sl w y=(zd,t3):=⟨_,_,rfl⟩
       have HZD:=gh hzd
       have hz:=HZ1.out
       rw [hzd] at hz
       dsimp only at hz
       have HZ2:=gh hz
       have R4:=G3.out.at.rc 0
       have G4:Hid (Went Y W r s { t1 with rc:=0 } (U3.setCell ⟨r,8,none⟩ (.int .i64 0))):=gh (G3.out.trans ⟨R4,Rn.rc_on _ _,G3.out.ok⟩)
       have T4:Hid (Td (fun k=>k=r) U (U3.setCell ⟨r,8,none⟩ (.int .i64 0))):=gh (T3.out.trans R4.2 (fun _ e=>e) (fun _ _ e=>e))
       clear rf hz hzd HZ1 R4
       go_wp2_with (fail)
       refine (dcss_r _ r _ _ sl w y G4.out.at (fun k h=>HYU.out k (Nat.le_trans T4.out.size h)) zd t3 HZD.out).mono ?_
       rintro e U5 ⟨rfl,R5⟩
       have G5:=gh (G4.out.trans (R5.moved_dcss G4.out.ok HZD.out))
       have T5:=gh (T4.out.trans R5.2 (fun _ e=>e) (fun _ _ e=>e))
       obtain ⟨n8,n9,nf⟩:=G5.out.at.notes
       have nf9:=nf 9
       clear R5 nf c8 r8
       have HZ3:=HZ2
       clear HZ2
       by_cases rc0:0 < t3.rc
       ·have hz:=HZ3.out
        rw [if_pos rc0] at hz
        obtain ⟨t4,ht4⟩:∃ t4,({ t3 with ld:=t3.rc }:Rn)=t4:=⟨_,rfl⟩
        rw [ht4] at hz
        have HZ4:=gh hz
        have R6:=G5.out.at.ld t3.rc
        obtain ⟨U6,hU6⟩:∃ U6,U5.setCell ⟨r,9,none⟩ (.int .i64 t3.rc)=U6:=⟨_,rfl⟩
        rw [hU6,ht4] at R6
        have G6:Hid (Went Y W r s t4 U6):=gh (G5.out.trans ⟨R6,by rw [← ht4];exact Rn.ld_on _ _,by rw [← ht4];exact G5.out.ok⟩)
        have T6:Hid (Td (fun k=>k=r) U U6):=gh (T5.out.trans R6.2 (fun _ e=>e) (fun _ _ e=>e))
        clear hz HZ3 R6 ht4
        by_cases z3:zd=3
        ·have hz:=HZ4.out
         rw [if_pos z3] at hz
         obtain ⟨hz1,rfl⟩:=Prod.mk.inj hz
         obtain ⟨rfl,rfl⟩:=Prod.mk.inj hz1
         clear hz hz1 HZ4
         subst z3
         go_wp2_with (fail)
         refine (nomem_r U6).mono ?_
         rintro e U7 ⟨rfl,K7⟩
         have G7:=gh (⟨⟨G6.out.at.kept K7,Kept.behind G6.out.turned K7⟩,G6.out.on,G6.out.ok⟩:Went Y W r s t4 U7)
         obtain ⟨u0,u1,u2⟩:=HKP.out U7 (Kept.behind T6.out K7)
         have U2:=gh u1
         obtain ⟨d0,d1,d2,d3,d4,d5,df⟩:=cells6 u1
         have f0:=df 0
         have f1:=df 1
         have f2:=df 2
         have f3:=df 3
         have f4:=df 4
         have f5:=df 5
         obtain ⟨e0,e1,e2,e3,e4,e5,_⟩:=cells6 u2
         have o0:U7.cell? ⟨mo,0,none⟩=some (.int .i64 kind):=by simp [World.cell?,u0]
         have o1:U7.cell? ⟨mo,1,none⟩=some (.int .i64 key):=by simp [World.cell?,u0]
         have o2:U7.cell? ⟨mo,2,none⟩=some (.int .i64 value):=by simp [World.cell?,u0]
         clear u0 u1 u2 df
         clear K7
         unfold Rs.nomem Rs.cs
         go_wp2
         refine bodyPost_ret (rcb rfl _ _ (mo+1) 61 _ _ _ rfl (put6 U2.out _ _ _ _ _ _).1 Tryz.underlying61 rfl info61) rfl ?_
         exact ⟨rfl,HFIN.out U7 _ t4 G7.out (put6 U2.out _ _ _ _ _ _).2⟩
        ·have hz:=HZ4.out
         rw [if_neg z3] at hz
         have g3:(zd == 3)=false:=by simp [z3]
         by_cases z1:zd=1
         ·subst z1
          rw [show decide ((1:Int)=1)=true from rfl] at hz
          rw [if_pos (by first | exact ⟨rfl,.inr rfl⟩ | simp)] at hz
          obtain ⟨hz1,hz2⟩:=Prod.mk.inj hz
          obtain ⟨rfl,rfl⟩:=Prod.mk.inj hz1
          have HZ5:=gh hz2
          clear hz hz1 hz2 HZ4
          obtain ⟨u0,u1,u2⟩:=HKP.out U6 T6.out
          have U2:=gh u1
          obtain ⟨d0,d1,d2,d3,d4,d5,df⟩:=cells6 u1
          have f0:=df 0
          have f1:=df 1
          have f2:=df 2
          have f3:=df 3
          have f4:=df 4
          have f5:=df 5
          obtain ⟨e0,e1,e2,e3,e4,e5,_⟩:=cells6 u2
          have o0:U6.cell? ⟨mo,0,none⟩=some (.int .i64 kind):=by simp [World.cell?,u0]
          have o1:U6.cell? ⟨mo,1,none⟩=some (.int .i64 key):=by simp [World.cell?,u0]
          have o2:U6.cell? ⟨mo,2,none⟩=some (.int .i64 value):=by simp [World.cell?,u0]
          clear u0 u1 u2 df
          by_cases k2:kind=2
          ·have k2F:(kind != 2)=false:=by simp [k2]
           clear k2
           go_wp2_with (fail)
           refine (tally_r N _ r t4 la L lc es G6.out.at G6.out.ok (fun k h=>HYU.out k (Nat.le_trans T6.out.size h)) (HRU.out.turned T6.out (fun k _ ⟨ad,e,e'⟩ hk=>(HB.out ad e).1 (by rw [e',hk]))) HWD.out HLL.out hc hm (fun ad e=>(HB.out ad e).1) (by have:=G6.out.on.left;have:=HN.out;omega) (by have:=G6.out.on.left;have:=HL.out;omega) sE HZ5.out).mono ?_
           rintro e U8 ⟨rfl,GT⟩
           have G8:=gh (G6.out.trans GT)
           have T8:=gh (T6.out.trans GT.turned (fun _ e=>e) (fun _ _ e=>e))
           clear GT d0 d1 d2 d3 d4 d5 f0 f1 f2 f3 f4 f5 e0 e1 e2 e3 e4 e5 o0 o1 o2 U2
           obtain ⟨u0,u1,u2⟩:=HKP.out U8 T8.out
           have U2:=gh u1
           obtain ⟨d0,d1,d2,d3,d4,d5,df⟩:=cells6 u1
           have f0:=df 0
           have f1:=df 1
           have f2:=df 2
           have f3:=df 3
           have f4:=df 4
           have f5:=df 5
           obtain ⟨e0,e1,e2,e3,e4,e5,_⟩:=cells6 u2
           have o0:U8.cell? ⟨mo,0,none⟩=some (.int .i64 kind):=by simp [World.cell?,u0]
           have o1:U8.cell? ⟨mo,1,none⟩=some (.int .i64 key):=by simp [World.cell?,u0]
           have o2:U8.cell? ⟨mo,2,none⟩=some (.int .i64 value):=by simp [World.cell?,u0]
           clear u0 u1 u2 df
           go_wp2
           refine bodyPost_ret (rcb rfl _ _ (mo+1) 61 _ _ _ rfl (put6 U2.out _ _ _ _ _ _).1 Tryz.underlying61 rfl info61) rfl ?_
           exact ⟨rfl,HFIN.out U8 _ sE G8.out (put6 U2.out _ _ _ _ _ _).2⟩
          ·have k2F:(kind != 2)=true:=by simp [k2]
           clear k2
           go_wp2_with (fail)
           refine (tally_r N _ r t4 la L lc es G6.out.at G6.out.ok (fun k h=>HYU.out k (Nat.le_trans T6.out.size h)) (HRU.out.turned T6.out (fun k _ ⟨ad,e,e'⟩ hk=>(HB.out ad e).1 (by rw [e',hk]))) HWD.out HLL.out hc hm (fun ad e=>(HB.out ad e).1) (by have:=G6.out.on.left;have:=HN.out;omega) (by have:=G6.out.on.left;have:=HL.out;omega) sE HZ5.out).mono ?_
           rintro e U8 ⟨rfl,GT⟩
           have G8:=gh (G6.out.trans GT)
           have T8:=gh (T6.out.trans GT.turned (fun _ e=>e) (fun _ _ e=>e))
           clear GT d0 d1 d2 d3 d4 d5 f0 f1 f2 f3 f4 f5 e0 e1 e2 e3 e4 e5 o0 o1 o2 U2
           obtain ⟨u0,u1,u2⟩:=HKP.out U8 T8.out
           have U2:=gh u1
           obtain ⟨d0,d1,d2,d3,d4,d5,df⟩:=cells6 u1
           have f0:=df 0
           have f1:=df 1
           have f2:=df 2
           have f3:=df 3
           have f4:=df 4
           have f5:=df 5
           obtain ⟨e0,e1,e2,e3,e4,e5,_⟩:=cells6 u2
           have o0:U8.cell? ⟨mo,0,none⟩=some (.int .i64 kind):=by simp [World.cell?,u0]
           have o1:U8.cell? ⟨mo,1,none⟩=some (.int .i64 key):=by simp [World.cell?,u0]
           have o2:U8.cell? ⟨mo,2,none⟩=some (.int .i64 value):=by simp [World.cell?,u0]
           clear u0 u1 u2 df
           go_wp2
           refine bodyPost_ret (rcb rfl _ _ (mo+1) 61 _ _ _ rfl (put6 U2.out _ _ _ _ _ _).1 Tryz.underlying61 rfl info61) rfl ?_
           exact ⟨rfl,HFIN.out U8 _ sE G8.out (put6 U2.out _ _ _ _ _ _).2⟩
         ·have g1:(zd == 1)=false:=by simp [z1]
          rw [show decide (zd=1)=false by simp [z1],if_neg (by rintro ⟨h,_⟩;exact z1 h)] at hz
          obtain ⟨hz1,rfl⟩:=Prod.mk.inj hz
          obtain ⟨rfl,rfl⟩:=Prod.mk.inj hz1
          clear hz hz1 HZ4 z1 z3
          obtain ⟨u0,u1,u2⟩:=HKP.out U6 T6.out
          have U2:=gh u1
          obtain ⟨d0,d1,d2,d3,d4,d5,df⟩:=cells6 u1
          have f0:=df 0
          have f1:=df 1
          have f2:=df 2
          have f3:=df 3
          have f4:=df 4
          have f5:=df 5
          obtain ⟨e0,e1,e2,e3,e4,e5,_⟩:=cells6 u2
          have o0:U6.cell? ⟨mo,0,none⟩=some (.int .i64 kind):=by simp [World.cell?,u0]
          have o1:U6.cell? ⟨mo,1,none⟩=some (.int .i64 key):=by simp [World.cell?,u0]
          have o2:U6.cell? ⟨mo,2,none⟩=some (.int .i64 value):=by simp [World.cell?,u0]
          clear u0 u1 u2 df
          go_wp2
          refine bodyPost_ret (rcb rfl _ _ (mo+1) 61 _ _ _ rfl (put6 U2.out _ _ _ _ _ _).1 Tryz.underlying61 rfl info61) rfl ?_
          exact ⟨rfl,HFIN.out U6 _ t4 G6.out (put6 U2.out _ _ _ _ _ _).2⟩
       ·have hz:=HZ3.out
        rw [if_neg rc0] at hz
        have HZ4:=gh hz
        have gr:decide (0 < t3.rc)=false:=by simp;omega
        have G6:=G5
        have T6:=T5
        clear hz HZ3 rc0
        by_cases z3:zd=3
        ·have hz:=HZ4.out
         rw [if_pos z3] at hz
         obtain ⟨hz1,rfl⟩:=Prod.mk.inj hz
         obtain ⟨rfl,rfl⟩:=Prod.mk.inj hz1
         clear hz hz1 HZ4
         subst z3
         go_wp2_with (fail)
         refine (nomem_r U5).mono ?_
         rintro e U7 ⟨rfl,K7⟩
         have G7:=gh (⟨⟨G6.out.at.kept K7,Kept.behind G6.out.turned K7⟩,G6.out.on,G6.out.ok⟩:Went Y W r s t3 U7)
         obtain ⟨u0,u1,u2⟩:=HKP.out U7 (Kept.behind T6.out K7)
         have U2:=gh u1
         obtain ⟨d0,d1,d2,d3,d4,d5,df⟩:=cells6 u1
         have f0:=df 0
         have f1:=df 1
         have f2:=df 2
         have f3:=df 3
         have f4:=df 4
         have f5:=df 5
         obtain ⟨e0,e1,e2,e3,e4,e5,_⟩:=cells6 u2
         have o0:U7.cell? ⟨mo,0,none⟩=some (.int .i64 kind):=by simp [World.cell?,u0]
         have o1:U7.cell? ⟨mo,1,none⟩=some (.int .i64 key):=by simp [World.cell?,u0]
         have o2:U7.cell? ⟨mo,2,none⟩=some (.int .i64 value):=by simp [World.cell?,u0]
         clear u0 u1 u2 df
         clear K7
         unfold Rs.nomem Rs.cs
         go_wp2
         refine bodyPost_ret (rcb rfl _ _ (mo+1) 61 _ _ _ rfl (put6 U2.out _ _ _ _ _ _).1 Tryz.underlying61 rfl info61) rfl ?_
         exact ⟨rfl,HFIN.out U7 _ t3 G7.out (put6 U2.out _ _ _ _ _ _).2⟩
        ·have hz:=HZ4.out
         rw [if_neg z3] at hz
         have g3:(zd == 3)=false:=by simp [z3]
         by_cases z1:zd=1
         ·subst z1
          rw [show decide ((1:Int)=1)=true from rfl] at hz
          rw [if_pos (by first | exact ⟨rfl,.inr rfl⟩ | simp)] at hz
          obtain ⟨hz1,hz2⟩:=Prod.mk.inj hz
          obtain ⟨rfl,rfl⟩:=Prod.mk.inj hz1
          have HZ5:=gh hz2
          clear hz hz1 hz2 HZ4
          obtain ⟨u0,u1,u2⟩:=HKP.out U5 T6.out
          have U2:=gh u1
          obtain ⟨d0,d1,d2,d3,d4,d5,df⟩:=cells6 u1
          have f0:=df 0
          have f1:=df 1
          have f2:=df 2
          have f3:=df 3
          have f4:=df 4
          have f5:=df 5
          obtain ⟨e0,e1,e2,e3,e4,e5,_⟩:=cells6 u2
          have o0:U5.cell? ⟨mo,0,none⟩=some (.int .i64 kind):=by simp [World.cell?,u0]
          have o1:U5.cell? ⟨mo,1,none⟩=some (.int .i64 key):=by simp [World.cell?,u0]
          have o2:U5.cell? ⟨mo,2,none⟩=some (.int .i64 value):=by simp [World.cell?,u0]
          clear u0 u1 u2 df
          by_cases k2:kind=2
          ·have k2F:(kind != 2)=false:=by simp [k2]
           clear k2
           go_wp2_with (fail)
           refine (tally_r N _ r t3 la L lc es G6.out.at G6.out.ok (fun k h=>HYU.out k (Nat.le_trans T6.out.size h)) (HRU.out.turned T6.out (fun k _ ⟨ad,e,e'⟩ hk=>(HB.out ad e).1 (by rw [e',hk]))) HWD.out HLL.out hc hm (fun ad e=>(HB.out ad e).1) (by have:=G6.out.on.left;have:=HN.out;omega) (by have:=G6.out.on.left;have:=HL.out;omega) sE HZ5.out).mono ?_
           rintro e U8 ⟨rfl,GT⟩
           have G8:=gh (G6.out.trans GT)
           have T8:=gh (T6.out.trans GT.turned (fun _ e=>e) (fun _ _ e=>e))
           clear GT d0 d1 d2 d3 d4 d5 f0 f1 f2 f3 f4 f5 e0 e1 e2 e3 e4 e5 o0 o1 o2 U2
           obtain ⟨u0,u1,u2⟩:=HKP.out U8 T8.out
           have U2:=gh u1
           obtain ⟨d0,d1,d2,d3,d4,d5,df⟩:=cells6 u1
           have f0:=df 0
           have f1:=df 1
           have f2:=df 2
           have f3:=df 3
           have f4:=df 4
           have f5:=df 5
           obtain ⟨e0,e1,e2,e3,e4,e5,_⟩:=cells6 u2
           have o0:U8.cell? ⟨mo,0,none⟩=some (.int .i64 kind):=by simp [World.cell?,u0]
           have o1:U8.cell? ⟨mo,1,none⟩=some (.int .i64 key):=by simp [World.cell?,u0]
           have o2:U8.cell? ⟨mo,2,none⟩=some (.int .i64 value):=by simp [World.cell?,u0]
           clear u0 u1 u2 df
           go_wp2
           refine bodyPost_ret (rcb rfl _ _ (mo+1) 61 _ _ _ rfl (put6 U2.out _ _ _ _ _ _).1 Tryz.underlying61 rfl info61) rfl ?_
           exact ⟨rfl,HFIN.out U8 _ sE G8.out (put6 U2.out _ _ _ _ _ _).2⟩
          ·have k2F:(kind != 2)=true:=by simp [k2]
           clear k2
           go_wp2_with (fail)
           refine (tally_r N _ r t3 la L lc es G6.out.at G6.out.ok (fun k h=>HYU.out k (Nat.le_trans T6.out.size h)) (HRU.out.turned T6.out (fun k _ ⟨ad,e,e'⟩ hk=>(HB.out ad e).1 (by rw [e',hk]))) HWD.out HLL.out hc hm (fun ad e=>(HB.out ad e).1) (by have:=G6.out.on.left;have:=HN.out;omega) (by have:=G6.out.on.left;have:=HL.out;omega) sE HZ5.out).mono ?_
           rintro e U8 ⟨rfl,GT⟩
           have G8:=gh (G6.out.trans GT)
           have T8:=gh (T6.out.trans GT.turned (fun _ e=>e) (fun _ _ e=>e))
           clear GT d0 d1 d2 d3 d4 d5 f0 f1 f2 f3 f4 f5 e0 e1 e2 e3 e4 e5 o0 o1 o2 U2
           obtain ⟨u0,u1,u2⟩:=HKP.out U8 T8.out
           have U2:=gh u1
           obtain ⟨d0,d1,d2,d3,d4,d5,df⟩:=cells6 u1
           have f0:=df 0
           have f1:=df 1
           have f2:=df 2
           have f3:=df 3
           have f4:=df 4
           have f5:=df 5
           obtain ⟨e0,e1,e2,e3,e4,e5,_⟩:=cells6 u2
           have o0:U8.cell? ⟨mo,0,none⟩=some (.int .i64 kind):=by simp [World.cell?,u0]
           have o1:U8.cell? ⟨mo,1,none⟩=some (.int .i64 key):=by simp [World.cell?,u0]
           have o2:U8.cell? ⟨mo,2,none⟩=some (.int .i64 value):=by simp [World.cell?,u0]
           clear u0 u1 u2 df
           go_wp2
           refine bodyPost_ret (rcb rfl _ _ (mo+1) 61 _ _ _ rfl (put6 U2.out _ _ _ _ _ _).1 Tryz.underlying61 rfl info61) rfl ?_
           exact ⟨rfl,HFIN.out U8 _ sE G8.out (put6 U2.out _ _ _ _ _ _).2⟩
         ·have g1:(zd == 1)=false:=by simp [z1]
          rw [show decide (zd=1)=false by simp [z1],if_neg (by rintro ⟨h,_⟩;exact z1 h)] at hz
          obtain ⟨hz1,rfl⟩:=Prod.mk.inj hz
          obtain ⟨rfl,rfl⟩:=Prod.mk.inj hz1
          clear hz hz1 HZ4 z1 z3
          obtain ⟨u0,u1,u2⟩:=HKP.out U5 T6.out
          have U2:=gh u1
          obtain ⟨d0,d1,d2,d3,d4,d5,df⟩:=cells6 u1
          have f0:=df 0
          have f1:=df 1
          have f2:=df 2
          have f3:=df 3
          have f4:=df 4
          have f5:=df 5
          obtain ⟨e0,e1,e2,e3,e4,e5,_⟩:=cells6 u2
          have o0:U5.cell? ⟨mo,0,none⟩=some (.int .i64 kind):=by simp [World.cell?,u0]
          have o1:U5.cell? ⟨mo,1,none⟩=some (.int .i64 key):=by simp [World.cell?,u0]
          have o2:U5.cell? ⟨mo,2,none⟩=some (.int .i64 value):=by simp [World.cell?,u0]
          clear u0 u1 u2 df
          go_wp2
          refine bodyPost_ret (rcb rfl _ _ (mo+1) 61 _ _ _ rfl (put6 U2.out _ _ _ _ _ _).1 Tryz.underlying61 rfl info61) rfl ?_
          exact ⟨rfl,HFIN.out U5 _ t3 G6.out (put6 U2.out _ _ _ _ _ _).2⟩
 ·have g1:(kk == 2)=false:=by simp [k2]
  have hz:=HE.out
  rw [if_neg (by rw [HK.out];exact k2)] at hz
  have HLB:=gh hz
  have HKP:=HKEEP
  have HYU:=HY
  have HRU:=HR
  have G1:Hid (Went Y W r s s V):=gh ((Went.refl H.out OK.out).behind KV.out)
  clear hz HE k2
  have cf:=G1.out.at.offs
  obtain ⟨u0,u1,u2⟩:=HKP.out V (Td.refl _ _)
  have U2:=gh u1
  obtain ⟨d0,d1,d2,d3,d4,d5,df⟩:=cells6 u1
  have f0:=df 0
  have f1:=df 1
  have f2:=df 2
  have f3:=df 3
  have f4:=df 4
  have f5:=df 5
  obtain ⟨e0,e1,e2,e3,e4,e5,_⟩:=cells6 u2
  have o0:V.cell? ⟨mo,0,none⟩=some (.int .i64 kind):=by simp [World.cell?,u0]
  have o1:V.cell? ⟨mo,1,none⟩=some (.int .i64 key):=by simp [World.cell?,u0]
  have o2:V.cell? ⟨mo,2,none⟩=some (.int .i64 value):=by simp [World.cell?,u0]
  clear u0 u1 u2 df
  cases hof:s.off with
  | true=>
   rw [hof] at cf
   have hz:=HLB.out
   unfold Rn.layB at hz
   rw [if_pos (.inl hof)] at hz
   obtain ⟨hz1,rfl⟩:=Prod.mk.inj hz
   obtain ⟨rfl,rfl⟩:=Prod.mk.inj hz1
   clear hz hz1 HLB hof
   go_wp2
   refine bodyPost_ret (rcb rfl _ _ (mo+1) 61 _ _ _ rfl (put6 U2.out _ _ _ _ _ _).1 Tryz.underlying61 rfl info61) rfl ?_
   exact ⟨rfl,HFIN.out V _ s G1.out (put6 U2.out _ _ _ _ _ _).2⟩
  | false=>
   rw [hof] at cf
   by_cases kE:kind=3
   ·have hz:=HLB.out
    unfold Rn.layB at hz
    rw [if_pos (.inr (.inr ⟨kE,rfl⟩))] at hz
    obtain ⟨hz1,rfl⟩:=Prod.mk.inj hz
    obtain ⟨rfl,rfl⟩:=Prod.mk.inj hz1
    clear hz hz1 HLB hof
    subst kE
    go_wp2
    refine bodyPost_ret (rcb rfl _ _ (mo+1) 61 _ _ _ rfl (put6 U2.out _ _ _ _ _ _).1 Tryz.underlying61 rfl info61) rfl ?_
    exact ⟨rfl,HFIN.out V _ s G1.out (put6 U2.out _ _ _ _ _ _).2⟩
   ·have hz:=HLB.out
    unfold Rn.layB at hz
    rw [if_neg (by rw [hof];simp [kE])] at hz
    obtain ⟨y,ok,t1,hfr⟩:∃ y ok t1,s.freshR kind key value w 0 false false=((y,ok),t1):=⟨_,_,_,rfl⟩
    rw [hfr] at hz
    dsimp only at hz
    have HZ:=gh hz
    have HFR:=gh hfr
    have ON1:Hid (Rn.On s t1):=gh (by have:=Rn.freshR_on s kind key value w 0 false false;rw [HFR.out] at this;exact this)
    have gE:(kind == 3)=false:=by simp [kE]
    have HKE:=gh kE
    clear hz hfr HLB hof kE
    by_cases kO:kind=1
    ·have kOT:(kind == 1)=true:=by simp [kO]
     clear kO
     go_wp2_with (fail)
     refine (fresh_r V r s kind key value w 0 false false G1.out.at G1.out.ok HYU.out y ok t1 HFR.out).mono ?_
     rintro e U3 ⟨rfl,GF⟩
     have G3:=gh (G1.out.trans GF)
     have T3:=gh GF.turned
     clear GF d0 d1 d2 d3 d4 d5 f0 f1 f2 f3 f4 f5 e0 e1 e2 e3 e4 e5 o0 o1 o2 U2
     cases ok with
     | false=>
      have hz:=HZ.out
      rw [if_pos rfl] at hz
      obtain ⟨hz1,rfl⟩:=Prod.mk.inj hz
      obtain ⟨rfl,rfl⟩:=Prod.mk.inj hz1
      clear hz hz1 HZ
      go_wp2_with (fail)
      refine (nomem_r U3).mono ?_
      rintro e U4 ⟨rfl,K4⟩
      have G4:=gh (⟨⟨G3.out.at.kept K4,Kept.behind G3.out.turned K4⟩,G3.out.on,G3.out.ok⟩:Went Y W r s t1 U4)
      obtain ⟨u0,u1,u2⟩:=HKP.out U4 (Kept.behind T3.out K4)
      have U2:=gh u1
      obtain ⟨d0,d1,d2,d3,d4,d5,df⟩:=cells6 u1
      have f0:=df 0
      have f1:=df 1
      have f2:=df 2
      have f3:=df 3
      have f4:=df 4
      have f5:=df 5
      obtain ⟨e0,e1,e2,e3,e4,e5,_⟩:=cells6 u2
      have o0:U4.cell? ⟨mo,0,none⟩=some (.int .i64 kind):=by simp [World.cell?,u0]
      have o1:U4.cell? ⟨mo,1,none⟩=some (.int .i64 key):=by simp [World.cell?,u0]
      have o2:U4.cell? ⟨mo,2,none⟩=some (.int .i64 value):=by simp [World.cell?,u0]
      clear u0 u1 u2 df
      clear K4
      unfold Rs.nomem Rs.cs
      go_wp2
      refine bodyPost_ret (rcb rfl _ _ (mo+1) 61 _ _ _ rfl (put6 U2.out _ _ _ _ _ _).1 Tryz.underlying61 rfl info61) rfl ?_
      exact ⟨rfl,HFIN.out U4 _ t1 G4.out (put6 U2.out _ _ _ _ _ _).2⟩
     | true=>
      have hz:=HZ.out
      rw [if_neg (by decide)] at hz
      have HZ1:=gh hz
      clear hz HZ
      obtain ⟨_,_,rf⟩:=G3.out.at.notes
      have r8:=rf 8
      obtain ⟨c8,_,_⟩:=G3.out.at.notes
      obtain ⟨zd,t3,hzd⟩:∃ zd t3,({ t1 with rc:=0 }:Rn).dcss (wrap64 (n+2)) sl w y=(zd,t3):=⟨_,_,rfl⟩
      have HZD:=gh hzd
      have hz:=HZ1.out
      rw [hzd] at hz
      dsimp only at hz
      have HZ2:=gh hz
      have R4:=G3.out.at.rc 0
      have G4:Hid (Went Y W r s { t1 with rc:=0 } (U3.setCell ⟨r,8,none⟩ (.int .i64 0))):=gh (G3.out.trans ⟨R4,Rn.rc_on _ _,G3.out.ok⟩)
      have T4:Hid (Td (fun k=>k=r) V (U3.setCell ⟨r,8,none⟩ (.int .i64 0))):=gh (T3.out.trans R4.2 (fun _ e=>e) (fun _ _ e=>e))
      clear rf hz hzd HZ1 R4
      go_wp2_with (fail)
      refine (dcss_r _ r _ _ sl w y G4.out.at (fun k h=>HYU.out k (Nat.le_trans T4.out.size h)) zd t3 HZD.out).mono ?_
      rintro e U5 ⟨rfl,R5⟩
      have G5:=gh (G4.out.trans (R5.moved_dcss G4.out.ok HZD.out))
      have T5:=gh (T4.out.trans R5.2 (fun _ e=>e) (fun _ _ e=>e))
      obtain ⟨n8,n9,nf⟩:=G5.out.at.notes
      have nf9:=nf 9
      clear R5 nf c8 r8
      have HZ3:=HZ2
      clear HZ2
      by_cases rc0:0 < t3.rc
      ·have hz:=HZ3.out
       rw [if_pos rc0] at hz
       obtain ⟨t4,ht4⟩:∃ t4,({ t3 with ld:=t3.rc }:Rn)=t4:=⟨_,rfl⟩
       rw [ht4] at hz
       have HZ4:=gh hz
       have R6:=G5.out.at.ld t3.rc
       obtain ⟨U6,hU6⟩:∃ U6,U5.setCell ⟨r,9,none⟩ (.int .i64 t3.rc)=U6:=⟨_,rfl⟩
       rw [hU6,ht4] at R6
       have G6:Hid (Went Y W r s t4 U6):=gh (G5.out.trans ⟨R6,by rw [← ht4];exact Rn.ld_on _ _,by rw [← ht4];exact G5.out.ok⟩)
       have T6:Hid (Td (fun k=>k=r) V U6):=gh (T5.out.trans R6.2 (fun _ e=>e) (fun _ _ e=>e))
       clear hz HZ3 R6 ht4
       by_cases z3:zd=3
       ·have hz:=HZ4.out
        rw [if_pos z3] at hz
        obtain ⟨hz1,rfl⟩:=Prod.mk.inj hz
        obtain ⟨rfl,rfl⟩:=Prod.mk.inj hz1
        clear hz hz1 HZ4
        subst z3
        go_wp2_with (fail)
        refine (nomem_r U6).mono ?_
        rintro e U7 ⟨rfl,K7⟩
        have G7:=gh (⟨⟨G6.out.at.kept K7,Kept.behind G6.out.turned K7⟩,G6.out.on,G6.out.ok⟩:Went Y W r s t4 U7)
        obtain ⟨u0,u1,u2⟩:=HKP.out U7 (Kept.behind T6.out K7)
        have U2:=gh u1
        obtain ⟨d0,d1,d2,d3,d4,d5,df⟩:=cells6 u1
        have f0:=df 0
        have f1:=df 1
        have f2:=df 2
        have f3:=df 3
        have f4:=df 4
        have f5:=df 5
        obtain ⟨e0,e1,e2,e3,e4,e5,_⟩:=cells6 u2
        have o0:U7.cell? ⟨mo,0,none⟩=some (.int .i64 kind):=by simp [World.cell?,u0]
        have o1:U7.cell? ⟨mo,1,none⟩=some (.int .i64 key):=by simp [World.cell?,u0]
        have o2:U7.cell? ⟨mo,2,none⟩=some (.int .i64 value):=by simp [World.cell?,u0]
        clear u0 u1 u2 df
        clear K7
        unfold Rs.nomem Rs.cs
        go_wp2
        refine bodyPost_ret (rcb rfl _ _ (mo+1) 61 _ _ _ rfl (put6 U2.out _ _ _ _ _ _).1 Tryz.underlying61 rfl info61) rfl ?_
        exact ⟨rfl,HFIN.out U7 _ t4 G7.out (put6 U2.out _ _ _ _ _ _).2⟩
       ·have hz:=HZ4.out
        rw [if_neg z3] at hz
        have g3:(zd == 3)=false:=by simp [z3]
        by_cases z1:zd=1
        ·subst z1
         rw [show decide ((1:Int)=1)=true from rfl] at hz
         rw [if_pos (by first | exact ⟨rfl,.inr rfl⟩ | simp)] at hz
         obtain ⟨hz1,hz2⟩:=Prod.mk.inj hz
         obtain ⟨rfl,rfl⟩:=Prod.mk.inj hz1
         have HZ5:=gh hz2
         clear hz hz1 hz2 HZ4
         obtain ⟨u0,u1,u2⟩:=HKP.out U6 T6.out
         have U2:=gh u1
         obtain ⟨d0,d1,d2,d3,d4,d5,df⟩:=cells6 u1
         have f0:=df 0
         have f1:=df 1
         have f2:=df 2
         have f3:=df 3
         have f4:=df 4
         have f5:=df 5
         obtain ⟨e0,e1,e2,e3,e4,e5,_⟩:=cells6 u2
         have o0:U6.cell? ⟨mo,0,none⟩=some (.int .i64 kind):=by simp [World.cell?,u0]
         have o1:U6.cell? ⟨mo,1,none⟩=some (.int .i64 key):=by simp [World.cell?,u0]
         have o2:U6.cell? ⟨mo,2,none⟩=some (.int .i64 value):=by simp [World.cell?,u0]
         clear u0 u1 u2 df
         by_cases k2:kind=2
         ·have k2F:(kind != 2)=false:=by simp [k2]
          clear k2
          go_wp2_with (fail)
          refine (tally_r N _ r t4 la L lc es G6.out.at G6.out.ok (fun k h=>HYU.out k (Nat.le_trans T6.out.size h)) (HRU.out.turned T6.out (fun k _ ⟨ad,e,e'⟩ hk=>(HB.out ad e).1 (by rw [e',hk]))) HWD.out HLL.out hc hm (fun ad e=>(HB.out ad e).1) (by have:=G6.out.on.left;have:=HN.out;omega) (by have:=G6.out.on.left;have:=HL.out;omega) sE HZ5.out).mono ?_
          rintro e U8 ⟨rfl,GT⟩
          have G8:=gh (G6.out.trans GT)
          have T8:=gh (T6.out.trans GT.turned (fun _ e=>e) (fun _ _ e=>e))
          clear GT d0 d1 d2 d3 d4 d5 f0 f1 f2 f3 f4 f5 e0 e1 e2 e3 e4 e5 o0 o1 o2 U2
          obtain ⟨u0,u1,u2⟩:=HKP.out U8 T8.out
          have U2:=gh u1
          obtain ⟨d0,d1,d2,d3,d4,d5,df⟩:=cells6 u1
          have f0:=df 0
          have f1:=df 1
          have f2:=df 2
          have f3:=df 3
          have f4:=df 4
          have f5:=df 5
          obtain ⟨e0,e1,e2,e3,e4,e5,_⟩:=cells6 u2
          have o0:U8.cell? ⟨mo,0,none⟩=some (.int .i64 kind):=by simp [World.cell?,u0]
          have o1:U8.cell? ⟨mo,1,none⟩=some (.int .i64 key):=by simp [World.cell?,u0]
          have o2:U8.cell? ⟨mo,2,none⟩=some (.int .i64 value):=by simp [World.cell?,u0]
          clear u0 u1 u2 df
          go_wp2
          refine bodyPost_ret (rcb rfl _ _ (mo+1) 61 _ _ _ rfl (put6 U2.out _ _ _ _ _ _).1 Tryz.underlying61 rfl info61) rfl ?_
          exact ⟨rfl,HFIN.out U8 _ sE G8.out (put6 U2.out _ _ _ _ _ _).2⟩
         ·have k2F:(kind != 2)=true:=by simp [k2]
          clear k2
          go_wp2_with (fail)
          refine (tally_r N _ r t4 la L lc es G6.out.at G6.out.ok (fun k h=>HYU.out k (Nat.le_trans T6.out.size h)) (HRU.out.turned T6.out (fun k _ ⟨ad,e,e'⟩ hk=>(HB.out ad e).1 (by rw [e',hk]))) HWD.out HLL.out hc hm (fun ad e=>(HB.out ad e).1) (by have:=G6.out.on.left;have:=HN.out;omega) (by have:=G6.out.on.left;have:=HL.out;omega) sE HZ5.out).mono ?_
          rintro e U8 ⟨rfl,GT⟩
          have G8:=gh (G6.out.trans GT)
          have T8:=gh (T6.out.trans GT.turned (fun _ e=>e) (fun _ _ e=>e))
          clear GT d0 d1 d2 d3 d4 d5 f0 f1 f2 f3 f4 f5 e0 e1 e2 e3 e4 e5 o0 o1 o2 U2
          obtain ⟨u0,u1,u2⟩:=HKP.out U8 T8.out
          have U2:=gh u1
          obtain ⟨d0,d1,d2,d3,d4,d5,df⟩:=cells6 u1
          have f0:=df 0
          have f1:=df 1
          have f2:=df 2
          have f3:=df 3
          have f4:=df 4
          have f5:=df 5
          obtain ⟨e0,e1,e2,e3,e4,e5,_⟩:=cells6 u2
          have o0:U8.cell? ⟨mo,0,none⟩=some (.int .i64 kind):=by simp [World.cell?,u0]
          have o1:U8.cell? ⟨mo,1,none⟩=some (.int .i64 key):=by simp [World.cell?,u0]
          have o2:U8.cell? ⟨mo,2,none⟩=some (.int .i64 value):=by simp [World.cell?,u0]
          clear u0 u1 u2 df
          go_wp2
          refine bodyPost_ret (rcb rfl _ _ (mo+1) 61 _ _ _ rfl (put6 U2.out _ _ _ _ _ _).1 Tryz.underlying61 rfl info61) rfl ?_
          exact ⟨rfl,HFIN.out U8 _ sE G8.out (put6 U2.out _ _ _ _ _ _).2⟩
        ·have g1:(zd == 1)=false:=by simp [z1]
         rw [show decide (zd=1)=false by simp [z1],if_neg (by rintro ⟨h,_⟩;exact z1 h)] at hz
         obtain ⟨hz1,rfl⟩:=Prod.mk.inj hz
         obtain ⟨rfl,rfl⟩:=Prod.mk.inj hz1
         clear hz hz1 HZ4 z1 z3
         obtain ⟨u0,u1,u2⟩:=HKP.out U6 T6.out
         have U2:=gh u1
         obtain ⟨d0,d1,d2,d3,d4,d5,df⟩:=cells6 u1
         have f0:=df 0
         have f1:=df 1
         have f2:=df 2
         have f3:=df 3
         have f4:=df 4
         have f5:=df 5
         obtain ⟨e0,e1,e2,e3,e4,e5,_⟩:=cells6 u2
         have o0:U6.cell? ⟨mo,0,none⟩=some (.int .i64 kind):=by simp [World.cell?,u0]
         have o1:U6.cell? ⟨mo,1,none⟩=some (.int .i64 key):=by simp [World.cell?,u0]
         have o2:U6.cell? ⟨mo,2,none⟩=some (.int .i64 value):=by simp [World.cell?,u0]
         clear u0 u1 u2 df
         go_wp2
         refine bodyPost_ret (rcb rfl _ _ (mo+1) 61 _ _ _ rfl (put6 U2.out _ _ _ _ _ _).1 Tryz.underlying61 rfl info61) rfl ?_
         exact ⟨rfl,HFIN.out U6 _ t4 G6.out (put6 U2.out _ _ _ _ _ _).2⟩
      ·have hz:=HZ3.out
       rw [if_neg rc0] at hz
       have HZ4:=gh hz
       have gr:decide (0 < t3.rc)=false:=by simp;omega
       have G6:=G5
       have T6:=T5
       clear hz HZ3 rc0
       by_cases z3:zd=3
       ·have hz:=HZ4.out
        rw [if_pos z3] at hz
        obtain ⟨hz1,rfl⟩:=Prod.mk.inj hz
        obtain ⟨rfl,rfl⟩:=Prod.mk.inj hz1
        clear hz hz1 HZ4
        subst z3
        go_wp2_with (fail)
        refine (nomem_r U5).mono ?_
        rintro e U7 ⟨rfl,K7⟩
        have G7:=gh (⟨⟨G6.out.at.kept K7,Kept.behind G6.out.turned K7⟩,G6.out.on,G6.out.ok⟩:Went Y W r s t3 U7)
        obtain ⟨u0,u1,u2⟩:=HKP.out U7 (Kept.behind T6.out K7)
        have U2:=gh u1
        obtain ⟨d0,d1,d2,d3,d4,d5,df⟩:=cells6 u1
        have f0:=df 0
        have f1:=df 1
        have f2:=df 2
        have f3:=df 3
        have f4:=df 4
        have f5:=df 5
        obtain ⟨e0,e1,e2,e3,e4,e5,_⟩:=cells6 u2
        have o0:U7.cell? ⟨mo,0,none⟩=some (.int .i64 kind):=by simp [World.cell?,u0]
        have o1:U7.cell? ⟨mo,1,none⟩=some (.int .i64 key):=by simp [World.cell?,u0]
        have o2:U7.cell? ⟨mo,2,none⟩=some (.int .i64 value):=by simp [World.cell?,u0]
        clear u0 u1 u2 df
        clear K7
        unfold Rs.nomem Rs.cs
        go_wp2
        refine bodyPost_ret (rcb rfl _ _ (mo+1) 61 _ _ _ rfl (put6 U2.out _ _ _ _ _ _).1 Tryz.underlying61 rfl info61) rfl ?_
        exact ⟨rfl,HFIN.out U7 _ t3 G7.out (put6 U2.out _ _ _ _ _ _).2⟩
       ·have hz:=HZ4.out
        rw [if_neg z3] at hz
        have g3:(zd == 3)=false:=by simp [z3]
        by_cases z1:zd=1
        ·subst z1
         rw [show decide ((1:Int)=1)=true from rfl] at hz
         rw [if_pos (by first | exact ⟨rfl,.inr rfl⟩ | simp)] at hz
         obtain ⟨hz1,hz2⟩:=Prod.mk.inj hz
         obtain ⟨rfl,rfl⟩:=Prod.mk.inj hz1
         have HZ5:=gh hz2
         clear hz hz1 hz2 HZ4
         obtain ⟨u0,u1,u2⟩:=HKP.out U5 T6.out
         have U2:=gh u1
         obtain ⟨d0,d1,d2,d3,d4,d5,df⟩:=cells6 u1
         have f0:=df 0
         have f1:=df 1
         have f2:=df 2
         have f3:=df 3
         have f4:=df 4
         have f5:=df 5
         obtain ⟨e0,e1,e2,e3,e4,e5,_⟩:=cells6 u2
         have o0:U5.cell? ⟨mo,0,none⟩=some (.int .i64 kind):=by simp [World.cell?,u0]
         have o1:U5.cell? ⟨mo,1,none⟩=some (.int .i64 key):=by simp [World.cell?,u0]
         have o2:U5.cell? ⟨mo,2,none⟩=some (.int .i64 value):=by simp [World.cell?,u0]
         clear u0 u1 u2 df
         by_cases k2:kind=2
         ·have k2F:(kind != 2)=false:=by simp [k2]
          clear k2
          go_wp2_with (fail)
          refine (tally_r N _ r t3 la L lc es G6.out.at G6.out.ok (fun k h=>HYU.out k (Nat.le_trans T6.out.size h)) (HRU.out.turned T6.out (fun k _ ⟨ad,e,e'⟩ hk=>(HB.out ad e).1 (by rw [e',hk]))) HWD.out HLL.out hc hm (fun ad e=>(HB.out ad e).1) (by have:=G6.out.on.left;have:=HN.out;omega) (by have:=G6.out.on.left;have:=HL.out;omega) sE HZ5.out).mono ?_
          rintro e U8 ⟨rfl,GT⟩
          have G8:=gh (G6.out.trans GT)
          have T8:=gh (T6.out.trans GT.turned (fun _ e=>e) (fun _ _ e=>e))
          clear GT d0 d1 d2 d3 d4 d5 f0 f1 f2 f3 f4 f5 e0 e1 e2 e3 e4 e5 o0 o1 o2 U2
          obtain ⟨u0,u1,u2⟩:=HKP.out U8 T8.out
          have U2:=gh u1
          obtain ⟨d0,d1,d2,d3,d4,d5,df⟩:=cells6 u1
          have f0:=df 0
          have f1:=df 1
          have f2:=df 2
          have f3:=df 3
          have f4:=df 4
          have f5:=df 5
          obtain ⟨e0,e1,e2,e3,e4,e5,_⟩:=cells6 u2
          have o0:U8.cell? ⟨mo,0,none⟩=some (.int .i64 kind):=by simp [World.cell?,u0]
          have o1:U8.cell? ⟨mo,1,none⟩=some (.int .i64 key):=by simp [World.cell?,u0]
          have o2:U8.cell? ⟨mo,2,none⟩=some (.int .i64 value):=by simp [World.cell?,u0]
          clear u0 u1 u2 df
          go_wp2
          refine bodyPost_ret (rcb rfl _ _ (mo+1) 61 _ _ _ rfl (put6 U2.out _ _ _ _ _ _).1 Tryz.underlying61 rfl info61) rfl ?_
          exact ⟨rfl,HFIN.out U8 _ sE G8.out (put6 U2.out _ _ _ _ _ _).2⟩
         ·have k2F:(kind != 2)=true:=by simp [k2]
          clear k2
          go_wp2_with (fail)
          refine (tally_r N _ r t3 la L lc es G6.out.at G6.out.ok (fun k h=>HYU.out k (Nat.le_trans T6.out.size h)) (HRU.out.turned T6.out (fun k _ ⟨ad,e,e'⟩ hk=>(HB.out ad e).1 (by rw [e',hk]))) HWD.out HLL.out hc hm (fun ad e=>(HB.out ad e).1) (by have:=G6.out.on.left;have:=HN.out;omega) (by have:=G6.out.on.left;have:=HL.out;omega) sE HZ5.out).mono ?_
          rintro e U8 ⟨rfl,GT⟩
          have G8:=gh (G6.out.trans GT)
          have T8:=gh (T6.out.trans GT.turned (fun _ e=>e) (fun _ _ e=>e))
          clear GT d0 d1 d2 d3 d4 d5 f0 f1 f2 f3 f4 f5 e0 e1 e2 e3 e4 e5 o0 o1 o2 U2
          obtain ⟨u0,u1,u2⟩:=HKP.out U8 T8.out
          have U2:=gh u1
          obtain ⟨d0,d1,d2,d3,d4,d5,df⟩:=cells6 u1
          have f0:=df 0
          have f1:=df 1
          have f2:=df 2
          have f3:=df 3
          have f4:=df 4
          have f5:=df 5
          obtain ⟨e0,e1,e2,e3,e4,e5,_⟩:=cells6 u2
          have o0:U8.cell? ⟨mo,0,none⟩=some (.int .i64 kind):=by simp [World.cell?,u0]
          have o1:U8.cell? ⟨mo,1,none⟩=some (.int .i64 key):=by simp [World.cell?,u0]
          have o2:U8.cell? ⟨mo,2,none⟩=some (.int .i64 value):=by simp [World.cell?,u0]
          clear u0 u1 u2 df
          go_wp2
          refine bodyPost_ret (rcb rfl _ _ (mo+1) 61 _ _ _ rfl (put6 U2.out _ _ _ _ _ _).1 Tryz.underlying61 rfl info61) rfl ?_
          exact ⟨rfl,HFIN.out U8 _ sE G8.out (put6 U2.out _ _ _ _ _ _).2⟩
        ·have g1:(zd == 1)=false:=by simp [z1]
         rw [show decide (zd=1)=false by simp [z1],if_neg (by rintro ⟨h,_⟩;exact z1 h)] at hz
         obtain ⟨hz1,rfl⟩:=Prod.mk.inj hz
         obtain ⟨rfl,rfl⟩:=Prod.mk.inj hz1
         clear hz hz1 HZ4 z1 z3
         obtain ⟨u0,u1,u2⟩:=HKP.out U5 T6.out
         have U2:=gh u1
         obtain ⟨d0,d1,d2,d3,d4,d5,df⟩:=cells6 u1
         have f0:=df 0
         have f1:=df 1
         have f2:=df 2
         have f3:=df 3
         have f4:=df 4
         have f5:=df 5
         obtain ⟨e0,e1,e2,e3,e4,e5,_⟩:=cells6 u2
         have o0:U5.cell? ⟨mo,0,none⟩=some (.int .i64 kind):=by simp [World.cell?,u0]
         have o1:U5.cell? ⟨mo,1,none⟩=some (.int .i64 key):=by simp [World.cell?,u0]
         have o2:U5.cell? ⟨mo,2,none⟩=some (.int .i64 value):=by simp [World.cell?,u0]
         clear u0 u1 u2 df
         go_wp2
         refine bodyPost_ret (rcb rfl _ _ (mo+1) 61 _ _ _ rfl (put6 U2.out _ _ _ _ _ _).1 Tryz.underlying61 rfl info61) rfl ?_
         exact ⟨rfl,HFIN.out U5 _ t3 G6.out (put6 U2.out _ _ _ _ _ _).2⟩
    ·have kOF:(kind == 1)=false:=by simp [kO]
     clear kO
     go_wp2_with (fail)
     refine (fresh_r V r s kind key value w 0 false false G1.out.at G1.out.ok HYU.out y ok t1 HFR.out).mono ?_
     rintro e U3 ⟨rfl,GF⟩
     have G3:=gh (G1.out.trans GF)
     have T3:=gh GF.turned
     clear GF d0 d1 d2 d3 d4 d5 f0 f1 f2 f3 f4 f5 e0 e1 e2 e3 e4 e5 o0 o1 o2 U2
     cases ok with
     | false=>
      have hz:=HZ.out
      rw [if_pos rfl] at hz
      obtain ⟨hz1,rfl⟩:=Prod.mk.inj hz
      obtain ⟨rfl,rfl⟩:=Prod.mk.inj hz1
      clear hz hz1 HZ
      go_wp2_with (fail)
      refine (nomem_r U3).mono ?_
      rintro e U4 ⟨rfl,K4⟩
      have G4:=gh (⟨⟨G3.out.at.kept K4,Kept.behind G3.out.turned K4⟩,G3.out.on,G3.out.ok⟩:Went Y W r s t1 U4)
      obtain ⟨u0,u1,u2⟩:=HKP.out U4 (Kept.behind T3.out K4)
      have U2:=gh u1
      obtain ⟨d0,d1,d2,d3,d4,d5,df⟩:=cells6 u1
      have f0:=df 0
      have f1:=df 1
      have f2:=df 2
      have f3:=df 3
      have f4:=df 4
      have f5:=df 5
      obtain ⟨e0,e1,e2,e3,e4,e5,_⟩:=cells6 u2
      have o0:U4.cell? ⟨mo,0,none⟩=some (.int .i64 kind):=by simp [World.cell?,u0]
      have o1:U4.cell? ⟨mo,1,none⟩=some (.int .i64 key):=by simp [World.cell?,u0]
      have o2:U4.cell? ⟨mo,2,none⟩=some (.int .i64 value):=by simp [World.cell?,u0]
      clear u0 u1 u2 df
      clear K4
      unfold Rs.nomem Rs.cs
      go_wp2
      refine bodyPost_ret (rcb rfl _ _ (mo+1) 61 _ _ _ rfl (put6 U2.out _ _ _ _ _ _).1 Tryz.underlying61 rfl info61) rfl ?_
      exact ⟨rfl,HFIN.out U4 _ t1 G4.out (put6 U2.out _ _ _ _ _ _).2⟩
     | true=>
      have hz:=HZ.out
      rw [if_neg (by decide)] at hz
      have HZ1:=gh hz
      clear hz HZ
      obtain ⟨_,_,rf⟩:=G3.out.at.notes
      have r8:=rf 8
      obtain ⟨c8,_,_⟩:=G3.out.at.notes
      obtain ⟨zd,t3,hzd⟩:∃ zd t3,({ t1 with rc:=0 }:Rn).dcss (wrap64 (n+2)) sl w y=(zd,t3):=⟨_,_,rfl⟩
      have HZD:=gh hzd
      have hz:=HZ1.out
      rw [hzd] at hz
      dsimp only at hz
      have HZ2:=gh hz
      have R4:=G3.out.at.rc 0
      have G4:Hid (Went Y W r s { t1 with rc:=0 } (U3.setCell ⟨r,8,none⟩ (.int .i64 0))):=gh (G3.out.trans ⟨R4,Rn.rc_on _ _,G3.out.ok⟩)
      have T4:Hid (Td (fun k=>k=r) V (U3.setCell ⟨r,8,none⟩ (.int .i64 0))):=gh (T3.out.trans R4.2 (fun _ e=>e) (fun _ _ e=>e))
      clear rf hz hzd HZ1 R4
      go_wp2_with (fail)
      refine (dcss_r _ r _ _ sl w y G4.out.at (fun k h=>HYU.out k (Nat.le_trans T4.out.size h)) zd t3 HZD.out).mono ?_
      rintro e U5 ⟨rfl,R5⟩
      have G5:=gh (G4.out.trans (R5.moved_dcss G4.out.ok HZD.out))
      have T5:=gh (T4.out.trans R5.2 (fun _ e=>e) (fun _ _ e=>e))
      obtain ⟨n8,n9,nf⟩:=G5.out.at.notes
      have nf9:=nf 9
      clear R5 nf c8 r8
      have HZ3:=HZ2
      clear HZ2
      by_cases rc0:0 < t3.rc
      ·have hz:=HZ3.out
       rw [if_pos rc0] at hz
       obtain ⟨t4,ht4⟩:∃ t4,({ t3 with ld:=t3.rc }:Rn)=t4:=⟨_,rfl⟩
       rw [ht4] at hz
       have HZ4:=gh hz
       have R6:=G5.out.at.ld t3.rc
       obtain ⟨U6,hU6⟩:∃ U6,U5.setCell ⟨r,9,none⟩ (.int .i64 t3.rc)=U6:=⟨_,rfl⟩
       rw [hU6,ht4] at R6
       have G6:Hid (Went Y W r s t4 U6):=gh (G5.out.trans ⟨R6,by rw [← ht4];exact Rn.ld_on _ _,by rw [← ht4];exact G5.out.ok⟩)
       have T6:Hid (Td (fun k=>k=r) V U6):=gh (T5.out.trans R6.2 (fun _ e=>e) (fun _ _ e=>e))
       clear hz HZ3 R6 ht4
       by_cases z3:zd=3
       ·have hz:=HZ4.out
        rw [if_pos z3] at hz
        obtain ⟨hz1,rfl⟩:=Prod.mk.inj hz
        obtain ⟨rfl,rfl⟩:=Prod.mk.inj hz1
        clear hz hz1 HZ4
        subst z3
        go_wp2_with (fail)
        refine (nomem_r U6).mono ?_
        rintro e U7 ⟨rfl,K7⟩
        have G7:=gh (⟨⟨G6.out.at.kept K7,Kept.behind G6.out.turned K7⟩,G6.out.on,G6.out.ok⟩:Went Y W r s t4 U7)
        obtain ⟨u0,u1,u2⟩:=HKP.out U7 (Kept.behind T6.out K7)
        have U2:=gh u1
        obtain ⟨d0,d1,d2,d3,d4,d5,df⟩:=cells6 u1
        have f0:=df 0
        have f1:=df 1
        have f2:=df 2
        have f3:=df 3
        have f4:=df 4
        have f5:=df 5
        obtain ⟨e0,e1,e2,e3,e4,e5,_⟩:=cells6 u2
        have o0:U7.cell? ⟨mo,0,none⟩=some (.int .i64 kind):=by simp [World.cell?,u0]
        have o1:U7.cell? ⟨mo,1,none⟩=some (.int .i64 key):=by simp [World.cell?,u0]
        have o2:U7.cell? ⟨mo,2,none⟩=some (.int .i64 value):=by simp [World.cell?,u0]
        clear u0 u1 u2 df
        clear K7
        unfold Rs.nomem Rs.cs
        go_wp2
        refine bodyPost_ret (rcb rfl _ _ (mo+1) 61 _ _ _ rfl (put6 U2.out _ _ _ _ _ _).1 Tryz.underlying61 rfl info61) rfl ?_
        exact ⟨rfl,HFIN.out U7 _ t4 G7.out (put6 U2.out _ _ _ _ _ _).2⟩
       ·have hz:=HZ4.out
        rw [if_neg z3] at hz
        have g3:(zd == 3)=false:=by simp [z3]
        by_cases z1:zd=1
        ·subst z1
         rw [show decide ((1:Int)=1)=true from rfl] at hz
         rw [if_pos (by first | exact ⟨rfl,.inr rfl⟩ | simp)] at hz
         obtain ⟨hz1,hz2⟩:=Prod.mk.inj hz
         obtain ⟨rfl,rfl⟩:=Prod.mk.inj hz1
         have HZ5:=gh hz2
         clear hz hz1 hz2 HZ4
         obtain ⟨u0,u1,u2⟩:=HKP.out U6 T6.out
         have U2:=gh u1
         obtain ⟨d0,d1,d2,d3,d4,d5,df⟩:=cells6 u1
         have f0:=df 0
         have f1:=df 1
         have f2:=df 2
         have f3:=df 3
         have f4:=df 4
         have f5:=df 5
         obtain ⟨e0,e1,e2,e3,e4,e5,_⟩:=cells6 u2
         have o0:U6.cell? ⟨mo,0,none⟩=some (.int .i64 kind):=by simp [World.cell?,u0]
         have o1:U6.cell? ⟨mo,1,none⟩=some (.int .i64 key):=by simp [World.cell?,u0]
         have o2:U6.cell? ⟨mo,2,none⟩=some (.int .i64 value):=by simp [World.cell?,u0]
         clear u0 u1 u2 df
         by_cases k2:kind=2
         ·have k2F:(kind != 2)=false:=by simp [k2]
          clear k2
          go_wp2_with (fail)
          refine (tally_r N _ r t4 la L lc es G6.out.at G6.out.ok (fun k h=>HYU.out k (Nat.le_trans T6.out.size h)) (HRU.out.turned T6.out (fun k _ ⟨ad,e,e'⟩ hk=>(HB.out ad e).1 (by rw [e',hk]))) HWD.out HLL.out hc hm (fun ad e=>(HB.out ad e).1) (by have:=G6.out.on.left;have:=HN.out;omega) (by have:=G6.out.on.left;have:=HL.out;omega) sE HZ5.out).mono ?_
          rintro e U8 ⟨rfl,GT⟩
          have G8:=gh (G6.out.trans GT)
          have T8:=gh (T6.out.trans GT.turned (fun _ e=>e) (fun _ _ e=>e))
          clear GT d0 d1 d2 d3 d4 d5 f0 f1 f2 f3 f4 f5 e0 e1 e2 e3 e4 e5 o0 o1 o2 U2
          obtain ⟨u0,u1,u2⟩:=HKP.out U8 T8.out
          have U2:=gh u1
          obtain ⟨d0,d1,d2,d3,d4,d5,df⟩:=cells6 u1
          have f0:=df 0
          have f1:=df 1
          have f2:=df 2
          have f3:=df 3
          have f4:=df 4
          have f5:=df 5
          obtain ⟨e0,e1,e2,e3,e4,e5,_⟩:=cells6 u2
          have o0:U8.cell? ⟨mo,0,none⟩=some (.int .i64 kind):=by simp [World.cell?,u0]
          have o1:U8.cell? ⟨mo,1,none⟩=some (.int .i64 key):=by simp [World.cell?,u0]
          have o2:U8.cell? ⟨mo,2,none⟩=some (.int .i64 value):=by simp [World.cell?,u0]
          clear u0 u1 u2 df
          go_wp2
          refine bodyPost_ret (rcb rfl _ _ (mo+1) 61 _ _ _ rfl (put6 U2.out _ _ _ _ _ _).1 Tryz.underlying61 rfl info61) rfl ?_
          exact ⟨rfl,HFIN.out U8 _ sE G8.out (put6 U2.out _ _ _ _ _ _).2⟩
         ·have k2F:(kind != 2)=true:=by simp [k2]
          clear k2
          go_wp2_with (fail)
          refine (tally_r N _ r t4 la L lc es G6.out.at G6.out.ok (fun k h=>HYU.out k (Nat.le_trans T6.out.size h)) (HRU.out.turned T6.out (fun k _ ⟨ad,e,e'⟩ hk=>(HB.out ad e).1 (by rw [e',hk]))) HWD.out HLL.out hc hm (fun ad e=>(HB.out ad e).1) (by have:=G6.out.on.left;have:=HN.out;omega) (by have:=G6.out.on.left;have:=HL.out;omega) sE HZ5.out).mono ?_
          rintro e U8 ⟨rfl,GT⟩
          have G8:=gh (G6.out.trans GT)
          have T8:=gh (T6.out.trans GT.turned (fun _ e=>e) (fun _ _ e=>e))
          clear GT d0 d1 d2 d3 d4 d5 f0 f1 f2 f3 f4 f5 e0 e1 e2 e3 e4 e5 o0 o1 o2 U2
          obtain ⟨u0,u1,u2⟩:=HKP.out U8 T8.out
          have U2:=gh u1
          obtain ⟨d0,d1,d2,d3,d4,d5,df⟩:=cells6 u1
          have f0:=df 0
          have f1:=df 1
          have f2:=df 2
          have f3:=df 3
          have f4:=df 4
          have f5:=df 5
          obtain ⟨e0,e1,e2,e3,e4,e5,_⟩:=cells6 u2
          have o0:U8.cell? ⟨mo,0,none⟩=some (.int .i64 kind):=by simp [World.cell?,u0]
          have o1:U8.cell? ⟨mo,1,none⟩=some (.int .i64 key):=by simp [World.cell?,u0]
          have o2:U8.cell? ⟨mo,2,none⟩=some (.int .i64 value):=by simp [World.cell?,u0]
          clear u0 u1 u2 df
          go_wp2
          refine bodyPost_ret (rcb rfl _ _ (mo+1) 61 _ _ _ rfl (put6 U2.out _ _ _ _ _ _).1 Tryz.underlying61 rfl info61) rfl ?_
          exact ⟨rfl,HFIN.out U8 _ sE G8.out (put6 U2.out _ _ _ _ _ _).2⟩
        ·have g1:(zd == 1)=false:=by simp [z1]
         rw [show decide (zd=1)=false by simp [z1],if_neg (by rintro ⟨h,_⟩;exact z1 h)] at hz
         obtain ⟨hz1,rfl⟩:=Prod.mk.inj hz
         obtain ⟨rfl,rfl⟩:=Prod.mk.inj hz1
         clear hz hz1 HZ4 z1 z3
         obtain ⟨u0,u1,u2⟩:=HKP.out U6 T6.out
         have U2:=gh u1
         obtain ⟨d0,d1,d2,d3,d4,d5,df⟩:=cells6 u1
         have f0:=df 0
         have f1:=df 1
         have f2:=df 2
         have f3:=df 3
         have f4:=df 4
         have f5:=df 5
         obtain ⟨e0,e1,e2,e3,e4,e5,_⟩:=cells6 u2
         have o0:U6.cell? ⟨mo,0,none⟩=some (.int .i64 kind):=by simp [World.cell?,u0]
         have o1:U6.cell? ⟨mo,1,none⟩=some (.int .i64 key):=by simp [World.cell?,u0]
         have o2:U6.cell? ⟨mo,2,none⟩=some (.int .i64 value):=by simp [World.cell?,u0]
         clear u0 u1 u2 df
         go_wp2
         refine bodyPost_ret (rcb rfl _ _ (mo+1) 61 _ _ _ rfl (put6 U2.out _ _ _ _ _ _).1 Tryz.underlying61 rfl info61) rfl ?_
         exact ⟨rfl,HFIN.out U6 _ t4 G6.out (put6 U2.out _ _ _ _ _ _).2⟩
      ·have hz:=HZ3.out
       rw [if_neg rc0] at hz
       have HZ4:=gh hz
       have gr:decide (0 < t3.rc)=false:=by simp;omega
       have G6:=G5
       have T6:=T5
       clear hz HZ3 rc0
       by_cases z3:zd=3
       ·have hz:=HZ4.out
        rw [if_pos z3] at hz
        obtain ⟨hz1,rfl⟩:=Prod.mk.inj hz
        obtain ⟨rfl,rfl⟩:=Prod.mk.inj hz1
        clear hz hz1 HZ4
        subst z3
        go_wp2_with (fail)
        refine (nomem_r U5).mono ?_
        rintro e U7 ⟨rfl,K7⟩
        have G7:=gh (⟨⟨G6.out.at.kept K7,Kept.behind G6.out.turned K7⟩,G6.out.on,G6.out.ok⟩:Went Y W r s t3 U7)
        obtain ⟨u0,u1,u2⟩:=HKP.out U7 (Kept.behind T6.out K7)
        have U2:=gh u1
        obtain ⟨d0,d1,d2,d3,d4,d5,df⟩:=cells6 u1
        have f0:=df 0
        have f1:=df 1
        have f2:=df 2
        have f3:=df 3
        have f4:=df 4
        have f5:=df 5
        obtain ⟨e0,e1,e2,e3,e4,e5,_⟩:=cells6 u2
        have o0:U7.cell? ⟨mo,0,none⟩=some (.int .i64 kind):=by simp [World.cell?,u0]
        have o1:U7.cell? ⟨mo,1,none⟩=some (.int .i64 key):=by simp [World.cell?,u0]
        have o2:U7.cell? ⟨mo,2,none⟩=some (.int .i64 value):=by simp [World.cell?,u0]
        clear u0 u1 u2 df
        clear K7
        unfold Rs.nomem Rs.cs
        go_wp2
        refine bodyPost_ret (rcb rfl _ _ (mo+1) 61 _ _ _ rfl (put6 U2.out _ _ _ _ _ _).1 Tryz.underlying61 rfl info61) rfl ?_
        exact ⟨rfl,HFIN.out U7 _ t3 G7.out (put6 U2.out _ _ _ _ _ _).2⟩
       ·have hz:=HZ4.out
        rw [if_neg z3] at hz
        have g3:(zd == 3)=false:=by simp [z3]
        by_cases z1:zd=1
        ·subst z1
         rw [show decide ((1:Int)=1)=true from rfl] at hz
         rw [if_pos (by first | exact ⟨rfl,.inr rfl⟩ | simp)] at hz
         obtain ⟨hz1,hz2⟩:=Prod.mk.inj hz
         obtain ⟨rfl,rfl⟩:=Prod.mk.inj hz1
         have HZ5:=gh hz2
         clear hz hz1 hz2 HZ4
         obtain ⟨u0,u1,u2⟩:=HKP.out U5 T6.out
         have U2:=gh u1
         obtain ⟨d0,d1,d2,d3,d4,d5,df⟩:=cells6 u1
         have f0:=df 0
         have f1:=df 1
         have f2:=df 2
         have f3:=df 3
         have f4:=df 4
         have f5:=df 5
         obtain ⟨e0,e1,e2,e3,e4,e5,_⟩:=cells6 u2
         have o0:U5.cell? ⟨mo,0,none⟩=some (.int .i64 kind):=by simp [World.cell?,u0]
         have o1:U5.cell? ⟨mo,1,none⟩=some (.int .i64 key):=by simp [World.cell?,u0]
         have o2:U5.cell? ⟨mo,2,none⟩=some (.int .i64 value):=by simp [World.cell?,u0]
         clear u0 u1 u2 df
         by_cases k2:kind=2
         ·have k2F:(kind != 2)=false:=by simp [k2]
          clear k2
          go_wp2_with (fail)
          refine (tally_r N _ r t3 la L lc es G6.out.at G6.out.ok (fun k h=>HYU.out k (Nat.le_trans T6.out.size h)) (HRU.out.turned T6.out (fun k _ ⟨ad,e,e'⟩ hk=>(HB.out ad e).1 (by rw [e',hk]))) HWD.out HLL.out hc hm (fun ad e=>(HB.out ad e).1) (by have:=G6.out.on.left;have:=HN.out;omega) (by have:=G6.out.on.left;have:=HL.out;omega) sE HZ5.out).mono ?_
          rintro e U8 ⟨rfl,GT⟩
          have G8:=gh (G6.out.trans GT)
          have T8:=gh (T6.out.trans GT.turned (fun _ e=>e) (fun _ _ e=>e))
          clear GT d0 d1 d2 d3 d4 d5 f0 f1 f2 f3 f4 f5 e0 e1 e2 e3 e4 e5 o0 o1 o2 U2
          obtain ⟨u0,u1,u2⟩:=HKP.out U8 T8.out
          have U2:=gh u1
          obtain ⟨d0,d1,d2,d3,d4,d5,df⟩:=cells6 u1
          have f0:=df 0
          have f1:=df 1
          have f2:=df 2
          have f3:=df 3
          have f4:=df 4
          have f5:=df 5
          obtain ⟨e0,e1,e2,e3,e4,e5,_⟩:=cells6 u2
          have o0:U8.cell? ⟨mo,0,none⟩=some (.int .i64 kind):=by simp [World.cell?,u0]
          have o1:U8.cell? ⟨mo,1,none⟩=some (.int .i64 key):=by simp [World.cell?,u0]
          have o2:U8.cell? ⟨mo,2,none⟩=some (.int .i64 value):=by simp [World.cell?,u0]
          clear u0 u1 u2 df
          go_wp2
          refine bodyPost_ret (rcb rfl _ _ (mo+1) 61 _ _ _ rfl (put6 U2.out _ _ _ _ _ _).1 Tryz.underlying61 rfl info61) rfl ?_
          exact ⟨rfl,HFIN.out U8 _ sE G8.out (put6 U2.out _ _ _ _ _ _).2⟩
         ·have k2F:(kind != 2)=true:=by simp [k2]
          clear k2
          go_wp2_with (fail)
          refine (tally_r N _ r t3 la L lc es G6.out.at G6.out.ok (fun k h=>HYU.out k (Nat.le_trans T6.out.size h)) (HRU.out.turned T6.out (fun k _ ⟨ad,e,e'⟩ hk=>(HB.out ad e).1 (by rw [e',hk]))) HWD.out HLL.out hc hm (fun ad e=>(HB.out ad e).1) (by have:=G6.out.on.left;have:=HN.out;omega) (by have:=G6.out.on.left;have:=HL.out;omega) sE HZ5.out).mono ?_
          rintro e U8 ⟨rfl,GT⟩
          have G8:=gh (G6.out.trans GT)
          have T8:=gh (T6.out.trans GT.turned (fun _ e=>e) (fun _ _ e=>e))
          clear GT d0 d1 d2 d3 d4 d5 f0 f1 f2 f3 f4 f5 e0 e1 e2 e3 e4 e5 o0 o1 o2 U2
          obtain ⟨u0,u1,u2⟩:=HKP.out U8 T8.out
          have U2:=gh u1
          obtain ⟨d0,d1,d2,d3,d4,d5,df⟩:=cells6 u1
          have f0:=df 0
          have f1:=df 1
          have f2:=df 2
          have f3:=df 3
          have f4:=df 4
          have f5:=df 5
          obtain ⟨e0,e1,e2,e3,e4,e5,_⟩:=cells6 u2
          have o0:U8.cell? ⟨mo,0,none⟩=some (.int .i64 kind):=by simp [World.cell?,u0]
          have o1:U8.cell? ⟨mo,1,none⟩=some (.int .i64 key):=by simp [World.cell?,u0]
          have o2:U8.cell? ⟨mo,2,none⟩=some (.int .i64 value):=by simp [World.cell?,u0]
          clear u0 u1 u2 df
          go_wp2
          refine bodyPost_ret (rcb rfl _ _ (mo+1) 61 _ _ _ rfl (put6 U2.out _ _ _ _ _ _).1 Tryz.underlying61 rfl info61) rfl ?_
          exact ⟨rfl,HFIN.out U8 _ sE G8.out (put6 U2.out _ _ _ _ _ _).2⟩
        ·have g1:(zd == 1)=false:=by simp [z1]
         rw [show decide (zd=1)=false by simp [z1],if_neg (by rintro ⟨h,_⟩;exact z1 h)] at hz
         obtain ⟨hz1,rfl⟩:=Prod.mk.inj hz
         obtain ⟨rfl,rfl⟩:=Prod.mk.inj hz1
         clear hz hz1 HZ4 z1 z3
         obtain ⟨u0,u1,u2⟩:=HKP.out U5 T6.out
         have U2:=gh u1
         obtain ⟨d0,d1,d2,d3,d4,d5,df⟩:=cells6 u1
         have f0:=df 0
         have f1:=df 1
         have f2:=df 2
         have f3:=df 3
         have f4:=df 4
         have f5:=df 5
         obtain ⟨e0,e1,e2,e3,e4,e5,_⟩:=cells6 u2
         have o0:U5.cell? ⟨mo,0,none⟩=some (.int .i64 kind):=by simp [World.cell?,u0]
         have o1:U5.cell? ⟨mo,1,none⟩=some (.int .i64 key):=by simp [World.cell?,u0]
         have o2:U5.cell? ⟨mo,2,none⟩=some (.int .i64 value):=by simp [World.cell?,u0]
         clear u0 u1 u2 df
         go_wp2
         refine bodyPost_ret (rcb rfl _ _ (mo+1) 61 _ _ _ rfl (put6 U2.out _ _ _ _ _ _).1 Tryz.underlying61 rfl info61) rfl ?_
         exact ⟨rfl,HFIN.out U5 _ t3 G6.out (put6 U2.out _ _ _ _ _ _).2⟩
end
section
open Go.Shelf
variable {X:Nat→Prop} {lo:Nat}
namespace Rn
def attemptL (N:Nat) (kind key value:Int):Nat→Int→List En→Rn→(Rs × Bool) × Rn
 | 0,_,_,s=>((Rs.none,true),s)
 | c+1,n,es,s=>
  if s.off=true then ((Rs.none,true),s)
  else
   let z:=s.child n key
   let w:=z.2.slot z.1
   if kd w.1=4 then
    let y:=renewR N w.2 (ad w.1)
    if y.1=false then ((Rs.nomem,true),y.2) else ((Rs.none,false),y.2)
   else if kd w.1=3 then attemptL N kind key value c (ad w.1) (es++[⟨n,z.1,w.1⟩]) w.2
   else layR N w.2 kind key value n z.1 w.1 es
variable {N:Nat} {kind key value n z w:Int} {c:Nat} {es:List En} {s t u v:Rn}
theorem attemptL_off (h:s.off=true):attemptL N kind key value c n es s=((Rs.none,true),s):=by
 cases c with
 | zero=>rfl
 | succ c=>rw [attemptL,if_pos h]
theorem attemptL_4 {b:Bool} (h:s.off=false) (e1:s.child n key=(z,t)) (e2:t.slot z=(w,u)) (k:kd w=4) (e3:renewR N u (ad w)=(b,v)):attemptL N kind key value (c+1) n es s=if b=false then ((Rs.nomem,true),v) else ((Rs.none,false),v):=by
 rw [attemptL,if_neg (by rw [h];decide),e1]
 dsimp only
 rw [e2]
 dsimp only
 rw [if_pos k,e3]
theorem attemptL_3 (h:s.off=false) (e1:s.child n key=(z,t)) (e2:t.slot z=(w,u)) (k:kd w=3):attemptL N kind key value (c+1) n es s=attemptL N kind key value c (ad w) (es++[⟨n,z,w⟩]) u:=by
 rw [attemptL,if_neg (by rw [h];decide),e1]
 dsimp only
 rw [e2]
 dsimp only
 rw [if_neg (by rw [k];decide),if_pos k]
theorem attemptL_0 (h:s.off=false) (e1:s.child n key=(z,t)) (e2:t.slot z=(w,u)) (k4:kd w≠4) (k3:kd w≠3):attemptL N kind key value (c+1) n es s=layR N u kind key value n z w es:=by
 rw [attemptL,if_neg (by rw [h];decide),e1]
 dsimp only
 rw [e2]
 dsimp only
 rw [if_neg k4,if_neg k3]
end Rn
theorem Gath.grownE {W W':World} {r:Nat} {s:Rn} {v:Value} {xs:List En} (hX:∀ k,X k→k < lo) (h:RunAt X W r s) (ho:s.ok) (hr:ERow W lo v xs) (tmp:Obj) (hg:(W.alloc tmp).grownBy W' v.ownBlock):Gath X lo W r s s W':=by
 have t0:Td (fun k=>lo≤k) W (W.alloc tmp):=Td.alloc _ _ _
 have t1:Td (fun k=>lo≤k) (W.alloc tmp) W':=Td.of_grownBy hg (fun k e=>hr.own k e)
 have t:=t0.trans t1 (fun _ e=>e) (fun _ _ e=>e)
 exact ⟨h.above t (fun k h1 h2=>by have:=hX k h1;omega),t.mono (fun _ _ e=>.inr e),Rn.On.refl s,ho⟩
theorem ERow.ran {W W':World} {r:Nat} {v:Value} {xs:List En} (h:ERow W lo v xs) (t:Td (fun k=>k=r) W W') (hr:r < lo):ERow W' lo v xs:=
 h.turned t (fun g e hg=>by have:=h.own g e;omega)
set_option maxRecDepth 100000 in
set_option maxHeartbeats 4000000 in
theorem attempt_r (N:Nat) (W:World) (r:Nat) (s:Rn) (kind key value:Int) (h:RunAt X W r s) (ho:s.ok) (hX:∀ k,W.heap.size≤k→X k) (ik:I64 key) (hN:s.left < N) (hl:s.left≤16384) (x:Rs) (bE:Bool) (sE:Rn) (he:Rn.attemptL N kind key value (s.left+1) 1 [] s=((x,bE),sE)) :
  Calls Tryz.prog 197 #[.pointer (some ⟨r,0,none⟩),.agg #[.int .i64 kind,.int .i64 key,.int .i64 value]] W fun e W'=>e=.returned (.tuple #[.agg (x.cs (.slice none 0 0)),.bool bE])∧Went X W r s sE W'∧(s.off=false→sE.left < s.left):=by
 obtain ⟨V,hV⟩:∃ V,(W.alloc (.cells #[.int .i64 kind,.int .i64 key,.int .i64 value] 52)).alloc (.cells #[.int .i64 0,.bool false,.int .i64 0,.int .i64 0,.int .i64 0,.slice none 0 0] 61)=V:=⟨_,rfl⟩
 obtain ⟨mo,hmo⟩:∃ m,W.heap.size=m:=⟨_,rfl⟩
 have k1:Kept W V:=by rw [← hV];exact (Kept.alloc (Kept.refl W) _).alloc _
 have b0:V.heap[mo]? = some (.cells #[.int .i64 kind,.int .i64 key,.int .i64 value] 52):=by
  rw [← hV,← hmo]
  exact (Td.alloc (fun _=>False) (W.alloc _) _).heap (heap_new _ _) id
 have b1:V.heap[mo+1]? = some (.cells #[.int .i64 0,.bool false,.int .i64 0,.int .i64 0,.int .i64 0,.slice none 0 0] 61):=by
  rw [← hV,← hmo]
  exact heap_alloc2_new _ _ _
 have s2:V.heap.size=mo+2:=by rw [← hV,← hmo];simp
 have hlt:=h.lt
 have HV:=gh hV
 have KV:=gh k1
 have HRM:Hid (r < mo∧W.heap.size=mo∧V.heap.size=mo+2):=gh ⟨by omega,hmo,s2⟩
 have B0:=gh b0
 have B1:=gh b1
 have HX:=gh hX
 have H:Hid (RunAt (fun k=>X k∧k < mo) V r s):=gh ((h.to (Y:=fun k=>X k∧k < mo) (fun k a b=>⟨a,by omega⟩)).kept k1)
 have OK:=gh ho
 have IK:=gh ik
 have HN:=gh hN
 have HL:=gh hl
 have HE:=gh he
 have KEEP:∀ U:World,Td (fun k=>k=r∨mo+2≤k) V U→U.heap[mo]? = some (.cells #[.int .i64 kind,.int .i64 key,.int .i64 value] 52)∧U.heap[mo+1]? = some (.cells #[.int .i64 0,.bool false,.int .i64 0,.int .i64 0,.int .i64 0,.slice none 0 0] 61):=fun U t=>
  ⟨t.heap B0.out (fun e=>by have:=HRM.out;omega),t.heap B1.out (fun e=>by have:=HRM.out;omega)⟩
 have HKEEP:=gh KEEP
 have FIN:∀ (U U1 U':World) (t u:Rn),Gath (fun k=>X k∧k < mo) (mo+2) V r s t U→Went (fun k=>(X k∧k < mo)∨U.heap.size≤k) U r t u U1→Td (fun k=>k=mo+1) U1 U'→Went X W r s u U':=by
  intro U U1 U' t u hg hw ht
  have hs:=hg.turned.size
  have w2:=hw.other ht (m:=mo+1)
  refine ⟨⟨(hw.at.above ht (fun k h1 h2=>?_)).to (fun k h1 _=>?_),?_⟩,hg.on.trans hw.on,hw.ok⟩
  ·have:=HRM.out
   rcases h1 with h1 | h1 <;> omega
  ·rcases h1 with h1 | h1
   ·exact h1.1
   ·exact HX.out k (by have:=HRM.out;omega)
  ·have t1:Td (fun k=>k=r∨mo≤k) W U:=KV.out.then (hg.turned.mono (fun k _ e=>e.imp id (fun e=>by omega)))
   have t2:Td (fun k=>k=r∨mo≤k) W U1:=t1.trans hw.turned (fun _ e=>e) (fun _ _ e=>.inl e)
   have t3:Td (fun k=>k=r∨mo≤k) W U':=t2.trans ht (fun _ e=>e) (fun _ _ e=>.inr (by omega))
   exact t3.mono (fun k hk e=>e.elim id (fun e=>by have:=HRM.out;omega))
 have HFIN:=gh FIN
 clear h ho hX ik hN hl he k1 b0 b1 s2 hlt hV KEEP FIN
 go_enter Tryz.func197,Tryz.ntmps197
 go_wp2_with (fail)
 rw [HV.out]
 go_loopw [6,7,8,9] (fun vn vp _ _ wr=>∃ (n:Int) (t:Rn) (es:List En) (c:Nat) (vv:Value),vn=.int .i64 n∧vv=vp∧Gath (fun k=>X k∧k < mo) (mo+2) V r s t wr∧ERow wr (mo+2) vv es∧(∀ e ∈ es,I64 e.wd)∧es.length+t.left≤s.left∧t.left < c∧(t.left < s.left∨(t.off=s.off∧t.left=s.left))∧Rn.attemptL N kind key value c n es t=((x,bE),sE)) (fun _ _ _ _ wr=>leftAt wr r)
 case atStart=>
  refine ⟨1,s,[],s.left+1,_,rfl,rfl,⟨H.out,Td.refl _ _,Rn.On.refl s,OK.out⟩,ERow.nil _ _,(fun e he=>by cases he),by simp,by omega,.inr ⟨rfl,rfl⟩,HE.out⟩
 case round=>
  obtain ⟨n,t,es,c,vv,rfl,rfl,hG,hR,hwd,hlen,hc,hst,hat⟩:=hrel
  have G:=gh hG
  have HR:=gh hR
  have HWD:=gh hwd
  have HLEN:=gh hlen
  have HC:=gh hc
  have HST:=gh hst
  have HAT:=gh hat
  have cf:=hG.lies.offs
  obtain ⟨u0,u1⟩:=HKEEP.out wr hG.turned
  have U2:=gh u1
  obtain ⟨d0,d1,d2,d3,d4,d5,df⟩:=cells6 u1
  have f0:=df 0
  have f1:=df 1
  have f2:=df 2
  have f3:=df 3
  have f4:=df 4
  have f5:=df 5
  have o1:wr.cell? ⟨mo,1,none⟩=some (.int .i64 key):=by simp [World.cell?,u0]
  clear hG hR hwd hlen hc hst hat u0 u1 df
  cases hof:t.off with
  | true=>
   rw [hof] at cf
   have hz:=HAT.out
   rw [Rn.attemptL_off hof] at hz
   obtain ⟨hz1,rfl⟩:=Prod.mk.inj hz
   obtain ⟨rfl,rfl⟩:=Prod.mk.inj hz1
   have HLT:Hid (s.off=false→t.left < s.left):=gh (fun h=>HST.out.elim id (fun e=>by rw [hof,h] at e;exact absurd e.1 (by decide)))
   clear hz hz1 HAT hof
   go_wp2
   refine bodyPost_ret (rcb rfl _ _ (mo+1) 61 _ _ _ rfl (put6 U2.out _ _ _ _ _ _).1 Tryz.underlying61 rfl info61) rfl ?_
   exact ⟨rfl,HFIN.out wr wr _ t t G.out (Went.refl (G.out.lies.to (fun k a _=>.inl a)) G.out.ok) (put6 U2.out _ _ _ _ _ _).2,HLT.out⟩
  | false=>
   rw [hof] at cf
   have HOF:=gh hof
   obtain ⟨c',rfl⟩:∃ c',c=c' + 1:=⟨c - 1,by have:=HC.out;omega⟩
   obtain ⟨z,t1,hz1⟩:∃ z t1,t.child n key=(z,t1):=⟨_,_,rfl⟩
   obtain ⟨w,t2,hz2⟩:∃ w t2,t1.slot z=(w,t2):=⟨_,_,rfl⟩
   have HZ1:=gh hz1
   have HZ2:=gh hz2
   have l1:t1.left < t.left:=by have:=Rn.child_lt n key hof;rw [hz1] at this;exact this
   have on1:Rn.On t t1:=by have:=(Rn.read_on rfl).trans (Rn.child_on t n key);rw [hz1] at this;exact this
   have L1:=gh l1
   have ON1:=gh on1
   have L2:Hid (t2.left≤t1.left):=gh (by have:=Rn.slot_le t1 z;rw [hz2] at this;exact this)
   have HLT:Hid (t2.left < s.left):=gh (by have:=HST.out;have:=L2.out;omega)
   clear hof hz1 hz2 l1 on1
   go_wp2_with (fail)
   refine (childr_r _ r t n key G.out.lies G.out.ok IK.out z t1 HZ1.out).mono ?_
   rintro e U1 ⟨rfl,R1⟩
   have G1:=gh (G.out.trans (⟨R1,ON1.out,ON1.out.ok G.out.ok⟩:Went _ wr r t t1 U1).gath)
   have HR1:=gh (HR.out.ran R1.2 (by have:=HRM.out;omega))
   have T1:=gh R1.2
   clear R1
   go_wp2_with (fail)
   refine (slot_r _ r t1 z G1.out.lies G1.out.ok w t2 HZ2.out).mono ?_
   rintro e U3 ⟨rfl,R2⟩
   have IW:=gh (G1.out.ok.slot HZ2.out).1
   have G2:=gh (G1.out.trans (R2.went_slot G1.out.ok HZ2.out).gath)
   have HR2:=gh (HR1.out.ran R2.2 (by have:=HRM.out;omega))
   clear R2 d0 d1 d2 d3 d4 d5 f0 f1 f2 f3 f4 f5 o1 U2
   obtain ⟨u0,u1⟩:=HKEEP.out U3 G2.out.turned
   have U2:=gh u1
   obtain ⟨d0,d1,d2,d3,d4,d5,df⟩:=cells6 u1
   have o0:U3.cell? ⟨mo,0,none⟩=some (.int .i64 kind):=by simp [World.cell?,u0]
   have o1:U3.cell? ⟨mo,1,none⟩=some (.int .i64 key):=by simp [World.cell?,u0]
   have o2:U3.cell? ⟨mo,2,none⟩=some (.int .i64 value):=by simp [World.cell?,u0]
   have HY:Hid (∀ k,U3.heap.size≤k→(fun k=>(X k∧k < mo)∨U3.heap.size≤k) k):=gh (fun k h=>.inr h)
   have RT:Hid (RunAt (fun k=>(X k∧k < mo)∨U3.heap.size≤k) U3 r t2):=gh (G2.out.lies.to (fun k a _=>.inl a))
   have KP:Hid (∀ U,Td (fun k=>k=r) U3 U→U.heap[mo+1]? = some (.cells #[.int .i64 0,.bool false,.int .i64 0,.int .i64 0,.int .i64 0,.slice none 0 0] 61)):=gh (fun U t=>t.heap U2.out (fun e=>by have:=HRM.out;omega))
   clear u0 u1 df d0 d1 d2 d3 d4 d5
   obtain ⟨kk,hkk⟩:∃ kk,kd w=kk:=⟨_,rfl⟩
   obtain ⟨p,hpp⟩:∃ p,ad w=p:=⟨_,rfl⟩
   have HK:=gh hkk
   have HPP:=gh hpp
   clear hkk hpp
   go_wp2_with (fail)
   refine (kk_d _ w kk IW.out HK.out).mono ?_
   rintro e w' ⟨rfl,rfl⟩
   by_cases k4:kk=4
   ·subst k4
    obtain ⟨b,t3,hz3⟩:∃ b t3,Rn.renewR N t2 p=(b,t3):=⟨_,_,rfl⟩
    have hz:=HAT.out
    rw [Rn.attemptL_4 (b:=b) (v:=t3) HOF.out HZ1.out HZ2.out HK.out (by rw [HPP.out];exact hz3)] at hz
    have HZ:=gh hz
    have HZ3:=gh hz3
    clear hz hz3 HAT
    go_wp2_with (fail)
    refine (ak_d _ w p IW.out HPP.out).mono ?_
    rintro e w' ⟨rfl,rfl⟩
    go_wp2_with (fail)
    refine (renew_r N _ r t2 p RT.out G2.out.ok HY.out (by have:=HLT.out;have:=HN.out;omega) (by have:=HLT.out;have:=HL.out;omega) b t3 HZ3.out).mono ?_
    rintro e U4 ⟨rfl,W4⟩
    have G4:=gh W4
    cases b with
    | false=>
     have hz:=HZ.out
     rw [if_pos rfl] at hz
     obtain ⟨hz1,rfl⟩:=Prod.mk.inj hz
     obtain ⟨rfl,rfl⟩:=Prod.mk.inj hz1
     clear hz hz1 HZ W4 o0 o1 o2
     go_wp2_with (fail)
     refine (nomem_r U4).mono ?_
     rintro e U5 ⟨rfl,K5⟩
     have G5:=gh (⟨⟨G4.out.at.kept K5,Kept.behind G4.out.turned K5⟩,G4.out.on,G4.out.ok⟩:Went _ U3 r t2 t3 U5)
     have u5:=KP.out U5 G5.out.turned
     have U5':=gh u5
     obtain ⟨d0,d1,d2,d3,d4,d5,df⟩:=cells6 u5
     have f0:=df 0
     have f1:=df 1
     have f2:=df 2
     have f3:=df 3
     have f4:=df 4
     have f5:=df 5
     clear df u5 K5
     unfold Rs.nomem Rs.cs
     go_wp2
     refine bodyPost_ret (rcb rfl _ _ (mo+1) 61 _ _ _ rfl (put6 U5'.out _ _ _ _ _ _).1 Tryz.underlying61 rfl info61) rfl ?_
     exact ⟨rfl,HFIN.out U3 U5 _ t2 t3 G2.out G5.out (put6 U5'.out _ _ _ _ _ _).2,fun _=>by have:=G5.out.on.left;have:=HLT.out;omega⟩
    | true=>
     have hz:=HZ.out
     rw [if_neg (by decide)] at hz
     obtain ⟨hz1,rfl⟩:=Prod.mk.inj hz
     obtain ⟨rfl,rfl⟩:=Prod.mk.inj hz1
     have u5:=KP.out U4 G4.out.turned
     have U5':=gh u5
     obtain ⟨d0,d1,d2,d3,d4,d5,df⟩:=cells6 u5
     have f0:=df 0
     have f1:=df 1
     have f2:=df 2
     have f3:=df 3
     have f4:=df 4
     have f5:=df 5
     clear hz hz1 HZ df u5 W4 o0 o1 o2
     go_wp2
     refine bodyPost_ret (rcb rfl _ _ (mo+1) 61 _ _ _ rfl (put6 U5'.out _ _ _ _ _ _).1 Tryz.underlying61 rfl info61) rfl ?_
     exact ⟨rfl,HFIN.out U3 U4 _ t2 t3 G2.out G4.out (put6 U5'.out _ _ _ _ _ _).2,fun _=>by have:=G4.out.on.left;have:=HLT.out;omega⟩
   ·by_cases k3:kk=3
    ·subst k3
     have hz:=HAT.out
     rw [Rn.attemptL_3 HOF.out HZ1.out HZ2.out HK.out,HPP.out] at hz
     have HZ:=gh hz
     obtain ⟨la,lc,hv,_⟩:=HR2.out.reads
     obtain ⟨M,hM⟩:∃ M,es.length=M:=⟨_,rfl⟩
     rw [hM] at hv
     have HM:=gh hM
     subst hv
     clear hz HAT hM o0 o1 o2
     go_wp2_with (at_builtin;refine Stop.out ?_)
     refine ⟨?_⟩
     have HRA:=gh (HR2.out.kept (Kept.alloc (Kept.refl U3) (.cells #[.int .i64 n,.int .i64 z,.int .i64 w] 50)))
     have HNW:Hid ((U3.alloc (.cells #[.int .i64 n,.int .i64 z,.int .i64 w] 50)).heap[U3.heap.size]? = some (.cells #[.int .i64 n,.int .i64 z,.int .i64 w] 50)):=gh (heap_new _ _)
     refine wpList_append_entry rfl _ _ rfl (mo+2) _ es (es++[⟨n,z,w⟩]) rfl HRA.out U3.heap.size n z w rfl HNW.out (by have:=HL.out;have:=HLEN.out;omega) (by have:=G2.out.turned.size;have:=HRM.out;simp;omega) rfl ?_
     intro v9 W9 hown hg hat
     have HR9:=gh hown
     have G9:=gh (G2.out.trans (Gath.grownE (fun k h=>by have:=HRM.out;omega) G2.out.lies G2.out.ok HR2.out _ hg))
     clear hown hg hat HRA HNW
     go_wp2_with (fail)
     refine (ak_d _ w p IW.out HPP.out).mono ?_
     rintro e w' ⟨rfl,rfl⟩
     go_wp2
     refine ⟨⟨p,t2,es++[⟨n,z,w⟩],c',v9,rfl,rfl,G9.out,HR9.out,?_,?_,?_,.inl HLT.out,HZ.out⟩,?_⟩
     ·intro e he
      rcases List.mem_append.1 he with he | he
      ·exact HWD.out e he
      ·rw [List.mem_singleton.1 he]
       exact IW.out
     ·have:=HLEN.out;have:=L1.out;have:=L2.out;simp;omega
     ·have:=HC.out;have:=L1.out;have:=L2.out;omega
     ·rw [G9.out.lies.leftAt,G.out.lies.leftAt]
      have:=L1.out;have:=L2.out;omega
    ·have g4:(kk == 4)=false:=by simp [k4]
     have g3:(kk == 3)=false:=by simp [k3]
     have hz:=HAT.out
     rw [Rn.attemptL_0 HOF.out HZ1.out HZ2.out (by rw [HK.out];exact k4) (by rw [HK.out];exact k3)] at hz
     have HZ:=gh hz
     obtain ⟨la,lc,hv,erd,elc,_,_,ebl⟩:=HR2.out.reads
     obtain ⟨M,hM⟩:∃ M,es.length=M:=⟨_,rfl⟩
     rw [hM] at hv elc
     have HM:=gh hM
     have ERD:=gh erd
     have EBL:Hid (∀ ad,la=some ad→ad.block≠r∧ad.block < U3.heap.size):=gh (fun ad e=>⟨by have:=ebl ad e;have:=HRM.out;omega,by
      have:=HR2.out.lt (ad.block) (by rw [hv,e];simp [Value.ownBlock])
      exact this.2⟩)
     subst hv
     clear hz HAT hM erd ebl k3 k4
     go_wp2_with (fail)
     refine (lay_r N _ r t2 kind key value n z w la M lc es RT.out G2.out.ok HY.out IW.out ERD.out HWD.out HM.out elc (by have:=HLEN.out;have:=HM.out;have:=HL.out;omega) EBL.out (by have:=HLT.out;have:=HN.out;omega) (by have:=HLT.out;have:=HL.out;omega) x bE sE HZ.out).mono ?_
     rintro e U4 ⟨rfl,W4⟩
     have G4:=gh W4
     have u5:=KP.out U4 G4.out.turned
     have U5':=gh u5
     obtain ⟨d0,d1,d2,d3,d4,d5,df⟩:=cells6 u5
     have f0:=df 0
     have f1:=df 1
     have f2:=df 2
     have f3:=df 3
     have f4:=df 4
     have f5:=df 5
     clear df u5 W4 o0 o1 o2
     obtain ⟨x0,x1,x2,x3,x4⟩:=x
     unfold Rs.cs
     dsimp only
     go_wp2
     refine bodyPost_ret (rcb rfl _ _ (mo+1) 61 _ _ _ rfl (put6 U5'.out _ _ _ _ _ _).1 Tryz.underlying61 rfl info61) rfl ?_
     exact ⟨rfl,HFIN.out U3 U4 _ t2 sE G2.out G4.out (put6 U5'.out _ _ _ _ _ _).2,fun _=>by have:=G4.out.on.left;have:=HLT.out;omega⟩
end
section
open Go.Shelf
variable {X:Nat→Prop} {lo:Nat}
namespace Rn
def changeL (N:Nat) (kind key value:Int):Nat→Rn→Rs × Rn
 | 0,s=>(Rs.none,s)
 | c+1,s=>
  if s.off=true then (Rs.none,s)
  else
   let a:=attemptL N kind key value (s.left+1) 1 [] s
   if a.1.2=true then (a.1.1,a.2) else changeL N kind key value c a.2
variable {N:Nat} {kind key value:Int} {c:Nat} {s t:Rn} {x:Rs}
theorem changeL_off (h:s.off=true):changeL N kind key value c s=(Rs.none,s):=by
 cases c with
 | zero=>rfl
 | succ c=>rw [changeL,if_pos h]
theorem changeL_end (h:s.off=false) (e:attemptL N kind key value (s.left+1) 1 [] s=((x,true),t)):changeL N kind key value (c+1) s=(x,t):=by
 rw [changeL,if_neg (by rw [h];decide),e]
 rfl
theorem changeL_go (h:s.off=false) (e:attemptL N kind key value (s.left+1) 1 [] s=((x,false),t)):changeL N kind key value (c+1) s=changeL N kind key value c t:=by
 rw [changeL,if_neg (by rw [h];decide),e]
 rfl
end Rn
set_option maxRecDepth 100000 in
set_option maxHeartbeats 4000000 in
theorem change_r (N:Nat) (W:World) (r:Nat) (s:Rn) (kind key value:Int) (h:RunAt X W r s) (ho:s.ok) (hX:∀ k,W.heap.size≤k→X k) (ik:I64 key) (hN:s.left < N) (hl:s.left≤16384) (x:Rs) (sE:Rn) (he:Rn.changeL N kind key value (s.left+1) s=(x,sE)) :
  Calls Tryz.prog 164 #[.pointer (some ⟨r,0,none⟩),.agg #[.int .i64 kind,.int .i64 key,.int .i64 value]] W fun e W'=>e=.returned (.agg (x.cs (.slice none 0 0)))∧Went X W r s sE W':=by
 obtain ⟨V,hV⟩:∃ V,(W.alloc (.cells #[.int .i64 kind,.int .i64 key,.int .i64 value] 52)).alloc (.cells #[.int .i64 0,.bool false,.int .i64 0,.int .i64 0,.int .i64 0,.slice none 0 0] 61)=V:=⟨_,rfl⟩
 obtain ⟨mo,hmo⟩:∃ m,W.heap.size=m:=⟨_,rfl⟩
 have k1:Kept W V:=by rw [← hV];exact (Kept.alloc (Kept.refl W) _).alloc _
 have b0:V.heap[mo]? = some (.cells #[.int .i64 kind,.int .i64 key,.int .i64 value] 52):=by
  rw [← hV,← hmo]
  exact (Td.alloc (fun _=>False) (W.alloc _) _).heap (heap_new _ _) id
 have b1:V.heap[mo+1]? = some (.cells #[.int .i64 0,.bool false,.int .i64 0,.int .i64 0,.int .i64 0,.slice none 0 0] 61):=by
  rw [← hV,← hmo]
  exact heap_alloc2_new _ _ _
 have s2:V.heap.size=mo+2:=by rw [← hV,← hmo];simp
 have hlt:=h.lt
 have HV:=gh hV
 have KV:=gh k1
 have HRM:Hid (r < mo∧W.heap.size=mo∧V.heap.size=mo+2):=gh ⟨by omega,hmo,s2⟩
 have B0:=gh b0
 have B1:=gh b1
 have HX:=gh hX
 obtain ⟨Y,hYd⟩:∃ Y:Nat→Prop,Y=fun k=>X k∧k≠mo+1:=⟨_,rfl⟩
 have HYX:Hid (∀ k,Y k→X k):=gh (by rw [hYd];exact fun k h=>h.1)
 have HYM:Hid (¬ Y (mo+1)):=gh (by rw [hYd];exact fun h=>h.2 rfl)
 have H:Hid (RunAt Y V r s):=gh ((h.to (Y:=Y) (by rw [hYd];exact fun k a b=>⟨a,by omega⟩)).kept k1)
 have HY:Hid (∀ k,V.heap.size≤k→Y k):=gh (by rw [hYd];exact fun k h=>⟨hX k (by omega),by omega⟩)
 have OK:=gh ho
 have IK:=gh ik
 have HN:=gh hN
 have HL:=gh hl
 have HE:=gh he
 have KEEP:∀ U:World,Td (fun k=>k=r) V U→U.heap[mo]? = some (.cells #[.int .i64 kind,.int .i64 key,.int .i64 value] 52)∧U.heap[mo+1]? = some (.cells #[.int .i64 0,.bool false,.int .i64 0,.int .i64 0,.int .i64 0,.slice none 0 0] 61):=fun U t=>
  ⟨t.heap B0.out (fun e=>by have:=HRM.out;omega),t.heap B1.out (fun e=>by have:=HRM.out;omega)⟩
 have HKEEP:=gh KEEP
 have FIN:∀ (U U':World) (t:Rn),Went Y V r s t U→Td (fun k=>k=mo+1) U U'→Went X W r s t U':=by
  intro U U' t hm ht
  exact ((hm.behind KV.out).other ht HYM.out (by have:=HRM.out;omega)).to HYX.out
 have HFIN:=gh FIN
 clear h ho hX ik hN hl he k1 b0 b1 s2 hlt hV KEEP FIN hYd
 go_enter Tryz.func164,Tryz.ntmps164
 go_wp2_with (fail)
 rw [HV.out]
 go_loopw [5,6] (fun _ _ wr=>∃ (t:Rn) (c:Nat),Went Y V r s t wr∧t.left < c∧Rn.changeL N kind key value c t=(x,sE)) (fun _ _ wr=>leftAt wr r)
 case atStart=>exact ⟨s,s.left+1,Went.refl H.out OK.out,by omega,HE.out⟩
 case round=>
  obtain ⟨t,c,hG,hc,hat⟩:=hrel
  have G:=gh hG
  have HC:=gh hc
  have HAT:=gh hat
  have cf:=hG.at.offs
  obtain ⟨u0,u1⟩:=HKEEP.out wr hG.turned
  have U2:=gh u1
  obtain ⟨d0,d1,d2,d3,d4,d5,df⟩:=cells6 u1
  have f0:=df 0
  have f1:=df 1
  have f2:=df 2
  have f3:=df 3
  have f4:=df 4
  have f5:=df 5
  have o0:wr.cell? ⟨mo,0,none⟩=some (.int .i64 kind):=by simp [World.cell?,u0]
  have o1:wr.cell? ⟨mo,1,none⟩=some (.int .i64 key):=by simp [World.cell?,u0]
  have o2:wr.cell? ⟨mo,2,none⟩=some (.int .i64 value):=by simp [World.cell?,u0]
  clear hG hc hat u0 u1 df
  cases hof:t.off with
  | true=>
   rw [hof] at cf
   have hz:=HAT.out
   rw [Rn.changeL_off hof] at hz
   obtain ⟨rfl,rfl⟩:=Prod.mk.inj hz
   clear hz HAT hof
   go_wp2
   refine bodyPost_ret (results_cell_row rfl _ _ (mo+1) 61 _ _ _ rfl (put6 U2.out _ _ _ _ _ _).1 Tryz.underlying61 rfl info61) rfl ?_
   exact ⟨rfl,HFIN.out wr _ t G.out (put6 U2.out _ _ _ _ _ _).2⟩
  | false=>
   rw [hof] at cf
   have HOF:=gh hof
   obtain ⟨c',rfl⟩:∃ c',c=c' + 1:=⟨c - 1,by have:=HC.out;omega⟩
   obtain ⟨y,b,t2,hz2⟩:∃ y b t2,Rn.attemptL N kind key value (t.left+1) 1 [] t=((y,b),t2):=⟨_,_,_,rfl⟩
   have HZ2:=gh hz2
   have CT:Hid (Calls Tryz.prog 197 #[.pointer (some ⟨r,0,none⟩),.agg #[.int .i64 kind,.int .i64 key,.int .i64 value]] wr fun e W'=>e=.returned (.tuple #[.agg #[.int .i64 y.why,.bool y.found,.int .i64 y.key,.int .i64 y.val,.int .i64 y.n,.slice none 0 0],.bool b])∧Went Y wr r t t2 W'∧(t.off=false→t2.left < t.left)):=gh (attempt_r N wr r t kind key value G.out.at G.out.ok (fun k h=>HY.out k (Nat.le_trans G.out.turned.size h)) IK.out (by have:=G.out.on.left;have:=HN.out;omega) (by have:=G.out.on.left;have:=HL.out;omega) y b t2 hz2)
   obtain ⟨y0,y1,y2,y3,y4⟩:=y
   dsimp only at CT
   clear hof hz2 d0 d1 d2 d3 d4 d5 f0 f1 f2 f3 f4 f5 U2
   go_wp2_with (fail)
   refine CT.out.mono ?_
   rintro e U ⟨rfl,W2,hlt⟩
   have G2:=gh (G.out.trans W2)
   have HLT:=gh (hlt HOF.out)
   obtain ⟨u0,u1⟩:=HKEEP.out U G2.out.turned
   clear W2 hlt CT o0 o1 o2
   have U2:Hid (∀ o,(U.alloc o).heap[mo+1]? = some (.cells #[.int .i64 0,.bool false,.int .i64 0,.int .i64 0,.int .i64 0,.slice none 0 0] 61)):=gh (fun o=>(Td.alloc (fun _=>False) U o).heap u1 id)
   have d0:∀ o,(U.alloc o).cell? ⟨mo+1,0,none⟩=some (.int .i64 0):=fun o=>(cells6 (U2.out o)).1
   have d1:∀ o,(U.alloc o).cell? ⟨mo+1,1,none⟩=some (.bool false):=fun o=>(cells6 (U2.out o)).2.1
   have d2:∀ o,(U.alloc o).cell? ⟨mo+1,2,none⟩=some (.int .i64 0):=fun o=>(cells6 (U2.out o)).2.2.1
   have d3:∀ o,(U.alloc o).cell? ⟨mo+1,3,none⟩=some (.int .i64 0):=fun o=>(cells6 (U2.out o)).2.2.2.1
   have d4:∀ o,(U.alloc o).cell? ⟨mo+1,4,none⟩=some (.int .i64 0):=fun o=>(cells6 (U2.out o)).2.2.2.2.1
   have d5:∀ o,(U.alloc o).cell? ⟨mo+1,5,none⟩=some (.slice none 0 0):=fun o=>(cells6 (U2.out o)).2.2.2.2.2.1
   have f0:∀ o,(U.alloc o).frozen? ⟨mo+1,0,none⟩=false:=fun o=>(cells6 (U2.out o)).2.2.2.2.2.2 0
   have f1:∀ o,(U.alloc o).frozen? ⟨mo+1,1,none⟩=false:=fun o=>(cells6 (U2.out o)).2.2.2.2.2.2 1
   have f2:∀ o,(U.alloc o).frozen? ⟨mo+1,2,none⟩=false:=fun o=>(cells6 (U2.out o)).2.2.2.2.2.2 2
   have f3:∀ o,(U.alloc o).frozen? ⟨mo+1,3,none⟩=false:=fun o=>(cells6 (U2.out o)).2.2.2.2.2.2 3
   have f4:∀ o,(U.alloc o).frozen? ⟨mo+1,4,none⟩=false:=fun o=>(cells6 (U2.out o)).2.2.2.2.2.2 4
   have f5:∀ o,(U.alloc o).frozen? ⟨mo+1,5,none⟩=false:=fun o=>(cells6 (U2.out o)).2.2.2.2.2.2 5
   have GA:Hid (∀ o,Went Y V r s t2 (U.alloc o)):=gh (fun o=>⟨⟨G2.out.at.kept (Td.alloc _ _ _),Kept.behind G2.out.turned (Td.alloc _ _ _)⟩,G2.out.on,G2.out.ok⟩)
   clear u0 u1
   cases b with
   | true=>
    have hz:=HAT.out
    rw [Rn.changeL_end HOF.out HZ2.out] at hz
    obtain ⟨rfl,rfl⟩:=Prod.mk.inj hz
    clear hz HAT
    go_wp2
    refine bodyPost_ret (results_cell_row rfl _ _ (mo+1) 61 _ _ _ rfl (put6 (U2.out _) _ _ _ _ _ _).1 Tryz.underlying61 rfl info61) rfl ?_
    exact ⟨rfl,HFIN.out _ _ t2 (GA.out _) (put6 (U2.out _) _ _ _ _ _ _).2⟩
   | false=>
    have hz:=HAT.out
    rw [Rn.changeL_go HOF.out HZ2.out] at hz
    have HZ:=gh hz
    clear hz HAT
    go_wp2
    refine ⟨⟨t2,c',GA.out _,by have:=HC.out;have:=HLT.out;omega,HZ.out⟩,?_⟩
    rw [(GA.out _).ran.leftAt,G.out.ran.leftAt]
    exact HLT.out
end
end Go.Proofs.YtnjkmmmfhponlaaGreat
