/-
  What the proof of YtnjkmmmfhponlaaGreatU2 goes by, part 6 of 11: contracts and plain facts; each part begins with its own sentence. No conditions beyond each theorem's own.
-/
import Derived.Test.YtnjkmmmfhponlaaGreatT5
import Derived.Laws.Rows
import Derived.Laws.ResultCell
namespace Go.Proofs.YtnjkmmmfhponlaaGreat
open Go.RowKit
section
open Go.Shelf
variable {X:Nat→Prop}
namespace Rn
def partsA (N:Nat) (b t n x d:Int):Nat→Rn→Bool × Rn
 | 0,s=>(true,s)
 | f+1,s=>
  if s.off=true then (true,s)
  else if d≤(s.add (wrap64 (b+4)) 1).1 then (true,(s.add (wrap64 (b+4)) 1).2)
  else if (s.add (wrap64 (b+4)) 1).2.off=true then (true,(s.add (wrap64 (b+4)) 1).2)
  else
   let p:=(s.add (wrap64 (b+4)) 1).2.partR N t n x d (s.add (wrap64 (b+4)) 1).1
   if p.1=true then partsA N b t n x d f p.2 else (false,p.2)
def partsB (N:Nat) (t n x d:Int):Nat→Int→Rn→Bool × Rn
 | 0,_,s=>(true,s)
 | c+1,j,s=>
  if s.off=true then (true,s)
  else if (s.read (childZ x d j)).1≠0∨(s.read (childZ x d j)).2.off=true then partsB N t n x d c (j+1) (s.read (childZ x d j)).2
  else
   let p:=(s.read (childZ x d j)).2.partR N t n x d j
   if p.1=true then partsB N t n x d c (j+1) p.2 else (false,p.2)
def partsR (N:Nat) (s:Rn) (b t n x:Int):Bool × Rn:=
 let a:=partsA N b t n x (Pt.degZ n) N s
 if a.1=true then partsB N t n x (Pt.degZ n) (Pt.degZ n).toNat 0 a.2 else (false,a.2)
variable {N f c:Nat} {b t n x d j q:Int} {s s1 s2:Rn} {ok:Bool}
theorem partsA_off (h:s.off=true):partsA N b t n x d f s=(true,s):=by
 cases f with
 | zero=>rfl
 | succ f=>rw [partsA,if_pos h]
theorem partsA_end (h:s.off=false) (e:s.add (wrap64 (b+4)) 1=(q,s1)) (h1:d≤q∨s1.off=true):partsA N b t n x d (f+1) s=(true,s1):=by
 rw [partsA,h,e]
 by_cases hq:d≤q
 ·simp [hq]
 ·simp [hq,h1.resolve_left hq]
theorem partsA_go (h:s.off=false) (e:s.add (wrap64 (b+4)) 1=(q,s1)) (h1:¬ d≤q) (h2:s1.off=false) (e2:s1.partR N t n x d q=(ok,s2)):partsA N b t n x d (f+1) s=if ok=true then partsA N b t n x d f s2 else (false,s2):=by
 rw [partsA,h,e]
 simp [h1,h2,e2]
theorem partsB_off (h:s.off=true):partsB N t n x d c j s=(true,s):=by
 cases c with
 | zero=>rfl
 | succ f=>rw [partsB,if_pos h]
theorem partsB_skip (h:s.off=false) (e:s.read (childZ x d j)=(q,s1)) (h1:q≠0∨s1.off=true):partsB N t n x d (c+1) j s=partsB N t n x d c (j+1) s1:=by
 rw [partsB,h,e]
 simp only [Bool.false_eq_true,if_false]
 rw [if_pos h1]
theorem partsB_go (h:s.off=false) (e:s.read (childZ x d j)=(q,s1)) (h1:q=0) (h2:s1.off=false) (e2:s1.partR N t n x d j=(ok,s2)):partsB N t n x d (c+1) j s=if ok=true then partsB N t n x d c (j+1) s2 else (false,s2):=by
 rw [partsB,h,e]
 simp [h1,h2,e2]
theorem add_lt' {a y:Int} (h:s.off=false) (e:s.add a y=(q,s1)):s1.left < s.left:=by
 have:=ask_left (s:=s) ⟨4,a,y,0,[]⟩ h
 have e':s.ask ⟨4,a,y,0,[]⟩=(q,s1):=e
 rw [e'] at this
 exact this
end Rn
theorem Ran.went_add {W W':World} {r:Nat} {s s':Rn} {a y z:Int} (R:Ran X W r s' W') (ho:s.ok) (e:s.add a y=(z,s')):Went X W r s s' W':=by
 have:s'=(s.add a y).2:=by rw [e]
 subst this
 exact ⟨R,Rn.ask_on s _,(Rn.ask_on s _).ok ho⟩
theorem Rn.ok.add {s:Rn} (h:s.ok) {a y z:Int} {s':Rn} (e:s.add a y=(z,s')):I64 z:=by
 have:=Rn.ask_i64 (s:=s) ⟨4,a,y,0,[]⟩ h
 have e':s.ask ⟨4,a,y,0,[]⟩=(z,s'):=e
 rw [e'] at this
 exact this
set_option maxRecDepth 100000 in
set_option maxHeartbeats 2000000 in
theorem parts_r (N:Nat) (W:World) (r:Nat) (s:Rn) (b tt n x:Int) (h:RunAt X W r s) (ho:s.ok) (hX:∀ k,W.heap.size≤k→X k) (hn:I64 n) (hN:s.left < N) (hl:s.left≤16384) (bE:Bool) (sE:Rn) (he:s.partsR N b tt n x=(bE,sE)) :
  Calls Tryz.prog 194 #[.pointer (some ⟨r,0,none⟩),.int .i64 b,.int .i64 tt,.int .i64 n,.int .i64 x] W fun e W'=>e=.returned (.bool bE)∧Went X W r s sE W':=by
 have H:=gh h
 have OK:=gh ho
 have HX:=gh hX
 have HNI:=gh hn
 have HN:=gh hN
 have HL:=gh hl
 unfold Rn.partsR at he
 obtain ⟨d,hd⟩:∃ d,Pt.degZ n=d:=⟨_,rfl⟩
 obtain ⟨dl,dh⟩:=deg_small n
 rw [hd] at he dl dh
 obtain ⟨okA,sA,ha⟩:∃ okA sA,Rn.partsA N b tt n x d N s=(okA,sA):=⟨_,_,rfl⟩
 rw [ha] at he
 dsimp only at he
 have HE:=gh he
 have HA:=gh ha
 have HD:=gh hd
 clear h ho hX hn hN hl he ha hd
 go_enter Tryz.func194,Tryz.ntmps194
 go_wp2_with (fail)
 refine (Pt.deg_r n (I64.wf HNI.out) _).mono ?_
 rw [HD.out]
 rintro e w' ⟨rfl,rfl⟩
 go_wp2_with (fail)
 go_loopw [12] (fun _ wr=>∃ (F:Nat) (t:Rn),t.left < F∧Went X W r s t wr∧Rn.partsA N b tt n x d F t=(okA,sA)) (fun _ wr=>leftAt wr r)
 case atStart=>exact ⟨N,s,HN.out,Went.refl H.out OK.out,HA.out⟩
 case round=>
  obtain ⟨F,t,hF,hG,hk⟩:=hrel
  have G:=gh hG
  have HK:=gh hk
  have HF:=gh hF
  obtain ⟨ta,tc,wa,wc,RI⟩:=hG.at
  obtain ⟨_,_,c2,_,_,ff⟩:=RI.cells
  clear RI ff hk hG hF
  cases hof:t.off with
  | true=>
   rw [hof] at c2
   have hz:=HK.out
   rw [Rn.partsA_off hof] at hz
   obtain ⟨rfl,rfl⟩:=Prod.mk.inj hz
   have hz2:=HE.out
   rw [if_pos rfl] at hz2
   have E2:=gh hz2
   clear hof hz hz2 HE
   rename World=>W1
   go_wp2_with (fail)
   go_loopw [13,14] (fun vj _ wr=>∃ (j:Int) (t:Rn),vj=.int .i64 j∧0≤j∧j≤9223372036854775807∧Went X W r s t wr∧Rn.partsB N tt n x d (d - j).toNat j t=(bE,sE)) (fun vj _ _=>(d - intOf vj).toNat)
   case atStart=>exact ⟨0,t,rfl,by omega,by omega,G.out,by simpa using E2.out⟩
   case round=>
    obtain ⟨j,t,rfl,j0,j1,hG,hk⟩:=hrel
    have G:=gh hG
    have HK:=gh hk
    obtain ⟨ta,tc,wa,wc,RI⟩:=hG.at
    obtain ⟨_,_,c2,_,_,ff⟩:=RI.cells
    clear RI ff hk hG
    by_cases hjd:j < d
    ·cases hof:t.off with
     | true=>
      rw [hof] at c2
      have hz:=HK.out
      rw [Rn.partsB_off hof] at hz
      obtain ⟨rfl,rfl⟩:=Prod.mk.inj hz
      clear hof hz
      go_wp2
      go_ret
      exact ⟨rfl,G.out⟩
     | false=>
      rw [hof] at c2
      have HOF:=gh hof
      obtain ⟨c,hc⟩:∃ c,(d - (j+1)).toNat=c:=⟨_,rfl⟩
      have HC:Hid ((d - j).toNat=c+1):=gh (by omega)
      have HC':=gh hc
      obtain ⟨cz,hcz⟩:∃ cz,childZ x d j=cz:=⟨_,rfl⟩
      have HCZ:=gh hcz
      obtain ⟨q,t1,hq⟩:∃ q t1,t.read cz=(q,t1):=⟨_,_,rfl⟩
      have HQ:=gh hq
      have HQ':Hid (t.read (childZ x d j)=(q,t1)):=gh (by rw [hcz];exact hq)
      clear hof hcz hc hq
      go_wp2_with (fail)
      refine (child_r _ x d j cz HCZ.out).mono ?_
      rintro e w' ⟨rfl,rfl⟩
      go_wp2_with (fail)
      refine (read_r _ r t cz G.out.at q t1 HQ.out).mono ?_
      rintro e W5 ⟨rfl,R5⟩
      have G5:=gh (G.out.trans (R5.went_read G.out.ok HQ.out))
      obtain ⟨ta,tc,wa,wc,RI⟩:=R5.1
      obtain ⟨_,_,c2',_,_,ff⟩:=RI.cells
      clear RI ff R5 c2
      by_cases q0:q=0
      ·subst q0
       cases hof1:t1.off with
       | true=>
        rw [hof1] at c2'
        have hz:=HK.out
        rw [HC.out,Rn.partsB_skip HOF.out HQ'.out (.inr hof1)] at hz
        have HZ:=gh hz
        clear hof1 hz
        go_wp2
        exact ⟨⟨j+1,t1,rfl,by omega,by omega,G5.out,by rw [HC'.out];exact HZ.out⟩,by simp [intOf];omega⟩
       | false=>
        rw [hof1] at c2'
        obtain ⟨b,t2,hp⟩:∃ b t2,t1.partR N tt n x d j=(b,t2):=⟨_,_,rfl⟩
        have HP:=gh hp
        have hz:=HK.out
        rw [HC.out,Rn.partsB_go HOF.out HQ'.out rfl hof1 hp] at hz
        have HZ:=gh hz
        clear hof1 hz hp
        go_wp2_with (fail)
        refine (part_r N _ r t1 tt n x d j G5.out.at G5.out.ok (fun k h=>HX.out k (Nat.le_trans G5.out.turned.size h)) HNI.out (by have:=G5.out.on.left;have:=HN.out;omega) (by have:=G5.out.on.left;have:=HL.out;omega) b t2 HP.out).mono ?_
        rintro e W6 ⟨rfl,G6'⟩
        have G6:=gh (G5.out.trans G6')
        clear G6'
        cases b with
        | true=>
         have hz:=HZ.out
         rw [if_pos rfl] at hz
         have HZ1:=gh hz
         clear hz HZ
         go_wp2
         exact ⟨⟨j+1,t2,rfl,by omega,by omega,G6.out,by rw [HC'.out];exact HZ1.out⟩,by simp [intOf];omega⟩
        | false=>
         have hz:=HZ.out
         rw [if_neg (by decide)] at hz
         obtain ⟨rfl,rfl⟩:=Prod.mk.inj hz
         clear hz HZ
         go_wp2
         go_ret
         exact ⟨rfl,G6.out⟩
      ·have g1:(q == 0)=false:=by simp [q0]
       have g2:(q != 0)=true:=by simp [q0]
       have hz:=HK.out
       rw [HC.out,Rn.partsB_skip HOF.out HQ'.out (.inl q0)] at hz
       have HZ:=gh hz
       clear hz
       go_wp2
       exact ⟨⟨j+1,t1,rfl,by omega,by omega,G5.out,by rw [HC'.out];exact HZ.out⟩,by simp [intOf];omega⟩
    ·have hz:=HK.out
     rw [show (d - j).toNat=0 from by omega] at hz
     obtain ⟨rfl,rfl⟩:=Prod.mk.inj hz
     clear hz
     go_wp2
     go_ret
     exact ⟨rfl,G.out⟩
  | false=>
   rw [hof] at c2
   obtain ⟨F',rfl⟩:∃ F',F=F' + 1:=⟨F - 1,by have:=HF.out;omega⟩
   obtain ⟨q,t1,hq⟩:∃ q t1,t.add (wrap64 (b+4)) 1=(q,t1):=⟨_,_,rfl⟩
   have HQ:=gh hq
   have HOF:=gh hof
   clear hq hof
   go_wp2_with (fail)
   refine (add_r _ r t _ 1 G.out.at q t1 HQ.out).mono ?_
   rintro e W5 ⟨rfl,R5⟩
   have G5:=gh (G.out.trans (R5.went_add G.out.ok HQ.out))
   obtain ⟨q0,q9⟩:=G.out.ok.add HQ.out
   have LT:=gh (Rn.add_lt' HOF.out HQ.out)
   obtain ⟨ta,tc,wa,wc,RI⟩:=R5.1
   obtain ⟨_,_,c2',_,_,ff⟩:=RI.cells
   clear RI ff R5 c2
   by_cases hdq:d≤q
   ·have hz:=HK.out
    rw [Rn.partsA_end HOF.out HQ.out (.inl hdq)] at hz
    obtain ⟨rfl,rfl⟩:=Prod.mk.inj hz
    have hz2:=HE.out
    rw [if_pos rfl] at hz2
    have E2:=gh hz2
    clear hz hz2 HE c2'
    rename World=>W1
    go_wp2_with (fail)
    go_loopw [13,14] (fun vj _ wr=>∃ (j:Int) (t:Rn),vj=.int .i64 j∧0≤j∧j≤9223372036854775807∧Went X W r s t wr∧Rn.partsB N tt n x d (d - j).toNat j t=(bE,sE)) (fun vj _ _=>(d - intOf vj).toNat)
    case atStart=>exact ⟨0,t1,rfl,by omega,by omega,G5.out,by simpa using E2.out⟩
    case round=>
     obtain ⟨j,t,rfl,j0,j1,hG,hk⟩:=hrel
     have G:=gh hG
     have HK:=gh hk
     obtain ⟨ta,tc,wa,wc,RI⟩:=hG.at
     obtain ⟨_,_,c2,_,_,ff⟩:=RI.cells
     clear RI ff hk hG
     by_cases hjd:j < d
     ·cases hof:t.off with
      | true=>
       rw [hof] at c2
       have hz:=HK.out
       rw [Rn.partsB_off hof] at hz
       obtain ⟨rfl,rfl⟩:=Prod.mk.inj hz
       clear hof hz
       go_wp2
       go_ret
       exact ⟨rfl,G.out⟩
      | false=>
       rw [hof] at c2
       have HOF:=gh hof
       obtain ⟨c,hc⟩:∃ c,(d - (j+1)).toNat=c:=⟨_,rfl⟩
       have HC:Hid ((d - j).toNat=c+1):=gh (by omega)
       have HC':=gh hc
       obtain ⟨cz,hcz⟩:∃ cz,childZ x d j=cz:=⟨_,rfl⟩
       have HCZ:=gh hcz
       obtain ⟨q,t1,hq⟩:∃ q t1,t.read cz=(q,t1):=⟨_,_,rfl⟩
       have HQ:=gh hq
       have HQ':Hid (t.read (childZ x d j)=(q,t1)):=gh (by rw [hcz];exact hq)
       clear hof hcz hc hq
       go_wp2_with (fail)
       refine (child_r _ x d j cz HCZ.out).mono ?_
       rintro e w' ⟨rfl,rfl⟩
       go_wp2_with (fail)
       refine (read_r _ r t cz G.out.at q t1 HQ.out).mono ?_
       rintro e W5 ⟨rfl,R5⟩
       have G5:=gh (G.out.trans (R5.went_read G.out.ok HQ.out))
       obtain ⟨ta,tc,wa,wc,RI⟩:=R5.1
       obtain ⟨_,_,c2',_,_,ff⟩:=RI.cells
       clear RI ff R5 c2
       by_cases q0:q=0
       ·subst q0
        cases hof1:t1.off with
        | true=>
         rw [hof1] at c2'
         have hz:=HK.out
         rw [HC.out,Rn.partsB_skip HOF.out HQ'.out (.inr hof1)] at hz
         have HZ:=gh hz
         clear hof1 hz
         go_wp2
         exact ⟨⟨j+1,t1,rfl,by omega,by omega,G5.out,by rw [HC'.out];exact HZ.out⟩,by simp [intOf];omega⟩
        | false=>
         rw [hof1] at c2'
         obtain ⟨b,t2,hp⟩:∃ b t2,t1.partR N tt n x d j=(b,t2):=⟨_,_,rfl⟩
         have HP:=gh hp
         have hz:=HK.out
         rw [HC.out,Rn.partsB_go HOF.out HQ'.out rfl hof1 hp] at hz
         have HZ:=gh hz
         clear hof1 hz hp
         go_wp2_with (fail)
         refine (part_r N _ r t1 tt n x d j G5.out.at G5.out.ok (fun k h=>HX.out k (Nat.le_trans G5.out.turned.size h)) HNI.out (by have:=G5.out.on.left;have:=HN.out;omega) (by have:=G5.out.on.left;have:=HL.out;omega) b t2 HP.out).mono ?_
         rintro e W6 ⟨rfl,G6'⟩
         have G6:=gh (G5.out.trans G6')
         clear G6'
         cases b with
         | true=>
          have hz:=HZ.out
          rw [if_pos rfl] at hz
          have HZ1:=gh hz
          clear hz HZ
          go_wp2
          exact ⟨⟨j+1,t2,rfl,by omega,by omega,G6.out,by rw [HC'.out];exact HZ1.out⟩,by simp [intOf];omega⟩
         | false=>
          have hz:=HZ.out
          rw [if_neg (by decide)] at hz
          obtain ⟨rfl,rfl⟩:=Prod.mk.inj hz
          clear hz HZ
          go_wp2
          go_ret
          exact ⟨rfl,G6.out⟩
       ·have g1:(q == 0)=false:=by simp [q0]
        have g2:(q != 0)=true:=by simp [q0]
        have hz:=HK.out
        rw [HC.out,Rn.partsB_skip HOF.out HQ'.out (.inl q0)] at hz
        have HZ:=gh hz
        clear hz
        go_wp2
        exact ⟨⟨j+1,t1,rfl,by omega,by omega,G5.out,by rw [HC'.out];exact HZ.out⟩,by simp [intOf];omega⟩
     ·have hz:=HK.out
      rw [show (d - j).toNat=0 from by omega] at hz
      obtain ⟨rfl,rfl⟩:=Prod.mk.inj hz
      clear hz
      go_wp2
      go_ret
      exact ⟨rfl,G.out⟩
   ·have gq:decide (d≤q)=false:=by simp;omega
    cases hof1:t1.off with
    | true=>
     rw [hof1] at c2'
     have hz:=HK.out
     rw [Rn.partsA_end HOF.out HQ.out (.inr hof1)] at hz
     obtain ⟨rfl,rfl⟩:=Prod.mk.inj hz
     have hz2:=HE.out
     rw [if_pos rfl] at hz2
     have E2:=gh hz2
     clear hz hz2 HE hof1
     rename World=>W1
     go_wp2_with (fail)
     go_loopw [13,14] (fun vj _ wr=>∃ (j:Int) (t:Rn),vj=.int .i64 j∧0≤j∧j≤9223372036854775807∧Went X W r s t wr∧Rn.partsB N tt n x d (d - j).toNat j t=(bE,sE)) (fun vj _ _=>(d - intOf vj).toNat)
     case atStart=>exact ⟨0,t1,rfl,by omega,by omega,G5.out,by simpa using E2.out⟩
     case round=>
      obtain ⟨j,t,rfl,j0,j1,hG,hk⟩:=hrel
      have G:=gh hG
      have HK:=gh hk
      obtain ⟨ta,tc,wa,wc,RI⟩:=hG.at
      obtain ⟨_,_,c2,_,_,ff⟩:=RI.cells
      clear RI ff hk hG
      by_cases hjd:j < d
      ·cases hof:t.off with
       | true=>
        rw [hof] at c2
        have hz:=HK.out
        rw [Rn.partsB_off hof] at hz
        obtain ⟨rfl,rfl⟩:=Prod.mk.inj hz
        clear hof hz
        go_wp2
        go_ret
        exact ⟨rfl,G.out⟩
       | false=>
        rw [hof] at c2
        have HOF:=gh hof
        obtain ⟨c,hc⟩:∃ c,(d - (j+1)).toNat=c:=⟨_,rfl⟩
        have HC:Hid ((d - j).toNat=c+1):=gh (by omega)
        have HC':=gh hc
        obtain ⟨cz,hcz⟩:∃ cz,childZ x d j=cz:=⟨_,rfl⟩
        have HCZ:=gh hcz
        obtain ⟨q,t1,hq⟩:∃ q t1,t.read cz=(q,t1):=⟨_,_,rfl⟩
        have HQ:=gh hq
        have HQ':Hid (t.read (childZ x d j)=(q,t1)):=gh (by rw [hcz];exact hq)
        clear hof hcz hc hq
        go_wp2_with (fail)
        refine (child_r _ x d j cz HCZ.out).mono ?_
        rintro e w' ⟨rfl,rfl⟩
        go_wp2_with (fail)
        refine (read_r _ r t cz G.out.at q t1 HQ.out).mono ?_
        rintro e W5 ⟨rfl,R5⟩
        have G5:=gh (G.out.trans (R5.went_read G.out.ok HQ.out))
        obtain ⟨ta,tc,wa,wc,RI⟩:=R5.1
        obtain ⟨_,_,c2',_,_,ff⟩:=RI.cells
        clear RI ff R5 c2
        by_cases q0:q=0
        ·subst q0
         cases hof1:t1.off with
         | true=>
          rw [hof1] at c2'
          have hz:=HK.out
          rw [HC.out,Rn.partsB_skip HOF.out HQ'.out (.inr hof1)] at hz
          have HZ:=gh hz
          clear hof1 hz
          go_wp2
          exact ⟨⟨j+1,t1,rfl,by omega,by omega,G5.out,by rw [HC'.out];exact HZ.out⟩,by simp [intOf];omega⟩
         | false=>
          rw [hof1] at c2'
          obtain ⟨b,t2,hp⟩:∃ b t2,t1.partR N tt n x d j=(b,t2):=⟨_,_,rfl⟩
          have HP:=gh hp
          have hz:=HK.out
          rw [HC.out,Rn.partsB_go HOF.out HQ'.out rfl hof1 hp] at hz
          have HZ:=gh hz
          clear hof1 hz hp
          go_wp2_with (fail)
          refine (part_r N _ r t1 tt n x d j G5.out.at G5.out.ok (fun k h=>HX.out k (Nat.le_trans G5.out.turned.size h)) HNI.out (by have:=G5.out.on.left;have:=HN.out;omega) (by have:=G5.out.on.left;have:=HL.out;omega) b t2 HP.out).mono ?_
          rintro e W6 ⟨rfl,G6'⟩
          have G6:=gh (G5.out.trans G6')
          clear G6'
          cases b with
          | true=>
           have hz:=HZ.out
           rw [if_pos rfl] at hz
           have HZ1:=gh hz
           clear hz HZ
           go_wp2
           exact ⟨⟨j+1,t2,rfl,by omega,by omega,G6.out,by rw [HC'.out];exact HZ1.out⟩,by simp [intOf];omega⟩
          | false=>
           have hz:=HZ.out
           rw [if_neg (by decide)] at hz
           obtain ⟨rfl,rfl⟩:=Prod.mk.inj hz
           clear hz HZ
           go_wp2
           go_ret
           exact ⟨rfl,G6.out⟩
        ·have g1:(q == 0)=false:=by simp [q0]
         have g2:(q != 0)=true:=by simp [q0]
         have hz:=HK.out
         rw [HC.out,Rn.partsB_skip HOF.out HQ'.out (.inl q0)] at hz
         have HZ:=gh hz
         clear hz
         go_wp2
         exact ⟨⟨j+1,t1,rfl,by omega,by omega,G5.out,by rw [HC'.out];exact HZ.out⟩,by simp [intOf];omega⟩
      ·have hz:=HK.out
       rw [show (d - j).toNat=0 from by omega] at hz
       obtain ⟨rfl,rfl⟩:=Prod.mk.inj hz
       clear hz
       go_wp2
       go_ret
       exact ⟨rfl,G.out⟩
    | false=>
     rw [hof1] at c2'
     obtain ⟨p,t2,hp⟩:∃ p t2,t1.partR N tt n x d q=(p,t2):=⟨_,_,rfl⟩
     have HP:=gh hp
     have hz:=HK.out
     rw [Rn.partsA_go HOF.out HQ.out hdq hof1 hp] at hz
     have HZ:=gh hz
     clear hof1 hz hp
     go_wp2_with (fail)
     refine (part_r N _ r t1 tt n x d q G5.out.at G5.out.ok (fun k h=>HX.out k (Nat.le_trans G5.out.turned.size h)) HNI.out (by have:=G5.out.on.left;have:=HN.out;omega) (by have:=G5.out.on.left;have:=HL.out;omega) p t2 HP.out).mono ?_
     rintro e W6 ⟨rfl,G6'⟩
     have G6:=gh (G5.out.trans G6')
     have L6:=gh G6'.on.left
     clear G6'
     cases p with
     | true=>
      have hz:=HZ.out
      rw [if_pos rfl] at hz
      have HZ1:=gh hz
      clear hz HZ
      go_wp2
      exact ⟨⟨F',t2,by have:=L6.out;have:=LT.out;have:=HF.out;omega,G6.out,HZ1.out⟩,by rw [G6.out.at.leftAt,G.out.at.leftAt];have:=L6.out;have:=LT.out;omega⟩
     | false=>
      have hz:=HZ.out
      rw [if_neg (by decide)] at hz
      obtain ⟨rfl,rfl⟩:=Prod.mk.inj hz
      have hz2:=HE.out
      rw [if_neg (by decide)] at hz2
      obtain ⟨rfl,rfl⟩:=Prod.mk.inj hz2
      clear hz hz2 HZ HE
      go_wp2
      go_ret
      exact ⟨rfl,G6.out⟩
end
section
open Go.Shelf
variable {X:Nat→Prop}
theorem i64_wrap (z:Int):I64 (wrap64 z):=by unfold I64 wrap64;omega
theorem i64_0:I64 0:=⟨by decide,by decide⟩
namespace Rn
theorem markK_i64 (g:Rn→Int→Int × Rn) (n d:Int):∀ (c:Nat) (i m:Int) (t:Rn),I64 m→I64 (markK g n d c i m t).1
 | 0,_,_,_,h=>h
 | c+1,i,m,t,h=>by
  rw [markK]
  split
  ·exact h
  ·split
   ·exact markK_i64 g n d c _ _ _ (i64_wrap _)
   ·split
    ·exact markK_i64 g n d c _ _ _ (i64_wrap _)
    ·split
     ·exact markK_i64 g n d c _ _ _ (i64_wrap _)
     ·exact markK_i64 g n d c _ _ _ h
theorem markF_i64:∀ (f:Nat) (s:Rn) (n:Int),I64 (markF f s n).1
 | 0,_,_=>i64_0
 | f+1,s,n=>by
  show I64 (if (s.read (wrap64 (n+4))).1=0 then _ else _:Int × Rn).1
  split
  ·exact markK_i64 _ _ _ _ _ _ _ i64_0
  ·exact i64_wrap _
def renewE (N:Nat) (b a n w:Int) (s:Rn):Bool × Rn:=
 let q:=if 2≤n then s.partsR N b a n (ad w) else (true,s)
 if q.1=false then (false,q.2)
 else
  let g:=q.2.read (wrap64 (b+1))
  let p:=g.2.read (wrap64 (b+2))
  let z:=p.2.dcss g.1 p.1 (Rf.ofZ 4 b) w
  (decide (z.1≠3),z.2)
def renewR (N:Nat) (s:Rn) (b:Int):Bool × Rn:=
 let a:=s.read b
 let m:=markF N a.2 (ad a.1)
 let w:=m.2.read (wrap64 (b+3))
 if w.2.off=true then (true,w.2)
 else if w.1=0 then
  let t:=topR N w.2 (ad a.1) m.1
  if t.1.2=false then (false,t.2)
  else
   let c:=t.2.cas (wrap64 (b+3)) 0 t.1.1
   let y:=c.2.read (wrap64 (b+3))
   renewE N b (ad a.1) m.1 y.1 y.2
 else renewE N b (ad a.1) m.1 w.1 w.2
end Rn
theorem Ran.moved_dcss {W W':World} {r:Nat} {s s':Rn} {g p o x z:Int} (R:Ran X W r s' W') (ho:s.ok) (e:s.dcss g p o x=(z,s')):Went X W r s s' W':=by
 have:s'=(s.dcss g p o x).2:=by rw [e]
 subst this
 exact ⟨⟨R.1,R.2⟩,Rn.dcss_on s g p o x,(Rn.dcss_on s g p o x).ok ho⟩
theorem Ran.went_cas {W W':World} {r:Nat} {s s':Rn} {a x y:Int} {z:Bool} (R:Ran X W r s' W') (ho:s.ok) (e:s.cas a x y=(z,s')):Went X W r s s' W':=⟨R,cas_on e,(cas_on e).ok ho⟩
set_option maxRecDepth 100000 in
set_option maxHeartbeats 2000000 in
theorem renew_r (N:Nat) (W:World) (r:Nat) (s:Rn) (b:Int) (h:RunAt X W r s) (ho:s.ok) (hX:∀ k,W.heap.size≤k→X k) (hN:s.left < N) (hl:s.left≤16384) (bE:Bool) (sE:Rn) (he:s.renewR N b=(bE,sE)) :
  Calls Tryz.prog 161 #[.pointer (some ⟨r,0,none⟩),.int .i64 b] W fun e W'=>e=.returned (.bool bE)∧Went X W r s sE W':=by
 have H:=gh h
 have HX:=gh hX
 clear hX
 have OK:=gh ho
 have HN:=gh hN
 have HL:=gh hl
 unfold Rn.renewR at he
 obtain ⟨tw,s1,h1⟩:∃ tw s1,s.read b=(tw,s1):=⟨_,_,rfl⟩
 obtain ⟨a,ha⟩:∃ a,ad tw=a:=⟨_,rfl⟩
 obtain ⟨n,s2,h2⟩:∃ n s2,Rn.markF N s1 a=(n,s2):=⟨_,_,rfl⟩
 obtain ⟨w0,s3,h3⟩:∃ w0 s3,s2.read (wrap64 (b+3))=(w0,s3):=⟨_,_,rfl⟩
 rw [h1] at he
 dsimp only at he
 rw [ha,h2] at he
 dsimp only at he
 rw [h3] at he
 dsimp only at he
 have HIN:Hid (I64 n):=gh (by have:=Rn.markF_i64 N s1 a;rw [h2] at this;exact this)
 have H1:=gh h1
 have HA:=gh ha
 have H2:=gh h2
 have H3:=gh h3
 have HE0:=gh he
 clear h ho hN hl h1 ha h2 h3 he
 go_enter Tryz.func161,Tryz.ntmps161
 go_wp2_with (fail)
 refine (read_r _ r s b H.out tw s1 H1.out).mono ?_
 rintro e W1 ⟨rfl,R1⟩
 have G1:=gh (R1.went_read OK.out H1.out)
 have IT:=gh (OK.out.read H1.out).1
 clear R1
 go_wp2_with (fail)
 refine (ak_d _ tw a IT.out HA.out).mono ?_
 rintro e w' ⟨rfl,rfl⟩
 go_wp2_with (fail)
 refine (mark_r r N _ s1 a (by have:=G1.out.on.left;have:=HN.out;omega) G1.out.at G1.out.ok n s2 H2.out).mono ?_
 rintro e W2 ⟨rfl,G2'⟩
 have G2:=gh (G1.out.trans G2')
 clear G2'
 obtain ⟨n0,n9⟩:=HIN.out
 go_wp2_with (fail)
 refine (read_r _ r s2 _ G2.out.at w0 s3 H3.out).mono ?_
 rintro e W3 ⟨rfl,R3⟩
 have G3:=gh (G2.out.trans (R3.went_read G2.out.ok H3.out))
 have IW0:=gh (G2.out.ok.read H3.out).1
 obtain ⟨ta,tc,wa,wc,RI⟩:=R3.1
 obtain ⟨_,_,c2,_,_,ff⟩:=RI.cells
 clear RI ff R3
 cases hof:s3.off with
 | true=>
  rw [hof] at c2
  have hz:=HE0.out
  rw [if_pos hof] at hz
  obtain ⟨rfl,rfl⟩:=Prod.mk.inj hz
  clear hof hz HE0
  go_wp2
  go_ret
  exact ⟨rfl,G3.out⟩
 | false=>
  rw [hof] at c2
  by_cases hw:w0=0
  ·subst hw
   obtain ⟨x,ok,s4,h4⟩:∃ x ok s4,Rn.topR N s3 a n=((x,ok),s4):=⟨_,_,_,rfl⟩
   have hz:=HE0.out
   rw [if_neg (by rw [hof];decide),if_pos rfl,h4] at hz
   try dsimp only at hz
   have HE1:=gh hz
   have H4:=gh h4
   clear hof hz HE0 h4
   go_wp2_with (fail)
   refine (top_r N _ r s3 a n G3.out.at G3.out.ok (fun k h=>HX.out k (Nat.le_trans G3.out.turned.size h)) HIN.out (by have:=G3.out.on.left;have:=HN.out;omega) (by have:=G3.out.on.left;have:=HL.out;omega) x ok s4 H4.out).mono ?_
   rintro e W4 ⟨rfl,G4'⟩
   have G4:=gh (G3.out.trans G4')
   clear G4'
   cases ok with
   | false=>
    have hz:=HE1.out
    rw [if_pos rfl] at hz
    obtain ⟨rfl,rfl⟩:=Prod.mk.inj hz
    clear hz HE1
    go_wp2
    go_ret
    exact ⟨rfl,G4.out⟩
   | true=>
    obtain ⟨cb,s5,h5⟩:∃ cb s5,s4.cas (wrap64 (b+3)) 0 x=(cb,s5):=⟨_,_,rfl⟩
    obtain ⟨y,s6,h6⟩:∃ y s6,s5.read (wrap64 (b+3))=(y,s6):=⟨_,_,rfl⟩
    have hz:=HE1.out
    rw [if_neg (by decide),h5] at hz
    try dsimp only at hz
    rw [h6] at hz
    try dsimp only at hz
    have HE:=gh hz
    have H5:=gh h5
    have H6:=gh h6
    clear hz HE1 h5 h6
    go_wp2_with (fail)
    refine (cas_r _ r s4 _ 0 x G4.out.at cb s5 H5.out).mono ?_
    rintro e W5 ⟨rfl,R5⟩
    have G5:=gh (G4.out.trans (R5.went_cas G4.out.ok H5.out))
    clear R5
    go_wp2_with (fail)
    refine (read_r _ r s5 _ G5.out.at y s6 H6.out).mono ?_
    rintro e W5' ⟨rfl,R6⟩
    have GY:=gh (G5.out.trans (R6.went_read G5.out.ok H6.out))
    have IY:=gh (G5.out.ok.read H6.out).1
    clear R6
    by_cases n2:2≤n
    ·obtain ⟨rt,hrt⟩:∃ rt,ad y=rt:=⟨_,rfl⟩
     obtain ⟨pb,t4,hpb⟩:∃ pb t4,Rn.partsR N s6 b a n rt=(pb,t4):=⟨_,_,rfl⟩
     have hz:=HE.out
     rw [Rn.renewE,if_pos n2,hrt,hpb] at hz
     have HRT:=gh hrt
     have HPB:=gh hpb
     have HE:=gh hz
     clear hrt hpb hz
     go_wp2_with (fail)
     refine (ak_d _ y rt IY.out HRT.out).mono ?_
     rintro e w' ⟨rfl,rfl⟩
     go_wp2_with (fail)
     refine (parts_r N _ r s6 b a n rt GY.out.at GY.out.ok (fun k h=>HX.out k (Nat.le_trans GY.out.turned.size h)) HIN.out (by have:=GY.out.on.left;have:=HN.out;omega) (by have:=GY.out.on.left;have:=HL.out;omega) pb t4 HPB.out).mono ?_
     rintro e W6 ⟨rfl,G6'⟩
     have G6:=gh (GY.out.trans G6')
     clear G6'
     cases pb with
     | false=>
      have hz:=HE.out
      rw [if_pos rfl] at hz
      obtain ⟨rfl,rfl⟩:=Prod.mk.inj hz
      clear hz HE
      go_wp2
      go_ret
      exact ⟨rfl,G6.out⟩
     | true=>
      have hz:=HE.out
      rw [if_neg (by decide)] at hz
      try dsimp only at hz
      have HE:=gh hz
      clear hz
      obtain ⟨g,t5,hg⟩:∃ g t5,Rn.read t4 (wrap64 (b+1))=(g,t5):=⟨_,_,rfl⟩
      obtain ⟨p,t6,hp⟩:∃ p t6,t5.read (wrap64 (b+2))=(p,t6):=⟨_,_,rfl⟩
      obtain ⟨me,hme⟩:∃ me,Rf.ofZ 4 b=me:=⟨_,rfl⟩
      obtain ⟨zd,t7,hzd⟩:∃ zd t7,t6.dcss g p me y=(zd,t7):=⟨_,_,rfl⟩
      have hz:=HE.out
      rw [hg,hp,hme,hzd] at hz
      obtain ⟨hbe,rfl⟩:=Prod.mk.inj hz
      have HBE:=gh hbe
      have HG:=gh hg
      have HP:=gh hp
      have HME:=gh hme
      have HZD:=gh hzd
      clear hg hp hme hzd hz hbe HE
      go_wp2_with (fail)
      refine (read_r _ r t4 _ G6.out.at g t5 HG.out).mono ?_
      rintro e W7 ⟨rfl,R7⟩
      have G7:=gh (G6.out.trans (R7.went_read G6.out.ok HG.out))
      clear R7
      go_wp2_with (fail)
      refine (read_r _ r t5 _ G7.out.at p t6 HP.out).mono ?_
      rintro e W8 ⟨rfl,R8⟩
      have G8:=gh (G7.out.trans (R8.went_read G7.out.ok HP.out))
      clear R8
      go_wp2_with (fail)
      refine (ofr_c 4 b me HME.out _).mono ?_
      rintro e w' ⟨rfl,rfl⟩
      go_wp2_with (fail)
      refine (dcss_r _ r t6 g p me y G8.out.at (fun k h=>HX.out k (Nat.le_trans G8.out.turned.size h)) zd _ HZD.out).mono ?_
      rintro e W9 ⟨rfl,R9⟩
      have G9:=gh (G8.out.trans (R9.moved_dcss G8.out.ok HZD.out))
      clear R9
      by_cases z3:zd=3
      ·subst z3
       go_wp2
       go_ret
       exact ⟨by rw [← HBE.out];rfl,G9.out⟩
      ·have k1:(zd == 3)=false:=by simp [z3]
       have k2:(zd != 3)=true:=by simp [z3]
       have k3:decide (zd≠3)=true:=by simp [z3]
       go_wp2
       go_ret
       exact ⟨by rw [← HBE.out,k3];rfl,G9.out⟩
    ·have g2:decide (2≤n)=false:=by simp;omega
     have hz:=HE.out
     rw [Rn.renewE,if_neg n2,if_neg (by simp)] at hz
     try dsimp only at hz
     have HE:=gh hz
     clear hz
     obtain ⟨g,t5,hg⟩:∃ g t5,Rn.read s6 (wrap64 (b+1))=(g,t5):=⟨_,_,rfl⟩
     obtain ⟨p,t6,hp⟩:∃ p t6,t5.read (wrap64 (b+2))=(p,t6):=⟨_,_,rfl⟩
     obtain ⟨me,hme⟩:∃ me,Rf.ofZ 4 b=me:=⟨_,rfl⟩
     obtain ⟨zd,t7,hzd⟩:∃ zd t7,t6.dcss g p me y=(zd,t7):=⟨_,_,rfl⟩
     have hz:=HE.out
     rw [hg,hp,hme,hzd] at hz
     obtain ⟨hbe,rfl⟩:=Prod.mk.inj hz
     have HBE:=gh hbe
     have HG:=gh hg
     have HP:=gh hp
     have HME:=gh hme
     have HZD:=gh hzd
     clear hg hp hme hzd hz hbe HE
     go_wp2_with (fail)
     refine (read_r _ r s6 _ GY.out.at g t5 HG.out).mono ?_
     rintro e W7 ⟨rfl,R7⟩
     have G7:=gh (GY.out.trans (R7.went_read GY.out.ok HG.out))
     clear R7
     go_wp2_with (fail)
     refine (read_r _ r t5 _ G7.out.at p t6 HP.out).mono ?_
     rintro e W8 ⟨rfl,R8⟩
     have G8:=gh (G7.out.trans (R8.went_read G7.out.ok HP.out))
     clear R8
     go_wp2_with (fail)
     refine (ofr_c 4 b me HME.out _).mono ?_
     rintro e w' ⟨rfl,rfl⟩
     go_wp2_with (fail)
     refine (dcss_r _ r t6 g p me y G8.out.at (fun k h=>HX.out k (Nat.le_trans G8.out.turned.size h)) zd _ HZD.out).mono ?_
     rintro e W9 ⟨rfl,R9⟩
     have G9:=gh (G8.out.trans (R9.moved_dcss G8.out.ok HZD.out))
     clear R9
     by_cases z3:zd=3
     ·subst z3
      go_wp2
      go_ret
      exact ⟨by rw [← HBE.out];rfl,G9.out⟩
     ·have k1:(zd == 3)=false:=by simp [z3]
      have k2:(zd != 3)=true:=by simp [z3]
      have k3:decide (zd≠3)=true:=by simp [z3]
      go_wp2
      go_ret
      exact ⟨by rw [← HBE.out,k3];rfl,G9.out⟩
  ·have g0:(w0 == 0)=false:=by simp [hw]
   have hz:=HE0.out
   rw [if_neg (by rw [hof];decide),if_neg hw] at hz
   have HE:=gh hz
   clear hof hz HE0
   by_cases n2:2≤n
   ·obtain ⟨rt,hrt⟩:∃ rt,ad w0=rt:=⟨_,rfl⟩
    obtain ⟨pb,t4,hpb⟩:∃ pb t4,Rn.partsR N s3 b a n rt=(pb,t4):=⟨_,_,rfl⟩
    have hz:=HE.out
    rw [Rn.renewE,if_pos n2,hrt,hpb] at hz
    have HRT:=gh hrt
    have HPB:=gh hpb
    have HE:=gh hz
    clear hrt hpb hz
    go_wp2_with (fail)
    refine (ak_d _ w0 rt IW0.out HRT.out).mono ?_
    rintro e w' ⟨rfl,rfl⟩
    go_wp2_with (fail)
    refine (parts_r N _ r s3 b a n rt G3.out.at G3.out.ok (fun k h=>HX.out k (Nat.le_trans G3.out.turned.size h)) HIN.out (by have:=G3.out.on.left;have:=HN.out;omega) (by have:=G3.out.on.left;have:=HL.out;omega) pb t4 HPB.out).mono ?_
    rintro e W6 ⟨rfl,G6'⟩
    have G6:=gh (G3.out.trans G6')
    clear G6'
    cases pb with
    | false=>
     have hz:=HE.out
     rw [if_pos rfl] at hz
     obtain ⟨rfl,rfl⟩:=Prod.mk.inj hz
     clear hz HE
     go_wp2
     go_ret
     exact ⟨rfl,G6.out⟩
    | true=>
     have hz:=HE.out
     rw [if_neg (by decide)] at hz
     try dsimp only at hz
     have HE:=gh hz
     clear hz
     obtain ⟨g,t5,hg⟩:∃ g t5,Rn.read t4 (wrap64 (b+1))=(g,t5):=⟨_,_,rfl⟩
     obtain ⟨p,t6,hp⟩:∃ p t6,t5.read (wrap64 (b+2))=(p,t6):=⟨_,_,rfl⟩
     obtain ⟨me,hme⟩:∃ me,Rf.ofZ 4 b=me:=⟨_,rfl⟩
     obtain ⟨zd,t7,hzd⟩:∃ zd t7,t6.dcss g p me w0=(zd,t7):=⟨_,_,rfl⟩
     have hz:=HE.out
     rw [hg,hp,hme,hzd] at hz
     obtain ⟨hbe,rfl⟩:=Prod.mk.inj hz
     have HBE:=gh hbe
     have HG:=gh hg
     have HP:=gh hp
     have HME:=gh hme
     have HZD:=gh hzd
     clear hg hp hme hzd hz hbe HE
     go_wp2_with (fail)
     refine (read_r _ r t4 _ G6.out.at g t5 HG.out).mono ?_
     rintro e W7 ⟨rfl,R7⟩
     have G7:=gh (G6.out.trans (R7.went_read G6.out.ok HG.out))
     clear R7
     go_wp2_with (fail)
     refine (read_r _ r t5 _ G7.out.at p t6 HP.out).mono ?_
     rintro e W8 ⟨rfl,R8⟩
     have G8:=gh (G7.out.trans (R8.went_read G7.out.ok HP.out))
     clear R8
     go_wp2_with (fail)
     refine (ofr_c 4 b me HME.out _).mono ?_
     rintro e w' ⟨rfl,rfl⟩
     go_wp2_with (fail)
     refine (dcss_r _ r t6 g p me w0 G8.out.at (fun k h=>HX.out k (Nat.le_trans G8.out.turned.size h)) zd _ HZD.out).mono ?_
     rintro e W9 ⟨rfl,R9⟩
     have G9:=gh (G8.out.trans (R9.moved_dcss G8.out.ok HZD.out))
     clear R9
     by_cases z3:zd=3
     ·subst z3
      go_wp2
      go_ret
      exact ⟨by rw [← HBE.out];rfl,G9.out⟩
     ·have k1:(zd == 3)=false:=by simp [z3]
      have k2:(zd != 3)=true:=by simp [z3]
      have k3:decide (zd≠3)=true:=by simp [z3]
      go_wp2
      go_ret
      exact ⟨by rw [← HBE.out,k3];rfl,G9.out⟩
   ·have g2:decide (2≤n)=false:=by simp;omega
    have hz:=HE.out
    rw [Rn.renewE,if_neg n2,if_neg (by simp)] at hz
    try dsimp only at hz
    have HE:=gh hz
    clear hz
    obtain ⟨g,t5,hg⟩:∃ g t5,Rn.read s3 (wrap64 (b+1))=(g,t5):=⟨_,_,rfl⟩
    obtain ⟨p,t6,hp⟩:∃ p t6,t5.read (wrap64 (b+2))=(p,t6):=⟨_,_,rfl⟩
    obtain ⟨me,hme⟩:∃ me,Rf.ofZ 4 b=me:=⟨_,rfl⟩
    obtain ⟨zd,t7,hzd⟩:∃ zd t7,t6.dcss g p me w0=(zd,t7):=⟨_,_,rfl⟩
    have hz:=HE.out
    rw [hg,hp,hme,hzd] at hz
    obtain ⟨hbe,rfl⟩:=Prod.mk.inj hz
    have HBE:=gh hbe
    have HG:=gh hg
    have HP:=gh hp
    have HME:=gh hme
    have HZD:=gh hzd
    clear hg hp hme hzd hz hbe HE
    go_wp2_with (fail)
    refine (read_r _ r s3 _ G3.out.at g t5 HG.out).mono ?_
    rintro e W7 ⟨rfl,R7⟩
    have G7:=gh (G3.out.trans (R7.went_read G3.out.ok HG.out))
    clear R7
    go_wp2_with (fail)
    refine (read_r _ r t5 _ G7.out.at p t6 HP.out).mono ?_
    rintro e W8 ⟨rfl,R8⟩
    have G8:=gh (G7.out.trans (R8.went_read G7.out.ok HP.out))
    clear R8
    go_wp2_with (fail)
    refine (ofr_c 4 b me HME.out _).mono ?_
    rintro e w' ⟨rfl,rfl⟩
    go_wp2_with (fail)
    refine (dcss_r _ r t6 g p me w0 G8.out.at (fun k h=>HX.out k (Nat.le_trans G8.out.turned.size h)) zd _ HZD.out).mono ?_
    rintro e W9 ⟨rfl,R9⟩
    have G9:=gh (G8.out.trans (R9.moved_dcss G8.out.ok HZD.out))
    clear R9
    by_cases z3:zd=3
    ·subst z3
     go_wp2
     go_ret
     exact ⟨by rw [← HBE.out];rfl,G9.out⟩
    ·have k1:(zd == 3)=false:=by simp [z3]
     have k2:(zd != 3)=true:=by simp [z3]
     have k3:decide (zd≠3)=true:=by simp [z3]
     go_wp2
     go_ret
     exact ⟨by rw [← HBE.out,k3];rfl,G9.out⟩
end
section
open Go.Shelf
variable {X:Nat→Prop}
attribute [local go_sem] Oper.semAt_some
def Rn.startR (N:Nat) (s:Rn) (nd sl w:Int):Bool × Rn:=
 let a:=s.make [w,wrap64 (nd+2),sl,0,0]
 if 0 < a.1 then
  let z:=a.2.dcss (wrap64 (nd+2)) sl w (Rf.ofZ 4 a.1)
  if z.1=1 then Rn.renewR N z.2 a.1 else (decide (z.1≠3),z.2)
 else (false,a.2)
theorem Ran.went_make {W W':World} {r:Nat} {s s':Rn} {ws:List Int} {z:Int} (R:Ran X W r s' W') (ho:s.ok) (e:s.make ws=(z,s')):Went X W r s s' W':=by
 have:s'=(s.make ws).2:=by rw [e]
 subst this
 exact ⟨R,Rn.ask_on s _,(Rn.ask_on s _).ok ho⟩
set_option maxRecDepth 100000 in
set_option maxHeartbeats 2000000 in
theorem start_r (N:Nat) (W:World) (r:Nat) (s:Rn) (nd sl w:Int) (h:RunAt X W r s) (ho:s.ok) (hX:∀ k,W.heap.size≤k→X k) (hN:s.left < N) (hl:s.left≤16384) (bE:Bool) (sE:Rn) (he:s.startR N nd sl w=(bE,sE)) :
  Calls Tryz.prog 162 #[.pointer (some ⟨r,0,none⟩),.agg #[.int .i64 nd,.int .i64 sl,.int .i64 w]] W fun e W'=>e=.returned (.bool bE)∧Went X W r s sE W':=by
 obtain ⟨V,hV⟩:∃ V,W.alloc (.cells #[.int .i64 nd,.int .i64 sl,.int .i64 w] 50)=V:=⟨_,rfl⟩
 have kV:Kept W V:=by rw [← hV];exact Td.alloc _ _ _
 obtain ⟨m,hm⟩:∃ m,W.heap.size=m:=⟨_,rfl⟩
 have hb:V.heap[m]? = some (.cells #[.int .i64 nd,.int .i64 sl,.int .i64 w] 50):=by rw [← hV,← hm];exact heap_new _ _
 have hrm:m≠r:=by have:=h.lt;omega
 have c0:V.cell? ⟨m,0,none⟩=some (.int .i64 nd):=by simp [World.cell?,hb]
 have c1:V.cell? ⟨m,1,none⟩=some (.int .i64 sl):=by simp [World.cell?,hb]
 have c2:V.cell? ⟨m,2,none⟩=some (.int .i64 w):=by simp [World.cell?,hb]
 have HC:=gh (And.intro c0 (And.intro c1 c2))
 have HRM:=gh hrm
 have H:=gh (h.kept kV)
 have HX:=gh hX
 clear hX
 have KV:=gh kV
 have OK:=gh ho
 have HN:=gh hN
 have HL:=gh hl
 unfold Rn.startR at he
 obtain ⟨g,hg⟩:∃ g,wrap64 (nd+2)=g:=⟨_,rfl⟩
 obtain ⟨a,s1,h1⟩:∃ a s1,s.make [w,g,sl,0,0]=(a,s1):=⟨_,_,rfl⟩
 rw [hg,h1] at he
 dsimp only at he
 have HE:=gh he
 have H1:=gh h1
 clear h ho hN hl he h1 hb kV hrm
 go_enter Tryz.func162,Tryz.ntmps162
 go_wp2_with (fail)
 clear hV c0 c1 c2
 refine (rebuildw_r V w g sl).mono ?_
 intro e W1 hff
 obtain ⟨a1,cap1,rfl,k1,far⟩:=hff.far
 have K1:=gh k1
 have FAR:=gh (far X r (fun k h=>HX.out k (Nat.le_trans KV.out.size h)) H.out.lt)
 clear hff k1 far
 go_wp2_with (fail)
 refine (make_r W1 r s a1 5 cap1 [w,g,sl,0,0] (H.out.kept K1.out) FAR.out rfl a s1 H1.out).mono ?_
 rintro e W2 ⟨rfl,R2⟩
 have G2:=gh ((R2.went_make OK.out H1.out).behind (KV.out.trans K1.out))
 have T2:Hid (Td (fun k=>k=r) V W2):=gh (K1.out.then R2.2)
 clear R2 FAR
 by_cases a0:0 < a
 ·have d0:decide (0 < a)=true:=by simp [a0]
  obtain ⟨me,hme⟩:∃ me,Rf.ofZ 4 a=me:=⟨_,rfl⟩
  obtain ⟨zd,s2,h2⟩:∃ zd s2,s1.dcss g sl w me=(zd,s2):=⟨_,_,rfl⟩
  have hz:=HE.out
  rw [if_pos a0,hme,h2] at hz
  dsimp only at hz
  have HE1:=gh hz
  have HME:=gh hme
  have H2:=gh h2
  obtain ⟨U,hU⟩:∃ U,W2.drew=U:=⟨_,rfl⟩
  have kU:Kept W2 U:=by rw [← hU];exact Kept.drew _
  have x0:∀ u:Wd (fun Y=>Td (fun k=>k=r) U Y),u.w.cell? ⟨m,0,none⟩=some (.int .i64 nd):=fun u=>u.ok.cell (kU.cell (T2.out.cell HC.out.1 HRM.out) id) HRM.out
  have x1:∀ u:Wd (fun Y=>Td (fun k=>k=r) U Y),u.w.cell? ⟨m,1,none⟩=some (.int .i64 sl):=fun u=>u.ok.cell (kU.cell (T2.out.cell HC.out.2.1 HRM.out) id) HRM.out
  have x2:∀ u:Wd (fun Y=>Td (fun k=>k=r) U Y),u.w.cell? ⟨m,2,none⟩=some (.int .i64 w):=fun u=>u.ok.cell (kU.cell (T2.out.cell HC.out.2.2 HRM.out) id) HRM.out
  have HU:=gh hU
  have KU:=gh kU
  clear hz HE hme h2 hU kU
  go_wp2_with (fail)
  refine region_wide [0,1,2,3,4,5,6,7,8,9,10] (fun Y=>Td (fun k=>k=r) U Y) (by kernel_rfl) (by kernel_rfl) (by rw [HU.out];exact Td.refl _ _) (fun _=>?_)
  rw [HU.out]
  repeat (refine pq rfl rfl ?_;go_big_quiet_step (fail);refine wpQuiet_nil ?_)
  refine pl rfl rfl ?_
  gi_wp2_with (fail)
  refine ⟨trivial,?_⟩
  refine (callsIn_wide.2 (ofr_c 4 a me HME.out _)).mono ?_
  rintro e Y ⟨rfl,rfl⟩
  gi_wp2_with (fail)
  refine ⟨Wd.mem (Td.refl _ _),?_⟩
  refine pl rfl rfl ?_
  gi_wp2_with (fail)
  refine ⟨trivial,?_⟩
  refine (callsIn_wide.2 (dcss_r U r s1 g sl w me (G2.out.at.kept KU.out) (fun k h=>HX.out k (Nat.le_trans G2.out.turned.size (Nat.le_trans KU.out.size h))) zd s2 H2.out)).mono ?_
  rintro e W3 ⟨rfl,R3⟩
  have T3:=gh R3.2
  have G3:=gh (G2.out.trans ((R3.moved_dcss G2.out.ok H2.out).behind KU.out))
  clear R3
  gi_wp2_with (fail)
  refine ⟨Wd.mem T3.out,?_⟩
  refine perm_done ?_
  clear x0 x1 x2 KU HU
  by_cases z1:zd=1
  ·subst z1
   have hz:=HE1.out
   rw [if_pos rfl] at hz
   have HE2:=gh hz
   clear hz HE1
   go_wp2_with (fail)
   refine (renew_r N W3 r s2 a G3.out.at G3.out.ok (fun k h=>HX.out k (Nat.le_trans G3.out.turned.size h)) (by have:=G3.out.on.left;have:=HN.out;omega) (by have:=G3.out.on.left;have:=HL.out;omega) bE sE HE2.out).mono ?_
   rintro e W4 ⟨rfl,G4'⟩
   have G4:=gh (G3.out.trans G4')
   clear G4'
   go_wp2
   go_ret
   exact ⟨rfl,G4.out⟩
  ·have g1:(zd == 1)=false:=by simp [z1]
   have hz:=HE1.out
   rw [if_neg z1] at hz
   obtain ⟨hbe,rfl⟩:=Prod.mk.inj hz
   have HBE:=gh hbe
   clear hz HE1 hbe
   by_cases z3:zd=3
   ·subst z3
    go_wp2
    go_ret
    exact ⟨by rw [← HBE.out];rfl,G3.out⟩
   ·have g3:(zd == 3)=false:=by simp [z3]
    have k3:decide (zd≠3)=true:=by simp [z3]
    go_wp2
    go_ret
    exact ⟨by rw [← HBE.out,k3];rfl,G3.out⟩
 ·have d0:decide (0 < a)=false:=by simp [a0]
  have hz:=HE.out
  rw [if_neg a0] at hz
  obtain ⟨rfl,rfl⟩:=Prod.mk.inj hz
  clear hz HE
  go_wp2
  go_ret
  exact ⟨rfl,G2.out⟩
end
section
structure En where
 nd:Int
 sl:Int
 wd:Int
def flat3:List En→List Value
 | []=>[]
 | p :: xs=>.int .i64 p.nd :: .int .i64 p.sl :: .int .i64 p.wd :: flat3 xs
theorem flat3_append:(xs ys:List En)→flat3 (xs++ys)=flat3 xs++flat3 ys
 | [],_=>rfl
 | p :: xs,ys=>by simp [flat3,flat3_append xs ys]
theorem flat3_at:{xs:List En}→{j:Nat}→{p:En}→xs[j]? = some p→(flat3 xs)[j * 3]? = some (.int .i64 p.nd)∧(flat3 xs)[j * 3+1]? = some (.int .i64 p.sl)∧(flat3 xs)[j * 3+2]? = some (.int .i64 p.wd)
 | x :: xs,0,p,h=>by
  obtain rfl:x=p:=by simpa using h
  exact ⟨rfl,rfl,rfl⟩
 | x :: xs,j+1,p,h=>by
  have:=flat3_at (xs:=xs) (j:=j) (p:=p) (by simpa using h)
  rw [show (j+1) * 3=j * 3+1+1+1 by omega]
  simpa [flat3] using this
theorem flat3_one:(xs:List En)→∀ u ∈ flat3 xs,u.oneCell'=true
 | []=>by simp [flat3]
 | p :: xs=>by
  intro u hu
  simp only [flat3,List.mem_cons] at hu
  rcases hu with rfl | rfl | rfl | hu
  ·rfl
  ·rfl
  ·rfl
  ·exact flat3_one xs u hu
def EReads (w:World) (a:Option Addr) (xs:List En):Prop:=
 xs=[]∨∃ bl off,a=some ⟨bl,off,none⟩∧∀ j p,xs[j]? = some p→w.cell? ⟨bl,off+j * 3,none⟩=some (.int .i64 p.nd)∧w.cell? ⟨bl,off+(j * 3+1),none⟩=some (.int .i64 p.sl)∧w.cell? ⟨bl,off+(j * 3+2),none⟩=some (.int .i64 p.wd)
theorem EReads.turned {w w':World} {a:Option Addr} {xs:List En} (h:EReads w a xs) {R:Nat→Prop} (ht:Td R w w') (hR:∀ k,k < w.heap.size→(∃ ad,a=some ad∧ad.block=k)→¬ R k):EReads w' a xs:=by
 rcases h with h | ⟨bl,off,rfl,h⟩
 ·exact .inl h
 ·refine .inr ⟨bl,off,rfl,fun j p hp=>?_⟩
  have hc:=h j p hp
  have hn:=hR bl (World.block_lt_of_cell? _ _ hc.1) ⟨_,rfl,rfl⟩
  exact ⟨ht.cell hc.1 hn,ht.cell hc.2.1 hn,ht.cell hc.2.2 hn⟩
theorem EReads.kept {w w':World} {a:Option Addr} {xs:List En} (h:EReads w a xs) (ht:Kept w w'):EReads w' a xs:=h.turned ht (fun _ _ _ e=>e)
theorem EReads.at {w:World} {a:Option Addr} {xs:List En} (h:EReads w a xs) {j:Nat} {p:En} (hp:xs[j]? = some p):∃ bl off,a=some ⟨bl,off,none⟩∧bl < w.heap.size∧w.cell? ⟨bl,off+j * 3,none⟩=some (.int .i64 p.nd)∧w.cell? ⟨bl,off+(j * 3+1),none⟩=some (.int .i64 p.sl)∧w.cell? ⟨bl,off+(j * 3+2),none⟩=some (.int .i64 p.wd):=by
 rcases h with h | ⟨bl,off,ha,hc⟩
 ·rw [h] at hp
  simp at hp
 ·exact ⟨bl,off,ha,World.block_lt_of_cell? _ _ (hc j p hp).1,hc j p hp⟩
abbrev ERow (w:World) (n₀:Nat) (v:Value) (xs:List En):Prop:=w.ownsRow n₀ 50 3 v xs.length (flat3 xs)
theorem ERow.reads {w:World} {n₀:Nat} {v:Value} {xs:List En} (h:ERow w n₀ v xs):∃ a cap,v=.slice a xs.length cap∧EReads w a xs∧xs.length≤cap∧cap≤maxLen∧(a=none→cap=0)∧∀ ad,a=some ad→n₀≤ad.block:=by
 rcases h.2 with ⟨rfl,h0⟩ | ⟨g,cap,cur,rfl,hg,_,hc,hm,_⟩
 ·obtain rfl:=List.length_eq_zero_iff.1 h0
  exact ⟨none,0,rfl,.inl rfl,Nat.le_refl _,Nat.zero_le _,fun _=>rfl,fun _ e=>by cases e⟩
 ·refine ⟨_,cap,rfl,.inr ⟨g,0,rfl,fun j p hp=>?_⟩,hc,hm,fun e=>(by cases e),fun ad e=>by cases e;exact hg⟩
  have hj:=(List.getElem?_eq_some_iff.1 hp).1
  rw [Nat.zero_add,Nat.zero_add,Nat.zero_add,h.cellAt (j * 3) (by omega),h.cellAt (j * 3+1) (by omega),h.cellAt (j * 3+2) (by omega)]
  exact flat3_at hp
theorem ERow.turned {w w':World} {n₀:Nat} {v:Value} {xs:List En} (h:ERow w n₀ v xs) {R:Nat→Prop} (ht:Td R w w') (hn:∀ g,v.ownBlock=some g→¬ R g):ERow w' n₀ v xs:=by
 obtain ⟨h1,h2⟩:=h
 refine ⟨h1,?_⟩
 rcases h2 with h2 | ⟨g,cap,cur,rfl,hg,hh,r⟩
 ·exact .inl h2
 ·exact .inr ⟨g,cap,cur,rfl,hg,ht.heap hh (hn g rfl),r⟩
theorem ERow.kept {w w':World} {n₀:Nat} {v:Value} {xs:List En} (h:ERow w n₀ v xs) (ht:Kept w w'):ERow w' n₀ v xs:=h.turned ht (fun _ _ e=>e)
theorem ERow.nil (w:World) (n₀:Nat):ERow w n₀ (.slice none 0 0) []:=⟨rfl,.inl ⟨rfl,rfl⟩⟩
theorem ERow.own {w:World} {n₀:Nat} {v:Value} {xs:List En} (h:ERow w n₀ v xs):∀ g,v.ownBlock=some g→n₀≤g:=by
 obtain ⟨a,cap,rfl,_,_,_,_,hb⟩:=h.reads
 intro g e
 cases a with
 | none=>simp [Value.ownBlock] at e
 | some ad=>
  have:=hb ad rfl
  simp [Value.ownBlock] at e
  omega
theorem info_e:(Tryz.prog.info? 50).map (fun i=>(i.zero,i.size,i.bytes))=some (some (.agg #[.int .i64 0,.int .i64 0,.int .i64 0]),3,24):=by kernel_rfl
theorem three_cells {w:World} {m:Nat} {x y z:Int} {E:TypeId} (h:w.heap[m]? = some (.cells #[.int .i64 x,.int .i64 y,.int .i64 z] E)):∀ (j:Nat) (u:Value),(flat3 [⟨x,y,z⟩])[j]? = some u→w.cell? ((⟨m,0,none⟩:Addr).add j)=some u:=by
 intro j u hu
 rcases j with _ | _ | _ | j
 ·simp [flat3] at hu
  subst hu
  simp [World.cell?,h,Addr.add]
 ·simp [flat3] at hu
  subst hu
  simp [World.cell?,h,Addr.add]
 ·simp [flat3] at hu
  subst hu
  simp [World.cell?,h,Addr.add]
 ·simp [flat3] at hu
section
variable {w:World} {ops:Array Oper} {rest:List Oper} {o:Oper} {a:Act} {Q:Exit→Act→World→Prop}
theorem wpList_append_entry (hgd:o.guard=none) (s x:Operand) (ho:o.op=.call { callee:=.builtin .append,args:=#[s,x],argTypes:=#[48,48] })
  (base:Nat) (v:Value) (xs ys:List En) (hs:a.eval s=v) (hown:ERow w base v xs) (m:Nat) (p q t:Int) (hx:a.eval x=.slice (some ⟨m,0,none⟩) 1 1) (hc:w.heap[m]? = some (.cells #[.int .i64 p,.int .i64 q,.int .i64 t] 50))
  (hl:xs.length≤1000000) (hbase:base≤w.heap.size) (hy:ys=xs++[⟨p,q,t⟩])
  (h:∀ v' w',ERow w' base v' ys→w.grownBy w' v.ownBlock→(v'.ownBlock=v.ownBlock∨v'.ownBlock=some w.heap.size)→wpList Tryz.prog ops Q rest (a.put o.dst v') w'):wpList Tryz.prog ops Q (o :: rest) a w:=by
 obtain ⟨i0,hi,hz0,hz1,hz2⟩:=info_parts info_e
 refine wpList_append_own_at w hgd s x 48 ho base 50 i0 _ 3 24 Tryz.underlying48 hi hz0 hz1 hz2 rfl (by decide) v xs.length (flat3 xs) hs hown ⟨m,0,none⟩ 1 1 (flat3 [⟨p,q,t⟩]) hx rfl (three_cells hc) (flat3_one _) (by unfold maxLen;omega) (by omega) hbase ?_
 intro v' w' h1 h2 _ h4
 refine h v' w' ?_ h2 h4
 rw [hy]
 show World.ownsRow _ _ _ _ _ (xs++[(⟨p,q,t⟩:En)]).length (flat3 (xs++[(⟨p,q,t⟩:En)]))
 rw [List.length_append,flat3_append]
 exact h1
end
end
section
open Go.Shelf
variable {X:Nat→Prop}
namespace Rn
def tallyL:List En→Nat→Int→Rn→Int × Rn
 | [],_,f,s=>(f,s)
 | e :: l,i,f,s=>
  if s.off=true then (f,s)
  else
   let c:=s.add (ad e.wd+3) 1
   let z:=c.2.read (ad e.wd+1)
   tallyL l (i+1) (if f < 0∧Pt.limZ z.1≤wrap64 (c.1+1) then (i:Int) else f) z.2
def tallyR (N:Nat) (s:Rn) (es:List En):Rn:=
 let p:=tallyL es 0 (-1) s
 if 0≤p.1∧p.2.off=false then
  (startR N p.2 (es.getD p.1.toNat ⟨0,0,0⟩).nd (es.getD p.1.toNat ⟨0,0,0⟩).sl (es.getD p.1.toNat ⟨0,0,0⟩).wd).2
 else p.2
theorem tallyL_off {l:List En} {i:Nat} {f:Int} {s:Rn} (h:s.off=true):tallyL l i f s=(f,s):=by
 cases l with
 | nil=>rfl
 | cons e l=>rw [tallyL,if_pos h]
theorem tallyL_go {e:En} {l:List En} {i:Nat} {f c z:Int} {s s1 s2:Rn} (h:s.off=false) (e1:s.add (ad e.wd+3) 1=(c,s1)) (e2:s1.read (ad e.wd+1)=(z,s2)):tallyL (e :: l) i f s=tallyL l (i+1) (if f < 0∧Pt.limZ z≤wrap64 (c+1) then (i:Int) else f) s2:=by
 rw [tallyL,if_neg (by rw [h];decide),e1]
 dsimp only
 rw [e2]
end Rn
set_option maxRecDepth 100000 in
set_option maxHeartbeats 2000000 in
theorem tally_r (N:Nat) (W:World) (r:Nat) (s:Rn) (la:Option Addr) (L lc:Nat) (es:List En) (h:RunAt X W r s) (ho:s.ok) (hX:∀ k,W.heap.size≤k→X k) (hr:EReads W la es) (hwd:∀ e ∈ es,I64 e.wd) (hL:es.length=L) (hc:L≤lc) (hm:L≤1000000) (hb:∀ ad,la=some ad→ad.block≠r) (hN:s.left < N) (hl:s.left≤16384) (sE:Rn) (he:s.tallyR N es=sE) :
  Calls Tryz.prog 163 #[.pointer (some ⟨r,0,none⟩),.slice la L lc] W fun e W'=>e=.returned (.tuple #[])∧Went X W r s sE W':=by
 have H:=gh h
 have HX:=gh hX
 clear hX
 have OK:=gh ho
 have HR:=gh hr
 have HWD:=gh hwd
 have HL:=gh hL
 have HB:=gh hb
 have HN:=gh hN
 have HLE:=gh hl
 unfold Rn.tallyR at he
 obtain ⟨fE,sB,hp⟩:∃ fE sB,Rn.tallyL es 0 (-1) s=(fE,sB):=⟨_,_,rfl⟩
 rw [hp] at he
 dsimp only at he
 have HE:=gh he
 have HP:=gh hp
 clear h ho hr hwd hL hb hN hl he hp
 go_enter Tryz.func163,Tryz.ntmps163
 go_wp2_with (fail)
 go_loopw [4,5,6,7,8] (fun vf vi _ _ _ wr=>∃ (i:Nat) (f:Int) (t:Rn),vi=.int .i64 (i:Int)∧vf=.int .i64 f∧i≤L∧-1≤f∧f < i∧Went X W r s t wr∧Rn.tallyL (es.drop i) i f t=(fE,sB)) (fun _ vi _ _ _ _=>L - (intOf vi).toNat)
 case atStart=>exact ⟨0,-1,s,rfl,rfl,by omega,by omega,by omega,Went.refl H.out OK.out,by simpa using HP.out⟩
 case round=>
  obtain ⟨i,f,t,rfl,rfl,i1,f1,f2,hG,hk⟩:=hrel
  have G:=gh hG
  have HK:=gh hk
  obtain ⟨ta,tc,wa,wc,RI⟩:=hG.at
  obtain ⟨_,_,c2,_,_,ff⟩:=RI.cells
  clear RI ff hk hG
  by_cases hi:i < L
  ·have q1:(i:Int) < (L:Int):=by omega
   have q2:i < lc:=by omega
   cases hof:t.off with
   | true=>
    rw [hof] at c2
    have hz:=HK.out
    rw [Rn.tallyL_off hof] at hz
    obtain ⟨rfl,rfl⟩:=Prod.mk.inj hz
    have HEND:=gh HE.out
    clear hz HE
    have hz:=HEND.out
    rw [if_neg (by rw [hof];simp)] at hz
    subst hz
    clear hof
    by_cases f0:0≤f
    ·go_wp2
     go_end0
     exact ⟨rfl,G.out⟩
    ·have g0:decide (0≤f)=false:=by simp;omega
     go_wp2
     go_end0
     exact ⟨rfl,G.out⟩
   | false=>
    rw [hof] at c2
    have hr2:=HR.out.turned G.out.turned (fun k _ ⟨ad,e,e'⟩ hk=>HB.out ad e (by rw [e',hk]))
    obtain ⟨en,hen⟩:∃ en,es[i]? = some en:=⟨_,List.getElem?_eq_getElem (by rw [HL.out];exact hi)⟩
    obtain ⟨nd,sl,wd⟩:=en
    have HDR:Hid (es.drop i=⟨nd,sl,wd⟩ :: es.drop (i+1)):=gh (by
     obtain ⟨hi',e⟩:=List.getElem?_eq_some_iff.1 hen
     rw [List.drop_eq_getElem_cons hi',e])
    have IW:Hid (I64 wd):=gh (HWD.out _ (List.mem_of_getElem? hen))
    obtain ⟨bl,off,rfl,hbl,cn,cs,cw⟩:=hr2.at hen
    have cw':wr.cell? ⟨bl,off+i * 3+2,none⟩=some (.int .i64 wd):=cw
    obtain ⟨p,hp⟩:∃ p,ad wd=p:=⟨_,rfl⟩
    have kr:=ad_range wd
    rw [hp] at kr
    obtain ⟨p0,p9⟩:=kr
    obtain ⟨c,t1,h1⟩:∃ c t1,t.add (p+3) 1=(c,t1):=⟨_,_,rfl⟩
    obtain ⟨z,t2,h2⟩:∃ z t2,t1.read (p+1)=(z,t2):=⟨_,_,rfl⟩
    obtain ⟨lz,hlz⟩:∃ lz,Pt.limZ z=lz:=⟨_,rfl⟩
    obtain ⟨cp,hcp⟩:∃ cp,wrap64 (c+1)=cp:=⟨_,rfl⟩
    have hz:=HK.out
    rw [HDR.out,Rn.tallyL_go (c:=c) (z:=z) (s1:=t1) (s2:=t2) hof (by rw [hp];exact h1) (by rw [hp];exact h2),hlz,hcp] at hz
    have HK1:=gh hz
    have HPP:=gh hp
    have H1:=gh h1
    have H2:=gh h2
    have HLZ:=gh hlz
    clear hof hz hr2 hen hp h1 h2 hlz HK hbl
    go_wp2_with (fail)
    refine (ak_d _ wd p IW.out HPP.out).mono ?_
    rintro e w' ⟨rfl,rfl⟩
    go_wp2_with (fail)
    refine (add_r _ r t _ 1 G.out.at c t1 H1.out).mono ?_
    rintro e W5 ⟨rfl,R5⟩
    have G5:=gh (G.out.trans (R5.went_add G.out.ok H1.out))
    clear R5
    go_wp2_with (fail)
    refine (read_r _ r t1 _ G5.out.at z t2 H2.out).mono ?_
    rintro e W6 ⟨rfl,R6⟩
    have G6:=gh (G5.out.trans (R6.went_read G5.out.ok H2.out))
    have IZ:=gh (G5.out.ok.read H2.out).1
    clear R6
    by_cases f0:f < 0
    ·go_wp2_with (fail)
     refine (Pt.lim_r z (I64.wf IZ.out) _).mono ?_
     rw [HLZ.out]
     rintro e w' ⟨rfl,rfl⟩
     by_cases hlc:lz≤cp
     ·have hz:=HK1.out
      rw [if_pos ⟨f0,hlc⟩] at hz
      have HK2:=gh hz
      clear hz HK1
      go_wp2
      exact ⟨⟨i+1,(i:Int),t2,by simp,rfl,by omega,by omega,by omega,G6.out,HK2.out⟩,by simp [intOf];omega⟩
     ·have g1:decide (lz≤cp)=false:=by simp;omega
      have hz:=HK1.out
      rw [if_neg (fun h=>hlc h.2)] at hz
      have HK2:=gh hz
      clear hz HK1
      go_wp2
      exact ⟨⟨i+1,f,t2,by simp,rfl,by omega,by omega,by omega,G6.out,HK2.out⟩,by simp [intOf];omega⟩
    ·have g1:decide (f < 0)=false:=by simp;omega
     have hz:=HK1.out
     rw [if_neg (fun h=>f0 h.1)] at hz
     have HK2:=gh hz
     clear hz HK1
     go_wp2
     exact ⟨⟨i+1,f,t2,by simp,rfl,by omega,by omega,by omega,G6.out,HK2.out⟩,by simp [intOf];omega⟩
  ·have q1:¬ ((i:Int) < (L:Int)):=by omega
   have hz:=HK.out
   rw [List.drop_eq_nil_of_le (by rw [HL.out];omega)] at hz
   obtain ⟨rfl,rfl⟩:=Prod.mk.inj hz
   have HEND:=gh HE.out
   clear hz HE
   cases hof:t.off with
   | true=>
    rw [hof] at c2
    have hz:=HEND.out
    rw [if_neg (by rw [hof];simp)] at hz
    subst hz
    clear hof
    by_cases f0:0≤f
    ·go_wp2
     go_end0
     exact ⟨rfl,G.out⟩
    ·have g0:decide (0≤f)=false:=by simp;omega
     go_wp2
     go_end0
     exact ⟨rfl,G.out⟩
   | false=>
    rw [hof] at c2
    by_cases f0:0≤f
    ·obtain ⟨k,rfl⟩:∃ k:Nat,f=(k:Int):=⟨f.toNat,by omega⟩
     have kL:k < L:=by omega
     have kc:k < lc:=by omega
     have kLi:(k:Int) < (L:Int):=by omega
     obtain ⟨en,hen⟩:∃ en,es[k]? = some en:=⟨_,List.getElem?_eq_getElem (by rw [HL.out];exact kL)⟩
     obtain ⟨nd,sl,wd⟩:=en
     have hr2:=HR.out.turned G.out.turned (fun k _ ⟨ad,e,e'⟩ hk=>HB.out ad e (by rw [e',hk]))
     obtain ⟨bl,off,rfl,hbl,cn,cs,cw⟩:=hr2.at hen
     have cs':wr.cell? ⟨bl,off+k * 3+1,none⟩=some (.int .i64 sl):=cs
     have cw':wr.cell? ⟨bl,off+k * 3+2,none⟩=some (.int .i64 wd):=cw
     have hz:=HEND.out
     rw [if_pos ⟨f0,hof⟩,show ((k:Int)).toNat=k from Int.toNat_natCast k,List.getD_eq_getElem?_getD,hen] at hz
     dsimp only [Option.getD] at hz
     obtain ⟨bs,hst⟩:∃ bs,Rn.startR N t nd sl wd=(bs,sE):=⟨(Rn.startR N t nd sl wd).1,by rw [← hz]⟩
     have HST:=gh hst
     clear hof hz hr2 hen hst HEND hbl
     go_wp2_with (fail)
     refine (start_r N _ r t nd sl wd G.out.at G.out.ok (fun k h=>HX.out k (Nat.le_trans G.out.turned.size h)) (by have:=G.out.on.left;have:=HN.out;omega) (by have:=G.out.on.left;have:=HLE.out;omega) bs sE HST.out).mono ?_
     rintro e W8 ⟨rfl,G8'⟩
     have G8:=gh (G.out.trans G8')
     clear G8'
     go_wp2
     go_end0
     exact ⟨rfl,G8.out⟩
    ·have g0:decide (0≤f)=false:=by simp;omega
     have hz:=HEND.out
     rw [if_neg (fun h=>f0 h.1)] at hz
     subst hz
     clear hof
     go_wp2
     go_end0
     exact ⟨rfl,G.out⟩
end
section
open Go.Shelf
variable {X:Nat→Prop}
def Rn.freshR (s:Rn) (kind key value w q:Int) (leaf there:Bool):(Int × Bool) × Rn:=
 if kind=3 then s.recM 1 [0]
 else if (s.recM 2 [key,value]).1.2=false∨leaf=false∨there=true then s.recM 2 [key,value]
 else (s.recM 2 [key,value]).2.recM 3 (innerL 2 [max q key] (if key < q then [(s.recM 2 [key,value]).1.1,w] else [w,(s.recM 2 [key,value]).1.1]))
set_option maxRecDepth 100000 in
set_option maxHeartbeats 2000000 in
theorem fresh_r (W:World) (r:Nat) (s:Rn) (kind key value w q:Int) (leaf there:Bool) (h:RunAt X W r s) (ho:s.ok) (hX:∀ k,W.heap.size≤k→X k) (z:Int) (ok:Bool) (s':Rn) (he:s.freshR kind key value w q leaf there=((z,ok),s')) :
  Calls Tryz.prog 213 #[.pointer (some ⟨r,0,none⟩),.agg #[.int .i64 kind,.int .i64 key,.int .i64 value],.int .i64 w,.int .i64 q,.bool leaf,.bool there] W fun e W'=>e=.returned (.tuple #[.int .i64 z,.bool ok])∧Went X W r s s' W':=by
 obtain ⟨V,hV⟩:∃ V,W.alloc (.cells #[.int .i64 kind,.int .i64 key,.int .i64 value] 52)=V:=⟨_,rfl⟩
 have kV:Kept W V:=by rw [← hV];exact Td.alloc _ _ _
 obtain ⟨m,hm⟩:∃ m,W.heap.size=m:=⟨_,rfl⟩
 have hb:V.heap[m]? = some (.cells #[.int .i64 kind,.int .i64 key,.int .i64 value] 52):=by rw [← hV,← hm];exact heap_new _ _
 have hrm:m≠r:=by have:=h.lt;omega
 have c0:V.cell? ⟨m,0,none⟩=some (.int .i64 kind):=by simp [World.cell?,hb]
 have c1:V.cell? ⟨m,1,none⟩=some (.int .i64 key):=by simp [World.cell?,hb]
 have c2:V.cell? ⟨m,2,none⟩=some (.int .i64 value):=by simp [World.cell?,hb]
 have HC1:=gh c1
 have HRM:=gh hrm
 have H:=gh (h.kept kV)
 have HX:Hid (∀ k,V.heap.size≤k→X k):=gh (fun k h=>hX k (Nat.le_trans kV.size h))
 clear hX
 have KV:=gh kV
 have OK:=gh ho
 unfold Rn.freshR at he
 by_cases k3:kind=3
 ·subst k3
  rw [if_pos rfl] at he
  have E2:=gh he
  clear h ho he hb kV hrm
  go_enter Tryz.func213,Tryz.ntmps213
  go_wp2_with (fail)
  clear hV c0 c1 c2
  refine (emptyw_r V).mono ?_
  intro e W1 hff
  obtain ⟨a1,cap1,rfl,k1,far⟩:=hff.far
  have K1:=gh k1
  have FAR:=gh (far X r HX.out H.out.lt)
  clear hff k1 far
  go_wp2_with (fail)
  obtain ⟨x2,ex,eo,hx2⟩:=recM_r X W1 r s 1 a1 [0] _ cap1 rfl (H.out.kept K1.out) FAR.out z ok s' E2.out
  refine hx2.mono ?_
  rintro e W3 ⟨rfl,d3⟩
  have G3:Hid (Went X W r s s' W3):=gh ⟨Ran.behind (KV.out.trans K1.out) d3,recM_on' E2.out,(recM_on' E2.out).ok OK.out⟩
  have EX:=gh ex
  clear d3 hx2 ex eo
  go_wp2_with (fail)
  refine (ofr_c 1 x2 z EX.out _).mono ?_
  rintro e w4 ⟨rfl,rfl⟩
  go_wp2
  go_ret2
  exact ⟨rfl,G3.out⟩
 ·rw [if_neg k3] at he
  have g3:(kind == 3)=false:=by simp [k3]
  obtain ⟨y,oy,s2,hy⟩:∃ y oy s2,s.recM 2 [key,value]=((y,oy),s2):=⟨_,_,_,rfl⟩
  rw [hy] at he
  dsimp only at he
  have HE:=gh he
  have HY:=gh hy
  clear h ho he hb kV hrm hy
  go_enter Tryz.func213,Tryz.ntmps213
  go_wp2_with (fail)
  clear hV c0 c1 c2
  refine (leafw_r V key value).mono ?_
  intro e W1 hff
  obtain ⟨a1,cap1,rfl,k1,far⟩:=hff.far
  have K1:=gh k1
  have FAR:=gh (far X r HX.out H.out.lt)
  clear hff k1 far
  go_wp2_with (fail)
  obtain ⟨x2,ex,eo,hx2⟩:=recM_r X W1 r s 2 a1 [key,value] _ cap1 rfl (H.out.kept K1.out) FAR.out y oy s2 HY.out
  refine hx2.mono ?_
  rintro e W2 ⟨rfl,d3⟩
  have G2:Hid (Went X W r s s2 W2):=gh ⟨Ran.behind (KV.out.trans K1.out) d3,recM_on' HY.out,(recM_on' HY.out).ok OK.out⟩
  have b2:W2.cell? ⟨m,1,none⟩=some (.int .i64 key):=d3.2.cell (K1.out.cell HC1.out id) HRM.out
  have EX:=gh ex
  have HS2:Hid (V.heap.size≤W2.heap.size):=gh (Nat.le_trans K1.out.size d3.2.size)
  clear d3 hx2 ex eo
  go_wp2_with (fail)
  refine (ofr_c 2 x2 y EX.out _).mono ?_
  rintro e w4 ⟨rfl,rfl⟩
  cases oy with
  | false=>
   have hz:=HE.out
   rw [if_pos (.inl rfl)] at hz
   obtain ⟨hz1,rfl⟩:=Prod.mk.inj hz
   obtain ⟨rfl,rfl⟩:=Prod.mk.inj hz1
   clear hz hz1 HE
   go_wp2
   go_ret2
   exact ⟨rfl,G2.out⟩
  | true=>
   cases leaf with
   | false=>
    have hz:=HE.out
    rw [if_pos (.inr (.inl rfl))] at hz
    obtain ⟨hz1,rfl⟩:=Prod.mk.inj hz
    obtain ⟨rfl,rfl⟩:=Prod.mk.inj hz1
    clear hz hz1 HE
    go_wp2
    go_ret2
    exact ⟨rfl,G2.out⟩
   | true=>
    cases there with
    | true=>
     have hz:=HE.out
     rw [if_pos (.inr (.inr rfl))] at hz
     obtain ⟨hz1,rfl⟩:=Prod.mk.inj hz
     obtain ⟨rfl,rfl⟩:=Prod.mk.inj hz1
     clear hz hz1 HE
     go_wp2
     go_ret2
     exact ⟨rfl,G2.out⟩
    | false=>
     obtain ⟨mx,hmx⟩:∃ mx,max q key=mx:=⟨_,rfl⟩
     have hz:=HE.out
     rw [if_neg (by simp),hmx] at hz
     by_cases hk:key < q
     ·rw [if_pos hk] at hz
      obtain ⟨ws,hws⟩:∃ ws,innerL 2 [mx] [y,w]=ws:=⟨_,rfl⟩
      rw [hws] at hz
      have E3:=gh hz
      clear hz HE
      obtain ⟨A1,hA1⟩:∃ A1,W2.alloc (.cells #[.int .i64 w,.int .i64 y] 2)=A1:=⟨_,rfl⟩
      obtain ⟨A2,hA2⟩:∃ A2,A1.alloc (.cells #[.int .i64 y,.int .i64 w] 2)=A2:=⟨_,rfl⟩
      obtain ⟨A3,hA3⟩:∃ A3,A2.alloc (.cells #[.int .i64 mx] 2)=A3:=⟨_,rfl⟩
      have kA1:Kept W2 A1:=by rw [← hA1];exact Td.alloc _ _ _
      have kA2:Kept A1 A2:=by rw [← hA2];exact Td.alloc _ _ _
      have kA3:Kept A2 A3:=by rw [← hA3];exact Td.alloc _ _ _
      have KA:=gh ((kA1.trans kA2).trans kA3)
      have RC:Reads A3 (some ⟨A1.heap.size,0,none⟩) [y,w]:=Reads.kept (by rw [← hA2];exact Reads.new A1 2 [y,w]) kA3
      have RQ:Reads A3 (some ⟨A2.heap.size,0,none⟩) [mx]:=by rw [← hA3];exact Reads.new A2 2 [mx]
      have CQ:=gh (inner_r A3 2 (some ⟨A2.heap.size,0,none⟩) [mx] 1 (some ⟨A1.heap.size,0,none⟩) [y,w] 2 RQ RC (fun e=>by cases e) (fun e=>by cases e) rfl (by simp))
      have b1:A1.cell? ⟨m,1,none⟩=some (.int .i64 key):=kA1.cell b2 id
      have b3:A2.cell? ⟨m,1,none⟩=some (.int .i64 key):=kA2.cell b1 id
      rw [hws] at CQ
      clear RC RQ kA1 kA3 kA2
      go_wp2_with (fail)
      refine CQ.out.mono ?_
      intro e W3 hff
      obtain ⟨a3,cap3,rfl,k3,far3⟩:=hff.far
      have K3:=gh (KA.out.trans k3)
      have FAR3:=gh (far3 X r (fun k h=>HX.out k (by have:=KA.out.size;have:=HS2.out;omega)) (Nat.lt_of_lt_of_le G2.out.at.lt KA.out.size))
      clear hff k3 far3 CQ hws hA1 hA3 hA2
      go_wp2_with (fail)
      obtain ⟨x4,ex4,eo4,hx4⟩:=recM_r X W3 r s2 3 a3 ws _ cap3 rfl (G2.out.at.kept K3.out) FAR3.out z ok s' E3.out
      refine hx4.mono ?_
      rintro e W4 ⟨rfl,d4⟩
      have G4:Hid (Went X W r s s' W4):=gh (G2.out.trans ⟨Ran.behind K3.out d4,recM_on' E3.out,(recM_on' E3.out).ok G2.out.ok⟩)
      have EX4:=gh ex4
      clear d4 hx4 ex4 eo4
      go_wp2_with (fail)
      refine (ofr_c 3 x4 z EX4.out _).mono ?_
      rintro e w4 ⟨rfl,rfl⟩
      go_wp2
      go_ret2
      exact ⟨rfl,G4.out⟩
     ·rw [if_neg hk] at hz
      have gk:decide (key < q)=false:=by simp;omega
      obtain ⟨ws,hws⟩:∃ ws,innerL 2 [mx] [w,y]=ws:=⟨_,rfl⟩
      rw [hws] at hz
      have E3:=gh hz
      clear hz HE
      obtain ⟨A1,hA1⟩:∃ A1,W2.alloc (.cells #[.int .i64 w,.int .i64 y] 2)=A1:=⟨_,rfl⟩
      obtain ⟨A3,hA3⟩:∃ A3,A1.alloc (.cells #[.int .i64 mx] 2)=A3:=⟨_,rfl⟩
      have kA1:Kept W2 A1:=by rw [← hA1];exact Td.alloc _ _ _
      have kA3:Kept A1 A3:=by rw [← hA3];exact Td.alloc _ _ _
      have KA:=gh (kA1.trans kA3)
      have RC:Reads A3 (some ⟨W2.heap.size,0,none⟩) [w,y]:=Reads.kept (by rw [← hA1];exact Reads.new W2 2 [w,y]) kA3
      have RQ:Reads A3 (some ⟨A1.heap.size,0,none⟩) [mx]:=by rw [← hA3];exact Reads.new A1 2 [mx]
      have CQ:=gh (inner_r A3 2 (some ⟨A1.heap.size,0,none⟩) [mx] 1 (some ⟨W2.heap.size,0,none⟩) [w,y] 2 RQ RC (fun e=>by cases e) (fun e=>by cases e) rfl (by simp))
      have b1:A1.cell? ⟨m,1,none⟩=some (.int .i64 key):=kA1.cell b2 id
      rw [hws] at CQ
      clear RC RQ kA1 kA3
      go_wp2_with (fail)
      refine CQ.out.mono ?_
      intro e W3 hff
      obtain ⟨a3,cap3,rfl,k3,far3⟩:=hff.far
      have K3:=gh (KA.out.trans k3)
      have FAR3:=gh (far3 X r (fun k h=>HX.out k (by have:=KA.out.size;have:=HS2.out;omega)) (Nat.lt_of_lt_of_le G2.out.at.lt KA.out.size))
      clear hff k3 far3 CQ hws hA1 hA3
      go_wp2_with (fail)
      obtain ⟨x4,ex4,eo4,hx4⟩:=recM_r X W3 r s2 3 a3 ws _ cap3 rfl (G2.out.at.kept K3.out) FAR3.out z ok s' E3.out
      refine hx4.mono ?_
      rintro e W4 ⟨rfl,d4⟩
      have G4:Hid (Went X W r s s' W4):=gh (G2.out.trans ⟨Ran.behind K3.out d4,recM_on' E3.out,(recM_on' E3.out).ok G2.out.ok⟩)
      have EX4:=gh ex4
      clear d4 hx4 ex4 eo4
      go_wp2_with (fail)
      refine (ofr_c 3 x4 z EX4.out _).mono ?_
      rintro e w4 ⟨rfl,rfl⟩
      go_wp2
      go_ret2
      exact ⟨rfl,G4.out⟩
end
section
variable {X:Nat→Prop} {lo:Nat}
structure Wk where
 lo:Int
 hi:Int
 back:Bool
 most:Int
 vals:Bool
 ps:List (Int × Int)
 ss:List (Int × Int)
namespace Rn
def meetsW (s:Rn) (k:Wk) (a:Int):(Bool × Wk) × Rn:=
 if (s.read a).1 < k.lo∨k.hi < (s.read a).1 then ((false,k),(s.read a).2)
 else if k.vals=true then
  let v:=(s.read a).2.read (a+1)
  ((decide (0 < k.most∧k.most≤((k.ps.length+1:Nat):Int)),{ k with ps:=k.ps++[((s.read a).1,v.1)] }),v.2)
 else ((decide (0 < k.most∧k.most≤((k.ps.length+1:Nat):Int)),{ k with ps:=k.ps++[((s.read a).1,0)] }),(s.read a).2)
def belowW (T:Rn→Wk→Int→(Bool × Wk) × Rn) (s:Rn) (k:Wk) (w:Int):(Bool × Wk) × Rn:=
 if kd w=2 then s.meetsW k (ad w)
 else if kd w=3 then T s k (ad w)
 else if kd w=4 then T (s.read (ad w)).2 k (ad (s.read (ad w)).1)
 else ((false,k),s)
def thrL (T:Rn→Wk→Int→(Bool × Wk) × Rn) (n d:Int):Nat→Int→Wk→Rn→(Bool × Wk) × Rn
 | 0,_,k,t=>((true,k),t)
 | c+1,i,k,t=>
  if t.off=true then ((true,k),t)
  else
   let z:=t.peek (childZ n d i)
   if z.2.off=true then ((true,k),z.2)
   else
    let b:=belowW T z.2 { k with ss:=k.ss++[(childZ n d i,z.1)] } z.1
    if b.1.1=true then ((true,b.1.2),b.2)
    else if k.back=true then
     if i=0 then ((false,b.1.2),b.2)
     else
      let q:=b.2.read (keyZ n i)
      if q.1≤k.lo then ((false,b.1.2),q.2) else thrL T n d c (wrap64 (i - 1)) b.1.2 q.2
    else if wrap64 (i+1)=d then ((false,b.1.2),b.2)
    else
     let q:=b.2.read (keyZ n (wrap64 (i+1)))
     if k.hi < q.1 then ((false,b.1.2),q.2) else thrL T n d c (wrap64 (i+1)) b.1.2 q.2
def thrF:Nat→Rn→Wk→Int→(Bool × Wk) × Rn
 | 0=>fun s k _=>((true,k),s)
 | f+1=>fun s k n=>
  let o:=s.route n (if k.back=true then k.hi else k.lo)
  thrL (thrF f) n o.1.1 (o.2.left+1) o.1.2 k o.2
end Rn
def wkCells (k:Wk) (vp vs:Value):Array Value:=#[.int .i64 k.lo,.int .i64 k.hi,.bool k.back,.int .i64 k.most,.bool k.vals,vp,vs]
structure WalkIs (W:World) (lo x:Nat) (k:Wk) (vp vs:Value):Prop where
 box:W.heap[x]? = some (.cells (wkCells k vp vs) 47)
 le:lo≤x
 prow:PRow W lo 59 vp k.ps
 srow:PRow W lo 94 vs k.ss
def WalkAt (W:World) (lo x:Nat) (k:Wk):Prop:=∃ vp vs,WalkIs W lo x k vp vs
theorem WalkIs.cells {W:World} {x:Nat} {k:Wk} {vp vs:Value} (h:WalkIs W lo x k vp vs):W.cell? ⟨x,0,none⟩=some (.int .i64 k.lo)∧W.cell? ⟨x,1,none⟩=some (.int .i64 k.hi)∧W.cell? ⟨x,2,none⟩=some (.bool k.back)∧W.cell? ⟨x,3,none⟩=some (.int .i64 k.most)∧W.cell? ⟨x,4,none⟩=some (.bool k.vals)∧W.cell? ⟨x,5,none⟩=some vp∧W.cell? ⟨x,6,none⟩=some vs∧∀ i,W.frozen? ⟨x,i,none⟩=false:=by
 have hb:=h.box
 simp [World.cell?,World.frozen?,hb,wkCells]
theorem PRow.turnedR {W W':World} {R:Nat→Prop} {E:TypeId} {v:Value} {xs:List (Int × Int)} (h:PRow W lo E v xs) (t:Td R W W') (hR:∀ k,R k→k < lo):PRow W' lo E v xs:=by
 refine h.turned t ?_
 obtain ⟨a,cap,rfl,_,_,_,_,hb⟩:=h.reads
 intro g e hg
 cases a with
 | none=>simp [Value.ownBlock] at e
 | some ad=>
  have:=hb ad rfl
  have:=hR g hg
  simp [Value.ownBlock] at e
  omega
theorem WalkIs.turned {W W':World} {R:Nat→Prop} {x:Nat} {k:Wk} {vp vs:Value} (h:WalkIs W lo x k vp vs) (t:Td R W W') (hR:∀ k,R k→k < lo):WalkIs W' lo x k vp vs:=
 ⟨t.heap h.box (fun e=>by have:=hR x e;have:=h.le;omega),h.le,h.prow.turnedR t hR,h.srow.turnedR t hR⟩
theorem WalkIs.kept {W W':World} {x:Nat} {k:Wk} {vp vs:Value} (h:WalkIs W lo x k vp vs) (t:Kept W W'):WalkIs W' lo x k vp vs:=h.turned t (fun _ e=>e.elim)
theorem WalkAt.turned {W W':World} {R:Nat→Prop} {x:Nat} {k:Wk} (h:WalkAt W lo x k) (t:Td R W W') (hR:∀ k,R k→k < lo):WalkAt W' lo x k:=by
 obtain ⟨vp,vs,h⟩:=h
 exact ⟨vp,vs,h.turned t hR⟩
theorem PRow.typed {W:World} {E:TypeId} {v:Value} {xs:List (Int × Int)} (h:PRow W lo E v xs):∀ g,v.ownBlock=some g→∃ c,W.heap[g]? = some (.cells c E):=by
 intro g e
 rcases h.2 with ⟨rfl,_⟩ | ⟨g',cap,cur,rfl,hg,hh,_⟩
 ·simp [Value.ownBlock] at e
 ·simp [Value.ownBlock] at e
  subst e
  exact ⟨_,hh⟩
theorem PRow.apart {W:World} {E E':TypeId} {v:Value} {xs:List (Int × Int)} (h:PRow W lo E v xs) {x:Nat} {c:Array Value} (hb:W.heap[x]? = some (.cells c E')) (ne:E≠E'):∀ g,v.ownBlock=some g→g≠x:=by
 intro g e hx
 obtain ⟨c',h'⟩:=h.typed g e
 rw [hx,hb] at h'
 simp at h'
 exact ne h'.2.symm
theorem PRow.apart2 {W:World} {E E':TypeId} {v v':Value} {xs ys:List (Int × Int)} (h:PRow W lo E v xs) (h':PRow W lo E' v' ys) (ne:E≠E'):∀ g,v.ownBlock=some g→v'.ownBlock≠some g:=by
 intro g e e'
 obtain ⟨c,hc⟩:=h'.typed g e'
 exact h.apart hc ne g e rfl
theorem PRow.from {W:World} {E:TypeId} {v:Value} {xs:List (Int × Int)} (h:PRow W lo E v xs):∀ g,v.ownBlock=some g→lo≤g:=by
 obtain ⟨a,cap,rfl,_,_,_,_,hb⟩:=h.reads
 intro g e
 cases a with
 | none=>simp [Value.ownBlock] at e
 | some ad=>
  have:=hb ad rfl
  simp [Value.ownBlock] at e
  omega
theorem WalkIs.pair {W W1:World} {x:Nat} {k:Wk} {vp vs v':Value} (h:WalkIs W lo x k vp vs) (tmp:Obj) (ys:List (Int × Int)) (hg:(W.alloc tmp).grownBy W1 vp.ownBlock) (hr:PRow W1 lo 59 v' ys) :
  W1.heap[x]? = some (.cells (wkCells k vp vs) 47)∧WalkIs (W1.setCell ⟨x,5,none⟩ v') lo x { k with ps:=ys } v' vs∧Td (fun k=>lo≤k) W (W1.setCell ⟨x,5,none⟩ v'):=by
 have t0:Kept W (W.alloc tmp):=Td.alloc _ _ _
 have h0:=h.kept t0
 have t1:Td (fun k=>vp.ownBlock=some k) (W.alloc tmp) W1:=Td.of_grownBy hg (fun _ e=>e)
 have b1:W1.heap[x]? = some (.cells (wkCells k vp vs) 47):=t1.heap h0.box (fun e=>h0.prow.apart h0.box (by decide) x e rfl)
 have s1:PRow W1 lo 94 vs k.ss:=h0.srow.turned t1 (fun g e e'=>h0.srow.apart2 h0.prow (by decide) g e e')
 have t2:Td (fun j=>j=x) W1 (W1.setCell ⟨x,5,none⟩ v'):=Td.setCell _ _ _ rfl
 refine ⟨b1,⟨?_,h.le,hr.turned t2 (fun g e e'=>hr.apart b1 (by decide) g e e'),s1.turned t2 (fun g e e'=>s1.apart b1 (by decide) g e e')⟩,?_⟩
 ·simp [World.setCell,Array.getElem?_modify,b1,wkCells]
 ·refine (t0.then (t1.trans (R'':=fun j=>lo≤j) t2 (fun g e=>h.prow.from g e) (fun g _ e=>?_)))
  subst e
  exact h.le
theorem WalkIs.spot {W W1:World} {x:Nat} {k:Wk} {vp vs v':Value} (h:WalkIs W lo x k vp vs) (tmp:Obj) (ys:List (Int × Int)) (hg:(W.alloc tmp).grownBy W1 vs.ownBlock) (hr:PRow W1 lo 94 v' ys) :
  W1.heap[x]? = some (.cells (wkCells k vp vs) 47)∧WalkIs (W1.setCell ⟨x,6,none⟩ v') lo x { k with ss:=ys } vp v'∧Td (fun k=>lo≤k) W (W1.setCell ⟨x,6,none⟩ v'):=by
 have t0:Kept W (W.alloc tmp):=Td.alloc _ _ _
 have h0:=h.kept t0
 have t1:Td (fun k=>vs.ownBlock=some k) (W.alloc tmp) W1:=Td.of_grownBy hg (fun _ e=>e)
 have b1:W1.heap[x]? = some (.cells (wkCells k vp vs) 47):=t1.heap h0.box (fun e=>h0.srow.apart h0.box (by decide) x e rfl)
 have s1:PRow W1 lo 59 vp k.ps:=h0.prow.turned t1 (fun g e e'=>h0.prow.apart2 h0.srow (by decide) g e e')
 have t2:Td (fun j=>j=x) W1 (W1.setCell ⟨x,6,none⟩ v'):=Td.setCell _ _ _ rfl
 refine ⟨b1,⟨?_,h.le,s1.turned t2 (fun g e e'=>s1.apart b1 (by decide) g e e'),hr.turned t2 (fun g e e'=>hr.apart b1 (by decide) g e e')⟩,?_⟩
 ·simp [World.setCell,Array.getElem?_modify,b1,wkCells]
 ·refine (t0.then (t1.trans (R'':=fun j=>lo≤j) t2 (fun g e=>h.srow.from g e) (fun g _ e=>?_)))
  subst e
  exact h.le
end
section
open Go.Shelf
variable {X:Nat→Prop} {lo:Nat}
theorem Rn.meetsW_out {s s1:Rn} {k:Wk} {a q:Int} (e:s.read a=(q,s1)) (h:q < k.lo∨k.hi < q):s.meetsW k a=((false,k),s1):=by
 unfold meetsW;rw [e,if_pos h]
theorem Rn.meetsW_val {s s1 s2:Rn} {k:Wk} {a q v:Int} (e:s.read a=(q,s1)) (h:¬ (q < k.lo∨k.hi < q)) (hv:k.vals=true) (e2:s1.read (a+1)=(v,s2)):s.meetsW k a=((decide (0 < k.most∧k.most≤((k.ps.length+1:Nat):Int)),{ k with ps:=k.ps++[(q,v)] }),s2):=by
 unfold meetsW;rw [e,if_neg h,if_pos hv,e2]
theorem Rn.meetsW_key {s s1:Rn} {k:Wk} {a q:Int} (e:s.read a=(q,s1)) (h:¬ (q < k.lo∨k.hi < q)) (hv:k.vals=false):s.meetsW k a=((decide (0 < k.most∧k.most≤((k.ps.length+1:Nat):Int)),{ k with ps:=k.ps++[(q,0)] }),s1):=by
 unfold meetsW;rw [e,if_neg h,if_neg (by rw [hv];decide)]
theorem Gath.more {W W' W'':World} {r:Nat} {s s':Rn} (hX:∀ k,X k→k < lo) (h:Gath X lo W r s s' W') (t:Td (fun k=>lo≤k) W' W''):Gath X lo W r s s' W'':=
 ⟨h.lies.above t (fun k h1 h2=>by have:=hX k h1;omega),h.turned.trans t (fun _ e=>e) (fun _ _ e=>.inr e),h.on,h.ok⟩
structure Wlk (X:Nat→Prop) (lo x:Nat) (W:World) (r:Nat) (s s':Rn) (k k':Wk) (W':World):Prop where
 gath:Gath X lo W r s s' W'
 walk:WalkAt W' lo x k'
 plen:k'.ps.length+s'.left≤k.ps.length+s.left
 slen:k'.ss.length+s'.left≤k.ss.length+s.left
 same:(k'.lo=k.lo∧k'.hi=k.hi)∧k'.back=k.back∧k'.most=k.most∧k'.vals=k.vals
theorem Wlk.trans {x r:Nat} {W W' W'':World} {s s' s'':Rn} {k k' k'':Wk} (h:Wlk X lo x W r s s' k k' W') (h':Wlk X lo x W' r s' s'' k' k'' W''):Wlk X lo x W r s s'' k k'' W'':=
 ⟨h.gath.trans h'.gath,h'.walk,by have:=h.plen;have:=h'.plen;omega,by have:=h.slen;have:=h'.slen;omega,
 ⟨h'.same.1.1.trans h.same.1.1,h'.same.1.2.trans h.same.1.2⟩,h'.same.2.1.trans h.same.2.1,h'.same.2.2.1.trans h.same.2.2.1,h'.same.2.2.2.trans h.same.2.2.2⟩
theorem Went.wlk {x r:Nat} {W W':World} {s s':Rn} {k:Wk} (h:Went X W r s s' W') (hw:WalkAt W lo x k) (hr:r < lo):Wlk X lo x W r s s' k k W':=
 ⟨h.gath,hw.turned h.turned (fun j e=>by rw [e];exact hr),by have:=h.on.left;omega,by have:=h.on.left;omega,⟨rfl,rfl⟩,rfl,rfl,rfl⟩
set_option maxRecDepth 100000 in
set_option maxHeartbeats 2000000 in
theorem meets_r (hX:∀ k,X k→k < lo) (W:World) (r x:Nat) (s:Rn) (k:Wk) (a:Int) (a0:0≤a) (a1:a≤65536) (h:RunAt X W r s) (ho:s.ok) (hof:s.off=false) (hw:WalkAt W lo x k) (hlo:lo≤W.heap.size) (hp:k.ps.length+s.left≤1000000) (b:Bool) (k':Wk) (s':Rn) (he:s.meetsW k a=((b,k'),s')) :
  Calls Tryz.prog 208 #[.pointer (some ⟨x,0,none⟩),.pointer (some ⟨r,0,none⟩),.int .i64 a] W fun e W'=>e=.returned (.bool b)∧Wlk X lo x W r s s' k k' W':=by
 have HR0:=gh (h.rlo hX)
 obtain ⟨q,s1,hq⟩:∃ q s1,s.read a=(q,s1):=⟨_,_,rfl⟩
 have HL1:Hid (s1.left < s.left):=gh (by have:=Rn.read_lt a hof;rw [hq] at this;exact this)
 have HQ:=gh hq
 have HE:=gh he
 have H:=gh h
 have OK:=gh ho
 have HW:=gh hw
 have HP:=gh hp
 have HLO:=gh hlo
 clear hq he h ho hof hw hp hlo
 go_enter Tryz.func208,Tryz.ntmps208
 go_wp2_with (fail)
 refine (read_r _ r s a H.out q s1 HQ.out).mono ?_
 rintro e W1 ⟨rfl,R1⟩
 have G1:=gh (R1.went_read OK.out HQ.out)
 have HW1:=HW.out.turned R1.2 (fun k e=>by rw [e];exact HR0.out)
 clear R1
 obtain ⟨vp,vs,WI⟩:=HW1
 obtain ⟨c0,c1,c2,c3,c4,c5,c6,f⟩:=WI.cells
 have f5:=f 5
 have HWI:=gh WI
 clear f WI c6 c2
 have DONE:∀ (W':World) (s2:Rn),Went X W1 r s1 s2 W'→s2.left < s.left→WalkAt W' lo x k→((false,k),s2)=((b,k'),s')→b=false∧Wlk X lo x W r s s' k k' W':=by
  intro W' s2 hw hl hk e
  cases e
  exact ⟨rfl,G1.out.gath.trans hw.gath,hk,by omega,by omega,⟨rfl,rfl⟩,rfl,rfl,rfl⟩
 have HD:=gh DONE
 clear DONE
 by_cases h1:q < k.lo
 ·have hz:=HE.out
  rw [Rn.meetsW_out HQ.out (.inl h1)] at hz
  have HZ:=gh hz
  clear hz
  go_wp2
  go_ret
  obtain ⟨rfl,h⟩:=HD.out _ s1 (Went.refl G1.out.at G1.out.ok) HL1.out ⟨_,_,HWI.out⟩ HZ.out
  exact ⟨rfl,h⟩
 ·by_cases h2:k.hi < q
  ·have hz:=HE.out
   rw [Rn.meetsW_out HQ.out (.inr h2)] at hz
   have HZ:=gh hz
   clear hz
   have g1:decide (q < k.lo)=false:=by simp;omega
   go_wp2
   go_ret
   obtain ⟨rfl,h⟩:=HD.out _ s1 (Went.refl G1.out.at G1.out.ok) HL1.out ⟨_,_,HWI.out⟩ HZ.out
   exact ⟨rfl,h⟩
  ·have g1:decide (q < k.lo)=false:=by simp;omega
   have g2:decide (k.hi < q)=false:=by simp;omega
   have NH:Hid (¬ (q < k.lo∨k.hi < q)):=gh (by omega)
   clear h1 h2 HD
   cases hv:k.vals with
   | true=>
    rw [hv] at c4
    obtain ⟨v,s2,hv2⟩:∃ v s2,s1.read (a+1)=(v,s2):=⟨_,_,rfl⟩
    have hz:=HE.out
    rw [Rn.meetsW_val HQ.out NH.out hv hv2] at hz
    have HZ:=gh hz
    have HV2:=gh hv2
    clear hz hv hv2 HE
    go_wp2_with (fail)
    refine (read_r _ r s1 (a+1) G1.out.at v s2 HV2.out).mono ?_
    rintro e W2 ⟨rfl,R2⟩
    have HL2:=gh (Rn.read_on HV2.out).left
    have G2':=R2.went_read G1.out.ok HV2.out
    have WI:=HWI.out.turned R2.2 (fun k e=>by rw [e];exact HR0.out)
    have G2:=gh (G1.out.trans G2')
    clear R2 G2' c0 c1 c3 c4 c5 f5
    obtain ⟨c0,c1,c2,c3,c4,c5,c6,f⟩:=WI.cells
    have f5:=f 5
    have HWJ:=gh WI
    obtain ⟨la,lc,hvp,_⟩:=WI.prow.reads
    obtain ⟨M,hM⟩:∃ M,k.ps.length=M:=⟨_,rfl⟩
    rw [hM] at hvp
    have HM:=gh hM
    subst hvp
    clear f WI c6 c2 hM
    go_wp2_with (at_builtin;refine Stop.out ?_)
    refine ⟨?_⟩
    have HRA:=gh (HWJ.out.prow.kept (Kept.alloc (Kept.refl W2) (.cells #[.int .i64 q,.int .i64 v] 59)))
    have HNW:Hid ((W2.alloc (.cells #[.int .i64 q,.int .i64 v] 59)).heap[W2.heap.size]? = some (.cells #[.int .i64 q,.int .i64 v] 59)):=gh (heap_new _ _)
    refine wpList_append_pair ptP rfl _ _ rfl lo _ k.ps (k.ps++[(q,v)]) rfl HRA.out W2.heap.size q v rfl HNW.out (by have:=HP.out;omega) (by have:=G2.out.turned.size;have:=HLO.out;simp;omega) rfl ?_
    intro v9 W9 hown hg hat
    obtain ⟨b9,w9,t9⟩:=HWJ.out.pair _ _ hg hown
    have HW9:=gh w9
    have HT9:=gh t9
    obtain ⟨la9,lc9,hv9,_⟩:=hown.reads
    obtain ⟨N,hN⟩:∃ N,(k.ps++[(q,v)]).length=N:=⟨_,rfl⟩
    rw [hN] at hv9
    have HN:Hid (N=M+1):=gh (by rw [← hN];have:=HM.out;simp;omega)
    have y5:W9.frozen? ⟨x,5,none⟩=false:=by simp [World.frozen?,b9]
    have x5:W9.cell? ⟨x,5,none⟩=some (.slice la M lc):=by simp [World.cell?,b9,wkCells]
    subst hv9
    obtain ⟨d0,d1,d2,d3,d4,d5,d6,_⟩:=w9.cells
    have HZ':=HZ.out
    clear hown hg hat HRA HNW c0 c1 c3 c4 c5 f5 b9 w9 t9 hN d0 d1 d2 d4 d6
    have FIN:∀ (W':World),Kept (W9.setCell ⟨x,5,none⟩ (.slice la9 N lc9)) W'→b=decide (0 < k.most∧k.most≤(N:Int))∧Wlk X lo x W r s s' k k' W':=by
     intro W' kk
     have hz:=HZ.out
     rw [show k.ps.length+1=N by have:=HM.out;have:=HN.out;omega] at hz
     cases hz
     refine ⟨rfl,(G2.out.gath.more hX HT9.out).more hX (kk.mono fun _ _ e=>e.elim),⟨_,_,HW9.out.kept kk⟩,?_,?_,⟨rfl,rfl⟩,rfl,rfl,rfl⟩
     ·have:=HL1.out;have:=HL2.out;simp at this ⊢;omega
     ·have:=HL1.out;have:=HL2.out;simp at this ⊢;omega
    have HF:=gh FIN
    clear FIN HZ HZ'
    by_cases m0:0 < k.most
    ·by_cases m1:k.most≤(N:Int)
     ·have g4:decide (k.most≤(N:Int))=true:=by simp [m1]
      have e9:decide (0 < k.most∧k.most≤(N:Int))=true:=by simp [m0,m1]
      rw [e9] at HF
      go_wp2
      go_quiet (fail)
      go_wp2
      go_ret
      obtain ⟨rfl,h⟩:=HF.out _ (Kept.drewN _ _)
      exact ⟨rfl,h⟩
     ·have g4:decide (k.most≤(N:Int))=false:=by simp;omega
      have e9:decide (0 < k.most∧k.most≤(N:Int))=false:=by simp;omega
      rw [e9] at HF
      go_wp2
      go_quiet (fail)
      go_wp2
      go_ret
      obtain ⟨rfl,h⟩:=HF.out _ (Kept.drewN _ _)
      exact ⟨rfl,h⟩
    ·have g4:decide (0 < k.most)=false:=by simp;omega
     have e9:decide (0 < k.most∧k.most≤(N:Int))=false:=by simp;omega
     rw [e9] at HF
     go_wp2
     go_quiet (fail)
     go_wp2
     go_ret
     obtain ⟨rfl,h⟩:=HF.out _ (Kept.drewN _ _)
     exact ⟨rfl,h⟩
   | false=>
    rw [hv] at c4
    have hz:=HE.out
    rw [Rn.meetsW_key HQ.out NH.out hv] at hz
    have HZ:=gh hz
    clear hz hv HE
    have HWJ:=HWI
    obtain ⟨la,lc,hvp,_⟩:=HWI.out.prow.reads
    obtain ⟨M,hM⟩:∃ M,k.ps.length=M:=⟨_,rfl⟩
    rw [hM] at hvp
    have HM:=gh hM
    subst hvp
    clear hM
    go_wp2_with (at_builtin;refine Stop.out ?_)
    refine ⟨?_⟩
    have HRA:=gh (HWJ.out.prow.kept (Kept.alloc (Kept.refl W1) (.cells #[.int .i64 q,.int .i64 0] 59)))
    have HNW:Hid ((W1.alloc (.cells #[.int .i64 q,.int .i64 0] 59)).heap[W1.heap.size]? = some (.cells #[.int .i64 q,.int .i64 0] 59)):=gh (heap_new _ _)
    refine wpList_append_pair ptP rfl _ _ rfl lo _ k.ps (k.ps++[(q,0)]) rfl HRA.out W1.heap.size q 0 rfl HNW.out (by have:=HP.out;omega) (by have:=G1.out.turned.size;have:=HLO.out;simp;omega) rfl ?_
    intro v9 W9 hown hg hat
    obtain ⟨b9,w9,t9⟩:=HWJ.out.pair _ _ hg hown
    have HW9:=gh w9
    have HT9:=gh t9
    obtain ⟨la9,lc9,hv9,_⟩:=hown.reads
    obtain ⟨N,hN⟩:∃ N,(k.ps++[(q,0)]).length=N:=⟨_,rfl⟩
    rw [hN] at hv9
    have HN:Hid (N=M+1):=gh (by rw [← hN];have:=HM.out;simp;omega)
    have y5:W9.frozen? ⟨x,5,none⟩=false:=by simp [World.frozen?,b9]
    have x5:W9.cell? ⟨x,5,none⟩=some (.slice la M lc):=by simp [World.cell?,b9,wkCells]
    subst hv9
    obtain ⟨d0,d1,d2,d3,d4,d5,d6,_⟩:=w9.cells
    clear hown hg hat HRA HNW c0 c1 c3 c4 c5 f5 b9 w9 t9 hN d0 d1 d2 d4 d6
    have FIN:∀ (W':World),Kept (W9.setCell ⟨x,5,none⟩ (.slice la9 N lc9)) W'→b=decide (0 < k.most∧k.most≤(N:Int))∧Wlk X lo x W r s s' k k' W':=by
     intro W' kk
     have hz:=HZ.out
     rw [show k.ps.length+1=N by have:=HM.out;have:=HN.out;omega] at hz
     cases hz
     refine ⟨rfl,(G1.out.gath.more hX HT9.out).more hX (kk.mono fun _ _ e=>e.elim),⟨_,_,HW9.out.kept kk⟩,?_,?_,⟨rfl,rfl⟩,rfl,rfl,rfl⟩
     ·have:=HL1.out;simp;omega
     ·have:=HL1.out;simp;omega
    have HF:=gh FIN
    clear FIN HZ
    by_cases m0:0 < k.most
    ·by_cases m1:k.most≤(N:Int)
     ·have g4:decide (k.most≤(N:Int))=true:=by simp [m1]
      have e9:decide (0 < k.most∧k.most≤(N:Int))=true:=by simp [m0,m1]
      rw [e9] at HF
      go_wp2
      go_quiet (fail)
      go_wp2
      go_ret
      obtain ⟨rfl,h⟩:=HF.out _ (Kept.drewN _ _)
      exact ⟨rfl,h⟩
     ·have g4:decide (k.most≤(N:Int))=false:=by simp;omega
      have e9:decide (0 < k.most∧k.most≤(N:Int))=false:=by simp;omega
      rw [e9] at HF
      go_wp2
      go_quiet (fail)
      go_wp2
      go_ret
      obtain ⟨rfl,h⟩:=HF.out _ (Kept.drewN _ _)
      exact ⟨rfl,h⟩
    ·have g4:decide (0 < k.most)=false:=by simp;omega
     have e9:decide (0 < k.most∧k.most≤(N:Int))=false:=by simp;omega
     rw [e9] at HF
     go_wp2
     go_quiet (fail)
     go_wp2
     go_ret
     obtain ⟨rfl,h⟩:=HF.out _ (Kept.drewN _ _)
     exact ⟨rfl,h⟩
end
section
open Go.Shelf
variable {X:Nat→Prop} {lo:Nat}
attribute [local go_sem] Oper.semAt_some
namespace Rn
variable {T:Rn→Wk→Int→(Bool × Wk) × Rn} {n d i z q w:Int} {c:Nat} {k k3:Wk} {t t2 t3 t4:Rn}
theorem thrL_off (h:t.off=true):thrL T n d c i k t=((true,k),t):=by
 cases c with
 | zero=>rfl
 | succ c=>rw [thrL,if_pos h]
theorem thrL_brk (h:t.off=false) (e:t.peek (childZ n d i)=(z,t2)) (h2:t2.off=true):thrL T n d (c+1) i k t=((true,k),t2):=by
 rw [thrL,if_neg (by rw [h];decide),e]
 dsimp only
 rw [if_pos h2]
theorem thrL_hit (h:t.off=false) (e:t.peek (childZ n d i)=(z,t2)) (h2:t2.off=false) (e3:belowW T t2 { k with ss:=k.ss++[(childZ n d i,z)] } z=((true,k3),t3)):thrL T n d (c+1) i k t=((true,k3),t3):=by
 rw [thrL,if_neg (by rw [h];decide),e]
 dsimp only
 rw [if_neg (by rw [h2];decide),e3]
 rfl
theorem thrL_b0 (h:t.off=false) (e:t.peek (childZ n d i)=(z,t2)) (h2:t2.off=false) (e3:belowW T t2 { k with ss:=k.ss++[(childZ n d i,z)] } z=((false,k3),t3)) (hb:k.back=true) (hi:i=0):thrL T n d (c+1) i k t=((false,k3),t3):=by
 rw [thrL,if_neg (by rw [h];decide),e]
 dsimp only
 rw [if_neg (by rw [h2];decide),e3]
 dsimp only
 rw [if_neg (by decide),if_pos hb,if_pos hi]
theorem thrL_b1 (h:t.off=false) (e:t.peek (childZ n d i)=(z,t2)) (h2:t2.off=false) (e3:belowW T t2 { k with ss:=k.ss++[(childZ n d i,z)] } z=((false,k3),t3)) (hb:k.back=true) (hi:i≠0) (e4:t3.read (keyZ n i)=(q,t4)):thrL T n d (c+1) i k t=if q≤k.lo then ((false,k3),t4) else thrL T n d c (wrap64 (i - 1)) k3 t4:=by
 rw [thrL,if_neg (by rw [h];decide),e]
 dsimp only
 rw [if_neg (by rw [h2];decide),e3]
 dsimp only
 rw [if_neg (by decide),if_pos hb,if_neg hi,e4]
theorem thrL_f0 (h:t.off=false) (e:t.peek (childZ n d i)=(z,t2)) (h2:t2.off=false) (e3:belowW T t2 { k with ss:=k.ss++[(childZ n d i,z)] } z=((false,k3),t3)) (hb:k.back=false) (hi:wrap64 (i+1)=d):thrL T n d (c+1) i k t=((false,k3),t3):=by
 rw [thrL,if_neg (by rw [h];decide),e]
 dsimp only
 rw [if_neg (by rw [h2];decide),e3]
 dsimp only
 rw [if_neg (by decide),if_neg (by rw [hb];decide),if_pos hi]
theorem thrL_f1 (h:t.off=false) (e:t.peek (childZ n d i)=(z,t2)) (h2:t2.off=false) (e3:belowW T t2 { k with ss:=k.ss++[(childZ n d i,z)] } z=((false,k3),t3)) (hb:k.back=false) (hi:wrap64 (i+1)≠d) (e4:t3.read (keyZ n (wrap64 (i+1)))=(q,t4)):thrL T n d (c+1) i k t=if k.hi < q then ((false,k3),t4) else thrL T n d c (wrap64 (i+1)) k3 t4:=by
 rw [thrL,if_neg (by rw [h];decide),e]
 dsimp only
 rw [if_neg (by rw [h2];decide),e3]
 dsimp only
 rw [if_neg (by decide),if_neg (by rw [hb];decide),if_neg hi,e4]
end Rn
def Thr (X:Nat→Prop) (lo r x N:Nat) (T:Rn→Wk→Int→(Bool × Wk) × Rn):Prop:=
 ∀ (W:World) (s:Rn) (n:Int) (k:Wk),s.left < N→RunAt X W r s→s.ok→I64 k.lo∧I64 k.hi→WalkAt W lo x k→lo≤W.heap.size→k.ps.length+s.left≤1000000→k.ss.length+s.left≤1000000→∀ (b:Bool) (k':Wk) (s':Rn),T s k n=((b,k'),s')→
  Calls Tryz.prog 156 #[.pointer (some ⟨x,0,none⟩),.pointer (some ⟨r,0,none⟩),.int .i64 n] W fun e W'=>e=.returned (.bool b)∧Wlk X lo x W r s s' k k' W'
set_option maxRecDepth 100000 in
set_option maxHeartbeats 1000000 in
theorem below_r (hX:∀ k,X k→k < lo) (r x N:Nat) (T:Rn→Wk→Int→(Bool × Wk) × Rn) (HT:Thr X lo r x N T) (W:World) (s:Rn) (w:Int) (k:Wk) (hN:s.left < N) (h:RunAt X W r s) (ho:s.ok) (hof:s.off=false) (hk:I64 k.lo∧I64 k.hi) (iw:I64 w) (hw:WalkAt W lo x k) (hlo:lo≤W.heap.size) (hp:k.ps.length+s.left≤1000000) (hs:k.ss.length+s.left≤1000000) (b:Bool) (k':Wk) (s':Rn) (he:Rn.belowW T s k w=((b,k'),s')) :
  Calls Tryz.prog 189 #[.pointer (some ⟨x,0,none⟩),.pointer (some ⟨r,0,none⟩),.int .i64 w] W fun e W'=>e=.returned (.bool b)∧Wlk X lo x W r s s' k k' W':=by
 have HR0:=gh (h.rlo hX)
 have H:=gh h
 have OK:=gh ho
 have HOF:=gh hof
 have HW:=gh hw
 have HK0:=gh hk
 have IW:=gh iw
 have HN:=gh hN
 have HLO:=gh hlo
 have HP:=gh hp
 have HS:=gh hs
 have HE:=gh he
 obtain ⟨kk,hkk⟩:∃ kk,kd w=kk:=⟨_,rfl⟩
 obtain ⟨p,hpp⟩:∃ p,ad w=p:=⟨_,rfl⟩
 have kr:=ad_range w
 rw [hpp] at kr
 obtain ⟨p0,p1⟩:=kr
 have HK:=gh hkk
 have HPP:=gh hpp
 clear he h ho hof hw hk iw hN hlo hp hs hkk hpp
 go_enter Tryz.func189,Tryz.ntmps189
 go_wp2_with (fail)
 refine (ak_d _ w p IW.out HPP.out).mono ?_
 rintro e w' ⟨rfl,rfl⟩
 go_wp2_with (fail)
 refine (kk_d _ w kk IW.out HK.out).mono ?_
 rintro e w' ⟨rfl,rfl⟩
 by_cases k2:kk=2
 ·subst k2
  have hz:=HE.out
  rw [Rn.belowW,if_pos HK.out,HPP.out] at hz
  have HZ:=gh hz
  clear hz HE
  go_wp2_with (fail)
  refine (meets_r hX W r x s k p p0 p1 H.out OK.out HOF.out HW.out HLO.out HP.out b k' s' HZ.out).mono ?_
  rintro e W2 ⟨rfl,G2⟩
  go_wp2
  go_ret
  exact ⟨rfl,G2⟩
 ·by_cases k3:kk=3
  ·subst k3
   have hz:=HE.out
   rw [Rn.belowW,if_neg (by rw [HK.out];decide),if_pos HK.out,HPP.out] at hz
   have HZ:=gh hz
   clear hz HE
   go_wp2_with (fail)
   refine (HT W s p k HN.out H.out OK.out HK0.out HW.out HLO.out HP.out HS.out b k' s' HZ.out).mono ?_
   rintro e W2 ⟨rfl,G2⟩
   go_wp2
   go_ret
   exact ⟨rfl,G2⟩
  ·by_cases k4:kk=4
   ·subst k4
    obtain ⟨q,s1,hq⟩:∃ q s1,s.read p=(q,s1):=⟨_,_,rfl⟩
    obtain ⟨a,ha⟩:∃ a,ad q=a:=⟨_,rfl⟩
    have hz:=HE.out
    rw [Rn.belowW,if_neg (by rw [HK.out];decide),if_neg (by rw [HK.out];decide),if_pos HK.out,HPP.out,hq] at hz
    dsimp only at hz
    rw [ha] at hz
    have HZ:=gh hz
    have HQ:=gh hq
    have HA:=gh ha
    clear hz HE hq ha
    go_wp2_with (fail)
    refine (read_r _ r s p H.out q s1 HQ.out).mono ?_
    rintro e W2 ⟨rfl,R2⟩
    have IQ:=gh (OK.out.read HQ.out).1
    have G2:=gh (R2.went_read OK.out HQ.out)
    have L2:=gh (G2.out.wlk HW.out HR0.out)
    clear R2
    go_wp2_with (fail)
    refine (ak_d _ q a IQ.out HA.out).mono ?_
    rintro e w' ⟨rfl,rfl⟩
    go_wp2_with (fail)
    refine (HT _ s1 a k (by have:=G2.out.on.left;have:=HN.out;omega) G2.out.at G2.out.ok HK0.out L2.out.walk (Nat.le_trans HLO.out L2.out.gath.turned.size) (by have:=G2.out.on.left;have:=HP.out;omega) (by have:=G2.out.on.left;have:=HS.out;omega) b k' s' HZ.out).mono ?_
    rintro e W3 ⟨rfl,G3⟩
    have G4:=gh (L2.out.trans G3)
    clear G3
    go_wp2
    go_ret
    exact ⟨rfl,G4.out⟩
   ·have g2:(kk == 2)=false:=by simp [k2]
    have g3:(kk == 3)=false:=by simp [k3]
    have g4:(kk == 4)=false:=by simp [k4]
    have hz:=HE.out
    rw [Rn.belowW,if_neg (by rw [HK.out];exact k2),if_neg (by rw [HK.out];exact k3),if_neg (by rw [HK.out];exact k4)] at hz
    obtain ⟨hz1,rfl⟩:=Prod.mk.inj hz
    obtain ⟨rfl,rfl⟩:=Prod.mk.inj hz1
    clear hz hz1 HE
    go_wp2
    go_ret
    exact ⟨rfl,(Went.refl H.out OK.out).wlk HW.out HR0.out⟩
theorem Wlk.drawn {x r:Nat} {W W' W'':World} {s s':Rn} {k k':Wk} (h:Wlk X lo x W r s s' k k' W') (t:Kept W' W''):Wlk X lo x W r s s' k k' W'':=
 ⟨⟨h.gath.lies.kept t,Kept.behind h.gath.turned t,h.gath.on,h.gath.ok⟩,h.walk.turned t (fun _ e=>e.elim),h.plen,h.slen,h.same⟩
theorem WalkAt.parts {W:World} {x:Nat} {k:Wk} (h:WalkAt W lo x k):W.cell? ⟨x,0,none⟩=some (.int .i64 k.lo)∧W.cell? ⟨x,1,none⟩=some (.int .i64 k.hi)∧W.cell? ⟨x,2,none⟩=some (.bool k.back)∧lo≤x:=by
 obtain ⟨vp,vs,h⟩:=h
 obtain ⟨c0,c1,c2,_⟩:=h.cells
 exact ⟨c0,c1,c2,h.le⟩
theorem RunAt.offs {W:World} {r:Nat} {s:Rn} (h:RunAt X W r s):W.cell? ⟨r,2,none⟩=some (.bool s.off):=by
 obtain ⟨ta,tc,wa,wc,h⟩:=h
 exact h.cells.2.2.1
theorem Rn.peek_lt'' {s s':Rn} {a z:Int} (e:s.peek a=(z,s')) (h:s.off=false):s'.left < s.left:=by
 have:=Rn.peek_lt a h
 rw [e] at this
 exact this
set_option maxRecDepth 100000 in
set_option maxHeartbeats 4000000 in
theorem through_r (hX:∀ k,X k→k < lo) (r x:Nat):∀ N,Thr X lo r x N (Rn.thrF N):=by
 intro N
 induction N with
 | zero=>intro W s n k h;omega
 | succ N ih=>
  intro W s n k hN h ho hk hw hlo hp hs bE kE sE he
  have HR0:=gh (h.rlo hX)
  have H:=gh h
  have OK:=gh ho
  have HK0:=gh hk
  have HW:=gh hw
  have HLO:=gh hlo
  have HN:=gh hN
  have HP:=gh hp
  have HS:=gh hs
  obtain ⟨c0,c1,c2,xlo⟩:=hw.parts
  have HX0:Hid (x≠r):=gh (by have:=HR0.out;omega)
  obtain ⟨fr,hfr⟩:∃ fr,(if k.back=true then k.hi else k.lo)=fr:=⟨_,rfl⟩
  obtain ⟨d,i0,s1,hro⟩:∃ d i s1,s.route n fr=((d,i),s1):=⟨_,_,_,rfl⟩
  have he1:Rn.thrL (Rn.thrF N) n d (s1.left+1) i0 k s1=((bE,kE),sE):=by
   have:Rn.thrF (N+1) s k n=Rn.thrL (Rn.thrF N) n (s.route n (if k.back=true then k.hi else k.lo)).1.1 ((s.route n (if k.back=true then k.hi else k.lo)).2.left+1) (s.route n (if k.back=true then k.hi else k.lo)).1.2 k (s.route n (if k.back=true then k.hi else k.lo)).2:=rfl
   rw [this,hfr,hro] at he
   exact he
  have HE:=gh he1
  have HRO:=gh hro
  have IFR:Hid (I64 fr):=gh (by rw [← hfr];split;exact hk.2;exact hk.1)
  have HFR:=gh hfr
  clear he he1 hro hfr h ho hk hw hlo hN hp hs xlo
  go_enter Tryz.func156,Tryz.ntmps156
  have START:∀ (W1:World),Ran X W r s1 W1→Wlk X lo x W r s s1 k k W1:=by
   intro W1 R1
   have:Went X W r s s1 W1:=by
    have hon:=(Rn.read_on rfl).trans (Rn.route_on s n fr)
    rw [HRO.out] at hon
    exact ⟨R1,hon,hon.ok OK.out⟩
   exact this.wlk HW.out HR0.out
  have HSTART:=gh START
  clear START
  have hif:fr=(if k.back=true then k.hi else k.lo):=HFR.out.symm
  cases hbk:k.back with
  | true=>
   rw [hbk] at c2 hif
   rw [if_pos rfl] at hif
   subst hif
   have HBK:=gh hbk
   clear hbk
   go_wp2_with (fail)
   refine (route_r _ r s n k.hi H.out OK.out IFR.out d i0 s1 HRO.out).mono ?_
   rintro e W1 ⟨rfl,R1⟩
   have G1:=gh (HSTART.out _ R1)
   clear R1 c0 c1 c2 HSTART
   go_wp2_with (fail)
   go_loopw [9,10,11] (fun vi _ _ wr=>∃ (i:Int) (c:Nat) (k1:Wk) (t:Rn),vi=.int .i64 i∧Wlk X lo x W r s t k k1 wr∧t.left < c∧t.left≤s1.left∧Rn.thrL (Rn.thrF N) n d c i k1 t=((bE,kE),sE)) (fun _ _ _ wr=>leftAt wr r)
   case atStart=>exact ⟨i0,s1.left+1,k,s1,rfl,G1.out,by omega,Nat.le_refl _,HE.out⟩
   case round=>
    obtain ⟨i,c,k1,t,rfl,hG,hc,hl,hk1⟩:=hrel
    have G:=gh hG
    have HL:=gh hl
    have HKK:=gh hk1
    have c2:=hG.gath.lies.offs
    have HC:=gh hc
    clear hG hl hk1 hc
    cases hof:t.off with
    | true=>
     rw [hof] at c2
     have hz:=HKK.out
     rw [Rn.thrL_off hof] at hz
     obtain ⟨hz1,rfl⟩:=Prod.mk.inj hz
     obtain ⟨rfl,rfl⟩:=Prod.mk.inj hz1
     clear hz hz1 HKK hof
     go_wp2
     go_ret
     exact ⟨rfl,G.out⟩
    | false=>
     rw [hof] at c2
     have HOF:=gh hof
     obtain ⟨cz,hcz⟩:∃ cz,childZ n d i=cz:=⟨_,rfl⟩
     obtain ⟨z,t2,hpk⟩:∃ z t2,t.peek cz=(z,t2):=⟨_,_,rfl⟩
     obtain ⟨c',rfl⟩:∃ c',c=c' + 1:=⟨c - 1,by have:=HC.out;omega⟩
     have HPK:Hid (t.peek (childZ n d i)=(z,t2)):=gh (by rw [hcz];exact hpk)
     have HPK':=gh hpk
     have L2:=gh (Rn.peek_lt'' hpk hof)
     have HCZ:=gh hcz
     clear hof hcz hpk
     go_wp2_with (fail)
     refine (child_r _ n d i cz HCZ.out).mono ?_
     rintro e w' ⟨rfl,rfl⟩
     go_wp2_with (fail)
     refine (peek_r _ r t cz G.out.gath.lies G.out.gath.ok z t2 HPK'.out).mono ?_
     rintro e W2 ⟨rfl,R2⟩
     have IZ:=gh (G.out.gath.ok.peek HPK'.out).1
     have G2:=gh (G.out.trans ((R2.went_peek G.out.gath.ok HPK'.out).wlk G.out.walk HR0.out))
     have d2:=G2.out.gath.lies.offs
     clear R2
     cases hof2:t2.off with
     | true=>
      rw [hof2] at d2
      have hz:=HKK.out
      rw [Rn.thrL_brk HOF.out HPK.out hof2] at hz
      obtain ⟨hz1,rfl⟩:=Prod.mk.inj hz
      obtain ⟨rfl,rfl⟩:=Prod.mk.inj hz1
      clear hz hz1 HKK hof2
      go_wp2
      go_ret
      exact ⟨rfl,G2.out⟩
     | false=>
      rw [hof2] at d2
      have HOF2:=gh hof2
      clear hof2
      obtain ⟨vp,vs,WI⟩:=G2.out.walk
      obtain ⟨_,_,_,_,_,_,c6,ff⟩:=WI.cells
      have f6:=ff 6
      have HWI:=gh WI
      obtain ⟨la,lc,hvs,_⟩:=WI.srow.reads
      obtain ⟨M,hM⟩:∃ M,k1.ss.length=M:=⟨_,rfl⟩
      rw [hM] at hvs
      have HM:=gh hM
      subst hvs
      clear ff WI hM
      go_wp2_with (at_builtin;refine Stop.out ?_)
      refine ⟨?_⟩
      have HRA:=gh (HWI.out.srow.kept (Kept.alloc (Kept.refl W2) (.cells #[.int .i64 cz,.int .i64 z] 94)))
      have HNW:Hid ((W2.alloc (.cells #[.int .i64 cz,.int .i64 z] 94)).heap[W2.heap.size]? = some (.cells #[.int .i64 cz,.int .i64 z] 94)):=gh (heap_new _ _)
      refine wpList_append_pair ptS rfl _ _ rfl lo _ k1.ss (k1.ss++[(cz,z)]) rfl HRA.out W2.heap.size cz z rfl HNW.out (by have:=HS.out;have:=G2.out.slen;omega) (by have:=G2.out.gath.turned.size;have:=HLO.out;simp;omega) rfl ?_
      intro v9 W9 hown hg hat
      obtain ⟨b9,w9,t9⟩:=HWI.out.spot _ _ hg hown
      have y6:W9.frozen? ⟨x,6,none⟩=false:=by simp [World.frozen?,b9]
      have x6:W9.cell? ⟨x,6,none⟩=some (.slice la M lc):=by simp [World.cell?,b9,wkCells]
      obtain ⟨la9,lc9,hv9,_⟩:=hown.reads
      obtain ⟨Q,hQ⟩:∃ Q,(k1.ss++[(cz,z)]).length=Q:=⟨_,rfl⟩
      rw [hQ] at hv9
      subst hv9
      obtain ⟨W4,hW4⟩:∃ W4,W9.setCell ⟨x,6,none⟩ (.slice la9 Q lc9)=W4:=⟨_,rfl⟩
      obtain ⟨k2,hk2⟩:∃ k2,({ k1 with ss:=k1.ss++[(cz,z)] }:Wk)=k2:=⟨_,rfl⟩
      rw [hW4] at w9 t9
      have G4:Hid (Wlk X lo x W r s t2 k k2 W4):=gh (by
       have h:=G2.out
       have hl:=L2.out
       have hg:=G.out.slen
       subst hk2
       exact ⟨h.gath.more hX t9,⟨_,_,w9⟩,h.plen,by simp;omega,h.same⟩)
      have HK2:Hid ({ k1 with ss:=k1.ss++[(childZ n d i,z)] }=k2):=gh (by rw [HCZ.out];exact hk2)
      have HB:Hid (k1.back=true∧k1.lo=k.lo∧k1.hi=k.hi):=gh ⟨G2.out.same.2.1.trans HBK.out,G2.out.same.1.1,G2.out.same.1.2⟩
      obtain ⟨b3,k3,t3,hb3⟩:∃ b3 k3 t3,Rn.belowW (Rn.thrF N) t2 k2 z=((b3,k3),t3):=⟨_,_,_,rfl⟩
      have HB3:Hid (Rn.belowW (Rn.thrF N) t2 { k1 with ss:=k1.ss++[(childZ n d i,z)] } z=((b3,k3),t3)):=gh (by rw [HK2.out];exact hb3)
      have HB3':=gh hb3
      clear hown hg hat HRA HNW c6 f6 b9 w9 t9 hQ hk2 hb3 G2 HWI d2
      go_wp2_with (fail)
      refine (below_r hX r x N (Rn.thrF N) ih _ t2 z k2 (by have:=L2.out;have:=HL.out;have:=HN.out;have:=HRO.out;have h:=G1.out.gath.on.left;omega) G4.out.gath.lies G4.out.gath.ok HOF2.out (by have:=G4.out.same.1;rw [this.1,this.2];exact HK0.out) IZ.out G4.out.walk (Nat.le_trans HLO.out G4.out.gath.turned.size) (by have:=G4.out.plen;have:=HP.out;omega) (by have:=G4.out.slen;have:=HS.out;omega) b3 k3 t3 HB3'.out).mono ?_
      rintro e W5 ⟨rfl,G5'⟩
      have L5:=gh G5'.gath.on.left
      have G5:=gh (G4.out.trans G5')
      clear G5' hW4 x6 y6
      cases b3 with
      | true=>
       have hz:=HKK.out
       rw [Rn.thrL_hit HOF.out HPK.out HOF2.out HB3.out] at hz
       obtain ⟨hz1,rfl⟩:=Prod.mk.inj hz
       obtain ⟨rfl,rfl⟩:=Prod.mk.inj hz1
       clear hz hz1 HKK
       go_wp2
       go_ret
       exact ⟨rfl,G5.out⟩
      | false=>
       obtain ⟨d0,d1,d2,_⟩:=G5.out.walk.parts
       rw [G5.out.same.1.1] at d0
       rw [G5.out.same.1.2] at d1
       rw [G5.out.same.2.1,HBK.out] at d2
       by_cases hi0:i=0
       ·have hz:=HKK.out
        rw [Rn.thrL_b0 HOF.out HPK.out HOF2.out HB3.out HB.out.1 hi0] at hz
        obtain ⟨hz1,rfl⟩:=Prod.mk.inj hz
        obtain ⟨rfl,rfl⟩:=Prod.mk.inj hz1
        clear hz hz1 HKK
        subst hi0
        go_wp2
        go_quiet (fail)
        go_wp2
        go_ret
        exact ⟨rfl,G5.out.drawn (Kept.drewN _ _)⟩
       ·have gi:(i == 0)=false:=by simp [hi0]
        obtain ⟨j,hj⟩:∃ j,wrap64 (i - 1)=j:=⟨_,rfl⟩
        obtain ⟨kz,hkz⟩:∃ kz,keyZ n i=kz:=⟨_,rfl⟩
        obtain ⟨q,t4,hq⟩:∃ q t4,t3.read kz=(q,t4):=⟨_,_,rfl⟩
        have hz:=HKK.out
        rw [Rn.thrL_b1 (q:=q) (t4:=t4) HOF.out HPK.out HOF2.out HB3.out HB.out.1 hi0 (by rw [hkz];exact hq),hj,HB.out.2.1] at hz
        have HZ:=gh hz
        have HKZ:=gh hkz
        have HQ:=gh hq
        obtain ⟨V,hV⟩:∃ V,W5.drew=V:=⟨_,rfl⟩
        have kV:Kept W5 V:=by rw [← hV];exact Kept.drew _
        have x0:∀ u:Wd (fun U=>Td (fun k=>k=r) V U),u.w.cell? ⟨x,0,none⟩=some (.int .i64 k.lo):=fun u=>u.ok.cell (kV.cell d0 id) HX0.out
        have HV:=gh hV
        have KV:=gh kV
        have HG5:=gh (G5.out.drawn kV)
        clear hz HKK hkz hq hV kV d0 d1
        go_wp2_with (fail)
        refine region_wide [0,1,2,3,4,5,8,9,10,11,6,7,12,13] (fun U=>Td (fun k=>k=r) V U) (by kernel_rfl) (by kernel_rfl) (by rw [HV.out];exact Td.refl _ _) (fun _=>?_)
        rw [HV.out]
        repeat (refine pq rfl rfl ?_;go_big_quiet_step (fail);refine wpQuiet_nil ?_)
        refine pl rfl rfl ?_
        gi_wp2_with (fail)
        refine ⟨trivial,?_⟩
        refine (callsIn_wide.2 (key_r V n i kz HKZ.out)).mono ?_
        rintro e U ⟨rfl,rfl⟩
        gi_wp2_with (fail)
        refine ⟨Wd.mem (Td.refl _ _),?_⟩
        refine pl rfl rfl ?_
        gi_wp2_with (fail)
        refine ⟨trivial,?_⟩
        refine (callsIn_wide.2 (read_r V r t3 kz HG5.out.gath.lies q t4 HQ.out)).mono ?_
        rintro e W6 ⟨rfl,R6⟩
        have TU:=gh R6.2
        have L6:=gh (Rn.read_on HQ.out).left
        have G6:=gh (HG5.out.trans ((R6.went_read HG5.out.gath.ok HQ.out).wlk HG5.out.walk HR0.out))
        clear R6
        by_cases hqk:q≤k.lo
        ·have hz:=HZ.out
         rw [if_pos hqk] at hz
         obtain ⟨hz1,rfl⟩:=Prod.mk.inj hz
         obtain ⟨rfl,rfl⟩:=Prod.mk.inj hz1
         clear hz hz1 HZ
         gi_wp2_with (fail)
         refine ⟨Wd.mem TU.out,?_⟩
         repeat (refine pq rfl rfl ?_;go_big_quiet_step (fail);refine wpQuiet_nil ?_)
         refine perm_done ?_
         clear x0
         go_wp2
         go_ret
         exact ⟨rfl,G6.out⟩
        ·have gq:decide (q≤k.lo)=false:=by simp;omega
         have hz:=HZ.out
         rw [if_neg hqk] at hz
         have HZ2:=gh hz
         clear hz HZ
         gi_wp2_with (fail)
         refine ⟨Wd.mem TU.out,?_⟩
         repeat (refine pq rfl rfl ?_;go_big_quiet_step (fail);refine wpQuiet_nil ?_)
         refine perm_done ?_
         clear x0
         go_wp2
         refine ⟨⟨j,c',k3,t4,(by first | rfl | rw [hj]),G6.out,by have:=L2.out;have:=L5.out;have:=L6.out;have:=HC.out;omega,by have:=L2.out;have:=L5.out;have:=L6.out;have:=HL.out;omega,HZ2.out⟩,?_⟩
         rw [G6.out.gath.lies.leftAt,G.out.gath.lies.leftAt]
         have:=L2.out;have:=L5.out;have:=L6.out;omega
  | false=>
   rw [hbk] at c2 hif
   rw [if_neg (by decide)] at hif
   subst hif
   have HBK:=gh hbk
   clear hbk
   go_wp2_with (fail)
   refine (route_r _ r s n k.lo H.out OK.out IFR.out d i0 s1 HRO.out).mono ?_
   rintro e W1 ⟨rfl,R1⟩
   have G1:=gh (HSTART.out _ R1)
   clear R1 c0 c1 c2 HSTART
   go_wp2_with (fail)
   go_loopw [9,10,11] (fun vi _ _ wr=>∃ (i:Int) (c:Nat) (k1:Wk) (t:Rn),vi=.int .i64 i∧Wlk X lo x W r s t k k1 wr∧t.left < c∧t.left≤s1.left∧Rn.thrL (Rn.thrF N) n d c i k1 t=((bE,kE),sE)) (fun _ _ _ wr=>leftAt wr r)
   case atStart=>exact ⟨i0,s1.left+1,k,s1,rfl,G1.out,by omega,Nat.le_refl _,HE.out⟩
   case round=>
    obtain ⟨i,c,k1,t,rfl,hG,hc,hl,hk1⟩:=hrel
    have G:=gh hG
    have HL:=gh hl
    have HKK:=gh hk1
    have c2:=hG.gath.lies.offs
    have HC:=gh hc
    clear hG hl hk1 hc
    cases hof:t.off with
    | true=>
     rw [hof] at c2
     have hz:=HKK.out
     rw [Rn.thrL_off hof] at hz
     obtain ⟨hz1,rfl⟩:=Prod.mk.inj hz
     obtain ⟨rfl,rfl⟩:=Prod.mk.inj hz1
     clear hz hz1 HKK hof
     go_wp2
     go_ret
     exact ⟨rfl,G.out⟩
    | false=>
     rw [hof] at c2
     have HOF:=gh hof
     obtain ⟨cz,hcz⟩:∃ cz,childZ n d i=cz:=⟨_,rfl⟩
     obtain ⟨z,t2,hpk⟩:∃ z t2,t.peek cz=(z,t2):=⟨_,_,rfl⟩
     obtain ⟨c',rfl⟩:∃ c',c=c' + 1:=⟨c - 1,by have:=HC.out;omega⟩
     have HPK:Hid (t.peek (childZ n d i)=(z,t2)):=gh (by rw [hcz];exact hpk)
     have HPK':=gh hpk
     have L2:=gh (Rn.peek_lt'' hpk hof)
     have HCZ:=gh hcz
     clear hof hcz hpk
     go_wp2_with (fail)
     refine (child_r _ n d i cz HCZ.out).mono ?_
     rintro e w' ⟨rfl,rfl⟩
     go_wp2_with (fail)
     refine (peek_r _ r t cz G.out.gath.lies G.out.gath.ok z t2 HPK'.out).mono ?_
     rintro e W2 ⟨rfl,R2⟩
     have IZ:=gh (G.out.gath.ok.peek HPK'.out).1
     have G2:=gh (G.out.trans ((R2.went_peek G.out.gath.ok HPK'.out).wlk G.out.walk HR0.out))
     have d2:=G2.out.gath.lies.offs
     clear R2
     cases hof2:t2.off with
     | true=>
      rw [hof2] at d2
      have hz:=HKK.out
      rw [Rn.thrL_brk HOF.out HPK.out hof2] at hz
      obtain ⟨hz1,rfl⟩:=Prod.mk.inj hz
      obtain ⟨rfl,rfl⟩:=Prod.mk.inj hz1
      clear hz hz1 HKK hof2
      go_wp2
      go_ret
      exact ⟨rfl,G2.out⟩
     | false=>
      rw [hof2] at d2
      have HOF2:=gh hof2
      clear hof2
      obtain ⟨vp,vs,WI⟩:=G2.out.walk
      obtain ⟨_,_,_,_,_,_,c6,ff⟩:=WI.cells
      have f6:=ff 6
      have HWI:=gh WI
      obtain ⟨la,lc,hvs,_⟩:=WI.srow.reads
      obtain ⟨M,hM⟩:∃ M,k1.ss.length=M:=⟨_,rfl⟩
      rw [hM] at hvs
      have HM:=gh hM
      subst hvs
      clear ff WI hM
      go_wp2_with (at_builtin;refine Stop.out ?_)
      refine ⟨?_⟩
      have HRA:=gh (HWI.out.srow.kept (Kept.alloc (Kept.refl W2) (.cells #[.int .i64 cz,.int .i64 z] 94)))
      have HNW:Hid ((W2.alloc (.cells #[.int .i64 cz,.int .i64 z] 94)).heap[W2.heap.size]? = some (.cells #[.int .i64 cz,.int .i64 z] 94)):=gh (heap_new _ _)
      refine wpList_append_pair ptS rfl _ _ rfl lo _ k1.ss (k1.ss++[(cz,z)]) rfl HRA.out W2.heap.size cz z rfl HNW.out (by have:=HS.out;have:=G2.out.slen;omega) (by have:=G2.out.gath.turned.size;have:=HLO.out;simp;omega) rfl ?_
      intro v9 W9 hown hg hat
      obtain ⟨b9,w9,t9⟩:=HWI.out.spot _ _ hg hown
      have y6:W9.frozen? ⟨x,6,none⟩=false:=by simp [World.frozen?,b9]
      have x6:W9.cell? ⟨x,6,none⟩=some (.slice la M lc):=by simp [World.cell?,b9,wkCells]
      obtain ⟨la9,lc9,hv9,_⟩:=hown.reads
      obtain ⟨Q,hQ⟩:∃ Q,(k1.ss++[(cz,z)]).length=Q:=⟨_,rfl⟩
      rw [hQ] at hv9
      subst hv9
      obtain ⟨W4,hW4⟩:∃ W4,W9.setCell ⟨x,6,none⟩ (.slice la9 Q lc9)=W4:=⟨_,rfl⟩
      obtain ⟨k2,hk2⟩:∃ k2,({ k1 with ss:=k1.ss++[(cz,z)] }:Wk)=k2:=⟨_,rfl⟩
      rw [hW4] at w9 t9
      have G4:Hid (Wlk X lo x W r s t2 k k2 W4):=gh (by
       have h:=G2.out
       have hl:=L2.out
       have hg:=G.out.slen
       subst hk2
       exact ⟨h.gath.more hX t9,⟨_,_,w9⟩,h.plen,by simp;omega,h.same⟩)
      have HK2:Hid ({ k1 with ss:=k1.ss++[(childZ n d i,z)] }=k2):=gh (by rw [HCZ.out];exact hk2)
      have HB:Hid (k1.back=false∧k1.lo=k.lo∧k1.hi=k.hi):=gh ⟨G2.out.same.2.1.trans HBK.out,G2.out.same.1.1,G2.out.same.1.2⟩
      obtain ⟨b3,k3,t3,hb3⟩:∃ b3 k3 t3,Rn.belowW (Rn.thrF N) t2 k2 z=((b3,k3),t3):=⟨_,_,_,rfl⟩
      have HB3:Hid (Rn.belowW (Rn.thrF N) t2 { k1 with ss:=k1.ss++[(childZ n d i,z)] } z=((b3,k3),t3)):=gh (by rw [HK2.out];exact hb3)
      have HB3':=gh hb3
      clear hown hg hat HRA HNW c6 f6 b9 w9 t9 hQ hk2 hb3 G2 HWI d2
      go_wp2_with (fail)
      refine (below_r hX r x N (Rn.thrF N) ih _ t2 z k2 (by have:=L2.out;have:=HL.out;have:=HN.out;have:=HRO.out;have h:=G1.out.gath.on.left;omega) G4.out.gath.lies G4.out.gath.ok HOF2.out (by have:=G4.out.same.1;rw [this.1,this.2];exact HK0.out) IZ.out G4.out.walk (Nat.le_trans HLO.out G4.out.gath.turned.size) (by have:=G4.out.plen;have:=HP.out;omega) (by have:=G4.out.slen;have:=HS.out;omega) b3 k3 t3 HB3'.out).mono ?_
      rintro e W5 ⟨rfl,G5'⟩
      have L5:=gh G5'.gath.on.left
      have G5:=gh (G4.out.trans G5')
      clear G5' hW4 x6 y6
      cases b3 with
      | true=>
       have hz:=HKK.out
       rw [Rn.thrL_hit HOF.out HPK.out HOF2.out HB3.out] at hz
       obtain ⟨hz1,rfl⟩:=Prod.mk.inj hz
       obtain ⟨rfl,rfl⟩:=Prod.mk.inj hz1
       clear hz hz1 HKK
       go_wp2
       go_ret
       exact ⟨rfl,G5.out⟩
      | false=>
       obtain ⟨d0,d1,d2,_⟩:=G5.out.walk.parts
       rw [G5.out.same.1.1] at d0
       rw [G5.out.same.1.2] at d1
       rw [G5.out.same.2.1,HBK.out] at d2
       obtain ⟨j,hj⟩:∃ j,wrap64 (i+1)=j:=⟨_,rfl⟩
       by_cases hi0:j=d
       ·have hz:=HKK.out
        rw [Rn.thrL_f0 HOF.out HPK.out HOF2.out HB3.out HB.out.1 (hj.trans hi0)] at hz
        obtain ⟨hz1,rfl⟩:=Prod.mk.inj hz
        obtain ⟨rfl,rfl⟩:=Prod.mk.inj hz1
        clear hz hz1 HKK
        subst hi0
        go_wp2
        go_quiet (fail)
        go_wp2
        go_ret
        exact ⟨rfl,G5.out.drawn (Kept.drewN _ _)⟩
       ·have gi:(j == d)=false:=by simp [hi0]
        obtain ⟨kz,hkz⟩:∃ kz,keyZ n j=kz:=⟨_,rfl⟩
        obtain ⟨q,t4,hq⟩:∃ q t4,t3.read kz=(q,t4):=⟨_,_,rfl⟩
        have hz:=HKK.out
        rw [Rn.thrL_f1 (q:=q) (t4:=t4) HOF.out HPK.out HOF2.out HB3.out HB.out.1 (by rw [hj];exact hi0) (by rw [hj,hkz];exact hq),hj,HB.out.2.2] at hz
        have HZ:=gh hz
        have HKZ:=gh hkz
        have HQ:=gh hq
        obtain ⟨V,hV⟩:∃ V,W5.drew=V:=⟨_,rfl⟩
        have kV:Kept W5 V:=by rw [← hV];exact Kept.drew _
        have x0:∀ u:Wd (fun U=>Td (fun k=>k=r) V U),u.w.cell? ⟨x,1,none⟩=some (.int .i64 k.hi):=fun u=>u.ok.cell (kV.cell d1 id) HX0.out
        have HV:=gh hV
        have KV:=gh kV
        have HG5:=gh (G5.out.drawn kV)
        clear hz HKK hkz hq hV kV d0 d1
        go_wp2_with (fail)
        refine region_wide [0,1,2,3,4,5,6,9,10,11,12,7,8,13,14] (fun U=>Td (fun k=>k=r) V U) (by kernel_rfl) (by kernel_rfl) (by rw [HV.out];exact Td.refl _ _) (fun _=>?_)
        rw [HV.out]
        repeat (refine pq rfl rfl ?_;go_big_quiet_step (fail);refine wpQuiet_nil ?_)
        refine pl rfl rfl ?_
        gi_wp2_with (fail)
        refine ⟨trivial,?_⟩
        refine (callsIn_wide.2 (key_r V n j kz HKZ.out)).mono ?_
        rintro e U ⟨rfl,rfl⟩
        gi_wp2_with (fail)
        refine ⟨Wd.mem (Td.refl _ _),?_⟩
        refine pl rfl rfl ?_
        gi_wp2_with (fail)
        refine ⟨trivial,?_⟩
        refine (callsIn_wide.2 (read_r V r t3 kz HG5.out.gath.lies q t4 HQ.out)).mono ?_
        rintro e W6 ⟨rfl,R6⟩
        have TU:=gh R6.2
        have L6:=gh (Rn.read_on HQ.out).left
        have G6:=gh (HG5.out.trans ((R6.went_read HG5.out.gath.ok HQ.out).wlk HG5.out.walk HR0.out))
        clear R6
        by_cases hqk:k.hi < q
        ·have hz:=HZ.out
         rw [if_pos hqk] at hz
         obtain ⟨hz1,rfl⟩:=Prod.mk.inj hz
         obtain ⟨rfl,rfl⟩:=Prod.mk.inj hz1
         clear hz hz1 HZ
         gi_wp2_with (fail)
         refine ⟨Wd.mem TU.out,?_⟩
         repeat (refine pq rfl rfl ?_;go_big_quiet_step (fail);refine wpQuiet_nil ?_)
         refine perm_done ?_
         clear x0
         go_wp2
         go_ret
         exact ⟨rfl,G6.out⟩
        ·have gq:decide (k.hi < q)=false:=by simp;omega
         have hz:=HZ.out
         rw [if_neg hqk] at hz
         have HZ2:=gh hz
         clear hz HZ
         gi_wp2_with (fail)
         refine ⟨Wd.mem TU.out,?_⟩
         repeat (refine pq rfl rfl ?_;go_big_quiet_step (fail);refine wpQuiet_nil ?_)
         refine perm_done ?_
         clear x0
         go_wp2
         refine ⟨⟨j,c',k3,t4,(by first | rfl | rw [hj]),G6.out,by have:=L2.out;have:=L5.out;have:=L6.out;have:=HC.out;omega,by have:=L2.out;have:=L5.out;have:=L6.out;have:=HL.out;omega,HZ2.out⟩,?_⟩
         rw [G6.out.gath.lies.leftAt,G.out.gath.lies.leftAt]
         have:=L2.out;have:=L5.out;have:=L6.out;omega
end
section
open Go.Shelf
variable {X:Nat→Prop} {lo:Nat}
theorem rcb {P:Program} {fn:Func} {p u:Tmp} {ty:TypeId} (h:fn.results=#[.cell p ty,.tmp u]) (tmps:Array Value) (w:World) (g:Nat) (t:TypeId) (cs:Array Value) (fr:Nat × Nat) (d:TypeDesc)
  (hp:tmps.getD p undef=.pointer (some ⟨g,0,none⟩)) (hg:w.heap[g]? = some (.cells cs t fr))
  (hu:P.underlying ty=some d) (hd:(match d with | .struct _ | .array _ _=>true | _=>false)=true) (hi:(P.info? ty).map (·.size)=some cs.size) :
  (results fn tmps).run P w=.ok (.tuple #[.agg cs,tmps.getD u undef]) w:=by
 rw [results_cell_tmp h,hp]
 simp [asAddr,Result.andThen,run_loadVar_row w g t ty cs fr d hg hu hd hi]
structure Rs where
 why:Int
 found:Bool
 key:Int
 val:Int
 n:Int
def Rs.cs (x:Rs) (l:Value):Array Value:=#[.int .i64 x.why,.bool x.found,.int .i64 x.key,.int .i64 x.val,.int .i64 x.n,l]
def Rs.none:Rs:=⟨0,false,0,0,0⟩
def Rs.nomem:Rs:=⟨8,false,0,0,0⟩
theorem info61:(Tryz.prog.info? 61).map (·.size)=some 6:=by kernel_rfl
theorem nomem_r (w:World):Calls Tryz.prog 210 #[] w fun e w'=>e=.returned (.agg (Rs.nomem.cs (.slice .none 0 0)))∧Kept w w':=by
 go_enter Tryz.func210,Tryz.ntmps210
 go_wp2
 refine bodyPost_ret (results_cell_row rfl _ _ w.heap.size 61 (Rs.nomem.cs (.slice .none 0 0)) _ _ rfl (heap_new _ _) Tryz.underlying61 rfl info61) rfl ?_
 exact ⟨rfl,Td.alloc _ _ _⟩
def Rs.told (kind:Int) (ps:List (Int × Int)):Rs:=
 if kind=9 then Rs.none else if kind=10 then ⟨0,false,0,0,ps.length⟩ else if ps.length=0 then Rs.none else ⟨0,true,(ps.headD (0,0)).1,(ps.headD (0,0)).2,0⟩
set_option maxHeartbeats 1000000 in
theorem told_r (w:World) (kind key value:Int) (a:Option Addr) (M cap:Nat) (ps:List (Int × Int)) (hp:PReads w a ps) (hM:ps.length=M) (hc:M≤cap) (hm:M≤1000000) :
  Calls Tryz.prog 199 #[.agg #[.int .i64 kind,.int .i64 key,.int .i64 value],.slice a M cap] w fun e w'=>e=.returned (.agg ((Rs.told kind ps).cs (if kind=9 then .slice a M cap else .slice .none 0 0)))∧Kept w w':=by
 by_cases k9:kind=9
 ·subst k9
  go_enter Tryz.func199,Tryz.ntmps199
  go_wp2
  refine bodyPost_ret (results_cell_row rfl _ _ (w.heap.size+1) 61 ((Rs.told 9 ps).cs (.slice a M cap)) _ _ rfl (heap_alloc2_new _ _ _) Tryz.underlying61 rfl info61) rfl ?_
  exact ⟨rfl,(Kept.alloc (Kept.refl w) _).alloc _⟩
 ·by_cases k10:kind=10
  ·subst k10
   go_enter Tryz.func199,Tryz.ntmps199
   go_wp2
   refine bodyPost_ret (results_cell_row rfl _ _ (w.heap.size+1) 61 (#[.int .i64 0,.bool false,.int .i64 0,.int .i64 0,.int .i64 (M:Int),.slice .none 0 0]) _ _ rfl (heap_alloc2_new _ _ _) Tryz.underlying61 rfl info61) rfl ?_
   exact ⟨by rw [← hM];rfl,(Kept.alloc (Kept.refl w) _).alloc _⟩
  ·have g9:(kind == 9)=false:=by simp [k9]
   have g10:(kind == 10)=false:=by simp [k10]
   by_cases h0:M=0
   ·have et:Rs.told kind ps=Rs.none:=by unfold Rs.told;rw [if_neg k9,if_neg k10,if_pos (by omega)]
    rw [et,if_neg k9]
    have g0:((M:Int) == 0)=true:=by simp [h0]
    go_enter Tryz.func199,Tryz.ntmps199
    go_wp2
    refine bodyPost_ret (results_cell_row rfl _ _ (w.heap.size+1) 61 (Rs.none.cs (.slice .none 0 0)) _ _ rfl (heap_alloc2_new _ _ _) Tryz.underlying61 rfl info61) rfl ?_
    exact ⟨rfl,(Kept.alloc (Kept.refl w) _).alloc _⟩
   ·obtain ⟨bl,off,rfl⟩:∃ bl off,a=some ⟨bl,off,none⟩:=by
     rcases hp with e | ⟨bl,off,e,_⟩
     ·rw [e] at hM;simp at hM;omega
     ·exact ⟨bl,off,e⟩
    obtain ⟨h1,h2⟩:=preads_head hp (by omega)
    have et:Rs.told kind ps=⟨0,true,(ps.headD (0,0)).1,(ps.headD (0,0)).2,0⟩:=by unfold Rs.told;rw [if_neg k9,if_neg k10,if_neg (by omega)]
    rw [et,if_neg k9]
    obtain ⟨p1,hp1⟩:∃ p1,(ps.headD (0,0)).1=p1:=⟨_,rfl⟩
    obtain ⟨p2,hp2⟩:∃ p2,(ps.headD (0,0)).2=p2:=⟨_,rfl⟩
    rw [hp1] at h1
    rw [hp2] at h2
    rw [hp1,hp2]
    have m0:(0:Int) < (M:Int):=by omega
    have m1:0 < cap:=by omega
    have m2:((M:Int) == 0)=false:=by simp;omega
    have kA:∀ o o',Kept w ((w.alloc o).alloc o'):=fun o o'=>(Kept.alloc (Kept.refl w) o).alloc o'
    have x1:∀ o o',((w.alloc o).alloc o').cell? ⟨bl,off,none⟩=some (.int .i64 p1):=fun o o'=>(kA o o').cell h1 id
    have x2:∀ o o',((w.alloc o).alloc o').cell? ⟨bl,off+1,none⟩=some (.int .i64 p2):=fun o o'=>(kA o o').cell h2 id
    clear kA h1 h2 et hp1 hp2
    go_enter Tryz.func199,Tryz.ntmps199
    go_wp2
    refine bodyPost_ret (results_cell_row rfl _ _ (w.heap.size+1) 61 (#[.int .i64 0,.bool true,.int .i64 p1,.int .i64 p2,.int .i64 0,.slice .none 0 0]) _ _ rfl (heap_alloc2_new _ _ _) Tryz.underlying61 rfl info61) rfl ?_
    exact ⟨rfl,(Kept.alloc (Kept.refl w) _).alloc _⟩
def Wk.asked (kind key value:Int):Wk:=
 ⟨if kind=6∨kind=9∨kind=10 then key else -9223372036854775808,if kind=5 then key else if kind=9∨kind=10 then value else 9223372036854775807,
  decide (kind=5∨kind=8),if kind=9∨kind=10 then 0 else 1,decide (kind≠10),[],[]⟩
theorem asked_r (w:World) (kind key value:Int):Calls Tryz.prog 198 #[.agg #[.int .i64 kind,.int .i64 key,.int .i64 value]] w fun e w'=>∃ x,e=.returned (.pointer (some ⟨x,0,.none⟩))∧WalkAt w' w.heap.size x (Wk.asked kind key value)∧Kept w w':=by
 have fin:∀ (W:World) (k:Wk),W.heap[w.heap.size+1]? = some (.cells (wkCells k (.slice .none 0 0) (.slice .none 0 0)) 47)→k.ps=[]→k.ss=[]→WalkAt W w.heap.size (w.heap.size+1) k:=by
  intro W k hb e1 e2
  refine ⟨_,_,hb,by omega,?_,?_⟩
  ·rw [e1];exact PRow.nil _ _ _
  ·rw [e2];exact PRow.nil _ _ _
 by_cases k5:kind=5
 ·subst k5
  go_enter Tryz.func198,Tryz.ntmps198
  go_wp2
  go_ret
  exact ⟨_,rfl,fin _ _ (by rw [heap_alloc2_new];simp [Wk.asked,wkCells]) rfl rfl,(Kept.alloc (Kept.refl w) _).alloc _⟩
 by_cases k6:kind=6
 ·subst k6
  go_enter Tryz.func198,Tryz.ntmps198
  go_wp2
  go_ret
  exact ⟨_,rfl,fin _ _ (by rw [heap_alloc2_new];simp [Wk.asked,wkCells]) rfl rfl,(Kept.alloc (Kept.refl w) _).alloc _⟩
 by_cases k8:kind=8
 ·subst k8
  go_enter Tryz.func198,Tryz.ntmps198
  go_wp2
  go_ret
  exact ⟨_,rfl,fin _ _ (by rw [heap_alloc2_new];simp [Wk.asked,wkCells]) rfl rfl,(Kept.alloc (Kept.refl w) _).alloc _⟩
 by_cases k9:kind=9
 ·subst k9
  go_enter Tryz.func198,Tryz.ntmps198
  go_wp2
  go_ret
  exact ⟨_,rfl,fin _ _ (by rw [heap_alloc2_new];simp [Wk.asked,wkCells]) rfl rfl,(Kept.alloc (Kept.refl w) _).alloc _⟩
 by_cases k10:kind=10
 ·subst k10
  go_enter Tryz.func198,Tryz.ntmps198
  go_wp2
  go_ret
  exact ⟨_,rfl,fin _ _ (by rw [heap_alloc2_new];simp [Wk.asked,wkCells]) rfl rfl,(Kept.alloc (Kept.refl w) _).alloc _⟩
 have g5:(kind == 5)=false:=by simp [k5]
 have g6:(kind == 6)=false:=by simp [k6]
 have g8:(kind == 8)=false:=by simp [k8]
 have g9:(kind == 9)=false:=by simp [k9]
 have g10:(kind == 10)=false:=by simp [k10]
 go_enter Tryz.func198,Tryz.ntmps198
 go_wp2
 go_ret
 exact ⟨_,rfl,fin _ _ (by rw [heap_alloc2_new];simp [Wk.asked,wkCells,k5,k6,k8,k9,k10]) rfl rfl,(Kept.alloc (Kept.refl w) _).alloc _⟩
end
section
open Go.Shelf
variable {X:Nat→Prop} {lo:Nat}
attribute [local go_sem] Oper.semAt_some
def Rs.retry:Rs:=⟨9,false,0,0,0⟩
namespace Rn
def queryL (N:Nat) (kind key value:Int):Nat→Rn→(Rs × List (Int × Int)) × Rn
 | 0,s=>((Rs.retry,[]),s)
 | c+1,s=>
  if s.off=true then ((Rs.retry,[]),s)
  else
   let t:=thrF N s (Wk.asked kind key value) 1
   if t.2.off=true then ((Rs.retry,[]),t.2)
   else
    let a:=againL t.1.2.ss t.2
    if a.1=true then ((Rs.told kind t.1.2.ps,if kind=9 then t.1.2.ps else []),a.2)
    else queryL N kind key value c a.2
def queryR (N:Nat) (s:Rn) (kind key value budget:Int):(Rs × List (Int × Int)) × Rn:=
 if kind=4 then
  let z:=s.seek key
  if z.1.2=true then ((⟨0,true,key,z.1.1,0⟩,[]),z.2) else ((Rs.none,[]),z.2)
 else queryL N kind key value budget.toNat s
theorem seekL_on (n:Nat):∀ (s:Rn) (a k:Int),s.left≤n→On s (s.seekL a k).2:=by
 induction n with
 | zero=>
  intro s a k h
  have:s.off=true:=by
   cases ho:s.off with
   | true=>rfl
   | false=>unfold left at h;rw [ho] at h;simp at h
  rw [seekL_off this];exact On.refl s
 | succ n ih=>
  intro s a k h
  cases ho:s.off with
  | true=>rw [seekL_off ho];exact On.refl s
  | false=>
   have l1:=child_lt a k ho
   obtain ⟨c,t,hc⟩:∃ c t,s.child a k=(c,t):=⟨_,_,rfl⟩
   obtain ⟨w,u,hw⟩:∃ w u,t.peek c=(w,u):=⟨_,_,rfl⟩
   have o1:On s t:=by have:=(read_on rfl).trans (child_on s a k);rw [hc] at this;exact this
   rw [hc] at l1
   have o2:On s u:=o1.trans (peek_on hw)
   have l2:u.left < s.left:=(peek_on hw).lt l1
   obtain ⟨q,v,hq⟩:∃ q v,u.read (ad w)=(q,v):=⟨_,_,rfl⟩
   have o3:On s v:=o2.trans (read_on hq)
   have l3:v.left < s.left:=(read_on hq).lt l2
   by_cases k2:kd w=2
   ·rw [seekL_leaf ho hc hw k2 hq]
    split
    ·exact o3.trans (ask_on _ _)
    ·exact o3
   ·by_cases k3:kd w=3
    ·rw [seekL_inner ho hc hw k3]
     exact o2.trans (ih _ _ _ (by omega))
    ·by_cases k4:kd w=4
     ·rw [seekL_again ho hc hw k4 hq]
      exact o3.trans (ih _ _ _ (by omega))
     ·rw [seekL_none ho hc hw k2 k3 k4]
      exact o2
theorem seek_on (s:Rn) (k:Int):On s (s.seek k).2:=seekL_on _ _ _ _ (Nat.le_refl _)
theorem queryL_off {N:Nat} {kind key value:Int} {c:Nat} {s:Rn} (h:s.off=true):queryL N kind key value c s=((Rs.retry,[]),s):=by
 cases c with
 | zero=>rfl
 | succ c=>rw [queryL,if_pos h]
variable {N:Nat} {kind key value:Int} {c:Nat} {s t u:Rn} {k:Wk} {b:Bool}
theorem queryL_brk (h:s.off=false) (e:thrF N s (Wk.asked kind key value) 1=((b,k),t)) (h2:t.off=true):queryL N kind key value (c+1) s=((Rs.retry,[]),t):=by
 rw [queryL,if_neg (by rw [h];decide),e]
 dsimp only
 rw [if_pos h2]
theorem queryL_same (h:s.off=false) (e:thrF N s (Wk.asked kind key value) 1=((b,k),t)) (h2:t.off=false) (e2:againL k.ss t=(true,u)):queryL N kind key value (c+1) s=((Rs.told kind k.ps,if kind=9 then k.ps else []),u):=by
 rw [queryL,if_neg (by rw [h];decide),e]
 dsimp only
 rw [if_neg (by rw [h2];decide),e2]
 rfl
theorem queryL_other (h:s.off=false) (e:thrF N s (Wk.asked kind key value) 1=((b,k),t)) (h2:t.off=false) (e2:againL k.ss t=(false,u)):queryL N kind key value (c+1) s=queryL N kind key value c u:=by
 rw [queryL,if_neg (by rw [h];decide),e]
 dsimp only
 rw [if_neg (by rw [h2];decide),e2]
 rfl
end Rn
theorem cells6 {U:World} {m:Nat} {a0 a1 a2 a3 a4 a5:Value} (h:U.heap[m]? = some (.cells #[a0,a1,a2,a3,a4,a5] 61)):U.cell? ⟨m,0,none⟩=some a0∧U.cell? ⟨m,1,none⟩=some a1∧U.cell? ⟨m,2,none⟩=some a2∧U.cell? ⟨m,3,none⟩=some a3∧U.cell? ⟨m,4,none⟩=some a4∧U.cell? ⟨m,5,none⟩=some a5∧∀ i,U.frozen? ⟨m,i,none⟩=false:=by
 simp [World.cell?,World.frozen?,h]
theorem put6 {U:World} {m:Nat} {a0 a1 a2 a3 a4 a5:Value} (h:U.heap[m]? = some (.cells #[a0,a1,a2,a3,a4,a5] 61)) (b0 b1 b2 b3 b4 b5:Value) :
  ((((((U.setCell ⟨m,0,none⟩ b0).setCell ⟨m,1,none⟩ b1).setCell ⟨m,2,none⟩ b2).setCell ⟨m,3,none⟩ b3).setCell ⟨m,4,none⟩ b4).setCell ⟨m,5,none⟩ b5).heap[m]? = some (.cells #[b0,b1,b2,b3,b4,b5] 61)∧
  Td (fun k=>k=m) U ((((((U.setCell ⟨m,0,none⟩ b0).setCell ⟨m,1,none⟩ b1).setCell ⟨m,2,none⟩ b2).setCell ⟨m,3,none⟩ b3).setCell ⟨m,4,none⟩ b4).setCell ⟨m,5,none⟩ b5):=by
 refine ⟨by simp [World.setCell,Array.getElem?_modify,h],?_⟩
 exact (Td.setCell (R:=fun k=>k=m) _ _ _ rfl).trans ((Td.setCell (R:=fun k=>k=m) _ _ _ rfl).trans ((Td.setCell (R:=fun k=>k=m) _ _ _ rfl).trans ((Td.setCell (R:=fun k=>k=m) _ _ _ rfl).trans ((Td.setCell (R:=fun k=>k=m) _ _ _ rfl).trans (Td.setCell (R:=fun k=>k=m) _ _ _ rfl) (fun _ e=>e) (fun _ _ e=>e)) (fun _ e=>e) (fun _ _ e=>e)) (fun _ e=>e) (fun _ _ e=>e)) (fun _ e=>e) (fun _ _ e=>e)) (fun _ e=>e) (fun _ _ e=>e)
structure Ans (X:Nat→Prop) (W:World) (r:Nat) (s s':Rn) (l:Value) (L:List (Int × Int)) (W':World):Prop where
 went:Went X W r s s' W'
 row:PRow W' W.heap.size 59 l L
 len:L.length≤s.left
theorem Gath.went {W W':World} {r:Nat} {s s':Rn} (h:Gath (fun k=>X k∧k < W.heap.size) W.heap.size W r s s' W'):Went X W r s s' W':=
 ⟨⟨h.lies.to fun k h _=>h.1,h.turned.mono fun k hk e=>e.elim id (fun e=>by omega)⟩,h.on,h.ok⟩
theorem Went.other {W W' W'':World} {r m:Nat} {s s':Rn} (h:Went X W r s s' W') (t:Td (fun k=>k=m) W' W'') (hm:¬ X m) (hw:W.heap.size≤m):Went X W r s s' W'':=
 ⟨⟨h.at.above t (fun k h1 h2=>hm (h2 ▸ h1)),h.turned.trans t (fun _ e=>e) (fun i hi e=>by omega)⟩,h.on,h.ok⟩
theorem Went.to {Y:Nat→Prop} {W W':World} {r:Nat} {s s':Rn} (h:Went X W r s s' W') (hY:∀ k,X k→Y k):Went Y W r s s' W':=⟨⟨h.at.to (fun k a _=>hY k a),h.turned⟩,h.on,h.ok⟩
set_option maxRecDepth 100000 in
set_option maxHeartbeats 4000000 in
theorem query_r (N:Nat) (W:World) (r:Nat) (s:Rn) (kind key value budget:Int) (h:RunAt X W r s) (ho:s.ok) (hX:∀ k,W.heap.size≤k→X k) (ik:I64 key) (iv:I64 value) (hbu:budget≤64) (hN:s.left < N) (hl:s.left≤16384) (x:Rs) (L:List (Int × Int)) (sE:Rn) (he:s.queryR N kind key value budget=((x,L),sE)) :
  Calls Tryz.prog 165 #[.pointer (some ⟨r,0,none⟩),.agg #[.int .i64 kind,.int .i64 key,.int .i64 value],.int .i64 budget] W fun e W'=>∃ l,e=.returned (.agg (x.cs l))∧Ans X W r s sE l L W':=by
 obtain ⟨V1,hV1⟩:∃ V,W.alloc (.cells #[.int .i64 kind,.int .i64 key,.int .i64 value] 52)=V:=⟨_,rfl⟩
 obtain ⟨V2,hV2⟩:∃ V,V1.alloc (.cells #[.int .i64 0,.bool false,.int .i64 0,.int .i64 0,.int .i64 0,.slice none 0 0] 61)=V:=⟨_,rfl⟩
 obtain ⟨mo,hmo⟩:∃ m,W.heap.size=m:=⟨_,rfl⟩
 obtain ⟨m,hm⟩:∃ m,V1.heap.size=m:=⟨_,rfl⟩
 have k1:Kept W V1:=by rw [← hV1];exact Td.alloc _ _ _
 have k2:Kept V1 V2:=by rw [← hV2];exact Td.alloc _ _ _
 have b1:V1.heap[mo]? = some (.cells #[.int .i64 kind,.int .i64 key,.int .i64 value] 52):=by rw [← hV1,← hmo];exact heap_new _ _
 have b1':V2.heap[mo]? = some (.cells #[.int .i64 kind,.int .i64 key,.int .i64 value] 52):=k2.heap b1 id
 have b2:V2.heap[m]? = some (.cells #[.int .i64 0,.bool false,.int .i64 0,.int .i64 0,.int .i64 0,.slice none 0 0] 61):=by rw [← hV2,← hm];exact heap_new _ _
 have s1:m=mo+1:=by rw [← hm,← hV1,← hmo];simp
 have s2:V2.heap.size=m+1:=by rw [← hV2,← hm];simp
 have hlt:=h.lt
 have c0:V2.cell? ⟨mo,0,none⟩=some (.int .i64 kind):=by simp [World.cell?,b1']
 have c1:V2.cell? ⟨mo,1,none⟩=some (.int .i64 key):=by simp [World.cell?,b1']
 have c2:V2.cell? ⟨mo,2,none⟩=some (.int .i64 value):=by simp [World.cell?,b1']
 have KV:=gh (k1.trans k2)
 have HRM:Hid (r < mo∧m=mo+1∧W.heap.size=mo∧V2.heap.size=m+1):=gh ⟨by omega,by omega,hmo,s2⟩
 have B1:=gh b1'
 have B2:=gh b2
 obtain ⟨Y,hYd⟩:∃ Y:Nat→Prop,Y=fun k=>X k∧k≠m:=⟨_,rfl⟩
 have HYX:Hid (∀ k,Y k→X k):=gh (by rw [hYd];exact fun k h=>h.1)
 have HYM:Hid (¬ Y m):=gh (by rw [hYd];exact fun h=>h.2 rfl)
 have H:Hid (RunAt Y V2 r s):=gh ((h.to (Y:=Y) (by rw [hYd];exact fun k a b=>⟨a,by omega⟩)).kept (k1.trans k2))
 have HY:Hid (∀ k,V2.heap.size≤k→Y k):=gh (by rw [hYd];exact fun k h=>⟨hX k (by omega),by omega⟩)
 have OK:=gh ho
 have IK:=gh ik
 have IV:=gh iv
 have HN:=gh hN
 have HL:=gh hl
 unfold Rn.queryR at he
 have KEEP:∀ U:World,Td (fun k=>k=r) V2 U→U.heap[mo]? = some (.cells #[.int .i64 kind,.int .i64 key,.int .i64 value] 52)∧U.heap[m]? = some (.cells #[.int .i64 0,.bool false,.int .i64 0,.int .i64 0,.int .i64 0,.slice none 0 0] 61):=fun U t=>
  ⟨t.heap B1.out (fun e=>by have:=HRM.out;omega),t.heap B2.out (fun e=>by have:=HRM.out;omega)⟩
 have HKEEP:=gh KEEP
 have FIN:∀ (U U':World) (t:Rn) (l:Value),Went Y V2 r s t U→Td (fun k=>k=m) U U'→PRow U' W.heap.size 59 l L→L.length≤s.left→Ans X W r s t l L U':=by
  intro U U' t l hm ht hp hl
  exact ⟨((hm.behind KV.out).other ht HYM.out (by have:=HRM.out;omega)).to HYX.out,hp,hl⟩
 have HFIN:=gh FIN
 have NIL:∀ U:World,PRow U W.heap.size 59 (.slice none 0 0) []:=fun U=>PRow.nil _ _ _
 have HNIL:=gh NIL
 clear h ho hX ik iv hN hl k1 k2 b1 b1' b2 s1 s2 hlt hYd KEEP FIN NIL
 by_cases k4:kind=4
 ·subst k4
  rw [if_pos rfl] at he
  obtain ⟨z,b,t,hz⟩:∃ z b t,s.seek key=((z,b),t):=⟨_,_,_,rfl⟩
  rw [hz] at he
  dsimp only at he
  have HE:=gh he
  have HZ:=gh hz
  have ON:Hid (Rn.On s t):=gh (by have:=Rn.seek_on s key;rw [HZ.out] at this;exact this)
  clear he hz
  go_enter Tryz.func165,Tryz.ntmps165
  go_wp2_with (fail)
  clear hV1 hV2
  refine (seek_r V2 r s key H.out OK.out IK.out z b t HZ.out).mono ?_
  rintro e U ⟨rfl,R⟩
  have G:Hid (Went Y V2 r s t U):=gh ⟨R,ON.out,ON.out.ok OK.out⟩
  obtain ⟨u1,u2⟩:=HKEEP.out U R.2
  have U2:=gh u2
  obtain ⟨d0,d1,d2,d3,d4,d5,df⟩:=cells6 u2
  have f0:=df 0
  have f1:=df 1
  have f2:=df 2
  have f3:=df 3
  have f4:=df 4
  have f5:=df 5
  have e1:U.cell? ⟨mo,1,none⟩=some (.int .i64 key):=by simp [World.cell?,u1]
  clear R u1 u2 df c0 c1 c2
  cases b with
  | false=>
   have hz:=HE.out
   rw [if_neg (by decide)] at hz
   obtain ⟨hz1,rfl⟩:=Prod.mk.inj hz
   obtain ⟨rfl,rfl⟩:=Prod.mk.inj hz1
   clear hz hz1 HE
   go_wp2
   refine bodyPost_ret (results_cell_row rfl _ _ m 61 _ _ _ rfl (put6 U2.out _ _ _ _ _ _).1 Tryz.underlying61 rfl info61) rfl ?_
   exact ⟨_,rfl,HFIN.out U _ t _ G.out (put6 U2.out _ _ _ _ _ _).2 (HNIL.out _) (by simp)⟩
  | true=>
   have hz:=HE.out
   rw [if_pos rfl] at hz
   obtain ⟨hz1,rfl⟩:=Prod.mk.inj hz
   obtain ⟨rfl,rfl⟩:=Prod.mk.inj hz1
   clear hz hz1 HE
   go_wp2
   refine bodyPost_ret (results_cell_row rfl _ _ m 61 _ _ _ rfl (put6 U2.out _ _ _ _ _ _).1 Tryz.underlying61 rfl info61) rfl ?_
   exact ⟨_,rfl,HFIN.out U _ t _ G.out (put6 U2.out _ _ _ _ _ _).2 (HNIL.out _) (by simp)⟩
 ·have g4:(kind == 4)=false:=by simp [k4]
  rw [if_neg k4] at he
  have HE:=gh he
  clear he
  go_enter Tryz.func165,Tryz.ntmps165
  go_wp2_with (fail)
  clear hV1 hV2
  go_loopw [9,10] (fun vi _ wr=>∃ (i:Int) (t:Rn),vi=.int .i64 i∧0≤i∧i≤9223372036854775807∧Went Y V2 r s t wr∧Rn.queryL N kind key value (budget - i).toNat t=((x,L),sE)) (fun vi _ _=>(budget - intOf vi).toNat)
  case atStart=>exact ⟨0,s,rfl,by omega,by omega,Went.refl H.out OK.out,by simpa using HE.out⟩
  case round=>
   obtain ⟨i,t,rfl,i0,i1,hG,hq⟩:=hrel
   have G:=gh hG
   have HQQ:=gh hq
   have cf:=hG.at.offs
   clear hG hq
   by_cases hib:i < budget
   ·cases hof:t.off with
    | true=>
     rw [hof] at cf
     have hz:=HQQ.out
     rw [Rn.queryL_off hof] at hz
     obtain ⟨hz1,rfl⟩:=Prod.mk.inj hz
     obtain ⟨rfl,rfl⟩:=Prod.mk.inj hz1
     clear hz hz1 HQQ
     obtain ⟨u1,u2⟩:=HKEEP.out wr G.out.turned
     have U2:=gh u2
     obtain ⟨d0,d1,d2,d3,d4,d5,df⟩:=cells6 u2
     have f0:=df 0
     have f1:=df 1
     have f2:=df 2
     have f3:=df 3
     have f4:=df 4
     have f5:=df 5
     clear u1 u2 df hof
     go_wp2
     refine bodyPost_ret (results_cell_row rfl _ _ m 61 _ _ _ rfl (put6 U2.out _ _ _ _ _ _).1 Tryz.underlying61 rfl info61) rfl ?_
     exact ⟨_,rfl,HFIN.out wr _ t _ G.out (put6 U2.out _ _ _ _ _ _).2 (HNIL.out _) (by simp)⟩
    | false=>
     rw [hof] at cf
     have HOF:=gh hof
     obtain ⟨c,hc⟩:∃ c,(budget - (i+1)).toNat=c:=⟨_,rfl⟩
     have HC:Hid ((budget - i).toNat=c+1):=gh (by omega)
     have HC':=gh hc
     obtain ⟨b,k,t2,hth⟩:∃ b k t2,Rn.thrF N t (Wk.asked kind key value) 1=((b,k),t2):=⟨_,_,_,rfl⟩
     have HTH:=gh hth
     obtain ⟨u1,u2⟩:=HKEEP.out wr G.out.turned
     have e0:wr.cell? ⟨mo,0,none⟩=some (.int .i64 kind):=by simp [World.cell?,u1]
     have e1:wr.cell? ⟨mo,1,none⟩=some (.int .i64 key):=by simp [World.cell?,u1]
     have e2:wr.cell? ⟨mo,2,none⟩=some (.int .i64 value):=by simp [World.cell?,u1]
     have HWS:Hid (V2.heap.size≤wr.heap.size):=gh G.out.turned.size
     clear hof hc hth u1 u2
     go_wp2_with (fail)
     refine (asked_r wr kind key value).mono ?_
     rintro e w1 ⟨xx,rfl,hwk,kA⟩
     have HWK:=gh hwk
     have KA:=gh kA
     have HBD:Hid (I64 (Wk.asked kind key value).lo∧I64 (Wk.asked kind key value).hi):=gh (by
      have:=IK.out
      have:=IV.out
      constructor
      ·show I64 (if kind=6∨kind=9∨kind=10 then key else -9223372036854775808)
       split
       ·assumption
       ·exact ⟨by decide,by decide⟩
      ·show I64 (if kind=5 then key else if kind=9∨kind=10 then value else 9223372036854775807)
       split
       ·assumption
       ·split
        ·assumption
        ·exact ⟨by decide,by decide⟩)
     clear hwk kA e0 e1 e2
     go_wp2_with (fail)
     refine (through_r (X:=fun k=>Y k∧k < wr.heap.size) (lo:=wr.heap.size) (fun k h=>h.2) r xx N w1 t 1 (Wk.asked kind key value) (by have:=G.out.on.left;have:=HN.out;omega) ((G.out.at.to (fun k a b=>⟨a,b⟩)).kept KA.out) G.out.ok HBD.out HWK.out KA.out.size (by have:=G.out.on.left;have:=HL.out;simp [Wk.asked];omega) (by have:=G.out.on.left;have:=HL.out;simp [Wk.asked];omega) b k t2 HTH.out).mono ?_
     rintro e W3 ⟨rfl,L3⟩
     have GT:Went Y wr r t t2 W3:=⟨⟨L3.gath.lies.to (fun k h _=>h.1),(KA.out.then L3.gath.turned).mono (fun k hk e=>e.elim id (fun e=>by omega))⟩,L3.gath.on,L3.gath.ok⟩
     have G3:=gh (G.out.trans GT)
     have LW:=gh L3
     have cf3:=G3.out.at.offs
     clear L3 GT
     cases hof3:t2.off with
     | true=>
      rw [hof3] at cf3
      have hz:=HQQ.out
      rw [HC.out,Rn.queryL_brk HOF.out HTH.out hof3] at hz
      obtain ⟨hz1,rfl⟩:=Prod.mk.inj hz
      obtain ⟨rfl,rfl⟩:=Prod.mk.inj hz1
      clear hz hz1 HQQ
      obtain ⟨u1,u2⟩:=HKEEP.out W3 G3.out.turned
      have U2:=gh u2
      obtain ⟨d0,d1,d2,d3,d4,d5,df⟩:=cells6 u2
      have f0:=df 0
      have f1:=df 1
      have f2:=df 2
      have f3:=df 3
      have f4:=df 4
      have f5:=df 5
      clear u1 u2 df hof3
      go_wp2
      refine bodyPost_ret (results_cell_row rfl _ _ m 61 _ _ _ rfl (put6 U2.out _ _ _ _ _ _).1 Tryz.underlying61 rfl info61) rfl ?_
      exact ⟨_,rfl,HFIN.out W3 _ t2 _ G3.out (put6 U2.out _ _ _ _ _ _).2 (HNIL.out _) (by simp)⟩
     | false=>
      rw [hof3] at cf3
      have HOF3:=gh hof3
      obtain ⟨vp,vs,WI⟩:=LW.out.walk
      obtain ⟨sa,sc,hvs,srd,sle,_,_,sbl⟩:=WI.srow.reads
      obtain ⟨M,hM⟩:∃ M,k.ss.length=M:=⟨_,rfl⟩
      rw [hM] at hvs sle
      subst hvs
      obtain ⟨pa,pc,hvp,prd,ple,_,_,pbl⟩:=WI.prow.reads
      obtain ⟨Q,hQ⟩:∃ Q,k.ps.length=Q:=⟨_,rfl⟩
      rw [hQ] at hvp ple
      subst hvp
      have HWI:=gh WI
      have c6:=WI.cells.2.2.2.2.2.2.1
      obtain ⟨bb,t3,hag⟩:∃ bb t3,Rn.againL k.ss t2=(bb,t3):=⟨_,_,rfl⟩
      have HAG:=gh hag
      have HSL:Hid (M≤1000000∧Q≤1000000∧Q≤s.left):=gh (by
       have h1:=LW.out.plen;have h2:=LW.out.slen;have h3:=G.out.on.left;have h4:=HL.out
       simp [Wk.asked] at h1 h2
       omega)
      have SRD:=gh srd
      have PRD:=gh prd
      have HSB:Hid (∀ ad,sa=some ad→ad.block≠r):=gh (fun ad e=>by have:=sbl ad e;have:=HRM.out;have:=HWS.out;omega)
      have HPB:Hid (∀ ad,pa=some ad→ad.block≠r∧ad.block≠m):=gh (fun ad e=>by have:=pbl ad e;have:=HRM.out;have:=HWS.out;omega)
      have HM:=gh hM
      have HQ:=gh hQ
      have HXX:Hid (xx≠r∧xx≠m∧wr.heap.size≤xx):=gh (by have:=WI.le;have:=HRM.out;have:=HWS.out;omega)
      clear hof3 WI srd sbl prd pbl hM hQ hag
      go_wp2_with (fail)
      refine (again_r W3 r t2 sa M sc k.ss G3.out.at G3.out.ok SRD.out HM.out sle HSL.out.1 HSB.out bb t3 HAG.out).mono ?_
      rintro e W4 ⟨rfl,G4'⟩
      have G4:=gh (G3.out.trans G4')
      have HWI4:=gh (HWI.out.turned G4'.turned (fun j e=>by rw [e];have:=HRM.out;have:=HWS.out;omega))
      have PRD4:=gh (PRD.out.turned G4'.turned (fun k _ ⟨ad,e,e'⟩ hk=>(HPB.out ad e).1 (by rw [e',hk])))
      clear G4' c6
      cases bb with
      | false=>
       go_wp2
       refine ⟨⟨i+1,t3,rfl,by omega,by omega,G4.out,?_⟩,by simp [intOf];omega⟩
       have hz:=HQQ.out
       rw [HC.out,Rn.queryL_other HOF.out HTH.out HOF3.out HAG.out] at hz
       rw [HC'.out]
       exact hz
      | true=>
       have hz:=HQQ.out
       rw [HC.out,Rn.queryL_same HOF.out HTH.out HOF3.out HAG.out] at hz
       obtain ⟨hz1,rfl⟩:=Prod.mk.inj hz
       obtain ⟨hx,hL⟩:=Prod.mk.inj hz1
       have HLE:=gh hL
       obtain ⟨t0,t1,t2',t3',t4⟩:=x
       obtain ⟨la,lm,lcc,hlv⟩:∃ la lm lc,(if kind=9 then Value.slice pa Q pc else .slice none 0 0)=.slice la lm lc:=by split <;> exact ⟨_,_,_,rfl⟩
       obtain ⟨V,hV⟩:∃ V,W4.drew=V:=⟨_,rfl⟩
       have kV:Kept W4 V:=by rw [← hV];exact Kept.drew _
       obtain ⟨u1,u2⟩:=HKEEP.out V (Kept.behind G4.out.turned kV)
       have HV2:=gh u2
       have GV:=gh (⟨⟨G4.out.at.kept kV,Kept.behind G4.out.turned kV⟩,G4.out.on,G4.out.ok⟩:Went Y V2 r s t3 V)
       have WV:=gh (HWI4.out.kept kV)
       have PV:=gh (PRD4.out.kept kV)
       have hmo':mo≠m:=by have:=HRM.out;omega
       have c5:=WV.out.cells.2.2.2.2.2.1
       have x0:∀ u:Wd (fun U=>Td (fun k=>k=m) V U),u.w.cell? ⟨mo,0,none⟩=some (.int .i64 kind):=fun u=>u.ok.cell (by simp [World.cell?,u1]) hmo'
       have x1:∀ u:Wd (fun U=>Td (fun k=>k=m) V U),u.w.cell? ⟨mo,1,none⟩=some (.int .i64 key):=fun u=>u.ok.cell (by simp [World.cell?,u1]) hmo'
       have x2:∀ u:Wd (fun U=>Td (fun k=>k=m) V U),u.w.cell? ⟨mo,2,none⟩=some (.int .i64 value):=fun u=>u.ok.cell (by simp [World.cell?,u1]) hmo'
       have x5:∀ u:Wd (fun U=>Td (fun k=>k=m) V U),u.w.cell? ⟨xx,5,none⟩=some (.slice pa Q pc):=fun u=>u.ok.cell c5 HXX.out.2.1
       have HV:=gh hV
       have KV4:=gh kV
       have CT:Hid (Calls Tryz.prog 199 #[.agg #[.int .i64 kind,.int .i64 key,.int .i64 value],.slice pa Q pc] V fun e w'=>e=.returned (.agg #[.int .i64 t0,.bool t1,.int .i64 t2',.int .i64 t3',.int .i64 t4,.slice la lm lcc])∧Kept V w'):=gh (by
        have h:=told_r V kind key value pa Q pc k.ps PV.out HQ.out ple HSL.out.2.1
        rw [hx,hlv] at h
        exact h)
       have HLV:=gh hlv
       clear hz hz1 HQQ hx hL hV kV u1 u2 c5 hmo' hlv
       go_wp2_with (fail)
       refine region_wide [0,1,2,3,4,5,6] (fun U=>Td (fun k=>k=m) V U) (by kernel_rfl) (by kernel_rfl) (by rw [HV.out];exact Td.refl _ _) (fun _=>?_)
       rw [HV.out]
       repeat (refine pq rfl rfl ?_;go_big_quiet_step (fail);refine wpQuiet_nil ?_)
       refine pl rfl rfl ?_
       gi_wp2_with (fail)
       refine ⟨trivial,?_⟩
       refine (callsIn_wide.2 CT.out).mono ?_
       rintro e U ⟨rfl,kU⟩
       have KU:=gh kU
       have u2:=kU.heap HV2.out id
       have U2:=gh u2
       obtain ⟨d0,d1,d2,d3,d4,d5,df⟩:=cells6 u2
       have f0:=df 0
       have f1:=df 1
       have f2:=df 2
       have f3:=df 3
       have f4:=df 4
       have f5:=df 5
       clear kU u2 df
       gi_wp2_with (fail)
       refine ⟨Wd.mem (KU.out.mono fun _ _ e=>e.elim),?_⟩
       refine pl rfl rfl ?_
       gi_wp2_with (fail)
       refine ⟨Wd.mem (KU.out.then (put6 U2.out _ _ _ _ _ _).2),?_⟩
       refine perm_done ?_
       clear x0 x1 x2 x5
       go_wp2
       refine bodyPost_ret (results_cell_row rfl _ _ m 61 _ _ _ rfl (put6 U2.out _ _ _ _ _ _).1 Tryz.underlying61 rfl info61) rfl ?_
       have GU:Went Y V2 r s t3 U:=⟨⟨GV.out.at.kept KU.out,Kept.behind GV.out.turned KU.out⟩,GV.out.on,GV.out.ok⟩
       refine ⟨_,rfl,HFIN.out U _ t3 _ GU (put6 U2.out _ _ _ _ _ _).2 ?_ ?_⟩
       ·rw [← HLE.out]
        have:=HLV.out
        split at this
        ·rename_i k9
         rw [if_pos k9,← this]
         refine PRow.low (((WV.out.prow.kept KU.out).turned (put6 U2.out _ _ _ _ _ _).2 (fun g e e'=>?_))) (by have:=HRM.out;have:=HWS.out;omega)
         have:=WV.out.prow.from g e
         have:=HRM.out
         have:=HWS.out
         omega
        ·rename_i k9
         rw [if_neg k9,← this]
         exact HNIL.out _
       ·rw [← HLE.out]
        split
        ·have:=HSL.out;have:=HQ.out;omega
        ·simp
   ·have q1:¬ (i < budget):=hib
    have hz:=HQQ.out
    rw [show (budget - i).toNat=0 by omega] at hz
    obtain ⟨hz1,rfl⟩:=Prod.mk.inj hz
    obtain ⟨rfl,rfl⟩:=Prod.mk.inj hz1
    clear hz hz1 HQQ
    obtain ⟨u1,u2⟩:=HKEEP.out wr G.out.turned
    have U2:=gh u2
    obtain ⟨d0,d1,d2,d3,d4,d5,df⟩:=cells6 u2
    have f0:=df 0
    have f1:=df 1
    have f2:=df 2
    have f3:=df 3
    have f4:=df 4
    have f5:=df 5
    clear u1 u2 df
    go_wp2
    refine bodyPost_ret (results_cell_row rfl _ _ m 61 _ _ _ rfl (put6 U2.out _ _ _ _ _ _).1 Tryz.underlying61 rfl info61) rfl ?_
    exact ⟨_,rfl,HFIN.out wr _ t _ G.out (put6 U2.out _ _ _ _ _ _).2 (HNIL.out _) (by simp)⟩
end
end Go.Proofs.YtnjkmmmfhponlaaGreat
