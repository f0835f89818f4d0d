/-
  What the proof of YtnjkmmmfhponlaaGreatU2 goes by, part 10 of 11: contracts and plain facts; each part begins with its own sentence. No conditions beyond each theorem's own.
-/
import Derived.Test.YtnjkmmmfhponlaaGreatT9
import Derived.Test.YtnjkmmmfhponlaaGreatRows
import Derived.Laws.OwnMore
import Derived.Maps.OwnIn
namespace Go.Proofs.YtnjkmmmfhponlaaGreat
open Go.RowKit
section
set_option maxRecDepth 20000
theorem record_d (W:World) (n₀ b:Nat) (v:Value) (s:Mst) (k:Int) (a:Option Addr) (ws:List Int) (M cw:Nat) (hM:ws.length=M) (h:DMem W n₀ b v s) (hn:n₀≤W.heap.size) (hr:Reads W a ws) (hl:M≤1000000) (hs:∀ ad,a=some ad→ad.block≠b) (z:Int) (s':Mst) (e1:recS s k ws=(z,s')) :
  ∃ x y,Rf.ofZ k x=z∧Calls Tryz.prog 56 #[.pointer (some ⟨b,0,none⟩),.slice a M cw] W fun e W'=>e=.returned (.tuple #[.int .i64 x,.bool y])∧Does 86 layD n₀ b v s' W W':=by
 subst hM
 refine ⟨s.next ws,s.fits ws.length,congrArg Prod.fst e1,?_⟩
 have:=make_d W n₀ b v s a ws cw h hn hr (by unfold maxLen;omega) (fun _=>hs)
 rw [show s.make ws=s' from congrArg Prod.snd e1] at this
 exact this
def LayCD (f:Nat):Prop:=∀ (W:World) (n₀ b:Nat) (v:Value) (s:Mst) (a:Option Addr) (ps:List (Int × Int)) (M cap:Nat) (_:DMem W n₀ b v s) (_:n₀≤W.heap.size) (_:PReads W a ps) (_:ps.length=M) (_:M≤cap) (_:cap≤maxLen) (_:M≤16384) (_:M < f) (_:ps≠[]→∀ ad,a=some ad→¬ Foot b v ad.block) (z:Int) (s':Mst) (_:layF f s ps=(z,s')),
  Calls Tryz.prog 181 #[.pointer (some ⟨b,0,none⟩),.slice a M cap] W fun e W'=>e=.returned (.int .i64 z)∧Does 86 layD n₀ b v s' W W'
set_option maxHeartbeats 4000000 in
theorem buildInner_d (f:Nat) (ih:LayCD f) (W:World) (n₀ b:Nat) (v:Value) (s:Mst) (a:Option Addr) (ps:List (Int × Int)) (M cap:Nat) (h:DMem W n₀ b v s) (hn:n₀≤W.heap.size) (hr:PReads W a ps) (hM:ps.length=M) (hc:M≤cap) (hcm:cap≤maxLen) (hm:M≤16384) (hf:M < f+1) (h2:2≤M) (ha:∀ ad,a=some ad→¬ Foot b v ad.block) (z:Int) (s':Mst) (e1:layF (f+1) s ps=(z,s')) :
  Calls Tryz.prog 181 #[.pointer (some ⟨b,0,none⟩),.slice a M cap] W fun e W'=>e=.returned (.int .i64 z)∧Does 86 layD n₀ b v s' W W':=by
 have db:=Pt.deg_bound (n:=(M:Int)) (by omega) (by omega)
 obtain ⟨D,hD⟩:∃ D:Nat,Pt.degZ (M:Int)=(D:Int):=⟨(Pt.degZ M).toNat,by omega⟩
 rw [hD] at db
 obtain ⟨d1,d2,d3⟩:=db
 have e2:recS (kidF (layF f) ps s D).2 3 (innerL (M:Int) (lowL ps D) (kidF (layF f) ps s D).1)=(z,s'):=by
  rw [layF_succ,hM,if_neg (by omega),if_neg (by omega),hD] at e1
  exact e1
 obtain ⟨bl,off,rfl⟩:∃ bl off,a=some ⟨bl,off,none⟩:=by
  rcases hr with e | ⟨bl,off,e,_⟩
  ·rw [e] at hM;simp at hM;omega
  ·exact ⟨bl,off,e⟩
 have hcm':(cap:Int)≤9223372036854775807:=by unfold maxLen at hcm;omega
 have hb1:bl < W.heap.size:=by
  obtain ⟨p,hp⟩:∃ p,ps[0]? = some p:=⟨_,List.getElem?_eq_getElem (by omega)⟩
  obtain ⟨bl',off',e,h1,_⟩:=hr.at hp
  cases e
  exact h1
 have HA:=gh (ha _ rfl)
 have HB:=gh hb1
 have HR:=gh hr
 have HM:=gh hM
 have H:=gh h
 have HN:=gh hn
 have IH:=gh ih
 have HD:=gh hD
 have E2:=gh e2
 have HCM:=gh hcm
 have HF:=gh hf
 have S1:Hid (InnI 86 layD f n₀ b v W s ps (.slice none 0 0) (.slice none 0 0) 0 W):=gh (LayI.start h (Kept.refl W) (World.ownsRow_nil _ _ _ _) (World.ownsRow_nil _ _ _ _) (fun k hk=>by simp [Value.ownBlock] at hk))
 have FZ:Hid (Pt.aheadZ (M:Int) 0=0):=gh (Pt.ahead_zero (by rw [hD];omega))
 have g0:((M:Int) == 0)=false:=by simp only [beq_eq_false_iff_ne,ne_eq];omega
 have g1:((M:Int) == 1)=false:=by simp only [beq_eq_false_iff_ne,ne_eq];omega
 clear h hr ha hM ih e1 e2 hD hcm hf hn hb1
 go_enter Tryz.func181,Tryz.ntmps181
 go_wp2
 go_loopw [10,11,12,13,14,15] (fun vq vc at_ i _ _ wr=>∃ (t:Nat) (x:Int),t≤D∧i=.int .i64 t∧at_=.int .i64 x∧0≤x∧x≤(M:Int)∧Hid (Pt.aheadZ (M:Int) (t:Int)=x)∧Hid (InnI 86 layD f n₀ b v W s ps vq vc t wr)) (fun _ _ _ i _ _ _=>D - (intOf i).toNat)
 case atStart=>exact ⟨0,0,Nat.zero_le _,rfl,rfl,by omega,by omega,FZ,S1⟩
 case round=>
  obtain ⟨t,x,ht,rfl,rfl,x0,x1,HX,HI⟩:=hrel
  clear S1 FZ
  by_cases hlt:t < D
  ·have pin:=part_in (n:=(M:Int)) (i:=(t:Int)) (by omega) (by rw [HD.out];omega)
   have sb:=Pt.size_bound (n:=(M:Int)) (i:=(t:Int)) (by omega) (by rw [HD.out];omega)
   obtain ⟨F,hF⟩:∃ F:Nat,Pt.fromZ (M:Int) (t:Int)=(F:Int):=⟨(Pt.fromZ (M:Int) (t:Int)).toNat,by omega⟩
   obtain ⟨S,hS⟩:∃ S:Nat,Pt.sizeZ (M:Int) (t:Int)=(S:Int):=⟨(Pt.sizeZ (M:Int) (t:Int)).toNat,by omega⟩
   rw [hF,hS] at pin
   rw [hS] at sb
   have hown:partL ps (t:Int)=(ps.drop F).take S:=by unfold partL;rw [HM.out,hF,hS];rfl
   obtain ⟨own,ho⟩:∃ own,partL ps (t:Int)=own:=⟨_,rfl⟩
   have OWL:Hid (own.length=S):=gh (by rw [← ho,hown,List.length_take,List.length_drop,HM.out];omega)
   have OWN:Hid (own=(ps.drop F).take S):=gh (by rw [← ho,hown])
   unfold InnI at HI
   have KS:Hid (kidF (layF f) ps s (t+1)=((kidF (layF f) ps s t).1++[(layF f (kidF (layF f) ps s t).2 own).1],(layF f (kidF (layF f) ps s t).2 own).2)):=gh (by rw [kidF,ho])
   have LS:Hid (0 < t→lowL ps (t+1)=lowL ps t++[(own.headD (0,0)).1]):=gh (fun h=>by rw [lowL,if_neg (by omega),ho])
   have CL:=kidF_len (layF f) ps s t
   have QL:=lowL_len ps t
   obtain ⟨cs,hcs⟩:∃ cs,(kidF (layF f) ps s t).1=cs:=⟨_,rfl⟩
   obtain ⟨st,hst⟩:∃ st,(kidF (layF f) ps s t).2=st:=⟨_,rfl⟩
   obtain ⟨qs,hqs⟩:∃ qs,lowL ps t=qs:=⟨_,rfl⟩
   obtain ⟨zc,sc,hz⟩:∃ zc sc,layF f st own=(zc,sc):=⟨_,_,rfl⟩
   rw [hcs,hst,hz] at KS
   rw [hqs] at LS QL
   rw [hcs] at CL
   rw [hcs,hst,hqs] at HI
   have HZ:=gh hz
   have HFF:=gh hF
   have HSS:=gh hS
   have HCL:=gh CL
   have HQL:=gh QL
   obtain ⟨p1,p2,p3⟩:=pin
   have p4:F+S≤M:=by omega
   have p5:1≤S:=by omega
   have p6:S < M:=by omega
   have i1:(t:Int) < (D:Int):=by omega
   have xF:x=(F:Int):=by rw [← HX.out,← hF,Pt.from_some (by omega) (by rw [HD.out];omega)]
   have XN:Hid (Pt.aheadZ (M:Int) ((t+1:Nat):Int)=(F:Int)+(S:Int)):=gh (by rw [Int.natCast_add,Int.natCast_one,Pt.ahead_step (by omega) (by rw [HD.out];omega),HX.out,hS,xF])
   subst xF
   clear hown ho hcs hst hqs hz hF hS sb p1 p2 p3 CL QL HX x0 x1
   go_wp2_with (fail)
   refine (Pt.deg_r (M:Int) (I64.wf ⟨by omega,by omega⟩) _).mono ?_
   rw [HD.out]
   rintro e w' ⟨rfl,rfl⟩
   go_wp2_with (fail)
   refine (Pt.size_r (M:Int) (t:Int) (I64.wf ⟨by omega,by omega⟩) _).mono ?_
   rw [HSS.out]
   rintro e w2 ⟨rfl,rfl⟩
   have PR:=LayI.list HI.out HR.out HA.out F S
   rw [← OWN.out] at PR
   have c0:=(preads_head PR (by have:=OWL.out;omega)).1
   obtain ⟨hk,hhk⟩:∃ x,(own.headD (0,0)).1=x:=⟨_,rfl⟩
   rw [hhk] at c0 LS
   clear PR hhk
   by_cases g0:(0:Int) < (t:Int)
   ·go_wp2_with (at_builtin;refine Stop.out ?_)
    refine ⟨?_⟩
    refine wpList_append_q rfl _ _ rfl rfl rfl HI.out (by have:=HQL.out;omega) rfl ?_
    intro vq' wq iq
    have IQ:=gh iq
    clear iq HI c0
    go_wp2_with (fail)
    obtain ⟨v1,m1,f1,st1⟩:=IQ.out.step
    have PR1:=LayI.list IQ.out HR.out HA.out F S
    rw [← OWN.out] at PR1
    refine (IH.out _ n₀ b v1 st _ own S (cap - F) m1 (Nat.le_trans HN.out IQ.out.turned.size) PR1 OWL.out (by omega) (by have:=HCM.out;omega) (by omega) (by have:=HF.out;omega) (fun _ ad e hk=>by
     cases e
     rcases f1 _ hk with e | e
     ·exact HA.out e
     ·have:=HB.out;exact absurd e (by simp only;omega)) zc sc HZ.out).mono ?_
    rintro e w3 ⟨rfl,d3⟩
    have I3:=gh (st1 _ _ d3)
    clear d3 st1 m1 f1 PR1 IQ
    go_wp2_with (at_builtin;refine Stop.out ?_)
    refine ⟨?_⟩
    refine wpList_append_c rfl _ _ rfl rfl rfl I3.out (by have:=HCL.out;omega) rfl ?_
    intro v4 w4 i4
    have I4:=gh i4
    clear i4 I3
    go_wp2
    exact ⟨⟨t+1,(F:Int)+S,by omega,by simp,rfl,by omega,by omega,XN,gh (by unfold InnI;rw [KS.out,LS.out (by omega)];exact I4.out)⟩,by simp [intOf];omega⟩
   ·have z0:t=0:=by omega
    have QN:Hid (lowL ps (t+1)=qs):=gh (by
     have h1:=lowL_len ps (t+1)
     have h2:=HQL.out
     rw [z0] at h1 h2
     rw [z0,List.length_eq_zero_iff.1 h1,List.length_eq_zero_iff.1 h2])
    clear c0 z0
    go_wp2_with (fail)
    obtain ⟨v1,m1,f1,st1⟩:=HI.out.step
    have PR1:=LayI.list HI.out HR.out HA.out F S
    rw [← OWN.out] at PR1
    refine (IH.out _ n₀ b v1 st _ own S (cap - F) m1 (Nat.le_trans HN.out HI.out.turned.size) PR1 OWL.out (by omega) (by have:=HCM.out;omega) (by omega) (by have:=HF.out;omega) (fun _ ad e hk=>by
     cases e
     rcases f1 _ hk with e | e
     ·exact HA.out e
     ·have:=HB.out;exact absurd e (by simp only;omega)) zc sc HZ.out).mono ?_
    rintro e w3 ⟨rfl,d3⟩
    have I3:=gh (st1 _ _ d3)
    clear d3 st1 m1 f1 PR1 HI
    go_wp2_with (at_builtin;refine Stop.out ?_)
    refine ⟨?_⟩
    refine wpList_append_c rfl _ _ rfl rfl rfl I3.out (by have:=HCL.out;omega) rfl ?_
    intro v4 w4 i4
    have I4:=gh i4
    clear i4 I3
    go_wp2
    exact ⟨⟨t+1,(F:Int)+S,by omega,by simp,rfl,by omega,by omega,XN,gh (by unfold InnI;rw [KS.out,QN.out];exact I4.out)⟩,by simp [intOf];omega⟩
  ·obtain rfl:t=D:=by omega
   unfold InnI at HI
   have CL:=kidF_len (layF f) ps s t
   have QL:=lowL_len ps t
   obtain ⟨cs,hcs⟩:∃ cs,(kidF (layF f) ps s t).1=cs:=⟨_,rfl⟩
   obtain ⟨st,hst⟩:∃ st,(kidF (layF f) ps s t).2=st:=⟨_,rfl⟩
   obtain ⟨qs,hqs⟩:∃ qs,lowL ps t=qs:=⟨_,rfl⟩
   rw [hcs,hst,hqs] at HI E2
   rw [hqs] at QL
   rw [hcs] at CL
   obtain ⟨aq,cq,rfl,rq,q0⟩:=HI.out.q.form
   obtain ⟨ac,cc,rfl,rc,c0⟩:=HI.out.c.form
   have HIN:=gh (inner_r _ (M:Int) aq qs cq ac cs cc rq rc q0 c0 (by omega) (by omega))
   have WL:Hid ((innerL (M:Int) qs cs).length≤1000000):=gh (by rw [innerL_length];omega)
   obtain ⟨ws,hws⟩:∃ ws,innerL (M:Int) qs cs=ws:=⟨_,rfl⟩
   rw [hws] at HIN E2 WL
   clear hcs hst hqs hws rq rc q0 c0 CL QL
   go_wp2_with (fail)
   refine (Pt.deg_r (M:Int) (I64.wf ⟨by omega,by omega⟩) _).mono ?_
   rw [HD.out]
   rintro e w' ⟨rfl,rfl⟩
   go_wp2_with (fail)
   refine HIN.out.mono ?_
   intro e w1 hf
   obtain ⟨a1,cap1,rfl,r1,-,-,lo1,-,k1⟩:=hf.form
   have I1:=gh (HI.out.kept k1)
   have R1:=gh r1
   have LO:Hid (∀ ad,a1=some ad→ad.block≠b):=gh (fun ad e=>by
    obtain ⟨v1,m1,_⟩:=HI.out.mem
    have e1:=lo1 ad e
    have e2:=(m1.lt b (.inl rfl)).2
    omega)
   clear hf k1 r1 lo1 HI HIN
   go_wp2_with (fail)
   obtain ⟨v1,m1,f1,st1⟩:=I1.out.step
   obtain ⟨x2,y2,ex,hx2⟩:=record_d _ n₀ b v1 st 3 a1 ws ws.length cap1 rfl m1 (Nat.le_trans HN.out I1.out.turned.size) R1.out WL.out LO.out z s' E2.out
   refine hx2.mono ?_
   rintro e w3 ⟨rfl,d3⟩
   have D3:=gh (Does.then I1.out.turned f1 d3)
   have EX:=gh ex
   clear d3 st1 m1 f1 hx2 ex
   go_wp2_with (fail)
   refine (ofr_c 3 x2 z EX.out _).mono ?_
   rintro e w4 ⟨rfl,rfl⟩
   go_wp2
   go_ret
   exact ⟨rfl,D3.out⟩
set_option maxHeartbeats 4000000 in
theorem build_d:∀ f,LayCD f
 | 0=>fun _ _ _ _ _ _ _ _ _ _ _ _ _ _ _ _ h=>by omega
 | f+1=>fun W n₀ b v s a ps M cap h hn hr hM hc hcm hm hf ha z s' e1=>by
  have ih:=build_d f
  have hcm':(cap:Int)≤9223372036854775807:=by unfold maxLen at hcm;omega
  by_cases h0:M=0
  ·have e2:recS s 1 [0]=(z,s'):=by rw [← e1,layF_succ,if_pos (by omega)]
   have H:=gh h
   have HN:=gh hn
   have E2:=gh e2
   have g0:((M:Int) == 0)=true:=by simp [h0]
   clear h hn hr hM ha e1 e2 ih hcm
   go_enter Tryz.func181,Tryz.ntmps181
   go_wp2_with (fail)
   refine (empty_r W).mono ?_
   intro e w1 hff
   obtain ⟨a1,cap1,rfl,r1,-,-,lo1,-,k1⟩:=hff.form
   have R1:=gh r1
   have K1:=gh k1
   have LO:Hid (∀ ad,a1=some ad→ad.block≠b):=gh (fun ad e=>by
    have e1:=lo1 ad e
    have e2:=(H.out.lt b (.inl rfl)).2
    omega)
   clear hff k1 r1 lo1
   go_wp2_with (fail)
   obtain ⟨x2,y2,ex,hx2⟩:=record_d _ n₀ b v s 1 a1 [0] _ cap1 rfl (H.out.kept K1.out) (Nat.le_trans HN.out K1.out.size) R1.out (by decide) LO.out z s' E2.out
   refine hx2.mono ?_
   rintro e w3 ⟨rfl,d3⟩
   have D3:=gh (Does.after K1.out d3)
   have EX:=gh ex
   clear d3 hx2 ex
   go_wp2_with (fail)
   refine (ofr_c 1 x2 z EX.out _).mono ?_
   rintro e w4 ⟨rfl,rfl⟩
   go_wp2
   go_ret
   exact ⟨rfl,D3.out⟩
  ·by_cases h1:M=1
   ·subst h1
    obtain ⟨p,rfl⟩:∃ p,ps=[p]:=List.length_eq_one_iff.1 hM
    have e2:recS s 2 [p.1,p.2]=(z,s'):=by rw [← e1,layF_succ,if_neg (by simp),if_pos (by simp)];rfl
    obtain ⟨bl,off,rfl⟩:∃ bl off,a=some ⟨bl,off,none⟩:=by
     obtain ⟨bl,off,e,_⟩:=hr.at (j:=0) (p:=p) rfl
     exact ⟨bl,off,e⟩
    obtain ⟨c1,c2⟩:=preads_head hr (by simp)
    simp only [List.headD_cons] at c1 c2
    obtain ⟨V,hV⟩:∃ V,W.drew=V:=⟨_,rfl⟩
    have kV:Kept W V:=by rw [← hV];exact Kept.drew _
    have hna:=ha (by simp) _ rfl
    have x1:∀ u:Wd (fun U=>Td (Foot b v) V U),u.w.cell? ⟨bl,off,none⟩=some (.int .i64 p.1):=fun u=>u.ok.cell (kV.cell c1 id) hna
    have x2:∀ u:Wd (fun U=>Td (Foot b v) V U),u.w.cell? ⟨bl,off+1,none⟩=some (.int .i64 p.2):=fun u=>u.ok.cell (kV.cell c2 id) hna
    have HV:=gh hV
    have KV:=gh kV
    have H:=gh (h.kept kV)
    have HN:=gh (Nat.le_trans hn kV.size)
    have E2:=gh e2
    obtain ⟨p1,p2⟩:=p
    simp only at x1 x2 E2
    clear h hn hr hM ha e1 e2 ih hcm c1 c2 hna hV kV
    go_enter Tryz.func181,Tryz.ntmps181
    go_wp2_with (fail)
    refine region_wide [0,1,2,3,4,5,6,7,8,9,10,11,12,13,14,15] (fun U=>Td (Foot b v) V U) (by kernel_rfl) (by kernel_rfl) (by rw [HV.out];exact Td.refl _ _) (fun _=>?_)
    rw [HV.out]
    repeat (refine pq rfl rfl ?_;go_big_quiet_step (fail);refine wpQuiet_nil ?_)
    refine pl rfl rfl ?_
    gi_wp2_with (fail)
    refine ⟨trivial,?_⟩
    refine (callsIn_wide.2 (leaf_r V p1 p2)).mono ?_
    intro e w1 hff
    obtain ⟨a1,cap1,rfl,r1,-,-,lo1,-,k1⟩:=hff.form
    have R1:=gh r1
    have K1:=gh k1
    have LO:Hid (∀ ad,a1=some ad→ad.block≠b):=gh (fun ad e=>by
     have e1:=lo1 ad e
     have e2:=(H.out.lt b (.inl rfl)).2
     omega)
    clear hff k1 r1 lo1
    gi_wp2_with (fail)
    refine ⟨Wd.mem (K1.out.mono (fun _ _ e=>e.elim)),?_⟩
    refine pl rfl rfl ?_
    gi_wp2_with (fail)
    refine ⟨trivial,?_⟩
    obtain ⟨x3,y3,ex,hx3⟩:=record_d _ n₀ b v s 2 a1 [p1,p2] _ cap1 rfl (H.out.kept K1.out) (Nat.le_trans HN.out K1.out.size) R1.out (by simp) LO.out z s' E2.out
    refine (callsIn_wide.2 hx3).mono ?_
    rintro e w3 ⟨rfl,d3⟩
    have D3:=gh (Does.after (KV.out.trans K1.out) d3)
    have T3:Hid (Td (Foot b v) V w3):=gh (by
     obtain ⟨_,_,t3,_⟩:=Does.after K1.out d3
     exact t3)
    have EX:=gh ex
    clear d3 hx3 ex
    gi_wp2_with (fail)
    refine ⟨Wd.mem T3.out,?_⟩
    repeat (refine pq rfl rfl ?_;go_big_quiet_step (fail);refine wpQuiet_nil ?_)
    refine perm_done ?_
    go_wp2_with (fail)
    refine (ofr_c 2 x3 z EX.out _).mono ?_
    rintro e w4 ⟨rfl,rfl⟩
    go_wp2
    go_ret
    exact ⟨rfl,D3.out⟩
   ·exact buildInner_d f ih W n₀ b v s a ps M cap h hn hr hM hc hcm hm hf (by omega) (ha (fun e=>by rw [e] at hM;simp at hM;omega)) z s' e1
end
namespace Pt
open Go.ChangeShapes Go.WideShapes Go.ChangeAt Go.RowKit
theorem cells_rf (f:Nat):∀ (n:Int),n.toNat≤f→(Lit.int .i64 n).wf=true→∀ (w:World),
  Calls Tryz.prog 180 #[.int .i64 n] w fun e w'=>e=.returned (.int .i64 (celZ n))∧w=w':=by
 induction f with
 | zero=>
  intro n hf hn w
  have hn':=bounds_i64 hn
  clear hn
  by_cases c:n < 0
  ·rw [cel_none (by omega)]
   go_enter Tryz.func180,Tryz.ntmps180
   go_wp2
   go_ret
   exact ⟨rfl,rfl⟩
  ·obtain rfl:n=0:=by omega
   rw [cel_is_0]
   go_enter Tryz.func180,Tryz.ntmps180
   go_wp2
   go_ret
   exact ⟨rfl,rfl⟩
 | succ f ih=>
  intro n hf hn w
  have hn':=bounds_i64 hn
  by_cases c:n < 0
  ·rw [cel_none (by omega)]
   clear hn ih
   go_enter Tryz.func180,Tryz.ntmps180
   go_wp2
   go_ret
   exact ⟨rfl,rfl⟩
  ·by_cases c1:16384 < n
   ·rw [cel_none (by omega)]
    clear hn ih
    go_enter Tryz.func180,Tryz.ntmps180
    go_wp2
    go_ret
    exact ⟨rfl,rfl⟩
   ·by_cases c2:n < 2
    ·rw [cel_few (by omega) c2]
     clear hn ih
     go_enter Tryz.func180,Tryz.ntmps180
     go_wp2
     go_ret
     exact ⟨rfl,rfl⟩
    ·have hd:=deg_r n hn
     have d:=deg_bound (n:=n) (by omega) (by omega)
     have HE:=gh (cs_end (n:=n) (by omega))
     obtain ⟨z,ez⟩:∃ z,degZ n=z:=⟨_,rfl⟩
     have HZ:=gh ez
     rw [ez] at hd d HE
     obtain ⟨r,er⟩:∃ r,celZ n=r:=⟨_,rfl⟩
     rw [er] at HE ⊢
     have hn2:=gh hn
     have ih2:=gh ih
     clear hn ez er ih
     go_enter Tryz.func180,Tryz.ntmps180
     go_wp2_with (go_at_call 138;refine (hd _).mono ?_;rintro e w' ⟨rfl,rfl⟩)
     go_loop [3,4] (fun a k=>∃ x y:Int,Hid (4+z * 2+csZ n y=x)∧0≤y∧y≤z∧a=.int .i64 x∧k=.int .i64 y) (fun _ k=>(z - intOf k).toNat)
     case atStart=>exact ⟨4+2 * z,0,gh (by rw [cs_zero (by have:=HZ.out;omega)];omega),by omega,by omega,rfl,rfl⟩
     case round=>
      obtain ⟨x,y,H,y0,y1,rfl,rfl⟩:=hrel
      by_cases g:y < z
      ·have hs:=size_r n y hn2.out
       have sb:=size_bound (n:=n) (i:=y) y0 (by have:=HZ.out;omega)
       have hi:=ih2.out (sizeZ n y) (by omega) (wf_int (by omega) (by omega))
       have cb:=cel_nat (sizeZ n y)
       have nb:=cs_nat (n:=n) (i:=y) (by have:=HZ.out;omega) y0 (by have:=HZ.out;omega)
       have st:=cs_step (n:=n) (i:=y) y0 (by have:=HZ.out;omega)
       have xb:0≤x∧x≤100000000:=by have:=H.out;omega
       have H2:=gh (show 4+z * 2+csZ n (y+1)=x+celZ (sizeZ n y) by rw [st];have:=H.out;omega)
       clear st nb H HE HZ ih2
       generalize celZ (sizeZ n y)=u at *
       generalize sizeZ n y=s at *
       go_wp2_with fail
       refine (hd _).mono ?_
       rintro e w' ⟨rfl,rfl⟩
       go_wp2_with fail
       refine (hs _).mono ?_
       rintro e w' ⟨rfl,rfl⟩
       go_wp2_with fail
       refine (hi _).mono ?_
       rintro e w' ⟨rfl,rfl⟩
       go_wp2
       go_round
       case rel=>exact ⟨x+u,y+1,H2,by omega,by omega,rfl,rfl⟩
       case measure=>simp [intOf];omega
      ·obtain rfl:y=z:=by omega
       have e:x=r:=by rw [← H.out,HE.out]
       subst e
       clear H HE HZ ih2
       go_wp2_with (go_at_call 138;refine (hd _).mono ?_;rintro e w' ⟨rfl,rfl⟩)
       go_ret
       exact ⟨rfl,rfl⟩
theorem cells_r (n:Int) (hn:(Lit.int .i64 n).wf=true) (w:World) :
  Calls Tryz.prog 180 #[.int .i64 n] w fun e w'=>e=.returned (.int .i64 (celZ n))∧w=w':=cells_rf n.toNat n (Nat.le_refl _) hn w
end Pt
section
set_option maxRecDepth 20000
theorem map_d (W:World) (a:Option Addr) (ps:List (Int × Int)) (M cap:Nat) (hr:PReads W a ps) (hM:ps.length=M) (hc:M≤cap) (hm:M≤5000) (r:Bool) (e1:decide ((ps.map Prod.fst).Pairwise (· < ·))=r) :
  Calls Tryz.prog 54 #[.slice a M cap] W fun e W'=>e=.returned (.bool r)∧∃ m,W'=W.drewN m:=by
 have HR:=gh hr
 have HM:=gh hM
 have E1:=gh e1
 have hm':(M:Int)≤5000:=by omega
 clear hr hM e1
 go_enter Tryz.func54,Tryz.ntmps54
 go_wp2
 go_loopw [3] (fun i wr=>∃ k d:Nat,(k < M∨k=0)∧i=.int .i64 ((k:Int)+1)∧Hid (Pb.PwTo (ps.map Prod.fst) (k+1))∧wr=W.drewN d) (fun i _=>M+1 - (intOf i).toNat)
 case atStart=>exact ⟨0,0,.inr rfl,rfl,gh (.start _),rfl⟩
 case round=>
  obtain ⟨k,d,hk1,rfl,HP,rfl⟩:=hrel
  by_cases hlt:k+1 < M
  ·obtain ⟨⟨x,xv⟩,hp⟩:∃ p,ps[k+1]? = some p:=⟨_,List.getElem?_eq_getElem (by have:=HM.out;omega)⟩
   obtain ⟨⟨y,yv⟩,hq⟩:∃ p,ps[k]? = some p:=⟨_,List.getElem?_eq_getElem (by have:=HM.out;omega)⟩
   have hx:(ps.map Prod.fst)[k+1]? = some x:=by rw [List.getElem?_map,hp];rfl
   have hy:(ps.map Prod.fst)[k]? = some y:=by rw [List.getElem?_map,hq];rfl
   obtain ⟨bl,off,rfl,hbl,g1,-⟩:=HR.out.at hp
   obtain ⟨bl',off',hbe,_,g3,-⟩:=HR.out.at hq
   cases hbe
   have i1:(k:Int)+1 < (M:Int):=by omega
   have i3:k+1 < cap:=by omega
   simp only at g1 g3
   by_cases hyx:y < x
   ·have HP2:Hid (Pb.PwTo (ps.map Prod.fst) (k+1+1)):=gh (Pb.pw_snoc HP.out hy hx hyx)
    have hzy:¬ (x≤y):=by omega
    clear hp hq hx hy hk1 HP hyx
    go_wp2
    go_quiet (fail)
    go_wp2
    exact ⟨⟨k+1,_,.inl (by omega),by simp,HP2,rfl⟩,by simp [intOf];omega⟩
   ·have HF:Hid (r=false):=gh (by rw [← E1.out];exact decide_eq_false (Pb.pw_not hy hx (by omega)))
    have hyz':x≤y:=by omega
    clear hp hq hx hy hk1 HP hyx
    go_wp2
    go_quiet (fail)
    go_wp2
    go_ret
    exact ⟨by rw [HF.out];rfl,_,World.drewN_drewN ..⟩
  ·have i1:¬ ((k:Int)+1 < (M:Int)):=by omega
   have HF:Hid (r=true):=gh (by
    rw [← E1.out]
    refine decide_eq_true ?_
    have:((ps.map Prod.fst).take (k+1)).Pairwise (· < ·):=HP.out
    rwa [List.take_of_length_le (by rw [List.length_map,HM.out];omega)] at this)
   clear HP
   go_wp2
   go_ret
   exact ⟨by rw [HF.out];rfl,_,rfl⟩
theorem asc_d (W:World) (a:Option Addr) (ps:List (Int × Int)) (M cap:Nat) (hr:PReads W a ps) (hM:ps.length=M) (hc:M≤cap) (hm:M≤5000) (r:Bool) (e1:ascB ps=r) :
  Calls Tryz.prog 144 #[.slice a M cap] W fun e W'=>e=.returned (.bool r)∧Kept W W':=by
 have HD:=gh (map_d W a ps M cap hr hM hc hm r (by
  rw [← e1]
  unfold ascB
  exact decide_eq_decide.2 ⟨fun h=>⟨by omega,h⟩,fun h=>h.2⟩))
 have i1:(M:Int)≤16384:=by omega
 clear hr hM e1 hm
 cases r with
 | true=>
  go_enter Tryz.func144,Tryz.ntmps144
  go_wp2_with (fail)
  refine HD.out.mono ?_
  rintro e w1 ⟨rfl,m,rfl⟩
  go_wp2
  go_ret
  exact ⟨rfl,Kept.drewN _ _⟩
 | false=>
  go_enter Tryz.func144,Tryz.ntmps144
  go_wp2_with (fail)
  refine HD.out.mono ?_
  rintro e w1 ⟨rfl,m,rfl⟩
  go_wp2
  go_ret
  exact ⟨rfl,Kept.drewN _ _⟩
set_option maxHeartbeats 4000000 in
theorem buildA_d (W:World) (n₀ b:Nat) (v:Value) (s:Mst) (a:Option Addr) (ps:List (Int × Int)) (M cap:Nat) (h:DMem W n₀ b v s) (hn:n₀≤W.heap.size) (hr:PReads W a ps) (hM:ps.length=M) (hc:M≤cap) (hcm:cap≤maxLen) (hm5:M≤5000) (ha:ps≠[]→∀ ad,a=some ad→¬ Foot b v ad.block) (z:Int) (r:Bool) (s':Mst) (e1:buildS s ps=((z,r),s')) :
  Calls Tryz.prog 145 #[.pointer (some ⟨b,0,none⟩),.slice a M cap] W fun e W'=>e=.returned (.tuple #[.int .i64 z,.bool r])∧Does 86 layD n₀ b v s' W W':=by
 obtain ⟨V,hV⟩:∃ V,W.drew=V:=⟨_,rfl⟩
 have kV:Kept W V:=by rw [← hV];exact Kept.drew _
 have H:=gh (h.kept kV)
 have HRG:=fun r=>asc_d V a ps M cap (hr.kept kV) hM hc hm5 r
 have hcm':(M:Int)≤9223372036854775807:=by unfold maxLen at hcm;omega
 have hl:=h.len
 have hroom:=h.room
 have htop:=h.top
 obtain ⟨a0,c0,rfl,_⟩:=h.form
 have x1:∀ u:Wd (fun U=>Kept V U),u.w.cell? ⟨b,0,none⟩=some (.int .i64 s.size):=fun u=>(DMem.opened (H.out.kept u.ok)).1.2.1
 have x2:∀ u:Wd (fun U=>Kept V U),u.w.cell? ⟨b,1,none⟩=some (.slice a0 s.xs.length c0):=fun u=>(DMem.opened (H.out.kept u.ok)).1.1
 have HV:=gh hV
 have KV:=gh kV
 cases hb:ascB ps with
 | false=>
  have HR:=gh (HRG false hb)
  rw [buildS,if_neg (by rw [hb];simp)] at e1
  simp only [Prod.mk.injEq] at e1
  obtain ⟨⟨rfl,rfl⟩,rfl⟩:=e1
  clear h hn hr hM hcm ha HRG hb hV kV
  go_enter Tryz.func145,Tryz.ntmps145
  go_wp2_with (fail)
  refine region_wide [0,1,2,3,4,5,7,8,9,10,11,12,13,14,15,16,6,17,18] (fun U=>Kept V U) (by kernel_rfl) (by kernel_rfl) (by rw [HV.out];exact Kept.refl _) (fun _=>?_)
  rw [HV.out]
  refine pq rfl rfl ?_;go_big_quiet_step (fail);refine wpQuiet_nil ?_
  refine pl rfl rfl ?_
  gi_wp2_with (fail)
  refine ⟨trivial,?_⟩
  refine (callsIn_wide.2 HR.out).mono ?_
  rintro e w1 ⟨rfl,k1⟩
  have K1:=gh k1
  clear k1
  gi_wp2_with (fail)
  refine ⟨Wd.mem K1.out,?_⟩
  repeat (refine pq rfl rfl ?_;go_big_quiet_step (fail);refine wpQuiet_nil ?_)
  refine Go.Proofs.YtnjkmmmfhponlaaGreat.ps rfl rfl rfl (Wd.mem K1.out) ?_
  go_big_quiet_step (fail)
  refine wpQuiet_nil ?_
  repeat (refine pq rfl rfl ?_;go_big_quiet_step (fail);refine wpQuiet_nil ?_)
  refine perm_done ?_
  have D1:=gh (Does.same (H.out.kept K1.out) ((KV.out.trans K1.out).mono (fun _ _ e=>e.elim)))
  go_wp2
  go_ret2
  exact ⟨rfl,D1.out⟩
 | true=>
  have HR:=gh (HRG true hb)
  have hm:M≤16384:=by omega
  have HC:=gh (Pt.cells_r (M:Int) (I64.wf ⟨by omega,by omega⟩))
  have cb:=Pt.cel_nat (M:Int)
  obtain ⟨C,hC⟩:∃ C,Pt.celZ (M:Int)=C:=⟨_,rfl⟩
  rw [hC] at HC cb
  by_cases hfit:C≤s.size - (s.xs.length:Int)
  ·rw [buildS,if_pos ⟨hb,by rw [hM,hC];exact hfit⟩,hM] at e1
   simp only [Prod.mk.injEq] at e1
   obtain ⟨⟨e1,rfl⟩,e2⟩:=e1
   have e3:layF (M+1) s ps=(z,s'):=by rw [← e1,← e2]
   have HLAY:Hid (∀ w1,Kept V w1→Calls Tryz.prog 181 #[.pointer (some ⟨b,0,none⟩),.slice a M cap] w1 fun e W'=>e=.returned (.int .i64 z)∧Does 86 layD n₀ b (.slice a0 s.xs.length c0) s' w1 W'):=gh (fun w1 k1=>build_d (M+1) w1 n₀ b _ s a ps M cap (H.out.kept k1) (Nat.le_trans hn (KV.out.trans k1).size) (hr.kept (KV.out.trans k1)) hM hc hcm hm (by omega) ha z s' e3)
   have g1:¬ s.size - (s.xs.length:Int) < C:=by omega
   have g2:decide (s.size - (s.xs.length:Int) < C)=false:=decide_eq_false g1
   clear e1 e2 e3
   clear h hn hr hM hcm ha HRG hb hV kV hC hm
   go_enter Tryz.func145,Tryz.ntmps145
   go_wp2_with (fail)
   refine region_wide [0,1,2,3,4,5,7,8,9,10,11,12,13,14,15,16,6,17,18] (fun U=>Kept V U) (by kernel_rfl) (by kernel_rfl) (by rw [HV.out];exact Kept.refl _) (fun _=>?_)
   rw [HV.out]
   refine pq rfl rfl ?_;go_big_quiet_step (fail);refine wpQuiet_nil ?_
   refine pl rfl rfl ?_
   gi_wp2_with (fail)
   refine ⟨trivial,?_⟩
   refine (callsIn_wide.2 HR.out).mono ?_
   rintro e w1 ⟨rfl,k1⟩
   have K1:=gh k1
   clear k1
   gi_wp2_with (fail)
   refine ⟨Wd.mem K1.out,?_⟩
   repeat (refine pq rfl rfl ?_;go_big_quiet_step (fail);refine wpQuiet_nil ?_)
   refine pl rfl rfl ?_
   gi_wp2_with (fail)
   refine ⟨trivial,?_⟩
   refine (callsIn_wide.2 (HC.out w1)).mono ?_
   rintro e w2 ⟨rfl,rfl⟩
   gi_wp2_with (fail)
   refine ⟨Wd.mem K1.out,?_⟩
   repeat (refine pq rfl rfl ?_;go_big_quiet_step (fail);refine wpQuiet_nil ?_)
   refine perm_done ?_
   go_wp2_with (fail)
   refine (HLAY.out _ K1.out).mono ?_
   rintro e w4 ⟨rfl,d4⟩
   have D4:=gh (Does.after (KV.out.trans K1.out) d4)
   clear d4
   go_wp2
   go_ret2
   exact ⟨rfl,D4.out⟩
  ·rw [buildS,if_neg (by rw [hM,hC];exact fun h=>hfit h.2)] at e1
   simp only [Prod.mk.injEq] at e1
   obtain ⟨⟨rfl,rfl⟩,rfl⟩:=e1
   have g1:s.size - (s.xs.length:Int) < C:=by omega
   have g2:decide (s.size - (s.xs.length:Int) < C)=true:=decide_eq_true g1
   clear h hn hr hM hcm ha HRG hb hV kV hC hm
   go_enter Tryz.func145,Tryz.ntmps145
   go_wp2_with (fail)
   refine region_wide [0,1,2,3,4,5,7,8,9,10,11,12,13,14,15,16,6,17,18] (fun U=>Kept V U) (by kernel_rfl) (by kernel_rfl) (by rw [HV.out];exact Kept.refl _) (fun _=>?_)
   rw [HV.out]
   refine pq rfl rfl ?_;go_big_quiet_step (fail);refine wpQuiet_nil ?_
   refine pl rfl rfl ?_
   gi_wp2_with (fail)
   refine ⟨trivial,?_⟩
   refine (callsIn_wide.2 HR.out).mono ?_
   rintro e w1 ⟨rfl,k1⟩
   have K1:=gh k1
   clear k1
   gi_wp2_with (fail)
   refine ⟨Wd.mem K1.out,?_⟩
   repeat (refine pq rfl rfl ?_;go_big_quiet_step (fail);refine wpQuiet_nil ?_)
   refine pl rfl rfl ?_
   gi_wp2_with (fail)
   refine ⟨trivial,?_⟩
   refine (callsIn_wide.2 (HC.out w1)).mono ?_
   rintro e w2 ⟨rfl,rfl⟩
   gi_wp2_with (fail)
   refine ⟨Wd.mem K1.out,?_⟩
   repeat (refine pq rfl rfl ?_;go_big_quiet_step (fail);refine wpQuiet_nil ?_)
   refine perm_done ?_
   have D1:=gh (Does.same (H.out.kept K1.out) ((KV.out.trans K1.out).mono (fun _ _ e=>e.elim)))
   go_wp2
   go_ret2
   exact ⟨rfl,D1.out⟩
end
section
open Go.Shelf
attribute [local go_sem] Oper.semAt_some
theorem Mst.make_ok {s:Mst} (h:s.ok) (hs:s.size≤65536) {ws:List Int} (hw:∀ z ∈ ws,I64 z):(s.make ws).ok∧(s.make ws).size=s.size:=by
 unfold Mst.make
 split
 ·rename_i hf
  refine ⟨⟨fun z hz=>?_,?_⟩,rfl⟩
  ·rcases List.mem_append.1 hz with hz | hz
   ·exact h.1 z hz
   ·exact hw z hz
  ·simp only [Mst.fits,Bool.and_eq_true,decide_eq_true_eq] at hf
   simp only [List.length_append]
   omega
 ·exact ⟨h,rfl⟩
theorem recS_ok {s:Mst} (h:s.ok) (hs:s.size≤65536) (k:Int) {ws:List Int} (hw:∀ z ∈ ws,I64 z):((recS s k ws).2.ok∧(recS s k ws).2.size=s.size)∧I64 (recS s k ws).1:=⟨Mst.make_ok h hs hw,i64_of _ _⟩
theorem kidF_ok {L:Mst→List (Int × Int)→Int × Mst} (hL:∀ s ps,s.ok→s.size≤65536→Fit.PF ps→ps.length≤1000000→((L s ps).2.ok∧(L s ps).2.size=s.size)∧I64 (L s ps).1) {ps:List (Int × Int)} (hp:Fit.PF ps) (hl:ps.length≤1000000) {s:Mst} (h:s.ok) (hs:s.size≤65536):∀ n,((kidF L ps s n).2.ok∧(kidF L ps s n).2.size=s.size)∧∀ z ∈ (kidF L ps s n).1,I64 z
 | 0=>⟨⟨h,rfl⟩,fun _ h=>by cases h⟩
 | i+1=>by
  obtain ⟨⟨a1,a2⟩,a3⟩:=kidF_ok hL hp hl h hs i
  rw [kidF]
  obtain ⟨⟨b1,b2⟩,b3⟩:=hL _ _ a1 (by rw [a2];exact hs) (Fit.PF.part hp (i:Int)) (Nat.le_trans (by unfold partL;simp only [List.length_take,List.length_drop];omega) hl)
  refine ⟨⟨b1,by rw [b2,a2]⟩,fun z hz=>?_⟩
  rcases List.mem_append.1 hz with hz | hz
  ·exact a3 z hz
  ·obtain rfl:=List.mem_singleton.1 hz
   exact b3
theorem layF_ok:∀ (f:Nat) (s:Mst) (ps:List (Int × Int)),s.ok→s.size≤65536→Fit.PF ps→ps.length≤1000000→((layF f s ps).2.ok∧(layF f s ps).2.size=s.size)∧I64 (layF f s ps).1
 | 0,_,_,h,_,_,_=>⟨⟨h,rfl⟩,i64_0⟩
 | f+1,s,ps,h,hs,hp,hl=>by
  rw [layF_succ]
  have hk:=kidF_ok (L:=layF f) (fun s ps h hs hp hl=>layF_ok f s ps h hs hp hl) hp hl h hs (Pt.degZ ps.length).toNat
  split
  ·exact recS_ok h hs 1 (fun z hz=>by obtain rfl:=List.mem_singleton.1 hz;exact i64_0)
  ·split
   ·exact recS_ok h hs 2 (fun z hz=>by
     simp only [List.mem_cons,List.not_mem_nil,or_false] at hz
     rcases hz with rfl | rfl
     ·exact (Fit.PF.head hp).1
     ·exact (Fit.PF.head hp).2)
   ·obtain ⟨⟨a,b⟩,c⟩:=recS_ok hk.1.1 (by rw [hk.1.2];exact hs) 3 (Fit.innerL_fit (n:=ps.length) (i64_small (by omega) (by omega)) (Fit.lowL hp (Pt.degZ ps.length).toNat) hk.2 (by rw [kidF_len];have:=deg_small ps.length;omega))
    exact ⟨⟨a,by rw [b,hk.1.2]⟩,c⟩
theorem buildS_ok {s:Mst} (h:s.ok) (hs:s.size≤65536) {ps:List (Int × Int)} (hp:Fit.PF ps) (hl:ps.length≤1000000):((buildS s ps).2.ok∧(buildS s ps).2.size=s.size)∧I64 (buildS s ps).1.1:=by
 unfold buildS
 split
 ·exact layF_ok _ s ps h hs hp hl
 ·exact ⟨⟨h,rfl⟩,i64_0⟩
theorem Mst.write_ok {s:Mst} (h:s.ok) (a:Int) {x:Int} (hx:I64 x):(s.write a x).ok:=by
 unfold Mst.write Mst.put Mst.touch
 split
 ·split
  ·refine ⟨fun z hz=>?_,by simpa using h.2⟩
   rcases List.mem_or_eq_of_mem_set hz with hz | rfl
   ·exact h.1 z hz
   ·exact hx
  ·exact ⟨h.1,h.2⟩
 ·split
  ·refine ⟨fun z hz=>?_,by simpa using h.2⟩
   rcases List.mem_or_eq_of_mem_set hz with hz | rfl
   ·exact h.1 z hz
   ·exact hx
  ·exact ⟨h.1,h.2⟩
namespace Ixp
def idleB (ix:Ixp):Bool:=ix.ts.all fun q=>!q.busy
def loadZ (ix:Ixp) (ps:List (Int × Int)):Int × Ixp:=
 if ix.idleB=false then (4,ix)
 else if ascB ps=false then (6,ix)
 else if 0 < (leavesL ix.m).length then (7,ix)
 else if (buildS ix.m ps).1.2=false then (8,{ ix with m:=(buildS ix.m ps).2 })
 else (0,{ ix with m:=(buildS ix.m ps).2.write 6 (buildS ix.m ps).1.1,logn:=ix.logn+1 })
end Ixp
set_option maxRecDepth 100000 in
set_option maxHeartbeats 1000000 in
theorem idle_r (W:World) (n₀ x mb tb:Nat) (ix:Ixp) (mv:Value) (tv lv:Sl) (pz:List Pt) (h:IxIs W n₀ x ix mb mv tb tv lv pz) (hN:ix.ts.length≤100000) (r:Bool) (e1:ix.idleB=r) :
  Calls Tryz.prog 143 #[.pointer (some ⟨x,0,none⟩)] W fun e W'=>e=.returned (.bool r)∧W=W':=by
 obtain ⟨⟨_,c4,_⟩,_⟩:=h.cells
 have H:=gh h
 have HE:=gh e1
 have hn:=h.tvn.1
 have hc:=h.tvn.2
 obtain ⟨tn,etn⟩:∃ tn,tv.n=tn:=⟨_,rfl⟩
 obtain ⟨tc,etc⟩:∃ tc,tv.c=tc:=⟨_,rfl⟩
 rw [etn,etc] at c4
 rw [etn] at hn
 rw [etn,etc] at hc
 have HL:Hid (tn=ix.ts.length):=gh hn
 have t1:tn≤100000:=by omega
 clear h e1 hn etn etc hN
 go_enter Tryz.func143,Tryz.ntmps143
 go_wp2_with (fail)
 go_loopw [3] (fun vi wr=>∃ k:Nat,vi=.int .i64 (k:Int)∧k≤tn∧wr=W∧Hid (∀ i q,i < k→ix.ts[i]? = some q→q.busy=false)) (fun vi _=>tn - (intOf vi).toNat)
 case atStart=>exact ⟨0,rfl,by omega,rfl,gh (fun _ _ e=>absurd e (by omega))⟩
 case round=>
  obtain ⟨k,rfl,hk,rfl,A⟩:=hrel
  by_cases hlt:k < tn
  ·obtain ⟨q,hq⟩:∃ q,ix.ts[k]? = some q:=⟨_,List.getElem?_eq_getElem (by rw [← HL.out];exact hlt)⟩
   obtain ⟨p,hp⟩:∃ p,pz[k]? = some p:=⟨_,List.getElem?_eq_getElem (by rw [H.out.pn,← HL.out];exact hlt)⟩
   have cj:=H.out.slot hp
   have d1:=(H.out.th k q p hq hp).cells.1.2.1
   have j1:(k:Int) < (tn:Int):=by omega
   have j2:k < tc:=by omega
   have j0:decide ((k:Int) < 0)=false:=by simp
   have j3:decide ((tn:Int)≤(k:Int))=false:=by simp;omega
   have HQ:=gh hq
   obtain ⟨b,hbz⟩:∃ b,q.busy=b:=⟨_,rfl⟩
   rw [hbz] at d1
   have HB:=gh hbz
   clear hq hp hbz
   cases b with
   | true=>
    have HF:Hid (r=false):=gh (by
     rw [← HE.out,Ixp.idleB,Bool.eq_false_iff]
     intro e
     have:=List.all_eq_true.1 e q (List.mem_of_getElem? HQ.out)
     rw [HB.out] at this
     cases this)
    go_wp2
    go_ret
    exact ⟨by rw [HF.out];rfl,rfl⟩
   | false=>
    go_wp2
    refine ⟨⟨k+1,by simp,by omega,by simp,gh (fun i q' hi hq'=>?_)⟩,by simp only [intOf];omega⟩
    by_cases hik:i=k
    ·subst hik
     rw [HQ.out] at hq'
     cases hq'
     exact HB.out
    ·exact A.out i q' (by omega) hq'
  ·have j1:¬ ((k:Int) < (tn:Int)):=by omega
   have HF:Hid (r=true):=gh (by
    rw [← HE.out,Ixp.idleB,List.all_eq_true]
    intro q hq
    obtain ⟨i,hi,rfl⟩:=List.getElem_of_mem hq
    rw [A.out i _ (by have:=HL.out;omega) (List.getElem?_eq_getElem hi)]
    rfl)
   go_wp2
   go_ret
   exact ⟨by rw [HF.out];rfl,rfl⟩
end
section
open Go.Shelf
attribute [local go_sem] Oper.semAt_some
theorem IxIs.memory {W W':World} {n₀ x mb tb:Nat} {ix:Ixp} {mv mv':Value} {tv lv:Sl} {pz:List Pt} {m':Mst} (h:IxIs W n₀ x ix mb mv tb tv lv pz) (t:Td (Foot mb mv) W W') (hm:DMem W' n₀ mb mv' m') (hok:m'.ok) (hft:∀ k,Foot mb mv' k→Foot mb mv k∨W.heap.size≤k) :
  IxIs W' n₀ x { ix with m:=m' } mb mv' tb tv lv pz:=by
 have ne:∀ {y:Nat} {c:Array Value} {T:TypeId},W.heap[y]? = some (.cells c T)→T≠86→T≠2→¬ Foot mb mv y:=fun hy e1 e2=>foot_apart h.mem hy e1 e2
 have get:∀ {i:Nat} {p1:Pt},pz[i]? = some p1→∃ q1,ix.ts[i]? = some q1:=fun h1=>by
  have:=(List.getElem?_eq_some_iff.1 h1).1
  rw [h.pn] at this
  exact ⟨_,List.getElem?_eq_getElem this⟩
 have nw:∀ {i:Nat} {p:Pt},pz[i]? = some p→∀ g,p.tp.v.ownBlock=some g→¬ Foot mb mv g∧g < W.heap.size:=fun {i p} hp g eg=>by
  obtain ⟨q,hq⟩:=get hp
  obtain ⟨c,hc⟩:=(h.th i q p hq hp).fr.types.2 g eg
  refine ⟨?_,(Array.getElem?_eq_some_iff.1 hc).1⟩
  rintro (e | e)
  ·have:=h.mem.box
   rw [← e,hc] at this
   simp at this
  ·exact h.da i p hp g eg e
 refine ⟨h.le,t.heap h.box (ne h.box (by decide) (by decide)),hm,hok,h.tva,h.tvn,?_,h.pn,fun i q p e1 e2=>?_,h.log.turned t (fun g e=>?_),h.dt,fun i p e1 g eg eg'=>?_,h.bz⟩
 ·obtain ⟨c,h1,h2⟩:=h.row
  exact ⟨c,t.heap h1 (ne h1 (by decide) (by decide)),h2⟩
 ·have th:=h.th i q p e1 e2
  refine ⟨th.le,t.heap th.box (ne th.box (by decide) (by decide)),?_⟩
  rcases th.fr with hn | ⟨f,pp,h1,h2,F⟩
  ·exact .inl hn
  ·refine .inr ⟨f,pp,h1,h2,F.le,t.heap F.box (ne F.box (by decide) (by decide)),F.row.turnedO t (fun g e=>(nw e2 g e).1),F.lst.turned t (fun g e=>?_),F.good,F.i64⟩
   obtain ⟨c,hc⟩:=F.lst.typed g e
   exact ne hc (by decide) (by decide)
 ·obtain ⟨c,hc⟩:=h.log.typed g e
  exact ne hc (by decide) (by decide)
 ·obtain ⟨n1,n2⟩:=nw e1 g eg
  rcases hft g (.inr eg') with h1 | h1
  ·exact n1 h1
  ·omega
variable {S E:TypeId}
theorem wpListIn_append_pairs {F:Fence} {nF:Nat} {w:World} {ops:Array Oper} {rest:List Oper} {o:Oper} {a:Act} {Q:Exit→Act→World→Prop} (pt:PT S E) (hgd:o.guard=none) (s x:Operand) (ho:o.op=.call { callee:=.builtin .append,args:=#[s,x],argTypes:=#[S,S] })
  (base:Nat) (v:Value) (xs zs ys:List (Int × Int)) (hs:a.eval s=v) (hown:PRow w base E v xs) (aw:Option Addr) (M cw:Nat) (hM:zs.length=M) (hx:a.eval x=.slice aw M cw) (hr:PReads w aw zs) (h0:aw=none→cw=0)
  (hl:xs.length+zs.length≤1000000) (hbase:base≤w.heap.size) (hy:ys=xs++zs)
  (h:∀ v' w',PRow w' base E v' ys→w.grownBy w' v.ownBlock→(v'.ownBlock=v.ownBlock∨v'.ownBlock=some w.heap.size)→wpListIn F nF Tryz.prog ops Q rest (a.put o.dst v') w'):wpListIn F nF Tryz.prog ops Q (o :: rest) a w:=by
 obtain ⟨i0,hi,hz0,hz1,hz2⟩:=info_parts pt.info
 have fin:∀ v' w',w'.ownsRow base E 2 v' (xs.length+zs.length) (flat xs++flat zs)→PRow w' base E v' ys:=fun v' w' h1=>by
  rw [hy]
  show World.ownsRow _ _ _ _ _ (xs++zs).length (flat (xs++zs))
  rw [List.length_append,flat_append]
  exact h1
 subst hM
 cases aw with
 | none=>
  have e0:zs=[]:=by
   rcases hr with e | ⟨_,_,e,_⟩
   ·exact e
   ·cases e
  subst e0
  obtain rfl:=h0 rfl
  refine wpListIn_plain hgd fun K hK=>?_
  have hrun:=run_append_owned_none (P:=Tryz.prog) (w:=w) base S o.type E i0 2 pt.under hi v xs.length (flat xs) hown
  unfold Oper.wpIn
  refine ⟨by simp [Oper.about,ho,resolve,Target.leads,Sem.run_pure],?_⟩
  rw [Oper.semAt_plain F _ _ (by rw [ho];intro c hc';cases hc')]
  simp only [execOp,ho,resolve,invoke,builtin,Sem.run_bind,Sem.run_pure,Result.andThen_ok,List.map_toArray,List.map_cons,List.map_nil,hs,hx,List.length_nil,hrun]
  exact hK _ _ (h v w (by rw [hy,List.append_nil];exact hown) (World.grownBy.refl _ _) (.inl rfl))
 | some ad=>
  by_cases e0:zs=[]
  ·subst e0
   exact wpListIn_append_own_at w hgd s x S ho base E i0 _ 2 16 pt.under hi hz0 hz1 hz2 rfl (by decide) v xs.length (flat xs) hs hown ad 0 cw [] hx rfl (by simp) (by simp) (by simp at hl;unfold maxLen;omega) (by simp at hl;omega) hbase (fun v' w' h1 h2 _ h4=>h v' w' (fin v' w' (by simpa [flat] using h1)) h2 h4)
  ·obtain ⟨bl,off,e,hrow⟩:∃ bl off,some ad=some ⟨bl,off,none⟩∧∀ j p,zs[j]? = some p→w.cell? ⟨bl,off+j * 2,none⟩=some (.int .i64 p.1)∧w.cell? ⟨bl,off+(j * 2+1),none⟩=some (.int .i64 p.2):=by
    rcases hr with e | h
    ·exact absurd e e0
    ·exact h
   cases e
   refine wpListIn_append_own_at w hgd s x S ho base E i0 _ 2 16 pt.under hi hz0 hz1 hz2 rfl (by decide) v xs.length (flat xs) hs hown _ zs.length cw (flat zs) hx (flat_length zs) (PReads.news hrow) (flat_one _) (by unfold maxLen;omega) (by omega) hbase ?_
   intro v' w' h1 h2 _ h4
   exact h v' w' (fin v' w' h1) h2 h4
structure Lst (W:World) (a:Option Addr) (ps:List (Int × Int)) (M cap:Nat):Prop where
 reads:PReads W a ps
 len:ps.length=M
 fits:M≤cap
 top:cap≤maxLen
 most:M≤5000
 nil:a=none→cap=0
 ty:ps≠[]→∀ ad,a=some ad→∃ c,W.heap[ad.block]? = some (.cells c 59)
theorem Lst.turned {W W':World} {a:Option Addr} {ps:List (Int × Int)} {M cap:Nat} {R:Nat→Prop} (h:Lst W a ps M cap) (t:Td R W W') (hR:∀ k c,W.heap[k]? = some (.cells c 59)→¬ R k):Lst W' a ps M cap:=by
 by_cases e:ps=[]
 ·exact ⟨.inl e,h.len,h.fits,h.top,h.most,h.nil,fun h'=>absurd e h'⟩
 ·refine ⟨h.reads.turned t (fun k _ ⟨ad,e1,e2⟩=>?_),h.len,h.fits,h.top,h.most,h.nil,fun _ ad e1=>?_⟩
  ·obtain ⟨c,hc⟩:=h.ty e ad e1
   rw [← e2]
   exact hR _ c hc
  ·obtain ⟨c,hc⟩:=h.ty e ad e1
   exact ⟨c,t.heap hc (hR _ c hc)⟩
theorem Lst.kept {W W':World} {a:Option Addr} {ps:List (Int × Int)} {M cap:Nat} (h:Lst W a ps M cap) (t:Kept W W'):Lst W' a ps M cap:=h.turned t (fun _ _ _ e=>e)
theorem Lst.foot {W W':World} {a:Option Addr} {ps:List (Int × Int)} {M cap:Nat} {n₀ mb:Nat} {mv:Value} {m:Mst} (h:Lst W a ps M cap) (hd:DMem W n₀ mb mv m) (t:Td (Foot mb mv) W W'):Lst W' a ps M cap:=h.turned t (fun _ _ hc=>foot_apart hd hc (by decide) (by decide))
theorem mine_foot {W W':World} {n₀ mb:Nat} {mv:Value} {m:Mst} (hd:DMem W n₀ mb mv m) (t:Td (Foot mb mv) W W'):Td (Mine W n₀) W W':=t.mono (fun k _ e=>by
 obtain ⟨c,hc | hc⟩:=hd.types k e
 ·exact Mine.of (hd.lt k e).1 hc (by decide)
 ·exact Mine.of (hd.lt k e).1 hc (by decide))
set_option maxRecDepth 100000 in
set_option maxHeartbeats 4000000 in
theorem load_r (W:World) (n₀ x mb tb:Nat) (ix:Ixp) (mv:Value) (tv lv:Sl) (pz:List Pt) (h:IxIs W n₀ x ix mb mv tb tv lv pz) (hn:n₀≤W.heap.size) (hN:ix.ts.length≤100000) (hlog:ix.logn≤800000) (a:Option Addr) (ps:List (Int × Int)) (M cap:Nat) (hl:Lst W a ps M cap) (hp:Fit.PF ps) (r:Int) (ix':Ixp) (he:ix.loadZ ps=(r,ix')) :
  Calls Tryz.prog 102 #[.pointer (some ⟨x,0,none⟩),.slice a M cap] W fun e W'=>e=.returned (.int .i64 r)∧(∃ mv' lv',IxIs W' n₀ x ix' mb mv' tb tv lv' pz)∧Td (Mine W n₀) W W':=by
 unfold Ixp.loadZ at he
 obtain ⟨b1,hb1⟩:∃ b,ix.idleB=b:=⟨_,rfl⟩
 rw [hb1] at he
 have H:=gh h
 have HB1:=gh hb1
 have HN:=gh hn
 have HT:=gh hN
 have HL:=gh hl
 have HP:=gh hp
 have HLOG:=gh hlog
 cases b1 with
 | false=>
  rw [if_pos rfl] at he
  obtain ⟨rfl,rfl⟩:=Prod.mk.inj he
  clear h hn hN hlog hl hp he hb1
  go_enter Tryz.func102,Tryz.ntmps102
  go_wp2_with (fail)
  refine (idle_r W n₀ x mb tb ix mv tv lv pz H.out HT.out false HB1.out).mono ?_
  rintro e w' ⟨rfl,rfl⟩
  go_wp2
  go_ret
  exact ⟨rfl,⟨mv,lv,H.out⟩,Td.refl _ _⟩
 | true=>
  rw [if_neg (by decide)] at he
  obtain ⟨b2,hb2⟩:∃ b,ascB ps=b:=⟨_,rfl⟩
  rw [hb2] at he
  have HB2:=gh hb2
  cases b2 with
  | false=>
   rw [if_pos rfl] at he
   obtain ⟨rfl,rfl⟩:=Prod.mk.inj he
   clear h hn hN hlog hl hp he hb1 hb2
   go_enter Tryz.func102,Tryz.ntmps102
   go_wp2_with (fail)
   refine (idle_r W n₀ x mb tb ix mv tv lv pz H.out HT.out true HB1.out).mono ?_
   rintro e w' ⟨rfl,rfl⟩
   go_wp2_with (fail)
   refine (asc_d W a ps M cap HL.out.reads HL.out.len HL.out.fits HL.out.most false HB2.out).mono ?_
   rintro e W2 ⟨rfl,k2⟩
   have K2:=gh k2
   clear k2
   go_wp2
   go_ret
   exact ⟨rfl,⟨mv,lv,H.out.kept K2.out⟩,K2.out.mono (fun _ _ e=>e.elim)⟩
  | true=>
   rw [if_neg (by decide)] at he
   obtain ⟨L,hL⟩:∃ L,leavesL ix.m=L:=⟨_,rfl⟩
   rw [hL] at he
   have HLV:=gh hL
   obtain ⟨n,hnL⟩:∃ n,L.length=n:=⟨_,rfl⟩
   rw [hnL] at he
   have HNL:=gh hnL
   have d1:∀ V:World,Kept W V→V.cell? ⟨x,3,none⟩=some (.pointer (some ⟨mb,0,none⟩)):=fun _ k=>(H.out.kept k).cells.1.1
   by_cases h0:0 < n
   ·rw [if_pos h0] at he
    obtain ⟨rfl,rfl⟩:=Prod.mk.inj he
    have i0:(0:Int) < (n:Int):=by omega
    have D1:=gh d1
    clear h hn hN hlog hl hp he hb1 hb2 hL hnL h0 d1
    go_enter Tryz.func102,Tryz.ntmps102
    go_wp2_with (fail)
    refine (idle_r W n₀ x mb tb ix mv tv lv pz H.out HT.out true HB1.out).mono ?_
    rintro e w' ⟨rfl,rfl⟩
    go_wp2_with (fail)
    refine (asc_d W a ps M cap HL.out.reads HL.out.len HL.out.fits HL.out.most true HB2.out).mono ?_
    rintro e W2 ⟨rfl,k2⟩
    have K2:=gh k2
    have e1:=D1.out _ K2.out
    clear k2
    go_wp2_with (fail)
    refine (leaves_d W2 mb ix.m ⟨n₀,mv,ix.m,rfl,(H.out.kept K2.out).mem⟩ H.out.mok L HLV.out).mono ?_
    rintro e W3 ⟨v3,rfl,hr3,k3⟩
    obtain ⟨a3,c3,hv3,_⟩:=hr3.reads
    rw [HNL.out] at hv3
    subst hv3
    have K3:=gh (K2.out.trans k3)
    clear hr3 k3 e1
    go_wp2
    go_ret
    exact ⟨rfl,⟨mv,lv,H.out.kept K3.out⟩,K3.out.mono (fun _ _ e=>e.elim)⟩
   ·rw [if_neg h0] at he
    have i0:¬ ((0:Int) < (n:Int)):=by omega
    obtain ⟨z,q,m1,hz⟩:∃ z q m1,buildS ix.m ps=((z,q),m1):=⟨_,_,_,rfl⟩
    have hbk:=buildS_ok h.mok h.mem.top hp (by have:=hl.len;have:=hl.most;omega)
    rw [hz] at he hbk
    dsimp only at he hbk
    have HZ:=gh hz
    have HBK:=gh hbk
    have D1:=gh d1
    have HA:Hid (∀ V,Kept W V→ps≠[]→∀ ad,a=some ad→¬ Foot mb mv ad.block):=gh (fun V k e ad e1=>by
     obtain ⟨c,hc⟩:=hl.ty e ad e1
     exact foot_apart h.mem hc (by decide) (by decide))
    clear h hn hN hlog hl hp hb1 hb2 hL hnL h0 d1 hz hbk
    cases q with
    | false=>
     rw [if_pos rfl] at he
     obtain ⟨rfl,rfl⟩:=Prod.mk.inj he
     clear he
     go_enter Tryz.func102,Tryz.ntmps102
     go_wp2_with (fail)
     refine (idle_r W n₀ x mb tb ix mv tv lv pz H.out HT.out true HB1.out).mono ?_
     rintro e w' ⟨rfl,rfl⟩
     go_wp2_with (fail)
     refine (asc_d W a ps M cap HL.out.reads HL.out.len HL.out.fits HL.out.most true HB2.out).mono ?_
     rintro e W2 ⟨rfl,k2⟩
     have K2:=gh k2
     have e1:=D1.out _ K2.out
     clear k2
     go_wp2_with (fail)
     refine (leaves_d W2 mb ix.m ⟨n₀,mv,ix.m,rfl,(H.out.kept K2.out).mem⟩ H.out.mok L HLV.out).mono ?_
     rintro e W3 ⟨v3,rfl,hr3,k3⟩
     obtain ⟨a3,c3,hv3,_⟩:=hr3.reads
     rw [HNL.out] at hv3
     subst hv3
     have K3:=gh (K2.out.trans k3)
     have e2:=D1.out _ K3.out
     clear hr3 k3 e1
     go_wp2_with (fail)
     refine (buildA_d W3 n₀ mb mv ix.m a ps M cap (H.out.kept K3.out).mem (Nat.le_trans HN.out K3.out.size) (HL.out.kept K3.out).reads HL.out.len HL.out.fits HL.out.top HL.out.most (HA.out W3 K3.out) z false m1 HZ.out).mono ?_
     rintro e W4 ⟨rfl,mv4,m4,t4,f4⟩
     have I4:=gh ((H.out.kept K3.out).memory t4 m4 HBK.out.1.1 f4)
     have T4:Hid (Td (Mine W n₀) W W4):=gh (Td.mine_kept K3.out (mine_foot (H.out.kept K3.out).mem t4))
     clear m4 t4 f4 e2
     go_wp2
     go_ret
     exact ⟨rfl,⟨mv4,lv,I4.out⟩,T4.out⟩
    | true=>
     rw [if_neg (by decide)] at he
     obtain ⟨rfl,rfl⟩:=Prod.mk.inj he
     clear he
     go_enter Tryz.func102,Tryz.ntmps102
     go_wp2_with (fail)
     refine (idle_r W n₀ x mb tb ix mv tv lv pz H.out HT.out true HB1.out).mono ?_
     rintro e w' ⟨rfl,rfl⟩
     go_wp2_with (fail)
     refine (asc_d W a ps M cap HL.out.reads HL.out.len HL.out.fits HL.out.most true HB2.out).mono ?_
     rintro e W2 ⟨rfl,k2⟩
     have K2:=gh k2
     have e1:=D1.out _ K2.out
     clear k2
     go_wp2_with (fail)
     refine (leaves_d W2 mb ix.m ⟨n₀,mv,ix.m,rfl,(H.out.kept K2.out).mem⟩ H.out.mok L HLV.out).mono ?_
     rintro e W3 ⟨v3,rfl,hr3,k3⟩
     obtain ⟨a3,c3,hv3,_⟩:=hr3.reads
     rw [HNL.out] at hv3
     subst hv3
     have K3:=gh (K2.out.trans k3)
     have e2:=D1.out _ K3.out
     clear hr3 k3 e1
     go_wp2_with (fail)
     refine (buildA_d W3 n₀ mb mv ix.m a ps M cap (H.out.kept K3.out).mem (Nat.le_trans HN.out K3.out.size) (HL.out.kept K3.out).reads HL.out.len HL.out.fits HL.out.top HL.out.most (HA.out W3 K3.out) z true m1 HZ.out).mono ?_
     rintro e W4 ⟨rfl,mv4,m4,t4,f4⟩
     have I4:=gh ((H.out.kept K3.out).memory t4 m4 HBK.out.1.1 f4)
     have T4:Hid (Td (Mine W n₀) W W4):=gh (Td.mine_kept K3.out (mine_foot (H.out.kept K3.out).mem t4))
     have L4:Hid (Lst W4 a ps M cap):=gh ((HL.out.kept K3.out).foot (H.out.kept K3.out).mem t4)
     have e3:=I4.out.cells.1.1
     clear m4 t4 f4 e2
     go_wp2_with (fail)
     refine (write_d W4 n₀ mb mv4 m1 6 z I4.out.mem).mono ?_
     rintro e W5 ⟨rfl,m5,t5⟩
     have I5:=gh (I4.out.memory t5 m5 (Mst.write_ok HBK.out.1.1 6 HBK.out.2) (fun _ e=>.inl e))
     have T5:Hid (Td (Mine W n₀) W W5):=gh (T4.out.mine_trans (mine_foot I4.out.mem t5))
     have L5:Hid (Lst W5 a ps M cap):=gh (L4.out.foot I4.out.mem t5)
     clear m5 t5 e3 I4 T4 L4 HA D1 HL
     obtain ⟨V8,hV8⟩:∃ V8,W5.drew=V8:=⟨_,rfl⟩
     have k8:Kept W5 V8:=by rw [← hV8];exact Kept.drew _
     have I8:=gh (I5.out.kept k8)
     have L8:=gh (L5.out.kept k8)
     have T8:Hid (Td (Mine W n₀) W V8):=gh (T5.out.trans k8 (fun _ e=>e) (fun _ _ e=>e.elim))
     have HV8:=gh hV8
     obtain ⟨⟨_,_,e5,_,e7⟩,_⟩:=I8.out.cells
     have ne:∀ {y:Nat} {c:Array Value} {T:TypeId},V8.heap[y]? = some (.cells c T)→T≠166→¬ lv.v.ownBlock=some y:=fun hy e1 e2=>by
      obtain ⟨c',hc⟩:=I8.out.log.typed _ e2
      rw [hy] at hc
      simp at hc
      exact e1 hc.2
     have z5:∀ u:Wd (fun U=>Td (fun k=>lv.v.ownBlock=some k) V8 U),u.w.cell? ⟨x,5,none⟩=some (.slice lv.a lv.n lv.c):=fun u=>u.ok.cell e5 (ne I8.out.box (by decide))
     have z7:∀ u:Wd (fun U=>Td (fun k=>lv.v.ownBlock=some k) V8 U),u.w.cell? ⟨x,7,none⟩=some (.int .i64 ix.picks):=fun u=>u.ok.cell e7 (ne I8.out.box (by decide))
     have NX:=gh (ne I8.out.box (by decide))
     clear I5 L5 T5 hV8 k8 e5 e7 ne
     go_wp2_with (fail)
     refine region_last [0,1,2,3,4,6,9,10,11,12,5,7,8,13,14,15,16,17] 18 (fun U=>Td (fun k=>lv.v.ownBlock=some k) V8 U) (by kernel_rfl) (by kernel_rfl) (by rw [HV8.out];exact Td.refl _ _) (fun _=>?_)
     rw [HV8.out]
     repeat (refine lq rfl rfl ?_;go_big_quiet_step (fail);refine wpQuiet_nil ?_)
     refine ll rfl rfl ?_
     gi_wp2
     refine ⟨Wd.mem (Td.alloc _ _ _),?_⟩
     refine ll rfl rfl ?_
     gi_wp2_with (gi_at_builtin;refine Stop.out ?_)
     refine ⟨?_⟩
     have kE:Kept V8 (V8.alloc (.cells #[] 59)):=Td.alloc _ _ _
     refine wpListIn_append_pairs ptP rfl _ _ rfl V8.heap.size _ [] ps ps rfl (⟨rfl,.inr ⟨V8.heap.size,0,#[],rfl,Nat.le_refl _,heap_new V8 _,Nat.le_refl _,Nat.zero_le _,rfl,rfl⟩⟩:PRow _ V8.heap.size 59 (.slice (some ⟨V8.heap.size,0,none⟩) 0 0) []) a M cap L8.out.len rfl (L8.out.kept kE).reads L8.out.nil (by have:=L8.out.len;have:=L8.out.most;simp;omega) kE.size rfl ?_
     rintro vp A1 hrow hgrow -
     have KA:Hid (Kept V8 A1):=gh (kE.own (fun i e=>e) (Td.of_grownBy (R:=fun k=>V8.heap.size≤k) hgrow (fun k e=>by cases e;exact Nat.le_refl _)))
     obtain ⟨ap,cp,rfl,_⟩:=hrow.reads
     clear hrow hgrow kE
     gi_wp2
     refine ⟨Wd.mem (KA.out.mono (fun _ _ e=>e.elim)),?_⟩
     simp only [Act.put,List.setIfInBounds_toArray,List.set_cons_succ,List.set_cons_zero]
     repeat (refine lq rfl rfl ?_;go_big_quiet_step (fail);refine wpQuiet_nil ?_)
     refine ll rfl rfl ?_
     gi_wp2
     refine ⟨Wd.mem ((KA.out.alloc _).mono (fun _ _ e=>e.elim)),?_⟩
     refine ll rfl rfl ?_
     gi_wp2_with (gi_at_builtin;refine Stop.out ?_)
     refine ⟨?_⟩
     refine wpListIn_append_ev rfl _ _ rfl n₀ lv.v ix.logn rfl (I8.out.log.turned (KA.out.alloc _) (fun _ _ e=>e)) A1.heap.size _ rfl (heap_new _ _) rfl (by simp [Value.oneCell']) (by have:=HLOG.out;omega) (by have:=T8.out.size;have:=KA.out.size;have:=HN.out;simp;omega) ?_
     rintro v9 A2 hlog9 ⟨la9,lc9,rfl⟩ hgrow hat
     have TA:Hid (Td (fun k=>lv.v.ownBlock=some k) V8 A2):=gh ((KA.out.alloc _).then (Td.of_grownBy (R:=fun k=>lv.v.ownBlock=some k) hgrow (fun _ h=>h)))
     have bxA:=TA.out.heap I8.out.box NX.out
     have cA:A2.cell? ⟨x,5,none⟩=some (.slice lv.a lv.n lv.c):=by simp [World.cell?,bxA,Ixp.cs]
     have gA:A2.frozen? ⟨x,5,none⟩=false:=by simp [World.frozen?,bxA]
     obtain ⟨A3,hA3⟩:∃ A3,A2.setCell ⟨x,5,none⟩ (.slice la9 (ix.logn+1) lc9)=A3:=⟨_,rfl⟩
     have tA3:Td (fun k=>k=x) A2 A3:=by rw [← hA3];exact Td.setCell (R:=fun k=>k=x) _ _ _ rfl
     have TX:Td (fun k=>k=x∨lv.v.ownBlock=some k) V8 A3:=TA.out.trans tA3 (fun _ e=>.inr e) (fun _ _ e=>.inl e)
     have IXE:Hid (IxIs A3 n₀ x { ix with m:=m1.write 6 z,logn:=ix.logn+1 } mb mv4 tb tv ⟨la9,ix.logn+1,lc9⟩ pz):=gh (by
      refine I8.out.boxed (ix':={ ix with m:=m1.write 6 z,logn:=ix.logn+1 }) TX ?_ rfl rfl (hlog9.turned tA3 (fun g e e'=>?_))
      ·rw [← hA3]
       simp [World.setCell,Array.getElem?_modify,bxA,Ixp.cs]
      ·obtain ⟨c,hc⟩:=hlog9.typed g e
       rw [e',bxA] at hc
       simp at hc)
     have TE:Hid (Td (Mine W n₀) W A3):=gh (T8.out.mine_trans (TX.mono (fun k _ e=>by
      rcases e with e | e
      ·rw [e];exact I8.out.mines.box
      ·exact I8.out.mines.log k e)))
     have HA3:=gh hA3
     clear hlog9 hgrow hat hA3 tA3 bxA TX
     gi_wp2
     refine ⟨Wd.mem TA.out,?_⟩
     simp only [Act.put,List.setIfInBounds_toArray,List.set_cons_succ,List.set_cons_zero]
     repeat (refine lq rfl rfl ?_;go_big_quiet_step (fail);refine wpQuiet_nil ?_)
     refine lz rfl ?_
     gi_wp2
     refine last_done ?_
     rw [HA3.out]
     clear z5 z7 cA gA
     go_wp2
     go_ret
     exact ⟨rfl,⟨_,_,IXE.out⟩,TE.out⟩
end
namespace Mp
variable {α β:Type}
def ltI:Int→Int→Bool:=fun a b=>decide (a < b)
variable (lt:α→α→Bool)
def put:List (α × β)→α→β→List (α × β)
 | [],k,v=>[(k,v)]
 | x :: l,k,v=>if lt k x.1 then (k,v) :: x :: l else if lt x.1 k then x :: put l k v else (k,v) :: l
variable {lt}
theorem mem_put {xs:List (α × β)} {k:α} {v:β} {y:α × β} (h:y ∈ put lt xs k v):y=(k,v)∨y ∈ xs:=by
 induction xs with
 | nil=>simpa [put] using h
 | cons x xs ih=>
  unfold put at h
  split at h
  ·simpa using h
  ·split at h
   ·rcases List.mem_cons.1 h with rfl | h
    ·exact .inr (List.mem_cons_self ..)
    ·exact (ih h).imp id (List.mem_cons_of_mem _)
   ·rcases List.mem_cons.1 h with rfl | h
    ·exact .inl rfl
    ·exact .inr (List.mem_cons_of_mem _ h)
theorem length_put_le {xs:List (α × β)} {k:α} {v:β}:(put lt xs k v).length≤xs.length+1:=by
 induction xs with
 | nil=>simp [put]
 | cons x xs ih=>
  unfold put
  split
  ·simp
  ·split
   ·simp only [List.length_cons];omega
   ·simp
end Mp
namespace Mp
variable {β:Type}
theorem ltI_true {a b:Int}:ltI a b=true↔a < b:=by simp [ltI]
end Mp
namespace Mp
def place (xs:List (Int × Int)) (k:Int):Nat:=(xs.takeWhile fun p=>decide (p.1 < k)).length
theorem place_nil (k:Int):place [] k=0:=rfl
theorem place_cons (x:Int × Int) (xs:List (Int × Int)) (k:Int):place (x :: xs) k=if x.1 < k then place xs k+1 else 0:=by
 unfold place
 by_cases h:x.1 < k <;> simp [h]
theorem place_le:(xs:List (Int × Int))→(k:Int)→place xs k≤xs.length
 | [],_=>Nat.le_refl _
 | x :: xs,k=>by
  have:=place_le xs k
  rw [place_cons]
  simp only [List.length_cons]
  split <;> omega
theorem place_below:{xs:List (Int × Int)}→{k:Int}→{j:Nat}→{p:Int × Int}→j < place xs k→xs[j]? = some p→p.1 < k
 | [],_,_,_,h,_=>by simp [place_nil] at h
 | x :: xs,k,j,p,h,hp=>by
  rw [place_cons] at h
  split at h
  ·rename_i hx
   cases j with
   | zero=>
    obtain rfl:x=p:=by simpa using hp
    exact hx
   | succ j=>exact place_below (xs:=xs) (j:=j) (by omega) (by simpa using hp)
  ·omega
theorem place_stop:{xs:List (Int × Int)}→{k:Int}→{p:Int × Int}→xs[place xs k]? = some p→k≤p.1
 | [],_,_,h=>by simp at h
 | x :: xs,k,p,h=>by
  rw [place_cons] at h
  split at h
  ·exact place_stop (xs:=xs) (by simpa using h)
  ·obtain rfl:x=p:=by simpa using h
   omega
def hit (xs:List (Int × Int)) (k:Int):Bool:=match xs[place xs k]? with | some p=>p.1 == k | none=>false
theorem put_place:(xs:List (Int × Int))→(k v:Int)→put ltI xs k v=xs.take (place xs k)++(k,v) :: xs.drop (if hit xs k then place xs k+1 else place xs k)
 | [],k,v=>by simp [put,place_nil]
 | x :: xs,k,v=>by
  have ih:=put_place xs k v
  unfold put
  by_cases h1:k < x.1
  ·have hp:place (x :: xs) k=0:=by rw [place_cons,if_neg (by omega)]
   have e:hit (x :: xs) k=false:=by
    simp only [hit,hp,List.getElem?_cons_zero,beq_eq_false_iff_ne,ne_eq]
    omega
   rw [if_pos (ltI_true.2 h1),e,hp]
   rfl
  ·rw [if_neg (by rw [ltI_true];exact h1)]
   by_cases h2:x.1 < k
   ·have hp:place (x :: xs) k=place xs k+1:=by rw [place_cons,if_pos h2]
    have e:hit (x :: xs) k=hit xs k:=by simp only [hit,hp,List.getElem?_cons_succ]
    rw [if_pos (ltI_true.2 h2),ih,e,hp]
    cases hit xs k <;> simp
   ·have hp:place (x :: xs) k=0:=by rw [place_cons,if_neg h2]
    have e:hit (x :: xs) k=true:=by
     simp only [hit,hp,List.getElem?_cons_zero,beq_iff_eq]
     omega
    rw [if_neg (by rw [ltI_true];exact h2),e,hp]
    simp
end Mp
namespace Mp
def PReads (w:World) (a:Option Addr) (xs:List (Int × Int)):Prop:=
 xs=[]∨∃ bl,a=some ⟨bl,0,none⟩∧∀ j p,xs[j]? = some p→w.cell? ⟨bl,j * 2,none⟩=some (.int .i64 p.1)∧w.cell? ⟨bl,j * 2+1,none⟩=some (.int .i64 p.2)
theorem PReads.turned {w w':World} {a:Option Addr} {xs:List (Int × Int)} (h:PReads w a xs) {R:Nat→Prop} (ht:Td R w w') (hR:∀ k,(Value.slice a 0 0).ownBlock=some k→¬ R k):PReads w' a xs:=by
 rcases h with h | ⟨bl,rfl,h⟩
 ·exact .inl h
 ·refine .inr ⟨bl,rfl,fun j p hp=>?_⟩
  have hn:=hR bl rfl
  exact ⟨ht.cell (h j p hp).1 hn,ht.cell (h j p hp).2 hn⟩
theorem PReads.kept {w w':World} {a:Option Addr} {xs:List (Int × Int)} (h:PReads w a xs) (ht:Kept w w'):PReads w' a xs:=h.turned ht (fun _ _ e=>e)
theorem PReads.at {w:World} {a:Option Addr} {xs:List (Int × Int)} (h:PReads w a xs) {j:Nat} {p:Int × Int} (hp:xs[j]? = some p):∃ bl,a=some ⟨bl,0,none⟩∧bl < w.heap.size∧w.cell? ⟨bl,j * 2,none⟩=some (.int .i64 p.1)∧w.cell? ⟨bl,j * 2+1,none⟩=some (.int .i64 p.2):=by
 rcases h with h | ⟨bl,ha,hc⟩
 ·rw [h] at hp
  simp at hp
 ·exact ⟨bl,ha,World.block_lt_of_cell? _ _ (hc j p hp).1,hc j p hp⟩
theorem preads_of_row {w:World} {n₀:Nat} {v:Value} {xs:List (Int × Int)} (h:w.ownsRow n₀ 59 2 v xs.length (flat xs)):∃ a cap,v=.slice a xs.length cap∧PReads w a xs∧xs.length≤cap:=by
 rcases h.2 with ⟨rfl,h0⟩ | ⟨g,cap,cur,rfl,_,_,hc,_⟩
 ·obtain rfl:=List.length_eq_zero_iff.1 h0
  exact ⟨none,0,rfl,.inl rfl,Nat.le_refl _⟩
 ·refine ⟨_,cap,rfl,.inr ⟨g,rfl,fun j p hp=>?_⟩,hc⟩
  have hj:=(List.getElem?_eq_some_iff.1 hp).1
  rw [h.cellAt (j * 2) (by omega),h.cellAt (j * 2+1) (by omega)]
  exact flat_at hp
theorem info47:(Tryz.prog.info? 59).map (fun i=>(i.zero,i.size,i.bytes))=some (some (.agg #[.int .i64 0,.int .i64 0]),2,16):=by kernel_rfl
theorem kept_append {w wr w1:World} {v:Value} {xs:List (Int × Int)} {tmp:Obj} (k:Kept w wr) (hr:wr.ownsRow w.heap.size 59 2 v xs.length (flat xs)) (hg:(wr.alloc tmp).grownBy w1 v.ownBlock):Kept w w1:=
 Td.trans (k.trans (Td.alloc _ _ tmp)) (Td.of_grownBy (R:=fun j=>v.ownBlock=some j) hg (fun _ h=>h)) (fun _ h=>h) (fun i hi h=>by have:=(hr.lt i h).1;omega)
theorem kept_append0 {w wr w1:World} {v:Value} {xs:List (Int × Int)} (k:Kept w wr) (hr:wr.ownsRow w.heap.size 59 2 v xs.length (flat xs)) (hg:wr.grownBy w1 v.ownBlock):Kept w w1:=
 Td.trans k (Td.of_grownBy (R:=fun j=>v.ownBlock=some j) hg (fun _ h=>h)) (fun _ h=>h) (fun i hi h=>by have:=(hr.lt i h).1;omega)
theorem two_newR (w:World) (x y:Int):∀ (j:Nat) (u:Value),[Value.int .i64 x,.int .i64 y][j]? = some u→(w.alloc (.cells #[.int .i64 x,.int .i64 y] 59)).cell? ((⟨w.heap.size,0,none⟩:Addr).add j)=some u:=by
 intro j u h
 have hb:(w.alloc (.cells #[.int .i64 x,.int .i64 y] 59)).heap[w.heap.size]? = some (.cells #[.int .i64 x,.int .i64 y] 59):=heap_new w _
 have c:∀ i,(w.alloc (.cells #[.int .i64 x,.int .i64 y] 59)).cell? ⟨w.heap.size,i,none⟩=#[Value.int .i64 x,.int .i64 y][i]?:=fun i=>by
  unfold World.cell?
  rw [hb]
  rfl
 rcases j with _ | _ | j
 ·simp at h
  subst h
  exact c 0
 ·simp at h
  subst h
  exact c 1
 ·simp at h
def PSliced (xs:List (Int × Int)) (w:World) (e:Ending) (w':World):Prop:=∃ v,e=.returned v∧w'.ownsRow w.heap.size 59 2 v xs.length (flat xs)∧Kept w w'
theorem wpList_append_none {P:Program} {w:World} {ops:Array Oper} {rest:List Oper} {o:Oper} {a:Act} {Q:Exit→Act→World→Prop} (hgd:o.guard=none) (s x:Operand) (t:TypeId)
  (ho:o.op=.call { callee:=.builtin .append,args:=#[s,x],argTypes:=#[t,t] })
  (base:Nat) (e:TypeId) (i:TypeInfo) (size:Nat) (ht:P.underlying t=some (.slice e)) (hi:P.info? e=some i)
  (v:Value) (n:Nat) (xs:List Value) (hs:a.eval s=v) (hown:w.ownsRow base e size v n xs) (hx:a.eval x=.slice none 0 0)
  (h:wpList P ops Q rest (a.put o.dst v) w):wpList P ops Q (o :: rest) a w:=by
 refine wpList_plain hgd fun K hK=>?_
 have hr:=run_append_owned_none (P:=P) (w:=w) base t o.type e i size ht hi v n xs hown
 unfold Oper.wp execOp
 simp only [ho,resolve,invoke,builtin,Sem.run_bind,Sem.run_pure,Result.andThen_ok,List.map_toArray,List.map_cons,List.map_nil,hs,hx,hr]
 exact hK _ _ h
theorem prow_new (w:World):(w.alloc (.cells #[] 59)).ownsRow w.heap.size 59 2 (.slice (some ⟨w.heap.size,0,none⟩) 0 0) ([]:List (Int × Int)).length (flat []):=
 ⟨rfl,.inr ⟨w.heap.size,0,#[],rfl,Nat.le_refl _,heap_new w _,Nat.le_refl _,Nat.zero_le _,rfl,rfl⟩⟩
theorem src_cells {w w':World} {n₀ g cap:Nat} {xs:List (Int × Int)} (h:w.ownsRow n₀ 59 2 (.slice (some ⟨g,0,none⟩) xs.length cap) xs.length (flat xs)) (k:Kept w w') (q m:Nat) :
  ∀ (j:Nat) (u:Value),(flat ((xs.drop q).take m))[j]? = some u→w'.cell? ((⟨g,q * 2,none⟩:Addr).add j)=some u:=by
 intro j u hu
 have hq:q≤xs.length:=by
  by_cases hq:q≤xs.length
  ·exact hq
  ·rw [List.drop_eq_nil_of_le (by omega)] at hu
   simp [flat] at hu
 have e:flat xs=flat (xs.take q)++(flat ((xs.drop q).take m)++flat ((xs.drop q).drop m)):=by
  rw [← flat_append,List.take_append_drop,← flat_append,List.take_append_drop]
 have hj:=(List.getElem?_eq_some_iff.1 hu).1
 have l1:(flat (xs.take q)).length=q * 2:=by rw [flat_length,List.length_take];congr 1;omega
 have hx:(flat xs)[q * 2+j]? = some u:=by
  rw [e,List.getElem?_append_right (by omega),l1,Nat.add_sub_cancel_left,List.getElem?_append_left hj]
  exact hu
 have hlt:q * 2+j < xs.length * 2:=by
  have:=(List.getElem?_eq_some_iff.1 hx).1
  rwa [flat_length] at this
 have hc:=h.cellAt (q * 2+j) hlt
 rw [hx] at hc
 rw [Go.WideShapes.add_plain]
 exact k.cell hc id
set_option maxRecDepth 100000 in
theorem place_c (w:World) (a:Option Addr) (xs:List (Int × Int)) (cap:Nat) (k:Int) (hr:PReads w a xs) (hc:xs.length≤cap) (hl:xs.length≤5000) :
  Calls Tryz.prog 182 #[.slice a xs.length cap,.int .i64 k] w fun e w'=>e=.returned (.int .i64 (place xs k:Int))∧w=w':=by
 have HR:=gh hr
 have hpl:=place_le xs k
 clear hr
 go_enter Tryz.func182,Tryz.ntmps182
 go_wp2
 go_loopw [5] (fun i wr=>∃ n:Nat,n≤place xs k∧i=.int .i64 n∧w=wr) (fun i _=>xs.length - (intOf i).toNat)
 case atStart=>exact ⟨0,Nat.zero_le _,rfl,rfl⟩
 case round=>
  obtain ⟨n,hn,rfl,rfl⟩:=hrel
  by_cases hlt:n < xs.length
  ·obtain ⟨⟨x,xv⟩,hp⟩:∃ p,xs[n]? = some p:=⟨_,List.getElem?_eq_getElem hlt⟩
   obtain ⟨bl,rfl,_,g1,_⟩:=HR.out.at hp
   simp only at g1
   have i3:n < cap:=by omega
   by_cases hnp:n < place xs k
   ·have hx:x < k:=place_below hnp hp
    clear hp
    go_wp2
    exact ⟨⟨n+1,by omega,by simp,trivial⟩,by simp [intOf];omega⟩
   ·have e:n=place xs k:=by omega
    have hx:k≤x:=by
     rw [e] at hp
     exact place_stop hp
    have E:=gh e
    clear hp e hnp
    go_wp2
    go_ret
    exact ⟨by rw [← E.out];rfl,rfl⟩
  ·have E:Hid (n=place xs k):=gh (by omega)
   go_wp2
   go_ret
   exact ⟨by rw [← E.out];rfl,rfl⟩
theorem hit_true {xs:List (Int × Int)} {k:Int} (h:hit xs k=true):∃ v,xs[place xs k]? = some (k,v)∧place xs k < xs.length:=by
 unfold hit at h
 cases hp:xs[place xs k]? with
 | none=>simp [hp] at h
 | some p=>
  simp [hp] at h
  exact ⟨p.2,by rw [← h],(List.getElem?_eq_some_iff.1 hp).1⟩
theorem hit_false {xs:List (Int × Int)} {k:Int} (h:hit xs k=false):xs.length=place xs k∨∃ x v,xs[place xs k]? = some (x,v)∧place xs k < xs.length∧x≠k:=by
 have hl:=place_le xs k
 cases hp:xs[place xs k]? with
 | none=>
  rw [List.getElem?_eq_none_iff] at hp
  exact .inl (by omega)
 | some p=>
  unfold hit at h
  simp [hp] at h
  exact .inr ⟨p.1,p.2,rfl,(List.getElem?_eq_some_iff.1 hp).1,h⟩
theorem preads_of_own {w:World} {n₀ g cap:Nat} {xs:List (Int × Int)} (h:w.ownsRow n₀ 59 2 (.slice (some ⟨g,0,none⟩) xs.length cap) xs.length (flat xs)):PReads w (some ⟨g,0,none⟩) xs:=by
 obtain ⟨a,c,e,hp,_⟩:=preads_of_row h
 cases e
 exact hp
set_option maxRecDepth 100000 in
set_option maxHeartbeats 1000000 in
theorem refPut_c (w:World) (n₀:Nat) (v:Value) (xs:List (Int × Int)) (k u:Int) (hv:w.ownsRow n₀ 59 2 v xs.length (flat xs)) (hl:xs.length≤5000) :
  Calls Tryz.prog 146 #[v,.int .i64 k,.int .i64 u] w (PSliced (put ltI xs k u) w):=by
 obtain ⟨y0,hi',hz0,hz1,hz2⟩:=info_parts info47
 have hpp:=put_place xs k u
 have r0:=prow_new w
 rcases hv.2 with ⟨rfl,h0⟩ | ⟨g,cap,cur,rfl,hg0,_,hcap,hmx,_⟩
 ·obtain rfl:=List.length_eq_zero_iff.1 h0
  have HP:Hid (Calls Tryz.prog 182 #[.slice none 0 0,.int .i64 k] w fun e w'=>e=.returned (.int .i64 0)∧w=w'):=gh (place_c w none [] 0 k (.inl rfl) (Nat.le_refl _) (by simp))
  clear hv hpp h0
  go_enter Tryz.func146,Tryz.ntmps146
  go_wp2_with (fail)
  refine HP.out.mono ?_
  rintro e w' ⟨rfl,rfl⟩
  go_wp2_with (at_builtin;refine Stop.out ?_)
  refine ⟨?_⟩
  refine wpList_append_none rfl _ _ 44 rfl w.heap.size 59 y0 2 Tryz.underlying44 hi' _ _ _ rfl r0 rfl ?_
  go_wp2_with (at_builtin;refine Stop.out ?_)
  refine ⟨?_⟩
  refine wpList_append_own_at _ rfl _ _ 44 rfl w.heap.size 59 y0 (.agg #[.int .i64 0,.int .i64 0]) 2 16 Tryz.underlying44 hi' hz0 hz1 hz2 rfl (by decide) _ _ _ rfl (r0.alloc (.cells #[.int .i64 k,.int .i64 u] 59)) ⟨w.heap.size+1,0,none⟩ 1 1 [.int .i64 k,.int .i64 u] rfl rfl (by have:=two_newR (w.alloc (.cells #[] 59)) k u;rwa [World.size_alloc] at this) (by simp [Value.oneCell']) (by decide) (by decide) (by rw [World.size_alloc,World.size_alloc];omega) ?_
  intro v2 w2 hown2 hg2 hni _
  clear hni
  have K2:=gh (kept_append (xs:=[]) (show Kept w (w.alloc (.cells #[] 59)) from Td.alloc _ _ _) r0 hg2)
  clear hg2 r0
  go_wp2_with (at_builtin;refine Stop.out ?_)
  refine ⟨?_⟩
  refine wpList_append_none rfl _ _ 44 rfl w.heap.size 59 y0 2 Tryz.underlying44 hi' _ _ _ rfl hown2 rfl ?_
  go_wp2
  go_ret
  exact ⟨v2,rfl,by simpa [flat,put] using hown2,K2.out⟩
 ·have hc5:cap≤9223372036854775807:=by unfold maxLen at hmx;omega
  have HP:=gh (place_c w _ xs cap k (preads_of_own hv) hcap hl)
  have hpl:=place_le xs k
  have HV:=gh hv
  cases hh:hit xs k with
  | true=>
   obtain ⟨hv',hat,hlt⟩:=hit_true hh
   obtain ⟨_,he,_,g1,_⟩:=(preads_of_own hv).at hat
   obtain rfl:=Option.some.inj he |> Addr.mk.inj |>.1
   simp only at g1
   rw [hh,if_pos rfl] at hpp
   obtain ⟨n,hn⟩:∃ n,place xs k=n:=⟨_,rfl⟩
   rw [hn] at HP g1 hlt hpp hpl
   have HPP:=gh hpp
   have i3:n < cap:=by omega
   clear hv hpp hat hh hn he
   go_enter Tryz.func146,Tryz.ntmps146
   go_wp2_with (fail)
   refine HP.out.mono ?_
   rintro e w' ⟨rfl,rfl⟩
   have s1:=src_cells HV.out (show Kept w (w.alloc (.cells #[] 59)) from Td.alloc _ _ _) 0 n
   simp only [Nat.zero_mul,List.drop_zero] at s1
   go_wp2_with (at_builtin;refine Stop.out ?_)
   refine ⟨?_⟩
   refine wpList_append_own_at _ rfl _ _ 44 rfl w.heap.size 59 y0 (.agg #[.int .i64 0,.int .i64 0]) 2 16 Tryz.underlying44 hi' hz0 hz1 hz2 rfl (by decide) _ _ _ rfl r0 ⟨g,0,none⟩ n cap (flat (xs.take n)) rfl (by rw [flat_length,List.length_take];congr 1;omega) s1 (flat_one _) (by simp;unfold maxLen;omega) (by simp;omega) (by simp) ?_
   intro v1 w1 hown1 hg1 hni _
   clear hni
   have K1:=gh (kept_append0 (xs:=[]) (show Kept w (w.alloc (.cells #[] 59)) from Td.alloc _ _ _) r0 hg1)
   have r1:w1.ownsRow w.heap.size 59 2 v1 (xs.take n).length (flat (xs.take n)):=(by rw [List.length_take,Nat.min_eq_left (by omega)];simpa [flat] using hown1)
   have zz1:=K1.out.size
   have R1:=gh r1
   clear hown1 hg1 s1 r0 r1
   go_wp2_with (at_builtin;refine Stop.out ?_)
   refine ⟨?_⟩
   refine wpList_append_own_at _ rfl _ _ 44 rfl w.heap.size 59 y0 (.agg #[.int .i64 0,.int .i64 0]) 2 16 Tryz.underlying44 hi' hz0 hz1 hz2 rfl (by decide) _ _ _ rfl (R1.out.alloc (.cells #[.int .i64 k,.int .i64 u] 59)) ⟨w1.heap.size,0,none⟩ 1 1 [.int .i64 k,.int .i64 u] rfl rfl (two_newR _ _ _) (by simp [Value.oneCell']) (by rw [List.length_take];unfold maxLen;omega) (by rw [List.length_take];omega) (by simp;omega) ?_
   intro v2 w2 hown2 hg2 hni _
   clear hni
   have K2:=gh (kept_append K1.out R1.out hg2)
   have r2:w2.ownsRow w.heap.size 59 2 v2 (xs.take n++[(k,u)]).length (flat (xs.take n++[(k,u)])):=(by simpa [flat_append,flat] using hown2)
   have R2:=gh r2
   have s2:=src_cells HV.out K2.out (n+1) (xs.length - (n+1))
   have g1':=K2.out.cell g1 id
   have zz2:=K2.out.size
   clear hown2 hg2 r2 g1
   by_cases hcq:cap=n+1
   ·go_wp2_with (at_builtin;refine Stop.out ?_)
    refine ⟨?_⟩
    refine wpList_append_own_at _ rfl _ _ 44 rfl w.heap.size 59 y0 (.agg #[.int .i64 0,.int .i64 0]) 2 16 Tryz.underlying44 hi' hz0 hz1 hz2 rfl (by decide) _ _ _ rfl R2.out _ _ _ (flat []) rfl (by first | (simp [flat];done) | (simp [flat];omega)) (by simp [flat]) (flat_one _) (by simp only [List.length_append,List.length_take,List.length_singleton];unfold maxLen;omega) (by simp only [List.length_append,List.length_take,List.length_singleton];omega) (by omega) ?_
    intro v3 w3 hown3 hg3 hni _
    clear hni
    have KF:=gh (kept_append0 K2.out R2.out hg3)
    go_wp2
    go_ret
    refine ⟨v3,rfl,?_,KF.out⟩
    rw [HPP.out]
    have e0:xs.drop (n+1)=[]:=List.drop_eq_nil_of_le (by omega)
    have e1:(xs.take n++[(k,u)]).length+(xs.length - (n+1))=(xs.take n++[(k,u)]).length:=by omega
    rw [e0]
    try rw [e1] at hown3
    simpa [flat] using hown3
   ·go_wp2_with (at_builtin;refine Stop.out ?_)
    refine ⟨?_⟩
    refine wpList_append_own_at _ rfl _ _ 44 rfl w.heap.size 59 y0 (.agg #[.int .i64 0,.int .i64 0]) 2 16 Tryz.underlying44 hi' hz0 hz1 hz2 rfl (by decide) _ _ _ rfl R2.out ⟨g,(n+1) * 2,none⟩ (xs.length - (n+1)) (cap - (n+1)) (flat ((xs.drop (n+1)).take (xs.length - (n+1)))) rfl (by rw [flat_length,List.length_take,List.length_drop];congr 1;omega) s2 (flat_one _) (by simp only [List.length_append,List.length_take,List.length_singleton];unfold maxLen;omega) (by simp only [List.length_append,List.length_take,List.length_singleton];omega) (by omega) ?_
    intro v3 w3 hown3 hg3 hni _
    clear hni
    have KF:=gh (kept_append0 K2.out R2.out hg3)
    go_wp2
    go_ret
    refine ⟨v3,rfl,?_,KF.out⟩
    rw [HPP.out]
    have e1:(xs.drop (n+1)).take (xs.length - (n+1))=xs.drop (n+1):=List.take_of_length_le (by rw [List.length_drop];exact Nat.le_refl _)
    rw [e1,← flat_append] at hown3
    have e2:(xs.take n++[(k,u)]).length+(xs.length - (n+1))=(xs.take n++[(k,u)]++xs.drop (n+1)).length:=by simp only [List.length_append,List.length_drop]
    rw [e2] at hown3
    simpa using hown3
  | false=>
   rw [hh,if_neg (by simp)] at hpp
   rcases hit_false hh with he | ⟨x,xv,hat,hlt,hne⟩
   ·obtain ⟨n,hn⟩:∃ n,place xs k=n:=⟨_,rfl⟩
    rw [hn] at HP hpp hpl he
    have HPP:=gh hpp
    have hnl:¬ ((n:Int) < (xs.length:Int)):=by omega
    have hnl':¬ (n < xs.length):=by omega
    have he':xs.length≤n:=by omega
    clear hv hpp hh hn he
    go_enter Tryz.func146,Tryz.ntmps146
    go_wp2_with (fail)
    refine HP.out.mono ?_
    rintro e w' ⟨rfl,rfl⟩
    have s1:=src_cells HV.out (show Kept w (w.alloc (.cells #[] 59)) from Td.alloc _ _ _) 0 n
    simp only [Nat.zero_mul,List.drop_zero] at s1
    go_wp2_with (at_builtin;refine Stop.out ?_)
    refine ⟨?_⟩
    refine wpList_append_own_at _ rfl _ _ 44 rfl w.heap.size 59 y0 (.agg #[.int .i64 0,.int .i64 0]) 2 16 Tryz.underlying44 hi' hz0 hz1 hz2 rfl (by decide) _ _ _ rfl r0 ⟨g,0,none⟩ n cap (flat (xs.take n)) rfl (by rw [flat_length,List.length_take];congr 1;omega) s1 (flat_one _) (by simp;unfold maxLen;omega) (by simp;omega) (by simp) ?_
    intro v1 w1 hown1 hg1 hni _
    clear hni
    have K1:=gh (kept_append0 (xs:=[]) (show Kept w (w.alloc (.cells #[] 59)) from Td.alloc _ _ _) r0 hg1)
    have r1:w1.ownsRow w.heap.size 59 2 v1 (xs.take n).length (flat (xs.take n)):=(by rw [List.length_take,Nat.min_eq_left (by omega)];simpa [flat] using hown1)
    have zz1:=K1.out.size
    have R1:=gh r1
    clear hown1 hg1 s1 r0 r1
    go_wp2_with (at_builtin;refine Stop.out ?_)
    refine ⟨?_⟩
    refine wpList_append_own_at _ rfl _ _ 44 rfl w.heap.size 59 y0 (.agg #[.int .i64 0,.int .i64 0]) 2 16 Tryz.underlying44 hi' hz0 hz1 hz2 rfl (by decide) _ _ _ rfl (R1.out.alloc (.cells #[.int .i64 k,.int .i64 u] 59)) ⟨w1.heap.size,0,none⟩ 1 1 [.int .i64 k,.int .i64 u] rfl rfl (two_newR _ _ _) (by simp [Value.oneCell']) (by rw [List.length_take];unfold maxLen;omega) (by rw [List.length_take];omega) (by simp;omega) ?_
    intro v2 w2 hown2 hg2 hni _
    clear hni
    have K2:=gh (kept_append K1.out R1.out hg2)
    have r2:w2.ownsRow w.heap.size 59 2 v2 (xs.take n++[(k,u)]).length (flat (xs.take n++[(k,u)])):=(by simpa [flat_append,flat] using hown2)
    have R2:=gh r2
    have s2:=src_cells HV.out K2.out (n) (xs.length - (n))
    have zz2:=K2.out.size
    clear hown2 hg2 r2
    by_cases hcq:cap=n
    ·go_wp2_with (at_builtin;refine Stop.out ?_)
     refine ⟨?_⟩
     refine wpList_append_own_at _ rfl _ _ 44 rfl w.heap.size 59 y0 (.agg #[.int .i64 0,.int .i64 0]) 2 16 Tryz.underlying44 hi' hz0 hz1 hz2 rfl (by decide) _ _ _ rfl R2.out _ _ _ (flat []) rfl (by first | (simp [flat];done) | (simp [flat];omega)) (by simp [flat]) (flat_one _) (by simp only [List.length_append,List.length_take,List.length_singleton];unfold maxLen;omega) (by simp only [List.length_append,List.length_take,List.length_singleton];omega) (by omega) ?_
     intro v3 w3 hown3 hg3 hni _
     clear hni
     have KF:=gh (kept_append0 K2.out R2.out hg3)
     go_wp2
     go_ret
     refine ⟨v3,rfl,?_,KF.out⟩
     rw [HPP.out]
     have e0:xs.drop (n)=[]:=List.drop_eq_nil_of_le (by omega)
     have e1:(xs.take n++[(k,u)]).length+(xs.length - (n))=(xs.take n++[(k,u)]).length:=by omega
     rw [e0]
     try rw [e1] at hown3
     simpa [flat] using hown3
    ·go_wp2_with (at_builtin;refine Stop.out ?_)
     refine ⟨?_⟩
     refine wpList_append_own_at _ rfl _ _ 44 rfl w.heap.size 59 y0 (.agg #[.int .i64 0,.int .i64 0]) 2 16 Tryz.underlying44 hi' hz0 hz1 hz2 rfl (by decide) _ _ _ rfl R2.out _ _ _ (flat []) rfl (by first | (simp [flat];done) | (simp [flat];omega)) (by simp [flat]) (flat_one _) (by simp only [List.length_append,List.length_take,List.length_singleton];unfold maxLen;omega) (by simp only [List.length_append,List.length_take,List.length_singleton];omega) (by omega) ?_
     intro v3 w3 hown3 hg3 hni _
     clear hni
     have KF:=gh (kept_append0 K2.out R2.out hg3)
     go_wp2
     go_ret
     refine ⟨v3,rfl,?_,KF.out⟩
     rw [HPP.out]
     have e0:xs.drop (n)=[]:=List.drop_eq_nil_of_le (by omega)
     have e1:(xs.take n++[(k,u)]).length+(xs.length - (n))=(xs.take n++[(k,u)]).length:=by omega
     rw [e0]
     try rw [e1] at hown3
     simpa [flat] using hown3
   ·obtain ⟨_,he,_,g1,_⟩:=(preads_of_own hv).at hat
    obtain rfl:=Option.some.inj he |> Addr.mk.inj |>.1
    simp only at g1
    obtain ⟨n,hn⟩:∃ n,place xs k=n:=⟨_,rfl⟩
    rw [hn] at HP g1 hlt hpp hpl
    have HPP:=gh hpp
    have i3:n < cap:=by omega
    have hx:(x == k)=false:=by simp only [beq_eq_false_iff_ne,ne_eq];exact hne
    clear hv hpp hat hh hn he hne
    go_enter Tryz.func146,Tryz.ntmps146
    go_wp2_with (fail)
    refine HP.out.mono ?_
    rintro e w' ⟨rfl,rfl⟩
    have s1:=src_cells HV.out (show Kept w (w.alloc (.cells #[] 59)) from Td.alloc _ _ _) 0 n
    simp only [Nat.zero_mul,List.drop_zero] at s1
    go_wp2_with (at_builtin;refine Stop.out ?_)
    refine ⟨?_⟩
    refine wpList_append_own_at _ rfl _ _ 44 rfl w.heap.size 59 y0 (.agg #[.int .i64 0,.int .i64 0]) 2 16 Tryz.underlying44 hi' hz0 hz1 hz2 rfl (by decide) _ _ _ rfl r0 ⟨g,0,none⟩ n cap (flat (xs.take n)) rfl (by rw [flat_length,List.length_take];congr 1;omega) s1 (flat_one _) (by simp;unfold maxLen;omega) (by simp;omega) (by simp) ?_
    intro v1 w1 hown1 hg1 hni _
    clear hni
    have K1:=gh (kept_append0 (xs:=[]) (show Kept w (w.alloc (.cells #[] 59)) from Td.alloc _ _ _) r0 hg1)
    have r1:w1.ownsRow w.heap.size 59 2 v1 (xs.take n).length (flat (xs.take n)):=(by rw [List.length_take,Nat.min_eq_left (by omega)];simpa [flat] using hown1)
    have zz1:=K1.out.size
    have R1:=gh r1
    clear hown1 hg1 s1 r0 r1
    go_wp2_with (at_builtin;refine Stop.out ?_)
    refine ⟨?_⟩
    refine wpList_append_own_at _ rfl _ _ 44 rfl w.heap.size 59 y0 (.agg #[.int .i64 0,.int .i64 0]) 2 16 Tryz.underlying44 hi' hz0 hz1 hz2 rfl (by decide) _ _ _ rfl (R1.out.alloc (.cells #[.int .i64 k,.int .i64 u] 59)) ⟨w1.heap.size,0,none⟩ 1 1 [.int .i64 k,.int .i64 u] rfl rfl (two_newR _ _ _) (by simp [Value.oneCell']) (by rw [List.length_take];unfold maxLen;omega) (by rw [List.length_take];omega) (by simp;omega) ?_
    intro v2 w2 hown2 hg2 hni _
    clear hni
    have K2:=gh (kept_append K1.out R1.out hg2)
    have r2:w2.ownsRow w.heap.size 59 2 v2 (xs.take n++[(k,u)]).length (flat (xs.take n++[(k,u)])):=(by simpa [flat_append,flat] using hown2)
    have R2:=gh r2
    have s2:=src_cells HV.out K2.out (n) (xs.length - (n))
    have g1':=K2.out.cell g1 id
    have zz2:=K2.out.size
    clear hown2 hg2 r2 g1
    go_wp2_with (at_builtin;refine Stop.out ?_)
    refine ⟨?_⟩
    refine wpList_append_own_at _ rfl _ _ 44 rfl w.heap.size 59 y0 (.agg #[.int .i64 0,.int .i64 0]) 2 16 Tryz.underlying44 hi' hz0 hz1 hz2 rfl (by decide) _ _ _ rfl R2.out ⟨g,(n) * 2,none⟩ (xs.length - (n)) (cap - (n)) (flat ((xs.drop (n)).take (xs.length - (n)))) rfl (by rw [flat_length,List.length_take,List.length_drop];congr 1;omega) s2 (flat_one _) (by simp only [List.length_append,List.length_take,List.length_singleton];unfold maxLen;omega) (by simp only [List.length_append,List.length_take,List.length_singleton];omega) (by omega) ?_
    intro v3 w3 hown3 hg3 hni _
    clear hni
    have KF:=gh (kept_append0 K2.out R2.out hg3)
    go_wp2
    go_ret
    refine ⟨v3,rfl,?_,KF.out⟩
    rw [HPP.out]
    have e1:(xs.drop (n)).take (xs.length - (n))=xs.drop (n):=List.take_of_length_le (by rw [List.length_drop];exact Nat.le_refl _)
    rw [e1,← flat_append] at hown3
    have e2:(xs.take n++[(k,u)]).length+(xs.length - (n))=(xs.take n++[(k,u)]++xs.drop (n)).length:=by simp only [List.length_append,List.length_drop]
    rw [e2] at hown3
    simpa using hown3
end Mp
namespace Mp
abbrev From (n₀:Nat) (w w':World):Prop:=Td (fun g=>n₀≤g) w w'
theorem From.trans {n₀:Nat} {a b c:World} (h:From n₀ a b) (k:From n₀ b c):From n₀ a c:=Td.trans h k (fun _ e=>e) (fun _ _ e=>e)
theorem row_base {w:World} {b b':Nat} {e:TypeId} {size:Nat} {v:Value} {n:Nat} {xs:List Value} (h:w.ownsRow b e size v n xs) (hb:b'≤b):w.ownsRow b' e size v n xs:=by
 obtain ⟨h1,h2⟩:=h
 refine ⟨h1,?_⟩
 rcases h2 with h2 | ⟨g,cap,cur,rfl,hg,r⟩
 ·exact .inl h2
 ·exact .inr ⟨g,cap,cur,rfl,by omega,r⟩
end Mp
namespace Mp
def fillP (zs:List Int):Nat→List (Int × Int)
 | 0=>[]
 | t+1=>match zs[t]? with
  | some z=>put ltI (fillP zs t) (z % 97 - 40) (t:Int)
  | none=>fillP zs t
theorem fillP_step {zs:List Int} {t:Nat} {z:Int} (h:zs[t]? = some z):fillP zs (t+1)=put ltI (fillP zs t) (z % 97 - 40) (t:Int):=by simp [fillP,h]
theorem fillP_le (zs:List Int):(t:Nat)→(fillP zs t).length≤t
 | 0=>Nat.le_refl _
 | t+1=>by
  have:=fillP_le zs t
  unfold fillP
  split
  ·rename_i z _
   have:=length_put_le (lt:=ltI) (xs:=fillP zs t) (k:=z % 97 - 40) (v:=(t:Int))
   omega
  ·omega
theorem fillP_mem (zs:List Int):(t:Nat)→∀ p ∈ fillP zs t,-40≤p.1∧p.1≤56∧0≤p.2∧p.2≤t
 | 0=>by simp [fillP]
 | t+1=>by
  intro p hp
  unfold fillP at hp
  split at hp
  ·rcases mem_put hp with rfl | hp
   ·simp only
    omega
   ·have:=fillP_mem zs t p hp
    omega
  ·have:=fillP_mem zs t p hp
   omega
def pairsP (zs:List Int):List (Int × Int):=fillP zs (min zs.length 60)
theorem pairsP_le (zs:List Int):(pairsP zs).length≤60:=by
 have:=fillP_le zs (min zs.length 60)
 unfold pairsP
 omega
theorem pairsP_i64 (zs:List Int):∀ p ∈ pairsP zs,I64 p.1∧I64 p.2:=by
 intro p hp
 have:=fillP_mem zs _ p hp
 unfold I64
 omega
set_option maxRecDepth 100000 in
set_option maxHeartbeats 1000000 in
theorem pairs_c (w:World) (a:Option Addr) (zs:List Int) (M cap:Nat) (hM:zs.length=M) (hr:Reads w a zs) (hc:M≤cap) (hm:cap≤maxLen) :
  Calls Tryz.prog 103 #[.slice a M cap] w (PSliced (pairsP zs) w):=by
 subst hM
 have hm':(zs.length:Int)≤9223372036854775807:=by unfold maxLen at hm;omega
 have HR:=gh hr
 clear hr hm
 go_enter Tryz.func103,Tryz.ntmps103
 go_wp2
 go_loopw [3,4,5] (fun v i _ wr=>∃ t:Nat,t≤zs.length∧t≤60∧i=.int .i64 t∧Hid (wr.ownsRow w.heap.size 59 2 v (fillP zs t).length (flat (fillP zs t)))∧Hid (Kept w wr)) (fun _ i _ _=>60 - (intOf i).toNat)
 case atStart=>exact ⟨0,Nat.zero_le _,by omega,rfl,gh (World.ownsRow_nil _ _ _ _),gh (Kept.refl _)⟩
 case round=>
  obtain ⟨t,ht1,ht2,rfl,HV,HK⟩:=hrel
  by_cases hlt:t < zs.length∧t < 60
  ·obtain ⟨hlt1,hlt2⟩:=hlt
   obtain ⟨z,hz⟩:∃ z,zs[t]? = some z:=⟨_,List.getElem?_eq_getElem hlt1⟩
   obtain ⟨bl,off,rfl,_,hrow⟩:=(HR.out.kept HK.out).at hz
   have HZ:=gh (fillP_step hz)
   have i1:(t:Int) < (zs.length:Int):=by omega
   have i2:(t:Int) < 60:=by omega
   have i3:t < cap:=by omega
   have zr:=HK.out.size
   obtain ⟨y,hy⟩:∃ y,z % 97=y:=⟨_,rfl⟩
   have y1:0≤y:=by omega
   have y2:y < 97:=by omega
   have HY:=gh hy
   rw [hy] at HZ
   clear hz hy
   go_wp2_with (fail)
   refine (cut_g _ z 97 (by decide) (by decide)).mono ?_
   rw [HY.out]
   rintro e w0 ⟨rfl,rfl⟩
   go_wp2_with (fail)
   refine (refPut_c _ _ _ (fillP zs t) (y - 40) t HV.out (by have:=fillP_le zs t;omega)).mono ?_
   rintro e w1 ⟨v1,rfl,hrow1,hk1⟩
   have V1:Hid (w1.ownsRow w.heap.size 59 2 v1 (fillP zs (t+1)).length (flat (fillP zs (t+1)))):=gh (by rw [HZ.out];exact row_base hrow1 zr)
   have K1:=gh (HK.out.trans hk1)
   clear hrow1 hk1
   go_wp2
   exact ⟨⟨t+1,by omega,by omega,by simp,V1,K1⟩,by simp [intOf];omega⟩
  ·have e:min zs.length 60=t:=by omega
   have E:Hid (pairsP zs=fillP zs t):=gh (by unfold pairsP;rw [e])
   have hex:¬ ((t:Int) < (zs.length:Int))∨((t:Int) < (zs.length:Int)∧¬ ((t:Int) < 60)):=by omega
   clear e hlt
   rcases hex with hx | ⟨hx1,hx2⟩
   ·go_wp2
    go_ret
    exact ⟨_,rfl,by rw [E.out];exact HV.out,HK.out⟩
   ·go_wp2
    go_ret
    exact ⟨_,rfl,by rw [E.out];exact HV.out,HK.out⟩
end Mp
section
open Go.Shelf
attribute [local go_sem] Oper.semAt_some
theorem Reads.takes {w:World} {a:Option Addr} {zs:List Int} (h:Reads w a zs) (n:Nat):Reads w a (zs.take n):=by
 rcases h with h | ⟨bl,off,e,h⟩
 ·exact .inl (by rw [h];simp)
 ·refine .inr ⟨bl,off,e,fun j z hz=>h j z ?_⟩
  rw [List.getElem?_take] at hz
  split at hz
  ·exact hz
  ·cases hz
theorem few_r (w:World) (a:Option Addr) (zs:List Int) (M cap n:Nat) (hr:Reads w a zs) (hM:zs.length=M) (hc:M≤cap) (hm:cap≤maxLen) (hn:n≤1000) :
  Calls Tryz.prog 41 #[.slice a M cap,.int .i64 (n:Int)] w fun e w'=>e=.returned (.slice a (min M n) cap)∧w=w':=by
 have hm':(M:Int)≤9223372036854775807:=by unfold maxLen at hm;omega
 by_cases hlt:n < M
 ·have i1:(n:Int) < (M:Int):=by omega
  have i2:n≤cap:=by omega
  have e1:min M n=n:=by omega
  rcases hr with h | ⟨bl,off,rfl,_⟩
  ·rw [h] at hM;simp at hM;omega
  ·rw [e1]
   clear hm hM e1
   go_enter Tryz.func41,Tryz.ntmps41
   go_wp2
   go_ret
   exact ⟨rfl,rfl⟩
 ·have i1:¬ ((n:Int) < (M:Int)):=by omega
  have e1:min M n=M:=by omega
  rw [e1]
  clear hm hM e1 hr
  go_enter Tryz.func41,Tryz.ntmps41
  go_wp2
  go_ret
  exact ⟨rfl,rfl⟩
namespace Ixp
def busyB (ix:Ixp) (t:Nat):Bool:=match ix.ts[t]? with | some q=>q.busy | none=>false
def actZ (ix:Ixp) (z:Int):Ixp:=
 let t:=(z % 3).toNat
 let n:=z.tdiv 3
 if 0 < n % 3∧ix.busyB t=true then doZ t (1+n.tdiv 3 % 24).toNat ix else ix.invokeZ t (opK (n.tdiv 3)) (opKey (n.tdiv 3)) (opVal (n.tdiv 3))
theorem actZ_gd {ix:Ixp} {c:Nat} (h:Gd ix c) (z:Int):Gd (ix.actZ z) (c+24):=by
 unfold actZ
 dsimp only
 split
 ·exact (doZ_gd _ _ h).le (by omega)
 ·exact (invokeZ_gd h _ _ _ _).le (by omega)
theorem pickZ_len (ix:Ixp) (j:Nat):(ix.pickZ j).2.ts.length=ix.ts.length:=by
 unfold pickZ
 split
 ·rfl
 ·split
  ·rfl
  ·split
   ·dsimp only
    rw [(takesL_keeps _ _ _).1]
    simp [pick1]
   ·rfl
theorem doZ_len (j:Nat):∀ (n:Nat) (ix:Ixp),(doZ j n ix).ts.length=ix.ts.length
 | 0,_=>rfl
 | n+1,ix=>by
  rw [doZ]
  split
  ·exact pickZ_len ix j
  ·rw [doZ_len j n,pickZ_len]
theorem invokeZ_len (ix:Ixp) (j:Nat) (k key val:Int):(ix.invokeZ j k key val).ts.length=ix.ts.length:=by
 unfold invokeZ
 split
 ·rfl
 ·split
  ·rfl
  ·simp [invoke]
theorem actZ_len (ix:Ixp) (z:Int):(ix.actZ z).ts.length=ix.ts.length:=by
 unfold actZ
 dsimp only
 split
 ·exact doZ_len _ _ _
 ·exact invokeZ_len _ _ _ _ _
theorem loadZ_ts (ix:Ixp) (ps:List (Int × Int)):(ix.loadZ ps).2.ts=ix.ts∧(ix.loadZ ps).2.logn≤ix.logn+1:=by
 unfold loadZ
 repeat' split
 all_goals exact ⟨rfl,by simp⟩
end Ixp
def world0 (cells:Int) (keys:List Int):Ixp:=((Ixp.fresh (150+cells % 650) 2 3).loadZ (Mp.pairsP (keys.take 20))).2
def worldZ (cells:Int) (keys l:List Int):Ixp:=(l.take 70).foldl Ixp.actZ (world0 cells keys)
theorem world0_gd (cells:Int) (keys:List Int):(world0 cells keys).Gd 0∧(world0 cells keys).ts.length=3:=by
 obtain ⟨h1,h2⟩:=Ixp.loadZ_ts (Ixp.fresh (150+cells % 650) 2 3) (Mp.pairsP (keys.take 20))
 have h3:(world0 cells keys).ts=List.replicate 3 (Tp.idle 2):=h1
 have h4:(world0 cells keys).logn≤1:=h2
 refine ⟨⟨by rw [h3];simp,fun i q p e1 e2=>?_,fun i q e1=>?_,by omega⟩,by rw [h3];simp⟩
 ·rw [h3,List.getElem?_replicate] at e1
  split at e1
  ·cases e1;cases e2
  ·cases e1
 ·rw [h3,List.getElem?_replicate] at e1
  split at e1
  ·cases e1;exact ⟨by decide,by decide⟩
  ·cases e1
theorem fold_step {α β:Type} (f:β→α→β) {L:List α} {i:Nat} {z:α} (h:L[i]? = some z) (b:β):(L.drop i).foldl f b=(L.drop (i+1)).foldl f (f b z):=by
 obtain ⟨hi,e⟩:=List.getElem?_eq_some_iff.1 h
 rw [List.drop_eq_getElem_cons hi,e]
 rfl
theorem invokez_r (W:World) (n₀ x mb tb:Nat) (ix:Ixp) (mv:Value) (tv lv:Sl) (pz:List Pt) (h:IxIs W n₀ x ix mb mv tb tv lv pz) (hn:n₀≤W.heap.size) (j:Nat) (hj:j < ix.ts.length) (c:Nat) (hg:ix.Gd c) (hc:c≤7000) (z:Int) :
  Calls Tryz.prog 67 #[.pointer (some ⟨x,0,none⟩),.int .i64 (j:Int),.agg #[.int .i64 (opK z),.int .i64 (opKey z),.int .i64 (opVal z)]] W fun e W'=>(∃ r,e=.returned (.int .i64 r))∧(∃ lv' pz',IxIs W' n₀ x (ix.invokeZ j (opK z) (opKey z) (opVal z)) mb mv tb tv lv' pz')∧Td (Mine W n₀) W W':=by
 obtain ⟨q,hq⟩:∃ q,ix.ts[j]? = some q:=⟨_,List.getElem?_eq_getElem hj⟩
 obtain ⟨p,hp⟩:∃ p,pz[j]? = some p:=⟨_,List.getElem?_eq_getElem (by rw [h.pn];exact hj)⟩
 obtain ⟨b,hb⟩:∃ b,q.busy=b:=⟨_,rfl⟩
 unfold Ixp.invokeZ
 rw [hq]
 dsimp only
 rw [hb]
 have hl:=hg.log
 cases b with
 | true=>
  rw [if_pos rfl]
  refine (invoke_busy W n₀ x mb tb ix mv tv lv pz h j q p hq hp hb _ _ _).mono ?_
  rintro e W' ⟨rfl,k⟩
  exact ⟨⟨4,rfl⟩,⟨lv,pz,h.kept k⟩,k.mono (fun _ _ e=>e.elim)⟩
 | false=>
  rw [if_neg (by decide)]
  have o:=op_bounds z
  refine (invoke_r W n₀ x mb tb ix mv tv lv pz h j q p hq hp hb hn (by omega) _ _ _ ⟨o.1,hg.bud j q hq,i64_small (by show _≤opKey z;omega) (by show opKey z≤_;omega),i64_small (by show _≤opVal z;omega) (by show opVal z≤_;omega)⟩).mono ?_
  rintro e W' ⟨rfl,h2,h3⟩
  exact ⟨⟨0,rfl⟩,h2,h3⟩
end
section
open Go.Shelf
attribute [local go_sem] Oper.semAt_some
structure Wrl (w W:World) (x mb tb:Nat) (ix:Ixp):Prop where
 ixs:∃ mv tv lv pz,IxIs W w.heap.size x ix mb mv tb tv lv pz
 kept:Kept w W
 len:ix.ts.length=3
theorem Wrl.next {w W W':World} {x mb tb:Nat} {ix ix':Ixp} (h:Wrl w W x mb tb ix) (h1:∃ mv tv lv pz,IxIs W' w.heap.size x ix' mb mv tb tv lv pz) (t:Td (Mine W w.heap.size) W W') (hl:ix'.ts.length=ix.ts.length):Wrl w W' x mb tb ix':=
 ⟨h1,h.kept.own (fun _ e=>e) t.since,by rw [hl,h.len]⟩
set_option maxRecDepth 100000 in
set_option maxHeartbeats 4000000 in
theorem world_r (w:World) (cells:Int) (a1:Option Addr) (keys:List Int) (c1:Nat) (a2:Option Addr) (l:List Int) (c2:Nat) (hr1:Reads w a1 keys) (hc1:keys.length≤c1) (hm1:c1≤maxLen) (hr2:Reads w a2 l) (hc2:l.length≤c2) (hm2:c2≤maxLen) (hi:∀ z ∈ l,I64 z) :
  Calls Tryz.prog 52 #[.int .i64 cells,.int .i64 3,.slice a1 keys.length c1,.slice a2 l.length c2] w fun e W=>∃ x,e=.returned (.pointer (some ⟨x,0,none⟩))∧∃ mb tb,Wrl w W x mb tb (worldZ cells keys l):=by
 obtain ⟨M1,hM1⟩:∃ M,keys.length=M:=⟨_,rfl⟩
 obtain ⟨M2,hM2⟩:∃ M,l.length=M:=⟨_,rfl⟩
 rw [hM1] at hc1 ⊢
 rw [hM2] at hc2 ⊢
 have hl2:(M2:Int)≤9223372036854775807:=by unfold maxLen at hm2;omega
 obtain ⟨m,hm⟩:∃ m,cells % 650=m:=⟨_,rfl⟩
 have m0:0≤m∧m < 650:=by omega
 have C1:∀ X,Calls Tryz.prog 36 #[.int .i64 cells,.int .i64 650] X fun e X'=>e=.returned (.int .i64 m)∧X=X':=fun X=>hm ▸ cut_g X cells 650 (by decide) (by decide)
 obtain ⟨r0,ix0,hld⟩:∃ r i,(Ixp.fresh (150+m) 2 3).loadZ (Mp.pairsP (keys.take 20))=(r,i):=⟨_,_,rfl⟩
 have H0:Hid (world0 cells keys=ix0):=gh (by rw [world0,hm,hld])
 have HLD:=gh hld
 have HR1:=gh hr1
 have HR2:=gh hr2
 have HM1:=gh hM1
 have HM2:=gh hM2
 have HC1:=gh (And.intro hc1 hm1)
 have HC2:=gh hc2
 have HI:=gh hi
 clear hr1 hr2 hM1 hM2 hc1 hc2 hm1 hm2 hi hm hld
 go_enter Tryz.func52,Tryz.ntmps52
 go_wp2_with (fail)
 refine (C1 w).mono ?_
 rintro e w' ⟨rfl,rfl⟩
 clear C1
 go_wp2_with (fail)
 refine (new_r w (150+m) 2 3 (by omega) (by omega) (by decide) (by decide) (by decide) (by decide)).mono ?_
 rintro e W1 ⟨x,rfl,⟨mb,mv1,tb,tv1,lv1,pz1,i1⟩,k1⟩
 have I1:=gh i1
 have K1:=gh k1
 clear i1 k1
 go_wp2_with (fail)
 refine (few_r W1 a1 keys M1 c1 20 (HR1.out.kept K1.out) HM1.out HC1.out.1 HC1.out.2 (by decide)).mono ?_
 rintro e w' ⟨rfl,rfl⟩
 go_wp2_with (fail)
 refine (Mp.pairs_c W1 a1 (keys.take 20) (min M1 20) c1 (by rw [List.length_take,HM1.out,Nat.min_comm]) ((HR1.out.kept K1.out).takes 20) (by have:=HC1.out.1;omega) HC1.out.2).mono ?_
 rintro e W2 ⟨v2,rfl,r2,k2⟩
 have r2':PRow W2 W1.heap.size 59 v2 (Mp.pairsP (keys.take 20)):=r2
 obtain ⟨ap,cp,rfl,hpr,hpc,hpm,hp0,_⟩:=r2'.reads
 obtain ⟨Mp',hMp⟩:∃ M,(Mp.pairsP (keys.take 20)).length=M:=⟨_,rfl⟩
 have LS:Hid (Lst W2 ap (Mp.pairsP (keys.take 20)) Mp' cp):=gh ⟨hpr,hMp,by omega,hpm,by have:=Mp.pairsP_le (keys.take 20);omega,hp0,fun _ ad e=>by
  obtain ⟨c,hc⟩:=r2'.typed ad.block (by rw [e];rfl)
  exact ⟨c,hc⟩⟩
 have I2:=gh (I1.out.kept k2)
 have K2:=gh (K1.out.trans k2)
 rw [hMp]
 clear r2 r2' hpr hpc hpm hp0 hMp k2 I1
 go_wp2_with (fail)
 refine (load_r W2 w.heap.size x mb tb _ mv1 tv1 lv1 pz1 I2.out K2.out.size (by simp [Ixp.fresh]) (by simp [Ixp.fresh]) ap _ Mp' cp LS.out (Mp.pairsP_i64 _) r0 ix0 HLD.out).mono ?_
 rintro e W3 ⟨rfl,⟨mv3,lv3,i3⟩,t3⟩
 rw [← H0.out] at i3
 have G0:=gh (world0_gd cells keys)
 have WR:Hid (Wrl w W3 x mb tb (world0 cells keys)):=gh ⟨⟨mv3,tv1,lv3,pz1,i3⟩,K2.out.own (fun _ e=>e) t3.since,G0.out.2⟩
 clear i3 t3 LS I2 K2 K1
 go_wp2_with (fail)
 rename World=>W4
 go_loopw [11,12,13] (fun vi _ _ wr=>∃ (i:Nat) (ix:Ixp),vi=.int .i64 (i:Int)∧i≤M2∧i≤70∧Hid (Wrl w wr x mb tb ix)∧Hid (ix.Gd (24 * i))∧Hid (worldZ cells keys l=((l.take 70).drop i).foldl Ixp.actZ ix)) (fun vi _ _ _=>70 - (intOf vi).toNat)
 case atStart=>exact ⟨0,world0 cells keys,rfl,by omega,by omega,WR,gh G0.out.1,gh rfl⟩
 case round=>
  obtain ⟨i,ix,rfl,hi,hi7,WI,G,E⟩:=hrel
  clear WR G0
  by_cases hlt:i < M2
  ·have j1:(i:Int) < (M2:Int):=by omega
   by_cases h70:i < 70
   ·have j2:(i:Int) < 70:=by omega
    obtain ⟨z,hz⟩:∃ z,l[i]? = some z:=⟨_,List.getElem?_eq_getElem (by rw [HM2.out];exact hlt)⟩
    obtain ⟨bl,off,rfl,hbl,hcell0⟩:=HR2.out.at hz
    have hcell:=WI.out.kept.cell hcell0 id
    have j3:i < c2:=by have:=HC2.out;omega
    obtain ⟨z1,z2⟩:=HI.out z (List.mem_of_getElem? hz)
    obtain ⟨tt,htt⟩:∃ tt:Nat,z % 3=(tt:Int):=⟨(z % 3).toNat,by omega⟩
    have tt3:tt < 3:=by omega
    obtain ⟨n1,hn1⟩:∃ n,z.tdiv 3=n:=⟨_,rfl⟩
    obtain ⟨n2,hn2⟩:∃ n,n1.tdiv 3=n:=⟨_,rfl⟩
    have d1:z.tmod 3+3 * n1=z:=by rw [← hn1];first | exact Int.tmod_add_tdiv z 3 | exact Int.tmod_add_mul_tdiv z 3
    have d2:n1.tmod 3+3 * n2=n1:=by rw [← hn2];first | exact Int.tmod_add_tdiv n1 3 | exact Int.tmod_add_mul_tdiv n1 3
    have d3:=Int.lt_tmod_of_pos z (show (0:Int) < 3 by decide)
    have d4:=Int.tmod_lt_of_pos z (show (0:Int) < 3 by decide)
    have d5:=Int.lt_tmod_of_pos n1 (show (0:Int) < 3 by decide)
    have d6:=Int.tmod_lt_of_pos n1 (show (0:Int) < 3 by decide)
    generalize z.tmod 3=p1 at d1 d3 d4
    generalize n1.tmod 3=p2 at d2 d5 d6
    have b1:-9223372036854775808≤n1∧n1≤9223372036854775807:=by omega
    have b2:-9223372036854775808≤n2∧n2≤9223372036854775807:=by omega
    clear d1 d2 d3 d4 d5 d6
    obtain ⟨k3,hk3⟩:∃ k,n1 % 3=k:=⟨_,rfl⟩
    have k30:0≤k3∧k3 < 3:=by omega
    obtain ⟨kk,hkk⟩:∃ kk:Nat,n2 % 24=(kk:Int):=⟨(n2 % 24).toNat,by omega⟩
    have kk24:kk < 24:=by omega
    have C3:∀ X,Calls Tryz.prog 36 #[.int .i64 z,.int .i64 3] X fun e X'=>e=.returned (.int .i64 (tt:Int))∧X=X':=fun X=>htt ▸ cut_g X z 3 (by decide) (by decide)
    have C4:∀ X,Calls Tryz.prog 36 #[.int .i64 n1,.int .i64 3] X fun e X'=>e=.returned (.int .i64 k3)∧X=X':=fun X=>hk3 ▸ cut_g X n1 3 (by decide) (by decide)
    have C5:∀ X,Calls Tryz.prog 36 #[.int .i64 n2,.int .i64 24] X fun e X'=>e=.returned (.int .i64 (kk:Int))∧X=X':=fun X=>hkk ▸ cut_g X n2 24 (by decide) (by decide)
    have HC3:=gh C3
    have HC4:=gh C4
    have HC5:=gh C5
    have hzt:(l.take 70)[i]? = some z:=by rw [List.getElem?_take,if_pos h70];exact hz
    have EN:Hid (worldZ cells keys l=((l.take 70).drop (i+1)).foldl Ixp.actZ (ix.actZ z)):=gh (by rw [E.out,fold_step _ hzt])
    have GN:Hid ((ix.actZ z).Gd (24 * (i+1))):=gh ((Ixp.actZ_gd G.out z).le (by omega))
    have AZ:Hid (ix.actZ z=if 0 < k3∧ix.busyB tt=true then Ixp.doZ tt (1+kk) ix else ix.invokeZ tt (opK n2) (opKey n2) (opVal n2)):=gh (by
     have e1:(z % 3).toNat=tt:=by omega
     have e2:(1+n2 % 24).toNat=1+kk:=by omega
     unfold Ixp.actZ
     dsimp only
     rw [e1,hn1,hk3,hn2,e2])
    have tl:tt < ix.ts.length:=by rw [WI.out.len];exact tt3
    obtain ⟨q,hq⟩:∃ q,ix.ts[tt]? = some q:=⟨_,List.getElem?_eq_getElem tl⟩
    obtain ⟨mv,tv,lv,pz,I⟩:=WI.out.ixs
    obtain ⟨p,hp⟩:∃ p,pz[tt]? = some p:=⟨_,List.getElem?_eq_getElem (by rw [I.pn];exact tl)⟩
    obtain ⟨b,hb⟩:∃ b,q.busy=b:=⟨_,rfl⟩
    have BB:Hid (ix.busyB tt=b):=gh (by unfold Ixp.busyB;rw [hq];exact hb)
    have f4:=I.cells.1.2.1
    have fj:=I.slot hp
    have fb:=(I.th tt q p hq hp).cells.1.2.1
    rw [hb] at fb
    have u1:(tt:Int) < (tv.n:Int):=by have:=I.tvn.1;omega
    have u2:tt < tv.c:=by have:=I.tvn;omega
    have u0:decide ((tt:Int) < 0)=false:=by simp
    have u3:decide ((tv.n:Int)≤(tt:Int))=false:=by simp;omega
    have HI4:=gh I
    have HQ:=gh hq
    have HB:=gh hb
    have NW:=gh WI.out.kept.size
    have HB2:=gh (And.intro b2.1 b2.2)
    have i24:Hid (24 * i≤1680):=gh (by omega)
    have TT3:=gh tl
    clear hz htt hk3 hkk C3 C4 C5 hzt E hq hp hb I hcell0 hbl tl
    go_wp2_with (fail)
    refine (HC3.out wr).mono ?_
    rintro e w' ⟨rfl,rfl⟩
    clear hcell
    go_wp2_with (fail)
    try rw [hn1]
    refine (HC4.out wr).mono ?_
    rintro e w' ⟨rfl,rfl⟩
    have DN:Hid (0 < k3→b=true→Calls Tryz.prog 104 #[.pointer (some ⟨x,0,none⟩),.agg #[.int .i64 2,.int .i64 (tt:Int),.int .i64 (1+(kk:Int)),.int .i64 0,.int .i64 0,.int .i64 0]] wr fun e W'=>e=.returned (.int .i64 0)∧Wrl w W' x mb tb (ix.actZ z)):=gh (fun h3 hbt=>by
     obtain ⟨p',hp'⟩:=HI4.out.bz tt q HQ.out (by rw [HB.out,hbt])
     have e1:((1+kk:Nat):Int)=1+(kk:Int):=by omega
     have:=do_r wr w.heap.size x mb tb ix mv tv lv pz HI4.out NW.out tt q p' HQ.out (by rw [HB.out,hbt]) hp' (24 * i) G.out (1+kk) (by omega) (by have:=i24.out;omega)
     rw [e1] at this
     refine this.mono ?_
     rintro e W' ⟨rfl,⟨mv',lv',pz',h1⟩,h2⟩
     have ez:ix.actZ z=Ixp.doZ tt (1+kk) ix:=by rw [AZ.out,if_pos ⟨h3,by rw [BB.out,hbt]⟩]
     exact ⟨rfl,WI.out.next ⟨mv',tv,lv',pz',by rw [ez];exact h1⟩ h2 (Ixp.actZ_len ix z)⟩)
    have IN:Hid (¬ (0 < k3∧b=true)→∀ W',Kept wr W'→Calls Tryz.prog 67 #[.pointer (some ⟨x,0,none⟩),.int .i64 (tt:Int),.agg #[.int .i64 (opK n2),.int .i64 (opKey n2),.int .i64 (opVal n2)]] W' fun e W''=>(∃ r,e=.returned (.int .i64 r))∧Wrl w W'' x mb tb (ix.actZ z)):=gh (fun hne W' k'=>by
     refine (invokez_r W' w.heap.size x mb tb ix mv tv lv pz (HI4.out.kept k') (Nat.le_trans NW.out k'.size) tt TT3.out (24 * i) G.out (by have:=i24.out;omega) n2).mono ?_
     rintro e W'' ⟨h0,⟨lv',pz',h1⟩,h2⟩
     have ez:ix.actZ z=ix.invokeZ tt (opK n2) (opKey n2) (opVal n2):=by rw [AZ.out,if_neg (by rw [BB.out];exact hne)]
     exact ⟨h0,WI.out.next ⟨mv,tv,lv',pz',by rw [ez];exact h1⟩ (Td.mine_kept k' h2) (Ixp.actZ_len ix z)⟩)
    clear HI4 HQ HB BB AZ G
    by_cases h3:0 < k3
    ·cases b with
     | true=>
      go_wp2_with (fail)
      try rw [hn2]
      refine (HC5.out wr).mono ?_
      rintro e w' ⟨rfl,rfl⟩
      clear f4 fj fb
      go_wp2_with (fail)
      refine (DN.out h3 (by simp)).mono ?_
      rintro e W6 ⟨rfl,w6⟩
      have W6':=gh w6
      clear w6 DN IN
      go_wp2
      exact ⟨⟨i+1,_,by simp,by omega,by omega,W6',GN,EN⟩,by simp only [intOf];omega⟩
     | false=>
      go_wp2_with (fail)
      try rw [hn2]
      refine (op_r wr n2 ⟨b2.1,b2.2⟩).mono ?_
      rintro e W5 ⟨rfl,k5⟩
      have K5:=gh k5
      clear f4 fj fb k5
      go_wp2_with (fail)
      refine (IN.out (by simp) W5 K5.out).mono ?_
      rintro e W6 ⟨⟨rr,rfl⟩,w6⟩
      have W6':=gh w6
      clear w6 DN IN
      go_wp2
      exact ⟨⟨i+1,_,by simp,by omega,by omega,W6',GN,EN⟩,by simp only [intOf];omega⟩
    ·go_wp2_with (fail)
     try rw [hn2]
     refine (op_r wr n2 ⟨b2.1,b2.2⟩).mono ?_
     rintro e W5 ⟨rfl,k5⟩
     have K5:=gh k5
     clear f4 fj fb k5
     go_wp2_with (fail)
     refine (IN.out (by rintro ⟨e,-⟩;omega) W5 K5.out).mono ?_
     rintro e W6 ⟨⟨rr,rfl⟩,w6⟩
     have W6':=gh w6
     clear w6 DN IN
     go_wp2
     exact ⟨⟨i+1,_,by simp,by omega,by omega,W6',GN,EN⟩,by simp only [intOf];omega⟩
   ·have j2:¬ ((i:Int) < 70):=by omega
    obtain rfl:i=70:=by omega
    have HE:Hid (worldZ cells keys l=ix):=gh (by rw [E.out,List.drop_of_length_le (by simp;omega)];rfl)
    go_wp2
    go_ret
    exact ⟨x,rfl,mb,tb,by rw [HE.out];exact WI.out⟩
  ·have j1:¬ ((i:Int) < (M2:Int)):=by omega
   obtain rfl:i=M2:=by omega
   have HE:Hid (worldZ cells keys l=ix):=gh (by rw [E.out,List.drop_of_length_le (by have:=HM2.out;simp;omega)];rfl)
   go_wp2
   go_ret
   exact ⟨x,rfl,mb,tb,by rw [HE.out];exact WI.out⟩
end
section
open Go.Shelf
structure Grew1 (s s':Mst):Prop where
 size:s'.size=s.size
 len:s.xs.length≤s'.xs.length
theorem Grew1.refl (s:Mst):Grew1 s s:=⟨rfl,Nat.le_refl _⟩
theorem Grew1.trans {s s' s'':Mst} (h:Grew1 s s') (h':Grew1 s' s''):Grew1 s s'':=⟨h'.size.trans h.size,Nat.le_trans h.len h'.len⟩
theorem Mst.touch_grew (m:Mst) (a:Int):Grew1 m (m.touch a):=by unfold Mst.touch;split <;> exact ⟨rfl,Nat.le_refl _⟩
theorem Mst.write_grew (m:Mst) (a x:Int):Grew1 m (m.write a x):=by
 unfold Mst.write
 refine (m.touch_grew a).trans ?_
 unfold Mst.put
 split
 ·exact ⟨rfl,by simp⟩
 ·exact Grew1.refl _
theorem Mst.make_grew (m:Mst) (w:List Int):Grew1 m (m.make w):=by
 unfold Mst.make
 split
 ·exact ⟨rfl,by simp⟩
 ·exact ⟨rfl,Nat.le_refl _⟩
theorem Mst.doA_grew (m:Mst) (q:Ak):Grew1 m (m.doA q).2:=by
 have hc:∀ a o x,Grew1 m (m.cas a o x):=fun a o x=>by
  unfold Mst.cas
  split
  ·exact m.write_grew _ _
  ·exact m.touch_grew _
 unfold Mst.doA
 split
 ·exact m.touch_grew _
 ·split
  ·exact m.write_grew _ _
  ·split
   ·exact hc _ _ _
   ·split
    ·exact m.write_grew _ _
    ·split
     ·exact m.make_grew _
     ·exact Grew1.refl _
theorem kidF_grew {L:Mst→List (Int × Int)→Int × Mst} (hL:∀ s ps,Grew1 s (L s ps).2) (ps:List (Int × Int)) (s:Mst):∀ n,Grew1 s (kidF L ps s n).2
 | 0=>Grew1.refl s
 | n+1=>(kidF_grew hL ps s n).trans (hL _ _)
theorem layF_grew:∀ (f:Nat) (s:Mst) (ps:List (Int × Int)),Grew1 s (layF f s ps).2
 | 0,s,_=>Grew1.refl s
 | f+1,s,ps=>by
  rw [layF_succ]
  split
  ·exact s.make_grew _
  ·split
   ·exact s.make_grew _
   ·exact (kidF_grew (fun s ps=>layF_grew f s ps) ps s _).trans (Mst.make_grew _ _)
theorem buildS_grew (s:Mst) (ps:List (Int × Int)):Grew1 s (buildS s ps).2:=by
 unfold buildS
 split
 ·exact layF_grew _ _ _
 ·exact Grew1.refl s
namespace Ixp
theorem loadZ_grew (ix:Ixp) (ps:List (Int × Int)):Grew1 ix.m (ix.loadZ ps).2.m:=by
 unfold loadZ
 repeat' split
 all_goals first
  | exact Grew1.refl _
  | exact buildS_grew _ _
  | exact (buildS_grew _ _).trans (Mst.write_grew _ _ _)
theorem step_grew (p:Fp) (m:Mst):Grew1 m (p.step m).2:=by
 unfold Fp.step
 split
 ·exact Grew1.refl _
 ·exact m.doA_grew _
theorem pickZ_grew (ix:Ixp) (j:Nat):Grew1 ix.m (ix.pickZ j).2.m:=by
 unfold pickZ
 split
 ·exact Grew1.refl _
 ·rename_i q _
  split
  ·exact Grew1.refl _
  ·rename_i p _
   split
   ·dsimp only
    rw [(takesL_keeps _ _ _).2.2]
    show Grew1 ix.m (q.step p ix.m).2.2
    rw [(tstep_fr q p ix.m).2.2.1]
    exact step_grew p ix.m
   ·exact Grew1.refl _
theorem doZ_grew (j:Nat):∀ (n:Nat) (ix:Ixp),Grew1 ix.m (doZ j n ix).m
 | 0,_=>Grew1.refl _
 | n+1,ix=>by
  rw [doZ]
  split
  ·exact pickZ_grew ix j
  ·exact (pickZ_grew ix j).trans (doZ_grew j n _)
theorem invokeZ_m (ix:Ixp) (j:Nat) (k key val:Int):(ix.invokeZ j k key val).m=ix.m:=by
 unfold invokeZ
 split
 ·rfl
 ·split <;> rfl
theorem actZ_grew (ix:Ixp) (z:Int):Grew1 ix.m (ix.actZ z).m:=by
 unfold actZ
 dsimp only
 split
 ·exact doZ_grew _ _ _
 ·rw [invokeZ_m];exact Grew1.refl _
theorem fold_grew:∀ (L:List Int) (ix:Ixp),Grew1 ix.m (L.foldl actZ ix).m
 | [],_=>Grew1.refl _
 | z :: L,ix=>(actZ_grew ix z).trans (fold_grew L _)
end Ixp
theorem worldZ_grew (cells:Int) (keys l:List Int):(worldZ cells keys l).m.size=150+cells % 650∧7≤(worldZ cells keys l).m.xs.length:=by
 have h1:=Ixp.loadZ_grew (Ixp.fresh (150+cells % 650) 2 3) (Mp.pairsP (keys.take 20))
 have h2:=Ixp.fold_grew (l.take 70) (world0 cells keys)
 have h3:Grew1 (begun (Mst.new (150+cells % 650))) (worldZ cells keys l).m:=h1.trans h2
 exact ⟨h3.size,h3.len⟩
theorem Wrl.mem {w W:World} {x mb tb:Nat} {ix:Ixp} (h:Wrl w W x mb tb ix):∃ v,DMem W w.heap.size mb v ix.m∧ix.m.ok∧W.cell? ⟨x,3,none⟩=some (.pointer (some ⟨mb,0,none⟩)):=by
 obtain ⟨mv,tv,lv,pz,I⟩:=h.ixs
 exact ⟨mv,I.mem,I.mok,I.cells.1.1⟩
theorem cp_ok {s:Mst} (h:s.ok) (hl:(s.xs.length:Int)≤s.size):(cp s).ok:=⟨by rw [cp_xs hl];exact h.1,by rw [cp_xs hl];exact h.2⟩
end
section
open Go.Shelf
attribute [local go_sem] Oper.semAt_some
def treeZ (s:Mst) (z:Int):Mst:=
 let a:=1+z % (s.xs.length:Int)
 let u:=s.look a
 let k:=(z.tdiv 1000) % 5
 if k=0 then s.write a (wrap64 (u+1))
 else if k=1 then s.write a (s.look (1+(z.tdiv 7) % (s.xs.length:Int)))
 else if k=2 then s.write a 0
 else if k=3 then s.write a ((z.tdiv 5000) % 900)
 else s.write a (wrap64 (u - 8))
def treeF (s:Mst) (l:List Int):Mst:=(l.take 6).foldl treeZ s
theorem treeZ_ok {s:Mst} (h:s.ok) (z:Int):(treeZ s z).ok:=by
 unfold treeZ
 dsimp only
 repeat' split
 ·exact Mst.write_ok h _ (i64_w _)
 ·exact Mst.write_ok h _ (h.look _)
 ·exact Mst.write_ok h _ i64_0
 ·exact Mst.write_ok h _ (by constructor <;> omega)
 ·exact Mst.write_ok h _ (i64_w _)
theorem treeZ_grew (s:Mst) (z:Int):Grew1 s (treeZ s z):=by
 unfold treeZ
 dsimp only
 repeat' split
 all_goals exact s.write_grew _ _
theorem treeF_ok {s:Mst} (h:s.ok) (l:List Int):(treeF s l).ok:=by
 unfold treeF
 generalize l.take 6=L
 induction L generalizing s with
 | nil=>exact h
 | cons z L ih=>exact ih (treeZ_ok h z)
theorem treeF_grew (s:Mst) (l:List Int):Grew1 s (treeF s l):=by
 unfold treeF
 generalize l.take 6=L
 induction L generalizing s with
 | nil=>exact Grew1.refl _
 | cons z L ih=>exact (treeZ_grew s z).trans (ih _)
theorem fold_stepT {L:List Int} {i:Nat} {z:Int} (s:Mst) (h:L[i]? = some z):(L.drop i).foldl treeZ s=(L.drop (i+1)).foldl treeZ (treeZ s z):=by
 obtain ⟨h1,rfl⟩:=List.getElem?_eq_some_iff.1 h
 rw [List.drop_eq_getElem_cons h1]
 rfl
structure Tre (w W:World) (b:Nat) (v:Value) (s:Mst):Prop where
 mem:DMem W w.heap.size b v s
 ok:s.ok
 kept:Kept w W
 len:7≤s.xs.length
 big:1≤s.size∧s.size≤800
theorem Tre.next {w W W':World} {b:Nat} {v:Value} {s s':Mst} (h:Tre w W b v s) (h1:DMem W' w.heap.size b v s') (h2:Td (Foot b v) W W') (h3:s'.ok) (h4:Grew1 s s'):Tre w W' b v s':=
 ⟨h1,h3,h.kept.own (fun k e=>(h.mem.lt k e).1) h2,Nat.le_trans h.len h4.len,by rw [h4.size];exact h.big⟩
set_option maxHeartbeats 4000000 in
set_option maxRecDepth 20000 in
theorem tree_r (w:World) (cells:Int) (a1:Option Addr) (keys:List Int) (c1:Nat) (a2:Option Addr) (l:List Int) (c2:Nat) (a3:Option Addr) (us:List Int) (c3:Nat) (hr1:Reads w a1 keys) (hc1:keys.length≤c1) (hm1:c1≤maxLen) (hr2:Reads w a2 l) (hc2:l.length≤c2) (hm2:c2≤maxLen) (hi:∀ z ∈ l,I64 z)
  (M3:Nat) (hM:us.length=M3) (hr3:Reads w a3 us) (hc3:M3≤c3) (hm3:c3≤maxLen) (hi3:∀ z ∈ us,I64 z) :
  Calls Tryz.prog 26 #[.int .i64 cells,.slice a1 keys.length c1,.slice a2 l.length c2,.slice a3 M3 c3] w fun e W=>∃ b v,e=.returned (.pointer (some ⟨b,0,none⟩))∧Tre w W b v (treeF (worldZ cells keys l).m us):=by
 have GZ:=worldZ_grew cells keys l
 have WR:=gh (world_r w cells a1 keys c1 a2 l c2 hr1 hc1 hm1 hr2 hc2 hm2 hi)
 obtain ⟨wz,hwz⟩:∃ z,worldZ cells keys l=z:=⟨_,rfl⟩
 rw [hwz] at WR GZ ⊢
 obtain ⟨s0,hs0⟩:∃ s,wz.m=s:=⟨_,rfl⟩
 rw [hs0] at GZ ⊢
 have HS:=gh hs0
 have G7:Hid (7≤s0.xs.length∧1≤s0.size∧s0.size≤800):=gh ⟨GZ.2,by rw [GZ.1];omega,by rw [GZ.1];omega⟩
 have HR:=gh hr3
 have HM:=gh hM
 have HI:=gh hi3
 have hl3:(M3:Int)≤9223372036854775807:=by unfold maxLen at hm3;omega
 clear hr1 hc1 hm1 hr2 hc2 hm2 hi hr3 hM hi3 hm3 hs0 hwz GZ
 go_enter Tryz.func26,Tryz.ntmps26
 go_wp2_with (fail)
 refine WR.out.mono ?_
 rintro e W2 ⟨x,rfl,mb,tb,wr⟩
 obtain ⟨vm,dm,okm,cx⟩:=wr.mem
 rw [HS.out] at dm okm
 have T0:Hid (Tre w W2 mb vm s0):=gh ⟨dm,okm,wr.kept,G7.out.1,G7.out.2⟩
 clear wr dm okm WR
 go_wp2_with (fail)
 rename World=>W4
 go_loopw [10,11,12,13] (fun vi _ _ _ wr=>∃ (i:Nat) (s:Mst),vi=.int .i64 (i:Int)∧i≤M3∧i≤6∧Hid (Tre w wr mb vm s)∧Hid (treeF s0 us=((us.take 6).drop i).foldl treeZ s)) (fun vi _ _ _ _=>6 - (intOf vi).toNat)
 case atStart=>exact ⟨0,s0,rfl,by omega,by omega,T0,gh rfl⟩
 case round=>
  obtain ⟨i,s,rfl,hi,hi6,T,E⟩:=hrel
  clear T0
  by_cases hlt:i < M3
  ·have j1:(i:Int) < (M3:Int):=by omega
   by_cases h6:i < 6
   ·have j2:(i:Int) < 6:=by omega
    obtain ⟨z,hz⟩:∃ z,us[i]? = some z:=⟨_,List.getElem?_eq_getElem (by rw [HM.out];exact hlt)⟩
    obtain ⟨bl,off,rfl,hbl,hcell0⟩:=HR.out.at hz
    have hcell:=T.out.kept.cell hcell0 id
    have j3:i < c3:=by omega
    obtain ⟨z1,z2⟩:=HI.out z (List.mem_of_getElem? hz)
    have hzt:(us.take 6)[i]? = some z:=by rw [List.getElem?_take,if_pos h6];exact hz
    have EN:Hid (treeF s0 us=((us.take 6).drop (i+1)).foldl treeZ (treeZ s z)):=gh (by rw [E.out,fold_stepT _ hzt])
    obtain ⟨n,hn⟩:∃ n,s.xs.length=n:=⟨_,rfl⟩
    have hop:=(DMem.opened T.out.mem).1.1
    obtain ⟨la,lc,hv,_,hlc,hlm⟩:=T.out.mem.form
    rw [hv,hn] at hop
    have hn7:7≤n:=by have:=T.out.len;omega
    have hnm:(n:Int)≤100000:=by have:=T.out.mem.room;have:=T.out.big;omega
    obtain ⟨A,hA⟩:∃ A:Int,z % (n:Int)=A:=⟨_,rfl⟩
    obtain ⟨u,hu⟩:∃ u,s.look (1+A)=u:=⟨_,rfl⟩
    obtain ⟨k,hk⟩:∃ k,(z.tdiv 1000) % 5=k:=⟨_,rfl⟩
    have A0:0≤A∧A < n:=by rw [← hA];exact ⟨Int.emod_nonneg _ (by omega),Int.emod_lt_of_pos _ (by omega)⟩
    have C1:∀ X,Calls Tryz.prog 36 #[.int .i64 z,.int .i64 (n:Int)] X fun e X'=>e=.returned (.int .i64 A)∧X=X':=fun X=>hA ▸ cut_g X z n (by omega) hnm
    have C2:∀ X,Calls Tryz.prog 36 #[.int .i64 (z.tdiv 1000),.int .i64 5] X fun e X'=>e=.returned (.int .i64 k)∧X=X':=fun X=>hk ▸ cut_g X (z.tdiv 1000) 5 (by decide) (by decide)
    have HC2:=gh C2
    have KK:Hid (0≤k∧k < 5):=gh (by rw [← hk];omega)
    have TZ:Hid (treeZ s z=if k=0 then s.write (1+A) (wrap64 (u+1)) else if k=1 then s.write (1+A) (s.look (1+(z.tdiv 7) % (n:Int))) else if k=2 then s.write (1+A) 0 else if k=3 then s.write (1+A) ((z.tdiv 5000) % 900) else s.write (1+A) (wrap64 (u - 8))):=gh (by
     unfold treeZ
     dsimp only
     rw [hn,hA,hu,hk])
    have WD:Hid (∀ x,treeZ s z=s.write (1+A) x→Calls Tryz.prog 62 #[.pointer (some ⟨mb,0,none⟩),.int .i64 (1+A),.int .i64 x] wr fun e W'=>e=.returned (.tuple #[])∧Tre w W' mb vm (treeZ s z)):=gh (fun x hx=>by
     refine (write_d wr _ mb vm s (1+A) x T.out.mem).mono ?_
     rintro e W' ⟨h0,h1,h2⟩
     exact ⟨h0,T.out.next (by rw [hx];exact h1) h2 (treeZ_ok T.out.ok z) (treeZ_grew s z)⟩)
    have U1:∀ X,DM X mb s→Calls Tryz.prog 43 #[.pointer (some ⟨mb,0,none⟩),.int .i64 (1+A)] X fun e w'=>e=.returned (.int .i64 u)∧X=w':=fun X h=>lk_d X mb s (1+A) u h hu
    have HU:=gh (U1 wr ⟨_,_,_,rfl,T.out.mem⟩)
    clear hz hzt E hu hv hA hk hn C2 U1 hcell0 hbl
    go_wp2_with (fail)
    refine (C1 wr).mono ?_
    rintro e w' ⟨rfl,rfl⟩
    clear C1 hcell
    go_wp2_with (fail)
    refine HU.out.mono ?_
    rintro e w' ⟨rfl,rfl⟩
    go_wp2_with (fail)
    refine (HC2.out wr).mono ?_
    rintro e w' ⟨rfl,rfl⟩
    obtain ⟨k0,k5⟩:0≤k∧k < 5:=KK.out
    by_cases e0:k=0
    ·subst e0
     have TW:=WD.out (wrap64 (u+1)) (by rw [TZ.out];simp)
     have TWH:=gh TW
     clear TW WD TZ HC2 HU
     go_wp2_with (fail)
     refine TWH.out.mono ?_
     rintro e W6 ⟨rfl,w6⟩
     have W6':=gh w6
     clear w6 TWH
     go_wp2
     exact ⟨⟨i+1,_,by simp,by omega,by omega,W6',EN⟩,by simp only [intOf];omega⟩
    by_cases e1:k=1
    ·subst e1
     obtain ⟨A2,hA2⟩:∃ A:Int,(z.tdiv 7) % (n:Int)=A:=⟨_,rfl⟩
     have A20:0≤A2∧A2 < n:=by rw [← hA2];exact ⟨Int.emod_nonneg _ (by omega),Int.emod_lt_of_pos _ (by omega)⟩
     have C3:∀ X,Calls Tryz.prog 36 #[.int .i64 (z.tdiv 7),.int .i64 (n:Int)] X fun e X'=>e=.returned (.int .i64 A2)∧X=X':=fun X=>hA2 ▸ cut_g X (z.tdiv 7) n (by omega) hnm
     have HC3:=gh C3
     obtain ⟨u2,hu2⟩:∃ u,s.look (1+A2)=u:=⟨_,rfl⟩
     have LK:=gh (lk_d wr mb s (1+A2) u2 ⟨_,_,_,rfl,T.out.mem⟩ hu2)
     rw [hA2,hu2] at TZ
     clear C3 hA2 hu2
     have TW:=WD.out u2 (by rw [TZ.out];simp)
     have TWH:=gh TW
     clear TW WD TZ HC2 HU
     go_wp2_with (fail)
     refine (HC3.out wr).mono ?_
     rintro e w' ⟨rfl,rfl⟩
     clear HC3
     go_wp2_with (fail)
     refine LK.out.mono ?_
     rintro e w' ⟨rfl,rfl⟩
     clear LK
     go_wp2_with (fail)
     refine TWH.out.mono ?_
     rintro e W6 ⟨rfl,w6⟩
     have W6':=gh w6
     clear w6 TWH
     go_wp2
     exact ⟨⟨i+1,_,by simp,by omega,by omega,W6',EN⟩,by simp only [intOf];omega⟩
    by_cases e2:k=2
    ·subst e2
     have TW:=WD.out 0 (by rw [TZ.out];simp)
     have TWH:=gh TW
     clear TW WD TZ HC2 HU
     go_wp2_with (fail)
     refine TWH.out.mono ?_
     rintro e W6 ⟨rfl,w6⟩
     have W6':=gh w6
     clear w6 TWH
     go_wp2
     exact ⟨⟨i+1,_,by simp,by omega,by omega,W6',EN⟩,by simp only [intOf];omega⟩
    by_cases e3:k=3
    ·subst e3
     obtain ⟨A2,hA2⟩:∃ A:Int,(z.tdiv 5000) % 900=A:=⟨_,rfl⟩
     have A20:0≤A2∧A2 < 900:=by omega
     have C3:∀ X,Calls Tryz.prog 36 #[.int .i64 (z.tdiv 5000),.int .i64 900] X fun e X'=>e=.returned (.int .i64 A2)∧X=X':=fun X=>hA2 ▸ cut_g X (z.tdiv 5000) 900 (by decide) (by decide)
     have HC3:=gh C3
     rw [hA2] at TZ
     clear C3 hA2
     have TW:=WD.out A2 (by rw [TZ.out];simp)
     have TWH:=gh TW
     clear TW WD TZ HC2 HU
     go_wp2_with (fail)
     refine (HC3.out wr).mono ?_
     rintro e w' ⟨rfl,rfl⟩
     clear HC3
     go_wp2_with (fail)
     refine TWH.out.mono ?_
     rintro e W6 ⟨rfl,w6⟩
     have W6':=gh w6
     clear w6 TWH
     go_wp2
     exact ⟨⟨i+1,_,by simp,by omega,by omega,W6',EN⟩,by simp only [intOf];omega⟩
    have k4:k=4:=by omega
    clear e0 e1 e2 e3
    ·subst k4
     have TW:=WD.out (wrap64 (u - 8)) (by rw [TZ.out];simp)
     have TWH:=gh TW
     clear TW WD TZ HC2 HU
     go_wp2_with (fail)
     refine TWH.out.mono ?_
     rintro e W6 ⟨rfl,w6⟩
     have W6':=gh w6
     clear w6 TWH
     go_wp2
     exact ⟨⟨i+1,_,by simp,by omega,by omega,W6',EN⟩,by simp only [intOf];omega⟩
   ·have j2:¬ (i:Int) < 6:=by omega
    have e1:i=6:=by omega
    have FIN:Hid (Tre w wr mb vm (treeF s0 us)):=gh (by
     have:=E.out
     rw [List.drop_eq_nil_of_le (by rw [List.length_take];omega)] at this
     rw [this];exact T.out)
    clear E T
    go_wp2
    go_ret
    first | exact ⟨mb,rfl,vm,FIN.out⟩ | exact ⟨mb,vm,rfl,FIN.out⟩
  ·have j1:¬ (i:Int) < (M3:Int):=by omega
   have FIN:Hid (Tre w wr mb vm (treeF s0 us)):=gh (by
    have:=E.out
    rw [List.drop_eq_nil_of_le (by rw [List.length_take,HM.out];omega)] at this
    rw [this];exact T.out)
   clear E T
   go_wp2
   go_ret
   first | exact ⟨mb,rfl,vm,FIN.out⟩ | exact ⟨mb,vm,rfl,FIN.out⟩
end
section
open Go.Shelf
def newB (s:Mst) (a n:Int):Bool:=(s.look a == Pt.degZ n) && (s.look (a+1) == n) && (s.look (a+2) == 0) && (s.look (a+3) == 0) && (s.look (a+4) == 0)
theorem isNew_p (w:World) (b:Nat) (s:Mst) (a n:Int) (r:Bool) (h:PM w b s) (ha:0≤a) (ha2:a≤100000) (hn:I64 n) (e1:newB s a n=r) :
  Calls Tryz.prog 174 #[.pointer (some ⟨b,0,none⟩),.int .i64 a,.int .i64 n] w fun e w'=>e=.returned (.bool r)∧w=w':=by
 have H:=gh h
 have HNI:=gh hn
 obtain ⟨z0,hz0⟩:∃ z,s.look a=z:=⟨_,rfl⟩
 obtain ⟨z1,hz1⟩:∃ z,s.look (a+1)=z:=⟨_,rfl⟩
 obtain ⟨z2,hz2⟩:∃ z,s.look (a+2)=z:=⟨_,rfl⟩
 obtain ⟨z3,hz3⟩:∃ z,s.look (a+3)=z:=⟨_,rfl⟩
 obtain ⟨z4,hz4⟩:∃ z,s.look (a+4)=z:=⟨_,rfl⟩
 obtain ⟨d,hd⟩:∃ d,Pt.degZ n=d:=⟨_,rfl⟩
 have HZ0:=gh hz0
 have HZ1:=gh hz1
 have HZ2:=gh hz2
 have HZ3:=gh hz3
 have HZ4:=gh hz4
 have HD:=gh hd
 have E:Hid (r=((z0 == d) && (z1 == n) && (z2 == 0) && (z3 == 0) && (z4 == 0))):=gh (by rw [← e1,newB,hz0,hz1,hz2,hz3,hz4,hd])
 clear h hn hz0 hz1 hz2 hz3 hz4 hd e1
 by_cases y0:d=z0
 ·subst y0
  by_cases y1:n=z1
  ·subst y1
   by_cases y2:0=z2
   ·subst y2
    by_cases y3:0=z3
    ·subst y3
     by_cases y4:0=z4
     ·subst y4
      have HR:Hid (r=true):=gh (by rw [E.out];simp)
      go_enter Tryz.func174,Tryz.ntmps174
      go_wp2_with (fail)
      refine (lk_p _ b s _ d H.out (by first | exact HZ0.out | simpa using HZ0.out)).mono ?_
      rintro e w' ⟨rfl,rfl⟩
      go_wp2_with (fail)
      refine (Pt.deg_c n HNI.out.wf _).mono ?_
      rw [HD.out]
      rintro e w' ⟨rfl,rfl⟩
      go_wp2_with (fail)
      refine (lk_p _ b s (a+1) n H.out HZ1.out).mono ?_
      rintro e w' ⟨rfl,rfl⟩
      go_wp2_with (fail)
      refine (lk_p _ b s (a+2) 0 H.out HZ2.out).mono ?_
      rintro e w' ⟨rfl,rfl⟩
      go_wp2_with (fail)
      refine (lk_p _ b s (a+3) 0 H.out HZ3.out).mono ?_
      rintro e w' ⟨rfl,rfl⟩
      go_wp2_with (fail)
      refine (lk_p _ b s (a+4) 0 H.out HZ4.out).mono ?_
      rintro e w' ⟨rfl,rfl⟩
      go_wp2
      go_ret
      exact ⟨by rw [HR.out];rfl,rfl⟩
     ·replace y4:¬ z4=0:=fun h=>y4 h.symm
      have HR:Hid (r=false):=gh (by rw [E.out];simp [y4])
      have g1:(z4 == 0)=false:=by simp [y4]
      have g2:(z4 != 0)=true:=by simp [y4]
      clear y4
      go_enter Tryz.func174,Tryz.ntmps174
      go_wp2_with (fail)
      refine (lk_p _ b s _ d H.out (by first | exact HZ0.out | simpa using HZ0.out)).mono ?_
      rintro e w' ⟨rfl,rfl⟩
      go_wp2_with (fail)
      refine (Pt.deg_c n HNI.out.wf _).mono ?_
      rw [HD.out]
      rintro e w' ⟨rfl,rfl⟩
      go_wp2_with (fail)
      refine (lk_p _ b s (a+1) n H.out HZ1.out).mono ?_
      rintro e w' ⟨rfl,rfl⟩
      go_wp2_with (fail)
      refine (lk_p _ b s (a+2) 0 H.out HZ2.out).mono ?_
      rintro e w' ⟨rfl,rfl⟩
      go_wp2_with (fail)
      refine (lk_p _ b s (a+3) 0 H.out HZ3.out).mono ?_
      rintro e w' ⟨rfl,rfl⟩
      go_wp2_with (fail)
      refine (lk_p _ b s (a+4) z4 H.out HZ4.out).mono ?_
      rintro e w' ⟨rfl,rfl⟩
      go_wp2
      go_ret
      exact ⟨by rw [HR.out];rfl,rfl⟩
    ·replace y3:¬ z3=0:=fun h=>y3 h.symm
     have HR:Hid (r=false):=gh (by rw [E.out];simp [y3])
     have g1:(z3 == 0)=false:=by simp [y3]
     have g2:(z3 != 0)=true:=by simp [y3]
     clear y3
     go_enter Tryz.func174,Tryz.ntmps174
     go_wp2_with (fail)
     refine (lk_p _ b s _ d H.out (by first | exact HZ0.out | simpa using HZ0.out)).mono ?_
     rintro e w' ⟨rfl,rfl⟩
     go_wp2_with (fail)
     refine (Pt.deg_c n HNI.out.wf _).mono ?_
     rw [HD.out]
     rintro e w' ⟨rfl,rfl⟩
     go_wp2_with (fail)
     refine (lk_p _ b s (a+1) n H.out HZ1.out).mono ?_
     rintro e w' ⟨rfl,rfl⟩
     go_wp2_with (fail)
     refine (lk_p _ b s (a+2) 0 H.out HZ2.out).mono ?_
     rintro e w' ⟨rfl,rfl⟩
     go_wp2_with (fail)
     refine (lk_p _ b s (a+3) z3 H.out HZ3.out).mono ?_
     rintro e w' ⟨rfl,rfl⟩
     go_wp2
     go_ret
     exact ⟨by rw [HR.out];rfl,rfl⟩
   ·replace y2:¬ z2=0:=fun h=>y2 h.symm
    have HR:Hid (r=false):=gh (by rw [E.out];simp [y2])
    have g1:(z2 == 0)=false:=by simp [y2]
    have g2:(z2 != 0)=true:=by simp [y2]
    clear y2
    go_enter Tryz.func174,Tryz.ntmps174
    go_wp2_with (fail)
    refine (lk_p _ b s _ d H.out (by first | exact HZ0.out | simpa using HZ0.out)).mono ?_
    rintro e w' ⟨rfl,rfl⟩
    go_wp2_with (fail)
    refine (Pt.deg_c n HNI.out.wf _).mono ?_
    rw [HD.out]
    rintro e w' ⟨rfl,rfl⟩
    go_wp2_with (fail)
    refine (lk_p _ b s (a+1) n H.out HZ1.out).mono ?_
    rintro e w' ⟨rfl,rfl⟩
    go_wp2_with (fail)
    refine (lk_p _ b s (a+2) z2 H.out HZ2.out).mono ?_
    rintro e w' ⟨rfl,rfl⟩
    go_wp2
    go_ret
    exact ⟨by rw [HR.out];rfl,rfl⟩
  ·replace y1:¬ z1=n:=fun h=>y1 h.symm
   have HR:Hid (r=false):=gh (by rw [E.out];simp [y1])
   have g1:(z1 == n)=false:=by simp [y1]
   have g2:(z1 != n)=true:=by simp [y1]
   clear y1
   go_enter Tryz.func174,Tryz.ntmps174
   go_wp2_with (fail)
   refine (lk_p _ b s _ d H.out (by first | exact HZ0.out | simpa using HZ0.out)).mono ?_
   rintro e w' ⟨rfl,rfl⟩
   go_wp2_with (fail)
   refine (Pt.deg_c n HNI.out.wf _).mono ?_
   rw [HD.out]
   rintro e w' ⟨rfl,rfl⟩
   go_wp2_with (fail)
   refine (lk_p _ b s (a+1) z1 H.out HZ1.out).mono ?_
   rintro e w' ⟨rfl,rfl⟩
   go_wp2
   go_ret
   exact ⟨by rw [HR.out];rfl,rfl⟩
 ·replace y0:¬ z0=d:=fun h=>y0 h.symm
  have HR:Hid (r=false):=gh (by rw [E.out];simp [y0])
  have g1:(z0 == d)=false:=by simp [y0]
  have g2:(z0 != d)=true:=by simp [y0]
  clear y0
  go_enter Tryz.func174,Tryz.ntmps174
  go_wp2_with (fail)
  refine (lk_p _ b s _ z0 H.out (by first | exact HZ0.out | simpa using HZ0.out)).mono ?_
  rintro e w' ⟨rfl,rfl⟩
  go_wp2_with (fail)
  refine (Pt.deg_c n HNI.out.wf _).mono ?_
  rw [HD.out]
  rintro e w' ⟨rfl,rfl⟩
  go_wp2
  go_ret
  exact ⟨by rw [HR.out];rfl,rfl⟩
end
end Go.Proofs.YtnjkmmmfhponlaaGreat
