/-
  What the proof of YtnjkmmmfhponlaaGreatU1 goes by, part 9 of 10: contracts and plain facts; each part begins with its own sentence. No conditions beyond each theorem's own.
-/
import Derived.Test.YtnjkmmmfhponlaaGreatS8
namespace Go.Proofs.YtnjkmmmfhponlaaGreat
open Go.RowKit
section
set_option maxRecDepth 20000
theorem record_d (W:World) (n₀ b:Nat) (v:Value) (s:Mst) (k:Int) (a:Option Addr) (ws:List Int) (M cw:Nat) (hM:ws.length=M) (h:DMem W n₀ b v s) (hn:n₀≤W.heap.size) (hr:Reads W a ws) (hl:M≤1000000) (hs:∀ ad,a=some ad→ad.block≠b) (z:Int) (s':Mst) (e1:recS s k ws=(z,s')) :
  ∃ x y,Rf.ofZ k x=z∧Calls Tryz.prog 56 #[.pointer (some ⟨b,0,none⟩),.slice a M cw] W fun e W'=>e=.returned (.tuple #[.int .i64 x,.bool y])∧Does 86 layD n₀ b v s' W W':=by
 subst hM
 refine ⟨s.next ws,s.fits ws.length,congrArg Prod.fst e1,?_⟩
 have:=make_d W n₀ b v s a ws cw h hn hr (by unfold maxLen;omega) (fun _=>hs)
 rw [show s.make ws=s' from congrArg Prod.snd e1] at this
 exact this
def LayCD (f:Nat):Prop:=∀ (W:World) (n₀ b:Nat) (v:Value) (s:Mst) (a:Option Addr) (ps:List (Int × Int)) (M cap:Nat) (_:DMem W n₀ b v s) (_:n₀≤W.heap.size) (_:PReads W a ps) (_:ps.length=M) (_:M≤cap) (_:cap≤maxLen) (_:M≤16384) (_:M < f) (_:ps≠[]→∀ ad,a=some ad→¬ Foot b v ad.block) (z:Int) (s':Mst) (_:layF f s ps=(z,s')),
  Calls Tryz.prog 181 #[.pointer (some ⟨b,0,none⟩),.slice a M cap] W fun e W'=>e=.returned (.int .i64 z)∧Does 86 layD n₀ b v s' W W'
set_option maxHeartbeats 4000000 in
theorem buildInner_d (f:Nat) (ih:LayCD f) (W:World) (n₀ b:Nat) (v:Value) (s:Mst) (a:Option Addr) (ps:List (Int × Int)) (M cap:Nat) (h:DMem W n₀ b v s) (hn:n₀≤W.heap.size) (hr:PReads W a ps) (hM:ps.length=M) (hc:M≤cap) (hcm:cap≤maxLen) (hm:M≤16384) (hf:M < f+1) (h2:2≤M) (ha:∀ ad,a=some ad→¬ Foot b v ad.block) (z:Int) (s':Mst) (e1:layF (f+1) s ps=(z,s')) :
  Calls Tryz.prog 181 #[.pointer (some ⟨b,0,none⟩),.slice a M cap] W fun e W'=>e=.returned (.int .i64 z)∧Does 86 layD n₀ b v s' W W':=by
 have db:=Pt.deg_bound (n:=(M:Int)) (by omega) (by omega)
 obtain ⟨D,hD⟩:∃ D:Nat,Pt.degZ (M:Int)=(D:Int):=⟨(Pt.degZ M).toNat,by omega⟩
 rw [hD] at db
 obtain ⟨d1,d2,d3⟩:=db
 have e2:recS (kidF (layF f) ps s D).2 3 (innerL (M:Int) (lowL ps D) (kidF (layF f) ps s D).1)=(z,s'):=by
  rw [layF_succ,hM,if_neg (by omega),if_neg (by omega),hD] at e1
  exact e1
 obtain ⟨bl,off,rfl⟩:∃ bl off,a=some ⟨bl,off,none⟩:=by
  rcases hr with e | ⟨bl,off,e,_⟩
  ·rw [e] at hM;simp at hM;omega
  ·exact ⟨bl,off,e⟩
 have hcm':(cap:Int)≤9223372036854775807:=by unfold maxLen at hcm;omega
 have hb1:bl < W.heap.size:=by
  obtain ⟨p,hp⟩:∃ p,ps[0]? = some p:=⟨_,List.getElem?_eq_getElem (by omega)⟩
  obtain ⟨bl',off',e,h1,_⟩:=hr.at hp
  cases e
  exact h1
 have HA:=gh (ha _ rfl)
 have HB:=gh hb1
 have HR:=gh hr
 have HM:=gh hM
 have H:=gh h
 have HN:=gh hn
 have IH:=gh ih
 have HD:=gh hD
 have E2:=gh e2
 have HCM:=gh hcm
 have HF:=gh hf
 have S1:Hid (InnI 86 layD f n₀ b v W s ps (.slice none 0 0) (.slice none 0 0) 0 W):=gh (LayI.start h (Kept.refl W) (World.ownsRow_nil _ _ _ _) (World.ownsRow_nil _ _ _ _) (fun k hk=>by simp [Value.ownBlock] at hk))
 have FZ:Hid (Pt.aheadZ (M:Int) 0=0):=gh (Pt.ahead_zero (by rw [hD];omega))
 have g0:((M:Int) == 0)=false:=by simp only [beq_eq_false_iff_ne,ne_eq];omega
 have g1:((M:Int) == 1)=false:=by simp only [beq_eq_false_iff_ne,ne_eq];omega
 clear h hr ha hM ih e1 e2 hD hcm hf hn hb1
 go_enter Tryz.func181,Tryz.ntmps181
 go_wp2
 go_loopw [10,11,12,13,14,15] (fun vq vc at_ i _ _ wr=>∃ (t:Nat) (x:Int),t≤D∧i=.int .i64 t∧at_=.int .i64 x∧0≤x∧x≤(M:Int)∧Hid (Pt.aheadZ (M:Int) (t:Int)=x)∧Hid (InnI 86 layD f n₀ b v W s ps vq vc t wr)) (fun _ _ _ i _ _ _=>D - (intOf i).toNat)
 case atStart=>exact ⟨0,0,Nat.zero_le _,rfl,rfl,by omega,by omega,FZ,S1⟩
 case round=>
  obtain ⟨t,x,ht,rfl,rfl,x0,x1,HX,HI⟩:=hrel
  clear S1 FZ
  by_cases hlt:t < D
  ·have pin:=part_in (n:=(M:Int)) (i:=(t:Int)) (by omega) (by rw [HD.out];omega)
   have sb:=Pt.size_bound (n:=(M:Int)) (i:=(t:Int)) (by omega) (by rw [HD.out];omega)
   obtain ⟨F,hF⟩:∃ F:Nat,Pt.fromZ (M:Int) (t:Int)=(F:Int):=⟨(Pt.fromZ (M:Int) (t:Int)).toNat,by omega⟩
   obtain ⟨S,hS⟩:∃ S:Nat,Pt.sizeZ (M:Int) (t:Int)=(S:Int):=⟨(Pt.sizeZ (M:Int) (t:Int)).toNat,by omega⟩
   rw [hF,hS] at pin
   rw [hS] at sb
   have hown:partL ps (t:Int)=(ps.drop F).take S:=by unfold partL;rw [HM.out,hF,hS];rfl
   obtain ⟨own,ho⟩:∃ own,partL ps (t:Int)=own:=⟨_,rfl⟩
   have OWL:Hid (own.length=S):=gh (by rw [← ho,hown,List.length_take,List.length_drop,HM.out];omega)
   have OWN:Hid (own=(ps.drop F).take S):=gh (by rw [← ho,hown])
   unfold InnI at HI
   have KS:Hid (kidF (layF f) ps s (t+1)=((kidF (layF f) ps s t).1++[(layF f (kidF (layF f) ps s t).2 own).1],(layF f (kidF (layF f) ps s t).2 own).2)):=gh (by rw [kidF,ho])
   have LS:Hid (0 < t→lowL ps (t+1)=lowL ps t++[(own.headD (0,0)).1]):=gh (fun h=>by rw [lowL,if_neg (by omega),ho])
   have CL:=kidF_len (layF f) ps s t
   have QL:=lowL_len ps t
   obtain ⟨cs,hcs⟩:∃ cs,(kidF (layF f) ps s t).1=cs:=⟨_,rfl⟩
   obtain ⟨st,hst⟩:∃ st,(kidF (layF f) ps s t).2=st:=⟨_,rfl⟩
   obtain ⟨qs,hqs⟩:∃ qs,lowL ps t=qs:=⟨_,rfl⟩
   obtain ⟨zc,sc,hz⟩:∃ zc sc,layF f st own=(zc,sc):=⟨_,_,rfl⟩
   rw [hcs,hst,hz] at KS
   rw [hqs] at LS QL
   rw [hcs] at CL
   rw [hcs,hst,hqs] at HI
   have HZ:=gh hz
   have HFF:=gh hF
   have HSS:=gh hS
   have HCL:=gh CL
   have HQL:=gh QL
   obtain ⟨p1,p2,p3⟩:=pin
   have p4:F+S≤M:=by omega
   have p5:1≤S:=by omega
   have p6:S < M:=by omega
   have i1:(t:Int) < (D:Int):=by omega
   have xF:x=(F:Int):=by rw [← HX.out,← hF,Pt.from_some (by omega) (by rw [HD.out];omega)]
   have XN:Hid (Pt.aheadZ (M:Int) ((t+1:Nat):Int)=(F:Int)+(S:Int)):=gh (by rw [Int.natCast_add,Int.natCast_one,Pt.ahead_step (by omega) (by rw [HD.out];omega),HX.out,hS,xF])
   subst xF
   clear hown ho hcs hst hqs hz hF hS sb p1 p2 p3 CL QL HX x0 x1
   go_wp2_with (fail)
   refine (Pt.deg_r (M:Int) (I64.wf ⟨by omega,by omega⟩) _).mono ?_
   rw [HD.out]
   rintro e w' ⟨rfl,rfl⟩
   go_wp2_with (fail)
   refine (Pt.size_r (M:Int) (t:Int) (I64.wf ⟨by omega,by omega⟩) _).mono ?_
   rw [HSS.out]
   rintro e w2 ⟨rfl,rfl⟩
   have PR:=LayI.list HI.out HR.out HA.out F S
   rw [← OWN.out] at PR
   have c0:=(preads_head PR (by have:=OWL.out;omega)).1
   obtain ⟨hk,hhk⟩:∃ x,(own.headD (0,0)).1=x:=⟨_,rfl⟩
   rw [hhk] at c0 LS
   clear PR hhk
   by_cases g0:(0:Int) < (t:Int)
   ·go_wp2_with (at_builtin;refine Stop.out ?_)
    refine ⟨?_⟩
    refine wpList_append_q rfl _ _ rfl rfl rfl HI.out (by have:=HQL.out;omega) rfl ?_
    intro vq' wq iq
    have IQ:=gh iq
    clear iq HI c0
    go_wp2_with (fail)
    obtain ⟨v1,m1,f1,st1⟩:=IQ.out.step
    have PR1:=LayI.list IQ.out HR.out HA.out F S
    rw [← OWN.out] at PR1
    refine (IH.out _ n₀ b v1 st _ own S (cap - F) m1 (Nat.le_trans HN.out IQ.out.turned.size) PR1 OWL.out (by omega) (by have:=HCM.out;omega) (by omega) (by have:=HF.out;omega) (fun _ ad e hk=>by
     cases e
     rcases f1 _ hk with e | e
     ·exact HA.out e
     ·have:=HB.out;exact absurd e (by simp only;omega)) zc sc HZ.out).mono ?_
    rintro e w3 ⟨rfl,d3⟩
    have I3:=gh (st1 _ _ d3)
    clear d3 st1 m1 f1 PR1 IQ
    go_wp2_with (at_builtin;refine Stop.out ?_)
    refine ⟨?_⟩
    refine wpList_append_c rfl _ _ rfl rfl rfl I3.out (by have:=HCL.out;omega) rfl ?_
    intro v4 w4 i4
    have I4:=gh i4
    clear i4 I3
    go_wp2
    exact ⟨⟨t+1,(F:Int)+S,by omega,by simp,rfl,by omega,by omega,XN,gh (by unfold InnI;rw [KS.out,LS.out (by omega)];exact I4.out)⟩,by simp [intOf];omega⟩
   ·have z0:t=0:=by omega
    have QN:Hid (lowL ps (t+1)=qs):=gh (by
     have h1:=lowL_len ps (t+1)
     have h2:=HQL.out
     rw [z0] at h1 h2
     rw [z0,List.length_eq_zero_iff.1 h1,List.length_eq_zero_iff.1 h2])
    clear c0 z0
    go_wp2_with (fail)
    obtain ⟨v1,m1,f1,st1⟩:=HI.out.step
    have PR1:=LayI.list HI.out HR.out HA.out F S
    rw [← OWN.out] at PR1
    refine (IH.out _ n₀ b v1 st _ own S (cap - F) m1 (Nat.le_trans HN.out HI.out.turned.size) PR1 OWL.out (by omega) (by have:=HCM.out;omega) (by omega) (by have:=HF.out;omega) (fun _ ad e hk=>by
     cases e
     rcases f1 _ hk with e | e
     ·exact HA.out e
     ·have:=HB.out;exact absurd e (by simp only;omega)) zc sc HZ.out).mono ?_
    rintro e w3 ⟨rfl,d3⟩
    have I3:=gh (st1 _ _ d3)
    clear d3 st1 m1 f1 PR1 HI
    go_wp2_with (at_builtin;refine Stop.out ?_)
    refine ⟨?_⟩
    refine wpList_append_c rfl _ _ rfl rfl rfl I3.out (by have:=HCL.out;omega) rfl ?_
    intro v4 w4 i4
    have I4:=gh i4
    clear i4 I3
    go_wp2
    exact ⟨⟨t+1,(F:Int)+S,by omega,by simp,rfl,by omega,by omega,XN,gh (by unfold InnI;rw [KS.out,QN.out];exact I4.out)⟩,by simp [intOf];omega⟩
  ·obtain rfl:t=D:=by omega
   unfold InnI at HI
   have CL:=kidF_len (layF f) ps s t
   have QL:=lowL_len ps t
   obtain ⟨cs,hcs⟩:∃ cs,(kidF (layF f) ps s t).1=cs:=⟨_,rfl⟩
   obtain ⟨st,hst⟩:∃ st,(kidF (layF f) ps s t).2=st:=⟨_,rfl⟩
   obtain ⟨qs,hqs⟩:∃ qs,lowL ps t=qs:=⟨_,rfl⟩
   rw [hcs,hst,hqs] at HI E2
   rw [hqs] at QL
   rw [hcs] at CL
   obtain ⟨aq,cq,rfl,rq,q0⟩:=HI.out.q.form
   obtain ⟨ac,cc,rfl,rc,c0⟩:=HI.out.c.form
   have HIN:=gh (inner_r _ (M:Int) aq qs cq ac cs cc rq rc q0 c0 (by omega) (by omega))
   have WL:Hid ((innerL (M:Int) qs cs).length≤1000000):=gh (by rw [innerL_length];omega)
   obtain ⟨ws,hws⟩:∃ ws,innerL (M:Int) qs cs=ws:=⟨_,rfl⟩
   rw [hws] at HIN E2 WL
   clear hcs hst hqs hws rq rc q0 c0 CL QL
   go_wp2_with (fail)
   refine (Pt.deg_r (M:Int) (I64.wf ⟨by omega,by omega⟩) _).mono ?_
   rw [HD.out]
   rintro e w' ⟨rfl,rfl⟩
   go_wp2_with (fail)
   refine HIN.out.mono ?_
   intro e w1 hf
   obtain ⟨a1,cap1,rfl,r1,-,-,lo1,-,k1⟩:=hf.form
   have I1:=gh (HI.out.kept k1)
   have R1:=gh r1
   have LO:Hid (∀ ad,a1=some ad→ad.block≠b):=gh (fun ad e=>by
    obtain ⟨v1,m1,_⟩:=HI.out.mem
    have e1:=lo1 ad e
    have e2:=(m1.lt b (.inl rfl)).2
    omega)
   clear hf k1 r1 lo1 HI HIN
   go_wp2_with (fail)
   obtain ⟨v1,m1,f1,st1⟩:=I1.out.step
   obtain ⟨x2,y2,ex,hx2⟩:=record_d _ n₀ b v1 st 3 a1 ws ws.length cap1 rfl m1 (Nat.le_trans HN.out I1.out.turned.size) R1.out WL.out LO.out z s' E2.out
   refine hx2.mono ?_
   rintro e w3 ⟨rfl,d3⟩
   have D3:=gh (Does.then I1.out.turned f1 d3)
   have EX:=gh ex
   clear d3 st1 m1 f1 hx2 ex
   go_wp2_with (fail)
   refine (ofr_c 3 x2 z EX.out _).mono ?_
   rintro e w4 ⟨rfl,rfl⟩
   go_wp2
   go_ret
   exact ⟨rfl,D3.out⟩
set_option maxHeartbeats 4000000 in
theorem build_d:∀ f,LayCD f
 | 0=>fun _ _ _ _ _ _ _ _ _ _ _ _ _ _ _ _ h=>by omega
 | f+1=>fun W n₀ b v s a ps M cap h hn hr hM hc hcm hm hf ha z s' e1=>by
  have ih:=build_d f
  have hcm':(cap:Int)≤9223372036854775807:=by unfold maxLen at hcm;omega
  by_cases h0:M=0
  ·have e2:recS s 1 [0]=(z,s'):=by rw [← e1,layF_succ,if_pos (by omega)]
   have H:=gh h
   have HN:=gh hn
   have E2:=gh e2
   have g0:((M:Int) == 0)=true:=by simp [h0]
   clear h hn hr hM ha e1 e2 ih hcm
   go_enter Tryz.func181,Tryz.ntmps181
   go_wp2_with (fail)
   refine (empty_r W).mono ?_
   intro e w1 hff
   obtain ⟨a1,cap1,rfl,r1,-,-,lo1,-,k1⟩:=hff.form
   have R1:=gh r1
   have K1:=gh k1
   have LO:Hid (∀ ad,a1=some ad→ad.block≠b):=gh (fun ad e=>by
    have e1:=lo1 ad e
    have e2:=(H.out.lt b (.inl rfl)).2
    omega)
   clear hff k1 r1 lo1
   go_wp2_with (fail)
   obtain ⟨x2,y2,ex,hx2⟩:=record_d _ n₀ b v s 1 a1 [0] _ cap1 rfl (H.out.kept K1.out) (Nat.le_trans HN.out K1.out.size) R1.out (by decide) LO.out z s' E2.out
   refine hx2.mono ?_
   rintro e w3 ⟨rfl,d3⟩
   have D3:=gh (Does.after K1.out d3)
   have EX:=gh ex
   clear d3 hx2 ex
   go_wp2_with (fail)
   refine (ofr_c 1 x2 z EX.out _).mono ?_
   rintro e w4 ⟨rfl,rfl⟩
   go_wp2
   go_ret
   exact ⟨rfl,D3.out⟩
  ·by_cases h1:M=1
   ·subst h1
    obtain ⟨p,rfl⟩:∃ p,ps=[p]:=List.length_eq_one_iff.1 hM
    have e2:recS s 2 [p.1,p.2]=(z,s'):=by rw [← e1,layF_succ,if_neg (by simp),if_pos (by simp)];rfl
    obtain ⟨bl,off,rfl⟩:∃ bl off,a=some ⟨bl,off,none⟩:=by
     obtain ⟨bl,off,e,_⟩:=hr.at (j:=0) (p:=p) rfl
     exact ⟨bl,off,e⟩
    obtain ⟨c1,c2⟩:=preads_head hr (by simp)
    simp only [List.headD_cons] at c1 c2
    obtain ⟨V,hV⟩:∃ V,W.drew=V:=⟨_,rfl⟩
    have kV:Kept W V:=by rw [← hV];exact Kept.drew _
    have hna:=ha (by simp) _ rfl
    have x1:∀ u:Wd (fun U=>Td (Foot b v) V U),u.w.cell? ⟨bl,off,none⟩=some (.int .i64 p.1):=fun u=>u.ok.cell (kV.cell c1 id) hna
    have x2:∀ u:Wd (fun U=>Td (Foot b v) V U),u.w.cell? ⟨bl,off+1,none⟩=some (.int .i64 p.2):=fun u=>u.ok.cell (kV.cell c2 id) hna
    have HV:=gh hV
    have KV:=gh kV
    have H:=gh (h.kept kV)
    have HN:=gh (Nat.le_trans hn kV.size)
    have E2:=gh e2
    obtain ⟨p1,p2⟩:=p
    simp only at x1 x2 E2
    clear h hn hr hM ha e1 e2 ih hcm c1 c2 hna hV kV
    go_enter Tryz.func181,Tryz.ntmps181
    go_wp2_with (fail)
    refine region_wide [0,1,2,3,4,5,6,7,8,9,10,11,12,13,14,15] (fun U=>Td (Foot b v) V U) (by kernel_rfl) (by kernel_rfl) (by rw [HV.out];exact Td.refl _ _) (fun _=>?_)
    rw [HV.out]
    repeat (refine pq rfl rfl ?_;go_big_quiet_step (fail);refine wpQuiet_nil ?_)
    refine pl rfl rfl ?_
    gi_wp2_with (fail)
    refine ⟨trivial,?_⟩
    refine (callsIn_wide.2 (leaf_r V p1 p2)).mono ?_
    intro e w1 hff
    obtain ⟨a1,cap1,rfl,r1,-,-,lo1,-,k1⟩:=hff.form
    have R1:=gh r1
    have K1:=gh k1
    have LO:Hid (∀ ad,a1=some ad→ad.block≠b):=gh (fun ad e=>by
     have e1:=lo1 ad e
     have e2:=(H.out.lt b (.inl rfl)).2
     omega)
    clear hff k1 r1 lo1
    gi_wp2_with (fail)
    refine ⟨Wd.mem (K1.out.mono (fun _ _ e=>e.elim)),?_⟩
    refine pl rfl rfl ?_
    gi_wp2_with (fail)
    refine ⟨trivial,?_⟩
    obtain ⟨x3,y3,ex,hx3⟩:=record_d _ n₀ b v s 2 a1 [p1,p2] _ cap1 rfl (H.out.kept K1.out) (Nat.le_trans HN.out K1.out.size) R1.out (by simp) LO.out z s' E2.out
    refine (callsIn_wide.2 hx3).mono ?_
    rintro e w3 ⟨rfl,d3⟩
    have D3:=gh (Does.after (KV.out.trans K1.out) d3)
    have T3:Hid (Td (Foot b v) V w3):=gh (by
     obtain ⟨_,_,t3,_⟩:=Does.after K1.out d3
     exact t3)
    have EX:=gh ex
    clear d3 hx3 ex
    gi_wp2_with (fail)
    refine ⟨Wd.mem T3.out,?_⟩
    repeat (refine pq rfl rfl ?_;go_big_quiet_step (fail);refine wpQuiet_nil ?_)
    refine perm_done ?_
    go_wp2_with (fail)
    refine (ofr_c 2 x3 z EX.out _).mono ?_
    rintro e w4 ⟨rfl,rfl⟩
    go_wp2
    go_ret
    exact ⟨rfl,D3.out⟩
   ·exact buildInner_d f ih W n₀ b v s a ps M cap h hn hr hM hc hcm hm hf (by omega) (ha (fun e=>by rw [e] at hM;simp at hM;omega)) z s' e1
end
namespace Pt
open Go.ChangeShapes Go.WideShapes Go.ChangeAt Go.RowKit
theorem cells_rf (f:Nat):∀ (n:Int),n.toNat≤f→(Lit.int .i64 n).wf=true→∀ (w:World),
  Calls Tryz.prog 180 #[.int .i64 n] w fun e w'=>e=.returned (.int .i64 (celZ n))∧w=w':=by
 induction f with
 | zero=>
  intro n hf hn w
  have hn':=bounds_i64 hn
  clear hn
  by_cases c:n < 0
  ·rw [cel_none (by omega)]
   go_enter Tryz.func180,Tryz.ntmps180
   go_wp2
   go_ret
   exact ⟨rfl,rfl⟩
  ·obtain rfl:n=0:=by omega
   rw [cel_is_0]
   go_enter Tryz.func180,Tryz.ntmps180
   go_wp2
   go_ret
   exact ⟨rfl,rfl⟩
 | succ f ih=>
  intro n hf hn w
  have hn':=bounds_i64 hn
  by_cases c:n < 0
  ·rw [cel_none (by omega)]
   clear hn ih
   go_enter Tryz.func180,Tryz.ntmps180
   go_wp2
   go_ret
   exact ⟨rfl,rfl⟩
  ·by_cases c1:16384 < n
   ·rw [cel_none (by omega)]
    clear hn ih
    go_enter Tryz.func180,Tryz.ntmps180
    go_wp2
    go_ret
    exact ⟨rfl,rfl⟩
   ·by_cases c2:n < 2
    ·rw [cel_few (by omega) c2]
     clear hn ih
     go_enter Tryz.func180,Tryz.ntmps180
     go_wp2
     go_ret
     exact ⟨rfl,rfl⟩
    ·have hd:=deg_r n hn
     have d:=deg_bound (n:=n) (by omega) (by omega)
     have HE:=gh (cs_end (n:=n) (by omega))
     obtain ⟨z,ez⟩:∃ z,degZ n=z:=⟨_,rfl⟩
     have HZ:=gh ez
     rw [ez] at hd d HE
     obtain ⟨r,er⟩:∃ r,celZ n=r:=⟨_,rfl⟩
     rw [er] at HE ⊢
     have hn2:=gh hn
     have ih2:=gh ih
     clear hn ez er ih
     go_enter Tryz.func180,Tryz.ntmps180
     go_wp2_with (go_at_call 138;refine (hd _).mono ?_;rintro e w' ⟨rfl,rfl⟩)
     go_loop [3,4] (fun a k=>∃ x y:Int,Hid (4+z * 2+csZ n y=x)∧0≤y∧y≤z∧a=.int .i64 x∧k=.int .i64 y) (fun _ k=>(z - intOf k).toNat)
     case atStart=>exact ⟨4+2 * z,0,gh (by rw [cs_zero (by have:=HZ.out;omega)];omega),by omega,by omega,rfl,rfl⟩
     case round=>
      obtain ⟨x,y,H,y0,y1,rfl,rfl⟩:=hrel
      by_cases g:y < z
      ·have hs:=size_r n y hn2.out
       have sb:=size_bound (n:=n) (i:=y) y0 (by have:=HZ.out;omega)
       have hi:=ih2.out (sizeZ n y) (by omega) (wf_int (by omega) (by omega))
       have cb:=cel_nat (sizeZ n y)
       have nb:=cs_nat (n:=n) (i:=y) (by have:=HZ.out;omega) y0 (by have:=HZ.out;omega)
       have st:=cs_step (n:=n) (i:=y) y0 (by have:=HZ.out;omega)
       have xb:0≤x∧x≤100000000:=by have:=H.out;omega
       have H2:=gh (show 4+z * 2+csZ n (y+1)=x+celZ (sizeZ n y) by rw [st];have:=H.out;omega)
       clear st nb H HE HZ ih2
       generalize celZ (sizeZ n y)=u at *
       generalize sizeZ n y=s at *
       go_wp2_with fail
       refine (hd _).mono ?_
       rintro e w' ⟨rfl,rfl⟩
       go_wp2_with fail
       refine (hs _).mono ?_
       rintro e w' ⟨rfl,rfl⟩
       go_wp2_with fail
       refine (hi _).mono ?_
       rintro e w' ⟨rfl,rfl⟩
       go_wp2
       go_round
       case rel=>exact ⟨x+u,y+1,H2,by omega,by omega,rfl,rfl⟩
       case measure=>simp [intOf];omega
      ·obtain rfl:y=z:=by omega
       have e:x=r:=by rw [← H.out,HE.out]
       subst e
       clear H HE HZ ih2
       go_wp2_with (go_at_call 138;refine (hd _).mono ?_;rintro e w' ⟨rfl,rfl⟩)
       go_ret
       exact ⟨rfl,rfl⟩
theorem cells_r (n:Int) (hn:(Lit.int .i64 n).wf=true) (w:World) :
  Calls Tryz.prog 180 #[.int .i64 n] w fun e w'=>e=.returned (.int .i64 (celZ n))∧w=w':=cells_rf n.toNat n (Nat.le_refl _) hn w
end Pt
section
set_option maxRecDepth 20000
theorem map_d (W:World) (a:Option Addr) (ps:List (Int × Int)) (M cap:Nat) (hr:PReads W a ps) (hM:ps.length=M) (hc:M≤cap) (hm:M≤5000) (r:Bool) (e1:decide ((ps.map Prod.fst).Pairwise (· < ·))=r) :
  Calls Tryz.prog 54 #[.slice a M cap] W fun e W'=>e=.returned (.bool r)∧∃ m,W'=W.drewN m:=by
 have HR:=gh hr
 have HM:=gh hM
 have E1:=gh e1
 have hm':(M:Int)≤5000:=by omega
 clear hr hM e1
 go_enter Tryz.func54,Tryz.ntmps54
 go_wp2
 go_loopw [3] (fun i wr=>∃ k d:Nat,(k < M∨k=0)∧i=.int .i64 ((k:Int)+1)∧Hid (Pb.PwTo (ps.map Prod.fst) (k+1))∧wr=W.drewN d) (fun i _=>M+1 - (intOf i).toNat)
 case atStart=>exact ⟨0,0,.inr rfl,rfl,gh (.start _),rfl⟩
 case round=>
  obtain ⟨k,d,hk1,rfl,HP,rfl⟩:=hrel
  by_cases hlt:k+1 < M
  ·obtain ⟨⟨x,xv⟩,hp⟩:∃ p,ps[k+1]? = some p:=⟨_,List.getElem?_eq_getElem (by have:=HM.out;omega)⟩
   obtain ⟨⟨y,yv⟩,hq⟩:∃ p,ps[k]? = some p:=⟨_,List.getElem?_eq_getElem (by have:=HM.out;omega)⟩
   have hx:(ps.map Prod.fst)[k+1]? = some x:=by rw [List.getElem?_map,hp];rfl
   have hy:(ps.map Prod.fst)[k]? = some y:=by rw [List.getElem?_map,hq];rfl
   obtain ⟨bl,off,rfl,hbl,g1,-⟩:=HR.out.at hp
   obtain ⟨bl',off',hbe,_,g3,-⟩:=HR.out.at hq
   cases hbe
   have i1:(k:Int)+1 < (M:Int):=by omega
   have i3:k+1 < cap:=by omega
   simp only at g1 g3
   by_cases hyx:y < x
   ·have HP2:Hid (Pb.PwTo (ps.map Prod.fst) (k+1+1)):=gh (Pb.pw_snoc HP.out hy hx hyx)
    have hzy:¬ (x≤y):=by omega
    clear hp hq hx hy hk1 HP hyx
    go_wp2
    go_quiet (fail)
    go_wp2
    exact ⟨⟨k+1,_,.inl (by omega),by simp,HP2,rfl⟩,by simp [intOf];omega⟩
   ·have HF:Hid (r=false):=gh (by rw [← E1.out];exact decide_eq_false (Pb.pw_not hy hx (by omega)))
    have hyz':x≤y:=by omega
    clear hp hq hx hy hk1 HP hyx
    go_wp2
    go_quiet (fail)
    go_wp2
    go_ret
    exact ⟨by rw [HF.out];rfl,_,World.drewN_drewN ..⟩
  ·have i1:¬ ((k:Int)+1 < (M:Int)):=by omega
   have HF:Hid (r=true):=gh (by
    rw [← E1.out]
    refine decide_eq_true ?_
    have:((ps.map Prod.fst).take (k+1)).Pairwise (· < ·):=HP.out
    rwa [List.take_of_length_le (by rw [List.length_map,HM.out];omega)] at this)
   clear HP
   go_wp2
   go_ret
   exact ⟨by rw [HF.out];rfl,_,rfl⟩
theorem asc_d (W:World) (a:Option Addr) (ps:List (Int × Int)) (M cap:Nat) (hr:PReads W a ps) (hM:ps.length=M) (hc:M≤cap) (hm:M≤5000) (r:Bool) (e1:ascB ps=r) :
  Calls Tryz.prog 144 #[.slice a M cap] W fun e W'=>e=.returned (.bool r)∧Kept W W':=by
 have HD:=gh (map_d W a ps M cap hr hM hc hm r (by
  rw [← e1]
  unfold ascB
  exact decide_eq_decide.2 ⟨fun h=>⟨by omega,h⟩,fun h=>h.2⟩))
 have i1:(M:Int)≤16384:=by omega
 clear hr hM e1 hm
 cases r with
 | true=>
  go_enter Tryz.func144,Tryz.ntmps144
  go_wp2_with (fail)
  refine HD.out.mono ?_
  rintro e w1 ⟨rfl,m,rfl⟩
  go_wp2
  go_ret
  exact ⟨rfl,Kept.drewN _ _⟩
 | false=>
  go_enter Tryz.func144,Tryz.ntmps144
  go_wp2_with (fail)
  refine HD.out.mono ?_
  rintro e w1 ⟨rfl,m,rfl⟩
  go_wp2
  go_ret
  exact ⟨rfl,Kept.drewN _ _⟩
set_option maxHeartbeats 4000000 in
theorem buildA_d (W:World) (n₀ b:Nat) (v:Value) (s:Mst) (a:Option Addr) (ps:List (Int × Int)) (M cap:Nat) (h:DMem W n₀ b v s) (hn:n₀≤W.heap.size) (hr:PReads W a ps) (hM:ps.length=M) (hc:M≤cap) (hcm:cap≤maxLen) (hm5:M≤5000) (ha:ps≠[]→∀ ad,a=some ad→¬ Foot b v ad.block) (z:Int) (r:Bool) (s':Mst) (e1:buildS s ps=((z,r),s')) :
  Calls Tryz.prog 145 #[.pointer (some ⟨b,0,none⟩),.slice a M cap] W fun e W'=>e=.returned (.tuple #[.int .i64 z,.bool r])∧Does 86 layD n₀ b v s' W W':=by
 obtain ⟨V,hV⟩:∃ V,W.drew=V:=⟨_,rfl⟩
 have kV:Kept W V:=by rw [← hV];exact Kept.drew _
 have H:=gh (h.kept kV)
 have HRG:=fun r=>asc_d V a ps M cap (hr.kept kV) hM hc hm5 r
 have hcm':(M:Int)≤9223372036854775807:=by unfold maxLen at hcm;omega
 have hl:=h.len
 have hroom:=h.room
 have htop:=h.top
 obtain ⟨a0,c0,rfl,_⟩:=h.form
 have x1:∀ u:Wd (fun U=>Kept V U),u.w.cell? ⟨b,0,none⟩=some (.int .i64 s.size):=fun u=>(DMem.opened (H.out.kept u.ok)).1.2.1
 have x2:∀ u:Wd (fun U=>Kept V U),u.w.cell? ⟨b,1,none⟩=some (.slice a0 s.xs.length c0):=fun u=>(DMem.opened (H.out.kept u.ok)).1.1
 have HV:=gh hV
 have KV:=gh kV
 cases hb:ascB ps with
 | false=>
  have HR:=gh (HRG false hb)
  rw [buildS,if_neg (by rw [hb];simp)] at e1
  simp only [Prod.mk.injEq] at e1
  obtain ⟨⟨rfl,rfl⟩,rfl⟩:=e1
  clear h hn hr hM hcm ha HRG hb hV kV
  go_enter Tryz.func145,Tryz.ntmps145
  go_wp2_with (fail)
  refine region_wide [0,1,2,3,4,5,7,8,9,10,11,12,13,14,15,16,6,17,18] (fun U=>Kept V U) (by kernel_rfl) (by kernel_rfl) (by rw [HV.out];exact Kept.refl _) (fun _=>?_)
  rw [HV.out]
  refine pq rfl rfl ?_;go_big_quiet_step (fail);refine wpQuiet_nil ?_
  refine pl rfl rfl ?_
  gi_wp2_with (fail)
  refine ⟨trivial,?_⟩
  refine (callsIn_wide.2 HR.out).mono ?_
  rintro e w1 ⟨rfl,k1⟩
  have K1:=gh k1
  clear k1
  gi_wp2_with (fail)
  refine ⟨Wd.mem K1.out,?_⟩
  repeat (refine pq rfl rfl ?_;go_big_quiet_step (fail);refine wpQuiet_nil ?_)
  refine Go.Proofs.YtnjkmmmfhponlaaGreat.ps rfl rfl rfl (Wd.mem K1.out) ?_
  go_big_quiet_step (fail)
  refine wpQuiet_nil ?_
  repeat (refine pq rfl rfl ?_;go_big_quiet_step (fail);refine wpQuiet_nil ?_)
  refine perm_done ?_
  have D1:=gh (Does.same (H.out.kept K1.out) ((KV.out.trans K1.out).mono (fun _ _ e=>e.elim)))
  go_wp2
  go_ret2
  exact ⟨rfl,D1.out⟩
 | true=>
  have HR:=gh (HRG true hb)
  have hm:M≤16384:=by omega
  have HC:=gh (Pt.cells_r (M:Int) (I64.wf ⟨by omega,by omega⟩))
  have cb:=Pt.cel_nat (M:Int)
  obtain ⟨C,hC⟩:∃ C,Pt.celZ (M:Int)=C:=⟨_,rfl⟩
  rw [hC] at HC cb
  by_cases hfit:C≤s.size - (s.xs.length:Int)
  ·rw [buildS,if_pos ⟨hb,by rw [hM,hC];exact hfit⟩,hM] at e1
   simp only [Prod.mk.injEq] at e1
   obtain ⟨⟨e1,rfl⟩,e2⟩:=e1
   have e3:layF (M+1) s ps=(z,s'):=by rw [← e1,← e2]
   have HLAY:Hid (∀ w1,Kept V w1→Calls Tryz.prog 181 #[.pointer (some ⟨b,0,none⟩),.slice a M cap] w1 fun e W'=>e=.returned (.int .i64 z)∧Does 86 layD n₀ b (.slice a0 s.xs.length c0) s' w1 W'):=gh (fun w1 k1=>build_d (M+1) w1 n₀ b _ s a ps M cap (H.out.kept k1) (Nat.le_trans hn (KV.out.trans k1).size) (hr.kept (KV.out.trans k1)) hM hc hcm hm (by omega) ha z s' e3)
   have g1:¬ s.size - (s.xs.length:Int) < C:=by omega
   have g2:decide (s.size - (s.xs.length:Int) < C)=false:=decide_eq_false g1
   clear e1 e2 e3
   clear h hn hr hM hcm ha HRG hb hV kV hC hm
   go_enter Tryz.func145,Tryz.ntmps145
   go_wp2_with (fail)
   refine region_wide [0,1,2,3,4,5,7,8,9,10,11,12,13,14,15,16,6,17,18] (fun U=>Kept V U) (by kernel_rfl) (by kernel_rfl) (by rw [HV.out];exact Kept.refl _) (fun _=>?_)
   rw [HV.out]
   refine pq rfl rfl ?_;go_big_quiet_step (fail);refine wpQuiet_nil ?_
   refine pl rfl rfl ?_
   gi_wp2_with (fail)
   refine ⟨trivial,?_⟩
   refine (callsIn_wide.2 HR.out).mono ?_
   rintro e w1 ⟨rfl,k1⟩
   have K1:=gh k1
   clear k1
   gi_wp2_with (fail)
   refine ⟨Wd.mem K1.out,?_⟩
   repeat (refine pq rfl rfl ?_;go_big_quiet_step (fail);refine wpQuiet_nil ?_)
   refine pl rfl rfl ?_
   gi_wp2_with (fail)
   refine ⟨trivial,?_⟩
   refine (callsIn_wide.2 (HC.out w1)).mono ?_
   rintro e w2 ⟨rfl,rfl⟩
   gi_wp2_with (fail)
   refine ⟨Wd.mem K1.out,?_⟩
   repeat (refine pq rfl rfl ?_;go_big_quiet_step (fail);refine wpQuiet_nil ?_)
   refine perm_done ?_
   go_wp2_with (fail)
   refine (HLAY.out _ K1.out).mono ?_
   rintro e w4 ⟨rfl,d4⟩
   have D4:=gh (Does.after (KV.out.trans K1.out) d4)
   clear d4
   go_wp2
   go_ret2
   exact ⟨rfl,D4.out⟩
  ·rw [buildS,if_neg (by rw [hM,hC];exact fun h=>hfit h.2)] at e1
   simp only [Prod.mk.injEq] at e1
   obtain ⟨⟨rfl,rfl⟩,rfl⟩:=e1
   have g1:s.size - (s.xs.length:Int) < C:=by omega
   have g2:decide (s.size - (s.xs.length:Int) < C)=true:=decide_eq_true g1
   clear h hn hr hM hcm ha HRG hb hV kV hC hm
   go_enter Tryz.func145,Tryz.ntmps145
   go_wp2_with (fail)
   refine region_wide [0,1,2,3,4,5,7,8,9,10,11,12,13,14,15,16,6,17,18] (fun U=>Kept V U) (by kernel_rfl) (by kernel_rfl) (by rw [HV.out];exact Kept.refl _) (fun _=>?_)
   rw [HV.out]
   refine pq rfl rfl ?_;go_big_quiet_step (fail);refine wpQuiet_nil ?_
   refine pl rfl rfl ?_
   gi_wp2_with (fail)
   refine ⟨trivial,?_⟩
   refine (callsIn_wide.2 HR.out).mono ?_
   rintro e w1 ⟨rfl,k1⟩
   have K1:=gh k1
   clear k1
   gi_wp2_with (fail)
   refine ⟨Wd.mem K1.out,?_⟩
   repeat (refine pq rfl rfl ?_;go_big_quiet_step (fail);refine wpQuiet_nil ?_)
   refine pl rfl rfl ?_
   gi_wp2_with (fail)
   refine ⟨trivial,?_⟩
   refine (callsIn_wide.2 (HC.out w1)).mono ?_
   rintro e w2 ⟨rfl,rfl⟩
   gi_wp2_with (fail)
   refine ⟨Wd.mem K1.out,?_⟩
   repeat (refine pq rfl rfl ?_;go_big_quiet_step (fail);refine wpQuiet_nil ?_)
   refine perm_done ?_
   have D1:=gh (Does.same (H.out.kept K1.out) ((KV.out.trans K1.out).mono (fun _ _ e=>e.elim)))
   go_wp2
   go_ret2
   exact ⟨rfl,D1.out⟩
end
section
structure DCk (w0 W:World) (b:Nat) (s:Mst) (g:Nat) (t:Tk):Prop where
 mem0:DM w0 b s
 ok:s.ok
 kept:Kept w0 W
 hg:w0.heap.size≤g
 row:W.rowIs g 4 (s.xs.length+1) (fun j=>.bool (t j))
namespace DCk
variable {w0 W W':World} {b g:Nat} {s:Mst} {t t':Tk}
theorem mem (h:DCk w0 W b s g t):DM W b s:=h.mem0.kept h.kept
theorem on (h:DCk w0 W b s g t) (k:Kept W W'):DCk w0 W' b s g t:=
 ⟨h.mem0,h.ok,h.kept.trans k,h.hg,h.row.of_block (k.block g h.row.lt (fun e=>e))⟩
theorem put (h:DCk w0 W b s g t) (i:Nat) (e:(fun j=>if j=i then true else t j)=t'):DCk w0 (W.setCell ⟨g,i,none⟩ (.bool true)) b s g t':=by
 have T:Td (fun k=>k=g) W (W.setCell ⟨g,i,none⟩ (.bool true)):=Td.setCell W ⟨g,i,none⟩ (.bool true) rfl
 refine ⟨h.mem0,h.ok,h.kept.did h.hg T,h.hg,?_⟩
 refine (h.row.set i (.bool true)).congr (fun j _=>?_)
 rw [← e]
 by_cases e:j=i
 ·simp [e]
 ·simp [e]
theorem cells (h:DM W b s):∃ a cap,W.cell? ⟨b,1,none⟩=some (.slice a s.xs.length cap)∧Reads W a s.xs:=by
 obtain ⟨n₀,v,s0,e,h⟩:=h
 obtain ⟨a,cap,rfl,h2,_,_⟩:=h.form
 rw [← e]
 exact ⟨a,cap,(DMem.opened h).1.1,h2⟩
end DCk
def DPost (w0 W:World) (b:Nat) (s:Mst) (g:Nat) (r:Option Tk) (e:Ending) (W':World):Prop:=
 e=.returned (.bool r.isSome)∧Td (fun i=>i=g) W W'∧∃ t',DCk w0 W' b s g t'∧∀ u,r=some u→t'=u
abbrev metS (s:Mst) (g:Nat):Value:=.slice (some ⟨g,0,none⟩) (s.xs.length+1) (s.xs.length+1)
theorem take_d (w0 W:World) (b:Nat) (s:Mst) (g:Nat) (t:Tk) (C:DCk w0 W b s g t) (a n:Nat) (h1:1≤a) (h2:a≤100000) (h3:1≤n) (h4:n≤500000000) (r:Option Tk) (e1:takeO (s.xs.length+1) t a n=r) :
  Calls Tryz.prog 167 #[.pointer (some ⟨b,0,none⟩),.int .i64 (a:Int),.int .i64 (n:Int),metS s g] W (DPost w0 W b s g r):=by
 obtain ⟨la,lc,c1,_⟩:=DCk.cells C.mem
 have HL:=gh C.ok.2
 have H:=gh C
 obtain ⟨N,hN⟩:∃ N,s.xs.length=N:=⟨_,rfl⟩
 have hN2:N≤65536:=by rw [← hN];exact HL.out
 have HN:=gh hN
 unfold metS
 rw [hN] at c1 ⊢
 by_cases h5:a+n≤N+1
 ·have e2:r=if freeB t a n=true then some (takeT t a n) else none:=by
   rw [← e1,hN];unfold takeO
   have d1:decide (1≤n)=true:=by simp;omega
   have d2:decide (a+n≤N+1)=true:=by simp;omega
   rw [d1,d2];rfl
  have E2:=gh e2
  have HS:Hid (DCk w0 W b s g (takeT t a 0)):=gh (by rw [takeT_zero];exact C)
  have i0:¬ ((N:Int) < (a:Int)+n - 1):=by omega
  have i1:¬ ((a:Int) < 1):=by omega
  clear C e1 e2 hN
  go_enter Tryz.func167,Tryz.ntmps167
  go_wp2
  go_loopw [9] (fun v wr=>∃ k:Nat,k≤n∧v=.int .i64 ((a:Int)+k)∧Hid (freeB t a k=true)∧Hid (DCk w0 wr b s g (takeT t a k))∧Hid (Td (fun i=>i=g) W wr)) (fun v _=>n+a - (intOf v).toNat)
  case atStart=>exact ⟨0,by omega,by simp,gh (freeB_zero t a),HS,gh (Td.refl _ _)⟩
  case round=>
   obtain ⟨k,hk,rfl,HF,HC,HT⟩:=hrel
   by_cases hkn:k < n
   ·have i1:(a:Int)+k < (a:Int)+n:=by omega
    have i2:a+k < N+1:=by omega
    have i3:(a:Int)+k < (N:Int)+1:=by omega
    have b2:=HC.out.row.cell (show a+k < s.xs.length+1 by rw [HN.out];exact i2)
    have b3:=HC.out.row.frozen (a+k)
    simp only [takeT_at] at b2
    have i4:((a:Int)+k).toNat=a+k:=by omega
    by_cases ht:t (a+k)=true
    ·have HR:Hid (r=none):=gh (by
      rw [E2.out,if_neg]
      rw [freeB_false (n:=k+1) (by rw [freeB_succ,HF.out,ht];rfl) (by omega)]
      simp)
     rw [ht] at b2
     clear ht
     go_wp2
     go_ret
     exact ⟨by rw [HR.out];rfl,HT.out,_,HC.out,fun u h=>by rw [HR.out] at h;cases h⟩
    ·have ht':t (a+k)=false:=by simpa using ht
     rw [ht'] at b2
     have G1:Hid (freeB t a (k+1)=true):=gh (by rw [freeB_succ,HF.out,ht'];rfl)
     have G2:=gh (HC.out.put (a+k) (takeT_succ t a k))
     have G3:Hid (Td (fun i=>i=g) W (wr.setCell ⟨g,a+k,none⟩ (.bool true))):=gh (HT.out.trans (Td.setCell (R:=fun i=>i=g) wr ⟨g,a+k,none⟩ (.bool true) rfl) (fun _ e=>e) (fun _ _ e=>e))
     clear ht ht'
     go_wp2
     exact ⟨⟨k+1,by omega,by simp;omega,G1,G2,G3⟩,by simp [intOf];omega⟩
   ·have hkn':k=n:=by omega
    subst hkn'
    have i1:¬ ((a:Int)+k < (a:Int)+k):=by omega
    have HR:Hid (r=some (takeT t a k)):=gh (by rw [E2.out,if_pos HF.out])
    go_wp2
    go_ret
    exact ⟨by rw [HR.out];rfl,HT.out,_,HC.out,fun u h=>by rw [HR.out] at h;cases h;rfl⟩
 ·have HR:Hid (r=none):=gh (by
   rw [← e1,hN];unfold takeO
   rw [if_neg]
   intro hh
   simp only [Bool.and_eq_true,decide_eq_true_eq] at hh
   exact h5 hh.1.2)
  have i0:(N:Int) < (a:Int)+n - 1:=by omega
  have i1:¬ ((a:Int) < 1):=by omega
  clear C e1 hN h5
  go_enter Tryz.func167,Tryz.ntmps167
  go_wp2
  go_ret
  exact ⟨by rw [HR.out];rfl,Td.refl _ _,t,H.out,fun u h=>by rw [HR.out] at h;cases h⟩
def WordD (f:Nat):Prop:=∀ (w0 W:World) (b:Nat) (s:Mst) (g:Nat) (t:Tk) (_:DCk w0 W b s g t) (x lo hi:Int) (_:I64 x) (_:I64 lo) (_:I64 hi) (_:freeN (s.xs.length+1) t < f) (r:Option Tk) (_:sndW s f x lo hi t=r),
  Calls Tryz.prog 126 #[.pointer (some ⟨b,0,none⟩),.int .i64 x,.int .i64 lo,.int .i64 hi,metS s g] W (DPost w0 W b s g r)
def SlotD (f:Nat):Prop:=∀ (w0 W:World) (b:Nat) (s:Mst) (g:Nat) (t:Tk) (_:DCk w0 W b s g t) (x lo hi:Int) (_:I64 lo) (_:I64 hi) (_:freeN (s.xs.length+1) t < f) (r:Option Tk) (_:sndSlot s (sndW s f) x lo hi t=r),
  Calls Tryz.prog 85 #[.pointer (some ⟨b,0,none⟩),.int .i64 x,.int .i64 lo,.int .i64 hi,metS s g] W (DPost w0 W b s g r)
theorem slot_of_word_d (f:Nat) (hW:WordD f):SlotD f:=by
 intro w0 W b s g t C x lo hi hlo hhi hf r e1
 obtain ⟨la,lc,c1,_⟩:=DCk.cells C.mem
 have H:=gh C
 obtain ⟨z,hz⟩:∃ z,s.look x=z:=⟨_,rfl⟩
 obtain ⟨k,hk⟩:∃ k,kd z=k:=⟨_,rfl⟩
 obtain ⟨p,hp⟩:∃ p,ad z=p:=⟨_,rfl⟩
 obtain ⟨l,hl⟩:∃ l,s.logicZ x=l:=⟨_,rfl⟩
 obtain ⟨N,hN⟩:∃ N,s.xs.length=N:=⟨_,rfl⟩
 have hzb:=C.ok.look x
 rw [hz] at hzb
 have hlb:=C.ok.logic x
 rw [hl] at hlb
 have kr:=ad_range z
 rw [hp] at kr
 obtain ⟨p0,p1⟩:=kr
 have hn:N≤65536:=by rw [← hN];exact C.ok.2
 have HZ:=gh hz
 have HK:=gh hk
 have HP:=gh hp
 have HL:=gh hl
 have HN:=gh hN
 have HZB:=gh hzb
 have HLB:=gh hlb
 have HLO:=gh hlo
 have HHI:=gh hhi
 have HFU:=gh hf
 have HO:=gh C.ok
 have HW:=gh hW
 rw [hN] at c1
 have ew:metS s g=.slice (some ⟨g,0,none⟩) (N+1) (N+1):=by unfold metS;rw [hN]
 have EW:=gh ew
 rw [ew]
 have FIN:dcssB s x=true→Hid (sndW s f l lo hi t=r):=fun hd=>gh (by rw [← e1,sndSlot,if_pos hd,hl])
 have NONE:dcssB s x=false→Hid (r=none):=fun hd=>gh (by rw [← e1,sndSlot,hd];rfl)
 by_cases hk5:k=5
 ·obtain ⟨y,hy⟩:∃ y,s.look (p+1)=y:=⟨_,rfl⟩
  have HY:=gh hy
  have ed:dcssB s x=(decide (p+4≤(N:Int)) && (y == x)):=by rw [dcssB,hz,hk,hp,hN,hk5,hy];rfl
  have ED:=gh ed
  by_cases c2:p+4≤(N:Int)
  ·have c2':¬ ((N:Int) < p+4):=by omega
   by_cases c3:y=x
   ·have HR:=FIN (by rw [ed];simp [c2,c3])
    subst c3 hk5
    clear C hz hk hp hl hN hzb hlb hlo hhi hf e1 hy ed ED ew FIN NONE hW
    go_enter Tryz.func85,Tryz.ntmps85
    go_wp2_with (fail)
    refine (lk_d _ b s y z H.out.mem HZ.out).mono ?_
    rintro e w' ⟨rfl,rfl⟩
    go_wp2_with (fail)
    refine (kk_d _ z 5 HZB.out HK.out).mono ?_
    rintro e w' ⟨rfl,rfl⟩
    go_wp2_with (fail)
    refine (ak_d _ z p HZB.out HP.out).mono ?_
    rintro e w' ⟨rfl,rfl⟩
    go_wp2_with (fail)
    refine (lk_d _ b s (p+1) y H.out.mem HY.out).mono ?_
    rintro e w' ⟨rfl,rfl⟩
    go_wp2_with (fail)
    refine (logic_d _ b s y l H.out.mem HO.out HL.out).mono ?_
    rintro e w' ⟨rfl,rfl⟩
    go_wp2_with (fail)
    rw [← EW.out]
    refine (HW.out w0 _ b s g t H.out l lo hi HLB.out HLO.out HHI.out HFU.out r HR.out).mono ?_
    rintro e w' ⟨rfl,hT,hC⟩
    have HC:=gh hC
    have HT:=gh hT
    clear hC hT H c1
    go_wp2
    go_ret
    exact ⟨rfl,HT.out,HC.out⟩
   ·have HR:=NONE (by rw [ed];simp [c3])
    have g1:(y == x)=false:=by simp [c3]
    have g2:(y != x)=true:=by simp [c3]
    subst hk5
    clear C hz hk hp hl hN hzb hlb hlo hhi hf e1 hy ed ED ew FIN NONE hW c3
    go_enter Tryz.func85,Tryz.ntmps85
    go_wp2_with (fail)
    refine (lk_d _ b s x z H.out.mem HZ.out).mono ?_
    rintro e w' ⟨rfl,rfl⟩
    go_wp2_with (fail)
    refine (kk_d _ z 5 HZB.out HK.out).mono ?_
    rintro e w' ⟨rfl,rfl⟩
    go_wp2_with (fail)
    refine (ak_d _ z p HZB.out HP.out).mono ?_
    rintro e w' ⟨rfl,rfl⟩
    go_wp2_with (fail)
    refine (lk_d _ b s (p+1) y H.out.mem HY.out).mono ?_
    rintro e w' ⟨rfl,rfl⟩
    go_wp2
    go_ret
    exact ⟨by rw [HR.out];rfl,Td.refl _ _,t,H.out,fun u h=>by rw [HR.out] at h;cases h⟩
  ·have HR:=NONE (by rw [ed];simp [c2])
   have c2':(N:Int) < p+4:=by omega
   subst hk5
   clear C hz hk hp hl hN hzb hlb hlo hhi hf e1 hy ed ED ew FIN NONE hW c2
   go_enter Tryz.func85,Tryz.ntmps85
   go_wp2_with (fail)
   refine (lk_d _ b s x z H.out.mem HZ.out).mono ?_
   rintro e w' ⟨rfl,rfl⟩
   go_wp2_with (fail)
   refine (kk_d _ z 5 HZB.out HK.out).mono ?_
   rintro e w' ⟨rfl,rfl⟩
   go_wp2_with (fail)
   refine (ak_d _ z p HZB.out HP.out).mono ?_
   rintro e w' ⟨rfl,rfl⟩
   go_wp2
   go_ret
   exact ⟨by rw [HR.out];rfl,Td.refl _ _,t,H.out,fun u h=>by rw [HR.out] at h;cases h⟩
 ·have HR:=FIN (by rw [dcssB,hz,hk];simp [hk5])
  have g1:(k == 5)=false:=by simp [hk5]
  have g2:(k != 5)=true:=by simp [hk5]
  clear C hz hk hp hl hN hzb hlb hlo hhi hf e1 ew FIN NONE hW hk5
  go_enter Tryz.func85,Tryz.ntmps85
  go_wp2_with (fail)
  refine (lk_d _ b s x z H.out.mem HZ.out).mono ?_
  rintro e w' ⟨rfl,rfl⟩
  go_wp2_with (fail)
  refine (kk_d _ z k HZB.out HK.out).mono ?_
  rintro e w' ⟨rfl,rfl⟩
  go_wp2_with (fail)
  refine (logic_d _ b s x l H.out.mem HO.out HL.out).mono ?_
  rintro e w' ⟨rfl,rfl⟩
  go_wp2_with (fail)
  rw [← EW.out]
  refine (HW.out w0 _ b s g t H.out l lo hi HLB.out HLO.out HHI.out HFU.out r HR.out).mono ?_
  rintro e w' ⟨rfl,hT,hC⟩
  have HC:=gh hC
  have HT:=gh hT
  clear hC hT H c1
  go_wp2
  go_ret
  exact ⟨rfl,HT.out,HC.out⟩
end
section
set_option maxHeartbeats 4000000 in
set_option maxRecDepth 20000 in
theorem inner_of_slot_d (f:Nat) (hS:SlotD f) (w0 W:World) (b:Nat) (s:Mst) (g:Nat) (t:Tk) (C:DCk w0 W b s g t) (a:Nat) (lo hi:Int) (h1:1≤a) (h2:a≤65536) (hlo:I64 lo) (hhi:I64 hi) (hf:freeN (s.xs.length+1) t < f+1) (r:Option Tk) (e1:sndInner s (sndW s f) a lo hi t=r) :
  Calls Tryz.prog 168 #[.pointer (some ⟨b,0,none⟩),.int .i64 (a:Int),.int .i64 lo,.int .i64 hi,metS s g] W (DPost w0 W b s g r):=by
 have H:=gh C
 have HO:=gh C.ok
 have HLO:=gh hlo
 have HHI:=gh hhi
 have HSL:=gh hS
 have HF:=gh hf
 obtain ⟨N,hN⟩:∃ N,s.xs.length=N:=⟨_,rfl⟩
 have hn:N≤65536:=by rw [← hN];exact C.ok.2
 have ew:metS s g=.slice (some ⟨g,0,none⟩) (N+1) (N+1):=by unfold metS;rw [hN]
 have EW:=gh ew
 obtain ⟨D,hD⟩:∃ D,s.look a=D:=⟨_,rfl⟩
 have HD:=gh hD
 obtain ⟨z,hz⟩:∃ z,s.look ((a:Int)+2)=z:=⟨_,rfl⟩
 have HZ:=gh hz
 have e2:r=if D < 2 then none else (takeO (N+1) t a (2 * D.toNat+4)).bind fun t1=>if (keysB s a D.toNat lo hi && shutB s a)=true then chain (kidG s (sndW s f) a D.toNat lo hi) D.toNat t1 else none:=by
  rw [← e1,sndInner,hD,hN]
 have E2:=gh e2
 have HN:=gh hN
 have a1:(a:Int)≤65536:=by omega
 rw [ew]
 by_cases d2:D < 2
 ·have HR:Hid (r=none):=gh (by rw [e2,if_pos d2])
  clear C hS hlo hhi hf e1 e2 hN ew hD hz
  go_enter Tryz.func168,Tryz.ntmps168
  go_wp2_with (fail)
  refine (lk_d _ b s a D H.out.mem HD.out).mono ?_
  rintro e w' ⟨rfl,rfl⟩
  go_wp2
  go_ret
  exact ⟨by rw [HR.out];rfl,Td.refl _ _,t,H.out,fun u h=>by rw [HR.out] at h;cases h⟩
 by_cases d3:65536 < D
 ·have HR:Hid (r=none):=gh (by
   rw [e2,if_neg d2,takeO,if_neg]
   ·rfl
   ·intro hh
    simp only [Bool.and_eq_true,decide_eq_true_eq] at hh
    omega)
  clear C hS hlo hhi hf e1 e2 hN ew hD hz
  go_enter Tryz.func168,Tryz.ntmps168
  go_wp2_with (fail)
  refine (lk_d _ b s a D H.out.mem HD.out).mono ?_
  rintro e w' ⟨rfl,rfl⟩
  go_wp2_with (fail)
  refine (lk_d _ b s a D H.out.mem HD.out).mono ?_
  rintro e w' ⟨rfl,rfl⟩
  go_wp2
  go_ret
  exact ⟨by rw [HR.out];rfl,Td.refl _ _,t,H.out,fun u h=>by rw [HR.out] at h;cases h⟩
 obtain ⟨d,rfl⟩:∃ d:Nat,D=(d:Int):=⟨D.toNat,by omega⟩
 have e3:r=(takeO (N+1) t a (2 * d+4)).bind fun t1=>if (keysB s a d lo hi && shutB s a)=true then chain (kidG s (sndW s f) a d lo hi) d t1 else none:=by
  rw [e2,if_neg d2,Int.toNat_natCast]
 have E3:=gh e3
 have d5:(d:Int)≤65536:=by omega
 have d4:(2:Int)≤(d:Int):=by omega
 have i5:((2 * d+4:Nat):Int)=2 * (d:Int)+4:=by omega
 have I5:=gh i5
 cases hT:takeO (N+1) t a (2 * d+4) with
 | none=>
  have HT:Hid (takeO (s.xs.length+1) t a (2 * d+4)=none):=gh (by rw [hN];exact hT)
  have HR:Hid (r=none):=gh (by rw [e3,hT];rfl)
  clear C hS hlo hhi hf e1 e2 e3 hN ew hD hz E2 E3 hT i5
  go_enter Tryz.func168,Tryz.ntmps168
  go_wp2_with (fail)
  refine (lk_d _ b s a d H.out.mem HD.out).mono ?_
  rintro e w' ⟨rfl,rfl⟩
  go_wp2_with (fail)
  refine (lk_d _ b s a d H.out.mem HD.out).mono ?_
  rintro e w' ⟨rfl,rfl⟩
  go_wp2_with (fail)
  refine (lk_d _ b s a d H.out.mem HD.out).mono ?_
  rintro e w' ⟨rfl,rfl⟩
  go_wp2_with (fail)
  rw [← EW.out,← I5.out]
  refine (take_d w0 _ b s g t H.out a (2 * d+4) h1 (by omega) (by omega) (by omega) none HT.out).mono ?_
  rintro e w' ⟨rfl,hT',t',C',_⟩
  have H':=gh C'
  have TT:=gh hT'
  clear C' hT' H
  go_wp2
  go_ret
  exact ⟨by rw [HR.out];rfl,TT.out,t',H'.out,fun u h=>by rw [HR.out] at h;cases h⟩
 | some t1=>
  have HT:Hid (takeO (s.xs.length+1) t a (2 * d+4)=some t1):=gh (by rw [hN];exact hT)
  have HFR:Hid (freeN (s.xs.length+1) t1 < f):=gh (by have:=takeO_free HT.out;have:=HF.out;omega)
  have e4:r=if (keysB s a d lo hi && shutB s a)=true then chain (kidG s (sndW s f) a d lo hi) d t1 else none:=by rw [e3,hT];rfl
  have e5:r=if shutB s a=true then chain (docG s (sndW s f) a d lo hi) d t1 else none:=by
   rw [e4,doc_chain]
   cases keysB s a d lo hi <;> cases shutB s a <;> rfl
  have E5:=gh e5
  have hfit:Hid (a+(2 * d+4)≤N+1):=gh (by
   unfold takeO at hT
   split at hT
   ·rename_i c
    simp only [Bool.and_eq_true,decide_eq_true_eq] at c
    exact c.1.2
   ·cases hT)
  by_cases hz01:z=0∨z=1
  ·have SB:shutB s a=true:=by unfold shutB;rw [hz];rcases hz01 with e | e <;> subst e <;> rfl
   have E6:Hid (r=chain (docG s (sndW s f) a d lo hi) d t1):=gh (by rw [e5,if_pos SB])
   have START:Hid (chain (docG s (sndW s f) a d lo hi) 0 t1=some t1):=gh rfl
   have LZ:Hid (lowZ s a lo 0=lo):=gh (by rw [lowZ,if_pos rfl])
   clear C hS hlo hhi hf e1 e2 e3 e4 e5 hN ew hD hz E2 E3 E5 hT SB i5
   rcases hz01 with hz0 | hz0
   ·subst hz0
    go_enter Tryz.func168,Tryz.ntmps168
    go_wp2_with (fail)
    refine (lk_d _ b s a d H.out.mem HD.out).mono ?_
    rintro e w' ⟨rfl,rfl⟩
    go_wp2_with (fail)
    refine (lk_d _ b s a d H.out.mem HD.out).mono ?_
    rintro e w' ⟨rfl,rfl⟩
    go_wp2_with (fail)
    refine (lk_d _ b s a d H.out.mem HD.out).mono ?_
    rintro e w' ⟨rfl,rfl⟩
    go_wp2_with (fail)
    rw [← EW.out,← I5.out]
    refine (take_d w0 _ b s g t H.out a (2 * d+4) h1 (by omega) (by omega) (by omega) (some t1) HT.out).mono ?_
    rintro e W1 ⟨rfl,hT',t',C',ht'⟩
    have et:=ht' _ rfl
    rw [et] at C'
    have H':=gh C'
    have TT:=gh hT'
    clear C' hT' H ht' et
    rw [EW.out,I5.out]
    go_wp2_with (fail)
    refine (lk_d _ b s ((a:Int)+2) 0 H'.out.mem HZ.out).mono ?_
    rintro e w' ⟨rfl,rfl⟩
    go_wp2
    go_loopw [12,13] (fun v12 v wr=>∃ (k:Nat) (tk:Tk) (F:Int),k≤d∧v12=.int .i64 F∧v=.int .i64 (k:Int)∧Hid (k < d→lowZ s a lo k=F)∧Hid (chain (docG s (sndW s f) a d lo hi) k t1=some tk)∧Hid (DCk w0 wr b s g tk)∧Hid (Td (fun i=>i=g) W wr)) (fun _ v _=>d - (intOf v).toNat)
    case atStart=>exact ⟨0,_,lo,by omega,rfl,by simp,gh (fun _=>LZ.out),START,H',TT⟩
    case round=>
     obtain ⟨k,tk,F,hk,rfl,rfl,HLF,HCH,HC,HTW⟩:=hrel
     by_cases hkn:k < d
     ·have j1:(k:Int) < (d:Int):=by omega
      have hF:lowZ s a lo k=F:=HLF.out hkn
      have HFB:Hid (I64 F):=gh (by
       rw [← hF,lowZ];split
       ·exact HLO.out
       ·exact HO.out.look _)
      have HFK:Hid (freeN (s.xs.length+1) tk < f):=gh (by
       have h0:∀ n t',chain (docG s (sndW s f) a d lo hi) n t1=some t'→freeN (s.xs.length+1) t'≤freeN (s.xs.length+1) t1:=by
        intro n
        induction n with
        | zero=>intro t' h;simp [chain] at h;subst h;exact Nat.le_refl _
        | succ n ih=>
         intro t' h
         rw [chain,Option.bind_eq_some_iff] at h
         obtain ⟨u,h1,h2⟩:=h
         unfold docG at h2
         split at h2
         ·cases h2
         ·exact Nat.le_trans (sndSlot_free (sndW_free s f) h2) (ih _ h1)
       exact Nat.lt_of_le_of_lt (h0 _ _ HCH.out) HFR.out)
      have hcz:=gh (childZ_in (n:=a) (d:=(d:Int)) (i:=k) (by omega) (by omega) (by omega) (by omega) (by omega) (by omega))
      have HLF2:=gh hF
      clear hF HLF
      by_cases hkd:k+1 < d
      ·have j2:(k:Int) < (d:Int) - 1:=by omega
       have hkz:=gh (keyZ_in (n:=a) (i:=(k:Int)+1) (by omega) (by omega) (by omega) (by omega))
       obtain ⟨y,hy⟩:∃ y,s.look ((a:Int)+4+((k:Int)+1))=y:=⟨_,rfl⟩
       have HYB:=HO.out.look ((a:Int)+4+((k:Int)+1))
       rw [hy] at HYB
       have HY:=gh hy
       have hky:ky s a (k+1)=y:=by rw [← hy];rfl
       have HKY:=gh hky
       clear hy hky
       by_cases y1:y≤F
       ·have HR:Hid (r=none):=gh (by
         rw [E6.out]
         refine chain_none (n:=k+1) ?_ (by omega)
         rw [chain,HCH.out]
         show docG s (sndW s f) a d lo hi k tk=none
         unfold docG
         rw [if_pos]
         refine ⟨hkd,fun h=>?_⟩
         have:=h.1
         rw [HLF2.out,HKY.out] at this
         omega)
        clear HYB
        go_wp2_with (fail)
        refine (key_r _ a ((k:Int)+1) _ hkz.out).mono ?_
        rintro e w' ⟨rfl,rfl⟩
        go_wp2_with (fail)
        refine (lk_d _ b s _ y HC.out.mem HY.out).mono ?_
        rintro e w' ⟨rfl,rfl⟩
        go_wp2
        go_ret
        exact ⟨by rw [HR.out];rfl,HTW.out,tk,HC.out,fun u h=>by rw [HR.out] at h;cases h⟩
       by_cases y2:hi < y
       ·have HR:Hid (r=none):=gh (by
         rw [E6.out]
         refine chain_none (n:=k+1) ?_ (by omega)
         rw [chain,HCH.out]
         show docG s (sndW s f) a d lo hi k tk=none
         unfold docG
         rw [if_pos]
         refine ⟨hkd,fun h=>?_⟩
         have:=h.2
         rw [HKY.out] at this
         omega)
        clear HYB
        go_wp2_with (fail)
        refine (key_r _ a ((k:Int)+1) _ hkz.out).mono ?_
        rintro e w' ⟨rfl,rfl⟩
        go_wp2_with (fail)
        refine (lk_d _ b s _ y HC.out.mem HY.out).mono ?_
        rintro e w' ⟨rfl,rfl⟩
        go_wp2
        go_ret
        exact ⟨by rw [HR.out];rfl,HTW.out,tk,HC.out,fun u h=>by rw [HR.out] at h;cases h⟩
       have fb:=HFB.out
       obtain ⟨fb1,fb2⟩:=fb
       obtain ⟨yb1,yb2⟩:=HYB
       have BH:Hid (I64 (y - 1)):=gh ⟨by omega,by omega⟩
       obtain ⟨u,hu⟩:∃ u,sndSlot s (sndW s f) ((a:Int)+4+(d:Int)+k) F (y - 1) tk=u:=⟨_,rfl⟩
       have HU2:=gh hu
       have HNX:Hid (chain (docG s (sndW s f) a d lo hi) (k+1) t1=u):=gh (by
        rw [chain,HCH.out]
        show docG s (sndW s f) a d lo hi k tk=u
        unfold docG
        rw [if_neg,kidG,HLF2.out,highZ,if_pos hkd,HKY.out]
        ·exact hu
        ·rintro ⟨_,h⟩
         apply h
         rw [HLF2.out,HKY.out]
         exact ⟨by omega,by omega⟩)
       have NF:Hid (k+1 < d→lowZ s a lo (k+1)=y):=gh (fun _=>by rw [lowZ,if_neg (by omega),HKY.out])
       clear hu HCH
       go_wp2_with (fail)
       refine (key_r _ a ((k:Int)+1) _ hkz.out).mono ?_
       rintro e w' ⟨rfl,rfl⟩
       go_wp2_with (fail)
       refine (lk_d _ b s _ y HC.out.mem HY.out).mono ?_
       rintro e w' ⟨rfl,rfl⟩
       go_wp2_with (fail)
       refine (child_r _ a d k _ hcz.out).mono ?_
       rintro e w' ⟨rfl,rfl⟩
       go_wp2_with (fail)
       rw [← EW.out]
       refine (HSL.out w0 _ b s g tk HC.out _ F (y - 1) HFB.out BH.out HFK.out u HU2.out).mono ?_
       rintro e w' ⟨rfl,hT,t2,hC,ht2⟩
       have HC2:=gh hC
       have HT2:Hid (Td (fun i=>i=g) W w'):=gh (HTW.out.trans hT (fun _ e=>e) (fun _ _ e=>e))
       have HE2:=gh ht2
       clear hT hC ht2 HC HTW
       rw [EW.out]
       cases u with
       | none=>
        have HR:Hid (r=none):=gh (by rw [E6.out];exact chain_none HNX.out (by omega))
        go_wp2
        go_ret
        exact ⟨by rw [HR.out];rfl,HT2.out,t2,HC2.out,fun u h=>by rw [HR.out] at h;cases h⟩
       | some u=>
        have:=HE2.out u rfl
        subst this
        clear HE2
        go_wp2
        exact ⟨⟨k+1,_,_,by omega,rfl,by simp,NF,HNX,HC2,HT2⟩,by simp [intOf];omega⟩
      ·have j2:¬ ((k:Int) < (d:Int) - 1):=by omega
       have BH:=HHI
       obtain ⟨u,hu⟩:∃ u,sndSlot s (sndW s f) ((a:Int)+4+(d:Int)+k) F hi tk=u:=⟨_,rfl⟩
       have HU2:=gh hu
       have HNX:Hid (chain (docG s (sndW s f) a d lo hi) (k+1) t1=u):=gh (by
        rw [chain,HCH.out]
        show docG s (sndW s f) a d lo hi k tk=u
        unfold docG
        rw [if_neg (fun h=>hkd h.1),kidG,HLF2.out,highZ,if_neg hkd]
        exact hu)
       clear hu HCH
       go_wp2_with (fail)
       refine (child_r _ a d k _ hcz.out).mono ?_
       rintro e w' ⟨rfl,rfl⟩
       go_wp2_with (fail)
       rw [← EW.out]
       refine (HSL.out w0 _ b s g tk HC.out _ F hi HFB.out BH.out HFK.out u HU2.out).mono ?_
       rintro e w' ⟨rfl,hT,t2,hC,ht2⟩
       have HC2:=gh hC
       have HT2:Hid (Td (fun i=>i=g) W w'):=gh (HTW.out.trans hT (fun _ e=>e) (fun _ _ e=>e))
       have HE2:=gh ht2
       clear hT hC ht2 HC HTW
       rw [EW.out]
       cases u with
       | none=>
        have HR:Hid (r=none):=gh (by rw [E6.out];exact chain_none HNX.out (by omega))
        go_wp2
        go_ret
        exact ⟨by rw [HR.out];rfl,HT2.out,t2,HC2.out,fun u h=>by rw [HR.out] at h;cases h⟩
       | some u=>
        have:=HE2.out u rfl
        subst this
        clear HE2
        go_wp2
        exact ⟨⟨k+1,_,_,by omega,rfl,by simp,gh (fun h=>absurd h (by omega)),HNX,HC2,HT2⟩,by simp [intOf];omega⟩
     ·have hkn':k=d:=by omega
      subst hkn'
      have j1:¬ ((k:Int) < (k:Int)):=by omega
      go_wp2
      go_ret
      have HR:r=some tk:=by rw [E6.out,HCH.out]
      exact ⟨by rw [HR];rfl,HTW.out,tk,HC.out,fun u h=>by rw [HR] at h;cases h;rfl⟩
   ·subst hz0
    go_enter Tryz.func168,Tryz.ntmps168
    go_wp2_with (fail)
    refine (lk_d _ b s a d H.out.mem HD.out).mono ?_
    rintro e w' ⟨rfl,rfl⟩
    go_wp2_with (fail)
    refine (lk_d _ b s a d H.out.mem HD.out).mono ?_
    rintro e w' ⟨rfl,rfl⟩
    go_wp2_with (fail)
    refine (lk_d _ b s a d H.out.mem HD.out).mono ?_
    rintro e w' ⟨rfl,rfl⟩
    go_wp2_with (fail)
    rw [← EW.out,← I5.out]
    refine (take_d w0 _ b s g t H.out a (2 * d+4) h1 (by omega) (by omega) (by omega) (some t1) HT.out).mono ?_
    rintro e W1 ⟨rfl,hT',t',C',ht'⟩
    have et:=ht' _ rfl
    rw [et] at C'
    have H':=gh C'
    have TT:=gh hT'
    clear C' hT' H ht' et
    rw [EW.out,I5.out]
    go_wp2_with (fail)
    refine (lk_d _ b s ((a:Int)+2) 1 H'.out.mem HZ.out).mono ?_
    rintro e w' ⟨rfl,rfl⟩
    go_wp2_with (fail)
    refine (lk_d _ b s ((a:Int)+2) 1 H'.out.mem HZ.out).mono ?_
    rintro e w' ⟨rfl,rfl⟩
    go_wp2
    go_loopw [12,13] (fun v12 v wr=>∃ (k:Nat) (tk:Tk) (F:Int),k≤d∧v12=.int .i64 F∧v=.int .i64 (k:Int)∧Hid (k < d→lowZ s a lo k=F)∧Hid (chain (docG s (sndW s f) a d lo hi) k t1=some tk)∧Hid (DCk w0 wr b s g tk)∧Hid (Td (fun i=>i=g) W wr)) (fun _ v _=>d - (intOf v).toNat)
    case atStart=>exact ⟨0,_,lo,by omega,rfl,by simp,gh (fun _=>LZ.out),START,H',TT⟩
    case round=>
     obtain ⟨k,tk,F,hk,rfl,rfl,HLF,HCH,HC,HTW⟩:=hrel
     by_cases hkn:k < d
     ·have j1:(k:Int) < (d:Int):=by omega
      have hF:lowZ s a lo k=F:=HLF.out hkn
      have HFB:Hid (I64 F):=gh (by
       rw [← hF,lowZ];split
       ·exact HLO.out
       ·exact HO.out.look _)
      have HFK:Hid (freeN (s.xs.length+1) tk < f):=gh (by
       have h0:∀ n t',chain (docG s (sndW s f) a d lo hi) n t1=some t'→freeN (s.xs.length+1) t'≤freeN (s.xs.length+1) t1:=by
        intro n
        induction n with
        | zero=>intro t' h;simp [chain] at h;subst h;exact Nat.le_refl _
        | succ n ih=>
         intro t' h
         rw [chain,Option.bind_eq_some_iff] at h
         obtain ⟨u,h1,h2⟩:=h
         unfold docG at h2
         split at h2
         ·cases h2
         ·exact Nat.le_trans (sndSlot_free (sndW_free s f) h2) (ih _ h1)
       exact Nat.lt_of_le_of_lt (h0 _ _ HCH.out) HFR.out)
      have hcz:=gh (childZ_in (n:=a) (d:=(d:Int)) (i:=k) (by omega) (by omega) (by omega) (by omega) (by omega) (by omega))
      have HLF2:=gh hF
      clear hF HLF
      by_cases hkd:k+1 < d
      ·have j2:(k:Int) < (d:Int) - 1:=by omega
       have hkz:=gh (keyZ_in (n:=a) (i:=(k:Int)+1) (by omega) (by omega) (by omega) (by omega))
       obtain ⟨y,hy⟩:∃ y,s.look ((a:Int)+4+((k:Int)+1))=y:=⟨_,rfl⟩
       have HYB:=HO.out.look ((a:Int)+4+((k:Int)+1))
       rw [hy] at HYB
       have HY:=gh hy
       have hky:ky s a (k+1)=y:=by rw [← hy];rfl
       have HKY:=gh hky
       clear hy hky
       by_cases y1:y≤F
       ·have HR:Hid (r=none):=gh (by
         rw [E6.out]
         refine chain_none (n:=k+1) ?_ (by omega)
         rw [chain,HCH.out]
         show docG s (sndW s f) a d lo hi k tk=none
         unfold docG
         rw [if_pos]
         refine ⟨hkd,fun h=>?_⟩
         have:=h.1
         rw [HLF2.out,HKY.out] at this
         omega)
        clear HYB
        go_wp2_with (fail)
        refine (key_r _ a ((k:Int)+1) _ hkz.out).mono ?_
        rintro e w' ⟨rfl,rfl⟩
        go_wp2_with (fail)
        refine (lk_d _ b s _ y HC.out.mem HY.out).mono ?_
        rintro e w' ⟨rfl,rfl⟩
        go_wp2
        go_ret
        exact ⟨by rw [HR.out];rfl,HTW.out,tk,HC.out,fun u h=>by rw [HR.out] at h;cases h⟩
       by_cases y2:hi < y
       ·have HR:Hid (r=none):=gh (by
         rw [E6.out]
         refine chain_none (n:=k+1) ?_ (by omega)
         rw [chain,HCH.out]
         show docG s (sndW s f) a d lo hi k tk=none
         unfold docG
         rw [if_pos]
         refine ⟨hkd,fun h=>?_⟩
         have:=h.2
         rw [HKY.out] at this
         omega)
        clear HYB
        go_wp2_with (fail)
        refine (key_r _ a ((k:Int)+1) _ hkz.out).mono ?_
        rintro e w' ⟨rfl,rfl⟩
        go_wp2_with (fail)
        refine (lk_d _ b s _ y HC.out.mem HY.out).mono ?_
        rintro e w' ⟨rfl,rfl⟩
        go_wp2
        go_ret
        exact ⟨by rw [HR.out];rfl,HTW.out,tk,HC.out,fun u h=>by rw [HR.out] at h;cases h⟩
       have fb:=HFB.out
       obtain ⟨fb1,fb2⟩:=fb
       obtain ⟨yb1,yb2⟩:=HYB
       have BH:Hid (I64 (y - 1)):=gh ⟨by omega,by omega⟩
       obtain ⟨u,hu⟩:∃ u,sndSlot s (sndW s f) ((a:Int)+4+(d:Int)+k) F (y - 1) tk=u:=⟨_,rfl⟩
       have HU2:=gh hu
       have HNX:Hid (chain (docG s (sndW s f) a d lo hi) (k+1) t1=u):=gh (by
        rw [chain,HCH.out]
        show docG s (sndW s f) a d lo hi k tk=u
        unfold docG
        rw [if_neg,kidG,HLF2.out,highZ,if_pos hkd,HKY.out]
        ·exact hu
        ·rintro ⟨_,h⟩
         apply h
         rw [HLF2.out,HKY.out]
         exact ⟨by omega,by omega⟩)
       have NF:Hid (k+1 < d→lowZ s a lo (k+1)=y):=gh (fun _=>by rw [lowZ,if_neg (by omega),HKY.out])
       clear hu HCH
       go_wp2_with (fail)
       refine (key_r _ a ((k:Int)+1) _ hkz.out).mono ?_
       rintro e w' ⟨rfl,rfl⟩
       go_wp2_with (fail)
       refine (lk_d _ b s _ y HC.out.mem HY.out).mono ?_
       rintro e w' ⟨rfl,rfl⟩
       go_wp2_with (fail)
       refine (child_r _ a d k _ hcz.out).mono ?_
       rintro e w' ⟨rfl,rfl⟩
       go_wp2_with (fail)
       rw [← EW.out]
       refine (HSL.out w0 _ b s g tk HC.out _ F (y - 1) HFB.out BH.out HFK.out u HU2.out).mono ?_
       rintro e w' ⟨rfl,hT,t2,hC,ht2⟩
       have HC2:=gh hC
       have HT2:Hid (Td (fun i=>i=g) W w'):=gh (HTW.out.trans hT (fun _ e=>e) (fun _ _ e=>e))
       have HE2:=gh ht2
       clear hT hC ht2 HC HTW
       rw [EW.out]
       cases u with
       | none=>
        have HR:Hid (r=none):=gh (by rw [E6.out];exact chain_none HNX.out (by omega))
        go_wp2
        go_ret
        exact ⟨by rw [HR.out];rfl,HT2.out,t2,HC2.out,fun u h=>by rw [HR.out] at h;cases h⟩
       | some u=>
        have:=HE2.out u rfl
        subst this
        clear HE2
        go_wp2
        exact ⟨⟨k+1,_,_,by omega,rfl,by simp,NF,HNX,HC2,HT2⟩,by simp [intOf];omega⟩
      ·have j2:¬ ((k:Int) < (d:Int) - 1):=by omega
       have BH:=HHI
       obtain ⟨u,hu⟩:∃ u,sndSlot s (sndW s f) ((a:Int)+4+(d:Int)+k) F hi tk=u:=⟨_,rfl⟩
       have HU2:=gh hu
       have HNX:Hid (chain (docG s (sndW s f) a d lo hi) (k+1) t1=u):=gh (by
        rw [chain,HCH.out]
        show docG s (sndW s f) a d lo hi k tk=u
        unfold docG
        rw [if_neg (fun h=>hkd h.1),kidG,HLF2.out,highZ,if_neg hkd]
        exact hu)
       clear hu HCH
       go_wp2_with (fail)
       refine (child_r _ a d k _ hcz.out).mono ?_
       rintro e w' ⟨rfl,rfl⟩
       go_wp2_with (fail)
       rw [← EW.out]
       refine (HSL.out w0 _ b s g tk HC.out _ F hi HFB.out BH.out HFK.out u HU2.out).mono ?_
       rintro e w' ⟨rfl,hT,t2,hC,ht2⟩
       have HC2:=gh hC
       have HT2:Hid (Td (fun i=>i=g) W w'):=gh (HTW.out.trans hT (fun _ e=>e) (fun _ _ e=>e))
       have HE2:=gh ht2
       clear hT hC ht2 HC HTW
       rw [EW.out]
       cases u with
       | none=>
        have HR:Hid (r=none):=gh (by rw [E6.out];exact chain_none HNX.out (by omega))
        go_wp2
        go_ret
        exact ⟨by rw [HR.out];rfl,HT2.out,t2,HC2.out,fun u h=>by rw [HR.out] at h;cases h⟩
       | some u=>
        have:=HE2.out u rfl
        subst this
        clear HE2
        go_wp2
        exact ⟨⟨k+1,_,_,by omega,rfl,by simp,gh (fun h=>absurd h (by omega)),HNX,HC2,HT2⟩,by simp [intOf];omega⟩
     ·have hkn':k=d:=by omega
      subst hkn'
      have j1:¬ ((k:Int) < (k:Int)):=by omega
      go_wp2
      go_ret
      have HR:r=some tk:=by rw [E6.out,HCH.out]
      exact ⟨by rw [HR];rfl,HTW.out,tk,HC.out,fun u h=>by rw [HR] at h;cases h;rfl⟩
  ·have SB:shutB s a=false:=by unfold shutB;rw [hz];simp;omega
   have HR:Hid (r=none):=gh (by rw [e5,SB];rfl)
   have g1:(z == 0)=false:=by simp;omega
   have g2:(z == 1)=false:=by simp;omega
   have g3:(z != 0)=true:=by simp;omega
   have g4:(z != 1)=true:=by simp;omega
   clear C hS hlo hhi hf e1 e2 e3 e4 e5 hN ew hD hz E2 E3 E5 hT SB hz01 i5
   go_enter Tryz.func168,Tryz.ntmps168
   go_wp2_with (fail)
   refine (lk_d _ b s a d H.out.mem HD.out).mono ?_
   rintro e w' ⟨rfl,rfl⟩
   go_wp2_with (fail)
   refine (lk_d _ b s a d H.out.mem HD.out).mono ?_
   rintro e w' ⟨rfl,rfl⟩
   go_wp2_with (fail)
   refine (lk_d _ b s a d H.out.mem HD.out).mono ?_
   rintro e w' ⟨rfl,rfl⟩
   go_wp2_with (fail)
   rw [← EW.out,← I5.out]
   refine (take_d w0 _ b s g t H.out a (2 * d+4) h1 (by omega) (by omega) (by omega) (some t1) HT.out).mono ?_
   rintro e W1 ⟨rfl,hT',t',C',ht'⟩
   have:=ht' _ rfl
   subst this
   have H':=gh C'
   have TT:=gh hT'
   clear C' hT' H ht'
   rw [EW.out,I5.out]
   go_wp2_with (fail)
   refine (lk_d _ b s ((a:Int)+2) z H'.out.mem HZ.out).mono ?_
   rintro e w' ⟨rfl,rfl⟩
   go_wp2_with (fail)
   refine (lk_d _ b s ((a:Int)+2) z H'.out.mem HZ.out).mono ?_
   rintro e w' ⟨rfl,rfl⟩
   go_wp2
   go_ret
   exact ⟨by rw [HR.out];rfl,TT.out,_,H'.out,fun u h=>by rw [HR.out] at h;cases h⟩
end
section
set_option maxHeartbeats 4000000 in
set_option maxRecDepth 20000 in
theorem word_d:∀ f,WordD f
 | 0=>fun w0 W b s g t C x lo hi hx hlo hhi hf r e1=>absurd hf (by omega)
 | f+1=>by
  have ih:=word_d f
  have hS:=slot_of_word_d f ih
  intro w0 W b s g t C x lo hi hx hlo hhi hf r e1
  have H:=gh C
  have HX:=gh hx
  have HLO:=gh hlo
  have HHI:=gh hhi
  have HF:=gh hf
  have IH:=gh ih
  have HS:=gh hS
  obtain ⟨k,hk⟩:∃ k,kd x=k:=⟨_,rfl⟩
  obtain ⟨p,hp⟩:∃ p,ad x=p:=⟨_,rfl⟩
  have kr:=ad_range x
  rw [hp] at kr
  have HK:=gh hk
  obtain ⟨a,rfl⟩:∃ a:Nat,p=(a:Int):=⟨p.toNat,by omega⟩
  have HP:=gh hp
  have hap:k≠0→1≤a:=fun h=>by
   have:=ad_pos (w:=x) (by rw [hk];exact h)
   rw [hp] at this;omega
  have HA:=gh hap
  have a1:(a:Int)≤65536:=kr.2
  have haN:(ad x).toNat=a:=by rw [hp];omega
  obtain ⟨z,hz⟩:∃ z,s.look (a:Int)=z:=⟨_,rfl⟩
  have HZ:=gh hz
  have HZB:Hid (I64 z):=gh (by rw [← hz];exact C.ok.look _)
  have e2:r=if k=1 then takeO (s.xs.length+1) t a 1
   else if k=2 then (if lo≤z∧z≤hi then takeO (s.xs.length+1) t a 2 else none)
   else if k=3 then sndInner s (sndW s f) a lo hi t
   else if k=4 then (if kd z=3 then (takeO (s.xs.length+1) t a 5).bind fun t1=>sndW s f z lo hi t1 else none)
   else none:=by
   rw [← e1,sndW_succ,hk,hp,hz,Int.toNat_natCast]
  have hkr:=kd_range x
  rw [hk] at hkr
  have E2:=gh e2
  obtain ⟨N,hN⟩:∃ N,s.xs.length=N:=⟨_,rfl⟩
  have ew:metS s g=.slice (some ⟨g,0,none⟩) (N+1) (N+1):=by unfold metS;rw [hN]
  have EW:=gh ew
  rw [ew]
  clear hN
  by_cases k1:k=1
  ·have HR:Hid (takeO (s.xs.length+1) t a 1=r):=gh (by rw [E2.out,if_pos k1])
   have ha:=hap (by omega)
   subst k1
   clear C hx hlo hhi hf ih hS hk hp kr hap haN hz e1 e2 E2 hkr ew
   go_enter Tryz.func126,Tryz.ntmps126
   go_wp2_with (fail)
   refine (ak_d _ x a HX.out HP.out).mono ?_
   rintro e w' ⟨rfl,rfl⟩
   go_wp2_with (fail)
   refine (kk_d _ x 1 HX.out HK.out).mono ?_
   rintro e w' ⟨rfl,rfl⟩
   go_wp2_with (fail)
   rw [← EW.out]
   refine (take_d w0 _ b s g t H.out a 1 ha (by omega) (by omega) (by omega) r HR.out).mono ?_
   rintro e w' ⟨rfl,hT,hC⟩
   have HC:=gh hC
   have HT:=gh hT
   clear hC hT H
   go_wp2
   go_ret
   exact ⟨rfl,HT.out,HC.out⟩
  by_cases k2:k=2
  ·have ha:=hap (by omega)
   have e3:r=if lo≤z∧z≤hi then takeO (s.xs.length+1) t a 2 else none:=by rw [E2.out,if_neg k1,if_pos k2]
   obtain ⟨u,hu⟩:∃ u,takeO (s.xs.length+1) t a 2=u:=⟨_,rfl⟩
   have HU:=gh hu
   rw [hu] at e3
   have E3:=gh e3
   subst k2
   clear C hx hlo hhi hf ih hS hk hp kr hap haN hz e1 e2 E2 hkr ew k1 hu e3
   cases u with
   | none=>
    have HR:Hid (r=none):=gh (by rw [E3.out];split <;> rfl)
    go_enter Tryz.func126,Tryz.ntmps126
    go_wp2_with (fail)
    refine (ak_d _ x a HX.out HP.out).mono ?_
    rintro e w' ⟨rfl,rfl⟩
    go_wp2_with (fail)
    refine (kk_d _ x 2 HX.out HK.out).mono ?_
    rintro e w' ⟨rfl,rfl⟩
    go_wp2_with (fail)
    rw [← EW.out]
    refine (take_d w0 _ b s g t H.out a 2 ha (by omega) (by omega) (by omega) none HU.out).mono ?_
    rintro e w' ⟨rfl,hT,t',hC,_⟩
    have HC:=gh hC
    have HT:=gh hT
    clear hC hT H
    go_wp2
    go_ret
    exact ⟨by rw [HR.out];rfl,HT.out,t',HC.out,fun u h=>by rw [HR.out] at h;cases h⟩
   | some u=>
    by_cases hl1:lo≤z
    ·by_cases hl2:z≤hi
     ·have HR:Hid (r=some u):=gh (by rw [E3.out,if_pos ⟨hl1,hl2⟩])
      go_enter Tryz.func126,Tryz.ntmps126
      go_wp2_with (fail)
      refine (ak_d _ x a HX.out HP.out).mono ?_
      rintro e w' ⟨rfl,rfl⟩
      go_wp2_with (fail)
      refine (kk_d _ x 2 HX.out HK.out).mono ?_
      rintro e w' ⟨rfl,rfl⟩
      go_wp2_with (fail)
      rw [← EW.out]
      refine (take_d w0 _ b s g t H.out a 2 ha (by omega) (by omega) (by omega) (some u) HU.out).mono ?_
      rintro e w' ⟨rfl,hT,t',hC,ht'⟩
      have:=ht' u rfl
      subst this
      have HC:=gh hC
      have HT:=gh hT
      clear hC hT H ht'
      rw [EW.out]
      go_wp2_with (fail)
      refine (lk_d _ b s a z HC.out.mem HZ.out).mono ?_
      rintro e w' ⟨rfl,rfl⟩
      go_wp2_with (fail)
      refine (lk_d _ b s a z HC.out.mem HZ.out).mono ?_
      rintro e w' ⟨rfl,rfl⟩
      go_wp2
      go_ret
      exact ⟨by rw [HR.out];rfl,HT.out,t',HC.out,fun u h=>by rw [HR.out] at h;cases h;rfl⟩
     ·have HR:Hid (r=none):=gh (by rw [E3.out,if_neg (fun h=>hl2 h.2)])
      have g1:decide (z≤hi)=false:=by simp;omega
      have hl2':hi < z:=by omega
      clear hl2
      go_enter Tryz.func126,Tryz.ntmps126
      go_wp2_with (fail)
      refine (ak_d _ x a HX.out HP.out).mono ?_
      rintro e w' ⟨rfl,rfl⟩
      go_wp2_with (fail)
      refine (kk_d _ x 2 HX.out HK.out).mono ?_
      rintro e w' ⟨rfl,rfl⟩
      go_wp2_with (fail)
      rw [← EW.out]
      refine (take_d w0 _ b s g t H.out a 2 ha (by omega) (by omega) (by omega) (some u) HU.out).mono ?_
      rintro e w' ⟨rfl,hT,t',hC,ht'⟩
      have:=ht' u rfl
      subst this
      have HC:=gh hC
      have HT:=gh hT
      clear hC hT H ht'
      rw [EW.out]
      go_wp2_with (fail)
      refine (lk_d _ b s a z HC.out.mem HZ.out).mono ?_
      rintro e w' ⟨rfl,rfl⟩
      go_wp2_with (fail)
      refine (lk_d _ b s a z HC.out.mem HZ.out).mono ?_
      rintro e w' ⟨rfl,rfl⟩
      go_wp2
      go_ret
      exact ⟨by rw [HR.out];rfl,HT.out,t',HC.out,fun u h=>by rw [HR.out] at h;cases h⟩
    ·have HR:Hid (r=none):=gh (by rw [E3.out,if_neg (fun h=>hl1 h.1)])
     have g1:decide (lo≤z)=false:=by simp;omega
     have hl1':z < lo:=by omega
     clear hl1
     go_enter Tryz.func126,Tryz.ntmps126
     go_wp2_with (fail)
     refine (ak_d _ x a HX.out HP.out).mono ?_
     rintro e w' ⟨rfl,rfl⟩
     go_wp2_with (fail)
     refine (kk_d _ x 2 HX.out HK.out).mono ?_
     rintro e w' ⟨rfl,rfl⟩
     go_wp2_with (fail)
     rw [← EW.out]
     refine (take_d w0 _ b s g t H.out a 2 ha (by omega) (by omega) (by omega) (some u) HU.out).mono ?_
     rintro e w' ⟨rfl,hT,t',hC,ht'⟩
     have:=ht' u rfl
     subst this
     have HC:=gh hC
     have HT:=gh hT
     clear hC hT H ht'
     rw [EW.out]
     go_wp2_with (fail)
     refine (lk_d _ b s a z HC.out.mem HZ.out).mono ?_
     rintro e w' ⟨rfl,rfl⟩
     go_wp2
     go_ret
     exact ⟨by rw [HR.out];rfl,HT.out,t',HC.out,fun u h=>by rw [HR.out] at h;cases h⟩
  by_cases k3:k=3
  ·have HR:Hid (sndInner s (sndW s f) a lo hi t=r):=gh (by rw [E2.out,if_neg k1,if_neg k2,if_pos k3])
   have ha:=hap (by omega)
   subst k3
   clear C hx hlo hhi hf ih hS hk hp kr hap haN hz e1 e2 E2 hkr ew k1 k2
   go_enter Tryz.func126,Tryz.ntmps126
   go_wp2_with (fail)
   refine (ak_d _ x a HX.out HP.out).mono ?_
   rintro e w' ⟨rfl,rfl⟩
   go_wp2_with (fail)
   refine (kk_d _ x 3 HX.out HK.out).mono ?_
   rintro e w' ⟨rfl,rfl⟩
   go_wp2_with (fail)
   rw [← EW.out]
   refine (inner_of_slot_d f HS.out w0 _ b s g t H.out a lo hi ha (by omega) HLO.out HHI.out HF.out r HR.out).mono ?_
   rintro e w' ⟨rfl,hT,hC⟩
   have HC:=gh hC
   have HT:=gh hT
   clear hC hT H
   go_wp2
   go_ret
   exact ⟨rfl,HT.out,HC.out⟩
  by_cases k4:k=4
  ·have ha:=hap (by omega)
   have e3:r=if kd z=3 then (takeO (s.xs.length+1) t a 5).bind (fun t1=>sndW s f z lo hi t1) else none:=by rw [E2.out,if_neg k1,if_neg k2,if_neg k3,if_pos k4]
   obtain ⟨u,hu⟩:∃ u,takeO (s.xs.length+1) t a 5=u:=⟨_,rfl⟩
   have HU:=gh hu
   obtain ⟨j,hj⟩:∃ j,kd z=j:=⟨_,rfl⟩
   have HJ:=gh hj
   rw [hu,hj] at e3
   have E3:=gh e3
   subst k4
   clear C hx hlo hhi hf ih hS hk hp kr hap haN hz e1 e2 E2 hkr ew k1 k2 k3 e3 hj
   cases u with
   | none=>
    have HR:Hid (r=none):=gh (by rw [E3.out];split <;> rfl)
    clear hu
    go_enter Tryz.func126,Tryz.ntmps126
    go_wp2_with (fail)
    refine (ak_d _ x a HX.out HP.out).mono ?_
    rintro e w' ⟨rfl,rfl⟩
    go_wp2_with (fail)
    refine (kk_d _ x 4 HX.out HK.out).mono ?_
    rintro e w' ⟨rfl,rfl⟩
    go_wp2_with (fail)
    refine (lk_d _ b s a z H.out.mem HZ.out).mono ?_
    rintro e w' ⟨rfl,rfl⟩
    go_wp2_with (fail)
    rw [← EW.out]
    refine (take_d w0 _ b s g t H.out a 5 ha (by omega) (by omega) (by omega) none HU.out).mono ?_
    rintro e w' ⟨rfl,hT,t',hC,_⟩
    have HC:=gh hC
    have HT:=gh hT
    clear hC hT H
    go_wp2
    go_ret
    exact ⟨by rw [HR.out];rfl,HT.out,t',HC.out,fun u h=>by rw [HR.out] at h;cases h⟩
   | some u=>
    have HFU:Hid (freeN (s.xs.length+1) u < f):=gh (by have:=takeO_free hu;have:=HF.out;omega)
    clear hu
    by_cases j3:j=3
    ·have HR:Hid (sndW s f z lo hi u=r):=gh (by rw [E3.out,if_pos j3];rfl)
     subst j3
     go_enter Tryz.func126,Tryz.ntmps126
     go_wp2_with (fail)
     refine (ak_d _ x a HX.out HP.out).mono ?_
     rintro e w' ⟨rfl,rfl⟩
     go_wp2_with (fail)
     refine (kk_d _ x 4 HX.out HK.out).mono ?_
     rintro e w' ⟨rfl,rfl⟩
     go_wp2_with (fail)
     refine (lk_d _ b s a z H.out.mem HZ.out).mono ?_
     rintro e w' ⟨rfl,rfl⟩
     go_wp2_with (fail)
     rw [← EW.out]
     refine (take_d w0 _ b s g t H.out a 5 ha (by omega) (by omega) (by omega) (some u) HU.out).mono ?_
     rintro e w' ⟨rfl,hT,t',hC,ht'⟩
     have:=ht' u rfl
     subst this
     have HC:=gh hC
     have HT:=gh hT
     clear hC hT H ht'
     rw [EW.out]
     go_wp2_with (fail)
     refine (kk_d _ z 3 HZB.out HJ.out).mono ?_
     rintro e w'' ⟨rfl,rfl⟩
     go_wp2_with (fail)
     rw [← EW.out]
     refine (IH.out w0 _ b s g _ HC.out z lo hi HZB.out HLO.out HHI.out HFU.out r HR.out).mono ?_
     rintro e w'' ⟨rfl,hT,hC⟩
     have HC2:=gh hC
     have HT2:=gh (HT.out.trans hT (fun _ e=>e) (fun _ _ e=>e))
     clear hC hT HC HT
     go_wp2
     go_ret
     exact ⟨rfl,HT2.out,HC2.out⟩
    ·have HR:Hid (r=none):=gh (by rw [E3.out,if_neg j3])
     have g1:(j == 3)=false:=by simp [j3]
     have g2:(j != 3)=true:=by simp [j3]
     clear j3
     go_enter Tryz.func126,Tryz.ntmps126
     go_wp2_with (fail)
     refine (ak_d _ x a HX.out HP.out).mono ?_
     rintro e w' ⟨rfl,rfl⟩
     go_wp2_with (fail)
     refine (kk_d _ x 4 HX.out HK.out).mono ?_
     rintro e w' ⟨rfl,rfl⟩
     go_wp2_with (fail)
     refine (lk_d _ b s a z H.out.mem HZ.out).mono ?_
     rintro e w' ⟨rfl,rfl⟩
     go_wp2_with (fail)
     rw [← EW.out]
     refine (take_d w0 _ b s g t H.out a 5 ha (by omega) (by omega) (by omega) (some u) HU.out).mono ?_
     rintro e w' ⟨rfl,hT,t',hC,ht'⟩
     have:=ht' u rfl
     subst this
     have HC:=gh hC
     have HT:=gh hT
     clear hC hT H ht'
     rw [EW.out]
     go_wp2_with (fail)
     refine (kk_d _ z j HZB.out HJ.out).mono ?_
     rintro e w'' ⟨rfl,rfl⟩
     go_wp2
     go_ret
     exact ⟨by rw [HR.out];rfl,HT.out,t',HC.out,fun u h=>by rw [HR.out] at h;cases h⟩
  ·have HR:Hid (r=none):=gh (by rw [E2.out,if_neg k1,if_neg k2,if_neg k3,if_neg k4])
   have g1:(k == 1)=false:=by simp [k1]
   have g2:(k == 2)=false:=by simp [k2]
   have g3:(k == 3)=false:=by simp [k3]
   have g4:(k == 4)=false:=by simp [k4]
   clear C hx hlo hhi hf ih hS hk hp kr hap haN hz e1 e2 E2 hkr ew k1 k2 k3 k4
   go_enter Tryz.func126,Tryz.ntmps126
   go_wp2_with (fail)
   refine (ak_d _ x a HX.out HP.out).mono ?_
   rintro e w' ⟨rfl,rfl⟩
   go_wp2_with (fail)
   refine (kk_d _ x k HX.out HK.out).mono ?_
   rintro e w' ⟨rfl,rfl⟩
   go_wp2
   go_ret
   exact ⟨by rw [HR.out];rfl,Td.refl _ _,t,H.out,fun u h=>by rw [HR.out] at h;cases h⟩
set_option maxRecDepth 20000 in
theorem sound_d (w:World) (b:Nat) (s:Mst) (h:DM w b s) (ho:s.ok) (r:Bool) (e1:soundB s=r) :
  Calls Tryz.prog 31 #[.pointer (some ⟨b,0,none⟩)] w fun e w'=>e=.returned (.bool r)∧Kept w w':=by
 have H:=gh h
 have HO:=gh ho
 obtain ⟨la,lc,c1,hrd⟩:=DCk.cells h
 obtain ⟨z1,hz1⟩:∃ z,s.look 1=z:=⟨_,rfl⟩
 obtain ⟨z3,hz3⟩:∃ z,s.look 3=z:=⟨_,rfl⟩
 obtain ⟨N,hN⟩:∃ N,s.xs.length=N:=⟨_,rfl⟩
 have e2:r=(decide (6≤N) && (z1 == 1) && (z3 == 0) && (sndSlot s (sndW s (fuel s)) 6 (-9223372036854775808) 9223372036854775807 base0).isSome):=by
  rw [← e1,soundB,hz1,hz3,hN]
 have E2:=gh e2
 have HN:=gh hN
 have n1:N≤65536:=by rw [← hN];exact HO.out.2
 rw [hN] at c1
 by_cases h6:6≤N
 ·have x1:s.xs[0]? = some z1:=by
   have h0:0 < s.xs.length:=by omega
   rw [List.getElem?_eq_getElem h0,← hz1,← Mst.look_succ (s:=s) (j:=0) (List.getElem?_eq_getElem h0)];rfl
  have x3:s.xs[2]? = some z3:=by
   have h0:2 < s.xs.length:=by omega
   rw [List.getElem?_eq_getElem h0,← hz3,← Mst.look_succ (s:=s) (j:=2) (List.getElem?_eq_getElem h0)];rfl
  obtain ⟨bl,off,rfl,_,q1⟩:=hrd.at x1
  obtain ⟨bl',off',he,_,q3⟩:=hrd.at x3
  cases he
  rw [Nat.add_zero] at q1
  have n6:¬ ((N:Int) < 6):=by omega
  have n7:(0:Int) < (N:Int):=by omega
  have n8:(2:Int) < (N:Int):=by omega
  clear h ho hrd hz1 hz3 e1 e2 hN x1 x3
  by_cases y1:z1=1
  ·by_cases y3:z3=0
   ·subst y1 y3
    have hmk:=run_make58 (N+1) (by omega)
    rw [show ((N+1:Nat):Int)=(N:Int)+1 from rfl] at hmk
    have C0:Hid (DCk w (w.alloc (.cells (madeCells #[.bool false] (N+1)) 4)) b s w.heap.size (takeT (fun _=>false) 1 0)):=gh (by
     refine ⟨H.out,HO.out,(Kept.refl w).alloc _,Nat.le_refl _,?_⟩
     rw [HN.out,takeT_zero]
     exact World.rowIs_made w (.bool false) (N+1) 4)
    obtain ⟨g,hg⟩:∃ g,w.heap.size=g:=⟨_,rfl⟩
    have HG:=gh hg
    go_enter Tryz.func31,Tryz.ntmps31
    go_wp2
    rw [hg] at C0
    clear hg hmk q1 q3 c1
    go_loopw [4] (fun v wr=>∃ k:Nat,k≤6∧v=.int .i64 (1+(k:Int))∧Hid (DCk w wr b s g (takeT (fun _=>false) 1 k))) (fun v _=>7 - (intOf v).toNat)
    case atStart=>exact ⟨0,by omega,by simp,C0⟩
    case round=>
     obtain ⟨k,hk,rfl,HC⟩:=hrel
     by_cases hk6:k < 6
     ·have i1:1+(k:Int)≤6:=by omega
      have i2:1+(k:Int) < (N:Int)+1:=by omega
      have i4:(1+(k:Int)).toNat=1+k:=by omega
      have b2:=HC.out.row.cell (show 1+k < s.xs.length+1 by rw [HN.out];omega)
      have b3:=HC.out.row.frozen (1+k)
      have G2:=gh (HC.out.put (1+k) (takeT_succ (fun _=>false) 1 k))
      go_wp2
      exact ⟨⟨k+1,by omega,by simp;omega,G2⟩,by simp [intOf];omega⟩
     ·have hk6':k=6:=by omega
      subst hk6'
      have HFU:Hid (freeN (s.xs.length+1) (takeT (fun _=>false) 1 6) < fuel s):=gh (by
       have:=freeN_le (s.xs.length+1) (takeT (fun _=>false) 1 6)
       unfold fuel;omega)
      obtain ⟨u,hu⟩:∃ u,sndSlot s (sndW s (fuel s)) 6 (-9223372036854775808) 9223372036854775807 base0=u:=⟨_,rfl⟩
      have HU:=gh hu
      have HR:Hid (r=u.isSome):=gh (by rw [E2.out,hu];simp [h6])
      have ew:metS s g=.slice (some ⟨g,0,none⟩) (N+1) (N+1):=by unfold metS;rw [HN.out]
      have EW:=gh ew
      clear hu ew
      go_wp2_with (fail)
      rw [← EW.out]
      refine (slot_of_word_d _ (word_d (fuel s)) w _ b s _ _ HC.out 6 (-9223372036854775808) 9223372036854775807 ⟨by decide,by decide⟩ ⟨by decide,by decide⟩ HFU.out u HU.out).mono ?_
      rintro e W3 ⟨rfl,hT,t',hC,ht'⟩
      have HC3:=gh hC
      clear hT hC ht' HC
      go_wp2
      go_ret
      exact ⟨by rw [HR.out];rfl,HC3.out.kept⟩
   ·have HR:Hid (r=false):=gh (by rw [E2.out];simp [y3])
    have g1:(z3 == 0)=false:=by simp [y3]
    have g2:(z3 != 0)=true:=by simp [y3]
    subst y1
    clear y3
    go_enter Tryz.func31,Tryz.ntmps31
    go_wp2
    go_ret
    exact ⟨by rw [HR.out];rfl,Kept.refl _⟩
  ·have HR:Hid (r=false):=gh (by rw [E2.out];simp [y1])
   have g1:(z1 == 1)=false:=by simp [y1]
   have g2:(z1 != 1)=true:=by simp [y1]
   clear y1
   go_enter Tryz.func31,Tryz.ntmps31
   go_wp2
   go_ret
   exact ⟨by rw [HR.out];rfl,Kept.refl _⟩
 ·have HR:Hid (r=false):=gh (by rw [e2];simp [h6])
  have n6:(N:Int) < 6:=by omega
  clear h ho hrd hz1 hz3 e1 e2 hN
  go_enter Tryz.func31,Tryz.ntmps31
  go_wp2
  go_ret
  exact ⟨by rw [HR.out];rfl,Kept.refl _⟩
end
section
theorem flat_take {α β:Type} (F:α→List β) {L:List α} {k:Nat} {p:α} (h:L[k]? = some p):(L.take (k+1)).flatMap F=(L.take k).flatMap F++F p:=by
 rw [← (at_split h).2,List.flatMap_append];simp
theorem flat_take_le {α β:Type} (F:α→List β) (L:List α) (k:Nat):((L.take k).flatMap F).length≤(L.flatMap F).length:=by
 conv=>rhs;rw [← List.take_append_drop k L,List.flatMap_append,List.length_append]
 omega
def SpotsD (f:Nat):Prop:=∀ (w:World) (b:Nat) (s:Mst) (_:DM w b s) (_:s.ok) (x:Int) (_:Wf s f x) (_:(spotsF s f x).length≤70000),Calls Tryz.prog 92 #[.pointer (some ⟨b,0,none⟩),.int .i64 x] w (PSliced 94 (spotsF s f x) w)
set_option maxHeartbeats 2000000 in
set_option maxRecDepth 20000 in
theorem spots_inner (f:Nat) (ih:SpotsD f) (w:World) (b:Nat) (s:Mst) (h:DM w b s) (ho:s.ok) (x:Int) (hw:Wf s (f+1) x) (k3:kd x=3) (hl:(spotsF s (f+1) x).length≤70000) :
  Calls Tryz.prog 92 #[.pointer (some ⟨b,0,none⟩),.int .i64 x] w (PSliced 94 (spotsF s (f+1) x) w):=by
 have e0:tgt s x=x:=by rw [tgt,if_neg (by rw [k3];decide)]
 obtain ⟨hwh,hwk⟩:=hw
 obtain ⟨p,hp⟩:∃ p,ad x=p:=⟨_,rfl⟩
 have pr:=ad_range x
 rw [hp] at pr
 obtain ⟨a,rfl⟩:∃ a:Nat,p=(a:Int):=⟨p.toNat,by omega⟩
 have a2:(a:Int)≤65536:=pr.2
 have hd:=hwh.deg (by rw [e0];exact k3)
 rw [e0,hp] at hd
 obtain ⟨d,hd'⟩:∃ d:Nat,s.look (a:Int)=(d:Int):=⟨(s.look a).toNat,by omega⟩
 rw [hd'] at hd
 obtain ⟨d2,d3⟩:=hd
 have eA:atN s x=a:=by unfold atN;rw [e0,hp];omega
 have eD:degN s x=d:=by unfold degN;rw [e0,hp,hd'];omega
 have HLA:Hid (∀ k,k < d→(slotsL s x)[k]? = some ((k:Int),childS a d k)):=gh (fun k hk=>by
  have:=slotsL_at (s:=s) (x:=x) (by rw [e0];exact k3) (k:=k) (by rw [eD];exact hk)
  rwa [eA,eD] at this)
 have HLL:Hid ((slotsL s x).length=d):=gh (by rw [slotsL_len (by rw [e0];exact k3),eD])
 rw [spotsF_succ] at hl ⊢
 have H:=gh h
 have HO:=gh ho
 have HX:=gh hwh.i64
 have HP:=gh hp
 have HD:=gh hd'
 have K3:=gh k3
 have IH:=gh ih
 have HWK:=gh hwk
 have HL:=gh hl
 clear h ho hwh hp hd' k3 ih hwk hl pr e0 eA eD
 go_enter Tryz.func92,Tryz.ntmps92
 go_wp2_with (fail)
 refine (ak_d _ x a HX.out HP.out).mono ?_
 rintro e w' ⟨rfl,rfl⟩
 go_wp2_with (fail)
 refine (kk_d _ x 3 HX.out K3.out).mono ?_
 rintro e w' ⟨rfl,rfl⟩
 go_wp2_with (fail)
 refine (lk_d _ b s a d H.out HD.out).mono ?_
 rintro e w' ⟨rfl,rfl⟩
 go_wp2
 go_loopw [5,8] (fun v i wr=>∃ (k:Nat) (ys:List (Int × Int)),k≤d∧i=.int .i64 (k:Int)∧Hid (ys=((slotsL s x).take k).flatMap (oneF s f))∧Hid (PRow wr w.heap.size 94 v ys)∧Hid (Kept w wr)) (fun _ i _=>d - (intOf i).toNat)
 case atStart=>exact ⟨0,[],by omega,by simp,gh (by simp),gh (PRow.nil _ _ _),gh (Kept.refl _)⟩
 case round=>
  obtain ⟨k,ys,hk,rfl,HY,HR,HK⟩:=hrel
  by_cases hkn:k < d
  ·have j1:(k:Int) < (d:Int):=by omega
   have hcz:=gh (childZ_in (n:=a) (d:=(d:Int)) (i:=k) (by omega) (by omega) (by omega) (by omega) (by omega) (by omega))
   obtain ⟨sl,hsl⟩:∃ sl,(a:Int)+4+(d:Int)+k=sl:=⟨_,rfl⟩
   rw [hsl] at hcz
   obtain ⟨y,hy⟩:∃ y,s.logicZ sl=y:=⟨_,rfl⟩
   have HYY:=gh hy
   have hat:=HLA.out k hkn
   have hat':(slotsL s x)[k]? = some ((k:Int),sl):=by rw [hat];unfold childS;rw [hsl]
   have hone:oneF s f ((k:Int),sl)=(sl,y) :: spotsF s f y:=by rw [oneF,hy]
   have hwf:Wf s f y:=by
    have:=HWK.out ((k:Int),sl) (List.mem_of_getElem? hat')
    rwa [hy] at this
   have HWF:=gh hwf
   have hnx:((slotsL s x).take (k+1)).flatMap (oneF s f)=ys++((sl,y) :: spotsF s f y):=by rw [flat_take _ hat',← HY.out,hone]
   have hlen:(ys++((sl,y) :: spotsF s f y)).length≤70000:=by rw [← hnx];exact Nat.le_trans (flat_take_le _ _ _) HL.out
   rw [List.length_append,List.length_cons] at hlen
   obtain ⟨zs,hzs⟩:∃ zs,ys++[(sl,y)]=zs:=⟨_,rfl⟩
   have hzl:zs.length=ys.length+1:=by rw [← hzs];simp
   obtain ⟨us,hus⟩:∃ us,zs++spotsF s f y=us:=⟨_,rfl⟩
   have HUS:=gh hus.symm
   have HNX:Hid (us=((slotsL s x).take (k+1)).flatMap (oneF s f)):=gh (by rw [hnx,← hus,← hzs];simp)
   have HZS:=gh hzs.symm
   have L1:Hid (ys.length≤1000000):=gh (by omega)
   have L2:Hid ((spotsF s f y).length≤70000):=gh (by omega)
   have L3:Hid (zs.length+(spotsF s f y).length≤1000000):=gh (by omega)
   have MW:=gh (H.out.kept HK.out)
   clear hy hat hat' hone hwf hnx hlen hzs hzl hus hsl
   go_wp2_with (fail)
   refine (child_r _ a d k sl hcz.out).mono ?_
   rintro e w' ⟨rfl,rfl⟩
   go_wp2_with (fail)
   refine (logic_d _ b s sl y MW.out HO.out HYY.out).mono ?_
   rintro e w' ⟨rfl,rfl⟩
   go_wp2_with (at_builtin;refine Stop.out ?_)
   refine ⟨?_⟩
   have HRA:=gh (HR.out.kept (Kept.alloc (Kept.refl wr) (.cells #[.int .i64 sl,.int .i64 y] 94)))
   have HNW:Hid ((wr.alloc (.cells #[.int .i64 sl,.int .i64 y] 94)).heap[wr.heap.size]? = some (.cells #[.int .i64 sl,.int .i64 y] 94)):=gh (heap_new _ _)
   have HKA:=gh (HK.out.trans (Kept.alloc (Kept.refl wr) (.cells #[.int .i64 sl,.int .i64 y] 94)))
   refine wpList_append_pair ptS rfl _ _ rfl w.heap.size _ ys zs rfl HRA.out wr.heap.size sl y rfl HNW.out L1.out HKA.out.size HZS.out ?_
   intro v1 W1 hown hg _
   have HK1:=gh (pkept_append HKA.out HRA.out hg)
   have HR1:=gh hown
   have MW1:=gh (H.out.kept HK1.out)
   clear hown hg HRA HNW HKA HR HK MW
   go_wp2_with (fail)
   refine (logic_d _ b s sl y MW1.out HO.out HYY.out).mono ?_
   rintro e w' ⟨rfl,rfl⟩
   go_wp2_with (fail)
   refine (IH.out W1 b s MW1.out HO.out y HWF.out L2.out).mono ?_
   rintro e W2 ⟨v2,rfl,hr2,k2⟩
   obtain ⟨a2',c2,hv2,hrd,_,_,h0,_⟩:=hr2.reads
   obtain ⟨M,hM⟩:∃ M,(spotsF s f y).length=M:=⟨_,rfl⟩
   have HMM:=gh hM
   rw [hM] at hv2
   subst hv2
   have HR2:=gh (HR1.out.kept k2)
   have HK2:=gh (HK1.out.trans k2)
   have HRD:=gh hrd
   have H0:=gh h0
   clear hr2 k2 hrd h0 hM HR1 HK1 MW1
   go_wp2_with (at_builtin;refine Stop.out ?_)
   refine ⟨?_⟩
   refine wpList_append_pairs ptS rfl _ _ rfl w.heap.size _ zs (spotsF s f y) us rfl HR2.out a2' M c2 HMM.out rfl HRD.out H0.out L3.out HK2.out.size HUS.out ?_
   intro v3 W3 hown hg _
   have HK3:=gh (pkept_append HK2.out HR2.out hg)
   have HR3:=gh hown
   clear hown hg HR2 HK2 HRD H0
   go_wp2
   exact ⟨⟨k+1,us,by omega,by simp,HNX,HR3,HK3⟩,by simp [intOf];omega⟩
  ·have hkn':k=d:=by omega
   subst hkn'
   have j1:¬ ((k:Int) < (k:Int)):=by omega
   have HE:Hid (ys=(slotsL s x).flatMap (oneF s f)):=gh (by rw [HY.out,List.take_of_length_le (by rw [HLL.out];omega)])
   go_wp2
   go_ret
   exact ⟨_,rfl,by rw [← HE.out];exact HR.out,HK.out⟩
set_option maxHeartbeats 1000000 in
theorem spots_d:∀ f,SpotsD f
 | 0=>fun _ _ _ _ _ _ h _=>h.elim
 | f+1=>by
  have ih:=spots_d f
  intro w b s h ho x hw hl
  obtain ⟨k,hk⟩:∃ k,kd x=k:=⟨_,rfl⟩
  by_cases k3:k=3
  ·exact spots_inner f ih w b s h ho x hw (by rw [hk,k3]) hl
  obtain ⟨p,hp⟩:∃ p,ad x=p:=⟨_,rfl⟩
  have pr:=ad_range x
  rw [hp] at pr
  have H:=gh h
  have HX:=gh hw.1.i64
  have HP:=gh hp
  have HK:=gh hk
  by_cases k4:k=4
  ·have h3:=hw.1.tg (by rw [hk];exact k4)
   have e0:tgt s x=s.look p:=by rw [tgt,if_pos (by rw [hk];exact k4),hp]
   obtain ⟨z,hz⟩:∃ z,s.look p=z:=⟨_,rfl⟩
   have HZ:=gh hz
   have hw2:=hw.down ho h3
   have HS:Hid (Calls Tryz.prog 92 #[.pointer (some ⟨b,0,none⟩),.int .i64 z] w (PSliced 94 (spotsF s (f+1) x) w)):=gh (by
    rw [← spotsF_tgt h3,e0,hz]
    rw [e0,hz] at hw2 h3
    refine spots_inner f ih w b s h ho z hw2 h3 ?_
    rw [← hz,← e0,spotsF_tgt (by rw [e0,hz];exact h3)]
    exact hl)
   subst k4
   clear h ho hw hl hk hp hz e0 h3 hw2 ih k3
   go_enter Tryz.func92,Tryz.ntmps92
   go_wp2_with (fail)
   refine (ak_d _ x p HX.out HP.out).mono ?_
   rintro e w' ⟨rfl,rfl⟩
   go_wp2_with (fail)
   refine (kk_d _ x 4 HX.out HK.out).mono ?_
   rintro e w' ⟨rfl,rfl⟩
   go_wp2_with (fail)
   refine (lk_d _ b s p z H.out HZ.out).mono ?_
   rintro e w' ⟨rfl,rfl⟩
   go_wp2_with (fail)
   refine HS.out.mono ?_
   rintro e W1 ⟨v,rfl,hr,k1⟩
   have HR:=gh hr
   have K1:=gh k1
   clear hr k1 HS
   go_wp2
   go_ret
   exact ⟨_,rfl,HR.out,K1.out⟩
  ·have HE:=gh (spotsF_none (s:=s) (f:=f+1) (x:=x) (by rw [tgt,if_neg (by rw [hk];exact k4),hk];exact k3))
   have g1:(k == 4)=false:=by simp [k4]
   have g2:(k == 3)=false:=by simp [k3]
   clear h ho hw hl hk hp ih k3 k4
   go_enter Tryz.func92,Tryz.ntmps92
   go_wp2_with (fail)
   refine (ak_d _ x p HX.out HP.out).mono ?_
   rintro e w' ⟨rfl,rfl⟩
   go_wp2_with (fail)
   refine (kk_d _ x k HX.out HK.out).mono ?_
   rintro e w' ⟨rfl,rfl⟩
   go_wp2
   go_ret
   exact ⟨_,rfl,by rw [HE.out];exact PRow.nil _ _ _,Kept.refl _⟩
theorem spotsD_p (w:World) (b:Nat) (s:Mst) (h:DM w b s) (ho:s.ok) (xs:List (Int × Int)) (e1:(if soundB s=true then spotsL s (fuel s) else [])=xs) :
  Calls Tryz.prog 39 #[.pointer (some ⟨b,0,none⟩)] w (PSliced 94 xs w):=by
 have H:=gh h
 have HO:=gh ho
 obtain ⟨q,hq⟩:∃ q,soundB s=q:=⟨_,rfl⟩
 have HQ:=gh hq
 rw [hq] at e1
 cases q with
 | false=>
  have HX:Hid (xs=[]):=gh (by rw [← e1];rfl)
  clear h ho hq e1
  go_enter Tryz.func39,Tryz.ntmps39
  go_wp2_with (fail)
  refine (sound_d _ b s H.out HO.out false HQ.out).mono ?_
  rintro e W2 ⟨rfl,k2⟩
  have K2:=gh k2
  clear k2
  go_wp2
  go_ret
  exact ⟨_,rfl,by rw [HX.out];exact PRow.nil _ _ _,K2.out⟩
 | true=>
  obtain ⟨y,hy⟩:∃ y,s.logicZ 6=y:=⟨_,rfl⟩
  have HYY:=gh hy
  have HX:Hid (xs=[(6,y)]++spotsF s (fuel s) y):=gh (by rw [← e1,if_pos rfl,spotsL,hy];rfl)
  have hwf:=wf_root ho hq
  rw [hy] at hwf
  have HWF:=gh hwf
  have hlen:=spotsL_len ho hq
  rw [spotsL,hy,List.length_cons] at hlen
  have L2:Hid ((spotsF s (fuel s) y).length≤70000):=gh (by omega)
  have L3:Hid ([((6:Int),y)].length+(spotsF s (fuel s) y).length≤1000000):=gh (by rw [List.length_singleton];omega)
  clear h ho hq e1 hy hwf hlen
  go_enter Tryz.func39,Tryz.ntmps39
  go_wp2_with (fail)
  refine (sound_d _ b s H.out HO.out true HQ.out).mono ?_
  rintro e W2 ⟨rfl,k2⟩
  have K2:=gh k2
  have M2:=gh (H.out.kept k2)
  clear k2
  go_wp2_with (fail)
  refine (logic_d _ b s 6 y M2.out HO.out HYY.out).mono ?_
  rintro e w' ⟨rfl,rfl⟩
  go_wp2_with (fail)
  obtain ⟨W3,hW3⟩:∃ W3,W2.alloc (.cells #[.int .i64 6,.int .i64 y] 94)=W3:=⟨_,rfl⟩
  obtain ⟨m,hm⟩:∃ m,W2.heap.size=m:=⟨_,rfl⟩
  have k3:Kept W2 W3:=by rw [← hW3];exact (Kept.refl _).alloc _
  have r3:PRow W3 w.heap.size 94 (.slice (some ⟨m,0,none⟩) 1 1) [(6,y)]:=by
   rw [← hW3,← hm]
   exact ⟨rfl,.inr ⟨W2.heap.size,1,_,rfl,K2.out.size,heap_new _ _,Nat.le_refl _,by unfold maxLen;omega,rfl,rfl⟩⟩
  rw [hW3,hm]
  have R3:=gh r3
  have K3:=gh (K2.out.trans k3)
  have M3:=gh (H.out.kept K3.out)
  clear hW3 hm k3 r3 K2 M2
  refine (spots_d (fuel s) W3 b s M3.out HO.out y HWF.out L2.out).mono ?_
  rintro e W4 ⟨v2,rfl,hr2,k4⟩
  obtain ⟨a2',c2,hv2,hrd,_,_,h0,_⟩:=hr2.reads
  obtain ⟨M,hM⟩:∃ M,(spotsF s (fuel s) y).length=M:=⟨_,rfl⟩
  have HMM:=gh hM
  rw [hM] at hv2
  subst hv2
  have R4:=gh (R3.out.kept k4)
  have K4:=gh (K3.out.trans k4)
  have HRD:=gh hrd
  have H0:=gh h0
  clear hr2 k4 hrd h0 hM R3 K3 M3
  go_wp2_with (at_builtin;refine Stop.out ?_)
  refine ⟨?_⟩
  refine wpList_append_pairs ptS rfl _ _ rfl w.heap.size _ [(6,y)] (spotsF s (fuel s) y) xs rfl R4.out a2' M c2 HMM.out rfl HRD.out H0.out L3.out K4.out.size HX.out ?_
  intro v3 W5 hown hg _
  have K5:=gh (pkept_append K4.out R4.out hg)
  have R5:=gh hown
  clear hown hg R4 K4 HRD H0
  go_wp2
  go_ret
  exact ⟨_,rfl,R5.out,K5.out⟩
end
section
def oneC (s:Mst) (f:Nat) (p:Int × Int):List (Int × Int):=pairsF s f (s.logicZ p.2)
theorem pairsF_succ {s:Mst} {f:Nat} {x:Int} (h2:kd x≠2):pairsF s (f+1) x=(slotsL s x).flatMap (oneC s f):=by
 rw [pairsF,leafL,if_neg h2,List.nil_append,spotsF_succ,List.flatMap_assoc]
 rfl
theorem pairsF_tgt {s:Mst} {f:Nat} {x:Int} (h4:kd x=4) (h3:kd (tgt s x)=3):pairsF s f (tgt s x)=pairsF s f x:=by
 rw [pairsF,pairsF,spotsF_tgt h3,leafL,leafL,if_neg (by rw [h3];decide),if_neg (by rw [h4];decide)]
theorem pairsF_none {s:Mst} {f:Nat} {x:Int} (h2:kd x≠2) (h3:kd (tgt s x)≠3):pairsF s f x=[]:=by
 rw [pairsF,spotsF_none h3,leafL,if_neg h2];rfl
theorem pairsF_le (s:Mst) (f:Nat) (x:Int):(pairsF s f x).length≤(spotsF s f x).length+1:=by
 rw [pairsF,List.length_append]
 have h1:=leafL_len s x
 have h2:=leaves_len s (spotsF s f x)
 omega
theorem oneC_len (s:Mst) (f:Nat) (L:List (Int × Int)):(L.flatMap (oneC s f)).length≤(L.flatMap (oneF s f)).length:=by
 induction L with
 | nil=>simp
 | cons p L ih=>
  simp only [List.flatMap_cons,List.length_append]
  have:=pairsF_le s f (s.logicZ p.2)
  unfold oneC oneF
  simp only [List.length_cons]
  unfold oneC oneF at ih
  omega
def ContD (f:Nat):Prop:=∀ (w:World) (b:Nat) (s:Mst) (_:DM w b s) (_:s.ok) (x:Int) (_:Wf s f x) (_:(spotsF s f x).length≤70000),Calls Tryz.prog 89 #[.pointer (some ⟨b,0,none⟩),.int .i64 x] w (PSliced 59 (pairsF s f x) w)
set_option maxHeartbeats 2000000 in
set_option maxRecDepth 20000 in
theorem cont_inner (f:Nat) (ih:ContD f) (w:World) (b:Nat) (s:Mst) (h:DM w b s) (ho:s.ok) (x:Int) (hw:Wf s (f+1) x) (k3:kd x=3) (hl:(spotsF s (f+1) x).length≤70000) :
  Calls Tryz.prog 89 #[.pointer (some ⟨b,0,none⟩),.int .i64 x] w (PSliced 59 (pairsF s (f+1) x) w):=by
 have e0:tgt s x=x:=by rw [tgt,if_neg (by rw [k3];decide)]
 obtain ⟨hwh,hwk⟩:=hw
 obtain ⟨p,hp⟩:∃ p,ad x=p:=⟨_,rfl⟩
 have pr:=ad_range x
 rw [hp] at pr
 obtain ⟨a,rfl⟩:∃ a:Nat,p=(a:Int):=⟨p.toNat,by omega⟩
 have a2:(a:Int)≤65536:=pr.2
 have hd:=hwh.deg (by rw [e0];exact k3)
 rw [e0,hp] at hd
 obtain ⟨d,hd'⟩:∃ d:Nat,s.look (a:Int)=(d:Int):=⟨(s.look a).toNat,by omega⟩
 rw [hd'] at hd
 obtain ⟨d2,d3⟩:=hd
 have eA:atN s x=a:=by unfold atN;rw [e0,hp];omega
 have eD:degN s x=d:=by unfold degN;rw [e0,hp,hd'];omega
 have HLA:Hid (∀ k,k < d→(slotsL s x)[k]? = some ((k:Int),childS a d k)):=gh (fun k hk=>by
  have:=slotsL_at (s:=s) (x:=x) (by rw [e0];exact k3) (k:=k) (by rw [eD];exact hk)
  rwa [eA,eD] at this)
 have HLL:Hid ((slotsL s x).length=d):=gh (by rw [slotsL_len (by rw [e0];exact k3),eD])
 rw [spotsF_succ] at hl
 rw [pairsF_succ (by rw [k3];decide)]
 have H:=gh h
 have HO:=gh ho
 have HX:=gh hwh.i64
 have HP:=gh hp
 have HD:=gh hd'
 have K3:=gh k3
 have IH:=gh ih
 have HWK:=gh hwk
 have HL:=gh hl
 clear h ho hwh hp hd' k3 ih hwk hl pr e0 eA eD
 go_enter Tryz.func89,Tryz.ntmps89
 go_wp2_with (fail)
 refine (ak_d _ x a HX.out HP.out).mono ?_
 rintro e w' ⟨rfl,rfl⟩
 go_wp2_with (fail)
 refine (kk_d _ x 3 HX.out K3.out).mono ?_
 rintro e w' ⟨rfl,rfl⟩
 go_wp2_with (fail)
 refine (lk_d _ b s a d H.out HD.out).mono ?_
 rintro e w' ⟨rfl,rfl⟩
 go_wp2
 go_loopw [5,8] (fun v i wr=>∃ (k:Nat) (ys:List (Int × Int)),k≤d∧i=.int .i64 (k:Int)∧Hid (ys=((slotsL s x).take k).flatMap (oneC s f))∧Hid (PRow wr w.heap.size 59 v ys)∧Hid (Kept w wr)) (fun _ i _=>d - (intOf i).toNat)
 case atStart=>exact ⟨0,[],by omega,by simp,gh (by simp),gh (PRow.nil _ _ _),gh (Kept.refl _)⟩
 case round=>
  obtain ⟨k,ys,hk,rfl,HY,HR,HK⟩:=hrel
  by_cases hkn:k < d
  ·have j1:(k:Int) < (d:Int):=by omega
   have hcz:=gh (childZ_in (n:=a) (d:=(d:Int)) (i:=k) (by omega) (by omega) (by omega) (by omega) (by omega) (by omega))
   obtain ⟨sl,hsl⟩:∃ sl,(a:Int)+4+(d:Int)+k=sl:=⟨_,rfl⟩
   rw [hsl] at hcz
   obtain ⟨y,hy⟩:∃ y,s.logicZ sl=y:=⟨_,rfl⟩
   have HYY:=gh hy
   have hat:=HLA.out k hkn
   have hat':(slotsL s x)[k]? = some ((k:Int),sl):=by rw [hat];unfold childS;rw [hsl]
   have hone:oneC s f ((k:Int),sl)=pairsF s f y:=by rw [oneC,hy]
   have hwf:Wf s f y:=by
    have:=HWK.out ((k:Int),sl) (List.mem_of_getElem? hat')
    rwa [hy] at this
   have HWF:=gh hwf
   have hnx:((slotsL s x).take (k+1)).flatMap (oneC s f)=ys++pairsF s f y:=by rw [flat_take _ hat',← HY.out,hone]
   have hlc:((slotsL s x).flatMap (oneC s f)).length≤70000:=Nat.le_trans (oneC_len s f _) HL.out
   have hlen:(ys++pairsF s f y).length≤70000:=by rw [← hnx];exact Nat.le_trans (flat_take_le _ _ _) hlc
   rw [List.length_append] at hlen
   have hl2:(spotsF s f y).length≤70000:=by
    have h1:((slotsL s x).take (k+1)).flatMap (oneF s f)=((slotsL s x).take k).flatMap (oneF s f)++((sl,y) :: spotsF s f y):=by rw [flat_take _ hat',oneF,hy]
    have h2:=Nat.le_trans (flat_take_le (oneF s f) (slotsL s x) (k+1)) HL.out
    rw [h1,List.length_append,List.length_cons] at h2
    omega
   obtain ⟨us,hus⟩:∃ us,ys++pairsF s f y=us:=⟨_,rfl⟩
   have HUS:=gh hus.symm
   have HNX:Hid (us=((slotsL s x).take (k+1)).flatMap (oneC s f)):=gh (by rw [hnx,← hus])
   have L2:Hid ((spotsF s f y).length≤70000):=gh hl2
   have L3:Hid (ys.length+(pairsF s f y).length≤1000000):=gh (by omega)
   have MW:=gh (H.out.kept HK.out)
   clear hy hat hat' hone hwf hnx hlc hlen hl2 hus hsl
   go_wp2_with (fail)
   refine (child_r _ a d k sl hcz.out).mono ?_
   rintro e w' ⟨rfl,rfl⟩
   go_wp2_with (fail)
   refine (logic_d _ b s sl y MW.out HO.out HYY.out).mono ?_
   rintro e w' ⟨rfl,rfl⟩
   go_wp2_with (fail)
   refine (IH.out _ b s MW.out HO.out y HWF.out L2.out).mono ?_
   rintro e W2 ⟨v2,rfl,hr2,k2⟩
   obtain ⟨a2',c2,hv2,hrd,_,_,h0,_⟩:=hr2.reads
   obtain ⟨M,hM⟩:∃ M,(pairsF s f y).length=M:=⟨_,rfl⟩
   have HMM:=gh hM
   rw [hM] at hv2
   subst hv2
   have HR2:=gh (HR.out.kept k2)
   have HK2:=gh (HK.out.trans k2)
   have HRD:=gh hrd
   have H0:=gh h0
   clear hr2 k2 hrd h0 hM HR HK MW
   go_wp2_with (at_builtin;refine Stop.out ?_)
   refine ⟨?_⟩
   refine wpList_append_pairs ptP rfl _ _ rfl w.heap.size _ ys (pairsF s f y) us rfl HR2.out a2' M c2 HMM.out rfl HRD.out H0.out L3.out HK2.out.size HUS.out ?_
   intro v3 W3 hown hg _
   have HK3:=gh (pkept_append HK2.out HR2.out hg)
   have HR3:=gh hown
   clear hown hg HR2 HK2 HRD H0
   go_wp2
   exact ⟨⟨k+1,us,by omega,by simp,HNX,HR3,HK3⟩,by simp [intOf];omega⟩
  ·have hkn':k=d:=by omega
   subst hkn'
   have j1:¬ ((k:Int) < (k:Int)):=by omega
   have HE:Hid (ys=(slotsL s x).flatMap (oneC s f)):=gh (by rw [HY.out,List.take_of_length_le (by rw [HLL.out];omega)])
   go_wp2
   go_ret
   exact ⟨_,rfl,by rw [← HE.out];exact HR.out,HK.out⟩
set_option maxHeartbeats 1000000 in
theorem cont_d:∀ f,ContD f
 | 0=>fun _ _ _ _ _ _ h _=>h.elim
 | f+1=>by
  have ih:=cont_d f
  intro w b s h ho x hw hl
  obtain ⟨k,hk⟩:∃ k,kd x=k:=⟨_,rfl⟩
  by_cases k3:k=3
  ·exact cont_inner f ih w b s h ho x hw (by rw [hk,k3]) hl
  obtain ⟨p,hp⟩:∃ p,ad x=p:=⟨_,rfl⟩
  have pr:=ad_range x
  rw [hp] at pr
  have H:=gh h
  have HX:=gh hw.1.i64
  have HP:=gh hp
  have HK:=gh hk
  by_cases k2:k=2
  ·subst k2
   obtain ⟨z1,hz1⟩:∃ z,s.look p=z:=⟨_,rfl⟩
   obtain ⟨z2,hz2⟩:∃ z,s.look (p+1)=z:=⟨_,rfl⟩
   have HE:Hid (pairsF s (f+1) x=[(z1,z2)]):=gh (by
    rw [pairsF,spotsF_none (by rw [tgt,if_neg (by rw [hk];decide),hk];decide),leafL,if_pos hk,hp,hz1,hz2];rfl)
   have HZ1:=gh hz1
   have HZ2:=gh hz2
   clear h ho hw hl hk hp hz1 hz2 ih k3
   go_enter Tryz.func89,Tryz.ntmps89
   go_wp2_with (fail)
   refine (ak_d _ x p HX.out HP.out).mono ?_
   rintro e w' ⟨rfl,rfl⟩
   go_wp2_with (fail)
   refine (kk_d _ x 2 HX.out HK.out).mono ?_
   rintro e w' ⟨rfl,rfl⟩
   go_wp2_with (fail)
   refine (lk_d _ b s p z1 H.out HZ1.out).mono ?_
   rintro e w' ⟨rfl,rfl⟩
   go_wp2_with (fail)
   refine (lk_d _ b s (p+1) z2 H.out HZ2.out).mono ?_
   rintro e w' ⟨rfl,rfl⟩
   go_wp2
   go_ret
   refine ⟨_,rfl,?_,Kept.alloc (Kept.refl _) _⟩
   rw [HE.out]
   exact ⟨rfl,.inr ⟨w.heap.size,1,_,rfl,Nat.le_refl _,heap_new _ _,Nat.le_refl _,by unfold maxLen;omega,rfl,rfl⟩⟩
  by_cases k4:k=4
  ·have h3:=hw.1.tg (by rw [hk];exact k4)
   have e0:tgt s x=s.look p:=by rw [tgt,if_pos (by rw [hk];exact k4),hp]
   obtain ⟨z,hz⟩:∃ z,s.look p=z:=⟨_,rfl⟩
   have HZ:=gh hz
   have hw2:=hw.down ho h3
   have HS:Hid (Calls Tryz.prog 89 #[.pointer (some ⟨b,0,none⟩),.int .i64 z] w (PSliced 59 (pairsF s (f+1) x) w)):=gh (by
    rw [← pairsF_tgt (by rw [hk];exact k4) h3,e0,hz]
    rw [e0,hz] at hw2 h3
    refine cont_inner f ih w b s h ho z hw2 h3 ?_
    rw [← hz,← e0,spotsF_tgt (by rw [e0,hz];exact h3)]
    exact hl)
   subst k4
   clear h ho hw hl hk hp hz e0 h3 hw2 ih k3 k2
   go_enter Tryz.func89,Tryz.ntmps89
   go_wp2_with (fail)
   refine (ak_d _ x p HX.out HP.out).mono ?_
   rintro e w' ⟨rfl,rfl⟩
   go_wp2_with (fail)
   refine (kk_d _ x 4 HX.out HK.out).mono ?_
   rintro e w' ⟨rfl,rfl⟩
   go_wp2_with (fail)
   refine (lk_d _ b s p z H.out HZ.out).mono ?_
   rintro e w' ⟨rfl,rfl⟩
   go_wp2_with (fail)
   refine HS.out.mono ?_
   rintro e W1 ⟨v,rfl,hr,k1⟩
   have HR:=gh hr
   have K1:=gh k1
   clear hr k1 HS
   go_wp2
   go_ret
   exact ⟨_,rfl,HR.out,K1.out⟩
  ·have HE:=gh (pairsF_none (s:=s) (f:=f+1) (x:=x) (by rw [hk];exact k2) (by rw [tgt,if_neg (by rw [hk];exact k4),hk];exact k3))
   have g0:(k == 2)=false:=by simp [k2]
   have g1:(k == 4)=false:=by simp [k4]
   have g2:(k == 3)=false:=by simp [k3]
   clear h ho hw hl hk hp ih k3 k4 k2
   go_enter Tryz.func89,Tryz.ntmps89
   go_wp2_with (fail)
   refine (ak_d _ x p HX.out HP.out).mono ?_
   rintro e w' ⟨rfl,rfl⟩
   go_wp2_with (fail)
   refine (kk_d _ x k HX.out HK.out).mono ?_
   rintro e w' ⟨rfl,rfl⟩
   go_wp2
   go_ret
   exact ⟨_,rfl,by rw [HE.out];exact PRow.nil _ _ _,Kept.refl _⟩
def leavesL (s:Mst):List (Int × Int):=if soundB s=true then pairsF s (fuel s) (s.logicZ 6) else []
theorem leaves_d (w:World) (b:Nat) (s:Mst) (h:DM w b s) (ho:s.ok) (xs:List (Int × Int)) (e1:leavesL s=xs) :
  Calls Tryz.prog 34 #[.pointer (some ⟨b,0,none⟩)] w (PSliced 59 xs w):=by
 have H:=gh h
 have HO:=gh ho
 obtain ⟨q,hq⟩:∃ q,soundB s=q:=⟨_,rfl⟩
 have HQ:=gh hq
 rw [leavesL,hq] at e1
 cases q with
 | false=>
  have HX:Hid (xs=[]):=gh (by rw [← e1];rfl)
  clear h ho hq e1
  go_enter Tryz.func34,Tryz.ntmps34
  go_wp2_with (fail)
  refine (sound_d _ b s H.out HO.out false HQ.out).mono ?_
  rintro e W2 ⟨rfl,k2⟩
  have K2:=gh k2
  clear k2
  go_wp2
  go_ret
  exact ⟨_,rfl,by rw [HX.out];exact PRow.nil _ _ _,K2.out⟩
 | true=>
  obtain ⟨y,hy⟩:∃ y,s.logicZ 6=y:=⟨_,rfl⟩
  have HYY:=gh hy
  have HX:Hid (pairsF s (fuel s) y=xs):=gh (by rw [← e1,if_pos rfl,hy])
  have hwf:=wf_root ho hq
  rw [hy] at hwf
  have HWF:=gh hwf
  have hlen:=spotsL_len ho hq
  rw [spotsL,hy,List.length_cons] at hlen
  have L2:Hid ((spotsF s (fuel s) y).length≤70000):=gh (by omega)
  clear h ho hq e1 hy hwf hlen
  go_enter Tryz.func34,Tryz.ntmps34
  go_wp2_with (fail)
  refine (sound_d _ b s H.out HO.out true HQ.out).mono ?_
  rintro e W2 ⟨rfl,k2⟩
  have K2:=gh k2
  have M2:=gh (H.out.kept k2)
  clear k2
  go_wp2_with (fail)
  refine (logic_d _ b s 6 y M2.out HO.out HYY.out).mono ?_
  rintro e w' ⟨rfl,rfl⟩
  go_wp2_with (fail)
  refine (cont_d (fuel s) W2 b s M2.out HO.out y HWF.out L2.out).mono ?_
  rintro e W4 ⟨v2,rfl,hr2,k4⟩
  have R4:=gh hr2
  have K4:=gh (K2.out.trans k4)
  rw [HX.out] at R4
  clear hr2 k4
  go_wp2
  go_ret
  exact ⟨_,rfl,R4.out.low K2.out.size,K4.out⟩
end
section
open Go.Shelf
attribute [local go_sem] Oper.semAt_some
theorem Mst.make_ok {s:Mst} (h:s.ok) (hs:s.size≤65536) {ws:List Int} (hw:∀ z ∈ ws,I64 z):(s.make ws).ok∧(s.make ws).size=s.size:=by
 unfold Mst.make
 split
 ·rename_i hf
  refine ⟨⟨fun z hz=>?_,?_⟩,rfl⟩
  ·rcases List.mem_append.1 hz with hz | hz
   ·exact h.1 z hz
   ·exact hw z hz
  ·simp only [Mst.fits,Bool.and_eq_true,decide_eq_true_eq] at hf
   simp only [List.length_append]
   omega
 ·exact ⟨h,rfl⟩
theorem recS_ok {s:Mst} (h:s.ok) (hs:s.size≤65536) (k:Int) {ws:List Int} (hw:∀ z ∈ ws,I64 z):((recS s k ws).2.ok∧(recS s k ws).2.size=s.size)∧I64 (recS s k ws).1:=⟨Mst.make_ok h hs hw,i64_of _ _⟩
theorem kidF_ok {L:Mst→List (Int × Int)→Int × Mst} (hL:∀ s ps,s.ok→s.size≤65536→Fit.PF ps→ps.length≤1000000→((L s ps).2.ok∧(L s ps).2.size=s.size)∧I64 (L s ps).1) {ps:List (Int × Int)} (hp:Fit.PF ps) (hl:ps.length≤1000000) {s:Mst} (h:s.ok) (hs:s.size≤65536):∀ n,((kidF L ps s n).2.ok∧(kidF L ps s n).2.size=s.size)∧∀ z ∈ (kidF L ps s n).1,I64 z
 | 0=>⟨⟨h,rfl⟩,fun _ h=>by cases h⟩
 | i+1=>by
  obtain ⟨⟨a1,a2⟩,a3⟩:=kidF_ok hL hp hl h hs i
  rw [kidF]
  obtain ⟨⟨b1,b2⟩,b3⟩:=hL _ _ a1 (by rw [a2];exact hs) (Fit.PF.part hp (i:Int)) (Nat.le_trans (by unfold partL;simp only [List.length_take,List.length_drop];omega) hl)
  refine ⟨⟨b1,by rw [b2,a2]⟩,fun z hz=>?_⟩
  rcases List.mem_append.1 hz with hz | hz
  ·exact a3 z hz
  ·obtain rfl:=List.mem_singleton.1 hz
   exact b3
theorem layF_ok:∀ (f:Nat) (s:Mst) (ps:List (Int × Int)),s.ok→s.size≤65536→Fit.PF ps→ps.length≤1000000→((layF f s ps).2.ok∧(layF f s ps).2.size=s.size)∧I64 (layF f s ps).1
 | 0,_,_,h,_,_,_=>⟨⟨h,rfl⟩,i64_0⟩
 | f+1,s,ps,h,hs,hp,hl=>by
  rw [layF_succ]
  have hk:=kidF_ok (L:=layF f) (fun s ps h hs hp hl=>layF_ok f s ps h hs hp hl) hp hl h hs (Pt.degZ ps.length).toNat
  split
  ·exact recS_ok h hs 1 (fun z hz=>by obtain rfl:=List.mem_singleton.1 hz;exact i64_0)
  ·split
   ·exact recS_ok h hs 2 (fun z hz=>by
     simp only [List.mem_cons,List.not_mem_nil,or_false] at hz
     rcases hz with rfl | rfl
     ·exact (Fit.PF.head hp).1
     ·exact (Fit.PF.head hp).2)
   ·obtain ⟨⟨a,b⟩,c⟩:=recS_ok hk.1.1 (by rw [hk.1.2];exact hs) 3 (Fit.innerL_fit (n:=ps.length) (i64_small (by omega) (by omega)) (Fit.lowL hp (Pt.degZ ps.length).toNat) hk.2 (by rw [kidF_len];have:=deg_small ps.length;omega))
    exact ⟨⟨a,by rw [b,hk.1.2]⟩,c⟩
theorem buildS_ok {s:Mst} (h:s.ok) (hs:s.size≤65536) {ps:List (Int × Int)} (hp:Fit.PF ps) (hl:ps.length≤1000000):((buildS s ps).2.ok∧(buildS s ps).2.size=s.size)∧I64 (buildS s ps).1.1:=by
 unfold buildS
 split
 ·exact layF_ok _ s ps h hs hp hl
 ·exact ⟨⟨h,rfl⟩,i64_0⟩
theorem Mst.write_ok {s:Mst} (h:s.ok) (a:Int) {x:Int} (hx:I64 x):(s.write a x).ok:=by
 unfold Mst.write Mst.put Mst.touch
 split
 ·split
  ·refine ⟨fun z hz=>?_,by simpa using h.2⟩
   rcases List.mem_or_eq_of_mem_set hz with hz | rfl
   ·exact h.1 z hz
   ·exact hx
  ·exact ⟨h.1,h.2⟩
 ·split
  ·refine ⟨fun z hz=>?_,by simpa using h.2⟩
   rcases List.mem_or_eq_of_mem_set hz with hz | rfl
   ·exact h.1 z hz
   ·exact hx
  ·exact ⟨h.1,h.2⟩
namespace Ixp
def idleB (ix:Ixp):Bool:=ix.ts.all fun q=>!q.busy
def loadZ (ix:Ixp) (ps:List (Int × Int)):Int × Ixp:=
 if ix.idleB=false then (4,ix)
 else if ascB ps=false then (6,ix)
 else if 0 < (leavesL ix.m).length then (7,ix)
 else if (buildS ix.m ps).1.2=false then (8,{ ix with m:=(buildS ix.m ps).2 })
 else (0,{ ix with m:=(buildS ix.m ps).2.write 6 (buildS ix.m ps).1.1,logn:=ix.logn+1 })
end Ixp
set_option maxRecDepth 100000 in
set_option maxHeartbeats 1000000 in
theorem idle_r (W:World) (n₀ x mb tb:Nat) (ix:Ixp) (mv:Value) (tv lv:Sl) (pz:List Pt) (h:IxIs W n₀ x ix mb mv tb tv lv pz) (hN:ix.ts.length≤100000) (r:Bool) (e1:ix.idleB=r) :
  Calls Tryz.prog 143 #[.pointer (some ⟨x,0,none⟩)] W fun e W'=>e=.returned (.bool r)∧W=W':=by
 obtain ⟨⟨_,c4,_⟩,_⟩:=h.cells
 have H:=gh h
 have HE:=gh e1
 have hn:=h.tvn.1
 have hc:=h.tvn.2
 obtain ⟨tn,etn⟩:∃ tn,tv.n=tn:=⟨_,rfl⟩
 obtain ⟨tc,etc⟩:∃ tc,tv.c=tc:=⟨_,rfl⟩
 rw [etn,etc] at c4
 rw [etn] at hn
 rw [etn,etc] at hc
 have HL:Hid (tn=ix.ts.length):=gh hn
 have t1:tn≤100000:=by omega
 clear h e1 hn etn etc hN
 go_enter Tryz.func143,Tryz.ntmps143
 go_wp2_with (fail)
 go_loopw [3] (fun vi wr=>∃ k:Nat,vi=.int .i64 (k:Int)∧k≤tn∧wr=W∧Hid (∀ i q,i < k→ix.ts[i]? = some q→q.busy=false)) (fun vi _=>tn - (intOf vi).toNat)
 case atStart=>exact ⟨0,rfl,by omega,rfl,gh (fun _ _ e=>absurd e (by omega))⟩
 case round=>
  obtain ⟨k,rfl,hk,rfl,A⟩:=hrel
  by_cases hlt:k < tn
  ·obtain ⟨q,hq⟩:∃ q,ix.ts[k]? = some q:=⟨_,List.getElem?_eq_getElem (by rw [← HL.out];exact hlt)⟩
   obtain ⟨p,hp⟩:∃ p,pz[k]? = some p:=⟨_,List.getElem?_eq_getElem (by rw [H.out.pn,← HL.out];exact hlt)⟩
   have cj:=H.out.slot hp
   have d1:=(H.out.th k q p hq hp).cells.1.2.1
   have j1:(k:Int) < (tn:Int):=by omega
   have j2:k < tc:=by omega
   have j0:decide ((k:Int) < 0)=false:=by simp
   have j3:decide ((tn:Int)≤(k:Int))=false:=by simp;omega
   have HQ:=gh hq
   obtain ⟨b,hbz⟩:∃ b,q.busy=b:=⟨_,rfl⟩
   rw [hbz] at d1
   have HB:=gh hbz
   clear hq hp hbz
   cases b with
   | true=>
    have HF:Hid (r=false):=gh (by
     rw [← HE.out,Ixp.idleB,Bool.eq_false_iff]
     intro e
     have:=List.all_eq_true.1 e q (List.mem_of_getElem? HQ.out)
     rw [HB.out] at this
     cases this)
    go_wp2
    go_ret
    exact ⟨by rw [HF.out];rfl,rfl⟩
   | false=>
    go_wp2
    refine ⟨⟨k+1,by simp,by omega,by simp,gh (fun i q' hi hq'=>?_)⟩,by simp only [intOf];omega⟩
    by_cases hik:i=k
    ·subst hik
     rw [HQ.out] at hq'
     cases hq'
     exact HB.out
    ·exact A.out i q' (by omega) hq'
  ·have j1:¬ ((k:Int) < (tn:Int)):=by omega
   have HF:Hid (r=true):=gh (by
    rw [← HE.out,Ixp.idleB,List.all_eq_true]
    intro q hq
    obtain ⟨i,hi,rfl⟩:=List.getElem_of_mem hq
    rw [A.out i _ (by have:=HL.out;omega) (List.getElem?_eq_getElem hi)]
    rfl)
   go_wp2
   go_ret
   exact ⟨by rw [HF.out];rfl,rfl⟩
end
section
open Go.Shelf
attribute [local go_sem] Oper.semAt_some
theorem IxIs.memory {W W':World} {n₀ x mb tb:Nat} {ix:Ixp} {mv mv':Value} {tv lv:Sl} {pz:List Pt} {m':Mst} (h:IxIs W n₀ x ix mb mv tb tv lv pz) (t:Td (Foot mb mv) W W') (hm:DMem W' n₀ mb mv' m') (hok:m'.ok) (hft:∀ k,Foot mb mv' k→Foot mb mv k∨W.heap.size≤k) :
  IxIs W' n₀ x { ix with m:=m' } mb mv' tb tv lv pz:=by
 have ne:∀ {y:Nat} {c:Array Value} {T:TypeId},W.heap[y]? = some (.cells c T)→T≠86→T≠2→¬ Foot mb mv y:=fun hy e1 e2=>foot_apart h.mem hy e1 e2
 have get:∀ {i:Nat} {p1:Pt},pz[i]? = some p1→∃ q1,ix.ts[i]? = some q1:=fun h1=>by
  have:=(List.getElem?_eq_some_iff.1 h1).1
  rw [h.pn] at this
  exact ⟨_,List.getElem?_eq_getElem this⟩
 have nw:∀ {i:Nat} {p:Pt},pz[i]? = some p→∀ g,p.tp.v.ownBlock=some g→¬ Foot mb mv g∧g < W.heap.size:=fun {i p} hp g eg=>by
  obtain ⟨q,hq⟩:=get hp
  obtain ⟨c,hc⟩:=(h.th i q p hq hp).fr.types.2 g eg
  refine ⟨?_,(Array.getElem?_eq_some_iff.1 hc).1⟩
  rintro (e | e)
  ·have:=h.mem.box
   rw [← e,hc] at this
   simp at this
  ·exact h.da i p hp g eg e
 refine ⟨h.le,t.heap h.box (ne h.box (by decide) (by decide)),hm,hok,h.tva,h.tvn,?_,h.pn,fun i q p e1 e2=>?_,h.log.turned t (fun g e=>?_),h.dt,fun i p e1 g eg eg'=>?_,h.bz⟩
 ·obtain ⟨c,h1,h2⟩:=h.row
  exact ⟨c,t.heap h1 (ne h1 (by decide) (by decide)),h2⟩
 ·have th:=h.th i q p e1 e2
  refine ⟨th.le,t.heap th.box (ne th.box (by decide) (by decide)),?_⟩
  rcases th.fr with hn | ⟨f,pp,h1,h2,F⟩
  ·exact .inl hn
  ·refine .inr ⟨f,pp,h1,h2,F.le,t.heap F.box (ne F.box (by decide) (by decide)),F.row.turnedO t (fun g e=>(nw e2 g e).1),F.lst.turned t (fun g e=>?_),F.good,F.i64⟩
   obtain ⟨c,hc⟩:=F.lst.typed g e
   exact ne hc (by decide) (by decide)
 ·obtain ⟨c,hc⟩:=h.log.typed g e
  exact ne hc (by decide) (by decide)
 ·obtain ⟨n1,n2⟩:=nw e1 g eg
  rcases hft g (.inr eg') with h1 | h1
  ·exact n1 h1
  ·omega
variable {S E:TypeId}
theorem wpListIn_append_pairs {F:Fence} {nF:Nat} {w:World} {ops:Array Oper} {rest:List Oper} {o:Oper} {a:Act} {Q:Exit→Act→World→Prop} (pt:PT S E) (hgd:o.guard=none) (s x:Operand) (ho:o.op=.call { callee:=.builtin .append,args:=#[s,x],argTypes:=#[S,S] })
  (base:Nat) (v:Value) (xs zs ys:List (Int × Int)) (hs:a.eval s=v) (hown:PRow w base E v xs) (aw:Option Addr) (M cw:Nat) (hM:zs.length=M) (hx:a.eval x=.slice aw M cw) (hr:PReads w aw zs) (h0:aw=none→cw=0)
  (hl:xs.length+zs.length≤1000000) (hbase:base≤w.heap.size) (hy:ys=xs++zs)
  (h:∀ v' w',PRow w' base E v' ys→w.grownBy w' v.ownBlock→(v'.ownBlock=v.ownBlock∨v'.ownBlock=some w.heap.size)→wpListIn F nF Tryz.prog ops Q rest (a.put o.dst v') w'):wpListIn F nF Tryz.prog ops Q (o :: rest) a w:=by
 obtain ⟨i0,hi,hz0,hz1,hz2⟩:=info_parts pt.info
 have fin:∀ v' w',w'.ownsRow base E 2 v' (xs.length+zs.length) (flat xs++flat zs)→PRow w' base E v' ys:=fun v' w' h1=>by
  rw [hy]
  show World.ownsRow _ _ _ _ _ (xs++zs).length (flat (xs++zs))
  rw [List.length_append,flat_append]
  exact h1
 subst hM
 cases aw with
 | none=>
  have e0:zs=[]:=by
   rcases hr with e | ⟨_,_,e,_⟩
   ·exact e
   ·cases e
  subst e0
  obtain rfl:=h0 rfl
  refine wpListIn_plain hgd fun K hK=>?_
  have hrun:=run_append_owned_none (P:=Tryz.prog) (w:=w) base S o.type E i0 2 pt.under hi v xs.length (flat xs) hown
  unfold Oper.wpIn
  refine ⟨by simp [Oper.about,ho,resolve,Target.leads,Sem.run_pure],?_⟩
  rw [Oper.semAt_plain F _ _ (by rw [ho];intro c hc';cases hc')]
  simp only [execOp,ho,resolve,invoke,builtin,Sem.run_bind,Sem.run_pure,Result.andThen_ok,List.map_toArray,List.map_cons,List.map_nil,hs,hx,List.length_nil,hrun]
  exact hK _ _ (h v w (by rw [hy,List.append_nil];exact hown) (World.grownBy.refl _ _) (.inl rfl))
 | some ad=>
  by_cases e0:zs=[]
  ·subst e0
   exact wpListIn_append_own_at w hgd s x S ho base E i0 _ 2 16 pt.under hi hz0 hz1 hz2 rfl (by decide) v xs.length (flat xs) hs hown ad 0 cw [] hx rfl (by simp) (by simp) (by simp at hl;unfold maxLen;omega) (by simp at hl;omega) hbase (fun v' w' h1 h2 _ h4=>h v' w' (fin v' w' (by simpa [flat] using h1)) h2 h4)
  ·obtain ⟨bl,off,e,hrow⟩:∃ bl off,some ad=some ⟨bl,off,none⟩∧∀ j p,zs[j]? = some p→w.cell? ⟨bl,off+j * 2,none⟩=some (.int .i64 p.1)∧w.cell? ⟨bl,off+(j * 2+1),none⟩=some (.int .i64 p.2):=by
    rcases hr with e | h
    ·exact absurd e e0
    ·exact h
   cases e
   refine wpListIn_append_own_at w hgd s x S ho base E i0 _ 2 16 pt.under hi hz0 hz1 hz2 rfl (by decide) v xs.length (flat xs) hs hown _ zs.length cw (flat zs) hx (flat_length zs) (PReads.news hrow) (flat_one _) (by unfold maxLen;omega) (by omega) hbase ?_
   intro v' w' h1 h2 _ h4
   exact h v' w' (fin v' w' h1) h2 h4
structure Lst (W:World) (a:Option Addr) (ps:List (Int × Int)) (M cap:Nat):Prop where
 reads:PReads W a ps
 len:ps.length=M
 fits:M≤cap
 top:cap≤maxLen
 most:M≤5000
 nil:a=none→cap=0
 ty:ps≠[]→∀ ad,a=some ad→∃ c,W.heap[ad.block]? = some (.cells c 59)
theorem Lst.turned {W W':World} {a:Option Addr} {ps:List (Int × Int)} {M cap:Nat} {R:Nat→Prop} (h:Lst W a ps M cap) (t:Td R W W') (hR:∀ k c,W.heap[k]? = some (.cells c 59)→¬ R k):Lst W' a ps M cap:=by
 by_cases e:ps=[]
 ·exact ⟨.inl e,h.len,h.fits,h.top,h.most,h.nil,fun h'=>absurd e h'⟩
 ·refine ⟨h.reads.turned t (fun k _ ⟨ad,e1,e2⟩=>?_),h.len,h.fits,h.top,h.most,h.nil,fun _ ad e1=>?_⟩
  ·obtain ⟨c,hc⟩:=h.ty e ad e1
   rw [← e2]
   exact hR _ c hc
  ·obtain ⟨c,hc⟩:=h.ty e ad e1
   exact ⟨c,t.heap hc (hR _ c hc)⟩
theorem Lst.kept {W W':World} {a:Option Addr} {ps:List (Int × Int)} {M cap:Nat} (h:Lst W a ps M cap) (t:Kept W W'):Lst W' a ps M cap:=h.turned t (fun _ _ _ e=>e)
theorem Lst.foot {W W':World} {a:Option Addr} {ps:List (Int × Int)} {M cap:Nat} {n₀ mb:Nat} {mv:Value} {m:Mst} (h:Lst W a ps M cap) (hd:DMem W n₀ mb mv m) (t:Td (Foot mb mv) W W'):Lst W' a ps M cap:=h.turned t (fun _ _ hc=>foot_apart hd hc (by decide) (by decide))
theorem mine_foot {W W':World} {n₀ mb:Nat} {mv:Value} {m:Mst} (hd:DMem W n₀ mb mv m) (t:Td (Foot mb mv) W W'):Td (Mine W n₀) W W':=t.mono (fun k _ e=>by
 obtain ⟨c,hc | hc⟩:=hd.types k e
 ·exact Mine.of (hd.lt k e).1 hc (by decide)
 ·exact Mine.of (hd.lt k e).1 hc (by decide))
set_option maxRecDepth 100000 in
set_option maxHeartbeats 4000000 in
theorem load_r (W:World) (n₀ x mb tb:Nat) (ix:Ixp) (mv:Value) (tv lv:Sl) (pz:List Pt) (h:IxIs W n₀ x ix mb mv tb tv lv pz) (hn:n₀≤W.heap.size) (hN:ix.ts.length≤100000) (hlog:ix.logn≤800000) (a:Option Addr) (ps:List (Int × Int)) (M cap:Nat) (hl:Lst W a ps M cap) (hp:Fit.PF ps) (r:Int) (ix':Ixp) (he:ix.loadZ ps=(r,ix')) :
  Calls Tryz.prog 102 #[.pointer (some ⟨x,0,none⟩),.slice a M cap] W fun e W'=>e=.returned (.int .i64 r)∧(∃ mv' lv',IxIs W' n₀ x ix' mb mv' tb tv lv' pz)∧Td (Mine W n₀) W W':=by
 unfold Ixp.loadZ at he
 obtain ⟨b1,hb1⟩:∃ b,ix.idleB=b:=⟨_,rfl⟩
 rw [hb1] at he
 have H:=gh h
 have HB1:=gh hb1
 have HN:=gh hn
 have HT:=gh hN
 have HL:=gh hl
 have HP:=gh hp
 have HLOG:=gh hlog
 cases b1 with
 | false=>
  rw [if_pos rfl] at he
  obtain ⟨rfl,rfl⟩:=Prod.mk.inj he
  clear h hn hN hlog hl hp he hb1
  go_enter Tryz.func102,Tryz.ntmps102
  go_wp2_with (fail)
  refine (idle_r W n₀ x mb tb ix mv tv lv pz H.out HT.out false HB1.out).mono ?_
  rintro e w' ⟨rfl,rfl⟩
  go_wp2
  go_ret
  exact ⟨rfl,⟨mv,lv,H.out⟩,Td.refl _ _⟩
 | true=>
  rw [if_neg (by decide)] at he
  obtain ⟨b2,hb2⟩:∃ b,ascB ps=b:=⟨_,rfl⟩
  rw [hb2] at he
  have HB2:=gh hb2
  cases b2 with
  | false=>
   rw [if_pos rfl] at he
   obtain ⟨rfl,rfl⟩:=Prod.mk.inj he
   clear h hn hN hlog hl hp he hb1 hb2
   go_enter Tryz.func102,Tryz.ntmps102
   go_wp2_with (fail)
   refine (idle_r W n₀ x mb tb ix mv tv lv pz H.out HT.out true HB1.out).mono ?_
   rintro e w' ⟨rfl,rfl⟩
   go_wp2_with (fail)
   refine (asc_d W a ps M cap HL.out.reads HL.out.len HL.out.fits HL.out.most false HB2.out).mono ?_
   rintro e W2 ⟨rfl,k2⟩
   have K2:=gh k2
   clear k2
   go_wp2
   go_ret
   exact ⟨rfl,⟨mv,lv,H.out.kept K2.out⟩,K2.out.mono (fun _ _ e=>e.elim)⟩
  | true=>
   rw [if_neg (by decide)] at he
   obtain ⟨L,hL⟩:∃ L,leavesL ix.m=L:=⟨_,rfl⟩
   rw [hL] at he
   have HLV:=gh hL
   obtain ⟨n,hnL⟩:∃ n,L.length=n:=⟨_,rfl⟩
   rw [hnL] at he
   have HNL:=gh hnL
   have d1:∀ V:World,Kept W V→V.cell? ⟨x,3,none⟩=some (.pointer (some ⟨mb,0,none⟩)):=fun _ k=>(H.out.kept k).cells.1.1
   by_cases h0:0 < n
   ·rw [if_pos h0] at he
    obtain ⟨rfl,rfl⟩:=Prod.mk.inj he
    have i0:(0:Int) < (n:Int):=by omega
    have D1:=gh d1
    clear h hn hN hlog hl hp he hb1 hb2 hL hnL h0 d1
    go_enter Tryz.func102,Tryz.ntmps102
    go_wp2_with (fail)
    refine (idle_r W n₀ x mb tb ix mv tv lv pz H.out HT.out true HB1.out).mono ?_
    rintro e w' ⟨rfl,rfl⟩
    go_wp2_with (fail)
    refine (asc_d W a ps M cap HL.out.reads HL.out.len HL.out.fits HL.out.most true HB2.out).mono ?_
    rintro e W2 ⟨rfl,k2⟩
    have K2:=gh k2
    have e1:=D1.out _ K2.out
    clear k2
    go_wp2_with (fail)
    refine (leaves_d W2 mb ix.m ⟨n₀,mv,ix.m,rfl,(H.out.kept K2.out).mem⟩ H.out.mok L HLV.out).mono ?_
    rintro e W3 ⟨v3,rfl,hr3,k3⟩
    obtain ⟨a3,c3,hv3,_⟩:=hr3.reads
    rw [HNL.out] at hv3
    subst hv3
    have K3:=gh (K2.out.trans k3)
    clear hr3 k3 e1
    go_wp2
    go_ret
    exact ⟨rfl,⟨mv,lv,H.out.kept K3.out⟩,K3.out.mono (fun _ _ e=>e.elim)⟩
   ·rw [if_neg h0] at he
    have i0:¬ ((0:Int) < (n:Int)):=by omega
    obtain ⟨z,q,m1,hz⟩:∃ z q m1,buildS ix.m ps=((z,q),m1):=⟨_,_,_,rfl⟩
    have hbk:=buildS_ok h.mok h.mem.top hp (by have:=hl.len;have:=hl.most;omega)
    rw [hz] at he hbk
    dsimp only at he hbk
    have HZ:=gh hz
    have HBK:=gh hbk
    have D1:=gh d1
    have HA:Hid (∀ V,Kept W V→ps≠[]→∀ ad,a=some ad→¬ Foot mb mv ad.block):=gh (fun V k e ad e1=>by
     obtain ⟨c,hc⟩:=hl.ty e ad e1
     exact foot_apart h.mem hc (by decide) (by decide))
    clear h hn hN hlog hl hp hb1 hb2 hL hnL h0 d1 hz hbk
    cases q with
    | false=>
     rw [if_pos rfl] at he
     obtain ⟨rfl,rfl⟩:=Prod.mk.inj he
     clear he
     go_enter Tryz.func102,Tryz.ntmps102
     go_wp2_with (fail)
     refine (idle_r W n₀ x mb tb ix mv tv lv pz H.out HT.out true HB1.out).mono ?_
     rintro e w' ⟨rfl,rfl⟩
     go_wp2_with (fail)
     refine (asc_d W a ps M cap HL.out.reads HL.out.len HL.out.fits HL.out.most true HB2.out).mono ?_
     rintro e W2 ⟨rfl,k2⟩
     have K2:=gh k2
     have e1:=D1.out _ K2.out
     clear k2
     go_wp2_with (fail)
     refine (leaves_d W2 mb ix.m ⟨n₀,mv,ix.m,rfl,(H.out.kept K2.out).mem⟩ H.out.mok L HLV.out).mono ?_
     rintro e W3 ⟨v3,rfl,hr3,k3⟩
     obtain ⟨a3,c3,hv3,_⟩:=hr3.reads
     rw [HNL.out] at hv3
     subst hv3
     have K3:=gh (K2.out.trans k3)
     have e2:=D1.out _ K3.out
     clear hr3 k3 e1
     go_wp2_with (fail)
     refine (buildA_d W3 n₀ mb mv ix.m a ps M cap (H.out.kept K3.out).mem (Nat.le_trans HN.out K3.out.size) (HL.out.kept K3.out).reads HL.out.len HL.out.fits HL.out.top HL.out.most (HA.out W3 K3.out) z false m1 HZ.out).mono ?_
     rintro e W4 ⟨rfl,mv4,m4,t4,f4⟩
     have I4:=gh ((H.out.kept K3.out).memory t4 m4 HBK.out.1.1 f4)
     have T4:Hid (Td (Mine W n₀) W W4):=gh (Td.mine_kept K3.out (mine_foot (H.out.kept K3.out).mem t4))
     clear m4 t4 f4 e2
     go_wp2
     go_ret
     exact ⟨rfl,⟨mv4,lv,I4.out⟩,T4.out⟩
    | true=>
     rw [if_neg (by decide)] at he
     obtain ⟨rfl,rfl⟩:=Prod.mk.inj he
     clear he
     go_enter Tryz.func102,Tryz.ntmps102
     go_wp2_with (fail)
     refine (idle_r W n₀ x mb tb ix mv tv lv pz H.out HT.out true HB1.out).mono ?_
     rintro e w' ⟨rfl,rfl⟩
     go_wp2_with (fail)
     refine (asc_d W a ps M cap HL.out.reads HL.out.len HL.out.fits HL.out.most true HB2.out).mono ?_
     rintro e W2 ⟨rfl,k2⟩
     have K2:=gh k2
     have e1:=D1.out _ K2.out
     clear k2
     go_wp2_with (fail)
     refine (leaves_d W2 mb ix.m ⟨n₀,mv,ix.m,rfl,(H.out.kept K2.out).mem⟩ H.out.mok L HLV.out).mono ?_
     rintro e W3 ⟨v3,rfl,hr3,k3⟩
     obtain ⟨a3,c3,hv3,_⟩:=hr3.reads
     rw [HNL.out] at hv3
     subst hv3
     have K3:=gh (K2.out.trans k3)
     have e2:=D1.out _ K3.out
     clear hr3 k3 e1
     go_wp2_with (fail)
     refine (buildA_d W3 n₀ mb mv ix.m a ps M cap (H.out.kept K3.out).mem (Nat.le_trans HN.out K3.out.size) (HL.out.kept K3.out).reads HL.out.len HL.out.fits HL.out.top HL.out.most (HA.out W3 K3.out) z true m1 HZ.out).mono ?_
     rintro e W4 ⟨rfl,mv4,m4,t4,f4⟩
     have I4:=gh ((H.out.kept K3.out).memory t4 m4 HBK.out.1.1 f4)
     have T4:Hid (Td (Mine W n₀) W W4):=gh (Td.mine_kept K3.out (mine_foot (H.out.kept K3.out).mem t4))
     have L4:Hid (Lst W4 a ps M cap):=gh ((HL.out.kept K3.out).foot (H.out.kept K3.out).mem t4)
     have e3:=I4.out.cells.1.1
     clear m4 t4 f4 e2
     go_wp2_with (fail)
     refine (write_d W4 n₀ mb mv4 m1 6 z I4.out.mem).mono ?_
     rintro e W5 ⟨rfl,m5,t5⟩
     have I5:=gh (I4.out.memory t5 m5 (Mst.write_ok HBK.out.1.1 6 HBK.out.2) (fun _ e=>.inl e))
     have T5:Hid (Td (Mine W n₀) W W5):=gh (T4.out.mine_trans (mine_foot I4.out.mem t5))
     have L5:Hid (Lst W5 a ps M cap):=gh (L4.out.foot I4.out.mem t5)
     clear m5 t5 e3 I4 T4 L4 HA D1 HL
     obtain ⟨V8,hV8⟩:∃ V8,W5.drew=V8:=⟨_,rfl⟩
     have k8:Kept W5 V8:=by rw [← hV8];exact Kept.drew _
     have I8:=gh (I5.out.kept k8)
     have L8:=gh (L5.out.kept k8)
     have T8:Hid (Td (Mine W n₀) W V8):=gh (T5.out.trans k8 (fun _ e=>e) (fun _ _ e=>e.elim))
     have HV8:=gh hV8
     obtain ⟨⟨_,_,e5,_,e7⟩,_⟩:=I8.out.cells
     have ne:∀ {y:Nat} {c:Array Value} {T:TypeId},V8.heap[y]? = some (.cells c T)→T≠166→¬ lv.v.ownBlock=some y:=fun hy e1 e2=>by
      obtain ⟨c',hc⟩:=I8.out.log.typed _ e2
      rw [hy] at hc
      simp at hc
      exact e1 hc.2
     have z5:∀ u:Wd (fun U=>Td (fun k=>lv.v.ownBlock=some k) V8 U),u.w.cell? ⟨x,5,none⟩=some (.slice lv.a lv.n lv.c):=fun u=>u.ok.cell e5 (ne I8.out.box (by decide))
     have z7:∀ u:Wd (fun U=>Td (fun k=>lv.v.ownBlock=some k) V8 U),u.w.cell? ⟨x,7,none⟩=some (.int .i64 ix.picks):=fun u=>u.ok.cell e7 (ne I8.out.box (by decide))
     have NX:=gh (ne I8.out.box (by decide))
     clear I5 L5 T5 hV8 k8 e5 e7 ne
     go_wp2_with (fail)
     refine region_last [0,1,2,3,4,6,9,10,11,12,5,7,8,13,14,15,16,17] 18 (fun U=>Td (fun k=>lv.v.ownBlock=some k) V8 U) (by kernel_rfl) (by kernel_rfl) (by rw [HV8.out];exact Td.refl _ _) (fun _=>?_)
     rw [HV8.out]
     repeat (refine lq rfl rfl ?_;go_big_quiet_step (fail);refine wpQuiet_nil ?_)
     refine ll rfl rfl ?_
     gi_wp2
     refine ⟨Wd.mem (Td.alloc _ _ _),?_⟩
     refine ll rfl rfl ?_
     gi_wp2_with (gi_at_builtin;refine Stop.out ?_)
     refine ⟨?_⟩
     have kE:Kept V8 (V8.alloc (.cells #[] 59)):=Td.alloc _ _ _
     refine wpListIn_append_pairs ptP rfl _ _ rfl V8.heap.size _ [] ps ps rfl (⟨rfl,.inr ⟨V8.heap.size,0,#[],rfl,Nat.le_refl _,heap_new V8 _,Nat.le_refl _,Nat.zero_le _,rfl,rfl⟩⟩:PRow _ V8.heap.size 59 (.slice (some ⟨V8.heap.size,0,none⟩) 0 0) []) a M cap L8.out.len rfl (L8.out.kept kE).reads L8.out.nil (by have:=L8.out.len;have:=L8.out.most;simp;omega) kE.size rfl ?_
     rintro vp A1 hrow hgrow -
     have KA:Hid (Kept V8 A1):=gh (kE.own (fun i e=>e) (Td.of_grownBy (R:=fun k=>V8.heap.size≤k) hgrow (fun k e=>by cases e;exact Nat.le_refl _)))
     obtain ⟨ap,cp,rfl,_⟩:=hrow.reads
     clear hrow hgrow kE
     gi_wp2
     refine ⟨Wd.mem (KA.out.mono (fun _ _ e=>e.elim)),?_⟩
     simp only [Act.put,List.setIfInBounds_toArray,List.set_cons_succ,List.set_cons_zero]
     repeat (refine lq rfl rfl ?_;go_big_quiet_step (fail);refine wpQuiet_nil ?_)
     refine ll rfl rfl ?_
     gi_wp2
     refine ⟨Wd.mem ((KA.out.alloc _).mono (fun _ _ e=>e.elim)),?_⟩
     refine ll rfl rfl ?_
     gi_wp2_with (gi_at_builtin;refine Stop.out ?_)
     refine ⟨?_⟩
     refine wpListIn_append_ev rfl _ _ rfl n₀ lv.v ix.logn rfl (I8.out.log.turned (KA.out.alloc _) (fun _ _ e=>e)) A1.heap.size _ rfl (heap_new _ _) rfl (by simp [Value.oneCell']) (by have:=HLOG.out;omega) (by have:=T8.out.size;have:=KA.out.size;have:=HN.out;simp;omega) ?_
     rintro v9 A2 hlog9 ⟨la9,lc9,rfl⟩ hgrow hat
     have TA:Hid (Td (fun k=>lv.v.ownBlock=some k) V8 A2):=gh ((KA.out.alloc _).then (Td.of_grownBy (R:=fun k=>lv.v.ownBlock=some k) hgrow (fun _ h=>h)))
     have bxA:=TA.out.heap I8.out.box NX.out
     have cA:A2.cell? ⟨x,5,none⟩=some (.slice lv.a lv.n lv.c):=by simp [World.cell?,bxA,Ixp.cs]
     have gA:A2.frozen? ⟨x,5,none⟩=false:=by simp [World.frozen?,bxA]
     obtain ⟨A3,hA3⟩:∃ A3,A2.setCell ⟨x,5,none⟩ (.slice la9 (ix.logn+1) lc9)=A3:=⟨_,rfl⟩
     have tA3:Td (fun k=>k=x) A2 A3:=by rw [← hA3];exact Td.setCell (R:=fun k=>k=x) _ _ _ rfl
     have TX:Td (fun k=>k=x∨lv.v.ownBlock=some k) V8 A3:=TA.out.trans tA3 (fun _ e=>.inr e) (fun _ _ e=>.inl e)
     have IXE:Hid (IxIs A3 n₀ x { ix with m:=m1.write 6 z,logn:=ix.logn+1 } mb mv4 tb tv ⟨la9,ix.logn+1,lc9⟩ pz):=gh (by
      refine I8.out.boxed (ix':={ ix with m:=m1.write 6 z,logn:=ix.logn+1 }) TX ?_ rfl rfl (hlog9.turned tA3 (fun g e e'=>?_))
      ·rw [← hA3]
       simp [World.setCell,Array.getElem?_modify,bxA,Ixp.cs]
      ·obtain ⟨c,hc⟩:=hlog9.typed g e
       rw [e',bxA] at hc
       simp at hc)
     have TE:Hid (Td (Mine W n₀) W A3):=gh (T8.out.mine_trans (TX.mono (fun k _ e=>by
      rcases e with e | e
      ·rw [e];exact I8.out.mines.box
      ·exact I8.out.mines.log k e)))
     have HA3:=gh hA3
     clear hlog9 hgrow hat hA3 tA3 bxA TX
     gi_wp2
     refine ⟨Wd.mem TA.out,?_⟩
     simp only [Act.put,List.setIfInBounds_toArray,List.set_cons_succ,List.set_cons_zero]
     repeat (refine lq rfl rfl ?_;go_big_quiet_step (fail);refine wpQuiet_nil ?_)
     refine lz rfl ?_
     gi_wp2
     refine last_done ?_
     rw [HA3.out]
     clear z5 z7 cA gA
     go_wp2
     go_ret
     exact ⟨rfl,⟨_,_,IXE.out⟩,TE.out⟩
end
namespace Mp
variable {α β:Type}
def ltI:Int→Int→Bool:=fun a b=>decide (a < b)
variable (lt:α→α→Bool)
def put:List (α × β)→α→β→List (α × β)
 | [],k,v=>[(k,v)]
 | x :: l,k,v=>if lt k x.1 then (k,v) :: x :: l else if lt x.1 k then x :: put l k v else (k,v) :: l
variable {lt}
theorem mem_put {xs:List (α × β)} {k:α} {v:β} {y:α × β} (h:y ∈ put lt xs k v):y=(k,v)∨y ∈ xs:=by
 induction xs with
 | nil=>simpa [put] using h
 | cons x xs ih=>
  unfold put at h
  split at h
  ·simpa using h
  ·split at h
   ·rcases List.mem_cons.1 h with rfl | h
    ·exact .inr (List.mem_cons_self ..)
    ·exact (ih h).imp id (List.mem_cons_of_mem _)
   ·rcases List.mem_cons.1 h with rfl | h
    ·exact .inl rfl
    ·exact .inr (List.mem_cons_of_mem _ h)
theorem length_put_le {xs:List (α × β)} {k:α} {v:β}:(put lt xs k v).length≤xs.length+1:=by
 induction xs with
 | nil=>simp [put]
 | cons x xs ih=>
  unfold put
  split
  ·simp
  ·split
   ·simp only [List.length_cons];omega
   ·simp
end Mp
namespace Mp
variable {β:Type}
theorem ltI_true {a b:Int}:ltI a b=true↔a < b:=by simp [ltI]
end Mp
namespace Mp
def place (xs:List (Int × Int)) (k:Int):Nat:=(xs.takeWhile fun p=>decide (p.1 < k)).length
theorem place_nil (k:Int):place [] k=0:=rfl
theorem place_cons (x:Int × Int) (xs:List (Int × Int)) (k:Int):place (x :: xs) k=if x.1 < k then place xs k+1 else 0:=by
 unfold place
 by_cases h:x.1 < k <;> simp [h]
theorem place_le:(xs:List (Int × Int))→(k:Int)→place xs k≤xs.length
 | [],_=>Nat.le_refl _
 | x :: xs,k=>by
  have:=place_le xs k
  rw [place_cons]
  simp only [List.length_cons]
  split <;> omega
theorem place_below:{xs:List (Int × Int)}→{k:Int}→{j:Nat}→{p:Int × Int}→j < place xs k→xs[j]? = some p→p.1 < k
 | [],_,_,_,h,_=>by simp [place_nil] at h
 | x :: xs,k,j,p,h,hp=>by
  rw [place_cons] at h
  split at h
  ·rename_i hx
   cases j with
   | zero=>
    obtain rfl:x=p:=by simpa using hp
    exact hx
   | succ j=>exact place_below (xs:=xs) (j:=j) (by omega) (by simpa using hp)
  ·omega
theorem place_stop:{xs:List (Int × Int)}→{k:Int}→{p:Int × Int}→xs[place xs k]? = some p→k≤p.1
 | [],_,_,h=>by simp at h
 | x :: xs,k,p,h=>by
  rw [place_cons] at h
  split at h
  ·exact place_stop (xs:=xs) (by simpa using h)
  ·obtain rfl:x=p:=by simpa using h
   omega
def hit (xs:List (Int × Int)) (k:Int):Bool:=match xs[place xs k]? with | some p=>p.1 == k | none=>false
theorem put_place:(xs:List (Int × Int))→(k v:Int)→put ltI xs k v=xs.take (place xs k)++(k,v) :: xs.drop (if hit xs k then place xs k+1 else place xs k)
 | [],k,v=>by simp [put,place_nil]
 | x :: xs,k,v=>by
  have ih:=put_place xs k v
  unfold put
  by_cases h1:k < x.1
  ·have hp:place (x :: xs) k=0:=by rw [place_cons,if_neg (by omega)]
   have e:hit (x :: xs) k=false:=by
    simp only [hit,hp,List.getElem?_cons_zero,beq_eq_false_iff_ne,ne_eq]
    omega
   rw [if_pos (ltI_true.2 h1),e,hp]
   rfl
  ·rw [if_neg (by rw [ltI_true];exact h1)]
   by_cases h2:x.1 < k
   ·have hp:place (x :: xs) k=place xs k+1:=by rw [place_cons,if_pos h2]
    have e:hit (x :: xs) k=hit xs k:=by simp only [hit,hp,List.getElem?_cons_succ]
    rw [if_pos (ltI_true.2 h2),ih,e,hp]
    cases hit xs k <;> simp
   ·have hp:place (x :: xs) k=0:=by rw [place_cons,if_neg h2]
    have e:hit (x :: xs) k=true:=by
     simp only [hit,hp,List.getElem?_cons_zero,beq_iff_eq]
     omega
    rw [if_neg (by rw [ltI_true];exact h2),e,hp]
    simp
end Mp
end Go.Proofs.YtnjkmmmfhponlaaGreat
