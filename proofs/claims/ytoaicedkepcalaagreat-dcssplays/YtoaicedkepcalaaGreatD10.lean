/-
  What the proof of YtoaicedkepcalaaGreatDcssPlaysProof goes by, part 10 of 11: contracts and plain facts; each part begins with its own sentence. No conditions beyond each theorem's own.
-/
import Derived.Test.YtoaicedkepcalaaGreatD9
namespace Go.Proofs.YtoaicedkepcalaaGreat
open Go.RowKit
section
open Go.Shelf
variable {X:Nat->Prop}
set_option maxRecDepth 20000
theorem Others.mine {P:Nat->Prop} {W W':World} {n₀:Nat} (hX:∀ k,X k->P k) (t:Td (Mine P W n₀) W W'):Others X W W':=fun k _ _ e h1 _=>h1.elim (fun hx=>t.heap e (fun m=>m.2.1 (hX k hx))) (fun h1=>t.mine e h1)
theorem follow_yy (W:World) (n₀ y b x mb tb:Nat) (v mv:Value) (tv lv:Sl) (pz:List Pt) (m:Mst) (ix:Ixp) (h:YdIs X W n₀ y b x mb tb v mv tv lv pz m ix) (hn:n₀<=W.heap.size) (h0:0 < ix.m.xs.length) (hl:m.xs.length<=ix.m.xs.length) (hz:m.size=ix.m.size) :
  Calls Tryz.prog 40 #[.pointer (some ⟨y,0,none⟩)] W fun e W'=>e=.returned (.tuple #[])/\∃ v' m',YdIs X W' n₀ y b x mb tb v' mv tv lv pz m' ix/\m'.xs=ix.m.xs/\m'.size=ix.m.size/\Td (fun k=>n₀<=k) W W'/\Others X W W':=by
 obtain ⟨g,cc,hs,hc,hm,hap⟩:=h.sees h0;refine (follow_r W n₀ b y x mb g cc v m ix.m.xs h.pm hs hn hap hl (by have:=h.ixs.mem.room;omega) hc hm).mono ?_;rintro e W' ⟨rfl,m',⟨v',hm',t,hf⟩,e1,e2⟩;exact ⟨rfl,v',m',h.prog t (fun _ e=>.inl e) hm' hf,e1,e2.trans hz,t.mono (fun k _ hk=>(h.pm.lt k hk).1),fun k c T hk h1 h2=>t.heap hk (h1.elim (fun hx e=>e.elim (fun e=>by
  have:=h.pm.box
  rw [<- e,hk] at this;simp at this;exact h2 this.2) (fun e=>h.xv k hx e)) (fun h1=>h.pm.other hk h2 (fun e=>h1 (by rw [e];simp))))⟩
def Picked (X:Nat->Prop) (W:World) (n₀ y b x mb tb:Nat) (tv:Sl) (ix:Ixp) (c:Nat) (n:Int) (W':World):Prop:=
 ∃ v' mv' lv' pz' m',YdIs X W' n₀ y b x mb tb v' mv' tv lv' pz' m' (pickY ix n)/\YOk m' (pickY ix n) (c+2)/\Td (fun k=>n₀<=k) W W'/\Others X W W'
set_option maxHeartbeats 2000000 in
theorem pick_y (W:World) (n₀ y b x mb tb:Nat) (v mv:Value) (tv lv:Sl) (pz:List Pt) (m:Mst) (ix:Ixp) (c:Nat) (h:YdIs X W n₀ y b x mb tb v mv tv lv pz m ix) (hn:n₀<=W.heap.size) (o:YOk m ix c) (hc:c<=6000) (n:Int) (iz:I64 n) :
  Calls Tryz.prog 16 #[.pointer (some ⟨y,0,none⟩),.int .i64 n] W fun e W'=>e=.returned (.tuple #[])/\Picked X W n₀ y b x mb tb tv ix c n W':=by
 have tlen:tv.n=3:=by rw [h.ixs.tvn.1];exact o.len
 have tcap:3<=tv.c:=by have:=h.ixs.tvn;omega
 obtain ⟨tt,htt⟩:∃ tt:Nat,n % 3=(tt:Int):=⟨(n % 3).toNat,by omega⟩;have tt3:tt < 3:=by omega
 obtain ⟨d,hd⟩:∃ d,n.tdiv 3=d:=⟨_,rfl⟩;obtain ⟨z1,z2⟩:=iz;have d1:n.tmod 3+3 * d=n:=by rw [<- hd];first | exact Int.tmod_add_tdiv n 3 | exact Int.tmod_add_mul_tdiv n 3
 have d3:=Int.lt_tmod_of_pos n (show (0:Int) < 3 by decide);have d4:=Int.tmod_lt_of_pos n (show (0:Int) < 3 by decide);have b1:-9223372036854775808<=d/\d<=9223372036854775807:=by omega
 obtain ⟨ix1,hx1⟩:∃ ix1,ix.invokeZ tt (opK d) (opKey d) (opVal d)=ix1:=⟨_,rfl⟩;have PY:Hid (pickY ix n=(ix1.pickZ tt).2):=gh (by
  unfold pickY;rw [o.len,hd]
  have:(n % ((3:Nat):Int)).toNat=tt:=by show (n % 3).toNat=tt;omega
  rw [this,hx1])
 have tl:tt < ix.ts.length:=by rw [o.len];exact tt3
 obtain ⟨q,hq⟩:∃ q,ix.ts[tt]? = some q:=⟨_,List.getElem?_eq_getElem tl⟩;obtain ⟨p,hp⟩:∃ p,pz[tt]? = some p:=⟨_,List.getElem?_eq_getElem (by rw [h.ixs.pn];exact tl)⟩;obtain ⟨bz,hb⟩:∃ bz,q.busy=bz:=⟨_,rfl⟩;have c1:W.cell? ⟨y,1,none⟩=some (.pointer (some ⟨x,0,none⟩)):=by have:=h.box;simp [World.cell?,this]
 have f4:=h.ixs.cells.1.2.1;have fj:=h.ixs.slot hp;have fb:=(h.ixs.th tt q p hq hp).cells.1.2.1;rw [hb] at fb;rw [tlen] at f4;have C3:∀ X,Calls Tryz.prog 25 #[.int .i64 n,.int .i64 3] X fun e X'=>e=.returned (.int .i64 (tt:Int))/\X=X':=fun X=>htt ▸ cut_g X n 3 (by decide) (by decide);have u1:(tt:Int) < 3:=by omega
 have u2:tt < tv.c:=by omega
 have u0:decide ((tt:Int) < 0)=false:=by simp
 have u3:decide ((3:Int)<=(tt:Int))=false:=by simp;omega
 have HI:=gh h;have HN:=gh hn;have HO:=gh o;have HC:=gh hc;have HP:=pickY_ok o hc n;have HPO:=gh HP;have HC3:=gh C3;have GD1:Hid (ix1.Gd (c+1)):=gh (by rw [<- hx1];exact Ixp.invokeZ_gd o.gd _ _ _ _);have BZ:Hid (∃ q,ix1.ts[tt]? = some q/\q.busy=true):=gh (by rw [<- hx1];exact invokeZ_busy ix tt tl _ _ _);have IDLE:Hid (bz=true->ix1=ix):=gh (fun e=>by
  rw [<- hx1];unfold Ixp.invokeZ;rw [hq];dsimp only;rw [if_pos (by rw [hb];exact e)])
 have HX1:=gh hx1;have TL:=gh tl;have REST:Hid (∀ (V:World) (lv1:Sl) (pz1:List Pt),YdIs X V n₀ y b x mb tb v mv tv lv1 pz1 m ix1->n₀<=V.heap.size->Calls Tryz.prog 61 #[.pointer (some ⟨x,0,none⟩),.int .i64 (tt:Int)] V fun e V'=>(∃ u,e=.returned u)/\(∃ mv2 lv2 pz2,YdIs X V' n₀ y b x mb tb v mv2 tv lv2 pz2 m (ix1.pickZ tt).2)/\Td (fun k=>n₀<=k) V V'/\Others X V V'):=gh (fun V lv1 pz1 hy hv=>by
  obtain ⟨q',hq',hb'⟩:=BZ.o;obtain ⟨p',hp'⟩:=hy.ixs.bz tt q' hq' hb';refine (pickz_r V n₀ x mb tb ix1 mv tv lv1 pz1 hy.ixs hv tt q' p' hq' hb' hp' (c+1) GD1.o (by have:=HC.o;omega) _ _ rfl).mono ?_;rintro e V' ⟨⟨u,la,ln,lc,rfl⟩,⟨mv2,lv2,pz2,h2⟩,t2⟩;exact ⟨⟨_,rfl⟩,⟨mv2,lv2,pz2,hy.idx t2 h2⟩,t2.since,Others.mine (fun _ e=>.inr e) t2⟩)
 have FIN:Hid (∀ (V:World) (mv2:Value) (lv2:Sl) (pz2:List Pt),YdIs X V n₀ y b x mb tb v mv2 tv lv2 pz2 m (ix1.pickZ tt).2->n₀<=V.heap.size->Td (fun k=>n₀<=k) W V->Others X W V->Calls Tryz.prog 40 #[.pointer (some ⟨y,0,none⟩)] V fun e W'=>e=.returned (.tuple #[])/\Picked X W n₀ y b x mb tb tv ix c n W'):=gh (fun V mv2 lv2 pz2 hy hv t ot=>by
  rw [<- PY.o] at hy;obtain ⟨q1,q2,q3,q4,q5,q6⟩:=HPO.o;refine (follow_yy V n₀ y b x mb tb v mv2 tv lv2 pz2 m _ hy hv (by omega) (by rw [HO.o.xs];exact q5) (by rw [HO.o.size,q6])).mono ?_;rintro e W' ⟨rfl,v',m',h1,h2,h3,h4,h5⟩;exact ⟨rfl,v',mv2,lv2,pz2,m',h1,⟨h2,h3,q1,q2,q3,q4⟩,t.trans h4 (fun _ e=>e) (fun _ _ e=>e),ot.trans h5⟩)
 clear h hn o hc HP C3 htt hq hp hb d1 d3 d4 hx1 tl tlen tcap;go_enter Tryz.func16,Tryz.ntmps16;go_wp2_with (fail);refine (HC3.o W).mono ?_;rintro e w' ⟨rfl,rfl⟩;cases bz with
 | true=>
  have e1:=gh (IDLE.o rfl);go_wp2_with (fail);refine (REST.o W lv pz (by rw [e1.o];exact HI.o) HN.o).mono ?_;rintro e V ⟨⟨u,rfl⟩,⟨mv2,lv2,pz2,y2⟩,t2,o2⟩;have FF:=gh (FIN.o V mv2 lv2 pz2 y2 (Nat.le_trans HN.o t2.size) t2 o2);clear y2 t2 o2 c1 f4 fj fb;go_wp2_with (fail);refine FF.o.mono ?_;rintro e W' ⟨rfl,P⟩;have PP:=gh P;clear P FF;go_wp2
  go_end0
  exact ⟨rfl,PP.o⟩
 | false=>
  go_upto_region 2 with (fail)
  obtain ⟨V,hV⟩:∃ V,W.drew=V:=⟨_,rfl⟩;have K0:Hid (Kept W V):=gh (by rw [<- hV];exact Kept.drew _);have BY:Hid (V.heap[y]? = some (.cells #[.pointer (some ⟨b,0,none⟩),.pointer (some ⟨x,0,none⟩)] 39)):=gh (K0.o.heap HI.o.box id);have x0:∀ u:Wd (fun U=>Td (Mine (fun k=>v.ownBlock=some k∨X k) V n₀) V U),u.w.cell? ⟨y,1,none⟩=some (.pointer (some ⟨x,0,none⟩)):=fun u=>by
   have:=u.ok.mine BY.o (by decide)
   simp [World.cell?,this]
  clear c1 f4 fj fb;refine region_wide [0,1,2,3,4,5,6,7,8] (fun U=>Td (Mine (fun k=>v.ownBlock=some k∨X k) V n₀) V U) (by kernel_rfl) (by kernel_rfl) (by rw [hV];exact Td.refl _ _) (fun _=>?_);rw [hV];clear hV
  iterate 7 (refine pq rfl rfl ?_;go_big_quiet_step (rfl);refine wpQuiet_nil ?_)
  refine pl rfl rfl ?_;gi_wp2_with (fail);refine ⟨trivial,?_⟩
  try rw [hd]
  refine (callsIn_wide.2 (op_r V d ⟨b1.1,b1.2⟩)).mono ?_;rintro e W5 ⟨rfl,k5⟩;have K5:=gh k5;clear k5;gi_wp2_with (fail);refine ⟨Wd.mem (K5.o.mono (fun _ _ e=>e.elim)),?_⟩;refine pl rfl rfl ?_;gi_wp2_with (fail);refine ⟨trivial,?_⟩;refine (callsIn_wide.2 (invokez_r W5 n₀ x mb tb ix mv tv lv pz ((HI.o.kept K0.o).kept K5.o).ixs (Nat.le_trans HN.o (Nat.le_trans K0.o.size K5.o.size)) tt TL.o c HO.o.gd (by have:=HC.o;omega) d)).mono ?_;rintro e W6 ⟨⟨rr,rfl⟩,⟨lv1,pz1,i6⟩,t6⟩;rw [HX1.o] at i6;have Y6:Hid (YdIs X W6 n₀ y b x mb tb v mv tv lv1 pz1 m ix1):=gh (((HI.o.kept K0.o).kept K5.o).idx t6 i6);have T6:Hid (Td (Mine (fun k=>v.ownBlock=some k∨X k) V n₀) V W6):=gh (Td.mine_kept K5.o t6);have TW:Hid (Td (fun k=>n₀<=k) W W6):=gh (K0.o.then T6.o.since);have OW:Hid (Others X W W6):=gh ((Others.kept K0.o).trans (Others.mine (fun _ e=>.inr e) T6.o));clear i6 t6;gi_wp2_with (fail);refine ⟨Wd.mem T6.o,?_⟩;refine perm_done ?_;have c1:W6.cell? ⟨y,1,none⟩=some (.pointer (some ⟨x,0,none⟩)):=by have:=Y6.o.box;simp [World.cell?,this]
  clear x0;go_wp2_with (fail);refine (REST.o W6 lv1 pz1 Y6.o (Nat.le_trans HN.o TW.o.size)).mono ?_;rintro e V9 ⟨⟨u,rfl⟩,⟨mv2,lv2,pz2,y2⟩,t2,o2⟩;have FF:=gh (FIN.o V9 mv2 lv2 pz2 y2 (Nat.le_trans HN.o (Nat.le_trans TW.o.size t2.size)) (TW.o.trans t2 (fun _ e=>e) (fun _ _ e=>e)) (OW.o.trans o2));clear y2 t2 o2 c1;go_wp2_with (fail);refine FF.o.mono ?_;rintro e W' ⟨rfl,P⟩;have PP:=gh P;clear P FF;go_wp2
  go_end0
  exact ⟨rfl,PP.o⟩
theorem pick_x (w W:World) (y b x mb:Nat) (m:Mst) (ix:Ixp) (c:Nat) (h:Yx X w W y b x mb m ix) (o:YOk m ix c) (hc:c<=6000) (n:Int) (iz:I64 n) :
  Calls Tryz.prog 16 #[.pointer (some ⟨y,0,none⟩),.int .i64 n] W fun e W'=>e=.returned (.tuple #[])/\∃ m',Yx X w W' y b x mb m' (pickY ix n)/\YOk m' (pickY ix n) (c+2)/\Others X W W':=by
 obtain ⟨tb,v,mv,tv,lv,pz,h1,h2⟩:=h;refine (pick_y W w.heap.size y b x mb tb v mv tv lv pz m ix c h1 h2.size o hc n iz).mono ?_;rintro e W' ⟨rfl,v',mv',lv',pz',m',q1,q2,q3,q4⟩;exact ⟨rfl,m',⟨tb,v',mv',tv,lv',pz',q1,h2.own (fun _ e=>e) q3⟩,q2,q4⟩
end
section
open Go.Shelf
variable {X:Nat->Prop} {lo:Nat}
set_option maxRecDepth 100000 in
set_option maxHeartbeats 2000000 in
theorem low_11 (W:World) (f r:Nat) (fm:Fm) (tp:Sl) (s:Rn) (hf:W.heap[f]? = some (.cells (fm.cs tp) 65)) (h24:fm.proc=11) (h:RunAt X W r s) (ho:s.ok) (hX:∀ k,W.heap.size<=k->X k) (z:Int) (sE:Rn) (he:s.peek fm.g.a=(z,sE)) :
  Calls Tryz.prog 103 #[.pointer (some ⟨f,0,none⟩),.pointer (some ⟨r,0,none⟩)] W fun e W'=>e=.returned (.agg (Ou.cs { Ou.none with word:=z }))/\Ran X W r sE W':=by
 obtain ⟨A1,hA1⟩:∃ V,W.alloc (.cells #[.int .i64 0,.bool false,.int .i64 0,.int .i64 0,.int .i64 0,.slice none 0 0,.slice none 0 0,.int .i64 0,.bool false,.int .i64 0,.int .i64 0,.int .i64 0,.slice none 0 0] 63)=V:=⟨_,rfl⟩;obtain ⟨A2,hA2⟩:∃ V,A1.alloc (.cells #[.int .i64 0,.int .i64 0,.int .i64 0,.int .i64 0,.int .i64 0,.int .i64 0,.int .i64 0,.bool false,.int .i64 0,.bool false,.slice none 0 0,.slice none 0 0,.slice none 0 0,.slice none 0 0,.slice none 0 0,.int .i64 0,.int .i64 0,.int .i64 0,.int .i64 0,.int .i64 0,.int .i64 0] 54)=V:=⟨_,rfl⟩;obtain ⟨mo,hmo⟩:∃ m,W.heap.size=m:=⟨_,rfl⟩;obtain ⟨A3,hA3⟩:∃ V,A2.setRow (mo+1) fm.g.cs=V:=⟨_,rfl⟩;obtain ⟨V,hV⟩:∃ V,A3.alloc (.cells #[.int .i64 0,.bool false,.int .i64 0,.int .i64 0,.int .i64 0,.slice none 0 0,.slice none 0 0,.int .i64 0,.bool false,.int .i64 0,.int .i64 0,.int .i64 0,.slice none 0 0] 63)=V:=⟨_,rfl⟩;have k1:Kept W A1:=by rw [<- hA1];exact Td.alloc _ _ _
 have k2:Kept A1 A2:=by rw [<- hA2];exact Td.alloc _ _ _
 have t3:Td (fun k=>k=mo+1) A2 A3:=by rw [<- hA3];exact turned_setRow _ _ _
 have k4:Kept A3 V:=by rw [<- hV];exact Td.alloc _ _ _
 have z1:A1.heap.size=mo+1:=by rw [<- hA1,<- hmo];simp
 have z2:A2.heap.size=mo+2:=by rw [<- hA2];simp;omega
 have z3:A3.heap.size=mo+2:=by rw [<- hA3];simp;omega
 have z4:V.heap.size=mo+3:=by rw [<- hV];simp;omega
 have y2:A2.heap[mo+1]? = some (.cells #[.int .i64 0,.int .i64 0,.int .i64 0,.int .i64 0,.int .i64 0,.int .i64 0,.int .i64 0,.bool false,.int .i64 0,.bool false,.slice none 0 0,.slice none 0 0,.slice none 0 0,.slice none 0 0,.slice none 0 0,.int .i64 0,.int .i64 0,.int .i64 0,.int .i64 0,.int .i64 0,.int .i64 0] 54):=by rw [<- hA2,<- z1];exact heap_new _ _
 have y3:A3.heap[mo+1]? = some (.cells fm.g.cs 54):=by rw [<- hA3];exact setRow_heap A2 _ _ _ _ _ y2
 have hlt:=h.lt;have hft:=(Array.getElem?_eq_some_iff.1 hf).1;have f1:A1.heap[f]? = some (.cells (fm.cs tp) 65):=k1.heap hf id;have f3:V.heap[f]? = some (.cells (fm.cs tp) 65):=k4.heap (t3.heap (k2.heap f1 id) (fun e=>by omega)) id;have y0:A1.heap[mo]? = some (.cells #[.int .i64 0,.bool false,.int .i64 0,.int .i64 0,.int .i64 0,.slice none 0 0,.slice none 0 0,.int .i64 0,.bool false,.int .i64 0,.int .i64 0,.int .i64 0,.slice none 0 0] 63):=by rw [<- hA1,<- hmo];exact heap_new _ _
 have b0:V.heap[mo]? = some (.cells #[.int .i64 0,.bool false,.int .i64 0,.int .i64 0,.int .i64 0,.slice none 0 0,.slice none 0 0,.int .i64 0,.bool false,.int .i64 0,.int .i64 0,.int .i64 0,.slice none 0 0] 63):=k4.heap (t3.heap (k2.heap y0 id) (fun e=>by omega)) id;have b1:V.heap[mo+1]? = some (.cells fm.g.cs 54):=k4.heap y3 id;have b2:V.heap[mo+2]? = some (.cells #[.int .i64 0,.bool false,.int .i64 0,.int .i64 0,.int .i64 0,.slice none 0 0,.slice none 0 0,.int .i64 0,.bool false,.int .i64 0,.int .i64 0,.int .i64 0,.slice none 0 0] 63):=by rw [<- hV,<- z3];exact heap_new _ _
 have kV3:Kept W A3:=((k1.trans k2).then t3).mono (fun k hk e=>by omega);have kV:Kept W V:=kV3.trans k4;have RG:Hid (A1.rangeAt f 1 fm.g.cs.toList):=gh (by
  obtain ⟨_,g0,g1,g2,g3,g4,g5,g6,g7,g8,g9,g10,g11,g12,g13,g14,g15,g16,g17,g18,g19,g20,_,_,_,_,_,_,_,_,_,_,_,_,_,_,_,_,_,_⟩:=frm_cells f1;intro j v hv;have hj:j < 21:=by have:=(List.getElem?_eq_some_iff.1 hv).1;simpa [Ag.cs] using this
  rcases j with _ | _ | _ | _ | _ | _ | _ | _ | _ | _ | _ | _ | _ | _ | _ | _ | _ | _ | _ | _ | _ | j
  all_goals first | (simp [Ag.cs] at hv;subst hv;assumption) | omega)
 have KV:=gh kV;have HA1:=gh hA1;have HA2:=gh hA2;have HA3:=gh hA3;have HV:=gh hV;have HS:=gh (And.intro z1 (And.intro z2 z3));have Y2:=gh y2;have HRM:Hid (r < mo/\W.heap.size=mo/\V.heap.size=mo+3):=gh ⟨by omega,hmo,z4⟩;have B0:=gh b0;have B2:=gh b2;obtain ⟨Y,hYd⟩:∃ Y:Nat->Prop,Y=fun k=>X k/\k≠mo/\k≠mo+2:=⟨_,rfl⟩;have HYX:Hid (∀ k,Y k->X k):=gh (by rw [hYd];exact fun k h=>h.1);have HYM:Hid (¬ Y mo/\¬ Y (mo+2)):=gh (by rw [hYd];exact ⟨fun h=>h.2.1 rfl,fun h=>h.2.2 rfl⟩);have H:Hid (RunAt Y V r s):=gh ((h.to (Y:=Y) (by rw [hYd];exact fun k a b=>⟨a,by omega,by omega⟩)).kept kV);have HY:Hid (∀ k,V.heap.size<=k->Y k):=gh (by rw [hYd];exact fun k h=>⟨hX k (by omega),by omega,by omega⟩);have OK:=gh ho;have HE:=gh he;have f3':A3.heap[f]? = some (.cells (fm.cs tp) 65):=t3.heap (k2.heap f1 id) (fun e=>by omega);have c0:∀ o,(A3.alloc o).cell? ⟨f,0,none⟩=some (.int .i64 11):=fun o=>by have:=(frm_cells f3').1;rw [h24] at this;exact (Kept.alloc (Kept.refl A3) o).cell this id
 obtain ⟨a0',_⟩:=ag_cells y3;have a0:∀ o,(A3.alloc o).cell? ⟨mo+1,0,none⟩=some (.int .i64 fm.g.a):=fun o=>(Kept.alloc (Kept.refl A3) o).cell a0' id;have HCT:=gh (peek_r V r s fm.g.a H.o OK.o z sE HE.o);clear a0' f3' h ho hX he k1 k2 t3 k4 kV3 z1 z2 z3 z4 y0 y2 y3 hlt hft f1 f3 b0 b1 b2 kV hA1 hA2 hA3 hV hYd hf;go_enter Tryz.func103,Tryz.ntmps103;go_wp2_with (with_reducible refine at_load54 ?_);refine ⟨?_⟩;rw [HA1.o];refine wpList_load_mid rfl 54 _ rfl f 1 rfl fm.g.cs.toList _ RG.o Tryz.underlying54 rfl (by simpa [Ag.cs] using info54) ?_;go_wp2_with (with_reducible refine at_store54 ?_);refine ⟨?_⟩;rw [HA2.o,HS.o.1];refine wpList_store_row rfl 54 _ _ rfl (mo+1) fm.g.cs.toList.toArray rfl rfl 54 _ Y2.o (by simpa [Ag.cs] using info54) (by simp [Ag.cs]) (by simp [Ag.cs,Value.oneCell']) ?_;rw [show (fm.g.cs.toList.toArray)=fm.g.cs from by simp,HA3.o];have HS3:=HS.o.2.2;go_wp2_with (fail);clear HS3;rw [HV.o];refine HCT.o.mono ?_;rintro e U ⟨rfl,G⟩;have HG:=gh G;have u0:=G.2.heap B0.o (fun e=>by have:=HRM.o;omega);have u2:=G.2.heap B2.o (fun e=>by have:=HRM.o;omega);have U0:=gh u0;have U2:=gh u2;obtain ⟨d0,d1,d2,d3,d4,d5,d6,d7,d8,d9,d10,d11,d12,df⟩:=ou_cells (o:=Ou.none) u2;unfold Ou.none Sl.nil Rs.none at *;dsimp only at *;have f0':=df 0;clear u0 u2 df G c0 HCT a0 d1 d2 d3 d4 d5 d6 d7 d8 d9 d10 d11 d12;go_wp2_with (with_reducible refine at_load63 ?_);refine ⟨?_⟩;obtain ⟨U6,hU6⟩:∃ U6,U.setCell ⟨mo+2,0,none⟩ (.int .i64 z)=U6:=⟨_,rfl⟩;rw [hU6];have T6:Td (fun k=>k=mo+2) U U6:=by rw [<- hU6];exact Td.setCell (R:=fun k=>k=mo+2) _ _ _ rfl
 have w2:U6.heap[mo+2]? = some (.cells #[.int .i64 z,.bool false,.int .i64 0,.int .i64 0,.int .i64 0,.slice none 0 0,.slice none 0 0,.int .i64 0,.bool false,.int .i64 0,.int .i64 0,.int .i64 0,.slice none 0 0] 63):=by
  rw [<- hU6];have hb:=U2.o;simp [World.setCell,Array.getElem?_modify,hb]
 have w0:=T6.heap U0.o (fun e=>by omega);clear hU6;refine wpList_load_row rfl 63 _ rfl (mo+2) rfl 63 _ _ _ w2 Tryz.underlying63 rfl info63 ?_;refine wpList_store_row rfl 63 _ _ rfl mo _ rfl rfl 63 _ w0 info63 rfl (by simp [Value.oneCell']) ?_;obtain ⟨U7,hU7⟩:∃ U7,U6.setRow mo #[.int .i64 z,.bool false,.int .i64 0,.int .i64 0,.int .i64 0,.slice none 0 0,.slice none 0 0,.int .i64 0,.bool false,.int .i64 0,.int .i64 0,.int .i64 0,.slice none 0 0]=U7:=⟨_,rfl⟩;rw [hU7];have w7:U7.heap[mo]? = some (.cells #[.int .i64 z,.bool false,.int .i64 0,.int .i64 0,.int .i64 0,.slice none 0 0,.slice none 0 0,.int .i64 0,.bool false,.int .i64 0,.int .i64 0,.int .i64 0,.slice none 0 0] 63):=by rw [<- hU7];exact setRow_heap U6 mo _ _ _ _ w0
 have T7:Td (fun k=>k=mo) U6 U7:=by rw [<- hU7];exact turned_setRow _ _ _
 have W7:=gh w7;clear w7 hU7 w0 w2;go_wp2;refine bodyPost_ret (results_cell_row rfl _ _ mo 63 _ _ _ rfl W7.o Tryz.underlying63 rfl info63) rfl ?_;refine ⟨rfl,((HG.o.1.above T6 (fun k h1 h2=>HYM.o.2 (h2 ▸ h1))).above T7 (fun k h1 h2=>HYM.o.1 (h2 ▸ h1))).to (fun k a _=>HYX.o k a),?_⟩;refine ((Kept.then KV.o HG.o.2).trans T6 (fun _ e=>e) (fun k hk e=>?_)).trans T7 (fun _ e=>e) (fun k hk e=>?_)
 ·have:=HRM.o;omega
 ·have:=HRM.o;omega
set_option maxRecDepth 100000 in
set_option maxHeartbeats 2000000 in
theorem low_12 (W:World) (f r:Nat) (fm:Fm) (tp:Sl) (s:Rn) (hf:W.heap[f]? = some (.cells (fm.cs tp) 65)) (h24:fm.proc=12) (h:RunAt X W r s) (ho:s.ok) (hX:∀ k,W.heap.size<=k->X k) (ha0:0<=fm.g.a) (ha1:fm.g.a<=65536) (sE:Rn) (he:s.help fm.g.a=sE) :
  Calls Tryz.prog 103 #[.pointer (some ⟨f,0,none⟩),.pointer (some ⟨r,0,none⟩)] W fun e W'=>e=.returned (.agg (Ou.cs { Ou.none with word:=0 }))/\Ran X W r sE W':=by
 obtain ⟨A1,hA1⟩:∃ V,W.alloc (.cells #[.int .i64 0,.bool false,.int .i64 0,.int .i64 0,.int .i64 0,.slice none 0 0,.slice none 0 0,.int .i64 0,.bool false,.int .i64 0,.int .i64 0,.int .i64 0,.slice none 0 0] 63)=V:=⟨_,rfl⟩;obtain ⟨A2,hA2⟩:∃ V,A1.alloc (.cells #[.int .i64 0,.int .i64 0,.int .i64 0,.int .i64 0,.int .i64 0,.int .i64 0,.int .i64 0,.bool false,.int .i64 0,.bool false,.slice none 0 0,.slice none 0 0,.slice none 0 0,.slice none 0 0,.slice none 0 0,.int .i64 0,.int .i64 0,.int .i64 0,.int .i64 0,.int .i64 0,.int .i64 0] 54)=V:=⟨_,rfl⟩;obtain ⟨mo,hmo⟩:∃ m,W.heap.size=m:=⟨_,rfl⟩;obtain ⟨A3,hA3⟩:∃ V,A2.setRow (mo+1) fm.g.cs=V:=⟨_,rfl⟩;obtain ⟨V,hV⟩:∃ V,A3.alloc (.cells #[.int .i64 0,.bool false,.int .i64 0,.int .i64 0,.int .i64 0,.slice none 0 0,.slice none 0 0,.int .i64 0,.bool false,.int .i64 0,.int .i64 0,.int .i64 0,.slice none 0 0] 63)=V:=⟨_,rfl⟩;have k1:Kept W A1:=by rw [<- hA1];exact Td.alloc _ _ _
 have k2:Kept A1 A2:=by rw [<- hA2];exact Td.alloc _ _ _
 have t3:Td (fun k=>k=mo+1) A2 A3:=by rw [<- hA3];exact turned_setRow _ _ _
 have k4:Kept A3 V:=by rw [<- hV];exact Td.alloc _ _ _
 have z1:A1.heap.size=mo+1:=by rw [<- hA1,<- hmo];simp
 have z2:A2.heap.size=mo+2:=by rw [<- hA2];simp;omega
 have z3:A3.heap.size=mo+2:=by rw [<- hA3];simp;omega
 have z4:V.heap.size=mo+3:=by rw [<- hV];simp;omega
 have y2:A2.heap[mo+1]? = some (.cells #[.int .i64 0,.int .i64 0,.int .i64 0,.int .i64 0,.int .i64 0,.int .i64 0,.int .i64 0,.bool false,.int .i64 0,.bool false,.slice none 0 0,.slice none 0 0,.slice none 0 0,.slice none 0 0,.slice none 0 0,.int .i64 0,.int .i64 0,.int .i64 0,.int .i64 0,.int .i64 0,.int .i64 0] 54):=by rw [<- hA2,<- z1];exact heap_new _ _
 have y3:A3.heap[mo+1]? = some (.cells fm.g.cs 54):=by rw [<- hA3];exact setRow_heap A2 _ _ _ _ _ y2
 have hlt:=h.lt;have hft:=(Array.getElem?_eq_some_iff.1 hf).1;have f1:A1.heap[f]? = some (.cells (fm.cs tp) 65):=k1.heap hf id;have f3:V.heap[f]? = some (.cells (fm.cs tp) 65):=k4.heap (t3.heap (k2.heap f1 id) (fun e=>by omega)) id;have y0:A1.heap[mo]? = some (.cells #[.int .i64 0,.bool false,.int .i64 0,.int .i64 0,.int .i64 0,.slice none 0 0,.slice none 0 0,.int .i64 0,.bool false,.int .i64 0,.int .i64 0,.int .i64 0,.slice none 0 0] 63):=by rw [<- hA1,<- hmo];exact heap_new _ _
 have b0:V.heap[mo]? = some (.cells #[.int .i64 0,.bool false,.int .i64 0,.int .i64 0,.int .i64 0,.slice none 0 0,.slice none 0 0,.int .i64 0,.bool false,.int .i64 0,.int .i64 0,.int .i64 0,.slice none 0 0] 63):=k4.heap (t3.heap (k2.heap y0 id) (fun e=>by omega)) id;have b1:V.heap[mo+1]? = some (.cells fm.g.cs 54):=k4.heap y3 id;have b2:V.heap[mo+2]? = some (.cells #[.int .i64 0,.bool false,.int .i64 0,.int .i64 0,.int .i64 0,.slice none 0 0,.slice none 0 0,.int .i64 0,.bool false,.int .i64 0,.int .i64 0,.int .i64 0,.slice none 0 0] 63):=by rw [<- hV,<- z3];exact heap_new _ _
 have kV3:Kept W A3:=((k1.trans k2).then t3).mono (fun k hk e=>by omega);have kV:Kept W V:=kV3.trans k4;have RG:Hid (A1.rangeAt f 1 fm.g.cs.toList):=gh (by
  obtain ⟨_,g0,g1,g2,g3,g4,g5,g6,g7,g8,g9,g10,g11,g12,g13,g14,g15,g16,g17,g18,g19,g20,_,_,_,_,_,_,_,_,_,_,_,_,_,_,_,_,_,_⟩:=frm_cells f1;intro j v hv;have hj:j < 21:=by have:=(List.getElem?_eq_some_iff.1 hv).1;simpa [Ag.cs] using this
  rcases j with _ | _ | _ | _ | _ | _ | _ | _ | _ | _ | _ | _ | _ | _ | _ | _ | _ | _ | _ | _ | _ | j
  all_goals first | (simp [Ag.cs] at hv;subst hv;assumption) | omega)
 have KV:=gh kV;have HA1:=gh hA1;have HA2:=gh hA2;have HA3:=gh hA3;have HV:=gh hV;have HS:=gh (And.intro z1 (And.intro z2 z3));have Y2:=gh y2;have HRM:Hid (r < mo/\W.heap.size=mo/\V.heap.size=mo+3):=gh ⟨by omega,hmo,z4⟩;have B0:=gh b0;have B2:=gh b2;obtain ⟨Y,hYd⟩:∃ Y:Nat->Prop,Y=fun k=>X k/\k≠mo/\k≠mo+2:=⟨_,rfl⟩;have HYX:Hid (∀ k,Y k->X k):=gh (by rw [hYd];exact fun k h=>h.1);have HYM:Hid (¬ Y mo/\¬ Y (mo+2)):=gh (by rw [hYd];exact ⟨fun h=>h.2.1 rfl,fun h=>h.2.2 rfl⟩);have H:Hid (RunAt Y V r s):=gh ((h.to (Y:=Y) (by rw [hYd];exact fun k a b=>⟨a,by omega,by omega⟩)).kept kV);have HY:Hid (∀ k,V.heap.size<=k->Y k):=gh (by rw [hYd];exact fun k h=>⟨hX k (by omega),by omega,by omega⟩);have OK:=gh ho;have HE:=gh he;have f3':A3.heap[f]? = some (.cells (fm.cs tp) 65):=t3.heap (k2.heap f1 id) (fun e=>by omega);have c0:∀ o,(A3.alloc o).cell? ⟨f,0,none⟩=some (.int .i64 12):=fun o=>by have:=(frm_cells f3').1;rw [h24] at this;exact (Kept.alloc (Kept.refl A3) o).cell this id
 obtain ⟨a0',_⟩:=ag_cells y3;have a0:∀ o,(A3.alloc o).cell? ⟨mo+1,0,none⟩=some (.int .i64 fm.g.a):=fun o=>(Kept.alloc (Kept.refl A3) o).cell a0' id;have HCT:=gh (help_r V r s fm.g.a H.o ha0 ha1 sE HE.o);clear a0' f3' h ho hX he ha0 ha1 k1 k2 t3 k4 kV3 z1 z2 z3 z4 y0 y2 y3 hlt hft f1 f3 b0 b1 b2 kV hA1 hA2 hA3 hV hYd hf;go_enter Tryz.func103,Tryz.ntmps103;go_wp2_with (with_reducible refine at_load54 ?_);refine ⟨?_⟩;rw [HA1.o];refine wpList_load_mid rfl 54 _ rfl f 1 rfl fm.g.cs.toList _ RG.o Tryz.underlying54 rfl (by simpa [Ag.cs] using info54) ?_;go_wp2_with (with_reducible refine at_store54 ?_);refine ⟨?_⟩;rw [HA2.o,HS.o.1];refine wpList_store_row rfl 54 _ _ rfl (mo+1) fm.g.cs.toList.toArray rfl rfl 54 _ Y2.o (by simpa [Ag.cs] using info54) (by simp [Ag.cs]) (by simp [Ag.cs,Value.oneCell']) ?_;rw [show (fm.g.cs.toList.toArray)=fm.g.cs from by simp,HA3.o];have HS3:=HS.o.2.2;go_wp2_with (fail);clear HS3;rw [HV.o];refine HCT.o.mono ?_;rintro e U ⟨rfl,G⟩;have HG:=gh G;have u0:=G.2.heap B0.o (fun e=>by have:=HRM.o;omega);have u2:=G.2.heap B2.o (fun e=>by have:=HRM.o;omega);have U0:=gh u0;have U2:=gh u2;clear u0 u2 G c0 HCT a0;go_wp2_with (with_reducible refine at_load63 ?_);refine ⟨?_⟩;obtain ⟨U6,hU6⟩:∃ U6,U=U6:=⟨_,rfl⟩;have T6:Td (fun k=>k=mo+2) U U6:=by rw [<- hU6];exact Td.refl _ _
 have w2:U6.heap[mo+2]? = some (.cells #[.int .i64 0,.bool false,.int .i64 0,.int .i64 0,.int .i64 0,.slice none 0 0,.slice none 0 0,.int .i64 0,.bool false,.int .i64 0,.int .i64 0,.int .i64 0,.slice none 0 0] 63):=by
  rw [<- hU6];have hb:=U2.o;exact hb
 have w0:=T6.heap U0.o (fun e=>by omega);rw [hU6];clear hU6;refine wpList_load_row rfl 63 _ rfl (mo+2) rfl 63 _ _ _ w2 Tryz.underlying63 rfl info63 ?_;refine wpList_store_row rfl 63 _ _ rfl mo _ rfl rfl 63 _ w0 info63 rfl (by simp [Value.oneCell']) ?_;obtain ⟨U7,hU7⟩:∃ U7,U6.setRow mo #[.int .i64 0,.bool false,.int .i64 0,.int .i64 0,.int .i64 0,.slice none 0 0,.slice none 0 0,.int .i64 0,.bool false,.int .i64 0,.int .i64 0,.int .i64 0,.slice none 0 0]=U7:=⟨_,rfl⟩;rw [hU7];have w7:U7.heap[mo]? = some (.cells #[.int .i64 0,.bool false,.int .i64 0,.int .i64 0,.int .i64 0,.slice none 0 0,.slice none 0 0,.int .i64 0,.bool false,.int .i64 0,.int .i64 0,.int .i64 0,.slice none 0 0] 63):=by rw [<- hU7];exact setRow_heap U6 mo _ _ _ _ w0
 have T7:Td (fun k=>k=mo) U6 U7:=by rw [<- hU7];exact turned_setRow _ _ _
 have W7:=gh w7;clear w7 hU7 w0 w2;go_wp2;refine bodyPost_ret (results_cell_row rfl _ _ mo 63 _ _ _ rfl W7.o Tryz.underlying63 rfl info63) rfl ?_;refine ⟨rfl,((HG.o.1.above T6 (fun k h1 h2=>HYM.o.2 (h2 ▸ h1))).above T7 (fun k h1 h2=>HYM.o.1 (h2 ▸ h1))).to (fun k a _=>HYX.o k a),?_⟩;refine ((Kept.then KV.o HG.o.2).trans T6 (fun _ e=>e) (fun k hk e=>?_)).trans T7 (fun _ e=>e) (fun k hk e=>?_)
 ·have:=HRM.o;omega
 ·have:=HRM.o;omega
set_option maxRecDepth 100000 in
set_option maxHeartbeats 2000000 in
theorem low_13 (W:World) (f r:Nat) (fm:Fm) (tp:Sl) (s:Rn) (hf:W.heap[f]? = some (.cells (fm.cs tp) 65)) (h24:fm.proc=13) (h:RunAt X W r s) (ho:s.ok) (hX:∀ k,W.heap.size<=k->X k) (z:Int) (sE:Rn) (he:s.slot fm.g.a=(z,sE)) :
  Calls Tryz.prog 103 #[.pointer (some ⟨f,0,none⟩),.pointer (some ⟨r,0,none⟩)] W fun e W'=>e=.returned (.agg (Ou.cs { Ou.none with word:=z }))/\Ran X W r sE W':=by
 obtain ⟨A1,hA1⟩:∃ V,W.alloc (.cells #[.int .i64 0,.bool false,.int .i64 0,.int .i64 0,.int .i64 0,.slice none 0 0,.slice none 0 0,.int .i64 0,.bool false,.int .i64 0,.int .i64 0,.int .i64 0,.slice none 0 0] 63)=V:=⟨_,rfl⟩;obtain ⟨A2,hA2⟩:∃ V,A1.alloc (.cells #[.int .i64 0,.int .i64 0,.int .i64 0,.int .i64 0,.int .i64 0,.int .i64 0,.int .i64 0,.bool false,.int .i64 0,.bool false,.slice none 0 0,.slice none 0 0,.slice none 0 0,.slice none 0 0,.slice none 0 0,.int .i64 0,.int .i64 0,.int .i64 0,.int .i64 0,.int .i64 0,.int .i64 0] 54)=V:=⟨_,rfl⟩;obtain ⟨mo,hmo⟩:∃ m,W.heap.size=m:=⟨_,rfl⟩;obtain ⟨A3,hA3⟩:∃ V,A2.setRow (mo+1) fm.g.cs=V:=⟨_,rfl⟩;obtain ⟨V,hV⟩:∃ V,A3.alloc (.cells #[.int .i64 0,.bool false,.int .i64 0,.int .i64 0,.int .i64 0,.slice none 0 0,.slice none 0 0,.int .i64 0,.bool false,.int .i64 0,.int .i64 0,.int .i64 0,.slice none 0 0] 63)=V:=⟨_,rfl⟩;have k1:Kept W A1:=by rw [<- hA1];exact Td.alloc _ _ _
 have k2:Kept A1 A2:=by rw [<- hA2];exact Td.alloc _ _ _
 have t3:Td (fun k=>k=mo+1) A2 A3:=by rw [<- hA3];exact turned_setRow _ _ _
 have k4:Kept A3 V:=by rw [<- hV];exact Td.alloc _ _ _
 have z1:A1.heap.size=mo+1:=by rw [<- hA1,<- hmo];simp
 have z2:A2.heap.size=mo+2:=by rw [<- hA2];simp;omega
 have z3:A3.heap.size=mo+2:=by rw [<- hA3];simp;omega
 have z4:V.heap.size=mo+3:=by rw [<- hV];simp;omega
 have y2:A2.heap[mo+1]? = some (.cells #[.int .i64 0,.int .i64 0,.int .i64 0,.int .i64 0,.int .i64 0,.int .i64 0,.int .i64 0,.bool false,.int .i64 0,.bool false,.slice none 0 0,.slice none 0 0,.slice none 0 0,.slice none 0 0,.slice none 0 0,.int .i64 0,.int .i64 0,.int .i64 0,.int .i64 0,.int .i64 0,.int .i64 0] 54):=by rw [<- hA2,<- z1];exact heap_new _ _
 have y3:A3.heap[mo+1]? = some (.cells fm.g.cs 54):=by rw [<- hA3];exact setRow_heap A2 _ _ _ _ _ y2
 have hlt:=h.lt;have hft:=(Array.getElem?_eq_some_iff.1 hf).1;have f1:A1.heap[f]? = some (.cells (fm.cs tp) 65):=k1.heap hf id;have f3:V.heap[f]? = some (.cells (fm.cs tp) 65):=k4.heap (t3.heap (k2.heap f1 id) (fun e=>by omega)) id;have y0:A1.heap[mo]? = some (.cells #[.int .i64 0,.bool false,.int .i64 0,.int .i64 0,.int .i64 0,.slice none 0 0,.slice none 0 0,.int .i64 0,.bool false,.int .i64 0,.int .i64 0,.int .i64 0,.slice none 0 0] 63):=by rw [<- hA1,<- hmo];exact heap_new _ _
 have b0:V.heap[mo]? = some (.cells #[.int .i64 0,.bool false,.int .i64 0,.int .i64 0,.int .i64 0,.slice none 0 0,.slice none 0 0,.int .i64 0,.bool false,.int .i64 0,.int .i64 0,.int .i64 0,.slice none 0 0] 63):=k4.heap (t3.heap (k2.heap y0 id) (fun e=>by omega)) id;have b1:V.heap[mo+1]? = some (.cells fm.g.cs 54):=k4.heap y3 id;have b2:V.heap[mo+2]? = some (.cells #[.int .i64 0,.bool false,.int .i64 0,.int .i64 0,.int .i64 0,.slice none 0 0,.slice none 0 0,.int .i64 0,.bool false,.int .i64 0,.int .i64 0,.int .i64 0,.slice none 0 0] 63):=by rw [<- hV,<- z3];exact heap_new _ _
 have kV3:Kept W A3:=((k1.trans k2).then t3).mono (fun k hk e=>by omega);have kV:Kept W V:=kV3.trans k4;have RG:Hid (A1.rangeAt f 1 fm.g.cs.toList):=gh (by
  obtain ⟨_,g0,g1,g2,g3,g4,g5,g6,g7,g8,g9,g10,g11,g12,g13,g14,g15,g16,g17,g18,g19,g20,_,_,_,_,_,_,_,_,_,_,_,_,_,_,_,_,_,_⟩:=frm_cells f1;intro j v hv;have hj:j < 21:=by have:=(List.getElem?_eq_some_iff.1 hv).1;simpa [Ag.cs] using this
  rcases j with _ | _ | _ | _ | _ | _ | _ | _ | _ | _ | _ | _ | _ | _ | _ | _ | _ | _ | _ | _ | _ | j
  all_goals first | (simp [Ag.cs] at hv;subst hv;assumption) | omega)
 have KV:=gh kV;have HA1:=gh hA1;have HA2:=gh hA2;have HA3:=gh hA3;have HV:=gh hV;have HS:=gh (And.intro z1 (And.intro z2 z3));have Y2:=gh y2;have HRM:Hid (r < mo/\W.heap.size=mo/\V.heap.size=mo+3):=gh ⟨by omega,hmo,z4⟩;have B0:=gh b0;have B2:=gh b2;obtain ⟨Y,hYd⟩:∃ Y:Nat->Prop,Y=fun k=>X k/\k≠mo/\k≠mo+2:=⟨_,rfl⟩;have HYX:Hid (∀ k,Y k->X k):=gh (by rw [hYd];exact fun k h=>h.1);have HYM:Hid (¬ Y mo/\¬ Y (mo+2)):=gh (by rw [hYd];exact ⟨fun h=>h.2.1 rfl,fun h=>h.2.2 rfl⟩);have H:Hid (RunAt Y V r s):=gh ((h.to (Y:=Y) (by rw [hYd];exact fun k a b=>⟨a,by omega,by omega⟩)).kept kV);have HY:Hid (∀ k,V.heap.size<=k->Y k):=gh (by rw [hYd];exact fun k h=>⟨hX k (by omega),by omega,by omega⟩);have OK:=gh ho;have HE:=gh he;have f3':A3.heap[f]? = some (.cells (fm.cs tp) 65):=t3.heap (k2.heap f1 id) (fun e=>by omega);have c0:∀ o,(A3.alloc o).cell? ⟨f,0,none⟩=some (.int .i64 13):=fun o=>by have:=(frm_cells f3').1;rw [h24] at this;exact (Kept.alloc (Kept.refl A3) o).cell this id
 obtain ⟨a0',_⟩:=ag_cells y3;have a0:∀ o,(A3.alloc o).cell? ⟨mo+1,0,none⟩=some (.int .i64 fm.g.a):=fun o=>(Kept.alloc (Kept.refl A3) o).cell a0' id;have HCT:=gh (slot_r V r s fm.g.a H.o OK.o z sE HE.o);clear a0' f3' h ho hX he k1 k2 t3 k4 kV3 z1 z2 z3 z4 y0 y2 y3 hlt hft f1 f3 b0 b1 b2 kV hA1 hA2 hA3 hV hYd hf;go_enter Tryz.func103,Tryz.ntmps103;go_wp2_with (with_reducible refine at_load54 ?_);refine ⟨?_⟩;rw [HA1.o];refine wpList_load_mid rfl 54 _ rfl f 1 rfl fm.g.cs.toList _ RG.o Tryz.underlying54 rfl (by simpa [Ag.cs] using info54) ?_;go_wp2_with (with_reducible refine at_store54 ?_);refine ⟨?_⟩;rw [HA2.o,HS.o.1];refine wpList_store_row rfl 54 _ _ rfl (mo+1) fm.g.cs.toList.toArray rfl rfl 54 _ Y2.o (by simpa [Ag.cs] using info54) (by simp [Ag.cs]) (by simp [Ag.cs,Value.oneCell']) ?_;rw [show (fm.g.cs.toList.toArray)=fm.g.cs from by simp,HA3.o];have HS3:=HS.o.2.2;go_wp2_with (fail);clear HS3;rw [HV.o];refine HCT.o.mono ?_;rintro e U ⟨rfl,G⟩;have HG:=gh G;have u0:=G.2.heap B0.o (fun e=>by have:=HRM.o;omega);have u2:=G.2.heap B2.o (fun e=>by have:=HRM.o;omega);have U0:=gh u0;have U2:=gh u2;obtain ⟨d0,d1,d2,d3,d4,d5,d6,d7,d8,d9,d10,d11,d12,df⟩:=ou_cells (o:=Ou.none) u2;unfold Ou.none Sl.nil Rs.none at *;dsimp only at *;have f0':=df 0;clear u0 u2 df G c0 HCT a0 d1 d2 d3 d4 d5 d6 d7 d8 d9 d10 d11 d12;go_wp2_with (with_reducible refine at_load63 ?_);refine ⟨?_⟩;obtain ⟨U6,hU6⟩:∃ U6,U.setCell ⟨mo+2,0,none⟩ (.int .i64 z)=U6:=⟨_,rfl⟩;rw [hU6];have T6:Td (fun k=>k=mo+2) U U6:=by rw [<- hU6];exact Td.setCell (R:=fun k=>k=mo+2) _ _ _ rfl
 have w2:U6.heap[mo+2]? = some (.cells #[.int .i64 z,.bool false,.int .i64 0,.int .i64 0,.int .i64 0,.slice none 0 0,.slice none 0 0,.int .i64 0,.bool false,.int .i64 0,.int .i64 0,.int .i64 0,.slice none 0 0] 63):=by
  rw [<- hU6];have hb:=U2.o;simp [World.setCell,Array.getElem?_modify,hb]
 have w0:=T6.heap U0.o (fun e=>by omega);clear hU6;refine wpList_load_row rfl 63 _ rfl (mo+2) rfl 63 _ _ _ w2 Tryz.underlying63 rfl info63 ?_;refine wpList_store_row rfl 63 _ _ rfl mo _ rfl rfl 63 _ w0 info63 rfl (by simp [Value.oneCell']) ?_;obtain ⟨U7,hU7⟩:∃ U7,U6.setRow mo #[.int .i64 z,.bool false,.int .i64 0,.int .i64 0,.int .i64 0,.slice none 0 0,.slice none 0 0,.int .i64 0,.bool false,.int .i64 0,.int .i64 0,.int .i64 0,.slice none 0 0]=U7:=⟨_,rfl⟩;rw [hU7];have w7:U7.heap[mo]? = some (.cells #[.int .i64 z,.bool false,.int .i64 0,.int .i64 0,.int .i64 0,.slice none 0 0,.slice none 0 0,.int .i64 0,.bool false,.int .i64 0,.int .i64 0,.int .i64 0,.slice none 0 0] 63):=by rw [<- hU7];exact setRow_heap U6 mo _ _ _ _ w0
 have T7:Td (fun k=>k=mo) U6 U7:=by rw [<- hU7];exact turned_setRow _ _ _
 have W7:=gh w7;clear w7 hU7 w0 w2;go_wp2;refine bodyPost_ret (results_cell_row rfl _ _ mo 63 _ _ _ rfl W7.o Tryz.underlying63 rfl info63) rfl ?_;refine ⟨rfl,((HG.o.1.above T6 (fun k h1 h2=>HYM.o.2 (h2 ▸ h1))).above T7 (fun k h1 h2=>HYM.o.1 (h2 ▸ h1))).to (fun k a _=>HYX.o k a),?_⟩;refine ((Kept.then KV.o HG.o.2).trans T6 (fun _ e=>e) (fun k hk e=>?_)).trans T7 (fun _ e=>e) (fun k hk e=>?_)
 ·have:=HRM.o;omega
 ·have:=HRM.o;omega
set_option maxRecDepth 100000 in
set_option maxHeartbeats 2000000 in
theorem low_14 (W:World) (f r:Nat) (fm:Fm) (tp:Sl) (s:Rn) (hf:W.heap[f]? = some (.cells (fm.cs tp) 65)) (h24:fm.proc=14) (h:RunAt X W r s) (hX:∀ k,W.heap.size<=k->X k) (z:Int) (sE:Rn) (he:s.dcss fm.g.a fm.g.b fm.g.p fm.g.q=(z,sE)) :
  Calls Tryz.prog 103 #[.pointer (some ⟨f,0,none⟩),.pointer (some ⟨r,0,none⟩)] W fun e W'=>e=.returned (.agg (Ou.cs { Ou.none with n:=z }))/\Ran X W r sE W':=by
 obtain ⟨A1,hA1⟩:∃ V,W.alloc (.cells #[.int .i64 0,.bool false,.int .i64 0,.int .i64 0,.int .i64 0,.slice none 0 0,.slice none 0 0,.int .i64 0,.bool false,.int .i64 0,.int .i64 0,.int .i64 0,.slice none 0 0] 63)=V:=⟨_,rfl⟩;obtain ⟨A2,hA2⟩:∃ V,A1.alloc (.cells #[.int .i64 0,.int .i64 0,.int .i64 0,.int .i64 0,.int .i64 0,.int .i64 0,.int .i64 0,.bool false,.int .i64 0,.bool false,.slice none 0 0,.slice none 0 0,.slice none 0 0,.slice none 0 0,.slice none 0 0,.int .i64 0,.int .i64 0,.int .i64 0,.int .i64 0,.int .i64 0,.int .i64 0] 54)=V:=⟨_,rfl⟩;obtain ⟨mo,hmo⟩:∃ m,W.heap.size=m:=⟨_,rfl⟩;obtain ⟨A3,hA3⟩:∃ V,A2.setRow (mo+1) fm.g.cs=V:=⟨_,rfl⟩;obtain ⟨V,hV⟩:∃ V,A3.alloc (.cells #[.int .i64 0,.bool false,.int .i64 0,.int .i64 0,.int .i64 0,.slice none 0 0,.slice none 0 0,.int .i64 0,.bool false,.int .i64 0,.int .i64 0,.int .i64 0,.slice none 0 0] 63)=V:=⟨_,rfl⟩;have k1:Kept W A1:=by rw [<- hA1];exact Td.alloc _ _ _
 have k2:Kept A1 A2:=by rw [<- hA2];exact Td.alloc _ _ _
 have t3:Td (fun k=>k=mo+1) A2 A3:=by rw [<- hA3];exact turned_setRow _ _ _
 have k4:Kept A3 V:=by rw [<- hV];exact Td.alloc _ _ _
 have z1:A1.heap.size=mo+1:=by rw [<- hA1,<- hmo];simp
 have z2:A2.heap.size=mo+2:=by rw [<- hA2];simp;omega
 have z3:A3.heap.size=mo+2:=by rw [<- hA3];simp;omega
 have z4:V.heap.size=mo+3:=by rw [<- hV];simp;omega
 have y2:A2.heap[mo+1]? = some (.cells #[.int .i64 0,.int .i64 0,.int .i64 0,.int .i64 0,.int .i64 0,.int .i64 0,.int .i64 0,.bool false,.int .i64 0,.bool false,.slice none 0 0,.slice none 0 0,.slice none 0 0,.slice none 0 0,.slice none 0 0,.int .i64 0,.int .i64 0,.int .i64 0,.int .i64 0,.int .i64 0,.int .i64 0] 54):=by rw [<- hA2,<- z1];exact heap_new _ _
 have y3:A3.heap[mo+1]? = some (.cells fm.g.cs 54):=by rw [<- hA3];exact setRow_heap A2 _ _ _ _ _ y2
 have hlt:=h.lt;have hft:=(Array.getElem?_eq_some_iff.1 hf).1;have f1:A1.heap[f]? = some (.cells (fm.cs tp) 65):=k1.heap hf id;have f3:V.heap[f]? = some (.cells (fm.cs tp) 65):=k4.heap (t3.heap (k2.heap f1 id) (fun e=>by omega)) id;have y0:A1.heap[mo]? = some (.cells #[.int .i64 0,.bool false,.int .i64 0,.int .i64 0,.int .i64 0,.slice none 0 0,.slice none 0 0,.int .i64 0,.bool false,.int .i64 0,.int .i64 0,.int .i64 0,.slice none 0 0] 63):=by rw [<- hA1,<- hmo];exact heap_new _ _
 have b0:V.heap[mo]? = some (.cells #[.int .i64 0,.bool false,.int .i64 0,.int .i64 0,.int .i64 0,.slice none 0 0,.slice none 0 0,.int .i64 0,.bool false,.int .i64 0,.int .i64 0,.int .i64 0,.slice none 0 0] 63):=k4.heap (t3.heap (k2.heap y0 id) (fun e=>by omega)) id;have b1:V.heap[mo+1]? = some (.cells fm.g.cs 54):=k4.heap y3 id;have b2:V.heap[mo+2]? = some (.cells #[.int .i64 0,.bool false,.int .i64 0,.int .i64 0,.int .i64 0,.slice none 0 0,.slice none 0 0,.int .i64 0,.bool false,.int .i64 0,.int .i64 0,.int .i64 0,.slice none 0 0] 63):=by rw [<- hV,<- z3];exact heap_new _ _
 have kV3:Kept W A3:=((k1.trans k2).then t3).mono (fun k hk e=>by omega);have kV:Kept W V:=kV3.trans k4;have RG:Hid (A1.rangeAt f 1 fm.g.cs.toList):=gh (by
  obtain ⟨_,g0,g1,g2,g3,g4,g5,g6,g7,g8,g9,g10,g11,g12,g13,g14,g15,g16,g17,g18,g19,g20,_,_,_,_,_,_,_,_,_,_,_,_,_,_,_,_,_,_⟩:=frm_cells f1;intro j v hv;have hj:j < 21:=by have:=(List.getElem?_eq_some_iff.1 hv).1;simpa [Ag.cs] using this
  rcases j with _ | _ | _ | _ | _ | _ | _ | _ | _ | _ | _ | _ | _ | _ | _ | _ | _ | _ | _ | _ | _ | j
  all_goals first | (simp [Ag.cs] at hv;subst hv;assumption) | omega)
 have KV:=gh kV;have HA1:=gh hA1;have HA2:=gh hA2;have HA3:=gh hA3;have HV:=gh hV;have HS:=gh (And.intro z1 (And.intro z2 z3));have Y2:=gh y2;have HRM:Hid (r < mo/\W.heap.size=mo/\V.heap.size=mo+3):=gh ⟨by omega,hmo,z4⟩;have B0:=gh b0;have B2:=gh b2;obtain ⟨Y,hYd⟩:∃ Y:Nat->Prop,Y=fun k=>X k/\k≠mo/\k≠mo+2:=⟨_,rfl⟩;have HYX:Hid (∀ k,Y k->X k):=gh (by rw [hYd];exact fun k h=>h.1);have HYM:Hid (¬ Y mo/\¬ Y (mo+2)):=gh (by rw [hYd];exact ⟨fun h=>h.2.1 rfl,fun h=>h.2.2 rfl⟩);have H:Hid (RunAt Y V r s):=gh ((h.to (Y:=Y) (by rw [hYd];exact fun k a b=>⟨a,by omega,by omega⟩)).kept kV);have HY:Hid (∀ k,V.heap.size<=k->Y k):=gh (by rw [hYd];exact fun k h=>⟨hX k (by omega),by omega,by omega⟩);have HE:=gh he;have f3':A3.heap[f]? = some (.cells (fm.cs tp) 65):=t3.heap (k2.heap f1 id) (fun e=>by omega);have c0:∀ o,(A3.alloc o).cell? ⟨f,0,none⟩=some (.int .i64 14):=fun o=>by have:=(frm_cells f3').1;rw [h24] at this;exact (Kept.alloc (Kept.refl A3) o).cell this id
 obtain ⟨a0',a1',_,a3',a4',_⟩:=ag_cells y3;have a0:∀ o,(A3.alloc o).cell? ⟨mo+1,0,none⟩=some (.int .i64 fm.g.a):=fun o=>(Kept.alloc (Kept.refl A3) o).cell a0' id;have a1:∀ o,(A3.alloc o).cell? ⟨mo+1,1,none⟩=some (.int .i64 fm.g.b):=fun o=>(Kept.alloc (Kept.refl A3) o).cell a1' id;have a3:∀ o,(A3.alloc o).cell? ⟨mo+1,3,none⟩=some (.int .i64 fm.g.p):=fun o=>(Kept.alloc (Kept.refl A3) o).cell a3' id;have a4:∀ o,(A3.alloc o).cell? ⟨mo+1,4,none⟩=some (.int .i64 fm.g.q):=fun o=>(Kept.alloc (Kept.refl A3) o).cell a4' id;have HCT:=gh (dcss_r V r s fm.g.a fm.g.b fm.g.p fm.g.q H.o HY.o z sE HE.o);clear a0' a1' a3' a4' f3' h hX he k1 k2 t3 k4 kV3 z1 z2 z3 z4 y0 y2 y3 hlt hft f1 f3 b0 b1 b2 kV hA1 hA2 hA3 hV hYd hf;go_enter Tryz.func103,Tryz.ntmps103;go_wp2_with (with_reducible refine at_load54 ?_);refine ⟨?_⟩;rw [HA1.o];refine wpList_load_mid rfl 54 _ rfl f 1 rfl fm.g.cs.toList _ RG.o Tryz.underlying54 rfl (by simpa [Ag.cs] using info54) ?_;go_wp2_with (with_reducible refine at_store54 ?_);refine ⟨?_⟩;rw [HA2.o,HS.o.1];refine wpList_store_row rfl 54 _ _ rfl (mo+1) fm.g.cs.toList.toArray rfl rfl 54 _ Y2.o (by simpa [Ag.cs] using info54) (by simp [Ag.cs]) (by simp [Ag.cs,Value.oneCell']) ?_;rw [show (fm.g.cs.toList.toArray)=fm.g.cs from by simp,HA3.o];have HS3:=HS.o.2.2;go_wp2_with (fail);clear HS3;rw [HV.o];refine HCT.o.mono ?_;rintro e U ⟨rfl,G⟩;have HG:=gh G;have u0:=G.2.heap B0.o (fun e=>by have:=HRM.o;omega);have u2:=G.2.heap B2.o (fun e=>by have:=HRM.o;omega);have U0:=gh u0;have U2:=gh u2;obtain ⟨d0,d1,d2,d3,d4,d5,d6,d7,d8,d9,d10,d11,d12,df⟩:=ou_cells (o:=Ou.none) u2;unfold Ou.none Sl.nil Rs.none at *;dsimp only at *;have f2':=df 2;clear u0 u2 df G c0 HCT a0 a1 a3 a4 d0 d1 d3 d4 d5 d6 d7 d8 d9 d10 d11 d12;go_wp2_with (with_reducible refine at_load63 ?_);refine ⟨?_⟩;obtain ⟨U6,hU6⟩:∃ U6,U.setCell ⟨mo+2,2,none⟩ (.int .i64 z)=U6:=⟨_,rfl⟩;rw [hU6];have T6:Td (fun k=>k=mo+2) U U6:=by rw [<- hU6];exact Td.setCell (R:=fun k=>k=mo+2) _ _ _ rfl
 have w2:U6.heap[mo+2]? = some (.cells #[.int .i64 0,.bool false,.int .i64 z,.int .i64 0,.int .i64 0,.slice none 0 0,.slice none 0 0,.int .i64 0,.bool false,.int .i64 0,.int .i64 0,.int .i64 0,.slice none 0 0] 63):=by
  rw [<- hU6];have hb:=U2.o;simp [World.setCell,Array.getElem?_modify,hb]
 have w0:=T6.heap U0.o (fun e=>by omega);clear hU6;refine wpList_load_row rfl 63 _ rfl (mo+2) rfl 63 _ _ _ w2 Tryz.underlying63 rfl info63 ?_;refine wpList_store_row rfl 63 _ _ rfl mo _ rfl rfl 63 _ w0 info63 rfl (by simp [Value.oneCell']) ?_;obtain ⟨U7,hU7⟩:∃ U7,U6.setRow mo #[.int .i64 0,.bool false,.int .i64 z,.int .i64 0,.int .i64 0,.slice none 0 0,.slice none 0 0,.int .i64 0,.bool false,.int .i64 0,.int .i64 0,.int .i64 0,.slice none 0 0]=U7:=⟨_,rfl⟩;rw [hU7];have w7:U7.heap[mo]? = some (.cells #[.int .i64 0,.bool false,.int .i64 z,.int .i64 0,.int .i64 0,.slice none 0 0,.slice none 0 0,.int .i64 0,.bool false,.int .i64 0,.int .i64 0,.int .i64 0,.slice none 0 0] 63):=by rw [<- hU7];exact setRow_heap U6 mo _ _ _ _ w0
 have T7:Td (fun k=>k=mo) U6 U7:=by rw [<- hU7];exact turned_setRow _ _ _
 have W7:=gh w7;clear w7 hU7 w0 w2;go_wp2;refine bodyPost_ret (results_cell_row rfl _ _ mo 63 _ _ _ rfl W7.o Tryz.underlying63 rfl info63) rfl ?_;refine ⟨rfl,((HG.o.1.above T6 (fun k h1 h2=>HYM.o.2 (h2 ▸ h1))).above T7 (fun k h1 h2=>HYM.o.1 (h2 ▸ h1))).to (fun k a _=>HYX.o k a),?_⟩;refine ((Kept.then KV.o HG.o.2).trans T6 (fun _ e=>e) (fun k hk e=>?_)).trans T7 (fun _ e=>e) (fun k hk e=>?_)
 ·have:=HRM.o;omega
 ·have:=HRM.o;omega
end
section
open Go.Shelf
variable {X:Nat->Prop} {lo:Nat}
def IsLow (pc a:Int):Prop:=(pc=11∨pc=12∨pc=13∨pc=14)/\(pc=12->0<=a/\a<=65536)
def lowP (pc a b p q:Int) (s:Rn):Int × Rn:=if pc=11 then s.peek a else if pc=12 then (0,s.help a) else if pc=13 then s.slot a else s.dcss a b p q
def lowO (pc z:Int):Ou:=if pc=14 then { Ou.none with n:=z } else { Ou.none with word:=z }
theorem low_c (W:World) (f r:Nat) (fm:Fm) (tp:Sl) (s:Rn) (hf:W.heap[f]? = some (.cells (fm.cs tp) 65)) (hg:IsLow fm.proc fm.g.a) (h:RunAt X W r s) (ho:s.ok) (hX:∀ k,W.heap.size<=k->X k) (z:Int) (sE:Rn) (he:lowP fm.proc fm.g.a fm.g.b fm.g.p fm.g.q s=(z,sE)) :
  Calls Tryz.prog 103 #[.pointer (some ⟨f,0,none⟩),.pointer (some ⟨r,0,none⟩)] W fun e W'=>e=.returned (.agg (Ou.cs (lowO fm.proc z)))/\Ran X W r sE W':=by
 unfold lowP at he;unfold lowO;rcases hg.1 with e | e | e | e
 ·rw [if_pos e] at he;rw [if_neg (by rw [e];decide)];exact low_11 W f r fm tp s hf e h ho hX z sE he
 ·rw [if_neg (by rw [e];decide),if_pos e] at he;rw [if_neg (by rw [e];decide)];obtain ⟨rfl,e2⟩:=Prod.mk.inj he;exact low_12 W f r fm tp s hf e h ho hX (hg.2 e).1 (hg.2 e).2 sE e2
 ·rw [if_neg (by rw [e];decide),if_neg (by rw [e];decide),if_pos e] at he;rw [if_neg (by rw [e];decide)];exact low_13 W f r fm tp s hf e h ho hX z sE he
 ·rw [if_neg (by rw [e];decide),if_neg (by rw [e];decide),if_neg (by rw [e];decide)] at he;rw [if_pos e];exact low_14 W f r fm tp s hf e h hX z sE he
structure PlayedLo (W:World) (tp:Sl) (r:Nat) (s':Rn) (W':World):Prop where
 run:RunAt (Keeps W tp) W' r s'
 kept:Kept W W'
 new:W.heap.size<=r
set_option maxRecDepth 100000 in
set_option maxHeartbeats 2000000 in
theorem play_lo (W:World) (f:Nat) (fm:Fm) (tp:Sl) (tape:List Int) (hf:W.heap[f]? = some (.cells (fm.cs tp) 65)) (hg:IsLow fm.proc fm.g.a) (hr:Reads W tp.a tape) (hn:tape.length=tp.n) (hc:tp.n<=tp.c) (hm:tp.n<=16000) (hb:∀ a,tp.a=some a->a.block < W.heap.size) (hi:∀ z ∈ tape,I64 z) (z:Int) (sE:Rn) (he:lowP fm.proc fm.g.a fm.g.b fm.g.p fm.g.q (Rn.start tape)=(z,sE)) :
  Calls Tryz.prog 66 #[.pointer (some ⟨f,0,none⟩)] W fun e W'=>∃ r:Nat,e=.returned (.tuple #[.pointer (some ⟨r,0,none⟩),.agg (Ou.cs (lowO fm.proc z))])/\PlayedLo W tp r sE W':=by
 obtain ⟨V,hV⟩:∃ V,(W.alloc (.cells #[.int .i64 0,.bool false,.int .i64 0,.int .i64 0,.int .i64 0,.slice none 0 0,.slice none 0 0,.int .i64 0,.bool false,.int .i64 0,.int .i64 0,.int .i64 0,.slice none 0 0] 63)).alloc (.cells #[.slice tp.a tp.n tp.c,.int .i64 0,.bool false,.int .i64 0,.int .i64 0,.int .i64 0,.int .i64 0,.slice none 0 0,.int .i64 0,.int .i64 0] 116)=V:=⟨_,rfl⟩;obtain ⟨mo,hmo⟩:∃ m,W.heap.size=m:=⟨_,rfl⟩;have kV:Kept W V:=by rw [<- hV];exact (Kept.alloc (Kept.refl W) _).alloc _
 have b0:V.heap[mo]? = some (.cells #[.int .i64 0,.bool false,.int .i64 0,.int .i64 0,.int .i64 0,.slice none 0 0,.slice none 0 0,.int .i64 0,.bool false,.int .i64 0,.int .i64 0,.int .i64 0,.slice none 0 0] 63):=by
  rw [<- hV,<- hmo];exact (Td.alloc (fun _=>False) (W.alloc _) _).heap (heap_new _ _) id
 have b1:V.heap[mo+1]? = some (.cells #[.slice tp.a tp.n tp.c,.int .i64 0,.bool false,.int .i64 0,.int .i64 0,.int .i64 0,.int .i64 0,.slice none 0 0,.int .i64 0,.int .i64 0] 116):=by
  rw [<- hV,<- hmo];exact heap_alloc2_new _ _ _
 have zz:V.heap.size=mo+2:=by rw [<- hV,<- hmo];simp
 have hft:=(Array.getElem?_eq_some_iff.1 hf).1;have fV:V.heap[f]? = some (.cells (fm.cs tp) 65):=kV.heap hf id;obtain ⟨Y,hYd⟩:∃ Y:Nat->Prop,Y=fun k=>Keeps W tp k/\k≠mo:=⟨_,rfl⟩;have hRun:RunAt Y V (mo+1) (Rn.start tape):=by
  refine ⟨tp.a,tp.c,none,0,?_,⟨hr.kept kV,fun a e=>⟨⟨?_,?_⟩,?_⟩,(by show tape.length<=maxLen;unfold maxLen;omega)⟩,?_,⟨.inl rfl,(fun _ e=>by cases e),(by simp [Rn.start])⟩,?_,?_,?_⟩
  ·rw [b1]
   have:tape.length=tp.n:=hn
   simp [runCells,Rn.start,this]
  ·rw [hYd];exact ⟨.inl ⟨a,e,rfl⟩,by have:=hb a e;omega⟩
  ·have:=hb a e;omega
  ·have:=hb a e;omega
  ·show tape.length<=tp.c;omega
  ·show 0<=tape.length;omega
  ·show tape.length<=1000000;omega
  ·rw [hYd];exact ⟨.inr (by omega),by omega⟩
 have H:=gh hRun;have KV:=gh kV;have HV:=gh hV;have B0:=gh b0;have HRM:Hid (W.heap.size=mo/\V.heap.size=mo+2):=gh ⟨hmo,zz⟩;have HYX:Hid (∀ k,Y k->Keeps W tp k):=gh (by rw [hYd];exact fun k h=>h.1);have HYM:Hid (¬ Y mo):=gh (by rw [hYd];exact fun h=>h.2 rfl);have HY:∀ k,V.heap.size<=k->Y k:=by rw [hYd];exact fun k h=>⟨.inr (by omega),by omega⟩
 have ok:(Rn.start tape).ok:=hi;obtain ⟨pz,hpz⟩:∃ pz,fm.proc=pz:=⟨_,rfl⟩;have CT:=low_c V f (mo+1) fm tp (Rn.start tape) fV hg hRun ok HY z sE he;have HCT:=gh CT;have p0:pz<=16:=by have:=hg.1;omega
 have q1:decide (pz<=16)=true:=by simp;exact p0
 have c0:∀ o o',((W.alloc o).alloc o').cell? ⟨f,0,none⟩=some (.int .i64 pz):=fun o o'=>by have:=(frm_cells hf).1;rw [hpz] at this;exact ((Kept.alloc (Kept.refl W) o).alloc o').cell this id
 have c22:∀ o,(W.alloc o).cell? ⟨f,22,none⟩=some (.slice tp.a tp.n tp.c):=fun o=>by
  obtain ⟨_,_,_,_,_,_,_,_,_,_,_,_,_,_,_,_,_,_,_,_,_,_,h22,_⟩:=frm_cells hf;exact (Kept.alloc (Kept.refl W) o).cell h22 id
 clear hf hg hr hn hc hm hb hi he kV b0 b1 zz hft fV hYd hRun HY ok hpz CT hV;go_enter Tryz.func66,Tryz.ntmps66;go_wp2_with (fail);rw [HV.o];refine HCT.o.mono ?_;rintro e U ⟨rfl,G⟩;have HG:=gh G;have u0:=gh (G.2.heap B0.o (fun e=>by omega));clear G HCT c0 c22;go_wp2_with (with_reducible refine at_store63 ?_);refine ⟨?_⟩;refine wpList_store_row rfl 63 _ _ rfl mo _ rfl rfl 63 _ u0.o info63 rfl (by simp [Ou.cs,Value.oneCell']) ?_;obtain ⟨U7,hU7⟩:∃ U7,U.setRow mo (Ou.cs (lowO fm.proc z))=U7:=⟨_,rfl⟩;rw [hU7];have w7:Hid (U7.heap[mo]? = some (.cells (Ou.cs (lowO fm.proc z)) 63)):=gh (by rw [<- hU7];exact setRow_heap U mo _ _ _ _ u0.o);have T7:Hid (Td (fun k=>k=mo) U U7):=gh (by rw [<- hU7];exact turned_setRow _ _ _);clear hU7;go_wp2;refine bodyPost_ret (results_tmp_cell rfl _ _ mo 63 _ _ _ rfl w7.o Tryz.underlying63 rfl info63) rfl ?_;refine ⟨mo+1,rfl,?_,?_,?_⟩
 ·exact (HG.o.1.above T7.o (fun k h1 h2=>HYM.o (h2 ▸ h1))).to (fun k a _=>HYX.o k a)
 ·have t1:Td (fun k=>k=mo∨k=mo+1) W U7:=(KV.o.then HG.o.2).trans T7.o (fun _ e=>.inr e) (fun _ _ e=>.inl e);exact t1.mono (fun k hk e=>by have:=HRM.o;omega)
 ·have:=HRM.o;omega
end
section
open Go.Shelf
variable {X:Nat->Prop} {lo:Nat}
structure Lp where
 pc:Int
 a:Int
 b:Int
 p:Int
 q:Int
 tape:List Int
 done:Bool
 w:Int
 rc:Int
 ld:Int
namespace Lp
def fm (p:Lp):Fm:=⟨p.pc,⟨p.a,p.b,0,p.p,p.q,0,0,false,0,false,Sl.nil,Sl.nil,Sl.nil,Sl.nil,Sl.nil,0,0,0,0,0,0⟩,p.done,lowO p.pc p.w,p.rc,p.ld⟩
def play (p:Lp):Int × Rn:=lowP p.pc p.a p.b p.p p.q (Rn.start p.tape)
def settle (p:Lp):Lp:=
 if p.play.2.off=true then { p with rc:=p.play.2.rc,ld:=p.play.2.ld }
 else { p with rc:=p.play.2.rc,ld:=p.play.2.ld,done:=true,w:=p.play.1 }
end Lp
structure LrIs (W:World) (n₀ f:Nat) (p:Lp) (tp:Sl):Prop where
 le:n₀<=f
 box:W.heap[f]? = some (.cells (p.fm.cs tp) 65)
 row:Row W n₀ 2 tp.v p.tape
 good:IsLow p.pc p.a
 i64:∀ z ∈ p.tape,I64 z
theorem LrIs.tape {W:World} {n₀ f:Nat} {p:Lp} {tp:Sl} (h:LrIs W n₀ f p tp):Reads W tp.a p.tape/\p.tape.length=tp.n/\tp.n<=tp.c/\∀ a,tp.a=some a->a.block < W.heap.size/\n₀<=a.block:=by
 obtain ⟨a,cap,e,hr,_⟩:=h.row.form;obtain ⟨e1,e2,e3⟩:=Sl.form e;have hr':=h.row;refine ⟨by rw [e1];exact hr,e2.symm,?_,?_⟩
 ·rcases hr'.2 with ⟨e',h0⟩ | ⟨g,cap',cur,e',hg,hh,hc,hm,_⟩
  ·rw [e'] at e;simp at e;omega
  ·rw [e'] at e;simp at e;omega
 ·intro ad ha
  have:=hr'.lt ad.block (by unfold Sl.v;rw [ha];simp [Value.ownBlock])
  exact ⟨this.2,this.1⟩
theorem LrIs.put {W W':World} {n₀ f:Nat} {p p':Lp} {tp:Sl} (h:LrIs W n₀ f p tp) (t:Td (fun k=>k=f) W W') (hb:W'.heap[f]? = some (.cells (p'.fm.cs tp) 65)) (e:p'.tape=p.tape) (hg:IsLow p'.pc p'.a):LrIs W' n₀ f p' tp:=
 ⟨h.le,hb,by rw [e];exact h.row.turnedO t (fun g he=>h.row.apart h.box (by decide) g he),hg,by rw [e];exact h.i64⟩
set_option maxRecDepth 100000 in
set_option maxHeartbeats 2000000 in
theorem lsettle_r (W:World) (n₀ f:Nat) (p:Lp) (tp:Sl) (h:LrIs W n₀ f p tp) (hn:n₀<=W.heap.size) (hm:p.tape.length<=16000) :
  Calls Tryz.prog 55 #[.pointer (some ⟨f,0,none⟩)] W fun e W'=>e=.returned (.tuple #[])/\LrIs W' n₀ f p.settle tp/\Td (fun k=>k=f) W W':=by
 obtain ⟨hr,hn',hc,hb⟩:=h.tape;obtain ⟨x,sE,hp⟩:∃ x sE,p.play=(x,sE):=⟨_,_,rfl⟩;have CT:=play_lo W f p.fm tp p.tape h.box h.good hr hn' hc (by omega) (fun a e=>(hb a e).1) h.i64 x sE hp;rw [show p.fm.proc=p.pc from rfl] at CT;have H:=gh h;have HN:=gh hn;have HCT:=gh CT;have HP:=gh hp;clear h hr hn' hc hb hm CT hp;go_enter Tryz.func55,Tryz.ntmps55;go_wp2_with (fail);refine HCT.o.mono ?_;rintro e W1 ⟨r,rfl,PL⟩;have HPL:=gh PL;have fW1:=gh (PL.kept.heap H.o.box id);have hft:f < W.heap.size:=(Array.getElem?_eq_some_iff.1 H.o.box).1;have HRF:Hid (r≠f/\f < W1.heap.size):=gh ⟨by have:=PL.new;omega,Nat.lt_of_lt_of_le hft PL.kept.size⟩;obtain ⟨W3,hW3⟩:∃ W3,(W1.alloc (.cells #[.int .i64 0,.bool false,.int .i64 0,.int .i64 0,.int .i64 0,.slice none 0 0,.slice none 0 0,.int .i64 0,.bool false,.int .i64 0,.int .i64 0,.int .i64 0,.slice none 0 0] 63)).setRow W1.heap.size (Ou.cs (lowO p.pc x))=W3:=⟨_,rfl⟩;have k3:Kept W1 W3:=by
  rw [<- hW3];exact (Kept.then (Td.alloc (fun _=>False) W1 _) (turned_setRow _ _ _)).mono (fun k hk e=>by omega)
 have m3:Hid (W3.heap[W1.heap.size]? = some (.cells (Ou.cs (lowO p.pc x)) 63)):=gh (by rw [<- hW3];exact setRow_heap _ _ _ _ _ _ (heap_new _ _));have K3:=gh k3;have fW3:=gh (k3.heap fW1.o id);have HW3:=gh hW3;have run3:=gh (PL.run.kept k3);have r2:=run3.o.offs;obtain ⟨r8,r9,_⟩:=run3.o.notes;obtain ⟨rc,hrc⟩:∃ rc,sE.rc=rc:=⟨_,rfl⟩;obtain ⟨ld,hld⟩:∃ ld,sE.ld=ld:=⟨_,rfl⟩;rw [hrc] at r8;rw [hld] at r9;have HRC:=gh hrc;have HLD:=gh hld;have y37:W3.cell? ⟨f,37,none⟩=some (.int .i64 p.rc)/\W3.cell? ⟨f,38,none⟩=some (.int .i64 p.ld)/\W3.cell? ⟨f,23,none⟩=some (.bool p.done)/\∀ i,W3.frozen? ⟨f,i,none⟩=false:=by
  have hb:=fW3.o;refine ⟨?_,?_,?_,?_⟩ <;> simp [World.cell?,World.frozen?,hb,Fm.cs,Lp.fm]
 obtain ⟨c37,c38,c23,cf⟩:=y37;have f37:=cf 37;have f38:=cf 38;have f23:=cf 23;have hne:=HRF.o.1;have hne':f≠r:=Ne.symm hne;clear PL hW3 k3 hrc hld HCT hft cf;go_wp2_with (with_reducible refine at_store63 ?_);refine ⟨?_⟩;refine wpList_store_row rfl 63 _ _ rfl W1.heap.size _ rfl rfl 63 _ (heap_new _ _) info63 rfl (by simp [Ou.cs,Value.oneCell']) ?_;rw [HW3.o];cases hof:sE.off with
 | true=>
  rw [hof] at r2;have HOF:=gh hof;clear hof;go_wp2
  go_end0
  have fb:=fW3.o;have HT:Td (fun k=>k=f) W ((W3.setCell ⟨f,37,none⟩ (.int .i64 rc)).setCell ⟨f,38,none⟩ (.int .i64 ld)):=(HPL.o.kept.trans K3.o).then ((Td.setCell (R:=fun k=>k=f) _ _ _ rfl).trans (Td.setCell (R:=fun k=>k=f) _ _ _ rfl) (fun _ e=>e) (fun _ _ e=>e));have es:p.settle={ p with rc:=rc,ld:=ld }:=by
   unfold Lp.settle;rw [HP.o];dsimp only;rw [if_pos HOF.o,HRC.o,HLD.o]
  refine ⟨rfl,?_,HT⟩;rw [es];refine H.o.put HT ?_ rfl H.o.good;simp [World.setCell,Array.getElem?_modify,fb,Fm.cs,Lp.fm]
 | false=>
  rw [hof] at r2;have HOF:=gh hof;clear hof;go_wp2_with (with_reducible refine at_load63 ?_);refine ⟨?_⟩;obtain ⟨W5,hW5⟩:∃ W5,((W3.setCell ⟨f,37,none⟩ (.int .i64 rc)).setCell ⟨f,38,none⟩ (.int .i64 ld)).setCell ⟨f,23,none⟩ (.bool true)=W5:=⟨_,rfl⟩;rw [hW5];have T5:Td (fun k=>k=f) W3 W5:=by
   rw [<- hW5];exact (Td.setCell (R:=fun k=>k=f) _ _ _ rfl).trans ((Td.setCell (R:=fun k=>k=f) _ _ _ rfl).trans (Td.setCell (R:=fun k=>k=f) _ _ _ rfl) (fun _ e=>e) (fun _ _ e=>e)) (fun _ e=>e) (fun _ _ e=>e)
  have fb:=fW3.o;have f5:W5.heap[f]? = some (.cells (({ p with rc:=rc,ld:=ld,done:=true }:Lp).fm.cs tp) 65):=by
   rw [<- hW5];simp [World.setCell,Array.getElem?_modify,fb,Fm.cs,Lp.fm]
  have m5:=T5.heap m3.o (fun e=>by have:=HRF.o.2;omega);clear hW5 fb r2 r8 r9 c37 c38 c23 f37 f38 f23;have th:W5.there f 24 (Ou.cs (lowO p.pc x)).size:=by
   intro j hj;have hj':j < 13:=by simpa [Ou.cs] using hj
   have hs:24+j < (({ p with rc:=rc,ld:=ld,done:=true }:Lp).fm.cs tp).size:=by simp [Fm.cs];omega
   simp [World.cell?,World.frozen?,f5,Array.getElem?_eq_getElem hs]
  refine wpList_load_row rfl 63 _ rfl W1.heap.size rfl 63 _ _ _ m5 Tryz.underlying63 rfl info63 ?_;go_wp2_with (with_reducible refine at_store63 ?_);refine ⟨?_⟩;refine wpList_store_mid rfl 63 _ _ rfl f 24 _ rfl rfl th info63 (by simp [Ou.cs,Value.oneCell']) ?_;obtain ⟨W6,hW6⟩:∃ W6,W5.setCells f 24 (Ou.cs (lowO p.pc x)).toList=W6:=⟨_,rfl⟩;rw [hW6];have T6:Hid (Td (fun k=>k=f) W5 W6):=gh (by rw [<- hW6];exact setCells_turned _ _ _ _);have es:p.settle={ p with rc:=rc,ld:=ld,done:=true,w:=x }:=by
   unfold Lp.settle;rw [HP.o];dsimp only;rw [if_neg (by rw [HOF.o];decide),HRC.o,HLD.o]
  have F6:Hid (W6.heap[f]? = some (.cells (p.settle.fm.cs tp) 65)):=gh (by
   rw [<- hW6,es];simp [World.setCells,World.setCell,Array.getElem?_modify,f5,Fm.cs,Lp.fm,Ou.cs])
  clear hW6 f5 th m5;go_wp2
  go_end0
  have HT:Td (fun k=>k=f) W W6:=(HPL.o.kept.trans K3.o).then (T5.trans T6.o (fun _ e=>e) (fun _ _ e=>e));refine ⟨rfl,?_,HT⟩;have F6':=F6.o
  first | rw [es] at F6' | skip
  first | rw [es] | skip
  exact H.o.put HT F6' rfl H.o.good
end
section
open Go.Shelf
variable {X:Nat->Prop} {lo:Nat}
attribute [local go_sem] Oper.semAt_some
theorem lowO_zero (pc:Int):lowO pc 0=Ou.none:=by
 unfold lowO
 split <;> rfl
def Lp.make5 (pc a b p q:Int):Lp:=⟨pc,a,b,p,q,[],false,0,0,0⟩
def Lp.step (p:Lp) (m:Mst):Lp × Mst:=
 if p.done=true then (p,m)
 else (({ p with tape:=p.tape++[(m.doA p.play.2.nx).1] }:Lp).settle,(m.doA p.play.2.nx).2)
set_option maxRecDepth 100000 in
set_option maxHeartbeats 2000000 in
theorem lstep_r (W:World) (n₀ f:Nat) (p:Lp) (tp:Sl) (mb:Nat) (mv:Value) (m:Mst) (h:LrIs W n₀ f p tp) (hd:DMem W n₀ mb mv m) (hok:m.ok) (hap:∀ g,tp.v.ownBlock=some g->mv.ownBlock≠some g) (hn:n₀<=W.heap.size) (hlen:p.tape.length<=15990) :
  Calls Tryz.prog 18 #[.pointer (some ⟨f,0,none⟩),.pointer (some ⟨mb,0,none⟩)] W fun e W'=>e=.returned (.bool (p.step m).1.done)/\∃ tp' mv',LrIs W' n₀ f (p.step m).1 tp'/\DMem W' n₀ mb mv' (p.step m).2/\(∀ g,tp'.v.ownBlock=some g->mv'.ownBlock≠some g)/\Td (fun k=>k=f∨tp.v.ownBlock=some k∨Foot mb mv k) W W'/\(∀ k,tp'.v.ownBlock=some k->tp.v.ownBlock=some k∨W.heap.size<=k)/\(∀ k,Foot mb mv' k->Foot mb mv k∨W.heap.size<=k):=by
 have H:=gh h;have HD:=gh hd;have HAP:=gh hap;have HN:=gh hn;have HLEN:=gh hlen;have HOK:=gh hok;have c23:W.cell? ⟨f,23,none⟩=some (.bool p.done):=by
  have hb:=h.box;simp [World.cell?,hb,Fm.cs,Lp.fm]
 cases hdn:p.done with
 | true=>
  rw [hdn] at c23;have es:Hid (p.step m=(p,m)):=gh (by unfold Lp.step;rw [if_pos hdn]);clear h hd hap hn hlen hok;go_enter Tryz.func18,Tryz.ntmps18;go_wp2;go_ret;rw [es.o];exact ⟨by rw [hdn];rfl,tp,mv,H.o,HD.o,HAP.o,Td.refl _ _,fun _ e=>.inl e,fun _ e=>.inl e⟩
 | false=>
  rw [hdn] at c23;obtain ⟨x,sE,hp⟩:∃ x sE,p.play=(x,sE):=⟨_,_,rfl⟩;obtain ⟨z,m',hz⟩:∃ z m',m.doA sE.nx=(z,m'):=⟨_,_,rfl⟩;have es:Hid (p.step m=(({ p with tape:=p.tape++[z] }:Lp).settle,m')):=gh (by
   unfold Lp.step;rw [if_neg (by rw [hdn];decide),hp];dsimp only;rw [hz])
  have IZ:Hid (I64 z):=gh (by have:=Mst.doA_i64 hok sE.nx;rw [hz] at this;exact this);obtain ⟨hr,hn',hc,hb⟩:=h.tape;have CT:=play_lo W f p.fm tp p.tape h.box h.good hr hn' hc (by omega) (fun a e=>(hb a e).1) h.i64 x sE hp;rw [show p.fm.proc=p.pc from rfl] at CT;have HCT:=gh CT;have HZ:=gh hz;have HB:=gh hb;have HTN:=gh hn';clear h hd hap hn hlen hok hr hn' hc hb CT hp hz hdn;go_enter Tryz.func18,Tryz.ntmps18;go_wp2_with (fail);refine HCT.o.mono ?_;rintro e W1 ⟨r,rfl,PL⟩;have HPL:=gh PL;have fW1:=gh (PL.kept.heap H.o.box id);obtain ⟨W3,hW3⟩:∃ W3,(W1.alloc (.cells #[.int .i64 0,.bool false,.int .i64 0,.int .i64 0,.int .i64 0,.slice none 0 0,.slice none 0 0,.int .i64 0,.bool false,.int .i64 0,.int .i64 0,.int .i64 0,.slice none 0 0] 63)).setRow W1.heap.size (Ou.cs (lowO p.pc x))=W3:=⟨_,rfl⟩;have k3:Kept W1 W3:=by
   rw [<- hW3];exact (Kept.then (Td.alloc (fun _=>False) W1 _) (turned_setRow _ _ _)).mono (fun k hk e=>by omega)
  have HW3:=gh hW3;obtain ⟨V,hV⟩:∃ V,W3.drew=V:=⟨_,rfl⟩;have kV:Kept W3 V:=by rw [<- hV];exact Kept.drew _
  have KWV:Hid (Kept W V):=gh ((PL.kept.trans k3).trans kV);obtain ⟨ta,tc,wa,wc,RI⟩:=PL.run.kept (k3.trans kV);have DV:=gh (HD.o.kept KWV.o);have fV:=gh (KWV.o.heap H.o.box id);have nfm:Hid (¬ Foot mb mv f):=gh (foot_apart DV.o fV.o (by decide) (by decide));have nft:Hid (tp.v.ownBlock≠some f):=gh (fun e=>(H.o.row.apart H.o.box (by decide) f e) rfl);have rnew:W.heap.size<=r:=PL.new;have nr:Hid (¬ (Foot mb mv r∨tp.v.ownBlock=some r)):=gh (by
   rintro (e | e)
   ·have:=(HD.o.lt r e).2;omega
   ·have:=(H.o.row.lt r e).2;omega)
  obtain ⟨n3,n4,n5,n6,n7⟩:=RI.nexts;obtain ⟨q,hq⟩:∃ q,sE.nx=q:=⟨_,rfl⟩;rw [hq] at n3 n4 n5 n6 n7;obtain ⟨qn,hqn⟩:∃ qn,q.w.length=qn:=⟨_,rfl⟩;rw [hqn] at n7;have NX:Hid (Reads V wa q.w/\qn<=maxLen/\∀ ad,wa=some ad->ad.block≠mb):=gh (by
   have h1:=RI.next;rw [hq] at h1;refine ⟨h1.reads,by rw [<- hqn];exact h1.short,fun ad e he=>?_⟩;rcases (h1.ne ad e).1.1 with ⟨a',ea,eb⟩ | hk
   ·have:=HD.o.box
    rw [<- he,eb] at this;exact (H.o.row.apart this (by decide) a'.block (by unfold Sl.v;rw [ea];simp [Value.ownBlock])) rfl
   ·have:=(HD.o.lt mb (.inl rfl)).2
    omega)
  have HQ:=gh hq;have HQN:=gh hqn;obtain ⟨q1,q2,q3,q4,q5⟩:=q;dsimp only at n3 n4 n5 n6 n7;have c22:V.cell? ⟨f,22,none⟩=some (.slice tp.a tp.n tp.c):=by
   have hb:=fV.o;simp [World.cell?,hb,Fm.cs,Lp.fm]
  have x0:∀ u:Wd (fun U=>Td (fun k=>Foot mb mv k∨tp.v.ownBlock=some k) V U),u.w.cell? ⟨f,22,none⟩=some (.slice tp.a tp.n tp.c):=fun u=>u.ok.cell c22 (fun e=>e.elim nfm.o nft.o);have x3:∀ u:Wd (fun U=>Td (fun k=>Foot mb mv k∨tp.v.ownBlock=some k) V U),u.w.cell? ⟨r,3,none⟩=some (.int .i64 q1):=fun u=>u.ok.cell n3 nr.o;have x4:∀ u:Wd (fun U=>Td (fun k=>Foot mb mv k∨tp.v.ownBlock=some k) V U),u.w.cell? ⟨r,4,none⟩=some (.int .i64 q2):=fun u=>u.ok.cell n4 nr.o;have x5:∀ u:Wd (fun U=>Td (fun k=>Foot mb mv k∨tp.v.ownBlock=some k) V U),u.w.cell? ⟨r,5,none⟩=some (.int .i64 q3):=fun u=>u.ok.cell n5 nr.o;have x6:∀ u:Wd (fun U=>Td (fun k=>Foot mb mv k∨tp.v.ownBlock=some k) V U),u.w.cell? ⟨r,6,none⟩=some (.int .i64 q4):=fun u=>u.ok.cell n6 nr.o;have x7:∀ u:Wd (fun U=>Td (fun k=>Foot mb mv k∨tp.v.ownBlock=some k) V U),u.w.cell? ⟨r,7,none⟩=some (.slice wa qn wc):=fun u=>u.ok.cell n7 nr.o;have HV:=gh hV;clear PL hW3 k3 kV hV RI rnew n3 n4 n5 n6 n7 hq hqn c22 HCT c23;go_wp2_with (with_reducible refine at_store63 ?_);refine ⟨?_⟩;refine wpList_store_row rfl 63 _ _ rfl W1.heap.size _ rfl rfl 63 _ (heap_new _ _) info63 rfl (by simp [Ou.cs,Value.oneCell']) ?_;rw [HW3.o];dsimp only [Act.put];go_wp2_with (fail);refine region_last [0,1,2,3,4,5,6,7,8,9,10,11,12,13,14] 15 (fun U=>Td (fun k=>Foot mb mv k∨tp.v.ownBlock=some k) V U) (by kernel_rfl) (by kernel_rfl) (by rw [HV.o];exact Td.refl _ _) (fun _=>?_);rw [HV.o]
  repeat (refine lq rfl rfl ?_;go_big_quiet_step (fail);refine wpQuiet_nil ?_)
  refine ll rfl rfl ?_;gi_wp2_with (fail);refine ⟨trivial,?_⟩;refine (callsIn_wide.2 (do_d V n₀ mb mv m ⟨q1,q2,q3,q4,q5⟩ wa qn wc DV.o (Nat.le_trans HN.o KWV.o.size) HQN.o NX.o.1 NX.o.2.1 NX.o.2.2 z m' (by rw [<- HQ.o];exact HZ.o))).mono ?_;rintro e U ⟨rfl,mv',hm',ht',hf'⟩;have HM:=gh hm';have HTT:=gh ht';have HFF:=gh hf';have TU:Hid (Td (fun k=>Foot mb mv k∨tp.v.ownBlock=some k) V U):=gh (ht'.mono (fun _ _ e=>.inl e));clear hm' ht' hf';gi_wp2_with (fail);refine ⟨Wd.mem TU.o,?_⟩;refine ll rfl rfl ?_;gi_wp2;refine ⟨Wd.mem (Kept.behind TU.o (Td.alloc _ _ _)),?_⟩;refine ll rfl rfl ?_;gi_wp2_with (gi_at_builtin;refine Stop.out ?_);refine ⟨?_⟩;have RU:Hid (Row (U.alloc (.cells #[.int .i64 z] 2)) n₀ 2 tp.v p.tape):=gh (((H.o.row.kept KWV.o).turnedO HTT.o (fun g e e'=>by
   rcases e' with e' | e'
   ·have h1:=(DV.o.box);rw [<- e'] at h1;exact (H.o.row.kept KWV.o).apart h1 (by decide) g e rfl
   ·exact HAP.o g e e')).kept (Td.alloc _ _ _))
  refine wpListIn_append_int rfl _ _ rfl n₀ tp.v p.tape (p.tape++[z]) rfl RU.o U.heap.size z rfl (heap_new _ _) (by have:=HLEN.o;omega) (by have:=HN.o;have:=KWV.o.size;have:=TU.o.size;simp;omega) rfl ?_;intro v9 A1 hown hgrow hat;have TA:Hid (Td (fun k=>Foot mb mv k∨tp.v.ownBlock=some k) V A1):=gh ((Kept.behind TU.o (Td.alloc _ _ _)).trans (Td.of_grownBy (R:=fun k=>tp.v.ownBlock=some k) hgrow (fun _ h=>h)) (fun _ e=>e) (fun _ _ e=>.inr e));have fA:=TA.o.heap fV.o (fun e=>e.elim nfm.o nft.o);have sUV:V.heap.size<=U.heap.size:=TU.o.size;have mA:DMem A1 n₀ mb mv' m':=by
   refine (HM.o.kept (Td.alloc (fun _=>False) U _)).turned (Td.of_grownBy (R:=fun k=>tp.v.ownBlock=some k) hgrow (fun _ h=>h)) (fun k hk e=>?_);have hkW:=(H.o.row.lt k e).2;have hWV:=KWV.o.size;rcases HFF.o k hk with h1 | h1
   ·rcases h1 with h1 | h1
    ·have hbx:=DV.o.box;rw [<- h1] at hbx;exact (H.o.row.kept KWV.o).apart hbx (by decide) k e rfl
    ·exact HAP.o k e h1
   ·omega
  have apA:∀ g,v9.ownBlock=some g->mv'.ownBlock≠some g:=by
   intro g e e';have hg:=(HM.o.row.lt g e').2;rcases hat with h1 | h1
   ·rw [h1] at e;have hkW:=(H.o.row.lt g e).2;have hWV:=KWV.o.size;rcases HFF.o g (.inr e') with h2 | h2
    ·rcases h2 with h2 | h2
     ·have hbx:=DV.o.box;rw [<- h2] at hbx;exact (H.o.row.kept KWV.o).apart hbx (by decide) g e rfl
     ·exact HAP.o g e h2
    ·omega
   ·rw [h1] at e;simp at e;omega
  have new9:∀ k,v9.ownBlock=some k->tp.v.ownBlock=some k∨W.heap.size<=k:=by
   intro k e;rcases hat with h1 | h1
   ·exact .inl (by rw [<- h1];exact e)
   ·rw [h1] at e;simp at e
    have:=KWV.o.size
    exact .inr (by omega)
  obtain ⟨ta9,tc9,hv9,_⟩:=hown.form;obtain ⟨N9,hN9⟩:∃ N,(p.tape++[z]).length=N:=⟨_,rfl⟩;rw [hN9] at hv9;subst hv9;have cA:A1.cell? ⟨f,22,none⟩=some (.slice tp.a tp.n tp.c):=by simp [World.cell?,fA,Fm.cs,Lp.fm]
  have gA:A1.frozen? ⟨f,22,none⟩=false:=by simp [World.frozen?,fA]
  obtain ⟨A2,hA2⟩:∃ A2,A1.setCell ⟨f,22,none⟩ (.slice ta9 N9 tc9)=A2:=⟨_,rfl⟩;have t2:Td (fun k=>k=f) A1 A2:=by rw [<- hA2];exact Td.setCell (R:=fun k=>k=f) _ _ _ rfl
  have f2:A2.heap[f]? = some (.cells (({ p with tape:=p.tape++[z] }:Lp).fm.cs ⟨ta9,N9,tc9⟩) 65):=by
   rw [<- hA2];simp [World.setCell,Array.getElem?_modify,fA,Fm.cs,Lp.fm]
  have TW:Hid (Td (fun k=>k=f∨tp.v.ownBlock=some k∨Foot mb mv k) W A2):=gh ((KWV.o.then TA.o).trans t2 (fun _ e=>e.elim (fun e=>.inr (.inr e)) (fun e=>.inr (.inl e))) (fun _ _ e=>.inl e));have FR:Hid (LrIs A2 n₀ f { p with tape:=p.tape++[z] } ⟨ta9,N9,tc9⟩):=gh ⟨H.o.le,f2,hown.turnedO t2 (fun g e=>hown.apart fA (by decide) g e),H.o.good,fun y hy=>(List.mem_append.1 hy).elim (H.o.i64 y) (fun h=>by rw [List.mem_singleton.1 h];exact IZ.o)⟩;have DM:Hid (DMem A2 n₀ mb mv' m'):=gh (mA.turned t2 (fun k hk e=>foot_apart mA fA (by decide) (by decide) (e ▸ hk)));have APA:=gh apA;have NEW:=gh new9;have HFW:Hid (∀ k,Foot mb mv' k->Foot mb mv k∨W.heap.size<=k):=gh (fun k hk=>(HFF.o k hk).imp id (fun h=>Nat.le_trans KWV.o.size h));have HA2:=gh hA2;have SZ:Hid (n₀<=A2.heap.size):=gh (Nat.le_trans HN.o TW.o.size);clear hown hgrow hat fA mA apA new9 t2 f2 hA2 sUV;gi_wp2;refine ⟨Wd.mem TA.o,?_⟩;simp only [Act.put,List.setIfInBounds_toArray,List.set_cons_succ,List.set_cons_zero]
  repeat (refine lq rfl rfl ?_;go_big_quiet_step (fail);refine wpQuiet_nil ?_)
  refine lz rfl ?_;gi_wp2;refine last_done ?_;clear x0 x3 x4 x5 x6 x7;go_wp2_with (fail);rw [HA2.o];refine (lsettle_r A2 n₀ f { p with tape:=p.tape++[z] } ⟨ta9,N9,tc9⟩ FR.o SZ.o (by show (p.tape++[z]).length<=16000;have:=HLEN.o;simp;omega)).mono ?_;rintro e W9 ⟨rfl,F9,T9⟩;have HF9:=gh F9;have HT9:=gh T9;have d23:W9.cell? ⟨f,23,none⟩=some (.bool (({ p with tape:=p.tape++[z] }:Lp).settle).done):=by
   have hb:=F9.box;simp [World.cell?,hb,Fm.cs,Lp.fm]
  obtain ⟨ps,hps⟩:∃ ps,({ p with tape:=p.tape++[z] }:Lp).settle=ps:=⟨_,rfl⟩;rw [hps] at d23;have HPS:=gh hps;clear F9 T9 cA gA hps;go_wp2;go_ret;rw [es.o,HPS.o];refine ⟨rfl,⟨ta9,N9,tc9⟩,mv',by rw [<- HPS.o];exact HF9.o,DM.o.turned HT9.o (fun k hk e=>foot_apart DM.o FR.o.box (by decide) (by decide) (e ▸ hk)),APA.o,TW.o.trans HT9.o (fun _ e=>e) (fun _ _ e=>.inl e),NEW.o,HFW.o⟩
set_option maxRecDepth 100000 in
set_option maxHeartbeats 2000000 in
theorem lnew_r (W:World) (pz ar br pr qr:Int) (hg:IsLow pz ar) :
  Calls Tryz.prog 13 #[.int .i64 pz,.agg #[.int .i64 ar,.int .i64 br,.int .i64 0,.int .i64 pr,.int .i64 qr,.int .i64 0,.int .i64 0,.bool false,.int .i64 0,.bool false,.slice none 0 0,.slice none 0 0,.slice none 0 0,.slice none 0 0,.slice none 0 0,.int .i64 0,.int .i64 0,.int .i64 0,.int .i64 0,.int .i64 0,.int .i64 0]] W fun e W'=>∃ f,e=.returned (.pointer (some ⟨f,0,none⟩))/\LrIs W' W.heap.size f (Lp.make5 pz ar br pr qr).settle Sl.nil/\Kept W W':=by
 obtain ⟨V,hV⟩:∃ V,(W.alloc (.cells #[.int .i64 ar,.int .i64 br,.int .i64 0,.int .i64 pr,.int .i64 qr,.int .i64 0,.int .i64 0,.bool false,.int .i64 0,.bool false,.slice none 0 0,.slice none 0 0,.slice none 0 0,.slice none 0 0,.slice none 0 0,.int .i64 0,.int .i64 0,.int .i64 0,.int .i64 0,.int .i64 0,.int .i64 0] 54)).alloc (.cells ((Lp.make5 pz ar br pr qr).fm.cs Sl.nil) 65)=V:=⟨_,rfl⟩;have kV:Kept W V:=by rw [<- hV];exact (Kept.alloc (Kept.refl W) _).alloc _
 have b1:V.heap[W.heap.size+1]? = some (.cells ((Lp.make5 pz ar br pr qr).fm.cs Sl.nil) 65):=by rw [<- hV];exact heap_alloc2_new _ _ _
 have F0:LrIs V W.heap.size (W.heap.size+1) (Lp.make5 pz ar br pr qr) Sl.nil:=by
  exact ⟨by omega,b1,⟨rfl,.inl ⟨rfl,rfl⟩⟩,hg,fun z hz=>by cases hz⟩
 have CT:=lsettle_r V W.heap.size (W.heap.size+1) (Lp.make5 pz ar br pr qr) Sl.nil F0 kV.size (by show 0<=16000;omega);have HCT:=gh CT;have KV:=gh kV;have HV:=gh hV;clear kV b1 F0 CT hV;go_enter Tryz.func13,Tryz.ntmps13;go_wp2_with (with_reducible refine at_load54 ?_);refine ⟨?_⟩;refine wpList_load_row rfl 54 _ rfl W.heap.size rfl 54 _ _ _ (heap_new _ _) Tryz.underlying54 rfl info54 ?_;go_wp2_with (fail);have e0:(W.alloc (.cells #[.int .i64 ar,.int .i64 br,.int .i64 0,.int .i64 pr,.int .i64 qr,.int .i64 0,.int .i64 0,.bool false,.int .i64 0,.bool false,.slice none 0 0,.slice none 0 0,.slice none 0 0,.slice none 0 0,.slice none 0 0,.int .i64 0,.int .i64 0,.int .i64 0,.int .i64 0,.int .i64 0,.int .i64 0] 54)).alloc (.cells #[.int .i64 pz,.int .i64 ar,.int .i64 br,.int .i64 0,.int .i64 pr,.int .i64 qr,.int .i64 0,.int .i64 0,.bool false,.int .i64 0,.bool false,.slice none 0 0,.slice none 0 0,.slice none 0 0,.slice none 0 0,.slice none 0 0,.int .i64 0,.int .i64 0,.int .i64 0,.int .i64 0,.int .i64 0,.int .i64 0,.slice none 0 0,.bool false,.int .i64 0,.bool false,.int .i64 0,.int .i64 0,.int .i64 0,.slice none 0 0,.slice none 0 0,.int .i64 0,.bool false,.int .i64 0,.int .i64 0,.int .i64 0,.slice none 0 0,.int .i64 0,.int .i64 0] 65)=V:=by
  have fc:(Lp.make5 pz ar br pr qr).fm=⟨pz,⟨ar,br,0,pr,qr,0,0,false,0,false,Sl.nil,Sl.nil,Sl.nil,Sl.nil,Sl.nil,0,0,0,0,0,0⟩,false,Ou.none,0,0⟩:=by
   show Fm.mk _ _ _ (lowO pz 0) _ _=_;rw [lowO_zero];rfl
  rw [<- HV.o,fc];rfl
 rw [e0];clear e0;refine HCT.o.mono ?_;rintro e U ⟨rfl,F,T⟩;have HF:=gh F;have HT:=gh T;clear F T HCT;go_wp2;go_ret;exact ⟨_,rfl,HF.o,(KV.o.then HT.o).mono (fun k hk e=>by omega)⟩
end
section
open Go.Shelf
variable {P Q X Z:Nat->Prop}
set_option maxRecDepth 20000
theorem IxIs.turn {W W':World} {n₀ x mb tb:Nat} {ix:Ixp} {mv mv':Value} {tv lv:Sl} {pz:List Pt} {m':Mst} {R:Nat->Prop} (h:IxIs P W n₀ x ix mb mv tb tv lv pz) (t:Td R W W') (hR:∀ k,R k->Foot mb mv k∨P k) (hm:DMem W' n₀ mb mv' m') (hok:m'.ok) (hft:∀ k,Foot mb mv' k->Foot mb mv k∨W.heap.size<=k)
  (hq:∀ k,Q k->(∃ c T,W'.heap[k]? = some (.cells c T)/\(T=2∨T=65))/\mv'.ownBlock≠some k/\∀ p,p ∈ pz->p.tp.v.ownBlock≠some k/\p.fa≠some k):IxIs Q W' n₀ x { ix with m:=m' } mb mv' tb tv lv pz:=by
 have ne:∀ {y:Nat} {c:Array Value} {T:TypeId},W.heap[y]? = some (.cells c T)->T≠126->T≠2->T≠65->¬ R y:=fun hy e1 e2 e3 e=>(hR _ e).elim (foot_apart h.mem hy e1 e2) (h.nt hy e2 e3);have get:∀ {i:Nat} {p1:Pt},pz[i]? = some p1->∃ q1,ix.ts[i]? = some q1:=fun h1=>by
  have:=(List.getElem?_eq_some_iff.1 h1).1
  rw [h.pn] at this;exact ⟨_,List.getElem?_eq_getElem this⟩
 have nw:∀ {i:Nat} {p:Pt},pz[i]? = some p->∀ g,p.tp.v.ownBlock=some g->¬ R g/\¬ Foot mb mv g/\g < W.heap.size:=fun {i p} hp g eg=>by
  obtain ⟨q,hq⟩:=get hp;obtain ⟨c,hc⟩:=(h.th i q p hq hp).fr.types.2 g eg;have nf:¬ Foot mb mv g:=by
   rintro (e | e)
   ·have:=h.mem.box
    rw [<- e,hc] at this;simp at this
   ·exact h.da i p hp g eg e
  exact ⟨fun e=>(hR g e).elim nf (fun e=>((h.np g e).2.2 p (List.mem_of_getElem? hp)).1 eg),nf,(Array.getElem?_eq_some_iff.1 hc).1⟩
 refine ⟨h.le,t.heap h.box (ne h.box (by decide) (by decide) (by decide)),hm,hok,h.tva,h.tvn,?_,h.pn,fun i q p e1 e2=>?_,h.log.turned t (fun g e=>?_),h.dt,fun i p e1 g eg eg'=>?_,h.bz,hq⟩
 ·obtain ⟨c,h1,h2⟩:=h.row;exact ⟨c,t.heap h1 (ne h1 (by decide) (by decide) (by decide)),h2⟩
 ·have th:=h.th i q p e1 e2;refine ⟨th.le,t.heap th.box (ne th.box (by decide) (by decide) (by decide)),?_⟩;rcases th.fr with hn | ⟨f,pp,h1,h2,F⟩
  ·exact .inl hn
  ·refine .inr ⟨f,pp,h1,h2,F.le,t.heap F.box (fun e=>(hR f e).elim (foot_apart h.mem F.box (by decide) (by decide)) (fun e=>((h.np f e).2.2 p (List.mem_of_getElem? e2)).2 h1)),F.row.turnedO t (fun g e=>(nw e2 g e).1),F.lst.turned t (fun g e=>?_),F.good,F.i64⟩;obtain ⟨c,hc⟩:=F.lst.typed g e;exact ne hc (by decide) (by decide) (by decide)
 ·obtain ⟨c,hc⟩:=h.log.typed g e;exact ne hc (by decide) (by decide) (by decide)
 ·obtain ⟨_,n1,n2⟩:=nw e1 g eg;rcases hft g (.inr eg') with h1 | h1
  ·exact n1 h1
  ·omega
def LB (f:Nat) (tp:Sl):Nat->Prop:=fun k=>k=f∨tp.v.ownBlock=some k
theorem LrIs.typed {W:World} {n₀ f:Nat} {p:Lp} {tp:Sl} (h:LrIs W n₀ f p tp) {k:Nat} (hk:LB f tp k):∃ c T,W.heap[k]? = some (.cells c T)/\(T=2∨T=65):=by
 rcases hk with rfl | hk
 ·exact ⟨_,65,h.box,.inr rfl⟩
 ·obtain ⟨c,hc⟩:=h.row.typed k hk;exact ⟨c,2,hc,.inl rfl⟩
theorem LrIs.lt {W:World} {n₀ f:Nat} {p:Lp} {tp:Sl} (h:LrIs W n₀ f p tp) {k:Nat} (hk:LB f tp k):k < W.heap.size/\n₀<=k:=by
 rcases hk with rfl | hk
 ·exact ⟨(Array.getElem?_eq_some_iff.1 h.box).1,h.le⟩
 ·have:=h.row.lt k hk
  exact ⟨this.2,this.1⟩
theorem LrIs.low {W:World} {n₀ n₁ f:Nat} {p:Lp} {tp:Sl} (h:LrIs W n₁ f p tp) (hn:n₀<=n₁):LrIs W n₀ f p tp:=⟨Nat.le_trans hn h.le,h.box,h.row.low hn,h.good,h.i64⟩
theorem LrIs.on {W W':World} {n₀ f:Nat} {p:Lp} {tp:Sl} (h:LrIs W n₀ f p tp) (t:∀ (k:Nat) (c:Array Value) (T:TypeId),LB f tp k->T=2∨T=65->W.heap[k]? = some (.cells c T)->W'.heap[k]? = some (.cells c T)):LrIs W' n₀ f p tp:=by
 refine ⟨h.le,t f _ _ (.inl rfl) (.inr rfl) h.box,?_,h.good,h.i64⟩;obtain ⟨h1,h2⟩:=h.row;refine ⟨h1,?_⟩;rcases h2 with h2 | ⟨g,cap,cur,e,hg,hh,r⟩
 ·exact .inl h2
 ·exact .inr ⟨g,cap,cur,e,hg,t g _ _ (.inr (by rw [e];rfl)) (.inl rfl) hh,r⟩
theorem LrIs.turned {W W':World} {n₀ f:Nat} {p:Lp} {tp:Sl} (h:LrIs W n₀ f p tp) {R:Nat->Prop} (t:Td R W W') (hR:∀ k,LB f tp k->¬ R k):LrIs W' n₀ f p tp:=h.on (fun k _ _ hk _ e=>t.heap e (hR k hk))
theorem LrIs.kept {W W':World} {n₀ f:Nat} {p:Lp} {tp:Sl} (h:LrIs W n₀ f p tp) (t:Kept W W'):LrIs W' n₀ f p tp:=h.turned t (fun _ _ e=>e)
theorem LrIs.others {W W':World} {n₀ f:Nat} {p:Lp} {tp:Sl} (h:LrIs W n₀ f p tp) (t:Others X W W') (hX:∀ k,LB f tp k->X k):LrIs W' n₀ f p tp:=h.on (fun k c T hk hT e=>t k c T e (.inl (hX k hk)) (by rcases hT with rfl | rfl <;> decide))
structure Lran (Z:Nat->Prop) (W:World) (n₀ y b x mb tb:Nat) (v mv:Value) (tv lv:Sl) (pz:List Pt) (m:Mst) (ix:Ixp) (f:Nat) (tp:Sl) (q:Lp) (d:Mst) (W':World) (tp':Sl) (mv':Value):Prop where
 yd:YdIs (fun k=>LB f tp' k∨Z k) W' n₀ y b x mb tb v mv' tv lv pz m { ix with m:=d }
 fr:LrIs W' n₀ f q tp'
 turned:Td (fun k=>LB f tp k∨Foot mb mv k) W W'
 new:∀ k,LB f tp' k->LB f tp k∨W.heap.size<=k
theorem lstep_y (W:World) (n₀ y b x mb tb:Nat) (v mv:Value) (tv lv:Sl) (pz:List Pt) (m:Mst) (ix:Ixp) (f:Nat) (tp:Sl) (q:Lp) (h:YdIs (fun k=>LB f tp k∨Z k) W n₀ y b x mb tb v mv tv lv pz m ix) (hf:LrIs W n₀ f q tp) (hZ:∀ k,Z k->¬ LB f tp k) (hn:n₀<=W.heap.size) (hlen:q.tape.length<=15990) (hok:(q.step ix.m).2.ok) :
  Calls Tryz.prog 18 #[.pointer (some ⟨f,0,none⟩),.pointer (some ⟨mb,0,none⟩)] W fun e W'=>e=.returned (.bool (q.step ix.m).1.done)/\∃ tp' mv',Lran Z W n₀ y b x mb tb v mv tv lv pz m ix f tp (q.step ix.m).1 (q.step ix.m).2 W' tp' mv':=by
 have np:=fun k (hk:LB f tp k)=>h.ixs.np k (.inr (.inl hk));have nF:∀ {k:Nat} {c:Array Value} {T:TypeId},W.heap[k]? = some (.cells c T)->T=2∨T=65->mv.ownBlock≠some k->¬ Foot mb mv k:=fun {k c T} hc hT h2=>by
  rintro (e | e)
  ·have:=h.ixs.mem.box
   rw [<- e,hc] at this;simp at this;rw [this.2] at hT
   revert hT
   decide
  ·exact h2 e
 refine (lstep_r W n₀ f q tp mb mv ix.m hf h.ixs.mem h.ixs.mok (fun g e=>(np g (.inr e)).2.1) hn hlen).mono ?_;rintro e W' ⟨rfl,tp',mv',h1,h2,h3,h4,h5,h6⟩;have t:Td (fun k=>LB f tp k∨Foot mb mv k) W W':=h4.mono (fun k _ e=>by
  rcases e with e | e | e
  ·exact .inl (.inl e)
  ·exact .inl (.inr e)
  ·exact .inr e)
 have new:∀ k,LB f tp' k->LB f tp k∨W.heap.size<=k:=fun k hk=>hk.elim (fun e=>.inl (.inl e)) (fun e=>(h5 k e).imp .inr id);have hv:∀ k,v.ownBlock=some k->¬ (LB f tp k∨Foot mb mv k):=fun k hk=>by
  rintro (e | e)
  ·exact h.xv k (.inl e) hk
  ·obtain ⟨c,hc⟩:=h.pm.typed k hk;exact nF hc (.inl rfl) (h.ixs.np k (.inl hk)).2.1 e
 have nmv:∀ k,k < W.heap.size->¬ Foot mb mv k->mv'.ownBlock≠some k:=fun k hk hn e=>(h6 k (.inr e)).elim hn (fun h=>by omega);refine ⟨rfl,tp',mv',⟨h.le,t.heap h.box (fun e=>?_),h.pm.turned t (fun k hk=>?_),h.ixs.turn t (fun k hk=>hk.elim (fun e=>.inr (.inr (.inl e))) .inl) h2 hok h6 (fun k hk=>?_),fun k hk e=>?_⟩,h1,t,new⟩
 ·rcases e with e | e
  ·have:=h.ixs.xt (.inr (.inl e)) h.box
   revert this
   decide
  ·exact foot_apart h.ixs.mem h.box (by decide) (by decide) e
 ·rcases hk with rfl | hk
  ·rintro (e | e)
   ·have:=h.ixs.xt (.inr (.inl e)) h.pm.box
    revert this
    decide
   ·exact foot_apart h.ixs.mem h.pm.box (by decide) (by decide) e
  ·exact hv k hk
 ·rcases hk with hk | hk | hk
  ·obtain ⟨⟨c,T,hc,hT⟩,n1,n2⟩:=h.ixs.np k (.inl hk);exact ⟨⟨c,T,t.heap hc (hv k hk),hT⟩,nmv k (h.ixs.xl (.inl hk)) (fun e=>hv k hk (.inr e)),n2⟩
  ·refine ⟨h1.typed hk,?_,?_⟩
   ·rcases hk with rfl | hk
    ·intro e;obtain ⟨c,hc⟩:=h2.row.typed _ e
     have:=h1.box
     rw [hc] at this;simp at this
    ·exact h3 k hk
   ·rcases new k hk with e | e
    ·exact (np k e).2.2
    ·exact (h.ixs.lts e).2
  ·obtain ⟨⟨c,T,hc,hT⟩,n1,n2⟩:=h.ixs.np k (.inr (.inr hk));have nf:=nF hc hT n1;exact ⟨⟨c,T,t.heap hc (fun e=>e.elim (hZ k hk) nf),hT⟩,nmv k (h.ixs.xl (.inr (.inr hk))) nf,n2⟩
 ·rcases hk with hk | hk
  ·rcases new k hk with e' | e'
   ·exact h.xv k (.inl e') e
   ·have:=h.ixs.xl (.inl e)
    omega
  ·exact h.xv k (.inr hk) e
theorem YdIs.add {W W':World} {n₀ y b x mb tb:Nat} {v mv:Value} {tv lv:Sl} {pz:List Pt} {m:Mst} {ix:Ixp} {f:Nat} {q:Lp} (h:YdIs Z W n₀ y b x mb tb v mv tv lv pz m ix) (k:Kept W W') (hf:LrIs W' W.heap.size f q Sl.nil):YdIs (fun k=>LB f Sl.nil k∨Z k) W' n₀ y b x mb tb v mv tv lv pz m ix:=by
 have h':=h.kept k;have nl:∀ k,LB f Sl.nil k->W.heap.size<=k:=fun k hk=>(hf.lt hk).2;refine ⟨h'.le,h'.box,h'.pm,h'.ixs.other (fun k hk=>?_),fun k hk e=>?_⟩
 ·rcases hk with hk | hk | hk
  ·exact h'.ixs.np k (.inl hk)
  ·exact ⟨hf.typed hk,h.ixs.lts (nl k hk)⟩
  ·exact h'.ixs.np k (.inr hk)
 ·rcases hk with hk | hk
  ·have:=nl k hk
   have:=h.ixs.xl (.inl e)
   omega
  ·exact h.xv k hk e
end
section
open Sd (Pr Fo)
def Goes {α:Type} (T:Pr α) (m:Mst) (T':Pr α) (m':Mst):Prop:=(∃ q k,T=.ask q k/\T'=k (m.doA q).1/\m'=(m.doA q).2)∨((∃ a,T=.ret a)/\T'=T/\m'=m)
theorem doA_same {m d:Mst} (hx:m.xs=d.xs) (hz:m.size=d.size) (q:Ak):(m.doA q).1=(d.doA q).1/\(m.doA q).2.xs=(d.doA q).2.xs/\(m.doA q).2.size=(d.doA q).2.size:=by
 have lk:∀ a,m.look a=d.look a:=look_xs hx;have us:∀ a,m.used a=d.used a:=fun a=>by unfold Mst.used;rw [hx]
 have di:∀ a o,m.did a o=d.did a o:=fun a o=>by unfold Mst.did;rw [us,lk]
 have ft:∀ n,m.fits n=d.fits n:=fun n=>by unfold Mst.fits;rw [hx,hz]
 have tx:∀ a,(m.touch a).xs=(d.touch a).xs:=fun a=>by rw [Mst.touch_xs,Mst.touch_xs,hx]
 have tz:∀ a,(m.touch a).size=(d.touch a).size:=fun a=>by rw [Mst.touch_size,Mst.touch_size,hz]
 have wr:∀ a x,(m.write a x).xs=(d.write a x).xs/\(m.write a x).size=(d.write a x).size:=fun a x=>by
  unfold Mst.write Mst.put;rw [Mst.touch_used,Mst.touch_used,us]
  split
  ·exact ⟨by dsimp only;rw [tx],by dsimp only;rw [tz]⟩
  ·exact ⟨tx a,tz a⟩
 unfold Mst.doA
 split
 ·exact ⟨lk _,tx _,tz _⟩
 split
 ·exact ⟨rfl,wr _ _⟩
 split
 ·dsimp only;rw [di];refine ⟨rfl,?_⟩;unfold Mst.cas;rw [di]
  split
  ·exact wr _ _
  ·exact ⟨tx _,tz _⟩
 split
 ·refine ⟨lk _,?_⟩;unfold Mst.add;rw [lk];exact wr _ _
 split
 ·dsimp only;unfold Mst.next Mst.make;rw [ft]
  split
  ·exact ⟨by rw [hx],by dsimp only;rw [hx],hz⟩
  ·exact ⟨rfl,hx,hz⟩
 ·exact ⟨rfl,hx,hz⟩
theorem Goes.same {α:Type} {T T1 T2:Pr α} {m d m' d':Mst} (h:Goes T m T1 m') (k:Goes T d T2 d') (hx:m.xs=d.xs) (hz:m.size=d.size):T1=T2/\m'.xs=d'.xs/\m'.size=d'.size:=by
 rcases h with ⟨q,f,e,rfl,rfl⟩ | ⟨⟨a,e⟩,rfl,rfl⟩
 ·rcases k with ⟨q',f',e',rfl,rfl⟩ | ⟨⟨a,e'⟩,_,_⟩
  ·rw [e] at e';cases e';obtain ⟨e1,e2,e3⟩:=doA_same hx hz q;exact ⟨by rw [e1],e2,e3⟩
  ·rw [e] at e';cases e'
 ·rcases k with ⟨q',f',e',_,_⟩ | ⟨⟨a',e'⟩,rfl,rfl⟩
  ·rw [e] at e';cases e'
  ·exact ⟨rfl,hx,hz⟩
theorem run_upto {α:Type} (z:Int) (q:Ak) (k:Int->Pr α):∀ (T:List Int) (p:Pr α) (s:Rn),s.off=false->s.tape.drop s.pos=T++[z]->p.res T=.ask q k->p.run s=(k z).run { s with pos:=s.pos+T.length+1 }:=by
 intro T
 induction T with
 | nil=>
  intro p s so hd h;rw [Sd.res_nil] at h;subst h;have hl:s.pos < s.tape.length:=by
   have:=congrArg List.length hd
   simp at this;omega
  have e0:s.tape.getD s.pos 0=z:=by
   have:(s.tape.drop s.pos)[0]? = some z:=by rw [hd];rfl
   rw [List.getElem?_drop] at this;rw [List.getD_eq_getElem?_getD,show s.pos=s.pos+0 from rfl,this];rfl
  rw [Sd.run_ask,if_neg (by rw [so];decide),if_pos hl,e0];rfl
 | cons x T ih=>
  intro p s so hd h;have hl:s.pos < s.tape.length:=by
   have:=congrArg List.length hd
   simp at this;omega
  have e0:s.tape.getD s.pos 0=x:=by
   have:(s.tape.drop s.pos)[0]? = some x:=by rw [hd];rfl
   rw [List.getElem?_drop] at this;rw [List.getD_eq_getElem?_getD,show s.pos=s.pos+0 from rfl,this];rfl
  cases p with
  | ask q' k'=>
   rw [Sd.run_ask,if_neg (by rw [so];decide),if_pos hl,e0];have hd':s.tape.drop (s.pos+1)=T++[z]:=by rw [<- List.drop_drop,hd];rfl
   rw [ih (k' x) { s with pos:=s.pos+1 } so hd' h];dsimp only;rw [show s.pos+1+T.length+1=s.pos+(x :: T).length+1 by simp only [List.length_cons];omega]
  | ret a=>have h':(Pr.stop:Pr α)=.ask q k:=h;cases h'
  | stop=>have h':(Pr.stop:Pr α)=.ask q k:=h;cases h'
namespace Lp
def N0:Nat:=100000
def pr (q:Lp):Pr Int:=if q.pc=11 then Pr.peek q.a else if q.pc=12 then (Pr.help q.a).bind (fun _=>.ret 0) else if q.pc=13 then Pr.slot N0 q.a else Pr.dcss q.a q.b q.p q.q
theorem fo (q:Lp) (h:q.tape.length+1 < N0):Fo (Rn.start q.tape) q.pr q.play:=by
 unfold pr play lowP
 split
 ·exact Sd.fo_peek _ _
 split
 ·exact Fo.bind (Sd.fo_help _ _) (Fo.ret _ _)
 split
 ·refine Sd.fo_slot N0 _ _ (fun _=>?_)
  have:=Rn.start_left q.tape
  omega
 ·exact Sd.fo_dcss _ _ _ _ _
def Is (q:Lp) (T:Pr Int):Prop:=(q.done=false/\q.play.2.off=true/\q.pr.res q.tape=T/\∃ a k,T=.ask a k)∨(q.done=true/\T=.ret q.w)
theorem settle_play (q:Lp):q.settle.play=q.play/\q.settle.tape=q.tape/\q.settle.pr=q.pr/\q.settle.pc=q.pc/\q.settle.a=q.a:=by
 unfold settle
 split <;> exact ⟨rfl,rfl,rfl,rfl,rfl⟩
theorem is_settle {q:Lp} (T:Pr Int) (hl:q.tape.length+1 < N0) (hd:q.done=false) (hT:q.pr.res q.tape=T) (hr:∃ s:Rn,s.off=false/\s.tape.length<=s.pos/\q.pr.run (Rn.start q.tape)=T.run s):q.settle.Is T:=by
 obtain ⟨s,so,sl,hr⟩:=hr;have F:=q.fo hl;obtain ⟨p1,p2,p3,_,_⟩:=q.settle_play;cases T with
 | ret a=>
  have e:(Pr.ret a).run s=(some a,s):=rfl;rw [e] at hr;rcases F.on rfl with ⟨b,r,e1,e2,e3,e4⟩ | ⟨r,e1,_⟩
  ·rw [hr] at e1;cases e1;have ho:q.play.2.off=false:=e3.off.trans e4
   right
   unfold settle;rw [if_neg (by rw [ho];decide)];exact ⟨rfl,by rw [e2]⟩
  ·rw [hr] at e1;cases e1
 | ask a k=>
  have e:(Pr.ask a k).run s=(none,{ s with off:=true,nx:=a }):=by rw [Sd.run_ask,if_neg (by rw [so];decide),if_neg (by omega)]
  rw [e] at hr;rcases F.on rfl with ⟨b,r,e1,_⟩ | ⟨r,e1,e2,e3,e4⟩
  ·rw [hr] at e1;cases e1
  ·left
   refine ⟨?_,by rw [p1];exact e3,by rw [p2,p3];exact hT,a,k,rfl⟩;unfold settle;rw [if_pos e3];exact hd
 | stop=>
  have e:(Pr.stop:Pr Int).run s=(none,s):=rfl;rw [e] at hr;rcases F.on rfl with ⟨b,r,e1,_⟩ | ⟨r,e1,e2,_⟩
  ·rw [hr] at e1;cases e1
  ·rw [hr] at e1;cases e1;rw [so] at e2;cases e2
theorem is_make (pc a:Int) {b p q:Int}:(Lp.make5 pc a b p q).settle.Is (Lp.make5 pc a b p q).pr:=by
 refine is_settle _ (by show 0+1 < N0;unfold N0;omega) rfl ?_ ⟨Rn.start [],rfl,Nat.le_refl _,rfl⟩;show Pr.res _ []=_;exact Sd.res_nil _
theorem is_step {q:Lp} {T:Pr Int} {d:Mst} (h:q.Is T) (hl:q.tape.length+2 < N0):∃ T',(q.step d).1.Is T'/\Goes T d T' (q.step d).2:=by
 rcases h with ⟨hd,ho,hT,a,k,e⟩ | ⟨hd,hT⟩
 ·have F:=q.fo (by omega);obtain ⟨a',k',e1,e2⟩:=F.next rfl ho;have e1':q.pr.res q.tape=.ask a' k':=e1;rw [hT,e] at e1';cases e1';have es:q.step d=(({ q with tape:=q.tape++[(d.doA a).1] }:Lp).settle,(d.doA a).2):=by
   unfold step;rw [if_neg (by rw [hd];decide),e2]
  rw [es];refine ⟨k (d.doA a).1,?_,.inl ⟨a,k,e,rfl,rfl⟩⟩;have hT':q.pr.res q.tape=.ask a k:=hT.trans e;refine is_settle _ (by show (q.tape++[(d.doA a).1]).length+1 < N0;rw [List.length_append,List.length_singleton];exact hl) hd ?_ ⟨{ Rn.start (q.tape++[(d.doA a).1]) with pos:=0+q.tape.length+1 },rfl,?_,?_⟩
  ·show q.pr.res (q.tape++[(d.doA a).1])=_;exact Sd.res_one _ _ _ _ _ hT'
  ·show (q.tape++[(d.doA a).1]).length<=0+q.tape.length+1;rw [List.length_append,List.length_singleton];omega
  ·exact run_upto _ a k q.tape q.pr (Rn.start (q.tape++[(d.doA a).1])) rfl rfl hT'
 ·refine ⟨T,?_,.inr ⟨⟨_,hT⟩,rfl,?_⟩⟩ <;> (unfold step;rw [if_pos hd])
  exact .inr ⟨hd,hT⟩
theorem step_tape (q:Lp) (d:Mst):(q.step d).1.tape.length<=q.tape.length+1/\(q.step d).1.pc=q.pc/\(q.step d).1.a=q.a:=by
 unfold step
 split
 ·exact ⟨Nat.le_succ _,rfl,rfl⟩
 ·obtain ⟨_,p2,_,p4,p5⟩:=settle_play { q with tape:=q.tape++[(d.doA q.play.2.nx).1] };exact ⟨by rw [p2];simp,by rw [p4],by rw [p5]⟩
theorem Is.end {q:Lp} {T:Pr Int} (h:q.Is T):(q.done=true/\T=.ret q.w)∨(q.done=false/\∃ a k,T=.ask a k):=by
 rcases h with ⟨h1,_,_,h2⟩ | h
 ·exact .inr ⟨h1,h2⟩
 ·exact .inl h
end Lp
section
variable {α:Type}
def hl6 (a s w:Int):Pr Unit:=(Pr.cas s (Rf.ofZ 5 a) w).bind fun _=>.ret ()
def hl5 (a s p:Int):Pr Unit:=(Pr.read (a+p)).bind fun v=>hl6 a s v
def hl4 (a p:Int):Pr Unit:=(Pr.read (a+1)).bind fun s=>hl5 a s p
def hl3 (a:Int):Pr Unit:=(Pr.read (a+4)).bind fun o=>hl4 a (Hp.placeZ o)
def hl2 (a o:Int):Pr Unit:=(Pr.cas (a+4) 0 o).bind fun _=>hl3 a
def hl1 (a g:Int):Pr Unit:=(Pr.read g).bind fun gd=>hl2 a (Hp.outZ gd)
end
end
section
open Go.Shelf
open Sd (Pr)
variable {X Z:Nat->Prop}
set_option maxRecDepth 20000
def WX (i:Nat) (A:Pr Int) (j:Nat) (B:Pr Int) (ix:Ixp):Prop:=∃ g:Sd.Gh,Sd.Inv ix.m g/\(∀ t q,ix.ts[t]? = some q->Sd.TOk t q ix.m g)/\Sd.Safe i A (fun _ _ _=>True) ix.m g/\Sd.Safe j B (fun _ _ _=>True) ix.m g
theorem WX.wi {i j:Nat} {A B:Pr Int} {ix:Ixp} (h:WX i A j B ix):Sd.WI ix:=by
 obtain ⟨g,h1,h2,_⟩:=h;exact ⟨g,h1,h2⟩
theorem wx_goes {i j:Nat} {A A' B:Pr Int} {ix:Ixp} {d:Mst} (h:WX i A j B ix) (hij:i≠j) (hi:ix.ts.length<=i) (G:Goes A ix.m A' d):WX i A' j B { ix with m:=d }/\d.ok/\(7<=ix.m.xs.length->7<=d.xs.length):=by
 obtain ⟨g,hI,hT,hA,hB⟩:=h;rcases G with ⟨q,k,rfl,rfl,rfl⟩ | ⟨_,rfl,rfl⟩
 ·obtain ⟨g2,G2,hs⟩:=hA ix.m g (Sd.Rl.refl hI);refine ⟨⟨g2,G2.inv,fun t p hp p' hp'=>(hT t p hp p' hp').rl (G2.rl ?_),hs,hB.rl (G2.rl hij)⟩,G2.inv.ok,fun h7=>?_⟩
  ·have h1:t < ix.ts.length:=(List.getElem?_eq_some_iff.1 hp).1;omega
  ·have:=G2.ex.len 7 (by unfold Mst.used;simp;omega)
   unfold Mst.used at this;simp at this;omega
 ·exact ⟨⟨g,hI,hT,hA,hB⟩,hI.ok,id⟩
theorem wx_pick {i j:Nat} {A B:Pr Int} {ix:Ixp} {c:Nat} (h:WX i A j B ix) (hi:ix.ts.length<=i) (hj:ix.ts.length<=j) (hg:ix.Gd c) (hc:c<=50000) (t:Nat):WX i A j B (ix.pickZ t).2:=by
 obtain ⟨g,hI,hT,hA,hB⟩:=h;unfold Ixp.pickZ
 split
 ·exact ⟨g,hI,hT,hA,hB⟩
 rename_i q hq;have tl:t < ix.ts.length:=(List.getElem?_eq_some_iff.1 hq).1
 split
 ·exact ⟨g,hI,hT,hA,hB⟩
 rename_i p hp
 split
 ·obtain ⟨g2,G,hF⟩:=Sd.frame_step hI (hT t q hq p hp) (Nat.le_trans (hg.tape t q p hq hp) hc);dsimp only;have em:(q.step p ix.m).2.2=(p.step ix.m).2:=by unfold Tp.step;split <;> rfl
  have ef:(q.step p ix.m).2.1.fr=some (p.step ix.m).1:=by unfold Tp.step;split <;> rfl
  have km:∀ (c i:Nat) (ix:Ixp),(Ixp.takesL c i ix).m=ix.m:=fun c=>by
   induction c with
   | zero=>intro i ix;rfl
   | succ c ih=>
    intro i ix;rw [Ixp.takesL,ih];unfold Ixp.takes1
    split
    ·split <;> rfl
    ·rfl
  refine ⟨g2,?_,fun i q' hq' p' hp'=>?_,?_,?_⟩
  ·show Sd.Inv (Ixp.takesL _ _ _).m g2;rw [km];show Sd.Inv (q.step p ix.m).2.2 g2;rw [em];exact G.inv
  ·show Sd.FOk i p' (Ixp.takesL _ _ _).m g2;rw [km];show Sd.FOk i p' (q.step p ix.m).2.2 g2;rw [em];obtain ⟨q1,h1,h2,_⟩:=Ixp.takesL_ts _ _ _ i q' hq';have h1':(ix.ts.set t (q.step p ix.m).2.1)[i]? = some q1:=h1;rw [List.getElem?_set] at h1'
   split at h1'
   ·rename_i e;cases h1';rw [h2,ef] at hp';cases hp';rw [<- e];exact hF
   ·rename_i e;rw [h2] at hp';exact (hT i q1 h1' p' hp').rl (G.rl e)
  ·show Sd.Safe i A _ (Ixp.takesL _ _ _).m g2;rw [km];show Sd.Safe i A _ (q.step p ix.m).2.2 g2;rw [em];exact hA.rl (G.rl (by omega))
  ·show Sd.Safe j B _ (Ixp.takesL _ _ _).m g2;rw [km];show Sd.Safe j B _ (q.step p ix.m).2.2 g2;rw [em];exact hB.rl (G.rl (by omega))
 ·exact ⟨g,hI,hT,hA,hB⟩
theorem wx_invoke {i j:Nat} {A B:Pr Int} {ix:Ixp} (h:WX i A j B ix) (t:Nat) {k key val:Int} (ik:I64 key) (iv:I64 val):WX i A j B (ix.invokeZ t k key val):=by
 have w:=h.wi;obtain ⟨g,hI,hT,hA,hB⟩:=h;have em:=Ixp.invokeZ_m ix t k key val;have key:∀ g0,(Sd.Inv ix.m g0/\∀ t q,ix.ts[t]? = some q->Sd.TOk t q ix.m g0)->Sd.Inv (ix.invokeZ t k key val).m g0/\∀ t' q,(ix.invokeZ t k key val).ts[t']? = some q->Sd.TOk t' q (ix.invokeZ t k key val).m g0:=by
  rintro g0 ⟨h1,h2⟩;rw [em];refine ⟨h1,?_⟩;unfold Ixp.invokeZ
  split
  ·exact h2
  rename_i q hq
  split
  ·exact h2
  intro i q' hq' p' hp';have hq2:(ix.ts.set t { q.begin k key val with no:=ix.inv })[i]? = some q':=hq';rw [List.getElem?_set] at hq2
  split at hq2
  ·split at hq2
   ·cases hq2;have e:(some (Fp.make k key val q.bud).settle:Option Fp)=some p':=hp';cases e;obtain ⟨ps1,ps2,ps3,ps4,ps5⟩:=Sd.play_settle (Fp.make k key val q.bud);refine ⟨by rw [ps4];exact ik,by rw [ps5];exact iv,fun d=>⟨by rw [ps1];exact Sd.done_settle d,fun _=>?_⟩⟩;rw [ps2,ps3,ps4,ps5];show Sd.Safe i ((Pr.change Sd.N0 k key val Sd.N0).res []) _ _ _;rw [Sd.res_nil];exact Sd.Safe.mono (fun _ _ _ _=>trivial) (Sd.change_safe Sd.N0 (by unfold Sd.N0;omega) ik iv Sd.N0 ix.m g0 h1)
   ·cases hq2
  ·exact h2 i q' hq2 p' hp'
 obtain ⟨k1,k2⟩:=key g ⟨hI,hT⟩;exact ⟨g,k1,k2,by rw [em];exact hA,by rw [em];exact hB⟩
theorem wx_pickY {i j:Nat} {A B:Pr Int} {m:Mst} {ix:Ixp} {c:Nat} (h:WX i A j B ix) (o:YOk m ix c) (hi:3<=i) (hj:3<=j) (hc:c<=6000) (n:Int):WX i A j B (pickY ix n):=by
 have ob:=op_bounds (n.tdiv 3);have w1:=wx_invoke h (n % (ix.ts.length:Int)).toNat (k:=opK (n.tdiv 3)) (key:=opKey (n.tdiv 3)) (val:=opVal (n.tdiv 3)) ⟨by omega,by omega⟩ ⟨by omega,by omega⟩;have g1:=Ixp.invokeZ_gd o.gd (n % (ix.ts.length:Int)).toNat (opK (n.tdiv 3)) (opKey (n.tdiv 3)) (opVal (n.tdiv 3));have hl:=o.len;exact wx_pick w1 (by rw [invokeZ_ts];omega) (by rw [invokeZ_ts];omega) g1 (by omega) _
theorem YOk.goes {m m':Mst} {ix:Ixp} {d:Mst} {c i j:Nat} {A' B:Pr Int} (o:YOk m ix c) (h:WX i A' j B { ix with m:=d }) (h7:7<=d.xs.length) (hx:m'.xs=d.xs) (hz:m'.size=d.size):YOk m' { ix with m:=d } c:=
 ⟨hx,hz,h.wi,⟨o.gd.ts,o.gd.tape,o.gd.bud,o.gd.log⟩,o.len,h7⟩
theorem doc_x (w W:World) (y b x mb f:Nat) (m:Mst) (ix:Ixp) (tp:Sl) (q:Lp) (h:Yx (fun k=>LB f tp k∨Z k) w W y b x mb m ix) (hf:LrIs W w.heap.size f q tp) (hZ:∀ k,Z k->¬ LB f tp k) (hlen:q.tape.length<=15990) (hok:(q.step ix.m).2.ok) :
  Calls Tryz.prog 18 #[.pointer (some ⟨f,0,none⟩),.pointer (some ⟨mb,0,none⟩)] W fun e W'=>e=.returned (.bool (q.step ix.m).1.done)/\∃ tp',Yx (fun k=>LB f tp' k∨Z k) w W' y b x mb m { ix with m:=(q.step ix.m).2 }/\LrIs W' w.heap.size f (q.step ix.m).1 tp'/\Others Z W W'/\∀ k,Z k->¬ LB f tp' k:=by
 obtain ⟨tb,v,mv,tv,lv,pz,h1,h2⟩:=h;refine (lstep_y W w.heap.size y b x mb tb v mv tv lv pz m ix f tp q h1 hf hZ h2.size hlen hok).mono ?_;rintro e W' ⟨rfl,tp',mv',R⟩;have zl:∀ k,Z k->k < W.heap.size:=fun k hk=>h1.ixs.xl (.inr (.inr hk));have nF:∀ k,Z k->¬ Foot mb mv k:=fun k hk=>by
  obtain ⟨⟨c,T,hc,hT⟩,n1,_⟩:=h1.ixs.np k (.inr (.inr hk));rintro (e | e)
  ·have:=h1.ixs.mem.box
   rw [<- e,hc] at this;simp at this;rw [this.2] at hT
   revert hT
   decide
  ·exact n1 e
 refine ⟨rfl,tp',⟨tb,v,mv',tv,lv,pz,R.yd,h2.own (fun k hk=>?_) R.turned⟩,R.fr,fun k c T hk h3 h4=>R.turned.heap hk (fun e=>?_),fun k hk e=>?_⟩
 ·rcases hk with hk | hk
  ·exact (hf.lt hk).2
  ·exact (h1.ixs.mem.lt k hk).1
 ·rcases h3 with h3 | h3
  ·exact e.elim (hZ k h3) (nF k h3)
  ·rcases e with e | e
   ·obtain ⟨c',T',hc',hT⟩:=hf.typed e;rw [hk] at hc';simp at hc';rw [<- hc'.2] at hT;exact h3 (by rcases hT with rfl | rfl <;> simp)
   ·obtain ⟨c',hc'⟩:=h1.ixs.mem.types k e;rw [hk] at hc';simp at hc';rcases hc' with hc' | hc'
    ·exact h3 (by rw [hc'.2];simp)
    ·exact h3 (by rw [hc'.2];simp)
 ·rcases R.new k e with e' | e'
  ·exact hZ k hk e'
  ·have:=zl k hk
   omega
def But (X:Nat->Prop) (F:Nat->Prop) (W W':World):Prop:=∀ (k:Nat) (c:Array Value) (T:TypeId),W.heap[k]? = some (.cells c T)->¬ F k->X k∨T≠2->T≠118->W'.heap[k]? = some (.cells c T)
theorem LrIs.but {W W':World} {n₀ f:Nat} {p:Lp} {tp:Sl} {F:Nat->Prop} (h:LrIs W n₀ f p tp) (t:But X F W W') (hX:∀ k,LB f tp k->X k) (hF:∀ k,LB f tp k->¬ F k):LrIs W' n₀ f p tp:=h.on (fun k c T hk hT e=>t k c T e (hF k hk) (.inl (hX k hk)) (by rcases hT with rfl | rfl <;> decide))
theorem But.of {w W W':World} {y b x mb tb:Nat} {v mv:Value} {tv lv:Sl} {pz:List Pt} {m:Mst} {ix:Ixp} {F:Nat->Prop} (h1:YdIs X W w.heap.size y b x mb tb v mv tv lv pz m ix) (t:Td (fun k=>F k∨Foot b v k) W W'):But X F W W':=fun k c T hk hF h3 h4=>t.heap hk (fun e=>e.elim hF (fun e=>by
 rcases h3 with h3 | h3
 ·rcases e with e | e
  ·have:=h1.pm.box
   rw [<- e,hk] at this;simp at this;exact h4 this.2
  ·exact h1.xv k h3 e
 ·exact h1.pm.other hk h4 h3 e))
end
section
open Go.Shelf
open Sd (Pr)
variable {X Z:Nat->Prop}
set_option maxRecDepth 20000
theorem LrIs.cells {W:World} {n₀ f:Nat} {p:Lp} {tp:Sl} (h:LrIs W n₀ f p tp):W.cell? ⟨f,23,none⟩=some (.bool p.done)/\W.cell? ⟨f,24,none⟩=some (.int .i64 (lowO p.pc p.w).word):=by
 have hb:=h.box;constructor <;> simp [World.cell?,hb,Fm.cs,Lp.fm]
theorem LrIs.cells4 {W:World} {n₀ f:Nat} {p:Lp} {tp:Sl} (h:LrIs W n₀ f p tp) (h4:p.pc=14):W.cell? ⟨f,23,none⟩=some (.bool p.done)/\W.cell? ⟨f,26,none⟩=some (.int .i64 p.w)/\W.cell? ⟨f,37,none⟩=some (.int .i64 p.rc):=by
 have hb:=h.box;have e:(lowO p.pc p.w).n=p.w:=by unfold lowO;rw [if_pos h4]
 refine ⟨?_,?_,?_⟩ <;> simp [World.cell?,hb,Fm.cs,Lp.fm,e]
structure Pj (F:World->Pr Int->Prop) (w W:World) (y b x mb e:Nat) (m:Mst) (ix:Ixp) (c:Nat) (A:Pr Int) (q:Lp) (tp:Sl):Prop where
 yx:Yx (fun k=>LB e tp k∨NoP k) w W y b x mb m ix
 lr:LrIs W w.heap.size e q tp
 fr:F W A
 is:q.Is A
 ok:YOk m ix c
 wx:WX 3 A 4 (.ret 0) ix
structure Pm (F:World->Pr Int->Prop) (w W:World) (y b x mb e:Nat) (m m1:Mst) (ix:Ixp) (c:Nat) (A A1:Pr Int) (q:Lp) (tp:Sl):Prop where
 yx:Yx (fun k=>LB e tp k∨NoP k) w W y b x mb m1 ix
 lr:LrIs W w.heap.size e q tp
 fr:A1≠.stop->F W A1
 is:q.Is A
 ok:YOk m ix c
 wx:WX 3 A 4 (.ret 0) ix
 go:Goes A m A1 m1
section
variable {F F':World->Pr Int->Prop} {w W W':World} {y b x mb e:Nat} {m m1:Mst} {ix:Ixp} {c:Nat} {A A1:Pr Int} {q:Lp} {tp:Sl}
theorem Pj.kept (h:Pj F w W y b x mb e m ix c A q tp) (k:Kept W W') (hF:F W A->F W' A):Pj F w W' y b x mb e m ix c A q tp:=⟨h.yx.kept k,h.lr.kept k,hF h.fr,h.is,h.ok,h.wx⟩
theorem Pj.cells (h:Pj F w W y b x mb e m ix c A q tp):(W.cell? ⟨y,0,none⟩=some (.pointer (some ⟨b,0,none⟩))/\W.cell? ⟨y,1,none⟩=some (.pointer (some ⟨x,0,none⟩))/\W.cell? ⟨x,3,none⟩=some (.pointer (some ⟨mb,0,none⟩)))/\W.cell? ⟨e,23,none⟩=some (.bool q.done)/\W.cell? ⟨e,24,none⟩=some (.int .i64 (lowO q.pc q.w).word):=⟨h.yx.cells,h.lr.cells⟩
theorem Pm.cells (h:Pm F w W y b x mb e m m1 ix c A A1 q tp):W.cell? ⟨y,0,none⟩=some (.pointer (some ⟨b,0,none⟩))/\W.cell? ⟨y,1,none⟩=some (.pointer (some ⟨x,0,none⟩))/\W.cell? ⟨x,3,none⟩=some (.pointer (some ⟨mb,0,none⟩)):=h.yx.cells
theorem pj_pick (h:Pj F w W y b x mb e m ix c A q tp) (hF:∀ W',Others (fun k=>LB e tp k∨NoP k) W W'->F W A->F W' A) (hc:c<=6000) (n:Int) (iz:I64 n) :
  Calls Tryz.prog 16 #[.pointer (some ⟨y,0,none⟩),.int .i64 n] W fun r W'=>r=.returned (.tuple #[])/\∃ m' ix',Pj F w W' y b x mb e m' ix' (c+2) A q tp:=by
 refine (pick_x w W y b x mb m ix c h.yx h.ok hc n iz).mono ?_;rintro r W' ⟨rfl,m',h1,h2,h3⟩;exact ⟨rfl,m',_,h1,h.lr.others h3 (fun _ e=>.inl e),hF W' h3 h.fr,h.is,h2,wx_pickY h.wx h.ok (by omega) (by omega) hc n⟩
theorem pm_doc (h:Pm F w W y b x mb e m m1 ix c A A1 q tp) (hF:∀ W',Others NoP W W'->F W A1->F W' A1) (hl:q.tape.length<=15990) :
  Calls Tryz.prog 18 #[.pointer (some ⟨e,0,none⟩),.pointer (some ⟨mb,0,none⟩)] W fun r W'=>∃ ix' q' tp',r=.returned (.bool q'.done)/\Pj F w W' y b x mb e m1 ix' c A1 q' tp'/\q'.tape.length<=q.tape.length+1/\q'.pc=q.pc/\q'=(q.step ix.m).1/\A1≠.stop/\(q.done=false->q.w=0->q'.done=false->q'.w=0):=by
 obtain ⟨T',i1,g1⟩:=Lp.is_step (d:=ix.m) h.is (by unfold Lp.N0;omega);obtain ⟨e1,e2,e3⟩:=h.go.same g1 h.ok.xs h.ok.size;rw [<- e1] at i1 g1;obtain ⟨w1,o1,b1⟩:=wx_goes h.wx (by omega) (by rw [h.ok.len];omega) g1;refine (doc_x w W y b x mb e m1 ix tp q h.yx h.lr (fun _ e=>e.elim) hl o1).mono ?_;rintro r W' ⟨rfl,tp',h1,h2,h3,_⟩;have ns:A1≠.stop:=fun e=>by
  rcases i1.end with ⟨_,e'⟩ | ⟨_,a,k,e'⟩ <;> (rw [e] at e';cases e')
 refine ⟨{ ix with m:=(q.step ix.m).2 },_,tp',rfl,⟨h1,h2,hF W' h3 (h.fr ns),i1,h.ok.goes w1 (b1 h.ok.big) e2 e3,w1⟩,(q.step_tape ix.m).1,(q.step_tape ix.m).2.1,rfl,ns,fun d0 hw d1=>?_⟩;unfold Lp.step at d1 ⊢;rw [if_neg (by rw [d0];decide)] at d1 ⊢;unfold Lp.settle at d1 ⊢
 split
 ·exact hw
 ·rename_i hh;rw [if_neg hh] at d1;cases d1
end
theorem doc_new5 (w W:World) (y b x mb:Nat) (m:Mst) (ix:Ixp) (h:Yx Z w W y b x mb m ix) (pc a ab ap aq:Int) (hg:IsLow pc a) :
  Calls Tryz.prog 13 #[.int .i64 pc,.agg #[.int .i64 a,.int .i64 ab,.int .i64 0,.int .i64 ap,.int .i64 aq,.int .i64 0,.int .i64 0,.bool false,.int .i64 0,.bool false,.slice none 0 0,.slice none 0 0,.slice none 0 0,.slice none 0 0,.slice none 0 0,.int .i64 0,.int .i64 0,.int .i64 0,.int .i64 0,.int .i64 0,.int .i64 0]] W fun r W'=>∃ e,r=.returned (.pointer (some ⟨e,0,none⟩))/\Yx (fun k=>LB e Sl.nil k∨Z k) w W' y b x mb m ix/\LrIs W' w.heap.size e (Lp.make5 pc a ab ap aq).settle Sl.nil/\(∀ k,Z k->¬ LB e Sl.nil k)/\Kept W W':=by
 obtain ⟨tb,v,mv,tv,lv,pz,h1,h2⟩:=h;refine (lnew_r W pc a ab ap aq hg).mono ?_;rintro r W' ⟨e,rfl,hf,hk⟩;refine ⟨e,rfl,⟨tb,v,mv,tv,lv,pz,h1.add hk hf,h2.trans hk⟩,hf.low h2.size,fun k hz hl=>?_,hk⟩
 have:=(hf.lt hl).2
 have:=h1.ixs.xl (.inr hz)
 omega
theorem quo_i64 {z k:Int} (h:I64 z) (hk:0 < k):I64 (z.tdiv k):=by
 obtain ⟨h1,h2⟩:=h;obtain ⟨t,ht⟩:∃ t,z.tdiv k=t:=⟨_,rfl⟩;rw [ht]
 by_cases hz:0<=z
 ·have a:=Int.tdiv_nonneg hz (Int.le_of_lt hk);have b:=Int.tdiv_le_self k hz;rw [ht] at a b;exact ⟨by omega,by omega⟩
 ·have hz':0<=-z:=by omega
  have a:=Int.tdiv_nonneg hz' (Int.le_of_lt hk);have b:=Int.tdiv_le_self k hz';rw [Int.neg_tdiv,ht] at a b;exact ⟨by omega,by omega⟩
end
namespace Sd
variable {m m':Mst} {g g':Gh}
end Sd
section
open Go.Shelf
open Sd (Pr)
variable {X X' Z:Nat->Prop}
set_option maxRecDepth 20000
section
variable {w W W':World} {y b x mb:Nat} {m m1:Mst} {ix:Ixp} {c i f e:Nat} {p:Hp} {q:Lp} {tp:Sl} {A A1:Pr Int} {j f' e':Nat} {p':Hp} {q':Lp} {tp':Sl} {A':Pr Int}
end
end
section
set_option maxRecDepth 20000
theorem dcss13 (w:World) (g p k v:Int):Calls Tryz.prog 70 #[.int .i64 g,.int .i64 p,.int .i64 k,.int .i64 v] w (Fresh [g,p,k,v,0] w):=by
 go_enter Tryz.func70,Tryz.ntmps70;go_wp2;go_ret;exact ⟨_,rfl,row_new w 2 [g,p,k,v,0] _ (Nat.le_refl _) (by simp),Td.alloc _ _ _⟩
def kr2:Mst:=⟨[1,0,0,0,0,57,0],20,3,0,0⟩
end
section
structure Dp where
 n:Int
 g:Int
 s:Int
 o:Int
 x:Int
 r:Int
 c:Int
namespace Dp
def new (g s o x:Int):Dp:=⟨0,g,s,o,x,0,0⟩
def ws (p:Dp):List Int:=[p.g,p.s,p.o,p.x,0]
def cameZ (b:Bool):Int:=if b=true then 1 else 2
def w (p:Dp):Int:=Rf.ofZ 5 p.r
def becomes (p:Dp):Int:=if p.c=1 then p.x else p.o
def step (p:Dp) (m:Mst):Dp × Mst:=
 if p.n=0 then (if m.fits 5=true then { p with r:=m.next p.ws,n:=1 } else { p with c:=3,n:=6 },m.make p.ws)
 else if p.n=1 then (if m.did p.s p.o=true then { p with n:=2 } else { p with c:=0,n:=6 },m.cas p.s p.o p.w)
 else if p.n=2 then ({ p with c:=cameZ (m.look p.g == 0),n:=3 },m.touch p.g)
 else if p.n=3 then ({ p with n:=4 },m.cas (p.r+4) 0 p.c)
 else if p.n=4 then ({ p with c:=cameZ (m.look (p.r+4) == 1),n:=5 },m.touch (p.r+4))
 else if p.n=5 then ({ p with n:=6 },m.cas p.s p.w p.becomes)
 else (p,m)
end Dp
end
section
open Sd (Pr Fo)
def dl5 (p A v z:Int):Pr Int:=(Pr.cas p (Rf.ofZ 5 A) v).bind fun _=>.ret z
def dl4 (p old x A:Int):Pr Int:=(Pr.read (wrap64 (A+4))).bind fun o=>if o=1 then dl5 p A x 1 else dl5 p A old 2
def dl3 (p old x A c:Int):Pr Int:=(Pr.cas (wrap64 (A+4)) 0 c).bind fun _=>dl4 p old x A
def dl2 (gd p old x A:Int):Pr Int:=(Pr.read gd).bind fun q=>dl3 p old x A (if q=0 then 1 else 2)
def dl1 (gd p old x A:Int):Pr Int:=(Pr.cas p old (Rf.ofZ 5 A)).bind fun c=>if c=true then dl2 gd p old x A else .ret 0
theorem dcss_dl (gd p old x:Int):Pr.dcss gd p old x=(Pr.make [gd,p,old,x,0]).bind fun A=>if 0 < A then dl1 gd p old x A else .ret 3:=rfl
def DpT (p:Dp) (T:Pr Int):Prop:=(0<=p.r/\p.r<=65536)/\
 ((p.n=0/\T=Pr.dcss p.g p.s p.o p.x)∨(p.n=1/\T=dl1 p.g p.s p.o p.x p.r)∨(p.n=2/\T=dl2 p.g p.s p.o p.x p.r)∨(p.n=3/\T=dl3 p.s p.o p.x p.r p.c)∨(p.n=4/\T=dl4 p.s p.o p.x p.r)∨(p.n=5/\T=dl5 p.s p.r p.becomes p.c)∨(p.n=6/\T=.ret p.c))
theorem DpT.ns {p:Dp} {T:Pr Int} (h:DpT p T):0<=p.n/\p.n<=6:=by
 rcases h.2 with ⟨e,_⟩ | ⟨e,_⟩ | ⟨e,_⟩ | ⟨e,_⟩ | ⟨e,_⟩ | ⟨e,_⟩ | ⟨e,_⟩ <;> omega
theorem DpT.end {p:Dp} {T:Pr Int} (h:DpT p T):((p.n == 6)=true/\T=.ret p.c)∨((p.n == 6)=false/\∃ a k,T=.ask a k):=by
 rcases h.2 with ⟨e,rfl⟩ | ⟨e,rfl⟩ | ⟨e,rfl⟩ | ⟨e,rfl⟩ | ⟨e,rfl⟩ | ⟨e,rfl⟩ | ⟨e,rfl⟩
 ·exact .inr ⟨by rw [e];rfl,_,_,rfl⟩
 ·exact .inr ⟨by rw [e];rfl,_,_,rfl⟩
 ·exact .inr ⟨by rw [e];rfl,_,_,rfl⟩
 ·exact .inr ⟨by rw [e];rfl,_,_,rfl⟩
 ·exact .inr ⟨by rw [e];rfl,_,_,rfl⟩
 ·exact .inr ⟨by rw [e];rfl,_,_,rfl⟩
 ·exact .inl ⟨by rw [e];rfl,rfl⟩
theorem DpT.new (gd s o x:Int):DpT (Dp.new gd s o x) (Pr.dcss gd s o x):=⟨⟨by show (0:Int)<=0;decide,by show (0:Int)<=65536;decide⟩,.inl ⟨rfl,rfl⟩⟩
theorem DpT.step {p:Dp} {T:Pr Int} {m:Mst} (h:DpT p T) (hz:m.size<=65536):∃ T',DpT (p.step m).1 T'/\Goes T m T' (p.step m).2:=by
 obtain ⟨hb,h⟩:=h;have no:∀ {i j:Int},i≠j->p.n=i->¬ p.n=j:=fun h e=>by rw [e];exact h
 have w4:wrap64 (p.r+4)=p.r+4:=Rf.wrap_same (by omega) (by omega);unfold Dp.step;rcases h with ⟨e,rfl⟩ | ⟨e,rfl⟩ | ⟨e,rfl⟩ | ⟨e,rfl⟩ | ⟨e,rfl⟩ | ⟨e,rfl⟩ | ⟨e,rfl⟩
 ·rw [if_pos e]
  by_cases hf:m.fits 5=true
  ·rw [if_pos hf];have hn:m.next p.ws=(m.xs.length:Int)+1:=by
    unfold Mst.next;rw [if_pos (show m.fits p.ws.length=true from hf)]
   have hl:(m.xs.length:Int)+5<=m.size:=by
    unfold Mst.fits at hf;simp at hf;omega
   refine ⟨dl1 p.g p.s p.o p.x (m.next p.ws),⟨by dsimp only;rw [hn];omega,.inr (.inl ⟨rfl,rfl⟩)⟩,.inl ⟨⟨5,0,0,0,p.ws⟩,_,rfl,?_,rfl⟩⟩;show _=(if 0 < m.next p.ws then dl1 p.g p.s p.o p.x (m.next p.ws) else .ret 3);rw [if_pos (by rw [hn];omega)]
  ·rw [if_neg hf];have hn:m.next p.ws=0:=by
    unfold Mst.next;rw [if_neg (show ¬ m.fits p.ws.length=true from hf)]
   refine ⟨.ret 3,⟨hb,.inr (.inr (.inr (.inr (.inr (.inr ⟨rfl,rfl⟩)))))⟩,.inl ⟨⟨5,0,0,0,p.ws⟩,_,rfl,?_,rfl⟩⟩;show _=(if 0 < m.next p.ws then dl1 p.g p.s p.o p.x (m.next p.ws) else .ret 3);rw [if_neg (by rw [hn];omega)]
 ·rw [if_neg (no (by decide) e),if_pos e]
  by_cases hd:m.did p.s p.o=true
  ·rw [if_pos hd];refine ⟨_,⟨hb,.inr (.inr (.inl ⟨rfl,rfl⟩))⟩,.inl ⟨⟨3,p.s,p.o,Rf.ofZ 5 p.r,[]⟩,_,rfl,?_,rfl⟩⟩;show _=(if ((if m.did p.s p.o=true then (1:Int) else 0) == 1)=true then dl2 p.g p.s p.o p.x p.r else .ret 0);rw [if_pos hd];rfl
  ·rw [if_neg hd];refine ⟨.ret 0,⟨hb,.inr (.inr (.inr (.inr (.inr (.inr ⟨rfl,rfl⟩)))))⟩,.inl ⟨⟨3,p.s,p.o,Rf.ofZ 5 p.r,[]⟩,_,rfl,?_,rfl⟩⟩;show _=(if ((if m.did p.s p.o=true then (1:Int) else 0) == 1)=true then dl2 p.g p.s p.o p.x p.r else .ret 0);rw [if_neg hd];rfl
 ·rw [if_neg (no (by decide) e),if_neg (no (by decide) e),if_pos e];refine ⟨dl3 p.s p.o p.x p.r (Dp.cameZ (m.look p.g == 0)),⟨hb,.inr (.inr (.inr (.inl ⟨rfl,rfl⟩)))⟩,.inl ⟨⟨1,p.g,0,0,[]⟩,_,rfl,?_,rfl⟩⟩;show _=dl3 p.s p.o p.x p.r (if m.look p.g=0 then 1 else 2);unfold Dp.cameZ
  by_cases q:m.look p.g=0
  ·rw [if_pos q,if_pos (by simpa using q)]
  ·rw [if_neg q,if_neg (by simpa using q)]
 ·rw [if_neg (no (by decide) e),if_neg (no (by decide) e),if_neg (no (by decide) e),if_pos e];refine ⟨dl4 p.s p.o p.x p.r,⟨hb,.inr (.inr (.inr (.inr (.inl ⟨rfl,rfl⟩))))⟩,.inl ⟨⟨3,wrap64 (p.r+4),0,p.c,[]⟩,_,rfl,rfl,?_⟩⟩;dsimp only;rw [w4];rfl
 ·rw [if_neg (no (by decide) e),if_neg (no (by decide) e),if_neg (no (by decide) e),if_neg (no (by decide) e),if_pos e];refine ⟨dl5 p.s p.r (if m.look (p.r+4)=1 then p.x else p.o) (Dp.cameZ (m.look (p.r+4) == 1)),⟨hb,.inr (.inr (.inr (.inr (.inr (.inl ⟨rfl,?_⟩)))))⟩,.inl ⟨⟨1,wrap64 (p.r+4),0,0,[]⟩,_,rfl,?_,?_⟩⟩
  ·unfold Dp.becomes Dp.cameZ;dsimp only
   by_cases q:m.look (p.r+4)=1
   ·rw [if_pos q,if_pos (by simpa using q),if_pos rfl]
   ·rw [if_neg q,if_neg (by simpa using q),if_neg (by decide)]
  ·show _=(if m.look (wrap64 (p.r+4))=1 then dl5 p.s p.r p.x 1 else dl5 p.s p.r p.o 2);rw [w4];unfold Dp.cameZ
   by_cases q:m.look (p.r+4)=1
   ·rw [if_pos q,if_pos q,if_pos (by simpa using q)]
   ·rw [if_neg q,if_neg q,if_neg (by simpa using q)]
  ·dsimp only;rw [w4];rfl
 ·rw [if_neg (no (by decide) e),if_neg (no (by decide) e),if_neg (no (by decide) e),if_neg (no (by decide) e),if_neg (no (by decide) e),if_pos e];exact ⟨.ret p.c,⟨hb,.inr (.inr (.inr (.inr (.inr (.inr ⟨rfl,rfl⟩)))))⟩,.inl ⟨⟨3,p.s,p.w,p.becomes,[]⟩,_,rfl,rfl,rfl⟩⟩
 ·rw [if_neg (no (by decide) e),if_neg (no (by decide) e),if_neg (no (by decide) e),if_neg (no (by decide) e),if_neg (no (by decide) e),if_neg (no (by decide) e)];exact ⟨_,⟨hb,.inr (.inr (.inr (.inr (.inr (.inr ⟨e,rfl⟩)))))⟩,.inr ⟨⟨_,rfl⟩,rfl,rfl⟩⟩
theorem dp_both {p:Dp} {q:Lp} {A:Pr Int} (h:DpT p A) (k:q.Is A):(p.n == 6)=q.done/\(q.done=true->p.c=q.w):=by
 rcases h.end with ⟨a1,a2⟩ | ⟨a1,a,f,a2⟩
 ·rcases k.end with ⟨b1,b2⟩ | ⟨_,a',f',b2⟩
  ·rw [a2] at b2;exact ⟨a1.trans b1.symm,fun _=>Sd.Pr.ret.inj b2⟩
  ·rw [a2] at b2;cases b2
 ·rcases k.end with ⟨b1,b2⟩ | ⟨b1,_⟩
  ·rw [a2] at b2;cases b2
  ·exact ⟨a1.trans b1.symm,fun e=>(by rw [b1] at e;cases e)⟩
theorem Dp.step_up (p:Dp) (m:Mst) (h:0<=p.n/\p.n<=5):p.n+1<=(p.step m).1.n:=by
 have no:∀ {i j:Int},i≠j->p.n=i->¬ p.n=j:=fun h e=>by rw [e];exact h
 unfold Dp.step;rcases (by omega:p.n=0∨p.n=1∨p.n=2∨p.n=3∨p.n=4∨p.n=5) with e | e | e | e | e | e
 ·rw [if_pos e];dsimp only
  split
  ·show p.n+1<=1;omega
  ·show p.n+1<=6;omega
 ·rw [if_neg (no (by decide) e),if_pos e];dsimp only
  split
  ·show p.n+1<=2;omega
  ·show p.n+1<=6;omega
 ·rw [if_neg (no (by decide) e),if_neg (no (by decide) e),if_pos e];show p.n+1<=3;omega
 ·rw [if_neg (no (by decide) e),if_neg (no (by decide) e),if_neg (no (by decide) e),if_pos e];show p.n+1<=4;omega
 ·rw [if_neg (no (by decide) e),if_neg (no (by decide) e),if_neg (no (by decide) e),if_neg (no (by decide) e),if_pos e];show p.n+1<=5;omega
 ·rw [if_neg (no (by decide) e),if_neg (no (by decide) e),if_neg (no (by decide) e),if_neg (no (by decide) e),if_neg (no (by decide) e),if_pos e];show p.n+1<=6;omega
theorem Rn.ask_rc (s:Rn) (q:Ak):(s.ask q).2.rc=s.rc:=by
 unfold ask
 split
 ·rfl
 ·split <;> rfl
def rcT (tape:List Int):Int:=if 0 < tape.headD 0 then tape.headD 0 else 0
theorem dcss_rc (tape:List Int) (g p o x:Int):((Rn.start tape).dcss g p o x).2.rc=rcT tape:=by
 have hm:((Rn.start tape).make [g,p,o,x,0]).1=tape.headD 0:=by
  unfold Rn.make Rn.ask Rn.start;cases tape with
  | nil=>rfl
  | cons z t=>rfl
 have h0:((Rn.start tape).make [g,p,o,x,0]).2.rc=0:=Rn.ask_rc _ _;unfold Rn.dcss rcT;dsimp only;rw [hm];have cs:∀ (s:Rn) (a b c:Int),(s.cas a b c).2.rc=s.rc:=fun s a b c=>Rn.ask_rc _ _;have rd:∀ (s:Rn) (a:Int),(s.read a).2.rc=s.rc:=fun s a=>Rn.ask_rc _ _
 split
 ·repeat' split
  all_goals simp only [cs,rd]
 ·exact h0
theorem Lp.settle_rc (q:Lp):q.settle.rc=q.play.2.rc:=by
 unfold settle
 split <;> rfl
theorem Lp.Is.next {q:Lp} {T:Pr Int} {a:Ak} {k:Int->Pr Int} (h:q.Is T) (e:T=.ask a k) (hl:q.tape.length+1 < N0):q.done=false/\q.play.2.nx=a:=by
 rcases h with ⟨hd,ho,hT,_⟩ | ⟨_,hT⟩
 ·obtain ⟨a',k',e1,e2⟩:=(q.fo hl).next rfl ho;have e1':q.pr.res q.tape=.ask a' k':=e1;rw [hT,e] at e1';cases e1';exact ⟨hd,e2⟩
 ·rw [hT] at e;cases e
structure DcTr (p:Dp) (q:Lp):Prop where
 pc:q.pc=14
 tp:(p.n=0/\q.tape=[]/\p.r=0)∨(p.n≠0/\∃ z t,q.tape=z :: t/\p.r=z/\0<=z)
 rc:q.rc=p.r
theorem lp_rc {q:Lp} (h:q.pc=14):q.play.2.rc=rcT q.tape:=by
 unfold Lp.play lowP;rw [if_neg (by rw [h];decide),if_neg (by rw [h];decide),if_neg (by rw [h];decide)];exact dcss_rc _ _ _ _ _
theorem DcTr.new (g s o x:Int):DcTr (Dp.new g s o x) (Lp.make5 14 g s o x).settle:=by
 obtain ⟨p1,p2,_,p4,_⟩:=(Lp.make5 14 g s o x).settle_play;refine ⟨p4,.inl ⟨rfl,p2,rfl⟩,?_⟩;rw [Lp.settle_rc,lp_rc rfl];rfl
theorem DcTr.step {p:Dp} {q:Lp} {A:Pr Int} {m d:Mst} (h:DcTr p q) (hT:DpT p A) (hI:q.Is A) (hx:m.xs=d.xs) (hz:m.size=d.size) (hd:q.done=false) (hl:q.tape.length+1 < Lp.N0):DcTr (p.step m).1 (q.step d).1:=by
 have n6:(p.n == 6)=false:=(dp_both hT hI).1.trans hd;have es:(q.step d).1=({ q with tape:=q.tape++[(d.doA q.play.2.nx).1] }:Lp).settle:=by
  unfold Lp.step;rw [if_neg (by rw [hd];decide)]
 obtain ⟨_,p2,_,p4,_⟩:=Lp.settle_play { q with tape:=q.tape++[(d.doA q.play.2.nx).1] };have rc':(q.step d).1.rc=rcT (q.tape++[(d.doA q.play.2.nx).1]):=by
  rw [es,Lp.settle_rc];exact lp_rc (q:={ q with tape:=q.tape++[(d.doA q.play.2.nx).1] }) h.pc
 have up:=p.step_up m (by have:=hT.ns;have:p.n≠6:=(by simpa using n6);omega);have tp:∃ z t,q.tape++[(d.doA q.play.2.nx).1]=z :: t/\(p.step m).1.r=z/\0<=z:=by
  rcases h.tp with ⟨e,et,er⟩ | ⟨e,z,t,et,er,ez⟩
  ·have hA:A=Pr.dcss p.g p.s p.o p.x:=by
    rcases hT.2 with ⟨_,q⟩ | ⟨q,_⟩ | ⟨q,_⟩ | ⟨q,_⟩ | ⟨q,_⟩ | ⟨q,_⟩ | ⟨q,_⟩
    ·exact q
    all_goals omega
   obtain ⟨_,nx⟩:=hI.next (a:=⟨5,0,0,0,p.ws⟩) (by rw [hA,dcss_dl];rfl) hl;have ez:(d.doA q.play.2.nx).1=m.next p.ws:=by
    rw [nx];exact (doA_same hx hz ⟨5,0,0,0,p.ws⟩).1.symm
   refine ⟨m.next p.ws,[],by rw [et,ez];rfl,?_,?_⟩
   ·unfold Dp.step;rw [if_pos e];dsimp only
    by_cases hf:m.fits 5=true
    ·rw [if_pos hf]
    ·rw [if_neg hf];unfold Mst.next;rw [if_neg (show ¬ m.fits p.ws.length=true from hf)];exact er
   ·unfold Mst.next
    split <;> omega
  ·refine ⟨z,t++[(d.doA q.play.2.nx).1],by rw [et];rfl,?_,ez⟩;rw [<- er];unfold Dp.step;rw [if_neg e]
   repeat (first
    | rfl
    | split
    | (dsimp only;split))
 refine ⟨by rw [es,p4];exact h.pc,?_,?_⟩
 ·rw [es,p2]
  right
  exact ⟨by have:=hT.ns;omega,tp⟩
 ·rw [rc'];obtain ⟨z,t,e1,e2,e3⟩:=tp;rw [e1,e2];unfold rcT;show (if 0 < z then z else 0)=z
  split <;> omega
end
section
set_option maxRecDepth 20000
attribute [local go_sem] Oper.semAt_some
def DpAt (W:World) (f:Nat) (p:Dp):Prop:=W.heap[f]? = some (.cells #[.int .i64 p.n,.int .i64 p.g,.int .i64 p.s,.int .i64 p.o,.int .i64 p.x,.int .i64 p.r,.int .i64 p.c] 129)
theorem DpAt.turned {W W':World} {f:Nat} {p:Dp} {R:Nat->Prop} (h:DpAt W f p) (t:Td R W W') (hR:¬ R f):DpAt W' f p:=t.heap h hR
theorem DpAt.kept {W W':World} {f:Nat} {p:Dp} (h:DpAt W f p) (t:Kept W W'):DpAt W' f p:=t.heap h id
theorem DpAt.lt {W:World} {f:Nat} {p:Dp} (h:DpAt W f p):f < W.heap.size:=(Array.getElem?_eq_some_iff.1 h).1
theorem DpAt.cells {W:World} {f:Nat} {p:Dp} (h:DpAt W f p):(W.cell? ⟨f,0,none⟩=some (.int .i64 p.n)/\W.cell? ⟨f,1,none⟩=some (.int .i64 p.g)/\W.cell? ⟨f,2,none⟩=some (.int .i64 p.s)/\W.cell? ⟨f,3,none⟩=some (.int .i64 p.o)/\W.cell? ⟨f,4,none⟩=some (.int .i64 p.x)/\W.cell? ⟨f,5,none⟩=some (.int .i64 p.r)/\W.cell? ⟨f,6,none⟩=some (.int .i64 p.c))/\∀ i,W.frozen? ⟨f,i,none⟩=false:=by
 have hb:W.heap[f]? = _:=h;simp [World.cell?,World.frozen?,hb]
theorem dp_new (W:World) (g s o x:Int):Calls Tryz.prog 42 #[.int .i64 g,.int .i64 s,.int .i64 o,.int .i64 x] W fun e W'=>e=.returned (.pointer (some ⟨W.heap.size,0,none⟩))/\DpAt W' W.heap.size (Dp.new g s o x)/\Kept W W':=by
 go_enter Tryz.func42,Tryz.ntmps42;go_wp2;go_ret;exact ⟨rfl,heap_new _ _,Td.alloc _ _ _⟩
theorem dp_done (W:World) (f:Nat) (p:Dp) (h:DpAt W f p) (r:Bool) (e1:(p.n == 6)=r):Calls Tryz.prog 44 #[.pointer (some ⟨f,0,none⟩)] W fun e W'=>e=.returned (.bool r)/\W=W':=by
 obtain ⟨⟨c0,_⟩,_⟩:=h.cells;subst e1;clear h;go_enter Tryz.func44,Tryz.ntmps44;go_wp2;go_ret;exact ⟨rfl,rfl⟩
theorem dp_rec (W:World) (f:Nat) (p:Dp) (h:DpAt W f p) (r:Int) (e1:p.r=r):Calls Tryz.prog 45 #[.pointer (some ⟨f,0,none⟩)] W fun e W'=>e=.returned (.int .i64 r)/\W=W':=by
 obtain ⟨⟨_,_,_,_,_,c5,_⟩,_⟩:=h.cells;subst e1;clear h;go_enter Tryz.func45,Tryz.ntmps45;go_wp2;go_ret;exact ⟨rfl,rfl⟩
theorem dp_outcome (W:World) (f:Nat) (p:Dp) (h:DpAt W f p) (r:Int) (e1:(if p.n=6 then p.c else 0)=r):Calls Tryz.prog 46 #[.pointer (some ⟨f,0,none⟩)] W fun e W'=>e=.returned (.int .i64 r)/\W=W':=by
 obtain ⟨⟨_,_,_,_,_,_,c6⟩,_⟩:=h.cells;have H:=gh h
 by_cases hn:p.n=6
 ·rw [if_pos hn] at e1;subst e1;have g:(p.n == 6)=true:=by simp [hn]
  have G:=gh g;clear h g hn;go_enter Tryz.func46,Tryz.ntmps46;go_wp2_with (fail);refine (dp_done W f p H.o true G.o).mono ?_;rintro e w' ⟨rfl,rfl⟩;go_wp2;go_ret;exact ⟨rfl,rfl⟩
 ·rw [if_neg hn] at e1;subst e1;have g:(p.n == 6)=false:=by simp [hn]
  have G:=gh g;clear h g hn c6;go_enter Tryz.func46,Tryz.ntmps46;go_wp2_with (fail);refine (dp_done W f p H.o false G.o).mono ?_;rintro e w' ⟨rfl,rfl⟩;go_wp2;go_ret;exact ⟨rfl,rfl⟩
theorem came_q (W:World) (z:Bool) (r:Int) (e1:Dp.cameZ z=r):Calls Tryz.prog 84 #[.bool z] W fun e W'=>e=.returned (.int .i64 r)/\W=W':=by
 subst e1;cases z
 all_goals
  go_enter Tryz.func84,Tryz.ntmps84;go_wp2;go_ret;exact ⟨rfl,rfl⟩
theorem dp_word (W:World) (f:Nat) (p:Dp) (h:DpAt W f p) (r:Int) (e1:p.w=r):Calls Tryz.prog 83 #[.pointer (some ⟨f,0,none⟩)] W fun e W'=>e=.returned (.int .i64 r)/\W=W':=by
 obtain ⟨⟨_,_,_,_,_,c5,_⟩,_⟩:=h.cells;have E1:Hid (Rf.ofZ 5 p.r=r):=gh e1;clear h e1;go_enter Tryz.func83,Tryz.ntmps83;go_wp2_with (fail);refine (of_q W 5 p.r r E1.o).mono ?_;rintro e w' ⟨rfl,rfl⟩;go_wp2;go_ret;exact ⟨rfl,rfl⟩
theorem dp_becomes (W:World) (f:Nat) (p:Dp) (h:DpAt W f p) (r:Int) (e1:p.becomes=r):Calls Tryz.prog 85 #[.pointer (some ⟨f,0,none⟩)] W fun e W'=>e=.returned (.int .i64 r)/\W=W':=by
 obtain ⟨⟨_,_,_,c3,c4,_,c6⟩,_⟩:=h.cells;unfold Dp.becomes at e1;clear h;obtain ⟨c,hc⟩:∃ c,p.c=c:=⟨_,rfl⟩;rw [hc] at c6 e1;clear hc
 by_cases h1:c=1
 ·rw [if_pos h1] at e1;subst e1 h1;go_enter Tryz.func85,Tryz.ntmps85;go_wp2;go_ret;exact ⟨rfl,rfl⟩
 ·rw [if_neg h1] at e1;subst e1;have g:(c == 1)=false:=by simp [h1]
  go_enter Tryz.func85,Tryz.ntmps85;go_wp2;go_ret;exact ⟨rfl,rfl⟩
theorem dp_end (W:World) (f:Nat) (p:Dp) (h:DpAt W f p) (c:Int):Calls Tryz.prog 82 #[.pointer (some ⟨f,0,none⟩),.int .i64 c] W fun e W'=>e=.returned (.bool true)/\DpAt W' f { p with c:=c,n:=6 }/\Td (fun k=>k=f) W W':=by
 obtain ⟨⟨c0,c1,c2,c3,c4,c5,c6⟩,df⟩:=h.cells;have df0:=df 0;have df6:=df 6;have H:=gh h;obtain ⟨W2,hW2⟩:∃ W2,(W.setCell ⟨f,6,none⟩ (.int .i64 c)).setCell ⟨f,0,none⟩ (.int .i64 6)=W2:=⟨_,rfl⟩;have HW2:=gh hW2;clear h df hW2;go_enter Tryz.func82,Tryz.ntmps82;go_wp2;go_ret;rw [HW2.o];refine ⟨rfl,?_,?_⟩
 ·have hb:W.heap[f]? = _:=H.o;rw [<- HW2.o];simp [DpAt,World.setCell,Array.getElem?_modify,hb]
 ·rw [<- HW2.o];exact (Td.setCell (R:=fun k=>k=f) _ _ _ rfl).trans (Td.setCell (R:=fun k=>k=f) _ _ _ rfl) (fun _ e=>e) (fun _ _ e=>e)
structure DpRan (W:World) (n₀ b:Nat) (v:Value) (f:Nat) (p:Dp) (m:Mst) (v':Value) (W':World):Prop where
 frame:DpAt W' f p
 mem:PMem W' n₀ b v' m
 turned:Td (fun k=>k=f∨Foot b v k) W W'
 foot:∀ k,Foot b v' k->Foot b v k∨W.heap.size<=k
set_option maxHeartbeats 8000000 in
theorem dp_step (W:World) (n₀ b:Nat) (v:Value) (f:Nat) (p:Dp) (m:Mst) (h:DpAt W f p) (hm:PMem W n₀ b v m) (hn₀:n₀<=W.heap.size) (hn:0<=p.n/\p.n<=6) (hr:0<=p.r/\p.r<=1000000) (ho:∀ a,I64 (m.look a)) (hf:¬ Foot b v f) (p':Dp) (m':Mst) (r:Bool) (e1:p.step m=(p',m')) (e2:(p'.n == 6)=r) :
  Calls Tryz.prog 43 #[.pointer (some ⟨f,0,none⟩),.pointer (some ⟨b,0,none⟩)] W fun e W'=>e=.returned (.bool r)/\∃ v',DpRan W n₀ b v f p' m' v' W':=by
 obtain ⟨⟨c0,c1,c2,c3,c4,c5,c6⟩,fz⟩:=h.cells;have H:=gh h;have HM:=gh hm;have HO:=gh ho;have HF:=gh hf;have HR:=gh e2;have HN:=gh hn₀;obtain ⟨n1,n2⟩:=hn;obtain ⟨r1,r2⟩:=hr;have D0:∀ (q:Bool),(p.n == 6)=q->Calls Tryz.prog 44 #[.pointer (some ⟨f,0,none⟩)] W fun e W'=>e=.returned (.bool q)/\W=W':=fun q hq=>dp_done W f p h q hq;unfold Dp.step at e1;obtain ⟨n,g,s,o,x,rr,c⟩:=p;simp only at c0 c1 c2 c3 c4 c5 c6 e1 n1 n2 r1 r2 D0;obtain rfl | rfl | rfl | rfl | rfl | rfl | rfl:n=0∨n=1∨n=2∨n=3∨n=4∨n=5∨n=6:=by omega
 ·have ne:((0:Int) == 6)=false:=by decide
  simp (config:={ decide:=true }) only [reduceIte] at e1
  by_cases hfit:m.fits 5=true
  ·rw [if_pos hfit] at e1;obtain ⟨rfl,rfl⟩:=Prod.mk.inj e1;obtain ⟨z,hz⟩:∃ z,m.next (Dp.ws ⟨0,g,s,o,x,rr,c⟩)=z:=⟨_,rfl⟩;have HZ:=gh hz;have FIT:Hid (m.fits [g,s,o,x,0].length=true):=gh hfit;obtain ⟨V,hV⟩:∃ V,W.drew=V:=⟨_,rfl⟩;have kV:Kept W V:=by rw [<- hV];exact Kept.drew _
   obtain ⟨⟨v0,v1,v2,v3,v4,v5,v6⟩,_⟩:=(h.kept kV).cells;have x1:∀ u:Wd (fun U=>Td (Foot b v) V U),u.w.cell? ⟨f,1,none⟩=some (.int .i64 g):=fun u=>u.ok.cell v1 hf;have x2:∀ u:Wd (fun U=>Td (Foot b v) V U),u.w.cell? ⟨f,2,none⟩=some (.int .i64 s):=fun u=>u.ok.cell v2 hf;have x3:∀ u:Wd (fun U=>Td (Foot b v) V U),u.w.cell? ⟨f,3,none⟩=some (.int .i64 o):=fun u=>u.ok.cell v3 hf;have x4:∀ u:Wd (fun U=>Td (Foot b v) V U),u.w.cell? ⟨f,4,none⟩=some (.int .i64 x):=fun u=>u.ok.cell v4 hf;have HV:=gh hV;have KV:=gh kV;have FV:=gh (h.kept kV);have MV:=gh (hm.kept kV);clear hV kV v0 v1 v2 v3 v4 v5 v6;clear h hm ho hf e2 hn₀ e1 hfit hz;go_enter Tryz.func43,Tryz.ntmps43;go_wp2_with (fail);refine (D0 false ne).mono ?_;rintro e w' ⟨rfl,rfl⟩;clear D0;go_wp2_with (fail);refine region_wide [0,1,2,3,4,5,6,7,8,9,10,11,12,13,14,15,16,17,18,19,20,21,22,23] (fun U=>Td (Foot b v) V U) (by kernel_rfl) (by kernel_rfl) (by rw [HV.o];exact Td.refl _ _) (fun _=>?_);rw [HV.o]
   repeat (refine pq rfl rfl ?_;go_big_quiet_step (fail);refine wpQuiet_nil ?_)
   refine pl rfl rfl ?_;gi_wp2_with (fail);refine ⟨trivial,?_⟩;refine (callsIn_wide.2 (dcss13 V g s o x)).mono ?_;intro e WF hF;obtain ⟨fa,fc,rfl,hrd,hc1,hc2,hnew,_,hk⟩:=hF.form;have MF:=gh (MV.o.kept hk);have FF:=gh (FV.o.kept hk);have KF:Hid (Td (Foot b v) V WF):=gh (hk.mono (fun _ _ e=>e.elim));have HRD:=gh hrd;have HNB:Hid (∀ ad,fa=some ad->ad.block≠b):=gh (fun ad e=>by have h1:=hnew ad e;have h2:=(MV.o.lt b (.inl rfl)).2;omega);have SZ:Hid (n₀<=WF.heap.size):=gh (Nat.le_trans HN.o (Nat.le_trans KV.o.size hk.size));clear hF hrd hc1 hc2 hnew hk;gi_wp2_with (fail);refine ⟨Wd.mem KF.o,?_⟩;refine pl rfl rfl ?_;gi_wp2_with (fail);refine ⟨trivial,?_⟩;refine (callsIn_wide.2 (make_p WF n₀ b v m fa [g,s,o,x,0] fc MF.o SZ.o HRD.o (by unfold maxLen;simp) (fun _=>HNB.o))).mono ?_;rw [FIT.o];rw [show m.next [g,s,o,x,0]=z from HZ.o];rintro e W1 ⟨rfl,vv,m1,t1,ft⟩;have T9:Hid (Td (Foot b v) V W1):=gh (KF.o.trans t1 (fun _ e=>e) (fun _ _ e=>e));have M1:=gh m1;have T1:Hid (Td (Foot b v) W W1):=gh (KV.o.then T9.o);have F1:=gh (FV.o.turned T9.o HF.o);have FT:Hid (∀ k,Foot b vv k->Foot b v k∨W.heap.size<=k):=gh (fun k hk=>(ft k hk).imp id (fun e=>Nat.le_trans (Nat.le_trans KV.o.size KF.o.size) e));have HF':Hid (¬ Foot b vv f):=gh (fun e=>(FT.o f e).elim HF.o (fun e=>by have:=H.o.lt;omega));clear m1 t1 ft;gi_wp2_with (fail);refine ⟨Wd.mem T9.o,?_⟩
   repeat (refine pq rfl rfl ?_;go_big_quiet_step (rfl);refine wpQuiet_nil ?_)
   refine perm_done ?_;clear x1 x2 x3 x4;obtain ⟨⟨d0,d1,d2,d3,d4,d5,d6⟩,df⟩:=F1.o.cells;have df0:=df 0;have df5:=df 5;simp only at d0 d1 d2 d3 d4 d5 d6;obtain ⟨W2,hW2⟩:∃ W2,(W1.setCell ⟨f,5,none⟩ (.int .i64 z)).setCell ⟨f,0,none⟩ (.int .i64 1)=W2:=⟨_,rfl⟩;have F2:DpAt W2 f ⟨1,g,s,o,x,z,c⟩:=by
    have hb:W1.heap[f]? = _:=F1.o;rw [<- hW2];simp [DpAt,World.setCell,Array.getElem?_modify,hb]
   have T2:Td (fun k=>k=f) W1 W2:=by
    rw [<- hW2];exact (Td.setCell (R:=fun k=>k=f) _ _ _ rfl).trans (Td.setCell (R:=fun k=>k=f) _ _ _ rfl) (fun _ e=>e) (fun _ _ e=>e)
   have HF2:=gh F2;have HT2:=gh T2;have HW2:=gh hW2;clear F2 T2 hW2 df;go_wp2_with (fail);rw [HW2.o];refine (dp_done W2 f _ HF2.o r (by have:=HR.o;simpa using this)).mono ?_;rintro e W3 ⟨rfl,rfl⟩;go_wp2;go_ret;exact ⟨rfl,vv,by rw [HZ.o];exact HF2.o,M1.o.turned HT2.o (fun k hk e=>HF'.o (by rw [<- e];exact hk)),T1.o.trans HT2.o (fun _ e=>.inr e) (fun _ _ e=>.inl e),FT.o⟩
  ·rw [if_neg hfit] at e1;obtain ⟨rfl,rfl⟩:=Prod.mk.inj e1;have HZ:Hid (m.next [g,s,o,x,0]=0):=gh (by unfold Mst.next;exact if_neg hfit);have FIT:Hid (m.fits [g,s,o,x,0].length=false):=gh (by simpa using hfit);obtain ⟨V,hV⟩:∃ V,W.drew=V:=⟨_,rfl⟩;have kV:Kept W V:=by rw [<- hV];exact Kept.drew _
   obtain ⟨⟨v0,v1,v2,v3,v4,v5,v6⟩,_⟩:=(h.kept kV).cells;have x1:∀ u:Wd (fun U=>Td (Foot b v) V U),u.w.cell? ⟨f,1,none⟩=some (.int .i64 g):=fun u=>u.ok.cell v1 hf;have x2:∀ u:Wd (fun U=>Td (Foot b v) V U),u.w.cell? ⟨f,2,none⟩=some (.int .i64 s):=fun u=>u.ok.cell v2 hf;have x3:∀ u:Wd (fun U=>Td (Foot b v) V U),u.w.cell? ⟨f,3,none⟩=some (.int .i64 o):=fun u=>u.ok.cell v3 hf;have x4:∀ u:Wd (fun U=>Td (Foot b v) V U),u.w.cell? ⟨f,4,none⟩=some (.int .i64 x):=fun u=>u.ok.cell v4 hf;have HV:=gh hV;have KV:=gh kV;have FV:=gh (h.kept kV);have MV:=gh (hm.kept kV);clear hV kV v0 v1 v2 v3 v4 v5 v6;clear h hm ho hf e2 hn₀ e1 hfit;go_enter Tryz.func43,Tryz.ntmps43;go_wp2_with (fail);refine (D0 false ne).mono ?_;rintro e w' ⟨rfl,rfl⟩;clear D0;go_wp2_with (fail);refine region_wide [0,1,2,3,4,5,6,7,8,9,10,11,12,13,14,15,16,17,18,19,20,21,22,23] (fun U=>Td (Foot b v) V U) (by kernel_rfl) (by kernel_rfl) (by rw [HV.o];exact Td.refl _ _) (fun _=>?_);rw [HV.o]
   repeat (refine pq rfl rfl ?_;go_big_quiet_step (fail);refine wpQuiet_nil ?_)
   refine pl rfl rfl ?_;gi_wp2_with (fail);refine ⟨trivial,?_⟩;refine (callsIn_wide.2 (dcss13 V g s o x)).mono ?_;intro e WF hF;obtain ⟨fa,fc,rfl,hrd,hc1,hc2,hnew,_,hk⟩:=hF.form;have MF:=gh (MV.o.kept hk);have FF:=gh (FV.o.kept hk);have KF:Hid (Td (Foot b v) V WF):=gh (hk.mono (fun _ _ e=>e.elim));have HRD:=gh hrd;have HNB:Hid (∀ ad,fa=some ad->ad.block≠b):=gh (fun ad e=>by have h1:=hnew ad e;have h2:=(MV.o.lt b (.inl rfl)).2;omega);have SZ:Hid (n₀<=WF.heap.size):=gh (Nat.le_trans HN.o (Nat.le_trans KV.o.size hk.size));clear hF hrd hc1 hc2 hnew hk;gi_wp2_with (fail);refine ⟨Wd.mem KF.o,?_⟩;refine pl rfl rfl ?_;gi_wp2_with (fail);refine ⟨trivial,?_⟩;refine (callsIn_wide.2 (make_p WF n₀ b v m fa [g,s,o,x,0] fc MF.o SZ.o HRD.o (by unfold maxLen;simp) (fun _=>HNB.o))).mono ?_;rw [FIT.o];rw [show m.next [g,s,o,x,0]=0 from HZ.o];rintro e W1 ⟨rfl,vv,m1,t1,ft⟩;have T9:Hid (Td (Foot b v) V W1):=gh (KF.o.trans t1 (fun _ e=>e) (fun _ _ e=>e));have M1:=gh m1;have T1:Hid (Td (Foot b v) W W1):=gh (KV.o.then T9.o);have F1:=gh (FV.o.turned T9.o HF.o);have FT:Hid (∀ k,Foot b vv k->Foot b v k∨W.heap.size<=k):=gh (fun k hk=>(ft k hk).imp id (fun e=>Nat.le_trans (Nat.le_trans KV.o.size KF.o.size) e));have HF':Hid (¬ Foot b vv f):=gh (fun e=>(FT.o f e).elim HF.o (fun e=>by have:=H.o.lt;omega));clear m1 t1 ft;gi_wp2_with (fail);refine ⟨Wd.mem T9.o,?_⟩
   repeat (refine pq rfl rfl ?_;go_big_quiet_step (rfl);refine wpQuiet_nil ?_)
   refine perm_done ?_;clear x1 x2 x3 x4;go_wp2_with (fail);refine (dp_end W1 f _ F1.o 3).mono ?_;rintro e W2 ⟨rfl,f2,t2⟩;have F2:=gh f2;have T2:=gh t2;clear f2 t2;go_wp2;go_ret;exact ⟨by have:=HR.o;simpa using this,vv,F2.o,M1.o.turned T2.o (fun k hk e=>HF'.o (by rw [<- e];exact hk)),T1.o.trans T2.o (fun _ e=>.inr e) (fun _ _ e=>.inl e),FT.o⟩
 ·have ne:((1:Int) == 6)=false:=by decide
  simp (config:={ decide:=true }) only [reduceIte] at e1
  by_cases hd:m.did s o=true
  ·rw [if_pos hd] at e1;obtain ⟨rfl,rfl⟩:=Prod.mk.inj e1;obtain ⟨me,hme⟩:∃ me,Dp.w ⟨1,g,s,o,x,rr,c⟩=me:=⟨_,rfl⟩;have HME:=gh hme;have HD:Hid (m.did s o=true):=gh (by simpa using hd);obtain ⟨V,hV⟩:∃ V,W.drew=V:=⟨_,rfl⟩;have kV:Kept W V:=by rw [<- hV];exact Kept.drew _
   obtain ⟨⟨v0,v1,v2,v3,v4,v5,v6⟩,_⟩:=(h.kept kV).cells;have x2:∀ u:Wd (fun U=>Td (Foot b v) V U),u.w.cell? ⟨f,2,none⟩=some (.int .i64 s):=fun u=>u.ok.cell v2 hf;have x3:∀ u:Wd (fun U=>Td (Foot b v) V U),u.w.cell? ⟨f,3,none⟩=some (.int .i64 o):=fun u=>u.ok.cell v3 hf;have HV:=gh hV;have KV:=gh kV;have FV:=gh (h.kept kV);have MV:=gh (hm.kept kV);clear hV kV v0 v1 v2 v3 v4 v5 v6;have CO:∀ X,DpAt X f ⟨1,g,s,o,x,rr,c⟩->Calls Tryz.prog 83 #[.pointer (some ⟨f,0,none⟩)] X fun e X'=>e=.returned (.int .i64 me)/\X=X':=fun X hX=>dp_word X f _ hX me HME.o;clear h hm ho hf e2 hn₀ e1 hd hme;go_enter Tryz.func43,Tryz.ntmps43;go_wp2_with (fail);refine (D0 false ne).mono ?_;rintro e w' ⟨rfl,rfl⟩;clear D0;go_wp2_with (fail);refine region_wide [0,1,2,3,4,5,6,7,8,9,10,11,12] (fun U=>Td (Foot b v) V U) (by kernel_rfl) (by kernel_rfl) (by rw [HV.o];exact Td.refl _ _) (fun _=>?_);rw [HV.o]
   repeat (refine pq rfl rfl ?_;go_big_quiet_step (fail);refine wpQuiet_nil ?_)
   refine pl rfl rfl ?_;gi_wp2_with (fail);refine ⟨trivial,?_⟩;refine (callsIn_wide.2 (CO V FV.o)).mono ?_;rintro e w' ⟨rfl,rfl⟩;gi_wp2_with (fail);refine ⟨Wd.mem (Td.refl _ _),?_⟩;refine pl rfl rfl ?_;gi_wp2_with (fail);refine ⟨trivial,?_⟩;refine (callsIn_wide.2 (cas_p V n₀ b v m s o me MV.o)).mono ?_;rw [HD.o];rintro e W1 ⟨rfl,m1,t1⟩;have T9:Hid (Td (Foot b v) V W1):=gh (t1);have M1:=gh m1;have T1:Hid (Td (Foot b v) W W1):=gh (KV.o.then T9.o);have F1:=gh (FV.o.turned T9.o HF.o);clear m1 t1;gi_wp2_with (fail);refine ⟨Wd.mem T9.o,?_⟩
   repeat (refine pq rfl rfl ?_;go_big_quiet_step (rfl);refine wpQuiet_nil ?_)
   refine perm_done ?_;clear x2 x3 CO;obtain ⟨⟨d0,d1,d2,d3,d4,d5,d6⟩,df⟩:=F1.o.cells;have df0:=df 0;simp only at d0 d1 d2 d3 d4 d5 d6;obtain ⟨W2,hW2⟩:∃ W2,W1.setCell ⟨f,0,none⟩ (.int .i64 2)=W2:=⟨_,rfl⟩;have F2:DpAt W2 f ⟨2,g,s,o,x,rr,c⟩:=by
    have hb:W1.heap[f]? = _:=F1.o;rw [<- hW2];simp [DpAt,World.setCell,Array.getElem?_modify,hb]
   have T2:Td (fun k=>k=f) W1 W2:=by
    rw [<- hW2];exact Td.setCell (R:=fun k=>k=f) _ _ _ rfl
   have HF2:=gh F2;have HT2:=gh T2;have HW2:=gh hW2;clear F2 T2 hW2 df;go_wp2_with (fail);rw [HW2.o];refine (dp_done W2 f _ HF2.o r (by have:=HR.o;simpa using this)).mono ?_;rintro e W3 ⟨rfl,rfl⟩;go_wp2;go_ret;exact ⟨rfl,v,HF2.o,by rw [HME.o];exact M1.o.turned HT2.o (fun k hk e=>HF.o (by rw [<- e];exact hk)),T1.o.trans HT2.o (fun _ e=>.inr e) (fun _ _ e=>.inl e),fun k hk=>.inl hk⟩
  ·rw [if_neg hd] at e1;obtain ⟨rfl,rfl⟩:=Prod.mk.inj e1;obtain ⟨me,hme⟩:∃ me,Dp.w ⟨1,g,s,o,x,rr,c⟩=me:=⟨_,rfl⟩;have HME:=gh hme;have HD:Hid (m.did s o=false):=gh (by simpa using hd);obtain ⟨V,hV⟩:∃ V,W.drew=V:=⟨_,rfl⟩;have kV:Kept W V:=by rw [<- hV];exact Kept.drew _
   obtain ⟨⟨v0,v1,v2,v3,v4,v5,v6⟩,_⟩:=(h.kept kV).cells;have x2:∀ u:Wd (fun U=>Td (Foot b v) V U),u.w.cell? ⟨f,2,none⟩=some (.int .i64 s):=fun u=>u.ok.cell v2 hf;have x3:∀ u:Wd (fun U=>Td (Foot b v) V U),u.w.cell? ⟨f,3,none⟩=some (.int .i64 o):=fun u=>u.ok.cell v3 hf;have HV:=gh hV;have KV:=gh kV;have FV:=gh (h.kept kV);have MV:=gh (hm.kept kV);clear hV kV v0 v1 v2 v3 v4 v5 v6;have CO:∀ X,DpAt X f ⟨1,g,s,o,x,rr,c⟩->Calls Tryz.prog 83 #[.pointer (some ⟨f,0,none⟩)] X fun e X'=>e=.returned (.int .i64 me)/\X=X':=fun X hX=>dp_word X f _ hX me HME.o;clear h hm ho hf e2 hn₀ e1 hd hme;go_enter Tryz.func43,Tryz.ntmps43;go_wp2_with (fail);refine (D0 false ne).mono ?_;rintro e w' ⟨rfl,rfl⟩;clear D0;go_wp2_with (fail);refine region_wide [0,1,2,3,4,5,6,7,8,9,10,11,12] (fun U=>Td (Foot b v) V U) (by kernel_rfl) (by kernel_rfl) (by rw [HV.o];exact Td.refl _ _) (fun _=>?_);rw [HV.o]
   repeat (refine pq rfl rfl ?_;go_big_quiet_step (fail);refine wpQuiet_nil ?_)
   refine pl rfl rfl ?_;gi_wp2_with (fail);refine ⟨trivial,?_⟩;refine (callsIn_wide.2 (CO V FV.o)).mono ?_;rintro e w' ⟨rfl,rfl⟩;gi_wp2_with (fail);refine ⟨Wd.mem (Td.refl _ _),?_⟩;refine pl rfl rfl ?_;gi_wp2_with (fail);refine ⟨trivial,?_⟩;refine (callsIn_wide.2 (cas_p V n₀ b v m s o me MV.o)).mono ?_;rw [HD.o];rintro e W1 ⟨rfl,m1,t1⟩;have T9:Hid (Td (Foot b v) V W1):=gh (t1);have M1:=gh m1;have T1:Hid (Td (Foot b v) W W1):=gh (KV.o.then T9.o);have F1:=gh (FV.o.turned T9.o HF.o);clear m1 t1;gi_wp2_with (fail);refine ⟨Wd.mem T9.o,?_⟩
   repeat (refine pq rfl rfl ?_;go_big_quiet_step (rfl);refine wpQuiet_nil ?_)
   refine perm_done ?_;clear x2 x3 CO;go_wp2_with (fail);refine (dp_end W1 f _ F1.o 0).mono ?_;rintro e W2 ⟨rfl,f2,t2⟩;have F2:=gh f2;have T2:=gh t2;clear f2 t2;go_wp2;go_ret;exact ⟨by have:=HR.o;simpa using this,v,F2.o,by rw [HME.o];exact M1.o.turned T2.o (fun k hk e=>HF.o (by rw [<- e];exact hk)),T1.o.trans T2.o (fun _ e=>.inr e) (fun _ _ e=>.inl e),fun k hk=>.inl hk⟩
 ·have ne:((2:Int) == 6)=false:=by decide
  simp (config:={ decide:=true }) only [reduceIte] at e1;obtain ⟨z,hz⟩:∃ z,m.look (g)=z:=⟨_,rfl⟩;rw [hz] at e1;obtain ⟨rfl,rfl⟩:=Prod.mk.inj e1;have HZ:=gh hz;obtain ⟨z1,z2⟩:I64 z:=by rw [<- hz];exact ho _
  obtain ⟨t,ht⟩:∃ t,(z == 0)=t:=⟨_,rfl⟩;obtain ⟨y,hy⟩:∃ y,Dp.cameZ t=y:=⟨_,rfl⟩;have HY:Hid (Dp.cameZ (z == 0)=y):=gh (by rw [ht];exact hy);have HY2:=gh hy;clear h hm ho hf e2 hn₀ e1 hz hy;go_enter Tryz.func43,Tryz.ntmps43;go_wp2_with (fail);refine (D0 false ne).mono ?_;rintro e w' ⟨rfl,rfl⟩;clear D0;go_wp2_with (fail);refine (read_p _ n₀ b v m (g) HM.o).mono ?_;rw [HZ.o];rintro e W1 ⟨rfl,m1,t1⟩;have M1:=gh m1;have T1:Hid (Td (Foot b v) W W1):=gh (t1.mono (fun _ _ e=>.inl e));have F1:=gh (H.o.turned T1.o HF.o);clear m1 t1;go_wp2_with (fail);refine (came_q _ t y HY2.o).mono ?_;rintro e w' ⟨rfl,rfl⟩;obtain ⟨⟨d0,d1,d2,d3,d4,d5,d6⟩,df⟩:=F1.o.cells;have df0:=df 0;have df6:=df 6;simp only at d0 d1 d2 d3 d4 d5 d6;obtain ⟨W2,hW2⟩:∃ W2,(W1.setCell ⟨f,6,none⟩ (.int .i64 y)).setCell ⟨f,0,none⟩ (.int .i64 3)=W2:=⟨_,rfl⟩;have F2:DpAt W2 f ⟨3,g,s,o,x,rr,y⟩:=by
   have hb:W1.heap[f]? = _:=F1.o;rw [<- hW2];simp [DpAt,World.setCell,Array.getElem?_modify,hb]
  have T2:Td (fun k=>k=f) W1 W2:=by
   rw [<- hW2];exact (Td.setCell (R:=fun k=>k=f) _ _ _ rfl).trans (Td.setCell (R:=fun k=>k=f) _ _ _ rfl) (fun _ e=>e) (fun _ _ e=>e)
  have HF2:=gh F2;have HT2:=gh T2;have HW2:=gh hW2;clear F2 T2 hW2 df;go_wp2_with (fail);rw [HW2.o];refine (dp_done W2 f _ HF2.o r (by have:=HR.o;simpa using this)).mono ?_;rintro e W3 ⟨rfl,rfl⟩;go_wp2;go_ret;exact ⟨rfl,v,by rw [HY.o];exact HF2.o,M1.o.turned HT2.o (fun k hk e=>HF.o (by rw [<- e];exact hk)),T1.o.trans HT2.o (fun _ e=>.inr e) (fun _ _ e=>.inl e),fun k hk=>.inl hk⟩
 ·have ne:((3:Int) == 6)=false:=by decide
  simp (config:={ decide:=true }) only [reduceIte] at e1;obtain ⟨rfl,rfl⟩:=Prod.mk.inj e1;obtain ⟨V,hV⟩:∃ V,W.drew=V:=⟨_,rfl⟩;have kV:Kept W V:=by rw [<- hV];exact Kept.drew _
  obtain ⟨⟨v0,v1,v2,v3,v4,v5,v6⟩,_⟩:=(h.kept kV).cells;have x5:∀ u:Wd (fun U=>Td (Foot b v) V U),u.w.cell? ⟨f,5,none⟩=some (.int .i64 rr):=fun u=>u.ok.cell v5 hf;have x6:∀ u:Wd (fun U=>Td (Foot b v) V U),u.w.cell? ⟨f,6,none⟩=some (.int .i64 c):=fun u=>u.ok.cell v6 hf;have HV:=gh hV;have KV:=gh kV;have FV:=gh (h.kept kV);have MV:=gh (hm.kept kV);clear hV kV v0 v1 v2 v3 v4 v5 v6;clear h hm ho hf e2 hn₀ e1;go_enter Tryz.func43,Tryz.ntmps43;go_wp2_with (fail);refine (D0 false ne).mono ?_;rintro e w' ⟨rfl,rfl⟩;clear D0;go_wp2_with (fail);refine region_wide [0,1,2,3,4,5,6,7,8,9,10] (fun U=>Td (Foot b v) V U) (by kernel_rfl) (by kernel_rfl) (by rw [HV.o];exact Td.refl _ _) (fun _=>?_);rw [HV.o]
  repeat (refine pq rfl rfl ?_;go_big_quiet_step (fail);refine wpQuiet_nil ?_)
  refine pl rfl rfl ?_;gi_wp2_with (fail);refine ⟨trivial,?_⟩;refine (callsIn_wide.2 (cas_p V n₀ b v m (rr+4) 0 c MV.o)).mono ?_;rintro e W1 ⟨rfl,m1,t1⟩;have T9:Hid (Td (Foot b v) V W1):=gh (t1);have M1:=gh m1;have T1:Hid (Td (Foot b v) W W1):=gh (KV.o.then T9.o);have F1:=gh (FV.o.turned T9.o HF.o);clear m1 t1;gi_wp2_with (fail);refine ⟨Wd.mem T9.o,?_⟩;refine perm_done ?_;clear x5 x6;obtain ⟨⟨d0,d1,d2,d3,d4,d5,d6⟩,df⟩:=F1.o.cells;have df0:=df 0;simp only at d0 d1 d2 d3 d4 d5 d6;obtain ⟨W2,hW2⟩:∃ W2,W1.setCell ⟨f,0,none⟩ (.int .i64 4)=W2:=⟨_,rfl⟩;have F2:DpAt W2 f ⟨4,g,s,o,x,rr,c⟩:=by
   have hb:W1.heap[f]? = _:=F1.o;rw [<- hW2];simp [DpAt,World.setCell,Array.getElem?_modify,hb]
  have T2:Td (fun k=>k=f) W1 W2:=by
   rw [<- hW2];exact Td.setCell (R:=fun k=>k=f) _ _ _ rfl
  have HF2:=gh F2;have HT2:=gh T2;have HW2:=gh hW2;clear F2 T2 hW2 df;go_wp2_with (fail);rw [HW2.o];refine (dp_done W2 f _ HF2.o r (by have:=HR.o;simpa using this)).mono ?_;rintro e W3 ⟨rfl,rfl⟩;go_wp2;go_ret;exact ⟨rfl,v,HF2.o,M1.o.turned HT2.o (fun k hk e=>HF.o (by rw [<- e];exact hk)),T1.o.trans HT2.o (fun _ e=>.inr e) (fun _ _ e=>.inl e),fun k hk=>.inl hk⟩
 ·have ne:((4:Int) == 6)=false:=by decide
  simp (config:={ decide:=true }) only [reduceIte] at e1;obtain ⟨z,hz⟩:∃ z,m.look (rr+4)=z:=⟨_,rfl⟩;rw [hz] at e1;obtain ⟨rfl,rfl⟩:=Prod.mk.inj e1;have HZ:=gh hz;obtain ⟨z1,z2⟩:I64 z:=by rw [<- hz];exact ho _
  obtain ⟨t,ht⟩:∃ t,(z == 1)=t:=⟨_,rfl⟩;obtain ⟨y,hy⟩:∃ y,Dp.cameZ t=y:=⟨_,rfl⟩;have HY:Hid (Dp.cameZ (z == 1)=y):=gh (by rw [ht];exact hy);have HY2:=gh hy;clear h hm ho hf e2 hn₀ e1 hz hy;go_enter Tryz.func43,Tryz.ntmps43;go_wp2_with (fail);refine (D0 false ne).mono ?_;rintro e w' ⟨rfl,rfl⟩;clear D0;go_wp2_with (fail);refine (read_p _ n₀ b v m (rr+4) HM.o).mono ?_;rw [HZ.o];rintro e W1 ⟨rfl,m1,t1⟩;have M1:=gh m1;have T1:Hid (Td (Foot b v) W W1):=gh (t1.mono (fun _ _ e=>.inl e));have F1:=gh (H.o.turned T1.o HF.o);clear m1 t1;go_wp2_with (fail);refine (came_q _ t y HY2.o).mono ?_;rintro e w' ⟨rfl,rfl⟩;obtain ⟨⟨d0,d1,d2,d3,d4,d5,d6⟩,df⟩:=F1.o.cells;have df0:=df 0;have df6:=df 6;simp only at d0 d1 d2 d3 d4 d5 d6;obtain ⟨W2,hW2⟩:∃ W2,(W1.setCell ⟨f,6,none⟩ (.int .i64 y)).setCell ⟨f,0,none⟩ (.int .i64 5)=W2:=⟨_,rfl⟩;have F2:DpAt W2 f ⟨5,g,s,o,x,rr,y⟩:=by
   have hb:W1.heap[f]? = _:=F1.o;rw [<- hW2];simp [DpAt,World.setCell,Array.getElem?_modify,hb]
  have T2:Td (fun k=>k=f) W1 W2:=by
   rw [<- hW2];exact (Td.setCell (R:=fun k=>k=f) _ _ _ rfl).trans (Td.setCell (R:=fun k=>k=f) _ _ _ rfl) (fun _ e=>e) (fun _ _ e=>e)
  have HF2:=gh F2;have HT2:=gh T2;have HW2:=gh hW2;clear F2 T2 hW2 df;go_wp2_with (fail);rw [HW2.o];refine (dp_done W2 f _ HF2.o r (by have:=HR.o;simpa using this)).mono ?_;rintro e W3 ⟨rfl,rfl⟩;go_wp2;go_ret;exact ⟨rfl,v,by rw [HY.o];exact HF2.o,M1.o.turned HT2.o (fun k hk e=>HF.o (by rw [<- e];exact hk)),T1.o.trans HT2.o (fun _ e=>.inr e) (fun _ _ e=>.inl e),fun k hk=>.inl hk⟩
 ·have ne:((5:Int) == 6)=false:=by decide
  simp (config:={ decide:=true }) only [reduceIte] at e1;obtain ⟨rfl,rfl⟩:=Prod.mk.inj e1;obtain ⟨me,hme⟩:∃ me,Dp.w ⟨5,g,s,o,x,rr,c⟩=me:=⟨_,rfl⟩;have HME:=gh hme;obtain ⟨be,hbe⟩:∃ be,Dp.becomes ⟨5,g,s,o,x,rr,c⟩=be:=⟨_,rfl⟩;have HBE:=gh hbe;obtain ⟨V,hV⟩:∃ V,W.drew=V:=⟨_,rfl⟩;have kV:Kept W V:=by rw [<- hV];exact Kept.drew _
  obtain ⟨⟨v0,v1,v2,v3,v4,v5,v6⟩,_⟩:=(h.kept kV).cells;have x2:∀ u:Wd (fun U=>Td (Foot b v) V U),u.w.cell? ⟨f,2,none⟩=some (.int .i64 s):=fun u=>u.ok.cell v2 hf;have HV:=gh hV;have KV:=gh kV;have FV:=gh (h.kept kV);have MV:=gh (hm.kept kV);clear hV kV v0 v1 v2 v3 v4 v5 v6;have CO:∀ X,DpAt X f ⟨5,g,s,o,x,rr,c⟩->Calls Tryz.prog 83 #[.pointer (some ⟨f,0,none⟩)] X fun e X'=>e=.returned (.int .i64 me)/\X=X':=fun X hX=>dp_word X f _ hX me HME.o;have CB:∀ X,DpAt X f ⟨5,g,s,o,x,rr,c⟩->Calls Tryz.prog 85 #[.pointer (some ⟨f,0,none⟩)] X fun e X'=>e=.returned (.int .i64 be)/\X=X':=fun X hX=>dp_becomes X f _ hX be HBE.o;clear h hm ho hf e2 hn₀ e1 hme hbe;go_enter Tryz.func43,Tryz.ntmps43;go_wp2_with (fail);refine (D0 false ne).mono ?_;rintro e w' ⟨rfl,rfl⟩;clear D0;go_wp2_with (fail);refine region_wide [0,1,2,3,4,5,7,6,8,9] (fun U=>Td (Foot b v) V U) (by kernel_rfl) (by kernel_rfl) (by rw [HV.o];exact Td.refl _ _) (fun _=>?_);rw [HV.o]
  repeat (refine pq rfl rfl ?_;go_big_quiet_step (fail);refine wpQuiet_nil ?_)
  refine pl rfl rfl ?_;gi_wp2_with (fail);refine ⟨trivial,?_⟩;refine (callsIn_wide.2 (CO V FV.o)).mono ?_;rintro e w' ⟨rfl,rfl⟩;gi_wp2_with (fail);refine ⟨Wd.mem (Td.refl _ _),?_⟩;refine pl rfl rfl ?_;gi_wp2_with (fail);refine ⟨trivial,?_⟩;refine (callsIn_wide.2 (CB V FV.o)).mono ?_;rintro e w' ⟨rfl,rfl⟩;gi_wp2_with (fail);refine ⟨Wd.mem (Td.refl _ _),?_⟩;refine pl rfl rfl ?_;gi_wp2_with (fail);refine ⟨trivial,?_⟩;refine (callsIn_wide.2 (cas_p V n₀ b v m s me be MV.o)).mono ?_;rintro e W1 ⟨rfl,m1,t1⟩;have T9:Hid (Td (Foot b v) V W1):=gh (t1);have M1:=gh m1;have T1:Hid (Td (Foot b v) W W1):=gh (KV.o.then T9.o);have F1:=gh (FV.o.turned T9.o HF.o);clear m1 t1;gi_wp2_with (fail);refine ⟨Wd.mem T9.o,?_⟩;refine perm_done ?_;clear x2 CO CB;obtain ⟨⟨d0,d1,d2,d3,d4,d5,d6⟩,df⟩:=F1.o.cells;have df0:=df 0;simp only at d0 d1 d2 d3 d4 d5 d6;obtain ⟨W2,hW2⟩:∃ W2,W1.setCell ⟨f,0,none⟩ (.int .i64 6)=W2:=⟨_,rfl⟩;have F2:DpAt W2 f ⟨6,g,s,o,x,rr,c⟩:=by
   have hb:W1.heap[f]? = _:=F1.o;rw [<- hW2];simp [DpAt,World.setCell,Array.getElem?_modify,hb]
  have T2:Td (fun k=>k=f) W1 W2:=by
   rw [<- hW2];exact Td.setCell (R:=fun k=>k=f) _ _ _ rfl
  have HF2:=gh F2;have HT2:=gh T2;have HW2:=gh hW2;clear F2 T2 hW2 df;go_wp2_with (fail);rw [HW2.o];refine (dp_done W2 f _ HF2.o r (by have:=HR.o;simpa using this)).mono ?_;rintro e W3 ⟨rfl,rfl⟩;go_wp2;go_ret;exact ⟨rfl,v,HF2.o,by rw [HME.o,HBE.o];exact M1.o.turned HT2.o (fun k hk e=>HF.o (by rw [<- e];exact hk)),T1.o.trans HT2.o (fun _ e=>.inr e) (fun _ _ e=>.inl e),fun k hk=>.inl hk⟩
 ·simp (config:={ decide:=true }) only [reduceIte] at e1;obtain ⟨rfl,rfl⟩:=Prod.mk.inj e1;clear h hm ho hf e1 e2 hn₀;go_enter Tryz.func43,Tryz.ntmps43;go_wp2_with (fail);refine (D0 true rfl).mono ?_;rintro e w' ⟨rfl,rfl⟩;go_wp2_with (fail);refine (D0 r HR.o).mono ?_;rintro e w' ⟨rfl,rfl⟩;go_wp2;go_ret;exact ⟨rfl,v,H.o,HM.o,Td.refl _ _,fun k hk=>.inl hk⟩
end
end Go.Proofs.YtoaicedkepcalaaGreat
