/-
  What the proof of YtnjkmmmfhponlaaGreatU1 goes by, part 10 of 10: contracts and plain facts; each part begins with its own sentence. No conditions beyond each theorem's own.
-/
import Derived.Test.YtnjkmmmfhponlaaGreatS9
import Derived.Test.YtnjkmmmfhponlaaGreatRows
import Derived.Laws.OwnMore
import Derived.Maps.OwnIn
namespace Go.Proofs.YtnjkmmmfhponlaaGreat
open Go.RowKit
namespace Mp
def PReads (w:World) (a:Option Addr) (xs:List (Int × Int)):Prop:=
 xs=[]∨∃ bl,a=some ⟨bl,0,none⟩∧∀ j p,xs[j]? = some p→w.cell? ⟨bl,j * 2,none⟩=some (.int .i64 p.1)∧w.cell? ⟨bl,j * 2+1,none⟩=some (.int .i64 p.2)
theorem PReads.turned {w w':World} {a:Option Addr} {xs:List (Int × Int)} (h:PReads w a xs) {R:Nat→Prop} (ht:Td R w w') (hR:∀ k,(Value.slice a 0 0).ownBlock=some k→¬ R k):PReads w' a xs:=by
 rcases h with h | ⟨bl,rfl,h⟩
 ·exact .inl h
 ·refine .inr ⟨bl,rfl,fun j p hp=>?_⟩
  have hn:=hR bl rfl
  exact ⟨ht.cell (h j p hp).1 hn,ht.cell (h j p hp).2 hn⟩
theorem PReads.kept {w w':World} {a:Option Addr} {xs:List (Int × Int)} (h:PReads w a xs) (ht:Kept w w'):PReads w' a xs:=h.turned ht (fun _ _ e=>e)
theorem PReads.at {w:World} {a:Option Addr} {xs:List (Int × Int)} (h:PReads w a xs) {j:Nat} {p:Int × Int} (hp:xs[j]? = some p):∃ bl,a=some ⟨bl,0,none⟩∧bl < w.heap.size∧w.cell? ⟨bl,j * 2,none⟩=some (.int .i64 p.1)∧w.cell? ⟨bl,j * 2+1,none⟩=some (.int .i64 p.2):=by
 rcases h with h | ⟨bl,ha,hc⟩
 ·rw [h] at hp
  simp at hp
 ·exact ⟨bl,ha,World.block_lt_of_cell? _ _ (hc j p hp).1,hc j p hp⟩
theorem preads_of_row {w:World} {n₀:Nat} {v:Value} {xs:List (Int × Int)} (h:w.ownsRow n₀ 59 2 v xs.length (flat xs)):∃ a cap,v=.slice a xs.length cap∧PReads w a xs∧xs.length≤cap:=by
 rcases h.2 with ⟨rfl,h0⟩ | ⟨g,cap,cur,rfl,_,_,hc,_⟩
 ·obtain rfl:=List.length_eq_zero_iff.1 h0
  exact ⟨none,0,rfl,.inl rfl,Nat.le_refl _⟩
 ·refine ⟨_,cap,rfl,.inr ⟨g,rfl,fun j p hp=>?_⟩,hc⟩
  have hj:=(List.getElem?_eq_some_iff.1 hp).1
  rw [h.cellAt (j * 2) (by omega),h.cellAt (j * 2+1) (by omega)]
  exact flat_at hp
theorem info47:(Tryz.prog.info? 59).map (fun i=>(i.zero,i.size,i.bytes))=some (some (.agg #[.int .i64 0,.int .i64 0]),2,16):=by kernel_rfl
theorem kept_append {w wr w1:World} {v:Value} {xs:List (Int × Int)} {tmp:Obj} (k:Kept w wr) (hr:wr.ownsRow w.heap.size 59 2 v xs.length (flat xs)) (hg:(wr.alloc tmp).grownBy w1 v.ownBlock):Kept w w1:=
 Td.trans (k.trans (Td.alloc _ _ tmp)) (Td.of_grownBy (R:=fun j=>v.ownBlock=some j) hg (fun _ h=>h)) (fun _ h=>h) (fun i hi h=>by have:=(hr.lt i h).1;omega)
theorem kept_append0 {w wr w1:World} {v:Value} {xs:List (Int × Int)} (k:Kept w wr) (hr:wr.ownsRow w.heap.size 59 2 v xs.length (flat xs)) (hg:wr.grownBy w1 v.ownBlock):Kept w w1:=
 Td.trans k (Td.of_grownBy (R:=fun j=>v.ownBlock=some j) hg (fun _ h=>h)) (fun _ h=>h) (fun i hi h=>by have:=(hr.lt i h).1;omega)
theorem two_newR (w:World) (x y:Int):∀ (j:Nat) (u:Value),[Value.int .i64 x,.int .i64 y][j]? = some u→(w.alloc (.cells #[.int .i64 x,.int .i64 y] 59)).cell? ((⟨w.heap.size,0,none⟩:Addr).add j)=some u:=by
 intro j u h
 have hb:(w.alloc (.cells #[.int .i64 x,.int .i64 y] 59)).heap[w.heap.size]? = some (.cells #[.int .i64 x,.int .i64 y] 59):=heap_new w _
 have c:∀ i,(w.alloc (.cells #[.int .i64 x,.int .i64 y] 59)).cell? ⟨w.heap.size,i,none⟩=#[Value.int .i64 x,.int .i64 y][i]?:=fun i=>by
  unfold World.cell?
  rw [hb]
  rfl
 rcases j with _ | _ | j
 ·simp at h
  subst h
  exact c 0
 ·simp at h
  subst h
  exact c 1
 ·simp at h
def PSliced (xs:List (Int × Int)) (w:World) (e:Ending) (w':World):Prop:=∃ v,e=.returned v∧w'.ownsRow w.heap.size 59 2 v xs.length (flat xs)∧Kept w w'
theorem wpList_append_none {P:Program} {w:World} {ops:Array Oper} {rest:List Oper} {o:Oper} {a:Act} {Q:Exit→Act→World→Prop} (hgd:o.guard=none) (s x:Operand) (t:TypeId)
  (ho:o.op=.call { callee:=.builtin .append,args:=#[s,x],argTypes:=#[t,t] })
  (base:Nat) (e:TypeId) (i:TypeInfo) (size:Nat) (ht:P.underlying t=some (.slice e)) (hi:P.info? e=some i)
  (v:Value) (n:Nat) (xs:List Value) (hs:a.eval s=v) (hown:w.ownsRow base e size v n xs) (hx:a.eval x=.slice none 0 0)
  (h:wpList P ops Q rest (a.put o.dst v) w):wpList P ops Q (o :: rest) a w:=by
 refine wpList_plain hgd fun K hK=>?_
 have hr:=run_append_owned_none (P:=P) (w:=w) base t o.type e i size ht hi v n xs hown
 unfold Oper.wp execOp
 simp only [ho,resolve,invoke,builtin,Sem.run_bind,Sem.run_pure,Result.andThen_ok,List.map_toArray,List.map_cons,List.map_nil,hs,hx,hr]
 exact hK _ _ h
theorem prow_new (w:World):(w.alloc (.cells #[] 59)).ownsRow w.heap.size 59 2 (.slice (some ⟨w.heap.size,0,none⟩) 0 0) ([]:List (Int × Int)).length (flat []):=
 ⟨rfl,.inr ⟨w.heap.size,0,#[],rfl,Nat.le_refl _,heap_new w _,Nat.le_refl _,Nat.zero_le _,rfl,rfl⟩⟩
theorem src_cells {w w':World} {n₀ g cap:Nat} {xs:List (Int × Int)} (h:w.ownsRow n₀ 59 2 (.slice (some ⟨g,0,none⟩) xs.length cap) xs.length (flat xs)) (k:Kept w w') (q m:Nat) :
  ∀ (j:Nat) (u:Value),(flat ((xs.drop q).take m))[j]? = some u→w'.cell? ((⟨g,q * 2,none⟩:Addr).add j)=some u:=by
 intro j u hu
 have hq:q≤xs.length:=by
  by_cases hq:q≤xs.length
  ·exact hq
  ·rw [List.drop_eq_nil_of_le (by omega)] at hu
   simp [flat] at hu
 have e:flat xs=flat (xs.take q)++(flat ((xs.drop q).take m)++flat ((xs.drop q).drop m)):=by
  rw [← flat_append,List.take_append_drop,← flat_append,List.take_append_drop]
 have hj:=(List.getElem?_eq_some_iff.1 hu).1
 have l1:(flat (xs.take q)).length=q * 2:=by rw [flat_length,List.length_take];congr 1;omega
 have hx:(flat xs)[q * 2+j]? = some u:=by
  rw [e,List.getElem?_append_right (by omega),l1,Nat.add_sub_cancel_left,List.getElem?_append_left hj]
  exact hu
 have hlt:q * 2+j < xs.length * 2:=by
  have:=(List.getElem?_eq_some_iff.1 hx).1
  rwa [flat_length] at this
 have hc:=h.cellAt (q * 2+j) hlt
 rw [hx] at hc
 rw [Go.WideShapes.add_plain]
 exact k.cell hc id
set_option maxRecDepth 100000 in
theorem place_c (w:World) (a:Option Addr) (xs:List (Int × Int)) (cap:Nat) (k:Int) (hr:PReads w a xs) (hc:xs.length≤cap) (hl:xs.length≤5000) :
  Calls Tryz.prog 182 #[.slice a xs.length cap,.int .i64 k] w fun e w'=>e=.returned (.int .i64 (place xs k:Int))∧w=w':=by
 have HR:=gh hr
 have hpl:=place_le xs k
 clear hr
 go_enter Tryz.func182,Tryz.ntmps182
 go_wp2
 go_loopw [5] (fun i wr=>∃ n:Nat,n≤place xs k∧i=.int .i64 n∧w=wr) (fun i _=>xs.length - (intOf i).toNat)
 case atStart=>exact ⟨0,Nat.zero_le _,rfl,rfl⟩
 case round=>
  obtain ⟨n,hn,rfl,rfl⟩:=hrel
  by_cases hlt:n < xs.length
  ·obtain ⟨⟨x,xv⟩,hp⟩:∃ p,xs[n]? = some p:=⟨_,List.getElem?_eq_getElem hlt⟩
   obtain ⟨bl,rfl,_,g1,_⟩:=HR.out.at hp
   simp only at g1
   have i3:n < cap:=by omega
   by_cases hnp:n < place xs k
   ·have hx:x < k:=place_below hnp hp
    clear hp
    go_wp2
    exact ⟨⟨n+1,by omega,by simp,trivial⟩,by simp [intOf];omega⟩
   ·have e:n=place xs k:=by omega
    have hx:k≤x:=by
     rw [e] at hp
     exact place_stop hp
    have E:=gh e
    clear hp e hnp
    go_wp2
    go_ret
    exact ⟨by rw [← E.out];rfl,rfl⟩
  ·have E:Hid (n=place xs k):=gh (by omega)
   go_wp2
   go_ret
   exact ⟨by rw [← E.out];rfl,rfl⟩
theorem hit_true {xs:List (Int × Int)} {k:Int} (h:hit xs k=true):∃ v,xs[place xs k]? = some (k,v)∧place xs k < xs.length:=by
 unfold hit at h
 cases hp:xs[place xs k]? with
 | none=>simp [hp] at h
 | some p=>
  simp [hp] at h
  exact ⟨p.2,by rw [← h],(List.getElem?_eq_some_iff.1 hp).1⟩
theorem hit_false {xs:List (Int × Int)} {k:Int} (h:hit xs k=false):xs.length=place xs k∨∃ x v,xs[place xs k]? = some (x,v)∧place xs k < xs.length∧x≠k:=by
 have hl:=place_le xs k
 cases hp:xs[place xs k]? with
 | none=>
  rw [List.getElem?_eq_none_iff] at hp
  exact .inl (by omega)
 | some p=>
  unfold hit at h
  simp [hp] at h
  exact .inr ⟨p.1,p.2,rfl,(List.getElem?_eq_some_iff.1 hp).1,h⟩
theorem preads_of_own {w:World} {n₀ g cap:Nat} {xs:List (Int × Int)} (h:w.ownsRow n₀ 59 2 (.slice (some ⟨g,0,none⟩) xs.length cap) xs.length (flat xs)):PReads w (some ⟨g,0,none⟩) xs:=by
 obtain ⟨a,c,e,hp,_⟩:=preads_of_row h
 cases e
 exact hp
set_option maxRecDepth 100000 in
set_option maxHeartbeats 1000000 in
theorem refPut_c (w:World) (n₀:Nat) (v:Value) (xs:List (Int × Int)) (k u:Int) (hv:w.ownsRow n₀ 59 2 v xs.length (flat xs)) (hl:xs.length≤5000) :
  Calls Tryz.prog 146 #[v,.int .i64 k,.int .i64 u] w (PSliced (put ltI xs k u) w):=by
 obtain ⟨y0,hi',hz0,hz1,hz2⟩:=info_parts info47
 have hpp:=put_place xs k u
 have r0:=prow_new w
 rcases hv.2 with ⟨rfl,h0⟩ | ⟨g,cap,cur,rfl,hg0,_,hcap,hmx,_⟩
 ·obtain rfl:=List.length_eq_zero_iff.1 h0
  have HP:Hid (Calls Tryz.prog 182 #[.slice none 0 0,.int .i64 k] w fun e w'=>e=.returned (.int .i64 0)∧w=w'):=gh (place_c w none [] 0 k (.inl rfl) (Nat.le_refl _) (by simp))
  clear hv hpp h0
  go_enter Tryz.func146,Tryz.ntmps146
  go_wp2_with (fail)
  refine HP.out.mono ?_
  rintro e w' ⟨rfl,rfl⟩
  go_wp2_with (at_builtin;refine Stop.out ?_)
  refine ⟨?_⟩
  refine wpList_append_none rfl _ _ 44 rfl w.heap.size 59 y0 2 Tryz.underlying44 hi' _ _ _ rfl r0 rfl ?_
  go_wp2_with (at_builtin;refine Stop.out ?_)
  refine ⟨?_⟩
  refine wpList_append_own_at _ rfl _ _ 44 rfl w.heap.size 59 y0 (.agg #[.int .i64 0,.int .i64 0]) 2 16 Tryz.underlying44 hi' hz0 hz1 hz2 rfl (by decide) _ _ _ rfl (r0.alloc (.cells #[.int .i64 k,.int .i64 u] 59)) ⟨w.heap.size+1,0,none⟩ 1 1 [.int .i64 k,.int .i64 u] rfl rfl (by have:=two_newR (w.alloc (.cells #[] 59)) k u;rwa [World.size_alloc] at this) (by simp [Value.oneCell']) (by decide) (by decide) (by rw [World.size_alloc,World.size_alloc];omega) ?_
  intro v2 w2 hown2 hg2 hni _
  clear hni
  have K2:=gh (kept_append (xs:=[]) (show Kept w (w.alloc (.cells #[] 59)) from Td.alloc _ _ _) r0 hg2)
  clear hg2 r0
  go_wp2_with (at_builtin;refine Stop.out ?_)
  refine ⟨?_⟩
  refine wpList_append_none rfl _ _ 44 rfl w.heap.size 59 y0 2 Tryz.underlying44 hi' _ _ _ rfl hown2 rfl ?_
  go_wp2
  go_ret
  exact ⟨v2,rfl,by simpa [flat,put] using hown2,K2.out⟩
 ·have hc5:cap≤9223372036854775807:=by unfold maxLen at hmx;omega
  have HP:=gh (place_c w _ xs cap k (preads_of_own hv) hcap hl)
  have hpl:=place_le xs k
  have HV:=gh hv
  cases hh:hit xs k with
  | true=>
   obtain ⟨hv',hat,hlt⟩:=hit_true hh
   obtain ⟨_,he,_,g1,_⟩:=(preads_of_own hv).at hat
   obtain rfl:=Option.some.inj he |> Addr.mk.inj |>.1
   simp only at g1
   rw [hh,if_pos rfl] at hpp
   obtain ⟨n,hn⟩:∃ n,place xs k=n:=⟨_,rfl⟩
   rw [hn] at HP g1 hlt hpp hpl
   have HPP:=gh hpp
   have i3:n < cap:=by omega
   clear hv hpp hat hh hn he
   go_enter Tryz.func146,Tryz.ntmps146
   go_wp2_with (fail)
   refine HP.out.mono ?_
   rintro e w' ⟨rfl,rfl⟩
   have s1:=src_cells HV.out (show Kept w (w.alloc (.cells #[] 59)) from Td.alloc _ _ _) 0 n
   simp only [Nat.zero_mul,List.drop_zero] at s1
   go_wp2_with (at_builtin;refine Stop.out ?_)
   refine ⟨?_⟩
   refine wpList_append_own_at _ rfl _ _ 44 rfl w.heap.size 59 y0 (.agg #[.int .i64 0,.int .i64 0]) 2 16 Tryz.underlying44 hi' hz0 hz1 hz2 rfl (by decide) _ _ _ rfl r0 ⟨g,0,none⟩ n cap (flat (xs.take n)) rfl (by rw [flat_length,List.length_take];congr 1;omega) s1 (flat_one _) (by simp;unfold maxLen;omega) (by simp;omega) (by simp) ?_
   intro v1 w1 hown1 hg1 hni _
   clear hni
   have K1:=gh (kept_append0 (xs:=[]) (show Kept w (w.alloc (.cells #[] 59)) from Td.alloc _ _ _) r0 hg1)
   have r1:w1.ownsRow w.heap.size 59 2 v1 (xs.take n).length (flat (xs.take n)):=(by rw [List.length_take,Nat.min_eq_left (by omega)];simpa [flat] using hown1)
   have zz1:=K1.out.size
   have R1:=gh r1
   clear hown1 hg1 s1 r0 r1
   go_wp2_with (at_builtin;refine Stop.out ?_)
   refine ⟨?_⟩
   refine wpList_append_own_at _ rfl _ _ 44 rfl w.heap.size 59 y0 (.agg #[.int .i64 0,.int .i64 0]) 2 16 Tryz.underlying44 hi' hz0 hz1 hz2 rfl (by decide) _ _ _ rfl (R1.out.alloc (.cells #[.int .i64 k,.int .i64 u] 59)) ⟨w1.heap.size,0,none⟩ 1 1 [.int .i64 k,.int .i64 u] rfl rfl (two_newR _ _ _) (by simp [Value.oneCell']) (by rw [List.length_take];unfold maxLen;omega) (by rw [List.length_take];omega) (by simp;omega) ?_
   intro v2 w2 hown2 hg2 hni _
   clear hni
   have K2:=gh (kept_append K1.out R1.out hg2)
   have r2:w2.ownsRow w.heap.size 59 2 v2 (xs.take n++[(k,u)]).length (flat (xs.take n++[(k,u)])):=(by simpa [flat_append,flat] using hown2)
   have R2:=gh r2
   have s2:=src_cells HV.out K2.out (n+1) (xs.length - (n+1))
   have g1':=K2.out.cell g1 id
   have zz2:=K2.out.size
   clear hown2 hg2 r2 g1
   by_cases hcq:cap=n+1
   ·go_wp2_with (at_builtin;refine Stop.out ?_)
    refine ⟨?_⟩
    refine wpList_append_own_at _ rfl _ _ 44 rfl w.heap.size 59 y0 (.agg #[.int .i64 0,.int .i64 0]) 2 16 Tryz.underlying44 hi' hz0 hz1 hz2 rfl (by decide) _ _ _ rfl R2.out _ _ _ (flat []) rfl (by first | (simp [flat];done) | (simp [flat];omega)) (by simp [flat]) (flat_one _) (by simp only [List.length_append,List.length_take,List.length_singleton];unfold maxLen;omega) (by simp only [List.length_append,List.length_take,List.length_singleton];omega) (by omega) ?_
    intro v3 w3 hown3 hg3 hni _
    clear hni
    have KF:=gh (kept_append0 K2.out R2.out hg3)
    go_wp2
    go_ret
    refine ⟨v3,rfl,?_,KF.out⟩
    rw [HPP.out]
    have e0:xs.drop (n+1)=[]:=List.drop_eq_nil_of_le (by omega)
    have e1:(xs.take n++[(k,u)]).length+(xs.length - (n+1))=(xs.take n++[(k,u)]).length:=by omega
    rw [e0]
    try rw [e1] at hown3
    simpa [flat] using hown3
   ·go_wp2_with (at_builtin;refine Stop.out ?_)
    refine ⟨?_⟩
    refine wpList_append_own_at _ rfl _ _ 44 rfl w.heap.size 59 y0 (.agg #[.int .i64 0,.int .i64 0]) 2 16 Tryz.underlying44 hi' hz0 hz1 hz2 rfl (by decide) _ _ _ rfl R2.out ⟨g,(n+1) * 2,none⟩ (xs.length - (n+1)) (cap - (n+1)) (flat ((xs.drop (n+1)).take (xs.length - (n+1)))) rfl (by rw [flat_length,List.length_take,List.length_drop];congr 1;omega) s2 (flat_one _) (by simp only [List.length_append,List.length_take,List.length_singleton];unfold maxLen;omega) (by simp only [List.length_append,List.length_take,List.length_singleton];omega) (by omega) ?_
    intro v3 w3 hown3 hg3 hni _
    clear hni
    have KF:=gh (kept_append0 K2.out R2.out hg3)
    go_wp2
    go_ret
    refine ⟨v3,rfl,?_,KF.out⟩
    rw [HPP.out]
    have e1:(xs.drop (n+1)).take (xs.length - (n+1))=xs.drop (n+1):=List.take_of_length_le (by rw [List.length_drop];exact Nat.le_refl _)
    rw [e1,← flat_append] at hown3
    have e2:(xs.take n++[(k,u)]).length+(xs.length - (n+1))=(xs.take n++[(k,u)]++xs.drop (n+1)).length:=by simp only [List.length_append,List.length_drop]
    rw [e2] at hown3
    simpa using hown3
  | false=>
   rw [hh,if_neg (by simp)] at hpp
   rcases hit_false hh with he | ⟨x,xv,hat,hlt,hne⟩
   ·obtain ⟨n,hn⟩:∃ n,place xs k=n:=⟨_,rfl⟩
    rw [hn] at HP hpp hpl he
    have HPP:=gh hpp
    have hnl:¬ ((n:Int) < (xs.length:Int)):=by omega
    have hnl':¬ (n < xs.length):=by omega
    have he':xs.length≤n:=by omega
    clear hv hpp hh hn he
    go_enter Tryz.func146,Tryz.ntmps146
    go_wp2_with (fail)
    refine HP.out.mono ?_
    rintro e w' ⟨rfl,rfl⟩
    have s1:=src_cells HV.out (show Kept w (w.alloc (.cells #[] 59)) from Td.alloc _ _ _) 0 n
    simp only [Nat.zero_mul,List.drop_zero] at s1
    go_wp2_with (at_builtin;refine Stop.out ?_)
    refine ⟨?_⟩
    refine wpList_append_own_at _ rfl _ _ 44 rfl w.heap.size 59 y0 (.agg #[.int .i64 0,.int .i64 0]) 2 16 Tryz.underlying44 hi' hz0 hz1 hz2 rfl (by decide) _ _ _ rfl r0 ⟨g,0,none⟩ n cap (flat (xs.take n)) rfl (by rw [flat_length,List.length_take];congr 1;omega) s1 (flat_one _) (by simp;unfold maxLen;omega) (by simp;omega) (by simp) ?_
    intro v1 w1 hown1 hg1 hni _
    clear hni
    have K1:=gh (kept_append0 (xs:=[]) (show Kept w (w.alloc (.cells #[] 59)) from Td.alloc _ _ _) r0 hg1)
    have r1:w1.ownsRow w.heap.size 59 2 v1 (xs.take n).length (flat (xs.take n)):=(by rw [List.length_take,Nat.min_eq_left (by omega)];simpa [flat] using hown1)
    have zz1:=K1.out.size
    have R1:=gh r1
    clear hown1 hg1 s1 r0 r1
    go_wp2_with (at_builtin;refine Stop.out ?_)
    refine ⟨?_⟩
    refine wpList_append_own_at _ rfl _ _ 44 rfl w.heap.size 59 y0 (.agg #[.int .i64 0,.int .i64 0]) 2 16 Tryz.underlying44 hi' hz0 hz1 hz2 rfl (by decide) _ _ _ rfl (R1.out.alloc (.cells #[.int .i64 k,.int .i64 u] 59)) ⟨w1.heap.size,0,none⟩ 1 1 [.int .i64 k,.int .i64 u] rfl rfl (two_newR _ _ _) (by simp [Value.oneCell']) (by rw [List.length_take];unfold maxLen;omega) (by rw [List.length_take];omega) (by simp;omega) ?_
    intro v2 w2 hown2 hg2 hni _
    clear hni
    have K2:=gh (kept_append K1.out R1.out hg2)
    have r2:w2.ownsRow w.heap.size 59 2 v2 (xs.take n++[(k,u)]).length (flat (xs.take n++[(k,u)])):=(by simpa [flat_append,flat] using hown2)
    have R2:=gh r2
    have s2:=src_cells HV.out K2.out (n) (xs.length - (n))
    have zz2:=K2.out.size
    clear hown2 hg2 r2
    by_cases hcq:cap=n
    ·go_wp2_with (at_builtin;refine Stop.out ?_)
     refine ⟨?_⟩
     refine wpList_append_own_at _ rfl _ _ 44 rfl w.heap.size 59 y0 (.agg #[.int .i64 0,.int .i64 0]) 2 16 Tryz.underlying44 hi' hz0 hz1 hz2 rfl (by decide) _ _ _ rfl R2.out _ _ _ (flat []) rfl (by first | (simp [flat];done) | (simp [flat];omega)) (by simp [flat]) (flat_one _) (by simp only [List.length_append,List.length_take,List.length_singleton];unfold maxLen;omega) (by simp only [List.length_append,List.length_take,List.length_singleton];omega) (by omega) ?_
     intro v3 w3 hown3 hg3 hni _
     clear hni
     have KF:=gh (kept_append0 K2.out R2.out hg3)
     go_wp2
     go_ret
     refine ⟨v3,rfl,?_,KF.out⟩
     rw [HPP.out]
     have e0:xs.drop (n)=[]:=List.drop_eq_nil_of_le (by omega)
     have e1:(xs.take n++[(k,u)]).length+(xs.length - (n))=(xs.take n++[(k,u)]).length:=by omega
     rw [e0]
     try rw [e1] at hown3
     simpa [flat] using hown3
    ·go_wp2_with (at_builtin;refine Stop.out ?_)
     refine ⟨?_⟩
     refine wpList_append_own_at _ rfl _ _ 44 rfl w.heap.size 59 y0 (.agg #[.int .i64 0,.int .i64 0]) 2 16 Tryz.underlying44 hi' hz0 hz1 hz2 rfl (by decide) _ _ _ rfl R2.out _ _ _ (flat []) rfl (by first | (simp [flat];done) | (simp [flat];omega)) (by simp [flat]) (flat_one _) (by simp only [List.length_append,List.length_take,List.length_singleton];unfold maxLen;omega) (by simp only [List.length_append,List.length_take,List.length_singleton];omega) (by omega) ?_
     intro v3 w3 hown3 hg3 hni _
     clear hni
     have KF:=gh (kept_append0 K2.out R2.out hg3)
     go_wp2
     go_ret
     refine ⟨v3,rfl,?_,KF.out⟩
     rw [HPP.out]
     have e0:xs.drop (n)=[]:=List.drop_eq_nil_of_le (by omega)
     have e1:(xs.take n++[(k,u)]).length+(xs.length - (n))=(xs.take n++[(k,u)]).length:=by omega
     rw [e0]
     try rw [e1] at hown3
     simpa [flat] using hown3
   ·obtain ⟨_,he,_,g1,_⟩:=(preads_of_own hv).at hat
    obtain rfl:=Option.some.inj he |> Addr.mk.inj |>.1
    simp only at g1
    obtain ⟨n,hn⟩:∃ n,place xs k=n:=⟨_,rfl⟩
    rw [hn] at HP g1 hlt hpp hpl
    have HPP:=gh hpp
    have i3:n < cap:=by omega
    have hx:(x == k)=false:=by simp only [beq_eq_false_iff_ne,ne_eq];exact hne
    clear hv hpp hat hh hn he hne
    go_enter Tryz.func146,Tryz.ntmps146
    go_wp2_with (fail)
    refine HP.out.mono ?_
    rintro e w' ⟨rfl,rfl⟩
    have s1:=src_cells HV.out (show Kept w (w.alloc (.cells #[] 59)) from Td.alloc _ _ _) 0 n
    simp only [Nat.zero_mul,List.drop_zero] at s1
    go_wp2_with (at_builtin;refine Stop.out ?_)
    refine ⟨?_⟩
    refine wpList_append_own_at _ rfl _ _ 44 rfl w.heap.size 59 y0 (.agg #[.int .i64 0,.int .i64 0]) 2 16 Tryz.underlying44 hi' hz0 hz1 hz2 rfl (by decide) _ _ _ rfl r0 ⟨g,0,none⟩ n cap (flat (xs.take n)) rfl (by rw [flat_length,List.length_take];congr 1;omega) s1 (flat_one _) (by simp;unfold maxLen;omega) (by simp;omega) (by simp) ?_
    intro v1 w1 hown1 hg1 hni _
    clear hni
    have K1:=gh (kept_append0 (xs:=[]) (show Kept w (w.alloc (.cells #[] 59)) from Td.alloc _ _ _) r0 hg1)
    have r1:w1.ownsRow w.heap.size 59 2 v1 (xs.take n).length (flat (xs.take n)):=(by rw [List.length_take,Nat.min_eq_left (by omega)];simpa [flat] using hown1)
    have zz1:=K1.out.size
    have R1:=gh r1
    clear hown1 hg1 s1 r0 r1
    go_wp2_with (at_builtin;refine Stop.out ?_)
    refine ⟨?_⟩
    refine wpList_append_own_at _ rfl _ _ 44 rfl w.heap.size 59 y0 (.agg #[.int .i64 0,.int .i64 0]) 2 16 Tryz.underlying44 hi' hz0 hz1 hz2 rfl (by decide) _ _ _ rfl (R1.out.alloc (.cells #[.int .i64 k,.int .i64 u] 59)) ⟨w1.heap.size,0,none⟩ 1 1 [.int .i64 k,.int .i64 u] rfl rfl (two_newR _ _ _) (by simp [Value.oneCell']) (by rw [List.length_take];unfold maxLen;omega) (by rw [List.length_take];omega) (by simp;omega) ?_
    intro v2 w2 hown2 hg2 hni _
    clear hni
    have K2:=gh (kept_append K1.out R1.out hg2)
    have r2:w2.ownsRow w.heap.size 59 2 v2 (xs.take n++[(k,u)]).length (flat (xs.take n++[(k,u)])):=(by simpa [flat_append,flat] using hown2)
    have R2:=gh r2
    have s2:=src_cells HV.out K2.out (n) (xs.length - (n))
    have g1':=K2.out.cell g1 id
    have zz2:=K2.out.size
    clear hown2 hg2 r2 g1
    go_wp2_with (at_builtin;refine Stop.out ?_)
    refine ⟨?_⟩
    refine wpList_append_own_at _ rfl _ _ 44 rfl w.heap.size 59 y0 (.agg #[.int .i64 0,.int .i64 0]) 2 16 Tryz.underlying44 hi' hz0 hz1 hz2 rfl (by decide) _ _ _ rfl R2.out ⟨g,(n) * 2,none⟩ (xs.length - (n)) (cap - (n)) (flat ((xs.drop (n)).take (xs.length - (n)))) rfl (by rw [flat_length,List.length_take,List.length_drop];congr 1;omega) s2 (flat_one _) (by simp only [List.length_append,List.length_take,List.length_singleton];unfold maxLen;omega) (by simp only [List.length_append,List.length_take,List.length_singleton];omega) (by omega) ?_
    intro v3 w3 hown3 hg3 hni _
    clear hni
    have KF:=gh (kept_append0 K2.out R2.out hg3)
    go_wp2
    go_ret
    refine ⟨v3,rfl,?_,KF.out⟩
    rw [HPP.out]
    have e1:(xs.drop (n)).take (xs.length - (n))=xs.drop (n):=List.take_of_length_le (by rw [List.length_drop];exact Nat.le_refl _)
    rw [e1,← flat_append] at hown3
    have e2:(xs.take n++[(k,u)]).length+(xs.length - (n))=(xs.take n++[(k,u)]++xs.drop (n)).length:=by simp only [List.length_append,List.length_drop]
    rw [e2] at hown3
    simpa using hown3
end Mp
namespace Mp
abbrev From (n₀:Nat) (w w':World):Prop:=Td (fun g=>n₀≤g) w w'
theorem From.trans {n₀:Nat} {a b c:World} (h:From n₀ a b) (k:From n₀ b c):From n₀ a c:=Td.trans h k (fun _ e=>e) (fun _ _ e=>e)
theorem row_base {w:World} {b b':Nat} {e:TypeId} {size:Nat} {v:Value} {n:Nat} {xs:List Value} (h:w.ownsRow b e size v n xs) (hb:b'≤b):w.ownsRow b' e size v n xs:=by
 obtain ⟨h1,h2⟩:=h
 refine ⟨h1,?_⟩
 rcases h2 with h2 | ⟨g,cap,cur,rfl,hg,r⟩
 ·exact .inl h2
 ·exact .inr ⟨g,cap,cur,rfl,by omega,r⟩
end Mp
namespace Mp
def fillP (zs:List Int):Nat→List (Int × Int)
 | 0=>[]
 | t+1=>match zs[t]? with
  | some z=>put ltI (fillP zs t) (z % 97 - 40) (t:Int)
  | none=>fillP zs t
theorem fillP_step {zs:List Int} {t:Nat} {z:Int} (h:zs[t]? = some z):fillP zs (t+1)=put ltI (fillP zs t) (z % 97 - 40) (t:Int):=by simp [fillP,h]
theorem fillP_le (zs:List Int):(t:Nat)→(fillP zs t).length≤t
 | 0=>Nat.le_refl _
 | t+1=>by
  have:=fillP_le zs t
  unfold fillP
  split
  ·rename_i z _
   have:=length_put_le (lt:=ltI) (xs:=fillP zs t) (k:=z % 97 - 40) (v:=(t:Int))
   omega
  ·omega
theorem fillP_mem (zs:List Int):(t:Nat)→∀ p ∈ fillP zs t,-40≤p.1∧p.1≤56∧0≤p.2∧p.2≤t
 | 0=>by simp [fillP]
 | t+1=>by
  intro p hp
  unfold fillP at hp
  split at hp
  ·rcases mem_put hp with rfl | hp
   ·simp only
    omega
   ·have:=fillP_mem zs t p hp
    omega
  ·have:=fillP_mem zs t p hp
   omega
def pairsP (zs:List Int):List (Int × Int):=fillP zs (min zs.length 60)
theorem pairsP_le (zs:List Int):(pairsP zs).length≤60:=by
 have:=fillP_le zs (min zs.length 60)
 unfold pairsP
 omega
theorem pairsP_i64 (zs:List Int):∀ p ∈ pairsP zs,I64 p.1∧I64 p.2:=by
 intro p hp
 have:=fillP_mem zs _ p hp
 unfold I64
 omega
set_option maxRecDepth 100000 in
set_option maxHeartbeats 1000000 in
theorem pairs_c (w:World) (a:Option Addr) (zs:List Int) (M cap:Nat) (hM:zs.length=M) (hr:Reads w a zs) (hc:M≤cap) (hm:cap≤maxLen) :
  Calls Tryz.prog 103 #[.slice a M cap] w (PSliced (pairsP zs) w):=by
 subst hM
 have hm':(zs.length:Int)≤9223372036854775807:=by unfold maxLen at hm;omega
 have HR:=gh hr
 clear hr hm
 go_enter Tryz.func103,Tryz.ntmps103
 go_wp2
 go_loopw [3,4,5] (fun v i _ wr=>∃ t:Nat,t≤zs.length∧t≤60∧i=.int .i64 t∧Hid (wr.ownsRow w.heap.size 59 2 v (fillP zs t).length (flat (fillP zs t)))∧Hid (Kept w wr)) (fun _ i _ _=>60 - (intOf i).toNat)
 case atStart=>exact ⟨0,Nat.zero_le _,by omega,rfl,gh (World.ownsRow_nil _ _ _ _),gh (Kept.refl _)⟩
 case round=>
  obtain ⟨t,ht1,ht2,rfl,HV,HK⟩:=hrel
  by_cases hlt:t < zs.length∧t < 60
  ·obtain ⟨hlt1,hlt2⟩:=hlt
   obtain ⟨z,hz⟩:∃ z,zs[t]? = some z:=⟨_,List.getElem?_eq_getElem hlt1⟩
   obtain ⟨bl,off,rfl,_,hrow⟩:=(HR.out.kept HK.out).at hz
   have HZ:=gh (fillP_step hz)
   have i1:(t:Int) < (zs.length:Int):=by omega
   have i2:(t:Int) < 60:=by omega
   have i3:t < cap:=by omega
   have zr:=HK.out.size
   obtain ⟨y,hy⟩:∃ y,z % 97=y:=⟨_,rfl⟩
   have y1:0≤y:=by omega
   have y2:y < 97:=by omega
   have HY:=gh hy
   rw [hy] at HZ
   clear hz hy
   go_wp2_with (fail)
   refine (cut_g _ z 97 (by decide) (by decide)).mono ?_
   rw [HY.out]
   rintro e w0 ⟨rfl,rfl⟩
   go_wp2_with (fail)
   refine (refPut_c _ _ _ (fillP zs t) (y - 40) t HV.out (by have:=fillP_le zs t;omega)).mono ?_
   rintro e w1 ⟨v1,rfl,hrow1,hk1⟩
   have V1:Hid (w1.ownsRow w.heap.size 59 2 v1 (fillP zs (t+1)).length (flat (fillP zs (t+1)))):=gh (by rw [HZ.out];exact row_base hrow1 zr)
   have K1:=gh (HK.out.trans hk1)
   clear hrow1 hk1
   go_wp2
   exact ⟨⟨t+1,by omega,by omega,by simp,V1,K1⟩,by simp [intOf];omega⟩
  ·have e:min zs.length 60=t:=by omega
   have E:Hid (pairsP zs=fillP zs t):=gh (by unfold pairsP;rw [e])
   have hex:¬ ((t:Int) < (zs.length:Int))∨((t:Int) < (zs.length:Int)∧¬ ((t:Int) < 60)):=by omega
   clear e hlt
   rcases hex with hx | ⟨hx1,hx2⟩
   ·go_wp2
    go_ret
    exact ⟨_,rfl,by rw [E.out];exact HV.out,HK.out⟩
   ·go_wp2
    go_ret
    exact ⟨_,rfl,by rw [E.out];exact HV.out,HK.out⟩
end Mp
section
open Go.Shelf
attribute [local go_sem] Oper.semAt_some
theorem Reads.takes {w:World} {a:Option Addr} {zs:List Int} (h:Reads w a zs) (n:Nat):Reads w a (zs.take n):=by
 rcases h with h | ⟨bl,off,e,h⟩
 ·exact .inl (by rw [h];simp)
 ·refine .inr ⟨bl,off,e,fun j z hz=>h j z ?_⟩
  rw [List.getElem?_take] at hz
  split at hz
  ·exact hz
  ·cases hz
theorem few_r (w:World) (a:Option Addr) (zs:List Int) (M cap n:Nat) (hr:Reads w a zs) (hM:zs.length=M) (hc:M≤cap) (hm:cap≤maxLen) (hn:n≤1000) :
  Calls Tryz.prog 41 #[.slice a M cap,.int .i64 (n:Int)] w fun e w'=>e=.returned (.slice a (min M n) cap)∧w=w':=by
 have hm':(M:Int)≤9223372036854775807:=by unfold maxLen at hm;omega
 by_cases hlt:n < M
 ·have i1:(n:Int) < (M:Int):=by omega
  have i2:n≤cap:=by omega
  have e1:min M n=n:=by omega
  rcases hr with h | ⟨bl,off,rfl,_⟩
  ·rw [h] at hM;simp at hM;omega
  ·rw [e1]
   clear hm hM e1
   go_enter Tryz.func41,Tryz.ntmps41
   go_wp2
   go_ret
   exact ⟨rfl,rfl⟩
 ·have i1:¬ ((n:Int) < (M:Int)):=by omega
  have e1:min M n=M:=by omega
  rw [e1]
  clear hm hM e1 hr
  go_enter Tryz.func41,Tryz.ntmps41
  go_wp2
  go_ret
  exact ⟨rfl,rfl⟩
namespace Ixp
def busyB (ix:Ixp) (t:Nat):Bool:=match ix.ts[t]? with | some q=>q.busy | none=>false
def actZ (ix:Ixp) (z:Int):Ixp:=
 let t:=(z % 3).toNat
 let n:=z.tdiv 3
 if 0 < n % 3∧ix.busyB t=true then doZ t (1+n.tdiv 3 % 24).toNat ix else ix.invokeZ t (opK (n.tdiv 3)) (opKey (n.tdiv 3)) (opVal (n.tdiv 3))
theorem actZ_gd {ix:Ixp} {c:Nat} (h:Gd ix c) (z:Int):Gd (ix.actZ z) (c+24):=by
 unfold actZ
 dsimp only
 split
 ·exact (doZ_gd _ _ h).le (by omega)
 ·exact (invokeZ_gd h _ _ _ _).le (by omega)
theorem pickZ_len (ix:Ixp) (j:Nat):(ix.pickZ j).2.ts.length=ix.ts.length:=by
 unfold pickZ
 split
 ·rfl
 ·split
  ·rfl
  ·split
   ·dsimp only
    rw [(takesL_keeps _ _ _).1]
    simp [pick1]
   ·rfl
theorem doZ_len (j:Nat):∀ (n:Nat) (ix:Ixp),(doZ j n ix).ts.length=ix.ts.length
 | 0,_=>rfl
 | n+1,ix=>by
  rw [doZ]
  split
  ·exact pickZ_len ix j
  ·rw [doZ_len j n,pickZ_len]
theorem invokeZ_len (ix:Ixp) (j:Nat) (k key val:Int):(ix.invokeZ j k key val).ts.length=ix.ts.length:=by
 unfold invokeZ
 split
 ·rfl
 ·split
  ·rfl
  ·simp [invoke]
theorem actZ_len (ix:Ixp) (z:Int):(ix.actZ z).ts.length=ix.ts.length:=by
 unfold actZ
 dsimp only
 split
 ·exact doZ_len _ _ _
 ·exact invokeZ_len _ _ _ _ _
theorem loadZ_ts (ix:Ixp) (ps:List (Int × Int)):(ix.loadZ ps).2.ts=ix.ts∧(ix.loadZ ps).2.logn≤ix.logn+1:=by
 unfold loadZ
 repeat' split
 all_goals exact ⟨rfl,by simp⟩
end Ixp
def world0 (cells:Int) (keys:List Int):Ixp:=((Ixp.fresh (150+cells % 650) 2 3).loadZ (Mp.pairsP (keys.take 20))).2
def worldZ (cells:Int) (keys l:List Int):Ixp:=(l.take 70).foldl Ixp.actZ (world0 cells keys)
theorem world0_gd (cells:Int) (keys:List Int):(world0 cells keys).Gd 0∧(world0 cells keys).ts.length=3:=by
 obtain ⟨h1,h2⟩:=Ixp.loadZ_ts (Ixp.fresh (150+cells % 650) 2 3) (Mp.pairsP (keys.take 20))
 have h3:(world0 cells keys).ts=List.replicate 3 (Tp.idle 2):=h1
 have h4:(world0 cells keys).logn≤1:=h2
 refine ⟨⟨by rw [h3];simp,fun i q p e1 e2=>?_,fun i q e1=>?_,by omega⟩,by rw [h3];simp⟩
 ·rw [h3,List.getElem?_replicate] at e1
  split at e1
  ·cases e1;cases e2
  ·cases e1
 ·rw [h3,List.getElem?_replicate] at e1
  split at e1
  ·cases e1;exact ⟨by decide,by decide⟩
  ·cases e1
theorem fold_step {α β:Type} (f:β→α→β) {L:List α} {i:Nat} {z:α} (h:L[i]? = some z) (b:β):(L.drop i).foldl f b=(L.drop (i+1)).foldl f (f b z):=by
 obtain ⟨hi,e⟩:=List.getElem?_eq_some_iff.1 h
 rw [List.drop_eq_getElem_cons hi,e]
 rfl
theorem invokez_r (W:World) (n₀ x mb tb:Nat) (ix:Ixp) (mv:Value) (tv lv:Sl) (pz:List Pt) (h:IxIs W n₀ x ix mb mv tb tv lv pz) (hn:n₀≤W.heap.size) (j:Nat) (hj:j < ix.ts.length) (c:Nat) (hg:ix.Gd c) (hc:c≤7000) (z:Int) :
  Calls Tryz.prog 67 #[.pointer (some ⟨x,0,none⟩),.int .i64 (j:Int),.agg #[.int .i64 (opK z),.int .i64 (opKey z),.int .i64 (opVal z)]] W fun e W'=>(∃ r,e=.returned (.int .i64 r))∧(∃ lv' pz',IxIs W' n₀ x (ix.invokeZ j (opK z) (opKey z) (opVal z)) mb mv tb tv lv' pz')∧Td (Mine W n₀) W W':=by
 obtain ⟨q,hq⟩:∃ q,ix.ts[j]? = some q:=⟨_,List.getElem?_eq_getElem hj⟩
 obtain ⟨p,hp⟩:∃ p,pz[j]? = some p:=⟨_,List.getElem?_eq_getElem (by rw [h.pn];exact hj)⟩
 obtain ⟨b,hb⟩:∃ b,q.busy=b:=⟨_,rfl⟩
 unfold Ixp.invokeZ
 rw [hq]
 dsimp only
 rw [hb]
 have hl:=hg.log
 cases b with
 | true=>
  rw [if_pos rfl]
  refine (invoke_busy W n₀ x mb tb ix mv tv lv pz h j q p hq hp hb _ _ _).mono ?_
  rintro e W' ⟨rfl,k⟩
  exact ⟨⟨4,rfl⟩,⟨lv,pz,h.kept k⟩,k.mono (fun _ _ e=>e.elim)⟩
 | false=>
  rw [if_neg (by decide)]
  have o:=op_bounds z
  refine (invoke_r W n₀ x mb tb ix mv tv lv pz h j q p hq hp hb hn (by omega) _ _ _ ⟨o.1,hg.bud j q hq,i64_small (by show _≤opKey z;omega) (by show opKey z≤_;omega),i64_small (by show _≤opVal z;omega) (by show opVal z≤_;omega)⟩).mono ?_
  rintro e W' ⟨rfl,h2,h3⟩
  exact ⟨⟨0,rfl⟩,h2,h3⟩
end
section
open Go.Shelf
attribute [local go_sem] Oper.semAt_some
structure Wrl (w W:World) (x mb tb:Nat) (ix:Ixp):Prop where
 ixs:∃ mv tv lv pz,IxIs W w.heap.size x ix mb mv tb tv lv pz
 kept:Kept w W
 len:ix.ts.length=3
theorem Wrl.next {w W W':World} {x mb tb:Nat} {ix ix':Ixp} (h:Wrl w W x mb tb ix) (h1:∃ mv tv lv pz,IxIs W' w.heap.size x ix' mb mv tb tv lv pz) (t:Td (Mine W w.heap.size) W W') (hl:ix'.ts.length=ix.ts.length):Wrl w W' x mb tb ix':=
 ⟨h1,h.kept.own (fun _ e=>e) t.since,by rw [hl,h.len]⟩
set_option maxRecDepth 100000 in
set_option maxHeartbeats 4000000 in
theorem world_r (w:World) (cells:Int) (a1:Option Addr) (keys:List Int) (c1:Nat) (a2:Option Addr) (l:List Int) (c2:Nat) (hr1:Reads w a1 keys) (hc1:keys.length≤c1) (hm1:c1≤maxLen) (hr2:Reads w a2 l) (hc2:l.length≤c2) (hm2:c2≤maxLen) (hi:∀ z ∈ l,I64 z) :
  Calls Tryz.prog 52 #[.int .i64 cells,.int .i64 3,.slice a1 keys.length c1,.slice a2 l.length c2] w fun e W=>∃ x,e=.returned (.pointer (some ⟨x,0,none⟩))∧∃ mb tb,Wrl w W x mb tb (worldZ cells keys l):=by
 obtain ⟨M1,hM1⟩:∃ M,keys.length=M:=⟨_,rfl⟩
 obtain ⟨M2,hM2⟩:∃ M,l.length=M:=⟨_,rfl⟩
 rw [hM1] at hc1 ⊢
 rw [hM2] at hc2 ⊢
 have hl2:(M2:Int)≤9223372036854775807:=by unfold maxLen at hm2;omega
 obtain ⟨m,hm⟩:∃ m,cells % 650=m:=⟨_,rfl⟩
 have m0:0≤m∧m < 650:=by omega
 have C1:∀ X,Calls Tryz.prog 36 #[.int .i64 cells,.int .i64 650] X fun e X'=>e=.returned (.int .i64 m)∧X=X':=fun X=>hm ▸ cut_g X cells 650 (by decide) (by decide)
 obtain ⟨r0,ix0,hld⟩:∃ r i,(Ixp.fresh (150+m) 2 3).loadZ (Mp.pairsP (keys.take 20))=(r,i):=⟨_,_,rfl⟩
 have H0:Hid (world0 cells keys=ix0):=gh (by rw [world0,hm,hld])
 have HLD:=gh hld
 have HR1:=gh hr1
 have HR2:=gh hr2
 have HM1:=gh hM1
 have HM2:=gh hM2
 have HC1:=gh (And.intro hc1 hm1)
 have HC2:=gh hc2
 have HI:=gh hi
 clear hr1 hr2 hM1 hM2 hc1 hc2 hm1 hm2 hi hm hld
 go_enter Tryz.func52,Tryz.ntmps52
 go_wp2_with (fail)
 refine (C1 w).mono ?_
 rintro e w' ⟨rfl,rfl⟩
 clear C1
 go_wp2_with (fail)
 refine (new_r w (150+m) 2 3 (by omega) (by omega) (by decide) (by decide) (by decide) (by decide)).mono ?_
 rintro e W1 ⟨x,rfl,⟨mb,mv1,tb,tv1,lv1,pz1,i1⟩,k1⟩
 have I1:=gh i1
 have K1:=gh k1
 clear i1 k1
 go_wp2_with (fail)
 refine (few_r W1 a1 keys M1 c1 20 (HR1.out.kept K1.out) HM1.out HC1.out.1 HC1.out.2 (by decide)).mono ?_
 rintro e w' ⟨rfl,rfl⟩
 go_wp2_with (fail)
 refine (Mp.pairs_c W1 a1 (keys.take 20) (min M1 20) c1 (by rw [List.length_take,HM1.out,Nat.min_comm]) ((HR1.out.kept K1.out).takes 20) (by have:=HC1.out.1;omega) HC1.out.2).mono ?_
 rintro e W2 ⟨v2,rfl,r2,k2⟩
 have r2':PRow W2 W1.heap.size 59 v2 (Mp.pairsP (keys.take 20)):=r2
 obtain ⟨ap,cp,rfl,hpr,hpc,hpm,hp0,_⟩:=r2'.reads
 obtain ⟨Mp',hMp⟩:∃ M,(Mp.pairsP (keys.take 20)).length=M:=⟨_,rfl⟩
 have LS:Hid (Lst W2 ap (Mp.pairsP (keys.take 20)) Mp' cp):=gh ⟨hpr,hMp,by omega,hpm,by have:=Mp.pairsP_le (keys.take 20);omega,hp0,fun _ ad e=>by
  obtain ⟨c,hc⟩:=r2'.typed ad.block (by rw [e];rfl)
  exact ⟨c,hc⟩⟩
 have I2:=gh (I1.out.kept k2)
 have K2:=gh (K1.out.trans k2)
 rw [hMp]
 clear r2 r2' hpr hpc hpm hp0 hMp k2 I1
 go_wp2_with (fail)
 refine (load_r W2 w.heap.size x mb tb _ mv1 tv1 lv1 pz1 I2.out K2.out.size (by simp [Ixp.fresh]) (by simp [Ixp.fresh]) ap _ Mp' cp LS.out (Mp.pairsP_i64 _) r0 ix0 HLD.out).mono ?_
 rintro e W3 ⟨rfl,⟨mv3,lv3,i3⟩,t3⟩
 rw [← H0.out] at i3
 have G0:=gh (world0_gd cells keys)
 have WR:Hid (Wrl w W3 x mb tb (world0 cells keys)):=gh ⟨⟨mv3,tv1,lv3,pz1,i3⟩,K2.out.own (fun _ e=>e) t3.since,G0.out.2⟩
 clear i3 t3 LS I2 K2 K1
 go_wp2_with (fail)
 rename World=>W4
 go_loopw [11,12,13] (fun vi _ _ wr=>∃ (i:Nat) (ix:Ixp),vi=.int .i64 (i:Int)∧i≤M2∧i≤70∧Hid (Wrl w wr x mb tb ix)∧Hid (ix.Gd (24 * i))∧Hid (worldZ cells keys l=((l.take 70).drop i).foldl Ixp.actZ ix)) (fun vi _ _ _=>70 - (intOf vi).toNat)
 case atStart=>exact ⟨0,world0 cells keys,rfl,by omega,by omega,WR,gh G0.out.1,gh rfl⟩
 case round=>
  obtain ⟨i,ix,rfl,hi,hi7,WI,G,E⟩:=hrel
  clear WR G0
  by_cases hlt:i < M2
  ·have j1:(i:Int) < (M2:Int):=by omega
   by_cases h70:i < 70
   ·have j2:(i:Int) < 70:=by omega
    obtain ⟨z,hz⟩:∃ z,l[i]? = some z:=⟨_,List.getElem?_eq_getElem (by rw [HM2.out];exact hlt)⟩
    obtain ⟨bl,off,rfl,hbl,hcell0⟩:=HR2.out.at hz
    have hcell:=WI.out.kept.cell hcell0 id
    have j3:i < c2:=by have:=HC2.out;omega
    obtain ⟨z1,z2⟩:=HI.out z (List.mem_of_getElem? hz)
    obtain ⟨tt,htt⟩:∃ tt:Nat,z % 3=(tt:Int):=⟨(z % 3).toNat,by omega⟩
    have tt3:tt < 3:=by omega
    obtain ⟨n1,hn1⟩:∃ n,z.tdiv 3=n:=⟨_,rfl⟩
    obtain ⟨n2,hn2⟩:∃ n,n1.tdiv 3=n:=⟨_,rfl⟩
    have d1:z.tmod 3+3 * n1=z:=by rw [← hn1];first | exact Int.tmod_add_tdiv z 3 | exact Int.tmod_add_mul_tdiv z 3
    have d2:n1.tmod 3+3 * n2=n1:=by rw [← hn2];first | exact Int.tmod_add_tdiv n1 3 | exact Int.tmod_add_mul_tdiv n1 3
    have d3:=Int.lt_tmod_of_pos z (show (0:Int) < 3 by decide)
    have d4:=Int.tmod_lt_of_pos z (show (0:Int) < 3 by decide)
    have d5:=Int.lt_tmod_of_pos n1 (show (0:Int) < 3 by decide)
    have d6:=Int.tmod_lt_of_pos n1 (show (0:Int) < 3 by decide)
    generalize z.tmod 3=p1 at d1 d3 d4
    generalize n1.tmod 3=p2 at d2 d5 d6
    have b1:-9223372036854775808≤n1∧n1≤9223372036854775807:=by omega
    have b2:-9223372036854775808≤n2∧n2≤9223372036854775807:=by omega
    clear d1 d2 d3 d4 d5 d6
    obtain ⟨k3,hk3⟩:∃ k,n1 % 3=k:=⟨_,rfl⟩
    have k30:0≤k3∧k3 < 3:=by omega
    obtain ⟨kk,hkk⟩:∃ kk:Nat,n2 % 24=(kk:Int):=⟨(n2 % 24).toNat,by omega⟩
    have kk24:kk < 24:=by omega
    have C3:∀ X,Calls Tryz.prog 36 #[.int .i64 z,.int .i64 3] X fun e X'=>e=.returned (.int .i64 (tt:Int))∧X=X':=fun X=>htt ▸ cut_g X z 3 (by decide) (by decide)
    have C4:∀ X,Calls Tryz.prog 36 #[.int .i64 n1,.int .i64 3] X fun e X'=>e=.returned (.int .i64 k3)∧X=X':=fun X=>hk3 ▸ cut_g X n1 3 (by decide) (by decide)
    have C5:∀ X,Calls Tryz.prog 36 #[.int .i64 n2,.int .i64 24] X fun e X'=>e=.returned (.int .i64 (kk:Int))∧X=X':=fun X=>hkk ▸ cut_g X n2 24 (by decide) (by decide)
    have HC3:=gh C3
    have HC4:=gh C4
    have HC5:=gh C5
    have hzt:(l.take 70)[i]? = some z:=by rw [List.getElem?_take,if_pos h70];exact hz
    have EN:Hid (worldZ cells keys l=((l.take 70).drop (i+1)).foldl Ixp.actZ (ix.actZ z)):=gh (by rw [E.out,fold_step _ hzt])
    have GN:Hid ((ix.actZ z).Gd (24 * (i+1))):=gh ((Ixp.actZ_gd G.out z).le (by omega))
    have AZ:Hid (ix.actZ z=if 0 < k3∧ix.busyB tt=true then Ixp.doZ tt (1+kk) ix else ix.invokeZ tt (opK n2) (opKey n2) (opVal n2)):=gh (by
     have e1:(z % 3).toNat=tt:=by omega
     have e2:(1+n2 % 24).toNat=1+kk:=by omega
     unfold Ixp.actZ
     dsimp only
     rw [e1,hn1,hk3,hn2,e2])
    have tl:tt < ix.ts.length:=by rw [WI.out.len];exact tt3
    obtain ⟨q,hq⟩:∃ q,ix.ts[tt]? = some q:=⟨_,List.getElem?_eq_getElem tl⟩
    obtain ⟨mv,tv,lv,pz,I⟩:=WI.out.ixs
    obtain ⟨p,hp⟩:∃ p,pz[tt]? = some p:=⟨_,List.getElem?_eq_getElem (by rw [I.pn];exact tl)⟩
    obtain ⟨b,hb⟩:∃ b,q.busy=b:=⟨_,rfl⟩
    have BB:Hid (ix.busyB tt=b):=gh (by unfold Ixp.busyB;rw [hq];exact hb)
    have f4:=I.cells.1.2.1
    have fj:=I.slot hp
    have fb:=(I.th tt q p hq hp).cells.1.2.1
    rw [hb] at fb
    have u1:(tt:Int) < (tv.n:Int):=by have:=I.tvn.1;omega
    have u2:tt < tv.c:=by have:=I.tvn;omega
    have u0:decide ((tt:Int) < 0)=false:=by simp
    have u3:decide ((tv.n:Int)≤(tt:Int))=false:=by simp;omega
    have HI4:=gh I
    have HQ:=gh hq
    have HB:=gh hb
    have NW:=gh WI.out.kept.size
    have HB2:=gh (And.intro b2.1 b2.2)
    have i24:Hid (24 * i≤1680):=gh (by omega)
    have TT3:=gh tl
    clear hz htt hk3 hkk C3 C4 C5 hzt E hq hp hb I hcell0 hbl tl
    go_wp2_with (fail)
    refine (HC3.out wr).mono ?_
    rintro e w' ⟨rfl,rfl⟩
    clear hcell
    go_wp2_with (fail)
    try rw [hn1]
    refine (HC4.out wr).mono ?_
    rintro e w' ⟨rfl,rfl⟩
    have DN:Hid (0 < k3→b=true→Calls Tryz.prog 104 #[.pointer (some ⟨x,0,none⟩),.agg #[.int .i64 2,.int .i64 (tt:Int),.int .i64 (1+(kk:Int)),.int .i64 0,.int .i64 0,.int .i64 0]] wr fun e W'=>e=.returned (.int .i64 0)∧Wrl w W' x mb tb (ix.actZ z)):=gh (fun h3 hbt=>by
     obtain ⟨p',hp'⟩:=HI4.out.bz tt q HQ.out (by rw [HB.out,hbt])
     have e1:((1+kk:Nat):Int)=1+(kk:Int):=by omega
     have:=do_r wr w.heap.size x mb tb ix mv tv lv pz HI4.out NW.out tt q p' HQ.out (by rw [HB.out,hbt]) hp' (24 * i) G.out (1+kk) (by omega) (by have:=i24.out;omega)
     rw [e1] at this
     refine this.mono ?_
     rintro e W' ⟨rfl,⟨mv',lv',pz',h1⟩,h2⟩
     have ez:ix.actZ z=Ixp.doZ tt (1+kk) ix:=by rw [AZ.out,if_pos ⟨h3,by rw [BB.out,hbt]⟩]
     exact ⟨rfl,WI.out.next ⟨mv',tv,lv',pz',by rw [ez];exact h1⟩ h2 (Ixp.actZ_len ix z)⟩)
    have IN:Hid (¬ (0 < k3∧b=true)→∀ W',Kept wr W'→Calls Tryz.prog 67 #[.pointer (some ⟨x,0,none⟩),.int .i64 (tt:Int),.agg #[.int .i64 (opK n2),.int .i64 (opKey n2),.int .i64 (opVal n2)]] W' fun e W''=>(∃ r,e=.returned (.int .i64 r))∧Wrl w W'' x mb tb (ix.actZ z)):=gh (fun hne W' k'=>by
     refine (invokez_r W' w.heap.size x mb tb ix mv tv lv pz (HI4.out.kept k') (Nat.le_trans NW.out k'.size) tt TT3.out (24 * i) G.out (by have:=i24.out;omega) n2).mono ?_
     rintro e W'' ⟨h0,⟨lv',pz',h1⟩,h2⟩
     have ez:ix.actZ z=ix.invokeZ tt (opK n2) (opKey n2) (opVal n2):=by rw [AZ.out,if_neg (by rw [BB.out];exact hne)]
     exact ⟨h0,WI.out.next ⟨mv,tv,lv',pz',by rw [ez];exact h1⟩ (Td.mine_kept k' h2) (Ixp.actZ_len ix z)⟩)
    clear HI4 HQ HB BB AZ G
    by_cases h3:0 < k3
    ·cases b with
     | true=>
      go_wp2_with (fail)
      try rw [hn2]
      refine (HC5.out wr).mono ?_
      rintro e w' ⟨rfl,rfl⟩
      clear f4 fj fb
      go_wp2_with (fail)
      refine (DN.out h3 (by simp)).mono ?_
      rintro e W6 ⟨rfl,w6⟩
      have W6':=gh w6
      clear w6 DN IN
      go_wp2
      exact ⟨⟨i+1,_,by simp,by omega,by omega,W6',GN,EN⟩,by simp only [intOf];omega⟩
     | false=>
      go_wp2_with (fail)
      try rw [hn2]
      refine (op_r wr n2 ⟨b2.1,b2.2⟩).mono ?_
      rintro e W5 ⟨rfl,k5⟩
      have K5:=gh k5
      clear f4 fj fb k5
      go_wp2_with (fail)
      refine (IN.out (by simp) W5 K5.out).mono ?_
      rintro e W6 ⟨⟨rr,rfl⟩,w6⟩
      have W6':=gh w6
      clear w6 DN IN
      go_wp2
      exact ⟨⟨i+1,_,by simp,by omega,by omega,W6',GN,EN⟩,by simp only [intOf];omega⟩
    ·go_wp2_with (fail)
     try rw [hn2]
     refine (op_r wr n2 ⟨b2.1,b2.2⟩).mono ?_
     rintro e W5 ⟨rfl,k5⟩
     have K5:=gh k5
     clear f4 fj fb k5
     go_wp2_with (fail)
     refine (IN.out (by rintro ⟨e,-⟩;omega) W5 K5.out).mono ?_
     rintro e W6 ⟨⟨rr,rfl⟩,w6⟩
     have W6':=gh w6
     clear w6 DN IN
     go_wp2
     exact ⟨⟨i+1,_,by simp,by omega,by omega,W6',GN,EN⟩,by simp only [intOf];omega⟩
   ·have j2:¬ ((i:Int) < 70):=by omega
    obtain rfl:i=70:=by omega
    have HE:Hid (worldZ cells keys l=ix):=gh (by rw [E.out,List.drop_of_length_le (by simp;omega)];rfl)
    go_wp2
    go_ret
    exact ⟨x,rfl,mb,tb,by rw [HE.out];exact WI.out⟩
  ·have j1:¬ ((i:Int) < (M2:Int)):=by omega
   obtain rfl:i=M2:=by omega
   have HE:Hid (worldZ cells keys l=ix):=gh (by rw [E.out,List.drop_of_length_le (by have:=HM2.out;simp;omega)];rfl)
   go_wp2
   go_ret
   exact ⟨x,rfl,mb,tb,by rw [HE.out];exact WI.out⟩
end
section
open Go.Shelf
structure Grew1 (s s':Mst):Prop where
 size:s'.size=s.size
 len:s.xs.length≤s'.xs.length
theorem Grew1.refl (s:Mst):Grew1 s s:=⟨rfl,Nat.le_refl _⟩
theorem Grew1.trans {s s' s'':Mst} (h:Grew1 s s') (h':Grew1 s' s''):Grew1 s s'':=⟨h'.size.trans h.size,Nat.le_trans h.len h'.len⟩
theorem Mst.touch_grew (m:Mst) (a:Int):Grew1 m (m.touch a):=by unfold Mst.touch;split <;> exact ⟨rfl,Nat.le_refl _⟩
theorem Mst.write_grew (m:Mst) (a x:Int):Grew1 m (m.write a x):=by
 unfold Mst.write
 refine (m.touch_grew a).trans ?_
 unfold Mst.put
 split
 ·exact ⟨rfl,by simp⟩
 ·exact Grew1.refl _
theorem Mst.make_grew (m:Mst) (w:List Int):Grew1 m (m.make w):=by
 unfold Mst.make
 split
 ·exact ⟨rfl,by simp⟩
 ·exact ⟨rfl,Nat.le_refl _⟩
theorem Mst.doA_grew (m:Mst) (q:Ak):Grew1 m (m.doA q).2:=by
 have hc:∀ a o x,Grew1 m (m.cas a o x):=fun a o x=>by
  unfold Mst.cas
  split
  ·exact m.write_grew _ _
  ·exact m.touch_grew _
 unfold Mst.doA
 split
 ·exact m.touch_grew _
 ·split
  ·exact m.write_grew _ _
  ·split
   ·exact hc _ _ _
   ·split
    ·exact m.write_grew _ _
    ·split
     ·exact m.make_grew _
     ·exact Grew1.refl _
theorem kidF_grew {L:Mst→List (Int × Int)→Int × Mst} (hL:∀ s ps,Grew1 s (L s ps).2) (ps:List (Int × Int)) (s:Mst):∀ n,Grew1 s (kidF L ps s n).2
 | 0=>Grew1.refl s
 | n+1=>(kidF_grew hL ps s n).trans (hL _ _)
theorem layF_grew:∀ (f:Nat) (s:Mst) (ps:List (Int × Int)),Grew1 s (layF f s ps).2
 | 0,s,_=>Grew1.refl s
 | f+1,s,ps=>by
  rw [layF_succ]
  split
  ·exact s.make_grew _
  ·split
   ·exact s.make_grew _
   ·exact (kidF_grew (fun s ps=>layF_grew f s ps) ps s _).trans (Mst.make_grew _ _)
theorem buildS_grew (s:Mst) (ps:List (Int × Int)):Grew1 s (buildS s ps).2:=by
 unfold buildS
 split
 ·exact layF_grew _ _ _
 ·exact Grew1.refl s
namespace Ixp
theorem loadZ_grew (ix:Ixp) (ps:List (Int × Int)):Grew1 ix.m (ix.loadZ ps).2.m:=by
 unfold loadZ
 repeat' split
 all_goals first
  | exact Grew1.refl _
  | exact buildS_grew _ _
  | exact (buildS_grew _ _).trans (Mst.write_grew _ _ _)
theorem step_grew (p:Fp) (m:Mst):Grew1 m (p.step m).2:=by
 unfold Fp.step
 split
 ·exact Grew1.refl _
 ·exact m.doA_grew _
theorem pickZ_grew (ix:Ixp) (j:Nat):Grew1 ix.m (ix.pickZ j).2.m:=by
 unfold pickZ
 split
 ·exact Grew1.refl _
 ·rename_i q _
  split
  ·exact Grew1.refl _
  ·rename_i p _
   split
   ·dsimp only
    rw [(takesL_keeps _ _ _).2.2]
    show Grew1 ix.m (q.step p ix.m).2.2
    rw [(tstep_fr q p ix.m).2.2.1]
    exact step_grew p ix.m
   ·exact Grew1.refl _
theorem doZ_grew (j:Nat):∀ (n:Nat) (ix:Ixp),Grew1 ix.m (doZ j n ix).m
 | 0,_=>Grew1.refl _
 | n+1,ix=>by
  rw [doZ]
  split
  ·exact pickZ_grew ix j
  ·exact (pickZ_grew ix j).trans (doZ_grew j n _)
theorem invokeZ_m (ix:Ixp) (j:Nat) (k key val:Int):(ix.invokeZ j k key val).m=ix.m:=by
 unfold invokeZ
 split
 ·rfl
 ·split <;> rfl
theorem actZ_grew (ix:Ixp) (z:Int):Grew1 ix.m (ix.actZ z).m:=by
 unfold actZ
 dsimp only
 split
 ·exact doZ_grew _ _ _
 ·rw [invokeZ_m];exact Grew1.refl _
theorem fold_grew:∀ (L:List Int) (ix:Ixp),Grew1 ix.m (L.foldl actZ ix).m
 | [],_=>Grew1.refl _
 | z :: L,ix=>(actZ_grew ix z).trans (fold_grew L _)
end Ixp
theorem worldZ_grew (cells:Int) (keys l:List Int):(worldZ cells keys l).m.size=150+cells % 650∧7≤(worldZ cells keys l).m.xs.length:=by
 have h1:=Ixp.loadZ_grew (Ixp.fresh (150+cells % 650) 2 3) (Mp.pairsP (keys.take 20))
 have h2:=Ixp.fold_grew (l.take 70) (world0 cells keys)
 have h3:Grew1 (begun (Mst.new (150+cells % 650))) (worldZ cells keys l).m:=h1.trans h2
 exact ⟨h3.size,h3.len⟩
theorem Wrl.mem {w W:World} {x mb tb:Nat} {ix:Ixp} (h:Wrl w W x mb tb ix):∃ v,DMem W w.heap.size mb v ix.m∧ix.m.ok∧W.cell? ⟨x,3,none⟩=some (.pointer (some ⟨mb,0,none⟩)):=by
 obtain ⟨mv,tv,lv,pz,I⟩:=h.ixs
 exact ⟨mv,I.mem,I.mok,I.cells.1.1⟩
theorem cp_ok {s:Mst} (h:s.ok) (hl:(s.xs.length:Int)≤s.size):(cp s).ok:=⟨by rw [cp_xs hl];exact h.1,by rw [cp_xs hl];exact h.2⟩
end
section
open Go.Shelf
attribute [local go_sem] Oper.semAt_some
theorem PRow.form {w:World} {n₀:Nat} {E:TypeId} {v:Value} {xs:List (Int × Int)} (h:PRow w n₀ E v xs):∃ a cap,v=.slice a xs.length cap∧PReads w a xs∧xs.length≤cap∧cap≤maxLen∧(a=none→cap=0)∧∀ ad,a=some ad→n₀≤ad.block∧ad.block < w.heap.size:=by
 obtain ⟨a,cap,rfl,h1,h2,h3,h4,h5⟩:=h.reads
 refine ⟨a,cap,rfl,h1,h2,h3,h4,fun ad e=>⟨h5 ad e,?_⟩⟩
 subst e
 rcases h.2 with ⟨e,_⟩ | ⟨g,cap',cur,e,hg,hh,_⟩
 ·cases e
 ·cases e
  exact (Array.getElem?_eq_some_iff.1 hh).1
theorem leaves_k (w:World) (b:Nat) :
  Calls Tryz.prog 35 #[.pointer (some ⟨b,0,none⟩)] w fun e w'=>∃ B1,e=.returned (.func (.func 90) #[] #[.pointer (some ⟨B1,0,none⟩)])∧Kept w w'∧Boxed w' B1 36 (.pointer (some ⟨b,0,none⟩))∧w.heap.size≤B1:=by
 go_enter Tryz.func35,Tryz.ntmps35
 go_wp2
 go_ret
 exact ⟨_,rfl,(Kept.refl w).alloc _,Boxed.new w 36 _,Nat.le_refl _⟩
set_option maxHeartbeats 4000000 in
set_option maxRecDepth 20000 in
theorem leaves_i (w W:World) (hk:Kept w W) (b:Nat) (s:Mst) (hM:PM w b s) (ho:s.ok) (xs:List (Int × Int)) (hxs:contentB s (s.logicZ 6)=xs) (hl:xs.length≤100000) (B1:Nat) (h1:Boxed W B1 36 (.pointer (some ⟨b,0,none⟩))) :
  Iter Tryz.prog 90 #[.pointer (some ⟨B1,0,none⟩)] enc2 xs (SpotR w B1) W:=by
 intro l O₀ J Jx hR gJ gJx hY h0
 obtain ⟨V,hV⟩:∃ V,W.drew=V:=⟨_,rfl⟩
 have kV:Kept W V:=by rw [← hV];exact Kept.drew _
 have x0:∀ u:Wd (fun U=>Kept V U),u.w.cell? ⟨B1,0,none⟩=some (.pointer (some ⟨b,0,none⟩)):=fun u=>u.ok.cell (kV.cell h1.cell id) id
 obtain ⟨r,hr⟩:∃ r,s.logicZ 6=r:=⟨_,rfl⟩
 rw [hr] at hxs
 have HR:=gh hr
 have HX:=gh hxs
 have HI:Hid (I64 r):=gh (by rw [← hr];exact ho.logic 6)
 have HM:=gh (hM.kept (hk.trans kV))
 have HO:=gh ho
 have HY:=gh hY
 have GJ:=gh gJ
 have HV:=gh hV
 have KV:=gh kV
 have H0:=gh h0
 obtain ⟨M,hMM⟩:∃ M,xs.length=M:=⟨_,rfl⟩
 have HMM:=gh hMM
 have ml:(M:Int)≤100000:=by omega
 have O0:Hid (∀ k,O₀ k→k < W.heap.size):=gh (gJ.within _ _ _ h0)
 clear hM ho hY h0 hk hR hxs hr hl hMM h1 hV kV gJ gJx
 refine (callsIn_wide (n:=10)).1 ?_
 refine callsIn_of_wp Tryz.func90 rfl trivial ?_ rfl
 simp only [Tryz.ntmps90,List.size_toArray,List.length_cons,List.length_nil,Nat.reduceAdd,Nat.reduceSub,Array.replicate_succ,Array.replicate_zero,List.push_toArray,List.append_toArray,List.nil_append,List.cons_append]
 gi_wp2_with (fail)
 refine region_calm [0,1,5,2,3,4] (fun U=>Kept V U) (by kernel_rfl) (by kernel_rfl) (by rw [HV.out];exact Kept.refl _) (fun _=>?_)
 rw [HV.out]
 repeat (refine pq rfl rfl ?_;go_big_quiet_step (fail);refine wpQuiet_nil ?_)
 refine pl rfl rfl ?_
 gi_wp2_with (fail)
 refine ⟨trivial,?_⟩
 refine (callsIn_wide.2 (logic_p V b s 6 r HM.out HO.out HR.out)).mono ?_
 rintro e U ⟨rfl,rfl⟩
 gi_wp2_with (fail)
 refine ⟨Wd.mem (Kept.refl _),?_⟩
 refine pl rfl rfl ?_
 gi_wp2_with (fail)
 refine ⟨trivial,?_⟩
 refine (callsIn_wide.2 (content_p V b s r HM.out HO.out HI.out xs HX.out)).mono ?_
 rintro e W1 ⟨v1,rfl,row1,k1⟩
 obtain ⟨a1,c1,rfl,pr1,q1,m1,-,b1⟩:=PRow.form row1
 rw [HMM.out] at q1 ⊢
 have K1:=gh k1
 have KW:=gh (KV.out.trans k1)
 have PR:=gh pr1
 have BB:Hid (∀ ad,a1=some ad→W.heap.size≤ad.block∧ad.block < W1.heap.size):=gh (fun ad e=>⟨Nat.le_trans KV.out.size (b1 ad e).1,(b1 ad e).2⟩)
 have J1:=gh (GJ.out.abides _ _ _ _ H0.out (KW.out.mono (fun _ _ e=>e.elim)))
 have mx:(c1:Int)≤9223372036854775807:=by unfold maxLen at m1;omega
 clear row1 k1 pr1 m1 b1 H0
 gi_wp2_with (fail)
 refine ⟨Wd.mem K1.out,?_⟩
 repeat (refine pq rfl rfl ?_;go_big_quiet_step (fail);refine wpQuiet_nil ?_)
 refine perm_done ?_
 gi_wp2
 gi_loopw [4,10] (fun _ i wr=>∃ (k:Nat) (O:Nat→Prop),k≤M∧i=.int .i64 (k:Int)∧Hid (Sub O O₀ W1.heap.size)∧Hid (Td O₀ W1 wr)∧Hid (J O (xs.take k) wr)) (fun _ i _=>M - (intOf i).toNat)
 case atStart=>exact ⟨0,O₀,by omega,by simp,gh (Sub.refl _ _),gh (Td.refl _ _),gh (by simpa using J1.out)⟩
 case round=>
  obtain ⟨k,O,hk,rfl,HS,HTT,HJ⟩:=hrel
  clear J1
  by_cases hkn:k < M
  ·have j1:(k:Int) < (M:Int):=by omega
   obtain ⟨⟨p1,p2⟩,hp⟩:∃ p,xs[k]? = some p:=⟨_,List.getElem?_eq_getElem (by have:=HMM.out;omega)⟩
   obtain ⟨bl,off,rfl,_,g1,g2⟩:=(PR.out.turned HTT.out (fun i _ ⟨ad,e1,e2⟩ hi=>by
    have h1:=(BB.out ad e1).1
    have h2:=O0.out i hi
    omega)).at hp
   simp only at g1 g2
   rw [← Nat.add_assoc] at g2
   have j2:k < c1:=by omega
   obtain ⟨A,hA⟩:∃ A,wr.alloc (.cells #[.int .i64 p1,.int .i64 p2] 59)=A:=⟨_,rfl⟩
   have kA:Kept wr A:=by rw [← hA];exact Td.alloc _ _ _
   have hhA:A.heap[wr.heap.size]? = some (.cells #[.int .i64 p1,.int .i64 p2] 59):=by rw [← hA];exact heap_new _ _
   have cA0:A.cell? ⟨wr.heap.size,0,none⟩=some (.int .i64 p1):=by simp [World.cell?,hhA]
   have cA1:A.cell? ⟨wr.heap.size,1,none⟩=some (.int .i64 p2):=by simp [World.cell?,hhA]
   have TA:Td O₀ W1 A:=kA.behind HTT.out
   have JA:=GJ.out.abides _ _ _ _ HJ.out (kA.mono (fun _ _ e=>e.elim))
   obtain ⟨q1',q2'⟩:=at_split hp
   obtain ⟨fn,tmps,assign,body,hy,hRd⟩:=HY.out O (xs.take k) (p1,p2) _ A q1' (KW.out.then TA) (HS.out.more KW.out.size) JA
   rw [q2'] at hRd
   have HRd:=gh hRd
   have HAA:=gh hA
   have TAA:=gh TA
   have SZ:Hid (W1.heap.size≤A.heap.size):=gh TA.size
   dsimp only [enc2] at hy
   clear q1' q2' hRd hp kA TA JA hhA
   gi_wp2_with (fail)
   refine HRd.out.mono ?_
   rintro e W3 ⟨O',hs3,ht3,⟨rfl,hj3⟩ | ⟨rfl,hj3⟩⟩
   ·have S3:=gh (hs3.trans HS.out SZ.out)
    have T3:=gh (TAA.out.sub ht3 HS.out)
    have J3:=gh hj3
    clear hs3 ht3 hj3 hy HRd HY hA
    gi_wp2
    exact ⟨⟨k+1,O',by omega,by simp,S3,T3,J3⟩,by simp [intOf];omega⟩
   ·have S3:=gh (hs3.trans HS.out SZ.out)
    have T3:=gh (TAA.out.sub ht3 HS.out)
    have J3:=gh hj3
    clear hs3 ht3 hj3 hy HRd HY hA
    gi_wp2
    refine bodyPost_ret (results_none rfl _ _ _) rfl ?_
    exact ⟨⟨_,rfl⟩,O',S3.out.more KW.out.size,KW.out.then T3.out,.inr ⟨_,xs.drop (k+1),(List.take_append_drop _ _).symm,J3.out⟩⟩
  ·have hkn':k=M:=by omega
   subst hkn'
   have j1:¬ ((k:Int) < (k:Int)):=by omega
   gi_wp2
   go_end0
   exact ⟨⟨_,rfl⟩,O,HS.out.more KW.out.size,KW.out.then HTT.out,.inl (by have:=HJ.out;rwa [List.take_of_length_le (by rw [HMM.out];omega)] at this)⟩
end
section
theorem calmS_dcss {s:Mst} {p:Int × Int} (he:p.2=s.logicZ p.1) (h:s.look p.1≠p.2):calmS s p=false:=by
 have h5:kd (s.look p.1)=5:=by
  apply Classical.byContradiction
  intro h5
  apply h
  rw [he,Mst.logicZ,if_neg h5]
 rw [calmS,h5];rfl
theorem calmS_same {s:Mst} {p:Int × Int} (hw:WordOk s p.2) (h:s.look p.1=p.2):calmS s p=calmW s p.2:=by
 have:=hw.2.1
 have h5:kd p.2≠5:=by omega
 rw [calmS,h]
 simp [h5]
set_option maxHeartbeats 4000000 in
set_option maxRecDepth 20000 in
theorem calm_d (w:World) (b:Nat) (s:Mst) (h:DM w b s) (ho:s.ok) (r:Bool) (e1:calmB s=r) :
  Calls Tryz.prog 33 #[.pointer (some ⟨b,0,none⟩)] w fun e w'=>e=.returned (.bool r)∧Kept w w':=by
 have H:=gh h
 have HO:=gh ho
 obtain ⟨L,hL⟩:∃ L,(if soundB s=true then spotsL s (fuel s) else [])=L:=⟨_,rfl⟩
 have HLL:=gh hL
 obtain ⟨M,hM⟩:∃ M,L.length=M:=⟨_,rfl⟩
 have hm:M≤70000:=by
  rw [← hM,← hL]
  split
  ·rename_i hs;exact spotsL_len ho hs
  ·simp
 have e2:r=(decide (0 < M) && L.all (calmS s)):=by
  rw [← e1,calmB,← hM,← hL]
  split
  ·rename_i hs;rw [hs];simp [spotsL]
  ·rename_i hs;simp [hs]
 have HE:=gh e2
 have OK:Hid (∀ p ∈ L,WordOk s p.2∧p.2=s.logicZ p.1):=gh (by
  rw [← hL]
  split
  ·rename_i hs;exact spotsL_ok ho hs
  ·intro p hp;cases hp)
 have OI:Hid (∀ p ∈ L,I64 p.2):=gh (by
  rw [← hL]
  split
  ·exact spotsL_i64 ho _
  ·intro p hp;cases hp)
 have HM:=gh hM
 clear h ho e1 e2 hL hM
 go_enter Tryz.func33,Tryz.ntmps33
 go_wp2_with (fail)
 refine (spotsD_p w b s H.out HO.out L HLL.out).mono ?_
 rintro e W1 ⟨v,rfl,hr,k1⟩
 obtain ⟨la,lc,hv,hrd,hlc,hlm,_,_⟩:=hr.reads
 rw [HM.out] at hv hlc
 subst hv
 have HRD:=gh hrd
 have K1:=gh k1
 clear hr hrd k1
 go_wp2
 go_loopw [4] (fun i wr=>∃ k:Nat,k≤M∧i=.int .i64 (k:Int)∧Hid (∀ p ∈ L.take k,calmS s p=true)∧Hid (Kept W1 wr)) (fun i _=>M - (intOf i).toNat)
 case atStart=>exact ⟨0,by omega,by simp,gh (by intro p hp;simp at hp),gh (Kept.refl _)⟩
 case round=>
  obtain ⟨k,hk,rfl,HA,HK⟩:=hrel
  by_cases hkm:k < M
  ·obtain ⟨⟨sl,y⟩,hp⟩:∃ p,L[k]? = some p:=⟨_,List.getElem?_eq_getElem (by rw [HM.out];exact hkm)⟩
   obtain ⟨bl,off,rfl,_,q0,q1⟩:=HRD.out.at hp
   have c0:=HK.out.cell q0 id
   have c1:wr.cell? ⟨bl,off+k * 2+1,none⟩=some (.int .i64 y):=HK.out.cell q1 id
   have hmem:=List.mem_of_getElem? hp
   obtain ⟨hw0,hw1⟩:=OK.out _ hmem
   have HW0:=gh hw0
   have HYI:=gh (OI.out _ hmem)
   have MW:=gh (H.out.kept (K1.out.trans HK.out))
   have j1:(k:Int) < (M:Int):=by omega
   have j2:k < lc:=by omega
   obtain ⟨t,ht⟩:∃ t,kd y=t:=⟨_,rfl⟩
   obtain ⟨p,hpp⟩:∃ p,ad y=p:=⟨_,rfl⟩
   obtain ⟨u,hu⟩:∃ u,s.look sl=u:=⟨_,rfl⟩
   have pr:=ad_range y
   rw [hpp] at pr
   obtain ⟨p0,p1⟩:=pr
   have HT:=gh ht
   have HPP:=gh hpp
   have HU:=gh hu
   have BAD:calmS s (sl,y)=false→Hid (r=false):=fun hc=>gh (by
    rw [HE.out]
    have:L.all (calmS s)=false:=List.all_eq_false.2 ⟨_,hmem,by simp [hc]⟩
    rw [this,Bool.and_false])
   have GOOD:calmS s (sl,y)=true→Hid (∀ p ∈ L.take (k+1),calmS s p=true):=fun hc=>gh (by
    rw [← (at_split hp).2]
    intro q hq
    rcases List.mem_append.1 hq with hq | hq
    ·exact HA.out q hq
    ·simp at hq;rw [hq];exact hc)
   by_cases t4:t=4
   ·have HR:=BAD (by
     have:calmW s y=false:=by rw [calmW,if_pos (by rw [ht];exact t4)]
     rw [calmS];show (!(kd (s.look sl) == 5) && calmW s y)=false;rw [this,Bool.and_false])
    subst t4
    clear hp q0 q1 hmem hw0 hw1 ht hpp hu BAD GOOD
    go_wp2_with (fail)
    refine (ak_d _ y p HYI.out HPP.out).mono ?_
    rintro e w' ⟨rfl,rfl⟩
    go_wp2_with (fail)
    refine (kk_d _ y 4 HYI.out HT.out).mono ?_
    rintro e w' ⟨rfl,rfl⟩
    go_wp2
    go_ret
    exact ⟨by rw [HR.out];rfl,K1.out.trans HK.out⟩
   have g4:(t == 4)=false:=by simp [t4]
   by_cases uy:u=y
   ·have ec:calmS s (sl,y)=calmW s y:=calmS_same (p:=(sl,y)) hw0 (by show s.look sl=y;rw [hu];exact uy)
    by_cases t3:t=3
    ·obtain ⟨z1,hz1⟩:∃ z,s.look (p+1)=z:=⟨_,rfl⟩
     obtain ⟨z2,hz2⟩:∃ z,s.look (p+2)=z:=⟨_,rfl⟩
     obtain ⟨z3,hz3⟩:∃ z,s.look (p+3)=z:=⟨_,rfl⟩
     obtain ⟨m,hmm⟩:∃ m,Pt.limZ z1=m:=⟨_,rfl⟩
     have HB1:Hid (I64 z1):=gh (by rw [← hz1];exact HO.out.look _)
     have HLM:Hid (∀ W,Calls Tryz.prog 88 #[.int .i64 z1] W fun e w'=>e=.returned (.int .i64 m)∧W=w'):=gh (fun W=>by
      refine (Pt.lim_r z1 HB1.out.wf W).mono ?_
      rw [← hmm]
      rintro e w' ⟨rfl,rfl⟩
      exact ⟨rfl,rfl⟩)
     have sh:z2=0∨z2=1:=by
      have:=hw0.2.2 (by show kd y=3;rw [ht];exact t3)
      unfold shutB at this
      have e':(((ad y).toNat:Nat):Int)=p:=by rw [hpp];omega
      simp only [e',hz2,Bool.or_eq_true,beq_iff_eq] at this
      exact this
     have ew:calmW s y=(!(z2 == 1) && decide (z3 < m)):=by
      rw [calmW,if_neg (by rw [ht];exact t4),if_pos (by rw [ht];exact t3),hpp,hz1,hz2,hz3,hmm]
     have HZ1:=gh hz1
     have HZ2:=gh hz2
     have HZ3:=gh hz3
     rcases sh with sh | sh
     ·subst sh
      by_cases y3:z3 < m
      ·have HG:=GOOD (by rw [ec,ew];simp [y3])
       have y4:¬ (m≤z3):=by omega
       subst t3 uy
       clear hp q0 q1 hmem hw0 hw1 ht hpp hu BAD GOOD ec ew hz1 hz2 hz3 hmm t4
       go_wp2_with (fail)
       refine (ak_d _ u p HYI.out HPP.out).mono ?_
       rintro e w' ⟨rfl,rfl⟩
       go_wp2_with (fail)
       refine (kk_d _ u 3 HYI.out HT.out).mono ?_
       rintro e w' ⟨rfl,rfl⟩
       go_wp2_with (fail)
       refine (lk_d _ b s sl u MW.out HU.out).mono ?_
       rintro e w' ⟨rfl,rfl⟩
       go_wp2_with (fail)
       refine (kk_d _ u 3 HYI.out HT.out).mono ?_
       rintro e w' ⟨rfl,rfl⟩
       go_wp2_with (fail)
       refine (lk_d _ b s (p+2) 0 MW.out HZ2.out).mono ?_
       rintro e w' ⟨rfl,rfl⟩
       go_wp2_with (fail)
       refine (lk_d _ b s (p+3) z3 MW.out HZ3.out).mono ?_
       rintro e w' ⟨rfl,rfl⟩
       go_wp2_with (fail)
       refine (lk_d _ b s (p+1) z1 MW.out HZ1.out).mono ?_
       rintro e w' ⟨rfl,rfl⟩
       go_wp2_with (fail)
       refine (HLM.out _).mono ?_
       rintro e w' ⟨rfl,rfl⟩
       go_wp2
       exact ⟨⟨k+1,by omega,by simp,HG,HK⟩,by simp [intOf];omega⟩
      ·have HR:=BAD (by rw [ec,ew];simp [y3])
       have y4:m≤z3:=by omega
       subst t3 uy
       clear hp q0 q1 hmem hw0 hw1 ht hpp hu BAD GOOD ec ew hz1 hz2 hz3 hmm t4
       go_wp2_with (fail)
       refine (ak_d _ u p HYI.out HPP.out).mono ?_
       rintro e w' ⟨rfl,rfl⟩
       go_wp2_with (fail)
       refine (kk_d _ u 3 HYI.out HT.out).mono ?_
       rintro e w' ⟨rfl,rfl⟩
       go_wp2_with (fail)
       refine (lk_d _ b s sl u MW.out HU.out).mono ?_
       rintro e w' ⟨rfl,rfl⟩
       go_wp2_with (fail)
       refine (kk_d _ u 3 HYI.out HT.out).mono ?_
       rintro e w' ⟨rfl,rfl⟩
       go_wp2_with (fail)
       refine (lk_d _ b s (p+2) 0 MW.out HZ2.out).mono ?_
       rintro e w' ⟨rfl,rfl⟩
       go_wp2_with (fail)
       refine (lk_d _ b s (p+3) z3 MW.out HZ3.out).mono ?_
       rintro e w' ⟨rfl,rfl⟩
       go_wp2_with (fail)
       refine (lk_d _ b s (p+1) z1 MW.out HZ1.out).mono ?_
       rintro e w' ⟨rfl,rfl⟩
       go_wp2_with (fail)
       refine (HLM.out _).mono ?_
       rintro e w' ⟨rfl,rfl⟩
       go_wp2
       go_ret
       exact ⟨by rw [HR.out];rfl,K1.out.trans HK.out⟩
     ·have HR:=BAD (by rw [ec,ew,sh];rfl)
      subst sh t3 uy
      clear hp q0 q1 hmem hw0 hw1 ht hpp hu BAD GOOD ec ew hz1 hz2 hz3 hmm t4
      go_wp2_with (fail)
      refine (ak_d _ u p HYI.out HPP.out).mono ?_
      rintro e w' ⟨rfl,rfl⟩
      go_wp2_with (fail)
      refine (kk_d _ u 3 HYI.out HT.out).mono ?_
      rintro e w' ⟨rfl,rfl⟩
      go_wp2_with (fail)
      refine (lk_d _ b s sl u MW.out HU.out).mono ?_
      rintro e w' ⟨rfl,rfl⟩
      go_wp2_with (fail)
      refine (kk_d _ u 3 HYI.out HT.out).mono ?_
      rintro e w' ⟨rfl,rfl⟩
      go_wp2_with (fail)
      refine (lk_d _ b s (p+2) 1 MW.out HZ2.out).mono ?_
      rintro e w' ⟨rfl,rfl⟩
      go_wp2
      go_ret
      exact ⟨by rw [HR.out];rfl,K1.out.trans HK.out⟩
    ·have g3:(t == 3)=false:=by simp [t3]
     have HG:=GOOD (by rw [ec,calmW,if_neg (by rw [ht];exact t4),if_neg (by rw [ht];exact t3)])
     subst uy
     clear hp q0 q1 hmem hw0 hw1 ht hpp hu BAD GOOD ec t3 t4
     go_wp2_with (fail)
     refine (ak_d _ u p HYI.out HPP.out).mono ?_
     rintro e w' ⟨rfl,rfl⟩
     go_wp2_with (fail)
     refine (kk_d _ u t HYI.out HT.out).mono ?_
     rintro e w' ⟨rfl,rfl⟩
     go_wp2_with (fail)
     refine (lk_d _ b s sl u MW.out HU.out).mono ?_
     rintro e w' ⟨rfl,rfl⟩
     go_wp2_with (fail)
     refine (kk_d _ u t HYI.out HT.out).mono ?_
     rintro e w' ⟨rfl,rfl⟩
     go_wp2
     exact ⟨⟨k+1,by omega,by simp,HG,HK⟩,by simp [intOf];omega⟩
   ·have HR:=BAD (calmS_dcss (p:=(sl,y)) hw1 (by show s.look sl≠y;rw [hu];exact uy))
    have g1:(u == y)=false:=by simp [uy]
    have g2:(u != y)=true:=by simp [uy]
    clear hp q0 q1 hmem hw0 hw1 ht hpp hu BAD GOOD uy t4
    go_wp2_with (fail)
    refine (ak_d _ y p HYI.out HPP.out).mono ?_
    rintro e w' ⟨rfl,rfl⟩
    go_wp2_with (fail)
    refine (kk_d _ y t HYI.out HT.out).mono ?_
    rintro e w' ⟨rfl,rfl⟩
    go_wp2_with (fail)
    refine (lk_d _ b s sl u MW.out HU.out).mono ?_
    rintro e w' ⟨rfl,rfl⟩
    go_wp2
    go_ret
    exact ⟨by rw [HR.out];rfl,K1.out.trans HK.out⟩
  ·have hkm':k=M:=by omega
   subst hkm'
   have j1:¬ ((k:Int) < (k:Int)):=by omega
   have HALL:Hid (L.all (calmS s)=true):=gh (List.all_eq_true.2 (fun p hp=>HA.out p (by rw [List.take_of_length_le (by rw [HM.out];omega)];exact hp)))
   have KK:=gh (K1.out.trans HK.out)
   by_cases k0:0 < k
   ·have i0:(0:Int) < (k:Int):=by omega
    have HR:Hid (r=true):=gh (by rw [HE.out,HALL.out];simp [k0])
    go_wp2
    go_ret
    exact ⟨by rw [HR.out];rfl,KK.out⟩
   ·have i0:¬ ((0:Int) < (k:Int)):=by omega
    have HR:Hid (r=false):=gh (by rw [HE.out];simp [k0])
    have i1:decide ((0:Int) < (k:Int))=false:=by simp;omega
    go_wp2
    go_ret
    exact ⟨by rw [HR.out];rfl,KK.out⟩
end
section
open Go.Shelf
attribute [local go_sem] Oper.semAt_some
def levF (s:Mst):Nat→Int→Int
 | 0,_=>0
 | f+1,x=>if kd (tgt s x)=3 then 1+(slotsL s x).foldl (fun m p=>max m (levF s f (s.logicZ p.2))) 0 else 0
theorem levF_succ (s:Mst) (f:Nat) (x:Int):levF s (f+1) x=if kd (tgt s x)=3 then 1+(slotsL s x).foldl (fun m p=>max m (levF s f (s.logicZ p.2))) 0 else 0:=rfl
def depthB (s:Mst) (x:Int):Int:=if inTreeB s x=true then levF s (fuel s) x else 0
theorem fold_max {α:Type} (g:α→Int) (B:Int) (hg:∀ a,0≤g a∧g a≤B) (L:List α):∀ m,0≤m→m≤B→0≤L.foldl (fun m p=>max m (g p)) m∧L.foldl (fun m p=>max m (g p)) m≤B:=by
 induction L with
 | nil=>intro m h1 h2;exact ⟨h1,h2⟩
 | cons a L ih=>
  intro m h1 h2
  have:=hg a
  rw [List.foldl_cons]
  exact ih (max m (g a)) (by omega) (by omega)
theorem levF_bound (s:Mst):∀ (f:Nat) (x:Int),0≤levF s f x∧levF s f x≤f
 | 0,_=>by simp [levF]
 | f+1,x=>by
  unfold levF
  split
  ·have:=fold_max (fun p:Int × Int=>levF s f (s.logicZ p.2)) f (fun p=>levF_bound s f _) (slotsL s x) 0 (by omega) (by omega)
   omega
  ·omega
def Deep (n:Nat) (g:Int × Int→Int):Inv (Int × Int):=fun O pre A=>(∀ k,O k↔k=n)∧Boxed A n 3 (.int .i64 (pre.foldl (fun m p=>max m (g p)) 0))
theorem Deep.good (n:Nat) (g:Int × Int→Int):Good (Deep n g):=by
 constructor
 ·rintro O pre A B ⟨hO,hb⟩ ht
  exact ⟨hO,ht.boxed hb (fun hn=>hn ((hO n).2 rfl))⟩
 ·rintro O pre A ⟨hO,hb⟩ k hk
  rw [(hO k).1 hk]
  exact hb.lt
set_option maxHeartbeats 2000000 in
theorem levels_p:∀ (f:Nat) (w:World) (b:Nat) (s:Mst) (x:Int),PM w b s→s.ok→Wf s f x→f≤100000→
  Calls Tryz.prog 97 #[.pointer (some ⟨b,0,none⟩),.int .i64 x] w fun e w'=>e=.returned (.int .i64 (levF s f x))∧Kept w w'
 | 0,_,_,_,_,_,_,h,_=>h.elim
 | f+1,w,b,s,x,h,ho,hw,hf=>by
  have ih:=levels_p f
  obtain ⟨hwh,hwk⟩:=hw
  obtain ⟨n,hn⟩:∃ n,w.heap.size=n:=⟨_,rfl⟩
  obtain ⟨W1,hW1⟩:∃ W1,w.alloc (.cells #[.pointer (some ⟨b,0,none⟩)] 36)=W1:=⟨_,rfl⟩
  have t1:Kept w W1:=by rw [← hW1];exact (Kept.refl w).alloc _
  have z1:W1.heap.size=n+1:=by rw [← hW1];simp [hn]
  have bM:Boxed W1 n 36 (.pointer (some ⟨b,0,none⟩)):=by rw [← hW1,← hn];exact Boxed.new w 36 _
  have K1:=gh t1
  have BM:=gh bM
  have c0:=bM.cell
  have H:=gh h
  have HO:=gh ho
  have HWH:=gh hwh
  have HWK:=gh hwk
  have IH:=gh ih
  have HN:=gh hn
  have Z1:=gh z1
  have HF:=gh hf
  obtain ⟨t,ht⟩:∃ t,tgt s x=t:=⟨_,rfl⟩
  have HT:=gh ht
  have HTI:Hid (I64 t):=gh (by rw [← ht];exact tgt_i64 ho hwh.i64)
  obtain ⟨j,hj⟩:∃ j,kd t=j:=⟨_,rfl⟩
  have HJ:=gh hj
  by_cases j3:j=3
  ·obtain ⟨g,hg⟩:∃ g:Int × Int→Int,(fun p=>levF s f (s.logicZ p.2))=g:=⟨_,rfl⟩
   have HE:Hid (levF s (f+1) x=1+(slotsL s x).foldl (fun m p=>max m (g p)) 0):=gh (by subst hg;rw [levF_succ,if_pos (by rw [ht,hj];exact j3)])
   have HG:Hid (∀ p:Int × Int,levF s f (s.logicZ p.2)=g p):=gh (fun p=>by subst hg;rfl)
   have GB:Hid (∀ p:Int × Int,0≤g p∧g p≤100000):=gh (fun p=>by rw [← hg];have:=levF_bound s f (s.logicZ p.2);have:=HF.out;dsimp only;omega)
   subst j3
   clear t1 bM h ho hwh hwk ih z1 hf ht hj hg
   refine calls_marks Tryz.func97 rfl ?_
   simp only [Tryz.ntmps97,List.size_toArray,List.length_cons,List.length_nil,Nat.reduceAdd,Nat.reduceSub,Array.replicate_succ,Array.replicate_zero,List.push_toArray,List.append_toArray,List.nil_append,List.cons_append]
   go_wp2_with (fail)
   clear hW1 hn
   refine (target_p _ b s x t (H.out.kept K1.out) HWH.out.i64 HT.out).mono ?_
   rintro e w' ⟨rfl,rfl⟩
   go_wp2_with (fail)
   refine (kk_p _ t 3 HTI.out HJ.out).mono ?_
   rintro e w' ⟨rfl,rfl⟩
   have ca:=(Kept.alloc (Kept.refl W1) (.cells #[.int .i64 0] 3)).cell c0 id
   go_wp2_with (fail)
   rw [Z1.out]
   clear ca
   obtain ⟨W2,hW2⟩:∃ W2,W1.alloc (.cells #[.int .i64 0] 3)=W2:=⟨_,rfl⟩
   have zz:=Z1.out
   have t2:Kept W1 W2:=by rw [← hW2];exact (Kept.refl W1).alloc _
   have bD:Boxed W2 (n+1) 3 (.int .i64 0):=by rw [← hW2,← zz];exact Boxed.new W1 3 _
   have Z2:Hid (W2.heap.size=n+2):=gh (by rw [← hW2];simp [zz])
   have K2:=gh (K1.out.trans t2)
   have BM2:=gh (t2.boxed BM.out id)
   have BD:=gh bD
   have c0':=BM2.out.cell
   clear t2 bD c0
   rw [hW2]
   clear hW2
   refine (slots_k W2 b x).mono ?_
   rintro e W3 ⟨B1,B2,rfl,k3,b1,b2,l1,l2⟩
   have K3:=gh (K2.out.trans k3)
   have BM3:=gh (k3.boxed BM2.out id)
   have BD3:=gh (k3.boxed BD.out id)
   have BB1:=gh b1
   have BB2:=gh b2
   have L1:Hid (n+2≤B1∧n+2≤B2∧n+2≤W3.heap.size):=gh (by have:=Z2.out;have:=k3.size;omega)
   clear k3 b1 b2 l1 l2 c0' zz
   go_wp2_with (fail)
   refine wp_range2 (gf:=172) rfl (enters_of Tryz.func172 (by kernel_rfl) rfl) (encs:=enc2) (xs:=slotsL s x) (R:=SlotR w B1 B2)
    (fun X hX=>slots_i w X (K3.out.trans hX) b s H.out HO.out x HWH.out B1 B2 (hX.boxed BB1.out id) (hX.boxed BB2.out id)) (fun _=>rfl)
    (fun k=>k=n+1) (Deep (n+1) g) (fun _ _ _ _=>False) ?hR (Deep.good _ _) (fun _=>good_false) ⟨fun _=>Iff.rfl,by simpa using BD3.out⟩ ?ab ?done (fun _ _ _ _ _ _ _ _ _ _ _ h=>h.elim)
   case hR=>
    rintro k (hk | rfl | rfl)
    ·have h1:=HN.out
     have h2:=K3.out.size
     exact ⟨by omega,by omega⟩
    ·have:=L1.out
     exact ⟨BB1.out.lt,by omega⟩
    ·have:=L1.out
     exact ⟨BB2.out.lt,by omega⟩
   case ab=>
    apply Exists.intro
    refine ⟨?_,?_⟩
    ·intro l' p X K hK
     gi_wp2
     exact hK
    ·rintro l' O pre ⟨pi,sl⟩ rest B hx' tB sB ⟨hO,bD⟩
     obtain ⟨y,hy⟩:∃ y,s.logicZ sl=y:=⟨_,rfl⟩
     have HY:=gh hy
     have HWF:Hid (Wf s f y):=gh (by
      have:=HWK.out (pi,sl) (by rw [hx'];simp)
      rwa [hy] at this)
     obtain ⟨v,hv⟩:∃ v,g (pi,sl)=v:=⟨_,rfl⟩
     have HV:Hid (levF s f y=v):=gh (by rw [← hy,HG.out (pi,sl)];exact hv)
     obtain ⟨D,hD⟩:∃ D,pre.foldl (fun m p=>max m (g p)) 0=D:=⟨_,rfl⟩
     have HDN:Hid ((pre++[(pi,sl)]).foldl (fun m p=>max m (g p)) 0=max D v):=gh (by rw [List.foldl_append,hD];simp [hv])
     rw [hD] at bD
     have vb:0≤v∧v≤100000:=by rw [← hv];exact GB.out _
     have db:0≤D∧D≤100000:=by rw [← hD];exact fold_max g 100000 GB.out pre 0 (by omega) (by omega)
     have KB:Hid (Kept w B):=gh (K3.out.did (by have:=HN.out;omega) tB)
     obtain ⟨V,hV⟩:∃ V,B.drew=V:=⟨_,rfl⟩
     have kV:Kept B V:=by rw [← hV];exact Kept.drew _
     have KV:=gh kV
     have HVV:=gh hV
     have bM':=(tB.boxed BM3.out (by omega))
     have MV:=gh (H.out.kept (KB.out.trans kV))
     have x0:∀ u:Wd (fun U=>Kept V U),u.w.cell? ⟨n,0,none⟩=some (.pointer (some ⟨b,0,none⟩)):=fun u=>u.ok.cell (kV.cell bM'.cell id) id
     have x1:∀ u:Wd (fun U=>Kept V U),u.w.cell? ⟨n+1,0,none⟩=some (.int .i64 D):=fun u=>u.ok.cell (kV.cell bD.cell id) id
     have BDV:=gh (kV.boxed bD id)
     have HOO:=gh hO
     clear hx' tB sB hO bD hy hv hD hV kV bM'
     gi_wp2_with (fail)
     refine region_last_round [0,1,2,3,4,5,6] 7 (fun U=>Kept V U) (by kernel_rfl) (by kernel_rfl) (by kernel_rfl) (by rw [HVV.out];exact Kept.refl _) (fun _=>?_)
     rw [HVV.out]
     repeat (refine lq rfl rfl ?_;go_big_quiet_step (fail);refine wpQuiet_nil ?_)
     refine ll rfl rfl ?_
     gi_wp2_with (fail)
     refine ⟨trivial,?_⟩
     refine (callsIn_wide.2 (logic_p _ b s sl y MV.out HO.out HY.out)).mono ?_
     rintro e U ⟨rfl,rfl⟩
     gi_wp2_with (fail)
     refine ⟨Wd.mem (Kept.refl _),?_⟩
     refine ll rfl rfl ?_
     gi_wp2_with (fail)
     refine ⟨trivial,?_⟩
     refine (callsIn_wide.2 (IH.out V b s y MV.out HO.out HWF.out (by have:=HF.out;omega))).mono ?_
     rw [HV.out]
     rintro e U ⟨rfl,kU⟩
     have KU:=gh kU
     have BDU:=gh (kU.boxed BDV.out id)
     have cD:=BDU.out.cell
     have fD:=BDU.out.frozen
     clear kU
     gi_wp2_with (fail)
     refine ⟨Wd.mem KU.out,?_⟩
     refine ll rfl rfl ?_
     gi_wp2
     refine ⟨Wd.mem KU.out,?_⟩
     refine lz rfl ?_
     gi_wp2
     refine last_done ?_
     gi_wp2
     refine ⟨O,Sub.refl _ _,(Td.trans (KV.out.trans KU.out) (Td.setCell (R:=fun k=>k=n+1) _ _ _ rfl) (fun _ h=>h.elim) (fun k _ h=>(HOO.out k).2 h)),HOO.out,?_⟩
     rw [HDN.out]
     exact BDU.out.set _
   case done=>
    rintro D O X hD nD tX sX ⟨hO,bD⟩ hK
    obtain ⟨d,hd⟩:∃ d,(slotsL s x).foldl (fun m p=>max m (g p)) 0=d:=⟨_,rfl⟩
    rw [hd] at bD
    have db:0≤d∧d≤100000:=by rw [← hd];exact fold_max g 100000 GB.out _ 0 (by omega) (by omega)
    have HE2:Hid (levF s (f+1) x=1+d):=gh (by rw [HE.out,hd])
    have cD:=bD.cell
    have HK:=gh hK
    have KX:Hid (Kept w X):=gh (K3.out.did (by have:=HN.out;omega) tX)
    have HDn:Hid (n≤D):=gh (by have:=L1.out;omega)
    clear hK bD hO nD tX sX hd
    go_wp2
    refine leave_marks [D] X ?_ ?_ ?_
    ·intro k hk
     simp at hk
     rw [hk]
     exact HK.out
    ·simp
    ·intro X' hX'
     refine ⟨_,results_tmp rfl _ _ _,by rw [HE2.out];rfl,?_⟩
     exact KX.out.own (fun i hi=>by simp at hi;have:=HDn.out;have:=HN.out;omega) hX'
  ·have HE:Hid (levF s (f+1) x=0):=gh (by rw [levF_succ,if_neg (by rw [ht,hj];exact j3)])
   have g1:(j == 3)=false:=by simp [j3]
   have g2:(j != 3)=true:=by simp [j3]
   clear t1 bM h ho hwh hwk ih z1 hf ht hj j3
   refine calls_marks Tryz.func97 rfl ?_
   simp only [Tryz.ntmps97,List.size_toArray,List.length_cons,List.length_nil,Nat.reduceAdd,Nat.reduceSub,Array.replicate_succ,Array.replicate_zero,List.push_toArray,List.append_toArray,List.nil_append,List.cons_append]
   go_wp2_with (fail)
   clear hW1 hn
   refine (target_p _ b s x t (H.out.kept K1.out) HWH.out.i64 HT.out).mono ?_
   rintro e w' ⟨rfl,rfl⟩
   go_wp2_with (fail)
   refine (kk_p _ t j HTI.out HJ.out).mono ?_
   rintro e w' ⟨rfl,rfl⟩
   go_wp2
   refine leave_marks [] _ ?_ ?_ ?_
   ·intro k hk;cases hk
   ·simp
   ·intro X' hX'
    exact ⟨_,results_tmp rfl _ _ _,by rw [HE.out];rfl,K1.out.trans (hX'.mono fun _ _ h=>by cases h)⟩
theorem depth_p (w:World) (b:Nat) (s:Mst) (x:Int) (h:PM w b s) (ho:s.ok) (hx:I64 x) (d:Int) (e1:depthB s x=d) :
  Calls Tryz.prog 48 #[.pointer (some ⟨b,0,none⟩),.int .i64 x] w fun e w'=>e=.returned (.int .i64 d)∧Kept w w':=by
 have H:=gh h
 have HO:=gh ho
 have HX:=gh hx
 obtain ⟨q,hq⟩:∃ q,inTreeB s x=q:=⟨_,rfl⟩
 have HQ:=gh hq
 unfold depthB at e1
 rw [hq] at e1
 cases q with
 | false=>
  have HE:Hid (d=0):=gh (by rw [← e1];rfl)
  clear h ho hx hq e1
  go_enter Tryz.func48,Tryz.ntmps48
  go_wp2_with (fail)
  refine (isInTree_p _ b s x H.out HO.out HX.out false HQ.out).mono ?_
  rintro e W2 ⟨rfl,k2⟩
  have K2:=gh k2
  clear k2
  go_wp2
  go_ret
  exact ⟨by rw [HE.out];rfl,K2.out⟩
 | true=>
  have HE:Hid (levF s (fuel s) x=d):=gh e1
  have HFU:Hid (fuel s≤100000):=gh (by have:=ho.2;unfold fuel;omega)
  clear h ho hx hq e1
  go_enter Tryz.func48,Tryz.ntmps48
  go_wp2_with (fail)
  refine (isInTree_p _ b s x H.out HO.out HX.out true HQ.out).mono ?_
  rintro e W2 ⟨rfl,k2⟩
  have K2:=gh k2
  clear k2
  go_wp2_with (fail)
  refine (levels_p (fuel s) W2 b s x (H.out.kept K2.out) HO.out (inTree_wf HO.out HQ.out).1 HFU.out).mono ?_
  rw [HE.out]
  rintro e W3 ⟨rfl,k3⟩
  have K3:=gh (K2.out.trans k3)
  clear k3
  go_wp2
  go_ret
  exact ⟨rfl,K3.out⟩
end
section
theorem spots_same (W:World) (a b:Option Addr) (xs:List (Int × Int)) (M ca cb:Nat) (hM:xs.length=M) (ha:PReads W a xs) (hb:PReads W b xs) (h1:M≤ca) (h2:M≤cb) (hl:M≤1000000) :
  Calls Tryz.prog 37 #[.slice a M ca,.slice b M cb] W fun e w'=>e=.returned (.bool true)∧Kept W w':=by
 have HA:=gh ha
 have HB:=gh hb
 have HM:=gh hM
 clear ha hb hM
 go_enter Tryz.func37,Tryz.ntmps37
 go_wp2
 go_loopw [5] (fun i wr=>∃ k d:Nat,k≤M∧i=.int .i64 (k:Int)∧wr=W.drewN d) (fun i _=>M - (intOf i).toNat)
 case atStart=>exact ⟨0,0,by omega,by simp,rfl⟩
 case round=>
  obtain ⟨k,d,hk,rfl,rfl⟩:=hrel
  by_cases hkm:k < M
  ·obtain ⟨⟨x,y⟩,hp⟩:∃ p,xs[k]? = some p:=⟨_,List.getElem?_eq_getElem (by rw [HM.out];exact hkm)⟩
   obtain ⟨bl,off,rfl,_,p0,p1⟩:=HA.out.at hp
   obtain ⟨bl',off',rfl,_,q0,q1⟩:=HB.out.at hp
   have c0:W.cell? ⟨bl,off+k * 2,none⟩=some (.int .i64 x):=p0
   have c1:W.cell? ⟨bl,off+k * 2+1,none⟩=some (.int .i64 y):=p1
   have d0:W.cell? ⟨bl',off' + k * 2,none⟩=some (.int .i64 x):=q0
   have d1:W.cell? ⟨bl',off' + k * 2+1,none⟩=some (.int .i64 y):=q1
   have j1:(k:Int) < (M:Int):=by omega
   have j2:k < ca:=by omega
   have j3:k < cb:=by omega
   clear p0 p1 q0 q1 hp
   go_wp2
   go_quiet (fail)
   go_wp2
   exact ⟨⟨k+1,_,by omega,by simp,rfl⟩,by simp [intOf];omega⟩
  ·have hkm':k=M:=by omega
   subst hkm'
   have j1:¬ ((k:Int) < (k:Int)):=by omega
   go_wp2
   go_ret
   exact ⟨rfl,Kept.drewN _ _⟩
theorem isIdeal0_p (W:World) (b:Nat) (x:Int) (v:Value) (n₀:Nat) (hx:I64 x) (k1:kd x=1) (hr:PRow W n₀ 59 v []) :
  Calls Tryz.prog 99 #[.pointer (some ⟨b,0,none⟩),.int .i64 x,v] W fun e w'=>e=.returned (.bool true)∧W=w':=by
 obtain ⟨la,lc,rfl,_⟩:=hr.reads
 have HX:=gh hx
 have HK:=gh k1
 simp only [List.length_nil]
 clear hx k1 hr
 go_enter Tryz.func99,Tryz.ntmps99
 go_wp2_with (fail)
 refine (kk_p _ x 1 HX.out HK.out).mono ?_
 rintro e w' ⟨rfl,rfl⟩
 go_wp2
 go_ret
 exact ⟨rfl,rfl⟩
theorem ideal0_p (w:World) (b:Nat) (s:Mst) (x:Int) (h:PM w b s) (ho:s.ok) (hx:I64 x) (ht:inTreeB s x=true) (k1:kd x=1) :
  Calls Tryz.prog 50 #[.pointer (some ⟨b,0,none⟩),.int .i64 x] w fun e w'=>e=.returned (.bool true)∧Kept w w':=by
 have H:=gh h
 have HO:=gh ho
 have HX:=gh hx
 have HT:=gh ht
 have HK:=gh k1
 have HE:Hid (pairsF s (fuel s) x=[]):=gh (by
  unfold pairsF leafL
  rw [if_neg (by rw [k1];decide),spotsF_none (by rw [tgt,if_neg (by rw [k1];decide),k1];decide)]
  rfl)
 clear h ho hx ht k1
 go_enter Tryz.func50,Tryz.ntmps50
 go_wp2_with (fail)
 refine (isInTree_p _ b s x H.out HO.out HX.out true HT.out).mono ?_
 rintro e W2 ⟨rfl,k2⟩
 have K2:=gh k2
 clear k2
 go_wp2_with (fail)
 refine (pairsBelow_p W2 b s (H.out.kept K2.out) HO.out (fuel s) x (inTree_wf HO.out HT.out).1 (inTree_wf HO.out HT.out).2 [] HE.out).mono ?_
 rintro e W3 ⟨v,rfl,hr,k3⟩
 have HR:=gh hr
 have K3:=gh (K2.out.trans k3)
 clear hr k3
 go_wp2_with (fail)
 refine (isIdeal0_p W3 b x v W2.heap.size HX.out HK.out HR.out).mono ?_
 rintro e w' ⟨rfl,rfl⟩
 go_wp2
 go_ret
 exact ⟨rfl,K3.out⟩
theorem Now.pm {w W:World} {b:Nat} {s:Mst} (h:Now w W b s):PM W b s:=by
 obtain ⟨⟨v,h⟩,_⟩:=h
 exact ⟨_,_,h⟩
def kn0:Mst:=begun (Mst.new 9)
theorem kn0_eq:kn0=⟨[1,0,0,0,0,57,0],9,2,0,0⟩:=by kernel_rfl
theorem kn0_ok:kn0.ok:=by
 rw [kn0_eq]
 refine ⟨?_,by simp⟩
 intro z hz
 simp at hz
 rcases hz with rfl | rfl | rfl | rfl <;> exact ⟨by decide,by decide⟩
theorem kn0_sound:soundB kn0=true:=by decide +kernel
theorem kn0_calm:calmB kn0=true:=by decide +kernel
theorem kn0_logic:kn0.logicZ 6=57:=by decide +kernel
theorem kn0_spots:(if soundB kn0=true then spotsL kn0 (fuel kn0) else [])=[(6,57)]:=by decide +kernel
theorem kn0_in:inTreeB kn0 57=true:=by decide +kernel
theorem kn0_content:contentB kn0 57=[]:=by decide +kernel
theorem kn0_depth:depthB kn0 57=0:=by decide +kernel
theorem kn0_kind:kd 57=1:=by decide +kernel
set_option maxHeartbeats 1000000 in
set_option maxRecDepth 20000 in
theorem known_c (w:World):Calls Tryz.prog 28 #[] w fun e w'=>e=.returned (.bool true)∧Kept w w':=by
 go_enter Tryz.func28,Tryz.ntmps28
 go_wp2_with (fail)
 refine (now_new w w 9 (Kept.refl w) (by decide) (by decide)).mono ?_
 rintro e W1 ⟨rfl,N1,_⟩
 obtain ⟨b,hb⟩:∃ b,w.heap.size=b:=⟨_,rfl⟩
 rw [hb] at N1 ⊢
 clear hb
 have M1:=gh N1
 clear N1
 go_wp2_with (fail)
 refine (begin_c w W1 b (Mst.new 9) M1.out rfl (by decide)).mono ?_
 rintro e W2 ⟨rfl,N2⟩
 have K2:=gh N2.2
 have M2:Hid (PM W2 b kn0):=gh N2.pm
 clear N2 M1
 have i57:Hid (I64 57):=gh ⟨by decide,by decide⟩
 go_wp2_with (fail)
 refine (spots_p W2 b kn0 M2.out kn0_ok _ kn0_spots).mono ?_
 rintro e W3 ⟨v,rfl,hr,k3⟩
 obtain ⟨la,lc,hv,hrd,hlc,_⟩:=hr.reads
 simp only [List.length_singleton] at hv hlc
 subst hv
 obtain ⟨bl,off,rfl,_,q0,q1⟩:=hrd.at (j:=0) rfl
 have K3:=gh (K2.out.trans k3)
 have M3:=gh (M2.out.kept k3)
 have C0:Hid (W3.cell? ⟨bl,off,none⟩=some (.int .i64 6)):=gh (by simpa using q0)
 have C1:Hid (W3.cell? ⟨bl,off+1,none⟩=some (.int .i64 57)):=gh (by simpa using q1)
 clear hr k3 hrd q0 q1 K2 M2
 go_wp2_with (fail)
 refine (sound_p W3 b kn0 M3.out kn0_ok true kn0_sound).mono ?_
 rintro e W4 ⟨rfl,k4⟩
 have K4:=gh (K3.out.trans k4)
 have M4:=gh (M3.out.kept k4)
 have C0:=gh (k4.cell C0.out id)
 have C1:=gh (k4.cell C1.out id)
 clear k4 K3 M3
 go_wp2_with (fail)
 refine (calm_p W4 b kn0 M4.out kn0_ok true kn0_calm).mono ?_
 rintro e W5 ⟨rfl,k5⟩
 have K5:=gh (K4.out.trans k5)
 have M5:=gh (M4.out.kept k5)
 have c0:=k5.cell C0.out id
 have c1:=k5.cell C1.out id
 clear k5 K4 M4
 go_wp2_with (fail)
 refine (logic_p W5 b kn0 6 57 M5.out kn0_ok kn0_logic).mono ?_
 rintro e w' ⟨rfl,rfl⟩
 go_wp2_with (fail)
 refine (content_p W5 b kn0 57 M5.out kn0_ok i57.out [] kn0_content).mono ?_
 rintro e W6 ⟨v6,rfl,hr6,k6⟩
 obtain ⟨la6,lc6,hv6,_⟩:=hr6.reads
 simp only [List.length_nil] at hv6
 subst hv6
 have K6:=gh (K5.out.trans k6)
 have M6:=gh (M5.out.kept k6)
 clear hr6 k6 K5 M5
 go_wp2_with (fail)
 refine (depth_p W6 b kn0 57 M6.out kn0_ok i57.out 0 kn0_depth).mono ?_
 rintro e W7 ⟨rfl,k7⟩
 have K7:=gh (K6.out.trans k7)
 have M7:=gh (M6.out.kept k7)
 clear k7 K6 M6
 go_wp2_with (fail)
 refine (ideal0_p W7 b kn0 57 M7.out kn0_ok i57.out kn0_in kn0_kind).mono ?_
 rintro e W8 ⟨rfl,k8⟩
 have K8:=gh (K7.out.trans k8)
 clear k8 K7 M7
 go_wp2
 go_ret
 exact ⟨rfl,K8.out⟩
end
section
open Go.Shelf
attribute [local go_sem] Oper.semAt_some
theorem count_n (w:World) (b:Nat) (s:Mst) (h:PM w b s):Calls Tryz.prog 23 #[.pointer (some ⟨b,0,none⟩)] w fun e w'=>e=.returned (.int .i64 s.count)∧w=w':=by
 obtain ⟨n₀,v,h⟩:=h
 obtain ⟨⟨c0,c1,c2,c3,c4⟩,_⟩:=PMem.opened h
 clear h
 go_enter Tryz.func23,Tryz.ntmps23
 go_wp2
 go_ret
 exact ⟨rfl,rfl⟩
theorem odd_n (w:World) (b:Nat) (s:Mst) (h:PM w b s):Calls Tryz.prog 55 #[.pointer (some ⟨b,0,none⟩)] w fun e w'=>e=.returned (.int .i64 s.odd)∧w=w':=by
 obtain ⟨n₀,v,h⟩:=h
 obtain ⟨⟨c0,c1,c2,c3,c4⟩,_⟩:=PMem.opened h
 clear h
 go_enter Tryz.func55,Tryz.ntmps55
 go_wp2
 go_ret
 exact ⟨rfl,rfl⟩
theorem content_len {s:Mst} (ho:s.ok):(contentB s (s.logicZ 6)).length≤100000:=by
 unfold contentB
 split
 ·rename_i h
  have hq:soundB s=true:=by simp only [inTreeB,Bool.and_eq_true] at h;exact h.1
  have h1:=spotsL_len ho hq
  have h2:=pairsF_le s (fuel s) (s.logicZ 6)
  rw [spotsL,List.length_cons] at h1
  omega
 ·simp
def MemI (W:World) (n2 bp bm:Nat) (s:Mst):Prop:=∃ v,PMem W n2 bm v s∧∀ k,Foot bm v k→k < bp
theorem MemI.turned {W W':World} {n2 bp bm:Nat} {s:Mst} {R:Nat→Prop} (h:MemI W n2 bp bm s) (t:Td R W W') (hR:∀ k,R k→n2≤k→k < bp→False):MemI W' n2 bp bm s:=by
 obtain ⟨v,hv,hk⟩:=h
 exact ⟨v,hv.turned t (fun k e r=>hR k r (hv.lt k e).1 (hk k e)),hk⟩
theorem MemI.kept {W W':World} {n2 bp bm:Nat} {s:Mst} (h:MemI W n2 bp bm s) (t:Kept W W'):MemI W' n2 bp bm s:=h.turned t (fun _ e=>e.elim)
theorem MemI.pm {W:World} {n2 bp bm:Nat} {s:Mst} (h:MemI W n2 bp bm s):PM W bm s:=by
 obtain ⟨v,hv,_⟩:=h
 exact ⟨n2,v,hv⟩
def CntN (n N:Nat):Inv (Int × Int):=fun O pre A=>(∀ k,O k↔k=n)∧Boxed A n 3 (.int .i64 (pre.length:Int))∧pre.length≤N
def StopN (n N:Nat) (c0:Code) (c:Code):Inv (Int × Int):=fun O pre A=>(∀ k,O k↔k=n)∧Boxed A n 3 (.int .i64 (N:Int))∧c=c0∧N < pre.length
theorem CntN.good (n N:Nat):Good (CntN n N):=by
 constructor
 ·rintro O pre A B ⟨hO,hb,hl⟩ ht
  exact ⟨hO,ht.boxed hb (fun hn=>hn ((hO n).2 rfl)),hl⟩
 ·rintro O pre A ⟨hO,hb,_⟩ k hk
  rw [(hO k).1 hk]
  exact hb.lt
theorem StopN.good (n N:Nat) (c0 c:Code):Good (StopN n N c0 c):=by
 constructor
 ·rintro O pre A B ⟨hO,hb,hl⟩ ht
  exact ⟨hO,ht.boxed hb (fun hn=>hn ((hO n).2 rfl)),hl⟩
 ·rintro O pre A ⟨hO,hb,_⟩ k hk
  rw [(hO k).1 hk]
  exact hb.lt
theorem cp_odd (s:Mst):(cp s).odd=0:=by unfold cp Mst.make;split <;> rfl
set_option maxHeartbeats 4000000 in
set_option maxRecDepth 20000 in
theorem viewLeft_c (w:World) (cells n:Int) (a1:Option Addr) (keys:List Int) (c1:Nat) (a2:Option Addr) (l:List Int) (c2:Nat) (hr1:Reads w a1 keys) (hc1:keys.length≤c1) (hm1:c1≤maxLen) (hr2:Reads w a2 l) (hc2:l.length≤c2) (hm2:c2≤maxLen) (hi:∀ z ∈ l,I64 z) :
  Calls Tryz.prog 9 #[.int .i64 cells,.slice a1 keys.length c1,.slice a2 l.length c2,.int .i64 n] w fun e w'=>e=.returned (.bool true)∧Kept w w':=by
 obtain ⟨b0,hb0⟩:∃ n,w.heap.size=n:=⟨_,rfl⟩
 have HB0:=gh hb0
 obtain ⟨W0,hW0⟩:∃ W0,(w.alloc (.cells #[.int .i64 n] 3)).alloc (.cells #[.bool false] 4)=W0:=⟨_,rfl⟩
 have k01:Kept w (w.alloc (.cells #[.int .i64 n] 3)):=(Kept.refl w).alloc _
 have K0:Hid (Kept w W0):=gh (by rw [← hW0];exact k01.alloc _)
 have BN0:Hid (Boxed W0 b0 3 (.int .i64 n)):=gh (by
  rw [← hW0,← hb0]
  exact (show Kept (w.alloc (.cells #[.int .i64 n] 3)) _ from Td.alloc _ _ _).boxed (Boxed.new w 3 _) id)
 have RB0:Hid (Boxed W0 (b0+1) 4 (.bool false)):=gh (by
  rw [← hW0,← hb0]
  have:=Boxed.new (w.alloc (.cells #[.int .i64 n] 3)) 4 (.bool false)
  rwa [World.size_alloc] at this)
 have Z0:Hid (W0.heap.size=b0+2):=gh (by rw [← hW0];simp [hb0])
 obtain ⟨m,hm⟩:∃ m,n % 30=m:=⟨_,rfl⟩
 have m0:0≤m∧m < 30:=by omega
 obtain ⟨N,rfl⟩:∃ N:Nat,m=(N:Int):=⟨m.toNat,by omega⟩
 have N30:(N:Int) < 30:=m0.2
 have C1:∀ X,Calls Tryz.prog 36 #[.int .i64 n,.int .i64 30] X fun e X'=>e=.returned (.int .i64 (N:Int))∧X=X':=fun X=>hm ▸ cut_g X n 30 (by decide) (by decide)
 have HC:=gh C1
 have WR:Hid (∀ X,Kept w X→Calls Tryz.prog 52 #[.int .i64 cells,.int .i64 3,.slice a1 keys.length c1,.slice a2 l.length c2] X fun e W=>∃ x,e=.returned (.pointer (some ⟨x,0,none⟩))∧∃ mb tb,Wrl X W x mb tb (worldZ cells keys l)):=gh (fun X k=>world_r X cells a1 keys c1 a2 l c2 (hr1.kept k) hc1 hm1 (hr2.kept k) hc2 hm2 hi)
 have GZ:=gh (worldZ_grew cells keys l)
 clear hr1 hc1 hm1 hr2 hc2 hm2 hi k01 hm m0 C1
 refine calls_marks Tryz.func9 rfl ?_
 simp only [Tryz.ntmps9,List.size_toArray,List.length_cons,List.length_nil,Nat.reduceAdd,Nat.reduceSub,Array.replicate_succ,Array.replicate_zero,List.push_toArray,List.append_toArray,List.nil_append,List.cons_append]
 go_wp2_with (fail)
 clear hW0 hb0
 refine (known_c W0).mono ?_
 rintro e W1 ⟨rfl,k1⟩
 have K1:=gh (K0.out.trans k1)
 have BN1:=gh (k1.boxed BN0.out id)
 have RB1:=gh (k1.boxed RB0.out id)
 have Z1:Hid (b0+2≤W1.heap.size):=gh (by have:=k1.size;have:=Z0.out;omega)
 clear k1 BN0 RB0 K0
 go_wp2_with (fail)
 refine (WR.out W1 K1.out).mono ?_
 rintro e W2 ⟨x,rfl,mb,tb,wr⟩
 obtain ⟨vm,dm,okm,cx⟩:=wr.mem
 obtain ⟨M,hM⟩:∃ M,(worldZ cells keys l).m=M:=⟨_,rfl⟩
 have gz:=GZ.out
 rw [hM] at dm okm gz
 have K2:=gh wr.kept
 have DMH:=gh dm
 have h1M:Hid (1≤M.size):=gh (by omega)
 obtain ⟨s',hs'⟩:∃ s,cp M=s:=⟨_,rfl⟩
 have OK:Hid s'.ok:=gh (by rw [← hs'];exact cp_ok okm dm.room)
 have HODD:Hid (s'.odd=0):=gh (by rw [← hs'];exact cp_odd M)
 have HS:=gh hs'
 clear wr dm okm gz hM hs'
 go_wp2_with (fail)
 refine (copy_c W2 _ mb vm M DMH.out h1M.out).mono ?_
 rintro e W3 ⟨bm,rfl,n3⟩
 rw [HS.out] at n3
 have H3:=gh n3
 have Z3:Hid (b0+2≤W3.heap.size):=gh (by have:=K2.out.size;have:=Z1.out;have:=n3.2.size;omega)
 clear n3 cx
 obtain ⟨y,hy⟩:∃ y,s'.logicZ 6=y:=⟨_,rfl⟩
 have HY:=gh hy
 have IY:Hid (I64 y):=gh (by rw [← hy];exact OK.out.logic 6)
 obtain ⟨xs,hxs⟩:∃ xs,contentB s' y=xs:=⟨_,rfl⟩
 have HXS:=gh hxs
 have HXL:Hid (xs.length≤100000):=gh (by rw [← hxs];rw [← hy];exact content_len OK.out)
 clear hy hxs
 go_wp2_with (fail)
 refine (logic_p W3 bm s' 6 y H3.out.pm OK.out HY.out).mono ?_
 rintro e w' ⟨rfl,rfl⟩
 go_wp2_with (fail)
 refine (content_p W3 bm s' y H3.out.pm OK.out IY.out xs HXS.out).mono ?_
 rintro e W4 ⟨v4,rfl,r4,k4⟩
 obtain ⟨a4,c4,rfl,pr4,l4,mm4,_,b4⟩:=PRow.form r4
 obtain ⟨L,hL⟩:∃ L,xs.length=L:=⟨_,rfl⟩
 rw [hL] at l4
 have HL:=gh hL
 have H4:=gh (H3.out.on k4)
 have PR4:=gh pr4
 have B4:=gh b4
 have K24:Hid (Kept W1 W4):=gh (K2.out.trans H4.out.2)
 have bn4:=K24.out.boxed BN1.out id
 have RB4:=gh (K24.out.boxed RB1.out id)
 have BN4:=gh bn4
 have cN:=bn4.cell
 have fN:=bn4.frozen
 rw [hL]
 have L3:=gh l4
 have lx:(L:Int)≤100000:=by have:=HXL.out;omega
 obtain ⟨bp,hbp⟩:∃ b,W4.heap.size=b:=⟨_,rfl⟩
 obtain ⟨W5,hW5⟩:∃ W,W4.alloc (.cells #[.slice a4 L c4] 44)=W:=⟨_,rfl⟩
 have k5:Kept W4 W5:=by rw [← hW5];exact (Kept.refl W4).alloc _
 have BP5:Hid (Boxed W5 bp 44 (.slice a4 L c4)):=gh (by rw [← hW5,← hbp];exact Boxed.new W4 44 _)
 have BN5:=gh (k5.boxed bn4 id)
 have cN5:=(k5.boxed bn4 id).cell
 have fN5:=(k5.boxed bn4 id).frozen
 have Z4:Hid (b0+2≤bp∧W4.heap.size=bp∧bp < W5.heap.size):=gh (by have:=K24.out.size;have:=Z1.out;have:=BP5.out.lt;omega)
 have K5:=gh k5
 clear r4 k4 pr4 b4 mm4 bn4 hL k5
 go_wp2_with (fail)
 clear hW5 hbp cN fN
 refine (HC.out W5).mono ?_
 rintro e w' ⟨rfl,rfl⟩
 obtain ⟨W6,hW6⟩:∃ W,W5.setCell ⟨b0,0,none⟩ (.int .i64 (N:Int))=W:=⟨_,rfl⟩
 have t6:Td (fun k=>k=b0) W5 W6:=by rw [← hW6];exact Td.setCell _ _ _ rfl
 have BN6:Hid (Boxed W6 b0 3 (.int .i64 (N:Int))):=gh (by rw [← hW6];exact BN5.out.set _)
 have BP6:=gh (t6.boxed BP5.out (by have:=Z4.out;omega))
 have RB6:=gh (t6.boxed (K5.out.boxed RB4.out id) (by omega))
 have MI4:Hid (MemI W4 W2.heap.size bp bm s'):=gh (by
  obtain ⟨⟨v,hv⟩,_⟩:=H4.out
  exact ⟨v,hv,fun k e=>by have:=(hv.lt k e).2;have:=Z4.out;omega⟩)
 have Z2:Hid (b0+2≤W2.heap.size):=gh (by have:=K2.out.size;have:=Z1.out;omega)
 have MI6:Hid (MemI W6 W2.heap.size bp bm s'):=gh ((MI4.out.kept K5.out).turned t6 (fun k e h1 h2=>by have:=Z2.out;omega))
 have KW6:Hid (Kept w W6):=gh (((K1.out.trans K24.out).trans K5.out).own (fun i hi=>by rw [hi];have:=HB0.out;omega) t6)
 have T6:=gh t6
 clear t6 BN5 BP5
 go_wp2_with (fail)
 clear hW6 cN5 fN5
 refine (count_n W6 bm s' MI6.out.pm).mono ?_
 rintro e w' ⟨rfl,rfl⟩
 obtain ⟨cc,hcc⟩:∃ c,s'.count=c:=⟨_,rfl⟩
 rw [hcc]
 have HCC:=gh hcc
 clear hcc
 obtain ⟨bi,hbi⟩:∃ b,W6.heap.size=b:=⟨_,rfl⟩
 obtain ⟨W7,hW7⟩:∃ W,W6.alloc (.cells #[.int .i64 0] 3)=W:=⟨_,rfl⟩
 have k7:Kept W6 W7:=by rw [← hW7];exact (Kept.refl W6).alloc _
 have BI7:Hid (Boxed W7 bi 3 (.int .i64 0)):=gh (by rw [← hW7,← hbi];exact Boxed.new W6 3 _)
 have BN7:=gh (k7.boxed BN6.out id)
 have BP7:=gh (k7.boxed BP6.out id)
 have RB7:=gh (k7.boxed RB6.out id)
 have MI7:=gh (MI6.out.kept k7)
 have KW7:=gh (KW6.out.trans k7)
 have Z7:Hid (b0+2≤bp∧bp < bi∧bi < W7.heap.size∧b0+2≤W2.heap.size):=gh (by
  have h1:=Z4.out
  have h2:=T6.out.size
  have h3:=BI7.out.lt
  have h4:=Z2.out
  omega)
 have K7:=gh k7
 have HBI:Hid (W6.heap.size=bi):=gh hbi
 have HW7:=gh hW7
 clear k7 hW7
 go_wp2_with (fail)
 clear hbi
 rw [HW7.out]
 refine (leaves_k W7 bm).mono ?_
 rintro e W8 ⟨B1,rfl,k8,bx8,l8⟩
 have K8:=gh k8
 have B8:=gh bx8
 have L8:=gh l8
 have I8:=gh (k8.boxed BI7.out id)
 clear k8 bx8 l8
 go_wp2_with (fail)
 refine wp_range2 (gf:=90) rfl (enters_of Tryz.func90 (by kernel_rfl) rfl) (encs:=enc2) (xs:=xs) (R:=SpotR W6 B1)
  (fun X hX=>leaves_i W6 X ((K7.out.trans K8.out).trans hX) bm s' MI6.out.pm OK.out xs (by rw [HY.out];exact HXS.out) HXL.out B1 (hX.boxed B8.out id)) (fun _=>rfl)
  (fun k=>k=bi) (CntN bi N) (StopN bi N (.exit 0)) ?hR (CntN.good bi N) (fun c=>StopN.good bi N _ c) ⟨fun _=>Iff.rfl,I8.out,Nat.zero_le _⟩ ?ab ?done ?stop
 case hR=>
  rintro k (hk | rfl)
  ·have h1:=K8.out.size
   have h2:=Z7.out
   have h3:=HBI.out
   exact ⟨by omega,by omega⟩
  ·have h1:=B8.out.lt
   have h2:=L8.out
   have h3:=Z7.out
   exact ⟨h1,by omega⟩
 case ab=>
  apply Exists.intro
  refine ⟨?_,?_⟩
  ·intro l' p X K hK
   gi_wp2
   exact hK
  ·rintro l' O pre ⟨k,v⟩ rest B hx' tB sB ⟨hO,bI,hle⟩
   obtain ⟨q,hq⟩:∃ L,pre.length=L:=⟨_,rfl⟩
   have hat:xs[q]? = some (k,v):=by rw [hx',← hq,List.getElem?_append_right (Nat.le_refl _),Nat.sub_self];rfl
   have hlt:q < L:=by have:=(List.getElem?_eq_some_iff.1 hat).1;have:=HL.out;omega
   rw [hq] at bI hle
   have kB:Td (fun k=>k=bi) W7 B:=K8.out.then tB
   have cP:=(kB.boxed BP7.out (by have:=Z7.out;omega)).cell
   have cN:=(kB.boxed BN7.out (by have:=Z7.out;omega)).cell
   have cI:=bI.cell
   have fI:=bI.frozen
   by_cases hqN:q=N
   ·have END:Hid (∃ O',Sub O' O B.heap.size∧Td O B B∧StopN bi N (.exit 0) (.exit 0) O' (pre++[(k,v)]) B):=gh ⟨O,Sub.refl _ _,Td.refl _ _,hO,by rw [← hqN];exact bI,rfl,by rw [List.length_append,hq];simp;omega⟩
    subst hqN
    clear hx' tB sB hO bI hq hat kB
    gi_wp2
    exact END.out
   ·have tB4:Td (fun k=>k=b0∨k=bi) W4 B:=(K5.out.then T6.out).trans ((K7.out.then kB)) (fun _ e=>.inl e) (fun _ _ e=>.inr e)
    obtain ⟨bl,off,rfl,_,g1,g2⟩:=(PR4.out.turned tB4 (fun i hi ⟨ad,e1,e2⟩ e=>by
     have h1:=B4.out ad e1
     have h2:=Z7.out
     have h3:=Z4.out
     have h4:=Z3.out
     omega)).at hat
    simp only at g1 g2
    rw [← Nat.add_assoc] at g2
    have HOO:=gh hO
    have END:Hid (∃ O',Sub O' O B.heap.size∧Td O B (B.setCell ⟨bi,0,none⟩ (.int .i64 ((q:Int)+1)))∧CntN bi N O' (pre++[(k,v)]) (B.setCell ⟨bi,0,none⟩ (.int .i64 ((q:Int)+1)))):=gh (by
     refine ⟨O,Sub.refl _ _,Td.setCell _ _ _ ((hO bi).2 rfl),hO,?_,by rw [List.length_append,hq];simp;omega⟩
     have:=bI.set (.int .i64 ((q:Int)+1))
     rw [List.length_append,hq]
     simpa using this)
    have j0:((q:Int) == (N:Int))=false:=by simp;omega
    have j1:(q:Int) < (L:Int):=by omega
    have j2:q < c4:=by have:=L3.out;omega
    have j3:(q:Int)≤30:=by omega
    clear hx' tB sB hO bI hq hat kB tB4
    gi_wp2
    exact END.out
 case done=>
  rintro D O X hD nD tX sX ⟨hO,bI,hle⟩ hK
  rw [HL.out] at bI hle
  have hmin:min (N:Int) (L:Int)=(L:Int):=by omega
  have tW:Td (fun k=>k=bi) W7 X:=K8.out.then tX
  have HX:=gh (MemI.turned MI7.out tW (fun k e h1 h2=>by have:=Z7.out;omega))
  have BXX:=gh (tW.boxed BP7.out (by have:=Z7.out;omega))
  have BNX:=gh (tW.boxed BN7.out (by have:=Z7.out;omega))
  have RXX:=gh (tW.boxed RB7.out (by have:=Z7.out;omega))
  have BII:=gh bI
  have HKD:=gh hK
  have HDD:Hid (D≠b0+1∧D≠b0∧D≠bp∧D≠bi∧w.heap.size≤D):=gh (by
   have h1:=Z7.out
   have h2:=K8.out.size
   have h3:=HB0.out
   have h4:=BI7.out.lt
   omega)
  have KX:Hid (Kept w X):=gh (KW7.out.own (fun i hi=>by rw [hi];have:=Z7.out;have:=HB0.out;omega) tW)
  clear hD nD tX sX hO bI hK tW
  go_wp2_with (fail)
  refine (sound_p X bm s' HX.out.pm OK.out _ rfl).mono ?_
  rintro e X1 ⟨rfl,q1⟩
  have H1:=gh (HX.out.kept q1)
  have Q1:=gh q1
  clear q1
  go_wp2_with (fail)
  refine (calm_p X1 bm s' H1.out.pm OK.out _ rfl).mono ?_
  rintro e X2 ⟨rfl,q2⟩
  have H2':=gh (H1.out.kept q2)
  have Q2:=gh (Q1.out.trans q2)
  clear q2 H1 Q1
  go_wp2_with (fail)
  refine (known_c X2).mono ?_
  rintro e X3 ⟨rfl,q3⟩
  have H3':=gh (H2'.out.kept q3)
  have Q3:=gh (Q2.out.trans q3)
  clear q3 H2' Q2
  have cI:=(Q3.out.boxed BII.out id).cell
  have cN:=(Q3.out.boxed BNX.out id).cell
  have cP:=(Q3.out.boxed BXX.out id).cell
  have RX3:=gh (Q3.out.boxed RXX.out id)
  have HK3:=gh (Q3.out.heap HKD.out id)
  go_wp2_with (fail)
  refine (count_n X3 bm s' H3'.out.pm).mono ?_
  rintro e w' ⟨rfl,rfl⟩
  go_wp2_with (fail)
  refine (odd_n X3 bm s' H3'.out.pm).mono ?_
  rintro e w' ⟨rfl,rfl⟩
  rw [HODD.out]
  have cR:=RX3.out.cell
  have fR:=RX3.out.frozen
  have tS:Td (fun k=>k=b0+1) X3 (X3.setCell ⟨b0+1,0,none⟩ (.bool true)):=Td.setCell _ _ _ rfl
  have HK4:Hid ((X3.setCell ⟨b0+1,0,none⟩ (.bool true)).heap[D]? = some (.deferred (some []))):=gh (tS.heap HK3.out (HDD.out.1))
  have CS:Hid ((X3.setCell ⟨b0+1,0,none⟩ (.bool true)).cell? ⟨b0+1,0,none⟩=some (.bool true)):=gh (RX3.out.set (.bool true)).cell
  have KE:Hid (Kept w (X3.setCell ⟨b0+1,0,none⟩ (.bool true))):=gh ((KX.out.trans Q3.out).did (by have:=HB0.out;omega) tS)
  clear tS
  go_wp2
  refine leave_marks [D] _ ?_ ?_ ?_
  ·intro k hk
   simp at hk
   rw [hk]
   exact HK4.out
  ·simp
  ·intro X' hX'
   have q1:=hX'.cell CS.out (by have:=HDD.out;simp;omega)
   exact ⟨.bool true,by simp [results,Tryz.results9,go_sem,q1],rfl,KE.out.own (fun i hi=>by simp at hi;have:=HDD.out;omega) hX'⟩
 case stop=>
  rintro D O c pre rest X hD nD tX sX hx' ⟨hO,bI,rfl,hle⟩ hK
  have hNL:N < L:=by have:=HL.out;rw [← this,hx',List.length_append];omega
  have hmin:min (N:Int) (L:Int)=(N:Int):=by omega
  clear hx' hle
  have tW:Td (fun k=>k=bi) W7 X:=K8.out.then tX
  have HX:=gh (MemI.turned MI7.out tW (fun k e h1 h2=>by have:=Z7.out;omega))
  have BXX:=gh (tW.boxed BP7.out (by have:=Z7.out;omega))
  have BNX:=gh (tW.boxed BN7.out (by have:=Z7.out;omega))
  have RXX:=gh (tW.boxed RB7.out (by have:=Z7.out;omega))
  have BII:=gh bI
  have HKD:=gh hK
  have HDD:Hid (D≠b0+1∧D≠b0∧D≠bp∧D≠bi∧w.heap.size≤D):=gh (by
   have h1:=Z7.out
   have h2:=K8.out.size
   have h3:=HB0.out
   have h4:=BI7.out.lt
   omega)
  have KX:Hid (Kept w X):=gh (KW7.out.own (fun i hi=>by rw [hi];have:=Z7.out;have:=HB0.out;omega) tW)
  clear hD nD tX sX hO bI hK tW
  go_wp2_with (fail)
  refine (sound_p X bm s' HX.out.pm OK.out _ rfl).mono ?_
  rintro e X1 ⟨rfl,q1⟩
  have H1:=gh (HX.out.kept q1)
  have Q1:=gh q1
  clear q1
  go_wp2_with (fail)
  refine (calm_p X1 bm s' H1.out.pm OK.out _ rfl).mono ?_
  rintro e X2 ⟨rfl,q2⟩
  have H2':=gh (H1.out.kept q2)
  have Q2:=gh (Q1.out.trans q2)
  clear q2 H1 Q1
  go_wp2_with (fail)
  refine (known_c X2).mono ?_
  rintro e X3 ⟨rfl,q3⟩
  have H3':=gh (H2'.out.kept q3)
  have Q3:=gh (Q2.out.trans q3)
  clear q3 H2' Q2
  have cI:=(Q3.out.boxed BII.out id).cell
  have cN:=(Q3.out.boxed BNX.out id).cell
  have cP:=(Q3.out.boxed BXX.out id).cell
  have RX3:=gh (Q3.out.boxed RXX.out id)
  have HK3:=gh (Q3.out.heap HKD.out id)
  go_wp2_with (fail)
  refine (count_n X3 bm s' H3'.out.pm).mono ?_
  rintro e w' ⟨rfl,rfl⟩
  go_wp2_with (fail)
  refine (odd_n X3 bm s' H3'.out.pm).mono ?_
  rintro e w' ⟨rfl,rfl⟩
  rw [HODD.out]
  have cR:=RX3.out.cell
  have fR:=RX3.out.frozen
  have tS:Td (fun k=>k=b0+1) X3 (X3.setCell ⟨b0+1,0,none⟩ (.bool true)):=Td.setCell _ _ _ rfl
  have HK4:Hid ((X3.setCell ⟨b0+1,0,none⟩ (.bool true)).heap[D]? = some (.deferred (some []))):=gh (tS.heap HK3.out (HDD.out.1))
  have CS:Hid ((X3.setCell ⟨b0+1,0,none⟩ (.bool true)).cell? ⟨b0+1,0,none⟩=some (.bool true)):=gh (RX3.out.set (.bool true)).cell
  have KE:Hid (Kept w (X3.setCell ⟨b0+1,0,none⟩ (.bool true))):=gh ((KX.out.trans Q3.out).did (by have:=HB0.out;omega) tS)
  clear tS
  go_wp2
  refine leave_marks [D] _ ?_ ?_ ?_
  ·intro k hk
   simp at hk
   rw [hk]
   exact HK4.out
  ·simp
  ·intro X' hX'
   have q1:=hX'.cell CS.out (by have:=HDD.out;simp;omega)
   exact ⟨.bool true,by simp [results,Tryz.results9,go_sem,q1],rfl,KE.out.own (fun i hi=>by simp at hi;have:=HDD.out;omega) hX'⟩
end
section
open Go.Shelf
attribute [local go_sem] Oper.semAt_some
def treeZ (s:Mst) (z:Int):Mst:=
 let a:=1+z % (s.xs.length:Int)
 let u:=s.look a
 let k:=(z.tdiv 1000) % 5
 if k=0 then s.write a (wrap64 (u+1))
 else if k=1 then s.write a (s.look (1+(z.tdiv 7) % (s.xs.length:Int)))
 else if k=2 then s.write a 0
 else if k=3 then s.write a ((z.tdiv 5000) % 900)
 else s.write a (wrap64 (u - 8))
def treeF (s:Mst) (l:List Int):Mst:=(l.take 6).foldl treeZ s
theorem treeZ_ok {s:Mst} (h:s.ok) (z:Int):(treeZ s z).ok:=by
 unfold treeZ
 dsimp only
 repeat' split
 ·exact Mst.write_ok h _ (i64_w _)
 ·exact Mst.write_ok h _ (h.look _)
 ·exact Mst.write_ok h _ i64_0
 ·exact Mst.write_ok h _ (by constructor <;> omega)
 ·exact Mst.write_ok h _ (i64_w _)
theorem treeZ_grew (s:Mst) (z:Int):Grew1 s (treeZ s z):=by
 unfold treeZ
 dsimp only
 repeat' split
 all_goals exact s.write_grew _ _
theorem fold_stepT {L:List Int} {i:Nat} {z:Int} (s:Mst) (h:L[i]? = some z):(L.drop i).foldl treeZ s=(L.drop (i+1)).foldl treeZ (treeZ s z):=by
 obtain ⟨h1,rfl⟩:=List.getElem?_eq_some_iff.1 h
 rw [List.drop_eq_getElem_cons h1]
 rfl
structure Tre (w W:World) (b:Nat) (v:Value) (s:Mst):Prop where
 mem:DMem W w.heap.size b v s
 ok:s.ok
 kept:Kept w W
 len:7≤s.xs.length
 big:1≤s.size∧s.size≤800
theorem Tre.next {w W W':World} {b:Nat} {v:Value} {s s':Mst} (h:Tre w W b v s) (h1:DMem W' w.heap.size b v s') (h2:Td (Foot b v) W W') (h3:s'.ok) (h4:Grew1 s s'):Tre w W' b v s':=
 ⟨h1,h3,h.kept.own (fun k e=>(h.mem.lt k e).1) h2,Nat.le_trans h.len h4.len,by rw [h4.size];exact h.big⟩
set_option maxHeartbeats 4000000 in
set_option maxRecDepth 20000 in
theorem tree_r (w:World) (cells:Int) (a1:Option Addr) (keys:List Int) (c1:Nat) (a2:Option Addr) (l:List Int) (c2:Nat) (a3:Option Addr) (us:List Int) (c3:Nat) (hr1:Reads w a1 keys) (hc1:keys.length≤c1) (hm1:c1≤maxLen) (hr2:Reads w a2 l) (hc2:l.length≤c2) (hm2:c2≤maxLen) (hi:∀ z ∈ l,I64 z)
  (M3:Nat) (hM:us.length=M3) (hr3:Reads w a3 us) (hc3:M3≤c3) (hm3:c3≤maxLen) (hi3:∀ z ∈ us,I64 z) :
  Calls Tryz.prog 26 #[.int .i64 cells,.slice a1 keys.length c1,.slice a2 l.length c2,.slice a3 M3 c3] w fun e W=>∃ b v,e=.returned (.pointer (some ⟨b,0,none⟩))∧Tre w W b v (treeF (worldZ cells keys l).m us):=by
 have GZ:=worldZ_grew cells keys l
 have WR:=gh (world_r w cells a1 keys c1 a2 l c2 hr1 hc1 hm1 hr2 hc2 hm2 hi)
 obtain ⟨wz,hwz⟩:∃ z,worldZ cells keys l=z:=⟨_,rfl⟩
 rw [hwz] at WR GZ ⊢
 obtain ⟨s0,hs0⟩:∃ s,wz.m=s:=⟨_,rfl⟩
 rw [hs0] at GZ ⊢
 have HS:=gh hs0
 have G7:Hid (7≤s0.xs.length∧1≤s0.size∧s0.size≤800):=gh ⟨GZ.2,by rw [GZ.1];omega,by rw [GZ.1];omega⟩
 have HR:=gh hr3
 have HM:=gh hM
 have HI:=gh hi3
 have hl3:(M3:Int)≤9223372036854775807:=by unfold maxLen at hm3;omega
 clear hr1 hc1 hm1 hr2 hc2 hm2 hi hr3 hM hi3 hm3 hs0 hwz GZ
 go_enter Tryz.func26,Tryz.ntmps26
 go_wp2_with (fail)
 refine WR.out.mono ?_
 rintro e W2 ⟨x,rfl,mb,tb,wr⟩
 obtain ⟨vm,dm,okm,cx⟩:=wr.mem
 rw [HS.out] at dm okm
 have T0:Hid (Tre w W2 mb vm s0):=gh ⟨dm,okm,wr.kept,G7.out.1,G7.out.2⟩
 clear wr dm okm WR
 go_wp2_with (fail)
 rename World=>W4
 go_loopw [10,11,12,13] (fun vi _ _ _ wr=>∃ (i:Nat) (s:Mst),vi=.int .i64 (i:Int)∧i≤M3∧i≤6∧Hid (Tre w wr mb vm s)∧Hid (treeF s0 us=((us.take 6).drop i).foldl treeZ s)) (fun vi _ _ _ _=>6 - (intOf vi).toNat)
 case atStart=>exact ⟨0,s0,rfl,by omega,by omega,T0,gh rfl⟩
 case round=>
  obtain ⟨i,s,rfl,hi,hi6,T,E⟩:=hrel
  clear T0
  by_cases hlt:i < M3
  ·have j1:(i:Int) < (M3:Int):=by omega
   by_cases h6:i < 6
   ·have j2:(i:Int) < 6:=by omega
    obtain ⟨z,hz⟩:∃ z,us[i]? = some z:=⟨_,List.getElem?_eq_getElem (by rw [HM.out];exact hlt)⟩
    obtain ⟨bl,off,rfl,hbl,hcell0⟩:=HR.out.at hz
    have hcell:=T.out.kept.cell hcell0 id
    have j3:i < c3:=by omega
    obtain ⟨z1,z2⟩:=HI.out z (List.mem_of_getElem? hz)
    have hzt:(us.take 6)[i]? = some z:=by rw [List.getElem?_take,if_pos h6];exact hz
    have EN:Hid (treeF s0 us=((us.take 6).drop (i+1)).foldl treeZ (treeZ s z)):=gh (by rw [E.out,fold_stepT _ hzt])
    obtain ⟨n,hn⟩:∃ n,s.xs.length=n:=⟨_,rfl⟩
    have hop:=(DMem.opened T.out.mem).1.1
    obtain ⟨la,lc,hv,_,hlc,hlm⟩:=T.out.mem.form
    rw [hv,hn] at hop
    have hn7:7≤n:=by have:=T.out.len;omega
    have hnm:(n:Int)≤100000:=by have:=T.out.mem.room;have:=T.out.big;omega
    obtain ⟨A,hA⟩:∃ A:Int,z % (n:Int)=A:=⟨_,rfl⟩
    obtain ⟨u,hu⟩:∃ u,s.look (1+A)=u:=⟨_,rfl⟩
    obtain ⟨k,hk⟩:∃ k,(z.tdiv 1000) % 5=k:=⟨_,rfl⟩
    have A0:0≤A∧A < n:=by rw [← hA];exact ⟨Int.emod_nonneg _ (by omega),Int.emod_lt_of_pos _ (by omega)⟩
    have C1:∀ X,Calls Tryz.prog 36 #[.int .i64 z,.int .i64 (n:Int)] X fun e X'=>e=.returned (.int .i64 A)∧X=X':=fun X=>hA ▸ cut_g X z n (by omega) hnm
    have C2:∀ X,Calls Tryz.prog 36 #[.int .i64 (z.tdiv 1000),.int .i64 5] X fun e X'=>e=.returned (.int .i64 k)∧X=X':=fun X=>hk ▸ cut_g X (z.tdiv 1000) 5 (by decide) (by decide)
    have HC2:=gh C2
    have KK:Hid (0≤k∧k < 5):=gh (by rw [← hk];omega)
    have TZ:Hid (treeZ s z=if k=0 then s.write (1+A) (wrap64 (u+1)) else if k=1 then s.write (1+A) (s.look (1+(z.tdiv 7) % (n:Int))) else if k=2 then s.write (1+A) 0 else if k=3 then s.write (1+A) ((z.tdiv 5000) % 900) else s.write (1+A) (wrap64 (u - 8))):=gh (by
     unfold treeZ
     dsimp only
     rw [hn,hA,hu,hk])
    have WD:Hid (∀ x,treeZ s z=s.write (1+A) x→Calls Tryz.prog 62 #[.pointer (some ⟨mb,0,none⟩),.int .i64 (1+A),.int .i64 x] wr fun e W'=>e=.returned (.tuple #[])∧Tre w W' mb vm (treeZ s z)):=gh (fun x hx=>by
     refine (write_d wr _ mb vm s (1+A) x T.out.mem).mono ?_
     rintro e W' ⟨h0,h1,h2⟩
     exact ⟨h0,T.out.next (by rw [hx];exact h1) h2 (treeZ_ok T.out.ok z) (treeZ_grew s z)⟩)
    have U1:∀ X,DM X mb s→Calls Tryz.prog 43 #[.pointer (some ⟨mb,0,none⟩),.int .i64 (1+A)] X fun e w'=>e=.returned (.int .i64 u)∧X=w':=fun X h=>lk_d X mb s (1+A) u h hu
    have HU:=gh (U1 wr ⟨_,_,_,rfl,T.out.mem⟩)
    clear hz hzt E hu hv hA hk hn C2 U1 hcell0 hbl
    go_wp2_with (fail)
    refine (C1 wr).mono ?_
    rintro e w' ⟨rfl,rfl⟩
    clear C1 hcell
    go_wp2_with (fail)
    refine HU.out.mono ?_
    rintro e w' ⟨rfl,rfl⟩
    go_wp2_with (fail)
    refine (HC2.out wr).mono ?_
    rintro e w' ⟨rfl,rfl⟩
    obtain ⟨k0,k5⟩:0≤k∧k < 5:=KK.out
    by_cases e0:k=0
    ·subst e0
     have TW:=WD.out (wrap64 (u+1)) (by rw [TZ.out];simp)
     have TWH:=gh TW
     clear TW WD TZ HC2 HU
     go_wp2_with (fail)
     refine TWH.out.mono ?_
     rintro e W6 ⟨rfl,w6⟩
     have W6':=gh w6
     clear w6 TWH
     go_wp2
     exact ⟨⟨i+1,_,by simp,by omega,by omega,W6',EN⟩,by simp only [intOf];omega⟩
    by_cases e1:k=1
    ·subst e1
     obtain ⟨A2,hA2⟩:∃ A:Int,(z.tdiv 7) % (n:Int)=A:=⟨_,rfl⟩
     have A20:0≤A2∧A2 < n:=by rw [← hA2];exact ⟨Int.emod_nonneg _ (by omega),Int.emod_lt_of_pos _ (by omega)⟩
     have C3:∀ X,Calls Tryz.prog 36 #[.int .i64 (z.tdiv 7),.int .i64 (n:Int)] X fun e X'=>e=.returned (.int .i64 A2)∧X=X':=fun X=>hA2 ▸ cut_g X (z.tdiv 7) n (by omega) hnm
     have HC3:=gh C3
     obtain ⟨u2,hu2⟩:∃ u,s.look (1+A2)=u:=⟨_,rfl⟩
     have LK:=gh (lk_d wr mb s (1+A2) u2 ⟨_,_,_,rfl,T.out.mem⟩ hu2)
     rw [hA2,hu2] at TZ
     clear C3 hA2 hu2
     have TW:=WD.out u2 (by rw [TZ.out];simp)
     have TWH:=gh TW
     clear TW WD TZ HC2 HU
     go_wp2_with (fail)
     refine (HC3.out wr).mono ?_
     rintro e w' ⟨rfl,rfl⟩
     clear HC3
     go_wp2_with (fail)
     refine LK.out.mono ?_
     rintro e w' ⟨rfl,rfl⟩
     clear LK
     go_wp2_with (fail)
     refine TWH.out.mono ?_
     rintro e W6 ⟨rfl,w6⟩
     have W6':=gh w6
     clear w6 TWH
     go_wp2
     exact ⟨⟨i+1,_,by simp,by omega,by omega,W6',EN⟩,by simp only [intOf];omega⟩
    by_cases e2:k=2
    ·subst e2
     have TW:=WD.out 0 (by rw [TZ.out];simp)
     have TWH:=gh TW
     clear TW WD TZ HC2 HU
     go_wp2_with (fail)
     refine TWH.out.mono ?_
     rintro e W6 ⟨rfl,w6⟩
     have W6':=gh w6
     clear w6 TWH
     go_wp2
     exact ⟨⟨i+1,_,by simp,by omega,by omega,W6',EN⟩,by simp only [intOf];omega⟩
    by_cases e3:k=3
    ·subst e3
     obtain ⟨A2,hA2⟩:∃ A:Int,(z.tdiv 5000) % 900=A:=⟨_,rfl⟩
     have A20:0≤A2∧A2 < 900:=by omega
     have C3:∀ X,Calls Tryz.prog 36 #[.int .i64 (z.tdiv 5000),.int .i64 900] X fun e X'=>e=.returned (.int .i64 A2)∧X=X':=fun X=>hA2 ▸ cut_g X (z.tdiv 5000) 900 (by decide) (by decide)
     have HC3:=gh C3
     rw [hA2] at TZ
     clear C3 hA2
     have TW:=WD.out A2 (by rw [TZ.out];simp)
     have TWH:=gh TW
     clear TW WD TZ HC2 HU
     go_wp2_with (fail)
     refine (HC3.out wr).mono ?_
     rintro e w' ⟨rfl,rfl⟩
     clear HC3
     go_wp2_with (fail)
     refine TWH.out.mono ?_
     rintro e W6 ⟨rfl,w6⟩
     have W6':=gh w6
     clear w6 TWH
     go_wp2
     exact ⟨⟨i+1,_,by simp,by omega,by omega,W6',EN⟩,by simp only [intOf];omega⟩
    have k4:k=4:=by omega
    clear e0 e1 e2 e3
    ·subst k4
     have TW:=WD.out (wrap64 (u - 8)) (by rw [TZ.out];simp)
     have TWH:=gh TW
     clear TW WD TZ HC2 HU
     go_wp2_with (fail)
     refine TWH.out.mono ?_
     rintro e W6 ⟨rfl,w6⟩
     have W6':=gh w6
     clear w6 TWH
     go_wp2
     exact ⟨⟨i+1,_,by simp,by omega,by omega,W6',EN⟩,by simp only [intOf];omega⟩
   ·have j2:¬ (i:Int) < 6:=by omega
    have e1:i=6:=by omega
    have FIN:Hid (Tre w wr mb vm (treeF s0 us)):=gh (by
     have:=E.out
     rw [List.drop_eq_nil_of_le (by rw [List.length_take];omega)] at this
     rw [this];exact T.out)
    clear E T
    go_wp2
    go_ret
    first | exact ⟨mb,rfl,vm,FIN.out⟩ | exact ⟨mb,vm,rfl,FIN.out⟩
  ·have j1:¬ (i:Int) < (M3:Int):=by omega
   have FIN:Hid (Tre w wr mb vm (treeF s0 us)):=gh (by
    have:=E.out
    rw [List.drop_eq_nil_of_le (by rw [List.length_take,HM.out];omega)] at this
    rw [this];exact T.out)
   clear E T
   go_wp2
   go_ret
   first | exact ⟨mb,rfl,vm,FIN.out⟩ | exact ⟨mb,vm,rfl,FIN.out⟩
end
section
open Go.Shelf
attribute [local go_sem] Oper.semAt_some
theorem leaves_eq (s:Mst):leavesL s=contentB s (s.logicZ 6):=by
 unfold leavesL contentB inTreeB
 cases hq:soundB s <;> simp [spotsL,meetB]
structure Sv (w n2 X:World) (b0 bm bx n0:Nat) (vx:Value) (sx s:Mst):Prop where
 now:Now n2 X bm s
 dmem:DMem X n0 bx vx sx
 kept:Kept w X
 box:Boxed X b0 4 (.bool false)
theorem Sv.on {w n2 X Y:World} {b0 bm bx n0:Nat} {vx:Value} {sx s:Mst} (h:Sv w n2 X b0 bm bx n0 vx sx s) (k:Kept X Y):Sv w n2 Y b0 bm bx n0 vx sx s:=
 ⟨h.now.on k,h.dmem.kept k,h.kept.trans k,k.boxed h.box id⟩
theorem Sv.dm {w n2 X:World} {b0 bm bx n0:Nat} {vx:Value} {sx s:Mst} (h:Sv w n2 X b0 bm bx n0 vx sx s) (e:sx.xs=s.xs):DM X bx s:=⟨n0,vx,sx,e,h.dmem⟩
def StopF:Inv (Int × Int):=fun _ _ _=>False
theorem StopF.good:Good StopF:=by
 constructor
 ·rintro O pre A B h
  exact h.elim
 ·rintro O pre A h
  exact h.elim
set_option maxHeartbeats 4000000 in
set_option maxRecDepth 20000 in
theorem viewSound_c (w:World) (cells slot:Int) (a1:Option Addr) (keys:List Int) (c1:Nat) (a2:Option Addr) (l:List Int) (c2:Nat) (a3:Option Addr) (us:List Int) (c3:Nat) (hr1:Reads w a1 keys) (hc1:keys.length≤c1) (hm1:c1≤maxLen) (hr2:Reads w a2 l) (hc2:l.length≤c2) (hm2:c2≤maxLen) (hi:∀ z ∈ l,I64 z)
  (hr3:Reads w a3 us) (hc3:us.length≤c3) (hm3:c3≤maxLen) (hi3:∀ z ∈ us,I64 z) :
  Calls Tryz.prog 6 #[.int .i64 cells,.slice a1 keys.length c1,.slice a2 l.length c2,.slice a3 us.length c3,.int .i64 slot] w fun e w'=>e=.returned (.bool true)∧Kept w w':=by
 obtain ⟨b0,hb0⟩:∃ n,w.heap.size=n:=⟨_,rfl⟩
 have HB0:=gh hb0
 obtain ⟨W0,hW0⟩:∃ W0,w.alloc (.cells #[.bool false] 4)=W0:=⟨_,rfl⟩
 have k01:Kept w W0:=by rw [← hW0];exact (Kept.refl w).alloc _
 have K0:=gh k01
 have RB0:Hid (Boxed W0 b0 4 (.bool false)):=gh (by rw [← hW0,← hb0];exact Boxed.new w 4 _)
 have Z0:Hid (W0.heap.size=b0+1):=gh (by rw [← hW0];simp [hb0])
 have TR:=gh (tree_r W0 cells a1 keys c1 a2 l c2 a3 us c3 (hr1.kept k01) hc1 hm1 (hr2.kept k01) hc2 hm2 hi us.length rfl (hr3.kept k01) hc3 hm3 hi3)
 clear hr1 hc1 hm1 hr2 hc2 hm2 hi hr3 hc3 hm3 hi3 k01
 refine calls_marks Tryz.func6 rfl ?_
 simp only [Tryz.ntmps6,List.size_toArray,List.length_cons,List.length_nil,Nat.reduceAdd,Nat.reduceSub,Array.replicate_succ,Array.replicate_zero,List.push_toArray,List.append_toArray,List.nil_append,List.cons_append]
 go_wp2_with (fail)
 clear hW0 hb0
 refine TR.out.mono ?_
 rintro e W1 ⟨bx,vx,rfl,tr⟩
 obtain ⟨sx,hsx⟩:∃ s,treeF (worldZ cells keys l).m us=s:=⟨_,rfl⟩
 rw [hsx] at tr
 have T1:=gh tr
 obtain ⟨s,hs⟩:∃ s,cp sx=s:=⟨_,rfl⟩
 have HS:=gh hs
 have OK:Hid s.ok:=gh (by rw [← hs];exact cp_ok tr.ok tr.mem.room)
 have HXS:Hid (sx.xs=s.xs):=gh (by rw [← hs,cp_xs tr.mem.room])
 have HSZ:Hid (sx.size=s.size):=gh (by rw [← hs];exact (cp_size sx).symm)
 clear tr hs hsx TR
 go_wp2_with (fail)
 refine (copy_c W1 _ bx vx sx T1.out.mem T1.out.big.1).mono ?_
 rintro e W2 ⟨bm,rfl,n2⟩
 rw [HS.out] at n2
 have S2:Hid (Sv w W1 W2 b0 bm bx W0.heap.size vx sx s):=gh ⟨n2,T1.out.mem.kept n2.2,(K0.out.trans T1.out.kept).trans n2.2,n2.2.boxed (T1.out.kept.boxed RB0.out id) id⟩
 clear n2
 go_wp2_with (fail)
 refine (known_c W2).mono ?_
 rintro e W3 ⟨rfl,q⟩
 have S3:=gh (S2.out.on q)
 clear q S2
 go_wp2_with (fail)
 refine (like_c W1 W3 bm s S3.out.now _ bx vx sx S3.out.dmem HXS.out HSZ.out).mono ?_
 rintro e W4 ⟨rfl,q⟩
 have S4:=gh (S3.out.on q)
 clear q S3
 obtain ⟨sb,hsb⟩:∃ sb,soundB s=sb:=⟨_,rfl⟩
 have HSB:=gh hsb
 clear hsb
 have es:(sb == sb)=true:=by simp
 go_wp2_with (fail)
 refine (sound_p W4 bm s S4.out.now.pm OK.out sb HSB.out).mono ?_
 rintro e W5 ⟨rfl,q⟩
 have S5:=gh (S4.out.on q)
 clear q S4
 go_wp2_with (fail)
 refine (sound_d W5 bx s (S5.out.dm HXS.out) OK.out sb HSB.out).mono ?_
 rintro e W6 ⟨rfl,q⟩
 have S6:=gh (S5.out.on q)
 clear q S5
 obtain ⟨cb,hcb⟩:∃ cb,calmB s=cb:=⟨_,rfl⟩
 have HCB:=gh hcb
 clear hcb
 have ec:(cb == cb)=true:=by simp
 go_wp2_with (fail)
 refine (calm_p W6 bm s S6.out.now.pm OK.out cb HCB.out).mono ?_
 rintro e W7 ⟨rfl,q⟩
 have S7:=gh (S6.out.on q)
 clear q S6
 go_wp2_with (fail)
 refine (calm_d W7 bx s (S7.out.dm HXS.out) OK.out cb HCB.out).mono ?_
 rintro e W8 ⟨rfl,q⟩
 have S8:=gh (S7.out.on q)
 clear q S7
 obtain ⟨xs,hxs⟩:∃ xs,leavesL s=xs:=⟨_,rfl⟩
 have HXL:Hid (leavesL s=xs):=gh hxs
 have HXN:Hid (xs.length≤100000):=gh (by rw [← hxs,leaves_eq];exact content_len OK.out)
 clear hxs
 obtain ⟨bi,hbi⟩:∃ b,W8.heap.size=b:=⟨_,rfl⟩
 obtain ⟨W9,hW9⟩:∃ W,W8.alloc (.cells #[.int .i64 0] 3)=W:=⟨_,rfl⟩
 have k9:Kept W8 W9:=by rw [← hW9];exact (Kept.refl W8).alloc _
 have BI9:Hid (Boxed W9 bi 3 (.int .i64 0)):=gh (by rw [← hW9,← hbi];exact Boxed.new W8 3 _)
 have Z9:Hid (W9.heap.size=bi+1):=gh (by rw [← hW9,← hbi];simp)
 have HBI:Hid (W8.heap.size=bi):=gh hbi
 have HW9:=gh hW9
 have K9:=gh k9
 have S9:=gh (S8.out.on k9)
 clear k9 hW9
 go_wp2_with (fail)
 clear hbi
 rw [HW9.out]
 refine (leaves_d W9 bx s (S9.out.dm HXS.out) OK.out xs HXL.out).mono ?_
 rintro e W10 ⟨v4,rfl,r4,k4⟩
 obtain ⟨a4,c4,rfl,pr4,l4,mm4,_,b4⟩:=PRow.form r4
 obtain ⟨L,hL⟩:∃ L,xs.length=L:=⟨_,rfl⟩
 rw [hL] at l4
 have HL:=gh hL
 have PR4:=gh pr4
 have B4:=gh b4
 have L3:=gh l4
 have K10:=gh k4
 have BI10:=gh (k4.boxed BI9.out id)
 rw [hL]
 have lx:(L:Int)≤100000:=by have:=HXN.out;omega
 obtain ⟨bp,hbp⟩:∃ b,W10.heap.size=b:=⟨_,rfl⟩
 obtain ⟨W11,hW11⟩:∃ W,W10.alloc (.cells #[.slice a4 L c4] 44)=W:=⟨_,rfl⟩
 have k11:Kept W10 W11:=by rw [← hW11];exact (Kept.refl W10).alloc _
 have BP11:Hid (Boxed W11 bp 44 (.slice a4 L c4)):=gh (by rw [← hW11,← hbp];exact Boxed.new W10 44 _)
 have BI11:=gh (k11.boxed BI10.out id)
 have K11:=gh k11
 have HW11:=gh hW11
 have Z11:Hid (bi < bp∧W10.heap.size=bp∧bp < W11.heap.size∧b0 < bi):=gh (by
  have h1:=k4.size
  have h2:=Z9.out
  have h3:=BP11.out.lt
  have h4:=S8.out.box.lt
  have h5:=HBI.out
  omega)
 clear r4 k4 pr4 b4 mm4 hL k11 hW11 l4
 go_wp2_with (fail)
 clear hbp
 rw [HW11.out]
 refine (leaves_k W11 bm).mono ?_
 rintro e W12 ⟨B1,rfl,k12,bx12,l12⟩
 have K12:=gh k12
 have B12:=gh bx12
 have L12:=gh l12
 have I12:=gh (k12.boxed BI11.out id)
 have S11:=gh ((S9.out.on K10.out).on K11.out)
 clear k12 bx12 l12
 go_wp2_with (fail)
 refine wp_range2 (gf:=90) rfl (enters_of Tryz.func90 (by kernel_rfl) rfl) (encs:=enc2) (xs:=xs) (R:=SpotR W8 B1)
  (fun X hX=>leaves_i W8 X ((((K9.out.trans K10.out).trans K11.out).trans K12.out).trans hX) bm s S8.out.now.pm OK.out xs (by rw [← leaves_eq];exact HXL.out) HXN.out B1 (hX.boxed B12.out id)) (fun _=>rfl)
  (fun k=>k=bi) (CntN bi L) (fun _=>StopF) ?hR (CntN.good bi L) (fun c=>StopF.good) ⟨fun _=>Iff.rfl,I12.out,Nat.zero_le _⟩ ?ab ?done ?stop
 case hR=>
  rintro k (hk | rfl)
  ·have h1:=K12.out.size
   have h2:=Z11.out
   have h3:=HBI.out
   exact ⟨by omega,by omega⟩
  ·have h1:=B12.out.lt
   have h2:=L12.out
   have h3:=Z11.out
   exact ⟨h1,by omega⟩
 case ab=>
  apply Exists.intro
  refine ⟨?_,?_⟩
  ·intro l' p X K hK
   gi_wp2
   exact hK
  ·rintro l' O pre ⟨k,v⟩ rest B hx' tB sB ⟨hO,bI,hle⟩
   obtain ⟨q,hq⟩:∃ L,pre.length=L:=⟨_,rfl⟩
   have hat:xs[q]? = some (k,v):=by rw [hx',← hq,List.getElem?_append_right (Nat.le_refl _),Nat.sub_self];rfl
   have hlt:q < L:=by have:=(List.getElem?_eq_some_iff.1 hat).1;have:=HL.out;omega
   rw [hq] at bI hle
   have kB:Td (fun k=>k=bi) W11 B:=K12.out.then tB
   have cP:=(kB.boxed BP11.out (by have:=Z11.out;omega)).cell
   have cI:=bI.cell
   have fI:=bI.frozen
   have tB4:Td (fun k=>k=bi) W10 B:=K11.out.then kB
   obtain ⟨bl,off,rfl,_,g1,g2⟩:=(PR4.out.turned tB4 (fun i hi ⟨ad,e1,e2⟩ e=>by
     have h1:=B4.out ad e1
     have h2:=Z9.out
     omega)).at hat
   simp only at g1 g2
   rw [← Nat.add_assoc] at g2
   have HOO:=gh hO
   have END:Hid (∃ O',Sub O' O B.heap.size∧Td O B (B.setCell ⟨bi,0,none⟩ (.int .i64 ((q:Int)+1)))∧CntN bi L O' (pre++[(k,v)]) (B.setCell ⟨bi,0,none⟩ (.int .i64 ((q:Int)+1)))):=gh (by
    refine ⟨O,Sub.refl _ _,Td.setCell _ _ _ ((hO bi).2 rfl),hO,?_,by rw [List.length_append,hq];simp;omega⟩
    have:=bI.set (.int .i64 ((q:Int)+1))
    rw [List.length_append,hq]
    simpa using this)
   have j1:(q:Int) < (L:Int):=by omega
   have j2:q < c4:=by have:=L3.out;omega
   have j3:(q:Int)≤100000:=by omega
   clear hx' tB sB hO bI hq hat kB tB4
   gi_wp2
   exact END.out
 case stop=>
  rintro D O c pre rest X hD nD tX sX hx' hf hK
  exact hf.elim
 case done=>
  rintro D O X hD nD tX sX ⟨hO,bI,hle⟩ hK
  rw [HL.out] at bI hle
  have tW:Td (fun k=>k=bi) W11 X:=K12.out.then tX
  have KX:Hid (Kept W8 X):=gh ((K9.out.trans (K10.out.trans K11.out)).own (fun i hi=>by rw [hi,HBI.out];exact Nat.le_refl _) tW)
  have SX:=gh (S8.out.on KX.out)
  have cP:=(tW.boxed BP11.out (by have:=Z11.out;omega)).cell
  have cI:=bI.cell
  have BPX:=gh (tW.boxed BP11.out (by have:=Z11.out;omega))
  have BII:=gh bI
  have HKD:=gh hK
  have HDD:Hid (D≠b0∧w.heap.size≤D):=gh (by
   have h1:=Z11.out
   have h2:=K12.out.size
   have h3:=HB0.out
   omega)
  obtain ⟨n,hn⟩:∃ n,sx.xs.length=n:=⟨_,rfl⟩
  have hop:=(DMem.opened SX.out.dmem).1.1
  obtain ⟨la,lc,hv,_,hlc,hlm⟩:=SX.out.dmem.form
  rw [hv,hn] at hop
  have hn8:(n:Int)≤800:=by have:=SX.out.dmem.room;have:=T1.out.big;omega
  obtain ⟨sl,hsl⟩:∃ z,slot % ((n:Int)+3)=z:=⟨_,rfl⟩
  have C1:∀ Y,Calls Tryz.prog 36 #[.int .i64 slot,.int .i64 ((n:Int)+3)] Y fun e X'=>e=.returned (.int .i64 sl)∧Y=X':=fun Y=>hsl ▸ cut_g Y slot ((n:Int)+3) (by omega) (by omega)
  have HC:=gh C1
  obtain ⟨r1,hr1⟩:∃ r,s.logicZ sl=r:=⟨_,rfl⟩
  obtain ⟨r2,hr2⟩:∃ r,s.logicZ slot=r:=⟨_,rfl⟩
  have HR1:=gh hr1
  have HR2:=gh hr2
  clear hD nD tX sX hO bI hK tW C1 hsl hr1 hr2 hv hn
  go_wp2_with (fail)
  refine (HC.out X).mono ?_
  rintro e w' ⟨rfl,rfl⟩
  clear hop
  obtain ⟨SL,hSL⟩:∃ L,(if soundB s=true then spotsL s (fuel s) else [])=L:=⟨_,rfl⟩
  have HSL:=gh hSL
  have HLE:Hid (SL.length≤1000000):=gh (by
   rw [← hSL]
   split
   ·rename_i hs;have:=spotsL_len OK.out hs;omega
   ·simp)
  clear hSL
  go_wp2_with (fail)
  refine (spots_p X bm s SX.out.now.pm OK.out SL HSL.out).mono ?_
  rintro e WC ⟨vc,rfl,rc,kC⟩
  have SC:=gh (SX.out.on kC)
  have KC:=gh kC
  have RCC:=gh rc
  clear kC rc cP cI
  go_wp2_with (fail)
  refine (spotsD_p WC bx s (SC.out.dm HXS.out) OK.out SL HSL.out).mono ?_
  rintro e WD ⟨vd,rfl,rd,kD⟩
  obtain ⟨ca,cc,hvc,hrc,hcc,_⟩:=(RCC.out.kept kD).reads
  obtain ⟨da,dc,hvd,hrd,hdc,_⟩:=rd.reads
  obtain ⟨T,hT⟩:∃ T,SL.length=T:=⟨_,rfl⟩
  have HT:=gh hT
  rw [hT] at hvc hvd hcc hdc
  subst hvc hvd
  have SD:=gh (SC.out.on kD)
  have KD:=gh (KC.out.trans kD)
  have HRC:=gh hrc
  have HRD:=gh hrd
  have HLT:Hid (T≤1000000):=gh (by rw [← hT];exact HLE.out)
  clear kD rd hrc hrd hT SC KC RCC
  go_wp2_with (fail)
  refine (spots_same WD ca da SL T cc dc HT.out HRC.out HRD.out hcc hdc HLT.out).mono ?_
  rintro e WE ⟨rfl,kE⟩
  have SE:=gh (SD.out.on kE)
  have KE:=gh (KD.out.trans kE)
  clear kE SD KD HRC HRD
  go_wp2_with (fail)
  refine (logic_p WE bm s sl r1 SE.out.now.pm OK.out HR1.out).mono ?_
  rintro e w' ⟨rfl,rfl⟩
  go_wp2_with (fail)
  refine (logic_d WE bx s sl r1 (SE.out.dm HXS.out) OK.out HR1.out).mono ?_
  rintro e w' ⟨rfl,rfl⟩
  go_wp2_with (fail)
  refine (logic_p WE bm s slot r2 SE.out.now.pm OK.out HR2.out).mono ?_
  rintro e w' ⟨rfl,rfl⟩
  go_wp2_with (fail)
  refine (logic_d WE bx s slot r2 (SE.out.dm HXS.out) OK.out HR2.out).mono ?_
  rintro e w' ⟨rfl,rfl⟩
  have HK3:=gh (KE.out.heap HKD.out id)
  have cR:=SE.out.box.cell
  have fR:=SE.out.box.frozen
  have tS:Td (fun k=>k=b0) WE (WE.setCell ⟨b0,0,none⟩ (.bool true)):=Td.setCell _ _ _ rfl
  have HK4:Hid ((WE.setCell ⟨b0,0,none⟩ (.bool true)).heap[D]? = some (.deferred (some []))):=gh (tS.heap HK3.out (HDD.out.1))
  have CS:Hid ((WE.setCell ⟨b0,0,none⟩ (.bool true)).cell? ⟨b0,0,none⟩=some (.bool true)):=gh (SE.out.box.set (.bool true)).cell
  have KEE:Hid (Kept w (WE.setCell ⟨b0,0,none⟩ (.bool true))):=gh (SE.out.kept.did (by have:=HB0.out;omega) tS)
  clear tS
  go_wp2
  refine leave_marks [D] _ ?_ ?_ ?_
  ·intro k hk
   simp at hk
   rw [hk]
   exact HK4.out
  ·simp
  ·intro X' hX'
   have q1:=hX'.cell CS.out (by have:=HDD.out;simp;omega)
   exact ⟨.bool true,by simp [results,Tryz.results6,go_sem,q1],rfl,KEE.out.own (fun i hi=>by simp at hi;have:=HDD.out;omega) hX'⟩
end
end Go.Proofs.YtnjkmmmfhponlaaGreat
