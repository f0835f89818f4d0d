/-
  What the proof of YtoaicedkepcalaaGreatDcssPlaysProof goes by, part 1 of 11: contracts and plain facts; each part begins with its own sentence. No conditions beyond each theorem's own.
-/
import Derived.Test.YtoaicedkepcalaaGreatRows
import Derived.WalkKit
import Derived.ProofKit
import Derived.OpenShut
import Derived.ShutString
import Derived.WalkSmall
import Derived.Maps.AppendAt
import Derived.OwnWalk
import Derived.Deep.AppendLies
import Derived.Laws.OwnMore
import Derived.BigQuiet
import Derived.Deep.QuietTactic
import Derived.Lib.SliceRun
import Derived.OrdersHeld
import Derived.OrdersIn
import Derived.Deep.Quiet
import Derived.TacticsIn
import Derived.ControlIn
import Derived.TacticsInMore
import Derived.OwnWalkIn
import Derived.Lib.AppendZerosOnto
import Derived.Maps.OwnIn
namespace Go.Proofs.YtoaicedkepcalaaGreat
open Go.RowKit
namespace Rf
open Go.ChangeShapes Go.WideShapes Go.ChangeAt Go.RowKit
def rt (a:Int):Bool:=decide (9<=a/\a<=524293/\1<=a % 8/\a % 8<=5)
def may (k t:Int):Bool:=decide (1<=k/\k<=5/\1<=t/\t<=65536)
def ofZ (k t:Int):Int:=if may k t=true then 8 * t+k else 0
def kindZ (a:Int):Int:=if rt a=true then a % 8 else 0
def atZ (a:Int):Int:=if rt a=true then a / 8 else 0
theorem tdiv8 (a:Int):a.tdiv 8=if 0<=a then a / 8 else -((-a) / 8):=by
 split
 ·exact Int.tdiv_eq_ediv_of_nonneg (by assumption)
 ·have h:a=-(-a):=by omega
  rw [h,Int.neg_tdiv,Int.tdiv_eq_ediv_of_nonneg (by omega)];omega
theorem tmod8 (a:Int):a.tmod 8=a - 8 * a.tdiv 8:=by
 have:=Int.tmod_add_mul_tdiv a 8
 omega
theorem wrap_same {a:Int} (h:-9223372036854775808<=a) (h':a<=9223372036854775807):wrap64 a=a:=by
 unfold wrap64;omega
theorem wdiv8 {a:Int} (h:(Lit.int .i64 a).wf=true):wrap64 (a.tdiv 8)=a.tdiv 8:=by
 have:=bounds_i64 h
 have e:=tdiv8 a;apply wrap_same <;> split at e <;> omega
theorem right_c (a:Int) (ha:(Lit.int .i64 a).wf=true) (w:World) :
  Calls Tryz.prog 78 #[.int .i64 a] w fun e w'=>e=.returned (.bool (rt a))/\w'=w:=by
 have hw:=wdiv8 ha;have e1:=tdiv8 a;have e2:=tmod8 a;have hb:=bounds_i64 ha
 by_cases hr:9<=a/\a<=524293/\1<=a % 8/\a % 8<=5
 ·have er:rt a=true:=by simp [rt];omega
  have c1:1<=wrap64 (a.tdiv 8):=by rw [hw];split at e1 <;> omega
  have c2:wrap64 (a.tdiv 8)<=65536:=by rw [hw];split at e1 <;> omega
  have c3:1<=a.tmod 8:=by split at e1 <;> omega
  have c4:a.tmod 8<=5:=by split at e1 <;> omega
  clear hw e1 e2 hb hr ha;rw [er];clear er;go_enter Tryz.func78,Tryz.ntmps78;go_wp2;go_ret;exact ⟨rfl,rfl⟩
 ·have er:rt a=false:=by simp [rt];omega
  rw [er];clear er ha
  by_cases c1:1<=wrap64 (a.tdiv 8)
  ·by_cases c2:wrap64 (a.tdiv 8)<=65536
   ·by_cases c3:1<=a.tmod 8
    ·have c4:¬ a.tmod 8<=5:=by rw [hw] at c1 c2;split at e1 <;> omega
     clear hw e1 e2 hb hr;go_enter Tryz.func78,Tryz.ntmps78;go_wp2;go_ret;exact ⟨rfl,rfl⟩
    ·clear hw e1 e2 hb hr;go_enter Tryz.func78,Tryz.ntmps78;go_wp2;go_ret;exact ⟨rfl,rfl⟩
   ·clear hw e1 e2 hb hr;go_enter Tryz.func78,Tryz.ntmps78;go_wp2;go_ret;exact ⟨rfl,rfl⟩
  ·clear hw e1 e2 hb hr;go_enter Tryz.func78,Tryz.ntmps78;go_wp2;go_ret;exact ⟨rfl,rfl⟩
theorem right_r (a:Int) (ha:(Lit.int .i64 a).wf=true) (w:World) :
  Calls Tryz.prog 91 #[.int .i64 a] w fun e w'=>e=.returned (.bool (rt a))/\w'=w:=by
 have hw:=wdiv8 ha;have e1:=tdiv8 a;have e2:=tmod8 a;have hb:=bounds_i64 ha
 by_cases hr:9<=a/\a<=524293/\1<=a % 8/\a % 8<=5
 ·have er:rt a=true:=by simp [rt];omega
  have c1:8 < a:=by omega
  have c2:wrap64 (a.tdiv 8)<=65536:=by rw [hw];split at e1 <;> omega
  have c3:1<=a % 8:=by split at e1 <;> omega
  have c4:a % 8<=5:=by split at e1 <;> omega
  clear hw e1 e2 hb hr ha;rw [er];clear er;go_enter Tryz.func91,Tryz.ntmps91;go_wp2;go_ret;exact ⟨rfl,rfl⟩
 ·have er:rt a=false:=by simp [rt];omega
  rw [er];clear er ha
  by_cases c1:8 < a
  ·by_cases c3:1<=a % 8
   ·by_cases c4:a % 8<=5
    ·have c2:¬ wrap64 (a.tdiv 8)<=65536:=by rw [hw];split at e1 <;> omega
     clear hw e1 e2 hb hr;go_enter Tryz.func91,Tryz.ntmps91;go_wp2;go_ret;exact ⟨rfl,rfl⟩
    ·clear hw e1 e2 hb hr;go_enter Tryz.func91,Tryz.ntmps91;go_wp2;go_ret;exact ⟨rfl,rfl⟩
   ·clear hw e1 e2 hb hr;go_enter Tryz.func91,Tryz.ntmps91;go_wp2;go_ret;exact ⟨rfl,rfl⟩
  ·clear hw e1 e2 hb hr;go_enter Tryz.func91,Tryz.ntmps91;go_wp2;go_ret;exact ⟨rfl,rfl⟩
theorem kind_c (a:Int) (ha:(Lit.int .i64 a).wf=true) (w:World) :
  Calls Tryz.prog 35 #[.int .i64 a] w fun e w'=>e=.returned (.int .i64 (kindZ a))/\w'=w:=by
 by_cases hr:rt a=true
 ·have ek:kindZ a=a.tmod 8:=by
   have e1:=tdiv8 a;have e2:=tmod8 a;have hr':=hr;simp only [rt,decide_eq_true_eq] at hr';simp only [kindZ,hr,if_true]
   split at e1 <;> omega
  rw [ek];clear ek;have hc:=right_c a ha;rw [hr] at hc;clear hr ha;go_enter Tryz.func35,Tryz.ntmps35;go_wp2_with (go_at_call 78;refine (hc _).mono ?_;rintro e w' ⟨rfl,rfl⟩);go_ret;exact ⟨rfl,rfl⟩
 ·have ek:kindZ a=0:=by simp [kindZ,hr]
  rw [ek];clear ek;have hc:=right_c a ha;rw [Bool.eq_false_iff.mpr hr] at hc;clear hr ha;go_enter Tryz.func35,Tryz.ntmps35;go_wp2_with (go_at_call 78;refine (hc _).mono ?_;rintro e w' ⟨rfl,rfl⟩);go_ret;exact ⟨rfl,rfl⟩
theorem kind_r (a:Int) (ha:(Lit.int .i64 a).wf=true) (w:World) :
  Calls Tryz.prog 49 #[.int .i64 a] w fun e w'=>e=.returned (.int .i64 (kindZ a))/\w'=w:=by
 by_cases hr:rt a=true
 ·have ek:kindZ a=a.tmod 8:=by
   have e1:=tdiv8 a;have e2:=tmod8 a;have hr':=hr;simp only [rt,decide_eq_true_eq] at hr';simp only [kindZ,hr,if_true]
   split at e1 <;> omega
  rw [ek];clear ek;have hc:=right_r a ha;rw [hr] at hc;clear hr ha;go_enter Tryz.func49,Tryz.ntmps49;go_wp2_with (go_at_call 91;refine (hc _).mono ?_;rintro e w' ⟨rfl,rfl⟩);go_ret;exact ⟨rfl,rfl⟩
 ·have ek:kindZ a=0:=by simp [kindZ,hr]
  rw [ek];clear ek;have hc:=right_r a ha;rw [Bool.eq_false_iff.mpr hr] at hc;clear hr ha;go_enter Tryz.func49,Tryz.ntmps49;go_wp2_with (go_at_call 91;refine (hc _).mono ?_;rintro e w' ⟨rfl,rfl⟩);go_ret;exact ⟨rfl,rfl⟩
theorem at_c (a:Int) (ha:(Lit.int .i64 a).wf=true) (w:World) :
  Calls Tryz.prog 68 #[.int .i64 a] w fun e w'=>e=.returned (.int .i64 (atZ a))/\w'=w:=by
 by_cases hr:rt a=true
 ·have ek:atZ a=wrap64 (a.tdiv 8):=by
   rw [wdiv8 ha];have e1:=tdiv8 a;have e2:=tmod8 a;have hr':=hr;simp only [rt,decide_eq_true_eq] at hr';simp only [atZ,hr,if_true]
   split at e1 <;> omega
  rw [ek];clear ek;have hc:=right_c a ha;rw [hr] at hc;clear hr ha;go_enter Tryz.func68,Tryz.ntmps68;go_wp2_with (go_at_call 78;refine (hc _).mono ?_;rintro e w' ⟨rfl,rfl⟩);go_ret;exact ⟨rfl,rfl⟩
 ·have ek:atZ a=0:=by simp [atZ,hr]
  rw [ek];clear ek;have hc:=right_c a ha;rw [Bool.eq_false_iff.mpr hr] at hc;clear hr ha;go_enter Tryz.func68,Tryz.ntmps68;go_wp2_with (go_at_call 78;refine (hc _).mono ?_;rintro e w' ⟨rfl,rfl⟩);go_ret;exact ⟨rfl,rfl⟩
theorem at_r (a:Int) (ha:(Lit.int .i64 a).wf=true) (w:World) :
  Calls Tryz.prog 117 #[.int .i64 a] w fun e w'=>e=.returned (.int .i64 (atZ a))/\w'=w:=by
 by_cases hr:rt a=true
 ·have ek:atZ a=wrap64 (a.tdiv 8):=by
   rw [wdiv8 ha];have e1:=tdiv8 a;have e2:=tmod8 a;have hr':=hr;simp only [rt,decide_eq_true_eq] at hr';simp only [atZ,hr,if_true]
   split at e1 <;> omega
  rw [ek];clear ek;have hc:=right_r a ha;rw [hr] at hc;clear hr ha;go_enter Tryz.func117,Tryz.ntmps117;go_wp2_with (go_at_call 91;refine (hc _).mono ?_;rintro e w' ⟨rfl,rfl⟩);go_ret;exact ⟨rfl,rfl⟩
 ·have ek:atZ a=0:=by simp [atZ,hr]
  rw [ek];clear ek;have hc:=right_r a ha;rw [Bool.eq_false_iff.mpr hr] at hc;clear hr ha;go_enter Tryz.func117,Tryz.ntmps117;go_wp2_with (go_at_call 91;refine (hc _).mono ?_;rintro e w' ⟨rfl,rfl⟩);go_ret;exact ⟨rfl,rfl⟩
theorem of_c (k t:Int) (w:World) :
  Calls Tryz.prog 41 #[.int .i64 k,.int .i64 t] w fun e w'=>e=.returned (.int .i64 (ofZ k t))/\w'=w:=by
 by_cases hm:1<=k/\k<=5/\1<=t/\t<=65536
 ·obtain ⟨c1,c2,c3,c4⟩:=hm;have eo:ofZ k t=8 * t+k:=by simp [ofZ,may,c1,c2,c3,c4]
  rw [eo];clear eo;go_enter Tryz.func41,Tryz.ntmps41;go_wp2;go_ret;exact ⟨rfl,rfl⟩
 ·have eo:ofZ k t=0:=by simp [ofZ,may];omega
  rw [eo];clear eo
  by_cases c1:1<=k
  ·by_cases c2:k<=5
   ·by_cases c3:1<=t
    ·have c4:¬ t<=65536:=by omega
     clear hm;go_enter Tryz.func41,Tryz.ntmps41;go_wp2;go_ret;exact ⟨rfl,rfl⟩
    ·clear hm;go_enter Tryz.func41,Tryz.ntmps41;go_wp2;go_ret;exact ⟨rfl,rfl⟩
   ·clear hm;go_enter Tryz.func41,Tryz.ntmps41;go_wp2;go_ret;exact ⟨rfl,rfl⟩
  ·clear hm;go_enter Tryz.func41,Tryz.ntmps41;go_wp2;go_ret;exact ⟨rfl,rfl⟩
end Rf
section
theorem _root_.Go.RowKit.Hid.o {p:Prop} (h:Go.RowKit.Hid p):p:=h
theorem gh {p:Prop} (h:p):Hid p:=h
theorem heap_new (w:World) (o:Obj):(w.alloc o).heap[w.heap.size]? = some o:=by
 show (w.heap.push o)[w.heap.size]? = _;rw [Array.getElem?_push,if_pos rfl]
structure Td (R:Nat->Prop) (w w':World):Prop where
 os:w'.os=w.os
 tape:w'.tape=w.tape
 output:w'.output=w.output
 size:w.heap.size<=w'.heap.size
 block:∀ k,k < w.heap.size->¬ R k->w'.heap[k]? = w.heap[k]?
namespace Td
theorem refl (R:Nat->Prop) (w:World):Td R w w:=⟨rfl,rfl,rfl,Nat.le_refl _,fun _ _ _=>rfl⟩
theorem trans {R R' R'':Nat->Prop} {a b c:World} (h:Td R a b) (k:Td R' b c) (h1:∀ i,R i->R'' i) (h2:∀ i,i < a.heap.size->R' i->R'' i):Td R'' a c:=
 ⟨k.os.trans h.os,k.tape.trans h.tape,k.output.trans h.output,Nat.le_trans h.size k.size,
 fun i hi hn=>(k.block i (Nat.lt_of_lt_of_le hi h.size) (fun e=>hn (h2 i hi e))).trans (h.block i hi (fun e=>hn (h1 i e)))⟩
theorem mono {R R':Nat->Prop} {a b:World} (h:Td R a b) (h1:∀ i,i < a.heap.size->R i->R' i):Td R' a b:=
 ⟨h.os,h.tape,h.output,h.size,fun i hi hn=>h.block i hi (fun e=>hn (h1 i hi e))⟩
theorem below {R:Nat->Prop} {B:Nat} {a b:World} (h:Td R a b) (hB:B<=a.heap.size) (hR:∀ k,R k->B<=k):Below B a b:=
 ⟨h.os,h.tape,h.output,h.size,fun k hk=>h.block k (by omega) (fun e=>by have:=hR k e;omega)⟩
theorem drewN (R:Nat->Prop) (w:World) (n:Nat):Td R w (w.drewN n):=⟨rfl,rfl,rfl,Nat.le_refl _,fun _ _ _=>rfl⟩
theorem alloc (R:Nat->Prop) (w:World) (o:Obj):Td R w (w.alloc o):=
 ⟨rfl,rfl,rfl,by simp,fun k hk _=>Below.heap_alloc w o k hk⟩
theorem setCell (w:World) (a:Addr) (v:Value) {R:Nat->Prop} (h:R a.block):Td R w (w.setCell a v):=
 ⟨rfl,rfl,rfl,Nat.le_of_eq (World.size_setCell ..).symm,fun k _ hn=>Below.heap_setCell w a v k (fun e=>hn (by rw [e];exact h))⟩
theorem of_grownBy {w w':World} {row:Option Nat} {R:Nat->Prop} (h:w.grownBy w' row) (hR:∀ k,row=some k->R k):Td R w w':=
 ⟨h.os,h.tape,h.output,h.size,fun k hk hn=>h.block k hk (fun e=>hn (hR k e.symm))⟩
theorem heap {R:Nat->Prop} {a b:World} (h:Td R a b) {k:Nat} {o:Obj} (hk:a.heap[k]? = some o) (hn:¬ R k):b.heap[k]? = some o:=
 (h.block k (Array.getElem?_eq_some_iff.1 hk).1 hn).trans hk
theorem cell {R:Nat->Prop} {a b:World} (h:Td R a b) {p:Addr} {v:Value} (hc:a.cell? p=some v) (hn:¬ R p.block):b.cell? p=some v:=
 (World.cell?_of_block (h.block p.block (World.block_lt_of_cell? a p hc) hn)).trans hc
theorem frozen {R:Nat->Prop} {a b:World} (h:Td R a b) {p:Addr} (hp:p.block < a.heap.size) (hn:¬ R p.block):b.frozen? p=a.frozen? p:=World.frozen?_of_block (h.block p.block hp hn)
end Td
abbrev Kept (w w':World):Prop:=Td (fun _=>False) w w'
theorem Kept.refl (w:World):Kept w w:=Td.refl _ w
theorem Kept.trans {a b c:World} (h:Kept a b) (k:Kept b c):Kept a c:=Td.trans h k (fun _ e=>e) (fun _ _ e=>e)
theorem Kept.drew (w:World):Kept w w.drew:=⟨rfl,rfl,rfl,Nat.le_refl _,fun _ _ _=>rfl⟩
theorem Kept.then {R:Nat->Prop} {a b c:World} (h:Kept a b) (k:Td R b c):Td R a c:=Td.trans h k (fun _ e=>e.elim) (fun _ _ e=>e)
theorem Kept.behind {R:Nat->Prop} {a b c:World} (h:Td R a b) (k:Kept b c):Td R a c:=Td.trans h k (fun _ e=>e) (fun _ _ e=>e.elim)
theorem Kept.drewN (w:World) (n:Nat):Kept w (w.drewN n):=Td.drewN _ w n
theorem Kept.alloc {a w:World} (h:Kept a w) (o:Obj):Kept a (w.alloc o):=h.trans (Td.alloc _ _ _)
theorem Kept.did {w0 w w':World} {b:Nat} (k:Kept w0 w) (hb:w0.heap.size<=b) (h:Td (fun i=>i=b) w w'):Kept w0 w':=
 Td.trans k h (fun _ e=>e) (fun i hi e=>by omega)
theorem Kept.own {w0 w w':World} {O:Nat->Prop} (k:Kept w0 w) (hb:∀ i,O i->w0.heap.size<=i) (h:Td O w w'):Kept w0 w':=
 Td.trans k h (fun _ e=>e) (fun i hi e=>by have:=hb i e;omega)
def Reads (w:World) (a:Option Addr) (zs:List Int):Prop:=
 zs=[]∨∃ bl off,a=some ⟨bl,off,none⟩/\∀ j z,zs[j]? = some z->w.cell? ⟨bl,off+j,none⟩=some (.int .i64 z)
theorem Reads.turned {w w':World} {a:Option Addr} {zs:List Int} {R:Nat->Prop} (h:Reads w a zs) (ht:Td R w w') (hR:∀ k,k < w.heap.size->(∃ ad,a=some ad/\ad.block=k)->¬ R k):Reads w' a zs:=by
 rcases h with h | ⟨bl,off,rfl,h⟩
 ·exact .inl h
 ·refine .inr ⟨bl,off,rfl,fun j z hz=>?_⟩;have hc:=h j z hz;exact ht.cell hc (hR bl (World.block_lt_of_cell? _ _ hc) ⟨_,rfl,rfl⟩)
theorem Reads.kept {w w':World} {a:Option Addr} {zs:List Int} (h:Reads w a zs) (ht:Kept w w'):Reads w' a zs:=h.turned ht (fun _ _ _ e=>e)
theorem Reads.at {w:World} {a:Option Addr} {zs:List Int} (h:Reads w a zs) {j:Nat} {z:Int} (hz:zs[j]? = some z):∃ bl off,a=some ⟨bl,off,none⟩/\bl < w.heap.size/\w.cell? ⟨bl,off+j,none⟩=some (.int .i64 z):=by
 rcases h with h | ⟨bl,off,ha,hc⟩
 ·rw [h] at hz;simp at hz
 ·exact ⟨bl,off,ha,World.block_lt_of_cell? _ _ (hc j z hz),hc j z hz⟩
theorem Reads.lt {w:World} {a:Option Addr} {zs:List Int} (h:Reads w a zs) (h0:zs≠[]):∀ ad,a=some ad->ad.block < w.heap.size:=fun ad e=>by
 obtain ⟨z,hz⟩:∃ z,zs[0]? = some z:=⟨_,List.getElem?_eq_getElem (List.length_pos_iff.2 h0)⟩;obtain ⟨bl,off,h1,h2,_⟩:=h.at hz;rw [h1] at e;cases e;exact h2
theorem reads_in {w:World} {a:Option Addr} {len cap:Nat} {z:List Int} (h:(a=none/\len=0/\cap=0/\z=[])∨
  ∃ x,a=some x/\len<=cap/\cap<=maxLen/\z.length=cap/\(∀ i,i < z.length->w.cell? (x.add i)=some (.int .i64 (z.getD i 0)))/\∀ n ∈ z,(Lit.int .i64 n).wf=true) :
  ∃ zs:List Int,zs.length=len/\zs.length<=cap/\cap<=maxLen/\Reads w a zs/\∀ n ∈ zs,(Lit.int .i64 n).wf=true:=by
 rcases h with ⟨rfl,rfl,rfl,rfl⟩ | ⟨x,rfl,h1,h2,h3,h4,h5⟩
 ·exact ⟨[],rfl,Nat.zero_le _,Nat.zero_le _,.inl rfl,by simp⟩
 ·refine ⟨z.take len,by rw [List.length_take];omega,by rw [List.length_take];omega,h2,?_,fun n hn=>h5 n (List.mem_of_mem_take hn)⟩
  by_cases hl:len=0
  ·subst hl;exact .inl (by simp)
  ·obtain ⟨b,off,rfl,hc⟩:=ints_at h4 (by omega);refine .inr ⟨b,off,rfl,fun j y hy=>?_⟩;obtain ⟨hj,e⟩:=List.getElem?_eq_some_iff.1 hy;rw [List.length_take] at hj;rw [hc j (by omega)];rw [List.getElem_take] at e;rw [<- e,List.getD_eq_getElem?_getD,List.getElem?_eq_getElem (by omega)];rfl
theorem Reads.new (w:World) (t:TypeId) (zs:List Int):Reads (w.alloc (.cells (zs.map (Value.int .i64)).toArray t)) (some ⟨w.heap.size,0,none⟩) zs:=by
 refine .inr ⟨_,0,rfl,fun j z hz=>?_⟩;have hb:(w.alloc (.cells (zs.map (Value.int .i64)).toArray t)).heap[w.heap.size]? = some (.cells (zs.map (Value.int .i64)).toArray t):=heap_new w _;unfold World.cell?;rw [hb];simp [hz]
abbrev cellsOf (zs:List Int):List Value:=zs.map (Value.int .i64)
abbrev Row (w:World) (n₀:Nat) (e:TypeId) (v:Value) (zs:List Int):Prop:=w.ownsRow n₀ e 1 v zs.length (cellsOf zs)
theorem Row.turned {w w':World} {n₀:Nat} {e:TypeId} {v:Value} {zs:List Int} {R:Nat->Prop} (h:Row w n₀ e v zs) (ht:Td R w w') (hn:∀ g,n₀<=g->¬ R g):Row w' n₀ e v zs:=by
 obtain ⟨h1,h2⟩:=h;refine ⟨h1,?_⟩;rcases h2 with h2 | ⟨g,cap,cur,rfl,hg,hh,r⟩
 ·exact .inl h2
 ·exact .inr ⟨g,cap,cur,rfl,hg,ht.heap hh (hn g hg),r⟩
theorem Row.kept {w w':World} {n₀:Nat} {e:TypeId} {v:Value} {zs:List Int} (h:Row w n₀ e v zs) (ht:Kept w w'):Row w' n₀ e v zs:=h.turned ht (fun _ _ e=>e)
theorem Row.reads {w:World} {n₀:Nat} {e:TypeId} {v:Value} {zs:List Int} (h:Row w n₀ e v zs):∃ a cap,v=.slice a zs.length cap/\Reads w a zs/\zs.length<=cap/\cap<=maxLen/\∀ bl off,a=some ⟨bl,off,none⟩->n₀<=bl:=by
 rcases h.2 with ⟨rfl,h0⟩ | ⟨g,cap,cur,rfl,hg,_,hc,hm,_⟩
 ·obtain rfl:=List.length_eq_zero_iff.1 h0;exact ⟨none,0,rfl,.inl rfl,Nat.le_refl _,Nat.zero_le _,fun _ _ e=>by cases e⟩
 ·refine ⟨_,cap,rfl,.inr ⟨g,0,rfl,fun j p hp=>?_⟩,hc,hm,fun bl off e=>by cases e;exact hg⟩;have hj:=(List.getElem?_eq_some_iff.1 hp).1
  have:=h.cellAt j (by omega)
  rw [Nat.zero_add,this];simp [hp]
theorem row_new (w:World) (e:TypeId) (zs:List Int) (n₀:Nat) (h:n₀<=w.heap.size) (hl:zs.length<=5000):Row (w.alloc (.cells (cellsOf zs).toArray e)) n₀ e (.slice (some ⟨w.heap.size,0,none⟩) zs.length zs.length) zs:=
 ⟨by simp,.inr ⟨w.heap.size,zs.length,_,rfl,h,heap_new w _,Nat.le_refl _,by unfold maxLen;omega,by simp,by simp;exact List.take_of_length_le (by simp)⟩⟩
structure Stop (G:Prop):Prop where
 out:G
theorem Stop.o {G:Prop} (h:Stop G):G:=h.out
end
section
structure Mst where
 xs:List Int
 size:Int
 count:Int
 odd:Int
 ref:Int
namespace Mst
def used (s:Mst) (a:Int):Bool:=decide (1<=a) && decide (a<=(s.xs.length:Int))
def look (s:Mst) (a:Int):Int:=if s.used a=true then s.xs.getD (a - 1).toNat 0 else 0
def touch (s:Mst) (a:Int):Mst:=if s.used a=true then { s with count:=wrap64 (s.count+1) } else { s with count:=wrap64 (s.count+1),odd:=wrap64 (s.odd+1) }
def put (s:Mst) (a x:Int):Mst:=if s.used a=true then { s with xs:=s.xs.set (a - 1).toNat x } else s
def write (s:Mst) (a x:Int):Mst:=(s.touch a).put a x
def did (s:Mst) (a old:Int):Bool:=s.used a && (s.look a == old)
def cas (s:Mst) (a old x:Int):Mst:=if s.did a old=true then s.write a x else s.touch a
def add (s:Mst) (a d:Int):Mst:=s.write a (wrap64 (s.look a+d))
def fits (s:Mst) (n:Nat):Bool:=decide (0 < n) && decide ((s.xs.length:Int)+n<=s.size)
def make (s:Mst) (ws:List Int):Mst:=if s.fits ws.length=true then { s with count:=wrap64 (s.count+1),xs:=s.xs++ws } else { s with count:=wrap64 (s.count+1),ref:=wrap64 (s.ref+1) }
def next (s:Mst) (ws:List Int):Int:=if s.fits ws.length=true then (s.xs.length:Int)+1 else 0
def new (n:Int):Mst:=⟨[],n,0,0,0⟩
theorem used_iff {s:Mst} {a:Int}:s.used a=true↔1<=a/\a<=(s.xs.length:Int):=by simp [used]
theorem used_nat {s:Mst} {a:Int} (h:s.used a=true):∃ j:Nat,a=(j:Int)+1/\j < s.xs.length:=by
 obtain ⟨h1,h2⟩:=used_iff.1 h;exact ⟨(a - 1).toNat,by omega,by omega⟩
theorem used_succ {s:Mst} {j:Nat} (h:j < s.xs.length):s.used ((j:Int)+1)=true:=used_iff.2 ⟨by omega,by omega⟩
theorem back (j:Nat):((j:Int)+1 - 1).toNat=j:=by omega
theorem look_succ {s:Mst} {j:Nat} {z:Int} (h:s.xs[j]? = some z):s.look ((j:Int)+1)=z:=by
 have hj:=(List.getElem?_eq_some_iff.1 h).1;rw [Mst.look,if_pos (used_succ hj),back,List.getD_eq_getElem?_getD,h];rfl
theorem look_none {s:Mst} {a:Int} (h:s.used a=false):s.look a=0:=by rw [Mst.look,h];rfl
theorem touch_xs (s:Mst) (a:Int):(s.touch a).xs=s.xs:=by unfold touch;split <;> rfl
theorem touch_size (s:Mst) (a:Int):(s.touch a).size=s.size:=by unfold touch;split <;> rfl
theorem touch_used (s:Mst) (a c:Int):(s.touch a).used c=s.used c:=by simp [used,touch_xs]
theorem touch_in {s:Mst} {a:Int} (h:s.used a=true):s.touch a={ s with count:=wrap64 (s.count+1) }:=by rw [touch,if_pos h]
theorem write_in {s:Mst} {j:Nat} (h:j < s.xs.length) (x:Int):s.write ((j:Int)+1) x={ s with count:=wrap64 (s.count+1),xs:=s.xs.set j x }:=by
 have hu:=used_succ h;rw [write,put,touch_used,if_pos hu,touch_in hu,back]
theorem write_out {s:Mst} {a:Int} (h:s.used a=false) (x:Int):s.write a x=s.touch a:=by rw [write,put,touch_used,h];rfl
theorem did_in {s:Mst} {j:Nat} {z:Int} (h:s.xs[j]? = some z) (old:Int):s.did ((j:Int)+1) old=(z == old):=by
 rw [did,used_succ (List.getElem?_eq_some_iff.1 h).1,look_succ h,Bool.true_and]
theorem did_out {s:Mst} {a:Int} (h:s.used a=false) (old:Int):s.did a old=false:=by rw [did,h,Bool.false_and]
end Mst
def Foot (b:Nat) (v:Value):Nat->Prop:=fun k=>k=b∨v.ownBlock=some k
def layP (v:Value) (n c o r:Int):Array Value:=#[v,.int .i64 n,.int .i64 c,.int .i64 o,.int .i64 r]
def layD (v:Value) (n c o r:Int):Array Value:=#[.int .i64 n,v,.int .i64 c,.int .i64 o,.int .i64 r]
structure MemAt (T:TypeId) (lay:Value->Int->Int->Int->Int->Array Value) (w:World) (n₀ b:Nat) (v:Value) (s:Mst):Prop where
 le:n₀<=b
 box:w.heap[b]? = some (.cells (lay v s.size s.count s.odd s.ref) T)
 row:Row w n₀ 2 v s.xs
 room:(s.xs.length:Int)<=s.size
 top:s.size<=65536
namespace MemAt
variable {T:TypeId} {lay:Value->Int->Int->Int->Int->Array Value} {w w':World} {n₀ b:Nat} {v:Value} {s s':Mst}
theorem lt (h:MemAt T lay w n₀ b v s):∀ k,Foot b v k->n₀<=k/\k < w.heap.size:=by
 rintro k (rfl | hk)
 ·exact ⟨h.le,(Array.getElem?_eq_some_iff.1 h.box).1⟩
 ·exact h.row.lt k hk
theorem row_turned (h:MemAt T lay w n₀ b v s) {R:Nat->Prop} (ht:Td R w w') (hn:∀ k,v.ownBlock=some k->¬ R k):Row w' n₀ 2 v s.xs:=by
 obtain ⟨h1,h2⟩:=h.row;refine ⟨h1,?_⟩;rcases h2 with h2 | ⟨g,cap,cur,rfl,hg,hh,r⟩
 ·exact .inl h2
 ·exact .inr ⟨g,cap,cur,rfl,hg,ht.heap hh (hn g rfl),r⟩
theorem turned (h:MemAt T lay w n₀ b v s) {R:Nat->Prop} (ht:Td R w w') (hn:∀ k,Foot b v k->¬ R k):MemAt T lay w' n₀ b v s:=
 ⟨h.le,ht.heap h.box (hn b (.inl rfl)),h.row_turned ht (fun k hk=>hn k (.inr hk)),h.room,h.top⟩
theorem kept (h:MemAt T lay w n₀ b v s) (ht:Kept w w'):MemAt T lay w' n₀ b v s:=h.turned ht (fun _ _ e=>e)
theorem low (h:MemAt T lay w n₀ b v s) {m:Nat} (hm:m<=n₀):MemAt T lay w m b v s:=by
 refine ⟨Nat.le_trans hm h.le,h.box,?_,h.room,h.top⟩;obtain ⟨h1,h2⟩:=h.row;refine ⟨h1,?_⟩;rcases h2 with h2 | ⟨g,cap,cur,rfl,hg,r⟩
 ·exact .inl h2
 ·exact .inr ⟨g,cap,cur,rfl,Nat.le_trans hm hg,r⟩
theorem not_row (h:MemAt T lay w n₀ b v s) (hT:T≠2):v.ownBlock≠some b:=by
 rcases h.row.2 with ⟨rfl,_⟩ | ⟨g,cap,cur,rfl,_,hgb,_⟩
 ·simp [Value.ownBlock]
 ·intro e';obtain rfl:g=b:=by simpa [Value.ownBlock] using e'
  have:=h.box.symm.trans hgb
  simp at this;exact hT this.2
theorem boxed (h:MemAt T lay w n₀ b v s) (hT:T≠2) (ht:Td (fun k=>k=b) w w') (hb:w'.heap[b]? = some (.cells (lay v s'.size s'.count s'.odd s'.ref) T)) (hx:s'.xs=s.xs) (hs:s'.size=s.size):MemAt T lay w' n₀ b v s':=
 ⟨h.le,hb,by rw [hx];exact h.row_turned ht (fun k hk e=>h.not_row hT (by rw [hk,e])),by rw [hx,hs];exact h.room,by rw [hs];exact h.top⟩
theorem form (h:MemAt T lay w n₀ b v s):∃ a cap,v=.slice a s.xs.length cap/\Reads w a s.xs/\s.xs.length<=cap/\cap<=maxLen:=by
 obtain ⟨a,cap,h1,h2,h3,h4,_⟩:=h.row.reads;exact ⟨a,cap,h1,h2,h3,h4⟩
theorem len (h:MemAt T lay w n₀ b v s):s.xs.length<=65536:=by have h1:=h.room;have h2:=h.top;omega
theorem cell {j:Nat} (h:MemAt T lay w n₀ b v s) (hj:j < s.xs.length):∃ g cap z,v=.slice (some ⟨g,0,none⟩) s.xs.length cap/\s.xs[j]? = some z/\w.cell? ⟨g,j,none⟩=some (.int .i64 z)/\w.frozen? ⟨g,j,none⟩=false/\g≠b∨T=2:=by
 by_cases hT:T=2
 ·exact ⟨0,0,0,.inr hT⟩
 have hr:=h.row;have hnr:=h.not_row hT;rcases hr.2 with ⟨rfl,h0⟩ | ⟨g,cap,cur,rfl,hg,_⟩
 ·omega
 ·refine ⟨g,cap,s.xs[j],.inl ⟨rfl,List.getElem?_eq_getElem hj,?_,hr.frozenAt j,fun e=>hnr (by rw [e];rfl)⟩⟩;rw [hr.cellAt j (by omega)];simp [hj]
theorem stored {g cap j:Nat} (h:MemAt T lay w n₀ b (.slice (some ⟨g,0,none⟩) s.xs.length cap) s) (hT:T≠2) (x:Int) :
  MemAt T lay (w.setCell ⟨g,j,none⟩ (.int .i64 x)) n₀ b (.slice (some ⟨g,0,none⟩) s.xs.length cap) { s with xs:=s.xs.set j x }:=by
 have hne:=h.not_row hT;obtain ⟨hs,hg⟩:=h.row.stored j (.int .i64 x);refine ⟨h.le,(Below.heap_setCell w ⟨g,j,none⟩ _ b (fun e=>hne (by show some g=some b;rw [e]))).trans h.box,?_,by simpa using h.room,h.top⟩;show World.ownsRow _ n₀ 2 1 _ (s.xs.set j x).length (cellsOf (s.xs.set j x));rw [List.length_set]
 have:cellsOf (s.xs.set j x)=(cellsOf s.xs).set j (.int .i64 x):=by simp [cellsOf,List.map_set]
 rw [this];exact hs
theorem appended {w1:World} {ws:List Int} {g cap m:Nat} (h:MemAt T lay w n₀ b v s) (hT:T≠2) (hm:ws.length=m) (hown:w1.ownsRow n₀ 2 1 (.slice (some ⟨g,0,none⟩) (s.xs.length+m) cap) (s.xs.length+m) (cellsOf s.xs++cellsOf ws)) (hg:w.grownBy w1 v.ownBlock) :
  w1.heap[b]? = some (.cells (lay v s.size s.count s.odd s.ref) T)/\g≠b/\Row w1 n₀ 2 (.slice (some ⟨g,0,none⟩) (s.xs.length+m) cap) (s.xs++ws):=by
 have hb:w1.heap[b]? = some (.cells (lay v s.size s.count s.odd s.ref) T):=(hg.block b (h.lt b (.inl rfl)).2 (fun e=>h.not_row hT e.symm)).trans h.box;refine ⟨hb,?_,?_⟩
 ·intro e;subst e;rcases hown.2 with ⟨h0,_⟩ | ⟨g',cap',cur,h',_,hgb,_⟩
  ·cases h0
  ·cases h'
   have:=hb.symm.trans hgb
   simp at this;exact hT this.2
 ·show World.ownsRow _ n₀ 2 1 _ (s.xs++ws).length (cellsOf (s.xs++ws));rw [List.length_append,hm,cellsOf,List.map_append];exact hown
end MemAt
def Does (T:TypeId) (lay:Value->Int->Int->Int->Int->Array Value) (n₀ b:Nat) (v:Value) (s':Mst) (w w':World):Prop:=
 ∃ v',MemAt T lay w' n₀ b v' s'/\Td (Foot b v) w w'/\∀ k,Foot b v' k->Foot b v k∨w.heap.size<=k
theorem Does.same {T:TypeId} {lay:Value->Int->Int->Int->Int->Array Value} {n₀ b:Nat} {v:Value} {s':Mst} {w w':World} (h:MemAt T lay w' n₀ b v s') (t:Td (Foot b v) w w'):Does T lay n₀ b v s' w w':=⟨v,h,t,fun _ e=>.inl e⟩
theorem MemAt.cellAt {T:TypeId} {lay:Value->Int->Int->Int->Int->Array Value} {w:World} {n₀ b:Nat} {v:Value} {s:Mst} {j:Nat} (h:MemAt T lay w n₀ b v s) (hT:T≠2) (hj:j < s.xs.length):∃ g cap z,v=.slice (some ⟨g,0,none⟩) s.xs.length cap/\s.xs[j]? = some z/\w.cell? ⟨g,j,none⟩=some (.int .i64 z)/\w.frozen? ⟨g,j,none⟩=false/\g≠b:=by
 obtain ⟨g,cap,z,h' | h'⟩:=h.cell hj
 ·exact ⟨g,cap,z,h'⟩
 ·exact (hT h').elim
abbrev PMem:=MemAt 118 layP
abbrev DMem:=MemAt 126 layD
theorem PMem.opened {w:World} {n₀ b:Nat} {v:Value} {s:Mst} (h:PMem w n₀ b v s):(w.cell? ⟨b,0,none⟩=some v/\w.cell? ⟨b,1,none⟩=some (.int .i64 s.size)/\w.cell? ⟨b,2,none⟩=some (.int .i64 s.count)/\w.cell? ⟨b,3,none⟩=some (.int .i64 s.odd)/\w.cell? ⟨b,4,none⟩=some (.int .i64 s.ref))/\∀ i,w.frozen? ⟨b,i,none⟩=false:=by
 have hb:=h.box;simp [World.cell?,World.frozen?,hb,layP]
theorem DMem.opened {w:World} {n₀ b:Nat} {v:Value} {s:Mst} (h:DMem w n₀ b v s):(w.cell? ⟨b,1,none⟩=some v/\w.cell? ⟨b,0,none⟩=some (.int .i64 s.size)/\w.cell? ⟨b,2,none⟩=some (.int .i64 s.count)/\w.cell? ⟨b,3,none⟩=some (.int .i64 s.odd)/\w.cell? ⟨b,4,none⟩=some (.int .i64 s.ref))/\∀ i,w.frozen? ⟨b,i,none⟩=false:=by
 have hb:=h.box;simp [World.cell?,World.frozen?,hb,layD]
theorem box_set {w:World} {b i:Nat} {cs:Array Value} {T:TypeId} (x:Value) (h:w.heap[b]? = some (.cells cs T)):(w.setCell ⟨b,i,none⟩ x).heap[b]? = some (.cells (cs.set! i x) T):=by
 simp [World.setCell,Array.getElem?_modify,h]
end
section
def I64 (z:Int):Prop:=-9223372036854775808<=z/\z<=9223372036854775807
theorem I64.wf {z:Int} (h:I64 z):(Lit.int .i64 z).wf=true:=by
 obtain ⟨h1,h2⟩:=h;have e1:IntKind.i64.min=-9223372036854775808:=by decide
 have e2:IntKind.i64.max=9223372036854775807:=by decide
 simp [Lit.wf,e1,e2] <;> omega
namespace Mst
def ok (s:Mst):Prop:=(∀ z ∈ s.xs,I64 z)/\s.xs.length<=65536
theorem ok.look {s:Mst} (h:s.ok) (a:Int):I64 (s.look a):=by
 unfold Mst.look
 split
 ·rw [List.getD_eq_getElem?_getD];cases e:s.xs[(a - 1).toNat]? with
  | none=>exact ⟨by decide,by decide⟩
  | some z=>exact h.1 z (List.mem_of_getElem? e)
 ·exact ⟨by decide,by decide⟩
def logicZ (s:Mst) (a:Int):Int:=
 if Rf.kindZ (s.look a)=5 then (if s.look (Rf.atZ (s.look a)+4)=1 then s.look (Rf.atZ (s.look a)+3) else s.look (Rf.atZ (s.look a)+2)) else s.look a
theorem ok.logic {s:Mst} (h:s.ok) (a:Int):I64 (s.logicZ a):=by
 unfold logicZ;split
 ·split <;> exact h.look _
 ·exact h.look _
end Mst
abbrev kd:=Rf.kindZ
abbrev ad:=Rf.atZ
theorem kd_range (w:Int):0<=kd w/\kd w<=5:=by
 unfold kd Rf.kindZ Rf.rt;split
 ·rename_i h;simp at h;omega
 ·omega
theorem ad_range (w:Int):0<=ad w/\ad w<=65536:=by
 unfold ad Rf.atZ Rf.rt;split
 ·rename_i h;simp at h;omega
 ·omega
theorem ad_pos {w:Int} (h:kd w≠0):1<=ad w:=by
 unfold kd Rf.kindZ at h;unfold ad Rf.atZ
 split
 ·rename_i h';unfold Rf.rt at h';simp at h';omega
 ·rename_i h';rw [if_neg h'] at h;exact absurd rfl h
abbrev Tk:=Nat->Bool
def takeT (t:Tk) (a n:Nat):Tk:=fun j=>t j || decide (a<=j/\j < a+n)
def freeB (t:Tk) (a n:Nat):Bool:=(List.range n).all (fun i=>!t (a+i))
def takeO (N:Nat) (t:Tk) (a n:Nat):Option Tk:=if (decide (1<=n) && decide (a+n<=N) && freeB t a n)=true then some (takeT t a n) else none
def freeN (N:Nat) (t:Tk):Nat:=(List.range N).countP (fun j=>!t j)
theorem freeB_zero (t:Tk) (a:Nat):freeB t a 0=true:=rfl
theorem freeB_succ (t:Tk) (a n:Nat):freeB t a (n+1)=(freeB t a n && !t (a+n)):=by
 simp [freeB,List.range_succ,List.all_append]
theorem freeB_false {t:Tk} {a n m:Nat} (h:freeB t a n=false) (hm:n<=m):freeB t a m=false:=by
 induction m with
 | zero=>have:=Nat.le_zero.1 hm;subst this;exact h
 | succ m ih=>
  by_cases e:n=m+1
  ·subst e;exact h
  ·rw [freeB_succ,ih (by omega)];rfl
theorem takeT_zero (t:Tk) (a:Nat):takeT t a 0=t:=by
 funext j;simp [takeT];intro h h';omega
theorem takeT_succ (t:Tk) (a n:Nat):(fun j=>if j=a+n then true else takeT t a n j)=takeT t a (n+1):=by
 funext j;unfold takeT
 by_cases e:j=a+n
 ·subst e;simp
 ·simp only [e,if_false]
  have:(a<=j/\j < a+n)↔(a<=j/\j < a+(n+1)):=by omega
  rw [decide_eq_decide.2 this]
theorem takeT_at (t:Tk) (a n:Nat):takeT t a n (a+n)=t (a+n):=by
 simp [takeT]
theorem countP_le' (p q:Nat->Bool) (h:∀ j,p j=true->q j=true) (N:Nat):(List.range N).countP p<=(List.range N).countP q:=by
 induction N with
 | zero=>simp
 | succ N ih=>
  rw [List.range_succ,List.countP_append,List.countP_append]
  have:[N].countP p<=[N].countP q:=by
   simp only [List.countP_cons,List.countP_nil]
   by_cases e:p N=true
   ·simp [e,h N e]
   ·simp [e]
  omega
theorem countP_lt' (p q:Nat->Bool) (h:∀ j,p j=true->q j=true) (N a:Nat) (ha:a < N) (hp:p a=false) (hq:q a=true):(List.range N).countP p < (List.range N).countP q:=by
 induction N with
 | zero=>omega
 | succ N ih=>
  rw [List.range_succ,List.countP_append,List.countP_append]
  by_cases e:a=N
  ·subst e
   have:=countP_le' p q h a
   simp [hp,hq];omega
  ·have h1:=ih (by omega)
   have:[N].countP p<=[N].countP q:=by
    simp only [List.countP_cons,List.countP_nil]
    by_cases e:p N=true
    ·simp [e,h N e]
    ·simp [e]
   omega
theorem takeO_free {N:Nat} {t t':Tk} {a n:Nat} (h:takeO N t a n=some t'):freeN N t' < freeN N t:=by
 unfold takeO at h
 split at h
 ·rename_i c;simp only [Bool.and_eq_true,decide_eq_true_eq] at c;obtain ⟨⟨c1,c2⟩,c3⟩:=c;simp only [Option.some.injEq] at h;subst h;have c4:t a=false:=by
   unfold freeB at c3;rw [List.all_eq_true] at c3
   have:=c3 0 (by simp;omega)
   simpa using this
  refine countP_lt' _ _ ?_ N a (by omega) ?_ ?_
  ·intro j hj;simp only [takeT,Bool.not_or,Bool.and_eq_true] at hj;exact hj.1
  ·simp [takeT];omega
  ·simp [c4]
 ·cases h
def chain {α:Type} (g:Nat->α->Option α):Nat->α->Option α
 | 0,x=>some x
 | n+1,x=>(chain g n x).bind (g n)
theorem chain_none {α:Type} {g:Nat->α->Option α} {x:α} {n m:Nat} (h:chain g n x=none) (hm:n<=m):chain g m x=none:=by
 induction m with
 | zero=>have:=Nat.le_zero.1 hm;subst this;exact h
 | succ m ih=>
  by_cases e:n=m+1
  ·subst e;exact h
  ·rw [chain,ih (by omega)];rfl
section
variable (s:Mst)
def ky (a:Nat) (i:Nat):Int:=s.look ((a:Int)+4+i)
def lowZ (a:Nat) (lo:Int) (i:Nat):Int:=if i=0 then lo else ky s a i
def highZ (a d:Nat) (hi:Int) (i:Nat):Int:=if i+1 < d then ky s a (i+1) - 1 else hi
def keysB (a d:Nat) (lo hi:Int):Bool:=(List.range (d - 1)).all (fun i=>decide (lowZ s a lo i < ky s a (i+1)) && decide (ky s a (i+1)<=hi))
def shutB (a:Nat):Bool:=(s.look ((a:Int)+2) == 0) || (s.look ((a:Int)+2) == 1)
def dcssB (slot:Int):Bool:=!(kd (s.look slot) == 5) || (decide (ad (s.look slot)+4<=(s.xs.length:Int)) && (s.look (ad (s.look slot)+1) == slot))
def sndSlot (W:Int->Int->Int->Tk->Option Tk) (slot lo hi:Int) (t:Tk):Option Tk:=if dcssB s slot=true then W (s.logicZ slot) lo hi t else none
def childS (a d i:Nat):Int:=(a:Int)+4+d+i
def kidG (W:Int->Int->Int->Tk->Option Tk) (a d:Nat) (lo hi:Int):Nat->Tk->Option Tk:=fun i t=>sndSlot s W (childS a d i) (lowZ s a lo i) (highZ s a d hi i) t
def sndInner (W:Int->Int->Int->Tk->Option Tk) (a:Nat) (lo hi:Int) (t:Tk):Option Tk:=
 if s.look a < 2 then none else
 (takeO (s.xs.length+1) t a (2 * (s.look a).toNat+4)).bind fun t1=>
 if (keysB s a (s.look a).toNat lo hi && shutB s a)=true then chain (kidG s W a (s.look a).toNat lo hi) (s.look a).toNat t1 else none
def sndW:Nat->Int->Int->Int->Tk->Option Tk
 | 0=>fun _ _ _ _=>none
 | f+1=>fun w lo hi t=>
  if kd w=1 then takeO (s.xs.length+1) t (ad w).toNat 1
  else if kd w=2 then (if lo<=s.look (ad w)/\s.look (ad w)<=hi then takeO (s.xs.length+1) t (ad w).toNat 2 else none)
  else if kd w=3 then sndInner s (sndW f) (ad w).toNat lo hi t
  else if kd w=4 then (if kd (s.look (ad w))=3 then (takeO (s.xs.length+1) t (ad w).toNat 5).bind fun t1=>sndW f (s.look (ad w)) lo hi t1 else none)
  else none
def base0:Tk:=takeT (fun _=>false) 1 6
def fuel:Nat:=s.xs.length+3
def soundB:Bool:=decide (6<=s.xs.length) && (s.look 1 == 1) && (s.look 3 == 0) && (sndSlot s (sndW s (fuel s)) 6 (-9223372036854775808) 9223372036854775807 base0).isSome
end
def Mono (N:Nat) (W:Int->Int->Int->Tk->Option Tk):Prop:=∀ w lo hi t t',W w lo hi t=some t'->freeN N t'<=freeN N t
theorem sndSlot_free {s:Mst} {N:Nat} {W:Int->Int->Int->Tk->Option Tk} (hW:Mono N W) {slot lo hi:Int} {t t':Tk} (h:sndSlot s W slot lo hi t=some t'):freeN N t'<=freeN N t:=by
 unfold sndSlot at h;split at h
 ·exact hW _ _ _ _ _ h
 ·cases h
theorem chain_free {s:Mst} {N:Nat} {W:Int->Int->Int->Tk->Option Tk} (hW:Mono N W) {a d:Nat} {lo hi:Int} {n:Nat} {t t':Tk} (h:chain (kidG s W a d lo hi) n t=some t'):freeN N t'<=freeN N t:=by
 induction n generalizing t' with
 | zero=>simp [chain] at h;subst h;exact Nat.le_refl _
 | succ n ih=>
  rw [chain,Option.bind_eq_some_iff] at h;obtain ⟨u,h1,h2⟩:=h;exact Nat.le_trans (sndSlot_free hW h2) (ih h1)
theorem sndW_free (s:Mst):∀ f,Mono (s.xs.length+1) (sndW s f)
 | 0=>fun _ _ _ _ _ h=>by cases h
 | f+1=>fun w lo hi t t' h=>by
  have ih:=sndW_free s f;unfold sndW at h
  split at h
  ·exact Nat.le_of_lt (takeO_free h)
  ·split at h
   ·split at h
    ·exact Nat.le_of_lt (takeO_free h)
    ·cases h
   ·split at h
    ·unfold sndInner at h
     split at h
     ·cases h
     ·rw [Option.bind_eq_some_iff] at h;obtain ⟨t1,h1,h2⟩:=h
      split at h2
      ·exact Nat.le_trans (chain_free ih h2) (Nat.le_of_lt (takeO_free h1))
      ·cases h2
    ·split at h
     ·split at h
      ·rw [Option.bind_eq_some_iff] at h;obtain ⟨t1,h1,h2⟩:=h;exact Nat.le_trans (ih _ _ _ _ _ h2) (Nat.le_of_lt (takeO_free h1))
      ·cases h
     ·cases h
theorem freeN_le (N:Nat) (t:Tk):freeN N t<=N:=by
 have:=List.countP_le_length (p:=fun j=>!t j) (l:=List.range N)
 simpa [freeN] using this
def docG (s:Mst) (W:Int->Int->Int->Tk->Option Tk) (a d:Nat) (lo hi:Int):Nat->Tk->Option Tk:=fun i t=>
 if i+1 < d/\¬ (lowZ s a lo i < ky s a (i+1)/\ky s a (i+1)<=hi) then none else kidG s W a d lo hi i t
theorem doc_chain (s:Mst) (W:Int->Int->Int->Tk->Option Tk) (a d:Nat) (lo hi:Int) (t:Tk):chain (docG s W a d lo hi) d t=if keysB s a d lo hi=true then chain (kidG s W a d lo hi) d t else none:=by
 by_cases hk:keysB s a d lo hi=true
 ·rw [if_pos hk];have hk':=List.all_eq_true.1 hk
  have:∀ n,n<=d->chain (docG s W a d lo hi) n t=chain (kidG s W a d lo hi) n t:=by
   intro n
   induction n with
   | zero=>intro _;rfl
   | succ n ih=>
    intro hn;rw [chain,chain,ih (by omega)];congr 1;funext u;unfold docG;rw [if_neg];rintro ⟨h1,h2⟩
    have:=hk' n (by simp;omega)
    simp only [Bool.and_eq_true,decide_eq_true_eq] at this;exact h2 this
  exact this d (Nat.le_refl _)
 ·rw [if_neg hk]
  have:∃ i,i < d - 1/\¬ (lowZ s a lo i < ky s a (i+1)/\ky s a (i+1)<=hi):=by
   apply Classical.byContradiction;intro hn;apply hk;apply List.all_eq_true.2;intro i hi';simp only [List.mem_range] at hi';simp only [Bool.and_eq_true,decide_eq_true_eq];apply Classical.byContradiction;intro h';exact hn ⟨i,hi',h'⟩
  obtain ⟨i,h1,h2⟩:=this;have h3:chain (docG s W a d lo hi) (i+1) t=none:=by
   rw [chain];cases chain (docG s W a d lo hi) i t with
   | none=>rfl
   | some u=>show docG s W a d lo hi i u=none;unfold docG;rw [if_pos ⟨by omega,h2⟩]
  exact chain_none h3 (by omega)
end
section
theorem count_p {w:World} {n₀ b:Nat} {v:Value} {s:Mst} (h:PMem w n₀ b v s) (c:Int):PMem (w.setCell ⟨b,2,none⟩ (.int .i64 c)) n₀ b v { s with count:=c }:=
 h.boxed (by decide) (Td.setCell _ _ _ rfl) (by rw [box_set _ h.box];rfl) rfl rfl
theorem odd_p {w:World} {n₀ b:Nat} {v:Value} {s:Mst} (h:PMem w n₀ b v s) (c:Int):PMem (w.setCell ⟨b,3,none⟩ (.int .i64 c)) n₀ b v { s with odd:=c }:=
 h.boxed (by decide) (Td.setCell _ _ _ rfl) (by rw [box_set _ h.box];rfl) rfl rfl
theorem ref_p {w:World} {n₀ b:Nat} {v:Value} {s:Mst} (h:PMem w n₀ b v s) (c:Int):PMem (w.setCell ⟨b,4,none⟩ (.int .i64 c)) n₀ b v { s with ref:=c }:=
 h.boxed (by decide) (Td.setCell _ _ _ rfl) (by rw [box_set _ h.box];rfl) rfl rfl
theorem isUsed_p (w:World) (n₀ b:Nat) (v:Value) (s:Mst) (a:Int) (u:Bool) (h:PMem w n₀ b v s) (hu:s.used a=u) :
  Calls Tryz.prog 76 #[.pointer (some ⟨b,0,none⟩),.int .i64 a] w fun e w'=>e=.returned (.bool u)/\w=w':=by
 obtain ⟨⟨c0,_⟩,_⟩:=h.opened;obtain ⟨a0,cap,rfl,_⟩:=h.form;subst hu;clear h
 by_cases h1:1<=a
 ·go_enter Tryz.func76,Tryz.ntmps76;go_wp2;go_ret;exact ⟨congrArg (fun b=>Ending.returned (.bool b)) (by simp [Mst.used,h1]),rfl⟩
 ·go_enter Tryz.func76,Tryz.ntmps76;go_wp2;go_ret;exact ⟨congrArg (fun b=>Ending.returned (.bool b)) (by simp [Mst.used];omega),rfl⟩
theorem look_p (w:World) (n₀ b:Nat) (v:Value) (s:Mst) (a:Int) (h:PMem w n₀ b v s) :
  Calls Tryz.prog 33 #[.pointer (some ⟨b,0,none⟩),.int .i64 a] w fun e w'=>e=.returned (.int .i64 (s.look a))/\w=w':=by
 have c0:=h.opened.1.1;have hl:=h.len;have H:=gh h;cases hu:s.used a with
 | true=>
  obtain ⟨j,rfl,hj⟩:=Mst.used_nat hu;obtain ⟨g,cap,z,rfl,hz,hc,_,hgb⟩:=h.cellAt (by decide) hj;rw [Mst.look_succ hz];have HU:=gh hu;have i1:(j:Int) < (s.xs.length:Int):=by omega
  clear hu h hz;go_enter Tryz.func33,Tryz.ntmps33;go_wp2_with (fail);refine (isUsed_p _ n₀ b _ _ _ true H.o HU.o).mono ?_;rintro e w' ⟨rfl,rfl⟩;go_wp2;go_ret;exact ⟨rfl,rfl⟩
 | false=>
  rw [Mst.look_none hu];have HN:¬ (1<=a/\a<=(s.xs.length:Int)):=fun e=>by rw [Mst.used_iff.2 e] at hu;cases hu
  obtain ⟨a0,cap,rfl,_⟩:=h.form;clear h;clear HN;go_enter Tryz.func33,Tryz.ntmps33;go_wp2_with (fail);refine (isUsed_p _ n₀ b _ _ _ false H.o hu).mono ?_;rintro e w' ⟨rfl,rfl⟩;go_wp2;go_ret;exact ⟨rfl,rfl⟩
theorem put_p {w w1:World} {n₀ b g cap j:Nat} {s:Mst} (hj:j < s.xs.length) (h:PMem w1 n₀ b (.slice (some ⟨g,0,none⟩) s.xs.length cap) (s.touch ((j:Int)+1))) (t:Td (fun k=>k=b) w w1) (x:Int) :
  PMem (w1.setCell ⟨g,j,none⟩ (.int .i64 x)) n₀ b (.slice (some ⟨g,0,none⟩) s.xs.length cap) (s.write ((j:Int)+1) x)/\Td (Foot b (.slice (some ⟨g,0,none⟩) s.xs.length cap)) w (w1.setCell ⟨g,j,none⟩ (.int .i64 x)):=by
 rw [Mst.write_in hj];rw [Mst.touch_in (Mst.used_succ hj)] at h;exact ⟨MemAt.stored (T:=118) (s:={ s with count:=wrap64 (s.count+1) }) h (by decide) x,t.trans (Td.setCell (R:=Foot b (.slice (some ⟨g,0,none⟩) s.xs.length cap)) w1 ⟨g,j,none⟩ _ (.inr rfl)) (fun _ e=>.inl e) (fun _ _ e=>e)⟩
theorem touched_p {w w1:World} {b:Nat} {v:Value} (t:Td (fun k=>k=b) w w1):Td (Foot b v) w w1:=t.mono (fun _ _ e=>.inl e)
theorem new_p (w:World) (n:Int) (h0:1<=n) (h1:n<=65536) :
  Calls Tryz.prog 56 #[.int .i64 n] w fun e w'=>e=.returned (.tuple #[.pointer (some ⟨w.heap.size,0,none⟩),.int .i64 0])/\PMem w' w.heap.size w.heap.size (.slice none 0 0) (Mst.new n)/\Kept w w'/\w.heap.size < w'.heap.size:=by
 have HN:Hid (PMem (w.alloc (.cells (layP (.slice none 0 0) n 0 0 0) 118)) w.heap.size w.heap.size (.slice none 0 0) (Mst.new n)):=gh ⟨Nat.le_refl _,heap_new w _,World.ownsRow_nil _ _ _ _,by show (0:Int)<=n;omega,h1⟩;go_enter Tryz.func56,Tryz.ntmps56;go_wp2
 go_ret2
 exact ⟨rfl,HN.o,Td.alloc _ _ _,by simp⟩
end
section
set_option maxRecDepth 20000
theorem info2_p:(Tryz.prog.info? 2).map (fun i=>(i.zero,i.size,i.bytes))=some (some (.int .i64 0),1,8):=by kernel_rfl
theorem slice_p {w:World} {n₀ b:Nat} {v v':Value} {s:Mst} {ys:List Int} (hle:n₀<=b) (hb:w.heap[b]? = some (.cells (layP v s.size s.count s.odd s.ref) 118)) (hr:Row w n₀ 2 v' ys) (hne:v'.ownBlock≠some b) (h1:(ys.length:Int)<=s.size) (h2:s.size<=65536) :
  PMem (w.setCell ⟨b,0,none⟩ v') n₀ b v' { s with xs:=ys }:=by
 refine ⟨hle,by rw [box_set _ hb];rfl,?_,h1,h2⟩;obtain ⟨r1,r2⟩:=hr;refine ⟨r1,?_⟩;rcases r2 with r2 | ⟨g,cap,cur,rfl,hg,hh,r⟩
 ·exact .inl r2
 ·exact .inr ⟨g,cap,cur,rfl,hg,(Below.heap_setCell w ⟨b,0,none⟩ _ g (fun e=>hne (by rw [e];rfl))).trans hh,r⟩
theorem made_p {w w0 w1:World} {n₀ b g cap m:Nat} {v:Value} {s:Mst} {ws:List Int} (h:PMem w0 n₀ b v s) (t:Td (fun k=>k=b) w w0) (hm:ws.length=m) (hfit:(s.xs.length:Int)+m<=s.size)
  (hown:w1.ownsRow n₀ 2 1 (.slice (some ⟨g,0,none⟩) (s.xs.length+m) cap) (s.xs.length+m) (cellsOf s.xs++cellsOf ws)) (hg:w0.grownBy w1 v.ownBlock) (hat:v.ownBlock=some g∨g=w0.heap.size) :
  Does 118 layP n₀ b v { s with xs:=s.xs++ws } w (w1.setCell ⟨b,0,none⟩ (.slice (some ⟨g,0,none⟩) (s.xs.length+m) cap)):=by
 obtain ⟨hb,hne,hr⟩:=h.appended (by decide) hm hown hg;refine ⟨_,slice_p h.le hb hr (fun e=>hne (by simpa [Value.ownBlock] using e)) (by rw [List.length_append,hm];exact_mod_cast hfit) h.top,?_,?_⟩
 ·exact (t.trans (Td.of_grownBy (R:=Foot b v) hg (fun k hk=>.inr hk)) (fun _ e=>.inl e) (fun _ _ e=>e)).trans (Td.setCell (R:=Foot b v) w1 ⟨b,0,none⟩ _ (.inl rfl)) (fun _ e=>e) (fun _ _ e=>e)
 ·rintro k (rfl | hk)
  ·exact .inl (.inl rfl)
  ·obtain rfl:g=k:=by simpa [Value.ownBlock] using hk
   rcases hat with e | e
   ·exact .inl (.inr e)
   ·exact .inr (by have:=t.size;omega)
theorem news_p {w:World} {bl off:Nat} {ws:List Int} (h:∀ j z,ws[j]? = some z->w.cell? ⟨bl,off+j,none⟩=some (.int .i64 z)):∀ (j:Nat) (u:Value),(cellsOf ws)[j]? = some u->w.cell? ((⟨bl,off,none⟩:Addr).add j)=some u:=by
 intro j u hu;have hadd:(⟨bl,off,none⟩:Addr).add j=⟨bl,off+j,none⟩:=by unfold Addr.add;split <;> simp_all
 rw [hadd];rw [cellsOf,List.getElem?_map] at hu;cases hz:ws[j]? with
 | none=>rw [hz] at hu;cases hu
 | some z=>
  rw [hz] at hu;obtain rfl:Value.int .i64 z=u:=by simpa using hu
  exact h j z hz
set_option maxRecDepth 4000 in
theorem make_p (w:World) (n₀ b:Nat) (v:Value) (s:Mst) (a:Option Addr) (ws:List Int) (cw:Nat) (h:PMem w n₀ b v s) (hn:n₀<=w.heap.size) (hr:Reads w a ws) (hlw:ws.length<=maxLen) (hs:ws≠[]->∀ ad,a=some ad->ad.block≠b) :
  Calls Tryz.prog 69 #[.pointer (some ⟨b,0,none⟩),.slice a ws.length cw] w fun e w'=>e=.returned (.tuple #[.int .i64 (s.next ws),.bool (s.fits ws.length)])/\Does 118 layP n₀ b v (s.make ws) w w':=by
 obtain ⟨⟨c0,c1,c2,c3,c4⟩,f⟩:=h.opened;have f2:=f 2;have f4:=f 4;have fc:=f 0;have hl:=h.len;have hroom:=h.room;have htop:=h.top;unfold maxLen at hlw;have h1:=count_p h (wrap64 (s.count+1));have H1:=gh h1;have H2:=gh (ref_p h1 (wrap64 (s.ref+1)));have T1:=gh (Td.setCell (R:=fun k=>k=b) w ⟨b,2,none⟩ (.int .i64 (wrap64 (s.count+1))) rfl);obtain ⟨a0,cap,rfl,_⟩:=h.form;rw [Mst.next,Mst.make];cases hf:s.fits ws.length with
 | false=>
  rw [if_neg (by simp),if_neg (by simp)];have HN:¬ (0 < ws.length/\(s.xs.length:Int)+ws.length<=s.size):=fun e=>by simp [Mst.fits,e.1,e.2] at hf
  have HD:Hid (∀ k,Does 118 layP n₀ b (.slice a0 s.xs.length cap) { s with count:=wrap64 (s.count+1),ref:=wrap64 (s.ref+1) } w (((w.setCell ⟨b,2,none⟩ (.int .i64 (wrap64 (s.count+1)))).drewN k).setCell ⟨b,4,none⟩ (.int .i64 (wrap64 (s.ref+1))))):=gh (fun k=>Does.same (ref_p (h1.kept (Kept.drewN _ k)) (wrap64 (s.ref+1)))
   ((T1.o.trans (Td.drewN (fun _=>False) _ k) (fun _ e=>e) (fun _ _ e=>e.elim)).trans (Td.setCell (R:=fun k=>k=b) _ ⟨b,4,none⟩ _ rfl) (fun _ e=>.inl e) (fun _ _ e=>.inl e)))
  by_cases h0:ws.length=0
  ·have n0:((ws.length:Int) == 0)=true:=by simp [h0]
   clear h h1 f hr hs hf HN;go_enter Tryz.func69,Tryz.ntmps69;go_wp2;go_quiet (fail);go_wp2
   go_ret2
   exact ⟨rfl,HD.o _⟩
  ·have n0:((ws.length:Int) == 0)=false:=by simp only [beq_eq_false_iff_ne,ne_eq];omega
   have n1:s.size - (s.xs.length:Int) < (ws.length:Int):=by omega
   clear h h1 f hr hs hf HN;go_enter Tryz.func69,Tryz.ntmps69;go_wp2;go_quiet (fail);go_wp2
   go_ret2
   exact ⟨rfl,HD.o _⟩
 | true=>
  rw [if_pos rfl,if_pos rfl];obtain ⟨h0,h5⟩:0 < ws.length/\(s.xs.length:Int)+ws.length<=s.size:=by simpa [Mst.fits] using hf
  have n0:((ws.length:Int) == 0)=false:=by simp only [beq_eq_false_iff_ne,ne_eq];omega
  have n1:(ws.length:Int)<=s.size - (s.xs.length:Int):=by omega
  obtain ⟨bl,off,rfl,hrow⟩:∃ bl off,a=some ⟨bl,off,none⟩/\∀ j z,ws[j]? = some z->w.cell? ⟨bl,off+j,none⟩=some (.int .i64 z):=by
   rcases hr with e | ⟨bl,off,e,hc⟩
   ·rw [e] at h0;simp at h0
   ·exact ⟨bl,off,e,hc⟩
  have hbb:bl≠b:=hs (List.length_pos_iff.1 h0) _ rfl;have hrow1:∀ k,∀ j z,ws[j]? = some z->((w.setCell ⟨b,2,none⟩ (.int .i64 (wrap64 (s.count+1)))).drewN k).cell? ⟨bl,off+j,none⟩=some (.int .i64 z):=fun k j z hz=>T1.o.cell (hrow j z hz) hbb;have HR:=gh hrow1;obtain ⟨i0,hi,hz0,hz1,hz2⟩:=info_parts info2_p;obtain ⟨W,hW⟩:∃ W,w.setCell ⟨b,2,none⟩ (.int .i64 (wrap64 (s.count+1)))=W:=⟨_,rfl⟩;rw [hW] at h1 T1 HR H1;have d0:=h1.opened.1;have g0:=h1.opened.2 0;have d1:=d0.1;have d2:=d0.2.1;have HN:=gh hn;have HW:=gh hW;have zW:=T1.o.size;clear h f hr hs hf H2 hrow hrow1 d0 hn hW;go_enter Tryz.func69,Tryz.ntmps69;go_wp2_with (fail);rw [HW.o];go_quiet (fail);go_wp2_with (at_builtin;refine Stop.out ?_);refine ⟨?_⟩;refine wpList_append_lies _ rfl _ _ 56 rfl n₀ 2 i0 (.int .i64 0) 1 8 Tryz.underlying56 hi hz0 hz1 hz2 rfl (by decide) (.slice a0 s.xs.length cap) s.xs.length (cellsOf s.xs) rfl h1.row ⟨bl,off,none⟩ ws.length cw (cellsOf ws) rfl (by simp) (news_p (HR.o _)) (ints_oneCell _ _) h0 (by unfold maxLen;omega) (by omega) (Nat.le_trans HN.o zW) W.heap.size rfl ?_;intro g cap1 w1 hown hgrow' hat hlt;have hgrow:W.grownBy w1 (Value.slice a0 s.xs.length cap).ownBlock:=⟨hgrow'.os,hgrow'.tape,hgrow'.output,hgrow'.size,hgrow'.block⟩;clear hgrow';have HM:=gh (made_p h1 T1.o rfl h5 hown hgrow hat);have hb1:=(h1.appended (by decide) rfl hown hgrow).1;have e0:w1.cell? ⟨b,0,none⟩=some (.slice a0 s.xs.length cap):=by simp [World.cell?,hb1,layP]
  have e1:w1.frozen? ⟨b,0,none⟩=false:=by simp [World.frozen?,hb1,layP]
  clear hown hgrow hat hb1 d1 d2 g0 h1;go_wp2
  go_ret2
  exact ⟨rfl,HM.o⟩
end
section
theorem size_c (w:World) (n₀ b:Nat) (v:Value) (s:Mst) (h:PMem w n₀ b v s):Calls Tryz.prog 95 #[.pointer (some ⟨b,0,none⟩)] w fun e w'=>e=.returned (.int .i64 s.size)/\w=w':=by
 obtain ⟨⟨c0,c1,c2,c3,c4⟩,_⟩:=h.opened;clear h;go_enter Tryz.func95,Tryz.ntmps95;go_wp2;go_ret;exact ⟨rfl,rfl⟩
theorem used_c (w:World) (n₀ b:Nat) (v:Value) (s:Mst) (h:PMem w n₀ b v s):Calls Tryz.prog 79 #[.pointer (some ⟨b,0,none⟩)] w fun e w'=>e=.returned (.int .i64 (s.xs.length:Int))/\w=w':=by
 obtain ⟨⟨c0,_⟩,_⟩:=h.opened;obtain ⟨a0,cap,rfl,_⟩:=h.form;clear h;go_enter Tryz.func79,Tryz.ntmps79;go_wp2;go_ret;exact ⟨rfl,rfl⟩
def Fresh (zs:List Int) (w:World) (e:Ending) (w':World):Prop:=∃ v,e=.returned v/\Row w' w.heap.size 2 v zs/\Kept w w'
theorem clone_s (w:World) (a:Option Addr) (zs:List Int) (cap:Nat) (hr:Reads w a zs) (hl:zs.length<=1000000) :
  Calls Tryz.prog 108 #[.slice a zs.length cap] w (Fresh zs w):=by
 obtain ⟨i0,hi,hz0,hz1,hz2⟩:=info_parts info2_p;have r0:(w.alloc (.cells #[] 2)).ownsRow w.heap.size 2 1 (.slice (some ⟨w.heap.size,0,none⟩) 0 0) 0 []:=⟨rfl,.inr ⟨w.heap.size,0,#[],rfl,Nat.le_refl _,heap_new w _,Nat.le_refl _,Nat.zero_le _,rfl,rfl⟩⟩;have KK:Hid (Kept w (w.alloc (.cells #[] 2))):=gh (Td.alloc _ _ _);have qn:∀ (W:World) n c,(binOp .eql 56 (.slice none n c) (.slice none 0 0)).run Tryz.prog W=.ok (.bool true) W:=fun W n c=>Lib.run_eql_slice_nil W 56 2 none n c 0 0 Tryz.underlying56;have qs:∀ (W:World) ad n c,(binOp .eql 56 (.slice (some ad) n c) (.slice none 0 0)).run Tryz.prog W=.ok (.bool false) W:=fun W ad n c=>Lib.run_eql_slice_nil W 56 2 (some ad) n c 0 0 Tryz.underlying56;cases a with
 | none=>
  have h0:zs=[]:=by
   rcases hr with e | ⟨_,_,e,_⟩
   ·exact e
   ·cases e
  subst h0;clear hr r0;go_enter Tryz.func108,Tryz.ntmps108;go_wp2;go_ret;exact ⟨_,rfl,World.ownsRow_nil _ _ _ _,Kept.refl _⟩
 | some ad=>
  by_cases h0:zs=[]
  ·subst h0;clear hr;go_enter Tryz.func108,Tryz.ntmps108;go_wp2_with (at_builtin;refine Stop.out ?_);refine ⟨?_⟩;refine wpList_append_own_at _ rfl _ _ 56 rfl w.heap.size 2 i0 (.int .i64 0) 1 8 Tryz.underlying56 hi hz0 hz1 hz2 rfl (by decide) _ _ _ rfl r0 _ _ _ [] rfl rfl (by simp) (by simp) (by decide) (by decide) (by simp) ?_;intro v1 w1 hown hg hni _;clear hni;have HO:=gh hown;have hg':(w.alloc (.cells #[] 2)).grownBy w1 (some w.heap.size):=hg;have K1:=gh (KK.o.did (Nat.le_refl _) (Td.of_grownBy (R:=fun i=>i=w.heap.size) hg' (fun k hk=>(Option.some.inj hk).symm)));clear hown hg hg' r0;go_wp2;go_ret;exact ⟨_,rfl,HO.o,K1.o⟩
  ·have hp:0 < zs.length:=List.length_pos_iff.2 h0;obtain ⟨bl,off,e,hrow⟩:∃ bl off,some ad=some ⟨bl,off,none⟩/\∀ j z,zs[j]? = some z->w.cell? ⟨bl,off+j,none⟩=some (.int .i64 z):=by
    rcases hr with e | h
    ·exact (h0 e).elim
    ·exact h
   obtain rfl:ad=⟨bl,off,none⟩:=Option.some.inj e;have hrow1:∀ j z,zs[j]? = some z->(w.alloc (.cells #[] 2)).cell? ⟨bl,off+j,none⟩=some (.int .i64 z):=fun j z hz=>KK.o.cell (hrow j z hz) id;clear hr hrow h0;go_enter Tryz.func108,Tryz.ntmps108;go_wp2_with (at_builtin;refine Stop.out ?_);refine ⟨?_⟩;refine wpList_append_own_at _ rfl _ _ 56 rfl w.heap.size 2 i0 (.int .i64 0) 1 8 Tryz.underlying56 hi hz0 hz1 hz2 rfl (by decide) _ _ _ rfl r0 ⟨bl,off,none⟩ zs.length cap (cellsOf zs) rfl (by simp) (news_p hrow1) (ints_oneCell _ _) (by unfold maxLen;omega) (by omega) (by simp) ?_;intro v1 w1 hown hg hni _;clear hni;have HO:Hid (Row w1 w.heap.size 2 v1 zs):=gh (by simpa using hown);have hg':(w.alloc (.cells #[] 2)).grownBy w1 (some w.heap.size):=hg;have K1:=gh (KK.o.did (Nat.le_refl _) (Td.of_grownBy (R:=fun i=>i=w.heap.size) hg' (fun k hk=>(Option.some.inj hk).symm)));clear hown hg hg' r0 hrow1;go_wp2;go_ret;exact ⟨_,rfl,HO.o,K1.o⟩
theorem cells_c (w:World) (n₀ b:Nat) (v:Value) (s:Mst) (h:PMem w n₀ b v s):Calls Tryz.prog 77 #[.pointer (some ⟨b,0,none⟩)] w (Fresh s.xs w):=by
 obtain ⟨⟨c0,_⟩,_⟩:=h.opened;have hl:=h.len;obtain ⟨a0,cap,rfl,hr,_,_⟩:=h.form;have HC:=gh (clone_s w a0 s.xs cap hr (by omega));clear h hr;go_enter Tryz.func77,Tryz.ntmps77;go_wp2_with (fail);refine HC.o.mono ?_;rintro e w1 ⟨v1,rfl,hrow,hk⟩;have HR:=gh hrow;have HK:=gh hk;clear hrow hk;go_wp2;go_ret;exact ⟨_,rfl,HR.o,HK.o⟩
theorem words_c (w:World) (a b:Option Addr) (q:List Int) (cap cap':Nat) (hr:Reads w a q) (hr':Reads w b q) (hc:q.length<=cap) (hc':q.length<=cap') (hm:cap<=maxLen) :
  Calls Tryz.prog 98 #[.slice a q.length cap,.slice b q.length cap'] w fun e w'=>e=.returned (.bool true)/\∃ m,w'=w.drewN m:=by
 have HR:=gh hr;have HR':=gh hr';have hm':(q.length:Int)<=9223372036854775807:=by unfold maxLen at hm;omega
 clear hr hm hr';go_enter Tryz.func98,Tryz.ntmps98;go_wp2
 go_loopw [5] (fun i wr=>∃ t d:Nat,t<=q.length/\i=.int .i64 (t:Int)/\wr=w.drewN d) (fun i _=>q.length - (intOf i).toNat)
 case atStart=>exact ⟨0,0,Nat.zero_le _,rfl,rfl⟩
 case round=>
  obtain ⟨t,d,ht,rfl,rfl⟩:=hrel
  by_cases hlt:t < q.length
  ·obtain ⟨z,hz⟩:∃ p,q[t]? = some p:=⟨_,List.getElem?_eq_getElem hlt⟩;obtain ⟨bl,off,rfl,hbl,g1⟩:=HR.o.at hz;obtain ⟨bl',off',rfl,hbl',g2⟩:=HR'.o.at hz;have i1:(t:Int) < (q.length:Int):=by omega
   have i3:t < cap:=by omega
   have i4:t < cap':=by omega
   clear hz;go_wp2;go_quiet (fail);go_wp2;exact ⟨⟨t+1,_,by omega,by simp,rfl⟩,by simp [intOf];omega⟩
  ·have i1:¬ ((t:Int) < (q.length:Int)):=by omega
   go_wp2;go_ret;exact ⟨rfl,_,rfl⟩
theorem cut_g (w:World) (x n:Int) (h0:0 < n) (h1:n<=100000):Calls Tryz.prog 25 #[.int .i64 x,.int .i64 n] w fun e w'=>e=.returned (.int .i64 (x % n))/\w=w':=by
 have a1:-n < x.tmod n:=Int.lt_tmod_of_pos x h0;have a2:x.tmod n < n:=Int.tmod_lt_of_pos x h0;have a3:x % n=if x.tmod n < 0 then x.tmod n+n else x.tmod n:=by
  have e:=Int.tmod_eq_emod (a:=x) (b:=n);have b1:=Int.emod_nonneg x (show n≠0 by omega);have b2:=Int.emod_lt_of_pos x h0;have hn:(n.natAbs:Int)=n:=by omega
  by_cases hh:0<=x∨n ∣ x
  ·rw [if_pos hh] at e;rw [if_neg (by rw [e];omega),e];omega
  ·rw [if_neg hh] at e;rw [if_pos (by rw [e];omega),e];omega
 have n0:(n == 0)=false:=by simp only [beq_eq_false_iff_ne,ne_eq];omega
 have n1:(n == -1)=false:=by simp only [beq_eq_false_iff_ne,ne_eq];omega
 obtain ⟨t,ht⟩:∃ t,x.tmod n=t:=⟨_,rfl⟩;rw [ht] at a1 a2 a3
 by_cases h:t < 0
 ·rw [if_pos h] at a3;have A3:=gh a3;clear a3;go_enter Tryz.func25,Tryz.ntmps25;go_wp2;go_ret;exact ⟨by rw [A3.o];rfl,rfl⟩
 ·rw [if_neg h] at a3;have A3:=gh a3;clear a3;go_enter Tryz.func25,Tryz.ntmps25;go_wp2;go_ret;exact ⟨by rw [A3.o];rfl,rfl⟩
end
section
theorem count_d {w:World} {n₀ b:Nat} {v:Value} {s:Mst} (h:DMem w n₀ b v s) (c:Int):DMem (w.setCell ⟨b,2,none⟩ (.int .i64 c)) n₀ b v { s with count:=c }:=
 h.boxed (by decide) (Td.setCell _ _ _ rfl) (by rw [box_set _ h.box];rfl) rfl rfl
theorem odd_d {w:World} {n₀ b:Nat} {v:Value} {s:Mst} (h:DMem w n₀ b v s) (c:Int):DMem (w.setCell ⟨b,3,none⟩ (.int .i64 c)) n₀ b v { s with odd:=c }:=
 h.boxed (by decide) (Td.setCell _ _ _ rfl) (by rw [box_set _ h.box];rfl) rfl rfl
theorem ref_d {w:World} {n₀ b:Nat} {v:Value} {s:Mst} (h:DMem w n₀ b v s) (c:Int):DMem (w.setCell ⟨b,4,none⟩ (.int .i64 c)) n₀ b v { s with ref:=c }:=
 h.boxed (by decide) (Td.setCell _ _ _ rfl) (by rw [box_set _ h.box];rfl) rfl rfl
theorem look_d (w:World) (n₀ b:Nat) (v:Value) (s:Mst) (a:Int) (h:DMem w n₀ b v s) :
  Calls Tryz.prog 36 #[.pointer (some ⟨b,0,none⟩),.int .i64 a] w fun e w'=>e=.returned (.int .i64 (s.look a))/\w=w':=by
 have c0:=h.opened.1.1;have hl:=h.len;have H:=gh h;cases hu:s.used a with
 | true=>
  obtain ⟨j,rfl,hj⟩:=Mst.used_nat hu;obtain ⟨g,cap,z,rfl,hz,hc,_,hgb⟩:=h.cellAt (by decide) hj;rw [Mst.look_succ hz];have HU:=gh hu;have i1:(j:Int) < (s.xs.length:Int):=by omega
  clear hu h hz;go_enter Tryz.func36,Tryz.ntmps36;go_wp2;go_ret;exact ⟨rfl,rfl⟩
 | false=>
  rw [Mst.look_none hu];have HN:¬ (1<=a/\a<=(s.xs.length:Int)):=fun e=>by rw [Mst.used_iff.2 e] at hu;cases hu
  obtain ⟨a0,cap,rfl,_⟩:=h.form;clear h
  by_cases h1:1<=a
  ·have h2:(s.xs.length:Int) < a:=by omega
   clear HN;go_enter Tryz.func36,Tryz.ntmps36;go_wp2;go_ret;exact ⟨rfl,rfl⟩
  ·have h2:a < 1:=by omega
   clear HN;go_enter Tryz.func36,Tryz.ntmps36;go_wp2;go_ret;exact ⟨rfl,rfl⟩
theorem put_d {w w1:World} {n₀ b g cap j:Nat} {s:Mst} (hj:j < s.xs.length) (h:DMem w1 n₀ b (.slice (some ⟨g,0,none⟩) s.xs.length cap) (s.touch ((j:Int)+1))) (t:Td (fun k=>k=b) w w1) (x:Int) :
  DMem (w1.setCell ⟨g,j,none⟩ (.int .i64 x)) n₀ b (.slice (some ⟨g,0,none⟩) s.xs.length cap) (s.write ((j:Int)+1) x)/\Td (Foot b (.slice (some ⟨g,0,none⟩) s.xs.length cap)) w (w1.setCell ⟨g,j,none⟩ (.int .i64 x)):=by
 rw [Mst.write_in hj];rw [Mst.touch_in (Mst.used_succ hj)] at h;exact ⟨MemAt.stored (T:=126) (s:={ s with count:=wrap64 (s.count+1) }) h (by decide) x,t.trans (Td.setCell (R:=Foot b (.slice (some ⟨g,0,none⟩) s.xs.length cap)) w1 ⟨g,j,none⟩ _ (.inr rfl)) (fun _ e=>.inl e) (fun _ _ e=>e)⟩
theorem touched_d {w w1:World} {b:Nat} {v:Value} (t:Td (fun k=>k=b) w w1):Td (Foot b v) w w1:=t.mono (fun _ _ e=>.inl e)
theorem new_d (w:World) (n:Int) (h0:1<=n) (h1:n<=65536) :
  Calls Tryz.prog 109 #[.int .i64 n] w fun e w'=>e=.returned (.tuple #[.pointer (some ⟨w.heap.size,0,none⟩),.int .i64 0])/\DMem w' w.heap.size w.heap.size (.slice none 0 0) (Mst.new n)/\Kept w w'/\w.heap.size < w'.heap.size:=by
 have HN:Hid (DMem (w.alloc (.cells (layD (.slice none 0 0) n 0 0 0) 126)) w.heap.size w.heap.size (.slice none 0 0) (Mst.new n)):=gh ⟨Nat.le_refl _,heap_new w _,World.ownsRow_nil _ _ _ _,by show (0:Int)<=n;omega,h1⟩;go_enter Tryz.func109,Tryz.ntmps109;go_wp2
 go_ret2
 exact ⟨rfl,HN.o,Td.alloc _ _ _,by simp⟩
end
section
theorem info2_d:(Tryz.prog.info? 2).map (fun i=>(i.zero,i.size,i.bytes))=some (some (.int .i64 0),1,8):=by kernel_rfl
theorem slice_d {w:World} {n₀ b:Nat} {v v':Value} {s:Mst} {ys:List Int} (hle:n₀<=b) (hb:w.heap[b]? = some (.cells (layD v s.size s.count s.odd s.ref) 126)) (hr:Row w n₀ 2 v' ys) (hne:v'.ownBlock≠some b) (h1:(ys.length:Int)<=s.size) (h2:s.size<=65536) :
  DMem (w.setCell ⟨b,1,none⟩ v') n₀ b v' { s with xs:=ys }:=by
 refine ⟨hle,by rw [box_set _ hb];rfl,?_,h1,h2⟩;obtain ⟨r1,r2⟩:=hr;refine ⟨r1,?_⟩;rcases r2 with r2 | ⟨g,cap,cur,rfl,hg,hh,r⟩
 ·exact .inl r2
 ·exact .inr ⟨g,cap,cur,rfl,hg,(Below.heap_setCell w ⟨b,1,none⟩ _ g (fun e=>hne (by rw [e];rfl))).trans hh,r⟩
theorem made_d {w w0 w1:World} {n₀ b g cap m:Nat} {v:Value} {s:Mst} {ws:List Int} (h:DMem w0 n₀ b v s) (t:Td (fun k=>k=b) w w0) (hm:ws.length=m) (hfit:(s.xs.length:Int)+m<=s.size)
  (hown:w1.ownsRow n₀ 2 1 (.slice (some ⟨g,0,none⟩) (s.xs.length+m) cap) (s.xs.length+m) (cellsOf s.xs++cellsOf ws)) (hg:w0.grownBy w1 v.ownBlock) (hat:v.ownBlock=some g∨g=w0.heap.size) :
  Does 126 layD n₀ b v { s with xs:=s.xs++ws } w (w1.setCell ⟨b,1,none⟩ (.slice (some ⟨g,0,none⟩) (s.xs.length+m) cap)):=by
 obtain ⟨hb,hne,hr⟩:=h.appended (by decide) hm hown hg;refine ⟨_,slice_d h.le hb hr (fun e=>hne (by simpa [Value.ownBlock] using e)) (by rw [List.length_append,hm];exact_mod_cast hfit) h.top,?_,?_⟩
 ·exact (t.trans (Td.of_grownBy (R:=Foot b v) hg (fun k hk=>.inr hk)) (fun _ e=>.inl e) (fun _ _ e=>e)).trans (Td.setCell (R:=Foot b v) w1 ⟨b,1,none⟩ _ (.inl rfl)) (fun _ e=>e) (fun _ _ e=>e)
 ·rintro k (rfl | hk)
  ·exact .inl (.inl rfl)
  ·obtain rfl:g=k:=by simpa [Value.ownBlock] using hk
   rcases hat with e | e
   ·exact .inl (.inr e)
   ·exact .inr (by have:=t.size;omega)
theorem news_d {w:World} {bl off:Nat} {ws:List Int} (h:∀ j z,ws[j]? = some z->w.cell? ⟨bl,off+j,none⟩=some (.int .i64 z)):∀ (j:Nat) (u:Value),(cellsOf ws)[j]? = some u->w.cell? ((⟨bl,off,none⟩:Addr).add j)=some u:=by
 intro j u hu;have hadd:(⟨bl,off,none⟩:Addr).add j=⟨bl,off+j,none⟩:=by unfold Addr.add;split <;> simp_all
 rw [hadd];rw [cellsOf,List.getElem?_map] at hu;cases hz:ws[j]? with
 | none=>rw [hz] at hu;cases hu
 | some z=>
  rw [hz] at hu;obtain rfl:Value.int .i64 z=u:=by simpa using hu
  exact h j z hz
set_option maxRecDepth 4000 in
theorem make_d (w:World) (n₀ b:Nat) (v:Value) (s:Mst) (a:Option Addr) (ws:List Int) (cw:Nat) (h:DMem w n₀ b v s) (hn:n₀<=w.heap.size) (hr:Reads w a ws) (hlw:ws.length<=maxLen) (hs:ws≠[]->∀ ad,a=some ad->ad.block≠b) :
  Calls Tryz.prog 38 #[.pointer (some ⟨b,0,none⟩),.slice a ws.length cw] w fun e w'=>e=.returned (.tuple #[.int .i64 (s.next ws),.bool (s.fits ws.length)])/\Does 126 layD n₀ b v (s.make ws) w w':=by
 obtain ⟨⟨c0,c1,c2,c3,c4⟩,f⟩:=h.opened;have f2:=f 2;have f4:=f 4;have fc:=f 1;have hl:=h.len;have hroom:=h.room;have htop:=h.top;unfold maxLen at hlw;have h1:=count_d h (wrap64 (s.count+1));have H1:=gh h1;have H2:=gh (ref_d h1 (wrap64 (s.ref+1)));have T1:=gh (Td.setCell (R:=fun k=>k=b) w ⟨b,2,none⟩ (.int .i64 (wrap64 (s.count+1))) rfl);obtain ⟨a0,cap,rfl,_⟩:=h.form;rw [Mst.next,Mst.make];cases hf:s.fits ws.length with
 | false=>
  rw [if_neg (by simp),if_neg (by simp)];have HN:¬ (0 < ws.length/\(s.xs.length:Int)+ws.length<=s.size):=fun e=>by simp [Mst.fits,e.1,e.2] at hf
  have HD:Hid (∀ k,Does 126 layD n₀ b (.slice a0 s.xs.length cap) { s with count:=wrap64 (s.count+1),ref:=wrap64 (s.ref+1) } w (((w.setCell ⟨b,2,none⟩ (.int .i64 (wrap64 (s.count+1)))).drewN k).setCell ⟨b,4,none⟩ (.int .i64 (wrap64 (s.ref+1))))):=gh (fun k=>Does.same (ref_d (h1.kept (Kept.drewN _ k)) (wrap64 (s.ref+1)))
   ((T1.o.trans (Td.drewN (fun _=>False) _ k) (fun _ e=>e) (fun _ _ e=>e.elim)).trans (Td.setCell (R:=fun k=>k=b) _ ⟨b,4,none⟩ _ rfl) (fun _ e=>.inl e) (fun _ _ e=>.inl e)))
  by_cases h0:ws.length=0
  ·have n0:((ws.length:Int) == 0)=true:=by simp [h0]
   clear h h1 f hr hs hf HN;go_enter Tryz.func38,Tryz.ntmps38;go_wp2;go_quiet (fail);go_wp2
   go_ret2
   exact ⟨rfl,HD.o _⟩
  ·have n0:((ws.length:Int) == 0)=false:=by simp only [beq_eq_false_iff_ne,ne_eq];omega
   have n1:s.size - (s.xs.length:Int) < (ws.length:Int):=by omega
   clear h h1 f hr hs hf HN;go_enter Tryz.func38,Tryz.ntmps38;go_wp2;go_quiet (fail);go_wp2
   go_ret2
   exact ⟨rfl,HD.o _⟩
 | true=>
  rw [if_pos rfl,if_pos rfl];obtain ⟨h0,h5⟩:0 < ws.length/\(s.xs.length:Int)+ws.length<=s.size:=by simpa [Mst.fits] using hf
  have n0:((ws.length:Int) == 0)=false:=by simp only [beq_eq_false_iff_ne,ne_eq];omega
  have n1:(ws.length:Int)<=s.size - (s.xs.length:Int):=by omega
  obtain ⟨bl,off,rfl,hrow⟩:∃ bl off,a=some ⟨bl,off,none⟩/\∀ j z,ws[j]? = some z->w.cell? ⟨bl,off+j,none⟩=some (.int .i64 z):=by
   rcases hr with e | ⟨bl,off,e,hc⟩
   ·rw [e] at h0;simp at h0
   ·exact ⟨bl,off,e,hc⟩
  have hbb:bl≠b:=hs (List.length_pos_iff.1 h0) _ rfl;have hrow1:∀ k,∀ j z,ws[j]? = some z->((w.setCell ⟨b,2,none⟩ (.int .i64 (wrap64 (s.count+1)))).drewN k).cell? ⟨bl,off+j,none⟩=some (.int .i64 z):=fun k j z hz=>T1.o.cell (hrow j z hz) hbb;have HR:=gh hrow1;obtain ⟨i0,hi,hz0,hz1,hz2⟩:=info_parts info2_d;obtain ⟨W,hW⟩:∃ W,w.setCell ⟨b,2,none⟩ (.int .i64 (wrap64 (s.count+1)))=W:=⟨_,rfl⟩;rw [hW] at h1 T1 HR H1;have d0:=h1.opened.1;have g0:=h1.opened.2 1;have d1:=d0.1;have d2:=d0.2.1;have HN:=gh hn;have HW:=gh hW;have zW:=T1.o.size;clear h f hr hs hf H2 hrow hrow1 d0 hn hW;go_enter Tryz.func38,Tryz.ntmps38;go_wp2_with (fail);rw [HW.o];go_quiet (fail);go_wp2_with (at_builtin;refine Stop.out ?_);refine ⟨?_⟩;refine wpList_append_lies _ rfl _ _ 56 rfl n₀ 2 i0 (.int .i64 0) 1 8 Tryz.underlying56 hi hz0 hz1 hz2 rfl (by decide) (.slice a0 s.xs.length cap) s.xs.length (cellsOf s.xs) rfl h1.row ⟨bl,off,none⟩ ws.length cw (cellsOf ws) rfl (by simp) (news_d (HR.o _)) (ints_oneCell _ _) h0 (by unfold maxLen;omega) (by omega) (Nat.le_trans HN.o zW) W.heap.size rfl ?_;intro g cap1 w1 hown hgrow' hat hlt;have hgrow:W.grownBy w1 (Value.slice a0 s.xs.length cap).ownBlock:=⟨hgrow'.os,hgrow'.tape,hgrow'.output,hgrow'.size,hgrow'.block⟩;clear hgrow';have HM:=gh (made_d h1 T1.o rfl h5 hown hgrow hat);have hb1:=(h1.appended (by decide) rfl hown hgrow).1;have e0:w1.cell? ⟨b,1,none⟩=some (.slice a0 s.xs.length cap):=by simp [World.cell?,hb1,layD]
  have e1:w1.frozen? ⟨b,1,none⟩=false:=by simp [World.frozen?,hb1,layD]
  clear hown hgrow hat hb1 d1 d2 g0 h1;go_wp2
  go_ret2
  exact ⟨rfl,HM.o⟩
end
section
def PM (w:World) (b:Nat) (s:Mst):Prop:=∃ n₀ v,PMem w n₀ b v s
theorem lk_p (w:World) (b:Nat) (s:Mst) (a r:Int) (h:PM w b s) (e1:s.look a=r) :
  Calls Tryz.prog 33 #[.pointer (some ⟨b,0,none⟩),.int .i64 a] w fun e w'=>e=.returned (.int .i64 r)/\w=w':=by
 obtain ⟨n₀,v,h⟩:=h;subst e1;exact look_p w n₀ b v s a h
theorem kk_p (w:World) (a k:Int) (h:I64 a) (e1:kd a=k):Calls Tryz.prog 35 #[.int .i64 a] w fun e w'=>e=.returned (.int .i64 k)/\w=w':=by
 subst e1;refine (Rf.kind_c a h.wf w).mono ?_;rintro e w' ⟨rfl,rfl⟩;exact ⟨rfl,rfl⟩
theorem ak_p (w:World) (a k:Int) (h:I64 a) (e1:ad a=k):Calls Tryz.prog 68 #[.int .i64 a] w fun e w'=>e=.returned (.int .i64 k)/\w=w':=by
 subst e1;refine (Rf.at_c a h.wf w).mono ?_;rintro e w' ⟨rfl,rfl⟩;exact ⟨rfl,rfl⟩
theorem logic_p (w:World) (b:Nat) (s:Mst) (a r:Int) (h:PM w b s) (ho:s.ok) (e1:s.logicZ a=r) :
  Calls Tryz.prog 21 #[.pointer (some ⟨b,0,none⟩),.int .i64 a] w fun e w'=>e=.returned (.int .i64 r)/\w=w':=by
 have H:=gh h;have HO:=gh ho;obtain ⟨z,hz⟩:∃ z,s.look a=z:=⟨_,rfl⟩;obtain ⟨k,hk⟩:∃ k,kd z=k:=⟨_,rfl⟩;obtain ⟨p,hp⟩:∃ p,ad z=p:=⟨_,rfl⟩;obtain ⟨o,h4⟩:∃ o,s.look (p+4)=o:=⟨_,rfl⟩;have hb:=gh (ho.look a);rw [hz] at hb;have kr:=ad_range z;rw [hp] at kr;obtain ⟨p0,p1⟩:=kr;have HZ:=gh hz;have HK:=gh hk;have HP:=gh hp;have H4:=gh h4
 by_cases hk5:k=5
 ·have e2:r=if o=1 then s.look (p+3) else s.look (p+2):=by
   rw [<- e1,Mst.logicZ,hz];show (if kd z=5 then (if s.look (ad z+4)=1 then s.look (ad z+3) else s.look (ad z+2)) else z)=_;rw [hk,hk5,if_pos rfl,hp,h4]
  have E2:=gh e2
  by_cases ho1:o=1
  ·have e3:Hid (s.look (p+3)=r):=gh (by rw [e2,if_pos ho1]);subst hk5 ho1;clear h ho hz hk hp h4 e1 e2 E2;go_enter Tryz.func21,Tryz.ntmps21;go_wp2_with (fail);refine (lk_p _ b s a z H.o HZ.o).mono ?_;rintro e w' ⟨rfl,rfl⟩;go_wp2_with (fail);refine (kk_p _ z 5 hb.o HK.o).mono ?_;rintro e w' ⟨rfl,rfl⟩;go_wp2_with (fail);refine (ak_p _ z p hb.o HP.o).mono ?_;rintro e w' ⟨rfl,rfl⟩;go_wp2_with (fail);refine (lk_p _ b s (p+4) 1 H.o H4.o).mono ?_;rintro e w' ⟨rfl,rfl⟩;go_wp2_with (fail);refine (ak_p _ z p hb.o HP.o).mono ?_;rintro e w' ⟨rfl,rfl⟩;go_wp2_with (fail);refine (lk_p _ b s (p+3) r H.o e3.o).mono ?_;rintro e w' ⟨rfl,rfl⟩;go_wp2;go_ret;exact ⟨rfl,rfl⟩
  ·have e3:Hid (s.look (p+2)=r):=gh (by rw [e2,if_neg ho1]);have g1:(o == 1)=false:=by simp [ho1]
   have g2:(o != 1)=true:=by simp [ho1]
   subst hk5;clear h ho hz hk hp h4 e1 e2 E2;go_enter Tryz.func21,Tryz.ntmps21;go_wp2_with (fail);refine (lk_p _ b s a z H.o HZ.o).mono ?_;rintro e w' ⟨rfl,rfl⟩;go_wp2_with (fail);refine (kk_p _ z 5 hb.o HK.o).mono ?_;rintro e w' ⟨rfl,rfl⟩;go_wp2_with (fail);refine (ak_p _ z p hb.o HP.o).mono ?_;rintro e w' ⟨rfl,rfl⟩;go_wp2_with (fail);refine (lk_p _ b s (p+4) o H.o H4.o).mono ?_;rintro e w' ⟨rfl,rfl⟩;go_wp2_with (fail);refine (ak_p _ z p hb.o HP.o).mono ?_;rintro e w' ⟨rfl,rfl⟩;go_wp2_with (fail);refine (lk_p _ b s (p+2) r H.o e3.o).mono ?_;rintro e w' ⟨rfl,rfl⟩;go_wp2;go_ret;exact ⟨rfl,rfl⟩
 ·have e3:r=z:=by
   rw [<- e1,Mst.logicZ,hz,if_neg (by show ¬ kd z=5;rw [hk];exact hk5)]
  have g1:(k == 5)=false:=by simp [hk5]
  have g2:(k != 5)=true:=by simp [hk5]
  subst e3;clear h ho hz hk hp h4 e1;go_enter Tryz.func21,Tryz.ntmps21;go_wp2_with (fail);refine (lk_p _ b s a r H.o HZ.o).mono ?_;rintro e w' ⟨rfl,rfl⟩;go_wp2_with (fail);refine (kk_p _ r k hb.o HK.o).mono ?_;rintro e w' ⟨rfl,rfl⟩;go_wp2;go_ret;exact ⟨rfl,rfl⟩
theorem look_xs {s s':Mst} (h:s.xs=s'.xs) (a:Int):s.look a=s'.look a:=by unfold Mst.look Mst.used;rw [h]
def DM (w:World) (b:Nat) (s:Mst):Prop:=∃ n₀ v s0,s0.xs=s.xs/\DMem w n₀ b v s0
theorem DM.kept {w w':World} {b:Nat} {s:Mst} (h:DM w b s) (k:Kept w w'):DM w' b s:=by
 obtain ⟨n₀,v,s0,e,h⟩:=h;exact ⟨n₀,v,s0,e,h.kept k⟩
theorem lk_d (w:World) (b:Nat) (s:Mst) (a r:Int) (h:DM w b s) (e1:s.look a=r) :
  Calls Tryz.prog 36 #[.pointer (some ⟨b,0,none⟩),.int .i64 a] w fun e w'=>e=.returned (.int .i64 r)/\w=w':=by
 obtain ⟨n₀,v,s0,e,h⟩:=h;rw [<- e1,<- look_xs e];exact look_d w n₀ b v s0 a h
theorem kk_d (w:World) (a k:Int) (h:I64 a) (e1:kd a=k):Calls Tryz.prog 49 #[.int .i64 a] w fun e w'=>e=.returned (.int .i64 k)/\w=w':=by
 subst e1;refine (Rf.kind_r a h.wf w).mono ?_;rintro e w' ⟨rfl,rfl⟩;exact ⟨rfl,rfl⟩
theorem ak_d (w:World) (a k:Int) (h:I64 a) (e1:ad a=k):Calls Tryz.prog 117 #[.int .i64 a] w fun e w'=>e=.returned (.int .i64 k)/\w=w':=by
 subst e1;refine (Rf.at_r a h.wf w).mono ?_;rintro e w' ⟨rfl,rfl⟩;exact ⟨rfl,rfl⟩
theorem logic_d (w:World) (b:Nat) (s:Mst) (a r:Int) (h:DM w b s) (ho:s.ok) (e1:s.logicZ a=r) :
  Calls Tryz.prog 94 #[.pointer (some ⟨b,0,none⟩),.int .i64 a] w fun e w'=>e=.returned (.int .i64 r)/\w=w':=by
 have H:=gh h;have HO:=gh ho;obtain ⟨z,hz⟩:∃ z,s.look a=z:=⟨_,rfl⟩;obtain ⟨k,hk⟩:∃ k,kd z=k:=⟨_,rfl⟩;obtain ⟨p,hp⟩:∃ p,ad z=p:=⟨_,rfl⟩;obtain ⟨o,h4⟩:∃ o,s.look (p+4)=o:=⟨_,rfl⟩;have hb:=gh (ho.look a);rw [hz] at hb;have kr:=ad_range z;rw [hp] at kr;obtain ⟨p0,p1⟩:=kr;have HZ:=gh hz;have HK:=gh hk;have HP:=gh hp;have H4:=gh h4
 by_cases hk5:k=5
 ·have e2:r=if o=1 then s.look (p+3) else s.look (p+2):=by
   rw [<- e1,Mst.logicZ,hz];show (if kd z=5 then (if s.look (ad z+4)=1 then s.look (ad z+3) else s.look (ad z+2)) else z)=_;rw [hk,hk5,if_pos rfl,hp,h4]
  have E2:=gh e2
  by_cases ho1:o=1
  ·have e3:Hid (s.look (p+3)=r):=gh (by rw [e2,if_pos ho1]);subst hk5 ho1;clear h ho hz hk hp h4 e1 e2 E2;go_enter Tryz.func94,Tryz.ntmps94;go_wp2_with (fail);refine (lk_d _ b s a z H.o HZ.o).mono ?_;rintro e w' ⟨rfl,rfl⟩;go_wp2_with (fail);refine (kk_d _ z 5 hb.o HK.o).mono ?_;rintro e w' ⟨rfl,rfl⟩;go_wp2_with (fail);refine (ak_d _ z p hb.o HP.o).mono ?_;rintro e w' ⟨rfl,rfl⟩;go_wp2_with (fail);refine (lk_d _ b s (p+4) 1 H.o H4.o).mono ?_;rintro e w' ⟨rfl,rfl⟩;go_wp2_with (fail);refine (lk_d _ b s (p+3) r H.o e3.o).mono ?_;rintro e w' ⟨rfl,rfl⟩;go_wp2;go_ret;exact ⟨rfl,rfl⟩
  ·have e3:Hid (s.look (p+2)=r):=gh (by rw [e2,if_neg ho1]);have g1:(o == 1)=false:=by simp [ho1]
   have g2:(o != 1)=true:=by simp [ho1]
   subst hk5;clear h ho hz hk hp h4 e1 e2 E2;go_enter Tryz.func94,Tryz.ntmps94;go_wp2_with (fail);refine (lk_d _ b s a z H.o HZ.o).mono ?_;rintro e w' ⟨rfl,rfl⟩;go_wp2_with (fail);refine (kk_d _ z 5 hb.o HK.o).mono ?_;rintro e w' ⟨rfl,rfl⟩;go_wp2_with (fail);refine (ak_d _ z p hb.o HP.o).mono ?_;rintro e w' ⟨rfl,rfl⟩;go_wp2_with (fail);refine (lk_d _ b s (p+4) o H.o H4.o).mono ?_;rintro e w' ⟨rfl,rfl⟩;go_wp2_with (fail);refine (lk_d _ b s (p+2) r H.o e3.o).mono ?_;rintro e w' ⟨rfl,rfl⟩;go_wp2;go_ret;exact ⟨rfl,rfl⟩
 ·have e3:r=z:=by
   rw [<- e1,Mst.logicZ,hz,if_neg (by show ¬ kd z=5;rw [hk];exact hk5)]
  have g1:(k == 5)=false:=by simp [hk5]
  have g2:(k != 5)=true:=by simp [hk5]
  subst e3;clear h ho hz hk hp h4 e1;go_enter Tryz.func94,Tryz.ntmps94;go_wp2_with (fail);refine (lk_d _ b s a r H.o HZ.o).mono ?_;rintro e w' ⟨rfl,rfl⟩;go_wp2_with (fail);refine (kk_d _ r k hb.o HK.o).mono ?_;rintro e w' ⟨rfl,rfl⟩;go_wp2;go_ret;exact ⟨rfl,rfl⟩
end
section
def Now (w W:World) (b:Nat) (s:Mst):Prop:=(∃ v,PMem W w.heap.size b v s)/\Kept w W
namespace Now
variable {w W W':World} {b:Nat} {s s':Mst}
theorem lt (h:Now w W b s):w.heap.size<=b/\b < W.heap.size:=by
 obtain ⟨⟨v,h⟩,_⟩:=h;exact h.lt b (.inl rfl)
theorem on (h:Now w W b s) (k:Kept W W'):Now w W' b s:=by
 obtain ⟨⟨v,h⟩,hk⟩:=h;exact ⟨⟨v,h.kept k⟩,hk.trans k⟩
theorem did {v:Value} (h:PMem W w.heap.size b v s) (hk:Kept w W) (d:Does 118 layP w.heap.size b v s' W W'):Now w W' b s':=by
 obtain ⟨v',h',t,_⟩:=d;exact ⟨⟨v',h'⟩,hk.own (fun i hi=>(h.lt i hi).1) t⟩
theorem put {v:Value} (h:PMem W w.heap.size b v s) (hk:Kept w W) (h':PMem W' w.heap.size b v s') (t:Td (Foot b v) W W'):Now w W' b s':=did h hk (Does.same h' t)
theorem box {v:Value} (h:PMem W w.heap.size b v s) (hk:Kept w W) (h':PMem W' w.heap.size b v s') (t:Td (fun k=>k=b) W W'):Now w W' b s':=put h hk h' (t.mono (fun _ _ e=>.inl e))
theorem far (h:Now w W b s) {a:Option Addr} {zs:List Int} (hr:Reads w a zs):Reads W a zs:=hr.kept h.2
end Now
theorem now_new (w W:World) (n:Int) (hk:Kept w W) (h0:1<=n) (h1:n<=65536) :
  Calls Tryz.prog 56 #[.int .i64 n] W fun e W'=>e=.returned (.tuple #[.pointer (some ⟨W.heap.size,0,none⟩),.int .i64 0])/\Now w W' W.heap.size (Mst.new n)/\Kept W W':=
 (new_p W n h0 h1).mono fun _ _ ⟨h1,h2,h3,_⟩=>⟨h1,⟨⟨_,h2.low hk.size⟩,hk.trans h3⟩,h3⟩
theorem now_make (w W:World) (b:Nat) (s:Mst) (a:Option Addr) (ws:List Int) (cw:Nat) (r:Int) (f:Bool) (s':Mst) (h:Now w W b s) (hr:Reads W a ws) (hlw:ws.length<=maxLen) (hs:ws≠[]->∀ ad,a=some ad->ad.block≠b) (e1:s.next ws=r) (e2:s.fits ws.length=f) (e3:s.make ws=s') :
  Calls Tryz.prog 69 #[.pointer (some ⟨b,0,none⟩),.slice a ws.length cw] W fun e W'=>e=.returned (.tuple #[.int .i64 r,.bool f])/\Now w W' b s':=by
 obtain ⟨⟨v,h⟩,hk⟩:=h;subst e1 e2 e3;exact (make_p W w.heap.size b v s a ws cw h hk.size hr hlw hs).mono fun _ _ ⟨h1,h2⟩=>⟨h1,Now.did h hk h2⟩
theorem now_put (w W:World) (b:Nat) (s:Mst) (a:Option Addr) (ws:List Int) (cw:Nat) (r:Int) (f:Bool) (s':Mst) (h:Now w W b s) (hr:Reads w a ws) (hlw:ws.length<=maxLen) (e1:s.next ws=r) (e2:s.fits ws.length=f) (e3:s.make ws=s') :
  Calls Tryz.prog 69 #[.pointer (some ⟨b,0,none⟩),.slice a ws.length cw] W fun e W'=>e=.returned (.tuple #[.int .i64 r,.bool f])/\Now w W' b s':=
 now_make w W b s a ws cw r f s' h (h.far hr) hlw (fun h0 ad e=>Nat.ne_of_lt (Nat.lt_of_lt_of_le (hr.lt h0 ad e) h.lt.1)) e1 e2 e3
theorem now_size (w W:World) (b:Nat) (s:Mst) (r:Int) (h:Now w W b s) (e1:s.size=r):Calls Tryz.prog 95 #[.pointer (some ⟨b,0,none⟩)] W fun e W'=>e=.returned (.int .i64 r)/\W=W':=by
 obtain ⟨⟨v,h⟩,hk⟩:=h;subst e1;exact (size_c W _ b v s h).mono fun _ _ h=>h
theorem now_used (w W:World) (b:Nat) (s:Mst) (r:Int) (h:Now w W b s) (e1:(s.xs.length:Int)=r):Calls Tryz.prog 79 #[.pointer (some ⟨b,0,none⟩)] W fun e W'=>e=.returned (.int .i64 r)/\W=W':=by
 obtain ⟨⟨v,h⟩,hk⟩:=h;subst e1;exact (used_c W _ b v s h).mono fun _ _ h=>h
theorem now_cells (w W:World) (b:Nat) (s:Mst) (h:Now w W b s):Calls Tryz.prog 77 #[.pointer (some ⟨b,0,none⟩)] W fun e W'=>∃ a cap,e=.returned (.slice a s.xs.length cap)/\Reads W' a s.xs/\s.xs.length<=cap/\cap<=maxLen/\(∀ bl off,a=some ⟨bl,off,none⟩->W.heap.size<=bl)/\Row W' W.heap.size 2 (.slice a s.xs.length cap) s.xs/\Kept W W':=by
 obtain ⟨⟨v,h⟩,hk⟩:=h;refine (cells_c W _ b v s h).mono fun e W' hh=>?_;obtain ⟨u,rfl,hrow,hk'⟩:=hh;have hr:=hrow.reads;obtain ⟨a,cap,rfl,h1,h2,h3,h4⟩:=hr;exact ⟨a,cap,rfl,h1,h2,h3,h4,hrow,hk'⟩
theorem words_k (W:World) (a b:Option Addr) (q:List Int) (cap cap':Nat) (hr:Reads W a q) (hr':Reads W b q) (hc:q.length<=cap) (hc':q.length<=cap') (hm:cap<=maxLen) :
  Calls Tryz.prog 98 #[.slice a q.length cap,.slice b q.length cap'] W fun e w'=>e=.returned (.bool true)/\Kept W w':=
 (words_c W a b q cap cap' hr hr' hc hc' hm).mono fun _ _ ⟨h1,m,h2⟩=>⟨h1,by rw [h2];exact Kept.drewN _ _⟩
end
section
def plainOp:Op->Bool
 | .move _ | .assign _ | .pick .. | .build .. | .load .. | .nilCheck _ | .binOp .. | .unOp .. | .convert .. | .slice .. | .fieldAddr .. | .field .. | .indexAddr .. | .index .. | .extract ..=>true
 | .call { callee:=.builtin .len,.. }=>true
 | _=>false
theorem andThen_ok' {α β:Type} {r:Result α} {f:α->World->Result β} {b:β} {w':World} (h:r.andThen f=.ok b w'):∃ a w1,r=.ok a w1/\f a w1=.ok b w':=by
 cases r with
 | ok a w1=>exact ⟨a,w1,rfl,h⟩
 | halt x w1=>cases h
theorem value_of_then {P:Program} {w w':World} {s:Sem Value} {n:Next} (h:(do pure (.value (<- s)):Sem Next).run P w=.ok n w'):∃ u,n=.value u:=by
 simp only [Sem.run_bind,Sem.run_pure] at h;obtain ⟨u,w1,_,h2⟩:=andThen_ok' h;cases h2;exact ⟨u,rfl⟩
theorem plain_value {P:Program} {o:Oper} {ρ:Operand->Value} {w w':World} {n:Next} (hp:plainOp o.op=true) (h:(execOp ρ o).run P w=.ok n w'):∃ u,n=.value u:=by
 unfold execOp at h;cases ho:o.op
 case call c=>
  obtain ⟨callee,as1,ts⟩:=c;rw [ho] at hp h;unfold plainOp at hp
  split at hp
  all_goals try (rename_i heq;simp at heq;done)
  all_goals try (cases hp;done)
  rename_i heq;simp only [Op.call.injEq,Call.mk.injEq] at heq;obtain ⟨rfl,rfl,rfl⟩:=heq;simp only [resolve,invoke,builtin,Sem.run_bind,Sem.run_pure,Result.andThen_ok] at h;obtain ⟨u,w1,_,h2⟩:=andThen_ok' h;cases h2;exact ⟨_,rfl⟩
 all_goals simp only [ho,plainOp,Bool.false_eq_true] at hp h
 case move=>simp only [Sem.run_pure] at h;cases h;exact ⟨_,rfl⟩
 case assign=>simp only [Sem.run_pure] at h;cases h;exact ⟨_,rfl⟩
 case pick=>
  simp only [Sem.run_bind,Sem.run_pure] at h;obtain ⟨u,w1,_,h2⟩:=andThen_ok' h;cases h2;exact ⟨_,rfl⟩
 case nilCheck=>
  split at h
  all_goals try (simp [go_sem] at h;done)
  ·split at h
   ·simp [go_sem] at h
   ·simp only [Sem.run_bind] at h;obtain ⟨u,w1,_,h2⟩:=andThen_ok' h;obtain ⟨u2,w2,_,h3⟩:=andThen_ok' h2
    split at h3
    ·simp only [Sem.run_bind,Sem.run_pure] at h3;obtain ⟨u4,w4,h4,h5⟩:=andThen_ok' h3;cases h5;exact ⟨_,rfl⟩
    ·simp only [Sem.run_pure] at h3;cases h3;exact ⟨_,rfl⟩
   ·simp only [Sem.run_pure] at h;cases h;exact ⟨_,rfl⟩
  ·simp only [Sem.run_pure] at h;cases h;exact ⟨_,rfl⟩
 all_goals exact value_of_then h
section
variable {P:Program} {ops:Array Oper} {Q:Exit->Act->World->Prop} {md:Region.Mode} {C:World->Prop} {n:Nat}
theorem yieldsIf_wpOpIn {i:Nat} {o:Oper} {v:Value} {a:Act} (hi:ops[i]? = some o) (hy:YieldsIf P ops C o v a)
  {K:Act->World->Prop} {w:World} (hC:C w) (h:K (a.put o.dst v) w):wpOpIn Fence.wide n P ops Q i K a w:=by
 unfold Go.wpOpIn;simp only [hi];rcases hy with ⟨hw,hv⟩ | ⟨hw,rfl⟩
 ·simp only [hw,if_true,Oper.wpIn,show Fence.wide.round=none from rfl,Oper.semAt_none,hv w hC,Oper.uponIn];exact ⟨fun _ _=>trivial,h⟩
 ·simp only [hw,Bool.false_eq_true,if_false];exact ⟨fun _ _=>trivial,h⟩
theorem wpOpIn_putIf {j:Nat} {oi oj:Oper} {v:Value} (hj:ops[j]? = some oj) (hap:oi.apart ops oj=true)
  (hsi:∀ cs b,oi.op≠.select cs b) (hsj:∀ cs b,oj.op≠.select cs b)
  (hQ:∀ c a w,Q (.panic c) (a.put oi.dst v) w->Q (.panic c) a w) {K:Act->World->Prop} {a:Act} {w:World}
  (hy:YieldsIf P ops C oi v a) (h:wpOpIn Fence.wide n P ops Q j K (a.put oi.dst v) w) :
  wpOpIn Fence.wide n P ops Q j (fun a' w'=>YieldsIf P ops C oi v a'/\K (a'.put oi.dst v) w') a w:=by
 obtain ⟨h1,h2,h3⟩:=Oper.apart_spec hap;have hro:Fence.wide.round=none:=rfl;have keep:∀ (a:Act),YieldsIf P ops C oi v a->∀ u,YieldsIf P ops C oi v (a.put oj.dst u):=fun a hy u=>
  hy.of_same (execOp_put oi hsi a oj.dst u h3) (wanted_put oi a oj.dst u h3)
 have keepD:∀ d,YieldsIf P ops C oi v { a with defers:=d :: a.defers }:=fun d=>hy.of_same rfl rfl;unfold wpOpIn at *;simp only [hj] at *;rw [wanted_put oj a oi.dst v h1,about_put oj w a oi.dst v h1] at h
 split
 ·rename_i hw;simp only [hw,if_true] at h;unfold Oper.wpIn at *;rw [about_put oj w a oi.dst v h1] at h;refine ⟨h.1,?_⟩;have h:=h.2;rw [hro,Oper.semAt_none,execOp_put oj hsj a oi.dst v h1] at h;rw [hro,Oper.semAt_none];generalize (execOp a.eval oj).run P w=r at *;cases r with
  | ok x w'=>
   cases x <;> simp only [Oper.uponIn] at h ⊢
   case value u=>exact ⟨keep a hy u,by rw [<- Act.put_comm a v u h2];exact h⟩
   case skip=>exact ⟨keep a hy _,by rw [<- Act.put_comm a v undef h2];exact h⟩
   case defer d=>
    refine ⟨keep _ (keepD d) _,?_⟩;rw [<- Act.put_comm _ v undef h2,<- Act.put_defers];exact h
   case enter f args=>
    refine ⟨h.1,CallsIn.mono h.2 fun e w'' he=>?_⟩;cases e with
    | returned u=>exact ⟨keep a hy u,by rw [<- Act.put_comm a v u h2];exact he⟩
    | panicked c=>exact hQ _ _ _ he
    | outgrown=>exact he
   case row row args=>exact ⟨h.1,RowsIn.mono h.2 fun u w'' he=>⟨keep a hy u,by rw [<- Act.put_comm a v u h2];exact he⟩⟩
   case round l f tmps assign body=>
    refine ⟨h.1,RoundIn.mono h.2 fun e w'' he=>?_⟩;cases e with
    | returned u=>exact ⟨keep a hy u,by rw [<- Act.put_comm a v u h2];exact he⟩
    | panicked c=>exact hQ _ _ _ he
    | outgrown=>exact he
  | halt x w'=>
   cases x <;> simp only [Oper.uponIn] at h ⊢
   case panic u=>exact hQ _ _ _ h
 ·rename_i hw;simp only [hw] at h;exact ⟨h.1,keep a hy _,by rw [<- Act.put_comm a v undef h2];exact h.2⟩
def anyC (P:Program) (md:Region.Mode) (ops:Array Oper) (Q:Exit->Act->World->Prop) (C:World->Prop) (n:Nat):Nat->Array Bool->Act->World->Prop
 | 0,listed,a,w=>Region.ready md ops listed=[]/\Q .normal a w
 | fuel+1,listed,a,w=>
  (Region.ready md ops listed=[]->Q .normal a w)/\
  ∀ i ∈ Region.ready md ops listed,wpOpIn Fence.wide n P ops Q i (fun a' w'=>C w'/\anyC P md ops Q C n fuel (listed.setIfInBounds i true) a' w') a w
theorem wpAnyIn_of_anyC:∀ (fuel:Nat) (listed:Array Bool) (a:Act) (w:World),anyC P md ops Q C n fuel listed a w->wpAnyIn Fence.wide n P md ops Q fuel listed a w
 | 0,_,_,_,h=>h
 | fuel+1,_,_,_,h=>⟨h.1,fun i hi=>wpOpIn_mono (fun a' w' h'=>wpAnyIn_of_anyC fuel _ a' w' h'.2) (h.2 i hi)⟩
theorem anyC_first {i:Nat} {oi:Oper} {v:Value} (hi:ops[i]? = some oi) (hsel:∀ (j:Nat) (o:Oper) cs b,ops[j]? = some o->o.op≠.select cs b)
  (hQ:∀ c a w,Q (.panic c) (a.put oi.dst v) w->Q (.panic c) a w) :
  ∀ (fuel:Nat) (listed:Array Bool) (a:Act) (w:World),
   (∀ j oj,ops[j]? = some oj->j≠i->listed.getD j true=false->(∀ e ∈ oj.after,Region.binds md e=true->e.on≠i)->oi.apart ops oj=true)->
   i ∈ Region.ready md ops listed->YieldsIf P ops C oi v a->C w->
   anyC P md ops Q C n fuel (listed.setIfInBounds i true) (a.put oi.dst v) w->anyC P md ops Q C n (fuel+1) listed a w:=by
 intro fuel
 induction fuel with
 | zero=>
  intro listed a w _ hr hy hS H;refine ⟨fun h=>(by rw [h] at hr;cases hr),fun j hj=>?_⟩
  by_cases hji:j=i
  ·subst hji;exact yieldsIf_wpOpIn hi hy hS ⟨hS,H⟩
  ·have:=ready_mono hj hji
   rw [H.1] at this;cases this
 | succ fuel ih=>
  intro listed a w hfree hr hy hS H;refine ⟨fun h=>(by rw [h] at hr;cases hr),fun j hj=>?_⟩
  by_cases hji:j=i
  ·subst hji;exact yieldsIf_wpOpIn hi hy hS ⟨hS,H⟩
  ·have h1:=H.2 j (ready_mono hj hji);obtain ⟨hjun,oj,hoj,hall⟩:=mem_ready.1 hj;have hnot:∀ e ∈ oj.after,Region.binds md e=true->e.on≠i:=fun e he hb heq=>by
    have h1:=hall e he hb;have h0:=(mem_ready.1 hr).1;rw [heq] at h1;rcases Nat.lt_or_ge i listed.size with h' | h'
    ·simp [h'] at h0 h1;rw [h0] at h1;cases h1
    ·simp [Array.getElem?_eq_none h'] at h1
   have h2:=wpOpIn_putIf hoj (hfree j oj hoj hji hjun hnot) (fun cs b=>hsel i oi cs b hi) (fun cs b=>hsel j oj cs b hoj) hQ hy h1;have hfree':∀ k ok,ops[k]? = some ok->k≠i->(listed.setIfInBounds j true).getD k true=false->
     (∀ e ∈ ok.after,Region.binds md e=true->e.on≠i)->oi.apart ops ok=true:=fun k ok hk hki hun hno=>by
    refine hfree k ok hk hki ?_ hno
    by_cases hjk:j=k
    ·subst hjk;exact hjun
    ·rw [getD_set_ne true hjk] at hun;exact hun
   refine wpOpIn_mono (fun a' w' h3=>⟨h3.2.1,ih (listed.setIfInBounds j true) a' w' hfree' (ready_mono hr (Ne.symm hji)) h3.1 h3.2.1 ?_⟩) h2;rw [Array.setIfInBounds_comm _ _ hji];exact h3.2.2
def wpPerm (P:Program) (ops:Array Oper) (Q:Exit->Act->World->Prop) (C:World->Prop) (n:Nat):List Nat->Act->World->Prop
 | [],a,w=>Q .normal a w
 | i :: is,a,w=>match ops[i]? with
  | none=>False
  | some o=>if plainOp o.op then (∃ v,YieldsIf P ops C o v a/\wpPerm P ops Q C n is (a.put o.dst v) w) else wpOpIn Fence.wide n P ops Q i (fun a' w'=>C w'/\wpPerm P ops Q C n is a' w') a w
def permB (md:Region.Mode) (ops:Array Oper):List Nat->Array Bool->Bool
 | [],listed=>(Region.ready md ops listed).isEmpty
 | i :: is,listed=>(match ops[i]? with | none=>false | some o=>if plainOp o.op then (Region.ready md ops listed).contains i && Region.free md ops listed i else Region.ready md ops listed == [i]) && permB md ops is (listed.setIfInBounds i true)
theorem perm_any (hs:Region.noSelect ops=true) (hQ:∀ c a d v w,Q (.panic c) (Act.put a d v) w->Q (.panic c) a w):∀ (is:List Nat) (listed:Array Bool) (a:Act) (w:World),C w->permB md ops is listed=true->wpPerm P ops Q C n is a w->anyC P md ops Q C n is.length listed a w
 | [],listed,a,w,_,hB,h=>⟨by simpa [permB] using hB,h⟩
 | i :: is,listed,a,w,hC,hB,h=>by
  simp only [permB,Bool.and_eq_true] at hB;obtain ⟨hB1,hB2⟩:=hB;unfold wpPerm at h;cases ho:ops[i]? with
  | none=>simp [ho] at hB1
  | some o=>
   simp only [ho] at hB1 h
   by_cases hp:plainOp o.op=true
   ·simp only [hp,if_true,Bool.and_eq_true] at hB1 h;obtain ⟨v,hy,hk⟩:=h;exact anyC_first ho (Region.noSelect_spec hs) (fun c a w=>hQ c a _ v w) is.length listed a w (Region.free_spec ho hB1.2) (by simpa using hB1.1) hy hC (perm_any hs hQ is _ _ _ hC hB2 hk)
   ·simp only [hp,Bool.false_eq_true,if_false] at hB1 h;have hr:Region.ready md ops listed=[i]:=by simpa using hB1
    refine ⟨fun h0=>(by rw [hr] at h0;cases h0),fun j hj=>?_⟩;rw [hr] at hj;obtain rfl:j=i:=by simpa using hj
    exact wpOpIn_mono (fun a' w' h'=>⟨h'.1,perm_any hs hQ is _ _ _ h'.1 hB2 h'.2⟩) h
theorem region_perm {id:Nat} {a:Act} {w:World} (is:List Nat) (C:World->Prop) (hm:P.follows .mixedOrders=true)
  (hB:(Region.noSelect ops && is.length == ops.size && permB .any ops is (Array.replicate ops.size false))=true) (hQ:∀ c a d v w,Q (.panic c) (Act.put a d v) w->Q (.panic c) a w)
  (hC:C w.drew) (h:wpPerm P ops Q C n is a w.drew):(Code.region id ops true).wpIn Fence.wide n P Q a w:=by
 simp only [Bool.and_eq_true,beq_iff_eq] at hB
 have:=perm_any (md:=.any) hB.1.1 hQ is _ a _ hC hB.2 h
 rw [hB.1.2] at this;exact wpIn_region_any hm (wpAnyIn_of_anyC _ _ _ _ this)
theorem perm_q {i:Nat} {is:List Nat} {o:Oper} {a:Act} {w:World} (ho:ops[i]? = some o) (hp:plainOp o.op=true) (h:wpQuiet P ops C (fun a'=>wpPerm P ops Q C n is a' w) [o] a):wpPerm P ops Q C n (i :: is) a w:=by
 unfold wpPerm;simp only [ho,hp,if_true];unfold wpQuiet at h
 by_cases hw:Region.wanted o (yielded ops a.tmps)=true
 ·rw [if_pos hw] at h;obtain ⟨v,hv,hk⟩:=h;refine ⟨v,.inl ⟨hw,fun w1 hC=>?_⟩,hk⟩;have h1:=hv w1 hC;unfold Oper.quietAt at h1;cases hr:(execOp a.eval o).run P w1 with
  | ok x w'=>
   rw [hr] at h1;obtain ⟨u,rfl⟩:=plain_value hp hr;simp only [Oper.quietUpon] at h1;rw [h1.1,h1.2]
  | halt x w'=>rw [hr] at h1;exact h1.elim
 ·rw [if_neg hw] at h;exact ⟨undef,.inr ⟨by simpa using hw,rfl⟩,h⟩
theorem perm_l {i:Nat} {is:List Nat} {o:Oper} {a:Act} {w:World} (ho:ops[i]? = some o) (hp:plainOp o.op=false) (h:wpListIn Fence.wide n P ops (Exit.then (fun a' w'=>C w'/\wpPerm P ops Q C n is a' w') Q) [o] a w):wpPerm P ops Q C n (i :: is) a w:=by
 unfold wpPerm;simp only [ho,hp,Bool.false_eq_true,if_false];unfold wpOpIn;simp only [ho];unfold wpListIn at h
 split
 ·rename_i hw;rw [if_pos hw] at h;unfold Oper.wpIn at h ⊢;refine ⟨h.1,?_⟩;have h:=h.2;generalize (o.semAt Fence.wide.round a.eval).run P w=r at h ⊢;cases r with
  | ok x w'=>
   cases x <;> simp only [Oper.uponIn,wpListIn,Exit.then] at h ⊢ <;> exact h
  | halt x w'=>cases x <;> simp only [Oper.uponIn,Exit.then] at h ⊢ <;> exact h
 ·rename_i hw;rw [if_neg hw] at h;exact h
end
def nth:List Oper->Nat->Option Oper
 | [],_=>none
 | o :: _,0=>some o
 | _ :: l,i+1=>nth l i
theorem nth_eq:(l:List Oper)->(i:Nat)->l.toArray[i]? = nth l i
 | [],_=>by simp [nth]
 | o :: l,0=>by simp [nth]
 | o :: l,i+1=>by
  have:=nth_eq l i
  simp only [nth,<- this];simp
section
variable {P:Program} {l:List Oper} {Q:Exit->Act->World->Prop} {C:World->Prop} {n:Nat} {i:Nat} {is:List Nat} {o:Oper} {a:Act} {w:World}
theorem pq (ho:nth l i=some o) (hp:plainOp o.op=true) (h:wpQuiet P l.toArray C (fun a'=>wpPerm P l.toArray Q C n is a' w) [o] a):wpPerm P l.toArray Q C n (i :: is) a w:=perm_q ((nth_eq l i).trans ho) hp h
theorem ps (ho:nth l i=some o) (hp:plainOp o.op=false) (hw:Region.wanted o (yielded l.toArray a.tmps)=false) (hC:C w) (h:wpQuiet P l.toArray C (fun a'=>wpPerm P l.toArray Q C n is a' w) [o] a):wpPerm P l.toArray Q C n (i :: is) a w:=by
 unfold wpPerm;simp only [(nth_eq l i).trans ho,hp,Bool.false_eq_true,if_false];unfold wpOpIn;simp only [(nth_eq l i).trans ho];unfold wpQuiet at h;rw [if_neg (by rw [hw];exact Bool.false_ne_true)] at h ⊢;exact ⟨fun _ _=>trivial,hC,h⟩
theorem pl (ho:nth l i=some o) (hp:plainOp o.op=false) (h:wpListIn Fence.wide n P l.toArray (Exit.then (fun a' w'=>C w'/\wpPerm P l.toArray Q C n is a' w') Q) [o] a w):wpPerm P l.toArray Q C n (i :: is) a w:=perm_l ((nth_eq l i).trans ho) hp h
end
structure Wd (S:World->Prop) where
 w:World
 ok:S w
theorem Wd.mem {S:World->Prop} {w:World} (h:S w):∃ x:Wd S,w=x.w:=⟨⟨w,h⟩,rfl⟩
theorem region_held {P:Program} {ops:Array Oper} {Q:Exit->Act->World->Prop} {n id:Nat} {a:Act} {w:World} (is:List Nat) (S:World->Prop) (hm:P.follows .mixedOrders=true)
  (hB:(Region.noSelect ops && is.length == ops.size && permB .any ops is (Array.replicate ops.size false))=true) (hQ:∀ c a d v w,Q (.panic c) (Act.put a d v) w->Q (.panic c) a w)
  (hS:S w.drew) (h:Nonempty (Wd S)->wpPerm P ops Q (fun w'=>∃ x:Wd S,w'=x.w) n is a w.drew):(Code.region id ops true).wpIn Fence.wide n P Q a w:=
 region_perm is _ hm hB hQ (Wd.mem hS) (h ⟨⟨_,hS⟩⟩)
def calm (Q:Exit->Act->World->Prop):Exit->Act->World->Prop
 | .panic _,_,_=>False
 | e,a,w=>Q e a w
theorem calm_imp {Q:Exit->Act->World->Prop} {e:Exit} {a:Act} {w:World} (h:calm Q e a w):Q e a w:=by
 cases e <;> first | exact h | exact h.elim
theorem region_calm {P:Program} {ops:Array Oper} {Q:Exit->Act->World->Prop} {n id:Nat} {a:Act} {w:World} (is:List Nat) (S:World->Prop) (hm:P.follows .mixedOrders=true)
  (hB:(Region.noSelect ops && is.length == ops.size && permB .any ops is (Array.replicate ops.size false))=true)
  (hS:S w.drew) (h:Nonempty (Wd S)->wpPerm P ops (calm Q) (fun w'=>∃ x:Wd S,w'=x.w) n is a w.drew):(Code.region id ops true).wpIn Fence.wide n P Q a w:=
 Go.wpIn_mono (region_held is S hm hB (fun _ _ _ _ _ h=>h) hS h) (fun _ _ _ h=>calm_imp h)
theorem perm_done {P:Program} {ops:Array Oper} {Q:Exit->Act->World->Prop} {C:World->Prop} {n:Nat} {a:Act} {w:World} (h:Q .normal a w):wpPerm P ops (calm Q) C n [] a w:=h
end
section
theorem region_wide {P:Program} {ops:Array Oper} {Q:Exit->Act->World->Prop} {id:Nat} {a:Act} {w:World} (is:List Nat) (S:World->Prop) (hm:P.follows .mixedOrders=true)
  (hB:(Region.noSelect ops && is.length == ops.size && permB .any ops is (Array.replicate ops.size false))=true)
  (hS:S w.drew) (h:Nonempty (Wd S)->wpPerm P ops (calm Q) (fun w'=>∃ x:Wd S,w'=x.w) 10 is a w.drew):(Code.region id ops true).wp P Q a w:=
 (wpIn_wide (n:=10)).1 (region_calm is S hm hB hS h)
section
variable {T1 T2:TypeId} {lay1 lay2:Value->Int->Int->Int->Int->Array Value}
def Pair (T1:TypeId) (lay1:Value->Int->Int->Int->Int->Array Value) (T2:TypeId) (lay2:Value->Int->Int->Int->Int->Array Value) (w W:World) (b1:Nat) (s1:Mst) (b2:Nat) (s2:Mst):Prop:=
 ∃ v1 v2,MemAt T1 lay1 W w.heap.size b1 v1 s1/\MemAt T2 lay2 W w.heap.size b2 v2 s2/\(∀ k,Foot b1 v1 k->¬ Foot b2 v2 k)/\Kept w W
namespace Pair
variable {w W W':World} {b1 b2:Nat} {s1 s2:Mst}
end Pair
end
end
section
set_option maxRecDepth 20000
theorem empty_c (w:World):Calls Tryz.prog 97 #[] w (Fresh [0] w):=by
 go_enter Tryz.func97,Tryz.ntmps97;go_wp2;go_ret;exact ⟨_,rfl,row_new w 2 [0] _ (Nat.le_refl _) (by simp),Td.alloc _ _ _⟩
theorem Row.low {w:World} {n₀ m:Nat} {e:TypeId} {v:Value} {zs:List Int} (h:Row w n₀ e v zs) (hm:m<=n₀):Row w m e v zs:=by
 obtain ⟨h1,h2⟩:=h;refine ⟨h1,?_⟩;rcases h2 with h2 | ⟨g,cap,cur,rfl,hg,r⟩
 ·exact .inl h2
 ·exact .inr ⟨g,cap,cur,rfl,Nat.le_trans hm hg,r⟩
theorem Fresh.low {zs:List Int} {w W W':World} {e:Ending} (h:Fresh zs W e W') (hk:Kept w W):Fresh zs w e W':=by
 obtain ⟨v,h1,h2,h3⟩:=h;exact ⟨v,h1,h2.low hk.size,hk.trans h3⟩
theorem grow_c (w:World) (n:Nat) (hn:n<=1000000):Calls Tryz.prog 145 #[.slice none 0 0,.int .i64 (n:Int)] w (Fresh [] w):=by
 by_cases h0:n=0
 ·subst h0;go_enter Tryz.func145,Tryz.ntmps145;go_wp2;go_ret;exact ⟨_,rfl,World.ownsRow_nil _ _ _ _,Kept.refl _⟩
 ·obtain ⟨i0,hi,hz0,hz1,hz2⟩:=info_parts info2_p;have i1:(0:Int) < (n:Int):=by omega
  have hrz:∀ ty,(Builtin.append_ #[56,3] ty #[.slice none 0 0,.int .i64 (n:Int)]).run Tryz.prog w =
    .ok (.slice (some ⟨w.heap.size,0,none⟩) n (grownCap w n 0 2)) (w.drew.alloc (.cells (#[]++Builtin.zeroCells (Value.int .i64 0).cells n++Builtin.zeroCells (Value.int .i64 0).cells (grownCap w n 0 2 - n)) 2)):=fun ty=>by
   have h:=Lib.run_append_grow_zeros w 56 3 ty 2 i0 (.int .i64 0) .i64 .i64 Tryz.underlying56 Tryz.underlying3 hi hz0 none 0 0 [] (run_firstCells_none w.drew i0.size 0 0 0) n (by omega) (by omega) (by omega) (by omega) (by rw [hz2];omega) (by rw [hz2,Nat.zero_add];exact growslice_fits (by omega) (by omega));rw [Nat.zero_add] at h;exact h
  have hGn:n<=grownCap w n 0 2:=grownCap_ge w _ _ _;have hGm:grownCap w n 0 2<=maxLen:=grownCap_le_maxLen w n 0 2 (by unfold maxLen;omega);obtain ⟨G,hG⟩:∃ G,G=grownCap w n 0 2:=⟨_,rfl⟩;rw [<- hG] at hrz hGn hGm;have hG63:(G:Int)<=9223372036854775807:=by unfold maxLen at hGm;omega
  have HF:Hid (Fresh [] w (.returned (.slice (some ⟨w.heap.size,0,none⟩) 0 G)) ((w.alloc (.cells (Builtin.zeroCells #[.int .i64 0] n++Builtin.zeroCells #[.int .i64 0] (G - n)) 2)).drew)):=gh ⟨_,rfl,⟨rfl,.inr ⟨w.heap.size,G,_,rfl,Nat.le_refl _,heap_new w _,Nat.zero_le _,hGm,by simp [size_zeroCells];omega,rfl⟩⟩,((Kept.refl w).alloc _).trans (Kept.drew _)⟩;clear hG hGm;go_enter Tryz.func145,Tryz.ntmps145;go_wp2_with (at_builtin;refine Lib.wpList_append_run _ rfl _ _ _ _ rfl _ _ rfl rfl _ _ (hrz _) ?_)
  all_goals (go_ret;exact HF.o)
theorem wpList_append_reads {w:World} {ops:Array Oper} {rest:List Oper} {o:Oper} {a:Act} {Q:Exit->Act->World->Prop} (hgd:o.guard=none) (s x:Operand)
  (ho:o.op=.call { callee:=.builtin .append,args:=#[s,x],argTypes:=#[56,56] }) (base:Nat) (v:Value) (k:Nat) (xs:List Value) (hs:a.eval s=v) (hown:w.ownsRow base 2 1 v k xs)
  (aw:Option Addr) (ws:List Int) (cw:Nat) (hx:a.eval x=.slice aw ws.length cw) (hr:Reads w aw ws) (h0:aw=none->cw=0) (hl:k+ws.length<=1000000) (hbase:base<=w.heap.size)
  (h:∀ v' w',w'.ownsRow base 2 1 v' (k+ws.length) (xs++cellsOf ws)->w.grownBy w' v.ownBlock->(v'.ownBlock=v.ownBlock∨v'.ownBlock=some w.heap.size)->wpList Tryz.prog ops Q rest (a.put o.dst v') w') :
  wpList Tryz.prog ops Q (o :: rest) a w:=by
 obtain ⟨i0,hi,hz0,hz1,hz2⟩:=info_parts info2_p;cases aw with
 | none=>
  have e0:ws=[]:=by
   rcases hr with e | ⟨_,_,e,_⟩
   ·exact e
   ·cases e
  subst e0;obtain rfl:=h0 rfl;refine wpList_plain hgd fun K hK=>?_;have hrun:=run_append_owned_none (P:=Tryz.prog) (w:=w) base 56 o.type 2 i0 1 Tryz.underlying56 hi v k xs hown;unfold Oper.wp execOp;simp only [ho,resolve,invoke,builtin,Sem.run_bind,Sem.run_pure,Result.andThen_ok,List.map_toArray,List.map_cons,List.map_nil,hs,hx,List.length_nil,hrun];exact hK _ _ (h v w (by simpa using hown) (World.grownBy.refl _ _) (.inl rfl))
 | some ad=>
  by_cases e0:ws=[]
  ·subst e0;exact wpList_append_own_at w hgd s x 56 ho base 2 i0 (.int .i64 0) 1 8 Tryz.underlying56 hi hz0 hz1 hz2 rfl (by decide) v k xs hs hown ad 0 cw [] hx rfl (by simp) (by simp) (by simp at hl;unfold maxLen;omega) (by simp at hl;omega) hbase (fun v' w' h1 h2 _ h4=>h v' w' (by simpa using h1) h2 h4)
  ·obtain ⟨bl,off,e,hrow⟩:∃ bl off,some ad=some ⟨bl,off,none⟩/\∀ j z,ws[j]? = some z->w.cell? ⟨bl,off+j,none⟩=some (.int .i64 z):=by
    rcases hr with e | h
    ·exact (e0 e).elim
    ·exact h
   obtain rfl:ad=⟨bl,off,none⟩:=Option.some.inj e;exact wpList_append_own_at w hgd s x 56 ho base 2 i0 (.int .i64 0) 1 8 Tryz.underlying56 hi hz0 hz1 hz2 rfl (by decide) v k xs hs hown ⟨bl,off,none⟩ ws.length cw (cellsOf ws) hx (by simp) (news_p hrow) (ints_oneCell _ _) (by unfold maxLen;omega) (by omega) hbase (fun v' w' h1 h2 _ h4=>h v' w' h1 h2 h4)
theorem kept_append {w0 w w1:World} {v:Value} {ys:List Int} (k:Kept w0 w) (hr:Row w w0.heap.size 2 v ys) (hg:w.grownBy w1 v.ownBlock):Kept w0 w1:=
 k.own (O:=fun j=>v.ownBlock=some j) (fun i e=>(hr.lt i e).1) (Td.of_grownBy (R:=fun j=>v.ownBlock=some j) hg (fun _ h=>h))
def Lists (w:World) (B:Nat) (L:List (List Int)):Prop:=
 ∀ (t:Nat) (zs:List Int),L[t]? = some zs->∃ a cap,w.cell? ⟨B,t,none⟩=some (.slice a zs.length cap)/\Reads w a zs/\(a=none->cap=0)
theorem Lists.kept {w w':World} {B:Nat} {L:List (List Int)} (h:Lists w B L) (k:Kept w w'):Lists w' B L:=fun t zs ht=>by
 obtain ⟨a,cap,h1,h2,h3⟩:=h t zs ht;exact ⟨a,cap,k.cell h1 id,h2.kept k,h3⟩
theorem flat_step {L:List (List Int)} {t:Nat} {zs:List Int} (h:L[t]? = some zs):(L.take (t+1)).flatten=(L.take t).flatten++zs:=by
 rw [List.take_add_one,h];simp
theorem flat_le {L:List (List Int)} {M:Nat} (h:L.flatten.length<=M) (t:Nat):(L.take t).flatten.length<=M:=by
 have:L.flatten=(L.take t).flatten++(L.drop t).flatten:=by rw [<- List.flatten_append,List.take_append_drop]
 rw [this,List.length_append] at h;omega
set_option maxRecDepth 100000 in
set_option maxHeartbeats 2000000 in
theorem concat_c (w:World) (B n cap:Nat) (L:List (List Int)) (hL:Lists w B L) (hn:L.length=n) (hn1:n<=100000) (hc:n<=cap) (hs:L.flatten.length<=100000):Calls Tryz.prog 119 #[.slice (some ⟨B,0,none⟩) n cap] w (Fresh L.flatten w):=by
 have HL:=gh hL;have HN:=gh hn;have HS:=gh hs;clear hL hn hs;go_enter Tryz.func119,Tryz.ntmps119;go_wp2
 go_loopw [3,11] (fun s i wr=>∃ t m:Nat,t<=n/\m<=100000/\s=.int .i64 (m:Int)/\i=.int .i64 (t:Int)/\w=wr/\Hid (m=(L.take t).flatten.length)) (fun _ i _=>n - (intOf i).toNat)
 case atStart=>exact ⟨0,0,Nat.zero_le _,Nat.zero_le _,rfl,rfl,rfl,gh (by simp)⟩
 case round=>
  obtain ⟨t,m,ht,hm,rfl,rfl,rfl,HM⟩:=hrel
  by_cases hlt:t < n
  ·obtain ⟨zs,hz⟩:∃ zs,L[t]? = some zs:=⟨_,List.getElem?_eq_getElem (by rw [HN.o];exact hlt)⟩;obtain ⟨a,cp,c1,-,-⟩:=HL.o t zs hz;have i1:(t:Int) < (n:Int):=by omega
   have i3:t < cap:=by omega
   have hmz:m+zs.length<=100000:=by
    have e1:=flat_le HS.o (t+1);rw [flat_step hz,List.length_append,<- HM.o] at e1;exact e1
   have HM':Hid (m+zs.length=(L.take (t+1)).flatten.length):=gh (by rw [flat_step hz,List.length_append,<- HM.o]);clear hz;go_wp2;exact ⟨⟨t+1,m+zs.length,by omega,hmz,by simp,by simp,by simp,HM'⟩,by simp [intOf];omega⟩
  ·have i1:¬ ((t:Int) < (n:Int)):=by omega
   clear HM;go_wp2_with (fail);refine (grow_c _ m (by omega)).mono ?_;rintro e W1 ⟨v1,rfl,hrow,hk⟩;have HR:=gh hrow;have HK:=gh hk;clear hrow hk;go_wp2
   go_loopw [6,27] (fun v i wr=>∃ (t:Nat) (ys:List Int),t<=n/\i=.int .i64 (t:Int)/\Hid (Row wr w.heap.size 2 v ys)/\Hid (ys=(L.take t).flatten)/\Hid (Kept w wr)) (fun _ i _=>n - (intOf i).toNat)
   case atStart=>exact ⟨0,[],Nat.zero_le _,rfl,HR,gh (by simp),HK⟩
   case round=>
    obtain ⟨t,ys,ht,rfl,HR1,HY,HK1⟩:=hrel;clear HR HK
    by_cases hlt:t < n
    ·obtain ⟨zs,hz⟩:∃ zs,L[t]? = some zs:=⟨_,List.getElem?_eq_getElem (by rw [HN.o];exact hlt)⟩;obtain ⟨a,cp,c1,r1,h0⟩:=(HL.o.kept HK1.o) t zs hz;have i1:(t:Int) < (n:Int):=by omega
     have i3:t < cap:=by omega
     have HZ:Hid (ys.length+zs.length<=1000000):=gh (by
      have e1:=flat_le HS.o (t+1);rw [flat_step hz,List.length_append,<- HY.o] at e1;omega)
     have HY':Hid (ys++zs=(L.take (t+1)).flatten):=gh (by rw [flat_step hz,<- HY.o]);have R1:=gh r1;have H0:=gh h0;clear hz r1 h0;go_wp2_with (at_builtin;refine Stop.out ?_);refine ⟨?_⟩;refine wpList_append_reads rfl _ _ rfl w.heap.size _ ys.length (cellsOf ys) rfl HR1.o a zs cp rfl R1.o H0.o HZ.o HK1.o.size ?_;intro v2 w2 hown hg _;have HR2:Hid (Row w2 w.heap.size 2 v2 (ys++zs)):=gh (by
      show World.ownsRow _ _ 2 1 _ (ys++zs).length (cellsOf (ys++zs));rw [List.length_append,cellsOf,List.map_append];exact hown)
     have HK2:=gh (kept_append HK1.o HR1.o hg);clear hown hg;go_wp2;exact ⟨⟨t+1,ys++zs,by omega,by simp,HR2,HY',HK2⟩,by simp [intOf];omega⟩
    ·have i1:¬ ((t:Int) < (n:Int)):=by omega
     have HE:Hid (ys=L.flatten):=gh (by rw [HY.o,List.take_of_length_le (by rw [HN.o];omega)]);go_wp2;go_ret;exact ⟨_,rfl,by rw [<- HE.o];exact HR1.o,HK1.o⟩
end
section
variable {X:Nat->Prop}
structure Ak where
 k:Int
 a:Int
 x:Int
 y:Int
 w:List Int
structure Rn where
 tape:List Int
 pos:Nat
 off:Bool
 nx:Ak
 rc:Int
 ld:Int
namespace Rn
def ask (s:Rn) (q:Ak):Int × Rn:=if s.off=true then (0,s) else if s.pos < s.tape.length then (s.tape.getD s.pos 0,{ s with pos:=s.pos+1 }) else (0,{ s with off:=true,nx:=q })
def left (s:Rn):Nat:=(s.tape.length - s.pos)+(if s.off=true then 0 else 1)
theorem ask_left {s:Rn} (q:Ak) (h:s.off=false):(s.ask q).2.left < s.left:=by
 unfold ask left;rw [h];simp only [Bool.false_eq_true,if_false]
 split
 ·dsimp only;simp only [Bool.false_eq_true,if_false];omega
 ·dsimp only;simp only [if_true];omega
theorem ask_off {s:Rn} (q:Ak) (h:s.off=true):s.ask q=(0,s):=by unfold ask;rw [if_pos h]
theorem ask_le (s:Rn) (q:Ak):(s.ask q).2.left<=s.left:=by
 cases h:s.off with
 | true=>rw [ask_off q h];exact Nat.le_refl _
 | false=>exact Nat.le_of_lt (ask_left q h)
theorem ask_tape (s:Rn) (q:Ak):(s.ask q).2.tape=s.tape:=by unfold ask;split <;> first | rfl | split <;> rfl
theorem ask_i64 {s:Rn} (q:Ak) (h:∀ z ∈ s.tape,I64 z):I64 (s.ask q).1:=by
 unfold ask
 split
 ·exact (⟨by decide,by decide⟩:I64 0)
 ·split
  ·rename_i hl;rw [List.getD_eq_getElem?_getD,List.getElem?_eq_getElem hl];exact h _ (List.getElem_mem hl)
  ·exact (⟨by decide,by decide⟩:I64 0)
def read (s:Rn) (a:Int):Int × Rn:=s.ask ⟨1,a,0,0,[]⟩
def write (s:Rn) (a x:Int):Rn:=(s.ask ⟨2,a,x,0,[]⟩).2
def cas (s:Rn) (a old x:Int):Bool × Rn:=((s.ask ⟨3,a,old,x,[]⟩).1 == 1,(s.ask ⟨3,a,old,x,[]⟩).2)
def add (s:Rn) (a d:Int):Int × Rn:=s.ask ⟨4,a,d,0,[]⟩
def make (s:Rn) (w:List Int):Int × Rn:=s.ask ⟨5,0,0,0,w⟩
end Rn
def runCells (s:Rn) (ta:Option Addr) (tc:Nat) (wa:Option Addr) (wc:Nat):Array Value:=#[.slice ta s.tape.length tc,.int .i64 (s.pos:Int),.bool s.off,.int .i64 s.nx.k,.int .i64 s.nx.a,.int .i64 s.nx.x,.int .i64 s.nx.y,.slice wa s.nx.w.length wc,.int .i64 s.rc,.int .i64 s.ld]
structure Far (X:Nat->Prop) (w:World) (r:Nat) (a:Option Addr) (zs:List Int):Prop where
 reads:Reads w a zs
 ne:∀ ad,a=some ad->(X ad.block/\ad.block < w.heap.size)/\ad.block≠r
 short:zs.length<=maxLen
theorem Far.turned {w w':World} {r:Nat} {a:Option Addr} {zs:List Int} (h:Far X w r a zs) (t:Td (fun k=>k=r) w w'):Far X w' r a zs:=
 ⟨h.reads.turned t (fun k _ ⟨ad,e,e'⟩ hk=>(h.ne ad e).2 (by rw [e',hk])),fun ad e=>⟨⟨(h.ne ad e).1.1,Nat.lt_of_lt_of_le (h.ne ad e).1.2 t.size⟩,(h.ne ad e).2⟩,h.short⟩
theorem Far.kept {w w':World} {r:Nat} {a:Option Addr} {zs:List Int} (h:Far X w r a zs) (t:Kept w w'):Far X w' r a zs:=h.turned (t.mono fun _ _ e=>e.elim)
theorem Far.none (w:World) (r:Nat):Far X w r .none []:=⟨.inl rfl,(fun _ e=>by cases e),by simp⟩
structure RunIs (X:Nat->Prop) (w:World) (r:Nat) (s:Rn) (ta:Option Addr) (tc:Nat) (wa:Option Addr) (wc:Nat):Prop where
 box:w.heap[r]? = some (.cells (runCells s ta tc wa wc) 116)
 tape:Far X w r ta s.tape
 cap:s.tape.length<=tc
 next:Far X w r wa s.nx.w
 at_le:s.pos<=s.tape.length
 len:s.tape.length<=1000000
 own:X r
def RunAt (X:Nat->Prop) (w:World) (r:Nat) (s:Rn):Prop:=∃ ta tc wa wc,RunIs X w r s ta tc wa wc
theorem RunIs.kept {w w':World} {r:Nat} {s:Rn} {ta wa:Option Addr} {tc wc:Nat} (h:RunIs X w r s ta tc wa wc) (t:Kept w w'):RunIs X w' r s ta tc wa wc:=
 ⟨t.heap h.box id,h.tape.kept t,h.cap,h.next.kept t,h.at_le,h.len,h.own⟩
theorem RunAt.kept {w w':World} {r:Nat} {s:Rn} (h:RunAt X w r s) (t:Kept w w'):RunAt X w' r s:=by
 obtain ⟨ta,tc,wa,wc,h⟩:=h;exact ⟨ta,tc,wa,wc,h.kept t⟩
theorem RunAt.to {Y:Nat->Prop} {w:World} {r:Nat} {s:Rn} (h:RunAt X w r s) (hY:∀ k,X k->k < w.heap.size->Y k):RunAt Y w r s:=by
 obtain ⟨ta,tc,wa,wc,h⟩:=h;exact ⟨ta,tc,wa,wc,h.box,⟨h.tape.reads,fun ad e=>⟨⟨hY _ (h.tape.ne ad e).1.1 (h.tape.ne ad e).1.2,(h.tape.ne ad e).1.2⟩,(h.tape.ne ad e).2⟩,h.tape.short⟩,h.cap,⟨h.next.reads,fun ad e=>⟨⟨hY _ (h.next.ne ad e).1.1 (h.next.ne ad e).1.2,(h.next.ne ad e).1.2⟩,(h.next.ne ad e).2⟩,h.next.short⟩,h.at_le,h.len,hY r h.own (Array.getElem?_eq_some_iff.1 h.box).1⟩
theorem RunAt.above {R:Nat->Prop} {w w':World} {r:Nat} {s:Rn} (h:RunAt X w r s) (t:Td R w w') (hR:∀ k,X k->¬ R k):RunAt X w' r s:=by
 obtain ⟨ta,tc,wa,wc,h⟩:=h;refine ⟨ta,tc,wa,wc,t.heap h.box (hR r h.own),⟨h.tape.reads.turned t (fun k _ ⟨ad,e,e'⟩ hk=>?_),fun ad e=>⟨⟨(h.tape.ne ad e).1.1,Nat.lt_of_lt_of_le (h.tape.ne ad e).1.2 t.size⟩,(h.tape.ne ad e).2⟩,h.tape.short⟩,h.cap,⟨h.next.reads.turned t (fun k _ ⟨ad,e,e'⟩ hk=>?_),fun ad e=>⟨⟨(h.next.ne ad e).1.1,Nat.lt_of_lt_of_le (h.next.ne ad e).1.2 t.size⟩,(h.next.ne ad e).2⟩,h.next.short⟩,h.at_le,h.len,h.own⟩
 ·exact hR k (e' ▸ (h.tape.ne ad e).1.1) hk
 ·exact hR k (e' ▸ (h.next.ne ad e).1.1) hk
theorem RunIs.cells {w:World} {r:Nat} {s:Rn} {ta wa:Option Addr} {tc wc:Nat} (h:RunIs X w r s ta tc wa wc):w.cell? ⟨r,0,none⟩=some (.slice ta s.tape.length tc)/\w.cell? ⟨r,1,none⟩=some (.int .i64 (s.pos:Int))/\w.cell? ⟨r,2,none⟩=some (.bool s.off)/\w.cell? ⟨r,8,none⟩=some (.int .i64 s.rc)/\w.cell? ⟨r,9,none⟩=some (.int .i64 s.ld)/\∀ i,w.frozen? ⟨r,i,none⟩=false:=by
 have hb:=h.box;simp [World.cell?,World.frozen?,hb,runCells]
theorem RunIs.nexts {w:World} {r:Nat} {s:Rn} {ta wa:Option Addr} {tc wc:Nat} (h:RunIs X w r s ta tc wa wc):w.cell? ⟨r,3,none⟩=some (.int .i64 s.nx.k)/\w.cell? ⟨r,4,none⟩=some (.int .i64 s.nx.a)/\w.cell? ⟨r,5,none⟩=some (.int .i64 s.nx.x)/\w.cell? ⟨r,6,none⟩=some (.int .i64 s.nx.y)/\w.cell? ⟨r,7,none⟩=some (.slice wa s.nx.w.length wc):=by
 have hb:=h.box;simp [World.cell?,hb,runCells]
theorem RunIs.put {w w':World} {r:Nat} {s s':Rn} {ta wa wa':Option Addr} {tc wc wc':Nat} (h:RunIs X w r s ta tc wa wc) (t:Td (fun k=>k=r) w w') (hb:w'.heap[r]? = some (.cells (runCells s' ta tc wa' wc') 116)) (e1:s'.tape=s.tape) (e2:s'.pos<=s.tape.length) (hn:Far X w' r wa' s'.nx.w):RunIs X w' r s' ta tc wa' wc':=
 ⟨hb,by rw [e1];exact h.tape.turned t,by rw [e1];exact h.cap,hn,by rw [e1];exact e2,by rw [e1];exact h.len,h.own⟩
def Ran (X:Nat->Prop) (W:World) (r:Nat) (s':Rn) (W':World):Prop:=RunAt X W' r s'/\Td (fun k=>k=r) W W'
set_option maxHeartbeats 1000000 in
theorem ask_c (W:World) (r:Nat) (s:Rn) (q:Ak) (h:RunAt X W r s) (qa:Option Addr) (qn qc:Nat) (hqn:q.w.length=qn) (hq:Far X W r qa q.w) (z:Int) (s':Rn) (e1:s.ask q=(z,s')) :
  Calls Tryz.prog 167 #[.pointer (some ⟨r,0,none⟩),.agg #[.int .i64 q.k,.int .i64 q.a,.int .i64 q.x,.int .i64 q.y,.slice qa qn qc]] W fun e W'=>e=.returned (.int .i64 z)/\Ran X W r s' W':=by
 obtain ⟨ta,tc,wa,wc,h⟩:=h;obtain ⟨W1,hW1⟩:∃ W1,W.alloc (.cells #[.int .i64 q.k,.int .i64 q.a,.int .i64 q.x,.int .i64 q.y,.slice qa qn qc] 114)=W1:=⟨_,rfl⟩;obtain ⟨m,hm⟩:∃ m,W.heap.size=m:=⟨_,rfl⟩;have k1:Kept W W1:=by rw [<- hW1];exact (Kept.refl W).alloc _
 have bq:W1.heap[m]? = some (.cells #[.int .i64 q.k,.int .i64 q.a,.int .i64 q.x,.int .i64 q.y,.slice qa qn qc] 114):=by rw [<- hW1,<- hm];exact heap_new _ _
 have rm:r≠m:=by
  have:=(Array.getElem?_eq_some_iff.1 h.box).1
  omega
 have q0:W1.cell? ⟨m,0,none⟩=some (.int .i64 q.k):=by simp [World.cell?,bq]
 have q1:W1.cell? ⟨m,1,none⟩=some (.int .i64 q.a):=by simp [World.cell?,bq]
 have q2:W1.cell? ⟨m,2,none⟩=some (.int .i64 q.x):=by simp [World.cell?,bq]
 have q3:W1.cell? ⟨m,3,none⟩=some (.int .i64 q.y):=by simp [World.cell?,bq]
 have q4:W1.cell? ⟨m,4,none⟩=some (.slice qa qn qc):=by simp [World.cell?,bq]
 have h1:=h.kept k1;obtain ⟨c0,c1,c2,_,_,f⟩:=h1.cells;have f1:=f 1;have f2:=f 2;have f3:=f 3;have f4:=f 4;have f5:=f 5;have f6:=f 6;have f7:=f 7;have HQF:=gh (hq.kept k1);have hT:=h.at_le;have hL:=h.len;have hC:=h.cap;have H1:=gh h1;have K1:=gh k1;obtain ⟨T,hTT⟩:∃ T,s.tape.length=T:=⟨_,rfl⟩;have HT:=gh hTT;rw [hTT] at c0 hT hL hC;obtain ⟨n,hn⟩:∃ n,s.pos=n:=⟨_,rfl⟩;have HN:=gh hn;rw [hn] at c1 hT;cases ho:s.off with
 | true=>
  have HE:Hid (z=0/\s'=s):=gh (by rw [Rn.ask_off q ho] at e1;cases e1;exact ⟨rfl,rfl⟩);rw [ho] at c2;clear h h1 k1 hq e1 hqn f ho hTT hn;go_enter Tryz.func167,Tryz.ntmps167;go_wp2;go_ret;exact ⟨by rw [HE.o.1];rfl,by rw [HE.o.2];exact ⟨⟨ta,tc,wa,wc,H1.o⟩,K1.o.mono fun _ _ h=>h.elim⟩⟩
 | false=>
  rw [ho] at c2;have c2':Hid (s.off=false):=gh ho
  by_cases hlt:n < T
  ·obtain ⟨y,hy⟩:∃ y,s.tape[n]? = some y:=⟨_,List.getElem?_eq_getElem (by rw [hTT];exact hlt)⟩;have HE:Hid (z=y/\s'={ s with pos:=n+1,off:=false }):=gh (by
    unfold Rn.ask at e1;rw [ho,hn] at e1;simp only [Bool.false_eq_true,if_false] at e1;rw [if_pos (by rw [hTT];exact hlt),List.getD_eq_getElem?_getD,hy] at e1;cases e1;exact ⟨rfl,rfl⟩)
   obtain ⟨bl,off,rfl,_,cy⟩:=h1.tape.reads.at hy;have cy':W1.cell? ⟨bl,off+n,none⟩=some (.int .i64 y):=cy;have hbr:bl≠r:=(h1.tape.ne _ rfl).2;have i1:(n:Int) < (T:Int):=by omega
   have i2:(n:Int)+1 - 1=(n:Int):=by omega
   have i3:n < tc:=by omega
   clear h h1 k1 hq e1 hqn f ho hTT hn cy hy;go_enter Tryz.func167,Tryz.ntmps167;go_wp2;go_quiet (fail);go_wp2;go_quiet (fail);go_wp2;go_ret;refine ⟨by rw [HE.o.1];rfl,?_⟩;rw [HE.o.2];have T1:∀ (a b:Nat),Td (fun k=>k=r) W1 (((W1.drewN a).setCell ⟨r,1,none⟩ (.int .i64 ((n:Int)+1))).drewN b):=fun a b=>(Td.drewN (fun _=>False) W1 a).trans ((Td.setCell (R:=fun k=>k=r) _ _ _ rfl).trans (Td.drewN (fun k=>k=r) _ b) (fun _ e=>e) (fun _ _ e=>e)) (fun _ e=>e.elim) (fun _ _ e=>e);refine ⟨⟨some ⟨bl,off,none⟩,tc,wa,wc,H1.o.put (T1 _ _) ?_ rfl (by have:=HT.o;show n+1<=s.tape.length;omega) (H1.o.next.turned (T1 _ _))⟩,Kept.then K1.o (T1 _ _)⟩;have hb:=H1.o.box;simp [World.setCell,World.drewN,Array.getElem?_modify,hb,runCells,c2'.o]
  ·have HE:Hid (z=0/\s'={ s with pos:=n,off:=true,nx:=q }):=gh (by
    unfold Rn.ask at e1;rw [ho,hn] at e1;simp only [Bool.false_eq_true,if_false] at e1;rw [if_neg (by rw [hTT];exact hlt)] at e1;cases e1;exact ⟨rfl,rfl⟩)
   have i1:¬ ((n:Int) < (T:Int)):=by omega
   have i1n:decide (n < T)=false:=by simp;omega
   have o0:∀ (k i:Nat),((W1.drewN k).setCell ⟨r,2,none⟩ (.bool true)).cell? ⟨m,i,none⟩=W1.cell? ⟨m,i,none⟩:=fun k i=>World.cell?_setCell_other (W1.drewN k) ⟨r,2,none⟩ ⟨m,i,none⟩ (.bool true) (by simp);have g0:∀ k,((W1.drewN k).setCell ⟨r,2,none⟩ (.bool true)).cell? ⟨m,0,none⟩=some (.int .i64 q.k):=fun k=>(o0 k 0).trans q0;have g1:∀ k,((W1.drewN k).setCell ⟨r,2,none⟩ (.bool true)).cell? ⟨m,1,none⟩=some (.int .i64 q.a):=fun k=>(o0 k 1).trans q1;have g2:∀ k,((W1.drewN k).setCell ⟨r,2,none⟩ (.bool true)).cell? ⟨m,2,none⟩=some (.int .i64 q.x):=fun k=>(o0 k 2).trans q2;have g3:∀ k,((W1.drewN k).setCell ⟨r,2,none⟩ (.bool true)).cell? ⟨m,3,none⟩=some (.int .i64 q.y):=fun k=>(o0 k 3).trans q3;have g4:∀ k,((W1.drewN k).setCell ⟨r,2,none⟩ (.bool true)).cell? ⟨m,4,none⟩=some (.slice qa qn qc):=fun k=>(o0 k 4).trans q4;obtain ⟨c3,c4,c5,c6,c7⟩:=h1.nexts;clear h h1 k1 hq e1 f ho hTT hn hlt q0 q1 q2 q3 q4 bq o0;go_enter Tryz.func167,Tryz.ntmps167;go_wp2;go_quiet (fail);go_wp2;go_ret;refine ⟨by rw [HE.o.1];rfl,?_⟩;rw [HE.o.2];have T1:∀ (a:Nat),Td (fun k=>k=r) W1 (((((((W1.drewN a).setCell ⟨r,2,none⟩ (.bool true)).setCell ⟨r,3,none⟩ (.int .i64 q.k)).setCell ⟨r,4,none⟩ (.int .i64 q.a)).setCell ⟨r,5,none⟩ (.int .i64 q.x)).setCell ⟨r,6,none⟩ (.int .i64 q.y)).setCell ⟨r,7,none⟩ (.slice qa qn qc)):=fun a=>
    (Td.drewN (fun k=>k=r) W1 a).trans ((Td.setCell (R:=fun k=>k=r) _ _ _ rfl).trans ((Td.setCell (R:=fun k=>k=r) _ _ _ rfl).trans ((Td.setCell (R:=fun k=>k=r) _ _ _ rfl).trans ((Td.setCell (R:=fun k=>k=r) _ _ _ rfl).trans ((Td.setCell (R:=fun k=>k=r) _ _ _ rfl).trans (Td.setCell (R:=fun k=>k=r) _ _ _ rfl) (fun _ e=>e) (fun _ _ e=>e)) (fun _ e=>e) (fun _ _ e=>e)) (fun _ e=>e) (fun _ _ e=>e)) (fun _ e=>e) (fun _ _ e=>e)) (fun _ e=>e) (fun _ _ e=>e)) (fun _ e=>e) (fun _ _ e=>e)
   refine ⟨⟨ta,tc,qa,qc,H1.o.put (T1 _) ?_ rfl (by have:=HT.o;show n<=s.tape.length;omega) (HQF.o.turned (T1 _))⟩,Kept.then K1.o (T1 _)⟩;have hb:=H1.o.box;have hn:=HN.o;simp [World.setCell,World.drewN,Array.getElem?_modify,hb,runCells,hqn,hn]
end
section
variable {X:Nat->Prop}
def Rn.ok (s:Rn):Prop:=∀ z ∈ s.tape,I64 z
theorem Rn.ok.ask {s:Rn} (h:s.ok) (q:Ak):(s.ask q).2.ok:=by unfold Rn.ok;rw [Rn.ask_tape];exact h
theorem Ran.trans {W W' W'':World} {r:Nat} {s s':Rn} (h:Ran X W r s W') (h':Ran X W' r s' W''):Ran X W r s' W'':=
 ⟨h'.1,h.2.trans h'.2 (fun _ e=>e) (fun _ _ e=>e)⟩
theorem Ran.refl {W:World} {r:Nat} {s:Rn} (h:RunAt X W r s):Ran X W r s W:=⟨h,(Kept.refl W).mono fun _ _ e=>e.elim⟩
theorem read_r (W:World) (r:Nat) (s:Rn) (a:Int) (h:RunAt X W r s) (z:Int) (s':Rn) (e1:s.read a=(z,s')) :
  Calls Tryz.prog 146 #[.pointer (some ⟨r,0,none⟩),.int .i64 a] W fun e W'=>e=.returned (.int .i64 z)/\Ran X W r s' W':=by
 have H:=gh h;have E:=gh e1;clear h e1;go_enter Tryz.func146,Tryz.ntmps146;go_wp2_with (fail);refine (ask_c _ r s ⟨1,a,0,0,[]⟩ H.o none 0 0 rfl (Far.none _ _) z s' E.o).mono ?_;rintro e W' ⟨rfl,hr⟩;go_wp2;go_ret;exact ⟨rfl,hr⟩
theorem write_r (W:World) (r:Nat) (s:Rn) (a x:Int) (h:RunAt X W r s) (s':Rn) (e1:s.write a x=s') :
  Calls Tryz.prog 153 #[.pointer (some ⟨r,0,none⟩),.int .i64 a,.int .i64 x] W fun e W'=>e=.returned (.tuple #[])/\Ran X W r s' W':=by
 obtain ⟨z,hz⟩:∃ z,(s.ask ⟨2,a,x,0,[]⟩)=(z,s'):=⟨(s.ask ⟨2,a,x,0,[]⟩).1,by rw [<- e1];rfl⟩;have H:=gh h;have E:=gh hz;clear h e1 hz;go_enter Tryz.func153,Tryz.ntmps153;go_wp2_with (fail);refine (ask_c _ r s ⟨2,a,x,0,[]⟩ H.o none 0 0 rfl (Far.none _ _) z s' E.o).mono ?_;rintro e W' ⟨rfl,hr⟩;go_wp2
 go_end0
 exact ⟨rfl,hr⟩
theorem add_r (W:World) (r:Nat) (s:Rn) (a x:Int) (h:RunAt X W r s) (z:Int) (s':Rn) (e1:s.add a x=(z,s')) :
  Calls Tryz.prog 161 #[.pointer (some ⟨r,0,none⟩),.int .i64 a,.int .i64 x] W fun e W'=>e=.returned (.int .i64 z)/\Ran X W r s' W':=by
 have H:=gh h;have E:=gh e1;clear h e1;go_enter Tryz.func161,Tryz.ntmps161;go_wp2_with (fail);refine (ask_c _ r s ⟨4,a,x,0,[]⟩ H.o none 0 0 rfl (Far.none _ _) z s' E.o).mono ?_;rintro e W' ⟨rfl,hr⟩;go_wp2;go_ret;exact ⟨rfl,hr⟩
theorem cas_r (W:World) (r:Nat) (s:Rn) (a x y:Int) (h:RunAt X W r s) (b:Bool) (s':Rn) (e1:s.cas a x y=(b,s')) :
  Calls Tryz.prog 147 #[.pointer (some ⟨r,0,none⟩),.int .i64 a,.int .i64 x,.int .i64 y] W fun e W'=>e=.returned (.bool b)/\Ran X W r s' W':=by
 obtain ⟨z,hz⟩:∃ z,(s.ask ⟨3,a,x,y,[]⟩)=(z,s'):=⟨(s.ask ⟨3,a,x,y,[]⟩).1,by have:(s.ask ⟨3,a,x,y,[]⟩).2=s':=congrArg Prod.snd e1;rw [<- this]⟩;have hb:Hid ((z == 1)=b):=gh (by have:((s.ask ⟨3,a,x,y,[]⟩).1 == 1)=b:=congrArg Prod.fst e1;rw [<- this,hz]);have H:=gh h;have E:=gh hz;clear h e1 hz;go_enter Tryz.func147,Tryz.ntmps147;go_wp2_with (fail);refine (ask_c _ r s ⟨3,a,x,y,[]⟩ H.o none 0 0 rfl (Far.none _ _) z s' E.o).mono ?_;rintro e W' ⟨rfl,hr⟩;go_wp2;go_ret;exact ⟨by rw [<- hb.o];rfl,hr⟩
theorem make_r (W:World) (r:Nat) (s:Rn) (wa:Option Addr) (wn wc:Nat) (ws:List Int) (h:RunAt X W r s) (hq:Far X W r wa ws) (hl:ws.length=wn) (z:Int) (s':Rn) (e1:s.make ws=(z,s')) :
  Calls Tryz.prog 148 #[.pointer (some ⟨r,0,none⟩),.slice wa wn wc] W fun e W'=>e=.returned (.tuple #[.int .i64 z,.bool (decide (0 < z))])/\Ran X W r s' W':=by
 have H:=gh h;have HQ:=gh hq;have E:=gh e1;clear h e1 hq;go_enter Tryz.func148,Tryz.ntmps148;go_wp2_with (fail);refine (ask_c _ r s ⟨5,0,0,0,ws⟩ H.o wa wn wc hl HQ.o z s' E.o).mono ?_;rintro e W' ⟨rfl,hr⟩;go_wp2
 go_ret2
 exact ⟨rfl,hr⟩
end
section
variable {X:Nat->Prop}
theorem Rn.ok.read {s:Rn} (h:s.ok) {a z:Int} {s':Rn} (e:s.read a=(z,s')):I64 z/\s'.ok:=by
 have h1:=Rn.ask_i64 (s:=s) ⟨1,a,0,0,[]⟩ h;have h2:=Rn.ok.ask h ⟨1,a,0,0,[]⟩;have e1:s.ask ⟨1,a,0,0,[]⟩=(z,s'):=e;rw [e1] at h1 h2;exact ⟨h1,h2⟩
def Rn.peek (s:Rn) (a:Int):Int × Rn:=
 let x:=s.read a
 if kd x.1=5 then
  let o:=x.2.read (ad x.1+4)
  if o.1=1 then o.2.read (ad x.1+3) else o.2.read (ad x.1+2)
 else x
def Rn.help (s:Rn) (a:Int):Rn:=
 let p:=s.read a
 let g:=p.2.read p.1
 let c:=g.2.cas (a+4) 0 (if g.1=0 then 1 else 2)
 let o:=c.2.read (a+4)
 let t:=o.2.read (a+1)
 let v:=if o.1=1 then t.2.read (a+3) else t.2.read (a+2)
 (v.2.cas t.1 (Rf.ofZ 5 a) v.1).2
theorem ofr_c (k t:Int) (z:Int) (hz:Rf.ofZ k t=z) (w:World):Calls Tryz.prog 51 #[.int .i64 k,.int .i64 t] w fun e w'=>e=.returned (.int .i64 z)/\w=w':=by
 subst hz
 by_cases c1:1<=k
 ·by_cases c2:k<=5
  ·by_cases c3:1<=t
   ·by_cases c4:t<=65536
    ·have eo:Rf.ofZ k t=8 * t+k:=by simp [Rf.ofZ,Rf.may,c1,c2,c3,c4]
     rw [eo];go_enter Tryz.func51,Tryz.ntmps51;go_wp2;go_ret;exact ⟨rfl,rfl⟩
    ·have eo:Rf.ofZ k t=0:=by simp [Rf.ofZ,Rf.may];omega
     rw [eo];go_enter Tryz.func51,Tryz.ntmps51;go_wp2;go_ret;exact ⟨rfl,rfl⟩
   ·have eo:Rf.ofZ k t=0:=by simp [Rf.ofZ,Rf.may];omega
    rw [eo];go_enter Tryz.func51,Tryz.ntmps51;go_wp2;go_ret;exact ⟨rfl,rfl⟩
  ·have eo:Rf.ofZ k t=0:=by simp [Rf.ofZ,Rf.may];omega
   rw [eo];go_enter Tryz.func51,Tryz.ntmps51;go_wp2;go_ret;exact ⟨rfl,rfl⟩
 ·have eo:Rf.ofZ k t=0:=by simp [Rf.ofZ,Rf.may];omega
  rw [eo];go_enter Tryz.func51,Tryz.ntmps51;go_wp2;go_ret;exact ⟨rfl,rfl⟩
theorem peek_r (W:World) (r:Nat) (s:Rn) (a:Int) (h:RunAt X W r s) (ho:s.ok) (z:Int) (s':Rn) (e1:s.peek a=(z,s')) :
  Calls Tryz.prog 121 #[.pointer (some ⟨r,0,none⟩),.int .i64 a] W fun e W'=>e=.returned (.int .i64 z)/\Ran X W r s' W':=by
 have H:=gh h;obtain ⟨x,s1,hx⟩:∃ x s1,s.read a=(x,s1):=⟨_,_,rfl⟩;obtain ⟨ix,ok1⟩:=ho.read hx;have IX:=gh ix;have HX:=gh hx;obtain ⟨k,hk⟩:∃ k,kd x=k:=⟨_,rfl⟩;obtain ⟨p,hp⟩:∃ p,ad x=p:=⟨_,rfl⟩;have kr:=ad_range x;rw [hp] at kr;obtain ⟨p0,p1⟩:=kr;have HK:=gh hk;have HP:=gh hp;unfold Rn.peek at e1;simp only [hx,hk,hp] at e1
 by_cases hk5:k=5
 ·rw [if_pos hk5] at e1;obtain ⟨o,s2,h2⟩:∃ o s2,s1.read (p+4)=(o,s2):=⟨_,_,rfl⟩;have H2:=gh h2;rw [h2] at e1
  by_cases ho1:o=1
  ·have E3:Hid (s2.read (p+3)=(z,s')):=gh (by rw [<- e1];exact (if_pos ho1).symm);subst hk5 ho1;clear h ho hx hk hp h2 e1 ix ok1;go_enter Tryz.func121,Tryz.ntmps121;go_wp2_with (fail);refine (read_r _ r s a H.o x s1 HX.o).mono ?_;rintro e W1 ⟨rfl,R1⟩;go_wp2_with (fail);refine (kk_d _ x 5 IX.o HK.o).mono ?_;rintro e w' ⟨rfl,rfl⟩;go_wp2_with (fail);refine (ak_d _ x p IX.o HP.o).mono ?_;rintro e w' ⟨rfl,rfl⟩;go_wp2_with (fail);refine (read_r _ r s1 (p+4) R1.1 1 s2 H2.o).mono ?_;rintro e W2 ⟨rfl,R2⟩;go_wp2_with (fail);refine (read_r _ r s2 (p+3) R2.1 z s' E3.o).mono ?_;rintro e W3 ⟨rfl,R3⟩;go_wp2;go_ret;exact ⟨rfl,(R1.trans R2).trans R3⟩
  ·have E3:Hid (s2.read (p+2)=(z,s')):=gh (by rw [<- e1];exact (if_neg ho1).symm);have g1:(o == 1)=false:=by simp [ho1]
   have g2:(o != 1)=true:=by simp [ho1]
   subst hk5;clear h ho hx hk hp h2 e1 ix ok1;go_enter Tryz.func121,Tryz.ntmps121;go_wp2_with (fail);refine (read_r _ r s a H.o x s1 HX.o).mono ?_;rintro e W1 ⟨rfl,R1⟩;go_wp2_with (fail);refine (kk_d _ x 5 IX.o HK.o).mono ?_;rintro e w' ⟨rfl,rfl⟩;go_wp2_with (fail);refine (ak_d _ x p IX.o HP.o).mono ?_;rintro e w' ⟨rfl,rfl⟩;go_wp2_with (fail);refine (read_r _ r s1 (p+4) R1.1 o s2 H2.o).mono ?_;rintro e W2 ⟨rfl,R2⟩;go_wp2_with (fail);refine (read_r _ r s2 (p+2) R2.1 z s' E3.o).mono ?_;rintro e W3 ⟨rfl,R3⟩;go_wp2;go_ret;exact ⟨rfl,(R1.trans R2).trans R3⟩
 ·rw [if_neg hk5] at e1;have e2:x=z:=congrArg Prod.fst e1;have e3:s1=s':=congrArg Prod.snd e1;have g1:(k == 5)=false:=by simp [hk5]
  have g2:(k != 5)=true:=by simp [hk5]
  subst e2 e3;clear h ho hx hk hp e1 ix ok1;go_enter Tryz.func121,Tryz.ntmps121;go_wp2_with (fail);refine (read_r _ r s a H.o x s1 HX.o).mono ?_;rintro e W1 ⟨rfl,R1⟩;go_wp2_with (fail);refine (kk_d _ x k IX.o HK.o).mono ?_;rintro e w' ⟨rfl,rfl⟩;go_wp2;go_ret;exact ⟨rfl,R1⟩
theorem help_r (W:World) (r:Nat) (s:Rn) (a:Int) (h:RunAt X W r s) (a0:0<=a) (a1:a<=65536) (s':Rn) (e1:s.help a=s') :
  Calls Tryz.prog 122 #[.pointer (some ⟨r,0,none⟩),.int .i64 a] W fun e W'=>e=.returned (.tuple #[])/\Ran X W r s' W':=by
 have H:=gh h;obtain ⟨p,s1,hp⟩:∃ x s1,s.read a=(x,s1):=⟨_,_,rfl⟩;obtain ⟨g,s2,hg⟩:∃ x s2,s1.read p=(x,s2):=⟨_,_,rfl⟩;obtain ⟨c,s3,hc⟩:∃ x s3,s2.cas (a+4) 0 (if g=0 then 1 else 2)=(x,s3):=⟨_,_,rfl⟩;obtain ⟨o,s4,ho⟩:∃ x s4,s3.read (a+4)=(x,s4):=⟨_,_,rfl⟩;obtain ⟨t,s5,ht⟩:∃ x s5,s4.read (a+1)=(x,s5):=⟨_,_,rfl⟩;obtain ⟨v,s6,hv⟩:∃ x s6,(if o=1 then s5.read (a+3) else s5.read (a+2))=(x,s6):=⟨_,_,rfl⟩;obtain ⟨q,hq⟩:∃ q,Rf.ofZ 5 a=q:=⟨_,rfl⟩;have HQ:=gh hq;obtain ⟨y,hy⟩:∃ y,s6.cas t q v=(y,s'):=by
  unfold Rn.help at e1;simp only [hp,hg,hc,ho,ht,hv,hq] at e1;exact ⟨(s6.cas t q v).1,by rw [<- e1]⟩
 have HP:=gh hp;have HY:=gh hy;have HT:=gh ht;clear e1 hq hy
 by_cases hg0:g=0
 ·rw [if_pos hg0] at hc;have HC:=gh hc;subst hg0;have HG:=gh hg
  by_cases ho1:o=1
  ·rw [if_pos ho1] at hv;have HV:=gh hv;subst ho1;have HO:=gh ho;clear h hp hg hc ho ht hv;go_enter Tryz.func122,Tryz.ntmps122;go_wp2_with (fail);refine (read_r _ r s a H.o p s1 HP.o).mono ?_;rintro e W1 ⟨rfl,R1⟩;go_wp2_with (fail);refine (read_r _ r s1 p R1.1 0 s2 HG.o).mono ?_;rintro e W2 ⟨rfl,R2⟩;go_wp2_with (fail);refine (cas_r _ r s2 (a+4) 0 1 R2.1 c s3 HC.o).mono ?_;rintro e W3 ⟨rfl,R3⟩;go_wp2_with (fail);refine (read_r _ r s3 (a+4) R3.1 1 s4 HO.o).mono ?_;rintro e W4 ⟨rfl,R4⟩;go_wp2_with (fail);refine (read_r _ r s4 (a+1) R4.1 t s5 HT.o).mono ?_;rintro e W5 ⟨rfl,R5⟩;go_wp2_with (fail);refine (read_r _ r s5 (a+3) R5.1 v s6 HV.o).mono ?_;rintro e W6 ⟨rfl,R6⟩;go_wp2_with (fail);refine (ofr_c 5 a q HQ.o _).mono ?_;rintro e w' ⟨rfl,rfl⟩;go_wp2_with (fail);refine (cas_r _ r s6 t q v R6.1 y s' HY.o).mono ?_;rintro e W7 ⟨rfl,R7⟩;go_wp2
   go_end0
   exact ⟨rfl,(((((R1.trans R2).trans R3).trans R4).trans R5).trans R6).trans R7⟩
  ·rw [if_neg ho1] at hv;have HV:=gh hv;have HO:=gh ho;have g1:(o == 1)=false:=by simp [ho1]
   have g2:(o != 1)=true:=by simp [ho1]
   clear h hp hg hc ho ht hv;go_enter Tryz.func122,Tryz.ntmps122;go_wp2_with (fail);refine (read_r _ r s a H.o p s1 HP.o).mono ?_;rintro e W1 ⟨rfl,R1⟩;go_wp2_with (fail);refine (read_r _ r s1 p R1.1 0 s2 HG.o).mono ?_;rintro e W2 ⟨rfl,R2⟩;go_wp2_with (fail);refine (cas_r _ r s2 (a+4) 0 1 R2.1 c s3 HC.o).mono ?_;rintro e W3 ⟨rfl,R3⟩;go_wp2_with (fail);refine (read_r _ r s3 (a+4) R3.1 o s4 HO.o).mono ?_;rintro e W4 ⟨rfl,R4⟩;go_wp2_with (fail);refine (read_r _ r s4 (a+1) R4.1 t s5 HT.o).mono ?_;rintro e W5 ⟨rfl,R5⟩;go_wp2_with (fail);refine (read_r _ r s5 (a+2) R5.1 v s6 HV.o).mono ?_;rintro e W6 ⟨rfl,R6⟩;go_wp2_with (fail);refine (ofr_c 5 a q HQ.o _).mono ?_;rintro e w' ⟨rfl,rfl⟩;go_wp2_with (fail);refine (cas_r _ r s6 t q v R6.1 y s' HY.o).mono ?_;rintro e W7 ⟨rfl,R7⟩;go_wp2
   go_end0
   exact ⟨rfl,(((((R1.trans R2).trans R3).trans R4).trans R5).trans R6).trans R7⟩
 ·rw [if_neg hg0] at hc;have HC:=gh hc;have HG:=gh hg;have g3:(g == 0)=false:=by simp [hg0]
  have g4:(g != 0)=true:=by simp [hg0]
  by_cases ho1:o=1
  ·rw [if_pos ho1] at hv;have HV:=gh hv;subst ho1;have HO:=gh ho;clear h hp hg hc ho ht hv;go_enter Tryz.func122,Tryz.ntmps122;go_wp2_with (fail);refine (read_r _ r s a H.o p s1 HP.o).mono ?_;rintro e W1 ⟨rfl,R1⟩;go_wp2_with (fail);refine (read_r _ r s1 p R1.1 g s2 HG.o).mono ?_;rintro e W2 ⟨rfl,R2⟩;go_wp2_with (fail);refine (cas_r _ r s2 (a+4) 0 2 R2.1 c s3 HC.o).mono ?_;rintro e W3 ⟨rfl,R3⟩;go_wp2_with (fail);refine (read_r _ r s3 (a+4) R3.1 1 s4 HO.o).mono ?_;rintro e W4 ⟨rfl,R4⟩;go_wp2_with (fail);refine (read_r _ r s4 (a+1) R4.1 t s5 HT.o).mono ?_;rintro e W5 ⟨rfl,R5⟩;go_wp2_with (fail);refine (read_r _ r s5 (a+3) R5.1 v s6 HV.o).mono ?_;rintro e W6 ⟨rfl,R6⟩;go_wp2_with (fail);refine (ofr_c 5 a q HQ.o _).mono ?_;rintro e w' ⟨rfl,rfl⟩;go_wp2_with (fail);refine (cas_r _ r s6 t q v R6.1 y s' HY.o).mono ?_;rintro e W7 ⟨rfl,R7⟩;go_wp2
   go_end0
   exact ⟨rfl,(((((R1.trans R2).trans R3).trans R4).trans R5).trans R6).trans R7⟩
  ·rw [if_neg ho1] at hv;have HV:=gh hv;have HO:=gh ho;have g1:(o == 1)=false:=by simp [ho1]
   have g2:(o != 1)=true:=by simp [ho1]
   clear h hp hg hc ho ht hv;go_enter Tryz.func122,Tryz.ntmps122;go_wp2_with (fail);refine (read_r _ r s a H.o p s1 HP.o).mono ?_;rintro e W1 ⟨rfl,R1⟩;go_wp2_with (fail);refine (read_r _ r s1 p R1.1 g s2 HG.o).mono ?_;rintro e W2 ⟨rfl,R2⟩;go_wp2_with (fail);refine (cas_r _ r s2 (a+4) 0 2 R2.1 c s3 HC.o).mono ?_;rintro e W3 ⟨rfl,R3⟩;go_wp2_with (fail);refine (read_r _ r s3 (a+4) R3.1 o s4 HO.o).mono ?_;rintro e W4 ⟨rfl,R4⟩;go_wp2_with (fail);refine (read_r _ r s4 (a+1) R4.1 t s5 HT.o).mono ?_;rintro e W5 ⟨rfl,R5⟩;go_wp2_with (fail);refine (read_r _ r s5 (a+2) R5.1 v s6 HV.o).mono ?_;rintro e W6 ⟨rfl,R6⟩;go_wp2_with (fail);refine (ofr_c 5 a q HQ.o _).mono ?_;rintro e w' ⟨rfl,rfl⟩;go_wp2_with (fail);refine (cas_r _ r s6 t q v R6.1 y s' HY.o).mono ?_;rintro e W7 ⟨rfl,R7⟩;go_wp2
   go_end0
   exact ⟨rfl,(((((R1.trans R2).trans R3).trans R4).trans R5).trans R6).trans R7⟩
end
section
variable {X:Nat->Prop}
def leftAt (W:World) (r:Nat):Nat:=
 match W.cell? ⟨r,0,none⟩,W.cell? ⟨r,1,none⟩,W.cell? ⟨r,2,none⟩ with
 | some (.slice _ n _),some (.int _ p),some (.bool b)=>(n - p.toNat)+(if b=true then 0 else 1)
 | _,_,_=>0
theorem RunAt.leftAt {W:World} {r:Nat} {s:Rn} (h:RunAt X W r s):leftAt W r=s.left:=by
 obtain ⟨ta,tc,wa,wc,h⟩:=h;obtain ⟨c0,c1,c2,_⟩:=h.cells;unfold YtoaicedkepcalaaGreat.leftAt;rw [c0,c1,c2];rfl
theorem Ran.leftAt {W W':World} {r:Nat} {s:Rn} (h:Ran X W r s W'):leftAt W' r=s.left:=h.1.leftAt
namespace Rn
theorem read_lt {s:Rn} (a:Int) (h:s.off=false):(s.read a).2.left < s.left:=ask_left _ h
theorem read_le (s:Rn) (a:Int):(s.read a).2.left<=s.left:=ask_le _ _
theorem write_le (s:Rn) (a x:Int):(s.write a x).left<=s.left:=ask_le _ _
structure On (s s':Rn):Prop where
 tape:s'.tape=s.tape
 left:s'.left<=s.left
theorem On.refl (s:Rn):On s s:=⟨rfl,Nat.le_refl _⟩
theorem On.trans {s s' s'':Rn} (h:On s s') (h':On s' s''):On s s'':=⟨h'.tape.trans h.tape,Nat.le_trans h'.left h.left⟩
theorem On.ok {s s':Rn} (h:On s s') (ho:s.ok):s'.ok:=by unfold Rn.ok;rw [h.tape];exact ho
theorem On.lt {s s' s'':Rn} (h:On s' s'') (h':s'.left < s.left):s''.left < s.left:=Nat.lt_of_le_of_lt h.left h'
theorem ask_on (s:Rn) (q:Ak):On s (s.ask q).2:=⟨ask_tape s q,ask_le s q⟩
theorem read_on {s:Rn} {a:Int} {x:Int × Rn} (h:s.read a=x):On s x.2:=h ▸ ask_on s _
theorem cas_on {s:Rn} {a y d:Int} {x:Bool × Rn} (h:s.cas a y d=x):On s x.2:=h ▸ ask_on s _
theorem make_on {s:Rn} {w:List Int} {x:Int × Rn} (h:s.make w=x):On s x.2:=h ▸ ask_on s _
theorem help_on (s:Rn) (a:Int):On (s.read a).2 (s.help a):=by
 unfold help;dsimp only;generalize s.read a=p;generalize hg:p.2.read p.1=g;generalize hc:g.2.cas (a+4) 0 (if g.1=0 then 1 else 2)=c;generalize ho:c.2.read (a+4)=o;generalize ht:o.2.read (a+1)=t;have h:=((read_on hg).trans (cas_on hc)).trans ((read_on ho).trans (read_on ht))
 split
 ·generalize hv:t.2.read (a+3)=v;exact h.trans ((read_on hv).trans (cas_on rfl))
 ·generalize hv:t.2.read (a+2)=v;exact h.trans ((read_on hv).trans (cas_on rfl))
theorem help_from (s:Rn) (a:Int):(s.help a).left<=(s.read a).2.left:=(help_on s a).left
theorem help_lt {s:Rn} (a:Int) (h:s.off=false):(s.help a).left < s.left:=Nat.lt_of_le_of_lt (help_from s a) (read_lt a h)
theorem peek_from (s:Rn) (a:Int):(s.peek a).2.left<=(s.read a).2.left:=by
 unfold peek;dsimp only
 split
 ·split
  ·exact Nat.le_trans (read_le _ _) (read_le _ _)
  ·exact Nat.le_trans (read_le _ _) (read_le _ _)
 ·exact Nat.le_refl _
theorem peek_lt {s:Rn} (a:Int) (h:s.off=false):(s.peek a).2.left < s.left:=Nat.lt_of_le_of_lt (peek_from s a) (read_lt a h)
theorem ok.help {s:Rn} (h:s.ok) (a:Int):(s.help a).ok:=((read_on rfl).trans (help_on s a)).ok h
theorem ok.peek {s:Rn} (h:s.ok) {a z:Int} {s':Rn} (e:s.peek a=(z,s')):I64 z/\s'.ok:=by
 have h1:=(h.read (a:=a) (z:=(s.read a).1) (s':=(s.read a).2) rfl).2;have h2:=(h1.read (a:=ad (s.read a).1+4) rfl).2;unfold Rn.peek at e;dsimp only at e
 split at e
 ·split at e
  ·exact h2.read e
  ·exact h2.read e
 ·exact h.read e
def slotL (s:Rn) (a z:Int):Int × Rn:=
 if _:s.off=false/\kd z=5 then slotL ((s.help (ad z)).read a).2 a ((s.help (ad z)).read a).1 else (z,s)
 termination_by s.left
 decreasing_by
  rename_i h;exact Nat.lt_of_le_of_lt (read_le _ _) (help_lt _ h.1)
def slot (s:Rn) (a:Int):Int × Rn:=slotL (s.read a).2 a (s.read a).1
theorem slotL_go {s:Rn} {a z y:Int} {t:Rn} (h:s.off=false) (hk:kd z=5) (e:(s.help (ad z)).read a=(y,t)):s.slotL a z=t.slotL a y:=by
 rw [slotL,dif_pos ⟨h,hk⟩,e]
theorem slotL_stop {s:Rn} {a z:Int} (h:¬ (s.off=false/\kd z=5)):s.slotL a z=(z,s):=by
 rw [slotL,dif_neg h]
theorem slotL_le (n:Nat):∀ (s:Rn) (a z:Int),s.left<=n->(s.slotL a z).2.left<=s.left:=by
 induction n with
 | zero=>
  intro s a z h
  have:¬ (s.off=false/\kd z=5):=by rintro ⟨h1,_⟩;unfold left at h;rw [h1] at h;simp at h
  rw [slotL_stop this];exact Nat.le_refl _
 | succ n ih=>
  intro s a z h
  by_cases hc:s.off=false/\kd z=5
  ·have hl:((s.help (ad z)).read a).2.left < s.left:=Nat.lt_of_le_of_lt (read_le _ _) (help_lt _ hc.1);rw [slotL_go hc.1 hc.2 (y:=((s.help (ad z)).read a).1) (t:=((s.help (ad z)).read a).2) rfl];exact Nat.le_trans (ih _ _ _ (by omega)) (by omega)
  ·rw [slotL_stop hc];exact Nat.le_refl _
theorem slot_from (s:Rn) (a:Int):(s.slot a).2.left<=(s.read a).2.left:=slotL_le _ _ _ _ (Nat.le_refl _)
theorem slot_le (s:Rn) (a:Int):(s.slot a).2.left<=s.left:=Nat.le_trans (slot_from s a) (read_le s a)
theorem slot_lt {s:Rn} (a:Int) (h:s.off=false):(s.slot a).2.left < s.left:=Nat.lt_of_le_of_lt (slot_from s a) (read_lt a h)
theorem ok.slotL (n:Nat):∀ {s:Rn},s.left<=n->s.ok->∀ {a z:Int},I64 z->I64 (s.slotL a z).1/\(s.slotL a z).2.ok:=by
 induction n with
 | zero=>
  intro s h ho a z iz
  have:¬ (s.off=false/\kd z=5):=by rintro ⟨h1,_⟩;unfold left at h;rw [h1] at h;simp at h
  rw [slotL_stop this];exact ⟨iz,ho⟩
 | succ n ih=>
  intro s h ho a z iz
  by_cases hc:s.off=false/\kd z=5
  ·have hl:((s.help (ad z)).read a).2.left < s.left:=Nat.lt_of_le_of_lt (read_le _ _) (help_lt _ hc.1);rw [slotL_go hc.1 hc.2 (y:=((s.help (ad z)).read a).1) (t:=((s.help (ad z)).read a).2) rfl];have h1:=(ho.help (ad z)).read (a:=a) (z:=((s.help (ad z)).read a).1) (s':=((s.help (ad z)).read a).2) rfl;exact ih (by omega) h1.2 h1.1
  ·rw [slotL_stop hc];exact ⟨iz,ho⟩
theorem ok.slot {s:Rn} (h:s.ok) {a z:Int} {s':Rn} (e:s.slot a=(z,s')):I64 z/\s'.ok:=by
 have h1:=h.read (a:=a) (z:=(s.read a).1) (s':=(s.read a).2) rfl
 have:=ok.slotL _ (Nat.le_refl _) h1.2 (a:=a) h1.1
 have e':(s.read a).2.slotL a (s.read a).1=(z,s'):=e;rw [e'] at this;exact this
end Rn
theorem slot_r (W:World) (r:Nat) (s:Rn) (a:Int) (h:RunAt X W r s) (ho:s.ok) (z:Int) (s':Rn) (e1:s.slot a=(z,s')) :
  Calls Tryz.prog 123 #[.pointer (some ⟨r,0,none⟩),.int .i64 a] W fun e W'=>e=.returned (.int .i64 z)/\Ran X W r s' W':=by
 have H:=gh h;obtain ⟨x,s1,hx⟩:∃ x s1,s.read a=(x,s1):=⟨_,_,rfl⟩;obtain ⟨ix,ok1⟩:=ho.read hx;have e2:s1.slotL a x=(z,s'):=by rw [<- e1];unfold Rn.slot;rw [hx]
 have HI:=gh (And.intro ix (And.intro ok1 e2));have HX:=gh hx;clear h ho hx e1 e2 ix ok1;go_enter Tryz.func123,Tryz.ntmps123;go_wp2_with (fail);refine (read_r _ r s a H.o x s1 HX.o).mono ?_;rintro e W1 ⟨rfl,R1⟩;go_wp2_with (fail)
 go_loopw [5] (fun v wr=>∃ y t,v=.int .i64 y/\Ran X W r t wr/\t.ok/\I64 y/\t.slotL a y=(z,s')) (fun _ wr=>leftAt wr r)
 case atStart=>exact ⟨x,s1,rfl,R1,HI.o.2.1,HI.o.1,HI.o.2.2⟩
 case round=>
  obtain ⟨y,t,rfl,R,okt,iy,E⟩:=hrel;have E':=gh E;have IY:=gh iy;have OK:=gh okt;obtain ⟨ta,tc,wa,wc,RI⟩:=R.1;obtain ⟨_,_,c2,_,_,f⟩:=RI.cells;clear E iy okt f RI;cases ho:t.off with
  | true=>
   rw [ho] at c2;have e3:y=z/\t=s':=by
    have:=E'.o
    rw [Rn.slotL_stop (by rw [ho];rintro ⟨h,_⟩;cases h)] at this;exact ⟨congrArg Prod.fst this,congrArg Prod.snd this⟩
   obtain ⟨rfl,rfl⟩:=e3;clear ho;go_wp2;go_ret;exact ⟨rfl,R⟩
  | false=>
   rw [ho] at c2;obtain ⟨k,hk⟩:∃ k,kd y=k:=⟨_,rfl⟩;have HK:=gh hk;have HF:=gh ho
   by_cases hk5:k=5
   ·obtain ⟨p,hp⟩:∃ p,ad y=p:=⟨_,rfl⟩;have HP:=gh hp;have kr:=ad_range y;rw [hp] at kr;obtain ⟨p0,p1⟩:=kr;obtain ⟨t1,h1⟩:∃ t1,t.help p=t1:=⟨_,rfl⟩;obtain ⟨y2,t2,h2⟩:∃ y2 t2,t1.read a=(y2,t2):=⟨_,_,rfl⟩;have HG:=gh h1;have H2:=gh h2;have E3:Hid (t2.slotL a y2=(z,s')):=gh (by
     rw [<- E'.o];exact (Rn.slotL_go ho (hk.trans hk5) (by rw [hp,h1];exact h2)).symm)
    have L:Hid (t2.left < t.left/\I64 y2/\t2.ok):=gh (by
     have o1:t1.ok:=by rw [<- h1];exact OK.o.help p
     have l1:t1.left < t.left:=by rw [<- h1];exact Rn.help_lt p ho
     have l2:=(Rn.read_on h2).left;exact ⟨Nat.lt_of_le_of_lt l2 l1,o1.read h2⟩)
    subst hk5;clear hk ho hp h1 h2;go_wp2_with (fail);refine (kk_d _ y 5 IY.o HK.o).mono ?_;rintro e w' ⟨rfl,rfl⟩;go_wp2_with (fail);refine (ak_d _ y p IY.o HP.o).mono ?_;rintro e w' ⟨rfl,rfl⟩;go_wp2_with (fail);refine (help_r _ r t p R.1 p0 p1 t1 HG.o).mono ?_;rintro e W2 ⟨rfl,R2⟩;go_wp2_with (fail);refine (read_r _ r t1 a R2.1 y2 t2 H2.o).mono ?_;rintro e W3 ⟨rfl,R3⟩;go_wp2;exact ⟨⟨y2,t2,rfl,(R.trans R2).trans R3,L.o.2.2,L.o.2.1,E3.o⟩,by rw [R3.leftAt,R.leftAt];exact L.o.1⟩
   ·have g1:(k == 5)=false:=by simp [hk5]
    have g2:(k != 5)=true:=by simp [hk5]
    have e3:y=z/\t=s':=by
     have:=E'.o
     rw [Rn.slotL_stop (by rw [hk];rintro ⟨_,h⟩;exact hk5 h)] at this;exact ⟨congrArg Prod.fst this,congrArg Prod.snd this⟩
    obtain ⟨rfl,rfl⟩:=e3;clear hk ho;go_wp2_with (fail);refine (kk_d _ y k IY.o HK.o).mono ?_;rintro e w' ⟨rfl,rfl⟩;go_wp2;go_ret;exact ⟨rfl,R⟩
end
section
def innerL (size:Int) (q c:List Int):List Int:=[(c.length:Int),size,0,0,0]++(q++c)
theorem innerL_length (size:Int) (q c:List Int):(innerL size q c).length=5+q.length+c.length:=by simp [innerL];omega
theorem inner_lists {w:World} (size:Int) {aq ac:Option Addr} {q c:List Int} {cq cc:Nat} (hq:Reads w aq q) (hc:Reads w ac c) (hq0:aq=none->cq=0) (hc0:ac=none->cc=0) :
  Lists ((w.alloc (.cells #[.int .i64 (c.length:Int),.int .i64 size,.int .i64 0,.int .i64 0,.int .i64 0] 2)).alloc (.cells #[.slice (some ⟨w.heap.size,0,none⟩) 5 5,.slice aq q.length cq,.slice ac c.length cc] 56)) (w.heap.size+1) [[(c.length:Int),size,0,0,0],q,c]:=by
 have k1:Kept w (w.alloc (.cells #[.int .i64 (c.length:Int),.int .i64 size,.int .i64 0,.int .i64 0,.int .i64 0] 2)):=Td.alloc _ _ _;have r1:Reads (w.alloc (.cells #[.int .i64 (c.length:Int),.int .i64 size,.int .i64 0,.int .i64 0,.int .i64 0] 2)) (some ⟨w.heap.size,0,none⟩) [(c.length:Int),size,0,0,0]:=Reads.new w 2 [(c.length:Int),size,0,0,0];have hq1:=hq.kept k1;have hc1:=hc.kept k1;have hs:(w.alloc (.cells #[.int .i64 (c.length:Int),.int .i64 size,.int .i64 0,.int .i64 0,.int .i64 0] 2)).heap.size=w.heap.size+1:=by simp
 generalize w.alloc (.cells #[.int .i64 (c.length:Int),.int .i64 size,.int .i64 0,.int .i64 0,.int .i64 0] 2)=W at *;have k2:Kept W (W.alloc (.cells #[.slice (some ⟨w.heap.size,0,none⟩) 5 5,.slice aq q.length cq,.slice ac c.length cc] 56)):=Td.alloc _ _ _;have hb:(W.alloc (.cells #[.slice (some ⟨w.heap.size,0,none⟩) 5 5,.slice aq q.length cq,.slice ac c.length cc] 56)).heap[w.heap.size+1]? = some (.cells #[.slice (some ⟨w.heap.size,0,none⟩) 5 5,.slice aq q.length cq,.slice ac c.length cc] 56):=by rw [<- hs];exact heap_new W _
 intro t zs ht;rcases t with _ | _ | _ | t
 ·simp at ht;subst ht;exact ⟨_,5,by simp [World.cell?,hb],r1.kept k2,fun e=>by cases e⟩
 ·simp at ht;subst ht;exact ⟨aq,cq,by simp [World.cell?,hb],hq1.kept k2,hq0⟩
 ·simp at ht;subst ht;exact ⟨ac,cc,by simp [World.cell?,hb],hc1.kept k2,hc0⟩
 ·simp at ht
theorem inner_c (w:World) (size:Int) (aq:Option Addr) (q:List Int) (cq:Nat) (ac:Option Addr) (c:List Int) (cc:Nat) (hq:Reads w aq q) (hc:Reads w ac c) (hq0:aq=none->cq=0) (hc0:ac=none->cc=0) (hlen:c.length=q.length+1) (hl:c.length<=40000) :
  Calls Tryz.prog 96 #[.int .i64 size,.slice aq q.length cq,.slice ac c.length cc] w (Fresh (innerL size q c) w):=by
 have HC:=gh (concat_c _ (w.heap.size+1) 3 3 _ (inner_lists size hq hc hq0 hc0) rfl (by decide) (by decide) (by simp;omega));have K1:Kept w ((w.alloc (.cells #[.int .i64 (c.length:Int),.int .i64 size,.int .i64 0,.int .i64 0,.int .i64 0] 2)).alloc (.cells #[.slice (some ⟨w.heap.size,0,none⟩) 5 5,.slice aq q.length cq,.slice ac c.length cc] 56)):=((Kept.refl w).alloc _).alloc _;have KK:=gh K1;have HE:Hid ([[(c.length:Int),size,0,0,0],q,c].flatten=innerL size q c):=gh (by simp [innerL]);have n1:((c.length:Int) == (q.length:Int)+1)=true:=by simp only [beq_iff_eq];omega
 have n2:((c.length:Int) != (q.length:Int)+1)=false:=by simp only [bne_eq_false_iff_eq];omega
 have i1:(q.length:Int)<=40000:=by omega
 clear hq hc hq0 hc0 hlen hl K1;go_enter Tryz.func96,Tryz.ntmps96;go_wp2_with (fail);refine HC.o.mono ?_;intro e W1 h;rw [HE.o] at h;obtain ⟨v1,rfl,hrow,hk⟩:=h.low KK.o;have HR:=gh hrow;have HK:=gh hk;clear hrow hk h;go_wp2;go_ret;exact ⟨_,rfl,HR.o,HK.o⟩
def nearB (x:Int):Bool:=decide (0<=x) && decide (x<=1099511627776)
theorem nearB_iff {x:Int}:nearB x=true↔0<=x/\x<=1099511627776:=by simp [nearB]
def keyZ (n i:Int):Int:=if (nearB n && nearB i)=true then n+4+i else 0
def childZ (n d i:Int):Int:=if (nearB n && nearB d && nearB i)=true then n+4+d+i else 0
theorem keyZ_in {n i:Int} (h1:0<=n) (h2:n<=100000) (h3:0<=i) (h4:i<=100000):keyZ n i=n+4+i:=by
 rw [keyZ,nearB_iff.2 ⟨h1,by omega⟩,nearB_iff.2 ⟨h3,by omega⟩];rfl
theorem childZ_in {n d i:Int} (h1:0<=n) (h2:n<=100000) (h3:0<=d) (h4:d<=100000) (h5:0<=i) (h6:i<=100000):childZ n d i=n+4+d+i:=by
 rw [childZ,nearB_iff.2 ⟨h1,by omega⟩,nearB_iff.2 ⟨h3,by omega⟩,nearB_iff.2 ⟨h5,by omega⟩];rfl
theorem near_r (w:World) (x:Int) (u:Bool) (hu:nearB x=u):Calls Tryz.prog 144 #[.int .i64 x] w fun e w'=>e=.returned (.bool u)/\w=w':=by
 subst hu
 by_cases h1:0<=x
 ·go_enter Tryz.func144,Tryz.ntmps144;go_wp2;go_ret;exact ⟨congrArg (fun b=>Ending.returned (.bool b)) (by simp [nearB,h1]),rfl⟩
 ·go_enter Tryz.func144,Tryz.ntmps144;go_wp2;go_ret;exact ⟨congrArg (fun b=>Ending.returned (.bool b)) (by simp [nearB];omega),rfl⟩
theorem key_r (w:World) (n i r:Int) (h:keyZ n i=r):Calls Tryz.prog 149 #[.int .i64 n,.int .i64 i] w fun e w'=>e=.returned (.int .i64 r)/\w=w':=by
 subst h;cases hn:nearB n with
 | false=>
  have HN:=gh hn;clear hn;go_enter Tryz.func149,Tryz.ntmps149;go_wp2_with (fail);refine (near_r _ n false HN.o).mono ?_;rintro e w' ⟨rfl,rfl⟩;go_wp2;go_ret;exact ⟨by rw [keyZ,HN.o];rfl,rfl⟩
 | true=>
  cases hi:nearB i with
  | false=>
   have HN:=gh hn;have HI:=gh hi;clear hn hi;go_enter Tryz.func149,Tryz.ntmps149;go_wp2_with (fail);refine (near_r _ n true HN.o).mono ?_;rintro e w' ⟨rfl,rfl⟩;go_wp2_with (fail);refine (near_r _ i false HI.o).mono ?_;rintro e w' ⟨rfl,rfl⟩;go_wp2;go_ret;exact ⟨by rw [keyZ,HN.o,HI.o];rfl,rfl⟩
  | true=>
   have HN:=gh hn;have HI:=gh hi;obtain ⟨i1,i2⟩:=nearB_iff.1 hn;obtain ⟨i3,i4⟩:=nearB_iff.1 hi;clear hn hi;go_enter Tryz.func149,Tryz.ntmps149;go_wp2_with (fail);refine (near_r _ n true HN.o).mono ?_;rintro e w' ⟨rfl,rfl⟩;go_wp2_with (fail);refine (near_r _ i true HI.o).mono ?_;rintro e w' ⟨rfl,rfl⟩;go_wp2;go_ret;exact ⟨by rw [keyZ,HN.o,HI.o];rfl,rfl⟩
theorem child_r (w:World) (n d i r:Int) (h:childZ n d i=r):Calls Tryz.prog 118 #[.int .i64 n,.int .i64 d,.int .i64 i] w fun e w'=>e=.returned (.int .i64 r)/\w=w':=by
 subst h;cases hn:nearB n with
 | false=>
  have HN:=gh hn;clear hn;go_enter Tryz.func118,Tryz.ntmps118;go_wp2_with (fail);refine (near_r _ n false HN.o).mono ?_;rintro e w' ⟨rfl,rfl⟩;go_wp2;go_ret;exact ⟨by rw [childZ,HN.o];rfl,rfl⟩
 | true=>
  cases hd:nearB d with
  | false=>
   have HN:=gh hn;have HD:=gh hd;clear hn hd;go_enter Tryz.func118,Tryz.ntmps118;go_wp2_with (fail);refine (near_r _ n true HN.o).mono ?_;rintro e w' ⟨rfl,rfl⟩;go_wp2_with (fail);refine (near_r _ d false HD.o).mono ?_;rintro e w' ⟨rfl,rfl⟩;go_wp2;go_ret;exact ⟨by rw [childZ,HN.o,HD.o];rfl,rfl⟩
  | true=>
   cases hi:nearB i with
   | false=>
    have HN:=gh hn;have HD:=gh hd;have HI:=gh hi;clear hn hi hd;go_enter Tryz.func118,Tryz.ntmps118;go_wp2_with (fail);refine (near_r _ n true HN.o).mono ?_;rintro e w' ⟨rfl,rfl⟩;go_wp2_with (fail);refine (near_r _ d true HD.o).mono ?_;rintro e w' ⟨rfl,rfl⟩;go_wp2_with (fail);refine (near_r _ i false HI.o).mono ?_;rintro e w' ⟨rfl,rfl⟩;go_wp2;go_ret;exact ⟨by rw [childZ,HN.o,HD.o,HI.o];rfl,rfl⟩
   | true=>
    have HN:=gh hn;have HD:=gh hd;have HI:=gh hi;obtain ⟨i1,i2⟩:=nearB_iff.1 hn;obtain ⟨i3,i4⟩:=nearB_iff.1 hi;obtain ⟨i5,i6⟩:=nearB_iff.1 hd;clear hn hi hd;go_enter Tryz.func118,Tryz.ntmps118;go_wp2_with (fail);refine (near_r _ n true HN.o).mono ?_;rintro e w' ⟨rfl,rfl⟩;go_wp2_with (fail);refine (near_r _ d true HD.o).mono ?_;rintro e w' ⟨rfl,rfl⟩;go_wp2_with (fail);refine (near_r _ i true HI.o).mono ?_;rintro e w' ⟨rfl,rfl⟩;go_wp2;go_ret;exact ⟨by rw [childZ,HN.o,HD.o,HI.o];rfl,rfl⟩
end
section
theorem of17_c (w:World):Calls Tryz.prog 41 #[.int .i64 1,.int .i64 7] w fun e w'=>e=.returned (.int .i64 57)/\w=w':=by
 go_enter Tryz.func41,Tryz.ntmps41;go_wp2;go_ret;exact ⟨rfl,rfl⟩
theorem Fresh.form {zs:List Int} {w W:World} {e:Ending} (h:Fresh zs w e W):∃ a cap,e=.returned (.slice a zs.length cap)/\Reads W a zs/\zs.length<=cap/\cap<=maxLen/\(∀ ad,a=some ad->w.heap.size<=ad.block)/\Row W w.heap.size 2 (.slice a zs.length cap) zs/\Kept w W:=by
 obtain ⟨v,rfl,hrow,hk⟩:=h;have hr:=hrow;rcases hr.2 with ⟨rfl,h0⟩ | ⟨g,cap,cur,rfl,hg,_,hc,hm,_⟩
 ·obtain rfl:=List.length_eq_zero_iff.1 h0;exact ⟨none,0,rfl,.inl rfl,Nat.le_refl _,Nat.zero_le _,(fun _ e=>by cases e),hrow,hk⟩
 ·obtain ⟨a,cap',e1,h1,_⟩:=hrow.reads;cases e1;exact ⟨_,_,rfl,h1,hc,hm,(fun _ e=>by cases e;exact hg),hrow,hk⟩
def begun (s:Mst):Mst:={ s with xs:=[1,0,0,0,0,57,0],count:=wrap64 (wrap64 (s.count+1)+1) }
theorem begun_make {s:Mst} (h0:s.xs=[]) (h7:7<=s.size):s.next [1,0,0,0,0,57]=1/\s.fits 6=true/\s.make [1,0,0,0,0,57]={ s with xs:=[1,0,0,0,0,57],count:=wrap64 (s.count+1) }:=by
 have h6:(6:Int)<=s.size:=by omega
 have hf:s.fits 6=true:=by simp [Mst.fits,h0,h6]
 refine ⟨?_,hf,?_⟩
 ·rw [Mst.next];rw [if_pos (by exact hf),h0];rfl
 ·rw [Mst.make];rw [if_pos (by exact hf),h0];rfl
theorem begun_make2 {s:Mst} (h7:7<=s.size):({ s with xs:=[1,0,0,0,0,57],count:=wrap64 (s.count+1) }:Mst).next [0]=7/\({ s with xs:=[1,0,0,0,0,57],count:=wrap64 (s.count+1) }:Mst).fits 1=true/\({ s with xs:=[1,0,0,0,0,57],count:=wrap64 (s.count+1) }:Mst).make [0]=begun s:=by
 have hf:({ s with xs:=[1,0,0,0,0,57],count:=wrap64 (s.count+1) }:Mst).fits 1=true:=by simp [Mst.fits,h7]
 refine ⟨?_,hf,?_⟩
 ·rw [Mst.next];rw [if_pos (by exact hf)];rfl
 ·rw [Mst.make];rw [if_pos (by exact hf)];rfl
set_option maxRecDepth 100000 in
theorem begin_c (w W:World) (b:Nat) (s:Mst) (h:Now w W b s) (h0:s.xs=[]) (h7:7<=s.size) :
  Calls Tryz.prog 57 #[.pointer (some ⟨b,0,none⟩)] W fun e W'=>e=.returned (.bool true)/\Now w W' b (begun s):=by
 have H:=gh h;have B1:=gh (begun_make h0 h7);have B2:=gh (begun_make2 h7);have HU:Hid ((s.xs.length:Int)=0):=gh (by rw [h0];rfl);clear h h0;go_enter Tryz.func57,Tryz.ntmps57;go_wp2_with (fail);refine (now_used w W b s 0 H.o HU.o).mono ?_;rintro e w' ⟨rfl,rfl⟩;go_wp2_with (fail);refine (now_size w W b s s.size H.o rfl).mono ?_;rintro e w' ⟨rfl,rfl⟩;go_wp2_with (fail);refine (of17_c W).mono ?_;rintro e w' ⟨rfl,rfl⟩;go_wp2_with (fail);refine (inner_c (W.alloc (.cells #[.int .i64 57] 2)) 0 none [] 0 (some ⟨W.heap.size,0,none⟩) [57] 1 (.inl rfl) (Reads.new W 2 [57]) (fun _=>rfl) (fun e=>by cases e) rfl (by decide)).mono ?_;intro e W1 hf;obtain ⟨a1,cap1,rfl,hr,hc,hm,ha,-,hk⟩:=hf.form;have H1:=gh (H.o.on ((Td.alloc (fun _=>False) W _).trans hk (fun _ e=>e) (fun _ _ e=>e)));have HR:=gh hr;have HA:Hid (∀ ad,a1=some ad->ad.block≠b):=gh (fun ad e=>by
  have e1:=ha ad e;have e2:=H.o.lt.2;simp at e1;omega)
 clear hf hr hc hm ha hk H;go_wp2_with (fail);refine (now_make w W1 b s a1 (innerL 0 [] [57]) cap1 1 true _ H1.o HR.o (by decide) (fun _=>HA.o) B1.o.1 B1.o.2.1 B1.o.2.2).mono ?_;rintro e W2 ⟨rfl,h2⟩;have H2:=gh h2;clear h2 H1 HR HA B1;go_wp2_with (fail);refine (empty_c W2).mono ?_;intro e W3 hf;obtain ⟨a1,cap1,rfl,hr,hc,hm,ha,-,hk⟩:=hf.form;have H3:=gh (H2.o.on hk);have HR:=gh hr;have HA:Hid (∀ ad,a1=some ad->ad.block≠b):=gh (fun ad e=>by
  have e1:=ha ad e;have e2:=H2.o.lt.2;omega)
 clear hf hr hc hm ha hk H2;go_wp2_with (fail);refine (now_make w W3 b _ a1 [0] cap1 7 true _ H3.o HR.o (by decide) (fun _=>HA.o) B2.o.1 B2.o.2.1 B2.o.2.2).mono ?_;rintro e W4 ⟨rfl,h4⟩;have H4:=gh h4;clear h4 H3 HR HA B2;go_wp2;go_ret;exact ⟨rfl,H4.o⟩
end
end Go.Proofs.YtoaicedkepcalaaGreat
