/-
  The iterators of package stack: slices.Backward over a slice that owns its row, and All of a stack of ints as it lies: what each promises of its rounds ('Iter').
-/
import Derived.Test.YteolopbklmbcmaaKnown
import Derived.Test.YteolopbklmbcmaaIter
import Derived.Shelf.Abstract
import Derived.Shelf.RegionOpen
import Derived.OwnWalkIn
import Derived.TacticsInMore
import Derived.LoopNIn
import Derived.LoopIn
namespace Go.Proofs.Yteolopbklmbcmaa
open Go.RowKit Go.Shelf

attribute [local go_sem] Oper.semAt_some

/-- The elements of a list with their places, the last one first. -/
def idown (xs : List Value) : List (Nat × Value) := xs.zipIdx.reverse.map (fun p => (p.2, p.1))
theorem idown_snoc (xs : List Value) (x : Value) : idown (xs ++ [x]) = (xs.length, x) :: idown xs := by simp [idown, List.zipIdx_append]
theorem idown_take {xs : List Value} {j : Nat} {x : Value} (h : xs[j]? = some x) : idown (xs.take (j + 1)) = (j, x) :: idown (xs.take j) := by
  obtain ⟨hj, rfl⟩ := List.getElem?_eq_some_iff.1 h
  rw [List.take_succ_eq_append_getElem hj, idown_snoc]
  simp
  omega
theorem idown_snd (xs : List Value) : (idown xs).map Prod.snd = xs.reverse := by
  have : (fun p : Value × Nat => p.1) = Prod.fst := rfl
  simp [idown, Function.comp_def, this]

/-- The blocks that a loop over a boxed slice reads: the box, the slice's row. -/
theorem row_cell {w w' : World} {n₀ : Nat} {e : TypeId} {g n cap : Nat} {xs : List Value} {O : Nat → Prop} (h : w.ownsRow n₀ e 1 (.slice (some ⟨g, 0, none⟩) n cap) n xs) (ht : Turned O w w') (hO : ¬ O g) {j : Nat} {x : Value} (hj : xs[j]? = some x) : w'.cell? ⟨g, j, none⟩ = some x := by
  have hlt : j < n := by
    have := (List.getElem?_eq_some_iff.1 hj).1
    have hl := h.1
    omega
  exact ht.cell (p := ⟨g, j, none⟩) ((h.cellAt j (by omega)).trans hj) hO

set_option maxHeartbeats 1000000 in
/-- slices.Backward's closure, at ints. -/
theorem back_i (W : World) (n₀ B : Nat) (v : Value) (xs : List Value) (hB : Boxed W B 34 v) (hr : W.ownsRow n₀ 3 1 v xs.length xs) :
    Iter Try.prog 27 #[.pointer (some ⟨B, 0, none⟩)] (fun p : Nat × Value => #[.int .i64 p.1, p.2]) (idown xs) (Foot B v) W := by
  intro l O₀ J Jx hR gJ gJx hY h0
  have hnB : ¬ O₀ B := hR B (.inl rfl)
  obtain ⟨a, cap, hv⟩ := ownsRow_form hr
  have hm : xs.length ≤ maxLen := by
    rcases hr.2 with ⟨_, h'⟩ | ⟨g', cap', cur, _, _, _, hnc, hcm, _⟩
    · rw [h']
      exact Nat.zero_le _
    · omega
  unfold maxLen at hm
  have hc : ∀ wr, Turned O₀ W wr → wr.cell? ⟨B, 0, none⟩ = some (.slice a xs.length cap) := fun wr ht => by
    rw [← hv]
    exact ht.cell hB.cell hnB
  have hc0 := hc W (Turned.refl _ _)
  have HC := Lib.hid hc
  have HY := Lib.hid hY
  have HV := Lib.hid hv
  have HR := Lib.hid hr
  have HRR := Lib.hid hR
  clear hc hY hv hr hR
  refine (callsIn_wide (n := 10)).1 ?_
  refine callsIn_of_wp Try.func27 rfl trivial ?_ rfl
  simp only [Try.ntmps27, List.size_toArray, List.length_cons, List.length_nil, Nat.reduceAdd, Nat.reduceSub, Array.replicate_succ, Array.replicate_zero, List.push_toArray, List.append_toArray, List.nil_append, List.cons_append]
  gi_wp2
  gi_loopw [3] (fun i wr => ∃ (k : Nat) (pre : List (Nat × Value)) (O : Nat → Prop), k ≤ xs.length ∧ i = .int .i64 ((k : Int) - 1) ∧ Hid (idown xs = pre ++ idown (xs.take k)) ∧ Sub O O₀ W.heap.size ∧ Turned O₀ W wr ∧ J O pre wr)
    (fun i _ => (intOf i + 1).toNat)
  case atStart => exact ⟨xs.length, [], O₀, Nat.le_refl _, rfl, Lib.hid (by simp), Sub.refl _ _, Turned.refl _ _, h0⟩
  case round =>
    obtain ⟨k, pre, O, hk, rfl, hx, hs, ht, hj⟩ := hrel
    cases k with
    | zero =>
      gi_wp2
      go_end0
      exact ⟨⟨_, rfl⟩, O, hs, ht, .inl (by have := hx.out; simp [idown] at this; rw [show idown xs = pre by simpa [idown] using this]; exact hj)⟩
    | succ j =>
      obtain ⟨x, hxj⟩ : ∃ x, xs[j]? = some x := ⟨_, List.getElem?_eq_getElem (by omega)⟩
      have hcr := HC.out wr ht
      obtain ⟨g, hg⟩ : ∃ g, a = some ⟨g, 0, none⟩ := by
        have hr := HR.out
        rw [HV.out] at hr
        rcases hr.2 with ⟨h', h''⟩ | ⟨g, _, _, h', _⟩
        · omega
        · cases h'
          exact ⟨g, rfl⟩
      subst hg
      have hcx : wr.cell? ⟨g, j, none⟩ = some x := row_cell (by have hr := HR.out; rw [HV.out] at hr; exact hr) ht (HRR.out g (.inr (by rw [HV.out]; rfl))) hxj
      have hx' := hx.out
      rw [idown_take hxj] at hx'
      obtain ⟨fn, tmps, assign, body, hy, hRd⟩ := HY.out O pre (j, x) _ wr hx' ht hs hj
      dsimp only at hy
      have HX := Lib.hid hx'
      have HXJ := Lib.hid hxj
      clear hx' hxj
      gi_wp2
      refine hRd.mono ?_
      rintro e W3 ⟨O', hs3, ht3, ⟨rfl, hj3⟩ | ⟨rfl, hj3⟩⟩
      · gi_wp2
        go_roundw
        case rel => exact ⟨j, pre ++ [(j, x)], O', by omega, by go_num, Lib.hid (by rw [HX.out]; simp), hs3.trans hs ht.size, ht.sub ht3 hs, hj3⟩
        case measure => simp [intOf]
      · gi_wp2
        refine bodyPost_ret (results_none rfl _ _ _) rfl ?_
        exact ⟨⟨_, rfl⟩, O', hs3.trans hs ht.size, ht.sub ht3 hs, .inr ⟨pre ++ [(j, x)], idown (xs.take j), by rw [HX.out]; simp, hj3⟩⟩

/-- A round is one at whatever depth, and within another's round. -/
theorem round_any {P : Program} {m m' l l' : Nat} {f : FuncId} {tmps : Array Value} {assign body : Code} {w : World} {Q : Ending → World → Prop} (h : RoundIn Fence.wide m P l f tmps assign body w Q) : RoundIn (Fence.wide.inRound l') m' P l f tmps assign body w Q :=
  ⟨h.1, fun c cs _ => h.2 c cs (fun d hd => by simp [Fence.wide] at hd)⟩

/-- slices.Backward: the slice is boxed; the function captures the box. -/
theorem backward_i (a : Option Addr) (len cap : Nat) (w : World) :
    Calls Try.prog 25 #[.slice a len cap] w fun e w' => e = .returned (.func (.func 27) #[] #[.pointer (some ⟨w.heap.size, 0, none⟩)]) ∧ w' = w.alloc (.cells #[.slice a len cap] 34) := by
  go_enter Try.func25, Try.ntmps25
  go_wp2
  go_ret
  exact ⟨rfl, rfl⟩

/-- (*Stack[int]).All: the pointer is boxed; the function captures the box. -/
theorem all_i (b : Nat) (w : World) :
    Calls Try.prog 19 #[.pointer (some ⟨b, 0, none⟩)] w fun e w' => e = .returned (.func (.func 24) #[] #[.pointer (some ⟨w.heap.size, 0, none⟩)]) ∧ w' = w.alloc (.cells #[.pointer (some ⟨b, 0, none⟩)] 35) := by
  go_enter Try.func19, Try.ntmps19
  go_wp2
  go_ret
  exact ⟨rfl, rfl⟩

set_option maxHeartbeats 1000000 in
/-- (*Stack[int]).All's closure. -/
theorem all1_i (W : World) (n₀ b B : Nat) (v : Value) (xs : List Value) (hB : Boxed W B 35 (.pointer (some ⟨b, 0, none⟩))) (h : Stk W 37 3 n₀ b v xs) :
    Iter Try.prog 24 #[.pointer (some ⟨B, 0, none⟩)] (fun x : Value => #[x]) xs.reverse (fun k => k = B ∨ Foot b v k) W := by
  intro l O₀ J Jx hR gJ gJx hY h0
  have hw0 := gJ.within _ _ _ h0
  have hcB := hB.cell
  have hcb := h.box.cell
  have hltB := hB.lt
  have hltb := h.box.lt
  obtain ⟨a, cap, rfl⟩ := ownsRow_form h.row
  have HY := Lib.hid hY
  have H := Lib.hid h
  have HR := Lib.hid hR
  clear hY h hR
  refine (callsIn_wide (n := 11)).1 ?_
  refine callsIn_of_wp_marks Try.func24 rfl trivial ?_ rfl
  simp only [Try.ntmps24, List.size_toArray, List.length_cons, List.length_nil, Nat.reduceAdd, Nat.reduceSub, Array.replicate_succ, Array.replicate_zero, List.push_toArray, List.append_toArray, List.nil_append, List.cons_append]
  gi_wp2_with ((try refine ⟨trivial, ?_⟩); gi_at_call 25; refine (callsIn_wide.2 (backward_i _ _ _ _)).mono ?_; rintro e w' ⟨rfl, rfl⟩)
  obtain ⟨W2, hW2⟩ : ∃ W2, (W.alloc (.cells #[.func (.yield l) #[] #[]] 54)).alloc (.cells #[.slice a xs.length cap] 34) = W2 := ⟨_, rfl⟩
  have z2 : W2.heap.size = W.heap.size + 2 := by rw [← hW2, World.size_alloc, World.size_alloc]
  have t2 : Turned (fun _ => False) W W2 := by
    rw [← hW2]
    exact (Turned.alloc _ W _).trans (Turned.alloc _ _ _) (fun _ h => h) (fun _ _ h => h)
  have bY : Boxed W2 W.heap.size 54 (.func (.yield l) #[] #[]) := by
    rw [← hW2]
    exact (Boxed.new W 54 _).alloc _
  have bS : Boxed W2 (W.heap.size + 1) 34 (.slice a xs.length cap) := by
    rw [← hW2]
    have := Boxed.new (W.alloc (.cells #[.func (.yield l) #[] #[]] 54)) 34 (.slice a xs.length cap)
    rwa [World.size_alloc] at this
  rw [hW2]
  clear hW2
  have far : ∀ k, W.heap.size ≤ k → ¬ O₀ k := fun k hk hO => by have := hw0 k hO; omega
  refine wp_range (gf := 27) (lb := #[.pointer (some ⟨W.heap.size + 1, 0, none⟩)]) rfl (enters_of Try.func27 (by kernel_rfl) rfl) (encs := fun p : Nat × Value => #[.int .i64 p.1, p.2]) (xs := idown xs) (R := Foot (W.heap.size + 1) (.slice a xs.length cap))
    (fun X hX => back_i X n₀ _ _ xs (hX.boxed bS id) (ownsRow_turned (ownsRow_turned H.out.row t2 (fun _ _ h => h)) hX (fun _ _ h => h))) (fun _ => rfl)
    O₀ (fun O pre A => J O (pre.map Prod.snd) A) (fun c O pre A => c = .ret ∧ Jx O (pre.map Prod.snd) A) ?hR ⟨fun O pre A B hj ht => gJ.abides _ _ _ _ hj ht, fun O pre A hj => gJ.within _ _ _ hj⟩
    (fun c => ⟨fun O pre A B hj ht => ⟨hj.1, gJx.abides _ _ _ _ hj.2 ht⟩, fun O pre A hj => gJx.within _ _ _ hj.2⟩) (gJ.abides _ _ _ _ h0 (t2.mono fun _ _ h => h.elim))
    (fun p => { tmps := #[.func (.yield l) #[] #[], .pointer (some ⟨B, 0, none⟩), .pointer (some ⟨W.heap.size, 0, none⟩), undef, p.2, .pointer (some ⟨b, 0, none⟩), .pointer (some ⟨b, 0, none⟩), .pointer (some ⟨b, 0, none⟩), .slice a xs.length cap, .func (.func 27) #[] #[.pointer (some ⟨W.heap.size + 1, 0, none⟩)], .int .i64 p.1, p.2, undef, undef, undef, undef], defers := [] }) ?assign ?body ?done ?stop
  case hR =>
    rintro k (rfl | hk)
    · exact ⟨by omega, far _ (by omega)⟩
    · exact ⟨by have := (H.out.lt k (.inr hk)).2; omega, HR.out k (.inr (.inr hk))⟩
  case assign =>
    intro l' x X K hK
    gi_wp2
    exact hK
  case body =>
    intro l' O pre p rest A hx tA sA hj
    have hy0 := HY.out O (pre.map Prod.snd) p.2 (rest.map Prod.snd) A (by rw [← idown_snd, hx]; simp) (t2.trans tA (fun _ h => h.elim) (fun _ _ h => h)) (fun k hk => (sA k hk).imp id (fun h => by omega)) hj
    obtain ⟨fn, tmps, assign, body, hy, hRd⟩ := hy0
    have hcy := tA.cell bY.cell (far _ (Nat.le_refl _))
    have hRd' := fun m => round_any (m' := m) (l' := l') hRd
    clear hRd hx tA sA hj
    gi_wp2
    refine (hRd' _).mono ?_
    rintro e B' ⟨O', hs3, ht3, ⟨rfl, hj3⟩ | ⟨rfl, hj3⟩⟩
    · gi_wp2
      exact ⟨O', hs3, ht3, by simpa using hj3⟩
    · gi_wp2
      exact ⟨O', hs3, ht3, rfl, by simpa using hj3⟩
  case done =>
    rintro D O X hD nD tX sX hj hK
    gi_wp2
    refine ⟨by simp, .inl ⟨_, _, rfl, run_takeDeferred hK, ?_⟩⟩
    have tP : Turned (fun k => k = D) X (X.putObj D (.deferred none)) := Turned.putObj _ _ _ rfl
    refine ⟨_, results_none rfl _ _ _, ⟨_, rfl⟩, O, fun k hk => (sX k hk).imp id (fun h => by omega), (t2.trans tX (fun _ h => h.elim) (fun _ _ h => h)).trans tP (fun _ h => h) (fun i hi h => by omega), .inl ?_⟩
    rw [← idown_snd]
    exact gJ.abides _ _ _ _ hj (tP.mono fun k _ h hO => nD (by rw [← h]; exact hO))
  case stop =>
    rintro D O c pre rest X hD nD tX sX hx ⟨rfl, hj⟩ hK
    gi_wp2
    refine ⟨by simp, .inl ⟨_, _, rfl, run_takeDeferred hK, ?_⟩⟩
    have tP : Turned (fun k => k = D) X (X.putObj D (.deferred none)) := Turned.putObj _ _ _ rfl
    refine ⟨_, results_none rfl _ _ _, ⟨_, rfl⟩, O, fun k hk => (sX k hk).imp id (fun h => by omega), (t2.trans tX (fun _ h => h.elim) (fun _ _ h => h)).trans tP (fun _ h => h) (fun i hi h => by omega), .inr ⟨pre.map Prod.snd, rest.map Prod.snd, ?_, ?_⟩⟩
    · rw [← idown_snd, hx]
      simp
    · exact gJx.abides _ _ _ _ hj (tP.mono fun k _ h hO => nD (by rw [← h]; exact hO))
end Go.Proofs.Yteolopbklmbcmaa
