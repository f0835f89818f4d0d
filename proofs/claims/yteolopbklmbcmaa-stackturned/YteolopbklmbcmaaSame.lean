/-
  What 'same' of the statements of chapter 3 answers where the stack has just the slice's numbers: true; nothing that lay is turned.
-/
import Derived.Test.YteolopbklmbcmaaAll
import Derived.Test.YteolopbklmbcmaaTail
import Derived.OpenShut
namespace Go.Proofs.Yteolopbklmbcmaa
open Go.RowKit Go.Shelf
attribute [local go_sem] Oper.semAt_some

/-- A slice value that reads as these numbers. -/
def Reads (w : World) (a : Option Addr) (zs : List Int) : Prop :=
  zs = [] ∨ ∃ bl off, a = some ⟨bl, off, none⟩ ∧ ∀ j z, zs[j]? = some z → w.cell? ⟨bl, off + j, none⟩ = some (.int .i64 z)

/-- What the frame of a proof tells of a slice of ints that came in. -/
theorem reads_in {w : World} {a : Option Addr} {len cap : Nat} {z : List Int} (h : (a = none ∧ len = 0 ∧ cap = 0 ∧ z = []) ∨
    ∃ x, a = some x ∧ len ≤ cap ∧ cap ≤ maxLen ∧ z.length = cap ∧ (∀ i, i < z.length → w.cell? (x.add i) = some (.int .i64 (z.getD i 0))) ∧ ∀ n ∈ z, (Lit.int .i64 n).wf = true) :
    ∃ zs : List Int, zs.length = len ∧ zs.length ≤ cap ∧ Reads w a zs := by
  rcases h with ⟨rfl, rfl, rfl, rfl⟩ | ⟨x, rfl, h1, h2, h3, h4, h5⟩
  · exact ⟨[], rfl, Nat.zero_le _, .inl rfl⟩
  · refine ⟨z.take len, by rw [List.length_take]; omega, by rw [List.length_take]; omega, ?_⟩
    by_cases hl : len = 0
    · subst hl
      exact .inl (by simp)
    · obtain ⟨b, off, rfl, hc⟩ := ints_at h4 (by omega)
      refine .inr ⟨b, off, rfl, fun j y hy => ?_⟩
      obtain ⟨hj, e⟩ := List.getElem?_eq_some_iff.1 hy
      rw [List.length_take] at hj
      rw [hc j (by omega)]
      rw [List.getElem_take] at e
      rw [← e, List.getD_eq_getElem?_getD, List.getElem?_eq_getElem (by omega)]
      rfl

abbrev ints (zs : List Int) : List Value := zs.map (Value.int .i64)

/-- Where a list of numbers, gone through from its end, stands. -/
theorem rev_at {zs : List Int} {pre rest : List Value} {x : Value} (h : (ints zs).reverse = pre ++ x :: rest) : ∃ z, zs[rest.length]? = some z ∧ x = .int .i64 z ∧ zs.length = pre.length + 1 + rest.length := by
  have h' : ints zs = rest.reverse ++ [x] ++ pre.reverse := by
    have := congrArg List.reverse h
    simpa using this
  have hl : zs.length = pre.length + 1 + rest.length := by
    have := congrArg List.length h
    simp at this
    omega
  have hx : (ints zs)[rest.length]? = some x := by rw [h']; simp
  rw [List.getElem?_map] at hx
  cases hz : zs[rest.length]? with
  | none => rw [hz] at hx; cases hx
  | some z =>
    rw [hz] at hx
    simp at hx
    exact ⟨z, rfl, hx.symm, hl⟩

theorem len_still (w : World) (n₀ b : Nat) (v : Value) (xs : List Value) (n : Int) (hn : (xs.length : Int) = n) (h : Stk w 37 3 n₀ b v xs) :
    Calls Try.prog 20 #[.pointer (some ⟨b, 0, none⟩)] w fun e w' => e = .returned (.int .i64 n) ∧ w' = w := (len_i w n₀ b v xs h).mono fun _ _ h => ⟨by rw [← hn]; exact h.1, h.2.symm⟩
theorem stk_drew {w : World} {t e : TypeId} {n₀ b : Nat} {v : Value} {xs : List Value} (h : Stk w t e n₀ b v xs) : Stk w.drew t e n₀ b v xs := ⟨h.le, h.box, h.row⟩

set_option maxRecDepth 100000 in
set_option maxHeartbeats 2000000 in
theorem same_c (w : World) (n₀ b : Nat) (v : Value) (zs : List Int) (a0 : Option Addr) (cap : Nat) (hl : zs.length ≤ 1000) (hs : Stk w 37 3 n₀ b v (ints zs)) (hr : Reads w a0 zs) :
    Calls Try.prog 16 #[.pointer (some ⟨b, 0, none⟩), .slice a0 zs.length cap] w fun e w' => e = .returned (.bool true) ∧ Kept w w' := by
  have hltb := hs.box.lt
  refine calls_marks Try.func16 rfl ?_
  simp only [Try.ntmps16, List.size_toArray, List.length_cons, List.length_nil, Nat.reduceAdd, Nat.reduceSub, Array.replicate_succ, Array.replicate_zero, List.push_toArray, List.append_toArray, List.nil_append, List.cons_append]
  have HS := Lib.hid hs
  have HR := Lib.hid hr
  clear hs hr
  go_wp2_with (go_at_call 19; refine (all_i _ _).mono ?_; rintro e w' ⟨rfl, rfl⟩)
  obtain ⟨W, hW⟩ : ∃ W, (((w.alloc (.cells #[.slice a0 zs.length cap] 34)).alloc (.cells #[.bool false] 4)).alloc (.cells #[.int .i64 zs.length] 3)).alloc (.cells #[.pointer (some ⟨b, 0, none⟩)] 35) = W := ⟨_, rfl⟩
  have zW : W.heap.size = w.heap.size + 4 := by rw [← hW, World.size_alloc, World.size_alloc, World.size_alloc, World.size_alloc]
  have kW : Kept w W := by
    rw [← hW]
    exact Kept.alloc (Kept.alloc (Kept.alloc (Turned.alloc (fun _ => False) w _) _) _) _
  have bL : Boxed W w.heap.size 34 (.slice a0 zs.length cap) := by
    rw [← hW]
    exact (((Boxed.new w 34 _).alloc _).alloc _).alloc _
  have bR : Boxed W (w.heap.size + 1) 4 (.bool false) := by
    rw [← hW]
    have := ((Boxed.new (w.alloc (.cells #[.slice a0 zs.length cap] 34)) 4 (.bool false)).alloc (.cells #[.int .i64 zs.length] 3)).alloc (.cells #[.pointer (some ⟨b, 0, none⟩)] 35)
    rwa [World.size_alloc] at this
  have bI : Boxed W (w.heap.size + 1 + 1) 3 (.int .i64 zs.length) := by
    rw [← hW]
    have := (Boxed.new ((w.alloc (.cells #[.slice a0 zs.length cap] 34)).alloc (.cells #[.bool false] 4)) 3 (.int .i64 zs.length)).alloc (.cells #[.pointer (some ⟨b, 0, none⟩)] 35)
    rwa [World.size_alloc, World.size_alloc] at this
  have bA : Boxed W (w.heap.size + 1 + 1 + 1) 35 (.pointer (some ⟨b, 0, none⟩)) := by
    rw [← hW]
    have := Boxed.new (((w.alloc (.cells #[.slice a0 zs.length cap] 34)).alloc (.cells #[.bool false] 4)).alloc (.cells #[.int .i64 zs.length] 3)) 35 (.pointer (some ⟨b, 0, none⟩))
    rwa [World.size_alloc, World.size_alloc, World.size_alloc] at this
  have hsW : Stk W 37 3 n₀ b v (ints zs) := HS.out.turned kW (fun _ _ h => h)
  have lo : ∀ k, Foot b v k → k < w.heap.size := fun k hk => (HS.out.lt k hk).2
  rw [hW]
  clear hW
  refine wp_range' (gf := 24) (lb := #[.pointer (some ⟨w.heap.size + 1 + 1 + 1, 0, none⟩)]) rfl (enters_of Try.func24 (by kernel_rfl) rfl) (encs := fun x : Value => #[x]) (xs := (ints zs).reverse) (R := fun k => k = w.heap.size + 1 + 1 + 1 ∨ Foot b v k)
    (fun X hX => all1_i X n₀ b _ _ (ints zs) (hX.boxed bA id) (hsW.turned hX (fun _ _ h => h))) (fun _ => rfl)
    (fun k => k = w.heap.size + 1 ∨ k = w.heap.size + 1 + 1)
    (fun O pre A => (∀ k, O k ↔ (k = w.heap.size + 1 ∨ k = w.heap.size + 1 + 1)) ∧ Boxed A (w.heap.size + 1) 4 (.bool false) ∧ Boxed A (w.heap.size + 1 + 1) 3 (.int .i64 ((zs.length : Int) - pre.length)))
    (fun _ _ _ _ => False) ?hR
    ⟨fun O pre A B h ht => ⟨h.1, Boxed.own h.2.1 ((h.1 _).2 (.inl rfl)) ht, Boxed.own h.2.2 ((h.1 _).2 (.inr rfl)) ht⟩, fun O pre A h k hk => by
      rcases (h.1 k).1 hk with rfl | rfl
      · exact h.2.1.lt
      · exact h.2.2.lt⟩
    (fun _ => ⟨fun _ _ _ _ h _ => h, fun _ _ _ h => h.elim⟩) ⟨fun _ => Iff.rfl, bR, by simpa using bI⟩
    (fun x => { tmps := #[.pointer (some ⟨b, 0, none⟩), .slice a0 zs.length cap, undef, .pointer (some ⟨w.heap.size, 0, none⟩), .pointer (some ⟨w.heap.size + 1, 0, none⟩), .pointer (some ⟨w.heap.size + 1 + 1, 0, none⟩), x, undef, undef, .slice a0 zs.length cap, .int .i64 zs.length, .pointer (some ⟨b, 0, none⟩), .func (.func 24) #[] #[.pointer (some ⟨w.heap.size + 1 + 1 + 1, 0, none⟩)], x, undef, undef, undef, undef, undef, undef, undef, undef, undef, undef, undef, undef, undef, undef, undef, undef, undef, undef, undef, undef, undef, undef, undef, undef, undef, undef, undef, undef, undef, undef, undef, undef, undef, undef, undef, undef, undef, undef, undef, undef, undef, undef, undef, undef, undef, undef, undef], defers := [] }) ?assign ?body ?done ?stop
  case hR =>
    rintro k (rfl | hk)
    · exact ⟨by omega, by omega⟩
    · have := lo k hk
      exact ⟨by omega, by omega⟩
  case assign =>
    intro l' x X K hK
    gi_wp2
    exact hK
  case stop =>
    rintro D O c pre rest X hD nD tX sX hx h
    exact h.elim
  case body =>
    intro l' O pre x rest A hx tA sA hI
    obtain ⟨z, hz, rfl, hlen⟩ := rev_at hx
    obtain ⟨hO, hbR, hbI⟩ := hI
    obtain ⟨m, hm⟩ : ∃ m, rest.length = m := ⟨_, rfl⟩
    rw [hm] at hz hlen
    have e1 : (zs.length : Int) - pre.length = (m : Int) + 1 := by omega
    have e2 : (zs.length : Int) - (pre ++ [Value.int .i64 z]).length = (m : Int) := by simp; omega
    rw [e1] at hbI
    have hcL := tA.cell bL.cell (by show ¬ ((w.heap.size : Nat) = _ ∨ w.heap.size = _); omega)
    have hcI := hbI.cell
    have hfI := hbI.frozen
    have hfR := hbR.frozen
    have hcR := hbR.cell
    obtain ⟨bl, off, ha, hbl, hrow⟩ : ∃ bl off, a0 = some ⟨bl, off, none⟩ ∧ bl < w.heap.size ∧ A.cell? ⟨bl, off + m, none⟩ = some (.int .i64 z) := by
      rcases HR.out with h | ⟨bl, off, ha, hc⟩
      · have : zs.length = 0 := by rw [h]; rfl
        omega
      · have hc0 := hc m z hz
        have hlt := World.block_lt_of_cell? _ _ hc0
        have hlt' : bl < w.heap.size := hlt
        exact ⟨bl, off, ha, hlt', tA.cell (kW.cell hc0 id) (by show ¬ ((bl : Nat) = _ ∨ bl = _); omega)⟩
    subst ha
    have hmz : m < zs.length := by omega
    have hrow2 : (A.setCell ⟨w.heap.size + 1 + 1, 0, none⟩ (.int .i64 m)).cell? ⟨bl, off + m, none⟩ = some (.int .i64 z) := (World.cell?_setCell_far _ _ _ _ (by show w.heap.size + 1 + 1 ≠ bl; omega)).trans hrow
    have hcL2 : (A.setCell ⟨w.heap.size + 1 + 1, 0, none⟩ (.int .i64 m)).cell? ⟨w.heap.size, 0, none⟩ = some (.slice (some ⟨bl, off, none⟩) zs.length cap) := (World.cell?_setCell_far _ _ _ _ (by show w.heap.size + 1 + 1 ≠ w.heap.size; omega)).trans hcL
    have HO := Lib.hid hO
    have HBR := Lib.hid hbR
    have HBI := Lib.hid hbI
    have E2 := Lib.hid e2
    have TA := Lib.hid tA
    clear hx tA sA hO hbR hbI e1 e2 hz hm bL bR bI bA kW hlen hrow hcL
    gi_wp2
    exact ⟨O, Sub.refl _ _, Turned.setCell _ _ _ ((HO.out _).2 (.inr rfl)), HO.out, HBR.out.other (by omega) _, by rw [E2.out]; exact HBI.out.set _⟩
  case done =>
    rintro D O X hD nD tX sX hI hK
    obtain ⟨hO, hbR, hbI⟩ := hI
    rw [List.length_reverse, List.length_map, Int.sub_self] at hbI
    have hsX : Stk X 37 3 n₀ b v (ints zs) := hsW.turned tX (fun k hk => by have := lo k hk; show ¬ (k = _ ∨ k = _); omega)
    have hcL := tX.cell bL.cell (by show ¬ ((w.heap.size : Nat) = _ ∨ w.heap.size = _); omega)
    have hcI := hbI.cell
    have hcR := hbR.cell
    have hfR := hbR.frozen
    have kX : Kept w X := kW.trans tX (fun _ h => h) (fun i hi h => by rcases h with h | h <;> omega)
    have KX := Lib.hid kX
    have SX := Lib.hid hsX
    have HK := Lib.hid hK
    have rX : Hid (Reads X a0 zs) := Lib.hid (by
      rcases HR.out with h | ⟨bl, off, ha, hc⟩
      · exact .inl h
      · exact .inr ⟨bl, off, ha, fun j z hz => kX.cell (hc j z hz) id⟩)
    clear hsW hsX kW kX hbR hbI hO bL bR bI bA tX sX hK nD HS HR
    rcases List.eq_nil_or_concat zs with hz | ⟨ys, y, hz⟩
    · subst hz
      clear rX
      go_wp2_with fail
      refine (top0_i _ n₀ _ _ SX.out).mono ?_
      rintro e X2 ⟨rfl, rfl⟩
      go_wp2_with fail
      refine region_tail 30 (by kernel_rfl) (by kernel_rfl) ?_
      simp only [List.take_succ_cons, List.take_zero, List.drop_succ_cons, List.drop_zero]
      repeat (go_big_quiet_step (fail))
      go_big_quiet_want
      go_big_quiet_op
      refine ⟨_, len_still _ n₀ _ _ _ 0 rfl (stk_drew SX.out), ?_⟩
      go_big_quiet_on
      repeat (go_big_quiet_step (fail))
      refine wpQuiet_nil ?_
      go_wp2
      have hK2 : ((X.setCell ⟨w.heap.size + 1, 0, none⟩ (.bool true)).drew).heap[D]? = some (.deferred (some [])) := (Below.heap_setCell X ⟨w.heap.size + 1, 0, none⟩ (.bool true) D (by show D ≠ w.heap.size + 1; omega)).trans HK.out
      refine ⟨by simp, .inl ⟨_, _, rfl, run_takeDeferred hK2, ?_⟩⟩
      have hc5 : (((X.setCell ⟨w.heap.size + 1, 0, none⟩ (.bool true)).drew).putObj D (.deferred none)).cell? ⟨w.heap.size + 1, 0, none⟩ = some (.bool true) :=
        ((Turned.putObj (R := fun k => k = D) _ D (.deferred none) rfl).cell (p := ⟨w.heap.size + 1, 0, none⟩) (v := .bool true) (World.cell?_setCell_same' X _ _ (by rw [hcR]; rfl)) (by show w.heap.size + 1 ≠ D; omega))
      refine ⟨.bool true, ?_, rfl, ?_⟩
      · simp [results, Try.f16, go_sem, hc5]
      · have t3 : Turned (fun k => k = w.heap.size + 1) X ((X.setCell ⟨w.heap.size + 1, 0, none⟩ (.bool true)).drew) := (Turned.setCell (R := fun k => k = w.heap.size + 1) X ⟨w.heap.size + 1, 0, none⟩ (.bool true) rfl).trans (Turned.drewN (fun _ => False) _ 1) (fun _ h => h) (fun _ _ h => h.elim)
        exact (KX.out.trans t3 (fun _ h => h) (fun i hi h => by omega)).trans (Turned.putObj (R := fun k => k = D) _ D _ rfl) (fun _ h => h) (fun i hi h => by omega)
    · rw [List.concat_eq_append] at hz
      subst hz
      obtain ⟨bl, off, ha, hrow⟩ : ∃ bl off, a0 = some ⟨bl, off, none⟩ ∧ X.cell? ⟨bl, off + ys.length, none⟩ = some (.int .i64 y) := by
        rcases rX.out with h | ⟨bl, off, ha, hc⟩
        · simp at h
        · exact ⟨bl, off, ha, hc ys.length y (by simp)⟩
      subst ha
      clear rX
      have hl' : ys.length + 1 ≤ 1000 := by simpa using hl
      clear hl
      go_wp2_with fail
      refine (top1_i _ n₀ _ _ (ints ys) y (by have := SX.out; simpa using this)).mono ?_
      rintro e X2 ⟨rfl, k, rfl⟩
      go_wp2_with fail
      refine region_tail 30 (by kernel_rfl) (by kernel_rfl) ?_
      simp only [List.take_succ_cons, List.take_zero, List.drop_succ_cons, List.drop_zero]
      repeat (go_big_quiet_step (fail))
      go_big_quiet_want
      go_big_quiet_op
      refine ⟨_, len_still _ n₀ _ _ _ ((ys.length : Int) + 1) (by simp) (stk_drewN SX.out (k + 1)), ?_⟩
      go_big_quiet_on
      repeat (go_big_quiet_step (fail))
      refine wpQuiet_nil ?_
      go_wp2
      have hK2 : ((X.drewN (k + 1)).setCell ⟨w.heap.size + 1, 0, none⟩ (.bool true)).heap[D]? = some (.deferred (some [])) := (Below.heap_setCell X ⟨w.heap.size + 1, 0, none⟩ (.bool true) D (by show D ≠ w.heap.size + 1; omega)).trans HK.out
      refine ⟨by simp, .inl ⟨_, _, rfl, run_takeDeferred hK2, ?_⟩⟩
      have hc5 : (((X.drewN (k + 1)).setCell ⟨w.heap.size + 1, 0, none⟩ (.bool true)).putObj D (.deferred none)).cell? ⟨w.heap.size + 1, 0, none⟩ = some (.bool true) :=
        ((Turned.putObj (R := fun k => k = D) _ D (.deferred none) rfl).cell (p := ⟨w.heap.size + 1, 0, none⟩) (v := .bool true) (World.cell?_setCell_same' X _ _ (by rw [hcR]; rfl)) (by show w.heap.size + 1 ≠ D; omega))
      refine ⟨.bool true, ?_, rfl, ?_⟩
      · simp [results, Try.f16, go_sem, hc5]
      · have t3 : Turned (fun k => k = w.heap.size + 1) X ((X.drewN (k + 1)).setCell ⟨w.heap.size + 1, 0, none⟩ (.bool true)) := (Turned.drewN (fun _ => False) X (k + 1)).trans (Turned.setCell (R := fun k => k = w.heap.size + 1) _ ⟨w.heap.size + 1, 0, none⟩ (.bool true) rfl) (fun _ h => h.elim) (fun _ _ h => h)
        exact (KX.out.trans t3 (fun _ h => h) (fun i hi h => by omega)).trans (Turned.putObj (R := fun k => k = D) _ D _ rfl) (fun _ h => h) (fun i hi h => by omega)
end Go.Proofs.Yteolopbklmbcmaa
