/-
  Slices of pairs: how they read ('PReads'); what the document's Place and Put answer, of pairs in a slice that owns its row; nothing that lay is turned.
-/
import Derived.Test.YtmfpfoikfpcnkaaOwn
import Derived.Test.YtmfpfoikfpcnkaaRows
import Derived.Test.YtmfpfoikfpcnkaaOrdC
import Derived.Laws.OwnMore
import Derived.Maps.OwnIn
namespace Go.Proofs.Ytmfpfoikfpcnkaa
open Go.RowKit

/-- The cells of pairs, one behind the other. -/
def flat : List (Int × Int) → List Value
  | [] => []
  | p :: xs => .int .i64 p.1 :: .int .i64 p.2 :: flat xs
theorem flat_append : (xs ys : List (Int × Int)) → flat (xs ++ ys) = flat xs ++ flat ys
  | [], _ => rfl
  | p :: xs, ys => by simp [flat, flat_append xs ys]
theorem flat_length : (xs : List (Int × Int)) → (flat xs).length = xs.length * 2
  | [] => rfl
  | p :: xs => by simp [flat, flat_length xs]; omega
theorem flat_at : {xs : List (Int × Int)} → {j : Nat} → {p : Int × Int} → xs[j]? = some p → (flat xs)[j * 2]? = some (.int .i64 p.1) ∧ (flat xs)[j * 2 + 1]? = some (.int .i64 p.2)
  | x :: xs, 0, p, h => by
    obtain rfl : x = p := by simpa using h
    exact ⟨rfl, rfl⟩
  | x :: xs, j + 1, p, h => by
    have := flat_at (xs := xs) (j := j) (p := p) (by simpa using h)
    rw [show (j + 1) * 2 = j * 2 + 1 + 1 by omega]
    simpa [flat] using this
theorem flat_one : (xs : List (Int × Int)) → ∀ u ∈ flat xs, u.oneCell' = true
  | [] => by simp [flat]
  | p :: xs => by
    intro u hu
    simp only [flat, List.mem_cons] at hu
    rcases hu with rfl | rfl | hu
    · rfl
    · rfl
    · exact flat_one xs u hu

/-- A slice value that reads as these pairs, from its block's beginning on. -/
def PReads (w : World) (a : Option Addr) (xs : List (Int × Int)) : Prop :=
  xs = [] ∨ ∃ bl, a = some ⟨bl, 0, none⟩ ∧ ∀ j p, xs[j]? = some p → w.cell? ⟨bl, j * 2, none⟩ = some (.int .i64 p.1) ∧ w.cell? ⟨bl, j * 2 + 1, none⟩ = some (.int .i64 p.2)
theorem PReads.turned {w w' : World} {a : Option Addr} {xs : List (Int × Int)} (h : PReads w a xs) {R : Nat → Prop} (ht : Turned R w w') (hR : ∀ k, (Value.slice a 0 0).ownBlock = some k → ¬ R k) : PReads w' a xs := by
  rcases h with h | ⟨bl, rfl, h⟩
  · exact .inl h
  · refine .inr ⟨bl, rfl, fun j p hp => ?_⟩
    have hn := hR bl rfl
    exact ⟨ht.cell (h j p hp).1 hn, ht.cell (h j p hp).2 hn⟩
theorem PReads.kept {w w' : World} {a : Option Addr} {xs : List (Int × Int)} (h : PReads w a xs) (ht : Kept w w') : PReads w' a xs := h.turned ht (fun _ _ e => e)
theorem PReads.at {w : World} {a : Option Addr} {xs : List (Int × Int)} (h : PReads w a xs) {j : Nat} {p : Int × Int} (hp : xs[j]? = some p) : ∃ bl, a = some ⟨bl, 0, none⟩ ∧ bl < w.heap.size ∧ w.cell? ⟨bl, j * 2, none⟩ = some (.int .i64 p.1) ∧ w.cell? ⟨bl, j * 2 + 1, none⟩ = some (.int .i64 p.2) := by
  rcases h with h | ⟨bl, ha, hc⟩
  · rw [h] at hp
    simp at hp
  · exact ⟨bl, ha, World.block_lt_of_cell? _ _ (hc j p hp).1, hc j p hp⟩

/-- A slice of pairs that owns its row reads as they are. -/
theorem preads_of_row {w : World} {n₀ : Nat} {v : Value} {xs : List (Int × Int)} (h : w.ownsRow n₀ 47 2 v xs.length (flat xs)) : ∃ a cap, v = .slice a xs.length cap ∧ PReads w a xs ∧ xs.length ≤ cap := by
  rcases h.2 with ⟨rfl, h0⟩ | ⟨g, cap, cur, rfl, _, _, hc, _⟩
  · obtain rfl := List.length_eq_zero_iff.1 h0
    exact ⟨none, 0, rfl, .inl rfl, Nat.le_refl _⟩
  · refine ⟨_, cap, rfl, .inr ⟨g, rfl, fun j p hp => ?_⟩, hc⟩
    have hj := (List.getElem?_eq_some_iff.1 hp).1
    rw [h.cellAt (j * 2) (by omega), h.cellAt (j * 2 + 1) (by omega)]
    exact flat_at hp

theorem info47 : (Try.prog.info? 47).map (fun i => (i.zero, i.size, i.bytes)) = some (some (.agg #[.int .i64 0, .int .i64 0]), 2, 16) := by kernel_rfl

/-- Behind an append to a row that is new since w, what lay at w lies as it lay. -/
theorem kept_append {w wr w1 : World} {v : Value} {xs : List (Int × Int)} {tmp : Obj} (k : Kept w wr) (hr : wr.ownsRow w.heap.size 47 2 v xs.length (flat xs)) (hg : (wr.alloc tmp).grownBy w1 v.ownBlock) : Kept w w1 :=
  Turned.trans (k.trans (Turned.alloc _ _ tmp)) (Turned.of_grownBy (R := fun j => v.ownBlock = some j) hg (fun _ h => h)) (fun _ h => h) (fun i hi h => by have := (hr.lt i h).1; omega)
theorem kept_append0 {w wr w1 : World} {v : Value} {xs : List (Int × Int)} (k : Kept w wr) (hr : wr.ownsRow w.heap.size 47 2 v xs.length (flat xs)) (hg : wr.grownBy w1 v.ownBlock) : Kept w w1 :=
  Turned.trans k (Turned.of_grownBy (R := fun j => v.ownBlock = some j) hg (fun _ h => h)) (fun _ h => h) (fun i hi h => by have := (hr.lt i h).1; omega)

/-- Two cells of a new block. -/
theorem two_newR (w : World) (x y : Int) : ∀ (j : Nat) (u : Value), [Value.int .i64 x, .int .i64 y][j]? = some u → (w.alloc (.cells #[.int .i64 x, .int .i64 y] 47)).cell? ((⟨w.heap.size, 0, none⟩ : Addr).add j) = some u := by
  intro j u h
  have hb : (w.alloc (.cells #[.int .i64 x, .int .i64 y] 47)).heap[w.heap.size]? = some (.cells #[.int .i64 x, .int .i64 y] 47) := heap_new w _
  have c : ∀ i, (w.alloc (.cells #[.int .i64 x, .int .i64 y] 47)).cell? ⟨w.heap.size, i, none⟩ = #[Value.int .i64 x, .int .i64 y][i]? := fun i => by
    unfold World.cell?
    rw [hb]
    rfl
  rcases j with _ | _ | j
  · simp at h
    subst h
    exact c 0
  · simp at h
    subst h
    exact c 1
  · simp at h

/-- A new slice of these pairs. -/
def PSliced (xs : List (Int × Int)) (w : World) (e : Ending) (w' : World) : Prop := ∃ v, e = .returned v ∧ w'.ownsRow w.heap.size 47 2 v xs.length (flat xs) ∧ Kept w w'

theorem wpList_append_none {P : Program} {w : World} {ops : Array Oper} {rest : List Oper} {o : Oper} {a : Act} {Q : Exit → Act → World → Prop} (hgd : o.guard = none) (s x : Operand) (t : TypeId)
    (ho : o.op = .call { callee := .builtin .append, args := #[s, x], argTypes := #[t, t] })
    (base : Nat) (e : TypeId) (i : TypeInfo) (size : Nat) (ht : P.underlying t = some (.slice e)) (hi : P.info? e = some i)
    (v : Value) (n : Nat) (xs : List Value) (hs : a.eval s = v) (hown : w.ownsRow base e size v n xs) (hx : a.eval x = .slice none 0 0)
    (h : wpList P ops Q rest (a.put o.dst v) w) : wpList P ops Q (o :: rest) a w := by
  refine wpList_plain hgd fun K hK => ?_
  have hr := run_append_owned_none (P := P) (w := w) base t o.type e i size ht hi v n xs hown
  unfold Oper.wp execOp
  simp only [ho, resolve, invoke, builtin, Sem.run_bind, Sem.run_pure, Result.andThen_ok, List.map_toArray, List.map_cons, List.map_nil, hs, hx, hr]
  exact hK _ _ h

/-- A new row without an element. -/
theorem prow_new (w : World) : (w.alloc (.cells #[] 47)).ownsRow w.heap.size 47 2 (.slice (some ⟨w.heap.size, 0, none⟩) 0 0) ([] : List (Int × Int)).length (flat []) :=
  ⟨rfl, .inr ⟨w.heap.size, 0, #[], rfl, Nat.le_refl _, heap_new w _, Nat.le_refl _, Nat.zero_le _, rfl, rfl⟩⟩

/-- The cells of a part of a row, where they lie. -/
theorem src_cells {w w' : World} {n₀ g cap : Nat} {xs : List (Int × Int)} (h : w.ownsRow n₀ 47 2 (.slice (some ⟨g, 0, none⟩) xs.length cap) xs.length (flat xs)) (k : Kept w w') (q m : Nat) :
    ∀ (j : Nat) (u : Value), (flat ((xs.drop q).take m))[j]? = some u → w'.cell? ((⟨g, q * 2, none⟩ : Addr).add j) = some u := by
  intro j u hu
  have hq : q ≤ xs.length := by
    by_cases hq : q ≤ xs.length
    · exact hq
    · rw [List.drop_eq_nil_of_le (by omega)] at hu
      simp [flat] at hu
  have e : flat xs = flat (xs.take q) ++ (flat ((xs.drop q).take m) ++ flat ((xs.drop q).drop m)) := by
    rw [← flat_append, List.take_append_drop, ← flat_append, List.take_append_drop]
  have hj := (List.getElem?_eq_some_iff.1 hu).1
  have l1 : (flat (xs.take q)).length = q * 2 := by rw [flat_length, List.length_take]; congr 1; omega
  have hx : (flat xs)[q * 2 + j]? = some u := by
    rw [e, List.getElem?_append_right (by omega), l1, Nat.add_sub_cancel_left, List.getElem?_append_left hj]
    exact hu
  have hlt : q * 2 + j < xs.length * 2 := by
    have := (List.getElem?_eq_some_iff.1 hx).1
    rwa [flat_length] at this
  have hc := h.cellAt (q * 2 + j) hlt
  rw [hx] at hc
  rw [Go.WideShapes.add_plain]
  exact k.cell hc id

set_option maxRecDepth 100000 in
theorem place_c (w : World) (a : Option Addr) (xs : List (Int × Int)) (cap : Nat) (k : Int) (hr : PReads w a xs) (hc : xs.length ≤ cap) (hl : xs.length ≤ 5000) :
    Calls Try.prog 36 #[.slice a xs.length cap, .int .i64 k] w fun e w' => e = .returned (.int .i64 (place xs k : Int)) ∧ w = w' := by
  have HR := hide hr
  have hpl := place_le xs k
  clear hr
  go_enter Try.func36, Try.ntmps36
  go_wp2
  go_loopw [5] (fun i wr => ∃ n : Nat, n ≤ place xs k ∧ i = .int .i64 n ∧ w = wr) (fun i _ => xs.length - (intOf i).toNat)
  case atStart => exact ⟨0, Nat.zero_le _, rfl, rfl⟩
  case round =>
    obtain ⟨n, hn, rfl, rfl⟩ := hrel
    by_cases hlt : n < xs.length
    · obtain ⟨⟨x, xv⟩, hp⟩ : ∃ p, xs[n]? = some p := ⟨_, List.getElem?_eq_getElem hlt⟩
      obtain ⟨bl, rfl, _, g1, _⟩ := HR.out.at hp
      simp only at g1
      have i3 : n < cap := by omega
      by_cases hnp : n < place xs k
      · have hx : x < k := place_below hnp hp
        clear hp
        go_wp2
        exact ⟨⟨n + 1, by omega, by simp, trivial⟩, by simp [intOf]; omega⟩
      · have e : n = place xs k := by omega
        have hx : k ≤ x := by
          rw [e] at hp
          exact place_stop hp
        have E := hide e
        clear hp e hnp
        go_wp2
        go_ret
        exact ⟨by rw [← E.out]; rfl, rfl⟩
    · have E : Hid (n = place xs k) := hide (by omega)
      go_wp2
      go_ret
      exact ⟨by rw [← E.out]; rfl, rfl⟩

/-- What is at the place, if anything. -/
theorem hit_true {xs : List (Int × Int)} {k : Int} (h : hit xs k = true) : ∃ v, xs[place xs k]? = some (k, v) ∧ place xs k < xs.length := by
  unfold hit at h
  cases hp : xs[place xs k]? with
  | none => simp [hp] at h
  | some p =>
    simp [hp] at h
    exact ⟨p.2, by rw [← h], (List.getElem?_eq_some_iff.1 hp).1⟩
theorem hit_false {xs : List (Int × Int)} {k : Int} (h : hit xs k = false) : xs.length = place xs k ∨ ∃ x v, xs[place xs k]? = some (x, v) ∧ place xs k < xs.length ∧ x ≠ k := by
  have hl := place_le xs k
  cases hp : xs[place xs k]? with
  | none =>
    rw [List.getElem?_eq_none_iff] at hp
    exact .inl (by omega)
  | some p =>
    unfold hit at h
    simp [hp] at h
    exact .inr ⟨p.1, p.2, rfl, (List.getElem?_eq_some_iff.1 hp).1, h⟩

theorem preads_of_own {w : World} {n₀ g cap : Nat} {xs : List (Int × Int)} (h : w.ownsRow n₀ 47 2 (.slice (some ⟨g, 0, none⟩) xs.length cap) xs.length (flat xs)) : PReads w (some ⟨g, 0, none⟩) xs := by
  obtain ⟨a, c, e, hp, _⟩ := preads_of_row h
  cases e
  exact hp

set_option maxRecDepth 100000 in
set_option maxHeartbeats 1000000 in
theorem refPut_c (w : World) (n₀ : Nat) (v : Value) (xs : List (Int × Int)) (k u : Int) (hv : w.ownsRow n₀ 47 2 v xs.length (flat xs)) (hl : xs.length ≤ 5000) :
    Calls Try.prog 27 #[v, .int .i64 k, .int .i64 u] w (PSliced (put ltI xs k u) w) := by
  obtain ⟨y0, hi', hz0, hz1, hz2⟩ := info_parts info47
  have hpp := put_place xs k u
  have r0 := prow_new w
  rcases hv.2 with ⟨rfl, h0⟩ | ⟨g, cap, cur, rfl, hg0, _, hcap, hmx, _⟩
  · obtain rfl := List.length_eq_zero_iff.1 h0
    have HP : Hid (Calls Try.prog 36 #[.slice none 0 0, .int .i64 k] w fun e w' => e = .returned (.int .i64 0) ∧ w = w') := hide (place_c w none [] 0 k (.inl rfl) (Nat.le_refl _) (by simp))
    clear hv hpp h0
    go_enter Try.func27, Try.ntmps27
    go_wp2_with (fail)
    refine HP.out.mono ?_
    rintro e w' ⟨rfl, rfl⟩
    go_wp2_with (at_builtin; refine Stop.out ?_)
    refine ⟨?_⟩
    refine wpList_append_none rfl _ _ 44 rfl w.heap.size 47 y0 2 Try.underlying44 hi' _ _ _ rfl r0 rfl ?_
    go_wp2_with (at_builtin; refine Stop.out ?_)
    refine ⟨?_⟩
    refine wpList_append_own_at _ rfl _ _ 44 rfl w.heap.size 47 y0 (.agg #[.int .i64 0, .int .i64 0]) 2 16 Try.underlying44 hi' hz0 hz1 hz2 rfl (by decide) _ _ _ rfl (r0.alloc (.cells #[.int .i64 k, .int .i64 u] 47)) ⟨w.heap.size + 1, 0, none⟩ 1 1 [.int .i64 k, .int .i64 u] rfl rfl (by have := two_newR (w.alloc (.cells #[] 47)) k u; rwa [World.size_alloc] at this) (by simp [Value.oneCell']) (by decide) (by decide) (by rw [World.size_alloc, World.size_alloc]; omega) ?_
    intro v2 w2 hown2 hg2 hni _
    clear hni
    have K2 := hide (kept_append (xs := []) (show Kept w (w.alloc (.cells #[] 47)) from Turned.alloc _ _ _) r0 hg2)
    clear hg2 r0
    go_wp2_with (at_builtin; refine Stop.out ?_)
    refine ⟨?_⟩
    refine wpList_append_none rfl _ _ 44 rfl w.heap.size 47 y0 2 Try.underlying44 hi' _ _ _ rfl hown2 rfl ?_
    go_wp2
    go_ret
    exact ⟨v2, rfl, by simpa [flat, put] using hown2, K2.out⟩
  · have hc5 : cap ≤ 9223372036854775807 := by unfold maxLen at hmx; omega
    have HP := hide (place_c w _ xs cap k (preads_of_own hv) hcap hl)
    have hpl := place_le xs k
    have HV := hide hv
    cases hh : hit xs k with
    | true =>
      obtain ⟨hv', hat, hlt⟩ := hit_true hh
      obtain ⟨_, he, _, g1, _⟩ := (preads_of_own hv).at hat
      obtain rfl := Option.some.inj he |> Addr.mk.inj |>.1
      simp only at g1
      rw [hh, if_pos rfl] at hpp
      obtain ⟨n, hn⟩ : ∃ n, place xs k = n := ⟨_, rfl⟩
      rw [hn] at HP g1 hlt hpp hpl
      have HPP := hide hpp
      have i3 : n < cap := by omega
      clear hv hpp hat hh hn he
      go_enter Try.func27, Try.ntmps27
      go_wp2_with (fail)
      refine HP.out.mono ?_
      rintro e w' ⟨rfl, rfl⟩
      have s1 := src_cells HV.out (show Kept w (w.alloc (.cells #[] 47)) from Turned.alloc _ _ _) 0 n
      simp only [Nat.zero_mul, List.drop_zero] at s1
      go_wp2_with (at_builtin; refine Stop.out ?_)
      refine ⟨?_⟩
      refine wpList_append_own_at _ rfl _ _ 44 rfl w.heap.size 47 y0 (.agg #[.int .i64 0, .int .i64 0]) 2 16 Try.underlying44 hi' hz0 hz1 hz2 rfl (by decide) _ _ _ rfl r0 ⟨g, 0, none⟩ n cap (flat (xs.take n)) rfl (by rw [flat_length, List.length_take]; congr 1; omega) s1 (flat_one _) (by simp; unfold maxLen; omega) (by simp; omega) (by simp) ?_
      intro v1 w1 hown1 hg1 hni _
      clear hni
      have K1 := hide (kept_append0 (xs := []) (show Kept w (w.alloc (.cells #[] 47)) from Turned.alloc _ _ _) r0 hg1)
      have r1 : w1.ownsRow w.heap.size 47 2 v1 (xs.take n).length (flat (xs.take n)) := (by rw [List.length_take, Nat.min_eq_left (by omega)]; simpa [flat] using hown1)
      have zz1 := K1.out.size
      have R1 := hide r1
      clear hown1 hg1 s1 r0 r1
      go_wp2_with (at_builtin; refine Stop.out ?_)
      refine ⟨?_⟩
      refine wpList_append_own_at _ rfl _ _ 44 rfl w.heap.size 47 y0 (.agg #[.int .i64 0, .int .i64 0]) 2 16 Try.underlying44 hi' hz0 hz1 hz2 rfl (by decide) _ _ _ rfl (R1.out.alloc (.cells #[.int .i64 k, .int .i64 u] 47)) ⟨w1.heap.size, 0, none⟩ 1 1 [.int .i64 k, .int .i64 u] rfl rfl (two_newR _ _ _) (by simp [Value.oneCell']) (by rw [List.length_take]; unfold maxLen; omega) (by rw [List.length_take]; omega) (by simp; omega) ?_
      intro v2 w2 hown2 hg2 hni _
      clear hni
      have K2 := hide (kept_append K1.out R1.out hg2)
      have r2 : w2.ownsRow w.heap.size 47 2 v2 (xs.take n ++ [(k, u)]).length (flat (xs.take n ++ [(k, u)])) := (by simpa [flat_append, flat] using hown2)
      have R2 := hide r2
      have s2 := src_cells HV.out K2.out (n + 1) (xs.length - (n + 1))
      have g1' := K2.out.cell g1 id
      have zz2 := K2.out.size
      clear hown2 hg2 r2 g1
      by_cases hcq : cap = n + 1
      · go_wp2_with (at_builtin; refine Stop.out ?_)
        refine ⟨?_⟩
        refine wpList_append_own_at _ rfl _ _ 44 rfl w.heap.size 47 y0 (.agg #[.int .i64 0, .int .i64 0]) 2 16 Try.underlying44 hi' hz0 hz1 hz2 rfl (by decide) _ _ _ rfl R2.out _ _ _ (flat []) rfl (by first | (simp [flat]; done) | (simp [flat]; omega)) (by simp [flat]) (flat_one _) (by simp only [List.length_append, List.length_take, List.length_singleton]; unfold maxLen; omega) (by simp only [List.length_append, List.length_take, List.length_singleton]; omega) (by omega) ?_
        intro v3 w3 hown3 hg3 hni _
        clear hni
        have KF := hide (kept_append0 K2.out R2.out hg3)
        go_wp2
        go_ret
        refine ⟨v3, rfl, ?_, KF.out⟩
        rw [HPP.out]
        have e0 : xs.drop (n + 1) = [] := List.drop_eq_nil_of_le (by omega)
        have e1 : (xs.take n ++ [(k, u)]).length + (xs.length - (n + 1)) = (xs.take n ++ [(k, u)]).length := by omega
        rw [e0]
        try rw [e1] at hown3
        simpa [flat] using hown3
      · go_wp2_with (at_builtin; refine Stop.out ?_)
        refine ⟨?_⟩
        refine wpList_append_own_at _ rfl _ _ 44 rfl w.heap.size 47 y0 (.agg #[.int .i64 0, .int .i64 0]) 2 16 Try.underlying44 hi' hz0 hz1 hz2 rfl (by decide) _ _ _ rfl R2.out ⟨g, (n + 1) * 2, none⟩ (xs.length - (n + 1)) (cap - (n + 1)) (flat ((xs.drop (n + 1)).take (xs.length - (n + 1)))) rfl (by rw [flat_length, List.length_take, List.length_drop]; congr 1; omega) s2 (flat_one _) (by simp only [List.length_append, List.length_take, List.length_singleton]; unfold maxLen; omega) (by simp only [List.length_append, List.length_take, List.length_singleton]; omega) (by omega) ?_
        intro v3 w3 hown3 hg3 hni _
        clear hni
        have KF := hide (kept_append0 K2.out R2.out hg3)
        go_wp2
        go_ret
        refine ⟨v3, rfl, ?_, KF.out⟩
        rw [HPP.out]
        have e1 : (xs.drop (n + 1)).take (xs.length - (n + 1)) = xs.drop (n + 1) := List.take_of_length_le (by rw [List.length_drop]; exact Nat.le_refl _)
        rw [e1, ← flat_append] at hown3
        have e2 : (xs.take n ++ [(k, u)]).length + (xs.length - (n + 1)) = (xs.take n ++ [(k, u)] ++ xs.drop (n + 1)).length := by simp only [List.length_append, List.length_drop]
        rw [e2] at hown3
        simpa using hown3
    | false =>
      rw [hh, if_neg (by simp)] at hpp
      rcases hit_false hh with he | ⟨x, xv, hat, hlt, hne⟩
      · obtain ⟨n, hn⟩ : ∃ n, place xs k = n := ⟨_, rfl⟩
        rw [hn] at HP hpp hpl he
        have HPP := hide hpp
        have hnl : ¬ ((n : Int) < (xs.length : Int)) := by omega
        have hnl' : ¬ (n < xs.length) := by omega
        have he' : xs.length ≤ n := by omega
        clear hv hpp hh hn he
        go_enter Try.func27, Try.ntmps27
        go_wp2_with (fail)
        refine HP.out.mono ?_
        rintro e w' ⟨rfl, rfl⟩
        have s1 := src_cells HV.out (show Kept w (w.alloc (.cells #[] 47)) from Turned.alloc _ _ _) 0 n
        simp only [Nat.zero_mul, List.drop_zero] at s1
        go_wp2_with (at_builtin; refine Stop.out ?_)
        refine ⟨?_⟩
        refine wpList_append_own_at _ rfl _ _ 44 rfl w.heap.size 47 y0 (.agg #[.int .i64 0, .int .i64 0]) 2 16 Try.underlying44 hi' hz0 hz1 hz2 rfl (by decide) _ _ _ rfl r0 ⟨g, 0, none⟩ n cap (flat (xs.take n)) rfl (by rw [flat_length, List.length_take]; congr 1; omega) s1 (flat_one _) (by simp; unfold maxLen; omega) (by simp; omega) (by simp) ?_
        intro v1 w1 hown1 hg1 hni _
        clear hni
        have K1 := hide (kept_append0 (xs := []) (show Kept w (w.alloc (.cells #[] 47)) from Turned.alloc _ _ _) r0 hg1)
        have r1 : w1.ownsRow w.heap.size 47 2 v1 (xs.take n).length (flat (xs.take n)) := (by rw [List.length_take, Nat.min_eq_left (by omega)]; simpa [flat] using hown1)
        have zz1 := K1.out.size
        have R1 := hide r1
        clear hown1 hg1 s1 r0 r1
        go_wp2_with (at_builtin; refine Stop.out ?_)
        refine ⟨?_⟩
        refine wpList_append_own_at _ rfl _ _ 44 rfl w.heap.size 47 y0 (.agg #[.int .i64 0, .int .i64 0]) 2 16 Try.underlying44 hi' hz0 hz1 hz2 rfl (by decide) _ _ _ rfl (R1.out.alloc (.cells #[.int .i64 k, .int .i64 u] 47)) ⟨w1.heap.size, 0, none⟩ 1 1 [.int .i64 k, .int .i64 u] rfl rfl (two_newR _ _ _) (by simp [Value.oneCell']) (by rw [List.length_take]; unfold maxLen; omega) (by rw [List.length_take]; omega) (by simp; omega) ?_
        intro v2 w2 hown2 hg2 hni _
        clear hni
        have K2 := hide (kept_append K1.out R1.out hg2)
        have r2 : w2.ownsRow w.heap.size 47 2 v2 (xs.take n ++ [(k, u)]).length (flat (xs.take n ++ [(k, u)])) := (by simpa [flat_append, flat] using hown2)
        have R2 := hide r2
        have s2 := src_cells HV.out K2.out (n) (xs.length - (n))
        have zz2 := K2.out.size
        clear hown2 hg2 r2
        by_cases hcq : cap = n
        · go_wp2_with (at_builtin; refine Stop.out ?_)
          refine ⟨?_⟩
          refine wpList_append_own_at _ rfl _ _ 44 rfl w.heap.size 47 y0 (.agg #[.int .i64 0, .int .i64 0]) 2 16 Try.underlying44 hi' hz0 hz1 hz2 rfl (by decide) _ _ _ rfl R2.out _ _ _ (flat []) rfl (by first | (simp [flat]; done) | (simp [flat]; omega)) (by simp [flat]) (flat_one _) (by simp only [List.length_append, List.length_take, List.length_singleton]; unfold maxLen; omega) (by simp only [List.length_append, List.length_take, List.length_singleton]; omega) (by omega) ?_
          intro v3 w3 hown3 hg3 hni _
          clear hni
          have KF := hide (kept_append0 K2.out R2.out hg3)
          go_wp2
          go_ret
          refine ⟨v3, rfl, ?_, KF.out⟩
          rw [HPP.out]
          have e0 : xs.drop (n) = [] := List.drop_eq_nil_of_le (by omega)
          have e1 : (xs.take n ++ [(k, u)]).length + (xs.length - (n)) = (xs.take n ++ [(k, u)]).length := by omega
          rw [e0]
          try rw [e1] at hown3
          simpa [flat] using hown3
        · go_wp2_with (at_builtin; refine Stop.out ?_)
          refine ⟨?_⟩
          refine wpList_append_own_at _ rfl _ _ 44 rfl w.heap.size 47 y0 (.agg #[.int .i64 0, .int .i64 0]) 2 16 Try.underlying44 hi' hz0 hz1 hz2 rfl (by decide) _ _ _ rfl R2.out _ _ _ (flat []) rfl (by first | (simp [flat]; done) | (simp [flat]; omega)) (by simp [flat]) (flat_one _) (by simp only [List.length_append, List.length_take, List.length_singleton]; unfold maxLen; omega) (by simp only [List.length_append, List.length_take, List.length_singleton]; omega) (by omega) ?_
          intro v3 w3 hown3 hg3 hni _
          clear hni
          have KF := hide (kept_append0 K2.out R2.out hg3)
          go_wp2
          go_ret
          refine ⟨v3, rfl, ?_, KF.out⟩
          rw [HPP.out]
          have e0 : xs.drop (n) = [] := List.drop_eq_nil_of_le (by omega)
          have e1 : (xs.take n ++ [(k, u)]).length + (xs.length - (n)) = (xs.take n ++ [(k, u)]).length := by omega
          rw [e0]
          try rw [e1] at hown3
          simpa [flat] using hown3
      · obtain ⟨_, he, _, g1, _⟩ := (preads_of_own hv).at hat
        obtain rfl := Option.some.inj he |> Addr.mk.inj |>.1
        simp only at g1
        obtain ⟨n, hn⟩ : ∃ n, place xs k = n := ⟨_, rfl⟩
        rw [hn] at HP g1 hlt hpp hpl
        have HPP := hide hpp
        have i3 : n < cap := by omega
        have hx : (x == k) = false := by simp only [beq_eq_false_iff_ne, ne_eq]; exact hne
        clear hv hpp hat hh hn he hne
        go_enter Try.func27, Try.ntmps27
        go_wp2_with (fail)
        refine HP.out.mono ?_
        rintro e w' ⟨rfl, rfl⟩
        have s1 := src_cells HV.out (show Kept w (w.alloc (.cells #[] 47)) from Turned.alloc _ _ _) 0 n
        simp only [Nat.zero_mul, List.drop_zero] at s1
        go_wp2_with (at_builtin; refine Stop.out ?_)
        refine ⟨?_⟩
        refine wpList_append_own_at _ rfl _ _ 44 rfl w.heap.size 47 y0 (.agg #[.int .i64 0, .int .i64 0]) 2 16 Try.underlying44 hi' hz0 hz1 hz2 rfl (by decide) _ _ _ rfl r0 ⟨g, 0, none⟩ n cap (flat (xs.take n)) rfl (by rw [flat_length, List.length_take]; congr 1; omega) s1 (flat_one _) (by simp; unfold maxLen; omega) (by simp; omega) (by simp) ?_
        intro v1 w1 hown1 hg1 hni _
        clear hni
        have K1 := hide (kept_append0 (xs := []) (show Kept w (w.alloc (.cells #[] 47)) from Turned.alloc _ _ _) r0 hg1)
        have r1 : w1.ownsRow w.heap.size 47 2 v1 (xs.take n).length (flat (xs.take n)) := (by rw [List.length_take, Nat.min_eq_left (by omega)]; simpa [flat] using hown1)
        have zz1 := K1.out.size
        have R1 := hide r1
        clear hown1 hg1 s1 r0 r1
        go_wp2_with (at_builtin; refine Stop.out ?_)
        refine ⟨?_⟩
        refine wpList_append_own_at _ rfl _ _ 44 rfl w.heap.size 47 y0 (.agg #[.int .i64 0, .int .i64 0]) 2 16 Try.underlying44 hi' hz0 hz1 hz2 rfl (by decide) _ _ _ rfl (R1.out.alloc (.cells #[.int .i64 k, .int .i64 u] 47)) ⟨w1.heap.size, 0, none⟩ 1 1 [.int .i64 k, .int .i64 u] rfl rfl (two_newR _ _ _) (by simp [Value.oneCell']) (by rw [List.length_take]; unfold maxLen; omega) (by rw [List.length_take]; omega) (by simp; omega) ?_
        intro v2 w2 hown2 hg2 hni _
        clear hni
        have K2 := hide (kept_append K1.out R1.out hg2)
        have r2 : w2.ownsRow w.heap.size 47 2 v2 (xs.take n ++ [(k, u)]).length (flat (xs.take n ++ [(k, u)])) := (by simpa [flat_append, flat] using hown2)
        have R2 := hide r2
        have s2 := src_cells HV.out K2.out (n) (xs.length - (n))
        have g1' := K2.out.cell g1 id
        have zz2 := K2.out.size
        clear hown2 hg2 r2 g1
        go_wp2_with (at_builtin; refine Stop.out ?_)
        refine ⟨?_⟩
        refine wpList_append_own_at _ rfl _ _ 44 rfl w.heap.size 47 y0 (.agg #[.int .i64 0, .int .i64 0]) 2 16 Try.underlying44 hi' hz0 hz1 hz2 rfl (by decide) _ _ _ rfl R2.out ⟨g, (n) * 2, none⟩ (xs.length - (n)) (cap - (n)) (flat ((xs.drop (n)).take (xs.length - (n)))) rfl (by rw [flat_length, List.length_take, List.length_drop]; congr 1; omega) s2 (flat_one _) (by simp only [List.length_append, List.length_take, List.length_singleton]; unfold maxLen; omega) (by simp only [List.length_append, List.length_take, List.length_singleton]; omega) (by omega) ?_
        intro v3 w3 hown3 hg3 hni _
        clear hni
        have KF := hide (kept_append0 K2.out R2.out hg3)
        go_wp2
        go_ret
        refine ⟨v3, rfl, ?_, KF.out⟩
        rw [HPP.out]
        have e1 : (xs.drop (n)).take (xs.length - (n)) = xs.drop (n) := List.take_of_length_le (by rw [List.length_drop]; exact Nat.le_refl _)
        rw [e1, ← flat_append] at hown3
        have e2 : (xs.take n ++ [(k, u)]).length + (xs.length - (n)) = (xs.take n ++ [(k, u)] ++ xs.drop (n)).length := by simp only [List.length_append, List.length_drop]
        rw [e2] at hown3
        simpa using hown3

end Go.Proofs.Ytmfpfoikfpcnkaa
