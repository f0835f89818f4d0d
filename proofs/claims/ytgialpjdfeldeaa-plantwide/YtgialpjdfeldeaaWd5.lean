/-
  What the proof of YtgialpjdfeldeaaPlantWideProof goes by, part 5 of 6: contracts and plain facts; each part begins with its own sentence. No conditions beyond each theorem's own.
-/
import Derived.Test.YtgialpjdfeldeaaWd4
import Derived.Test.YtgialpjdfeldeaaRows
import Derived.Laws.OwnMore
import Derived.Maps.OwnIn
/-! Slices of pairs: how they read ('PReads'); what the document's Place and Put answer, of pairs in a slice that owns its row; nothing that lay is turned. -/
namespace Go.Proofs.Ytgialpjdfeldeaa.Mp
open Go.RowKit

/-- A slice value that reads as these pairs, from its block's beginning on. -/
def PReads (w : World) (a : Option Addr) (xs : List (Int × Int)) : Prop :=
  xs = [] ∨ ∃ bl, a = some ⟨bl, 0, none⟩ ∧ ∀ j p, xs[j]? = some p → w.cell? ⟨bl, j * 2, none⟩ = some (.int .i64 p.1) ∧ w.cell? ⟨bl, j * 2 + 1, none⟩ = some (.int .i64 p.2)
theorem PReads.turned {w w' : World} {a : Option Addr} {xs : List (Int × Int)} (h : PReads w a xs) {R : Nat → Prop} (ht : Turned R w w') (hR : ∀ k, (Value.slice a 0 0).ownBlock = some k → ¬ R k) : PReads w' a xs := by
  rcases h with h | ⟨bl, rfl, h⟩
  · exact .inl h
  · refine .inr ⟨bl, rfl, fun j p hp => ?_⟩
    have hn := hR bl rfl
    exact ⟨ht.cell (h j p hp).1 hn, ht.cell (h j p hp).2 hn⟩
theorem PReads.kept {w w' : World} {a : Option Addr} {xs : List (Int × Int)} (h : PReads w a xs) (ht : Kept w w') : PReads w' a xs := h.turned ht (fun _ _ e => e)
theorem PReads.at {w : World} {a : Option Addr} {xs : List (Int × Int)} (h : PReads w a xs) {j : Nat} {p : Int × Int} (hp : xs[j]? = some p) : ∃ bl, a = some ⟨bl, 0, none⟩ ∧ bl < w.heap.size ∧ w.cell? ⟨bl, j * 2, none⟩ = some (.int .i64 p.1) ∧ w.cell? ⟨bl, j * 2 + 1, none⟩ = some (.int .i64 p.2) := by
  rcases h with h | ⟨bl, ha, hc⟩
  · rw [h] at hp
    simp at hp
  · exact ⟨bl, ha, World.block_lt_of_cell? _ _ (hc j p hp).1, hc j p hp⟩

/-- A slice of pairs that owns its row reads as they are. -/
theorem preads_of_row {w : World} {n₀ : Nat} {v : Value} {xs : List (Int × Int)} (h : w.ownsRow n₀ 30 2 v xs.length (flat xs)) : ∃ a cap, v = .slice a xs.length cap ∧ PReads w a xs ∧ xs.length ≤ cap := by
  rcases h.2 with ⟨rfl, h0⟩ | ⟨g, cap, cur, rfl, _, _, hc, _⟩
  · obtain rfl := List.length_eq_zero_iff.1 h0
    exact ⟨none, 0, rfl, .inl rfl, Nat.le_refl _⟩
  · refine ⟨_, cap, rfl, .inr ⟨g, rfl, fun j p hp => ?_⟩, hc⟩
    have hj := (List.getElem?_eq_some_iff.1 hp).1
    rw [h.cellAt (j * 2) (by omega), h.cellAt (j * 2 + 1) (by omega)]
    exact flat_at hp

theorem info47 : (Try.prog.info? 30).map (fun i => (i.zero, i.size, i.bytes)) = some (some (.agg #[.int .i64 0, .int .i64 0]), 2, 16) := by kernel_rfl

/-- Behind an append to a row that is new since w, what lay at w lies as it lay. -/
theorem kept_append {w wr w1 : World} {v : Value} {xs : List (Int × Int)} {tmp : Obj} (k : Kept w wr) (hr : wr.ownsRow w.heap.size 30 2 v xs.length (flat xs)) (hg : (wr.alloc tmp).grownBy w1 v.ownBlock) : Kept w w1 :=
  Turned.trans (k.trans (Turned.alloc _ _ tmp)) (Turned.of_grownBy (R := fun j => v.ownBlock = some j) hg (fun _ h => h)) (fun _ h => h) (fun i hi h => by have := (hr.lt i h).1; omega)
theorem kept_append0 {w wr w1 : World} {v : Value} {xs : List (Int × Int)} (k : Kept w wr) (hr : wr.ownsRow w.heap.size 30 2 v xs.length (flat xs)) (hg : wr.grownBy w1 v.ownBlock) : Kept w w1 :=
  Turned.trans k (Turned.of_grownBy (R := fun j => v.ownBlock = some j) hg (fun _ h => h)) (fun _ h => h) (fun i hi h => by have := (hr.lt i h).1; omega)

/-- Two cells of a new block. -/
theorem two_newR (w : World) (x y : Int) : ∀ (j : Nat) (u : Value), [Value.int .i64 x, .int .i64 y][j]? = some u → (w.alloc (.cells #[.int .i64 x, .int .i64 y] 30)).cell? ((⟨w.heap.size, 0, none⟩ : Addr).add j) = some u := by
  intro j u h
  have hb : (w.alloc (.cells #[.int .i64 x, .int .i64 y] 30)).heap[w.heap.size]? = some (.cells #[.int .i64 x, .int .i64 y] 30) := heap_new w _
  have c : ∀ i, (w.alloc (.cells #[.int .i64 x, .int .i64 y] 30)).cell? ⟨w.heap.size, i, none⟩ = #[Value.int .i64 x, .int .i64 y][i]? := fun i => by
    unfold World.cell?
    rw [hb]
    rfl
  rcases j with _ | _ | j
  · simp at h
    subst h
    exact c 0
  · simp at h
    subst h
    exact c 1
  · simp at h

/-- A new slice of these pairs. -/
def PSliced (xs : List (Int × Int)) (w : World) (e : Ending) (w' : World) : Prop := ∃ v, e = .returned v ∧ w'.ownsRow w.heap.size 30 2 v xs.length (flat xs) ∧ Kept w w'

theorem wpList_append_none {P : Program} {w : World} {ops : Array Oper} {rest : List Oper} {o : Oper} {a : Act} {Q : Exit → Act → World → Prop} (hgd : o.guard = none) (s x : Operand) (t : TypeId)
    (ho : o.op = .call { callee := .builtin .append, args := #[s, x], argTypes := #[t, t] })
    (base : Nat) (e : TypeId) (i : TypeInfo) (size : Nat) (ht : P.underlying t = some (.slice e)) (hi : P.info? e = some i)
    (v : Value) (n : Nat) (xs : List Value) (hs : a.eval s = v) (hown : w.ownsRow base e size v n xs) (hx : a.eval x = .slice none 0 0)
    (h : wpList P ops Q rest (a.put o.dst v) w) : wpList P ops Q (o :: rest) a w := by
  refine wpList_plain hgd fun K hK => ?_
  have hr := run_append_owned_none (P := P) (w := w) base t o.type e i size ht hi v n xs hown
  unfold Oper.wp execOp
  simp only [ho, resolve, invoke, builtin, Sem.run_bind, Sem.run_pure, Result.andThen_ok, List.map_toArray, List.map_cons, List.map_nil, hs, hx, hr]
  exact hK _ _ h

/-- A new row without an element. -/
theorem prow_new (w : World) : (w.alloc (.cells #[] 30)).ownsRow w.heap.size 30 2 (.slice (some ⟨w.heap.size, 0, none⟩) 0 0) ([] : List (Int × Int)).length (flat []) :=
  ⟨rfl, .inr ⟨w.heap.size, 0, #[], rfl, Nat.le_refl _, heap_new w _, Nat.le_refl _, Nat.zero_le _, rfl, rfl⟩⟩

/-- The cells of a part of a row, where they lie. -/
theorem src_cells {w w' : World} {n₀ g cap : Nat} {xs : List (Int × Int)} (h : w.ownsRow n₀ 30 2 (.slice (some ⟨g, 0, none⟩) xs.length cap) xs.length (flat xs)) (k : Kept w w') (q m : Nat) :
    ∀ (j : Nat) (u : Value), (flat ((xs.drop q).take m))[j]? = some u → w'.cell? ((⟨g, q * 2, none⟩ : Addr).add j) = some u := by
  intro j u hu
  have hq : q ≤ xs.length := by
    by_cases hq : q ≤ xs.length
    · exact hq
    · rw [List.drop_eq_nil_of_le (by omega)] at hu
      simp [flat] at hu
  have e : flat xs = flat (xs.take q) ++ (flat ((xs.drop q).take m) ++ flat ((xs.drop q).drop m)) := by
    rw [← flat_append, List.take_append_drop, ← flat_append, List.take_append_drop]
  have hj := (List.getElem?_eq_some_iff.1 hu).1
  have l1 : (flat (xs.take q)).length = q * 2 := by rw [flat_length, List.length_take]; congr 1; omega
  have hx : (flat xs)[q * 2 + j]? = some u := by
    rw [e, List.getElem?_append_right (by omega), l1, Nat.add_sub_cancel_left, List.getElem?_append_left hj]
    exact hu
  have hlt : q * 2 + j < xs.length * 2 := by
    have := (List.getElem?_eq_some_iff.1 hx).1
    rwa [flat_length] at this
  have hc := h.cellAt (q * 2 + j) hlt
  rw [hx] at hc
  rw [Go.WideShapes.add_plain]
  exact k.cell hc id

set_option maxRecDepth 100000 in
theorem place_c (w : World) (a : Option Addr) (xs : List (Int × Int)) (cap : Nat) (k : Int) (hr : PReads w a xs) (hc : xs.length ≤ cap) (hl : xs.length ≤ 5000) :
    Calls Try.prog 78 #[.slice a xs.length cap, .int .i64 k] w fun e w' => e = .returned (.int .i64 (place xs k : Int)) ∧ w = w' := by
  have HR := hide hr
  have hpl := place_le xs k
  clear hr
  go_enter Try.func78, Try.ntmps78
  go_wp2
  go_loopw [5] (fun i wr => ∃ n : Nat, n ≤ place xs k ∧ i = .int .i64 n ∧ w = wr) (fun i _ => xs.length - (intOf i).toNat)
  case atStart => exact ⟨0, Nat.zero_le _, rfl, rfl⟩
  case round =>
    obtain ⟨n, hn, rfl, rfl⟩ := hrel
    by_cases hlt : n < xs.length
    · obtain ⟨⟨x, xv⟩, hp⟩ : ∃ p, xs[n]? = some p := ⟨_, List.getElem?_eq_getElem hlt⟩
      obtain ⟨bl, rfl, _, g1, _⟩ := HR.out.at hp
      simp only at g1
      have i3 : n < cap := by omega
      by_cases hnp : n < place xs k
      · have hx : x < k := place_below hnp hp
        clear hp
        go_wp2
        exact ⟨⟨n + 1, by omega, by simp, trivial⟩, by simp [intOf]; omega⟩
      · have e : n = place xs k := by omega
        have hx : k ≤ x := by
          rw [e] at hp
          exact place_stop hp
        have E := hide e
        clear hp e hnp
        go_wp2
        go_ret
        exact ⟨by rw [← E.out]; rfl, rfl⟩
    · have E : Hid (n = place xs k) := hide (by omega)
      go_wp2
      go_ret
      exact ⟨by rw [← E.out]; rfl, rfl⟩

/-- What is at the place, if anything. -/
theorem hit_true {xs : List (Int × Int)} {k : Int} (h : hit xs k = true) : ∃ v, xs[place xs k]? = some (k, v) ∧ place xs k < xs.length := by
  unfold hit at h
  cases hp : xs[place xs k]? with
  | none => simp [hp] at h
  | some p =>
    simp [hp] at h
    exact ⟨p.2, by rw [← h], (List.getElem?_eq_some_iff.1 hp).1⟩
theorem hit_false {xs : List (Int × Int)} {k : Int} (h : hit xs k = false) : xs.length = place xs k ∨ ∃ x v, xs[place xs k]? = some (x, v) ∧ place xs k < xs.length ∧ x ≠ k := by
  have hl := place_le xs k
  cases hp : xs[place xs k]? with
  | none =>
    rw [List.getElem?_eq_none_iff] at hp
    exact .inl (by omega)
  | some p =>
    unfold hit at h
    simp [hp] at h
    exact .inr ⟨p.1, p.2, rfl, (List.getElem?_eq_some_iff.1 hp).1, h⟩

theorem preads_of_own {w : World} {n₀ g cap : Nat} {xs : List (Int × Int)} (h : w.ownsRow n₀ 30 2 (.slice (some ⟨g, 0, none⟩) xs.length cap) xs.length (flat xs)) : PReads w (some ⟨g, 0, none⟩) xs := by
  obtain ⟨a, c, e, hp, _⟩ := preads_of_row h
  cases e
  exact hp

set_option maxRecDepth 100000 in
set_option maxHeartbeats 1000000 in
theorem refPut_c (w : World) (n₀ : Nat) (v : Value) (xs : List (Int × Int)) (k u : Int) (hv : w.ownsRow n₀ 30 2 v xs.length (flat xs)) (hl : xs.length ≤ 5000) :
    Calls Try.prog 49 #[v, .int .i64 k, .int .i64 u] w (PSliced (put ltI xs k u) w) := by
  obtain ⟨y0, hi', hz0, hz1, hz2⟩ := info_parts info47
  have hpp := put_place xs k u
  have r0 := prow_new w
  rcases hv.2 with ⟨rfl, h0⟩ | ⟨g, cap, cur, rfl, hg0, _, hcap, hmx, _⟩
  · obtain rfl := List.length_eq_zero_iff.1 h0
    have HP : Hid (Calls Try.prog 78 #[.slice none 0 0, .int .i64 k] w fun e w' => e = .returned (.int .i64 0) ∧ w = w') := hide (place_c w none [] 0 k (.inl rfl) (Nat.le_refl _) (by simp))
    clear hv hpp h0
    go_enter Try.func49, Try.ntmps49
    go_wp2_with (fail)
    refine HP.out.mono ?_
    rintro e w' ⟨rfl, rfl⟩
    go_wp2_with (at_builtin; refine Stop.out ?_)
    refine ⟨?_⟩
    refine wpList_append_none rfl _ _ 31 rfl w.heap.size 30 y0 2 Try.underlying31 hi' _ _ _ rfl r0 rfl ?_
    go_wp2_with (at_builtin; refine Stop.out ?_)
    refine ⟨?_⟩
    refine wpList_append_own_at _ rfl _ _ 31 rfl w.heap.size 30 y0 (.agg #[.int .i64 0, .int .i64 0]) 2 16 Try.underlying31 hi' hz0 hz1 hz2 rfl (by decide) _ _ _ rfl (r0.alloc (.cells #[.int .i64 k, .int .i64 u] 30)) ⟨w.heap.size + 1, 0, none⟩ 1 1 [.int .i64 k, .int .i64 u] rfl rfl (by have := two_newR (w.alloc (.cells #[] 30)) k u; rwa [World.size_alloc] at this) (by simp [Value.oneCell']) (by decide) (by decide) (by rw [World.size_alloc, World.size_alloc]; omega) ?_
    intro v2 w2 hown2 hg2 hni _
    clear hni
    have K2 := hide (kept_append (xs := []) (show Kept w (w.alloc (.cells #[] 30)) from Turned.alloc _ _ _) r0 hg2)
    clear hg2 r0
    go_wp2_with (at_builtin; refine Stop.out ?_)
    refine ⟨?_⟩
    refine wpList_append_none rfl _ _ 31 rfl w.heap.size 30 y0 2 Try.underlying31 hi' _ _ _ rfl hown2 rfl ?_
    go_wp2
    go_ret
    exact ⟨v2, rfl, by simpa [flat, put] using hown2, K2.out⟩
  · have hc5 : cap ≤ 9223372036854775807 := by unfold maxLen at hmx; omega
    have HP := hide (place_c w _ xs cap k (preads_of_own hv) hcap hl)
    have hpl := place_le xs k
    have HV := hide hv
    cases hh : hit xs k with
    | true =>
      obtain ⟨hv', hat, hlt⟩ := hit_true hh
      obtain ⟨_, he, _, g1, _⟩ := (preads_of_own hv).at hat
      obtain rfl := Option.some.inj he |> Addr.mk.inj |>.1
      simp only at g1
      rw [hh, if_pos rfl] at hpp
      obtain ⟨n, hn⟩ : ∃ n, place xs k = n := ⟨_, rfl⟩
      rw [hn] at HP g1 hlt hpp hpl
      have HPP := hide hpp
      have i3 : n < cap := by omega
      clear hv hpp hat hh hn he
      go_enter Try.func49, Try.ntmps49
      go_wp2_with (fail)
      refine HP.out.mono ?_
      rintro e w' ⟨rfl, rfl⟩
      have s1 := src_cells HV.out (show Kept w (w.alloc (.cells #[] 30)) from Turned.alloc _ _ _) 0 n
      simp only [Nat.zero_mul, List.drop_zero] at s1
      go_wp2_with (at_builtin; refine Stop.out ?_)
      refine ⟨?_⟩
      refine wpList_append_own_at _ rfl _ _ 31 rfl w.heap.size 30 y0 (.agg #[.int .i64 0, .int .i64 0]) 2 16 Try.underlying31 hi' hz0 hz1 hz2 rfl (by decide) _ _ _ rfl r0 ⟨g, 0, none⟩ n cap (flat (xs.take n)) rfl (by rw [flat_length, List.length_take]; congr 1; omega) s1 (flat_one _) (by simp; unfold maxLen; omega) (by simp; omega) (by simp) ?_
      intro v1 w1 hown1 hg1 hni _
      clear hni
      have K1 := hide (kept_append0 (xs := []) (show Kept w (w.alloc (.cells #[] 30)) from Turned.alloc _ _ _) r0 hg1)
      have r1 : w1.ownsRow w.heap.size 30 2 v1 (xs.take n).length (flat (xs.take n)) := (by rw [List.length_take, Nat.min_eq_left (by omega)]; simpa [flat] using hown1)
      have zz1 := K1.out.size
      have R1 := hide r1
      clear hown1 hg1 s1 r0 r1
      go_wp2_with (at_builtin; refine Stop.out ?_)
      refine ⟨?_⟩
      refine wpList_append_own_at _ rfl _ _ 31 rfl w.heap.size 30 y0 (.agg #[.int .i64 0, .int .i64 0]) 2 16 Try.underlying31 hi' hz0 hz1 hz2 rfl (by decide) _ _ _ rfl (R1.out.alloc (.cells #[.int .i64 k, .int .i64 u] 30)) ⟨w1.heap.size, 0, none⟩ 1 1 [.int .i64 k, .int .i64 u] rfl rfl (two_newR _ _ _) (by simp [Value.oneCell']) (by rw [List.length_take]; unfold maxLen; omega) (by rw [List.length_take]; omega) (by simp; omega) ?_
      intro v2 w2 hown2 hg2 hni _
      clear hni
      have K2 := hide (kept_append K1.out R1.out hg2)
      have r2 : w2.ownsRow w.heap.size 30 2 v2 (xs.take n ++ [(k, u)]).length (flat (xs.take n ++ [(k, u)])) := (by simpa [flat_append, flat] using hown2)
      have R2 := hide r2
      have s2 := src_cells HV.out K2.out (n + 1) (xs.length - (n + 1))
      have g1' := K2.out.cell g1 id
      have zz2 := K2.out.size
      clear hown2 hg2 r2 g1
      by_cases hcq : cap = n + 1
      · go_wp2_with (at_builtin; refine Stop.out ?_)
        refine ⟨?_⟩
        refine wpList_append_own_at _ rfl _ _ 31 rfl w.heap.size 30 y0 (.agg #[.int .i64 0, .int .i64 0]) 2 16 Try.underlying31 hi' hz0 hz1 hz2 rfl (by decide) _ _ _ rfl R2.out _ _ _ (flat []) rfl (by first | (simp [flat]; done) | (simp [flat]; omega)) (by simp [flat]) (flat_one _) (by simp only [List.length_append, List.length_take, List.length_singleton]; unfold maxLen; omega) (by simp only [List.length_append, List.length_take, List.length_singleton]; omega) (by omega) ?_
        intro v3 w3 hown3 hg3 hni _
        clear hni
        have KF := hide (kept_append0 K2.out R2.out hg3)
        go_wp2
        go_ret
        refine ⟨v3, rfl, ?_, KF.out⟩
        rw [HPP.out]
        have e0 : xs.drop (n + 1) = [] := List.drop_eq_nil_of_le (by omega)
        have e1 : (xs.take n ++ [(k, u)]).length + (xs.length - (n + 1)) = (xs.take n ++ [(k, u)]).length := by omega
        rw [e0]
        try rw [e1] at hown3
        simpa [flat] using hown3
      · go_wp2_with (at_builtin; refine Stop.out ?_)
        refine ⟨?_⟩
        refine wpList_append_own_at _ rfl _ _ 31 rfl w.heap.size 30 y0 (.agg #[.int .i64 0, .int .i64 0]) 2 16 Try.underlying31 hi' hz0 hz1 hz2 rfl (by decide) _ _ _ rfl R2.out ⟨g, (n + 1) * 2, none⟩ (xs.length - (n + 1)) (cap - (n + 1)) (flat ((xs.drop (n + 1)).take (xs.length - (n + 1)))) rfl (by rw [flat_length, List.length_take, List.length_drop]; congr 1; omega) s2 (flat_one _) (by simp only [List.length_append, List.length_take, List.length_singleton]; unfold maxLen; omega) (by simp only [List.length_append, List.length_take, List.length_singleton]; omega) (by omega) ?_
        intro v3 w3 hown3 hg3 hni _
        clear hni
        have KF := hide (kept_append0 K2.out R2.out hg3)
        go_wp2
        go_ret
        refine ⟨v3, rfl, ?_, KF.out⟩
        rw [HPP.out]
        have e1 : (xs.drop (n + 1)).take (xs.length - (n + 1)) = xs.drop (n + 1) := List.take_of_length_le (by rw [List.length_drop]; exact Nat.le_refl _)
        rw [e1, ← flat_append] at hown3
        have e2 : (xs.take n ++ [(k, u)]).length + (xs.length - (n + 1)) = (xs.take n ++ [(k, u)] ++ xs.drop (n + 1)).length := by simp only [List.length_append, List.length_drop]
        rw [e2] at hown3
        simpa using hown3
    | false =>
      rw [hh, if_neg (by simp)] at hpp
      rcases hit_false hh with he | ⟨x, xv, hat, hlt, hne⟩
      · obtain ⟨n, hn⟩ : ∃ n, place xs k = n := ⟨_, rfl⟩
        rw [hn] at HP hpp hpl he
        have HPP := hide hpp
        have hnl : ¬ ((n : Int) < (xs.length : Int)) := by omega
        have hnl' : ¬ (n < xs.length) := by omega
        have he' : xs.length ≤ n := by omega
        clear hv hpp hh hn he
        go_enter Try.func49, Try.ntmps49
        go_wp2_with (fail)
        refine HP.out.mono ?_
        rintro e w' ⟨rfl, rfl⟩
        have s1 := src_cells HV.out (show Kept w (w.alloc (.cells #[] 30)) from Turned.alloc _ _ _) 0 n
        simp only [Nat.zero_mul, List.drop_zero] at s1
        go_wp2_with (at_builtin; refine Stop.out ?_)
        refine ⟨?_⟩
        refine wpList_append_own_at _ rfl _ _ 31 rfl w.heap.size 30 y0 (.agg #[.int .i64 0, .int .i64 0]) 2 16 Try.underlying31 hi' hz0 hz1 hz2 rfl (by decide) _ _ _ rfl r0 ⟨g, 0, none⟩ n cap (flat (xs.take n)) rfl (by rw [flat_length, List.length_take]; congr 1; omega) s1 (flat_one _) (by simp; unfold maxLen; omega) (by simp; omega) (by simp) ?_
        intro v1 w1 hown1 hg1 hni _
        clear hni
        have K1 := hide (kept_append0 (xs := []) (show Kept w (w.alloc (.cells #[] 30)) from Turned.alloc _ _ _) r0 hg1)
        have r1 : w1.ownsRow w.heap.size 30 2 v1 (xs.take n).length (flat (xs.take n)) := (by rw [List.length_take, Nat.min_eq_left (by omega)]; simpa [flat] using hown1)
        have zz1 := K1.out.size
        have R1 := hide r1
        clear hown1 hg1 s1 r0 r1
        go_wp2_with (at_builtin; refine Stop.out ?_)
        refine ⟨?_⟩
        refine wpList_append_own_at _ rfl _ _ 31 rfl w.heap.size 30 y0 (.agg #[.int .i64 0, .int .i64 0]) 2 16 Try.underlying31 hi' hz0 hz1 hz2 rfl (by decide) _ _ _ rfl (R1.out.alloc (.cells #[.int .i64 k, .int .i64 u] 30)) ⟨w1.heap.size, 0, none⟩ 1 1 [.int .i64 k, .int .i64 u] rfl rfl (two_newR _ _ _) (by simp [Value.oneCell']) (by rw [List.length_take]; unfold maxLen; omega) (by rw [List.length_take]; omega) (by simp; omega) ?_
        intro v2 w2 hown2 hg2 hni _
        clear hni
        have K2 := hide (kept_append K1.out R1.out hg2)
        have r2 : w2.ownsRow w.heap.size 30 2 v2 (xs.take n ++ [(k, u)]).length (flat (xs.take n ++ [(k, u)])) := (by simpa [flat_append, flat] using hown2)
        have R2 := hide r2
        have s2 := src_cells HV.out K2.out (n) (xs.length - (n))
        have zz2 := K2.out.size
        clear hown2 hg2 r2
        by_cases hcq : cap = n
        · go_wp2_with (at_builtin; refine Stop.out ?_)
          refine ⟨?_⟩
          refine wpList_append_own_at _ rfl _ _ 31 rfl w.heap.size 30 y0 (.agg #[.int .i64 0, .int .i64 0]) 2 16 Try.underlying31 hi' hz0 hz1 hz2 rfl (by decide) _ _ _ rfl R2.out _ _ _ (flat []) rfl (by first | (simp [flat]; done) | (simp [flat]; omega)) (by simp [flat]) (flat_one _) (by simp only [List.length_append, List.length_take, List.length_singleton]; unfold maxLen; omega) (by simp only [List.length_append, List.length_take, List.length_singleton]; omega) (by omega) ?_
          intro v3 w3 hown3 hg3 hni _
          clear hni
          have KF := hide (kept_append0 K2.out R2.out hg3)
          go_wp2
          go_ret
          refine ⟨v3, rfl, ?_, KF.out⟩
          rw [HPP.out]
          have e0 : xs.drop (n) = [] := List.drop_eq_nil_of_le (by omega)
          have e1 : (xs.take n ++ [(k, u)]).length + (xs.length - (n)) = (xs.take n ++ [(k, u)]).length := by omega
          rw [e0]
          try rw [e1] at hown3
          simpa [flat] using hown3
        · go_wp2_with (at_builtin; refine Stop.out ?_)
          refine ⟨?_⟩
          refine wpList_append_own_at _ rfl _ _ 31 rfl w.heap.size 30 y0 (.agg #[.int .i64 0, .int .i64 0]) 2 16 Try.underlying31 hi' hz0 hz1 hz2 rfl (by decide) _ _ _ rfl R2.out _ _ _ (flat []) rfl (by first | (simp [flat]; done) | (simp [flat]; omega)) (by simp [flat]) (flat_one _) (by simp only [List.length_append, List.length_take, List.length_singleton]; unfold maxLen; omega) (by simp only [List.length_append, List.length_take, List.length_singleton]; omega) (by omega) ?_
          intro v3 w3 hown3 hg3 hni _
          clear hni
          have KF := hide (kept_append0 K2.out R2.out hg3)
          go_wp2
          go_ret
          refine ⟨v3, rfl, ?_, KF.out⟩
          rw [HPP.out]
          have e0 : xs.drop (n) = [] := List.drop_eq_nil_of_le (by omega)
          have e1 : (xs.take n ++ [(k, u)]).length + (xs.length - (n)) = (xs.take n ++ [(k, u)]).length := by omega
          rw [e0]
          try rw [e1] at hown3
          simpa [flat] using hown3
      · obtain ⟨_, he, _, g1, _⟩ := (preads_of_own hv).at hat
        obtain rfl := Option.some.inj he |> Addr.mk.inj |>.1
        simp only at g1
        obtain ⟨n, hn⟩ : ∃ n, place xs k = n := ⟨_, rfl⟩
        rw [hn] at HP g1 hlt hpp hpl
        have HPP := hide hpp
        have i3 : n < cap := by omega
        have hx : (x == k) = false := by simp only [beq_eq_false_iff_ne, ne_eq]; exact hne
        clear hv hpp hat hh hn he hne
        go_enter Try.func49, Try.ntmps49
        go_wp2_with (fail)
        refine HP.out.mono ?_
        rintro e w' ⟨rfl, rfl⟩
        have s1 := src_cells HV.out (show Kept w (w.alloc (.cells #[] 30)) from Turned.alloc _ _ _) 0 n
        simp only [Nat.zero_mul, List.drop_zero] at s1
        go_wp2_with (at_builtin; refine Stop.out ?_)
        refine ⟨?_⟩
        refine wpList_append_own_at _ rfl _ _ 31 rfl w.heap.size 30 y0 (.agg #[.int .i64 0, .int .i64 0]) 2 16 Try.underlying31 hi' hz0 hz1 hz2 rfl (by decide) _ _ _ rfl r0 ⟨g, 0, none⟩ n cap (flat (xs.take n)) rfl (by rw [flat_length, List.length_take]; congr 1; omega) s1 (flat_one _) (by simp; unfold maxLen; omega) (by simp; omega) (by simp) ?_
        intro v1 w1 hown1 hg1 hni _
        clear hni
        have K1 := hide (kept_append0 (xs := []) (show Kept w (w.alloc (.cells #[] 30)) from Turned.alloc _ _ _) r0 hg1)
        have r1 : w1.ownsRow w.heap.size 30 2 v1 (xs.take n).length (flat (xs.take n)) := (by rw [List.length_take, Nat.min_eq_left (by omega)]; simpa [flat] using hown1)
        have zz1 := K1.out.size
        have R1 := hide r1
        clear hown1 hg1 s1 r0 r1
        go_wp2_with (at_builtin; refine Stop.out ?_)
        refine ⟨?_⟩
        refine wpList_append_own_at _ rfl _ _ 31 rfl w.heap.size 30 y0 (.agg #[.int .i64 0, .int .i64 0]) 2 16 Try.underlying31 hi' hz0 hz1 hz2 rfl (by decide) _ _ _ rfl (R1.out.alloc (.cells #[.int .i64 k, .int .i64 u] 30)) ⟨w1.heap.size, 0, none⟩ 1 1 [.int .i64 k, .int .i64 u] rfl rfl (two_newR _ _ _) (by simp [Value.oneCell']) (by rw [List.length_take]; unfold maxLen; omega) (by rw [List.length_take]; omega) (by simp; omega) ?_
        intro v2 w2 hown2 hg2 hni _
        clear hni
        have K2 := hide (kept_append K1.out R1.out hg2)
        have r2 : w2.ownsRow w.heap.size 30 2 v2 (xs.take n ++ [(k, u)]).length (flat (xs.take n ++ [(k, u)])) := (by simpa [flat_append, flat] using hown2)
        have R2 := hide r2
        have s2 := src_cells HV.out K2.out (n) (xs.length - (n))
        have g1' := K2.out.cell g1 id
        have zz2 := K2.out.size
        clear hown2 hg2 r2 g1
        go_wp2_with (at_builtin; refine Stop.out ?_)
        refine ⟨?_⟩
        refine wpList_append_own_at _ rfl _ _ 31 rfl w.heap.size 30 y0 (.agg #[.int .i64 0, .int .i64 0]) 2 16 Try.underlying31 hi' hz0 hz1 hz2 rfl (by decide) _ _ _ rfl R2.out ⟨g, (n) * 2, none⟩ (xs.length - (n)) (cap - (n)) (flat ((xs.drop (n)).take (xs.length - (n)))) rfl (by rw [flat_length, List.length_take, List.length_drop]; congr 1; omega) s2 (flat_one _) (by simp only [List.length_append, List.length_take, List.length_singleton]; unfold maxLen; omega) (by simp only [List.length_append, List.length_take, List.length_singleton]; omega) (by omega) ?_
        intro v3 w3 hown3 hg3 hni _
        clear hni
        have KF := hide (kept_append0 K2.out R2.out hg3)
        go_wp2
        go_ret
        refine ⟨v3, rfl, ?_, KF.out⟩
        rw [HPP.out]
        have e1 : (xs.drop (n)).take (xs.length - (n)) = xs.drop (n) := List.take_of_length_le (by rw [List.length_drop]; exact Nat.le_refl _)
        rw [e1, ← flat_append] at hown3
        have e2 : (xs.take n ++ [(k, u)]).length + (xs.length - (n)) = (xs.take n ++ [(k, u)] ++ xs.drop (n)).length := by simp only [List.length_append, List.length_drop]
        rw [e2] at hown3
        simpa using hown3

end Go.Proofs.Ytgialpjdfeldeaa.Mp

/-! What ordinatehand's Wide answers (a contract): the keys of the first 80 numbers, strictly ascending, each once, in new memory; nothing that lay is turned. -/
namespace Go.Proofs.Ytgialpjdfeldeaa.Mp
open Go.RowKit

/-- What may be turned from n₀ on. -/
abbrev From (n₀ : Nat) (w w' : World) : Prop := Turned (fun g => n₀ ≤ g) w w'
theorem From.trans {n₀ : Nat} {a b c : World} (h : From n₀ a b) (k : From n₀ b c) : From n₀ a c := Turned.trans h k (fun _ e => e) (fun _ _ e => e)

/-- The map of the first t numbers. -/
def fillW (zs : List Int) : Nat → List (Int × Int)
  | 0 => []
  | t + 1 => match zs[t]? with
    | some z => put ltI (fillW zs t) z 0
    | none => fillW zs t
theorem fillW_step {zs : List Int} {t : Nat} {z : Int} (h : zs[t]? = some z) : fillW zs (t + 1) = put ltI (fillW zs t) z 0 := by
  rw [fillW, h]
theorem fillW_le (zs : List Int) : (t : Nat) → (fillW zs t).length ≤ t
  | 0 => Nat.le_refl _
  | t + 1 => by
    have := fillW_le zs t
    unfold fillW
    split
    · rename_i z _
      have := length_put_le (lt := ltI) (xs := fillW zs t) (k := z) (v := (0 : Int))
      omega
    · omega
theorem fillW_asc (zs : List Int) : (t : Nat) → Asc ltI (fillW zs t)
  | 0 => List.Pairwise.nil
  | t + 1 => by
    unfold fillW
    split
    · exact asc_put linI (fillW_asc zs t)
    · exact fillW_asc zs t
theorem fillW_mem (zs : List Int) : (t : Nat) → ∀ p ∈ fillW zs t, p.1 ∈ zs
  | 0 => by simp [fillW]
  | t + 1 => by
    intro p hp
    unfold fillW at hp
    split at hp
    · rename_i z hz
      rcases mem_put hp with rfl | hp
      · exact List.mem_of_getElem? hz
      · exact fillW_mem zs t p hp
    · exact fillW_mem zs t p hp
/-- The keys of the first 80 numbers. -/
def wideP (zs : List Int) : List Int := (fillW zs (min zs.length 80)).map Prod.fst
theorem wide_up (zs : List Int) : (wideP zs).Pairwise (· < ·) := by
  have := fillW_asc zs (min zs.length 80)
  unfold wideP
  rw [List.pairwise_map]
  exact List.Pairwise.imp (fun h => ltI_true.1 h) this
theorem wide_le (zs : List Int) : (wideP zs).length ≤ 80 := by
  have := fillW_le zs (min zs.length 80)
  unfold wideP
  rw [List.length_map]
  omega
theorem wide_mem {zs : List Int} {z : Int} (h : z ∈ wideP zs) : z ∈ zs := by
  unfold wideP at h
  obtain ⟨p, hp, rfl⟩ := List.mem_map.1 h
  exact fillW_mem zs _ p hp

/-- A new slice of these int64s. -/
def Sliced2 (xs : List Int) (w : World) (e : Ending) (w' : World) : Prop := ∃ v, e = .returned v ∧ Row w' w.heap.size 2 v xs ∧ Kept w w'
theorem info2 : (Try.prog.info? 2).map (fun i => (i.zero, i.size, i.bytes)) = some (some (.int .i64 0), 1, 8) := by kernel_rfl

theorem row_base {w : World} {b b' : Nat} {e : TypeId} {size : Nat} {v : Value} {n : Nat} {xs : List Value} (h : w.ownsRow b e size v n xs) (hb : b' ≤ b) : w.ownsRow b' e size v n xs := by
  obtain ⟨h1, h2⟩ := h
  refine ⟨h1, ?_⟩
  rcases h2 with h2 | ⟨g, cap, cur, rfl, hg, r⟩
  · exact .inl h2
  · exact .inr ⟨g, cap, cur, rfl, by omega, r⟩
theorem row_append2 {w : World} {n₀ g gc : Nat} {zs : List Int} {x : Int} (h : w.ownsRow n₀ 2 1 (.slice (some ⟨g, 0, none⟩) (zs.length + 1) gc) (zs.length + 1) (cellsOf zs ++ [.int .i64 x])) : Row w n₀ 2 (.slice (some ⟨g, 0, none⟩) (zs.length + 1) gc) (zs ++ [x]) := by
  unfold Row
  rw [List.length_append, List.length_singleton]
  rw [show cellsOf (zs ++ [x]) = cellsOf zs ++ [.int .i64 x] by simp [cellsOf]]
  exact h
theorem pread_old {w w' : World} {a : Option Addr} {L : List (Int × Int)} (h : PReads w a L) (ht : From w.heap.size w w') : PReads w' a L := by
  rcases h with h | ⟨bl, rfl, h⟩
  · exact .inl h
  · refine .inr ⟨bl, rfl, fun j p hp => ?_⟩
    have h1 := h j p hp
    have hb := World.block_lt_of_cell? _ _ h1.1
    exact ⟨ht.cell h1.1 (by simp only at hb ⊢; omega), ht.cell h1.2 (by simp only at hb ⊢; omega)⟩
theorem map_take {L : List (Int × Int)} {t : Nat} {p : Int × Int} (h : L[t]? = some p) : (L.take (t + 1)).map Prod.fst = (L.take t).map Prod.fst ++ [p.1] := by
  obtain ⟨h1, rfl⟩ := List.getElem?_eq_some_iff.1 h
  rw [List.take_succ_eq_append_getElem h1, List.map_append]
  rfl

set_option maxRecDepth 100000 in
set_option maxHeartbeats 1000000 in
theorem wide_c (w : World) (a : Option Addr) (zs : List Int) (cap : Nat) (hr : Reads w a zs) (hc : zs.length ≤ cap) (hm : cap ≤ maxLen) :
    Calls Try.prog 38 #[.slice a zs.length cap] w (Sliced2 (wideP zs) w) := by
  obtain ⟨y0, hi', hz0, hz1, hz2⟩ := info_parts info2
  have hm' : (zs.length : Int) ≤ 9223372036854775807 := by unfold maxLen at hm; omega
  have HR := hide hr
  clear hr hm
  go_enter Try.func38, Try.ntmps38
  go_wp2
  go_loopw [3, 4] (fun v i wr => ∃ t : Nat, t ≤ zs.length ∧ t ≤ 80 ∧ i = .int .i64 t ∧ Hid (wr.ownsRow w.heap.size 30 2 v (fillW zs t).length (flat (fillW zs t))) ∧ Hid (Kept w wr)) (fun _ i _ => 80 - (intOf i).toNat)
  case atStart => exact ⟨0, Nat.zero_le _, by omega, rfl, hide (World.ownsRow_nil _ _ _ _), hide (Kept.refl _)⟩
  case round =>
    obtain ⟨t, ht1, ht2, rfl, HV, HK⟩ := hrel
    by_cases hlt : t < zs.length ∧ t < 80
    · obtain ⟨hlt1, hlt2⟩ := hlt
      obtain ⟨z, hz⟩ : ∃ z, zs[t]? = some z := ⟨_, List.getElem?_eq_getElem hlt1⟩
      obtain ⟨bl, off, rfl, _, hrow⟩ := (HR.out.kept HK.out).at hz
      have HZ := hide (fillW_step hz)
      have i1 : (t : Int) < (zs.length : Int) := by omega
      have i2 : (t : Int) < 80 := by omega
      have i3 : t < cap := by omega
      have zr := HK.out.size
      clear hz
      go_wp2_with (fail)
      refine (refPut_c _ _ _ (fillW zs t) z 0 HV.out (by have := fillW_le zs t; omega)).mono ?_
      rintro e w1 ⟨v1, rfl, hrow1, hk1⟩
      have V1 : Hid (w1.ownsRow w.heap.size 30 2 v1 (fillW zs (t + 1)).length (flat (fillW zs (t + 1)))) := hide (by rw [HZ.out]; exact row_base hrow1 zr)
      have K1 := hide (HK.out.trans hk1)
      clear hrow1 hk1
      go_wp2
      exact ⟨⟨t + 1, by omega, by omega, by simp, V1, K1⟩, by simp [intOf]; omega⟩
    · have e : min zs.length 80 = t := by omega
      have E : Hid (wideP zs = (fillW zs t).map Prod.fst) := hide (by unfold wideP; rw [e])
      have hL : (fillW zs t).length ≤ 80 := by have := fillW_le zs t; omega
      obtain ⟨L, eL⟩ : ∃ L, fillW zs t = L := ⟨_, rfl⟩
      rw [eL] at HV E hL
      obtain ⟨pa, pc, rfl, hp, hpc⟩ := preads_of_row HV.out
      have HP := hide hp
      have zr := HK.out.size
      have hex : ¬ ((t : Int) < (zs.length : Int)) ∨ ((t : Int) < (zs.length : Int) ∧ ¬ ((t : Int) < 80)) := by omega
      clear eL e hlt HV hp ht1
      rename World => W1
      rcases hex with hx | ⟨hx1, hx2⟩
      · go_wp2
        go_loopw [5, 6] (fun u vi wt => ∃ (s : Nat) (ys : List Int), s ≤ L.length ∧ ys.length ≤ s ∧ vi = .int .i64 s ∧ Hid (ys = (L.take s).map Prod.fst) ∧ Hid (Row wt W1.heap.size 2 u ys) ∧ Hid (From W1.heap.size W1 wt)) (fun _ vi _ => L.length - (intOf vi).toNat)
        case atStart => exact ⟨0, [], Nat.zero_le _, Nat.le_refl _, rfl, hide rfl, hide (World.ownsRow_nil _ _ _ _), hide (Turned.refl _ _)⟩
        case round =>
          obtain ⟨s, ys, hs, hys, rfl, HY, HW, HT⟩ := hrel
          by_cases hsl : s < L.length
          · obtain ⟨⟨x, xv⟩, hx⟩ : ∃ p, L[s]? = some p := ⟨_, List.getElem?_eq_getElem hsl⟩
            obtain ⟨bl, rfl, hbl, g1, g2⟩ := (pread_old HP.out HT.out).at hx
            have HX := hide (map_take hx)
            have j1 : (s : Int) < (L.length : Int) := by omega
            have j2 : s < pc := by omega
            have zt := HT.out.size
            have hrow := HW.out.alloc (.cells #[.int .i64 x] 2)
            simp only at g1 g2
            have hyl : ys.length ≤ 80 := by omega
            clear hx
            go_wp2_with (at_builtin; refine Stop.out ?_)
            refine ⟨?_⟩
            refine wpList_append_lies _ rfl _ _ 35 rfl W1.heap.size 2 y0 (.int .i64 0) 1 8 Try.underlying35 hi' hz0 hz1 hz2 rfl (by decide) _ _ _ rfl hrow ⟨wr.heap.size, 0, none⟩ 1 1 [.int .i64 x] rfl rfl (one_new _ _ _) (by simp [Value.oneCell']) (by decide) (by unfold maxLen; omega) (by omega) (by simp; omega) (wr.heap.size + 1) (by simp) ?_
            intro g gc A1 hown hgrow hat hlt2
            have T1 := hide (HT.out.trans (turned_append HW.out hgrow))
            have R1 := hide (row_append2 hown)
            have HY1 : Hid (ys ++ [x] = (L.take (s + 1)).map Prod.fst) := hide (by rw [HX.out, HY.out])
            have HYL : Hid ((ys ++ [x]).length ≤ s + 1) := hide (by simp; omega)
            clear hown hgrow hat hlt2 hrow HW HT HX HY
            go_wp2
            exact ⟨⟨s + 1, ys ++ [x], by omega, HYL.out, by simp, HY1, R1, T1⟩, by simp [intOf]; omega⟩
          · have j1 : ¬ ((s : Int) < (L.length : Int)) := by omega
            have HY1 : Hid (ys = L.map Prod.fst) := hide (by have := HY.out; rwa [List.take_of_length_le (by omega)] at this)
            clear HY
            go_wp2
            go_ret
            exact ⟨_, rfl, by rw [E.out, ← HY1.out]; exact row_base HW.out zr, HK.out.own (fun i hi => by omega) HT.out⟩
      · go_wp2
        go_loopw [5, 6] (fun u vi wt => ∃ (s : Nat) (ys : List Int), s ≤ L.length ∧ ys.length ≤ s ∧ vi = .int .i64 s ∧ Hid (ys = (L.take s).map Prod.fst) ∧ Hid (Row wt W1.heap.size 2 u ys) ∧ Hid (From W1.heap.size W1 wt)) (fun _ vi _ => L.length - (intOf vi).toNat)
        case atStart => exact ⟨0, [], Nat.zero_le _, Nat.le_refl _, rfl, hide rfl, hide (World.ownsRow_nil _ _ _ _), hide (Turned.refl _ _)⟩
        case round =>
          obtain ⟨s, ys, hs, hys, rfl, HY, HW, HT⟩ := hrel
          by_cases hsl : s < L.length
          · obtain ⟨⟨x, xv⟩, hx⟩ : ∃ p, L[s]? = some p := ⟨_, List.getElem?_eq_getElem hsl⟩
            obtain ⟨bl, rfl, hbl, g1, g2⟩ := (pread_old HP.out HT.out).at hx
            have HX := hide (map_take hx)
            have j1 : (s : Int) < (L.length : Int) := by omega
            have j2 : s < pc := by omega
            have zt := HT.out.size
            have hrow := HW.out.alloc (.cells #[.int .i64 x] 2)
            simp only at g1 g2
            have hyl : ys.length ≤ 80 := by omega
            clear hx
            go_wp2_with (at_builtin; refine Stop.out ?_)
            refine ⟨?_⟩
            refine wpList_append_lies _ rfl _ _ 35 rfl W1.heap.size 2 y0 (.int .i64 0) 1 8 Try.underlying35 hi' hz0 hz1 hz2 rfl (by decide) _ _ _ rfl hrow ⟨wr.heap.size, 0, none⟩ 1 1 [.int .i64 x] rfl rfl (one_new _ _ _) (by simp [Value.oneCell']) (by decide) (by unfold maxLen; omega) (by omega) (by simp; omega) (wr.heap.size + 1) (by simp) ?_
            intro g gc A1 hown hgrow hat hlt2
            have T1 := hide (HT.out.trans (turned_append HW.out hgrow))
            have R1 := hide (row_append2 hown)
            have HY1 : Hid (ys ++ [x] = (L.take (s + 1)).map Prod.fst) := hide (by rw [HX.out, HY.out])
            have HYL : Hid ((ys ++ [x]).length ≤ s + 1) := hide (by simp; omega)
            clear hown hgrow hat hlt2 hrow HW HT HX HY
            go_wp2
            exact ⟨⟨s + 1, ys ++ [x], by omega, HYL.out, by simp, HY1, R1, T1⟩, by simp [intOf]; omega⟩
          · have j1 : ¬ ((s : Int) < (L.length : Int)) := by omega
            have HY1 : Hid (ys = L.map Prod.fst) := hide (by have := HY.out; rwa [List.take_of_length_le (by omega)] at this)
            clear HY
            go_wp2
            go_ret
            exact ⟨_, rfl, by rw [E.out, ← HY1.out]; exact row_base HW.out zr, HK.out.own (fun i hi => by omega) HT.out⟩
end Go.Proofs.Ytgialpjdfeldeaa.Mp

/-! What ordinatehand's Pairs answers: strictly ascending pairs of the first 60 numbers, in new memory; nothing that lay is turned. -/
namespace Go.Proofs.Ytgialpjdfeldeaa.Mp
open Go.RowKit

/-- The pairs of the first t numbers. -/
def fillP (zs : List Int) : Nat → List (Int × Int)
  | 0 => []
  | t + 1 => match zs[t]? with
    | some z => put ltI (fillP zs t) (z % 97 - 40) (t : Int)
    | none => fillP zs t
theorem fillP_step {zs : List Int} {t : Nat} {z : Int} (h : zs[t]? = some z) : fillP zs (t + 1) = put ltI (fillP zs t) (z % 97 - 40) (t : Int) := by simp [fillP, h]
theorem fillP_le (zs : List Int) : (t : Nat) → (fillP zs t).length ≤ t
  | 0 => Nat.le_refl _
  | t + 1 => by
    have := fillP_le zs t
    unfold fillP
    split
    · rename_i z _
      have := length_put_le (lt := ltI) (xs := fillP zs t) (k := z % 97 - 40) (v := (t : Int))
      omega
    · omega
theorem fillP_asc (zs : List Int) : (t : Nat) → Asc ltI (fillP zs t)
  | 0 => List.Pairwise.nil
  | t + 1 => by
    unfold fillP
    split
    · exact asc_put linI (fillP_asc zs t)
    · exact fillP_asc zs t
theorem fillP_mem (zs : List Int) : (t : Nat) → ∀ p ∈ fillP zs t, -40 ≤ p.1 ∧ p.1 ≤ 56 ∧ 0 ≤ p.2 ∧ p.2 ≤ t
  | 0 => by simp [fillP]
  | t + 1 => by
    intro p hp
    unfold fillP at hp
    split at hp
    · rcases mem_put hp with rfl | hp
      · simp only
        omega
      · have := fillP_mem zs t p hp
        omega
    · have := fillP_mem zs t p hp
      omega
def pairsP (zs : List Int) : List (Int × Int) := fillP zs (min zs.length 60)
theorem pairsP_up (zs : List Int) : ((pairsP zs).map Prod.fst).Pairwise (· < ·) := by
  have := fillP_asc zs (min zs.length 60)
  unfold pairsP
  rw [List.pairwise_map]
  exact List.Pairwise.imp (fun h => ltI_true.1 h) this
theorem pairsP_le (zs : List Int) : (pairsP zs).length ≤ 60 := by
  have := fillP_le zs (min zs.length 60)
  unfold pairsP
  omega
theorem pairsP_i64 (zs : List Int) : ∀ p ∈ pairsP zs, I64 p.1 ∧ I64 p.2 := by
  intro p hp
  have := fillP_mem zs _ p hp
  unfold I64
  omega

set_option maxRecDepth 100000 in
set_option maxHeartbeats 1000000 in
theorem pairs_c (w : World) (a : Option Addr) (zs : List Int) (M cap : Nat) (hM : zs.length = M) (hr : Reads w a zs) (hc : M ≤ cap) (hm : cap ≤ maxLen) :
    Calls Try.prog 26 #[.slice a M cap] w (PSliced (pairsP zs) w) := by
  subst hM
  have hm' : (zs.length : Int) ≤ 9223372036854775807 := by unfold maxLen at hm; omega
  have HR := hide hr
  clear hr hm
  go_enter Try.func26, Try.ntmps26
  go_wp2
  go_loopw [3, 4, 5] (fun v i _ wr => ∃ t : Nat, t ≤ zs.length ∧ t ≤ 60 ∧ i = .int .i64 t ∧ Hid (wr.ownsRow w.heap.size 30 2 v (fillP zs t).length (flat (fillP zs t))) ∧ Hid (Kept w wr)) (fun _ i _ _ => 60 - (intOf i).toNat)
  case atStart => exact ⟨0, Nat.zero_le _, by omega, rfl, hide (World.ownsRow_nil _ _ _ _), hide (Kept.refl _)⟩
  case round =>
    obtain ⟨t, ht1, ht2, rfl, HV, HK⟩ := hrel
    by_cases hlt : t < zs.length ∧ t < 60
    · obtain ⟨hlt1, hlt2⟩ := hlt
      obtain ⟨z, hz⟩ : ∃ z, zs[t]? = some z := ⟨_, List.getElem?_eq_getElem hlt1⟩
      obtain ⟨bl, off, rfl, _, hrow⟩ := (HR.out.kept HK.out).at hz
      have HZ := hide (fillP_step hz)
      have i1 : (t : Int) < (zs.length : Int) := by omega
      have i2 : (t : Int) < 60 := by omega
      have i3 : t < cap := by omega
      have zr := HK.out.size
      obtain ⟨y, hy⟩ : ∃ y, z % 97 = y := ⟨_, rfl⟩
      have y1 : 0 ≤ y := by omega
      have y2 : y < 97 := by omega
      have HY := hide hy
      rw [hy] at HZ
      clear hz hy
      go_wp2_with (fail)
      refine (cut_g _ z 97 (by decide) (by decide)).mono ?_
      rw [HY.out]
      rintro e w0 ⟨rfl, rfl⟩
      go_wp2_with (fail)
      refine (refPut_c _ _ _ (fillP zs t) (y - 40) t HV.out (by have := fillP_le zs t; omega)).mono ?_
      rintro e w1 ⟨v1, rfl, hrow1, hk1⟩
      have V1 : Hid (w1.ownsRow w.heap.size 30 2 v1 (fillP zs (t + 1)).length (flat (fillP zs (t + 1)))) := hide (by rw [HZ.out]; exact row_base hrow1 zr)
      have K1 := hide (HK.out.trans hk1)
      clear hrow1 hk1
      go_wp2
      exact ⟨⟨t + 1, by omega, by omega, by simp, V1, K1⟩, by simp [intOf]; omega⟩
    · have e : min zs.length 60 = t := by omega
      have E : Hid (pairsP zs = fillP zs t) := hide (by unfold pairsP; rw [e])
      have hex : ¬ ((t : Int) < (zs.length : Int)) ∨ ((t : Int) < (zs.length : Int) ∧ ¬ ((t : Int) < 60)) := by omega
      clear e hlt
      rcases hex with hx | ⟨hx1, hx2⟩
      · go_wp2
        go_ret
        exact ⟨_, rfl, by rw [E.out]; exact HV.out, HK.out⟩
      · go_wp2
        go_ret
        exact ⟨_, rfl, by rw [E.out]; exact HV.out, HK.out⟩
end Go.Proofs.Ytgialpjdfeldeaa.Mp

/-! Chapter 10 in plain: where the records of a tree laid at once lie ('Laid'), that 'layF' lays them so where there is room, and how many cells they are. No conditions beyond each theorem's own. -/
namespace Go.Proofs.Ytgialpjdfeldeaa
open Go.RowKit

/-- An Inner and its kids. -/
structure LaidI (s : Mst) (K : Nat → Nat → Int → List (Int × Int) → Prop) (A B : Nat) (x : Int) (ps : List (Int × Int)) (D : Nat) (E : Nat → Nat) : Prop where
  deg : Pt.degZ ps.length = (D : Int)
  two : 2 ≤ D
  e0 : E 0 = A
  kids : ∀ i, i < D → K (E i) (E (i + 1)) (s.look (childS (E D + 1) D i)) (partL ps (i : Int))
  b : B = E D + 4 + 2 * D
  word : x = 8 * ((E D : Int) + 1) + 3
  l0 : s.look ((E D : Int) + 1) = (D : Int)
  l1 : s.look ((E D : Int) + 2) = (ps.length : Int)
  l2 : s.look ((E D : Int) + 3) = 0
  l3 : s.look ((E D : Int) + 4) = 0
  l4 : s.look ((E D : Int) + 5) = 0
  lk : ∀ i : Nat, 1 ≤ i → i < D → s.look ((E D : Int) + 5 + i) = ((partL ps (i : Int)).headD (0, 0)).1
/-- x is the word of an ideal tree of ps, whose records have just the cells from A + 1 to B. -/
def Laid (s : Mst) : Nat → Nat → Nat → Int → List (Int × Int) → Prop
  | 0 => fun _ _ _ _ => False
  | f + 1 => fun A B x ps =>
    if ps.length = 0 then x = 8 * ((A : Int) + 1) + 1 ∧ B = A + 1
    else if ps.length = 1 then x = 8 * ((A : Int) + 1) + 2 ∧ B = A + 2 ∧ s.look ((A : Int) + 1) = (ps.headD (0, 0)).1 ∧ s.look ((A : Int) + 2) = (ps.headD (0, 0)).2
    else ∃ D E, LaidI s (Laid s f) A B x ps D E
theorem Laid_succ (s : Mst) (f A B : Nat) (x : Int) (ps : List (Int × Int)) : Laid s (f + 1) A B x ps = (if ps.length = 0 then x = 8 * ((A : Int) + 1) + 1 ∧ B = A + 1
    else if ps.length = 1 then x = 8 * ((A : Int) + 1) + 2 ∧ B = A + 2 ∧ s.look ((A : Int) + 1) = (ps.headD (0, 0)).1 ∧ s.look ((A : Int) + 2) = (ps.headD (0, 0)).2
    else ∃ D E, LaidI s (Laid s f) A B x ps D E) := rfl
/-- The three ways. -/
theorem Laid.cases {s : Mst} {f A B : Nat} {x : Int} {ps : List (Int × Int)} (h : Laid s f A B x ps) : ∃ g, f = g + 1 ∧
    ((ps = [] ∧ x = 8 * ((A : Int) + 1) + 1 ∧ B = A + 1) ∨
     (∃ p, ps = [p] ∧ x = 8 * ((A : Int) + 1) + 2 ∧ B = A + 2 ∧ s.look ((A : Int) + 1) = p.1 ∧ s.look ((A : Int) + 2) = p.2) ∨
     (2 ≤ ps.length ∧ ∃ D E, LaidI s (Laid s g) A B x ps D E)) := by
  cases f with
  | zero => exact h.elim
  | succ f =>
    refine ⟨f, rfl, ?_⟩
    rw [Laid_succ] at h
    split at h
    · rename_i h0
      exact .inl ⟨List.length_eq_zero_iff.1 h0, h⟩
    · split at h
      · rename_i h1
        obtain ⟨p, rfl⟩ := List.length_eq_one_iff.1 h1
        exact .inr (.inl ⟨p, rfl, h⟩)
      · exact .inr (.inr ⟨by omega, h⟩)
theorem Laid.inner {s : Mst} {g A B D : Nat} {E : Nat → Nat} {x : Int} {ps : List (Int × Int)} (h2 : 2 ≤ ps.length) (h : LaidI s (Laid s g) A B x ps D E) : Laid s (g + 1) A B x ps := by
  rw [Laid_succ, if_neg (by omega), if_neg (by omega)]
  exact ⟨D, E, h⟩
/-- The cells of each kid lie within. -/
theorem steps_mono {D : Nat} {E : Nat → Nat} (hK : ∀ i, i < D → E i < E (i + 1)) : ∀ j, j ≤ D → ∀ i, i ≤ j → E i ≤ E j := by
  intro j
  induction j with
  | zero => intro _ i hi; have := Nat.le_zero.1 hi; subst this; exact Nat.le_refl _
  | succ j ih =>
    intro hj i hi
    by_cases e : i = j + 1
    · subst e; exact Nat.le_refl _
    · have h1 := ih (by omega) i (by omega)
      have h2 := hK j (by omega)
      omega
theorem laid_lt {s : Mst} : ∀ {f A B : Nat} {x : Int} {ps : List (Int × Int)}, Laid s f A B x ps → A < B ∧ 8 * ((A : Int) + 1) < x ∧ x < 8 * ((B : Int) + 1)
  | 0, _, _, _, _, h => h.elim
  | f + 1, A, B, x, ps, h => by
    obtain ⟨g, e, h⟩ := h.cases
    cases e
    rcases h with ⟨rfl, rfl, rfl⟩ | ⟨p, rfl, rfl, rfl, _⟩ | ⟨h2, D, E, h⟩
    · omega
    · omega
    · have hm := steps_mono (fun i hi => (laid_lt (h.kids i hi)).1) D (Nat.le_refl _) 0 (Nat.zero_le _)
      rw [h.e0] at hm
      have := h.b
      have := h.word
      omega
theorem LaidI.up {s : Mst} {g A B D : Nat} {E : Nat → Nat} {x : Int} {ps : List (Int × Int)} (h : LaidI s (Laid s g) A B x ps D E) : ∀ i, i ≤ D → A ≤ E i ∧ E i ≤ E D ∧ E D < B := by
  intro i hi
  have hm := steps_mono (fun i hi => (laid_lt (h.kids i hi)).1)
  have h1 := hm i hi 0 (Nat.zero_le _)
  have h2 := hm D (Nat.le_refl _) i hi
  rw [h.e0] at h1
  have := h.b
  omega
/-- What is laid is laid in each memory that holds the same there. -/
theorem laid_same {s s' : Mst} : ∀ {f A B : Nat} {x : Int} {ps : List (Int × Int)}, Laid s f A B x ps → (∀ j : Int, (A : Int) < j → j ≤ (B : Int) → s'.look j = s.look j) → Laid s' f A B x ps
  | 0, _, _, _, _, h, _ => h.elim
  | f + 1, A, B, x, ps, h, hs => by
    obtain ⟨g, e, h⟩ := h.cases
    cases e
    rcases h with ⟨rfl, rfl, rfl⟩ | ⟨p, rfl, rfl, rfl, h1, h2⟩ | ⟨h2, D, E, h⟩
    · rw [Laid_succ, if_pos (by simp)]; exact ⟨rfl, rfl⟩
    · rw [Laid_succ, if_neg (by simp), if_pos (by simp)]
      exact ⟨rfl, rfl, by rw [hs _ (by omega) (by omega), h1]; rfl, by rw [hs _ (by omega) (by omega), h2]; rfl⟩
    · have hu := h.up D (Nat.le_refl _)
      have hb := h.b
      have d1 := h.two
      refine Laid.inner h2 ⟨h.deg, h.two, h.e0, fun i hi => ?_, h.b, h.word, ?_, ?_, ?_, ?_, ?_, fun i h1 hi => ?_⟩
      · have h3 := h.up i (by omega)
        have h4 := h.up (i + 1) (by omega)
        rw [hs _ (by unfold childS; omega) (by unfold childS; omega)]
        exact laid_same (h.kids i hi) (fun j hj1 hj2 => hs j (by omega) (by omega))
      · rw [hs _ (by omega) (by omega)]; exact h.l0
      · rw [hs _ (by omega) (by omega)]; exact h.l1
      · rw [hs _ (by omega) (by omega)]; exact h.l2
      · rw [hs _ (by omega) (by omega)]; exact h.l3
      · rw [hs _ (by omega) (by omega)]; exact h.l4
      · rw [hs _ (by omega) (by omega)]; exact h.lk i h1 hi

theorem ofZ_in {k t : Int} (h1 : 1 ≤ k) (h2 : k ≤ 5) (h3 : 1 ≤ t) (h4 : t ≤ 65536) : Rf.ofZ k t = 8 * t + k := by
  simp [Rf.ofZ, Rf.may, h1, h2, h3, h4]
/-- A record that fits. -/
theorem rec_in {s : Mst} {k : Int} {ws : List Int} (h0 : 0 < ws.length) (hf : (s.xs.length : Int) + ws.length ≤ s.size) (ht : s.size ≤ 65536) (k1 : 1 ≤ k) (k5 : k ≤ 5) :
    recS s k ws = (8 * ((s.xs.length : Int) + 1) + k, { s with xs := s.xs ++ ws, count := wrap64 (s.count + 1) }) := by
  have hfit : s.fits ws.length = true := by simp [Mst.fits, h0, hf]
  rw [recS, Mst.next, if_pos hfit, Mst.make, if_pos hfit, ofZ_in k1 k5 (by omega) (by omega)]
theorem look_new {s s' : Mst} {ws : List Int} (h : s'.xs = s.xs ++ ws) {i : Nat} {z : Int} (hz : ws[i]? = some z) {j : Int} (hj : j = (s.xs.length : Int) + 1 + i) : s'.look j = z := by
  have : s'.xs[s.xs.length + i]? = some z := by rw [h, List.getElem?_append_right (by omega), Nat.add_sub_cancel_left]; exact hz
  have h2 := Mst.look_succ (s := s') this
  rw [hj, ← h2]
  congr 1
  omega
theorem look_old {s s' : Mst} {ws : List Int} (h : s'.xs = s.xs ++ ws) {j : Int} (h1 : 1 ≤ j) (h2 : j ≤ (s.xs.length : Int)) : s'.look j = s.look j := by
  obtain ⟨i, rfl⟩ : ∃ i : Nat, j = (i : Int) + 1 := ⟨(j - 1).toNat, by omega⟩
  have hi : i < s.xs.length := by omega
  have e : s.xs[i]? = some s.xs[i] := List.getElem?_eq_getElem hi
  rw [Mst.look_succ e, Mst.look_succ (z := s.xs[i])]
  rw [h, List.getElem?_append_left hi]
  exact e
theorem lowL_at (ps : List (Int × Int)) : ∀ (n i : Nat), 1 ≤ i → i < n → (lowL ps n)[i - 1]? = some ((partL ps (i : Int)).headD (0, 0)).1
  | 0, _, _, h => by omega
  | n + 1, i, h1, h => by
    rw [lowL]
    rw [if_neg (by omega)]
    have hl := lowL_len ps n
    by_cases e : i = n
    · subst e
      rw [List.getElem?_append_right (by omega), hl, Nat.sub_self]
      rfl
    · rw [List.getElem?_append_left (by omega)]
      exact lowL_at ps n i h1 (by omega)
theorem cs_le {n : Int} : ∀ (k i : Nat), (i : Int) + k ≤ Pt.degZ n → Pt.csZ n i ≤ Pt.csZ n ((i + k : Nat) : Int)
  | 0, i, _ => Int.le_refl _
  | k + 1, i, h => by
    have h1 := cs_le (n := n) k i (by omega)
    have h2 := Pt.cs_step (n := n) (i := ((i + k : Nat) : Int)) (by omega) (by omega)
    have h3 := Pt.cel_nat (Pt.sizeZ n ((i + k : Nat) : Int))
    rw [show ((i + (k + 1) : Nat) : Int) = ((i + k : Nat) : Int) + 1 by omega, h2]
    omega

/-- What laying leaves, where there is room. -/
def Lays (s : Mst) (f : Nat) (ps : List (Int × Int)) (r : Int × Mst) : Prop :=
  ∃ ws c, r.2 = { s with xs := s.xs ++ ws, count := c } ∧ (ws.length : Int) = Pt.celZ ps.length ∧ Laid r.2 f s.xs.length r.2.xs.length r.1 ps
theorem lay_laid : ∀ (f : Nat) (s : Mst) (ps : List (Int × Int)), ps.length < f → ps.length ≤ 16384 → (s.xs.length : Int) + Pt.celZ ps.length ≤ s.size → s.size ≤ 65536 → Lays s f ps (layF f s ps)
  | 0, _, _, h, _, _, _ => by omega
  | f + 1, s, ps, hf, hm, hr, ht => by
    rw [layF_succ]
    by_cases h0 : ps.length = 0
    · rw [if_pos h0]
      obtain rfl := List.length_eq_zero_iff.1 h0
      rw [show (([] : List (Int × Int)).length : Int) = 0 from rfl, Pt.cel_is_0] at hr
      rw [rec_in (by simp) (by simpa using hr) ht (by decide) (by decide)]
      refine ⟨[0], _, rfl, by rfl, ?_⟩
      rw [Laid_succ, if_pos (by simp)]
      exact ⟨rfl, by simp⟩
    · rw [if_neg h0]
      by_cases h1 : ps.length = 1
      · rw [if_pos h1]
        obtain ⟨p, rfl⟩ := List.length_eq_one_iff.1 h1
        rw [show (([p] : List (Int × Int)).length : Int) = 1 from rfl, Pt.cel_is_1] at hr
        rw [rec_in (by simp) (by simpa using hr) ht (by decide) (by decide)]
        refine ⟨[p.1, p.2], _, rfl, by rfl, ?_⟩
        rw [Laid_succ, if_neg (by simp), if_pos (by simp)]
        refine ⟨rfl, by simp, ?_, ?_⟩
        · exact look_new (s := s) (ws := [p.1, p.2]) rfl (i := 0) rfl (by omega)
        · exact look_new (s := s) (ws := [p.1, p.2]) rfl (i := 1) rfl (by omega)
      · rw [if_neg h1]
        have db := Pt.deg_bound (n := (ps.length : Int)) (by omega) (by omega)
        obtain ⟨D, hD⟩ : ∃ D : Nat, Pt.degZ (ps.length : Int) = (D : Int) := ⟨(Pt.degZ ps.length).toNat, by omega⟩
        have ce := Pt.cs_end (n := (ps.length : Int)) (by omega)
        rw [hD] at db ce
        rw [hD, show ((D : Int)).toNat = D from rfl]
        have kids : ∀ i, i ≤ D → ∃ ws c, (kidF (layF f) ps s i).2 = { s with xs := s.xs ++ ws, count := c } ∧ (ws.length : Int) = Pt.csZ (ps.length : Int) i ∧ (∀ j, j ≤ i → (kidF (layF f) ps s j).2.xs.length ≤ (kidF (layF f) ps s i).2.xs.length) ∧
            ∀ j, j < i → ∃ z, (kidF (layF f) ps s i).1[j]? = some z ∧ Laid (kidF (layF f) ps s i).2 f (kidF (layF f) ps s j).2.xs.length (kidF (layF f) ps s (j + 1)).2.xs.length z (partL ps (j : Int)) := by
          intro i
          induction i with
          | zero =>
            intro _
            exact ⟨[], s.count, by rw [kidF, List.append_nil], by rw [show ((0 : Nat) : Int) = 0 from rfl, Pt.cs_zero (by omega)]; rfl, fun j hj => (by have := Nat.le_zero.1 hj; subst this; exact Nat.le_refl _), fun j hj => by omega⟩
          | succ i ih =>
            intro hi
            obtain ⟨ws, c, e1, e2, e4, e3⟩ := ih (by omega)
            have pl := partL_len (ps := ps) (i := (i : Int)) (by omega) (by omega)
            have sb := Pt.size_bound (n := (ps.length : Int)) (i := (i : Int)) (by omega) (by omega)
            have st := Pt.cs_step (n := (ps.length : Int)) (i := (i : Int)) (by omega) (by omega)
            have le := cs_le (n := (ps.length : Int)) (D - (i + 1)) (i + 1) (by omega)
            rw [show (i + 1 + (D - (i + 1)) : Nat) = D by omega] at le
            have xl : ((kidF (layF f) ps s i).2.xs.length : Int) = s.xs.length + Pt.csZ (ps.length : Int) i := by rw [e1]; simp [e2]
            have zl : (kidF (layF f) ps s i).2.size = s.size := by rw [e1]
            have L := lay_laid f (kidF (layF f) ps s i).2 (partL ps (i : Int)) (by omega) (by omega) (by rw [pl, xl, zl]; rw [show ((i + 1 : Nat) : Int) = (i : Int) + 1 by omega, st] at le; omega) (by rw [zl]; exact ht)
            obtain ⟨ws', c', g1, g2, g3⟩ := L
            have k2 : (kidF (layF f) ps s (i + 1)).2 = (layF f (kidF (layF f) ps s i).2 (partL ps (i : Int))).2 := rfl
            have k1 : (kidF (layF f) ps s (i + 1)).1 = (kidF (layF f) ps s i).1 ++ [(layF f (kidF (layF f) ps s i).2 (partL ps (i : Int))).1] := rfl
            have kl := kidF_len (layF f) ps s i
            have hx : (kidF (layF f) ps s (i + 1)).2.xs = (kidF (layF f) ps s i).2.xs ++ ws' := by rw [k2, g1]
            have hxl : (kidF (layF f) ps s i).2.xs.length ≤ (kidF (layF f) ps s (i + 1)).2.xs.length := by rw [hx, List.length_append]; omega
            refine ⟨ws ++ ws', c', ?_, ?_, ?_, ?_⟩
            · rw [k2, g1, e1, List.append_assoc]
            · rw [List.length_append, show ((i + 1 : Nat) : Int) = (i : Int) + 1 by omega, st, Int.natCast_add, e2, g2, pl]
            · intro j hj
              by_cases e : j = i + 1
              · subst e; exact Nat.le_refl _
              · exact Nat.le_trans (e4 j (by omega)) hxl
            · intro j hj
              by_cases e : j = i
              · subst e
                refine ⟨_, by rw [k1, List.getElem?_append_right (by omega), kl, Nat.sub_self]; rfl, ?_⟩
                rw [k2]
                exact g3
              · obtain ⟨z, h3, h4⟩ := e3 j (by omega)
                refine ⟨z, by rw [k1, List.getElem?_append_left (by omega)]; exact h3, ?_⟩
                refine laid_same h4 (fun q hq1 hq2 => look_old hx (by omega) ?_)
                have := e4 (j + 1) (by omega)
                omega
        obtain ⟨ws, c, e1, e2, e4, e3⟩ := kids D (Nat.le_refl _)
        have kl := kidF_len (layF f) ps s D
        have ql := lowL_len ps D
        have il := innerL_length (ps.length : Int) (lowL ps D) (kidF (layF f) ps s D).1
        rw [kl, ql] at il
        have xl : ((kidF (layF f) ps s D).2.xs.length : Int) = s.xs.length + Pt.csZ (ps.length : Int) D := by rw [e1]; simp [e2]
        have zl : (kidF (layF f) ps s D).2.size = s.size := by rw [e1]
        rw [rec_in (by omega) (by rw [xl, il, zl]; omega) (by rw [zl]; exact ht) (by decide) (by decide)]
        obtain ⟨s1, hs1⟩ : ∃ s1, (kidF (layF f) ps s D).2 = s1 := ⟨_, rfl⟩
        obtain ⟨cs, hcs⟩ : ∃ cs, (kidF (layF f) ps s D).1 = cs := ⟨_, rfl⟩
        rw [hs1, hcs]
        rw [hs1] at e1 e3 xl
        rw [hcs] at e3 kl il
        obtain ⟨s2, hs2⟩ : ∃ s2 : Mst, { s1 with xs := s1.xs ++ innerL (ps.length : Int) (lowL ps D) cs, count := wrap64 (s1.count + 1) } = s2 := ⟨_, rfl⟩
        have hx2 : s2.xs = s1.xs ++ innerL (ps.length : Int) (lowL ps D) cs := by rw [← hs2]
        have ED : (kidF (layF f) ps s D).2.xs.length = s1.xs.length := by rw [hs1]
        have look : ∀ (i : Nat) (z : Int), (innerL (ps.length : Int) (lowL ps D) cs)[i]? = some z → s2.look ((s1.xs.length : Int) + 1 + i) = z := fun i z hz => look_new hx2 hz rfl
        rw [hs2]
        refine ⟨ws ++ innerL (ps.length : Int) (lowL ps D) cs, wrap64 (s1.count + 1), ?_, ?_, ?_⟩
        · rw [← hs2, e1]
          simp
        · rw [List.length_append, Int.natCast_add, e2, il]
          omega
        · refine Laid.inner (by omega) (D := D) (E := fun j => (kidF (layF f) ps s j).2.xs.length) ⟨hD, by omega, rfl, ?_, ?_, ?_, ?_, ?_, ?_, ?_, ?_, ?_⟩
          · intro i hi
            obtain ⟨z, h3, h4⟩ := e3 i hi
            have hz : s2.look (childS ((kidF (layF f) ps s D).2.xs.length + 1) D i) = z := by
              have := look (4 + D + i) z (by
                unfold innerL
                rw [List.getElem?_append_right (by simp; omega), List.getElem?_append_right (by simp [ql]; omega), ← h3]
                congr 1
                simp [ql]
                omega)
              rw [← this, ED]
              unfold childS
              congr 1
              omega
            show Laid s2 f _ _ (s2.look (childS ((kidF (layF f) ps s D).2.xs.length + 1) D i)) _
            rw [hz]
            refine laid_same h4 (fun q hq1 hq2 => look_old hx2 (by omega) ?_)
            have := e4 (i + 1) (by omega)
            rw [ED] at this
            omega
          · show s2.xs.length = (kidF (layF f) ps s D).2.xs.length + 4 + 2 * D
            rw [ED, hx2, List.length_append, il]
            omega
          · show 8 * ((s1.xs.length : Int) + 1) + 3 = 8 * (((kidF (layF f) ps s D).2.xs.length : Int) + 1) + 3
            rw [ED]
          · show s2.look (((kidF (layF f) ps s D).2.xs.length : Int) + 1) = _
            rw [ED, ← look 0 (D : Int) (by simp [innerL, kl])]
            congr 1
          · show s2.look (((kidF (layF f) ps s D).2.xs.length : Int) + 2) = _
            rw [ED, ← look 1 (ps.length : Int) (by simp [innerL])]
            congr 1
          · show s2.look (((kidF (layF f) ps s D).2.xs.length : Int) + 3) = _
            rw [ED, ← look 2 0 (by simp [innerL])]
            congr 1
          · show s2.look (((kidF (layF f) ps s D).2.xs.length : Int) + 4) = _
            rw [ED, ← look 3 0 (by simp [innerL])]
            congr 1
          · show s2.look (((kidF (layF f) ps s D).2.xs.length : Int) + 5) = _
            rw [ED, ← look 4 0 (by simp [innerL])]
            congr 1
          · intro i h1 hi
            show s2.look (((kidF (layF f) ps s D).2.xs.length : Int) + 5 + i) = _
            rw [ED, ← look (4 + i) ((partL ps (i : Int)).headD (0, 0)).1 (by
              unfold innerL
              rw [List.getElem?_append_right (by simp; omega), List.getElem?_append_left (by simp [ql]; omega), ← lowL_at ps D i h1 hi]
              congr 1
              simp
              omega)]
            congr 1
            omega
end Go.Proofs.Ytgialpjdfeldeaa

/-! PlantRoom's walk: a tree is built just if there are as many cells left as it needs. No conditions beyond each theorem's own. -/
namespace Go.Proofs.Ytgialpjdfeldeaa
open Go.RowKit
set_option maxRecDepth 20000

/-- A slice of pairs that was told, where it lies. -/
theorem PRow.form {w : World} {n₀ : Nat} {E : TypeId} {v : Value} {xs : List (Int × Int)} (h : PRow w n₀ E v xs) : ∃ a cap, v = .slice a xs.length cap ∧ PReads w a xs ∧ xs.length ≤ cap ∧ cap ≤ maxLen ∧ (a = none → cap = 0) ∧ ∀ ad, a = some ad → n₀ ≤ ad.block ∧ ad.block < w.heap.size := by
  obtain ⟨a, cap, rfl, h1, h2, h3, h4, h5⟩ := h.reads
  refine ⟨a, cap, rfl, h1, h2, h3, h4, fun ad e => ⟨h5 ad e, ?_⟩⟩
  subst e
  rcases h.2 with ⟨e, _⟩ | ⟨g, cap', cur, e, hg, hh, _⟩
  · cases e
  · cases e
    exact (Array.getElem?_eq_some_iff.1 hh).1
/-- Build of a list that lay ahead of the memory. -/
theorem now_bfar (w W : World) (b : Nat) (s : Mst) (a : Option Addr) (ps : List (Int × Int)) (M cap : Nat) (h : Now w W b s) (hr : PReads w a ps) (hM : ps.length = M) (hc : M ≤ cap) (hcm : cap ≤ maxLen) (ha : ∀ ad, a = some ad → ad.block < w.heap.size) (z : Int) (r : Bool) (s' : Mst) (e1 : buildS s ps = ((z, r), s')) :
    Calls Try.prog 11 #[.pointer (some ⟨b, 0, none⟩), .slice a M cap] W fun e W' => e = .returned (.tuple #[.int .i64 z, .bool r]) ∧ Now w W' b s' :=
  now_build w W b s a ps M cap h (hr.kept h.2) hM hc hcm (fun v hv ad e hf => by have h1 := ha ad e; have h2 := (hv.lt _ hf).1; omega) z r s' e1
theorem ascB_up {ps : List (Int × Int)} (h : (ps.map Prod.fst).Pairwise (· < ·)) (hl : ps.length ≤ 16384) : ascB ps = true := ascB_iff.2 ⟨hl, h⟩
/-- Where there is room. -/
theorem buildS_in {s : Mst} {ps : List (Int × Int)} (h : ascB ps = true) (hr : (s.xs.length : Int) + Pt.celZ ps.length ≤ s.size) (ht : s.size ≤ 65536) : ∃ z s' ws c, buildS s ps = ((z, true), s') ∧ s' = { s with xs := s.xs ++ ws, count := c } ∧ (ws.length : Int) = Pt.celZ ps.length ∧ Laid s' (ps.length + 1) s.xs.length s'.xs.length z ps := by
  obtain ⟨ws, c, h1, h2, h3⟩ := lay_laid (ps.length + 1) s ps (by omega) (ascB_iff.1 h).1 hr ht
  exact ⟨_, _, ws, c, by rw [buildS, if_pos ⟨h, by omega⟩], h1, h2, h3⟩

set_option maxHeartbeats 4000000 in
theorem plantRoom_c (w : World) (a : Option Addr) (zs : List Int) (cap : Nat) (more : Int) (hr : Reads w a zs) (hc : zs.length ≤ cap) (hm : cap ≤ maxLen) :
    Calls Try.prog 6 #[.slice a zs.length cap, .int .i64 more] w fun e w' => e = .returned (.bool true) ∧ Kept w w' := by
  have HP := hide (Mp.pairs_c w a zs zs.length cap rfl hr hc hm)
  have up := Mp.pairsP_up zs
  have le := Mp.pairsP_le zs
  obtain ⟨ps, hps⟩ : ∃ ps, Mp.pairsP zs = ps := ⟨_, rfl⟩
  rw [hps] at HP up le
  obtain ⟨M, hM⟩ : ∃ M, ps.length = M := ⟨_, rfl⟩
  have hb := ascB_up up (by omega)
  have cb := Pt.cel_nat (M : Int)
  have cb2 : Pt.celZ (M : Int) ≤ 592 := by
    by_cases h0 : M = 0
    · subst h0; decide
    · have := Pt.cel_bound (n := (M : Int)) (by omega)
      omega
  have HC : Hid (∀ W : World, Calls Try.prog 30 #[.int .i64 (M : Int)] W fun e W' => e = .returned (.int .i64 (Pt.celZ (M : Int))) ∧ Kept W W') := hide (fun W => (Pt.cells_c (M : Int) (I64.wf ⟨by omega, by omega⟩) W).mono fun _ _ ⟨h1, k, h2⟩ => ⟨h1, by rw [h2]; exact Kept.drewN _ _⟩)
  obtain ⟨C, hC⟩ : ∃ C, Pt.celZ (M : Int) = C := ⟨_, rfl⟩
  rw [hC] at HC cb cb2
  obtain ⟨y, hy⟩ : ∃ y, more % 5 = y := ⟨_, rfl⟩
  have y1 : 0 ≤ y := by omega
  have y2 : y < 5 := by omega
  have HY := hide hy
  have HMM := hide hM
  have m60 : (M : Int) ≤ 60 := by omega
  have BN : Hid (∀ n : Int, C ≤ n → n ≤ 65536 → ∃ z s', buildS (Mst.new n) ps = ((z, true), s') ∧ (s'.xs.length : Int) = C ∧ s'.ref = 0 ∧ s'.odd = 0) := hide (fun n h1 h2 => by
    obtain ⟨z, s', ws, c, e1, e2, e3, _⟩ := buildS_in (s := Mst.new n) hb (by rw [hM, hC]; simpa [Mst.new] using h1) (by simpa [Mst.new] using h2)
    exact ⟨z, s', e1, by rw [e2, ← hC, ← hM, ← e3]; simp [Mst.new], by rw [e2]; rfl, by rw [e2]; rfl⟩)
  have BO : Hid (∀ n : Int, n < C → buildS (Mst.new n) ps = ((0, false), Mst.new n)) := hide (fun n h1 => by
    rw [buildS, if_neg (by rw [hM, hC]; simp [Mst.new]; omega)])
  clear hr hm up hps hb hC hy le hM
  go_enter Try.func6, Try.ntmps6
  go_wp2_with (fail)
  refine HP.out.mono ?_
  rintro e W1 ⟨v1, rfl, row1, k1⟩
  obtain ⟨a1, c1, rfl, pr1, l1, m1, -, b1⟩ := PRow.form row1
  rw [HMM.out] at l1 ⊢
  have K1 := hide k1
  have PR1 := hide pr1
  have M1 := hide m1
  have B1 := hide (fun ad e => (b1 ad e).2)
  clear k1 row1 pr1 m1 b1 HP
  go_wp2_with (fail)
  refine (HC.out W1).mono ?_
  rintro e W2 ⟨rfl, k2⟩
  have K2 := hide k2
  clear k2
  go_wp2_with (fail)
  refine (cut_g _ more 5 (by decide) (by decide)).mono ?_
  rw [HY.out]
  rintro e W3 ⟨rfl, rfl⟩
  by_cases hn : C + y - 2 < 1
  · go_wp2_with (fail)
    refine (known_c _).mono ?_
    rintro e W4 ⟨rfl, k4⟩
    have K4 := hide ((K1.out.trans K2.out).trans k4)
    clear k4
    go_wp2
    go_ret
    exact ⟨rfl, K4.out⟩
  · obtain ⟨n, hn2⟩ : ∃ n, C + y - 2 = n := ⟨_, rfl⟩
    have n1 : 1 ≤ n := by omega
    have n2 : n ≤ 65536 := by omega
    have n3 : ¬ n < 1 := by omega
    go_wp2_with (fail)
    refine (now_new W1 _ n K2.out n1 n2).mono ?_
    rintro e W4 ⟨rfl, h4, -⟩
    have H4 := hide h4
    clear h4
    by_cases hfit : C ≤ n
    · obtain ⟨z, s', e1, e2, e3, e4⟩ := BN.out n hfit n2
      have E1 := hide e1
      have E2 := hide e2
      have E3 := hide e3
      have E4 := hide e4
      clear e1 e2 e3 e4
      go_wp2_with (fail)
      refine (now_bfar W1 W4 _ _ a1 ps M c1 H4.out PR1.out HMM.out l1 M1.out B1.out z true s' E1.out).mono ?_
      rintro e W5 ⟨rfl, h5⟩
      have H5 := hide h5
      clear h5 H4
      go_wp2_with (fail)
      refine (known_c _).mono ?_
      rintro e W6 ⟨rfl, k6⟩
      have H6 := hide (H5.out.on k6)
      clear k6 H5
      go_wp2_with (fail)
      refine (HC.out _).mono ?_
      rintro e W7 ⟨rfl, k7⟩
      have H7 := hide (H6.out.on k7)
      clear H6 k7
      go_wp2_with (fail)
      refine (now_used W1 _ _ s' C H7.out E2.out).mono ?_
      rintro e W8 ⟨rfl, rfl⟩
      go_wp2_with (fail)
      refine (HC.out _).mono ?_
      rintro e W9 ⟨rfl, k9⟩
      have H9 := hide (H7.out.on k9)
      clear H7 k9
      go_wp2_with (fail)
      refine (refused_n W1 _ _ s' 0 H9.out E3.out).mono ?_
      rintro e W8 ⟨rfl, rfl⟩
      go_wp2_with (fail)
      refine (odd_n W1 _ _ s' 0 H9.out E4.out).mono ?_
      rintro e W8 ⟨rfl, rfl⟩
      have K9 := hide (K1.out.trans H9.out.2)
      go_wp2
      go_ret
      exact ⟨rfl, K9.out⟩
    · have g1 : n < C := by omega
      have E1 := hide (BO.out n g1)
      go_wp2_with (fail)
      refine (now_bfar W1 W4 _ _ a1 ps M c1 H4.out PR1.out HMM.out l1 M1.out B1.out 0 false _ E1.out).mono ?_
      rintro e W5 ⟨rfl, h5⟩
      have H5 := hide h5
      clear h5 H4
      go_wp2_with (fail)
      refine (known_c _).mono ?_
      rintro e W6 ⟨rfl, k6⟩
      have H6 := hide (H5.out.on k6)
      clear k6 H5
      go_wp2_with (fail)
      refine (HC.out _).mono ?_
      rintro e W7 ⟨rfl, k7⟩
      have H7 := hide (H6.out.on k7)
      clear H6 k7
      go_wp2_with (fail)
      refine (now_used W1 _ _ _ 0 H7.out rfl).mono ?_
      rintro e W8 ⟨rfl, rfl⟩
      go_wp2_with (fail)
      refine (count_n W1 _ _ _ 0 H7.out rfl).mono ?_
      rintro e W8 ⟨rfl, rfl⟩
      have K9 := hide (K1.out.trans H7.out.2)
      go_wp2
      go_ret
      exact ⟨rfl, K9.out⟩
end Go.Proofs.Ytgialpjdfeldeaa

/-! The program's Leaves: what it answers, and what it promises of its rounds ('Iter'). No conditions beyond each theorem's own. -/
namespace Go.Proofs.Ytgialpjdfeldeaa
open Go.RowKit Go.Shelf

attribute [local go_sem] Oper.semAt_some

theorem leaves_k (w : World) (b : Nat) :
    Calls Try.prog 39 #[.pointer (some ⟨b, 0, none⟩)] w fun e w' => ∃ B1, e = .returned (.func (.func 67) #[] #[.pointer (some ⟨B1, 0, none⟩)]) ∧ Kept w w' ∧ Boxed w' B1 22 (.pointer (some ⟨b, 0, none⟩)) ∧ w.heap.size ≤ B1 := by
  go_enter Try.func39, Try.ntmps39
  go_wp2
  go_ret
  exact ⟨_, rfl, (Kept.refl w).alloc _, Boxed.new w 22 _, Nat.le_refl _⟩

set_option maxHeartbeats 4000000 in
set_option maxRecDepth 20000 in
theorem leaves_i (w W : World) (hk : Kept w W) (b : Nat) (s : Mst) (hM : PM w b s) (ho : s.ok) (xs : List (Int × Int)) (hxs : contentB s (s.logicZ 6) = xs) (hl : xs.length ≤ 100000) (B1 : Nat) (h1 : Boxed W B1 22 (.pointer (some ⟨b, 0, none⟩))) :
    Iter Try.prog 67 #[.pointer (some ⟨B1, 0, none⟩)] enc2 xs (SpotR w B1) W := by
  intro l O₀ J Jx hR gJ gJx hY h0
  obtain ⟨V, hV⟩ : ∃ V, W.drew = V := ⟨_, rfl⟩
  have kV : Kept W V := by rw [← hV]; exact Kept.drew _
  have x0 : ∀ u : Wd (fun U => Kept V U), u.w.cell? ⟨B1, 0, none⟩ = some (.pointer (some ⟨b, 0, none⟩)) := fun u => u.ok.cell (kV.cell h1.cell id) id
  obtain ⟨r, hr⟩ : ∃ r, s.logicZ 6 = r := ⟨_, rfl⟩
  rw [hr] at hxs
  have HR := hide hr
  have HX := hide hxs
  have HI : Hid (I64 r) := hide (by rw [← hr]; exact ho.logic 6)
  have HM := hide (hM.kept (hk.trans kV))
  have HO := hide ho
  have HY := hide hY
  have GJ := hide gJ
  have HV := hide hV
  have KV := hide kV
  have H0 := hide h0
  obtain ⟨M, hMM⟩ : ∃ M, xs.length = M := ⟨_, rfl⟩
  have HMM := hide hMM
  have ml : (M : Int) ≤ 100000 := by omega
  have O0 : Hid (∀ k, O₀ k → k < W.heap.size) := hide (gJ.within _ _ _ h0)
  clear hM ho hY h0 hk hR hxs hr hl hMM h1 hV kV gJ gJx
  refine (callsIn_wide (n := 10)).1 ?_
  refine callsIn_of_wp Try.func67 rfl trivial ?_ rfl
  simp only [Try.ntmps67, List.size_toArray, List.length_cons, List.length_nil, Nat.reduceAdd, Nat.reduceSub, Array.replicate_succ, Array.replicate_zero, List.push_toArray, List.append_toArray, List.nil_append, List.cons_append]
  gi_wp2_with (fail)
  refine region_calm [0, 1, 5, 2, 3, 4] (fun U => Kept V U) (by kernel_rfl) (by kernel_rfl) (by rw [HV.out]; exact Kept.refl _) (fun _ => ?_)
  rw [HV.out]
  repeat (refine pq rfl rfl ?_; go_big_quiet_step (fail); refine wpQuiet_nil ?_)
  refine pl rfl rfl ?_
  gi_wp2_with (fail)
  refine ⟨trivial, ?_⟩
  refine (callsIn_wide.2 (logic_p V b s 6 r HM.out HO.out HR.out)).mono ?_
  rintro e U ⟨rfl, rfl⟩
  gi_wp2_with (fail)
  refine ⟨Wd.mem (Kept.refl _), ?_⟩
  refine pl rfl rfl ?_
  gi_wp2_with (fail)
  refine ⟨trivial, ?_⟩
  refine (callsIn_wide.2 (content_p V b s r HM.out HO.out HI.out xs HX.out)).mono ?_
  rintro e W1 ⟨v1, rfl, row1, k1⟩
  obtain ⟨a1, c1, rfl, pr1, q1, m1, -, b1⟩ := PRow.form row1
  rw [HMM.out] at q1 ⊢
  have K1 := hide k1
  have KW := hide (KV.out.trans k1)
  have PR := hide pr1
  have BB : Hid (∀ ad, a1 = some ad → W.heap.size ≤ ad.block ∧ ad.block < W1.heap.size) := hide (fun ad e => ⟨Nat.le_trans KV.out.size (b1 ad e).1, (b1 ad e).2⟩)
  have J1 := hide (GJ.out.abides _ _ _ _ H0.out (KW.out.mono (fun _ _ e => e.elim)))
  have mx : (c1 : Int) ≤ 9223372036854775807 := by unfold maxLen at m1; omega
  clear row1 k1 pr1 m1 b1 H0
  gi_wp2_with (fail)
  refine ⟨Wd.mem K1.out, ?_⟩
  repeat (refine pq rfl rfl ?_; go_big_quiet_step (fail); refine wpQuiet_nil ?_)
  refine perm_done ?_
  gi_wp2
  gi_loopw [4, 10] (fun _ i wr => ∃ (k : Nat) (O : Nat → Prop), k ≤ M ∧ i = .int .i64 (k : Int) ∧ Hid (Sub O O₀ W1.heap.size) ∧ Hid (Turned O₀ W1 wr) ∧ Hid (J O (xs.take k) wr)) (fun _ i _ => M - (intOf i).toNat)
  case atStart => exact ⟨0, O₀, by omega, by simp, hide (Sub.refl _ _), hide (Turned.refl _ _), hide (by simpa using J1.out)⟩
  case round =>
    obtain ⟨k, O, hk, rfl, HS, HTT, HJ⟩ := hrel
    clear J1
    by_cases hkn : k < M
    · have j1 : (k : Int) < (M : Int) := by omega
      obtain ⟨⟨p1, p2⟩, hp⟩ : ∃ p, xs[k]? = some p := ⟨_, List.getElem?_eq_getElem (by have := HMM.out; omega)⟩
      obtain ⟨bl, off, rfl, _, g1, g2⟩ := (PR.out.turned HTT.out (fun i _ ⟨ad, e1, e2⟩ hi => by
        have h1 := (BB.out ad e1).1
        have h2 := O0.out i hi
        omega)).at hp
      simp only at g1 g2
      rw [← Nat.add_assoc] at g2
      have j2 : k < c1 := by omega
      obtain ⟨A, hA⟩ : ∃ A, wr.alloc (.cells #[.int .i64 p1, .int .i64 p2] 30) = A := ⟨_, rfl⟩
      have kA : Kept wr A := by rw [← hA]; exact Turned.alloc _ _ _
      have hhA : A.heap[wr.heap.size]? = some (.cells #[.int .i64 p1, .int .i64 p2] 30) := by rw [← hA]; exact heap_new _ _
      have cA0 : A.cell? ⟨wr.heap.size, 0, none⟩ = some (.int .i64 p1) := by simp [World.cell?, hhA]
      have cA1 : A.cell? ⟨wr.heap.size, 1, none⟩ = some (.int .i64 p2) := by simp [World.cell?, hhA]
      have TA : Turned O₀ W1 A := kA.behind HTT.out
      have JA := GJ.out.abides _ _ _ _ HJ.out (kA.mono (fun _ _ e => e.elim))
      obtain ⟨q1', q2'⟩ := at_split hp
      obtain ⟨fn, tmps, assign, body, hy, hRd⟩ := HY.out O (xs.take k) (p1, p2) _ A q1' (KW.out.then TA) (HS.out.more KW.out.size) JA
      rw [q2'] at hRd
      have HRd := hide hRd
      have HAA := hide hA
      have TAA := hide TA
      have SZ : Hid (W1.heap.size ≤ A.heap.size) := hide TA.size
      dsimp only [enc2] at hy
      clear q1' q2' hRd hp kA TA JA hhA
      gi_wp2_with (fail)
      refine HRd.out.mono ?_
      rintro e W3 ⟨O', hs3, ht3, ⟨rfl, hj3⟩ | ⟨rfl, hj3⟩⟩
      · have S3 := hide (hs3.trans HS.out SZ.out)
        have T3 := hide (TAA.out.sub ht3 HS.out)
        have J3 := hide hj3
        clear hs3 ht3 hj3 hy HRd HY hA
        gi_wp2
        exact ⟨⟨k + 1, O', by omega, by simp, S3, T3, J3⟩, by simp [intOf]; omega⟩
      · have S3 := hide (hs3.trans HS.out SZ.out)
        have T3 := hide (TAA.out.sub ht3 HS.out)
        have J3 := hide hj3
        clear hs3 ht3 hj3 hy HRd HY hA
        gi_wp2
        refine bodyPost_ret (results_none rfl _ _ _) rfl ?_
        exact ⟨⟨_, rfl⟩, O', S3.out.more KW.out.size, KW.out.then T3.out, .inr ⟨_, xs.drop (k + 1), (List.take_append_drop _ _).symm, J3.out⟩⟩
    · have hkn' : k = M := by omega
      subst hkn'
      have j1 : ¬ ((k : Int) < (k : Int)) := by omega
      gi_wp2
      go_end0
      exact ⟨⟨_, rfl⟩, O, HS.out.more KW.out.size, KW.out.then HTT.out, .inl (by have := HJ.out; rwa [List.take_of_length_le (by rw [HMM.out]; omega)] at this)⟩
end Go.Proofs.Ytgialpjdfeldeaa

/-! A region that draws its order, in two parts: plain operations that all stand ahead of one loud one (a call that turns the world), and what comes behind it, walked in another class of worlds ('region_two': the order and the barrier are handed in). Conditions: each theorem's own. -/
namespace Go.Proofs.Ytgialpjdfeldeaa
open Go.RowKit

section
variable {P : Program} {ops : Array Oper} {Q : Exit → Act → World → Prop} {md : Region.Mode} {C : World → Prop} {n : Nat}

/-- What is done has all done that it waits for. -/
def Closed (md : Region.Mode) (ops : Array Oper) (listed : Array Bool) : Prop :=
  ∀ (j : Nat) (o : Oper), ops[j]? = some o → listed.getD j false = true → ∀ e ∈ o.after, Region.binds md e = true → listed.getD e.on false = true
theorem closed_start (m : Nat) : Closed md ops (Array.replicate m false) := fun j o _ h => by
  exfalso
  rcases Nat.lt_or_ge j m with h' | h'
  · simp [h'] at h
  · simp [Nat.not_lt.2 h'] at h
theorem closed_step {listed : Array Bool} {j : Nat} (h : Closed md ops listed) (hj : j ∈ Region.ready md ops listed) : Closed md ops (listed.setIfInBounds j true) := by
  intro k o hk hl e he hb
  by_cases hkj : j = k
  · subst hkj
    obtain ⟨_, o', ho', hall⟩ := mem_ready.1 hj
    rw [hk] at ho'
    cases ho'
    exact getD_set_true (hall e he hb)
  · rw [getD_set_ne false hkj] at hl
    exact getD_set_true (h k o hk hl e he hb)

/-- p stands ahead of i. -/
inductive Anc (md : Region.Mode) (ops : Array Oper) : Nat → Nat → Prop
  | direct {i : Nat} {o : Oper} {e : Edge} : ops[i]? = some o → e ∈ o.after → Region.binds md e = true → Anc md ops e.on i
  | trans {p q i : Nat} : Anc md ops p q → Anc md ops q i → Anc md ops p i
theorem anc_done {listed : Array Bool} (hc : Closed md ops listed) {p i : Nat} (h : Anc md ops p i) : (∀ o, ops[i]? = some o → ∀ e ∈ o.after, Region.binds md e = true → listed.getD e.on false = true) → listed.getD p false = true := by
  induction h with
  | direct ho he hb => exact fun h => h _ ho _ he hb
  | trans _ _ ih1 ih2 => exact fun h => ih1 (fun o ho e he hb => hc _ o ho (ih2 h) e he hb)
def ancB (md : Region.Mode) (ops : Array Oper) : Nat → Nat → Nat → Bool
  | 0, _, _ => false
  | f + 1, p, i => match ops[i]? with
    | none => false
    | some o => o.after.any fun e => Region.binds md e && (e.on == p || ancB md ops f p e.on)
theorem ancB_sound : ∀ (f p i : Nat), ancB md ops f p i = true → Anc md ops p i
  | 0, _, _, h => by cases h
  | f + 1, p, i, h => by
    unfold ancB at h
    cases ho : ops[i]? with
    | none => rw [ho] at h; cases h
    | some o =>
      rw [ho] at h
      obtain ⟨e, he, hb⟩ := Array.any_eq_true'.1 h
      simp only [Bool.and_eq_true, Bool.or_eq_true, beq_iff_eq] at hb
      obtain ⟨h1, h2⟩ := hb
      have hd : Anc md ops e.on i := .direct ho he h1
      rcases h2 with h2 | h2
      · rw [← h2]
        exact hd
      · exact .trans (ancB_sound f p e.on h2) hd
theorem not_ready {listed : Array Bool} (hc : Closed md ops listed) {p i : Nat} (h : Anc md ops p i) (hp : p ∈ Region.ready md ops listed) : i ∉ Region.ready md ops listed := by
  intro hi
  obtain ⟨_, o, ho, hall⟩ := mem_ready.1 hi
  have h1 := anc_done hc h (fun o' ho' => by rw [ho] at ho'; cases ho'; exact hall)
  have h0 := (mem_ready.1 hp).1
  rcases Nat.lt_or_ge p listed.size with h' | h'
  · simp [h'] at h0 h1
    rw [h0] at h1
    cases h1
  · simp [Array.getElem?_eq_none h'] at h1

/-- Whatever order is picked, up to the barrier i; C holding behind every operation ahead of it. -/
def anyB (P : Program) (md : Region.Mode) (ops : Array Oper) (Q : Exit → Act → World → Prop) (C : World → Prop) (n i : Nat) : Nat → Array Bool → Act → World → Prop
  | 0, _, _, _ => False
  | fuel + 1, listed, a, w =>
    (Region.ready md ops listed = [] → Q .normal a w) ∧
    ∀ j ∈ Region.ready md ops listed, wpOpIn Fence.wide n P ops Q j (fun a' w' => if j = i then wpAnyIn Fence.wide n P md ops Q fuel (listed.setIfInBounds j true) a' w' else C w' ∧ anyB P md ops Q C n i fuel (listed.setIfInBounds j true) a' w') a w

theorem wpAnyIn_of_anyB {i : Nat} : ∀ (fuel : Nat) (listed : Array Bool) (a : Act) (w : World), anyB P md ops Q C n i fuel listed a w → wpAnyIn Fence.wide n P md ops Q fuel listed a w
  | 0, _, _, _, h => h.elim
  | fuel + 1, _, _, _, h => ⟨h.1, fun j hj => wpOpIn_mono (fun a' w' h' => by
      by_cases e : j = i
      · rw [if_pos e] at h'
        exact h'
      · rw [if_neg e] at h'
        exact wpAnyIn_of_anyB fuel _ a' w' h'.2) (h.2 j hj)⟩

theorem anyB_first {p i : Nat} {oi : Oper} {v : Value} (hi : ops[p]? = some oi) (hpi : p ≠ i) (hanc : Anc md ops p i) (hsel : ∀ (j : Nat) (o : Oper) cs b, ops[j]? = some o → o.op ≠ .select cs b)
    (hQ : ∀ c a w, Q (.panic c) (a.put oi.dst v) w → Q (.panic c) a w) :
    ∀ (fuel : Nat) (listed : Array Bool) (a : Act) (w : World), Closed md ops listed →
      (∀ j oj, ops[j]? = some oj → j ≠ p → listed.getD j true = false → (∀ e ∈ oj.after, Region.binds md e = true → e.on ≠ p) → oi.apart ops oj = true) →
      p ∈ Region.ready md ops listed → YieldsIf P ops C oi v a → C w →
      anyB P md ops Q C n i fuel (listed.setIfInBounds p true) (a.put oi.dst v) w → anyB P md ops Q C n i (fuel + 1) listed a w := by
  intro fuel
  induction fuel with
  | zero =>
    intro listed a w _ _ _ _ _ H
    exact H.elim
  | succ fuel ih =>
    intro listed a w hcl hfree hr hy hS H
    refine ⟨fun h => (by rw [h] at hr; cases hr), fun j hj => ?_⟩
    by_cases hjp : j = p
    · subst hjp
      refine yieldsIf_wpOpIn hi hy hS ?_
      rw [if_neg hpi]
      exact ⟨hS, H⟩
    · have hji : j ≠ i := fun e => not_ready hcl hanc hr (e ▸ hj)
      have h1 := H.2 j (ready_mono hj hjp)
      simp only [if_neg hji] at h1 ⊢
      obtain ⟨hjun, oj, hoj, hall⟩ := mem_ready.1 hj
      have hnot : ∀ e ∈ oj.after, Region.binds md e = true → e.on ≠ p := fun e he hb heq => by
        have h1 := hall e he hb
        have h0 := (mem_ready.1 hr).1
        rw [heq] at h1
        rcases Nat.lt_or_ge p listed.size with h' | h'
        · simp [h'] at h0 h1; rw [h0] at h1; cases h1
        · simp [Array.getElem?_eq_none h'] at h1
      have h2 := wpOpIn_putIf hoj (hfree j oj hoj hjp hjun hnot) (fun cs b => hsel p oi cs b hi) (fun cs b => hsel j oj cs b hoj) hQ hy h1
      have hfree' : ∀ k ok, ops[k]? = some ok → k ≠ p → (listed.setIfInBounds j true).getD k true = false →
          (∀ e ∈ ok.after, Region.binds md e = true → e.on ≠ p) → oi.apart ops ok = true := fun k ok hk hki hun hno => by
        refine hfree k ok hk hki ?_ hno
        by_cases hjk : j = k
        · subst hjk; exact hjun
        · rw [getD_set_ne true hjk] at hun; exact hun
      refine wpOpIn_mono (fun a' w' h3 => ⟨h3.2.1, ih (listed.setIfInBounds j true) a' w' (closed_step hcl hj) hfree' (ready_mono hr (Ne.symm hjp)) h3.1 h3.2.1 ?_⟩) h2
      rw [Array.setIfInBounds_comm _ _ hjp]
      exact h3.2.2

/-- The walk: the plain ones 'ps', the barrier i, then 'is' in the class C2. -/
def wpTwo (P : Program) (ops : Array Oper) (Q : Exit → Act → World → Prop) (C : World → Prop) (n i : Nat) (is : List Nat) : List Nat → Act → World → Prop
  | [], a, w => wpOpIn Fence.wide n P ops Q i (fun a' w' => ∃ S2 : World → Prop, S2 w' ∧ wpPerm P ops Q (fun V => ∃ x : Wd S2, V = x.w) n is a' w') a w
  | p :: ps, a, w => match ops[p]? with
    | none => False
    | some o => ∃ v, YieldsIf P ops C o v a ∧ wpTwo P ops Q C n i is ps (a.put o.dst v) w
def twoB (md : Region.Mode) (ops : Array Oper) (i : Nat) (is : List Nat) : List Nat → Array Bool → Bool
  | [], listed => Region.ready md ops listed == [i] && permB md ops is (listed.setIfInBounds i true)
  | p :: ps, listed => (match ops[p]? with | none => false | some o => plainOp o.op && (Region.ready md ops listed).contains p && Region.free md ops listed p) && p != i && ancB md ops ops.size p i && twoB md ops i is ps (listed.setIfInBounds p true)

theorem two_any {i : Nat} {is : List Nat} (hs : Region.noSelect ops = true) (hQ : ∀ c a d v w, Q (.panic c) (Act.put a d v) w → Q (.panic c) a w) : ∀ (ps : List Nat) (listed : Array Bool) (a : Act) (w : World), C w → Closed md ops listed → twoB md ops i is ps listed = true → wpTwo P ops Q C n i is ps a w → anyB P md ops Q C n i (ps.length + (is.length + 1)) listed a w
  | [], listed, a, w, _, _, hB, h => by
    simp only [twoB, Bool.and_eq_true, beq_iff_eq] at hB
    obtain ⟨hr, hB2⟩ := hB
    simp only [List.length_nil, Nat.zero_add]
    refine ⟨fun h0 => (by rw [hr] at h0; cases h0), fun j hj => ?_⟩
    rw [hr] at hj
    obtain rfl : j = i := by simpa using hj
    refine wpOpIn_mono (fun a' w' h' => ?_) h
    rw [if_pos rfl]
    obtain ⟨S2, h1, h2⟩ := h'
    exact wpAnyIn_of_anyC _ _ _ _ (perm_any hs hQ is _ _ _ (Wd.mem h1) hB2 h2)
  | p :: ps, listed, a, w, hC, hcl, hB, h => by
    simp only [twoB, Bool.and_eq_true, bne_iff_ne, ne_eq] at hB
    obtain ⟨⟨⟨hB1, hpi⟩, hanc⟩, hB2⟩ := hB
    unfold wpTwo at h
    cases ho : ops[p]? with
    | none => simp [ho] at hB1
    | some o =>
      simp only [ho, Bool.and_eq_true] at hB1 h
      obtain ⟨⟨hp, hr⟩, hf⟩ := hB1
      obtain ⟨v, hy, hk⟩ := h
      have hr' : p ∈ Region.ready md ops listed := by simpa using hr
      rw [List.length_cons, Nat.add_right_comm]
      exact anyB_first ho hpi (ancB_sound _ _ _ hanc) (Region.noSelect_spec hs) (fun c a w => hQ c a _ v w) _ listed a w hcl (Region.free_spec ho hf) hr' hy hC (two_any hs hQ ps _ _ _ hC (closed_step hcl hr') hB2 hk)
end

section
variable {P : Program} {l : List Oper} {Q : Exit → Act → World → Prop} {C : World → Prop} {n : Nat} {i p : Nat} {is ps : List Nat} {o : Oper} {a : Act} {w : World}
/-- The next operation is plain. -/
theorem tq (ho : nth l p = some o) (hp : plainOp o.op = true) (h : wpQuiet P l.toArray C (fun a' => wpTwo P l.toArray Q C n i is ps a' w) [o] a) : wpTwo P l.toArray Q C n i is (p :: ps) a w := by
  unfold wpTwo
  simp only [(nth_eq l p).trans ho]
  unfold wpQuiet at h
  by_cases hw : Region.wanted o (yielded l.toArray a.tmps) = true
  · rw [if_pos hw] at h
    obtain ⟨v, hv, hk⟩ := h
    refine ⟨v, .inl ⟨hw, fun w1 hC => ?_⟩, hk⟩
    have h1 := hv w1 hC
    unfold Oper.quietAt at h1
    cases hr : (execOp a.eval o).run P w1 with
    | ok x w' =>
      rw [hr] at h1
      obtain ⟨u, rfl⟩ := plain_value hp hr
      simp only [Oper.quietUpon] at h1
      rw [h1.1, h1.2]
    | halt x w' => rw [hr] at h1; exact h1.elim
  · rw [if_neg hw] at h
    exact ⟨undef, .inr ⟨by simpa using hw, rfl⟩, h⟩
/-- A loud operation alone. -/
theorem loud_list {K : Act → World → Prop} (ho : nth l i = some o) (h : wpListIn Fence.wide n P l.toArray (Exit.then K Q) [o] a w) : wpOpIn Fence.wide n P l.toArray Q i K a w := by
  unfold wpOpIn
  simp only [(nth_eq l i).trans ho]
  unfold wpListIn at h
  split
  · rename_i hw
    rw [if_pos hw] at h
    unfold Oper.wpIn at h ⊢
    refine ⟨h.1, ?_⟩
    have h := h.2
    generalize (o.semAt Fence.wide.round a.eval).run P w = r at h ⊢
    cases r with
    | ok x w' =>
      cases x <;> simp only [Oper.uponIn, wpListIn, Exit.then] at h ⊢ <;> exact h
    | halt x w' => cases x <;> simp only [Oper.uponIn, Exit.then] at h ⊢ <;> exact h
  · rename_i hw
    rw [if_neg hw] at h
    exact h
/-- The barrier. -/
theorem tl (ho : nth l i = some o) (h : wpListIn Fence.wide n P l.toArray (Exit.then (fun a' w' => ∃ S2 : World → Prop, S2 w' ∧ wpPerm P l.toArray Q (fun V => ∃ x : Wd S2, V = x.w) n is a' w') Q) [o] a w) : wpTwo P l.toArray Q C n i is [] a w := by
  unfold wpTwo
  exact loud_list ho h
end

/-- **A REGION THAT DRAWS ITS ORDER, IN TWO PARTS**, in the plain walk. -/
theorem region_two {P : Program} {ops : Array Oper} {Q : Exit → Act → World → Prop} {id : Nat} {a : Act} {w : World} (ps : List Nat) (i : Nat) (is : List Nat) (S : World → Prop) (hm : P.follows .mixedOrders = true)
    (hB : (Region.noSelect ops && ps.length + (is.length + 1) == ops.size && twoB .any ops i is ps (Array.replicate ops.size false)) = true)
    (hS : S w.drew) (h : Nonempty (Wd S) → wpTwo P ops (calm Q) (fun w' => ∃ x : Wd S, w' = x.w) 10 i is ps a w.drew) : (Code.region id ops true).wp P Q a w := by
  simp only [Bool.and_eq_true, beq_iff_eq] at hB
  have := two_any (md := .any) hB.1.1 (fun _ _ _ _ _ h => h) ps _ a _ (Wd.mem hS) (closed_start _) hB.2 (h ⟨⟨_, hS⟩⟩)
  rw [hB.1.2] at this
  exact (wpIn_wide (n := 10)).1 (Go.wpIn_mono (wpIn_region_any hm (wpAnyIn_of_anyB _ _ _ _ this)) (fun _ _ _ h => calm_imp h))
end Go.Proofs.Ytgialpjdfeldeaa

/-! A region that draws its order and ends in one operation that waits for all others (a store): its class of worlds need not hold behind that one ('region_last': in the plain walk; 'region_last_round': within a round). Conditions: each theorem's own. -/
namespace Go.Proofs.Ytgialpjdfeldeaa
section
variable {P : Program} {ops : Array Oper} {Q : Exit → Act → World → Prop} {md : Region.Mode} {C : World → Prop} {n : Nat}
/-- The walk: those ahead ('ps'), then the last one, i. -/
def wpLast (P : Program) (ops : Array Oper) (Q : Exit → Act → World → Prop) (C : World → Prop) (n i : Nat) : List Nat → Act → World → Prop
  | [], a, w => wpOpIn Fence.wide n P ops Q i (fun a' w' => Q .normal a' w') a w
  | p :: ps, a, w => match ops[p]? with
    | none => False
    | some o => if plainOp o.op then (∃ v, YieldsIf P ops C o v a ∧ wpLast P ops Q C n i ps (a.put o.dst v) w) else wpOpIn Fence.wide n P ops Q p (fun a' w' => C w' ∧ wpLast P ops Q C n i ps a' w') a w
def lastB (md : Region.Mode) (ops : Array Oper) (i : Nat) : List Nat → Array Bool → Bool
  | [], listed => Region.ready md ops listed == [i] && (Region.ready md ops (listed.setIfInBounds i true)).isEmpty
  | p :: ps, listed => (match ops[p]? with | none => false | some o => if plainOp o.op then (Region.ready md ops listed).contains p && Region.free md ops listed p && ancB md ops ops.size p i else Region.ready md ops listed == [p]) && p != i && lastB md ops i ps (listed.setIfInBounds p true)
theorem last_any {i : Nat} (hs : Region.noSelect ops = true) (hQ : ∀ c a d v w, Q (.panic c) (Act.put a d v) w → Q (.panic c) a w) : ∀ (ps : List Nat) (listed : Array Bool) (a : Act) (w : World), C w → Closed md ops listed → lastB md ops i ps listed = true → wpLast P ops Q C n i ps a w → anyB P md ops Q C n i (ps.length + 1) listed a w
  | [], listed, a, w, _, _, hB, h => by
    simp only [lastB, Bool.and_eq_true, beq_iff_eq] at hB
    obtain ⟨hr, hB2⟩ := hB
    refine ⟨fun h0 => (by rw [hr] at h0; cases h0), fun j hj => ?_⟩
    rw [hr] at hj
    obtain rfl : j = i := by simpa using hj
    refine wpOpIn_mono (fun a' w' h' => ?_) h
    rw [if_pos rfl]
    exact ⟨by simpa using hB2, h'⟩
  | p :: ps, listed, a, w, hC, hcl, hB, h => by
    simp only [lastB, Bool.and_eq_true, bne_iff_ne, ne_eq] at hB
    obtain ⟨⟨hB1, hpi⟩, hB2⟩ := hB
    unfold wpLast at h
    cases ho : ops[p]? with
    | none => simp [ho] at hB1
    | some o =>
      simp only [ho] at hB1 h
      by_cases hp : plainOp o.op = true
      · simp only [hp, if_true, Bool.and_eq_true] at hB1 h
        obtain ⟨⟨hr, hf⟩, hanc⟩ := hB1
        obtain ⟨v, hy, hk⟩ := h
        have hr' : p ∈ Region.ready md ops listed := by simpa using hr
        exact anyB_first ho hpi (ancB_sound _ _ _ hanc) (Region.noSelect_spec hs) (fun c a w => hQ c a _ v w) _ listed a w hcl (Region.free_spec ho hf) hr' hy hC (last_any hs hQ ps _ _ _ hC (closed_step hcl hr') hB2 hk)
      · simp only [hp, Bool.false_eq_true, if_false] at hB1 h
        have hr : Region.ready md ops listed = [p] := by simpa using hB1
        refine ⟨fun h0 => (by rw [hr] at h0; cases h0), fun j hj => ?_⟩
        rw [hr] at hj
        obtain rfl : j = p := by simpa using hj
        have hj' : j ∈ Region.ready md ops listed := by rw [hr]; simp
        refine wpOpIn_mono (fun a' w' h' => ?_) h
        rw [if_neg hpi]
        exact ⟨h'.1, last_any hs hQ ps _ _ _ h'.1 (closed_step hcl hj') hB2 h'.2⟩
end
section
variable {P : Program} {l : List Oper} {Q : Exit → Act → World → Prop} {C : World → Prop} {n : Nat} {i p : Nat} {ps : List Nat} {o : Oper} {a : Act} {w : World}
/-- The next operation is plain. -/
theorem lq (ho : nth l p = some o) (hp : plainOp o.op = true) (h : wpQuiet P l.toArray C (fun a' => wpLast P l.toArray Q C n i ps a' w) [o] a) : wpLast P l.toArray Q C n i (p :: ps) a w := by
  have ho' := (nth_eq l p).trans ho
  unfold wpLast
  simp only [ho', hp, if_true]
  unfold wpQuiet at h
  by_cases hw : Region.wanted o (yielded l.toArray a.tmps) = true
  · rw [if_pos hw] at h
    obtain ⟨v, hv, hk⟩ := h
    refine ⟨v, .inl ⟨hw, fun w1 hC => ?_⟩, hk⟩
    have h1 := hv w1 hC
    unfold Oper.quietAt at h1
    cases hr : (execOp a.eval o).run P w1 with
    | ok x w' =>
      rw [hr] at h1
      obtain ⟨u, rfl⟩ := plain_value hp hr
      simp only [Oper.quietUpon] at h1
      rw [h1.1, h1.2]
    | halt x w' => rw [hr] at h1; exact h1.elim
  · rw [if_neg hw] at h
    exact ⟨undef, .inr ⟨by simpa using hw, rfl⟩, h⟩
/-- The next operation is loud. -/
theorem ll (ho : nth l p = some o) (hp : plainOp o.op = false) (h : wpListIn Fence.wide n P l.toArray (Exit.then (fun a' w' => C w' ∧ wpLast P l.toArray Q C n i ps a' w') Q) [o] a w) : wpLast P l.toArray Q C n i (p :: ps) a w := by
  unfold wpLast
  simp only [(nth_eq l p).trans ho, hp, Bool.false_eq_true, if_false]
  exact loud_list ho h
/-- The last one. -/
theorem lz (ho : nth l i = some o) (h : wpListIn Fence.wide n P l.toArray (Exit.then (fun a' w' => Q .normal a' w') Q) [o] a w) : wpLast P l.toArray Q C n i [] a w := by
  unfold wpLast
  exact loud_list ho h
end
/-- **A REGION THAT DRAWS ITS ORDER AND ENDS IN ONE OPERATION**, in the plain walk. -/
theorem region_last {P : Program} {ops : Array Oper} {Q : Exit → Act → World → Prop} {id : Nat} {a : Act} {w : World} (ps : List Nat) (i : Nat) (S : World → Prop) (hm : P.follows .mixedOrders = true)
    (hB : (Region.noSelect ops && ps.length + 1 == ops.size && lastB .any ops i ps (Array.replicate ops.size false)) = true)
    (hS : S w.drew) (h : Nonempty (Wd S) → wpLast P ops (calm Q) (fun w' => ∃ x : Wd S, w' = x.w) 10 i ps a w.drew) : (Code.region id ops true).wp P Q a w := by
  simp only [Bool.and_eq_true, beq_iff_eq] at hB
  have := last_any (md := .any) hB.1.1 (Q := calm Q) (fun _ _ _ _ _ h => h) ps _ a _ (Wd.mem hS) (closed_start _) hB.2 (h ⟨⟨_, hS⟩⟩)
  rw [hB.1.2] at this
  exact (wpIn_wide (n := 10)).1 (Go.wpIn_mono (wpIn_region_any hm (wpAnyIn_of_anyB _ _ _ _ this)) (fun _ _ _ h => calm_imp h))
/-- .. within a round. -/
theorem region_last_round {P : Program} {ops : Array Oper} {Q : Exit → Act → World → Prop} {n l id : Nat} {a : Act} {w : World} (ps : List Nat) (i : Nat) (S : World → Prop) (hm : P.follows .mixedOrders = true) (hd : noDefer ops = true)
    (hB : (Region.noSelect ops && ps.length + 1 == ops.size && lastB .any ops i ps (Array.replicate ops.size false)) = true)
    (hS : S w.drew) (h : Nonempty (Wd S) → wpLast P ops (calm Q) (fun w' => ∃ x : Wd S, w' = x.w) n i ps a w.drew) : (Code.region id ops true).wpIn (Fence.wide.inRound l) n P Q a w := by
  simp only [Bool.and_eq_true, beq_iff_eq] at hB
  have := last_any (md := .any) hB.1.1 (Q := calm Q) (fun _ _ _ _ _ h => h) ps _ a _ (Wd.mem hS) (closed_start _) hB.2 (h ⟨⟨_, hS⟩⟩)
  rw [hB.1.2] at this
  exact Go.wpIn_mono (wpIn_region_any hm (wpAnyIn_inRound hd _ _ _ _ (wpAnyIn_of_anyB _ _ _ _ this))) (fun _ _ _ h => calm_imp h)
theorem last_done {Q : Exit → Act → World → Prop} {a : Act} {w : World} (h : Q .normal a w) : calm Q .normal a w := h
end Go.Proofs.Ytgialpjdfeldeaa

/-! The program's levels and Depth. -/
namespace Go.Proofs.Ytgialpjdfeldeaa
open Go.RowKit Go.Shelf

attribute [local go_sem] Oper.semAt_some

/-- How many Inner stand one below the other. -/
def levF (s : Mst) : Nat → Int → Int
  | 0, _ => 0
  | f + 1, x => if kd (tgt s x) = 3 then 1 + (slotsL s x).foldl (fun m p => max m (levF s f (s.logicZ p.2))) 0 else 0
theorem levF_succ (s : Mst) (f : Nat) (x : Int) : levF s (f + 1) x = if kd (tgt s x) = 3 then 1 + (slotsL s x).foldl (fun m p => max m (levF s f (s.logicZ p.2))) 0 else 0 := rfl
def depthB (s : Mst) (x : Int) : Int := if inTreeB s x = true then levF s (fuel s) x else 0
theorem fold_max {α : Type} (g : α → Int) (B : Int) (hg : ∀ a, 0 ≤ g a ∧ g a ≤ B) (L : List α) : ∀ m, 0 ≤ m → m ≤ B → 0 ≤ L.foldl (fun m p => max m (g p)) m ∧ L.foldl (fun m p => max m (g p)) m ≤ B := by
  induction L with
  | nil => intro m h1 h2; exact ⟨h1, h2⟩
  | cons a L ih =>
    intro m h1 h2
    have := hg a
    rw [List.foldl_cons]
    exact ih (max m (g a)) (by omega) (by omega)
theorem levF_bound (s : Mst) : ∀ (f : Nat) (x : Int), 0 ≤ levF s f x ∧ levF s f x ≤ f
  | 0, _ => by simp [levF]
  | f + 1, x => by
    unfold levF
    split
    · have := fold_max (fun p : Int × Int => levF s f (s.logicZ p.2)) f (fun p => levF_bound s f _) (slotsL s x) 0 (by omega) (by omega)
      omega
    · omega
/-- The invariant: the deepest so far. -/
def Deep (n : Nat) (g : Int × Int → Int) : Inv (Int × Int) := fun O pre A => (∀ k, O k ↔ k = n) ∧ Boxed A n 3 (.int .i64 (pre.foldl (fun m p => max m (g p)) 0))
theorem Deep.good (n : Nat) (g : Int × Int → Int) : Good (Deep n g) := by
  constructor
  · rintro O pre A B ⟨hO, hb⟩ ht
    exact ⟨hO, ht.boxed hb (fun hn => hn ((hO n).2 rfl))⟩
  · rintro O pre A ⟨hO, hb⟩ k hk
    rw [(hO k).1 hk]
    exact hb.lt

set_option maxHeartbeats 2000000 in
theorem levels_p : ∀ (f : Nat) (w : World) (b : Nat) (s : Mst) (x : Int), PM w b s → s.ok → Wf s f x → f ≤ 100000 →
    Calls Try.prog 65 #[.pointer (some ⟨b, 0, none⟩), .int .i64 x] w fun e w' => e = .returned (.int .i64 (levF s f x)) ∧ Kept w w'
  | 0, _, _, _, _, _, _, h, _ => h.elim
  | f + 1, w, b, s, x, h, ho, hw, hf => by
    have ih := levels_p f
    obtain ⟨hwh, hwk⟩ := hw
    obtain ⟨n, hn⟩ : ∃ n, w.heap.size = n := ⟨_, rfl⟩
    obtain ⟨W1, hW1⟩ : ∃ W1, w.alloc (.cells #[.pointer (some ⟨b, 0, none⟩)] 22) = W1 := ⟨_, rfl⟩
    have t1 : Kept w W1 := by rw [← hW1]; exact (Kept.refl w).alloc _
    have z1 : W1.heap.size = n + 1 := by rw [← hW1]; simp [hn]
    have bM : Boxed W1 n 22 (.pointer (some ⟨b, 0, none⟩)) := by rw [← hW1, ← hn]; exact Boxed.new w 22 _
    have K1 := hide t1
    have BM := hide bM
    have c0 := bM.cell
    have H := hide h
    have HO := hide ho
    have HWH := hide hwh
    have HWK := hide hwk
    have IH := hide ih
    have HN := hide hn
    have Z1 := hide z1
    have HF := hide hf
    obtain ⟨t, ht⟩ : ∃ t, tgt s x = t := ⟨_, rfl⟩
    have HT := hide ht
    have HTI : Hid (I64 t) := hide (by rw [← ht]; exact tgt_i64 ho hwh.i64)
    obtain ⟨j, hj⟩ : ∃ j, kd t = j := ⟨_, rfl⟩
    have HJ := hide hj
    by_cases j3 : j = 3
    · obtain ⟨g, hg⟩ : ∃ g : Int × Int → Int, (fun p => levF s f (s.logicZ p.2)) = g := ⟨_, rfl⟩
      have HE : Hid (levF s (f + 1) x = 1 + (slotsL s x).foldl (fun m p => max m (g p)) 0) := hide (by subst hg; rw [levF_succ, if_pos (by rw [ht, hj]; exact j3)])
      have HG : Hid (∀ p : Int × Int, levF s f (s.logicZ p.2) = g p) := hide (fun p => by subst hg; rfl)
      have GB : Hid (∀ p : Int × Int, 0 ≤ g p ∧ g p ≤ 100000) := hide (fun p => by rw [← hg]; have := levF_bound s f (s.logicZ p.2); have := HF.out; dsimp only; omega)
      subst j3
      clear t1 bM h ho hwh hwk ih z1 hf ht hj hg
      refine calls_marks Try.func65 rfl ?_
      simp only [Try.ntmps65, List.size_toArray, List.length_cons, List.length_nil, Nat.reduceAdd, Nat.reduceSub, Array.replicate_succ, Array.replicate_zero, List.push_toArray, List.append_toArray, List.nil_append, List.cons_append]
      go_wp2_with (fail)
      clear hW1 hn
      refine (target_p _ b s x t (H.out.kept K1.out) HWH.out.i64 HT.out).mono ?_
      rintro e w' ⟨rfl, rfl⟩
      go_wp2_with (fail)
      refine (kk_p _ t 3 HTI.out HJ.out).mono ?_
      rintro e w' ⟨rfl, rfl⟩
      have ca := (Kept.alloc (Kept.refl W1) (.cells #[.int .i64 0] 3)).cell c0 id
      go_wp2_with (fail)
      rw [Z1.out]
      clear ca
      obtain ⟨W2, hW2⟩ : ∃ W2, W1.alloc (.cells #[.int .i64 0] 3) = W2 := ⟨_, rfl⟩
      have zz := Z1.out
      have t2 : Kept W1 W2 := by rw [← hW2]; exact (Kept.refl W1).alloc _
      have bD : Boxed W2 (n + 1) 3 (.int .i64 0) := by rw [← hW2, ← zz]; exact Boxed.new W1 3 _
      have Z2 : Hid (W2.heap.size = n + 2) := hide (by rw [← hW2]; simp [zz])
      have K2 := hide (K1.out.trans t2)
      have BM2 := hide (t2.boxed BM.out id)
      have BD := hide bD
      have c0' := BM2.out.cell
      clear t2 bD c0
      rw [hW2]
      clear hW2
      refine (slots_k W2 b x).mono ?_
      rintro e W3 ⟨B1, B2, rfl, k3, b1, b2, l1, l2⟩
      have K3 := hide (K2.out.trans k3)
      have BM3 := hide (k3.boxed BM2.out id)
      have BD3 := hide (k3.boxed BD.out id)
      have BB1 := hide b1
      have BB2 := hide b2
      have L1 : Hid (n + 2 ≤ B1 ∧ n + 2 ≤ B2 ∧ n + 2 ≤ W3.heap.size) := hide (by have := Z2.out; have := k3.size; omega)
      clear k3 b1 b2 l1 l2 c0' zz
      go_wp2_with (fail)
      refine wp_range2 (gf := 107) rfl (enters_of Try.func107 (by kernel_rfl) rfl) (encs := enc2) (xs := slotsL s x) (R := SlotR w B1 B2)
        (fun X hX => slots_i w X (K3.out.trans hX) b s H.out HO.out x HWH.out B1 B2 (hX.boxed BB1.out id) (hX.boxed BB2.out id)) (fun _ => rfl)
        (fun k => k = n + 1) (Deep (n + 1) g) (fun _ _ _ _ => False) ?hR (Deep.good _ _) (fun _ => good_false) ⟨fun _ => Iff.rfl, by simpa using BD3.out⟩ ?ab ?done (fun _ _ _ _ _ _ _ _ _ _ _ h => h.elim)
      case hR =>
        rintro k (hk | rfl | rfl)
        · have h1 := HN.out
          have h2 := K3.out.size
          exact ⟨by omega, by omega⟩
        · have := L1.out
          exact ⟨BB1.out.lt, by omega⟩
        · have := L1.out
          exact ⟨BB2.out.lt, by omega⟩
      case ab =>
        apply Exists.intro
        refine ⟨?_, ?_⟩
        · intro l' p X K hK
          gi_wp2
          exact hK
        · rintro l' O pre ⟨pi, sl⟩ rest B hx' tB sB ⟨hO, bD⟩
          obtain ⟨y, hy⟩ : ∃ y, s.logicZ sl = y := ⟨_, rfl⟩
          have HY := hide hy
          have HWF : Hid (Wf s f y) := hide (by
            have := HWK.out (pi, sl) (by rw [hx']; simp)
            rwa [hy] at this)
          obtain ⟨v, hv⟩ : ∃ v, g (pi, sl) = v := ⟨_, rfl⟩
          have HV : Hid (levF s f y = v) := hide (by rw [← hy, HG.out (pi, sl)]; exact hv)
          obtain ⟨D, hD⟩ : ∃ D, pre.foldl (fun m p => max m (g p)) 0 = D := ⟨_, rfl⟩
          have HDN : Hid ((pre ++ [(pi, sl)]).foldl (fun m p => max m (g p)) 0 = max D v) := hide (by rw [List.foldl_append, hD]; simp [hv])
          rw [hD] at bD
          have vb : 0 ≤ v ∧ v ≤ 100000 := by rw [← hv]; exact GB.out _
          have db : 0 ≤ D ∧ D ≤ 100000 := by rw [← hD]; exact fold_max g 100000 GB.out pre 0 (by omega) (by omega)
          have KB : Hid (Kept w B) := hide (K3.out.did (by have := HN.out; omega) tB)
          obtain ⟨V, hV⟩ : ∃ V, B.drew = V := ⟨_, rfl⟩
          have kV : Kept B V := by rw [← hV]; exact Kept.drew _
          have KV := hide kV
          have HVV := hide hV
          have bM' := (tB.boxed BM3.out (by omega))
          have MV := hide (H.out.kept (KB.out.trans kV))
          have x0 : ∀ u : Wd (fun U => Kept V U), u.w.cell? ⟨n, 0, none⟩ = some (.pointer (some ⟨b, 0, none⟩)) := fun u => u.ok.cell (kV.cell bM'.cell id) id
          have x1 : ∀ u : Wd (fun U => Kept V U), u.w.cell? ⟨n + 1, 0, none⟩ = some (.int .i64 D) := fun u => u.ok.cell (kV.cell bD.cell id) id
          have BDV := hide (kV.boxed bD id)
          have HOO := hide hO
          clear hx' tB sB hO bD hy hv hD hV kV bM'
          gi_wp2_with (fail)
          refine region_last_round [0, 1, 2, 3, 4, 5, 6] 7 (fun U => Kept V U) (by kernel_rfl) (by kernel_rfl) (by kernel_rfl) (by rw [HVV.out]; exact Kept.refl _) (fun _ => ?_)
          rw [HVV.out]
          repeat (refine lq rfl rfl ?_; go_big_quiet_step (fail); refine wpQuiet_nil ?_)
          refine ll rfl rfl ?_
          gi_wp2_with (fail)
          refine ⟨trivial, ?_⟩
          refine (callsIn_wide.2 (logic_p _ b s sl y MV.out HO.out HY.out)).mono ?_
          rintro e U ⟨rfl, rfl⟩
          gi_wp2_with (fail)
          refine ⟨Wd.mem (Kept.refl _), ?_⟩
          refine ll rfl rfl ?_
          gi_wp2_with (fail)
          refine ⟨trivial, ?_⟩
          refine (callsIn_wide.2 (IH.out V b s y MV.out HO.out HWF.out (by have := HF.out; omega))).mono ?_
          rw [HV.out]
          rintro e U ⟨rfl, kU⟩
          have KU := hide kU
          have BDU := hide (kU.boxed BDV.out id)
          have cD := BDU.out.cell
          have fD := BDU.out.frozen
          clear kU
          gi_wp2_with (fail)
          refine ⟨Wd.mem KU.out, ?_⟩
          refine ll rfl rfl ?_
          gi_wp2
          refine ⟨Wd.mem KU.out, ?_⟩
          refine lz rfl ?_
          gi_wp2
          refine last_done ?_
          gi_wp2
          refine ⟨O, Sub.refl _ _, (Turned.trans (KV.out.trans KU.out) (Turned.setCell (R := fun k => k = n + 1) _ _ _ rfl) (fun _ h => h.elim) (fun k _ h => (HOO.out k).2 h)), HOO.out, ?_⟩
          rw [HDN.out]
          exact BDU.out.set _
      case done =>
        rintro D O X hD nD tX sX ⟨hO, bD⟩ hK
        obtain ⟨d, hd⟩ : ∃ d, (slotsL s x).foldl (fun m p => max m (g p)) 0 = d := ⟨_, rfl⟩
        rw [hd] at bD
        have db : 0 ≤ d ∧ d ≤ 100000 := by rw [← hd]; exact fold_max g 100000 GB.out _ 0 (by omega) (by omega)
        have HE2 : Hid (levF s (f + 1) x = 1 + d) := hide (by rw [HE.out, hd])
        have cD := bD.cell
        have HK := hide hK
        have KX : Hid (Kept w X) := hide (K3.out.did (by have := HN.out; omega) tX)
        have HDn : Hid (n ≤ D) := hide (by have := L1.out; omega)
        clear hK bD hO nD tX sX hd
        go_wp2
        refine leave_marks [D] X ?_ ?_ ?_
        · intro k hk
          simp at hk
          rw [hk]
          exact HK.out
        · simp
        · intro X' hX'
          refine ⟨_, results_tmp rfl _ _ _, by rw [HE2.out]; rfl, ?_⟩
          exact KX.out.own (fun i hi => by simp at hi; have := HDn.out; have := HN.out; omega) hX'
    · have HE : Hid (levF s (f + 1) x = 0) := hide (by rw [levF_succ, if_neg (by rw [ht, hj]; exact j3)])
      have g1 : (j == 3) = false := by simp [j3]
      have g2 : (j != 3) = true := by simp [j3]
      clear t1 bM h ho hwh hwk ih z1 hf ht hj j3
      refine calls_marks Try.func65 rfl ?_
      simp only [Try.ntmps65, List.size_toArray, List.length_cons, List.length_nil, Nat.reduceAdd, Nat.reduceSub, Array.replicate_succ, Array.replicate_zero, List.push_toArray, List.append_toArray, List.nil_append, List.cons_append]
      go_wp2_with (fail)
      clear hW1 hn
      refine (target_p _ b s x t (H.out.kept K1.out) HWH.out.i64 HT.out).mono ?_
      rintro e w' ⟨rfl, rfl⟩
      go_wp2_with (fail)
      refine (kk_p _ t j HTI.out HJ.out).mono ?_
      rintro e w' ⟨rfl, rfl⟩
      go_wp2
      refine leave_marks [] _ ?_ ?_ ?_
      · intro k hk; cases hk
      · simp
      · intro X' hX'
        exact ⟨_, results_tmp rfl _ _ _, by rw [HE.out]; rfl, K1.out.trans (hX'.mono fun _ _ h => by cases h)⟩

theorem depth_p (w : World) (b : Nat) (s : Mst) (x : Int) (h : PM w b s) (ho : s.ok) (hx : I64 x) (d : Int) (e1 : depthB s x = d) :
    Calls Try.prog 35 #[.pointer (some ⟨b, 0, none⟩), .int .i64 x] w fun e w' => e = .returned (.int .i64 d) ∧ Kept w w' := by
  have H := hide h
  have HO := hide ho
  have HX := hide hx
  obtain ⟨q, hq⟩ : ∃ q, inTreeB s x = q := ⟨_, rfl⟩
  have HQ := hide hq
  unfold depthB at e1
  rw [hq] at e1
  cases q with
  | false =>
    have HE : Hid (d = 0) := hide (by rw [← e1]; rfl)
    clear h ho hx hq e1
    go_enter Try.func35, Try.ntmps35
    go_wp2_with (fail)
    refine (isInTree_p _ b s x H.out HO.out HX.out false HQ.out).mono ?_
    rintro e W2 ⟨rfl, k2⟩
    have K2 := hide k2
    clear k2
    go_wp2
    go_ret
    exact ⟨by rw [HE.out]; rfl, K2.out⟩
  | true =>
    have HE : Hid (levF s (fuel s) x = d) := hide e1
    have HFU : Hid (fuel s ≤ 100000) := hide (by have := ho.2; unfold fuel; omega)
    clear h ho hx hq e1
    go_enter Try.func35, Try.ntmps35
    go_wp2_with (fail)
    refine (isInTree_p _ b s x H.out HO.out HX.out true HQ.out).mono ?_
    rintro e W2 ⟨rfl, k2⟩
    have K2 := hide k2
    clear k2
    go_wp2_with (fail)
    refine (levels_p (fuel s) W2 b s x (H.out.kept K2.out) HO.out (inTree_wf HO.out HQ.out).1 HFU.out).mono ?_
    rw [HE.out]
    rintro e W3 ⟨rfl, k3⟩
    have K3 := hide (K2.out.trans k3)
    clear k3
    go_wp2
    go_ret
    exact ⟨rfl, K3.out⟩
end Go.Proofs.Ytgialpjdfeldeaa

/-! A region that draws its order, walked in every order of its loud operations ('region_tree'; 'aq': a plain one first; 'al': whichever is ready). Conditions: each theorem's own. -/
namespace Go.Proofs.Ytgialpjdfeldeaa
/-- **A REGION THAT DRAWS ITS ORDER**, in the plain walk. -/
theorem region_tree {P : Program} {ops : Array Oper} {Q : Exit → Act → World → Prop} {id : Nat} {a : Act} {w : World} (S : World → Prop) (hm : P.follows .mixedOrders = true)
    (hS : S w.drew) (h : Nonempty (Wd S) → anyC P .any ops (calm Q) (fun w' => ∃ x : Wd S, w' = x.w) 10 ops.size (Array.replicate ops.size false) a w.drew) : (Code.region id ops true).wp P Q a w :=
  (wpIn_wide (n := 10)).1 (Go.wpIn_mono (wpIn_region_any hm (wpAnyIn_of_anyC _ _ _ _ (h ⟨⟨_, hS⟩⟩))) (fun _ _ _ h => calm_imp h))
section
variable {P : Program} {l : List Oper} {Q : Exit → Act → World → Prop} {C : World → Prop} {n : Nat} {fuel : Nat} {o : Oper} {a : Act} {w : World} {listed : Array Bool}
/-- A plain operation first. -/
theorem aq (i : Nat) (listed' : Array Bool) (ho : nth l i = some o) (hp : plainOp o.op = true) (hB : (Region.noSelect l.toArray && (Region.ready .any l.toArray listed).contains i && Region.free .any l.toArray listed i) = true) (hl : listed.setIfInBounds i true = listed') (hC : C w)
    (h : wpQuiet P l.toArray C (fun a' => anyC P .any l.toArray (calm Q) C n fuel listed' a' w) [o] a) : anyC P .any l.toArray (calm Q) C n (fuel + 1) listed a w := by
  simp only [Bool.and_eq_true] at hB
  obtain ⟨⟨h1, h2⟩, h3⟩ := hB
  have ho' := (nth_eq l i).trans ho
  subst hl
  obtain ⟨v, hy, hk⟩ : ∃ v, YieldsIf P l.toArray C o v a ∧ anyC P .any l.toArray (calm Q) C n fuel (listed.setIfInBounds i true) (a.put o.dst v) w := by
    unfold wpQuiet at h
    by_cases hw : Region.wanted o (yielded l.toArray a.tmps) = true
    · rw [if_pos hw] at h
      obtain ⟨v, hv, hk⟩ := h
      refine ⟨v, .inl ⟨hw, fun w1 hC => ?_⟩, hk⟩
      have h1 := hv w1 hC
      unfold Oper.quietAt at h1
      cases hr : (execOp a.eval o).run P w1 with
      | ok x w' =>
        rw [hr] at h1
        obtain ⟨u, rfl⟩ := plain_value hp hr
        simp only [Oper.quietUpon] at h1
        rw [h1.1, h1.2]
      | halt x w' => rw [hr] at h1; exact h1.elim
    · rw [if_neg hw] at h
      exact ⟨undef, .inr ⟨by simpa using hw, rfl⟩, h⟩
  exact anyC_first ho' (Region.noSelect_spec h1) (fun c a w h => h) fuel listed a w (Region.free_spec ho' h3) (by simpa using h2) hy hC hk
/-- Whichever is ready. -/
theorem al (is : List Nat) (hr : (Region.ready .any l.toArray listed == is && !is.isEmpty) = true)
    (h : ∀ i ∈ is, ∃ o listed', nth l i = some o ∧ listed.setIfInBounds i true = listed' ∧ wpListIn Fence.wide n P l.toArray (Exit.then (fun a' w' => C w' ∧ anyC P .any l.toArray (calm Q) C n fuel listed' a' w') (calm Q)) [o] a w) : anyC P .any l.toArray (calm Q) C n (fuel + 1) listed a w := by
  simp only [Bool.and_eq_true, beq_iff_eq] at hr
  obtain ⟨hr, he⟩ := hr
  refine ⟨fun h0 => ?_, fun j hj => ?_⟩
  · rw [hr] at h0
    rw [h0] at he
    cases he
  · rw [hr] at hj
    obtain ⟨o, _, ho, rfl, hh⟩ := h j hj
    exact loud_list ho hh
/-- None is left. -/
theorem adone (hr : (Region.ready .any l.toArray listed).isEmpty = true) (h : Q .normal a w) : anyC P .any l.toArray (calm Q) C n 0 listed a w := ⟨by simpa using hr, h⟩
end
end Go.Proofs.Ytgialpjdfeldeaa

/-! The program's isNew. -/
namespace Go.Proofs.Ytgialpjdfeldeaa
open Go.RowKit Go.Shelf

/-- Is the Inner at a one that was just made over n keys? -/
def newB (s : Mst) (a n : Int) : Bool := (s.look a == Pt.degZ n) && (s.look (a + 1) == n) && (s.look (a + 2) == 0) && (s.look (a + 3) == 0) && (s.look (a + 4) == 0)

theorem isNew_p (w : World) (b : Nat) (s : Mst) (a n : Int) (r : Bool) (h : PM w b s) (ha : 0 ≤ a) (ha2 : a ≤ 100000) (hn : I64 n) (e1 : newB s a n = r) :
    Calls Try.prog 104 #[.pointer (some ⟨b, 0, none⟩), .int .i64 a, .int .i64 n] w fun e w' => e = .returned (.bool r) ∧ w = w' := by
  have H := hide h
  have HNI := hide hn
  obtain ⟨z0, hz0⟩ : ∃ z, s.look a = z := ⟨_, rfl⟩
  obtain ⟨z1, hz1⟩ : ∃ z, s.look (a + 1) = z := ⟨_, rfl⟩
  obtain ⟨z2, hz2⟩ : ∃ z, s.look (a + 2) = z := ⟨_, rfl⟩
  obtain ⟨z3, hz3⟩ : ∃ z, s.look (a + 3) = z := ⟨_, rfl⟩
  obtain ⟨z4, hz4⟩ : ∃ z, s.look (a + 4) = z := ⟨_, rfl⟩
  obtain ⟨d, hd⟩ : ∃ d, Pt.degZ n = d := ⟨_, rfl⟩
  have HZ0 := hide hz0
  have HZ1 := hide hz1
  have HZ2 := hide hz2
  have HZ3 := hide hz3
  have HZ4 := hide hz4
  have HD := hide hd
  have E : Hid (r = ((z0 == d) && (z1 == n) && (z2 == 0) && (z3 == 0) && (z4 == 0))) := hide (by rw [← e1, newB, hz0, hz1, hz2, hz3, hz4, hd])
  clear h hn hz0 hz1 hz2 hz3 hz4 hd e1
  by_cases y0 : d = z0
  · subst y0
    by_cases y1 : n = z1
    · subst y1
      by_cases y2 : 0 = z2
      · subst y2
        by_cases y3 : 0 = z3
        · subst y3
          by_cases y4 : 0 = z4
          · subst y4
            have HR : Hid (r = true) := hide (by rw [E.out]; simp)
            go_enter Try.func104, Try.ntmps104
            go_wp2_with (fail)
            refine (lk_p _ b s _ d H.out (by first | exact HZ0.out | simpa using HZ0.out)).mono ?_
            rintro e w' ⟨rfl, rfl⟩
            go_wp2_with (fail)
            refine (Pt.deg_c n HNI.out.wf _).mono ?_
            rw [HD.out]
            rintro e w' ⟨rfl, rfl⟩
            go_wp2_with (fail)
            refine (lk_p _ b s (a + 1) n H.out HZ1.out).mono ?_
            rintro e w' ⟨rfl, rfl⟩
            go_wp2_with (fail)
            refine (lk_p _ b s (a + 2) 0 H.out HZ2.out).mono ?_
            rintro e w' ⟨rfl, rfl⟩
            go_wp2_with (fail)
            refine (lk_p _ b s (a + 3) 0 H.out HZ3.out).mono ?_
            rintro e w' ⟨rfl, rfl⟩
            go_wp2_with (fail)
            refine (lk_p _ b s (a + 4) 0 H.out HZ4.out).mono ?_
            rintro e w' ⟨rfl, rfl⟩
            go_wp2
            go_ret
            exact ⟨by rw [HR.out]; rfl, rfl⟩
          · replace y4 : ¬ z4 = 0 := fun h => y4 h.symm
            have HR : Hid (r = false) := hide (by rw [E.out]; simp [y4])
            have g1 : (z4 == 0) = false := by simp [y4]
            have g2 : (z4 != 0) = true := by simp [y4]
            clear y4
            go_enter Try.func104, Try.ntmps104
            go_wp2_with (fail)
            refine (lk_p _ b s _ d H.out (by first | exact HZ0.out | simpa using HZ0.out)).mono ?_
            rintro e w' ⟨rfl, rfl⟩
            go_wp2_with (fail)
            refine (Pt.deg_c n HNI.out.wf _).mono ?_
            rw [HD.out]
            rintro e w' ⟨rfl, rfl⟩
            go_wp2_with (fail)
            refine (lk_p _ b s (a + 1) n H.out HZ1.out).mono ?_
            rintro e w' ⟨rfl, rfl⟩
            go_wp2_with (fail)
            refine (lk_p _ b s (a + 2) 0 H.out HZ2.out).mono ?_
            rintro e w' ⟨rfl, rfl⟩
            go_wp2_with (fail)
            refine (lk_p _ b s (a + 3) 0 H.out HZ3.out).mono ?_
            rintro e w' ⟨rfl, rfl⟩
            go_wp2_with (fail)
            refine (lk_p _ b s (a + 4) z4 H.out HZ4.out).mono ?_
            rintro e w' ⟨rfl, rfl⟩
            go_wp2
            go_ret
            exact ⟨by rw [HR.out]; rfl, rfl⟩
        · replace y3 : ¬ z3 = 0 := fun h => y3 h.symm
          have HR : Hid (r = false) := hide (by rw [E.out]; simp [y3])
          have g1 : (z3 == 0) = false := by simp [y3]
          have g2 : (z3 != 0) = true := by simp [y3]
          clear y3
          go_enter Try.func104, Try.ntmps104
          go_wp2_with (fail)
          refine (lk_p _ b s _ d H.out (by first | exact HZ0.out | simpa using HZ0.out)).mono ?_
          rintro e w' ⟨rfl, rfl⟩
          go_wp2_with (fail)
          refine (Pt.deg_c n HNI.out.wf _).mono ?_
          rw [HD.out]
          rintro e w' ⟨rfl, rfl⟩
          go_wp2_with (fail)
          refine (lk_p _ b s (a + 1) n H.out HZ1.out).mono ?_
          rintro e w' ⟨rfl, rfl⟩
          go_wp2_with (fail)
          refine (lk_p _ b s (a + 2) 0 H.out HZ2.out).mono ?_
          rintro e w' ⟨rfl, rfl⟩
          go_wp2_with (fail)
          refine (lk_p _ b s (a + 3) z3 H.out HZ3.out).mono ?_
          rintro e w' ⟨rfl, rfl⟩
          go_wp2
          go_ret
          exact ⟨by rw [HR.out]; rfl, rfl⟩
      · replace y2 : ¬ z2 = 0 := fun h => y2 h.symm
        have HR : Hid (r = false) := hide (by rw [E.out]; simp [y2])
        have g1 : (z2 == 0) = false := by simp [y2]
        have g2 : (z2 != 0) = true := by simp [y2]
        clear y2
        go_enter Try.func104, Try.ntmps104
        go_wp2_with (fail)
        refine (lk_p _ b s _ d H.out (by first | exact HZ0.out | simpa using HZ0.out)).mono ?_
        rintro e w' ⟨rfl, rfl⟩
        go_wp2_with (fail)
        refine (Pt.deg_c n HNI.out.wf _).mono ?_
        rw [HD.out]
        rintro e w' ⟨rfl, rfl⟩
        go_wp2_with (fail)
        refine (lk_p _ b s (a + 1) n H.out HZ1.out).mono ?_
        rintro e w' ⟨rfl, rfl⟩
        go_wp2_with (fail)
        refine (lk_p _ b s (a + 2) z2 H.out HZ2.out).mono ?_
        rintro e w' ⟨rfl, rfl⟩
        go_wp2
        go_ret
        exact ⟨by rw [HR.out]; rfl, rfl⟩
    · replace y1 : ¬ z1 = n := fun h => y1 h.symm
      have HR : Hid (r = false) := hide (by rw [E.out]; simp [y1])
      have g1 : (z1 == n) = false := by simp [y1]
      have g2 : (z1 != n) = true := by simp [y1]
      clear y1
      go_enter Try.func104, Try.ntmps104
      go_wp2_with (fail)
      refine (lk_p _ b s _ d H.out (by first | exact HZ0.out | simpa using HZ0.out)).mono ?_
      rintro e w' ⟨rfl, rfl⟩
      go_wp2_with (fail)
      refine (Pt.deg_c n HNI.out.wf _).mono ?_
      rw [HD.out]
      rintro e w' ⟨rfl, rfl⟩
      go_wp2_with (fail)
      refine (lk_p _ b s (a + 1) z1 H.out HZ1.out).mono ?_
      rintro e w' ⟨rfl, rfl⟩
      go_wp2
      go_ret
      exact ⟨by rw [HR.out]; rfl, rfl⟩
  · replace y0 : ¬ z0 = d := fun h => y0 h.symm
    have HR : Hid (r = false) := hide (by rw [E.out]; simp [y0])
    have g1 : (z0 == d) = false := by simp [y0]
    have g2 : (z0 != d) = true := by simp [y0]
    clear y0
    go_enter Try.func104, Try.ntmps104
    go_wp2_with (fail)
    refine (lk_p _ b s _ z0 H.out (by first | exact HZ0.out | simpa using HZ0.out)).mono ?_
    rintro e w' ⟨rfl, rfl⟩
    go_wp2_with (fail)
    refine (Pt.deg_c n HNI.out.wf _).mono ?_
    rw [HD.out]
    rintro e w' ⟨rfl, rfl⟩
    go_wp2
    go_ret
    exact ⟨by rw [HR.out]; rfl, rfl⟩
end Go.Proofs.Ytgialpjdfeldeaa
