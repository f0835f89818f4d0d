/-
  What ordinateref1's Place, Get, Put and Del answer, of pairs in a slice that owns its row: as the lists' own place, get, put and del; nothing that lay is turned.
-/
import Derived.Test.YtfckphcbleodbaaRefA
import Derived.Test.YtfckphcbleodbaaPlainE
import Derived.Maps.AppendAt
import Derived.Laws.OwnMore
namespace Go.Proofs.Ytfckphcbleodbaa
open Go.RowKit Go.Shelf

theorem wpList_append_none {P : Program} {w : World} {ops : Array Oper} {rest : List Oper} {o : Oper} {a : Act} {Q : Exit → Act → World → Prop} (hgd : o.guard = none) (s x : Operand) (t : TypeId)
    (ho : o.op = .call { callee := .builtin .append, args := #[s, x], argTypes := #[t, t] })
    (base : Nat) (e : TypeId) (i : TypeInfo) (size : Nat) (ht : P.underlying t = some (.slice e)) (hi : P.info? e = some i)
    (v : Value) (n : Nat) (xs : List Value) (hs : a.eval s = v) (hown : w.ownsRow base e size v n xs) (hx : a.eval x = .slice none 0 0)
    (h : wpList P ops Q rest (a.put o.dst v) w) : wpList P ops Q (o :: rest) a w := by
  refine wpList_plain hgd fun K hK => ?_
  have hr := run_append_owned_none (P := P) (w := w) base t o.type e i size ht hi v n xs hown
  unfold Oper.wp execOp
  simp only [ho, resolve, invoke, builtin, Sem.run_bind, Sem.run_pure, Result.andThen_ok, List.map_toArray, List.map_cons, List.map_nil, hs, hx, hr]
  exact hK _ _ h

/-- A new row without an element. -/
theorem row_new (w : World) : (w.alloc (.cells #[] 45)).ownsRow w.heap.size 45 2 (.slice (some ⟨w.heap.size, 0, none⟩) 0 0) ([] : List (Int × Int)).length (flat []) :=
  ⟨rfl, .inr ⟨w.heap.size, 0, #[], rfl, Nat.le_refl _, World.alloc_heap_new w _, Nat.le_refl _, Nat.zero_le _, rfl, rfl⟩⟩

/-- The cells of a part of a row, where they lie. -/
theorem src_cells {w w' : World} {n₀ g cap : Nat} {xs : List (Int × Int)} (h : w.ownsRow n₀ 45 2 (.slice (some ⟨g, 0, none⟩) xs.length cap) xs.length (flat xs)) (k : Kept w w') (q m : Nat) :
    ∀ (j : Nat) (u : Value), (flat ((xs.drop q).take m))[j]? = some u → w'.cell? ((⟨g, q * 2, none⟩ : Addr).add j) = some u := by
  intro j u hu
  have hq : q ≤ xs.length := by
    by_cases hq : q ≤ xs.length
    · exact hq
    · rw [List.drop_eq_nil_of_le (by omega)] at hu
      simp [flat] at hu
  have e : flat xs = flat (xs.take q) ++ (flat ((xs.drop q).take m) ++ flat ((xs.drop q).drop m)) := by
    rw [← flat_append, List.take_append_drop, ← flat_append, List.take_append_drop]
  have hj := (List.getElem?_eq_some_iff.1 hu).1
  have l1 : (flat (xs.take q)).length = q * 2 := by rw [flat_length, List.length_take]; congr 1; omega
  have hx : (flat xs)[q * 2 + j]? = some u := by
    rw [e, List.getElem?_append_right (by omega), l1, Nat.add_sub_cancel_left, List.getElem?_append_left hj]
    exact hu
  have hlt : q * 2 + j < xs.length * 2 := by
    have := (List.getElem?_eq_some_iff.1 hx).1
    rwa [flat_length] at this
  have hc := h.cellAt (q * 2 + j) hlt
  rw [hx] at hc
  rw [Go.WideShapes.add_plain]
  exact k.cell hc id

set_option maxRecDepth 100000 in
theorem place_c (w : World) (a : Option Addr) (xs : List (Int × Int)) (cap : Nat) (k : Int) (hr : PReads w a xs) (hc : xs.length ≤ cap) (hl : xs.length ≤ 5000) :
    Calls Try.prog 42 #[.slice a xs.length cap, .int .i64 k] w fun e w' => e = .returned (.int .i64 (place xs k : Int)) ∧ w = w' := by
  have HR := Lib.hid hr
  have hpl := place_le xs k
  clear hr
  go_enter Try.func42, Try.ntmps42
  go_wp2
  go_loopw [5] (fun i wr => ∃ n : Nat, n ≤ place xs k ∧ i = .int .i64 n ∧ w = wr) (fun i _ => xs.length - (intOf i).toNat)
  case atStart => exact ⟨0, Nat.zero_le _, rfl, rfl⟩
  case round =>
    obtain ⟨n, hn, rfl, rfl⟩ := hrel
    by_cases hlt : n < xs.length
    · obtain ⟨⟨x, xv⟩, hp⟩ : ∃ p, xs[n]? = some p := ⟨_, List.getElem?_eq_getElem hlt⟩
      obtain ⟨bl, rfl, _, g1, _⟩ := HR.out.at hp
      simp only at g1
      have i3 : n < cap := by omega
      by_cases hnp : n < place xs k
      · have hx : x < k := place_below hnp hp
        clear hp
        go_wp2
        exact ⟨⟨n + 1, by omega, by simp, trivial⟩, by simp [intOf]; omega⟩
      · have e : n = place xs k := by omega
        have hx : k ≤ x := by
          rw [e] at hp
          exact place_stop hp
        have E := Lib.hid e
        clear hp e hnp
        go_wp2
        go_ret
        exact ⟨by rw [← E.out]; rfl, rfl⟩
    · have E : Hid (n = place xs k) := Lib.hid (by omega)
      go_wp2
      go_ret
      exact ⟨by rw [← E.out]; rfl, rfl⟩

/-- What is at the place, if anything. -/
theorem hit_true {xs : List (Int × Int)} {k : Int} (h : hit xs k = true) : ∃ v, xs[place xs k]? = some (k, v) ∧ place xs k < xs.length := by
  unfold hit at h
  cases hp : xs[place xs k]? with
  | none => simp [hp] at h
  | some p =>
    simp [hp] at h
    exact ⟨p.2, by rw [← h], (List.getElem?_eq_some_iff.1 hp).1⟩
theorem hit_false {xs : List (Int × Int)} {k : Int} (h : hit xs k = false) : xs.length = place xs k ∨ ∃ x v, xs[place xs k]? = some (x, v) ∧ place xs k < xs.length ∧ x ≠ k := by
  have hl := place_le xs k
  cases hp : xs[place xs k]? with
  | none =>
    rw [List.getElem?_eq_none_iff] at hp
    exact .inl (by omega)
  | some p =>
    unfold hit at h
    simp [hp] at h
    exact .inr ⟨p.1, p.2, rfl, (List.getElem?_eq_some_iff.1 hp).1, h⟩

set_option maxRecDepth 100000 in
theorem refGet_c (w : World) (a : Option Addr) (xs : List (Int × Int)) (cap : Nat) (k : Int) (hr : PReads w a xs) (hc : xs.length ≤ cap) (hl : xs.length ≤ 5000) :
    Calls Try.prog 19 #[.slice a xs.length cap, .int .i64 k] w fun e w' => e = .returned (.tuple #[.int .i64 ((get ltI xs k).getD 0), .bool (get ltI xs k).isSome]) ∧ w = w' := by
  have HP := Lib.hid (place_c w a xs cap k hr hc hl)
  have hg := get_place xs k
  cases hh : hit xs k with
  | true =>
    obtain ⟨v, hv, hlt⟩ := hit_true hh
    rw [hh, if_pos rfl, hv] at hg
    obtain ⟨bl, rfl, _, g1, g2⟩ := hr.at hv
    simp only at g1 g2
    obtain ⟨n, hn⟩ : ∃ n, place xs k = n := ⟨_, rfl⟩
    rw [hn] at HP g1 g2 hlt
    have HG : Hid (get ltI xs k = some v) := Lib.hid hg
    have i3 : n < cap := by omega
    clear hr hg hv hh hn
    go_enter Try.func19, Try.ntmps19
    go_wp2_with (fail)
    refine HP.out.mono ?_
    rintro e w' ⟨rfl, rfl⟩
    go_wp2
    go_ret2
    exact ⟨by rw [HG.out]; rfl, rfl⟩
  | false =>
    rw [hh, if_neg (by simp)] at hg
    have HG : Hid (get ltI xs k = none) := Lib.hid hg
    rcases hit_false hh with he | ⟨x, v, hv, hlt, hne⟩
    · rw [← he] at HP
      clear hr hg hh he
      go_enter Try.func19, Try.ntmps19
      go_wp2_with (fail)
      refine HP.out.mono ?_
      rintro e w' ⟨rfl, rfl⟩
      go_wp2
      go_ret2
      exact ⟨by rw [HG.out]; rfl, rfl⟩
    · obtain ⟨bl, rfl, _, g1, g2⟩ := hr.at hv
      simp only at g1 g2
      obtain ⟨n, hn⟩ : ∃ n, place xs k = n := ⟨_, rfl⟩
      rw [hn] at HP g1 g2 hlt
      have i3 : n < cap := by omega
      have hx : (x == k) = false := by simp only [beq_eq_false_iff_ne, ne_eq]; exact hne
      clear hr hg hv hh hn hne
      go_enter Try.func19, Try.ntmps19
      go_wp2_with (fail)
      refine HP.out.mono ?_
      rintro e w' ⟨rfl, rfl⟩
      go_wp2
      go_ret2
      exact ⟨by rw [HG.out]; rfl, rfl⟩
end Go.Proofs.Ytfckphcbleodbaa
