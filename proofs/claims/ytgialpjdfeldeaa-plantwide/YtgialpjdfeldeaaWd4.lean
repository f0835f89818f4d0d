/-
  What the proof of YtgialpjdfeldeaaPlantWideProof goes by, part 4 of 6: contracts and plain facts; each part begins with its own sentence. No conditions beyond each theorem's own.
-/
import Derived.Test.YtgialpjdfeldeaaWd3
import Derived.Test.YtgialpjdfeldeaaRows
import Derived.Laws.OwnMore
import Derived.Maps.OwnIn
import Derived.Maps.AppendAt
import Derived.BigQuiet
import Derived.Deep.QuietTactic
import Derived.Laws.MakeOwn
import Derived.RegionTactic
import Derived.Deep.OwnRows
/-! Slices of pairs of numbers (api.Spot, api.Pair): how they read ('PReads'), rows of one's own ('PRow'), appends to them, a box that holds one ('Pst', 'Coll'). -/
namespace Go.Proofs.Ytgialpjdfeldeaa
open Go.RowKit

/-- The cells of pairs, one behind the other. -/
def flat : List (Int × Int) → List Value
  | [] => []
  | p :: xs => .int .i64 p.1 :: .int .i64 p.2 :: flat xs
theorem flat_append : (xs ys : List (Int × Int)) → flat (xs ++ ys) = flat xs ++ flat ys
  | [], _ => rfl
  | p :: xs, ys => by simp [flat, flat_append xs ys]
theorem flat_length : (xs : List (Int × Int)) → (flat xs).length = xs.length * 2
  | [] => rfl
  | p :: xs => by simp [flat, flat_length xs]; omega
theorem flat_at : {xs : List (Int × Int)} → {j : Nat} → {p : Int × Int} → xs[j]? = some p → (flat xs)[j * 2]? = some (.int .i64 p.1) ∧ (flat xs)[j * 2 + 1]? = some (.int .i64 p.2)
  | x :: xs, 0, p, h => by
    obtain rfl : x = p := by simpa using h
    exact ⟨rfl, rfl⟩
  | x :: xs, j + 1, p, h => by
    have := flat_at (xs := xs) (j := j) (p := p) (by simpa using h)
    rw [show (j + 1) * 2 = j * 2 + 1 + 1 by omega]
    simpa [flat] using this
theorem flat_of : {xs : List (Int × Int)} → {j : Nat} → {u : Value} → (flat xs)[j]? = some u → ∃ i p, xs[i]? = some p ∧ ((j = i * 2 ∧ u = .int .i64 p.1) ∨ (j = i * 2 + 1 ∧ u = .int .i64 p.2))
  | x :: _, 0, u, h => ⟨0, x, rfl, .inl ⟨rfl, by simpa [flat] using h.symm⟩⟩
  | x :: _, 1, u, h => ⟨0, x, rfl, .inr ⟨rfl, by simpa [flat] using h.symm⟩⟩
  | x :: xs, j + 2, u, h => by
    obtain ⟨i, p, h1, h2⟩ := flat_of (xs := xs) (j := j) (u := u) (by simpa [flat] using h)
    refine ⟨i + 1, p, by simpa using h1, ?_⟩
    rcases h2 with ⟨e, h⟩ | ⟨e, h⟩
    · exact .inl ⟨by omega, h⟩
    · exact .inr ⟨by omega, h⟩
theorem flat_one : (xs : List (Int × Int)) → ∀ u ∈ flat xs, u.oneCell' = true
  | [] => by simp [flat]
  | p :: xs => by
    intro u hu
    simp only [flat, List.mem_cons] at hu
    rcases hu with rfl | rfl | hu
    · rfl
    · rfl
    · exact flat_one xs u hu

/-- A slice value that reads as these pairs. -/
def PReads (w : World) (a : Option Addr) (xs : List (Int × Int)) : Prop :=
  xs = [] ∨ ∃ bl off, a = some ⟨bl, off, none⟩ ∧ ∀ j p, xs[j]? = some p → w.cell? ⟨bl, off + j * 2, none⟩ = some (.int .i64 p.1) ∧ w.cell? ⟨bl, off + (j * 2 + 1), none⟩ = some (.int .i64 p.2)
theorem PReads.turned {w w' : World} {a : Option Addr} {xs : List (Int × Int)} (h : PReads w a xs) {R : Nat → Prop} (ht : Turned R w w') (hR : ∀ k, k < w.heap.size → (∃ ad, a = some ad ∧ ad.block = k) → ¬ R k) : PReads w' a xs := by
  rcases h with h | ⟨bl, off, rfl, h⟩
  · exact .inl h
  · refine .inr ⟨bl, off, rfl, fun j p hp => ?_⟩
    have hc := h j p hp
    have hn := hR bl (World.block_lt_of_cell? _ _ hc.1) ⟨_, rfl, rfl⟩
    exact ⟨ht.cell hc.1 hn, ht.cell hc.2 hn⟩
theorem PReads.kept {w w' : World} {a : Option Addr} {xs : List (Int × Int)} (h : PReads w a xs) (ht : Kept w w') : PReads w' a xs := h.turned ht (fun _ _ _ e => e)
theorem PReads.at {w : World} {a : Option Addr} {xs : List (Int × Int)} (h : PReads w a xs) {j : Nat} {p : Int × Int} (hp : xs[j]? = some p) : ∃ bl off, a = some ⟨bl, off, none⟩ ∧ bl < w.heap.size ∧ w.cell? ⟨bl, off + j * 2, none⟩ = some (.int .i64 p.1) ∧ w.cell? ⟨bl, off + (j * 2 + 1), none⟩ = some (.int .i64 p.2) := by
  rcases h with h | ⟨bl, off, ha, hc⟩
  · rw [h] at hp
    simp at hp
  · exact ⟨bl, off, ha, World.block_lt_of_cell? _ _ (hc j p hp).1, hc j p hp⟩
theorem PReads.news {w : World} {bl off : Nat} {xs : List (Int × Int)} (h : ∀ j p, xs[j]? = some p → w.cell? ⟨bl, off + j * 2, none⟩ = some (.int .i64 p.1) ∧ w.cell? ⟨bl, off + (j * 2 + 1), none⟩ = some (.int .i64 p.2)) :
    ∀ (j : Nat) (u : Value), (flat xs)[j]? = some u → w.cell? ((⟨bl, off, none⟩ : Addr).add j) = some u := by
  intro j u hu
  obtain ⟨i, p, h1, ⟨rfl, rfl⟩ | ⟨rfl, rfl⟩⟩ := flat_of hu
  · rcases i with _ | i
    · simpa [Addr.add] using (h 0 p h1).1
    · exact (h (i + 1) p h1).1
  · exact (h i p h1).2

/-- A slice of pairs that owns its row, from n₀ on. -/
abbrev PRow (w : World) (n₀ : Nat) (E : TypeId) (v : Value) (xs : List (Int × Int)) : Prop := w.ownsRow n₀ E 2 v xs.length (flat xs)
theorem PRow.reads {w : World} {n₀ : Nat} {E : TypeId} {v : Value} {xs : List (Int × Int)} (h : PRow w n₀ E v xs) : ∃ a cap, v = .slice a xs.length cap ∧ PReads w a xs ∧ xs.length ≤ cap ∧ cap ≤ maxLen ∧ (a = none → cap = 0) ∧ ∀ ad, a = some ad → n₀ ≤ ad.block := by
  rcases h.2 with ⟨rfl, h0⟩ | ⟨g, cap, cur, rfl, hg, _, hc, hm, _⟩
  · obtain rfl := List.length_eq_zero_iff.1 h0
    exact ⟨none, 0, rfl, .inl rfl, Nat.le_refl _, Nat.zero_le _, fun _ => rfl, fun _ e => by cases e⟩
  · refine ⟨_, cap, rfl, .inr ⟨g, 0, rfl, fun j p hp => ?_⟩, hc, hm, fun e => (by cases e), fun ad e => by cases e; exact hg⟩
    have hj := (List.getElem?_eq_some_iff.1 hp).1
    rw [Nat.zero_add, Nat.zero_add, h.cellAt (j * 2) (by omega), h.cellAt (j * 2 + 1) (by omega)]
    exact flat_at hp
theorem PRow.turned {w w' : World} {n₀ : Nat} {E : TypeId} {v : Value} {xs : List (Int × Int)} (h : PRow w n₀ E v xs) {R : Nat → Prop} (ht : Turned R w w') (hn : ∀ g, v.ownBlock = some g → ¬ R g) : PRow w' n₀ E v xs := by
  obtain ⟨h1, h2⟩ := h
  refine ⟨h1, ?_⟩
  rcases h2 with h2 | ⟨g, cap, cur, rfl, hg, hh, r⟩
  · exact .inl h2
  · exact .inr ⟨g, cap, cur, rfl, hg, ht.heap hh (hn g rfl), r⟩
theorem PRow.kept {w w' : World} {n₀ : Nat} {E : TypeId} {v : Value} {xs : List (Int × Int)} (h : PRow w n₀ E v xs) (ht : Kept w w') : PRow w' n₀ E v xs := h.turned ht (fun _ _ e => e)
theorem PRow.low {w : World} {n₀ m : Nat} {E : TypeId} {v : Value} {xs : List (Int × Int)} (h : PRow w n₀ E v xs) (hm : m ≤ n₀) : PRow w m E v xs := by
  obtain ⟨h1, h2⟩ := h
  refine ⟨h1, ?_⟩
  rcases h2 with h2 | ⟨g, cap, cur, rfl, hg, r⟩
  · exact .inl h2
  · exact .inr ⟨g, cap, cur, rfl, Nat.le_trans hm hg, r⟩
theorem PRow.nil (w : World) (n₀ : Nat) (E : TypeId) : PRow w n₀ E (.slice none 0 0) [] := ⟨rfl, .inl ⟨rfl, rfl⟩⟩

/-- The type of a slice, S, and of its elements, E: pairs of numbers. -/
structure PT (S E : TypeId) : Prop where
  under : Try.prog.underlying S = some (.slice E)
  info : (Try.prog.info? E).map (fun i => (i.zero, i.size, i.bytes)) = some (some (.agg #[.int .i64 0, .int .i64 0]), 2, 16)
theorem ptP : PT 31 30 := ⟨Try.underlying31, by kernel_rfl⟩

/-- Two cells of a new block. -/
theorem two_cells {w : World} {m : Nat} {x y : Int} {E : TypeId} (h : w.heap[m]? = some (.cells #[.int .i64 x, .int .i64 y] E)) : ∀ (j : Nat) (u : Value), (flat [(x, y)])[j]? = some u → w.cell? ((⟨m, 0, none⟩ : Addr).add j) = some u := by
  refine PReads.news (fun j p hp => ?_)
  rcases j with _ | j
  · simp at hp
    subst hp
    simp [World.cell?, h]
  · simp at hp

section
variable {S E : TypeId} {w : World} {ops : Array Oper} {rest : List Oper} {o : Oper} {a : Act} {Q : Exit → Act → World → Prop}
/-- append of one pair. -/
theorem wpList_append_pair (pt : PT S E) (hgd : o.guard = none) (s x : Operand) (ho : o.op = .call { callee := .builtin .append, args := #[s, x], argTypes := #[S, S] })
    (base : Nat) (v : Value) (xs ys : List (Int × Int)) (hs : a.eval s = v) (hown : PRow w base E v xs) (m : Nat) (p q : Int) (hx : a.eval x = .slice (some ⟨m, 0, none⟩) 1 1) (hc : w.heap[m]? = some (.cells #[.int .i64 p, .int .i64 q] E))
    (hl : xs.length ≤ 1000000) (hbase : base ≤ w.heap.size) (hy : ys = xs ++ [(p, q)])
    (h : ∀ v' w', PRow w' base E v' ys → w.grownBy w' v.ownBlock → (v'.ownBlock = v.ownBlock ∨ v'.ownBlock = some w.heap.size) → wpList Try.prog ops Q rest (a.put o.dst v') w') : wpList Try.prog ops Q (o :: rest) a w := by
  obtain ⟨i0, hi, hz0, hz1, hz2⟩ := info_parts pt.info
  refine wpList_append_own_at w hgd s x S ho base E i0 _ 2 16 pt.under hi hz0 hz1 hz2 rfl (by decide) v xs.length (flat xs) hs hown ⟨m, 0, none⟩ 1 1 (flat [(p, q)]) hx rfl (two_cells hc) (flat_one _) (by unfold maxLen; omega) (by omega) hbase ?_
  intro v' w' h1 h2 _ h4
  refine h v' w' ?_ h2 h4
  rw [hy]
  show World.ownsRow _ _ _ _ _ (xs ++ [(p, q)]).length (flat (xs ++ [(p, q)]))
  rw [List.length_append, flat_append]
  exact h1
theorem wpListIn_append_pair {F : Fence} {nF : Nat} (pt : PT S E) (hgd : o.guard = none) (s x : Operand) (ho : o.op = .call { callee := .builtin .append, args := #[s, x], argTypes := #[S, S] })
    (base : Nat) (v : Value) (xs ys : List (Int × Int)) (hs : a.eval s = v) (hown : PRow w base E v xs) (m : Nat) (p q : Int) (hx : a.eval x = .slice (some ⟨m, 0, none⟩) 1 1) (hc : w.heap[m]? = some (.cells #[.int .i64 p, .int .i64 q] E))
    (hl : xs.length ≤ 1000000) (hbase : base ≤ w.heap.size) (hy : ys = xs ++ [(p, q)])
    (h : ∀ v' w', PRow w' base E v' ys → w.grownBy w' v.ownBlock → (v'.ownBlock = v.ownBlock ∨ v'.ownBlock = some w.heap.size) → wpListIn F nF Try.prog ops Q rest (a.put o.dst v') w') : wpListIn F nF Try.prog ops Q (o :: rest) a w := by
  obtain ⟨i0, hi, hz0, hz1, hz2⟩ := info_parts pt.info
  refine wpListIn_append_own_at w hgd s x S ho base E i0 _ 2 16 pt.under hi hz0 hz1 hz2 rfl (by decide) v xs.length (flat xs) hs hown ⟨m, 0, none⟩ 1 1 (flat [(p, q)]) hx rfl (two_cells hc) (flat_one _) (by unfold maxLen; omega) (by omega) hbase ?_
  intro v' w' h1 h2 _ h4
  refine h v' w' ?_ h2 h4
  rw [hy]
  show World.ownsRow _ _ _ _ _ (xs ++ [(p, q)]).length (flat (xs ++ [(p, q)]))
  rw [List.length_append, flat_append]
  exact h1
/-- append of a slice of pairs. -/
theorem wpList_append_pairs (pt : PT S E) (hgd : o.guard = none) (s x : Operand) (ho : o.op = .call { callee := .builtin .append, args := #[s, x], argTypes := #[S, S] })
    (base : Nat) (v : Value) (xs zs ys : List (Int × Int)) (hs : a.eval s = v) (hown : PRow w base E v xs) (aw : Option Addr) (M cw : Nat) (hM : zs.length = M) (hx : a.eval x = .slice aw M cw) (hr : PReads w aw zs) (h0 : aw = none → cw = 0)
    (hl : xs.length + zs.length ≤ 1000000) (hbase : base ≤ w.heap.size) (hy : ys = xs ++ zs)
    (h : ∀ v' w', PRow w' base E v' ys → w.grownBy w' v.ownBlock → (v'.ownBlock = v.ownBlock ∨ v'.ownBlock = some w.heap.size) → wpList Try.prog ops Q rest (a.put o.dst v') w') : wpList Try.prog ops Q (o :: rest) a w := by
  obtain ⟨i0, hi, hz0, hz1, hz2⟩ := info_parts pt.info
  have fin : ∀ v' w', w'.ownsRow base E 2 v' (xs.length + zs.length) (flat xs ++ flat zs) → PRow w' base E v' ys := fun v' w' h1 => by
    rw [hy]
    show World.ownsRow _ _ _ _ _ (xs ++ zs).length (flat (xs ++ zs))
    rw [List.length_append, flat_append]
    exact h1
  subst hM
  cases aw with
  | none =>
    have e0 : zs = [] := by
      rcases hr with e | ⟨_, _, e, _⟩
      · exact e
      · cases e
    subst e0
    obtain rfl := h0 rfl
    refine wpList_plain hgd fun K hK => ?_
    have hrun := run_append_owned_none (P := Try.prog) (w := w) base S o.type E i0 2 pt.under hi v xs.length (flat xs) hown
    unfold Oper.wp execOp
    simp only [ho, resolve, invoke, builtin, Sem.run_bind, Sem.run_pure, Result.andThen_ok, List.map_toArray, List.map_cons, List.map_nil, hs, hx, List.length_nil, hrun]
    exact hK _ _ (h v w (by rw [hy, List.append_nil]; exact hown) (World.grownBy.refl _ _) (.inl rfl))
  | some ad =>
    by_cases e0 : zs = []
    · subst e0
      exact wpList_append_own_at w hgd s x S ho base E i0 _ 2 16 pt.under hi hz0 hz1 hz2 rfl (by decide) v xs.length (flat xs) hs hown ad 0 cw [] hx rfl (by simp) (by simp) (by simp at hl; unfold maxLen; omega) (by simp at hl; omega) hbase (fun v' w' h1 h2 _ h4 => h v' w' (fin v' w' (by simpa [flat] using h1)) h2 h4)
    · obtain ⟨bl, off, e, hrow⟩ : ∃ bl off, some ad = some ⟨bl, off, none⟩ ∧ ∀ j p, zs[j]? = some p → w.cell? ⟨bl, off + j * 2, none⟩ = some (.int .i64 p.1) ∧ w.cell? ⟨bl, off + (j * 2 + 1), none⟩ = some (.int .i64 p.2) := by
        rcases hr with e | h
        · exact (e0 e).elim
        · exact h
      obtain rfl : ad = ⟨bl, off, none⟩ := Option.some.inj e
      exact wpList_append_own_at w hgd s x S ho base E i0 _ 2 16 pt.under hi hz0 hz1 hz2 rfl (by decide) v xs.length (flat xs) hs hown ⟨bl, off, none⟩ zs.length cw (flat zs) hx (flat_length _) (PReads.news hrow) (flat_one _) (by unfold maxLen; omega) (by omega) hbase (fun v' w' h1 h2 _ h4 => h v' w' (fin v' w' h1) h2 h4)
end
/-- Behind an append to a row that is new since w0, what lay at w0 lies as it lay. -/
theorem pkept_append {w0 w w1 : World} {E : TypeId} {v : Value} {xs : List (Int × Int)} (k : Kept w0 w) (hr : PRow w w0.heap.size E v xs) (hg : w.grownBy w1 v.ownBlock) : Kept w0 w1 :=
  k.own (O := fun j => v.ownBlock = some j) (fun i e => (hr.lt i e).1) (Turned.of_grownBy (R := fun j => v.ownBlock = some j) hg (fun _ h => h))

/-- A box at b that holds a slice of pairs, which owns its row; all from n₀ on. -/
structure Pst (S E : TypeId) (w : World) (n₀ b : Nat) (v : Value) (xs : List (Int × Int)) : Prop where
  le : n₀ ≤ b
  box : Boxed w b S v
  row : PRow w n₀ E v xs
namespace Pst
variable {S E : TypeId} {w w' : World} {n₀ b : Nat} {v : Value} {xs : List (Int × Int)}
theorem turned (h : Pst S E w n₀ b v xs) {R : Nat → Prop} (ht : Turned R w w') (hn : ∀ k, Foot b v k → ¬ R k) : Pst S E w' n₀ b v xs :=
  ⟨h.le, ht.boxed h.box (hn b (.inl rfl)), h.row.turned ht (fun g hg => hn g (.inr hg))⟩
theorem kept (h : Pst S E w n₀ b v xs) (ht : Kept w w') : Pst S E w' n₀ b v xs := h.turned ht (fun _ _ e => e)
theorem lt (h : Pst S E w n₀ b v xs) : ∀ k, Foot b v k → n₀ ≤ k ∧ k < w.heap.size := by
  rintro k (rfl | hk)
  · exact ⟨h.le, h.box.lt⟩
  · exact h.row.lt k hk
end Pst
/-- What collecting one more leaves. -/
def Grew (S E : TypeId) (n₀ b : Nat) (v : Value) (ys : List (Int × Int)) (w w' : World) : Prop :=
  ∃ v', Pst S E w' n₀ b v' ys ∧ Turned (Foot b v) w w' ∧ ∀ k, Foot b v' k → Foot b v k ∨ w.heap.size ≤ k
theorem grew_of {S E : TypeId} {w w1 : World} {n₀ b : Nat} {v v' : Value} {xs ys : List (Int × Int)} {tmp : Obj} (hSE : S ≠ E) (hn : n₀ ≤ w.heap.size) (h : Pst S E w n₀ b v xs)
    (hown : PRow w1 n₀ E v' ys) (hgrow : (w.alloc tmp).grownBy w1 v.ownBlock) (hnew : v'.ownBlock = v.ownBlock ∨ v'.ownBlock = some (w.alloc tmp).heap.size) :
    Boxed w1 b S v ∧ Grew S E n₀ b v ys w (w1.setCell ⟨b, 0, none⟩ v') := by
  obtain ⟨hv1, hv2, hr2, hk2, hb2⟩ := h.box.appended hSE h.row hn h.le hown hgrow
  refine ⟨hv1, v', ⟨h.le, hv2, hr2⟩, ?_, ?_⟩
  · have h1 : Turned (Foot b v) w (w.alloc tmp) := Turned.alloc _ _ _
    have h2 : Turned (Foot b v) (w.alloc tmp) w1 := Turned.of_grownBy hgrow (fun k hk => .inr hk)
    have h3 : Turned (Foot b v) w1 (w1.setCell ⟨b, 0, none⟩ v') := Turned.setCell _ _ _ (.inl rfl)
    exact (h1.trans h2 (fun _ h => h) (fun _ _ h => h)).trans h3 (fun _ h => h) (fun _ _ h => h)
  · rintro k (rfl | hk)
    · exact .inl (.inl rfl)
    · rcases hnew with e | e
      · exact .inl (.inr (by rw [← e]; exact hk))
      · right
        rw [e] at hk
        simp at hk
        omega
/-- The invariant of a loop that collects pairs in a box at b. -/
def Coll (S E : TypeId) (n₀ b : Nat) (f : List (Int × Int) → List (Int × Int)) : Inv (Int × Int) := fun O pre A => ∃ v, (∀ j, O j ↔ Foot b v j) ∧ Pst S E A n₀ b v (f pre)
theorem Coll.good (S E : TypeId) (n₀ b : Nat) (f : List (Int × Int) → List (Int × Int)) : Good (Coll S E n₀ b f) := by
  constructor
  · rintro O pre A B ⟨v, hO, hp⟩ ht
    exact ⟨v, hO, hp.turned ht (fun k hk hn => hn ((hO k).2 hk))⟩
  · rintro O pre A ⟨v, hO, hp⟩ k hk
    exact (hp.lt k ((hO k).1 hk)).2
/-- One more has come. -/
theorem Coll.next {S E : TypeId} {n₀ b : Nat} {f : List (Int × Int) → List (Int × Int)} {O : Nat → Prop} {pre ys : List (Int × Int)} {v : Value} {A A' : World} (hO : ∀ j, O j ↔ Foot b v j) (h : Grew S E n₀ b v ys A A') (e : f pre = ys) :
    ∃ O', Sub O' O A.heap.size ∧ Turned O A A' ∧ Coll S E n₀ b f O' pre A' := by
  obtain ⟨v', hp, ht, hs⟩ := h
  refine ⟨Foot b v', fun k hk => (hs k hk).imp (fun h => (hO k).2 h) id, ht.mono (fun k _ hk => (hO k).2 hk), v', fun _ => Iff.rfl, by rw [e]; exact hp⟩
theorem good_false {α : Type} : Good (fun (_ : Nat → Prop) (_ : List α) (_ : World) => False) := ⟨fun _ _ _ _ h _ => h, fun _ _ _ h => h.elim⟩
end Go.Proofs.Ytgialpjdfeldeaa

/-! The program's Spots (slices.Collect of spots), appendLeaf, pairsBelow, Content. -/
namespace Go.Proofs.Ytgialpjdfeldeaa
open Go.RowKit Go.Shelf

attribute [local go_sem] Oper.semAt_some

/-- A new slice of these pairs. -/
def PSliced (E : TypeId) (xs : List (Int × Int)) (w : World) (e : Ending) (w' : World) : Prop := ∃ v, e = .returned v ∧ PRow w' w.heap.size E v xs ∧ Kept w w'

end Go.Proofs.Ytgialpjdfeldeaa

/-! The program's appendLeaf, pairsBelow, Content. -/
namespace Go.Proofs.Ytgialpjdfeldeaa
open Go.RowKit Go.Shelf

attribute [local go_sem] Oper.semAt_some

/-- The pair of a word, if it is a Leaf's. -/
def leafL (s : Mst) (x : Int) : List (Int × Int) := if kd x = 2 then [(s.look (ad x), s.look (ad x + 1))] else []
theorem leafL_len (s : Mst) (x : Int) : (leafL s x).length ≤ 1 := by unfold leafL; split <;> simp
/-- What lies below a word. -/
def pairsF (s : Mst) (f : Nat) (x : Int) : List (Int × Int) := leafL s x ++ (spotsF s f x).flatMap (fun p => leafL s p.2)
def contentB (s : Mst) (x : Int) : List (Int × Int) := if inTreeB s x = true then pairsF s (fuel s) x else []
theorem leaves_len (s : Mst) (L : List (Int × Int)) : (L.flatMap (fun p => leafL s p.2)).length ≤ L.length := by
  induction L with
  | nil => simp
  | cons p L ih =>
    have := leafL_len s p.2
    rw [List.flatMap_cons, List.length_append, List.length_cons]
    omega

/-- What an append of a Leaf's pair leaves. -/
def AppPost (W : World) (n₀ : Nat) (v : Value) (ys : List (Int × Int)) (e : Ending) (W' : World) : Prop :=
  ∃ v', e = .returned v' ∧ PRow W' n₀ 30 v' ys ∧ Turned (fun k => v.ownBlock = some k) W W' ∧ (v'.ownBlock = v.ownBlock ∨ ∃ k, v'.ownBlock = some k ∧ W.heap.size ≤ k)
theorem appendLeaf_p (W : World) (b : Nat) (s : Mst) (x : Int) (n₀ : Nat) (v : Value) (xs ys : List (Int × Int)) (h : PM W b s) (hx : I64 x) (hr : PRow W n₀ 30 v xs) (hl : xs.length ≤ 1000000) (hn : n₀ ≤ W.heap.size) (e1 : ys = xs ++ leafL s x) :
    Calls Try.prog 95 #[v, .pointer (some ⟨b, 0, none⟩), .int .i64 x] W (AppPost W n₀ v ys) := by
  have H := hide h
  have HX := hide hx
  have HR := hide hr
  have HL := hide hl
  have HN := hide hn
  obtain ⟨k, hk⟩ : ∃ k, kd x = k := ⟨_, rfl⟩
  obtain ⟨p, hp⟩ : ∃ p, ad x = p := ⟨_, rfl⟩
  have pr := ad_range x
  rw [hp] at pr
  obtain ⟨p0, p1⟩ := pr
  have HK := hide hk
  have HP := hide hp
  obtain ⟨la, lc, hv, _⟩ := hr.reads
  obtain ⟨M, hM⟩ : ∃ M, xs.length = M := ⟨_, rfl⟩
  rw [hM] at hv
  by_cases k2 : k = 2
  · obtain ⟨z, hz⟩ : ∃ z, s.look p = z := ⟨_, rfl⟩
    obtain ⟨u, hu⟩ : ∃ u, s.look (p + 1) = u := ⟨_, rfl⟩
    have HZ := hide hz
    have HU := hide hu
    have HE : Hid (ys = xs ++ [(z, u)]) := hide (by rw [e1, leafL, if_pos (by rw [hk]; exact k2), hp, hz, hu])
    subst hv k2
    clear h hx hr hl hn hk hp e1 hM hz hu
    go_enter Try.func95, Try.ntmps95
    go_wp2_with (fail)
    refine (kk_p _ x 2 HX.out HK.out).mono ?_
    rintro e w' ⟨rfl, rfl⟩
    go_wp2_with (fail)
    refine (ak_p _ x p HX.out HP.out).mono ?_
    rintro e w' ⟨rfl, rfl⟩
    go_wp2_with (fail)
    refine (lk_p _ b s _ z H.out (by first | exact HZ.out | simpa using HZ.out)).mono ?_
    rintro e w' ⟨rfl, rfl⟩
    go_wp2_with (fail)
    refine (lk_p _ b s (p + 1) u H.out HU.out).mono ?_
    rintro e w' ⟨rfl, rfl⟩
    go_wp2_with (at_builtin; refine Stop.out ?_)
    refine ⟨?_⟩
    have HRA := hide (HR.out.kept (Kept.alloc (Kept.refl W) (.cells #[.int .i64 z, .int .i64 u] 30)))
    have HNW : Hid ((W.alloc (.cells #[.int .i64 z, .int .i64 u] 30)).heap[W.heap.size]? = some (.cells #[.int .i64 z, .int .i64 u] 30)) := hide (heap_new _ _)
    refine wpList_append_pair ptP rfl _ _ rfl n₀ _ xs ys rfl HRA.out W.heap.size z u rfl HNW.out HL.out (by have := HN.out; simp; omega) HE.out ?_
    intro v1 W1 hown hg hat
    have T1 : Hid (Turned (fun k => (Value.slice la M lc).ownBlock = some k) W W1) := hide ((Turned.alloc (fun _ => False) W _).trans (Turned.of_grownBy (R := fun k => (Value.slice la M lc).ownBlock = some k) hg (fun _ h => h)) (fun _ h => h.elim) (fun _ _ h => h))
    have HR1 := hide hown
    have HAT : Hid (v1.ownBlock = (Value.slice la M lc).ownBlock ∨ ∃ k, v1.ownBlock = some k ∧ W.heap.size ≤ k) := hide (by
      rcases hat with h | h
      · exact .inl h
      · exact .inr ⟨_, h, by simp⟩)
    clear hown hg hat HRA HNW
    go_wp2
    go_ret
    exact ⟨_, rfl, HR1.out, T1.out, HAT.out⟩
  · have HE : Hid (ys = xs) := hide (by rw [e1, leafL, if_neg (by rw [hk]; exact k2), List.append_nil])
    have g1 : (k == 2) = false := by simp [k2]
    have g2 : (k != 2) = true := by simp [k2]
    subst hv
    clear h hx hr hl hn hk hp e1 hM k2
    go_enter Try.func95, Try.ntmps95
    go_wp2_with (fail)
    refine (kk_p _ x k HX.out HK.out).mono ?_
    rintro e w' ⟨rfl, rfl⟩
    go_wp2
    go_ret
    exact ⟨_, rfl, by rw [HE.out]; exact HR.out, Turned.refl _ _, .inl rfl⟩

/-- What a box with a slice of pairs is, once another slice is laid there. -/
theorem grew_set {W W' : World} {n₀ b : Nat} {v v' : Value} {xs ys : List (Int × Int)} (h : Pst 31 30 W n₀ b v xs) (hr : PRow W' n₀ 30 v' ys) (ht : Turned (fun k => v.ownBlock = some k) W W') (hnew : v'.ownBlock = v.ownBlock ∨ ∃ k, v'.ownBlock = some k ∧ W.heap.size ≤ k) :
    Boxed W' b 31 v ∧ Grew 31 30 n₀ b v ys W (W'.setCell ⟨b, 0, none⟩ v') := by
  have nb : v.ownBlock ≠ some b := by
    intro e
    rcases h.row.2 with ⟨rfl, _⟩ | ⟨g, cap, cur, rfl, _, hg, _⟩
    · simp [Value.ownBlock] at e
    · obtain rfl : g = b := by simpa [Value.ownBlock] using e
      have := (show W.heap[g]? = _ from h.box).symm.trans hg
      simp at this
  have nb' : v'.ownBlock ≠ some b := by
    rcases hnew with e | ⟨k, e, hk⟩
    · rw [e]; exact nb
    · rw [e]
      have := h.box.lt
      intro e'
      cases e'
      omega
  have hb : Boxed W' b 31 v := ht.boxed h.box (fun e => nb e)
  have tS : Turned (fun k => k = b) W' (W'.setCell ⟨b, 0, none⟩ v') := Turned.setCell _ _ _ rfl
  refine ⟨hb, v', ⟨h.le, hb.set v', hr.turned tS (fun g hg e => nb' (by rw [hg, e]))⟩, ?_, ?_⟩
  · exact (ht.mono (fun k _ e => .inr e)).trans tS (fun _ e => e) (fun k _ e => .inl e)
  · rintro k (rfl | hk)
    · exact .inl (.inl rfl)
    · rcases hnew with e | ⟨j, e, hj⟩
      · exact .inl (.inr (by rw [← e]; exact hk))
      · rw [e] at hk
        cases hk
        exact .inr hj

set_option maxHeartbeats 1000000 in
theorem pairsBelow_p (w : World) (b : Nat) (s : Mst) (h : PM w b s) (ho : s.ok) (f : Nat) (x : Int) (hw : Wf s f x) (hl : (spotsF s f x).length ≤ 70000) (zs : List (Int × Int)) (e1 : pairsF s f x = zs) :
    Calls Try.prog 64 #[.pointer (some ⟨b, 0, none⟩), .int .i64 x] w (PSliced 30 zs w) := by
  obtain ⟨n, hn⟩ : ∃ n, w.heap.size = n := ⟨_, rfl⟩
  obtain ⟨W1, hW1⟩ : ∃ W1, w.alloc (.cells #[.pointer (some ⟨b, 0, none⟩)] 22) = W1 := ⟨_, rfl⟩
  have t1 : Kept w W1 := by rw [← hW1]; exact (Kept.refl w).alloc _
  have z1 : W1.heap.size = n + 1 := by rw [← hW1]; simp [hn]
  have bM : Boxed W1 n 22 (.pointer (some ⟨b, 0, none⟩)) := by rw [← hW1, ← hn]; exact Boxed.new w 22 _
  have K1 := hide t1
  have BM := hide bM
  have c0 := bM.cell
  have H := hide h
  have HO := hide ho
  have HW := hide hw
  have HX := hide (hw.pos.elim fun _ h => h.2.1.i64)
  have HL := hide hl
  have HN := hide hn
  have Z1 := hide z1
  have HE := hide e1
  clear t1 bM h ho hw hl e1 z1
  refine calls_marks Try.func64 rfl ?_
  simp only [Try.ntmps64, List.size_toArray, List.length_cons, List.length_nil, Nat.reduceAdd, Nat.reduceSub, Array.replicate_succ, Array.replicate_zero, List.push_toArray, List.append_toArray, List.nil_append, List.cons_append]
  go_wp2_with (fail)
  clear hW1 hn
  refine (appendLeaf_p W1 b s x n (.slice none 0 0) [] (leafL s x) (H.out.kept K1.out) HX.out (PRow.nil _ _ _) (by simp) (by have := Z1.out; omega) rfl).mono ?_
  rintro e W2 ⟨v2, rfl, r2, t2, _⟩
  have k2 : Kept W1 W2 := t2.mono (fun k _ e => by simp [Value.ownBlock] at e)
  obtain ⟨la, lc, hv, _⟩ := r2.reads
  obtain ⟨M, hM⟩ : ∃ M, (leafL s x).length = M := ⟨_, rfl⟩
  rw [hM] at hv
  subst hv
  clear hM
  obtain ⟨W3, hW3⟩ : ∃ W3, W2.alloc (.cells #[.slice la M lc] 31) = W3 := ⟨_, rfl⟩
  obtain ⟨m, hm⟩ : ∃ m, W2.heap.size = m := ⟨_, rfl⟩
  have t3 : Kept W2 W3 := by rw [← hW3]; exact (Kept.refl W2).alloc _
  have P3 : Hid (Pst 31 30 W3 n m (.slice la M lc) (leafL s x)) := hide ⟨by have := k2.size; have := Z1.out; omega, by rw [← hW3, ← hm]; exact Boxed.new W2 31 _, r2.kept t3⟩
  have K3 := hide (K1.out.trans (k2.trans t3))
  have BM3 := hide ((k2.trans t3).boxed BM.out id)
  have c0' := BM3.out.cell
  have Z3 : Hid (n + 1 ≤ m ∧ W3.heap.size = m + 1) := hide ⟨by have := k2.size; have := Z1.out; omega, by rw [← hW3]; simp [hm]⟩
  clear r2 t2 k2 t3 c0 BM K1
  go_wp2_with (fail)
  clear hW3 hm
  refine (below_k W3 b x).mono ?_
  rintro e W4 ⟨B1, B2, rfl, k4, b1, b2, l1, l2⟩
  have K4 := hide (K3.out.trans k4)
  have KW4 := hide k4
  have BM4 := hide (k4.boxed BM3.out id)
  have P4 := hide (P3.out.kept k4)
  have BB1 := hide b1
  have BB2 := hide b2
  have L1 : Hid (m + 1 ≤ B1 ∧ m + 1 ≤ B2 ∧ m + 1 ≤ W4.heap.size) := hide (by have := Z3.out; have := k4.size; omega)
  have FT : Hid (∀ k, Foot m (.slice la M lc) k → n ≤ k ∧ k < m + 1) := hide (fun k hk => by
    have := P3.out.lt k hk
    have := Z3.out
    omega)
  have NM : Hid (¬ Foot m (.slice la M lc) n) := hide (by
    rintro (h | h)
    · have := Z3.out; omega
    · rcases P3.out.row.2 with ⟨e, _⟩ | ⟨g, cap, cur, e, _, hg, _⟩
      · cases e; simp [Value.ownBlock] at h
      · cases e
        obtain rfl : g = n := by simpa [Value.ownBlock] using h
        have := (show W3.heap[g]? = _ from BM3.out).symm.trans hg
        simp at this)
  clear k4 b1 b2 l1 l2 c0'
  go_wp2_with (fail)
  refine wp_range3 (gf := 106) rfl (enters_of Try.func106 (by kernel_rfl) rfl) (encs := encS) (xs := spotsF s f x) (R := SlotR w B1 B2)
    (fun X hX => below_i w X (K4.out.trans hX) b s H.out HO.out f x HW.out B1 B2 (hX.boxed BB1.out id) (hX.boxed BB2.out id)) (fun _ => rfl)
    (Foot m (.slice la M lc)) (Coll 31 30 n m (fun pre => leafL s x ++ pre.flatMap (fun p => leafL s p.2))) (fun _ _ _ _ => False) ?hR (Coll.good _ _ _ _ _) (fun _ => good_false) ⟨_, fun _ => Iff.rfl, by simpa using P4.out⟩ (fun p => #[.int .i64 p.1, .int .i64 p.2]) 86 ?ab ?done (fun _ _ _ _ _ _ _ _ _ _ _ h => h.elim)
  case hR =>
    rintro k (hk | rfl | rfl)
    · have h1 := HN.out
      have h2 := K4.out.size
      refine ⟨by omega, fun h => ?_⟩
      have := FT.out k h
      omega
    · refine ⟨BB1.out.lt, fun h => ?_⟩
      have := FT.out _ h
      have := L1.out
      omega
    · refine ⟨BB2.out.lt, fun h => ?_⟩
      have := FT.out _ h
      have := L1.out
      omega
  case ab =>
    apply Exists.intro
    refine ⟨?_, ?_⟩
    · intro l' p X m K hm hK
      gi_wp2
      exact hK
    · rintro l' O pre ⟨sl, y⟩ rest B q hx' tB sB ⟨v, hO, hp⟩ hq nOq hWq
      have hmem : (sl, y) ∈ spotsF s f x := by rw [hx']; simp
      have HYI := hide (spotsF_i64 HO.out f x _ hmem)
      have hpl : pre.length ≤ 70000 := by
        have := congrArg List.length hx'
        simp at this
        have := HL.out
        omega
      have hyl : Hid ((leafL s x ++ pre.flatMap (fun p => leafL s p.2)).length ≤ 1000000) := hide (by
        have h1 := leafL_len s x
        have h2 := leaves_len s pre
        rw [List.length_append]
        omega)
      have KB : Hid (Kept w B) := hide (K4.out.own (O := Foot m (.slice la M lc)) (fun i hi => by have := FT.out i hi; have := HN.out; omega) tB)
      have MB := hide (H.out.kept KB.out)
      have cM := (tB.boxed BM4.out NM.out).cell
      have cX := hp.box.cell
      have cm1 : B.cell? ⟨q, 1, none⟩ = some (.int .i64 y) := by simp [World.cell?, hq]
      have HOO := hide hO
      have HPP := hide hp
      obtain ⟨va, vc, hv, _⟩ := hp.row.reads
      obtain ⟨N, hNN⟩ : ∃ N, (leafL s x ++ pre.flatMap (fun p => leafL s p.2)).length = N := ⟨_, rfl⟩
      rw [hNN] at hv
      subst hv
      have zB : Hid (n ≤ B.heap.size) := hide (by have := KB.out.size; have := HN.out; omega)
      have HYS : Hid (leafL s x ++ List.flatMap (fun p => leafL s p.2) (pre ++ [(sl, y)]) = (leafL s x ++ pre.flatMap (fun p => leafL s p.2)) ++ leafL s y) := hide (by simp)
      clear hx' tB sB hO hp hq nOq hWq hmem hNN
      gi_wp2_with (fail)
      refine ⟨trivial, ?_⟩
      refine (CallsIn.inRound l' (callsIn_wide.2 (appendLeaf_p B b s y n (.slice va N vc) _ _ MB.out HYI.out HPP.out.row hyl.out zB.out HYS.out))).mono ?_
      rintro e C ⟨v', rfl, r', t', hnew⟩
      obtain ⟨hb1, hg⟩ := grew_set HPP.out r' t' hnew
      obtain ⟨va', vc', hv', _⟩ := r'.reads
      obtain ⟨N', hN'⟩ : ∃ N', (leafL s x ++ List.flatMap (fun p => leafL s p.2) (pre ++ [(sl, y)])).length = N' := ⟨_, rfl⟩
      rw [hN'] at hv'
      subst hv'
      have hc1 := hb1.cell
      have hf1 := hb1.frozen
      have HG := hide hg
      clear hg r' t' hnew cX hN'
      gi_wp2
      exact Coll.next HOO.out HG.out rfl
  case done =>
    rintro D O X hD nD tX sX ⟨v, hO, hp⟩ hK
    have cX := hp.box.cell
    have HK := hide hK
    have HPP := hide hp
    have ND : Hid (¬ Foot m v D) := hide (fun h => nD ((hO D).2 h))
    have KX : Hid (Kept w X) := hide (K4.out.own (O := Foot m (.slice la M lc)) (fun i hi => by have := FT.out i hi; have := HN.out; omega) tX)
    have HDn : Hid (n ≤ D) := hide (by have := L1.out; have := Z3.out; omega)
    clear hK hp hO nD tX sX
    go_wp2
    refine leave_marks [D] X ?_ ?_ ?_
    · intro k hk
      simp at hk
      rw [hk]
      exact HK.out
    · simp
    · intro X' hX'
      refine ⟨_, results_tmp rfl _ _ _, v, rfl, ?_, ?_⟩
      · rw [HN.out, ← HE.out]
        exact HPP.out.row.turned hX' (fun g hg h => ND.out (.inr (by simp at h; rw [← h]; exact hg)))
      · exact KX.out.own (fun i hi => by simp at hi; have := HDn.out; have := HN.out; omega) hX'

theorem wf_spots {s : Mst} : ∀ {f : Nat} {x : Int}, Wf s f x → ∀ p ∈ spotsF s f x, Wf s f p.2
  | 0, _, h, _, _ => h.elim
  | f + 1, x, h, p, hp => by
    rw [spotsF_succ, List.mem_flatMap] at hp
    obtain ⟨q, hq, hp⟩ := hp
    have hq' := h.2 q hq
    unfold oneF at hp
    rcases List.mem_cons.1 hp with rfl | hp
    · exact hq'.mono (by omega)
    · exact (wf_spots hq' p hp).mono (by omega)
theorem wf_tgt {s : Mst} (ho : s.ok) {f : Nat} {x : Int} (h : Wf s f x) : Wf s f (tgt s x) := by
  by_cases h4 : kd x = 4
  · obtain ⟨g, rfl, h1, _⟩ := h.pos
    exact h.down ho (h1.tg h4)
  · rw [tgt, if_neg h4]; exact h
theorem spotsF_sub {s : Mst} : ∀ {f : Nat} {x : Int}, Wf s f x → ∀ p ∈ spotsF s f x, (spotsF s f p.2).length ≤ (spotsF s f x).length
  | 0, _, h, _, _ => h.elim
  | f + 1, x, h, p, hp => by
    rw [spotsF_succ, List.mem_flatMap] at hp
    obtain ⟨q, hq, hp⟩ := hp
    have hq' := h.2 q hq
    have hle : (oneF s f q).length ≤ (spotsF s (f + 1) x).length := by
      rw [spotsF_succ]
      obtain ⟨L1, L2, e⟩ := List.append_of_mem hq
      rw [e, List.flatMap_append, List.flatMap_cons, List.length_append, List.length_append]
      omega
    unfold oneF at hp hle
    rw [List.length_cons] at hle
    rcases List.mem_cons.1 hp with rfl | hp
    · rw [spotsF_more hq' (by omega)]
      omega
    · have := spotsF_sub hq' p hp
      rw [spotsF_more (wf_spots hq' p hp) (by omega)]
      omega
/-- A word of the tree is well-founded, and not too much is below it. -/
theorem inTree_wf {s : Mst} (ho : s.ok) {x : Int} (h : inTreeB s x = true) : Wf s (fuel s) x ∧ (spotsF s (fuel s) x).length ≤ 70000 := by
  unfold inTreeB at h
  rw [Bool.and_eq_true] at h
  obtain ⟨hs, ha⟩ := h
  have hr := wf_root ho hs
  have hlen := spotsL_len ho hs
  rw [spotsL, List.length_cons] at hlen
  have all : ∀ p ∈ spotsL s (fuel s), Wf s (fuel s) p.2 ∧ (spotsF s (fuel s) p.2).length ≤ 70000 := by
    intro p hp
    rcases List.mem_cons.1 hp with rfl | hp
    · exact ⟨hr, by show (spotsF s (fuel s) (s.logicZ 6)).length ≤ 70000; omega⟩
    · exact ⟨wf_spots hr p hp, Nat.le_trans (spotsF_sub hr p hp) (by omega)⟩
  obtain ⟨p, hp, hm⟩ := List.any_eq_true.1 ha
  obtain ⟨h1, h2⟩ := all p hp
  unfold meetB at hm
  simp only [Bool.or_eq_true, beq_iff_eq] at hm
  rcases hm with rfl | rfl
  · exact ⟨h1, h2⟩
  · refine ⟨wf_tgt ho h1, ?_⟩
    by_cases h4 : kd p.2 = 4
    · obtain ⟨g, hg, h1', _⟩ := h1.pos
      rw [spotsF_tgt (h1'.tg h4)]
      exact h2
    · rw [tgt, if_neg h4]; exact h2

theorem content_p (w : World) (b : Nat) (s : Mst) (x : Int) (h : PM w b s) (ho : s.ok) (hx : I64 x) (zs : List (Int × Int)) (e1 : contentB s x = zs) :
    Calls Try.prog 34 #[.pointer (some ⟨b, 0, none⟩), .int .i64 x] w (PSliced 30 zs w) := by
  have H := hide h
  have HO := hide ho
  have HX := hide hx
  obtain ⟨q, hq⟩ : ∃ q, inTreeB s x = q := ⟨_, rfl⟩
  have HQ := hide hq
  unfold contentB at e1
  rw [hq] at e1
  cases q with
  | false =>
    have HE : Hid (zs = []) := hide (by rw [← e1]; rfl)
    clear h ho hx hq e1
    go_enter Try.func34, Try.ntmps34
    go_wp2_with (fail)
    refine (isInTree_p _ b s x H.out HO.out HX.out false HQ.out).mono ?_
    rintro e W2 ⟨rfl, k2⟩
    have K2 := hide k2
    clear k2
    go_wp2
    go_ret
    exact ⟨_, rfl, by rw [HE.out]; exact PRow.nil _ _ _, K2.out⟩
  | true =>
    have HE : Hid (pairsF s (fuel s) x = zs) := hide e1
    clear h ho hx hq e1
    go_enter Try.func34, Try.ntmps34
    go_wp2_with (fail)
    refine (isInTree_p _ b s x H.out HO.out HX.out true HQ.out).mono ?_
    rintro e W2 ⟨rfl, k2⟩
    have K2 := hide k2
    clear k2
    go_wp2_with (fail)
    refine (pairsBelow_p W2 b s (H.out.kept K2.out) HO.out (fuel s) x (inTree_wf HO.out HQ.out).1 (inTree_wf HO.out HQ.out).2 zs HE.out).mono ?_
    rintro e W3 ⟨v, rfl, hr, k3⟩
    have HR := hide (hr.low K2.out.size)
    have K3 := hide (K2.out.trans k3)
    clear hr k3
    go_wp2
    go_ret
    exact ⟨_, rfl, HR.out, K3.out⟩
end Go.Proofs.Ytgialpjdfeldeaa

/-! What part.Size, part.From and the document's Size answer, each in one sentence (a contract), for every number that may be handed to them; the world is turned by draws alone. -/
namespace Go.Proofs.Ytgialpjdfeldeaa.Pt
open Go.ChangeShapes Go.WideShapes Go.ChangeAt Go.RowKit

theorem deg_s (n : Int) (hn : (Lit.int .i64 n).wf = true) (w : World) :
    Calls Try.prog 55 #[.int .i64 n] w fun e w' => e = .returned (.int .i64 (degZ n)) ∧ w' = w :=
  (deg_c n hn w).mono fun _ _ ⟨a, b⟩ => ⟨a, b.symm⟩

theorem size_c (n i : Int) (hn : (Lit.int .i64 n).wf = true) (w : World) :
    Calls Try.prog 66 #[.int .i64 n, .int .i64 i] w fun e w' => e = .returned (.int .i64 (sizeZ n i)) ∧ ∃ k, w' = w.drewN k := by
  have hp := part_c n i hn
  have hd := deg_s n hn
  have d := deg_nat n
  by_cases c : 0 ≤ i ∧ i < degZ n
  · rw [decide_eq_true c] at hp
    have p := deg_pos (n := n) (by omega)
    have eb := each_bound (n := n) (by omega)
    have sp := split_eq (n := n) (by omega)
    have e1 : n / degZ n = eachZ n := rfl
    have e2 : n % degZ n = moreZ n := rfl
    by_cases c2 : i < moreZ n
    · rw [size_more c.1 c.2 c2]
      generalize eachZ n = q at *
      generalize moreZ n = m at *
      generalize degZ n = z at *
      clear sp hn
      go_enter Try.func66, Try.ntmps66
      go_wp2_with (go_at_call 98; refine (hp _).mono ?_; rintro e w' ⟨rfl, rfl⟩)
      go_quiet (first | (go_at_call 55; refine Calls.quiet_of_same (hd _)))
      go_wp2
      go_ret
      exact ⟨rfl, _, rfl⟩
    · rw [size_each c.1 c.2 (by omega)]
      generalize eachZ n = q at *
      generalize moreZ n = m at *
      generalize degZ n = z at *
      clear sp hn
      go_enter Try.func66, Try.ntmps66
      go_wp2_with (go_at_call 98; refine (hp _).mono ?_; rintro e w' ⟨rfl, rfl⟩)
      go_quiet (first | (go_at_call 55; refine Calls.quiet_of_same (hd _)))
      go_wp2
      go_ret
      exact ⟨ret_int e1, _, rfl⟩
  · rw [decide_eq_false c] at hp
    rw [size_none (by omega)]
    clear hn
    go_enter Try.func66, Try.ntmps66
    go_wp2_with (go_at_call 98; refine (hp _).mono ?_; rintro e w' ⟨rfl, rfl⟩)
    go_ret
    exact ⟨rfl, 0, rfl⟩

theorem from_c (n i : Int) (hn : (Lit.int .i64 n).wf = true) (w : World) :
    Calls Try.prog 99 #[.int .i64 n, .int .i64 i] w fun e w' => e = .returned (.int .i64 (fromZ n i)) ∧ ∃ k, w' = w.drewN k := by
  have hp := part_c n i hn
  have hd := deg_s n hn
  have d := deg_nat n
  by_cases c : 0 ≤ i ∧ i < degZ n
  · rw [decide_eq_true c] at hp
    have p := deg_pos (n := n) (by omega)
    have eb := each_bound (n := n) (by omega)
    have sp := split_eq (n := n) (by omega)
    have ab := ahead_bound (n := n) (i := i) (by omega) (by omega) (by omega)
    have e1 : n / degZ n = eachZ n := rfl
    have e2 : n % degZ n = moreZ n := rfl
    have e3 : wrap64 (i * eachZ n) = i * eachZ n := wrap_same (by omega) (by omega)
    rw [from_some c.1 c.2]
    unfold aheadZ at *
    generalize eachZ n = q at *
    generalize moreZ n = m at *
    generalize degZ n = z at *
    obtain ⟨u, hu⟩ : ∃ u, i * q = u := ⟨_, rfl⟩
    rw [hu] at ab ⊢
    have e4 : wrap64 (i * q) = u := by rw [e3, hu]
    clear sp hn e3 hu
    go_enter Try.func99, Try.ntmps99
    go_wp2_with (go_at_call 98; refine (hp _).mono ?_; rintro e w' ⟨rfl, rfl⟩)
    go_quiet (first | (go_at_call 55; refine Calls.quiet_of_same (hd _)))
    go_wp2
    go_ret
    exact ⟨rfl, _, rfl⟩
  · rw [decide_eq_false c] at hp
    rw [from_none (by omega)]
    clear hn
    go_enter Try.func99, Try.ntmps99
    go_wp2_with (go_at_call 98; refine (hp _).mono ?_; rintro e w' ⟨rfl, rfl⟩)
    go_ret
    exact ⟨rfl, 0, rfl⟩

end Go.Proofs.Ytgialpjdfeldeaa.Pt

/-! The parts of a list of pairs (chapter 5), where they lie; part's From and Size, that turn nothing. No conditions beyond each theorem's own. -/
namespace Go.Proofs.Ytgialpjdfeldeaa
open Go.RowKit

def partL (ps : List (Int × Int)) (i : Int) : List (Int × Int) := (ps.drop (Pt.fromZ ps.length i).toNat).take (Pt.sizeZ ps.length i).toNat
theorem part_in {n i : Int} (h0 : 0 ≤ i) (h1 : i < Pt.degZ n) : 0 ≤ Pt.fromZ n i ∧ 1 ≤ Pt.sizeZ n i ∧ Pt.fromZ n i + Pt.sizeZ n i ≤ n := by
  have hp : 0 < Pt.degZ n := by omega
  rw [Pt.from_some h0 h1, ← Pt.ahead_step h0 h1]
  have hb := Pt.ahead_bound h0 (by omega) hp
  have hs := Pt.size_bound h0 h1
  refine ⟨hb.2.2.1, hs.1, ?_⟩
  have mono : ∀ k : Nat, i + 1 + k ≤ Pt.degZ n → Pt.aheadZ n (i + 1) ≤ Pt.aheadZ n (i + 1 + k) := by
    intro k
    induction k with
    | zero => intro _; simp
    | succ k ih =>
      intro hk
      have h2 := ih (by omega)
      have h3 := Pt.ahead_step (n := n) (i := i + 1 + k) (by omega) (by omega)
      have h4 := Pt.size_bound (n := n) (i := i + 1 + k) (by omega) (by omega)
      rw [show i + 1 + ((k + 1 : Nat) : Int) = i + 1 + k + 1 by omega, h3]
      omega
  have := mono (Pt.degZ n - (i + 1)).toNat (by omega)
  rw [show i + 1 + (((Pt.degZ n - (i + 1)).toNat : Nat) : Int) = Pt.degZ n by omega, Pt.ahead_end hp] at this
  exact this
theorem PReads.sub {w : World} {bl off : Nat} {ps : List (Int × Int)} (h : PReads w (some ⟨bl, off, none⟩) ps) (i m : Nat) : PReads w (some ⟨bl, off + i * 2, none⟩) ((ps.drop i).take m) := by
  rcases h with h | ⟨bl', off', e, h⟩
  · subst h; exact .inl (by simp)
  · cases e
    refine .inr ⟨bl, off + i * 2, rfl, fun j p hp => ?_⟩
    have hp' : ps[i + j]? = some p := by
      rw [List.getElem?_take] at hp
      split at hp
      · rwa [List.getElem?_drop] at hp
      · cases hp
    have := h (i + j) p hp'
    rw [show off + (i + j) * 2 = off + i * 2 + j * 2 by omega, show off + ((i + j) * 2 + 1) = off + i * 2 + (j * 2 + 1) by omega] at this
    exact this

theorem from_k (n i r : Int) (hn : (Lit.int .i64 n).wf = true) (e1 : Pt.fromZ n i = r) (w : World) : Calls Try.prog 99 #[.int .i64 n, .int .i64 i] w fun e w' => e = .returned (.int .i64 r) ∧ Kept w w' := by
  refine (Pt.from_c n i hn w).mono ?_
  rw [e1]
  rintro e w' ⟨rfl, k, rfl⟩
  exact ⟨rfl, Kept.drewN _ _⟩
theorem size_k (n i r : Int) (hn : (Lit.int .i64 n).wf = true) (e1 : Pt.sizeZ n i = r) (w : World) : Calls Try.prog 66 #[.int .i64 n, .int .i64 i] w fun e w' => e = .returned (.int .i64 r) ∧ Kept w w' := by
  refine (Pt.size_c n i hn w).mono ?_
  rw [e1]
  rintro e w' ⟨rfl, k, rfl⟩
  exact ⟨rfl, Kept.drewN _ _⟩

end Go.Proofs.Ytgialpjdfeldeaa

/-! Chapter 10 in plain: what a tree laid at once is ('layF'), and a memory beside two rows that grow ('LayI'). No conditions beyond each theorem's own. -/
namespace Go.Proofs.Ytgialpjdfeldeaa
open Go.RowKit

/-- One record, made. -/
def recS (s : Mst) (k : Int) (ws : List Int) : Int × Mst := (Rf.ofZ k (s.next ws), s.make ws)
/-- The trees of the first parts, one behind the other: their words, and the memory then. -/
def kidF (L : Mst → List (Int × Int) → Int × Mst) (ps : List (Int × Int)) (s : Mst) : Nat → List Int × Mst
  | 0 => ([], s)
  | i + 1 => ((kidF L ps s i).1 ++ [(L (kidF L ps s i).2 (partL ps (i : Int))).1], (L (kidF L ps s i).2 (partL ps (i : Int))).2)
/-- The least keys of the first parts but the first one. -/
def lowL (ps : List (Int × Int)) : Nat → List Int
  | 0 => []
  | i + 1 => if i = 0 then [] else lowL ps i ++ [((partL ps (i : Int)).headD (0, 0)).1]
def layF : Nat → Mst → List (Int × Int) → Int × Mst
  | 0 => fun s _ => (0, s)
  | f + 1 => fun s ps =>
    if ps.length = 0 then recS s 1 [0]
    else if ps.length = 1 then recS s 2 [(ps.headD (0, 0)).1, (ps.headD (0, 0)).2]
    else recS (kidF (layF f) ps s (Pt.degZ ps.length).toNat).2 3 (innerL ps.length (lowL ps (Pt.degZ ps.length).toNat) (kidF (layF f) ps s (Pt.degZ ps.length).toNat).1)

theorem kidF_len (L : Mst → List (Int × Int) → Int × Mst) (ps : List (Int × Int)) (s : Mst) : ∀ n, (kidF L ps s n).1.length = n
  | 0 => rfl
  | n + 1 => by simp [kidF, kidF_len L ps s n]
theorem lowL_len (ps : List (Int × Int)) : ∀ n, (lowL ps n).length = n - 1
  | 0 => rfl
  | n + 1 => by
    rw [lowL]
    split
    · rename_i h; subst h; rfl
    · rw [List.length_append, lowL_len ps n, List.length_singleton]; omega
theorem partL_len {ps : List (Int × Int)} {i : Int} (h0 : 0 ≤ i) (h1 : i < Pt.degZ ps.length) : ((partL ps i).length : Int) = Pt.sizeZ ps.length i := by
  have h := part_in h0 h1
  unfold partL
  rw [List.length_take, List.length_drop]
  omega

section
variable {T : TypeId} {lay : Value → Int → Int → Int → Int → Array Value} {n₀ b : Nat} {v0 : Value} {W₀ W W' : World} {st st' : Mst} {vq vc : Value} {qs cs : List Int}
/-- A memory that goes on beside two rows. -/
structure LayI (T : TypeId) (lay : Value → Int → Int → Int → Int → Array Value) (n₀ b : Nat) (v0 : Value) (W₀ W : World) (st : Mst) (vq vc : Value) (qs cs : List Int) : Prop where
  mem : ∃ v, MemAt T lay W n₀ b v st ∧ (∀ k, Foot b v k → Foot b v0 k ∨ W₀.heap.size ≤ k) ∧ (∀ k, vq.ownBlock = some k → ¬ Foot b v k) ∧ (∀ k, vc.ownBlock = some k → ¬ Foot b v k)
  turned : Turned (Foot b v0) W₀ W
  q : Row W W₀.heap.size 2 vq qs
  c : Row W W₀.heap.size 2 vc cs
  qc : ∀ k, vq.ownBlock = some k → vc.ownBlock ≠ some k
theorem Row.apart {n₀ : Nat} {e : TypeId} {v : Value} {zs : List Int} {R : Nat → Prop} (h : Row W n₀ e v zs) (ht : Turned R W W') (hn : ∀ g, v.ownBlock = some g → ¬ R g) : Row W' n₀ e v zs := by
  obtain ⟨h1, h2⟩ := h
  refine ⟨h1, ?_⟩
  rcases h2 with h2 | ⟨g, cap, cur, rfl, hg, hh, r⟩
  · exact .inl h2
  · exact .inr ⟨g, cap, cur, rfl, hg, ht.heap hh (hn g rfl), r⟩
namespace LayI
theorem kept (h : LayI T lay n₀ b v0 W₀ W st vq vc qs cs) (k : Kept W W') : LayI T lay n₀ b v0 W₀ W' st vq vc qs cs := by
  obtain ⟨⟨v, h1, h2⟩, ht, hq, hc, hqc⟩ := h
  exact ⟨⟨v, h1.kept k, h2⟩, k.behind ht, hq.kept k, hc.kept k, hqc⟩
/-- A step of the memory. -/
theorem step (h : LayI T lay n₀ b v0 W₀ W st vq vc qs cs) : ∃ v, MemAt T lay W n₀ b v st ∧ (∀ k, Foot b v k → Foot b v0 k ∨ W₀.heap.size ≤ k) ∧ ∀ W' st', Does T lay n₀ b v st' W W' → LayI T lay n₀ b v0 W₀ W' st' vq vc qs cs := by
  obtain ⟨⟨v, h1, h2, h3, h4⟩, ht, hq, hc, hqc⟩ := h
  refine ⟨v, h1, h2, fun W' st' d => ?_⟩
  obtain ⟨v', g1, g2, g3⟩ := d
  refine ⟨⟨v', g1, ?_, ?_, ?_⟩, ?_, hq.apart g2 h3, hc.apart g2 h4, hqc⟩
  · intro k hk
    rcases g3 k hk with e | e
    · exact h2 k e
    · exact .inr (Nat.le_trans ht.size e)
  · intro k hk hf
    rcases g3 k hf with e | e
    · exact h3 k hk e
    · have := (hq.lt k hk).2; omega
  · intro k hk hf
    rcases g3 k hf with e | e
    · exact h4 k hk e
    · have := (hc.lt k hk).2; omega
  · exact ht.trans g2 (fun _ e => e) (fun i hi e => by rcases h2 i e with e | e; · exact e
                                                       · omega)
theorem swap (h : LayI T lay n₀ b v0 W₀ W st vq vc qs cs) : LayI T lay n₀ b v0 W₀ W st vc vq cs qs := by
  obtain ⟨⟨v, h1, h2, h3, h4⟩, ht, hq, hc, hqc⟩ := h
  exact ⟨⟨v, h1, h2, h4, h3⟩, ht, hc, hq, fun k hk e => hqc k e hk⟩
/-- The first row grows. -/
theorem grow {w1 : World} {vq' : Value} {qs' : List Int} (h : LayI T lay n₀ b v0 W₀ W st vq vc qs cs) (hown : Row w1 W₀.heap.size 2 vq' qs') (hg : W.grownBy w1 vq.ownBlock) (hat : vq'.ownBlock = vq.ownBlock ∨ vq'.ownBlock = some W.heap.size) : LayI T lay n₀ b v0 W₀ w1 st vq' vc qs' cs := by
  obtain ⟨⟨v, h1, h2, h3, h4⟩, ht, hq, hc, hqc⟩ := h
  have tg : Turned (fun k => vq.ownBlock = some k) W w1 := Turned.of_grownBy hg (fun _ e => e)
  refine ⟨⟨v, h1.turned tg (fun k hk e => h3 k e hk), h2, ?_, h4⟩, ?_, hown, hc.apart tg (fun g hg' e => hqc g e hg'), ?_⟩
  · intro k hk hf
    rcases hat with e | e
    · exact h3 k (by rw [← e]; exact hk) hf
    · have := (h1.lt k hf).2
      rw [e] at hk
      cases hk
      omega
  · exact ht.trans tg (fun _ e => e) (fun i hi e => by have := (hq.lt i e).1; omega)
  · intro k hk e'
    rcases hat with e | e
    · exact hqc k (by rw [← e]; exact hk) e'
    · have := (hc.lt k e').2
      rw [e] at hk
      cases hk
      omega
theorem start (h : MemAt T lay W₀ n₀ b v0 st) (k : Kept W₀ W) (hq : Row W W₀.heap.size 2 vq qs) (hc : Row W W₀.heap.size 2 vc cs) (hqc : ∀ k, vq.ownBlock = some k → vc.ownBlock ≠ some k) : LayI T lay n₀ b v0 W₀ W st vq vc qs cs := by
  refine ⟨⟨v0, h.kept k, fun _ e => .inl e, ?_, ?_⟩, k.mono (fun _ _ e => e.elim), hq, hc, hqc⟩
  · intro j hj hf
    have h1 := (hq.lt j hj).1
    have h2 := (h.lt j hf).2
    omega
  · intro j hj hf
    have h1 := (hc.lt j hj).1
    have h2 := (h.lt j hf).2
    omega
end LayI
/-- One step behind another. -/
theorem Does.then {v v1 : Value} {s2 : Mst} {W1 W2 : World} (t : Turned (Foot b v) W W1) (hs : ∀ k, Foot b v1 k → Foot b v k ∨ W.heap.size ≤ k) (d : Does T lay n₀ b v1 s2 W1 W2) : Does T lay n₀ b v s2 W W2 := by
  obtain ⟨v2, h2, t2, s2⟩ := d
  refine ⟨v2, h2, t.trans t2 (fun _ e => e) (fun i hi e => by rcases hs i e with e | e; · exact e
                                                              · omega), fun k hk => ?_⟩
  rcases s2 k hk with e | e
  · exact hs k e
  · exact .inr (Nat.le_trans t.size e)
/-- .. behind a step that turns nothing. -/
theorem Does.after {v : Value} {s2 : Mst} {W1 W2 : World} (k : Kept W W1) (d : Does T lay n₀ b v s2 W1 W2) : Does T lay n₀ b v s2 W W2 :=
  Does.then (k.mono (fun _ _ e => e.elim)) (fun _ e => .inl e) d
end
end Go.Proofs.Ytgialpjdfeldeaa

/-! What Begin of node answers and makes, at a memory that was made since w; what known answers. No conditions beyond each theorem's own. -/
namespace Go.Proofs.Ytgialpjdfeldeaa
open Go.RowKit

theorem of17_c (w : World) : Calls Try.prog 51 #[.int .i64 1, .int .i64 7] w fun e w' => e = .returned (.int .i64 57) ∧ w = w' := by
  go_enter Try.func51, Try.ntmps51
  go_wp2
  go_ret
  exact ⟨rfl, rfl⟩
theorem kind57_c (w : World) : Calls Try.prog 60 #[.int .i64 57] w fun e w' => e = .returned (.int .i64 1) ∧ w = w' := by
  go_enter Try.func60, Try.ntmps60
  go_wp2
  go_ret
  exact ⟨rfl, rfl⟩
theorem at57_c (w : World) : Calls Try.prog 86 #[.int .i64 57] w fun e w' => e = .returned (.int .i64 7) ∧ w = w' := by
  go_enter Try.func86, Try.ntmps86
  go_wp2
  go_ret
  exact ⟨rfl, rfl⟩

/-- A slice that is answered, where it lies. -/
theorem Fresh.form {zs : List Int} {w W : World} {e : Ending} (h : Fresh zs w e W) : ∃ a cap, e = .returned (.slice a zs.length cap) ∧ Reads W a zs ∧ zs.length ≤ cap ∧ cap ≤ maxLen ∧ (∀ ad, a = some ad → w.heap.size ≤ ad.block) ∧ Row W w.heap.size 2 (.slice a zs.length cap) zs ∧ Kept w W := by
  obtain ⟨v, rfl, hrow, hk⟩ := h
  have hr := hrow
  rcases hr.2 with ⟨rfl, h0⟩ | ⟨g, cap, cur, rfl, hg, _, hc, hm, _⟩
  · obtain rfl := List.length_eq_zero_iff.1 h0
    exact ⟨none, 0, rfl, .inl rfl, Nat.le_refl _, Nat.zero_le _, (fun _ e => by cases e), hrow, hk⟩
  · obtain ⟨a, cap', e1, h1, _⟩ := hrow.reads
    cases e1
    exact ⟨_, _, rfl, h1, hc, hm, (fun _ e => by cases e; exact hg), hrow, hk⟩

/-- The state of a memory that is begun. -/
def begun (s : Mst) : Mst := { s with xs := [1, 0, 0, 0, 0, 57, 0], count := wrap64 (wrap64 (s.count + 1) + 1) }
theorem begun_make {s : Mst} (h0 : s.xs = []) (h7 : 7 ≤ s.size) : s.next [1, 0, 0, 0, 0, 57] = 1 ∧ s.fits 6 = true ∧ s.make [1, 0, 0, 0, 0, 57] = { s with xs := [1, 0, 0, 0, 0, 57], count := wrap64 (s.count + 1) } := by
  have h6 : (6 : Int) ≤ s.size := by omega
  have hf : s.fits 6 = true := by simp [Mst.fits, h0, h6]
  refine ⟨?_, hf, ?_⟩
  · rw [Mst.next]
    rw [if_pos (by exact hf), h0]
    rfl
  · rw [Mst.make]
    rw [if_pos (by exact hf), h0]
    rfl
theorem begun_make2 {s : Mst} (h7 : 7 ≤ s.size) : ({ s with xs := [1, 0, 0, 0, 0, 57], count := wrap64 (s.count + 1) } : Mst).next [0] = 7 ∧ ({ s with xs := [1, 0, 0, 0, 0, 57], count := wrap64 (s.count + 1) } : Mst).fits 1 = true ∧ ({ s with xs := [1, 0, 0, 0, 0, 57], count := wrap64 (s.count + 1) } : Mst).make [0] = begun s := by
  have hf : ({ s with xs := [1, 0, 0, 0, 0, 57], count := wrap64 (s.count + 1) } : Mst).fits 1 = true := by simp [Mst.fits, h7]
  refine ⟨?_, hf, ?_⟩
  · rw [Mst.next]
    rw [if_pos (by exact hf)]
    rfl
  · rw [Mst.make]
    rw [if_pos (by exact hf)]
    rfl

set_option maxRecDepth 100000 in
/-- Begin, where it may be. -/
theorem begin_c (w W : World) (b : Nat) (s : Mst) (h : Now w W b s) (h0 : s.xs = []) (h7 : 7 ≤ s.size) :
    Calls Try.prog 27 #[.pointer (some ⟨b, 0, none⟩)] W fun e W' => e = .returned (.bool true) ∧ Now w W' b (begun s) := by
  have H := hide h
  have B1 := hide (begun_make h0 h7)
  have B2 := hide (begun_make2 h7)
  have HU : Hid ((s.xs.length : Int) = 0) := hide (by rw [h0]; rfl)
  clear h h0
  go_enter Try.func27, Try.ntmps27
  go_wp2_with (fail)
  refine (now_used w W b s 0 H.out HU.out).mono ?_
  rintro e w' ⟨rfl, rfl⟩
  go_wp2_with (fail)
  refine (now_size w W b s s.size H.out rfl).mono ?_
  rintro e w' ⟨rfl, rfl⟩
  go_wp2_with (fail)
  refine (of17_c W).mono ?_
  rintro e w' ⟨rfl, rfl⟩
  go_wp2_with (fail)
  refine (inner_c (W.alloc (.cells #[.int .i64 57] 2)) 0 none [] 0 (some ⟨W.heap.size, 0, none⟩) [57] 1 (.inl rfl) (Reads.new W 2 [57]) (fun _ => rfl) (fun e => by cases e) rfl (by decide)).mono ?_
  intro e W1 hf
  obtain ⟨a1, cap1, rfl, hr, hc, hm, ha, -, hk⟩ := hf.form
  have H1 := hide (H.out.on ((Turned.alloc (fun _ => False) W _).trans hk (fun _ e => e) (fun _ _ e => e)))
  have HR := hide hr
  have HA : Hid (∀ ad, a1 = some ad → ad.block ≠ b) := hide (fun ad e => by
    have e1 := ha ad e
    have e2 := H.out.lt.2
    simp at e1
    omega)
  clear hf hr hc hm ha hk H
  go_wp2_with (fail)
  refine (now_make w W1 b s a1 (innerL 0 [] [57]) cap1 1 true _ H1.out HR.out (by decide) (fun _ => HA.out) B1.out.1 B1.out.2.1 B1.out.2.2).mono ?_
  rintro e W2 ⟨rfl, h2⟩
  have H2 := hide h2
  clear h2 H1 HR HA B1
  go_wp2_with (fail)
  refine (empty_c W2).mono ?_
  intro e W3 hf
  obtain ⟨a1, cap1, rfl, hr, hc, hm, ha, -, hk⟩ := hf.form
  have H3 := hide (H2.out.on hk)
  have HR := hide hr
  have HA : Hid (∀ ad, a1 = some ad → ad.block ≠ b) := hide (fun ad e => by
    have e1 := ha ad e
    have e2 := H2.out.lt.2
    omega)
  clear hf hr hc hm ha hk H2
  go_wp2_with (fail)
  refine (now_make w W3 b _ a1 [0] cap1 7 true _ H3.out HR.out (by decide) (fun _ => HA.out) B2.out.1 B2.out.2.1 B2.out.2.2).mono ?_
  rintro e W4 ⟨rfl, h4⟩
  have H4 := hide h4
  clear h4 H3 HR HA B2
  go_wp2
  go_ret
  exact ⟨rfl, H4.out⟩
/-- .. where it may not. -/
theorem begin0_c (w W : World) (b : Nat) (s : Mst) (h : Now w W b s) (h0 : ¬ (s.xs = [] ∧ 7 ≤ s.size)) :
    Calls Try.prog 27 #[.pointer (some ⟨b, 0, none⟩)] W fun e W' => e = .returned (.bool false) ∧ W = W' := by
  have H := hide h
  by_cases hx : s.xs = []
  · have h7 : s.size < 7 := by have : ¬ 7 ≤ s.size := fun e => h0 ⟨hx, e⟩; omega
    have HU : Hid ((s.xs.length : Int) = 0) := hide (by rw [hx]; rfl)
    clear h h0 hx
    go_enter Try.func27, Try.ntmps27
    go_wp2_with (fail)
    refine (now_used w W b s 0 H.out HU.out).mono ?_
    rintro e w' ⟨rfl, rfl⟩
    go_wp2_with (fail)
    refine (now_size w W b s s.size H.out rfl).mono ?_
    rintro e w' ⟨rfl, rfl⟩
    go_wp2
    go_ret
    exact ⟨rfl, rfl⟩
  · have hp0 : 0 < s.xs.length := List.length_pos_iff.2 hx
    have hp : (0 : Int) < (s.xs.length : Int) := by omega
    clear h h0 hx
    go_enter Try.func27, Try.ntmps27
    go_wp2_with (fail)
    refine (now_used w W b s _ H.out rfl).mono ?_
    rintro e w' ⟨rfl, rfl⟩
    go_wp2
    go_ret
    exact ⟨rfl, rfl⟩

/-- Two slices that are answered, alike. -/
theorem words_lit (W : World) (a : Option Addr) (q : List Int) (cap : Nat) (hr : Reads W a q) (hc : q.length ≤ cap) (hm : cap ≤ maxLen) :
    Calls Try.prog 15 #[.slice a q.length cap, .slice (some ⟨W.heap.size, 0, none⟩) q.length q.length] (W.alloc (.cells (q.map (Value.int .i64)).toArray 2)) fun e w' => e = .returned (.bool true) ∧ Kept W w' :=
  (words_k _ a _ q cap q.length (hr.kept (Turned.alloc _ _ _)) (Reads.new W 2 q) hc (Nat.le_refl _) hm).mono fun _ _ ⟨h1, h2⟩ => ⟨h1, ((Kept.refl W).alloc _).trans h2⟩

end Go.Proofs.Ytgialpjdfeldeaa

/-! What LeafWords of node, and the document's EmptyWords, LeafWords, InnerWords and Of, answer. No conditions beyond each theorem's own. -/
namespace Go.Proofs.Ytgialpjdfeldeaa
open Go.RowKit
theorem leaf_c (w : World) (k : Int) (v : Int) : Calls Try.prog 70 #[.int .i64 k, .int .i64 v] w (Fresh [k, v] w) := by
  go_enter Try.func70, Try.ntmps70
  go_wp2
  go_ret
  exact ⟨_, rfl, row_new w 2 [k, v] _ (Nat.le_refl _) (by simp), Turned.alloc _ _ _⟩
theorem empty_r (w : World)  : Calls Try.prog 74 #[] w (Fresh [0] w) := by
  go_enter Try.func74, Try.ntmps74
  go_wp2
  go_ret
  exact ⟨_, rfl, row_new w 2 [0] _ (Nat.le_refl _) (by simp), Turned.alloc _ _ _⟩
theorem leaf_r (w : World) (k : Int) (v : Int) : Calls Try.prog 76 #[.int .i64 k, .int .i64 v] w (Fresh [k, v] w) := by
  go_enter Try.func76, Try.ntmps76
  go_wp2
  go_ret
  exact ⟨_, rfl, row_new w 2 [k, v] _ (Nat.le_refl _) (by simp), Turned.alloc _ _ _⟩
theorem inner_r (w : World) (size : Int) (aq : Option Addr) (q : List Int) (cq : Nat) (ac : Option Addr) (c : List Int) (cc : Nat) (hq : Reads w aq q) (hc : Reads w ac c) (hq0 : aq = none → cq = 0) (hc0 : ac = none → cc = 0) (hlen : c.length = q.length + 1) (hl : c.length ≤ 40000) :
    Calls Try.prog 77 #[.int .i64 size, .slice aq q.length cq, .slice ac c.length cc] w (Fresh (innerL size q c) w) := by
  have K1 : Kept w (w.alloc (.cells #[.int .i64 (c.length : Int), .int .i64 size, .int .i64 0, .int .i64 0, .int .i64 0] 2)) := Turned.alloc _ _ _
  have R0 : Hid (Row (w.alloc (.cells #[.int .i64 (c.length : Int), .int .i64 size, .int .i64 0, .int .i64 0, .int .i64 0] 2)) w.heap.size 2 (.slice (some ⟨w.heap.size, 0, none⟩) 5 5) [(c.length : Int), size, 0, 0, 0]) := hide (row_new w 2 [(c.length : Int), size, 0, 0, 0] _ (Nat.le_refl _) (by simp))
  have HQ := hide (hq.kept K1)
  have HC := hide hc
  have HQ0 := hide hq0
  have HC0 := hide hc0
  have KK := hide K1
  have n1 : ((c.length : Int) == (q.length : Int) + 1) = true := by simp only [beq_iff_eq]; omega
  have n2 : ((c.length : Int) != (q.length : Int) + 1) = false := by simp only [bne_eq_false_iff_eq]; omega
  have i1 : (q.length : Int) ≤ 40000 := by omega
  have HL := hide (And.intro hlen hl)
  clear hq hc hq0 hc0 hlen hl K1
  go_enter Try.func77, Try.ntmps77
  go_wp2_with (at_builtin; refine Stop.out ?_)
  refine ⟨?_⟩
  refine wpList_append_reads rfl _ _ rfl w.heap.size _ 5 (cellsOf [(c.length : Int), size, 0, 0, 0]) rfl R0.out aq q cq rfl HQ.out HQ0.out (by have := HL.out; omega) KK.out.size ?_
  intro v2 w2 hown hg _
  have R2 : Hid (Row w2 w.heap.size 2 v2 ([(c.length : Int), size, 0, 0, 0] ++ q)) := hide (by
    show World.ownsRow _ _ 2 1 _ ([(c.length : Int), size, 0, 0, 0] ++ q).length (cellsOf ([(c.length : Int), size, 0, 0, 0] ++ q))
    rw [List.length_append, cellsOf, List.map_append]
    exact hown)
  have K2 := hide (kept_append KK.out R0.out hg)
  clear hown hg R0 HQ HQ0 KK
  go_wp2_with (at_builtin; refine Stop.out ?_)
  refine ⟨?_⟩
  refine wpList_append_reads rfl _ _ rfl w.heap.size _ _ (cellsOf ([(c.length : Int), size, 0, 0, 0] ++ q)) rfl R2.out ac c cc rfl (HC.out.kept K2.out) HC0.out (by have := HL.out; simp; omega) K2.out.size ?_
  intro v3 w3 hown hg _
  have R3 : Hid (Row w3 w.heap.size 2 v3 (innerL size q c)) := hide (by
    show World.ownsRow _ _ 2 1 _ (innerL size q c).length (cellsOf (innerL size q c))
    rw [innerL, ← List.append_assoc, List.length_append, cellsOf, List.map_append]
    exact hown)
  have K3 := hide (kept_append K2.out R2.out hg)
  clear hown hg R2 HC HC0 K2
  go_wp2
  go_ret
  exact ⟨_, rfl, R3.out, K3.out⟩
theorem ofr_c (k t : Int) (z : Int) (hz : Rf.ofZ k t = z) (w : World) : Calls Try.prog 75 #[.int .i64 k, .int .i64 t] w fun e w' => e = .returned (.int .i64 z) ∧ w = w' := by
  subst hz
  by_cases c1 : 1 ≤ k
  · by_cases c2 : k ≤ 5
    · by_cases c3 : 1 ≤ t
      · by_cases c4 : t ≤ 65536
        · have eo : Rf.ofZ k t = 8 * t + k := by simp [Rf.ofZ, Rf.may, c1, c2, c3, c4]
          rw [eo]
          go_enter Try.func75, Try.ntmps75
          go_wp2
          go_ret
          exact ⟨rfl, rfl⟩
        · have eo : Rf.ofZ k t = 0 := by simp [Rf.ofZ, Rf.may]; omega
          rw [eo]
          go_enter Try.func75, Try.ntmps75
          go_wp2
          go_ret
          exact ⟨rfl, rfl⟩
      · have eo : Rf.ofZ k t = 0 := by simp [Rf.ofZ, Rf.may]; omega
        rw [eo]
        go_enter Try.func75, Try.ntmps75
        go_wp2
        go_ret
        exact ⟨rfl, rfl⟩
    · have eo : Rf.ofZ k t = 0 := by simp [Rf.ofZ, Rf.may]; omega
      rw [eo]
      go_enter Try.func75, Try.ntmps75
      go_wp2
      go_ret
      exact ⟨rfl, rfl⟩
  · have eo : Rf.ofZ k t = 0 := by simp [Rf.ofZ, Rf.may]; omega
    rw [eo]
    go_enter Try.func75, Try.ntmps75
    go_wp2
    go_ret
    exact ⟨rfl, rfl⟩

end Go.Proofs.Ytgialpjdfeldeaa

/-! What plant's record, lay and layInner answer and make, at a memory as it lies: the plain 'layF'. No conditions beyond each theorem's own. -/
namespace Go.Proofs.Ytgialpjdfeldeaa
open Go.RowKit
set_option maxRecDepth 20000

theorem record_p (W : World) (n₀ b : Nat) (v : Value) (s : Mst) (k : Int) (a : Option Addr) (ws : List Int) (M cw : Nat) (hM : ws.length = M) (h : PMem W n₀ b v s) (hn : n₀ ≤ W.heap.size) (hr : Reads W a ws) (hl : M ≤ 1000000) (hs : ∀ ad, a = some ad → ad.block ≠ b) (z : Int) (s' : Mst) (e1 : recS s k ws = (z, s')) :
    Calls Try.prog 69 #[.pointer (some ⟨b, 0, none⟩), .int .i64 k, .slice a M cw] W fun e W' => e = .returned (.int .i64 z) ∧ Does 66 layP n₀ b v s' W W' := by
  subst hM
  have HM := hide (make_p W n₀ b v s a ws cw h hn hr (by unfold maxLen; omega) (fun _ => hs))
  obtain ⟨x, hx⟩ : ∃ x, s.next ws = x := ⟨_, rfl⟩
  obtain ⟨y, hy⟩ : ∃ y, s.fits ws.length = y := ⟨_, rfl⟩
  rw [hx, hy] at HM
  have EZ : Hid (Rf.ofZ k x = z) := hide (by rw [← hx]; exact congrArg Prod.fst e1)
  have ES : Hid (s.make ws = s') := hide (congrArg Prod.snd e1)
  clear h hr hs e1 hx hy
  go_enter Try.func69, Try.ntmps69
  go_wp2_with (fail)
  refine HM.out.mono ?_
  rintro e W1 ⟨rfl, d⟩
  rw [ES.out] at d
  have D := hide d
  clear d
  go_wp2_with (fail)
  refine (Rf.of_c k x W1).mono ?_
  rw [EZ.out]
  rintro e W2 ⟨rfl, rfl⟩
  go_wp2
  go_ret
  exact ⟨rfl, D.out⟩

def LayC (f : Nat) : Prop := ∀ (W : World) (n₀ b : Nat) (v : Value) (s : Mst) (a : Option Addr) (ps : List (Int × Int)) (M cap : Nat) (_ : PMem W n₀ b v s) (_ : n₀ ≤ W.heap.size) (_ : PReads W a ps) (_ : ps.length = M) (_ : M ≤ cap) (_ : cap ≤ maxLen) (_ : M ≤ 16384) (_ : M < f) (_ : ps ≠ [] → ∀ ad, a = some ad → ¬ Foot b v ad.block) (z : Int) (s' : Mst) (_ : layF f s ps = (z, s')),
    Calls Try.prog 42 #[.pointer (some ⟨b, 0, none⟩), .slice a M cap] W fun e W' => e = .returned (.int .i64 z) ∧ Does 66 layP n₀ b v s' W W'
end Go.Proofs.Ytgialpjdfeldeaa

/-! What plant's layInner answers and makes. -/
namespace Go.Proofs.Ytgialpjdfeldeaa
open Go.RowKit
set_option maxRecDepth 20000

theorem layF_succ (f : Nat) (s : Mst) (ps : List (Int × Int)) : layF (f + 1) s ps = if ps.length = 0 then recS s 1 [0]
    else if ps.length = 1 then recS s 2 [(ps.headD (0, 0)).1, (ps.headD (0, 0)).2]
    else recS (kidF (layF f) ps s (Pt.degZ ps.length).toNat).2 3 (innerL ps.length (lowL ps (Pt.degZ ps.length).toNat) (kidF (layF f) ps s (Pt.degZ ps.length).toNat).1) := rfl
theorem run_make0 (D : Nat) (h : D ≤ 1000) (z : Int) (hz : z = (D : Int)) (w : World) : (Instr.makeSlice 35 (.int .i64 0) (.int .i64 z)).run Try.prog w = .ok (.slice (some ⟨w.heap.size, 0, none⟩) 0 D) (w.alloc (.cells (madeCells #[.int .i64 0] D) 2)) := by
  obtain ⟨i0, hi, hz0, hz1, hz2⟩ := info_parts info2_p
  have := run_make (P := Try.prog) w 35 2 i0 (.int .i64 0) Try.underlying35 hi hz0 .i64 .i64 0 z (by omega) (by omega) (by rw [hz2]; omega) (by omega)
  rw [this, hz, hz1]
  simp [Value.cells]
theorem row_made (W : World) (n₀ D : Nat) (h : D ≤ 1000) (hb : n₀ ≤ W.heap.size) : Row (W.alloc (.cells (madeCells #[.int .i64 0] D) 2)) n₀ 2 (.slice (some ⟨W.heap.size, 0, none⟩) 0 D) [] :=
  World.ownsRow_made W _ D hb (by unfold maxLen; omega) (by rw [size_madeCells, Nat.mul_one])

/-- A row beside a memory grows by one. -/
theorem wpList_append_q {T : TypeId} {lay : Value → Int → Int → Int → Int → Array Value} {n₀ b : Nat} {v0 : Value} {W₀ wr : World} {st : Mst} {vq vc : Value} {qs cs qs' : List Int} {x : Int} {ops : Array Oper} {rest : List Oper} {o : Oper} {a : Act} {Q : Exit → Act → World → Prop} (hgd : o.guard = none) (s y : Operand)
    (ho : o.op = .call { callee := .builtin .append, args := #[s, y], argTypes := #[35, 35] }) (hs : a.eval s = vq) (hx : a.eval y = .slice (some ⟨wr.heap.size, 0, none⟩) 1 1) (h : LayI T lay n₀ b v0 W₀ wr st vq vc qs cs) (hl : qs.length ≤ 999999) (hq : qs' = qs ++ [x])
    (hk : ∀ v' w', LayI T lay n₀ b v0 W₀ w' st v' vc qs' cs → wpList Try.prog ops Q rest (a.put o.dst v') w') :
    wpList Try.prog ops Q (o :: rest) a (wr.alloc (.cells #[.int .i64 x] 2)) := by
  have k1 : Kept wr (wr.alloc (.cells #[.int .i64 x] 2)) := Turned.alloc _ _ _
  refine wpList_append_reads hgd s y ho W₀.heap.size vq qs.length (cellsOf qs) hs (h.q.kept k1) _ [x] 1 hx (Reads.new wr 2 [x]) (fun e => by cases e) (by simp; omega) (Nat.le_trans h.turned.size k1.size) ?_
  intro v2 w2 hown hg hat
  refine hk v2 w2 ((h.kept k1).grow ?_ hg hat)
  subst hq
  show World.ownsRow _ _ 2 1 _ (qs ++ [x]).length (cellsOf (qs ++ [x]))
  rw [List.length_append, cellsOf, List.map_append]
  exact hown
theorem wpList_append_c {T : TypeId} {lay : Value → Int → Int → Int → Int → Array Value} {n₀ b : Nat} {v0 : Value} {W₀ wr : World} {st : Mst} {vq vc : Value} {qs cs cs' : List Int} {x : Int} {ops : Array Oper} {rest : List Oper} {o : Oper} {a : Act} {Q : Exit → Act → World → Prop} (hgd : o.guard = none) (s y : Operand)
    (ho : o.op = .call { callee := .builtin .append, args := #[s, y], argTypes := #[35, 35] }) (hs : a.eval s = vc) (hx : a.eval y = .slice (some ⟨wr.heap.size, 0, none⟩) 1 1) (h : LayI T lay n₀ b v0 W₀ wr st vq vc qs cs) (hl : cs.length ≤ 999999) (hq : cs' = cs ++ [x])
    (hk : ∀ v' w', LayI T lay n₀ b v0 W₀ w' st vq v' qs cs' → wpList Try.prog ops Q rest (a.put o.dst v') w') :
    wpList Try.prog ops Q (o :: rest) a (wr.alloc (.cells #[.int .i64 x] 2)) :=
  wpList_append_q hgd s y ho hs hx h.swap hl hq (fun v' w' h' => hk v' w' h'.swap)

/-- What the loop over the parts has come to. -/
def InnI (T : TypeId) (lay : Value → Int → Int → Int → Int → Array Value) (f n₀ b : Nat) (v0 : Value) (W₀ : World) (s : Mst) (ps : List (Int × Int)) (vq vc : Value) (t : Nat) (wr : World) : Prop :=
  LayI T lay n₀ b v0 W₀ wr (kidF (layF f) ps s t).2 vq vc (lowL ps t) (kidF (layF f) ps s t).1
theorem Row.form {w : World} {n₀ : Nat} {v : Value} {zs : List Int} (h : Row w n₀ 2 v zs) : ∃ a cap, v = .slice a zs.length cap ∧ Reads w a zs ∧ (a = none → cap = 0) := by
  have hr := h
  rcases hr.2 with ⟨rfl, h0⟩ | ⟨g, cap, cur, rfl, hg, _, hc, hm, _⟩
  · obtain rfl := List.length_eq_zero_iff.1 h0
    exact ⟨none, 0, rfl, .inl rfl, fun _ => rfl⟩
  · obtain ⟨a, cap', e1, h1, _⟩ := h.reads
    cases e1
    exact ⟨_, _, rfl, h1, fun e => by cases e⟩
/-- The list that is laid, and its part, lie as they lay. -/
theorem LayI.list {T : TypeId} {lay : Value → Int → Int → Int → Int → Array Value} {n₀ b : Nat} {v0 : Value} {W₀ W : World} {st : Mst} {vq vc : Value} {qs cs : List Int} {bl off : Nat} {ps : List (Int × Int)} (h : LayI T lay n₀ b v0 W₀ W st vq vc qs cs) (hr : PReads W₀ (some ⟨bl, off, none⟩) ps) (hf : ¬ Foot b v0 bl) (F S : Nat) : PReads W (some ⟨bl, off + F * 2, none⟩) ((ps.drop F).take S) :=
  (hr.turned h.turned (fun k _ ⟨ad, e, e'⟩ hk => by cases e; exact hf (by rw [← e'] at hk; exact hk))).sub F S
theorem preads_head {w : World} {bl off : Nat} {ps : List (Int × Int)} (h : PReads w (some ⟨bl, off, none⟩) ps) (h0 : 0 < ps.length) : w.cell? ⟨bl, off, none⟩ = some (.int .i64 (ps.headD (0, 0)).1) ∧ w.cell? ⟨bl, off + 1, none⟩ = some (.int .i64 (ps.headD (0, 0)).2) := by
  cases ps with
  | nil => simp at h0
  | cons p ps =>
    obtain ⟨bl', off', e, _, h1, h2⟩ := h.at (j := 0) (p := p) rfl
    cases e
    exact ⟨by simpa using h1, by simpa using h2⟩

set_option maxHeartbeats 4000000 in
theorem layInner_p (f : Nat) (ih : LayC f) (W : World) (n₀ b : Nat) (v : Value) (s : Mst) (a : Option Addr) (ps : List (Int × Int)) (M cap : Nat) (h : PMem W n₀ b v s) (hn : n₀ ≤ W.heap.size) (hr : PReads W a ps) (hM : ps.length = M) (hc : M ≤ cap) (hcm : cap ≤ maxLen) (hm : M ≤ 16384) (hf : M < f + 1) (h2 : 2 ≤ M) (ha : ∀ ad, a = some ad → ¬ Foot b v ad.block) (z : Int) (s' : Mst) (e1 : layF (f + 1) s ps = (z, s')) :
    Calls Try.prog 71 #[.pointer (some ⟨b, 0, none⟩), .slice a M cap] W fun e W' => e = .returned (.int .i64 z) ∧ Does 66 layP n₀ b v s' W W' := by
  have db := Pt.deg_bound (n := (M : Int)) (by omega) (by omega)
  obtain ⟨D, hD⟩ : ∃ D : Nat, Pt.degZ (M : Int) = (D : Int) := ⟨(Pt.degZ M).toNat, by omega⟩
  rw [hD] at db
  obtain ⟨d1, d2, d3⟩ := db
  have e2 : recS (kidF (layF f) ps s D).2 3 (innerL (M : Int) (lowL ps D) (kidF (layF f) ps s D).1) = (z, s') := by
    rw [layF_succ, hM, if_neg (by omega), if_neg (by omega), hD] at e1
    exact e1
  obtain ⟨bl, off, rfl⟩ : ∃ bl off, a = some ⟨bl, off, none⟩ := by
    rcases hr with e | ⟨bl, off, e, _⟩
    · rw [e] at hM; simp at hM; omega
    · exact ⟨bl, off, e⟩
  have hcm' : (cap : Int) ≤ 9223372036854775807 := by unfold maxLen at hcm; omega
  have hb1 : bl < W.heap.size := by
    obtain ⟨p, hp⟩ : ∃ p, ps[0]? = some p := ⟨_, List.getElem?_eq_getElem (by omega)⟩
    obtain ⟨bl', off', e, h1, _⟩ := hr.at hp
    cases e
    exact h1
  have HA := hide (ha _ rfl)
  have HB := hide hb1
  have HR := hide hr
  have HM := hide hM
  have H := hide h
  have HN := hide hn
  have IH := hide ih
  have HD := hide hD
  have E2 := hide e2
  have HCM := hide hcm
  have HF := hide hf
  have M1 := run_make0 (D - 1) (by omega) ((D : Int) - 1) (by omega)
  have M2 := run_make0 D (by omega) (D : Int) rfl
  have S1 : Hid (InnI 66 layP f n₀ b v W s ps (.slice (some ⟨W.heap.size, 0, none⟩) 0 (D - 1)) (.slice (some ⟨W.heap.size + 1, 0, none⟩) 0 D) 0 ((W.alloc (.cells (madeCells #[.int .i64 0] (D - 1)) 2)).alloc (.cells (madeCells #[.int .i64 0] D) 2)).drew) := hide (by
    refine LayI.start h ((((Kept.refl W).alloc _).alloc _).trans (Kept.drew _)) ?_ ?_ ?_
    · exact ((row_made W W.heap.size (D - 1) (by omega) (Nat.le_refl _)).kept (Turned.alloc _ _ _)).kept (Kept.drew _)
    · have := row_made (W.alloc (.cells (madeCells #[.int .i64 0] (D - 1)) 2)) W.heap.size D (by omega) (by simp)
      rw [World.size_alloc] at this
      exact this.kept (Kept.drew _)
    · intro k hk e
      simp [Value.ownBlock] at hk e
      omega)
  have S2 : Hid (InnI 66 layP f n₀ b v W s ps (.slice (some ⟨W.heap.size + 1, 0, none⟩) 0 (D - 1)) (.slice (some ⟨W.heap.size, 0, none⟩) 0 D) 0 ((W.alloc (.cells (madeCells #[.int .i64 0] D) 2)).alloc (.cells (madeCells #[.int .i64 0] (D - 1)) 2)).drew) := hide (by
    refine LayI.start h ((((Kept.refl W).alloc _).alloc _).trans (Kept.drew _)) ?_ ?_ ?_
    · have := row_made (W.alloc (.cells (madeCells #[.int .i64 0] D) 2)) W.heap.size (D - 1) (by omega) (by simp)
      rw [World.size_alloc] at this
      exact this.kept (Kept.drew _)
    · exact ((row_made W W.heap.size D (by omega) (Nat.le_refl _)).kept (Turned.alloc _ _ _)).kept (Kept.drew _)
    · intro k hk e
      simp [Value.ownBlock] at hk e
      omega)
  clear h hr ha hM ih e1 e2 hD hcm hf hn hb1
  go_enter Try.func71, Try.ntmps71
  go_wp2_with (fail)
  refine (Pt.deg_c (M : Int) (I64.wf ⟨by omega, by omega⟩) W).mono ?_
  rw [HD.out]
  rintro e w' ⟨rfl, rfl⟩
  go_wp2_with (fail)
  go_region
  all_goals (
    go_wp2
    go_loopw [7, 8, 9, 10, 11, 22] (fun vq vc _ _ _ i wr => ∃ t : Nat, t ≤ D ∧ i = .int .i64 t ∧ Hid (InnI 66 layP f n₀ b v W s ps vq vc t wr)) (fun _ _ _ _ _ i _ => D - (intOf i).toNat)
    case atStart => exact ⟨0, Nat.zero_le _, rfl, by first | exact S1 | exact S2⟩
    case round =>
      obtain ⟨t, ht, rfl, HI⟩ := hrel
      clear S1 S2 M1 M2
      by_cases hlt : t < D
      · have pin := part_in (n := (M : Int)) (i := (t : Int)) (by omega) (by rw [HD.out]; omega)
        have sb := Pt.size_bound (n := (M : Int)) (i := (t : Int)) (by omega) (by rw [HD.out]; omega)
        obtain ⟨F, hF⟩ : ∃ F : Nat, Pt.fromZ (M : Int) (t : Int) = (F : Int) := ⟨(Pt.fromZ (M : Int) (t : Int)).toNat, by omega⟩
        obtain ⟨S, hS⟩ : ∃ S : Nat, Pt.sizeZ (M : Int) (t : Int) = (S : Int) := ⟨(Pt.sizeZ (M : Int) (t : Int)).toNat, by omega⟩
        rw [hF, hS] at pin
        rw [hS] at sb
        have hown : partL ps (t : Int) = (ps.drop F).take S := by unfold partL; rw [HM.out, hF, hS]; rfl
        obtain ⟨own, ho⟩ : ∃ own, partL ps (t : Int) = own := ⟨_, rfl⟩
        have OWL : Hid (own.length = S) := hide (by rw [← ho, hown, List.length_take, List.length_drop, HM.out]; omega)
        have OWN : Hid (own = (ps.drop F).take S) := hide (by rw [← ho, hown])
        unfold InnI at HI
        have KS : Hid (kidF (layF f) ps s (t + 1) = ((kidF (layF f) ps s t).1 ++ [(layF f (kidF (layF f) ps s t).2 own).1], (layF f (kidF (layF f) ps s t).2 own).2)) := hide (by rw [kidF, ho])
        have LS : Hid (0 < t → lowL ps (t + 1) = lowL ps t ++ [(own.headD (0, 0)).1]) := hide (fun h => by rw [lowL, if_neg (by omega), ho])
        have CL := kidF_len (layF f) ps s t
        have QL := lowL_len ps t
        obtain ⟨cs, hcs⟩ : ∃ cs, (kidF (layF f) ps s t).1 = cs := ⟨_, rfl⟩
        obtain ⟨st, hst⟩ : ∃ st, (kidF (layF f) ps s t).2 = st := ⟨_, rfl⟩
        obtain ⟨qs, hqs⟩ : ∃ qs, lowL ps t = qs := ⟨_, rfl⟩
        obtain ⟨zc, sc, hz⟩ : ∃ zc sc, layF f st own = (zc, sc) := ⟨_, _, rfl⟩
        rw [hcs, hst, hz] at KS
        rw [hqs] at LS QL
        rw [hcs] at CL
        rw [hcs, hst, hqs] at HI
        have HZ := hide hz
        have HFF := hide hF
        have HSS := hide hS
        have HCL := hide CL
        have HQL := hide QL
        obtain ⟨p1, p2, p3⟩ := pin
        have p4 : F + S ≤ M := by omega
        have p5 : 1 ≤ S := by omega
        have p6 : S < M := by omega
        have i1 : (t : Int) < (D : Int) := by omega
        clear hown ho hcs hst hqs hz hF hS sb p1 p2 p3 CL QL
        go_wp2_with (fail)
        refine (from_k (M : Int) (t : Int) (F : Int) (I64.wf ⟨by omega, by omega⟩) HFF.out _).mono ?_
        rintro e w1 ⟨rfl, k1⟩
        have I1 := hide (HI.out.kept k1)
        clear k1 HI
        go_wp2_with (fail)
        refine (size_k (M : Int) (t : Int) (S : Int) (I64.wf ⟨by omega, by omega⟩) HSS.out _).mono ?_
        rintro e w2 ⟨rfl, k2⟩
        have I2 := hide (I1.out.kept k2)
        clear k2 I1
        have PR := LayI.list I2.out HR.out HA.out F S
        rw [← OWN.out] at PR
        have c0 := (preads_head PR (by have := OWL.out; omega)).1
        obtain ⟨hk, hhk⟩ : ∃ x, (own.headD (0, 0)).1 = x := ⟨_, rfl⟩
        rw [hhk] at c0 LS
        clear PR hhk
        by_cases g0 : (0 : Int) < (t : Int)
        · go_wp2_with (at_builtin; refine Stop.out ?_)
          refine ⟨?_⟩
          refine wpList_append_q rfl _ _ rfl rfl rfl I2.out (by have := HQL.out; omega) rfl ?_
          intro vq' wq iq
          have IQ := hide iq
          clear iq I2 c0
          go_wp2_with (fail)
          obtain ⟨v1, m1, f1, st1⟩ := IQ.out.step
          have PR1 := LayI.list IQ.out HR.out HA.out F S
          rw [← OWN.out] at PR1
          refine (IH.out _ n₀ b v1 st _ own S (cap - F) m1 (Nat.le_trans HN.out IQ.out.turned.size) PR1 OWL.out (by omega) (by have := HCM.out; omega) (by omega) (by have := HF.out; omega) (fun _ ad e hk => by
            cases e
            rcases f1 _ hk with e | e
            · exact HA.out e
            · have := HB.out; exact absurd e (by simp only; omega)) zc sc HZ.out).mono ?_
          rintro e w3 ⟨rfl, d3⟩
          have I3 := hide (st1 _ _ d3)
          clear d3 st1 m1 f1 PR1 IQ
          go_wp2_with (at_builtin; refine Stop.out ?_)
          refine ⟨?_⟩
          refine wpList_append_c rfl _ _ rfl rfl rfl I3.out (by have := HCL.out; omega) rfl ?_
          intro v4 w4 i4
          have I4 := hide i4
          clear i4 I3
          go_wp2
          exact ⟨⟨t + 1, by omega, by simp, hide (by unfold InnI; rw [KS.out, LS.out (by omega)]; exact I4.out)⟩, by simp [intOf]; omega⟩
        · have z0 : t = 0 := by omega
          have QN : Hid (lowL ps (t + 1) = qs) := hide (by
            have h1 := lowL_len ps (t + 1)
            have h2 := HQL.out
            rw [z0] at h1 h2
            rw [z0, List.length_eq_zero_iff.1 h1, List.length_eq_zero_iff.1 h2])
          clear c0 z0
          go_wp2_with (fail)
          obtain ⟨v1, m1, f1, st1⟩ := I2.out.step
          have PR1 := LayI.list I2.out HR.out HA.out F S
          rw [← OWN.out] at PR1
          refine (IH.out _ n₀ b v1 st _ own S (cap - F) m1 (Nat.le_trans HN.out I2.out.turned.size) PR1 OWL.out (by omega) (by have := HCM.out; omega) (by omega) (by have := HF.out; omega) (fun _ ad e hk => by
            cases e
            rcases f1 _ hk with e | e
            · exact HA.out e
            · have := HB.out; exact absurd e (by simp only; omega)) zc sc HZ.out).mono ?_
          rintro e w3 ⟨rfl, d3⟩
          have I3 := hide (st1 _ _ d3)
          clear d3 st1 m1 f1 PR1 I2
          go_wp2_with (at_builtin; refine Stop.out ?_)
          refine ⟨?_⟩
          refine wpList_append_c rfl _ _ rfl rfl rfl I3.out (by have := HCL.out; omega) rfl ?_
          intro v4 w4 i4
          have I4 := hide i4
          clear i4 I3
          go_wp2
          exact ⟨⟨t + 1, by omega, by simp, hide (by unfold InnI; rw [KS.out, QN.out]; exact I4.out)⟩, by simp [intOf]; omega⟩
      · obtain rfl : t = D := by omega
        unfold InnI at HI
        have CL := kidF_len (layF f) ps s t
        have QL := lowL_len ps t
        obtain ⟨cs, hcs⟩ : ∃ cs, (kidF (layF f) ps s t).1 = cs := ⟨_, rfl⟩
        obtain ⟨st, hst⟩ : ∃ st, (kidF (layF f) ps s t).2 = st := ⟨_, rfl⟩
        obtain ⟨qs, hqs⟩ : ∃ qs, lowL ps t = qs := ⟨_, rfl⟩
        rw [hcs, hst, hqs] at HI E2
        rw [hqs] at QL
        rw [hcs] at CL
        obtain ⟨aq, cq, rfl, rq, q0⟩ := HI.out.q.form
        obtain ⟨ac, cc, rfl, rc, c0⟩ := HI.out.c.form
        have HIN := hide (inner_c _ (M : Int) aq qs cq ac cs cc rq rc q0 c0 (by omega) (by omega))
        have WL : Hid ((innerL (M : Int) qs cs).length ≤ 1000000) := hide (by rw [innerL_length]; omega)
        obtain ⟨ws, hws⟩ : ∃ ws, innerL (M : Int) qs cs = ws := ⟨_, rfl⟩
        rw [hws] at HIN E2 WL
        clear hcs hst hqs hws rq rc q0 c0 CL QL
        go_wp2_with (fail)
        refine HIN.out.mono ?_
        intro e w1 hf
        obtain ⟨a1, cap1, rfl, r1, -, -, lo1, -, k1⟩ := hf.form
        have I1 := hide (HI.out.kept k1)
        have R1 := hide r1
        have LO : Hid (∀ ad, a1 = some ad → ad.block ≠ b) := hide (fun ad e => by
          obtain ⟨v1, m1, _⟩ := HI.out.mem
          have e1 := lo1 ad e
          have e2 := (m1.lt b (.inl rfl)).2
          omega)
        clear hf k1 r1 lo1 HI HIN
        go_wp2_with (fail)
        obtain ⟨v1, m1, f1, st1⟩ := I1.out.step
        refine (record_p _ n₀ b v1 st 3 a1 ws ws.length cap1 rfl m1 (Nat.le_trans HN.out I1.out.turned.size) R1.out WL.out LO.out z s' E2.out).mono ?_
        rintro e w3 ⟨rfl, d3⟩
        have D3 := hide (Does.then I1.out.turned f1 d3)
        clear d3 st1 m1 f1
        go_wp2
        go_ret
        exact ⟨rfl, D3.out⟩)

set_option maxHeartbeats 4000000 in
theorem lay_p : ∀ f, LayC f
  | 0 => fun _ _ _ _ _ _ _ _ _ _ _ _ _ _ _ _ h => by omega
  | f + 1 => fun W n₀ b v s a ps M cap h hn hr hM hc hcm hm hf ha z s' e1 => by
    have ih := lay_p f
    have hcm' : (cap : Int) ≤ 9223372036854775807 := by unfold maxLen at hcm; omega
    by_cases h0 : M = 0
    · have e2 : recS s 1 [0] = (z, s') := by rw [← e1, layF_succ, if_pos (by omega)]
      have H := hide h
      have HN := hide hn
      have E2 := hide e2
      have g0 : ((M : Int) == 0) = true := by simp [h0]
      clear h hn hr hM ha e1 e2 ih hcm
      go_enter Try.func42, Try.ntmps42
      go_wp2_with (fail)
      refine (empty_c W).mono ?_
      intro e w1 hff
      obtain ⟨a1, cap1, rfl, r1, -, -, lo1, -, k1⟩ := hff.form
      have R1 := hide r1
      have K1 := hide k1
      have LO : Hid (∀ ad, a1 = some ad → ad.block ≠ b) := hide (fun ad e => by
        have e1 := lo1 ad e
        have e2 := (H.out.lt b (.inl rfl)).2
        omega)
      clear hff k1 r1 lo1
      go_wp2_with (fail)
      refine (record_p _ n₀ b v s 1 a1 [0] _ cap1 rfl (H.out.kept K1.out) (Nat.le_trans HN.out K1.out.size) R1.out (by decide) LO.out z s' E2.out).mono ?_
      rintro e w3 ⟨rfl, d3⟩
      have D3 := hide (Does.after K1.out d3)
      clear d3
      go_wp2
      go_ret
      exact ⟨rfl, D3.out⟩
    · by_cases h1 : M = 1
      · subst h1
        obtain ⟨p, rfl⟩ : ∃ p, ps = [p] := List.length_eq_one_iff.1 hM
        have e2 : recS s 2 [p.1, p.2] = (z, s') := by rw [← e1, layF_succ, if_neg (by simp), if_pos (by simp)]; rfl
        obtain ⟨bl, off, rfl⟩ : ∃ bl off, a = some ⟨bl, off, none⟩ := by
          obtain ⟨bl, off, e, _⟩ := hr.at (j := 0) (p := p) rfl
          exact ⟨bl, off, e⟩
        obtain ⟨c1, c2⟩ := preads_head hr (by simp)
        simp only [List.headD_cons] at c1 c2
        obtain ⟨V, hV⟩ : ∃ V, W.drew = V := ⟨_, rfl⟩
        have kV : Kept W V := by rw [← hV]; exact Kept.drew _
        have hna := ha (by simp) _ rfl
        have x1 : ∀ u : Wd (fun U => Turned (Foot b v) V U), u.w.cell? ⟨bl, off, none⟩ = some (.int .i64 p.1) := fun u => u.ok.cell (kV.cell c1 id) hna
        have x2 : ∀ u : Wd (fun U => Turned (Foot b v) V U), u.w.cell? ⟨bl, off + 1, none⟩ = some (.int .i64 p.2) := fun u => u.ok.cell (kV.cell c2 id) hna
        have HV := hide hV
        have KV := hide kV
        have H := hide (h.kept kV)
        have HN := hide (Nat.le_trans hn kV.size)
        have E2 := hide e2
        obtain ⟨p1, p2⟩ := p
        simp only at x1 x2 E2
        clear h hn hr hM ha e1 e2 ih hcm c1 c2 hna hV kV
        go_enter Try.func42, Try.ntmps42
        go_wp2_with (fail)
        refine region_wide [0, 1, 2, 3, 4, 5, 6, 7, 8, 9, 10, 11] (fun U => Turned (Foot b v) V U) (by kernel_rfl) (by kernel_rfl) (by rw [HV.out]; exact Turned.refl _ _) (fun _ => ?_)
        rw [HV.out]
        repeat (refine pq rfl rfl ?_; go_big_quiet_step (fail); refine wpQuiet_nil ?_)
        refine pl rfl rfl ?_
        gi_wp2_with (fail)
        refine ⟨trivial, ?_⟩
        refine (callsIn_wide.2 (leaf_c V p1 p2)).mono ?_
        intro e w1 hff
        obtain ⟨a1, cap1, rfl, r1, -, -, lo1, -, k1⟩ := hff.form
        have R1 := hide r1
        have K1 := hide k1
        have LO : Hid (∀ ad, a1 = some ad → ad.block ≠ b) := hide (fun ad e => by
          have e1 := lo1 ad e
          have e2 := (H.out.lt b (.inl rfl)).2
          omega)
        clear hff k1 r1 lo1
        gi_wp2_with (fail)
        refine ⟨Wd.mem (K1.out.mono (fun _ _ e => e.elim)), ?_⟩
        refine pl rfl rfl ?_
        gi_wp2_with (fail)
        refine ⟨trivial, ?_⟩
        refine (callsIn_wide.2 (record_p _ n₀ b v s 2 a1 [p1, p2] _ cap1 rfl (H.out.kept K1.out) (Nat.le_trans HN.out K1.out.size) R1.out (by simp) LO.out z s' E2.out)).mono ?_
        rintro e w3 ⟨rfl, d3⟩
        have D3 := hide (Does.after (KV.out.trans K1.out) d3)
        have T3 : Hid (Turned (Foot b v) V w3) := hide (by
          obtain ⟨_, _, t3, _⟩ := Does.after K1.out d3
          exact t3)
        clear d3
        gi_wp2_with (fail)
        refine ⟨Wd.mem T3.out, ?_⟩
        repeat (refine pq rfl rfl ?_; go_big_quiet_step (fail); refine wpQuiet_nil ?_)
        refine perm_done ?_
        go_wp2
        go_ret
        exact ⟨rfl, D3.out⟩
      · have HI := hide (layInner_p f ih W n₀ b v s a ps M cap h hn hr hM hc hcm hm hf (by omega) (ha (fun e => by rw [e] at hM; simp at hM; omega)) z s' e1)
        have g0 : ((M : Int) == 0) = false := by simp only [beq_eq_false_iff_ne, ne_eq]; omega
        have g1 : ((M : Int) == 1) = false := by simp only [beq_eq_false_iff_ne, ne_eq]; omega
        clear h hn hr hM ha e1 ih hcm
        go_enter Try.func42, Try.ntmps42
        go_wp2_with (fail)
        refine HI.out.mono ?_
        rintro e w3 ⟨rfl, d3⟩
        have D3 := hide d3
        clear d3
        go_wp2
        go_ret
        exact ⟨rfl, D3.out⟩
end Go.Proofs.Ytgialpjdfeldeaa

/-! What part.Depth and part.Cells, which call themselves, answer, each in one sentence (a contract), for every number that may be handed to them; the world is turned by draws alone. -/
namespace Go.Proofs.Ytgialpjdfeldeaa.Pt
open Go.ChangeShapes Go.WideShapes Go.ChangeAt Go.RowKit

theorem wf_int {a : Int} (h : -9223372036854775808 ≤ a) (h' : a ≤ 9223372036854775807) : (Lit.int .i64 a).wf = true := by
  have h1 : IntKind.min .i64 = -9223372036854775808 := by decide
  have h2 : IntKind.max .i64 = 9223372036854775807 := by decide
  simp only [Lit.wf, h1, h2, Bool.and_eq_true, decide_eq_true_eq]
  exact ⟨h, h'⟩

theorem depth_f (f : Nat) : ∀ (n : Int), n.toNat ≤ f → (Lit.int .i64 n).wf = true → ∀ (w : World),
    Calls Try.prog 36 #[.int .i64 n] w fun e w' => e = .returned (.int .i64 (depZ n)) ∧ ∃ k, w' = w.drewN k := by
  induction f with
  | zero =>
    intro n hf hn w
    have hd := deg_c n hn
    rw [deg_none (by omega)] at hd
    rw [dep_none (by omega)]
    clear hn
    go_enter Try.func36, Try.ntmps36
    go_wp2_with (go_at_call 55; refine (hd _).mono ?_; rintro e w' ⟨rfl, rfl⟩)
    go_ret
    exact ⟨rfl, 0, rfl⟩
  | succ f ih =>
    intro n hf hn w
    have hd := deg_c n hn
    have d := deg_nat n
    by_cases c : degZ n = 0
    · rw [dep_eq, if_pos c]
      rw [c] at hd
      clear hn ih
      go_enter Try.func36, Try.ntmps36
      go_wp2_with (go_at_call 55; refine (hd _).mono ?_; rintro e w' ⟨rfl, rfl⟩)
      go_ret
      exact ⟨rfl, 0, rfl⟩
    · have p := deg_pos (n := n) (by omega)
      have s0 := size_bound (n := n) (i := 0) (by omega) (by omega)
      have s1 := size_bound (n := n) (i := degZ n - 1) (by omega) (by omega)
      have h0 := size_c n 0 hn
      have h1 := size_c n (degZ n - 1) hn
      have i0 := ih (sizeZ n 0) (by omega) (wf_int (by omega) (by omega))
      have i1 := ih (sizeZ n (degZ n - 1)) (by omega) (wf_int (by omega) (by omega))
      have b0 := dep_nat (sizeZ n 0)
      have b1 := dep_nat (sizeZ n (degZ n - 1))
      rw [dep_eq, if_neg c]
      generalize depZ (sizeZ n 0) = u at *
      generalize depZ (sizeZ n (degZ n - 1)) = v at *
      generalize sizeZ n 0 = x at *
      generalize sizeZ n (degZ n - 1) = y at *
      generalize degZ n = z at *
      clear hn ih
      go_enter Try.func36, Try.ntmps36
      go_wp2_with fail
      refine (hd _).mono ?_
      rintro e w' ⟨rfl, rfl⟩
      go_wp2_with fail
      refine (h0 _).mono ?_
      rintro e w' ⟨rfl, k1, rfl⟩
      go_wp2_with fail
      refine (i0 _).mono ?_
      rintro e w' ⟨rfl, k2, rfl⟩
      go_wp2_with fail
      refine (h1 _).mono ?_
      rintro e w' ⟨rfl, k3, rfl⟩
      go_wp2_with fail
      refine (i1 _).mono ?_
      rintro e w' ⟨rfl, k4, rfl⟩
      go_wp2
      go_ret
      exact ⟨rfl, _, rfl⟩
theorem depth_c (n : Int) (hn : (Lit.int .i64 n).wf = true) (w : World) :
    Calls Try.prog 36 #[.int .i64 n] w fun e w' => e = .returned (.int .i64 (depZ n)) ∧ ∃ k, w' = w.drewN k := depth_f n.toNat n (Nat.le_refl _) hn w

theorem cells_f (f : Nat) : ∀ (n : Int), n.toNat ≤ f → (Lit.int .i64 n).wf = true → ∀ (w : World),
    Calls Try.prog 30 #[.int .i64 n] w fun e w' => e = .returned (.int .i64 (celZ n)) ∧ ∃ k, w' = w.drewN k := by
  induction f with
  | zero =>
    intro n hf hn w
    have hn' := bounds_i64 hn
    clear hn
    by_cases c : n < 0
    · have hm := may_no n (Or.inl c)
      rw [cel_none (by omega)]
      go_enter Try.func30, Try.ntmps30
      go_wp2_with (go_at_call 54; refine (hm _).mono ?_; rintro e w' ⟨rfl, rfl⟩)
      go_ret
      exact ⟨rfl, 0, rfl⟩
    · obtain rfl : n = 0 := by omega
      have hm := may_yes 0 (by omega) (by omega)
      rw [cel_is_0]
      go_enter Try.func30, Try.ntmps30
      go_wp2_with (go_at_call 54; refine (hm _).mono ?_; rintro e w' ⟨rfl, rfl⟩)
      go_ret
      exact ⟨rfl, 0, rfl⟩
  | succ f ih =>
    intro n hf hn w
    have hn' := bounds_i64 hn
    by_cases c : n < 0 ∨ 16384 < n
    · have hm := may_no n c
      rw [cel_none c]
      clear hn ih
      go_enter Try.func30, Try.ntmps30
      go_wp2_with (go_at_call 54; refine (hm _).mono ?_; rintro e w' ⟨rfl, rfl⟩)
      go_ret
      exact ⟨rfl, 0, rfl⟩
    · have hm := may_yes n (by omega) (by omega)
      by_cases c0 : n = 0
      · subst c0
        rw [cel_is_0]
        clear hn ih
        go_enter Try.func30, Try.ntmps30
        go_wp2_with (go_at_call 54; refine (hm _).mono ?_; rintro e w' ⟨rfl, rfl⟩)
        go_ret
        exact ⟨rfl, 0, rfl⟩
      · by_cases c1 : n = 1
        · subst c1
          rw [cel_is_1]
          clear hn ih
          go_enter Try.func30, Try.ntmps30
          go_wp2_with (go_at_call 54; refine (hm _).mono ?_; rintro e w' ⟨rfl, rfl⟩)
          go_ret
          exact ⟨rfl, 0, rfl⟩
        · have q0 : (n == 0) = false := by simp; omega
          have q1 : (n == 1) = false := by simp; omega
          have hd := deg_c n hn
          have d := deg_bound (n := n) (by omega) (by omega)
          obtain ⟨e1, e2, e3, e4⟩ := each_bound (n := n) (by omega)
          obtain ⟨s1, s2, s3⟩ := split_eq (n := n) (by omega)
          have hi := ih (eachZ n) (by omega) (wf_int (by omega) (by omega))
          have g1 : n / degZ n = eachZ n := rfl
          have g2 : n % degZ n = moreZ n := rfl
          have kA := cel_nat (eachZ n)
          have kB := cel_nat (eachZ n + 1)
          have pA0 : 0 ≤ (degZ n - moreZ n) * celZ (eachZ n) := Int.mul_nonneg (by omega) (by omega)
          have pA1 : (degZ n - moreZ n) * celZ (eachZ n) ≤ 128 * 163832 := Int.mul_le_mul (by omega) (by omega) (by omega) (by omega)
          have pB0 : 0 ≤ moreZ n * celZ (eachZ n + 1) := Int.mul_nonneg (by omega) (by omega)
          have pB1 : moreZ n * celZ (eachZ n + 1) ≤ 128 * 163832 := Int.mul_le_mul (by omega) (by omega) (by omega) (by omega)
          have wA : wrap64 ((degZ n - moreZ n) * celZ (eachZ n)) = (degZ n - moreZ n) * celZ (eachZ n) := wrap_same (by omega) (by omega)
          have wB : wrap64 (moreZ n * celZ (eachZ n + 1)) = moreZ n * celZ (eachZ n + 1) := wrap_same (by omega) (by omega)
          rw [cel_some (by omega)]
          by_cases cm : 0 < moreZ n
          · have := e4 cm
            have hj := ih (eachZ n + 1) (by omega) (wf_int (by omega) (by omega))
            generalize celZ (eachZ n) = A at *
            generalize celZ (eachZ n + 1) = B at *
            generalize eachZ n = q at *
            generalize moreZ n = m at *
            generalize degZ n = z at *
            obtain ⟨P, hP⟩ : ∃ P, (z - m) * A = P := ⟨_, rfl⟩
            obtain ⟨R, hR⟩ : ∃ R, m * B = R := ⟨_, rfl⟩
            have wA' : wrap64 ((z - m) * A) = P := by rw [wA, hP]
            have wB' : wrap64 (m * B) = R := by rw [wB, hR]
            rw [hP] at pA0 pA1 ⊢
            rw [hR] at pB0 pB1 ⊢
            clear hn ih hP hR wA wB s1 e4
            go_enter Try.func30, Try.ntmps30
            go_wp2_with fail
            refine (hm _).mono ?_
            rintro e w' ⟨rfl, rfl⟩
            go_wp2_with fail
            refine (hd _).mono ?_
            rintro e w' ⟨rfl, rfl⟩
            go_wp2_with fail
            go_quiet (fail)
            go_wp2_with fail
            refine (hi _).mono ?_
            rintro e w' ⟨rfl, k1, rfl⟩
            go_wp2_with fail
            refine (hj _).mono ?_
            rintro e w' ⟨rfl, k2, rfl⟩
            go_wp2
            go_ret
            exact ⟨rfl, _, rfl⟩
          · have cm' : moreZ n = 0 := by omega
            rw [cm', Int.zero_mul]
            rw [cm'] at wA pA0 pA1 g2
            clear pB0 pB1 wB kB e4 s2 s3 cm
            generalize celZ (eachZ n) = A at *
            generalize eachZ n = q at *
            generalize degZ n = z at *
            simp only [Int.sub_zero, Int.add_zero] at wA pA0 pA1 ⊢
            obtain ⟨P, hP⟩ : ∃ P, z * A = P := ⟨_, rfl⟩
            have wA' : wrap64 (z * A) = P := by rw [wA, hP]
            rw [hP] at pA0 pA1 ⊢
            clear hn ih hP wA s1
            go_enter Try.func30, Try.ntmps30
            go_wp2_with fail
            refine (hm _).mono ?_
            rintro e w' ⟨rfl, rfl⟩
            go_wp2_with fail
            refine (hd _).mono ?_
            rintro e w' ⟨rfl, rfl⟩
            go_wp2_with fail
            go_quiet (fail)
            go_wp2_with fail
            refine (hi _).mono ?_
            rintro e w' ⟨rfl, k1, rfl⟩
            go_wp2
            go_ret
            exact ⟨rfl, _, rfl⟩
theorem cells_c (n : Int) (hn : (Lit.int .i64 n).wf = true) (w : World) :
    Calls Try.prog 30 #[.int .i64 n] w fun e w' => e = .returned (.int .i64 (celZ n)) ∧ ∃ k, w' = w.drewN k := cells_f n.toNat n (Nat.le_refl _) hn w
end Go.Proofs.Ytgialpjdfeldeaa.Pt

/-! What plant's keys, Right and Build answer, at any list of pairs that reads so, and at a memory as it lies. No conditions beyond each theorem's own. -/
namespace Go.Proofs.Ytgialpjdfeldeaa
open Go.RowKit
set_option maxRecDepth 20000

/-- The keys, as far as they are filled in. -/
def keyF (ps : List (Int × Int)) (t : Nat) : List Int := ((ps.map Prod.fst).take t) ++ List.replicate (ps.length - t) 0
theorem keyF_len (ps : List (Int × Int)) {t : Nat} (h : t ≤ ps.length) : (keyF ps t).length = ps.length := by
  simp [keyF]; omega
theorem keyF_step {ps : List (Int × Int)} {t : Nat} {p : Int × Int} (h : ps[t]? = some p) : keyF ps (t + 1) = (keyF ps t).set t p.1 := by
  obtain ⟨hl, he⟩ := List.getElem?_eq_some_iff.1 h
  unfold keyF
  have e1 : ((ps.map Prod.fst).take t).length = t := by simp; omega
  rw [List.set_append_right _ _ (by omega), e1, Nat.sub_self]
  obtain ⟨r, hr⟩ : ∃ r, ps.length - t = r + 1 := ⟨ps.length - t - 1, by omega⟩
  rw [hr, List.replicate_succ, List.set_cons_zero, show ps.length - (t + 1) = r by omega, List.take_succ_eq_append_getElem (by simpa using hl)]
  simp [he]
theorem keyF_end (ps : List (Int × Int)) : keyF ps ps.length = ps.map Prod.fst := by
  unfold keyF
  rw [Nat.sub_self, List.replicate_zero, List.append_nil, List.take_of_length_le (by simp)]
theorem row_full (W : World) (n₀ M : Nat) (h : M ≤ 100000) (hb : n₀ ≤ W.heap.size) : Row (W.alloc (.cells (madeCells #[.int .i64 0] M) 2)) n₀ 2 (.slice (some ⟨W.heap.size, 0, none⟩) M M) (List.replicate M 0) := by
  have := World.ownsRow_lit (base := n₀) (e := 2) (size := 1) W (madeCells #[.int .i64 0] M) M hb (by unfold maxLen; omega) (by rw [size_madeCells, Nat.mul_one])
  unfold Row
  rw [List.length_replicate, cellsOf, List.map_replicate, ← toList_madeCells_one]
  exact this
theorem Row.put {W : World} {n₀ g cap M : Nat} {zs : List Int} (h : Row W n₀ 2 (.slice (some ⟨g, 0, none⟩) M cap) zs) (hM : zs.length = M) (j : Nat) (x : Int) : Row (W.setCell ⟨g, j, none⟩ (.int .i64 x)) n₀ 2 (.slice (some ⟨g, 0, none⟩) M cap) (zs.set j x) := by
  subst hM
  obtain ⟨hs, _⟩ := h.stored j (.int .i64 x)
  show World.ownsRow _ n₀ 2 1 _ (zs.set j x).length (cellsOf (zs.set j x))
  rw [List.length_set, cellsOf, List.map_set]
  exact hs

theorem Row.one {W : World} {n₀ g cap M : Nat} {zs : List Int} (h : Row W n₀ 2 (.slice (some ⟨g, 0, none⟩) M cap) zs) (hM : zs.length = M) {j : Nat} (hj : j < M) : (∃ x, W.cell? ⟨g, j, none⟩ = some x) ∧ W.frozen? ⟨g, j, none⟩ = false := by
  subst hM
  refine ⟨?_, h.frozenAt j⟩
  rw [h.cellAt j (by omega)]
  exact ⟨_, List.getElem?_eq_getElem (by simpa using hj)⟩

set_option maxHeartbeats 4000000 in
theorem keys_c (W : World) (a : Option Addr) (ps : List (Int × Int)) (M cap : Nat) (hr : PReads W a ps) (hM : ps.length = M) (hc : M ≤ cap) (hcm : cap ≤ maxLen) (hm : M ≤ 16384) :
    Calls Try.prog 44 #[.slice a M cap] W (Fresh (ps.map Prod.fst) W) := by
  have hcm' : (cap : Int) ≤ 9223372036854775807 := by unfold maxLen at hcm; omega
  have HMK : ∀ w : World, (Instr.makeSlice 35 (.int .i64 (M : Int)) (.int .i64 (M : Int))).run Try.prog w = .ok (.slice (some ⟨w.heap.size, 0, none⟩) M M) (w.alloc (.cells (madeCells #[.int .i64 0] M) 2)) := fun w => run_make_row' 35 2 (.int .i64 0) 8 Try.underlying35 info2_p rfl .i64 .i64 M (by omega) (by omega) w
  have K0 : Kept W (W.alloc (.cells (madeCells #[.int .i64 0] M) 2)) := Turned.alloc _ _ _
  have R0 : Hid (Row (W.alloc (.cells (madeCells #[.int .i64 0] M) 2)) W.heap.size 2 (.slice (some ⟨W.heap.size, 0, none⟩) M M) (keyF ps 0)) := hide (by
    have := row_full W W.heap.size M (by omega) (Nat.le_refl _)
    unfold keyF
    rw [List.take_zero, List.nil_append, Nat.sub_zero, hM]
    exact this)
  have HK := hide K0
  have HR := hide hr
  have HM := hide hM
  clear hr hM hcm K0
  go_enter Try.func44, Try.ntmps44
  go_wp2
  go_loopw [4, 5, 11] (fun _ _ i wr => ∃ t : Nat, t ≤ M ∧ i = .int .i64 t ∧ Hid (Row wr W.heap.size 2 (.slice (some ⟨W.heap.size, 0, none⟩) M M) (keyF ps t)) ∧ Hid (Kept W wr)) (fun _ _ i _ => M - (intOf i).toNat)
  case atStart => exact ⟨0, Nat.zero_le _, rfl, R0, HK⟩
  case round =>
    obtain ⟨t, ht, rfl, RW, KW⟩ := hrel
    clear R0 HK
    by_cases hlt : t < M
    · obtain ⟨p, hp⟩ : ∃ p, ps[t]? = some p := ⟨_, List.getElem?_eq_getElem (by have := HM.out; omega)⟩
      obtain ⟨bl, off, rfl, hbl, g1, g2⟩ := (HR.out.kept KW.out).at hp
      have FS := hide (keyF_step hp)
      have FL : Hid ((keyF ps t).length = M) := hide (by rw [keyF_len ps (by have := HM.out; omega), HM.out])
      obtain ⟨p1, p2⟩ := p
      simp only at g1 g2 FS
      rw [← Nat.add_assoc] at g2
      have i1 : t < cap := by omega
      have RW1 : Hid (Row (wr.alloc (.cells #[.int .i64 p1, .int .i64 p2] 30)) W.heap.size 2 (.slice (some ⟨W.heap.size, 0, none⟩) M M) (keyF ps t)) := hide (RW.out.kept (Turned.alloc _ _ _))
      have KW1 : Hid (Kept W (wr.alloc (.cells #[.int .i64 p1, .int .i64 p2] 30))) := hide (KW.out.alloc _)
      obtain ⟨⟨x, e0⟩, e1⟩ := RW1.out.one FL.out hlt
      have RN : Hid (Row ((wr.alloc (.cells #[.int .i64 p1, .int .i64 p2] 30)).setCell ⟨W.heap.size, t, none⟩ (.int .i64 p1)) W.heap.size 2 (.slice (some ⟨W.heap.size, 0, none⟩) M M) (keyF ps (t + 1))) := hide (by rw [FS.out]; exact RW1.out.put FL.out t p1)
      have KN : Hid (Kept W ((wr.alloc (.cells #[.int .i64 p1, .int .i64 p2] 30)).setCell ⟨W.heap.size, t, none⟩ (.int .i64 p1))) := hide (KW1.out.own (O := fun k => k = W.heap.size) (fun i e => by omega) (Turned.setCell _ _ _ rfl))
      clear hp RW KW RW1 KW1
      go_wp2
      exact ⟨⟨t + 1, by omega, by simp, RN, KN⟩, by simp [intOf]; omega⟩
    · obtain rfl : t = M := by omega
      have E : Hid (keyF ps t = ps.map Prod.fst) := hide (by rw [← HM.out]; exact keyF_end ps)
      have L : Hid ((keyF ps t).length = t) := hide (by rw [E.out, List.length_map, HM.out])
      go_wp2
      go_ret
      exact ⟨_, rfl, by have := RW.out; rw [E.out] at this; exact this, KW.out⟩

/-- Are the keys strictly ascending, and not too many? -/
def ascB (ps : List (Int × Int)) : Bool := decide (ps.length ≤ 16384 ∧ (ps.map Prod.fst).Pairwise (· < ·))
theorem ascB_iff {ps : List (Int × Int)} : ascB ps = true ↔ ps.length ≤ 16384 ∧ (ps.map Prod.fst).Pairwise (· < ·) := by simp [ascB]
theorem right_p (W : World) (a : Option Addr) (ps : List (Int × Int)) (M cap : Nat) (hr : PReads W a ps) (hM : ps.length = M) (hc : M ≤ cap) (hcm : cap ≤ maxLen) (r : Bool) (e1 : ascB ps = r) :
    Calls Try.prog 14 #[.slice a M cap] W fun e W' => e = .returned (.bool r) ∧ Kept W W' := by
  have hcm' : (M : Int) ≤ 9223372036854775807 := by unfold maxLen at hcm; omega
  by_cases hm : M ≤ 16384
  · have HK := hide (keys_c W a ps M cap hr hM hc hcm hm)
    have E : Hid (Pb.upB (ps.map Prod.fst) = r) := hide (by
      rw [← e1]
      unfold Pb.upB ascB
      exact decide_eq_decide.2 ⟨fun h => ⟨by omega, h.2⟩, fun h => ⟨by rw [List.length_map]; omega, h.2⟩⟩)
    have i1 : (M : Int) ≤ 16384 := by omega
    have HL : Hid ((ps.map Prod.fst).length ≤ 16384) := hide (by rw [List.length_map, hM]; exact hm)
    clear hr hM hcm hm e1
    go_enter Try.func14, Try.ntmps14
    go_wp2_with (fail)
    refine HK.out.mono ?_
    intro e w1 hf
    obtain ⟨a1, cap1, rfl, r1, c1, m1, -, -, k1⟩ := hf.form
    have HR := hide (Pb.right_c w1 a1 _ cap1 r1 c1 m1)
    rw [E.out] at HR
    have K1 := hide k1
    clear hf r1 c1 m1 k1 E
    generalize ps.map Prod.fst = q at *
    go_wp2_with (fail)
    refine HR.out.mono ?_
    rintro e w2 ⟨rfl, m, rfl⟩
    go_wp2
    go_ret
    exact ⟨rfl, K1.out.drewN' _⟩
  · have E : Hid (r = false) := hide (by rw [← e1]; unfold ascB; rw [hM]; simp; omega)
    have i1 : ¬ (M : Int) ≤ 16384 := by omega
    rw [E.out]
    clear hr hM hcm hm e1
    go_enter Try.func14, Try.ntmps14
    go_wp2
    go_ret
    exact ⟨rfl, Kept.refl _⟩

/-- What Build makes of a memory, and what it answers. -/
def buildS (s : Mst) (ps : List (Int × Int)) : (Int × Bool) × Mst :=
  if ascB ps = true ∧ Pt.celZ ps.length ≤ s.size - s.xs.length then (((layF (ps.length + 1) s ps).1, true), (layF (ps.length + 1) s ps).2) else ((0, false), s)
theorem build_p (W : World) (n₀ b : Nat) (v : Value) (s : Mst) (a : Option Addr) (ps : List (Int × Int)) (M cap : Nat) (h : PMem W n₀ b v s) (hn : n₀ ≤ W.heap.size) (hr : PReads W a ps) (hM : ps.length = M) (hc : M ≤ cap) (hcm : cap ≤ maxLen) (ha : ps ≠ [] → ∀ ad, a = some ad → ¬ Foot b v ad.block) (z : Int) (r : Bool) (s' : Mst) (e1 : buildS s ps = ((z, r), s')) :
    Calls Try.prog 11 #[.pointer (some ⟨b, 0, none⟩), .slice a M cap] W fun e W' => e = .returned (.tuple #[.int .i64 z, .bool r]) ∧ Does 66 layP n₀ b v s' W W' := by
  have H := hide h
  have HRG := fun r => right_p W a ps M cap hr hM hc hcm r
  have hcm' : (M : Int) ≤ 9223372036854775807 := by unfold maxLen at hcm; omega
  have hl := h.len
  have hroom := h.room
  have htop := h.top
  cases hb : ascB ps with
  | false =>
    have HR := hide (HRG false hb)
    rw [buildS, if_neg (by rw [hb]; simp)] at e1
    simp only [Prod.mk.injEq] at e1
    obtain ⟨⟨rfl, rfl⟩, rfl⟩ := e1
    clear h hn hr hM hcm ha HRG hb
    go_enter Try.func11, Try.ntmps11
    go_wp2_with (fail)
    refine HR.out.mono ?_
    rintro e w1 ⟨rfl, k1⟩
    have D1 := hide (Does.same (H.out.kept k1) (k1.mono (fun _ _ e => e.elim)))
    clear k1
    go_wp2
    go_ret2
    exact ⟨rfl, D1.out⟩
  | true =>
    have HR := hide (HRG true hb)
    have hm : M ≤ 16384 := by rw [← hM]; exact (ascB_iff.1 hb).1
    have HC := hide (Pt.cells_c (M : Int) (I64.wf ⟨by omega, by omega⟩))
    have cb := Pt.cel_nat (M : Int)
    obtain ⟨C, hC⟩ : ∃ C, Pt.celZ (M : Int) = C := ⟨_, rfl⟩
    rw [hC] at HC cb
    by_cases hfit : C ≤ s.size - (s.xs.length : Int)
    · rw [buildS, if_pos ⟨hb, by rw [hM, hC]; exact hfit⟩, hM] at e1
      simp only [Prod.mk.injEq] at e1
      obtain ⟨⟨e1, rfl⟩, e2⟩ := e1
      have e3 : layF (M + 1) s ps = (z, s') := by rw [← e1, ← e2]
      have HLAY : Hid (∀ w1, Kept W w1 → Calls Try.prog 42 #[.pointer (some ⟨b, 0, none⟩), .slice a M cap] w1 fun e W' => e = .returned (.int .i64 z) ∧ Does 66 layP n₀ b v s' w1 W') := hide (fun w1 k1 => lay_p (M + 1) w1 n₀ b v s a ps M cap (H.out.kept k1) (Nat.le_trans hn k1.size) (hr.kept k1) hM hc hcm hm (by omega) ha z s' e3)
      have g1 : ¬ s.size - (s.xs.length : Int) < C := by omega
      clear h hn hr hM hcm ha HRG hb e1 e2 e3 hC hm
      go_enter Try.func11, Try.ntmps11
      go_wp2_with (fail)
      refine HR.out.mono ?_
      rintro e w1 ⟨rfl, k1⟩
      have K1 := hide k1
      clear k1
      go_wp2_with (fail)
      refine (HC.out w1).mono ?_
      rintro e w2 ⟨rfl, m, rfl⟩
      have K2 := hide (K1.out.drewN' m)
      clear K1
      go_wp2_with (fail)
      refine (size_c _ n₀ b v s (H.out.kept K2.out)).mono ?_
      rintro e w3 ⟨rfl, rfl⟩
      go_wp2_with (fail)
      refine (used_c _ n₀ b v s (H.out.kept K2.out)).mono ?_
      rintro e w3 ⟨rfl, rfl⟩
      go_wp2_with (fail)
      refine (HLAY.out _ K2.out).mono ?_
      rintro e w4 ⟨rfl, d4⟩
      have D4 := hide (Does.after K2.out d4)
      clear d4
      go_wp2
      go_ret2
      exact ⟨rfl, D4.out⟩
    · rw [buildS, if_neg (by rw [hM, hC]; exact fun h => hfit h.2)] at e1
      simp only [Prod.mk.injEq] at e1
      obtain ⟨⟨rfl, rfl⟩, rfl⟩ := e1
      have g1 : s.size - (s.xs.length : Int) < C := by omega
      clear h hn hr hM hcm ha HRG hb hC hm
      go_enter Try.func11, Try.ntmps11
      go_wp2_with (fail)
      refine HR.out.mono ?_
      rintro e w1 ⟨rfl, k1⟩
      have K1 := hide k1
      clear k1
      go_wp2_with (fail)
      refine (HC.out w1).mono ?_
      rintro e w2 ⟨rfl, m, rfl⟩
      have K2 := hide (K1.out.drewN' m)
      clear K1
      go_wp2_with (fail)
      refine (size_c _ n₀ b v s (H.out.kept K2.out)).mono ?_
      rintro e w3 ⟨rfl, rfl⟩
      go_wp2_with (fail)
      refine (used_c _ n₀ b v s (H.out.kept K2.out)).mono ?_
      rintro e w3 ⟨rfl, rfl⟩
      have D1 := hide (Does.same (H.out.kept K2.out) (K2.out.mono (fun _ _ e => e.elim)))
      go_wp2
      go_ret2
      exact ⟨rfl, D1.out⟩
end Go.Proofs.Ytgialpjdfeldeaa

/-! What plant.Build answers at a memory that was made since w ('now_build'); the counts; what known answers, and PlantKnown. No conditions beyond each theorem's own. -/
namespace Go.Proofs.Ytgialpjdfeldeaa
open Go.RowKit
set_option maxRecDepth 20000

theorem count_n (w W : World) (b : Nat) (s : Mst) (r : Int) (h : Now w W b s) (e1 : s.count = r) : Calls Try.prog 13 #[.pointer (some ⟨b, 0, none⟩)] W fun e W' => e = .returned (.int .i64 r) ∧ W = W' := by
  obtain ⟨⟨v, h⟩, hk⟩ := h
  subst e1
  obtain ⟨⟨c0, c1, c2, c3, c4⟩, _⟩ := PMem.opened h
  clear h
  go_enter Try.func13, Try.ntmps13
  go_wp2
  go_ret
  exact ⟨rfl, rfl⟩
theorem refused_n (w W : World) (b : Nat) (s : Mst) (r : Int) (h : Now w W b s) (e1 : s.ref = r) : Calls Try.prog 12 #[.pointer (some ⟨b, 0, none⟩)] W fun e W' => e = .returned (.int .i64 r) ∧ W = W' := by
  obtain ⟨⟨v, h⟩, hk⟩ := h
  subst e1
  obtain ⟨⟨c0, c1, c2, c3, c4⟩, _⟩ := PMem.opened h
  clear h
  go_enter Try.func12, Try.ntmps12
  go_wp2
  go_ret
  exact ⟨rfl, rfl⟩
theorem odd_n (w W : World) (b : Nat) (s : Mst) (r : Int) (h : Now w W b s) (e1 : s.odd = r) : Calls Try.prog 37 #[.pointer (some ⟨b, 0, none⟩)] W fun e W' => e = .returned (.int .i64 r) ∧ W = W' := by
  obtain ⟨⟨v, h⟩, hk⟩ := h
  subst e1
  obtain ⟨⟨c0, c1, c2, c3, c4⟩, _⟩ := PMem.opened h
  clear h
  go_enter Try.func37, Try.ntmps37
  go_wp2
  go_ret
  exact ⟨rfl, rfl⟩
/-- A new block of these pairs. -/
theorem preads_lit (W : World) (ps : List (Int × Int)) (T : TypeId) : PReads (W.alloc (.cells (flat ps).toArray T)) (some ⟨W.heap.size, 0, none⟩) ps := by
  refine .inr ⟨_, 0, rfl, fun j p hp => ?_⟩
  have hb : (W.alloc (.cells (flat ps).toArray T)).heap[W.heap.size]? = some (.cells (flat ps).toArray T) := heap_new W _
  obtain ⟨h1, h2⟩ := flat_at hp
  unfold World.cell?
  rw [hb]
  simp [h1, h2]
/-- Build, at a memory made since w. -/
theorem now_build (w W : World) (b : Nat) (s : Mst) (a : Option Addr) (ps : List (Int × Int)) (M cap : Nat) (h : Now w W b s) (hr : PReads W a ps) (hM : ps.length = M) (hc : M ≤ cap) (hcm : cap ≤ maxLen) (ha : ∀ v, PMem W w.heap.size b v s → ∀ ad, a = some ad → ¬ Foot b v ad.block) (z : Int) (r : Bool) (s' : Mst) (e1 : buildS s ps = ((z, r), s')) :
    Calls Try.prog 11 #[.pointer (some ⟨b, 0, none⟩), .slice a M cap] W fun e W' => e = .returned (.tuple #[.int .i64 z, .bool r]) ∧ Now w W' b s' := by
  obtain ⟨⟨v, h⟩, hk⟩ := h
  exact (build_p W w.heap.size b v s a ps M cap h hk.size hr hM hc hcm (fun _ => ha v h) z r s' e1).mono fun _ _ ⟨h1, h2⟩ => ⟨h1, Now.did h hk h2⟩
/-- .. of a literal. -/
theorem now_blit (w W : World) (b : Nat) (s : Mst) (ps : List (Int × Int)) (M : Nat) (h : Now w W b s) (hM : ps.length = M) (hl : M ≤ 100) (z : Int) (r : Bool) (s' : Mst) (e1 : buildS s ps = ((z, r), s')) :
    Calls Try.prog 11 #[.pointer (some ⟨b, 0, none⟩), .slice (some ⟨W.heap.size, 0, none⟩) M M] (W.alloc (.cells (flat ps).toArray 30)) fun e W' => e = .returned (.tuple #[.int .i64 z, .bool r]) ∧ Now w W' b s' := by
  obtain ⟨⟨v, h0⟩, hk⟩ := id h
  refine now_build w _ b s _ ps M M (h.on (Turned.alloc _ _ _)) (preads_lit W ps 30) hM (Nat.le_refl _) (by unfold maxLen; omega) (fun v' h' ad e hf => ?_) z r s' e1
  cases e
  have e1 := PMem.opened h0
  have e2 := PMem.opened (h0.kept (Turned.alloc (fun _ => False) W (.cells (flat ps).toArray 30)))
  have e3 := PMem.opened h'
  have : v = v' := by
    have := e2.1.1.symm.trans e3.1.1
    exact Option.some.inj this
  subst this
  have := (h0.lt _ hf).2
  simp only at this
  omega

theorem kn_1 : buildS (Mst.new 64) [(1, 10), (2, 20), (3, 30)] = ((123, true), ⟨[1, 10, 2, 20, 2, 2, 0, 0, 0, 2, 10, 26, 3, 30, 2, 3, 0, 0, 0, 3, 43, 106], 64, 5, 0, 0⟩) := by kernel_rfl
theorem known_c (w : World) : Calls Try.prog 10 #[] w fun e w' => e = .returned (.bool true) ∧ Kept w w' := by
  go_enter Try.func10, Try.ntmps10
  go_wp2_with (fail)
  refine (now_new w w 64 (Kept.refl w) (by decide) (by decide)).mono ?_
  rintro e W1 ⟨rfl, h1, -⟩
  have H1 := hide h1
  clear h1
  go_wp2_with (fail)
  refine (now_blit w W1 _ _ [(1, 10), (2, 20), (3, 30)] 3 H1.out rfl (by decide) _ _ _ kn_1).mono ?_
  rintro e W2 ⟨rfl, h2⟩
  have H2 := hide h2
  clear h2 H1
  go_wp2_with (fail)
  refine (now_used w W2 _ _ 22 H2.out rfl).mono ?_
  rintro e W3 ⟨rfl, rfl⟩
  go_wp2_with (fail)
  refine (now_cells w W2 _ _ H2.out).mono ?_
  rintro e W3 ⟨a, cap, rfl, hr, hc, hm, -, -, hk⟩
  have HW := hide (words_lit W3 a _ cap hr hc hm)
  have HK := hide (H2.out.2.trans hk)
  clear hr hc hm hk H2
  go_wp2_with (fail)
  refine HW.out.mono ?_
  rintro e W4 ⟨rfl, k4⟩
  have K4 := hide (HK.out.trans k4)
  clear k4
  go_wp2
  go_ret
  exact ⟨rfl, K4.out⟩

theorem kn_2 : buildS (Mst.new 3) [(1, 0), (1, 0)] = ((0, false), ⟨[], 3, 0, 0, 0⟩) := by kernel_rfl
theorem kn_3 : buildS ⟨[], 3, 0, 0, 0⟩ [(1, 0), (2, 0)] = ((0, false), ⟨[], 3, 0, 0, 0⟩) := by kernel_rfl
theorem kn_4 : buildS ⟨[], 3, 0, 0, 0⟩ [(-9223372036854775808, 4)] = ((10, true), ⟨[-9223372036854775808, 4], 3, 1, 0, 0⟩) := by kernel_rfl
theorem kn_5 : buildS ⟨[-9223372036854775808, 4], 3, 1, 0, 0⟩ [] = ((25, true), ⟨[-9223372036854775808, 4, 0], 3, 2, 0, 0⟩) := by kernel_rfl
theorem kn_6 : buildS ⟨[-9223372036854775808, 4, 0], 3, 2, 0, 0⟩ [] = ((0, false), ⟨[-9223372036854775808, 4, 0], 3, 2, 0, 0⟩) := by kernel_rfl
theorem now_bnil (w W : World) (b : Nat) (s : Mst) (h : Now w W b s) (z : Int) (r : Bool) (s' : Mst) (e1 : buildS s [] = ((z, r), s')) :
    Calls Try.prog 11 #[.pointer (some ⟨b, 0, none⟩), .slice none 0 0] W fun e W' => e = .returned (.tuple #[.int .i64 z, .bool r]) ∧ Now w W' b s' :=
  now_build w W b s none [] 0 0 h (.inl rfl) rfl (Nat.le_refl _) (Nat.zero_le _) (fun _ _ _ e => by cases e) z r s' e1
theorem plantKnown_c (w : World) : Calls Try.prog 3 #[] w fun e w' => e = .returned (.bool true) ∧ Kept w w' := by
  go_enter Try.func3, Try.ntmps3
  go_wp2_with (fail)
  refine (now_new w w 3 (Kept.refl w) (by decide) (by decide)).mono ?_
  rintro e W1 ⟨rfl, h1, -⟩
  have H1 := hide h1
  clear h1
  go_wp2_with (fail)
  refine (known_c _).mono ?_
  rintro e W2 ⟨rfl, k2⟩
  have H2 := hide (H1.out.on k2)
  clear k2 H1
  go_wp2_with (fail)
  refine (now_blit w W2 _ _ [(1, 0), (1, 0)] 2 H2.out rfl (by decide) _ _ _ kn_2).mono ?_
  rintro e W3 ⟨rfl, h3⟩
  have H3 := hide h3
  clear h3 H2
  go_wp2_with (fail)
  refine (now_blit w W3 _ _ [(1, 0), (2, 0)] 2 H3.out rfl (by decide) _ _ _ kn_3).mono ?_
  rintro e W4 ⟨rfl, h4⟩
  have H4 := hide h4
  clear h4 H3
  go_wp2_with (fail)
  refine (now_blit w W4 _ _ [(-9223372036854775808, 4)] 1 H4.out rfl (by decide) _ _ _ kn_4).mono ?_
  rintro e W5 ⟨rfl, h5⟩
  have H5 := hide h5
  clear h5 H4
  go_wp2_with (fail)
  refine (now_bnil w W5 _ _ H5.out _ _ _ kn_5).mono ?_
  rintro e W6 ⟨rfl, h6⟩
  have H6 := hide h6
  clear h6 H5
  go_wp2_with (fail)
  refine (now_bnil w W6 _ _ H6.out _ _ _ kn_6).mono ?_
  rintro e W7 ⟨rfl, h7⟩
  have H7 := hide h7
  clear h7 H6
  go_wp2_with (fail)
  refine (refused_n w W7 _ _ 0 H7.out rfl).mono ?_
  rintro e W ⟨rfl, rfl⟩
  go_wp2_with (fail)
  refine (count_n w W7 _ _ 2 H7.out rfl).mono ?_
  rintro e W ⟨rfl, rfl⟩
  go_wp2_with (fail)
  refine (right_p W7 none [] 0 0 (.inl rfl) rfl (Nat.le_refl _) (Nat.zero_le _) true (by kernel_rfl)).mono ?_
  rintro e W8 ⟨rfl, k8⟩
  have H8 := hide (H7.out.on k8)
  clear k8 H7
  go_wp2_with (fail)
  refine (right_p _ _ [(2, 0), (1, 0)] 2 2 (preads_lit W8 [(2, 0), (1, 0)] 30) rfl (Nat.le_refl _) (by decide) false (by kernel_rfl)).mono ?_
  rintro e W9 ⟨rfl, k9⟩
  have H9 := hide (H8.out.on (((Kept.refl W8).alloc _).trans k9))
  clear k9 H8
  go_wp2_with (fail)
  refine (now_cells w W9 _ _ H9.out).mono ?_
  rintro e WA ⟨a, cap, rfl, hr, hc, hm, -, -, hk⟩
  have HW := hide (words_lit WA a _ cap hr hc hm)
  have HK := hide (H9.out.2.trans hk)
  clear hr hc hm hk H9
  go_wp2_with (fail)
  refine HW.out.mono ?_
  rintro e WB ⟨rfl, k4⟩
  have K4 := hide (HK.out.trans k4)
  clear k4
  go_wp2
  go_ret
  exact ⟨rfl, K4.out⟩
end Go.Proofs.Ytgialpjdfeldeaa

/-! Maps in order as lists of pairs that rise strictly: put, del, get, floor, ceil, what lies between two keys; how each goes over a list cut at a key. Plain lists, over any order that is told by a Bool ('Lin'). No conditions beyond each theorem's own. -/
namespace Go.Proofs.Ytgialpjdfeldeaa.Mp
variable {α β : Type}

/-- A strict order of all. -/
structure Lin (lt : α → α → Bool) : Prop where
  irr : ∀ a, lt a a = false
  tr : ∀ {a b c}, lt a b = true → lt b c = true → lt a c = true
  tri : ∀ {a b}, lt a b = false → lt b a = false → a = b

def ltI : Int → Int → Bool := fun a b => decide (a < b)
theorem linI : Lin ltI := ⟨fun a => by simp [ltI], fun h k => by simp [ltI] at *; omega, fun h k => by simp [ltI] at *; omega⟩

variable (lt : α → α → Bool)
def put : List (α × β) → α → β → List (α × β)
  | [], k, v => [(k, v)]
  | x :: l, k, v => if lt k x.1 then (k, v) :: x :: l else if lt x.1 k then x :: put l k v else (k, v) :: l
def del : List (α × β) → α → List (α × β)
  | [], _ => []
  | x :: l, k => if lt k x.1 then x :: l else if lt x.1 k then x :: del l k else l
def get : List (α × β) → α → Option β
  | [], _ => none
  | x :: l, k => if lt k x.1 then none else if lt x.1 k then get l k else some x.2
/-- The last one whose key is not above k. -/
def floor : List (α × β) → α → Option (α × β)
  | [], _ => none
  | x :: l, k => if lt k x.1 then none else match floor l k with | some y => some y | none => some x
/-- The first one whose key is not below k. -/
def ceil : List (α × β) → α → Option (α × β)
  | [], _ => none
  | x :: l, k => if lt x.1 k then ceil l k else some x
/-- Those from lo to hi. -/
def between (l : List (α × β)) (lo hi : α) : List (α × β) := l.filter fun x => !lt x.1 lo && !lt hi x.1

/-- It rises strictly. -/
def Asc (l : List (α × β)) : Prop := l.Pairwise fun x y => lt x.1 y.1 = true

variable {lt}
theorem Lin.asym (L : Lin lt) {a b : α} (h : lt a b = true) : lt b a = false := by
  cases h' : lt b a with
  | false => rfl
  | true =>
    have := L.tr h h'
    rw [L.irr] at this
    cases this

theorem asc_cut {xs ys : List (α × β)} {x : α × β} (h : Asc lt (xs ++ x :: ys)) : Asc lt xs ∧ Asc lt ys ∧ (∀ y ∈ xs, lt y.1 x.1 = true) ∧ ∀ y ∈ ys, lt x.1 y.1 = true := by
  unfold Asc at *
  rw [List.pairwise_append, List.pairwise_cons] at h
  exact ⟨h.1, h.2.1.2, fun y hy => h.2.2 y hy x (List.mem_cons_self ..), h.2.1.1⟩

theorem asc_join (L : Lin lt) {xs ys : List (α × β)} {x : α × β} (h1 : Asc lt xs) (h2 : Asc lt ys) (h3 : ∀ y ∈ xs, lt y.1 x.1 = true) (h4 : ∀ y ∈ ys, lt x.1 y.1 = true) : Asc lt (xs ++ x :: ys) := by
  unfold Asc at *
  rw [List.pairwise_append, List.pairwise_cons]
  refine ⟨h1, ⟨h4, h2⟩, fun a ha b hb => ?_⟩
  rcases List.mem_cons.1 hb with rfl | hb
  · exact h3 a ha
  · exact L.tr (h3 a ha) (h4 b hb)

/-! ### put -/
theorem put_low {xs ys : List (α × β)} {n : α × β} {k : α} {v : β} (h : lt k n.1 = true) : put lt (xs ++ n :: ys) k v = put lt xs k v ++ n :: ys := by
  induction xs with
  | nil => simp [put, h]
  | cons x xs ih =>
    simp only [List.cons_append, put]
    split
    · rfl
    · split
      · rw [ih]; rfl
      · rfl
theorem put_high (L : Lin lt) {xs ys : List (α × β)} {n : α × β} {k : α} {v : β} (h : lt n.1 k = true) (hx : ∀ y ∈ xs, lt y.1 n.1 = true) : put lt (xs ++ n :: ys) k v = xs ++ n :: put lt ys k v := by
  induction xs with
  | nil => simp [put, h, L.asym h]
  | cons x xs ih =>
    have h1 := L.tr (hx x (List.mem_cons_self ..)) h
    simp only [List.cons_append, put, L.asym h1, h1, Bool.false_eq_true, if_false, if_true]
    rw [ih fun y hy => hx y (List.mem_cons_of_mem _ hy)]
theorem put_eq (L : Lin lt) {xs ys : List (α × β)} {n : α × β} {k : α} {v : β} (h : k = n.1) (hx : ∀ y ∈ xs, lt y.1 n.1 = true) : put lt (xs ++ n :: ys) k v = xs ++ (k, v) :: ys := by
  subst h
  induction xs with
  | nil => simp [put, L.irr]
  | cons x xs ih =>
    have h1 := hx x (List.mem_cons_self ..)
    simp only [List.cons_append, put, L.asym h1, h1, Bool.false_eq_true, if_false, if_true]
    rw [ih fun y hy => hx y (List.mem_cons_of_mem _ hy)]
theorem mem_put {xs : List (α × β)} {k : α} {v : β} {y : α × β} (h : y ∈ put lt xs k v) : y = (k, v) ∨ y ∈ xs := by
  induction xs with
  | nil => simpa [put] using h
  | cons x xs ih =>
    unfold put at h
    split at h
    · simpa using h
    · split at h
      · rcases List.mem_cons.1 h with rfl | h
        · exact .inr (List.mem_cons_self ..)
        · exact (ih h).imp id (List.mem_cons_of_mem _)
      · rcases List.mem_cons.1 h with rfl | h
        · exact .inl rfl
        · exact .inr (List.mem_cons_of_mem _ h)
theorem asc_put (L : Lin lt) {xs : List (α × β)} {k : α} {v : β} (h : Asc lt xs) : Asc lt (put lt xs k v) := by
  induction xs with
  | nil => simp [put, Asc]
  | cons x xs ih =>
    unfold Asc at *
    obtain ⟨h1, h2⟩ := List.pairwise_cons.1 h
    unfold put
    split
    · rename_i hk
      refine List.pairwise_cons.2 ⟨fun y hy => ?_, h⟩
      rcases List.mem_cons.1 hy with rfl | hy
      · exact hk
      · exact L.tr hk (h1 y hy)
    · rename_i hk
      split
      · rename_i hk'
        refine List.pairwise_cons.2 ⟨fun y hy => ?_, ih h2⟩
        rcases mem_put hy with rfl | hy
        · exact hk'
        · exact h1 y hy
      · rename_i hk'
        have e : k = x.1 := L.tri (by simpa using hk) (by simpa using hk')
        subst e
        exact List.pairwise_cons.2 ⟨fun y hy => h1 y hy, h2⟩
theorem length_put {xs : List (α × β)} {k : α} {v : β} : (put lt xs k v).length = match get lt xs k with | some _ => xs.length | none => xs.length + 1 := by
  induction xs with
  | nil => simp [put, get]
  | cons x xs ih =>
    unfold put get
    split
    · simp
    · split
      · simp only [List.length_cons, ih]
        split <;> rfl
      · simp
theorem length_put_le {xs : List (α × β)} {k : α} {v : β} : (put lt xs k v).length ≤ xs.length + 1 := by
  induction xs with
  | nil => simp [put]
  | cons x xs ih =>
    unfold put
    split
    · simp
    · split
      · simp only [List.length_cons]; omega
      · simp

/-! ### del -/
theorem del_low {xs ys : List (α × β)} {n : α × β} {k : α} (h : lt k n.1 = true) : del lt (xs ++ n :: ys) k = del lt xs k ++ n :: ys := by
  induction xs with
  | nil => simp [del, h]
  | cons x xs ih =>
    simp only [List.cons_append, del]
    split
    · rfl
    · split
      · rw [ih]; rfl
      · rfl
theorem del_high (L : Lin lt) {xs ys : List (α × β)} {n : α × β} {k : α} (h : lt n.1 k = true) (hx : ∀ y ∈ xs, lt y.1 n.1 = true) : del lt (xs ++ n :: ys) k = xs ++ n :: del lt ys k := by
  induction xs with
  | nil => simp [del, h, L.asym h]
  | cons x xs ih =>
    have h1 := L.tr (hx x (List.mem_cons_self ..)) h
    simp only [List.cons_append, del, L.asym h1, h1, Bool.false_eq_true, if_false, if_true]
    rw [ih fun y hy => hx y (List.mem_cons_of_mem _ hy)]
theorem del_eq (L : Lin lt) {xs ys : List (α × β)} {n : α × β} {k : α} (h : k = n.1) (hx : ∀ y ∈ xs, lt y.1 n.1 = true) : del lt (xs ++ n :: ys) k = xs ++ ys := by
  subst h
  induction xs with
  | nil => simp [del, L.irr]
  | cons x xs ih =>
    have h1 := hx x (List.mem_cons_self ..)
    simp only [List.cons_append, del, L.asym h1, h1, Bool.false_eq_true, if_false, if_true]
    rw [ih fun y hy => hx y (List.mem_cons_of_mem _ hy)]
theorem del_sub {xs : List (α × β)} {k : α} : (del lt xs k).Sublist xs := by
  induction xs with
  | nil => exact List.Sublist.refl _
  | cons x xs ih =>
    unfold del
    split
    · exact List.Sublist.refl _
    · split
      · exact ih.cons_cons _
      · exact List.sublist_cons_self ..
theorem asc_del {xs : List (α × β)} {k : α} (h : Asc lt xs) : Asc lt (del lt xs k) := List.Pairwise.sublist del_sub h
theorem length_del {xs : List (α × β)} {k : α} : (del lt xs k).length = match get lt xs k with | some _ => xs.length - 1 | none => xs.length := by
  induction xs with
  | nil => simp [del, get]
  | cons x xs ih =>
    unfold del get
    split
    · simp
    · split
      · simp only [List.length_cons, ih]
        cases hg : get lt xs k with
        | none => rfl
        | some v =>
          simp only []
          cases xs with
          | nil => simp [get] at hg
          | cons y ys => simp
      · simp
theorem del_none {xs : List (α × β)} {k : α} (h : get lt xs k = none) : del lt xs k = xs := by
  induction xs with
  | nil => rfl
  | cons x xs ih =>
    unfold get at h
    unfold del
    split
    · rfl
    · rename_i h1
      rw [if_neg h1] at h
      split
      · rename_i h2
        rw [if_pos h2] at h
        rw [ih h]
      · rename_i h2
        rw [if_neg h2] at h
        cases h

/-! ### get -/
theorem get_low {xs ys : List (α × β)} {n : α × β} {k : α} (h : lt k n.1 = true) : get lt (xs ++ n :: ys) k = get lt xs k := by
  induction xs with
  | nil => simp [get, h]
  | cons x xs ih =>
    simp only [List.cons_append, get]
    split
    · rfl
    · split
      · exact ih
      · rfl
theorem get_high (L : Lin lt) {xs ys : List (α × β)} {n : α × β} {k : α} (h : lt n.1 k = true) (hx : ∀ y ∈ xs, lt y.1 n.1 = true) : get lt (xs ++ n :: ys) k = get lt ys k := by
  induction xs with
  | nil => simp [get, h, L.asym h]
  | cons x xs ih =>
    have h1 := L.tr (hx x (List.mem_cons_self ..)) h
    simp only [List.cons_append, get, L.asym h1, h1, Bool.false_eq_true, if_false, if_true]
    exact ih fun y hy => hx y (List.mem_cons_of_mem _ hy)
theorem get_eq (L : Lin lt) {xs ys : List (α × β)} {n : α × β} {k : α} (h : k = n.1) (hx : ∀ y ∈ xs, lt y.1 n.1 = true) : get lt (xs ++ n :: ys) k = some n.2 := by
  subst h
  induction xs with
  | nil => simp [get, L.irr]
  | cons x xs ih =>
    have h1 := hx x (List.mem_cons_self ..)
    simp only [List.cons_append, get, L.asym h1, h1, Bool.false_eq_true, if_false, if_true]
    exact ih fun y hy => hx y (List.mem_cons_of_mem _ hy)

/-! ### floor, ceil -/
theorem floor_low {xs ys : List (α × β)} {n : α × β} {k : α} (h : lt k n.1 = true) : floor lt (xs ++ n :: ys) k = floor lt xs k := by
  induction xs with
  | nil => simp [floor, h]
  | cons x xs ih => simp only [List.cons_append, floor, ih]
theorem floor_high (L : Lin lt) {xs ys : List (α × β)} {n : α × β} {k : α} (h : lt k n.1 = false) (hx : ∀ y ∈ xs, lt y.1 n.1 = true) : floor lt (xs ++ n :: ys) k = match floor lt ys k with | some y => some y | none => some n := by
  induction xs with
  | nil => simp [floor, h]
  | cons x xs ih =>
    have h0 := hx x (List.mem_cons_self ..)
    have h1 : lt k x.1 = false := by
      cases h' : lt k x.1 with
      | false => rfl
      | true =>
        have := L.tr h' h0
        rw [h] at this
        cases this
    simp only [List.cons_append, floor, h1, Bool.false_eq_true, if_false]
    rw [ih fun y hy => hx y (List.mem_cons_of_mem _ hy)]
    cases floor lt ys k <;> rfl
theorem ceil_low {xs ys : List (α × β)} {n : α × β} {k : α} (h : lt n.1 k = false) : ceil lt (xs ++ n :: ys) k = match ceil lt xs k with | some y => some y | none => some n := by
  induction xs with
  | nil => simp [ceil, h]
  | cons x xs ih =>
    simp only [List.cons_append, ceil]
    split
    · exact ih
    · rfl
theorem ceil_high (L : Lin lt) {xs ys : List (α × β)} {n : α × β} {k : α} (h : lt n.1 k = true) (hx : ∀ y ∈ xs, lt y.1 n.1 = true) : ceil lt (xs ++ n :: ys) k = ceil lt ys k := by
  induction xs with
  | nil => simp [ceil, h]
  | cons x xs ih =>
    have h1 := L.tr (hx x (List.mem_cons_self ..)) h
    simp only [List.cons_append, ceil, h1, if_true]
    exact ih fun y hy => hx y (List.mem_cons_of_mem _ hy)
end Go.Proofs.Ytgialpjdfeldeaa.Mp

/-! Maps in order as lists, at whole numbers: what floor, ceil and get tell, by what is in the list. No conditions beyond each theorem's own. -/
namespace Go.Proofs.Ytgialpjdfeldeaa.Mp
variable {β : Type}

theorem ltI_true {a b : Int} : ltI a b = true ↔ a < b := by simp [ltI]
theorem ltI_false {a b : Int} : ltI a b = false ↔ b ≤ a := by simp [ltI]

theorem floor_spec {xs : List (Int × β)} {k : Int} (h : Asc ltI xs) : match floor ltI xs k with
    | none => ∀ y ∈ xs, k < y.1
    | some p => p ∈ xs ∧ p.1 ≤ k ∧ ∀ y ∈ xs, y.1 ≤ k → y.1 ≤ p.1 := by
  induction xs with
  | nil => simp [floor]
  | cons x xs ih =>
    obtain ⟨h1, h2⟩ := List.pairwise_cons.1 h
    have ih := ih h2
    unfold floor
    by_cases hx : k < x.1
    · rw [if_pos (ltI_true.2 hx)]
      intro y hy
      rcases List.mem_cons.1 hy with rfl | hy
      · exact hx
      · have := ltI_true.1 (h1 y hy)
        omega
    · rw [if_neg (by rw [ltI_true]; exact hx)]
      cases hf : floor ltI xs k with
      | none =>
        rw [hf] at ih
        refine ⟨List.mem_cons_self .., by omega, fun y hy hk => ?_⟩
        rcases List.mem_cons.1 hy with rfl | hy
        · omega
        · have := ih y hy
          omega
      | some p =>
        rw [hf] at ih
        refine ⟨List.mem_cons_of_mem _ ih.1, ih.2.1, fun y hy hk => ?_⟩
        rcases List.mem_cons.1 hy with rfl | hy
        · have := ltI_true.1 (h1 p ih.1)
          omega
        · exact ih.2.2 y hy hk

theorem ceil_spec {xs : List (Int × β)} {k : Int} (h : Asc ltI xs) : match ceil ltI xs k with
    | none => ∀ y ∈ xs, y.1 < k
    | some p => p ∈ xs ∧ k ≤ p.1 ∧ ∀ y ∈ xs, k ≤ y.1 → p.1 ≤ y.1 := by
  induction xs with
  | nil => simp [ceil]
  | cons x xs ih =>
    obtain ⟨h1, h2⟩ := List.pairwise_cons.1 h
    have ih := ih h2
    unfold ceil
    by_cases hx : x.1 < k
    · rw [if_pos (ltI_true.2 hx)]
      cases hf : ceil ltI xs k with
      | none =>
        rw [hf] at ih
        intro y hy
        rcases List.mem_cons.1 hy with rfl | hy
        · exact hx
        · exact ih y hy
      | some p =>
        rw [hf] at ih
        refine ⟨List.mem_cons_of_mem _ ih.1, ih.2.1, fun y hy hk => ?_⟩
        rcases List.mem_cons.1 hy with rfl | hy
        · omega
        · exact ih.2.2 y hy hk
    · rw [if_neg (by rw [ltI_true]; exact hx)]
      refine ⟨List.mem_cons_self .., by omega, fun y hy hk => ?_⟩
      rcases List.mem_cons.1 hy with rfl | hy
      · omega
      · have := ltI_true.1 (h1 y hy)
        omega

theorem get_none {xs : List (Int × β)} {k : Int} (h : Asc ltI xs) (hg : get ltI xs k = none) : ∀ y ∈ xs, y.1 ≠ k := by
  induction xs with
  | nil => simp
  | cons x xs ih =>
    obtain ⟨h1, h2⟩ := List.pairwise_cons.1 h
    unfold get at hg
    by_cases hx : k < x.1
    · intro y hy
      rcases List.mem_cons.1 hy with rfl | hy
      · omega
      · have := ltI_true.1 (h1 y hy)
        omega
    · rw [if_neg (by rw [ltI_true]; exact hx)] at hg
      by_cases hx' : x.1 < k
      · rw [if_pos (ltI_true.2 hx')] at hg
        intro y hy
        rcases List.mem_cons.1 hy with rfl | hy
        · omega
        · exact ih h2 hg y hy
      · rw [if_neg (by rw [ltI_true]; exact hx')] at hg
        cases hg
theorem get_some {xs : List (Int × β)} {k : Int} {v : β} (hg : get ltI xs k = some v) : (k, v) ∈ xs := by
  induction xs with
  | nil => simp [get] at hg
  | cons x xs ih =>
    unfold get at hg
    by_cases hx : k < x.1
    · rw [if_pos (ltI_true.2 hx)] at hg
      cases hg
    · rw [if_neg (by rw [ltI_true]; exact hx)] at hg
      by_cases hx' : x.1 < k
      · rw [if_pos (ltI_true.2 hx')] at hg
        exact List.mem_cons_of_mem _ (ih hg)
      · rw [if_neg (by rw [ltI_true]; exact hx')] at hg
        cases hg
        have e : k = x.1 := by omega
        rw [e]
        exact List.mem_cons_self ..

/-- What lies near a key: the key itself; or what is below it, and what is above. -/
theorem near_cases {xs : List (Int × Int)} (k : Int) (h : Asc ltI xs) :
    (∃ v u t, get ltI xs k = some v ∧ floor ltI xs k = some (k, u) ∧ ceil ltI xs k = some (k, t)) ∨
    (get ltI xs k = none ∧ (∀ y ∈ xs, y.1 ≠ k) ∧ ((floor ltI xs k = none ∧ ∀ y ∈ xs, k < y.1) ∨ ∃ a u, floor ltI xs k = some (a, u) ∧ a < k ∧ ∀ y ∈ xs, y.1 ≤ k → y.1 ≤ a) ∧
      ((ceil ltI xs k = none ∧ ∀ y ∈ xs, y.1 < k) ∨ ∃ b t, ceil ltI xs k = some (b, t) ∧ k < b ∧ ∀ y ∈ xs, k ≤ y.1 → b ≤ y.1)) := by
  have hf := floor_spec (k := k) h
  have hc := ceil_spec (k := k) h
  cases hg : get ltI xs k with
  | some v =>
    have hm := get_some hg
    refine .inl ⟨v, ?_⟩
    cases hF : floor ltI xs k with
    | none =>
      rw [hF] at hf
      have := hf _ hm
      simp at this
    | some p =>
      rw [hF] at hf
      have e1 := hf.2.2 _ hm (Int.le_refl _)
      have e2 := hf.2.1
      cases hC : ceil ltI xs k with
      | none =>
        rw [hC] at hc
        have := hc _ hm
        simp at this
      | some q =>
        rw [hC] at hc
        have e3 := hc.2.2 _ hm (Int.le_refl _)
        have e4 := hc.2.1
        simp only at e1 e3
        exact ⟨p.2, q.2, rfl, by rw [show p = (k, p.2) from Prod.ext (by simp; omega) rfl], by rw [show q = (k, q.2) from Prod.ext (by simp; omega) rfl]⟩
  | none =>
    have hn := get_none h hg
    refine .inr ⟨rfl, hn, ?_, ?_⟩
    · cases hF : floor ltI xs k with
      | none =>
        rw [hF] at hf
        exact .inl ⟨rfl, hf⟩
      | some p =>
        rw [hF] at hf
        have := hn p hf.1
        exact .inr ⟨p.1, p.2, rfl, by have := hf.2.1; omega, hf.2.2⟩
    · cases hC : ceil ltI xs k with
      | none =>
        rw [hC] at hc
        exact .inl ⟨rfl, hc⟩
      | some q =>
        rw [hC] at hc
        have := hn q hc.1
        exact .inr ⟨q.1, q.2, rfl, by have := hc.2.1; omega, hc.2.2⟩
end Go.Proofs.Ytgialpjdfeldeaa.Mp

/-! Maps in order as lists, at whole numbers, by the place of a key: how many keys are below it. No conditions beyond each theorem's own. -/
namespace Go.Proofs.Ytgialpjdfeldeaa.Mp

/-- How many keys, from the first on, are below k. -/
def place (xs : List (Int × Int)) (k : Int) : Nat := (xs.takeWhile fun p => decide (p.1 < k)).length
theorem place_nil (k : Int) : place [] k = 0 := rfl
theorem place_cons (x : Int × Int) (xs : List (Int × Int)) (k : Int) : place (x :: xs) k = if x.1 < k then place xs k + 1 else 0 := by
  unfold place
  by_cases h : x.1 < k <;> simp [h]
theorem place_le : (xs : List (Int × Int)) → (k : Int) → place xs k ≤ xs.length
  | [], _ => Nat.le_refl _
  | x :: xs, k => by
    have := place_le xs k
    rw [place_cons]
    simp only [List.length_cons]
    split <;> omega
theorem place_below : {xs : List (Int × Int)} → {k : Int} → {j : Nat} → {p : Int × Int} → j < place xs k → xs[j]? = some p → p.1 < k
  | [], _, _, _, h, _ => by simp [place_nil] at h
  | x :: xs, k, j, p, h, hp => by
    rw [place_cons] at h
    split at h
    · rename_i hx
      cases j with
      | zero =>
        obtain rfl : x = p := by simpa using hp
        exact hx
      | succ j => exact place_below (xs := xs) (j := j) (by omega) (by simpa using hp)
    · omega
theorem place_stop : {xs : List (Int × Int)} → {k : Int} → {p : Int × Int} → xs[place xs k]? = some p → k ≤ p.1
  | [], _, _, h => by simp at h
  | x :: xs, k, p, h => by
    rw [place_cons] at h
    split at h
    · exact place_stop (xs := xs) (by simpa using h)
    · obtain rfl : x = p := by simpa using h
      omega

/-- Whether the key at its place is k. -/
def hit (xs : List (Int × Int)) (k : Int) : Bool := match xs[place xs k]? with | some p => p.1 == k | none => false

theorem get_place : (xs : List (Int × Int)) → (k : Int) → get ltI xs k = if hit xs k then (xs[place xs k]?).map Prod.snd else none
  | [], k => by simp [get, hit]
  | x :: xs, k => by
    have ih := get_place xs k
    unfold get
    by_cases h1 : k < x.1
    · have e : hit (x :: xs) k = false := by
        have : place (x :: xs) k = 0 := by rw [place_cons, if_neg (by omega)]
        simp only [hit, this, List.getElem?_cons_zero, beq_eq_false_iff_ne, ne_eq]
        omega
      rw [if_pos (ltI_true.2 h1), e]
      rfl
    · rw [if_neg (by rw [ltI_true]; exact h1)]
      by_cases h2 : x.1 < k
      · have : place (x :: xs) k = place xs k + 1 := by rw [place_cons, if_pos h2]
        have e : hit (x :: xs) k = hit xs k := by simp only [hit, this, List.getElem?_cons_succ]
        rw [if_pos (ltI_true.2 h2), ih, e, this, List.getElem?_cons_succ]
      · have : place (x :: xs) k = 0 := by rw [place_cons, if_neg h2]
        have e : x.1 = k := by omega
        rw [if_neg (by rw [ltI_true]; exact h2)]
        simp [hit, this, e]
theorem put_place : (xs : List (Int × Int)) → (k v : Int) → put ltI xs k v = xs.take (place xs k) ++ (k, v) :: xs.drop (if hit xs k then place xs k + 1 else place xs k)
  | [], k, v => by simp [put, place_nil]
  | x :: xs, k, v => by
    have ih := put_place xs k v
    unfold put
    by_cases h1 : k < x.1
    · have hp : place (x :: xs) k = 0 := by rw [place_cons, if_neg (by omega)]
      have e : hit (x :: xs) k = false := by
        simp only [hit, hp, List.getElem?_cons_zero, beq_eq_false_iff_ne, ne_eq]
        omega
      rw [if_pos (ltI_true.2 h1), e, hp]
      rfl
    · rw [if_neg (by rw [ltI_true]; exact h1)]
      by_cases h2 : x.1 < k
      · have hp : place (x :: xs) k = place xs k + 1 := by rw [place_cons, if_pos h2]
        have e : hit (x :: xs) k = hit xs k := by simp only [hit, hp, List.getElem?_cons_succ]
        rw [if_pos (ltI_true.2 h2), ih, e, hp]
        cases hit xs k <;> simp
      · have hp : place (x :: xs) k = 0 := by rw [place_cons, if_neg h2]
        have e : hit (x :: xs) k = true := by
          simp only [hit, hp, List.getElem?_cons_zero, beq_iff_eq]
          omega
        rw [if_neg (by rw [ltI_true]; exact h2), e, hp]
        simp
theorem del_place : (xs : List (Int × Int)) → (k : Int) → del ltI xs k = xs.take (place xs k) ++ xs.drop (if hit xs k then place xs k + 1 else place xs k)
  | [], k => by simp [del]
  | x :: xs, k => by
    have ih := del_place xs k
    unfold del
    by_cases h1 : k < x.1
    · have hp : place (x :: xs) k = 0 := by rw [place_cons, if_neg (by omega)]
      have e : hit (x :: xs) k = false := by
        simp only [hit, hp, List.getElem?_cons_zero, beq_eq_false_iff_ne, ne_eq]
        omega
      rw [if_pos (ltI_true.2 h1), e, hp]
      rfl
    · rw [if_neg (by rw [ltI_true]; exact h1)]
      by_cases h2 : x.1 < k
      · have hp : place (x :: xs) k = place xs k + 1 := by rw [place_cons, if_pos h2]
        have e : hit (x :: xs) k = hit xs k := by simp only [hit, hp, List.getElem?_cons_succ]
        rw [if_pos (ltI_true.2 h2), ih, e, hp]
        cases hit xs k <;> simp
      · have hp : place (x :: xs) k = 0 := by rw [place_cons, if_neg h2]
        have e : hit (x :: xs) k = true := by
          simp only [hit, hp, List.getElem?_cons_zero, beq_iff_eq]
          omega
        rw [if_neg (by rw [ltI_true]; exact h2), e, hp]
        simp
theorem ceil_place : (xs : List (Int × Int)) → (k : Int) → ceil ltI xs k = xs[place xs k]?
  | [], k => rfl
  | x :: xs, k => by
    have ih := ceil_place xs k
    unfold ceil
    by_cases h : x.1 < k
    · rw [if_pos (ltI_true.2 h), ih, place_cons, if_pos h]
      simp
    · rw [if_neg (by rw [ltI_true]; exact h), place_cons, if_neg h]
      simp
theorem floor_place {xs : List (Int × Int)} (k : Int) (ha : Asc ltI xs) : floor ltI xs k = if hit xs k then xs[place xs k]? else if place xs k = 0 then none else xs[place xs k - 1]? := by
  induction xs with
  | nil => simp [floor, hit, place_nil]
  | cons x xs ih =>
    obtain ⟨a1, a2⟩ := List.pairwise_cons.1 ha
    have ih := ih a2
    unfold floor
    by_cases h1 : k < x.1
    · have hp : place (x :: xs) k = 0 := by rw [place_cons, if_neg (by omega)]
      have e : hit (x :: xs) k = false := by
        simp only [hit, hp, List.getElem?_cons_zero, beq_eq_false_iff_ne, ne_eq]
        omega
      rw [if_pos (ltI_true.2 h1), e, hp]
      rfl
    · rw [if_neg (by rw [ltI_true]; exact h1)]
      by_cases h2 : x.1 < k
      · have hp : place (x :: xs) k = place xs k + 1 := by rw [place_cons, if_pos h2]
        have e : hit (x :: xs) k = hit xs k := by simp only [hit, hp, List.getElem?_cons_succ]
        rw [ih, e, hp]
        cases hh : hit xs k with
        | true =>
          simp only [if_true, List.getElem?_cons_succ]
          cases hg : xs[place xs k]? with
          | none => simp [hit, hg] at hh
          | some p => rfl
        | false =>
          simp only [Bool.false_eq_true, if_false, Nat.add_one_ne_zero, Nat.add_sub_cancel]
          by_cases h0 : place xs k = 0
          · rw [if_pos h0, h0]
            rfl
          · rw [if_neg h0]
            obtain ⟨q, hq⟩ : ∃ q, place xs k = q + 1 := ⟨place xs k - 1, by omega⟩
            have hl := place_le xs k
            rw [hq]
            simp only [Nat.add_sub_cancel, List.getElem?_cons_succ]
            rw [List.getElem?_eq_getElem (by omega)]
      · have hp : place (x :: xs) k = 0 := by rw [place_cons, if_neg h2]
        have e : hit (x :: xs) k = true := by
          simp only [hit, hp, List.getElem?_cons_zero, beq_iff_eq]
          omega
        have hf : floor ltI xs k = none := by
          cases xs with
          | nil => rfl
          | cons y ys =>
            unfold floor
            rw [if_pos (ltI_true.2 (by have := ltI_true.1 (a1 y (List.mem_cons_self ..)); omega))]
        rw [hf, e, hp]
        rfl
end Go.Proofs.Ytgialpjdfeldeaa.Mp
