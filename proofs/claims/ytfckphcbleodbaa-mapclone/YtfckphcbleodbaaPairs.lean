/-
  Slices of pairs: how they read ('PReads'), and a box that holds a slice of pairs that owns its row ('Pst'): each pair is two cells, one behind the other. No conditions beyond each theorem's own.
-/
import Derived.Test.YtfckphcbleodbaaKnown
import Derived.Test.YtfckphcbleodbaaTail
import Derived.Maps.OwnIn
import Derived.Maps.AppendAt
namespace Go.Proofs.Ytfckphcbleodbaa
open Go.RowKit Go.Shelf

/-- The cells of pairs, one behind the other. -/
def flat : List (Int × Int) → List Value
  | [] => []
  | p :: xs => .int .i64 p.1 :: .int .i64 p.2 :: flat xs
theorem flat_append : (xs ys : List (Int × Int)) → flat (xs ++ ys) = flat xs ++ flat ys
  | [], _ => rfl
  | p :: xs, ys => by simp [flat, flat_append xs ys]
theorem flat_length : (xs : List (Int × Int)) → (flat xs).length = xs.length * 2
  | [] => rfl
  | p :: xs => by simp [flat, flat_length xs]; omega
theorem flat_at : {xs : List (Int × Int)} → {j : Nat} → {p : Int × Int} → xs[j]? = some p → (flat xs)[j * 2]? = some (.int .i64 p.1) ∧ (flat xs)[j * 2 + 1]? = some (.int .i64 p.2)
  | x :: xs, 0, p, h => by
    obtain rfl : x = p := by simpa using h
    exact ⟨rfl, rfl⟩
  | x :: xs, j + 1, p, h => by
    have := flat_at (xs := xs) (j := j) (p := p) (by simpa using h)
    rw [show (j + 1) * 2 = j * 2 + 1 + 1 by omega]
    simpa [flat] using this
theorem flat_one : (xs : List (Int × Int)) → ∀ u ∈ flat xs, u.oneCell' = true
  | [] => by simp [flat]
  | p :: xs => by
    intro u hu
    simp only [flat, List.mem_cons] at hu
    rcases hu with rfl | rfl | hu
    · rfl
    · rfl
    · exact flat_one xs u hu

/-- A slice value that reads as these pairs, from its block's beginning on. -/
def PReads (w : World) (a : Option Addr) (xs : List (Int × Int)) : Prop :=
  xs = [] ∨ ∃ bl, a = some ⟨bl, 0, none⟩ ∧ ∀ j p, xs[j]? = some p → w.cell? ⟨bl, j * 2, none⟩ = some (.int .i64 p.1) ∧ w.cell? ⟨bl, j * 2 + 1, none⟩ = some (.int .i64 p.2)
theorem PReads.turned {w w' : World} {a : Option Addr} {xs : List (Int × Int)} (h : PReads w a xs) {R : Nat → Prop} (ht : Turned R w w') (hR : ∀ k, (Value.slice a 0 0).ownBlock = some k → ¬ R k) : PReads w' a xs := by
  rcases h with h | ⟨bl, rfl, h⟩
  · exact .inl h
  · refine .inr ⟨bl, rfl, fun j p hp => ?_⟩
    have hn := hR bl rfl
    exact ⟨ht.cell (h j p hp).1 hn, ht.cell (h j p hp).2 hn⟩
theorem PReads.kept {w w' : World} {a : Option Addr} {xs : List (Int × Int)} (h : PReads w a xs) (ht : Kept w w') : PReads w' a xs := h.turned ht (fun _ _ e => e)
theorem PReads.at {w : World} {a : Option Addr} {xs : List (Int × Int)} (h : PReads w a xs) {j : Nat} {p : Int × Int} (hp : xs[j]? = some p) : ∃ bl, a = some ⟨bl, 0, none⟩ ∧ bl < w.heap.size ∧ w.cell? ⟨bl, j * 2, none⟩ = some (.int .i64 p.1) ∧ w.cell? ⟨bl, j * 2 + 1, none⟩ = some (.int .i64 p.2) := by
  rcases h with h | ⟨bl, ha, hc⟩
  · rw [h] at hp
    simp at hp
  · exact ⟨bl, ha, World.block_lt_of_cell? _ _ (hc j p hp).1, hc j p hp⟩

/-- A slice of pairs that owns its row reads as they are. -/
theorem preads_of_row {w : World} {n₀ : Nat} {v : Value} {xs : List (Int × Int)} (h : w.ownsRow n₀ 45 2 v xs.length (flat xs)) : ∃ a cap, v = .slice a xs.length cap ∧ PReads w a xs ∧ xs.length ≤ cap := by
  rcases h.2 with ⟨rfl, h0⟩ | ⟨g, cap, cur, rfl, _, _, hc, _⟩
  · obtain rfl := List.length_eq_zero_iff.1 h0
    exact ⟨none, 0, rfl, .inl rfl, Nat.le_refl _⟩
  · refine ⟨_, cap, rfl, .inr ⟨g, rfl, fun j p hp => ?_⟩, hc⟩
    have hj := (List.getElem?_eq_some_iff.1 hp).1
    rw [h.cellAt (j * 2) (by omega), h.cellAt (j * 2 + 1) (by omega)]
    exact flat_at hp

/-- A box at b that holds a slice of pairs, which owns its row; all from n₀ on. -/
structure Pst (w : World) (n₀ b : Nat) (v : Value) (xs : List (Int × Int)) : Prop where
  le : n₀ ≤ b
  box : Boxed w b 39 v
  row : w.ownsRow n₀ 45 2 v xs.length (flat xs)
namespace Pst
variable {w w' : World} {n₀ b : Nat} {v : Value} {xs : List (Int × Int)}
theorem row_turned (h : w.ownsRow n₀ 45 2 v xs.length (flat xs)) {R : Nat → Prop} (ht : Turned R w w') (hn : ∀ g, v.ownBlock = some g → ¬ R g) : w'.ownsRow n₀ 45 2 v xs.length (flat xs) := by
  obtain ⟨h1, h2⟩ := h
  refine ⟨h1, ?_⟩
  rcases h2 with h2 | ⟨g, cap, cur, rfl, hg, hh, r⟩
  · exact .inl h2
  · exact .inr ⟨g, cap, cur, rfl, hg, ht.heap hh (hn g rfl), r⟩
theorem turned (h : Pst w n₀ b v xs) {R : Nat → Prop} (ht : Turned R w w') (hn : ∀ k, Foot b v k → ¬ R k) : Pst w' n₀ b v xs :=
  ⟨h.le, ht.boxed h.box (hn b (.inl rfl)), row_turned h.row ht (fun g hg => hn g (.inr hg))⟩
theorem kept (h : Pst w n₀ b v xs) (ht : Kept w w') : Pst w' n₀ b v xs := h.turned ht (fun _ _ e => e)
theorem lt (h : Pst w n₀ b v xs) : ∀ k, Foot b v k → n₀ ≤ k ∧ k < w.heap.size := by
  rintro k (rfl | hk)
  · exact ⟨h.le, h.box.lt⟩
  · exact h.row.lt k hk
theorem new (w : World) (n₀ : Nat) (h : n₀ ≤ w.heap.size) : Pst (w.alloc (.cells #[.slice none 0 0] 39)) n₀ w.heap.size (.slice none 0 0) [] :=
  ⟨h, Boxed.new w 39 _, rfl, .inl ⟨rfl, rfl⟩⟩
/-- Its blocks are no nodes and no map's box. -/
theorem notNode (h : Pst w n₀ b v xs) {k : Nat} (hk : Foot b v k) {T : TypeId} (h1 : T ≠ 39) (h2 : T ≠ 45) : ¬ IsNode T w k := by
  rintro ⟨cs, hc⟩
  rcases hk with rfl | hk
  · rw [show w.heap[k]? = _ from h.box] at hc
    cases hc
    exact h1 rfl
  · rcases h.row.2 with ⟨rfl, _⟩ | ⟨g, cap, cur, rfl, _, hg, _⟩
    · simp [Value.ownBlock] at hk
    · obtain rfl : g = k := by simpa [Value.ownBlock] using hk
      rw [hg] at hc
      cases hc
      exact h2 rfl
theorem not_other (h : Pst w n₀ b v xs) {k : Nat} {t : TypeId} {u : Value} (hb : Boxed w k t u) (h1 : t ≠ 39) (h2 : t ≠ 45) : ¬ Foot b v k := fun hk => h.notNode hk h1 h2 ⟨_, hb⟩
theorem not_map (h : Pst w n₀ b v xs) {k : Nat} {p : Value} {n : Int} (hb : MapAt 26 w k p n) : ¬ Foot b v k := fun hk => h.notNode hk (T := 26) (by decide) (by decide) ⟨_, hb⟩
end Pst

theorem info45 : (Try.prog.info? 45).map (fun i => (i.zero, i.size, i.bytes)) = some (some (.agg #[.int .i64 0, .int .i64 0]), 2, 16) := by kernel_rfl

/-- What collecting one more pair leaves. -/
def Grew (n₀ b : Nat) (v : Value) (ys : List (Int × Int)) (w w' : World) : Prop :=
  ∃ v', Pst w' n₀ b v' ys ∧ Turned (Foot b v) w w' ∧ ∀ k, Foot b v' k → Foot b v k ∨ w.heap.size ≤ k

theorem grew_of {w w1 : World} {n₀ b : Nat} {v v' : Value} {xs ys : List (Int × Int)} {tmp : Obj} (hn : n₀ ≤ w.heap.size) (h : Pst w n₀ b v xs)
    (hown : w1.ownsRow n₀ 45 2 v' ys.length (flat ys)) (hgrow : (w.alloc tmp).grownBy w1 v.ownBlock) (hnew : v'.ownBlock = v.ownBlock ∨ v'.ownBlock = some (w.alloc tmp).heap.size) :
    Boxed w1 b 39 v ∧ Grew n₀ b v ys w (w1.setCell ⟨b, 0, none⟩ v') := by
  obtain ⟨hv1, hv2, hr2, hk2, hb2⟩ := h.box.appended (by decide) h.row hn h.le hown hgrow
  refine ⟨hv1, v', ⟨h.le, hv2, hr2⟩, ?_, ?_⟩
  · have h1 : Turned (Foot b v) w (w.alloc tmp) := Turned.alloc _ _ _
    have h2 : Turned (Foot b v) (w.alloc tmp) w1 := Turned.of_grownBy hgrow (fun k hk => .inr hk)
    have h3 : Turned (Foot b v) w1 (w1.setCell ⟨b, 0, none⟩ v') := Turned.setCell _ _ _ (.inl rfl)
    exact (h1.trans h2 (fun _ h => h) (fun _ _ h => h)).trans h3 (fun _ h => h) (fun _ _ h => h)
  · rintro k (rfl | hk)
    · exact .inl (.inl rfl)
    · rcases hnew with e | e
      · exact .inl (.inr (by rw [← e]; exact hk))
      · right
        rw [e] at hk
        simp at hk
        omega

/-- The invariant of a loop that collects pairs in a box at b. -/
def Coll (n₀ b : Nat) (f : List (Int × Int) → List (Int × Int)) : Inv (Int × Int) := fun O pre A => ∃ v, (∀ j, O j ↔ Foot b v j) ∧ Pst A n₀ b v (f pre)
theorem Coll.good (n₀ b : Nat) (f : List (Int × Int) → List (Int × Int)) : Good (Coll n₀ b f) := by
  constructor
  · rintro O pre A B ⟨v, hO, hp⟩ ht
    exact ⟨v, hO, hp.turned ht (fun k hk hn => hn ((hO k).2 hk))⟩
  · rintro O pre A ⟨v, hO, hp⟩ k hk
    exact (hp.lt k ((hO k).1 hk)).2
/-- One more has come. -/
theorem Coll.next {n₀ b : Nat} {f : List (Int × Int) → List (Int × Int)} {O : Nat → Prop} {pre ys : List (Int × Int)} {v : Value} {A A' : World} (hO : ∀ j, O j ↔ Foot b v j) (h : Grew n₀ b v ys A A') (e : f pre = ys) :
    ∃ O', Sub O' O A.heap.size ∧ Turned O A A' ∧ Coll n₀ b f O' pre A' := by
  obtain ⟨v', hp, ht, hs⟩ := h
  refine ⟨Foot b v', fun k hk => (hs k hk).imp (fun h => (hO k).2 h) id, ht.mono (fun k _ hk => (hO k).2 hk), v', fun _ => Iff.rfl, by rw [e]; exact hp⟩
end Go.Proofs.Ytfckphcbleodbaa
