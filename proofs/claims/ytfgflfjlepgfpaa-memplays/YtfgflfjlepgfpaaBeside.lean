/-
  Two memories that lie apart, beside blocks that are neither's ('PairX'); an append of any slice that reads as numbers to a row of one's own ('wpList_append_reads'). No conditions beyond each theorem's own.
-/
import Derived.Test.YtfgflfjlepgfpaaTwo
import Derived.Test.YtfgflfjlepgfpaaMakeD
import Derived.Test.YtfgflfjlepgfpaaApart
import Derived.Maps.OwnIn
namespace Go.Proofs.Ytfgflfjlepgfpaa
open Go.RowKit

theorem wpList_append_reads {w : World} {ops : Array Oper} {rest : List Oper} {o : Oper} {a : Act} {Q : Exit → Act → World → Prop} (hgd : o.guard = none) (s x : Operand)
    (ho : o.op = .call { callee := .builtin .append, args := #[s, x], argTypes := #[28, 28] }) (base : Nat) (v : Value) (k : Nat) (xs : List Value) (hs : a.eval s = v) (hown : w.ownsRow base 2 1 v k xs)
    (aw : Option Addr) (ws : List Int) (cw : Nat) (hx : a.eval x = .slice aw ws.length cw) (hr : Reads w aw ws) (h0 : aw = none → cw = 0) (hl : k + ws.length ≤ 1000000) (hbase : base ≤ w.heap.size)
    (h : ∀ v' w', w'.ownsRow base 2 1 v' (k + ws.length) (xs ++ cellsOf ws) → w.grownBy w' v.ownBlock → (v'.ownBlock = v.ownBlock ∨ v'.ownBlock = some w.heap.size) → wpList Try.prog ops Q rest (a.put o.dst v') w') :
    wpList Try.prog ops Q (o :: rest) a w := by
  obtain ⟨i0, hi, hz0, hz1, hz2⟩ := info_parts info2_p
  cases aw with
  | none =>
    have e0 : ws = [] := by
      rcases hr with e | ⟨_, _, e, _⟩
      · exact e
      · cases e
    subst e0
    obtain rfl := h0 rfl
    refine wpList_plain hgd fun K hK => ?_
    have hrun := run_append_owned_none (P := Try.prog) (w := w) base 28 o.type 2 i0 1 Try.underlying28 hi v k xs hown
    unfold Oper.wp execOp
    simp only [ho, resolve, invoke, builtin, Sem.run_bind, Sem.run_pure, Result.andThen_ok, List.map_toArray, List.map_cons, List.map_nil, hs, hx, List.length_nil, hrun]
    exact hK _ _ (h v w (by simpa using hown) (World.grownBy.refl _ _) (.inl rfl))
  | some ad =>
    by_cases e0 : ws = []
    · subst e0
      exact wpList_append_own_at w hgd s x 28 ho base 2 i0 (.int .i64 0) 1 8 Try.underlying28 hi hz0 hz1 hz2 rfl (by decide) v k xs hs hown ad 0 cw [] hx rfl (by simp) (by simp) (by simp at hl; unfold maxLen; omega) (by simp at hl; omega) hbase (fun v' w' h1 h2 _ h4 => h v' w' (by simpa using h1) h2 h4)
    · obtain ⟨bl, off, e, hrow⟩ : ∃ bl off, some ad = some ⟨bl, off, none⟩ ∧ ∀ j z, ws[j]? = some z → w.cell? ⟨bl, off + j, none⟩ = some (.int .i64 z) := by
        rcases hr with e | h
        · exact (e0 e).elim
        · exact h
      obtain rfl : ad = ⟨bl, off, none⟩ := Option.some.inj e
      exact wpList_append_own_at w hgd s x 28 ho base 2 i0 (.int .i64 0) 1 8 Try.underlying28 hi hz0 hz1 hz2 rfl (by decide) v k xs hs hown ⟨bl, off, none⟩ ws.length cw (cellsOf ws) hx (by simp) (news_p hrow) (ints_oneCell _ _) (by unfold maxLen; omega) (by omega) hbase (fun v' w' h1 h2 _ h4 => h v' w' h1 h2 h4)

theorem Some.of_block {w w' : World} {n₀ n : Nat} {v : Value} (h : Some w n₀ v n) (hb : ∀ k, v.ownBlock = some k → w'.heap[k]? = w.heap[k]?) : Some w' n₀ v n := by
  obtain ⟨ys, h1, h2⟩ := h
  refine ⟨ys, h1, ?_⟩
  rcases h2 with h2 | ⟨g, cap, cur, rfl, hg, hh, r⟩
  · exact .inl h2
  · exact .inr ⟨g, cap, cur, rfl, hg, (hb g rfl).trans hh, r⟩

section
variable {T1 T2 : TypeId} {lay1 lay2 : Value → Int → Int → Int → Int → Array Value}
/-- Two memories made since w, that lie apart, and the blocks X apart from both. -/
def PairX (X : Nat → Prop) (T1 : TypeId) (lay1 : Value → Int → Int → Int → Int → Array Value) (T2 : TypeId) (lay2 : Value → Int → Int → Int → Int → Array Value) (w W : World) (b1 : Nat) (s1 : Mst) (b2 : Nat) (s2 : Mst) : Prop :=
  ∃ v1 v2, MemAt T1 lay1 W w.heap.size b1 v1 s1 ∧ MemAt T2 lay2 W w.heap.size b2 v2 s2 ∧ (∀ k, Foot b1 v1 k → ¬ Foot b2 v2 k) ∧ Kept w W ∧ ∀ k, X k → k < W.heap.size ∧ ¬ Foot b1 v1 k ∧ ¬ Foot b2 v2 k

namespace PairX
variable {X : Nat → Prop} {w W W' : World} {b1 b2 : Nat} {s1 s2 : Mst}
theorem pair (h : PairX X T1 lay1 T2 lay2 w W b1 s1 b2 s2) : Pair T1 lay1 T2 lay2 w W b1 s1 b2 s2 := by
  obtain ⟨v1, v2, h1, h2, d, k, _⟩ := h
  exact ⟨v1, v2, h1, h2, d, k⟩
theorem lt (h : PairX X T1 lay1 T2 lay2 w W b1 s1 b2 s2) {k : Nat} (hk : X k) : k < W.heap.size ∧ k ≠ b1 ∧ k ≠ b2 := by
  obtain ⟨v1, v2, _, _, _, _, hx⟩ := h
  exact ⟨(hx k hk).1, fun e => (hx k hk).2.1 (.inl e), fun e => (hx k hk).2.2 (.inl e)⟩
/-- New blocks are neither's. -/
theorem new (h : Pair T1 lay1 T2 lay2 w W b1 s1 b2 s2) (k' : Kept W W') (hX : ∀ k, X k → W.heap.size ≤ k ∧ k < W'.heap.size) : PairX X T1 lay1 T2 lay2 w W' b1 s1 b2 s2 := by
  obtain ⟨v1, v2, h1, h2, d, k⟩ := h
  exact ⟨v1, v2, h1.kept k', h2.kept k', d, k.trans k', fun i hi => ⟨(hX i hi).2, fun e => by have := (h1.lt i e).2; have := (hX i hi).1; omega, fun e => by have := (h2.lt i e).2; have := (hX i hi).1; omega⟩⟩
theorem swap (h : PairX X T1 lay1 T2 lay2 w W b1 s1 b2 s2) : PairX X T2 lay2 T1 lay1 w W b2 s2 b1 s1 := by
  obtain ⟨v1, v2, h1, h2, d, k, hx⟩ := h
  exact ⟨v2, v1, h2, h1, fun i e e' => d i e' e, k, fun i hi => ⟨(hx i hi).1, (hx i hi).2.2, (hx i hi).2.1⟩⟩
theorem on (h : PairX X T1 lay1 T2 lay2 w W b1 s1 b2 s2) (k' : Kept W W') : PairX X T1 lay1 T2 lay2 w W' b1 s1 b2 s2 := by
  obtain ⟨v1, v2, h1, h2, d, k, hx⟩ := h
  exact ⟨v1, v2, h1.kept k', h2.kept k', d, k.trans k', fun i hi => ⟨Nat.lt_of_lt_of_le (hx i hi).1 k'.size, (hx i hi).2⟩⟩
/-- More blocks, that are new. -/
theorem more {Y : Nat → Prop} (h : PairX X T1 lay1 T2 lay2 w W b1 s1 b2 s2) (k' : Kept W W') (hY : ∀ k, Y k → W.heap.size ≤ k ∧ k < W'.heap.size) : PairX (fun k => X k ∨ Y k) T1 lay1 T2 lay2 w W' b1 s1 b2 s2 := by
  obtain ⟨v1, v2, h1, h2, d, k, hx⟩ := h
  refine ⟨v1, v2, h1.kept k', h2.kept k', d, k.trans k', fun i hi => ?_⟩
  rcases hi with hi | hi
  · exact ⟨Nat.lt_of_lt_of_le (hx i hi).1 k'.size, (hx i hi).2⟩
  · exact ⟨(hY i hi).2, fun e => by have := (h1.lt i e).2; have := (hY i hi).1; omega, fun e => by have := (h2.lt i e).2; have := (hY i hi).1; omega⟩
/-- A step of the first one. -/
theorem fst (h : PairX X T1 lay1 T2 lay2 w W b1 s1 b2 s2) : ∃ v1, MemAt T1 lay1 W w.heap.size b1 v1 s1 ∧ ∀ W' s', Does T1 lay1 w.heap.size b1 v1 s' W W' → PairX X T1 lay1 T2 lay2 w W' b1 s' b2 s2 ∧ ∀ k, X k → W'.heap[k]? = W.heap[k]? := by
  obtain ⟨v1, v2, h1, h2, d, k, hx⟩ := h
  refine ⟨v1, h1, fun W' s' hd => ?_⟩
  obtain ⟨v', h', t, hf⟩ := hd
  refine ⟨⟨v', v2, h', h2.turned t (fun i e e' => d i e' e), fun i e e' => ?_, k.own (fun i e => (h1.lt i e).1) t, fun i hi => ⟨Nat.lt_of_lt_of_le (hx i hi).1 t.size, fun e => ?_, (hx i hi).2.2⟩⟩, fun i hi => t.block i (hx i hi).1 (hx i hi).2.1⟩
  · rcases hf i e with hi | hi
    · exact d i hi e'
    · have := (h2.lt i e').2
      omega
  · rcases hf i e with hi' | hi'
    · exact (hx i hi).2.1 hi'
    · have := (hx i hi).1
      omega
theorem snd (h : PairX X T1 lay1 T2 lay2 w W b1 s1 b2 s2) : ∃ v2, MemAt T2 lay2 W w.heap.size b2 v2 s2 ∧ ∀ W' s', Does T2 lay2 w.heap.size b2 v2 s' W W' → PairX X T1 lay1 T2 lay2 w W' b1 s1 b2 s' ∧ ∀ k, X k → W'.heap[k]? = W.heap[k]? := by
  obtain ⟨v2, h2, hs⟩ := h.swap.fst
  exact ⟨v2, h2, fun W' s' hd => ⟨(hs W' s' hd).1.swap, (hs W' s' hd).2⟩⟩
/-- A store into a block that is neither's. -/
theorem set (h : PairX X T1 lay1 T2 lay2 w W b1 s1 b2 s2) {g : Nat} (hg : X g) (h0 : w.heap.size ≤ g) (j : Nat) (u : Value) : PairX X T1 lay1 T2 lay2 w (W.setCell ⟨g, j, none⟩ u) b1 s1 b2 s2 := by
  obtain ⟨v1, v2, h1, h2, d, k, hx⟩ := h
  have t : Turned (fun i => i = g) W (W.setCell ⟨g, j, none⟩ u) := Turned.setCell _ _ _ rfl
  exact ⟨v1, v2, h1.turned t (fun i e e' => (hx g hg).2.1 (e' ▸ e)), h2.turned t (fun i e e' => (hx g hg).2.2 (e' ▸ e)), d, k.did h0 t, fun i hi => ⟨Nat.lt_of_lt_of_le (hx i hi).1 t.size, (hx i hi).2⟩⟩
end PairX
end
abbrev PD := Pair 56 layP 44 layD
abbrev PDX (X : Nat → Prop) := PairX X 56 layP 44 layD
end Go.Proofs.Ytfgflfjlepgfpaa
