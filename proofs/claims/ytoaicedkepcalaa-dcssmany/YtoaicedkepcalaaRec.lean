/-
  What the calls of node that tell a record's cells answer (LeafWords, EmptyWords, RebuildWords, DcssWords), and the document's own; slices.Grow of nil, slices.Concat of any slices of numbers; an append of any slice that reads as numbers to a row of one's own. No conditions beyond each theorem's own.
-/
import Derived.Test.YtoaicedkepcalaaPair
import Derived.Lib.AppendZerosOnto
import Derived.Maps.OwnIn
namespace Go.Proofs.Ytoaicedkepcalaa
open Go.RowKit
set_option maxRecDepth 20000

theorem empty_c (w : World) : Calls Try.prog 33 #[] w (Fresh [0] w) := by
  go_enter Try.func33, Try.ntmps33
  go_wp2
  go_ret
  exact ⟨_, rfl, row_new w 2 [0] _ (Nat.le_refl _) (by simp), Turned.alloc _ _ _⟩
theorem Row.low {w : World} {n₀ m : Nat} {e : TypeId} {v : Value} {zs : List Int} (h : Row w n₀ e v zs) (hm : m ≤ n₀) : Row w m e v zs := by
  obtain ⟨h1, h2⟩ := h
  refine ⟨h1, ?_⟩
  rcases h2 with h2 | ⟨g, cap, cur, rfl, hg, r⟩
  · exact .inl h2
  · exact .inr ⟨g, cap, cur, rfl, Nat.le_trans hm hg, r⟩
theorem Fresh.low {zs : List Int} {w W W' : World} {e : Ending} (h : Fresh zs W e W') (hk : Kept w W) : Fresh zs w e W' := by
  obtain ⟨v, h1, h2, h3⟩ := h
  exact ⟨v, h1, h2.low hk.size, hk.trans h3⟩

/-- slices.Grow of nil. -/
theorem grow_c (w : World) (n : Nat) (hn : n ≤ 1000000) : Calls Try.prog 51 #[.slice none 0 0, .int .i64 (n : Int)] w (Fresh [] w) := by
  by_cases h0 : n = 0
  · subst h0
    go_enter Try.func51, Try.ntmps51
    go_wp2
    go_ret
    exact ⟨_, rfl, World.ownsRow_nil _ _ _ _, Kept.refl _⟩
  · obtain ⟨i0, hi, hz0, hz1, hz2⟩ := info_parts info2_p
    have i1 : (0 : Int) < (n : Int) := by omega
    have hrz : ∀ ty, (Builtin.append_ #[45, 3] ty #[.slice none 0 0, .int .i64 (n : Int)]).run Try.prog w =
        .ok (.slice (some ⟨w.heap.size, 0, none⟩) n (grownCap w n 0 2)) (w.drew.alloc (.cells (#[] ++ Builtin.zeroCells (Value.int .i64 0).cells n ++ Builtin.zeroCells (Value.int .i64 0).cells (grownCap w n 0 2 - n)) 2)) := fun ty => by
      have h := Lib.run_append_grow_zeros w 45 3 ty 2 i0 (.int .i64 0) .i64 .i64 Try.underlying45 Try.underlying3 hi hz0 none 0 0 [] (run_firstCells_none w.drew i0.size 0 0 0) n (by omega) (by omega) (by omega) (by omega) (by rw [hz2]; omega) (by rw [hz2, Nat.zero_add]; exact growslice_fits (by omega) (by omega))
      rw [Nat.zero_add] at h
      exact h
    have hGn : n ≤ grownCap w n 0 2 := grownCap_ge w _ _ _
    have hGm : grownCap w n 0 2 ≤ maxLen := grownCap_le_maxLen w n 0 2 (by unfold maxLen; omega)
    obtain ⟨G, hG⟩ : ∃ G, G = grownCap w n 0 2 := ⟨_, rfl⟩
    rw [← hG] at hrz hGn hGm
    have hG63 : (G : Int) ≤ 9223372036854775807 := by unfold maxLen at hGm; omega
    have HF : Hid (Fresh [] w (.returned (.slice (some ⟨w.heap.size, 0, none⟩) 0 G)) ((w.alloc (.cells (Builtin.zeroCells #[.int .i64 0] n ++ Builtin.zeroCells #[.int .i64 0] (G - n)) 2)).drew)) := hide ⟨_, rfl, ⟨rfl, .inr ⟨w.heap.size, G, _, rfl, Nat.le_refl _, heap_new w _, Nat.zero_le _, hGm, by simp [size_zeroCells]; omega, rfl⟩⟩, ((Kept.refl w).alloc _).trans (Kept.drew _)⟩
    clear hG hGm
    go_enter Try.func51, Try.ntmps51
    go_wp2_with (at_builtin; refine Lib.wpList_append_run _ rfl _ _ _ _ rfl _ _ rfl rfl _ _ (hrz _) ?_)
    all_goals (go_ret; exact HF.out)

theorem wpList_append_reads {w : World} {ops : Array Oper} {rest : List Oper} {o : Oper} {a : Act} {Q : Exit → Act → World → Prop} (hgd : o.guard = none) (s x : Operand)
    (ho : o.op = .call { callee := .builtin .append, args := #[s, x], argTypes := #[45, 45] }) (base : Nat) (v : Value) (k : Nat) (xs : List Value) (hs : a.eval s = v) (hown : w.ownsRow base 2 1 v k xs)
    (aw : Option Addr) (ws : List Int) (cw : Nat) (hx : a.eval x = .slice aw ws.length cw) (hr : Reads w aw ws) (h0 : aw = none → cw = 0) (hl : k + ws.length ≤ 1000000) (hbase : base ≤ w.heap.size)
    (h : ∀ v' w', w'.ownsRow base 2 1 v' (k + ws.length) (xs ++ cellsOf ws) → w.grownBy w' v.ownBlock → (v'.ownBlock = v.ownBlock ∨ v'.ownBlock = some w.heap.size) → wpList Try.prog ops Q rest (a.put o.dst v') w') :
    wpList Try.prog ops Q (o :: rest) a w := by
  obtain ⟨i0, hi, hz0, hz1, hz2⟩ := info_parts info2_p
  cases aw with
  | none =>
    have e0 : ws = [] := by
      rcases hr with e | ⟨_, _, e, _⟩
      · exact e
      · cases e
    subst e0
    obtain rfl := h0 rfl
    refine wpList_plain hgd fun K hK => ?_
    have hrun := run_append_owned_none (P := Try.prog) (w := w) base 45 o.type 2 i0 1 Try.underlying45 hi v k xs hown
    unfold Oper.wp execOp
    simp only [ho, resolve, invoke, builtin, Sem.run_bind, Sem.run_pure, Result.andThen_ok, List.map_toArray, List.map_cons, List.map_nil, hs, hx, List.length_nil, hrun]
    exact hK _ _ (h v w (by simpa using hown) (World.grownBy.refl _ _) (.inl rfl))
  | some ad =>
    by_cases e0 : ws = []
    · subst e0
      exact wpList_append_own_at w hgd s x 45 ho base 2 i0 (.int .i64 0) 1 8 Try.underlying45 hi hz0 hz1 hz2 rfl (by decide) v k xs hs hown ad 0 cw [] hx rfl (by simp) (by simp) (by simp at hl; unfold maxLen; omega) (by simp at hl; omega) hbase (fun v' w' h1 h2 _ h4 => h v' w' (by simpa using h1) h2 h4)
    · obtain ⟨bl, off, e, hrow⟩ : ∃ bl off, some ad = some ⟨bl, off, none⟩ ∧ ∀ j z, ws[j]? = some z → w.cell? ⟨bl, off + j, none⟩ = some (.int .i64 z) := by
        rcases hr with e | h
        · exact (e0 e).elim
        · exact h
      obtain rfl : ad = ⟨bl, off, none⟩ := Option.some.inj e
      exact wpList_append_own_at w hgd s x 45 ho base 2 i0 (.int .i64 0) 1 8 Try.underlying45 hi hz0 hz1 hz2 rfl (by decide) v k xs hs hown ⟨bl, off, none⟩ ws.length cw (cellsOf ws) hx (by simp) (news_p hrow) (ints_oneCell _ _) (by unfold maxLen; omega) (by omega) hbase (fun v' w' h1 h2 _ h4 => h v' w' h1 h2 h4)

/-- An append to a row from n₀ on turns nothing that lay below. -/
theorem kept_append {w0 w w1 : World} {v : Value} {ys : List Int} (k : Kept w0 w) (hr : Row w w0.heap.size 2 v ys) (hg : w.grownBy w1 v.ownBlock) : Kept w0 w1 :=
  k.own (O := fun j => v.ownBlock = some j) (fun i e => (hr.lt i e).1) (Turned.of_grownBy (R := fun j => v.ownBlock = some j) hg (fun _ h => h))

/-- The slices of numbers that lie in a block. -/
def Lists (w : World) (B : Nat) (L : List (List Int)) : Prop :=
  ∀ (t : Nat) (zs : List Int), L[t]? = some zs → ∃ a cap, w.cell? ⟨B, t, none⟩ = some (.slice a zs.length cap) ∧ Reads w a zs ∧ (a = none → cap = 0)
theorem Lists.kept {w w' : World} {B : Nat} {L : List (List Int)} (h : Lists w B L) (k : Kept w w') : Lists w' B L := fun t zs ht => by
  obtain ⟨a, cap, h1, h2, h3⟩ := h t zs ht
  exact ⟨a, cap, k.cell h1 id, h2.kept k, h3⟩
theorem flat_step {L : List (List Int)} {t : Nat} {zs : List Int} (h : L[t]? = some zs) : (L.take (t + 1)).flatten = (L.take t).flatten ++ zs := by
  rw [List.take_add_one, h]
  simp
theorem flat_le {L : List (List Int)} {M : Nat} (h : L.flatten.length ≤ M) (t : Nat) : (L.take t).flatten.length ≤ M := by
  have : L.flatten = (L.take t).flatten ++ (L.drop t).flatten := by rw [← List.flatten_append, List.take_append_drop]
  rw [this, List.length_append] at h
  omega

set_option maxRecDepth 100000 in
set_option maxHeartbeats 2000000 in
/-- slices.Concat -/
theorem concat_c (w : World) (B n cap : Nat) (L : List (List Int)) (hL : Lists w B L) (hn : L.length = n) (hn1 : n ≤ 100000) (hc : n ≤ cap) (hs : L.flatten.length ≤ 100000) : Calls Try.prog 48 #[.slice (some ⟨B, 0, none⟩) n cap] w (Fresh L.flatten w) := by
  have HL := hide hL
  have HN := hide hn
  have HS := hide hs
  clear hL hn hs
  go_enter Try.func48, Try.ntmps48
  go_wp2
  go_loopw [3, 11] (fun s i wr => ∃ t m : Nat, t ≤ n ∧ m ≤ 100000 ∧ s = .int .i64 (m : Int) ∧ i = .int .i64 (t : Int) ∧ w = wr ∧ Hid (m = (L.take t).flatten.length)) (fun _ i _ => n - (intOf i).toNat)
  case atStart => exact ⟨0, 0, Nat.zero_le _, Nat.zero_le _, rfl, rfl, rfl, hide (by simp)⟩
  case round =>
    obtain ⟨t, m, ht, hm, rfl, rfl, rfl, HM⟩ := hrel
    by_cases hlt : t < n
    · obtain ⟨zs, hz⟩ : ∃ zs, L[t]? = some zs := ⟨_, List.getElem?_eq_getElem (by rw [HN.out]; exact hlt)⟩
      obtain ⟨a, cp, c1, -, -⟩ := HL.out t zs hz
      have i1 : (t : Int) < (n : Int) := by omega
      have i3 : t < cap := by omega
      have hmz : m + zs.length ≤ 100000 := by
        have e1 := flat_le HS.out (t + 1)
        rw [flat_step hz, List.length_append, ← HM.out] at e1
        exact e1
      have HM' : Hid (m + zs.length = (L.take (t + 1)).flatten.length) := hide (by rw [flat_step hz, List.length_append, ← HM.out])
      clear hz
      go_wp2
      exact ⟨⟨t + 1, m + zs.length, by omega, hmz, by simp, by simp, by simp, HM'⟩, by simp [intOf]; omega⟩
    · have i1 : ¬ ((t : Int) < (n : Int)) := by omega
      clear HM
      go_wp2_with (fail)
      refine (grow_c _ m (by omega)).mono ?_
      rintro e W1 ⟨v1, rfl, hrow, hk⟩
      have HR := hide hrow
      have HK := hide hk
      clear hrow hk
      go_wp2
      go_loopw [6, 27] (fun v i wr => ∃ (t : Nat) (ys : List Int), t ≤ n ∧ i = .int .i64 (t : Int) ∧ Hid (Row wr w.heap.size 2 v ys) ∧ Hid (ys = (L.take t).flatten) ∧ Hid (Kept w wr)) (fun _ i _ => n - (intOf i).toNat)
      case atStart => exact ⟨0, [], Nat.zero_le _, rfl, HR, hide (by simp), HK⟩
      case round =>
        obtain ⟨t, ys, ht, rfl, HR1, HY, HK1⟩ := hrel
        clear HR HK
        by_cases hlt : t < n
        · obtain ⟨zs, hz⟩ : ∃ zs, L[t]? = some zs := ⟨_, List.getElem?_eq_getElem (by rw [HN.out]; exact hlt)⟩
          obtain ⟨a, cp, c1, r1, h0⟩ := (HL.out.kept HK1.out) t zs hz
          have i1 : (t : Int) < (n : Int) := by omega
          have i3 : t < cap := by omega
          have HZ : Hid (ys.length + zs.length ≤ 1000000) := hide (by
            have e1 := flat_le HS.out (t + 1)
            rw [flat_step hz, List.length_append, ← HY.out] at e1
            omega)
          have HY' : Hid (ys ++ zs = (L.take (t + 1)).flatten) := hide (by rw [flat_step hz, ← HY.out])
          have R1 := hide r1
          have H0 := hide h0
          clear hz r1 h0
          go_wp2_with (at_builtin; refine Stop.out ?_)
          refine ⟨?_⟩
          refine wpList_append_reads rfl _ _ rfl w.heap.size _ ys.length (cellsOf ys) rfl HR1.out a zs cp rfl R1.out H0.out HZ.out HK1.out.size ?_
          intro v2 w2 hown hg _
          have HR2 : Hid (Row w2 w.heap.size 2 v2 (ys ++ zs)) := hide (by
            show World.ownsRow _ _ 2 1 _ (ys ++ zs).length (cellsOf (ys ++ zs))
            rw [List.length_append, cellsOf, List.map_append]
            exact hown)
          have HK2 := hide (kept_append HK1.out HR1.out hg)
          clear hown hg
          go_wp2
          exact ⟨⟨t + 1, ys ++ zs, by omega, by simp, HR2, HY', HK2⟩, by simp [intOf]; omega⟩
        · have i1 : ¬ ((t : Int) < (n : Int)) := by omega
          have HE : Hid (ys = L.flatten) := hide (by rw [HY.out, List.take_of_length_le (by rw [HN.out]; omega)])
          go_wp2
          go_ret
          exact ⟨_, rfl, by rw [← HE.out]; exact HR1.out, HK1.out⟩
end Go.Proofs.Ytoaicedkepcalaa
