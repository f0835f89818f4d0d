/-
  What ordinateref1's Range and Map answer, of pairs that are read: those between two keys, in new memory; whether they rise; nothing that lay is turned.
-/
import Derived.Test.YtfckphcbleodbaaSame
import Derived.Test.YtfckphcbleodbaaPlainC
import Derived.Deep.AppendLies
namespace Go.Proofs.Ytfckphcbleodbaa
open Go.RowKit Go.Shelf

/-- Behind an append to a row that is new since w, what lay at w lies as it lay. -/
theorem kept_append {w wr w1 : World} {v : Value} {xs : List (Int × Int)} {tmp : Obj} (k : Kept w wr) (hr : wr.ownsRow w.heap.size 45 2 v xs.length (flat xs)) (hg : (wr.alloc tmp).grownBy w1 v.ownBlock) : Kept w w1 :=
  Turned.trans (k.trans (Turned.alloc _ _ tmp)) (Turned.of_grownBy (R := fun j => v.ownBlock = some j) hg (fun _ h => h)) (fun _ h => h) (fun i hi h => by have := (hr.lt i h).1; omega)
theorem kept_append0 {w wr w1 : World} {v : Value} {xs : List (Int × Int)} (k : Kept w wr) (hr : wr.ownsRow w.heap.size 45 2 v xs.length (flat xs)) (hg : wr.grownBy w1 v.ownBlock) : Kept w w1 :=
  Turned.trans k (Turned.of_grownBy (R := fun j => v.ownBlock = some j) hg (fun _ h => h)) (fun _ h => h) (fun i hi h => by have := (hr.lt i h).1; omega)

/-- Two cells of a new block. -/
theorem two_newR (w : World) (x y : Int) : ∀ (j : Nat) (u : Value), [Value.int .i64 x, .int .i64 y][j]? = some u → (w.alloc (.cells #[.int .i64 x, .int .i64 y] 45)).cell? ((⟨w.heap.size, 0, none⟩ : Addr).add j) = some u := by
  intro j u h
  have hb : (w.alloc (.cells #[.int .i64 x, .int .i64 y] 45)).heap[w.heap.size]? = some (.cells #[.int .i64 x, .int .i64 y] 45) := World.alloc_heap_new w _
  have c : ∀ i, (w.alloc (.cells #[.int .i64 x, .int .i64 y] 45)).cell? ⟨w.heap.size, i, none⟩ = #[Value.int .i64 x, .int .i64 y][i]? := fun i => by
    unfold World.cell?
    rw [hb]
    rfl
  rcases j with _ | _ | j
  · simp at h
    subst h
    exact c 0
  · simp at h
    subst h
    exact c 1
  · simp at h

/-- A new slice of these pairs. -/
def Sliced (xs : List (Int × Int)) (w : World) (e : Ending) (w' : World) : Prop := ∃ v, e = .returned v ∧ w'.ownsRow w.heap.size 45 2 v xs.length (flat xs) ∧ Kept w w'

theorem between_snoc (xs : List (Int × Int)) (p : Int × Int) (lo hi : Int) : between ltI (xs ++ [p]) lo hi = between ltI xs lo hi ++ (if lo ≤ p.1 ∧ p.1 ≤ hi then [p] else []) := by
  unfold between
  rw [List.filter_append]
  congr 1
  by_cases h : lo ≤ p.1 ∧ p.1 ≤ hi
  · rw [if_pos h]
    simp [ltI, h.1, h.2]
  · rw [if_neg h]
    simp [ltI]
    omega
theorem take_snoc {xs : List (Int × Int)} {k : Nat} {p : Int × Int} (h : xs[k]? = some p) : xs.take (k + 1) = xs.take k ++ [p] := by
  obtain ⟨h1, rfl⟩ := List.getElem?_eq_some_iff.1 h
  exact List.take_succ_eq_append_getElem h1

set_option maxRecDepth 100000 in
theorem refRange_c (w : World) (a : Option Addr) (xs : List (Int × Int)) (cap : Nat) (lo hi : Int) (hr : PReads w a xs) (hc : xs.length ≤ cap) (hl : xs.length ≤ 5000) :
    Calls Try.prog 27 #[.slice a xs.length cap, .int .i64 lo, .int .i64 hi] w (Sliced (between ltI xs lo hi) w) := by
  have HR := Lib.hid hr
  clear hr
  obtain ⟨y0, hi', hz0, hz1, hz2⟩ := info_parts info45
  go_enter Try.func27, Try.ntmps27
  go_wp2
  go_loopw [7, 8] (fun v i wr => ∃ k : Nat, k ≤ xs.length ∧ i = .int .i64 k ∧ Hid (wr.ownsRow w.heap.size 45 2 v (between ltI (xs.take k) lo hi).length (flat (between ltI (xs.take k) lo hi))) ∧ Hid (Kept w wr)) (fun _ i _ => xs.length - (intOf i).toNat)
  case atStart => exact ⟨0, Nat.zero_le _, rfl, Lib.hid (by simp [between, flat]; exact World.ownsRow_nil _ _ _ _), Lib.hid (Kept.refl w)⟩
  case round =>
    obtain ⟨k, hk1, rfl, hV, hK⟩ := hrel
    by_cases hlt : k < xs.length
    · obtain ⟨⟨x, xv⟩, hp⟩ : ∃ p, xs[k]? = some p := ⟨_, List.getElem?_eq_getElem hlt⟩
      obtain ⟨bl, rfl, hbl, g1, g2⟩ := (HR.out.kept hK.out).at hp
      have HT := Lib.hid (take_snoc hp)
      have i1 : (k : Int) < (xs.length : Int) := by omega
      have i3 : k < cap := by omega
      have zr : w.heap.size ≤ wr.heap.size := hK.out.size
      simp only at g1 g2
      have bl5 : (between ltI (xs.take k) lo hi).length ≤ 5000 := by
        have := List.length_filter_le (fun x : Int × Int => !ltI x.1 lo && !ltI hi x.1) (xs.take k)
        rw [List.length_take] at this
        unfold between
        omega
      clear hp
      by_cases hin : lo ≤ x ∧ x ≤ hi
      · obtain ⟨h1, h2⟩ := hin
        have hrow := hV.out.alloc (.cells #[.int .i64 x, .int .i64 xv] 45)
        go_wp2_with (at_builtin; refine wpList_append_lies _ rfl _ _ 39 rfl w.heap.size 45 y0 (.agg #[.int .i64 0, .int .i64 0]) 2 16 Try.underlying39 hi' hz0 hz1 hz2 rfl (by decide) _ _ _ rfl hrow ⟨wr.heap.size, 0, none⟩ 1 1 [.int .i64 x, .int .i64 xv] rfl rfl (two_newR _ _ _) (by simp [Value.oneCell']) (by decide) (by unfold maxLen; omega) (by omega) (by simp; omega) (wr.heap.size + 1) (by simp) ?_; intro g gc A1 hown hgrow hat hlt2)
        have K2 := Lib.hid (kept_append hK.out hV.out hgrow)
        exact ⟨⟨k + 1, by omega, by simp, Lib.hid (by rw [HT.out, between_snoc, if_pos ⟨h1, h2⟩]; simpa [flat_append, flat] using hown), K2⟩, by simp [intOf]; omega⟩
      · have HN : Hid (between ltI (xs.take (k + 1)) lo hi = between ltI (xs.take k) lo hi) := Lib.hid (by rw [HT.out, between_snoc, if_neg hin]; simp)
        by_cases h1 : lo ≤ x
        · have h2 : hi < x := by omega
          clear hin
          go_wp2
          exact ⟨⟨k + 1, by omega, by simp, Lib.hid (by rw [HN.out]; exact hV.out), hK⟩, by simp [intOf]; omega⟩
        · clear hin
          go_wp2
          exact ⟨⟨k + 1, by omega, by simp, Lib.hid (by rw [HN.out]; exact hV.out), hK⟩, by simp [intOf]; omega⟩
    · obtain rfl : xs.length = k := by omega
      have HT : Hid (xs.take xs.length = xs) := Lib.hid (List.take_length ..)
      clear hlt
      go_wp2
      go_ret
      exact ⟨_, rfl, by have := hV.out; rw [HT.out] at this; exact this, hK.out⟩

set_option maxRecDepth 100000 in
theorem refMap_c (w : World) (a : Option Addr) (xs : List (Int × Int)) (cap : Nat) (hr : PReads w a xs) (hc : xs.length ≤ cap) (hl : xs.length ≤ 5000) (ha : Asc ltI xs) :
    Calls Try.prog 28 #[.slice a xs.length cap] w fun e w' => e = .returned (.bool true) ∧ Kept w w' := by
  have HR := Lib.hid hr
  have HA := Lib.hid ha
  clear hr ha
  go_enter Try.func28, Try.ntmps28
  go_wp2
  go_loopw [3] (fun i wr => ∃ k d : Nat, (k ≤ xs.length ∨ k = 0) ∧ i = .int .i64 ((k : Int) + 1) ∧ wr = w.drewN d) (fun i _ => xs.length + 1 - (intOf i).toNat)
  case atStart => exact ⟨0, 0, .inr rfl, rfl, rfl⟩
  case round =>
    obtain ⟨k, d, hk1, rfl, rfl⟩ := hrel
    by_cases hlt : k + 1 < xs.length
    · obtain ⟨⟨x, xv⟩, hp⟩ : ∃ p, xs[k + 1]? = some p := ⟨_, List.getElem?_eq_getElem hlt⟩
      obtain ⟨⟨y, yv⟩, hq⟩ : ∃ p, xs[k]? = some p := ⟨_, List.getElem?_eq_getElem (by omega)⟩
      obtain ⟨bl, rfl, hbl, g1, g2⟩ := HR.out.at hp
      obtain ⟨bl', hbe, _, g3, g4⟩ := HR.out.at hq
      obtain rfl : bl = bl' := by simpa using hbe
      have hyx : y < x := by
        have := List.pairwise_iff_getElem.1 HA.out k (k + 1) (by omega) hlt (by omega)
        rw [(List.getElem?_eq_some_iff.1 hp).2, (List.getElem?_eq_some_iff.1 hq).2] at this
        exact ltI_true.1 this
      have i1 : (k : Int) + 1 < (xs.length : Int) := by omega
      have i2 : (k : Int) + 1 ≤ 5000 := by omega
      have i3 : k + 1 < cap := by omega
      simp only at g1 g3
      clear hp hq hbe hk1
      go_wp2
      go_quiet (fail)
      go_wp2
      exact ⟨⟨k + 1, _, .inl (by omega), by simp, rfl⟩, by simp [intOf]; omega⟩
    · have i1 : ¬ ((k : Int) + 1 < (xs.length : Int)) := by omega
      go_wp2
      go_ret
      exact ⟨rfl, Kept.drewN _ _⟩
end Go.Proofs.Ytfckphcbleodbaa
