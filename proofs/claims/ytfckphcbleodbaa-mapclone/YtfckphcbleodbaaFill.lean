/-
  What 'fill' of the statements of chapter 4 answers, for any slice of numbers: a new map, of the first 200 of them, each with its place; nothing that lay is turned.
-/
import Derived.Test.YtfckphcbleodbaaKn
import Derived.OpenShut
namespace Go.Proofs.Ytfckphcbleodbaa
open Go.RowKit Go.Shelf

/-- A slice value that reads as these numbers. -/
def Reads (w : World) (a : Option Addr) (zs : List Int) : Prop :=
  zs = [] ∨ ∃ bl off, a = some ⟨bl, off, none⟩ ∧ ∀ j z, zs[j]? = some z → w.cell? ⟨bl, off + j, none⟩ = some (.int .i64 z)

theorem Reads.turned {w w' : World} {a : Option Addr} {zs : List Int} {R : Nat → Prop} (h : Reads w a zs) (ht : Turned R w w') (hR : ∀ k, k < w.heap.size → (∃ ad, a = some ad ∧ ad.block = k) → ¬ R k) : Reads w' a zs := by
  rcases h with h | ⟨bl, off, rfl, h⟩
  · exact .inl h
  · refine .inr ⟨bl, off, rfl, fun j z hz => ?_⟩
    have hc := h j z hz
    exact ht.cell hc (hR bl (World.block_lt_of_cell? _ _ hc) ⟨_, rfl, rfl⟩)
theorem Reads.kept {w w' : World} {a : Option Addr} {zs : List Int} (h : Reads w a zs) (ht : Kept w w') : Reads w' a zs := h.turned ht (fun _ _ _ e => e)
/-- One of them, where it lies. -/
theorem Reads.at {w : World} {a : Option Addr} {zs : List Int} (h : Reads w a zs) {j : Nat} {z : Int} (hz : zs[j]? = some z) : ∃ bl off, a = some ⟨bl, off, none⟩ ∧ bl < w.heap.size ∧ w.cell? ⟨bl, off + j, none⟩ = some (.int .i64 z) := by
  rcases h with h | ⟨bl, off, ha, hc⟩
  · rw [h] at hz
    simp at hz
  · exact ⟨bl, off, ha, World.block_lt_of_cell? _ _ (hc j z hz), hc j z hz⟩

/-- What the frame of a proof tells of a slice of numbers that came in. -/
theorem reads_in {w : World} {a : Option Addr} {len cap : Nat} {z : List Int} (h : (a = none ∧ len = 0 ∧ cap = 0 ∧ z = []) ∨
    ∃ x, a = some x ∧ len ≤ cap ∧ cap ≤ maxLen ∧ z.length = cap ∧ (∀ i, i < z.length → w.cell? (x.add i) = some (.int .i64 (z.getD i 0))) ∧ ∀ n ∈ z, (Lit.int .i64 n).wf = true) :
    ∃ zs : List Int, zs.length = len ∧ zs.length ≤ cap ∧ cap ≤ maxLen ∧ Reads w a zs ∧ ∀ n ∈ zs, (Lit.int .i64 n).wf = true := by
  rcases h with ⟨rfl, rfl, rfl, rfl⟩ | ⟨x, rfl, h1, h2, h3, h4, h5⟩
  · exact ⟨[], rfl, Nat.zero_le _, Nat.zero_le _, .inl rfl, by simp⟩
  · refine ⟨z.take len, by rw [List.length_take]; omega, by rw [List.length_take]; omega, h2, ?_, fun n hn => h5 n (List.mem_of_mem_take hn)⟩
    by_cases hl : len = 0
    · subst hl
      exact .inl (by simp)
    · obtain ⟨b, off, rfl, hc⟩ := ints_at h4 (by omega)
      refine .inr ⟨b, off, rfl, fun j y hy => ?_⟩
      obtain ⟨hj, e⟩ := List.getElem?_eq_some_iff.1 hy
      rw [List.length_take] at hj
      rw [hc j (by omega)]
      rw [List.getElem_take] at e
      rw [← e, List.getD_eq_getElem?_getD, List.getElem?_eq_getElem (by omega)]
      rfl

/-- The map of the first k numbers, each with its place. -/
def fillN (zs : List Int) : Nat → List (Int × Int)
  | 0 => []
  | k + 1 => match zs[k]? with
    | some z => put ltI (fillN zs k) z k
    | none => fillN zs k
theorem fillN_le (zs : List Int) : (k : Nat) → (fillN zs k).length ≤ k
  | 0 => Nat.le_refl _
  | k + 1 => by
    have := fillN_le zs k
    unfold fillN
    split
    · rename_i z _
      have := length_put_le (lt := ltI) (xs := fillN zs k) (k := z) (v := (k : Int))
      omega
    · omega

set_option maxRecDepth 100000 in
theorem fill_c (w : World) (a : Option Addr) (zs : List Int) (cap : Nat) (hr : Reads w a zs) (hc : zs.length ≤ cap) (hm : cap ≤ maxLen) :
    Calls Try.prog 26 #[.slice a zs.length cap] w fun e w' => e = .returned (.pointer (some ⟨w.heap.size, 0, none⟩)) ∧ Mp_i w' w.heap.size (fillN zs (min zs.length 200)) ∧ Kept w w' := by
  have hm' : (zs.length : Int) ≤ 9223372036854775807 := by unfold maxLen at hm; omega
  have M0 := Lib.hid (Mp_i.new w)
  have K0 : Hid (Kept w (w.alloc (.cells #[.pointer none, .int .i64 0] 26))) := Lib.hid (Turned.alloc _ _ _)
  have HR := Lib.hid hr
  have HC := Lib.hid hc
  clear hr hm hc
  go_enter Try.func26, Try.ntmps26
  go_wp2
  go_loopw [4] (fun i wr => ∃ k : Nat, k ≤ zs.length ∧ k ≤ 200 ∧ i = .int .i64 k ∧ Hid (Mp_i wr w.heap.size (fillN zs k)) ∧ Hid (Kept w wr)) (fun i _ => 200 - (intOf i).toNat)
  case atStart => exact ⟨0, Nat.zero_le _, by omega, rfl, M0, K0⟩
  case round =>
    obtain ⟨k, hk1, hk2, rfl, hM, hK⟩ := hrel
    clear M0 K0
    by_cases hlt : k < zs.length ∧ k < 200
    · obtain ⟨hlt1, hlt2⟩ := hlt
      obtain ⟨z, hz⟩ : ∃ z, zs[k]? = some z := ⟨_, List.getElem?_eq_getElem hlt1⟩
      obtain ⟨bl, off, rfl, _, hrow⟩ := (HR.out.kept hK.out).at hz
      have HZ := Lib.hid hz
      have HLC : k < cap := by have := HC.out; omega
      clear hz
      go_wp2_with (fail)
      refine (put_i _ _ _ hM.out z k (by have := fillN_le zs k; omega)).mono ?_
      rintro e w1 ⟨rfl, m, t⟩
      have M1 : Hid (Mp_i w1 w.heap.size (fillN zs (k + 1))) := Lib.hid (by unfold fillN; rw [HZ.out]; exact m)
      have K1 := Lib.hid (hK.out.did (Nat.le_refl _) t)
      clear m t
      go_wp2
      exact ⟨⟨k + 1, by omega, by omega, by simp, M1, K1⟩, by simp [intOf]; omega⟩
    · have e : min zs.length 200 = k := by omega
      have E := Lib.hid e
      clear e
      by_cases h1 : k < zs.length
      · have h2 : ¬ (k < 200) := fun h => hlt ⟨h1, h⟩
        have h3 : (200 : Int) ≤ (k : Int) := by omega
        clear hlt
        go_wp2
        go_ret
        exact ⟨rfl, by rw [E.out]; exact hM.out, hK.out⟩
      · clear hlt
        go_wp2
        go_ret
        exact ⟨rfl, by rw [E.out]; exact hM.out, hK.out⟩
end Go.Proofs.Ytfckphcbleodbaa
