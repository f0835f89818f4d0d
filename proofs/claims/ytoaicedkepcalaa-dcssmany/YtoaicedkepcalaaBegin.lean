/-
  What Begin of node answers and makes, at a memory that was made since w; what known answers. No conditions beyond each theorem's own.
-/
import Derived.Test.YtoaicedkepcalaaInner
namespace Go.Proofs.Ytoaicedkepcalaa
open Go.RowKit

theorem of17_c (w : World) : Calls Try.prog 32 #[.int .i64 1, .int .i64 7] w fun e w' => e = .returned (.int .i64 57) ∧ w = w' := by
  go_enter Try.func32, Try.ntmps32
  go_wp2
  go_ret
  exact ⟨rfl, rfl⟩
theorem kind57_c (w : World) : Calls Try.prog 19 #[.int .i64 57] w fun e w' => e = .returned (.int .i64 1) ∧ w = w' := by
  go_enter Try.func19, Try.ntmps19
  go_wp2
  go_ret
  exact ⟨rfl, rfl⟩
/-- A slice that is answered, where it lies. -/
theorem Fresh.form {zs : List Int} {w W : World} {e : Ending} (h : Fresh zs w e W) : ∃ a cap, e = .returned (.slice a zs.length cap) ∧ Reads W a zs ∧ zs.length ≤ cap ∧ cap ≤ maxLen ∧ (∀ ad, a = some ad → w.heap.size ≤ ad.block) ∧ Row W w.heap.size 2 (.slice a zs.length cap) zs ∧ Kept w W := by
  obtain ⟨v, rfl, hrow, hk⟩ := h
  have hr := hrow
  rcases hr.2 with ⟨rfl, h0⟩ | ⟨g, cap, cur, rfl, hg, _, hc, hm, _⟩
  · obtain rfl := List.length_eq_zero_iff.1 h0
    exact ⟨none, 0, rfl, .inl rfl, Nat.le_refl _, Nat.zero_le _, (fun _ e => by cases e), hrow, hk⟩
  · obtain ⟨a, cap', e1, h1, _⟩ := hrow.reads
    cases e1
    exact ⟨_, _, rfl, h1, hc, hm, (fun _ e => by cases e; exact hg), hrow, hk⟩

/-- The state of a memory that is begun. -/
def begun (s : Mst) : Mst := { s with xs := [1, 0, 0, 0, 0, 57, 0], count := wrap64 (wrap64 (s.count + 1) + 1) }
theorem begun_make {s : Mst} (h0 : s.xs = []) (h7 : 7 ≤ s.size) : s.next [1, 0, 0, 0, 0, 57] = 1 ∧ s.fits 6 = true ∧ s.make [1, 0, 0, 0, 0, 57] = { s with xs := [1, 0, 0, 0, 0, 57], count := wrap64 (s.count + 1) } := by
  have h6 : (6 : Int) ≤ s.size := by omega
  have hf : s.fits 6 = true := by simp [Mst.fits, h0, h6]
  refine ⟨?_, hf, ?_⟩
  · rw [Mst.next]
    rw [if_pos (by exact hf), h0]
    rfl
  · rw [Mst.make]
    rw [if_pos (by exact hf), h0]
    rfl
theorem begun_make2 {s : Mst} (h7 : 7 ≤ s.size) : ({ s with xs := [1, 0, 0, 0, 0, 57], count := wrap64 (s.count + 1) } : Mst).next [0] = 7 ∧ ({ s with xs := [1, 0, 0, 0, 0, 57], count := wrap64 (s.count + 1) } : Mst).fits 1 = true ∧ ({ s with xs := [1, 0, 0, 0, 0, 57], count := wrap64 (s.count + 1) } : Mst).make [0] = begun s := by
  have hf : ({ s with xs := [1, 0, 0, 0, 0, 57], count := wrap64 (s.count + 1) } : Mst).fits 1 = true := by simp [Mst.fits, h7]
  refine ⟨?_, hf, ?_⟩
  · rw [Mst.next]
    rw [if_pos (by exact hf)]
    rfl
  · rw [Mst.make]
    rw [if_pos (by exact hf)]
    rfl

set_option maxRecDepth 100000 in
/-- Begin, where it may be. -/
theorem begin_c (w W : World) (b : Nat) (s : Mst) (h : Now w W b s) (h0 : s.xs = []) (h7 : 7 ≤ s.size) :
    Calls Try.prog 8 #[.pointer (some ⟨b, 0, none⟩)] W fun e W' => e = .returned (.bool true) ∧ Now w W' b (begun s) := by
  have H := hide h
  have B1 := hide (begun_make h0 h7)
  have B2 := hide (begun_make2 h7)
  have HU : Hid ((s.xs.length : Int) = 0) := hide (by rw [h0]; rfl)
  clear h h0
  go_enter Try.func8, Try.ntmps8
  go_wp2_with (fail)
  refine (now_used w W b s 0 H.out HU.out).mono ?_
  rintro e w' ⟨rfl, rfl⟩
  go_wp2_with (fail)
  refine (now_size w W b s s.size H.out rfl).mono ?_
  rintro e w' ⟨rfl, rfl⟩
  go_wp2_with (fail)
  refine (of17_c W).mono ?_
  rintro e w' ⟨rfl, rfl⟩
  go_wp2_with (fail)
  refine (inner_c (W.alloc (.cells #[.int .i64 57] 2)) 0 none [] 0 (some ⟨W.heap.size, 0, none⟩) [57] 1 (.inl rfl) (Reads.new W 2 [57]) (fun _ => rfl) (fun e => by cases e) rfl (by decide)).mono ?_
  intro e W1 hf
  obtain ⟨a1, cap1, rfl, hr, hc, hm, ha, -, hk⟩ := hf.form
  have H1 := hide (H.out.on ((Turned.alloc (fun _ => False) W _).trans hk (fun _ e => e) (fun _ _ e => e)))
  have HR := hide hr
  have HA : Hid (∀ ad, a1 = some ad → ad.block ≠ b) := hide (fun ad e => by
    have e1 := ha ad e
    have e2 := H.out.lt.2
    simp at e1
    omega)
  clear hf hr hc hm ha hk H
  go_wp2_with (fail)
  refine (now_make w W1 b s a1 (innerL 0 [] [57]) cap1 1 true _ H1.out HR.out (by decide) (fun _ => HA.out) B1.out.1 B1.out.2.1 B1.out.2.2).mono ?_
  rintro e W2 ⟨rfl, h2⟩
  have H2 := hide h2
  clear h2 H1 HR HA B1
  go_wp2_with (fail)
  refine (empty_c W2).mono ?_
  intro e W3 hf
  obtain ⟨a1, cap1, rfl, hr, hc, hm, ha, -, hk⟩ := hf.form
  have H3 := hide (H2.out.on hk)
  have HR := hide hr
  have HA : Hid (∀ ad, a1 = some ad → ad.block ≠ b) := hide (fun ad e => by
    have e1 := ha ad e
    have e2 := H2.out.lt.2
    omega)
  clear hf hr hc hm ha hk H2
  go_wp2_with (fail)
  refine (now_make w W3 b _ a1 [0] cap1 7 true _ H3.out HR.out (by decide) (fun _ => HA.out) B2.out.1 B2.out.2.1 B2.out.2.2).mono ?_
  rintro e W4 ⟨rfl, h4⟩
  have H4 := hide h4
  clear h4 H3 HR HA B2
  go_wp2
  go_ret
  exact ⟨rfl, H4.out⟩
/-- .. where it may not. -/
theorem begin0_c (w W : World) (b : Nat) (s : Mst) (h : Now w W b s) (h0 : ¬ (s.xs = [] ∧ 7 ≤ s.size)) :
    Calls Try.prog 8 #[.pointer (some ⟨b, 0, none⟩)] W fun e W' => e = .returned (.bool false) ∧ W = W' := by
  have H := hide h
  by_cases hx : s.xs = []
  · have h7 : s.size < 7 := by have : ¬ 7 ≤ s.size := fun e => h0 ⟨hx, e⟩; omega
    have HU : Hid ((s.xs.length : Int) = 0) := hide (by rw [hx]; rfl)
    clear h h0 hx
    go_enter Try.func8, Try.ntmps8
    go_wp2_with (fail)
    refine (now_used w W b s 0 H.out HU.out).mono ?_
    rintro e w' ⟨rfl, rfl⟩
    go_wp2_with (fail)
    refine (now_size w W b s s.size H.out rfl).mono ?_
    rintro e w' ⟨rfl, rfl⟩
    go_wp2
    go_ret
    exact ⟨rfl, rfl⟩
  · have hp0 : 0 < s.xs.length := List.length_pos_iff.2 hx
    have hp : (0 : Int) < (s.xs.length : Int) := by omega
    clear h h0 hx
    go_enter Try.func8, Try.ntmps8
    go_wp2_with (fail)
    refine (now_used w W b s _ H.out rfl).mono ?_
    rintro e w' ⟨rfl, rfl⟩
    go_wp2
    go_ret
    exact ⟨rfl, rfl⟩

end Go.Proofs.Ytoaicedkepcalaa
