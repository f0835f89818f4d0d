/-
  What 'StackKnown' of the statements of chapter 3 answers: true; nothing that lay is turned.
-/
import Derived.Test.YteolopbklmbcmaaAllStr
namespace Go.Proofs.Yteolopbklmbcmaa
open Go.RowKit Go.Shelf
attribute [local go_sem] Oper.semAt_some

set_option maxRecDepth 100000 in
set_option maxHeartbeats 2000000 in
theorem stackKnown_c (w : World) : Calls Try.prog 3 #[] w fun e w' => e = .returned (.bool true) ∧ Kept w w' := by
  refine (callsIn_wide (n := 11)).1 ?_
  refine callsIn_of_wp_marks Try.func3 rfl trivial ?_ rfl
  simp only [Try.ntmps3, List.size_toArray, List.length_nil, Nat.reduceSub, Array.replicate_succ, Array.replicate_zero, List.push_toArray, List.append_toArray, List.nil_append, List.cons_append]
  gi_wp2_with fail
  refine ⟨trivial, (callsIn_wide.2 (known_c _)).mono ?_⟩
  rintro e w1 ⟨rfl, hk⟩
  have hk1 := Lib.hid hk
  clear hk
  have hs1 := Lib.hid (stk_new w1 26 9 w1.heap.size (Nat.le_refl _))
  gi_wp2_with fail
  refine ⟨trivial, (callsIn_wide.2 (top0_s _ w1.heap.size _ _ hs1.out)).mono ?_⟩
  rintro e w2 ⟨rfl, rfl⟩
  gi_wp2_with fail
  refine ⟨trivial, (callsIn_wide.2 (all_s _ _)).mono ?_⟩
  rintro e w2 ⟨rfl, rfl⟩
  gi_wp2_with fail
  obtain ⟨W, hW⟩ : ∃ W, ((w1.alloc (.cells #[.slice none 0 0] 26)).alloc (.cells #[.int .i64 0] 3)).alloc (.cells #[.pointer (some ⟨w1.heap.size, 0, none⟩)] 23) = W := ⟨_, rfl⟩
  have zW : W.heap.size = w1.heap.size + 3 := by rw [← hW, World.size_alloc, World.size_alloc, World.size_alloc]
  have hsW : Stk W 26 9 w1.heap.size w1.heap.size (.slice none 0 0) [] := by
    rw [← hW]
    exact hs1.out.turned ((Turned.alloc (fun _ => False) _ _).trans (Turned.alloc (fun _ => False) _ _) (fun _ h => h) (fun _ _ h => h)) (fun _ _ h => h)
  have bN : Boxed W (w1.heap.size + 1) 3 (.int .i64 0) := by
    rw [← hW]
    have := (Boxed.new (w1.alloc (.cells #[.slice none 0 0] 26)) 3 (.int .i64 0)).alloc (.cells #[.pointer (some ⟨w1.heap.size, 0, none⟩)] 23)
    rwa [World.size_alloc] at this
  have bA : Boxed W (w1.heap.size + 1 + 1) 23 (.pointer (some ⟨w1.heap.size, 0, none⟩)) := by
    rw [← hW]
    have := Boxed.new ((w1.alloc (.cells #[.slice none 0 0] 26)).alloc (.cells #[.int .i64 0] 3)) 23 (.pointer (some ⟨w1.heap.size, 0, none⟩))
    rwa [World.size_alloc, World.size_alloc] at this
  have hkW : Kept w W := by
    rw [← hW]
    exact ((hk1.out.alloc _).alloc _).alloc _
  rw [hW]
  clear hW
  refine wp_range (gf := 22) (lb := #[.pointer (some ⟨w1.heap.size + 1 + 1, 0, none⟩)]) rfl (enters_of Try.func22 (by kernel_rfl) rfl) (encs := fun x : Value => #[x]) (xs := []) (R := fun k => k = w1.heap.size + 1 + 1 ∨ Foot w1.heap.size (.slice none 0 0) k)
    (fun X hX => all1_s X w1.heap.size w1.heap.size _ _ [] (hX.boxed bA id) (hsW.turned hX (fun _ _ h => h))) (fun _ => rfl)
    (fun _ => False) (fun O _ _ => ∀ k, ¬ O k) (fun _ _ _ _ => False) ?hR ⟨fun _ _ _ _ h _ => h, fun _ _ _ h k hk => (h k hk).elim⟩
    (fun _ => ⟨fun _ _ _ _ h _ => h, fun _ _ _ h => h.elim⟩) (fun _ h => h)
    (fun x => { tmps := #[.bool false, .pointer (some ⟨w1.heap.size, 0, none⟩), .string ⟨#[]⟩, .bool false, .pointer (some ⟨w1.heap.size + 1, 0, none⟩), undef, undef, .bool true, .bool false, .agg #[.slice none 0 0], .pointer (some ⟨w1.heap.size, 0, none⟩), .tuple #[.string ⟨#[]⟩, .bool false], .pointer (some ⟨w1.heap.size, 0, none⟩), .tuple #[.string ⟨#[]⟩, .bool false], .string ⟨#[]⟩, .bool false, .pointer (some ⟨w1.heap.size, 0, none⟩), .func (.func 22) #[] #[.pointer (some ⟨w1.heap.size + 1 + 1, 0, none⟩)], x, undef, undef, undef, undef, undef, undef, undef, undef, undef, undef, undef, undef, undef, undef, undef, undef, undef, undef, undef, undef, undef, undef, undef, undef, undef, undef, undef, undef, undef, undef, undef, undef, undef, undef, undef, undef], defers := [] }) ?assign ?body ?done ?stop
  case hR =>
    rintro k (rfl | hk)
    · exact ⟨by omega, id⟩
    · exact ⟨by have := (hsW.lt k hk).2; omega, id⟩
  case assign =>
    intro l' x X K hK
    gi_wp2
    exact hK
  case body =>
    intro l' O pre p rest A hx
    simp at hx
  case stop =>
    rintro D O c pre rest X hD nD tX sX hx h
    exact h.elim
  case done =>
    rintro D O X hD nD tX sX _ hK
    have hs2 := Lib.hid (hsW.turned tX (fun _ _ h => h))
    have hk2 := Lib.hid (hkW.trans tX (fun _ h => h) (fun _ _ h => h))
    have hn2 := Lib.hid (tX.boxed bN id)
    have hD2 := Lib.hid hK
    have z2 : w1.heap.size ≤ X.heap.size := by have := tX.size; omega
    have zw : w.heap.size ≤ w1.heap.size := hk1.out.size
    clear hk1 hs1 hkW hsW bN bA tX sX hK nD
    gi_wp2_with fail
    refine ⟨trivial, (callsIn_wide.2 (push_s _ w1.heap.size _ _ _ _ z2 (by simp) hs2.out)).mono ?_⟩
    rintro e X3 ⟨rfl, hp⟩
    have hn3 := Lib.hid (hp.boxed hs2.out hn2.out (by decide) (by omega))
    have hD3 := Lib.hid (hp.others hs2.out hD2.out rfl)
    obtain ⟨v3, hs, hk⟩ := Kept.pushed zw hk2.out hs2.out hp
    have hs3 := Lib.hid hs
    have hk3 := Lib.hid hk
    have z3 : w1.heap.size ≤ X3.heap.size := by have := hp.size; omega
    clear hs2 hk2 hn2 hD2 hp hs hk z2
    gi_wp2_with fail
    refine ⟨trivial, (callsIn_wide.2 (push_s _ w1.heap.size _ _ _ _ z3 (by simp) hs3.out)).mono ?_⟩
    rintro e X4 ⟨rfl, hp⟩
    have hn4 := Lib.hid (hp.boxed hs3.out hn3.out (by decide) (by omega))
    have hD4 := Lib.hid (hp.others hs3.out hD3.out rfl)
    obtain ⟨v4, hs, hk⟩ := Kept.pushed zw hk3.out hs3.out hp
    have hs4 := Lib.hid hs
    have hk4 := Lib.hid hk
    clear hs3 hk3 hn3 hD3 hp hs hk z3
    gi_wp2_with fail
    refine ⟨trivial, (callsIn_wide.2 (pop1_s _ w1.heap.size _ _ _ _ hs4.out)).mono ?_⟩
    rintro e X5 ⟨rfl, hp⟩
    have hn5 := Lib.hid (hp.boxed hs4.out hn4.out (by decide) (by omega))
    have hD5 := Lib.hid (hp.others hs4.out hD4.out rfl)
    obtain ⟨v5, hs, hk⟩ := Kept.popped zw hk4.out hs4.out hp
    have hs5 := Lib.hid hs
    have hk5 := Lib.hid hk
    clear hs4 hk4 hn4 hD4 hp hs hk
    gi_wp2_with fail
    refine ⟨trivial, (callsIn_wide.2 (known_c _)).mono ?_⟩
    rintro e X6 ⟨rfl, hk⟩
    have hs6 := Lib.hid (hs5.out.turned hk (fun _ _ h => h))
    have hk6 := Lib.hid (hk5.out.trans hk (fun _ h => h) (fun _ _ h => h))
    have hD6 := hk.heap hD5.out id
    have hn6 := (hk.boxed hn5.out id).cell
    clear hs5 hk5 hn5 hD5 hk
    gi_wp2_with fail
    refine ⟨trivial, (callsIn_wide.2 (len_s _ w1.heap.size _ _ _ hs6.out)).mono ?_⟩
    rintro e X7 ⟨rfl, rfl⟩
    gi_wp2
    refine ⟨by simp, .inl ⟨_, _, rfl, run_takeDeferred hD6, ?_⟩⟩
    exact ⟨_, results_tmp rfl _ _ _, rfl, hk6.out.trans (Turned.putObj (R := fun k => k = D) _ D _ rfl) (fun _ h => h) (fun i hi h => by have := hD; omega)⟩
end Go.Proofs.Yteolopbklmbcmaa
