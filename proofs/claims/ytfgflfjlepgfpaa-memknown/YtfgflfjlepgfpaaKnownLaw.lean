/-
  What MemKnown answers: true; nothing that lay is turned.
-/
import Derived.Test.YtfgflfjlepgfpaaNow
namespace Go.Proofs.Ytfgflfjlepgfpaa
open Go.RowKit

set_option maxRecDepth 100000 in
set_option maxHeartbeats 2000000 in
theorem memKnown_c (w : World) : Calls Try.prog 3 #[] w fun e w' => e = .returned (.bool true) ∧ Kept w w' := by
  go_enter Try.func3, Try.ntmps3
  go_wp2_with (fail)
  refine (new0_p w 0 (by decide)).mono ?_
  rintro e w' ⟨rfl, rfl⟩
  go_wp2_with (fail)
  refine (new0_p w 65537 (by decide)).mono ?_
  rintro e w' ⟨rfl, rfl⟩
  go_wp2_with (fail)
  refine (now_new w w 65536 (Kept.refl w) (by decide) (by decide)).mono ?_
  rintro e W1 ⟨rfl, h1, -⟩
  have H1 := hide h1
  clear h1
  go_wp2_with (fail)
  refine (now_lit w W1 w.heap.size _ [9223372036854775807] 1 1 true ⟨[9223372036854775807], 65536, 1, 0, 0⟩ H1.out (by decide) (by decide) (by decide) (by kernel_rfl)).mono ?_
  rintro e W2 ⟨rfl, h2⟩
  have H2 := hide h2
  clear h2 H1
  go_wp2_with (fail)
  refine (now_make w W2 w.heap.size _ none [] 0 0 false ⟨[9223372036854775807], 65536, 2, 0, 1⟩ H2.out (.inl rfl) (by decide) (fun _ _ e => by cases e) (by decide) (by decide) (by kernel_rfl)).mono ?_
  rintro e W3 ⟨rfl, h3⟩
  have H3 := hide h3
  clear h3 H2
  go_wp2_with (fail)
  refine (now_add w W3 w.heap.size _ 1 1 9223372036854775807 ⟨[-9223372036854775808], 65536, 3, 0, 1⟩ H3.out (by decide) (by kernel_rfl)).mono ?_
  rintro e W4 ⟨rfl, h4⟩
  have H4 := hide h4
  clear h4 H3
  go_wp2_with (fail)
  refine (known_c W4).mono ?_
  rintro e W5 ⟨rfl, hk⟩
  have H5 := hide (H4.out.on hk)
  clear hk H4
  go_wp2_with (fail)
  refine (now_look w W5 w.heap.size _ 1 (-9223372036854775808) H5.out (by decide)).mono ?_
  rintro e w' ⟨rfl, rfl⟩
  go_wp2_with (fail)
  refine (now_refused w W5 w.heap.size _ 1 H5.out rfl).mono ?_
  rintro e w' ⟨rfl, rfl⟩
  go_wp2_with (fail)
  refine (now_size w W5 w.heap.size _ 65536 H5.out rfl).mono ?_
  rintro e w' ⟨rfl, rfl⟩
  go_wp2_with (fail)
  refine (now_used w W5 w.heap.size _ 1 H5.out rfl).mono ?_
  rintro e w' ⟨rfl, rfl⟩
  go_wp2
  go_ret
  exact ⟨rfl, H5.out.2⟩
end Go.Proofs.Ytfgflfjlepgfpaa
