/-
  What the proof of YtgialpjdfeldeaaPlantWideProof goes by, part 6 of 6: contracts and plain facts; each part begins with its own sentence. No conditions beyond each theorem's own.
-/
import Derived.Test.YtgialpjdfeldeaaWd5
import Derived.BigQuiet
import Derived.Deep.QuietTactic
/-! The program's isIdealInner, isIdeal, Ideal. -/
namespace Go.Proofs.Ytgialpjdfeldeaa
open Go.RowKit Go.Shelf

attribute [local go_sem] Oper.semAt_some

/-- The pairs of the part i of n. -/
def keyOk (s : Mst) (a : Int) (ps : List (Int × Int)) (i : Int) : Bool := decide (i ≤ 0) || (s.look (a + 4 + i) == ((partL ps i).headD (0, 0)).1)
def idealF (s : Mst) : Nat → Int → List (Int × Int) → Bool
  | 0, x, ps => if kd x = 1 then ps.isEmpty else if kd x = 2 then ps.length == 1 else false
  | f + 1, x, ps => if kd x = 1 then ps.isEmpty else if kd x = 2 then ps.length == 1 else if kd x = 3 then newB s (ad x) ps.length && (slotsL s x).all (fun p => keyOk s (ad x) ps p.1 && idealF s f (s.look p.2) (partL ps p.1)) else false
def kidB (s : Mst) (f : Nat) (x : Int) (ps : List (Int × Int)) (p : Int × Int) : Bool := keyOk s (ad x) ps p.1 && idealF s f (s.look p.2) (partL ps p.1)
theorem idealF_succ (s : Mst) (f : Nat) (x : Int) (ps : List (Int × Int)) : idealF s (f + 1) x ps = if kd x = 1 then ps.isEmpty else if kd x = 2 then ps.length == 1 else if kd x = 3 then newB s (ad x) ps.length && (slotsL s x).all (kidB s f x ps) else false := rfl
/-- A part lies within. -/
def IdealC (f : Nat) : Prop := ∀ (w : World) (b : Nat) (s : Mst) (_ : PM w b s) (_ : s.ok) (x : Int) (_ : I64 x) (_ : kd x = 3 → Wf s f x) (ps : List (Int × Int)) (M : Nat) (_ : ps.length = M) (_ : M ≤ 1000000) (la : Option Addr) (lc : Nat) (_ : PReads w la ps) (_ : M ≤ lc) (_ : lc ≤ maxLen) (r : Bool) (_ : idealF s f x ps = r),
    Calls Try.prog 63 #[.pointer (some ⟨b, 0, none⟩), .int .i64 x, .slice la M lc] w fun e w' => e = .returned (.bool r) ∧ Kept w w'

set_option maxHeartbeats 4000000 in
set_option maxRecDepth 20000 in
theorem idealInner_p (f : Nat) (ih : IdealC f) (w : World) (b : Nat) (s : Mst) (h : PM w b s) (ho : s.ok) (x : Int) (k3 : kd x = 3) (hw : Wf s (f + 1) x) (ps : List (Int × Int)) (M : Nat) (hM : ps.length = M) (hM2 : M ≤ 1000000) (la : Option Addr) (lc : Nat) (hr : PReads w la ps) (hlc : M ≤ lc) (hlm : lc ≤ maxLen) (r : Bool) (e1 : (newB s (ad x) ps.length && (slotsL s x).all (kidB s f x ps)) = r) :
    Calls Try.prog 94 #[.pointer (some ⟨b, 0, none⟩), .int .i64 x, .slice la M lc] w fun e w' => e = .returned (.bool r) ∧ Kept w w' := by
  unfold maxLen at hlm
  obtain ⟨hwh, hwk⟩ := hw
  obtain ⟨n, hn⟩ : ∃ n, w.heap.size = n := ⟨_, rfl⟩
  obtain ⟨p, hp⟩ : ∃ p, ad x = p := ⟨_, rfl⟩
  have pr := ad_range x
  rw [hp] at pr
  obtain ⟨a, rfl⟩ : ∃ a : Nat, p = (a : Int) := ⟨p.toNat, by omega⟩
  have a2 : (a : Int) ≤ 65536 := pr.2
  have HP := hide hp
  have H := hide h
  have HO := hide ho
  have HX := hide hwh.i64
  have HWH := hide hwh
  have HWK := hide hwk
  have HRD := hide hr
  have HMM := hide hM
  have IH := hide ih
  have HN := hide hn
  have e0 : tgt s x = x := by rw [tgt, if_neg (by rw [k3]; decide)]
  have E0 := hide e0
  have K3 := hide k3
  have HE : Hid ((newB s (a : Int) (M : Int) && (slotsL s x).all (kidB s f x ps)) = r) := hide (by rw [← e1, hp, hM])
  obtain ⟨W1, hW1⟩ : ∃ W1, ((w.alloc (.cells #[.pointer (some ⟨b, 0, none⟩)] 22)).alloc (.cells #[.slice la M lc] 31)).alloc (.cells #[.bool false] 4) = W1 := ⟨_, rfl⟩
  have z1 : W1.heap.size = n + 3 := by rw [← hW1]; simp [hn]
  have t1 : Kept w W1 := by rw [← hW1]; exact (((Kept.refl w).alloc _).alloc _).alloc _
  have bx : ∀ (X : World) (T : TypeId) (v : Value) (m : Nat), X.heap.size = m → Boxed (X.alloc (.cells #[v] T)) m T v := fun X T v m e => by rw [← e]; exact Boxed.new X T v
  have bM : Boxed W1 n 22 (.pointer (some ⟨b, 0, none⟩)) := by rw [← hW1]; exact ((bx w 22 _ n hn).alloc _).alloc _
  have bP : Boxed W1 (n + 1) 31 (.slice la M lc) := by rw [← hW1]; exact (bx _ 31 _ (n + 1) (by simp [hn])).alloc _
  have bR : Boxed W1 (n + 2) 4 (.bool false) := by rw [← hW1]; exact bx _ 4 _ (n + 2) (by simp [hn])
  have K1 := hide t1
  have Z1 := hide z1
  have BM := hide bM
  have BP := hide bP
  have BR := hide bR
  clear h ho hwh hwk hr hM ih e0 k3 e1 t1 bx bM bP bR z1 hp pr
  refine calls_marks Try.func94 rfl ?_
  simp only [Try.ntmps94, List.size_toArray, List.length_cons, List.length_nil, Nat.reduceAdd, Nat.reduceSub, Array.replicate_succ, Array.replicate_zero, List.push_toArray, List.append_toArray, List.nil_append, List.cons_append]
  go_wp2_with (fail)
  clear hW1 hn
  obtain ⟨V, hV⟩ : ∃ V, W1.drew = V := ⟨_, rfl⟩
  have kV : Kept W1 V := by rw [← hV]; exact Kept.drew _
  have KV := hide kV
  have HVV := hide hV
  have x0 : ∀ u : Wd (fun U => Kept V U), u.w.cell? ⟨n + 1, 0, none⟩ = some (.slice la M lc) := fun u => u.ok.cell (kV.cell BP.out.cell id) id
  have zv : V.heap.size = n + 3 := by rw [← hV]; exact Z1.out
  have BXa : Hid (∀ u v : Value, Boxed ((V.alloc (.cells #[u] 3)).alloc (.cells #[v] 3)) (n + 3) 3 u) := hide (fun u v => by rw [← zv]; exact (Boxed.new V 3 u).alloc _)
  have BXb : Hid (∀ u v : Value, Boxed ((V.alloc (.cells #[u] 3)).alloc (.cells #[v] 3)) (n + 3 + 1) 3 v) := hide (fun u v => by
    have := Boxed.new (V.alloc (.cells #[u] 3)) 3 v
    rwa [World.size_alloc, zv] at this)
  clear kV hV
  refine Code.wp_mono (Q := fun e a' X => e = .normal ∧ ∃ b7 b8, a' = { tmps := #[.pointer (some ⟨b, 0, none⟩), .int .i64 x, .slice la M lc, .pointer (some ⟨n, 0, none⟩), undef, .pointer (some ⟨n + 1, 0, none⟩), .pointer (some ⟨n + 2, 0, none⟩), .pointer (some ⟨b7, 0, none⟩), .pointer (some ⟨b8, 0, none⟩), undef, undef, undef, undef, .int .i64 x, .int .i64 (a : Int), .slice la M lc, .int .i64 (M : Int), undef, undef, undef, undef, undef, undef, undef, undef, undef, undef, undef, undef, undef, undef, undef, undef, undef, undef, undef, undef, undef, undef, undef, undef, undef, undef, undef, undef, undef, undef, undef, undef, undef, undef, undef, undef, undef, undef, undef, undef, undef, undef], defers := [] } ∧ Kept V X ∧ Boxed X b7 3 (.int .i64 (a : Int)) ∧ Boxed X b8 3 (.int .i64 (M : Int)) ∧ n + 3 ≤ b7 ∧ n + 3 ≤ b8) ?cont ?reg
  case reg =>
    refine region_tree (fun U => Kept V U) (by kernel_rfl) (by rw [HVV.out]; exact Kept.refl _) (fun _ => ?_)
    rw [HVV.out]
    refine aq 0 #[true, false, false, false, false, false, false, false] rfl rfl (by kernel_rfl) (by kernel_rfl) (Wd.mem (Kept.refl _)) ?_
    go_big_quiet_step (fail)
    refine wpQuiet_nil ?_
    refine aq 2 #[true, false, true, false, false, false, false, false] rfl rfl (by kernel_rfl) (by kernel_rfl) (Wd.mem (Kept.refl _)) ?_
    go_big_quiet_step (fail)
    refine wpQuiet_nil ?_
    refine aq 3 #[true, false, true, true, false, false, false, false] rfl rfl (by kernel_rfl) (by kernel_rfl) (Wd.mem (Kept.refl _)) ?_
    go_big_quiet_step (fail)
    refine wpQuiet_nil ?_
    refine al [1, 4, 5] (by kernel_rfl) (fun i hi => ?_)
    simp only [List.mem_cons, List.not_mem_nil, or_false] at hi
    rcases hi with rfl | rfl | rfl
    · refine ⟨_, #[true, true, true, true, false, false, false, false], rfl, by kernel_rfl, ?_⟩
      gi_wp2_with (fail)
      refine ⟨trivial, ?_⟩
      refine (callsIn_wide.2 (ak_p _ x a HX.out HP.out)).mono ?_
      rintro e U ⟨rfl, rfl⟩
      gi_wp2_with (fail)
      refine ⟨Wd.mem ?_, ?_⟩
      · first | exact Kept.refl _ | exact (Kept.refl _).alloc _ | exact ((Kept.refl _).alloc _).alloc _
      refine al [4, 5] (by kernel_rfl) (fun i hi => ?_)
      simp only [List.mem_cons, List.not_mem_nil, or_false] at hi
      rcases hi with rfl | rfl
      · refine ⟨_, #[true, true, true, true, true, false, false, false], rfl, by kernel_rfl, ?_⟩
        gi_wp2
        refine ⟨Wd.mem ?_, ?_⟩
        · first | exact (Kept.refl _).alloc _ | exact ((Kept.refl _).alloc _).alloc _
        refine al [5] (by kernel_rfl) (fun i hi => ?_)
        obtain rfl : i = 5 := by simpa using hi
        refine ⟨_, #[true, true, true, true, true, true, false, false], rfl, by kernel_rfl, ?_⟩
        gi_wp2
        refine ⟨Wd.mem ?_, ?_⟩
        · first | exact (Kept.refl _).alloc _ | exact ((Kept.refl _).alloc _).alloc _
        refine al [6] (by kernel_rfl) (fun i hi => ?_)
        obtain rfl : i = 6 := by simpa using hi
        refine ⟨_, #[true, true, true, true, true, true, true, false], rfl, by kernel_rfl, ?_⟩
        gi_wp2
        refine ⟨Wd.mem ?_, ?_⟩
        · first | exact (Kept.refl _).alloc _ | exact ((Kept.refl _).alloc _).alloc _
        refine al [7] (by kernel_rfl) (fun i hi => ?_)
        obtain rfl : i = 7 := by simpa using hi
        refine ⟨_, #[true, true, true, true, true, true, true, true], rfl, by kernel_rfl, ?_⟩
        gi_wp2
        refine ⟨Wd.mem ?_, ?_⟩
        · first | exact (Kept.refl _).alloc _ | exact ((Kept.refl _).alloc _).alloc _
        refine adone (by kernel_rfl) ?_
        refine ⟨rfl, _, _, rfl, ((Kept.refl _).alloc _).alloc _, ?_, ?_, by omega, by omega⟩
        · first | exact BXa.out _ _ | exact BXb.out _ _
        · first | exact BXa.out _ _ | exact BXb.out _ _
      · refine ⟨_, #[true, true, true, true, false, true, false, false], rfl, by kernel_rfl, ?_⟩
        gi_wp2
        refine ⟨Wd.mem ?_, ?_⟩
        · first | exact (Kept.refl _).alloc _ | exact ((Kept.refl _).alloc _).alloc _
        refine al [4] (by kernel_rfl) (fun i hi => ?_)
        obtain rfl : i = 4 := by simpa using hi
        refine ⟨_, #[true, true, true, true, true, true, false, false], rfl, by kernel_rfl, ?_⟩
        gi_wp2
        refine ⟨Wd.mem ?_, ?_⟩
        · first | exact (Kept.refl _).alloc _ | exact ((Kept.refl _).alloc _).alloc _
        refine al [6] (by kernel_rfl) (fun i hi => ?_)
        obtain rfl : i = 6 := by simpa using hi
        refine ⟨_, #[true, true, true, true, true, true, true, false], rfl, by kernel_rfl, ?_⟩
        gi_wp2
        refine ⟨Wd.mem ?_, ?_⟩
        · first | exact (Kept.refl _).alloc _ | exact ((Kept.refl _).alloc _).alloc _
        refine al [7] (by kernel_rfl) (fun i hi => ?_)
        obtain rfl : i = 7 := by simpa using hi
        refine ⟨_, #[true, true, true, true, true, true, true, true], rfl, by kernel_rfl, ?_⟩
        gi_wp2
        refine ⟨Wd.mem ?_, ?_⟩
        · first | exact (Kept.refl _).alloc _ | exact ((Kept.refl _).alloc _).alloc _
        refine adone (by kernel_rfl) ?_
        refine ⟨rfl, _, _, rfl, ((Kept.refl _).alloc _).alloc _, ?_, ?_, by omega, by omega⟩
        · first | exact BXa.out _ _ | exact BXb.out _ _
        · first | exact BXa.out _ _ | exact BXb.out _ _
    · refine ⟨_, #[true, false, true, true, true, false, false, false], rfl, by kernel_rfl, ?_⟩
      gi_wp2
      refine ⟨Wd.mem ?_, ?_⟩
      · first | exact (Kept.refl _).alloc _ | exact ((Kept.refl _).alloc _).alloc _
      refine al [1, 5] (by kernel_rfl) (fun i hi => ?_)
      simp only [List.mem_cons, List.not_mem_nil, or_false] at hi
      rcases hi with rfl | rfl
      · refine ⟨_, #[true, true, true, true, true, false, false, false], rfl, by kernel_rfl, ?_⟩
        gi_wp2_with (fail)
        refine ⟨trivial, ?_⟩
        refine (callsIn_wide.2 (ak_p _ x a HX.out HP.out)).mono ?_
        rintro e U ⟨rfl, rfl⟩
        gi_wp2_with (fail)
        refine ⟨Wd.mem ?_, ?_⟩
        · first | exact Kept.refl _ | exact (Kept.refl _).alloc _ | exact ((Kept.refl _).alloc _).alloc _
        refine al [5] (by kernel_rfl) (fun i hi => ?_)
        obtain rfl : i = 5 := by simpa using hi
        refine ⟨_, #[true, true, true, true, true, true, false, false], rfl, by kernel_rfl, ?_⟩
        gi_wp2
        refine ⟨Wd.mem ?_, ?_⟩
        · first | exact (Kept.refl _).alloc _ | exact ((Kept.refl _).alloc _).alloc _
        refine al [6] (by kernel_rfl) (fun i hi => ?_)
        obtain rfl : i = 6 := by simpa using hi
        refine ⟨_, #[true, true, true, true, true, true, true, false], rfl, by kernel_rfl, ?_⟩
        gi_wp2
        refine ⟨Wd.mem ?_, ?_⟩
        · first | exact (Kept.refl _).alloc _ | exact ((Kept.refl _).alloc _).alloc _
        refine al [7] (by kernel_rfl) (fun i hi => ?_)
        obtain rfl : i = 7 := by simpa using hi
        refine ⟨_, #[true, true, true, true, true, true, true, true], rfl, by kernel_rfl, ?_⟩
        gi_wp2
        refine ⟨Wd.mem ?_, ?_⟩
        · first | exact (Kept.refl _).alloc _ | exact ((Kept.refl _).alloc _).alloc _
        refine adone (by kernel_rfl) ?_
        refine ⟨rfl, _, _, rfl, ((Kept.refl _).alloc _).alloc _, ?_, ?_, by omega, by omega⟩
        · first | exact BXa.out _ _ | exact BXb.out _ _
        · first | exact BXa.out _ _ | exact BXb.out _ _
      · refine ⟨_, #[true, false, true, true, true, true, false, false], rfl, by kernel_rfl, ?_⟩
        gi_wp2
        refine ⟨Wd.mem ?_, ?_⟩
        · first | exact (Kept.refl _).alloc _ | exact ((Kept.refl _).alloc _).alloc _
        refine al [1] (by kernel_rfl) (fun i hi => ?_)
        obtain rfl : i = 1 := by simpa using hi
        refine ⟨_, #[true, true, true, true, true, true, false, false], rfl, by kernel_rfl, ?_⟩
        gi_wp2_with (fail)
        refine ⟨trivial, ?_⟩
        refine (callsIn_wide.2 (ak_p _ x a HX.out HP.out)).mono ?_
        rintro e U ⟨rfl, rfl⟩
        gi_wp2_with (fail)
        refine ⟨Wd.mem ?_, ?_⟩
        · first | exact Kept.refl _ | exact (Kept.refl _).alloc _ | exact ((Kept.refl _).alloc _).alloc _
        refine al [6] (by kernel_rfl) (fun i hi => ?_)
        obtain rfl : i = 6 := by simpa using hi
        refine ⟨_, #[true, true, true, true, true, true, true, false], rfl, by kernel_rfl, ?_⟩
        gi_wp2
        refine ⟨Wd.mem ?_, ?_⟩
        · first | exact (Kept.refl _).alloc _ | exact ((Kept.refl _).alloc _).alloc _
        refine al [7] (by kernel_rfl) (fun i hi => ?_)
        obtain rfl : i = 7 := by simpa using hi
        refine ⟨_, #[true, true, true, true, true, true, true, true], rfl, by kernel_rfl, ?_⟩
        gi_wp2
        refine ⟨Wd.mem ?_, ?_⟩
        · first | exact (Kept.refl _).alloc _ | exact ((Kept.refl _).alloc _).alloc _
        refine adone (by kernel_rfl) ?_
        refine ⟨rfl, _, _, rfl, ((Kept.refl _).alloc _).alloc _, ?_, ?_, by omega, by omega⟩
        · first | exact BXa.out _ _ | exact BXb.out _ _
        · first | exact BXa.out _ _ | exact BXb.out _ _
    · refine ⟨_, #[true, false, true, true, false, true, false, false], rfl, by kernel_rfl, ?_⟩
      gi_wp2
      refine ⟨Wd.mem ?_, ?_⟩
      · first | exact (Kept.refl _).alloc _ | exact ((Kept.refl _).alloc _).alloc _
      refine al [1, 4] (by kernel_rfl) (fun i hi => ?_)
      simp only [List.mem_cons, List.not_mem_nil, or_false] at hi
      rcases hi with rfl | rfl
      · refine ⟨_, #[true, true, true, true, false, true, false, false], rfl, by kernel_rfl, ?_⟩
        gi_wp2_with (fail)
        refine ⟨trivial, ?_⟩
        refine (callsIn_wide.2 (ak_p _ x a HX.out HP.out)).mono ?_
        rintro e U ⟨rfl, rfl⟩
        gi_wp2_with (fail)
        refine ⟨Wd.mem ?_, ?_⟩
        · first | exact Kept.refl _ | exact (Kept.refl _).alloc _ | exact ((Kept.refl _).alloc _).alloc _
        refine al [4] (by kernel_rfl) (fun i hi => ?_)
        obtain rfl : i = 4 := by simpa using hi
        refine ⟨_, #[true, true, true, true, true, true, false, false], rfl, by kernel_rfl, ?_⟩
        gi_wp2
        refine ⟨Wd.mem ?_, ?_⟩
        · first | exact (Kept.refl _).alloc _ | exact ((Kept.refl _).alloc _).alloc _
        refine al [6] (by kernel_rfl) (fun i hi => ?_)
        obtain rfl : i = 6 := by simpa using hi
        refine ⟨_, #[true, true, true, true, true, true, true, false], rfl, by kernel_rfl, ?_⟩
        gi_wp2
        refine ⟨Wd.mem ?_, ?_⟩
        · first | exact (Kept.refl _).alloc _ | exact ((Kept.refl _).alloc _).alloc _
        refine al [7] (by kernel_rfl) (fun i hi => ?_)
        obtain rfl : i = 7 := by simpa using hi
        refine ⟨_, #[true, true, true, true, true, true, true, true], rfl, by kernel_rfl, ?_⟩
        gi_wp2
        refine ⟨Wd.mem ?_, ?_⟩
        · first | exact (Kept.refl _).alloc _ | exact ((Kept.refl _).alloc _).alloc _
        refine adone (by kernel_rfl) ?_
        refine ⟨rfl, _, _, rfl, ((Kept.refl _).alloc _).alloc _, ?_, ?_, by omega, by omega⟩
        · first | exact BXa.out _ _ | exact BXb.out _ _
        · first | exact BXa.out _ _ | exact BXb.out _ _
      · refine ⟨_, #[true, false, true, true, true, true, false, false], rfl, by kernel_rfl, ?_⟩
        gi_wp2
        refine ⟨Wd.mem ?_, ?_⟩
        · first | exact (Kept.refl _).alloc _ | exact ((Kept.refl _).alloc _).alloc _
        refine al [1] (by kernel_rfl) (fun i hi => ?_)
        obtain rfl : i = 1 := by simpa using hi
        refine ⟨_, #[true, true, true, true, true, true, false, false], rfl, by kernel_rfl, ?_⟩
        gi_wp2_with (fail)
        refine ⟨trivial, ?_⟩
        refine (callsIn_wide.2 (ak_p _ x a HX.out HP.out)).mono ?_
        rintro e U ⟨rfl, rfl⟩
        gi_wp2_with (fail)
        refine ⟨Wd.mem ?_, ?_⟩
        · first | exact Kept.refl _ | exact (Kept.refl _).alloc _ | exact ((Kept.refl _).alloc _).alloc _
        refine al [6] (by kernel_rfl) (fun i hi => ?_)
        obtain rfl : i = 6 := by simpa using hi
        refine ⟨_, #[true, true, true, true, true, true, true, false], rfl, by kernel_rfl, ?_⟩
        gi_wp2
        refine ⟨Wd.mem ?_, ?_⟩
        · first | exact (Kept.refl _).alloc _ | exact ((Kept.refl _).alloc _).alloc _
        refine al [7] (by kernel_rfl) (fun i hi => ?_)
        obtain rfl : i = 7 := by simpa using hi
        refine ⟨_, #[true, true, true, true, true, true, true, true], rfl, by kernel_rfl, ?_⟩
        gi_wp2
        refine ⟨Wd.mem ?_, ?_⟩
        · first | exact (Kept.refl _).alloc _ | exact ((Kept.refl _).alloc _).alloc _
        refine adone (by kernel_rfl) ?_
        refine ⟨rfl, _, _, rfl, ((Kept.refl _).alloc _).alloc _, ?_, ?_, by omega, by omega⟩
        · first | exact BXa.out _ _ | exact BXb.out _ _
        · first | exact BXa.out _ _ | exact BXb.out _ _
  case cont =>
    rintro e a' X ⟨rfl, b7, b8, rfl, kX, bA, bN, l7, l8⟩
    have K2 := hide (K1.out.trans (KV.out.trans kX))
    have BM2 := hide (kX.boxed (KV.out.boxed BM.out id) id)
    have BP2 := hide (kX.boxed (KV.out.boxed BP.out id) id)
    have BR2 := hide (kX.boxed (KV.out.boxed BR.out id) id)
    have BA2 := hide bA
    have BN2 := hide bN
    have L78 : Hid (n + 3 ≤ b7 ∧ n + 3 ≤ b8) := hide ⟨l7, l8⟩
    have cM := BM2.out.cell
    have cA := bA.cell
    have cN := bN.cell
    have cR := BR2.out.cell
    have fR := BR2.out.frozen
    have HMI : Hid ((Lit.int .i64 (M : Int)).wf = true) := hide (I64.wf ⟨by omega, by omega⟩)
    obtain ⟨q, hq⟩ : ∃ q, newB s (a : Int) (M : Int) = q := ⟨_, rfl⟩
    have HQ := hide hq
    have HE2 : Hid ((q && (slotsL s x).all (kidB s f x ps)) = r) := hide (by rw [← hq]; exact HE.out)
    have Z2 : Hid (n + 3 ≤ X.heap.size) := hide (by have := bA.lt; omega)
    clear kX bA bN l7 l8 hq x0 zv BXa BXb
    cases q with
    | false =>
      have HR : Hid (r = false) := hide (by rw [← HE2.out]; rfl)
      have tS : Turned (fun k => k = n + 2) X (X.setCell ⟨n + 2, 0, none⟩ (.bool false)) := Turned.setCell _ _ _ rfl
      have KS := hide (K2.out.did (by have := HN.out; omega) tS)
      have CS := hide (BR2.out.set (.bool false)).cell
      clear tS
      go_wp2_with (fail)
      refine (isNew_p X b s a M false (H.out.kept K2.out) (by omega) (by omega) ⟨by omega, by omega⟩ HQ.out).mono ?_
      rintro e w' ⟨rfl, rfl⟩
      go_wp2
      refine leave_marks [] _ ?_ ?_ ?_
      · intro k hk; cases hk
      · simp
      · intro X' hX'
        have q1 := hX'.cell CS.out (by simp)
        exact ⟨.bool false, by simp [results, Try.results94, go_sem, q1], by rw [HR.out], KS.out.trans (hX'.mono fun _ _ h => by cases h)⟩
    | true =>
      have hdeg : s.look (a : Int) = Pt.degZ (M : Int) := by
        have := HQ.out
        unfold newB at this
        simp only [Bool.and_eq_true, beq_iff_eq] at this
        exact this.1.1.1.1
      have HDEG := hide hdeg
      have hd := HWH.out.deg (by rw [E0.out]; exact K3.out)
      rw [E0.out, HP.out, hdeg] at hd
      have hpos : 0 < Pt.degZ (M : Int) := by omega
      obtain ⟨hm2, hm3⟩ := Pt.deg_pos hpos
      have HPOS := hide hpos
      have HE3 : Hid ((slotsL s x).all (kidB s f x ps) = r) := hide (by rw [← HE2.out]; rfl)
      obtain ⟨bl, off, rfl⟩ : ∃ bl off, la = some ⟨bl, off, none⟩ := by
        rcases HRD.out with e | ⟨bl, off, e, _⟩
        · have := HMM.out; rw [e] at this; simp at this; omega
        · exact ⟨bl, off, e⟩
      clear hdeg hd hpos
      go_wp2_with (fail)
      refine (isNew_p X b s a M true (H.out.kept K2.out) (by omega) (by omega) ⟨by omega, by omega⟩ HQ.out).mono ?_
      rintro e w' ⟨rfl, rfl⟩
      go_wp2_with (fail)
      refine (slots_k X b x).mono ?_
      rintro e W3 ⟨B1, B2, rfl, k3, b1, b2, l1, l2⟩
      have K3' := hide (K2.out.trans k3)
      have BM3 := hide (k3.boxed BM2.out id)
      have BP3 := hide (k3.boxed BP2.out id)
      have BR3 := hide (k3.boxed BR2.out id)
      have BA3 := hide (k3.boxed BA2.out id)
      have BN3 := hide (k3.boxed BN2.out id)
      have BB1 := hide b1
      have BB2 := hide b2
      have L1 : Hid (n + 3 ≤ B1 ∧ n + 3 ≤ B2 ∧ n + 3 ≤ W3.heap.size) := hide (by have := Z2.out; have := k3.size; omega)
      clear k3 b1 b2 l1 l2 cM cA cN cR fR
      go_wp2_with (fail)
      refine wp_range2 (gf := 107) rfl (enters_of Try.func107 (by kernel_rfl) rfl) (encs := enc2) (xs := slotsL s x) (R := SlotR w B1 B2)
        (fun X hX => slots_i w X (K3'.out.trans hX) b s H.out HO.out x HWH.out B1 B2 (hX.boxed BB1.out id) (hX.boxed BB2.out id)) (fun _ => rfl)
        (fun k => k = n + 2) (fun O pre A => (∀ p ∈ pre, kidB s f x ps p = true) ∧ Cell1 (n + 2) 4 (.bool false) O pre A) (fun c O pre A => c = .ret ∧ (∃ p ∈ pre, kidB s f x ps p = false) ∧ Cell1 (n + 2) 4 (.bool false) O pre A) ?hR
        (good_and (Cell1.good _ _ _) _) (fun c => good_only (good_and (Cell1.good _ _ _) _) c .ret) ⟨(by intro p hp; cases hp), fun _ => Iff.rfl, BR3.out⟩ ?ab ?done ?stop
      case hR =>
        rintro k (hk | rfl | rfl)
        · have h1 := HN.out
          have h2 := K3'.out.size
          exact ⟨by omega, by omega⟩
        · have := L1.out
          exact ⟨BB1.out.lt, by omega⟩
        · have := L1.out
          exact ⟨BB2.out.lt, by omega⟩
      case ab =>
        apply Exists.intro
        refine ⟨?_, ?_⟩
        · intro l' p X K hK
          gi_wp2
          exact hK
        · rintro l' O pre ⟨pi, sl⟩ rest B hx' tB sB ⟨hpre, hO, rB⟩
          have hmem : (pi, sl) ∈ slotsL s x := by rw [hx']; simp
          obtain ⟨k, hk, hpi, hsl⟩ : ∃ k : Nat, (k : Int) < Pt.degZ (M : Int) ∧ pi = (k : Int) ∧ sl = childS a (Pt.degZ (M : Int)).toNat k := by
            have hm := hmem
            unfold slotsL at hm
            rw [E0.out, if_pos K3.out, List.mem_map] at hm
            obtain ⟨k, h1, h2⟩ := hm
            have eA : atN s x = a := by unfold atN; rw [E0.out, HP.out]; omega
            have eD : degN s x = (Pt.degZ (M : Int)).toNat := by unfold degN; rw [E0.out, HP.out, HDEG.out]
            rw [eD, List.mem_range] at h1
            rw [eA, eD] at h2
            cases h2
            exact ⟨k, by omega, rfl, rfl⟩
          have hdb := Pt.deg_nat (M : Int)
          subst hpi
          obtain ⟨pf, pg, ph⟩ := part_in (n := (M : Int)) (i := (k : Int)) (by omega) hk
          obtain ⟨F, hF⟩ : ∃ F : Nat, Pt.fromZ (M : Int) (k : Int) = (F : Int) := ⟨(Pt.fromZ (M : Int) (k : Int)).toNat, by omega⟩
          obtain ⟨S, hS⟩ : ∃ S : Nat, Pt.sizeZ (M : Int) (k : Int) = (S : Int) := ⟨(Pt.sizeZ (M : Int) (k : Int)).toNat, by omega⟩
          rw [hF] at pf ph
          rw [hS] at pg ph
          have HFR := hide hF
          have HSZ := hide hS
          have hfs : F + S ≤ M := by omega
          obtain ⟨own, hown⟩ : ∃ own, partL ps (k : Int) = own := ⟨_, rfl⟩
          have hown2 : own = (ps.drop F).take S := by rw [← hown, partL, HMM.out, hF, hS]; simp
          have hownl : own.length = S := by rw [hown2, List.length_take, List.length_drop, HMM.out]; omega
          have HOWL := hide hownl
          have HOWN : Hid (∀ W, Kept w W → PReads W (some ⟨bl, off + F * 2, none⟩) own) := hide (fun W kW => by rw [hown2]; exact (HRD.out.sub F S).kept kW)
          obtain ⟨u, hu⟩ : ∃ u, s.look sl = u := ⟨_, rfl⟩
          have HU := hide hu
          have HUI : Hid (I64 u) := hide (by rw [← hu]; exact HO.out.look _)
          have HUW : Hid (kd u = 3 → Wf s f u) := hide (fun h3 => by
            have e : s.logicZ sl = u := by rw [Mst.logicZ, hu, if_neg (by rw [show Rf.kindZ u = 3 from h3]; decide)]
            have := HWK.out ((k : Int), sl) hmem
            rwa [e] at this)
          obtain ⟨v, hv⟩ : ∃ v, idealF s f u own = v := ⟨_, rfl⟩
          have HV := hide hv
          obtain ⟨z, hz⟩ : ∃ z, s.look ((a : Int) + 4 + (k : Int)) = z := ⟨_, rfl⟩
          have HZ := hide hz
          obtain ⟨⟨h0, h1'⟩, hh⟩ : ∃ p, own[0]? = some p := ⟨_, List.getElem?_eq_getElem (by omega)⟩
          have HH := hide hh
          have HKB : Hid (kidB s f x ps ((k : Int), sl) = ((decide ((k : Int) ≤ 0) || (z == h0)) && v)) := hide (by
            have e : own.headD (0, 0) = (h0, h1') := by cases own with
              | nil => simp at hh
              | cons p l => simp at hh; simp [hh]
            simp only [kidB, keyOk, HP.out, hown, hz, hu, hv, e])
          have HOO := hide hO
          have HPRE := hide hpre
          have KB := hide (K3'.out.did (by have := HN.out; omega) tB)
          have cM := (tB.boxed BM3.out (by omega)).cell
          have cP := (tB.boxed BP3.out (by omega)).cell
          have cA := (tB.boxed BA3.out (by have := L78.out; omega)).cell
          have cN := (tB.boxed BN3.out (by have := L78.out; omega)).cell
          have RB := hide rB
          have GO : Hid (∀ X, Kept B X → kidB s f x ps ((k : Int), sl) = true → ∃ O', Sub O' O B.heap.size ∧ Turned O B X ∧ (∀ p ∈ pre ++ [((k : Int), sl)], kidB s f x ps p = true) ∧ Cell1 (n + 2) 4 (.bool false) O' (pre ++ [((k : Int), sl)]) X) := hide (fun X kX hm => by
            refine ⟨O, Sub.refl _ _, kX.mono (fun _ _ h => h.elim), ?_, HOO.out, kX.boxed RB.out id⟩
            intro p hp
            rcases List.mem_append.1 hp with hp | hp
            · exact HPRE.out p hp
            · simp at hp; rw [hp]; exact hm)
          have OUT : Hid (∀ X, Kept B X → kidB s f x ps ((k : Int), sl) = false → ∃ O', Sub O' O B.heap.size ∧ Turned O B (X.setCell ⟨n + 2, 0, none⟩ (.bool false)) ∧ (∃ p ∈ pre ++ [((k : Int), sl)], kidB s f x ps p = false) ∧ Cell1 (n + 2) 4 (.bool false) O' (pre ++ [((k : Int), sl)]) (X.setCell ⟨n + 2, 0, none⟩ (.bool false))) := hide (fun X kX hm => by
            have tS : Turned (fun k => k = n + 2) X (X.setCell ⟨n + 2, 0, none⟩ (.bool false)) := Turned.setCell _ _ _ rfl
            exact ⟨O, Sub.refl _ _, Turned.trans kX tS (fun _ h => h.elim) (fun k _ h => (HOO.out k).2 h), ⟨((k : Int), sl), by simp, hm⟩, HOO.out, (kX.boxed RB.out id).set _⟩)
          have i1 : (F : Int) + (S : Int) ≤ (M : Int) := by omega
          have i2 : (1 : Int) ≤ (S : Int) := by omega
          have i3 : F ≠ lc := by omega
          have i4 : F + S ≤ lc := by omega
          have i5 : (F : Int) + (S : Int) ≤ (lc : Int) := by omega
          have i6 : (k : Int) < 200 := by omega
          have hkz := hide (keyZ_in (n := a) (i := (k : Int)) (by omega) (by omega) (by omega) (by omega))
          clear hx' tB sB hpre hO rB hmem hk hsl hdb pf pg ph hF hS hown hown2 hownl hu hv hz hh
          gi_wp2_with (fail)
          refine ⟨trivial, ?_⟩
          refine (CallsIn.inRound l' (callsIn_wide.2 (from_k (M : Int) (k : Int) (F : Int) HMI.out HFR.out B))).mono ?_
          rintro e C ⟨rfl, kC⟩
          have KC := hide kC
          have cM := kC.cell cM id
          have cP := kC.cell cP id
          have cA := kC.cell cA id
          have cN := kC.cell cN id
          clear kC
          obtain ⟨V8, hVx⟩ : ∃ V8, C.drew = V8 := ⟨_, rfl⟩
          have kVx : Kept C V8 := by rw [← hVx]; exact Kept.drew _
          have HVx := hide hVx
          have KV8 := hide kVx
          have y0 : ∀ u : Wd (fun U => Kept V8 U), u.w.cell? ⟨n + 1, 0, none⟩ = some (.slice (some ⟨bl, off, none⟩) M lc) := fun u => u.ok.cell (kVx.cell cP id) id
          have y1 : ∀ u : Wd (fun U => Kept V8 U), u.w.cell? ⟨b8, 0, none⟩ = some (.int .i64 (M : Int)) := fun u => u.ok.cell (kVx.cell cN id) id
          clear hVx kVx
          gi_wp2_with (fail)
          refine region_round [0, 1, 2, 3, 4, 5, 6, 7, 8] (fun U => Kept V8 U) (by kernel_rfl) (by kernel_rfl) (by kernel_rfl) (by rw [HVx.out]; exact Kept.refl _) (fun _ => ?_)
          rw [HVx.out]
          repeat (refine pq rfl rfl ?_; go_big_quiet_step (fail); refine wpQuiet_nil ?_)
          refine pl rfl rfl ?_
          gi_wp2_with (fail)
          refine ⟨trivial, ?_⟩
          refine (callsIn_wide.2 (size_k (M : Int) (k : Int) (S : Int) HMI.out HSZ.out V8)).mono ?_
          rintro e U8 ⟨rfl, kU⟩
          have KU8 := hide kU
          clear kU
          gi_wp2_with (fail)
          refine ⟨Wd.mem KU8.out, ?_⟩
          repeat (refine pq rfl rfl ?_; go_big_quiet_step (fail); refine wpQuiet_nil ?_)
          refine perm_done ?_
          rw [Nat.add_sub_cancel_left]
          have KU : Hid (Kept B U8) := hide (KC.out.trans (KV8.out.trans KU8.out))
          have k8 : Kept C U8 := KV8.out.trans KU8.out
          have cM := k8.cell cM id
          have cA := k8.cell cA id
          have hw8 := KB.out.trans KU.out
          have cH : U8.cell? ⟨bl, off + F * 2, none⟩ = some (.int .i64 h0) := by
            obtain ⟨bl', off', e', _, q0, _⟩ := (HOWN.out U8 hw8).at HH.out
            cases e'
            simpa using q0
          obtain ⟨V9, hVx⟩ : ∃ V9, U8.drew = V9 := ⟨_, rfl⟩
          have kVx : Kept U8 V9 := by rw [← hVx]; exact Kept.drew _
          have HVx := hide hVx
          have KV9 := hide kVx
          have y2 : ∀ u : Wd (fun U => Kept V9 U), u.w.cell? ⟨n, 0, none⟩ = some (.pointer (some ⟨b, 0, none⟩)) := fun u => u.ok.cell (kVx.cell cM id) id
          have y3 : ∀ u : Wd (fun U => Kept V9 U), u.w.cell? ⟨b7, 0, none⟩ = some (.int .i64 (a : Int)) := fun u => u.ok.cell (kVx.cell cA id) id
          have y4 : ∀ u : Wd (fun U => Kept V9 U), u.w.cell? ⟨bl, off + F * 2, none⟩ = some (.int .i64 h0) := fun u => u.ok.cell (kVx.cell cH id) id
          have cM := kVx.cell cM id
          have MV9 := hide (H.out.kept (hw8.trans kVx))
          have KB9 : Hid (Kept B V9) := hide (KU.out.trans kVx)
          have f6 := (KB9.out.boxed RB.out id).frozen
          have c6 := (KB9.out.boxed RB.out id).cell
          clear hVx kVx k8 hw8 y0 y1 cP cN cA cH
          by_cases k0 : k = 0
          · have j0 : ¬ ((0 : Int) < (k : Int)) := by omega
            have j1 : decide ((0 : Int) < (k : Int)) = false := by simp; omega
            have j1n : decide (0 < k) = false := by simp; omega
            gi_wp2_with (fail)
            refine region_round [0, 1, 2, 3, 4, 5, 8, 9, 10, 11, 6, 7, 12, 13] (fun U => Kept V9 U) (by kernel_rfl) (by kernel_rfl) (by kernel_rfl) (by rw [HVx.out]; exact Kept.refl _) (fun _ => ?_)
            rw [HVx.out]
            repeat (refine pq rfl rfl ?_; go_big_quiet_step (fail); refine wpQuiet_nil ?_)
            refine Go.Proofs.Ytgialpjdfeldeaa.ps rfl rfl rfl (Wd.mem (Kept.refl _)) ?_
            go_big_quiet_skip
            refine wpQuiet_nil ?_
            refine Go.Proofs.Ytgialpjdfeldeaa.ps rfl rfl rfl (Wd.mem (Kept.refl _)) ?_
            go_big_quiet_skip
            refine wpQuiet_nil ?_
            repeat (refine pq rfl rfl ?_; go_big_quiet_step (fail); refine wpQuiet_nil ?_)
            refine perm_done ?_
            cases v with
            | true =>
              obtain ⟨VB, hVy⟩ : ∃ VB, V9.drew = VB := ⟨_, rfl⟩
              have kVy : Kept V9 VB := by rw [← hVy]; exact Kept.drew _
              have HVy := hide hVy
              have w0 : ∀ u : Wd (fun U => Kept VB U), u.w.cell? ⟨n, 0, none⟩ = some (.pointer (some ⟨b, 0, none⟩)) := fun u => u.ok.cell (kVy.cell cM id) id
              have MVB := hide (MV9.out.kept kVy)
              have KBB : Hid (Kept B VB) := hide (KB9.out.trans kVy)
              have OWB := hide (HOWN.out VB (KB.out.trans KBB.out))
              clear hVy kVy y2 y3 y4 cM f6 c6
              gi_wp2_with (fail)
              refine region_round [0, 1, 2, 4, 3, 5, 6] (fun U => Kept VB U) (by kernel_rfl) (by kernel_rfl) (by kernel_rfl) (by rw [HVy.out]; exact Kept.refl _) (fun _ => ?_)
              rw [HVy.out]
              repeat (refine pq rfl rfl ?_; go_big_quiet_step (fail); refine wpQuiet_nil ?_)
              refine pl rfl rfl ?_
              gi_wp2_with (fail)
              refine ⟨trivial, ?_⟩
              refine (callsIn_wide.2 (lk_p _ b s sl u MVB.out HU.out)).mono ?_
              rintro e U ⟨rfl, rfl⟩
              gi_wp2_with (fail)
              refine ⟨Wd.mem (Kept.refl _), ?_⟩
              refine pl rfl rfl ?_
              gi_wp2_with (fail)
              refine ⟨trivial, ?_⟩
              refine (callsIn_wide.2 (IH.out VB b s MVB.out HO.out u HUI.out HUW.out own S HOWL.out (by omega) _ (lc - F) OWB.out (by omega) (by unfold maxLen; omega) true HV.out)).mono ?_
              rintro e UB ⟨rfl, kUB⟩
              have KUB : Hid (Kept B UB) := hide (KBB.out.trans kUB)
              have KCL := hide kUB
              have f6 := (KUB.out.boxed RB.out id).frozen
              have c6 := (KUB.out.boxed RB.out id).cell
              clear kUB
              gi_wp2_with (fail)
              refine ⟨Wd.mem KCL.out, ?_⟩
              repeat (refine pq rfl rfl ?_; go_big_quiet_step (fail); refine wpQuiet_nil ?_)
              refine perm_done ?_
              gi_wp2
              exact GO.out UB KUB.out (by rw [HKB.out]; simp; omega)
            | false =>
              obtain ⟨VB, hVy⟩ : ∃ VB, V9.drew = VB := ⟨_, rfl⟩
              have kVy : Kept V9 VB := by rw [← hVy]; exact Kept.drew _
              have HVy := hide hVy
              have w0 : ∀ u : Wd (fun U => Kept VB U), u.w.cell? ⟨n, 0, none⟩ = some (.pointer (some ⟨b, 0, none⟩)) := fun u => u.ok.cell (kVy.cell cM id) id
              have MVB := hide (MV9.out.kept kVy)
              have KBB : Hid (Kept B VB) := hide (KB9.out.trans kVy)
              have OWB := hide (HOWN.out VB (KB.out.trans KBB.out))
              clear hVy kVy y2 y3 y4 cM f6 c6
              gi_wp2_with (fail)
              refine region_round [0, 1, 2, 4, 3, 5, 6] (fun U => Kept VB U) (by kernel_rfl) (by kernel_rfl) (by kernel_rfl) (by rw [HVy.out]; exact Kept.refl _) (fun _ => ?_)
              rw [HVy.out]
              repeat (refine pq rfl rfl ?_; go_big_quiet_step (fail); refine wpQuiet_nil ?_)
              refine pl rfl rfl ?_
              gi_wp2_with (fail)
              refine ⟨trivial, ?_⟩
              refine (callsIn_wide.2 (lk_p _ b s sl u MVB.out HU.out)).mono ?_
              rintro e U ⟨rfl, rfl⟩
              gi_wp2_with (fail)
              refine ⟨Wd.mem (Kept.refl _), ?_⟩
              refine pl rfl rfl ?_
              gi_wp2_with (fail)
              refine ⟨trivial, ?_⟩
              refine (callsIn_wide.2 (IH.out VB b s MVB.out HO.out u HUI.out HUW.out own S HOWL.out (by omega) _ (lc - F) OWB.out (by omega) (by unfold maxLen; omega) false HV.out)).mono ?_
              rintro e UB ⟨rfl, kUB⟩
              have KUB : Hid (Kept B UB) := hide (KBB.out.trans kUB)
              have KCL := hide kUB
              have f6 := (KUB.out.boxed RB.out id).frozen
              have c6 := (KUB.out.boxed RB.out id).cell
              clear kUB
              gi_wp2_with (fail)
              refine ⟨Wd.mem KCL.out, ?_⟩
              repeat (refine pq rfl rfl ?_; go_big_quiet_step (fail); refine wpQuiet_nil ?_)
              refine perm_done ?_
              gi_wp2
              obtain ⟨O', q1, q2, q3, q4⟩ := OUT.out UB KUB.out (by rw [HKB.out]; simp)
              exact ⟨O', q1, q2, rfl, q3, q4⟩
          · have j0 : (0 : Int) < (k : Int) := by omega
            have j0n : 0 < k := by omega
            have j5 : (0 : Int) < (S : Int) := by omega
            have j6 : 0 < lc - F := by omega
            by_cases zh : z = h0
            · subst zh
              gi_wp2_with (fail)
              refine region_round [0, 1, 2, 3, 4, 5, 8, 9, 10, 11, 6, 7, 12, 13] (fun U => Kept V9 U) (by kernel_rfl) (by kernel_rfl) (by kernel_rfl) (by rw [HVx.out]; exact Kept.refl _) (fun _ => ?_)
              rw [HVx.out]
              repeat (refine pq rfl rfl ?_; go_big_quiet_step (fail); refine wpQuiet_nil ?_)
              refine pl rfl rfl ?_
              gi_wp2_with (fail)
              refine ⟨trivial, ?_⟩
              refine (callsIn_wide.2 (key_c _ a (k : Int) _ hkz.out)).mono ?_
              rintro e U ⟨rfl, rfl⟩
              gi_wp2_with (fail)
              refine ⟨Wd.mem (Kept.refl _), ?_⟩
              refine pl rfl rfl ?_
              gi_wp2_with (fail)
              refine ⟨trivial, ?_⟩
              refine (callsIn_wide.2 (lk_p _ b s _ z MV9.out HZ.out)).mono ?_
              rintro e U ⟨rfl, rfl⟩
              gi_wp2_with (fail)
              refine ⟨Wd.mem (Kept.refl _), ?_⟩
              repeat (refine pq rfl rfl ?_; go_big_quiet_step (fail); refine wpQuiet_nil ?_)
              refine perm_done ?_
              cases v with
              | true =>
                obtain ⟨VB, hVy⟩ : ∃ VB, V9.drew = VB := ⟨_, rfl⟩
                have kVy : Kept V9 VB := by rw [← hVy]; exact Kept.drew _
                have HVy := hide hVy
                have w0 : ∀ u : Wd (fun U => Kept VB U), u.w.cell? ⟨n, 0, none⟩ = some (.pointer (some ⟨b, 0, none⟩)) := fun u => u.ok.cell (kVy.cell cM id) id
                have MVB := hide (MV9.out.kept kVy)
                have KBB : Hid (Kept B VB) := hide (KB9.out.trans kVy)
                have OWB := hide (HOWN.out VB (KB.out.trans KBB.out))
                clear hVy kVy y2 y3 y4 cM f6 c6
                gi_wp2_with (fail)
                refine region_round [0, 1, 2, 4, 3, 5, 6] (fun U => Kept VB U) (by kernel_rfl) (by kernel_rfl) (by kernel_rfl) (by rw [HVy.out]; exact Kept.refl _) (fun _ => ?_)
                rw [HVy.out]
                repeat (refine pq rfl rfl ?_; go_big_quiet_step (fail); refine wpQuiet_nil ?_)
                refine pl rfl rfl ?_
                gi_wp2_with (fail)
                refine ⟨trivial, ?_⟩
                refine (callsIn_wide.2 (lk_p _ b s sl u MVB.out HU.out)).mono ?_
                rintro e U ⟨rfl, rfl⟩
                gi_wp2_with (fail)
                refine ⟨Wd.mem (Kept.refl _), ?_⟩
                refine pl rfl rfl ?_
                gi_wp2_with (fail)
                refine ⟨trivial, ?_⟩
                refine (callsIn_wide.2 (IH.out VB b s MVB.out HO.out u HUI.out HUW.out own S HOWL.out (by omega) _ (lc - F) OWB.out (by omega) (by unfold maxLen; omega) true HV.out)).mono ?_
                rintro e UB ⟨rfl, kUB⟩
                have KUB : Hid (Kept B UB) := hide (KBB.out.trans kUB)
                have KCL := hide kUB
                have f6 := (KUB.out.boxed RB.out id).frozen
                have c6 := (KUB.out.boxed RB.out id).cell
                clear kUB
                gi_wp2_with (fail)
                refine ⟨Wd.mem KCL.out, ?_⟩
                repeat (refine pq rfl rfl ?_; go_big_quiet_step (fail); refine wpQuiet_nil ?_)
                refine perm_done ?_
                gi_wp2
                exact GO.out UB KUB.out (by rw [HKB.out]; simp)
              | false =>
                obtain ⟨VB, hVy⟩ : ∃ VB, V9.drew = VB := ⟨_, rfl⟩
                have kVy : Kept V9 VB := by rw [← hVy]; exact Kept.drew _
                have HVy := hide hVy
                have w0 : ∀ u : Wd (fun U => Kept VB U), u.w.cell? ⟨n, 0, none⟩ = some (.pointer (some ⟨b, 0, none⟩)) := fun u => u.ok.cell (kVy.cell cM id) id
                have MVB := hide (MV9.out.kept kVy)
                have KBB : Hid (Kept B VB) := hide (KB9.out.trans kVy)
                have OWB := hide (HOWN.out VB (KB.out.trans KBB.out))
                clear hVy kVy y2 y3 y4 cM f6 c6
                gi_wp2_with (fail)
                refine region_round [0, 1, 2, 4, 3, 5, 6] (fun U => Kept VB U) (by kernel_rfl) (by kernel_rfl) (by kernel_rfl) (by rw [HVy.out]; exact Kept.refl _) (fun _ => ?_)
                rw [HVy.out]
                repeat (refine pq rfl rfl ?_; go_big_quiet_step (fail); refine wpQuiet_nil ?_)
                refine pl rfl rfl ?_
                gi_wp2_with (fail)
                refine ⟨trivial, ?_⟩
                refine (callsIn_wide.2 (lk_p _ b s sl u MVB.out HU.out)).mono ?_
                rintro e U ⟨rfl, rfl⟩
                gi_wp2_with (fail)
                refine ⟨Wd.mem (Kept.refl _), ?_⟩
                refine pl rfl rfl ?_
                gi_wp2_with (fail)
                refine ⟨trivial, ?_⟩
                refine (callsIn_wide.2 (IH.out VB b s MVB.out HO.out u HUI.out HUW.out own S HOWL.out (by omega) _ (lc - F) OWB.out (by omega) (by unfold maxLen; omega) false HV.out)).mono ?_
                rintro e UB ⟨rfl, kUB⟩
                have KUB : Hid (Kept B UB) := hide (KBB.out.trans kUB)
                have KCL := hide kUB
                have f6 := (KUB.out.boxed RB.out id).frozen
                have c6 := (KUB.out.boxed RB.out id).cell
                clear kUB
                gi_wp2_with (fail)
                refine ⟨Wd.mem KCL.out, ?_⟩
                repeat (refine pq rfl rfl ?_; go_big_quiet_step (fail); refine wpQuiet_nil ?_)
                refine perm_done ?_
                gi_wp2
                obtain ⟨O', q1, q2, q3, q4⟩ := OUT.out UB KUB.out (by rw [HKB.out]; simp)
                exact ⟨O', q1, q2, rfl, q3, q4⟩
            · have g1 : (z == h0) = false := by simp [zh]
              have g2 : (z != h0) = true := by simp [zh]
              have KF : Hid (kidB s f x ps ((k : Int), sl) = false) := hide (by rw [HKB.out, g1]; simp; omega)
              gi_wp2_with (fail)
              refine region_round [0, 1, 2, 3, 4, 5, 8, 9, 10, 11, 6, 7, 12, 13] (fun U => Kept V9 U) (by kernel_rfl) (by kernel_rfl) (by kernel_rfl) (by rw [HVx.out]; exact Kept.refl _) (fun _ => ?_)
              rw [HVx.out]
              repeat (refine pq rfl rfl ?_; go_big_quiet_step (fail); refine wpQuiet_nil ?_)
              refine pl rfl rfl ?_
              gi_wp2_with (fail)
              refine ⟨trivial, ?_⟩
              refine (callsIn_wide.2 (key_c _ a (k : Int) _ hkz.out)).mono ?_
              rintro e U ⟨rfl, rfl⟩
              gi_wp2_with (fail)
              refine ⟨Wd.mem (Kept.refl _), ?_⟩
              refine pl rfl rfl ?_
              gi_wp2_with (fail)
              refine ⟨trivial, ?_⟩
              refine (callsIn_wide.2 (lk_p _ b s _ z MV9.out HZ.out)).mono ?_
              rintro e U ⟨rfl, rfl⟩
              gi_wp2_with (fail)
              refine ⟨Wd.mem (Kept.refl _), ?_⟩
              repeat (refine pq rfl rfl ?_; go_big_quiet_step (fail); refine wpQuiet_nil ?_)
              refine perm_done ?_
              gi_wp2
              obtain ⟨O', q1, q2, q3, q4⟩ := OUT.out V9 KB9.out KF.out
              exact ⟨O', q1, q2, rfl, q3, q4⟩
      case done =>
        rintro D O X hD nD tX sX ⟨hpre, hO, rX⟩ hK
        have HR : Hid (r = true) := hide (by rw [← HE3.out]; exact List.all_eq_true.2 hpre)
        have nD2 : D ≠ n + 2 := by have := L1.out; omega
        have c6 := rX.cell
        have f6 := rX.frozen
        have tS : Turned (fun k => k = n + 2) X (X.setCell ⟨n + 2, 0, none⟩ (.bool true)) := Turned.setCell _ _ _ rfl
        have hK2 : Hid ((X.setCell ⟨n + 2, 0, none⟩ (.bool true)).heap[D]? = some (.deferred (some []))) := hide (tS.heap hK nD2)
        have CS : Hid ((X.setCell ⟨n + 2, 0, none⟩ (.bool true)).cell? ⟨n + 2, 0, none⟩ = some (.bool true)) := hide (rX.set (.bool true)).cell
        have KX : Hid (Kept w (X.setCell ⟨n + 2, 0, none⟩ (.bool true))) := hide ((K3'.out.did (by have := HN.out; omega) tX).did (by have := HN.out; omega) tS)
        clear hK rX tS tX sX hO nD
        go_wp2
        refine leave_marks [D] _ ?_ ?_ ?_
        · intro k hk
          simp at hk
          rw [hk]
          exact hK2.out
        · simp
        · intro X' hX'
          have q1 := hX'.cell CS.out (by simp; omega)
          exact ⟨.bool true, by simp [results, Try.results94, go_sem, q1], by rw [HR.out], KX.out.own (fun i hi => by simp at hi; have := K3'.out.size; omega) hX'⟩
      case stop =>
        rintro D O c pre rest X hD nD tX sX hx' ⟨rfl, ⟨p, hp, hm⟩, hO, rX⟩ hK
        have HR : Hid (r = false) := hide (by rw [← HE3.out]; exact List.all_eq_false.2 ⟨p, by rw [hx']; exact List.mem_append_left _ hp, by simp [hm]⟩)
        have nD2 : D ≠ n + 2 := by have := L1.out; omega
        have c6 := rX.cell
        have f6 := rX.frozen
        have tS : Turned (fun k => k = n + 2) X X := Turned.refl _ _
        have hK2 : Hid (X.heap[D]? = some (.deferred (some []))) := hide (tS.heap hK nD2)
        have CS : Hid (X.cell? ⟨n + 2, 0, none⟩ = some (.bool false)) := hide rX.cell
        have KX : Hid (Kept w X) := hide ((K3'.out.did (by have := HN.out; omega) tX).did (by have := HN.out; omega) tS)
        clear hK rX tS tX sX hO nD
        go_wp2
        refine leave_marks [D] _ ?_ ?_ ?_
        · intro k hk
          simp at hk
          rw [hk]
          exact hK2.out
        · simp
        · intro X' hX'
          have q1 := hX'.cell CS.out (by simp; omega)
          exact ⟨.bool false, by simp [results, Try.results94, go_sem, q1], by rw [HR.out], KX.out.own (fun i hi => by simp at hi; have := K3'.out.size; omega) hX'⟩
end Go.Proofs.Ytgialpjdfeldeaa

/-! The program's isIdeal, Ideal. -/
namespace Go.Proofs.Ytgialpjdfeldeaa
open Go.RowKit Go.Shelf

theorem idealF_kind (s : Mst) : ∀ (f : Nat) (x : Int) (ps : List (Int × Int)), kd x ≠ 3 → idealF s f x ps = if kd x = 1 then ps.isEmpty else if kd x = 2 then ps.length == 1 else false
  | 0, _, _, _ => rfl
  | f + 1, x, ps, h => by rw [idealF_succ, if_neg h]

set_option maxRecDepth 20000 in
theorem ideal_other (f : Nat) (w : World) (b : Nat) (s : Mst) (x : Int) (hx : I64 x) (k3 : kd x ≠ 3) (ps : List (Int × Int)) (M : Nat) (hM : ps.length = M) (la : Option Addr) (lc : Nat) (r : Bool) (e1 : idealF s f x ps = r) :
    Calls Try.prog 63 #[.pointer (some ⟨b, 0, none⟩), .int .i64 x, .slice la M lc] w fun e w' => e = .returned (.bool r) ∧ Kept w w' := by
  have HX := hide hx
  obtain ⟨k, hk⟩ : ∃ k, kd x = k := ⟨_, rfl⟩
  have HK := hide hk
  have e2 : r = if k = 1 then decide (M = 0) else if k = 2 then decide (M = 1) else false := by
    rw [← e1, idealF_kind s f x ps k3, hk, ← hM]
    split
    · cases ps <;> rfl
    · split
      · cases h : (ps.length == 1) <;> simp_all
      · rfl
  have HE := hide e2
  rw [hk] at k3
  clear hx hk e1 e2 hM
  by_cases k1 : k = 1
  · subst k1
    by_cases m0 : M = 0
    · subst m0
      have HR : Hid (r = true) := hide (by rw [HE.out]; rfl)
      go_enter Try.func63, Try.ntmps63
      go_wp2_with (fail)
      refine (kk_p _ x 1 HX.out HK.out).mono ?_
      rintro e w' ⟨rfl, rfl⟩
      go_wp2
      go_ret
      exact ⟨by rw [HR.out]; rfl, Kept.refl _⟩
    · have HR : Hid (r = false) := hide (by rw [HE.out]; simp [m0])
      have g1 : ((M : Int) == 0) = false := by simp [m0]
      have g2 : (M == 0) = false := by simp [m0]
      go_enter Try.func63, Try.ntmps63
      go_wp2_with (fail)
      refine (kk_p _ x 1 HX.out HK.out).mono ?_
      rintro e w' ⟨rfl, rfl⟩
      go_wp2
      go_ret
      exact ⟨by rw [HR.out]; rfl, Kept.refl _⟩
  by_cases k2 : k = 2
  · subst k2
    by_cases m0 : M = 1
    · subst m0
      have HR : Hid (r = true) := hide (by rw [HE.out]; rfl)
      go_enter Try.func63, Try.ntmps63
      go_wp2_with (fail)
      refine (kk_p _ x 2 HX.out HK.out).mono ?_
      rintro e w' ⟨rfl, rfl⟩
      go_wp2
      go_ret
      exact ⟨by rw [HR.out]; rfl, Kept.refl _⟩
    · have HR : Hid (r = false) := hide (by rw [HE.out]; simp [m0])
      have g1 : ((M : Int) == 1) = false := by simp; omega
      have g2 : (M == 1) = false := by simp [m0]
      go_enter Try.func63, Try.ntmps63
      go_wp2_with (fail)
      refine (kk_p _ x 2 HX.out HK.out).mono ?_
      rintro e w' ⟨rfl, rfl⟩
      go_wp2
      go_ret
      exact ⟨by rw [HR.out]; rfl, Kept.refl _⟩
  · have HR : Hid (r = false) := hide (by rw [HE.out, if_neg k1, if_neg k2])
    have g1 : (k == 1) = false := by simp [k1]
    have g2 : (k == 2) = false := by simp [k2]
    have g3 : (k == 3) = false := by simp [k3]
    clear k1 k2 k3
    go_enter Try.func63, Try.ntmps63
    go_wp2_with (fail)
    refine (kk_p _ x k HX.out HK.out).mono ?_
    rintro e w' ⟨rfl, rfl⟩
    go_wp2
    go_ret
    exact ⟨by rw [HR.out]; rfl, Kept.refl _⟩
theorem isIdeal_p : ∀ f, IdealC f
  | 0 => fun w b s _ _ x hx hw ps M hM _ la lc _ _ _ r e1 => by
    by_cases k3 : kd x = 3
    · exact (hw k3).elim
    · exact ideal_other 0 w b s x hx k3 ps M hM la lc r e1
  | f + 1 => fun w b s h ho x hx hw ps M hM hM2 la lc hr hlc hlm r e1 => by
    by_cases k3 : kd x = 3
    · have HC := hide (idealInner_p f (isIdeal_p f) w b s h ho x k3 (hw k3) ps M hM hM2 la lc hr hlc hlm r (by rw [← e1, idealF_succ, if_neg (by rw [k3]; decide), if_neg (by rw [k3]; decide), if_pos k3]))
      have HX := hide hx
      have HK := hide k3
      clear h ho hx hw hr e1 k3 hM hM2 hlc hlm
      go_enter Try.func63, Try.ntmps63
      go_wp2_with (fail)
      refine (kk_p _ x 3 HX.out HK.out).mono ?_
      rintro e w' ⟨rfl, rfl⟩
      go_wp2_with (fail)
      refine HC.out.mono ?_
      rintro e W1 ⟨rfl, k1⟩
      have K1 := hide k1
      clear k1 HC
      go_wp2
      go_ret
      exact ⟨rfl, K1.out⟩
    · exact ideal_other (f + 1) w b s x hx k3 ps M hM la lc r e1

def idealB (s : Mst) (x : Int) : Bool := inTreeB s x && idealF s (fuel s) x (pairsF s (fuel s) x)
theorem pairsF_len {s : Mst} {f : Nat} {x : Int} (h : (spotsF s f x).length ≤ 70000) : (pairsF s f x).length ≤ 70001 := by
  have h1 := leafL_len s x
  have h2 := leaves_len s (spotsF s f x)
  unfold pairsF
  rw [List.length_append]
  omega
theorem ideal_p (w : World) (b : Nat) (s : Mst) (x : Int) (h : PM w b s) (ho : s.ok) (hx : I64 x) (r : Bool) (e1 : idealB s x = r) :
    Calls Try.prog 33 #[.pointer (some ⟨b, 0, none⟩), .int .i64 x] w fun e w' => e = .returned (.bool r) ∧ Kept w w' := by
  have H := hide h
  have HO := hide ho
  have HX := hide hx
  obtain ⟨q, hq⟩ : ∃ q, inTreeB s x = q := ⟨_, rfl⟩
  have HQ := hide hq
  unfold idealB at e1
  rw [hq] at e1
  cases q with
  | false =>
    have HR : Hid (r = false) := hide (by rw [← e1]; rfl)
    clear h ho hx hq e1
    go_enter Try.func33, Try.ntmps33
    go_wp2_with (fail)
    refine (isInTree_p _ b s x H.out HO.out HX.out false HQ.out).mono ?_
    rintro e W2 ⟨rfl, k2⟩
    have K2 := hide k2
    clear k2
    go_wp2
    go_ret
    exact ⟨by rw [HR.out]; rfl, K2.out⟩
  | true =>
    have HE : Hid (idealF s (fuel s) x (pairsF s (fuel s) x) = r) := hide e1
    obtain ⟨hwf, hlen⟩ := inTree_wf ho hq
    have HWF := hide hwf
    have HLEN := hide hlen
    have HLL := hide (pairsF_len hlen)
    clear h ho hx hq e1 hwf hlen
    go_enter Try.func33, Try.ntmps33
    go_wp2_with (fail)
    refine (isInTree_p _ b s x H.out HO.out HX.out true HQ.out).mono ?_
    rintro e W2 ⟨rfl, k2⟩
    have K2 := hide k2
    clear k2
    go_wp2_with (fail)
    refine (pairsBelow_p W2 b s (H.out.kept K2.out) HO.out (fuel s) x HWF.out HLEN.out _ rfl).mono ?_
    rintro e W3 ⟨v, rfl, hr, k3⟩
    obtain ⟨la, lc, hv, hrd, hlc, hlm, _⟩ := hr.reads
    obtain ⟨M, hM⟩ : ∃ M, (pairsF s (fuel s) x).length = M := ⟨_, rfl⟩
    have HMM := hide hM
    have hm : M ≤ 70001 := by rw [← hM]; exact HLL.out
    rw [hM] at hv hlc
    subst hv
    have HRD := hide hrd
    have HLC := hide hlc
    have HLM := hide hlm
    have K3 := hide (K2.out.trans k3)
    clear hr k3 hrd hlc hlm hM
    go_wp2_with (fail)
    refine (isIdeal_p (fuel s) W3 b s (H.out.kept K3.out) HO.out x HX.out (fun _ => HWF.out) _ M HMM.out (by omega) la lc HRD.out HLC.out HLM.out r HE.out).mono ?_
    rintro e W4 ⟨rfl, k4⟩
    have K4 := hide (K3.out.trans k4)
    clear k4
    go_wp2
    go_ret
    exact ⟨rfl, K4.out⟩
end Go.Proofs.Ytgialpjdfeldeaa

/-! Chapter 10 in plain: a tree that is laid is sound, calm and ideal, and has its pairs, as deep as part says. No conditions beyond each theorem's own. -/
namespace Go.Proofs.Ytgialpjdfeldeaa
open Go.RowKit

theorem kd_word {a k : Int} (h1 : 1 ≤ a) (h2 : a ≤ 65536) (k1 : 1 ≤ k) (k5 : k ≤ 5) : kd (8 * a + k) = k ∧ ad (8 * a + k) = a := by
  have hr : Rf.rt (8 * a + k) = true := by simp only [Rf.rt, decide_eq_true_eq]; omega
  unfold kd Rf.kindZ ad Rf.atZ
  rw [if_pos hr, if_pos hr]
  omega
theorem logic_look {s : Mst} {c : Int} (h : kd (s.look c) ≠ 5) : s.logicZ c = s.look c := by unfold Mst.logicZ; rw [if_neg h]
theorem laid_kind {s : Mst} {f A B : Nat} {x : Int} {ps : List (Int × Int)} (h : Laid s f A B x ps) (hB : B ≤ 65536) : 1 ≤ kd x ∧ kd x ≤ 3 := by
  have hl := laid_lt h
  obtain ⟨g, rfl, hc⟩ := h.cases
  rcases hc with ⟨rfl, rfl, rfl⟩ | ⟨p, rfl, rfl, rfl, _⟩ | ⟨h2, D, E, h⟩
  · rw [(kd_word (a := (A : Int) + 1) (k := 1) (by omega) (by omega) (by omega) (by omega)).1]; omega
  · rw [(kd_word (a := (A : Int) + 1) (k := 2) (by omega) (by omega) (by omega) (by omega)).1]; omega
  · have := h.up D (Nat.le_refl _)
    rw [h.word, (kd_word (a := (E D : Int) + 1) (k := 3) (by omega) (by omega) (by omega) (by omega)).1]; omega
theorem laid_tgt {s : Mst} {f A B : Nat} {x : Int} {ps : List (Int × Int)} (h : Laid s f A B x ps) (hB : B ≤ 65536) : tgt s x = x := by
  have := laid_kind h hB
  rw [tgt, if_neg (by omega)]
structure Facts (s : Mst) (x : Int) (D : Nat) (E : Nat → Nat) : Prop where
  kind : kd x = 3
  at_ : ad x = (E D : Int) + 1
  tg : tgt s x = x
  slots : slotsL s x = (List.range D).map (fun i : Nat => ((i : Int), childS (E D + 1) D i))
  logic : ∀ i, i < D → s.logicZ (childS (E D + 1) D i) = s.look (childS (E D + 1) D i)
  kid : ∀ i, i < D → 1 ≤ kd (s.look (childS (E D + 1) D i)) ∧ kd (s.look (childS (E D + 1) D i)) ≤ 3
theorem LaidI.facts {s : Mst} {g A B D : Nat} {E : Nat → Nat} {x : Int} {ps : List (Int × Int)} (h : LaidI s (Laid s g) A B x ps D E) (hB : B ≤ 65536) : Facts s x D E := by
  have hu := h.up D (Nat.le_refl _)
  have hb := h.b
  obtain ⟨k1, k2⟩ := kd_word (a := (E D : Int) + 1) (k := 3) (by omega) (by omega) (by omega) (by omega)
  rw [← h.word] at k1 k2
  have e : tgt s x = x := by rw [tgt, if_neg (by omega)]
  have kid : ∀ i, i < D → 1 ≤ kd (s.look (childS (E D + 1) D i)) ∧ kd (s.look (childS (E D + 1) D i)) ≤ 3 := fun i hi => laid_kind (h.kids i hi) (by have := h.up (i + 1) (by omega); omega)
  refine ⟨k1, k2, e, ?_, fun i hi => logic_look (by have := kid i hi; omega), kid⟩
  unfold slotsL degN atN
  rw [e, if_pos k1, k2, h.l0]
  rfl

theorem head_mem {l : List (Int × Int)} (h : 0 < l.length) : l.headD (0, 0) ∈ l := by
  cases l with
  | nil => simp at h
  | cons p l => simp
theorem part_mem {ps : List (Int × Int)} {i : Int} {p : Int × Int} (h : p ∈ partL ps i) : p ∈ ps := List.mem_of_mem_drop (List.mem_of_mem_take h)
theorem part_up {ps : List (Int × Int)} (h : (ps.map Prod.fst).Pairwise (· < ·)) (i : Int) : ((partL ps i).map Prod.fst).Pairwise (· < ·) := by
  unfold partL
  exact List.Pairwise.sublist (List.Sublist.map _ ((List.take_sublist _ _).trans (List.drop_sublist _ _))) h
theorem head_le {l : List (Int × Int)} (h : (l.map Prod.fst).Pairwise (· < ·)) {p : Int × Int} (hp : p ∈ l) : (l.headD (0, 0)).1 ≤ p.1 := by
  cases l with
  | nil => cases hp
  | cons q l =>
    rw [List.map_cons, List.pairwise_cons] at h
    rcases List.mem_cons.1 hp with rfl | hp
    · exact Int.le_refl _
    · exact Int.le_of_lt (h.1 p.1 (List.mem_map_of_mem hp))
/-- Which place a member of a part has. -/
theorem part_at {ps : List (Int × Int)} {i : Int} (h0 : 0 ≤ i) (h1 : i < Pt.degZ ps.length) {p : Int × Int} (h : p ∈ partL ps i) : ∃ j : Nat, ps[j]? = some p ∧ Pt.aheadZ ps.length i ≤ (j : Int) ∧ (j : Int) < Pt.aheadZ ps.length (i + 1) := by
  unfold partL at h
  obtain ⟨k, hk⟩ := List.getElem?_of_mem h
  rw [List.getElem?_take] at hk
  split at hk
  · rename_i hlt
    rw [List.getElem?_drop] at hk
    refine ⟨_, hk, ?_, ?_⟩
    · rw [Pt.from_some h0 h1]; omega
    · have := part_in h0 h1
      rw [Pt.ahead_step h0 h1]
      rw [Pt.from_some h0 h1] at this ⊢
      omega
  · cases hk
theorem ahead_le {n : Int} : ∀ (k i : Nat), (i : Int) + k ≤ Pt.degZ n → Pt.aheadZ n i ≤ Pt.aheadZ n ((i + k : Nat) : Int)
  | 0, i, _ => Int.le_refl _
  | k + 1, i, h => by
    have h1 := ahead_le (n := n) k i (by omega)
    have h2 := Pt.ahead_step (n := n) (i := ((i + k : Nat) : Int)) (by omega) (by omega)
    have h3 := Pt.size_le n ((i + k : Nat) : Int)
    rw [show ((i + (k + 1) : Nat) : Int) = ((i + k : Nat) : Int) + 1 by omega, h2]
    omega
theorem part_before {ps : List (Int × Int)} (hp : (ps.map Prod.fst).Pairwise (· < ·)) {i j : Nat} (hij : i < j) (hj : (j : Int) < Pt.degZ ps.length) {p q : Int × Int} (h1 : p ∈ partL ps (i : Int)) (h2 : q ∈ partL ps (j : Int)) : p.1 < q.1 := by
  obtain ⟨a, ha, _, ha2⟩ := part_at (by omega) (by omega) h1
  obtain ⟨b, hb, hb1, _⟩ := part_at (by omega) (by omega) h2
  have le := ahead_le (n := (ps.length : Int)) (j - (i + 1)) (i + 1) (by omega)
  rw [show i + 1 + (j - (i + 1)) = j by omega, show ((i + 1 : Nat) : Int) = (i : Int) + 1 by omega] at le
  have hab : a < b := by omega
  obtain ⟨la, ea⟩ := List.getElem?_eq_some_iff.1 ha
  obtain ⟨lb, eb⟩ := List.getElem?_eq_some_iff.1 hb
  have := List.pairwise_iff_getElem.1 hp a b (by simpa using la) (by simpa using lb) hab
  simpa [ea, eb] using this
theorem parts_to (ps : List (Int × Int)) : ∀ k : Nat, (k : Int) ≤ Pt.degZ ps.length → 0 < Pt.degZ ps.length → (List.range k).flatMap (fun i : Nat => partL ps (i : Int)) = ps.take (Pt.aheadZ ps.length k).toNat
  | 0, _, h => by rw [show ((0 : Nat) : Int) = 0 from rfl, Pt.ahead_zero h]; simp
  | k + 1, hk, h => by
    rw [List.range_succ, List.flatMap_append, parts_to ps k (by omega) h]
    have st := Pt.ahead_step (n := (ps.length : Int)) (i := (k : Int)) (by omega) (by omega)
    have pin := part_in (n := (ps.length : Int)) (i := (k : Int)) (by omega) (by omega)
    simp only [List.flatMap_cons, List.flatMap_nil, List.append_nil]
    unfold partL
    rw [Pt.from_some (by omega) (by omega)] at pin ⊢
    rw [show ((k + 1 : Nat) : Int) = (k : Int) + 1 by omega, st, Int.toNat_add (by omega) (by omega), List.take_add]
theorem parts_all {ps : List (Int × Int)} {D : Nat} (h : Pt.degZ ps.length = (D : Int)) (h2 : 2 ≤ D) : (List.range D).flatMap (fun i : Nat => partL ps (i : Int)) = ps := by
  rw [parts_to ps D (by omega) (by omega), ← h, Pt.ahead_end (by omega)]
  simp

theorem flatMap_eq {α β : Type} {l : List α} {f g : α → List β} (h : ∀ a ∈ l, f a = g a) : l.flatMap f = l.flatMap g := by
  induction l with
  | nil => rfl
  | cons a l ih => rw [List.flatMap_cons, List.flatMap_cons, h a List.mem_cons_self, ih (fun b hb => h b (List.mem_cons_of_mem _ hb))]
/-- It has its pairs. -/
theorem laid_pairs {s : Mst} : ∀ {f A B : Nat} {x : Int} {ps : List (Int × Int)}, Laid s f A B x ps → B ≤ 65536 → ∀ g, f ≤ g → pairsF s g x = ps
  | 0, _, _, _, _, h, _, _, _ => h.elim
  | f + 1, A, B, x, ps, h, hB, g, hg => by
    have ht := laid_tgt h hB
    have hl := laid_lt h
    obtain ⟨f', e, h⟩ := h.cases
    cases e
    obtain ⟨g, rfl⟩ : ∃ g', g = g' + 1 := ⟨g - 1, by omega⟩
    unfold pairsF
    rcases h with ⟨rfl, rfl, rfl⟩ | ⟨p, rfl, rfl, rfl, h1, h2⟩ | ⟨h2, D, E, h⟩
    · obtain ⟨k1, k2⟩ := kd_word (a := (A : Int) + 1) (k := 1) (by omega) (by omega) (by omega) (by omega)
      rw [spotsF_none (by rw [ht, k1]; decide)]
      unfold leafL
      rw [if_neg (by omega)]
      rfl
    · obtain ⟨k1, k2⟩ := kd_word (a := (A : Int) + 1) (k := 2) (by omega) (by omega) (by omega) (by omega)
      rw [spotsF_none (by rw [ht, k1]; decide)]
      unfold leafL
      rw [if_pos k1, k2, show (A : Int) + 1 + 1 = (A : Int) + 2 by omega, h1, h2]
      rfl
    · have hf := h.facts hB
      rw [spotsF_succ, hf.slots, List.flatMap_assoc, List.flatMap_map]
      unfold leafL
      rw [if_neg (by rw [hf.kind]; decide), List.nil_append]
      conv => rhs; rw [← parts_all h.deg h.two]
      refine flatMap_eq (fun i hi => ?_)
      rw [List.mem_range] at hi
      have ih := laid_pairs (h.kids i hi) (by have := h.up (i + 1) (by omega); omega) g (by omega)
      rw [← ih, ← hf.logic i hi]
      unfold oneF pairsF leafL
      rw [List.flatMap_cons]
/-- It is as deep as it should be. -/
theorem laid_deep {s : Mst} : ∀ {f A B : Nat} {x : Int} {ps : List (Int × Int)}, Laid s f A B x ps → B ≤ 65536 → ∀ g, f ≤ g → levF s g x = Pt.depZ ps.length
  | 0, _, _, _, _, h, _, _, _ => h.elim
  | f + 1, A, B, x, ps, h, hB, g, hg => by
    have ht := laid_tgt h hB
    have hl := laid_lt h
    obtain ⟨f', e, h⟩ := h.cases
    cases e
    obtain ⟨g, rfl⟩ : ∃ g', g = g' + 1 := ⟨g - 1, by omega⟩
    rw [levF_succ, ht]
    rcases h with ⟨rfl, rfl, rfl⟩ | ⟨p, rfl, rfl, rfl, h1, h2⟩ | ⟨h2, D, E, h⟩
    · obtain ⟨k1, k2⟩ := kd_word (a := (A : Int) + 1) (k := 1) (by omega) (by omega) (by omega) (by omega)
      rw [if_neg (by omega)]
      exact Pt.dep_is_0.symm
    · obtain ⟨k1, k2⟩ := kd_word (a := (A : Int) + 1) (k := 2) (by omega) (by omega) (by omega) (by omega)
      rw [if_neg (by omega)]
      exact Pt.dep_is_1.symm
    · have hf := h.facts hB
      rw [if_pos hf.kind, hf.slots, Pt.dep_mx (by have := h.deg; have := h.two; omega), h.deg]
      congr 1
      have two := h.two
      have kids : ∀ k, k ≤ D → ((List.range k).map (fun i : Nat => ((i : Int), childS (E D + 1) D i))).foldl (fun m p => max m (levF s g (s.logicZ p.2))) 0 = Pt.mxZ ps.length (k : Int) := by
        intro k
        induction k with
        | zero => intro _; exact (Pt.mx_zero _).symm
        | succ k ih =>
          intro hk
          rw [List.range_succ, List.map_append, List.foldl_append, ih (by omega)]
          simp only [List.map_cons, List.map_nil, List.foldl_cons, List.foldl_nil]
          rw [hf.logic k (by omega), laid_deep (h.kids k (by omega)) (by have := h.up (k + 1) (by omega); omega) g (by omega), partL_len (by omega) (by rw [h.deg]; omega), show ((k + 1 : Nat) : Int) = (k : Int) + 1 by omega, Pt.mx_step (by omega) (by rw [h.deg]; omega)]
      exact kids D (Nat.le_refl _)
/-- It is ideal. -/
theorem laid_ideal {s : Mst} : ∀ {f A B : Nat} {x : Int} {ps : List (Int × Int)}, Laid s f A B x ps → B ≤ 65536 → ∀ g, f ≤ g → idealF s g x ps = true
  | 0, _, _, _, _, h, _, _, _ => h.elim
  | f + 1, A, B, x, ps, h, hB, g, hg => by
    have hl := laid_lt h
    obtain ⟨f', e, h⟩ := h.cases
    cases e
    obtain ⟨g, rfl⟩ : ∃ g', g = g' + 1 := ⟨g - 1, by omega⟩
    rw [idealF_succ]
    rcases h with ⟨rfl, rfl, rfl⟩ | ⟨p, rfl, rfl, rfl, h1, h2⟩ | ⟨h2, D, E, h⟩
    · obtain ⟨k1, k2⟩ := kd_word (a := (A : Int) + 1) (k := 1) (by omega) (by omega) (by omega) (by omega)
      rw [if_pos k1]; rfl
    · obtain ⟨k1, k2⟩ := kd_word (a := (A : Int) + 1) (k := 2) (by omega) (by omega) (by omega) (by omega)
      rw [if_neg (by omega), if_pos k1]; rfl
    · have hf := h.facts hB
      rw [if_neg (by rw [hf.kind]; decide), if_neg (by rw [hf.kind]; decide), if_pos hf.kind, hf.slots, hf.at_]
      rw [Bool.and_eq_true]
      constructor
      · unfold newB
        rw [h.l0, show (E D : Int) + 1 + 1 = (E D : Int) + 2 by omega, show (E D : Int) + 1 + 2 = (E D : Int) + 3 by omega, show (E D : Int) + 1 + 3 = (E D : Int) + 4 by omega, show (E D : Int) + 1 + 4 = (E D : Int) + 5 by omega, h.l1, h.l2, h.l3, h.l4, h.deg]
        simp
      · rw [List.all_eq_true]
        intro p hp
        rw [List.mem_map] at hp
        obtain ⟨i, hi, rfl⟩ := hp
        rw [List.mem_range] at hi
        unfold kidB
        rw [Bool.and_eq_true]
        refine ⟨?_, laid_ideal (h.kids i hi) (by have := h.up (i + 1) (by omega); omega) g (by omega)⟩
        unfold keyOk
        by_cases h0 : i = 0
        · subst h0; rfl
        · simp only
          rw [hf.at_, show (E D : Int) + 1 + 4 + (i : Int) = (E D : Int) + 5 + i by omega, h.lk i (by omega) hi]
          simp
/-- It is calm. -/
theorem laid_calmW {s : Mst} {f A B : Nat} {x : Int} {ps : List (Int × Int)} (h : Laid s f A B x ps) (hB : B ≤ 65536) (hm : ps.length ≤ 16384) : calmW s x = true := by
  have hk := laid_kind h hB
  obtain ⟨f', rfl, hc⟩ := h.cases
  unfold calmW
  rw [if_neg (by omega)]
  rcases hc with ⟨rfl, rfl, rfl⟩ | ⟨p, rfl, rfl, rfl, h1, h2⟩ | ⟨h2, D, E, h⟩
  · obtain ⟨k1, k2⟩ := kd_word (a := (A : Int) + 1) (k := 1) (by omega) (by omega) (by omega) (by omega)
    rw [if_neg (by omega)]
  · obtain ⟨k1, k2⟩ := kd_word (a := (A : Int) + 1) (k := 2) (by omega) (by omega) (by omega) (by omega)
    rw [if_neg (by omega)]
  · have hf := h.facts hB
    rw [if_pos hf.kind, hf.at_, show (E D : Int) + 1 + 1 = (E D : Int) + 2 by omega, show (E D : Int) + 1 + 2 = (E D : Int) + 3 by omega, show (E D : Int) + 1 + 3 = (E D : Int) + 4 by omega, h.l1, h.l2, h.l3]
    unfold Pt.limZ
    rw [if_pos (by omega)]
    simp
    omega
theorem laid_calm {s : Mst} : ∀ {f A B : Nat} {x : Int} {ps : List (Int × Int)}, Laid s f A B x ps → B ≤ 65536 → ps.length ≤ 16384 → ∀ g, f ≤ g → ∀ p ∈ spotsF s g x, calmS s p = true
  | 0, _, _, _, _, h, _, _, _, _ => h.elim
  | f + 1, A, B, x, ps, h, hB, hm, g, hg => by
    have ht := laid_tgt h hB
    have hl := laid_lt h
    obtain ⟨f', e, h⟩ := h.cases
    cases e
    obtain ⟨g, rfl⟩ : ∃ g', g = g' + 1 := ⟨g - 1, by omega⟩
    rcases h with ⟨rfl, rfl, rfl⟩ | ⟨p, rfl, rfl, rfl, h1, h2⟩ | ⟨h2, D, E, h⟩
    · obtain ⟨k1, k2⟩ := kd_word (a := (A : Int) + 1) (k := 1) (by omega) (by omega) (by omega) (by omega)
      rw [spotsF_none (by rw [ht, k1]; decide)]
      intro p hp; cases hp
    · obtain ⟨k1, k2⟩ := kd_word (a := (A : Int) + 1) (k := 2) (by omega) (by omega) (by omega) (by omega)
      rw [spotsF_none (by rw [ht, k1]; decide)]
      intro p hp; cases hp
    · have hf := h.facts hB
      intro q hq
      rw [spotsF_succ, hf.slots, List.mem_flatMap] at hq
      obtain ⟨r, hr, hq⟩ := hq
      rw [List.mem_map] at hr
      obtain ⟨i, hi, rfl⟩ := hr
      rw [List.mem_range] at hi
      have hbk : E (i + 1) ≤ 65536 := by have := h.up (i + 1) (by omega); omega
      have hlen : (partL ps (i : Int)).length ≤ 16384 := by
        have h3 := partL_len (ps := ps) (i := (i : Int)) (by omega) (by rw [h.deg]; omega)
        have h4 := Pt.size_le (ps.length : Int) (i : Int)
        omega
      unfold oneF at hq
      rw [hf.logic i hi] at hq
      rcases List.mem_cons.1 hq with rfl | hq
      · unfold calmS
        have := hf.kid i hi
        simp only
        rw [laid_calmW (h.kids i hi) hbk hlen, Bool.and_true]
        simp
        omega
      · exact laid_calm (h.kids i hi) hbk hlen g (by omega) q hq
end Go.Proofs.Ytgialpjdfeldeaa

/-! Chapter 10 in plain: a tree that is laid in free cells is sound; what stands below Root once its word is written there. No conditions beyond each theorem's own. -/
namespace Go.Proofs.Ytgialpjdfeldeaa
open Go.RowKit

theorem freeB_ok {t : Tk} {a : Nat} : ∀ {n : Nat}, (∀ j, a ≤ j → j < a + n → t j = false) → freeB t a n = true
  | 0, _ => rfl
  | n + 1, h => by
    rw [freeB_succ, freeB_ok (fun j h1 h2 => h j h1 (by omega)), h (a + n) (by omega) (by omega)]
    rfl
theorem takeO_ok {N : Nat} {t : Tk} {a n : Nat} (h1 : 1 ≤ n) (h2 : a + n ≤ N) (h : ∀ j, a ≤ j → j < a + n → t j = false) : takeO N t a n = some (takeT t a n) := by
  unfold takeO
  rw [freeB_ok h]
  simp [h1, h2]
theorem takeT_eq (t : Tk) (a n A B : Nat) (h1 : a = A + 1) (h2 : B = A + n) (j : Nat) : takeT t a n j = (t j || decide (A < j ∧ j ≤ B)) := by
  unfold takeT
  congr 1
  exact decide_eq_decide.2 (by omega)
theorem or_dec {x : Bool} {P Q R : Prop} [Decidable P] [Decidable Q] [Decidable R] (h : (P ∨ Q) ↔ R) : ((x || decide P) || decide Q) = (x || decide R) := by
  rw [Bool.or_assoc, ← Bool.decide_or]
  congr 1
  exact decide_eq_decide.2 h

/-- It is sound where its cells are free. -/
theorem laid_sound {s : Mst} (hx : s.xs.length ≤ 65536) : ∀ (f A B : Nat) (x : Int) (ps : List (Int × Int)), Laid s f A B x ps → B ≤ s.xs.length → (ps.map Prod.fst).Pairwise (· < ·) → ∀ (lo hi : Int), (∀ p ∈ ps, lo ≤ p.1 ∧ p.1 ≤ hi) → ∀ t : Tk, (∀ j, A < j → j ≤ B → t j = false) → ∀ g, f ≤ g → ∃ u, sndW s g x lo hi t = some u ∧ ∀ j, u j = (t j || decide (A < j ∧ j ≤ B))
  | 0, _, _, _, _, h, _, _, _, _, _, _, _, _, _ => h.elim
  | f + 1, A, B, x, ps, h, hB, hup, lo, hi, hr, t, hfree, g, hg => by
    have hl := laid_lt h
    obtain ⟨f', e, h⟩ := h.cases
    cases e
    obtain ⟨g, rfl⟩ : ∃ g', g = g' + 1 := ⟨g - 1, by omega⟩
    rw [sndW_succ]
    rcases h with ⟨rfl, rfl, rfl⟩ | ⟨p, rfl, rfl, rfl, h1, h2⟩ | ⟨h2, D, E, h⟩
    · obtain ⟨k1, k2⟩ := kd_word (a := (A : Int) + 1) (k := 1) (by omega) (by omega) (by omega) (by omega)
      rw [if_pos k1, k2, show ((A : Int) + 1).toNat = A + 1 by omega, takeO_ok (by omega) (by omega) (fun j h1 h2 => hfree j (by omega) (by omega))]
      exact ⟨_, rfl, fun j => takeT_eq t (A + 1) 1 A (A + 1) rfl rfl j⟩
    · obtain ⟨k1, k2⟩ := kd_word (a := (A : Int) + 1) (k := 2) (by omega) (by omega) (by omega) (by omega)
      rw [if_neg (by omega), if_pos k1, k2, h1, if_pos (hr p (by simp)), show ((A : Int) + 1).toNat = A + 1 by omega, takeO_ok (by omega) (by omega) (fun j h1 h2 => hfree j (by omega) (by omega))]
      exact ⟨_, rfl, fun j => takeT_eq t (A + 1) 2 A (A + 2) rfl rfl j⟩
    · have hf := h.facts (by omega)
      have hu := h.up D (Nat.le_refl _)
      have hb := h.b
      have two := h.two
      have deg := h.deg
      have plen : ∀ i : Nat, i < D → 0 < (partL ps (i : Int)).length := fun i hi => by
        have h3 := partL_len (ps := ps) (i := (i : Int)) (by omega) (by omega)
        have h4 := Pt.size_bound (n := (ps.length : Int)) (i := (i : Int)) (by omega) (by omega)
        omega
      have ha : ((E D + 1 : Nat) : Int) = (E D : Int) + 1 := by omega
      have hky : ∀ i : Nat, 1 ≤ i → i < D → ky s (E D + 1) i = ((partL ps (i : Int)).headD (0, 0)).1 := fun i h1 hi => by
        unfold ky
        rw [ha, show (E D : Int) + 1 + 4 + (i : Int) = (E D : Int) + 5 + i by omega]
        exact h.lk i h1 hi
      have hlow : ∀ i : Nat, i < D → ∀ p ∈ partL ps (i : Int), lowZ s (E D + 1) lo i ≤ p.1 := fun i hi p hp => by
        unfold lowZ
        split
        · exact (hr p (part_mem hp)).1
        · rw [hky i (by omega) hi]
          exact head_le (part_up hup _) hp
      have hhigh : ∀ i : Nat, i < D → ∀ p ∈ partL ps (i : Int), p.1 ≤ highZ s (E D + 1) D hi i := fun i hi' p hp => by
        unfold highZ
        split
        · rename_i hlt
          rw [hky (i + 1) (by omega) hlt]
          have := part_before hup (i := i) (j := i + 1) (by omega) (by omega) hp (head_mem (plen (i + 1) hlt))
          omega
        · exact (hr p (part_mem hp)).2
      have hkeys : keysB s (E D + 1) D lo hi = true := by
        unfold keysB
        rw [List.all_eq_true]
        intro i hi'
        rw [List.mem_range] at hi'
        have m1 := head_mem (plen i (by omega))
        have m2 := head_mem (plen (i + 1) (by omega))
        have b1 := hlow i (by omega) _ m1
        have b2 := part_before hup (i := i) (j := i + 1) (by omega) (by omega) m1 m2
        have b3 := (hr _ (part_mem m2)).2
        rw [hky (i + 1) (by omega) (by omega), Bool.and_eq_true, decide_eq_true_eq, decide_eq_true_eq]
        exact ⟨by omega, b3⟩
      have hshut : shutB s (E D + 1) = true := by
        unfold shutB
        rw [ha, show (E D : Int) + 1 + 2 = (E D : Int) + 3 by omega, h.l2]
        rfl
      rw [if_neg (by rw [hf.kind]; decide), if_neg (by rw [hf.kind]; decide), if_pos hf.kind, hf.at_, show ((E D : Int) + 1).toNat = E D + 1 by omega]
      unfold sndInner
      rw [ha, h.l0, show ((D : Int)).toNat = D from rfl, if_neg (by omega), takeO_ok (by omega) (by omega) (fun j h1 h2 => hfree j (by omega) (by omega))]
      show ∃ u, (if (keysB s (E D + 1) D lo hi && shutB s (E D + 1)) = true then chain (kidG s (sndW s g) (E D + 1) D lo hi) D (takeT t (E D + 1) (2 * D + 4)) else none) = some u ∧ _
      rw [hkeys, hshut, if_pos (by decide)]
      have hkids : ∀ k, k ≤ D → ∃ u, chain (kidG s (sndW s g) (E D + 1) D lo hi) k (takeT t (E D + 1) (2 * D + 4)) = some u ∧ ∀ j, u j = (takeT t (E D + 1) (2 * D + 4) j || decide (A < j ∧ j ≤ E k)) := by
        intro k
        induction k with
        | zero =>
          intro _
          refine ⟨_, rfl, fun j => ?_⟩
          rw [h.e0, decide_eq_false (by omega), Bool.or_false]
        | succ k ih =>
          intro hk
          obtain ⟨u, hu1, hu2⟩ := ih (by omega)
          have up1 := h.up k (by omega)
          have up2 := h.up (k + 1) hk
          have kl := laid_lt (h.kids k (by omega))
          have kf := hf.kid k (by omega)
          rw [chain, hu1]
          show ∃ u', kidG s (sndW s g) (E D + 1) D lo hi k u = some u' ∧ _
          unfold kidG sndSlot
          rw [if_pos (by unfold dcssB; rw [show (kd (s.look (childS (E D + 1) D k)) == 5) = false by simp; omega]; rfl), hf.logic k (by omega)]
          obtain ⟨u', g1, g2⟩ := laid_sound hx f (E k) (E (k + 1)) _ _ (h.kids k (by omega)) (by omega) (part_up hup _) (lowZ s (E D + 1) lo k) (highZ s (E D + 1) D hi k) (fun p hp => ⟨hlow k (by omega) p hp, hhigh k (by omega) p hp⟩) u (fun j h1 h2 => by
            rw [hu2 j, decide_eq_false (by omega), Bool.or_false]
            unfold takeT
            rw [hfree j (by omega) (by omega), decide_eq_false (by omega)]
            rfl) g (by omega)
          refine ⟨u', g1, fun j => ?_⟩
          rw [g2 j, hu2 j]
          exact or_dec (by omega)
      obtain ⟨u, hu1, hu2⟩ := hkids D (Nat.le_refl _)
      refine ⟨u, hu1, fun j => ?_⟩
      rw [hu2 j]
      unfold takeT
      exact or_dec (by omega)

/-- There are as many cells as pairs, at the least. -/
theorem laid_cells {s : Mst} : ∀ {f A B : Nat} {x : Int} {ps : List (Int × Int)}, Laid s f A B x ps → A + ps.length ≤ B
  | 0, _, _, _, _, h => h.elim
  | f + 1, A, B, x, ps, h => by
    have hl := laid_lt h
    obtain ⟨f', e, h⟩ := h.cases
    cases e
    rcases h with ⟨rfl, rfl, rfl⟩ | ⟨p, rfl, rfl, rfl, h1, h2⟩ | ⟨h2, D, E, h⟩
    · simp
    · simp
    · have deg := h.deg
      have two := h.two
      have hb := h.b
      have kids : ∀ k, k ≤ D → (A : Int) + Pt.aheadZ ps.length k ≤ (E k : Int) := by
        intro k
        induction k with
        | zero =>
          intro _
          rw [show ((0 : Nat) : Int) = 0 from rfl, Pt.ahead_zero (by omega), h.e0]
          omega
        | succ k ih =>
          intro hk
          have h3 := ih (by omega)
          have h4 := laid_cells (h.kids k (by omega))
          have h5 := partL_len (ps := ps) (i := (k : Int)) (by omega) (by omega)
          rw [show ((k + 1 : Nat) : Int) = (k : Int) + 1 by omega, Pt.ahead_step (by omega) (by omega)]
          omega
      have := kids D (Nat.le_refl _)
      rw [← deg, Pt.ahead_end (by omega)] at this
      omega

/-- A memory with a tree below Root. -/
structure Planted (s : Mst) (f : Nat) (z : Int) (ps : List (Int × Int)) : Prop where
  len : s.xs.length ≤ 65536
  low : 7 ≤ s.xs.length
  one : s.look 1 = 1
  three : s.look 3 = 0
  root : s.look 6 = z
  laid : Laid s f 7 s.xs.length z ps
  up : (ps.map Prod.fst).Pairwise (· < ·)
  few : ps.length ≤ 16384
  i64 : ∀ p ∈ ps, I64 p.1
  fuel : f ≤ fuel s
namespace Planted
variable {s : Mst} {f : Nat} {z : Int} {ps : List (Int × Int)}
theorem logic (h : Planted s f z ps) : s.logicZ 6 = z := by
  have := laid_kind h.laid h.len
  rw [logic_look (by rw [h.root]; omega), h.root]
theorem sound (h : Planted s f z ps) : soundB s = true := by
  have hk := laid_kind h.laid h.len
  obtain ⟨u, hu, _⟩ := laid_sound h.len f 7 s.xs.length z ps h.laid (Nat.le_refl _) h.up (-9223372036854775808) 9223372036854775807 (fun p hp => h.i64 p hp) base0 (fun j h1 _ => by unfold base0 takeT; simp; omega) (Go.Proofs.Ytgialpjdfeldeaa.fuel s) h.fuel
  unfold soundB sndSlot
  rw [if_pos (by unfold dcssB; rw [h.root, show (kd z == 5) = false by simp; omega]; rfl), h.logic, hu, h.one, h.three, decide_eq_true (by have := h.low; omega)]
  rfl
theorem inTree (h : Planted s f z ps) : inTreeB s z = true := by
  unfold inTreeB spotsL
  rw [h.sound, h.logic]
  simp [meetB]
theorem content (h : Planted s f z ps) : contentB s z = ps := by
  unfold contentB
  rw [h.inTree, if_pos rfl, laid_pairs h.laid h.len _ h.fuel]
theorem deep (h : Planted s f z ps) : depthB s z = Pt.depZ ps.length := by
  unfold depthB
  rw [h.inTree, if_pos rfl, laid_deep h.laid h.len _ h.fuel]
theorem ideal (h : Planted s f z ps) : idealB s z = true := by
  unfold idealB
  rw [h.inTree, laid_pairs h.laid h.len _ h.fuel, laid_ideal h.laid h.len _ h.fuel]
  rfl
theorem calm (h : Planted s f z ps) : calmB s = true := by
  have hk := laid_kind h.laid h.len
  unfold calmB spotsL
  rw [h.sound, h.logic, List.all_cons, Bool.true_and, Bool.and_eq_true]
  constructor
  · unfold calmS
    simp only
    rw [h.root, laid_calmW h.laid h.len h.few, Bool.and_true]
    simp
    omega
  · rw [List.all_eq_true]
    exact laid_calm h.laid h.len h.few _ h.fuel
end Planted

/-- The cells of what is laid are int64s. -/
theorem make_ok {s : Mst} (h : s.ok) {ws : List Int} (hw : ∀ z ∈ ws, I64 z) (hs : s.size ≤ 65536) (hr : (s.xs.length : Int) ≤ s.size) : (s.make ws).ok ∧ (s.make ws).size ≤ 65536 ∧ ((s.make ws).xs.length : Int) ≤ (s.make ws).size := by
  unfold Mst.make
  split
  · rename_i hf
    simp only [Mst.fits, Bool.and_eq_true, decide_eq_true_eq] at hf
    refine ⟨⟨fun z hz => ?_, by rw [List.length_append]; omega⟩, hs, by show ((s.xs ++ ws).length : Int) ≤ s.size; rw [List.length_append]; omega⟩
    rcases List.mem_append.1 hz with hz | hz
    · exact h.1 z hz
    · exact hw z hz
  · exact ⟨h, hs, hr⟩
def Okay (s : Mst) : Prop := s.ok ∧ s.size ≤ 65536 ∧ (s.xs.length : Int) ≤ s.size
theorem ofZ_i64 (k t : Int) : I64 (Rf.ofZ k t) := by
  unfold Rf.ofZ Rf.may I64
  split
  · rename_i h
    simp only [decide_eq_true_eq] at h
    omega
  · omega
theorem lowL_mem {ps : List (Int × Int)} (h : ∀ p ∈ ps, I64 p.1) : ∀ n, ∀ z ∈ lowL ps n, I64 z
  | 0 => fun z hz => by cases hz
  | n + 1 => fun z hz => by
    rw [lowL] at hz
    split at hz
    · cases hz
    · rcases List.mem_append.1 hz with hz | hz
      · exact lowL_mem h n z hz
      · rw [List.mem_singleton] at hz
        subst hz
        cases e : partL ps (n : Int) with
        | nil => unfold I64; simp
        | cons p l => exact h p (part_mem (by rw [e]; simp))
theorem lay_ok : ∀ (f : Nat) (s : Mst) (ps : List (Int × Int)), Okay s → ps.length ≤ 16384 → (∀ p ∈ ps, I64 p.1 ∧ I64 p.2) → Okay (layF f s ps).2 ∧ I64 (layF f s ps).1
  | 0, s, ps, h, _, _ => ⟨h, by unfold I64; simp [layF]⟩
  | f + 1, s, ps, h, hm, hp => by
    have zero : I64 0 := ⟨by decide, by decide⟩
    rw [layF_succ]
    split
    · exact ⟨make_ok h.1 (fun z hz => by rw [List.mem_singleton] at hz; rw [hz]; exact zero) h.2.1 h.2.2, ofZ_i64 _ _⟩
    · split
      · rename_i h1
        obtain ⟨p, rfl⟩ := List.length_eq_one_iff.1 h1
        refine ⟨make_ok h.1 (fun z hz => ?_) h.2.1 h.2.2, ofZ_i64 _ _⟩
        have := hp p (by simp)
        simp only [List.headD_cons, List.mem_cons, List.not_mem_nil, or_false] at hz
        rcases hz with rfl | rfl
        · exact this.1
        · exact this.2
      · have kids : ∀ i, Okay (kidF (layF f) ps s i).2 ∧ ∀ z ∈ (kidF (layF f) ps s i).1, I64 z := by
          intro i
          induction i with
          | zero => exact ⟨h, fun z hz => by cases hz⟩
          | succ i ih =>
            obtain ⟨l1, l2⟩ := lay_ok f (kidF (layF f) ps s i).2 (partL ps (i : Int)) ih.1 (by unfold partL; rw [List.length_take, List.length_drop]; omega) (fun p hp' => hp p (part_mem hp'))
            refine ⟨l1, fun z hz => ?_⟩
            rcases List.mem_append.1 hz with hz | hz
            · exact ih.2 z hz
            · rw [List.mem_singleton] at hz
              rw [hz]
              exact l2
        obtain ⟨k1, k2⟩ := kids (Pt.degZ ps.length).toNat
        refine ⟨make_ok k1.1 (fun z hz => ?_) k1.2.1 k1.2.2, ofZ_i64 _ _⟩
        unfold innerL at hz
        rename_i h0 h1
        have kl := kidF_len (layF f) ps s (Pt.degZ ps.length).toNat
        have dn := Pt.deg_nat (ps.length : Int)
        rcases List.mem_append.1 hz with hz | hz
        · rw [kl] at hz
          simp only [List.mem_cons, List.not_mem_nil, or_false] at hz
          unfold I64
          rcases hz with rfl | rfl | rfl | rfl | rfl <;> omega
        · rcases List.mem_append.1 hz with hz | hz
          · exact lowL_mem (fun p hp' => (hp p hp').1) _ z hz
          · exact k2 z hz
end Go.Proofs.Ytgialpjdfeldeaa

/-! What Write of the program's memory leaves. No conditions beyond each theorem's own. -/
namespace Go.Proofs.Ytgialpjdfeldeaa
open Go.RowKit
set_option maxRecDepth 20000

theorem reach_p (w : World) (n₀ b : Nat) (v : Value) (s : Mst) (a : Int) (u : Bool) (h : PMem w n₀ b v s) (hu : s.used a = u) :
    Calls Try.prog 53 #[.pointer (some ⟨b, 0, none⟩), .int .i64 a] w fun e w' => e = .returned (.bool u) ∧ PMem w' n₀ b v (s.touch a) ∧ Turned (fun k => k = b) w w' := by
  obtain ⟨⟨c0, c1, c2, c3, c4⟩, f⟩ := h.opened
  have f2 := f 2
  have f3 := f 3
  have H1 := hide (count_p h (wrap64 (s.count + 1)))
  have H2 := hide (odd_p H1.out (wrap64 (s.odd + 1)))
  obtain ⟨a0, cap, rfl, _⟩ := h.form
  have hl := h.len
  have HU := hide hu
  cases u with
  | true =>
    have HE : Hid (s.touch a = { s with count := wrap64 (s.count + 1) }) := hide (by rw [Mst.touch, if_pos hu])
    obtain ⟨i1, i2⟩ := Mst.used_iff.1 hu
    clear h f hu
    go_enter Try.func53, Try.ntmps53
    go_wp2_with (fail)
    refine (isUsed_p _ n₀ b _ _ a true H1.out HU.out).mono ?_
    rintro e w' ⟨rfl, rfl⟩
    go_wp2
    go_ret
    exact ⟨rfl, by rw [HE.out]; exact H1.out, Turned.setCell _ _ _ rfl⟩
  | false =>
    have HE : Hid (s.touch a = { s with count := wrap64 (s.count + 1), odd := wrap64 (s.odd + 1) }) := hide (by rw [Mst.touch, hu]; rfl)
    have HN : ¬ (1 ≤ a ∧ a ≤ (s.xs.length : Int)) := fun e => by rw [Mst.used_iff.2 e] at hu; cases hu
    clear h f hu
    clear HN
    go_enter Try.func53, Try.ntmps53
    go_wp2_with (fail)
    refine (isUsed_p _ n₀ b _ _ a false H1.out HU.out).mono ?_
    rintro e w' ⟨rfl, rfl⟩
    go_wp2
    go_ret
    exact ⟨rfl, by rw [HE.out]; exact H2.out, (Turned.setCell (R := fun k => k = b) w ⟨b, 2, none⟩ _ rfl).trans (Turned.setCell (R := fun k => k = b) _ ⟨b, 3, none⟩ _ rfl) (fun _ h => h) (fun _ _ h => h)⟩

theorem write_p (w : World) (n₀ b : Nat) (v : Value) (s : Mst) (a x : Int) (h : PMem w n₀ b v s) :
    Calls Try.prog 28 #[.pointer (some ⟨b, 0, none⟩), .int .i64 a, .int .i64 x] w fun e w' => e = .returned (.tuple #[]) ∧ PMem w' n₀ b v (s.write a x) ∧ Turned (Foot b v) w w' := by
  have hl := h.len
  have H := hide h
  cases hu : s.used a with
  | true =>
    obtain ⟨j, rfl, hj⟩ := Mst.used_nat hu
    obtain ⟨g, cap, z, rfl, hz, hc, hf, hgb⟩ := h.cellAt (by decide) hj
    have HU := hide hu
    have i1 : (j : Int) < (s.xs.length : Int) := by omega
    clear hu h hz
    go_enter Try.func28, Try.ntmps28
    go_wp2_with (fail)
    refine (reach_p _ n₀ b _ _ _ true H.out HU.out).mono ?_
    rintro e w1 ⟨rfl, h1, t1⟩
    have c0 := (PMem.opened h1).1.1
    have c1 := t1.cell hc hgb
    have f1 := (t1.frozen (p := ⟨g, j, none⟩) (World.block_lt_of_cell? _ _ hc) hgb).trans hf
    have HP := hide (put_p hj h1 t1 x)
    clear h1 t1 hc
    go_wp2
    go_end0
    exact ⟨rfl, HP.out⟩
  | false =>
    rw [Mst.write_out hu]
    have HU := hide hu
    clear hu h
    go_enter Try.func28, Try.ntmps28
    go_wp2_with (fail)
    refine (reach_p _ n₀ b _ _ _ false H.out HU.out).mono ?_
    rintro e w1 ⟨rfl, h1, t1⟩
    have H1 := hide h1
    have T1 := hide (touched_p (v := v) t1)
    clear h1 t1
    go_wp2
    go_end0
    exact ⟨rfl, H1.out, T1.out⟩


theorem now_write (w W : World) (b : Nat) (s : Mst) (a x : Int) (s' : Mst) (h : Now w W b s) (e1 : s.write a x = s') :
    Calls Try.prog 28 #[.pointer (some ⟨b, 0, none⟩), .int .i64 a, .int .i64 x] W fun e W' => e = .returned (.tuple #[]) ∧ Now w W' b s' := by
  obtain ⟨⟨v, h⟩, hk⟩ := h
  subst e1
  exact (write_p W w.heap.size b v s a x h).mono fun _ _ ⟨h1, h2, h3⟩ => ⟨h1, Now.put h hk h2 h3⟩
end Go.Proofs.Ytgialpjdfeldeaa

/-! What known answers; ref1.Spots of two lists that are alike; isIdeal and Ideal of an Empty's word. -/
namespace Go.Proofs.Ytgialpjdfeldeaa
open Go.RowKit

/-- isIdeal of an Empty's word, with no pairs. -/
theorem isIdeal0_p (W : World) (b : Nat) (x : Int) (v : Value) (n₀ : Nat) (hx : I64 x) (k1 : kd x = 1) (hr : PRow W n₀ 30 v []) :
    Calls Try.prog 63 #[.pointer (some ⟨b, 0, none⟩), .int .i64 x, v] W fun e w' => e = .returned (.bool true) ∧ W = w' := by
  obtain ⟨la, lc, rfl, _⟩ := hr.reads
  have HX := hide hx
  have HK := hide k1
  simp only [List.length_nil]
  clear hx k1 hr
  go_enter Try.func63, Try.ntmps63
  go_wp2_with (fail)
  refine (kk_p _ x 1 HX.out HK.out).mono ?_
  rintro e w' ⟨rfl, rfl⟩
  go_wp2
  go_ret
  exact ⟨rfl, rfl⟩
theorem ideal0_p (w : World) (b : Nat) (s : Mst) (x : Int) (h : PM w b s) (ho : s.ok) (hx : I64 x) (ht : inTreeB s x = true) (k1 : kd x = 1) :
    Calls Try.prog 33 #[.pointer (some ⟨b, 0, none⟩), .int .i64 x] w fun e w' => e = .returned (.bool true) ∧ Kept w w' := by
  have H := hide h
  have HO := hide ho
  have HX := hide hx
  have HT := hide ht
  have HK := hide k1
  have HE : Hid (pairsF s (fuel s) x = []) := hide (by
    unfold pairsF leafL
    rw [if_neg (by rw [k1]; decide), spotsF_none (by rw [tgt, if_neg (by rw [k1]; decide), k1]; decide)]
    rfl)
  clear h ho hx ht k1
  go_enter Try.func33, Try.ntmps33
  go_wp2_with (fail)
  refine (isInTree_p _ b s x H.out HO.out HX.out true HT.out).mono ?_
  rintro e W2 ⟨rfl, k2⟩
  have K2 := hide k2
  clear k2
  go_wp2_with (fail)
  refine (pairsBelow_p W2 b s (H.out.kept K2.out) HO.out (fuel s) x (inTree_wf HO.out HT.out).1 (inTree_wf HO.out HT.out).2 [] HE.out).mono ?_
  rintro e W3 ⟨v, rfl, hr, k3⟩
  have HR := hide hr
  have K3 := hide (K2.out.trans k3)
  clear hr k3
  go_wp2_with (fail)
  refine (isIdeal0_p W3 b x v W2.heap.size HX.out HK.out HR.out).mono ?_
  rintro e w' ⟨rfl, rfl⟩
  go_wp2
  go_ret
  exact ⟨rfl, K3.out⟩

theorem Now.pm {w W : World} {b : Nat} {s : Mst} (h : Now w W b s) : PM W b s := by
  obtain ⟨⟨v, h⟩, _⟩ := h
  exact ⟨_, _, h⟩
/-- The memory of known. -/
def kn0 : Mst := begun (Mst.new 9)
theorem kn0_eq : kn0 = ⟨[1, 0, 0, 0, 0, 57, 0], 9, 2, 0, 0⟩ := by kernel_rfl
theorem kn0_ok : kn0.ok := by
  rw [kn0_eq]
  refine ⟨?_, by simp⟩
  intro z hz
  simp at hz
  rcases hz with rfl | rfl | rfl | rfl <;> exact ⟨by decide, by decide⟩
theorem kn0_sound : soundB kn0 = true := by decide +kernel
theorem kn0_calm : calmB kn0 = true := by decide +kernel
theorem kn0_logic : kn0.logicZ 6 = 57 := by decide +kernel
theorem kn0_spots : (if soundB kn0 = true then spotsL kn0 (fuel kn0) else []) = [(6, 57)] := by decide +kernel
theorem kn0_in : inTreeB kn0 57 = true := by decide +kernel
theorem kn0_content : contentB kn0 57 = [] := by decide +kernel
theorem kn0_depth : depthB kn0 57 = 0 := by decide +kernel
theorem kn0_kind : kd 57 = 1 := by decide +kernel

end Go.Proofs.Ytgialpjdfeldeaa

/-! ref1.Pairs of two lists that are alike. -/
namespace Go.Proofs.Ytgialpjdfeldeaa
open Go.RowKit

theorem pairs_same (W : World) (a b : Option Addr) (xs : List (Int × Int)) (M ca cb : Nat) (hM : xs.length = M) (ha : PReads W a xs) (hb : PReads W b xs) (h1 : M ≤ ca) (h2 : M ≤ cb) (hl : M ≤ 1000000) :
    Calls Try.prog 25 #[.slice a M ca, .slice b M cb] W fun e w' => e = .returned (.bool true) ∧ Kept W w' := by
  have HA := hide ha
  have HB := hide hb
  have HM := hide hM
  clear ha hb hM
  go_enter Try.func25, Try.ntmps25
  go_wp2
  go_loopw [5] (fun i wr => ∃ k d : Nat, k ≤ M ∧ i = .int .i64 (k : Int) ∧ wr = W.drewN d) (fun i _ => M - (intOf i).toNat)
  case atStart => exact ⟨0, 0, by omega, by simp, rfl⟩
  case round =>
    obtain ⟨k, d, hk, rfl, rfl⟩ := hrel
    by_cases hkm : k < M
    · obtain ⟨⟨x, y⟩, hp⟩ : ∃ p, xs[k]? = some p := ⟨_, List.getElem?_eq_getElem (by rw [HM.out]; exact hkm)⟩
      obtain ⟨bl, off, rfl, _, p0, p1⟩ := HA.out.at hp
      obtain ⟨bl', off', rfl, _, q0, q1⟩ := HB.out.at hp
      have c0 : W.cell? ⟨bl, off + k * 2, none⟩ = some (.int .i64 x) := p0
      have c1 : W.cell? ⟨bl, off + k * 2 + 1, none⟩ = some (.int .i64 y) := p1
      have d0 : W.cell? ⟨bl', off' + k * 2, none⟩ = some (.int .i64 x) := q0
      have d1 : W.cell? ⟨bl', off' + k * 2 + 1, none⟩ = some (.int .i64 y) := q1
      have j1 : (k : Int) < (M : Int) := by omega
      have j2 : k < ca := by omega
      have j3 : k < cb := by omega
      clear p0 p1 q0 q1 hp
      go_wp2
      go_quiet (fail)
      go_wp2
      exact ⟨⟨k + 1, _, by omega, by simp, rfl⟩, by simp [intOf]; omega⟩
    · have hkm' : k = M := by omega
      subst hkm'
      have j1 : ¬ ((k : Int) < (k : Int)) := by omega
      go_wp2
      go_ret
      exact ⟨rfl, Kept.drewN _ _⟩

end Go.Proofs.Ytgialpjdfeldeaa

/-! ordinatelaw9.of and two: a memory of these cells; ref1.Pairs of two lists that are alike. -/
namespace Go.Proofs.Ytgialpjdfeldeaa
open Go.RowKit

/-- A memory of these cells. -/
def ofS (ws : List Int) : Mst := (Mst.new 300).make ws
/-- Places and numbers in turn. -/
def turnF : List Int → List Int → List Int
  | ys, p :: z :: l => turnF (ys.set (p - 1).toNat z) l
  | ys, _ => ys
def placesB : List Int → Bool
  | p :: _ :: l => decide (1 ≤ p) && decide (p ≤ 23) && placesB l
  | _ => true
def base23 : List Int := [1, 0, 0, 0, 0, 91, 5, 50, 9, 90, 2, 2, 0, 0, 0, 9, 58, 74, 0, 0, 0, 0, 0]
theorem turnF_len : ∀ (l ys : List Int), (turnF ys l).length = ys.length
  | [], _ => rfl
  | [_], _ => rfl
  | _ :: _ :: l, ys => by rw [turnF, turnF_len l]; simp

end Go.Proofs.Ytgialpjdfeldeaa

/-! PlantIdeal's walk: what is built below Root is sound, calm and ideal, and has just its pairs. No conditions beyond each theorem's own. -/
namespace Go.Proofs.Ytgialpjdfeldeaa
open Go.RowKit
set_option maxRecDepth 20000

theorem set_look {s : Mst} {j : Nat} (hj : j < s.xs.length) (x : Int) (i : Nat) : (s.write ((j : Int) + 1) x).look ((i : Int) + 1) = if i = j then x else s.look ((i : Int) + 1) := by
  have hw : (s.write ((j : Int) + 1) x).xs = s.xs.set j x := by rw [Mst.write_in hj]
  by_cases h : i < s.xs.length
  · have hz : s.xs[i]? = some s.xs[i] := List.getElem?_eq_getElem h
    by_cases e : i = j
    · subst e
      rw [if_pos rfl]
      exact Mst.look_succ (by rw [hw]; simp [h])
    · rw [if_neg e, Mst.look_succ hz]
      exact Mst.look_succ (by rw [hw, List.getElem?_set, if_neg (fun e' => e e'.symm)]; exact hz)
  · have h1 : s.used ((i : Int) + 1) = false := by simp only [Mst.used, Bool.and_eq_false_iff, decide_eq_false_iff_not]; omega
    have h2 : (s.write ((j : Int) + 1) x).used ((i : Int) + 1) = false := by simp only [Mst.used, hw, List.length_set, Bool.and_eq_false_iff, decide_eq_false_iff_not]; omega
    rw [if_neg (by omega), Mst.look_none h1, Mst.look_none h2]
theorem write_ok {s : Mst} (h : s.ok) {j : Nat} (hj : j < s.xs.length) {x : Int} (hx : I64 x) : (s.write ((j : Int) + 1) x).ok := by
  rw [Mst.write_in hj]
  refine ⟨fun z hz => ?_, by simpa using h.2⟩
  rcases List.mem_or_eq_of_mem_set hz with hz | rfl
  · exact h.1 z hz
  · exact hx
/-- What Build and Write leave in a memory that is begun. -/
theorem planted {N : Int} {ps : List (Int × Int)} (h : ascB ps = true) (hi : ∀ p ∈ ps, I64 p.1 ∧ I64 p.2) (hN : 7 + Pt.celZ ps.length ≤ N) (hN2 : N ≤ 65536) :
    ∃ z s1 s2, buildS (begun (Mst.new N)) ps = ((z, true), s1) ∧ s1.write 6 z = s2 ∧ I64 z ∧ s2.ok ∧ (s2.xs.length : Int) = 7 + Pt.celZ ps.length ∧ Planted s2 (ps.length + 1) z ps := by
  have hx0 : (begun (Mst.new N)).xs = [1, 0, 0, 0, 0, 57, 0] := rfl
  have hz0 : (begun (Mst.new N)).size = N := rfl
  have cb := Pt.cel_nat (ps.length : Int)
  have ha := ascB_iff.1 h
  obtain ⟨z, s1, ws, c, e1, e2, e3, l1⟩ := buildS_in (s := begun (Mst.new N)) h (by rw [hx0, hz0]; simpa using hN) (by rw [hz0]; exact hN2)
  have okay : Okay (begun (Mst.new N)) := by
    refine ⟨⟨fun z hz => ?_, by rw [hx0]; decide⟩, by rw [hz0]; exact hN2, by rw [hx0, hz0]; simp; omega⟩
    rw [hx0] at hz
    simp only [List.mem_cons, List.not_mem_nil, or_false] at hz
    unfold I64
    omega
  have lo := lay_ok (ps.length + 1) (begun (Mst.new N)) ps okay ha.1 hi
  have e1' := e1
  rw [buildS] at e1
  split at e1
  · simp only [Prod.mk.injEq] at e1
    obtain ⟨⟨g1, -⟩, g2⟩ := e1
    rw [g1, g2] at lo
    obtain ⟨o1, o2⟩ := lo
    have xs1 : s1.xs = [1, 0, 0, 0, 0, 57, 0] ++ ws := by rw [e2, hx0]
    have len1 : s1.xs.length = 7 + ws.length := by rw [xs1]; simp; omega
    have hj : 5 < s1.xs.length := by omega
    have look : ∀ i : Nat, (s1.write 6 z).look ((i : Int) + 1) = if i = 5 then z else s1.look ((i : Int) + 1) := fun i => set_look hj z i
    have len2 : (s1.write 6 z).xs.length = s1.xs.length := by
      have := Mst.write_in hj z
      rw [show ((5 : Nat) : Int) + 1 = 6 from rfl] at this
      rw [this]
      simp
    rw [hx0, show ([1, 0, 0, 0, 0, 57, 0] : List Int).length = 7 from rfl] at l1
    refine ⟨z, s1, _, e1', rfl, o2, write_ok o1.1 hj o2, by rw [len2, len1]; omega, ⟨by rw [len2]; have := o1.2; omega, by omega, ?_, ?_, ?_, ?_, ha.2, ha.1, fun p hp => (hi p hp).1, ?_⟩⟩
    · have := look 0
      rw [if_neg (by omega)] at this
      rw [show (1 : Int) = ((0 : Nat) : Int) + 1 from rfl, this]
      exact Mst.look_succ (by rw [xs1]; rfl)
    · have := look 2
      rw [if_neg (by omega)] at this
      rw [show (3 : Int) = ((2 : Nat) : Int) + 1 from rfl, this]
      exact Mst.look_succ (by rw [xs1]; rfl)
    · have := look 5
      rw [if_pos rfl] at this
      exact this
    · rw [len2]
      refine laid_same l1 (fun j h1 h2 => ?_)
      obtain ⟨i, rfl⟩ : ∃ i : Nat, j = (i : Int) + 1 := ⟨(j - 1).toNat, by omega⟩
      rw [look i, if_neg (by omega)]
    · unfold Go.Proofs.Ytgialpjdfeldeaa.fuel
      have := laid_cells l1
      omega
  · cases e1

theorem begin_n (w W : World) (b : Nat) (N : Int) (h : Now w W b (Mst.new N)) (h7 : 7 ≤ N) : Calls Try.prog 27 #[.pointer (some ⟨b, 0, none⟩)] W fun e W' => e = .returned (.bool true) ∧ Now w W' b (begun (Mst.new N)) :=
  begin_c w W b (Mst.new N) h rfl h7
theorem cells_n (n : Int) (C : Int) (hn : I64 n) (e1 : Pt.celZ n = C) (W : World) : Calls Try.prog 30 #[.int .i64 n] W fun e W' => e = .returned (.int .i64 C) ∧ Kept W W' := by
  subst e1
  exact (Pt.cells_c n hn.wf W).mono fun _ _ ⟨h1, k, h2⟩ => ⟨h1, by rw [h2]; exact Kept.drewN _ _⟩
theorem depth_n (n : Int) (C : Int) (hn : I64 n) (e1 : Pt.depZ n = C) (W : World) : Calls Try.prog 36 #[.int .i64 n] W fun e W' => e = .returned (.int .i64 C) ∧ Kept W W' := by
  subst e1
  exact (Pt.depth_c n hn.wf W).mono fun _ _ ⟨h1, k, h2⟩ => ⟨h1, by rw [h2]; exact Kept.drewN _ _⟩
theorem cel_60 {n : Nat} (h : n ≤ 80) : Pt.celZ (n : Int) ≤ 792 := by
  by_cases h0 : n = 0
  · subst h0; decide
  · have := Pt.cel_bound (n := (n : Int)) (by omega)
    omega

set_option maxHeartbeats 4000000 in
theorem plantIdeal_c (w : World) (a : Option Addr) (zs : List Int) (cap : Nat) (hr : Reads w a zs) (hc : zs.length ≤ cap) (hm : cap ≤ maxLen) :
    Calls Try.prog 5 #[.slice a zs.length cap] w fun e w' => e = .returned (.bool true) ∧ Kept w w' := by
  have HP := hide (Mp.pairs_c w a zs zs.length cap rfl hr hc hm)
  have le := Mp.pairsP_le zs
  have cb := cel_60 (n := (Mp.pairsP zs).length) (by omega)
  obtain ⟨z, s1, s2, e1, e2, e3, e4, e5, e6⟩ := planted (N := 2000) (ascB_up (Mp.pairsP_up zs) (by omega)) (Mp.pairsP_i64 zs) (by omega) (by decide)
  obtain ⟨ps, hps⟩ : ∃ ps, Mp.pairsP zs = ps := ⟨_, rfl⟩
  rw [hps] at HP le e1 e5 e6
  obtain ⟨M, hM⟩ : ∃ M, ps.length = M := ⟨_, rfl⟩
  rw [hM] at e5
  obtain ⟨C, hC⟩ : ∃ C, Pt.celZ (M : Int) = C := ⟨_, rfl⟩
  obtain ⟨d, hd⟩ : ∃ d, Pt.depZ (M : Int) = d := ⟨_, rfl⟩
  have HC := hide hC
  have HD := hide hd
  have HMM := hide hM
  have m60 : (M : Int) ≤ 60 := by omega
  have MI : Hid (I64 (M : Int)) := hide (by unfold I64; omega)
  have E1 := hide e1
  have E2 := hide e2
  have E3 := hide e3
  have E4 := hide e4
  have E5 : Hid ((s2.xs.length : Int) = 7 + C) := hide (by rw [e5, hC])
  have S := hide e6.sound
  have Ca := hide e6.calm
  have I := hide e6.ideal
  have Co := hide e6.content
  have De : Hid (depthB s2 z = d) := hide (by rw [e6.deep, hM, hd])
  have cn := Pt.cel_nat (M : Int)
  rw [hC] at cn
  clear hr hm hps le cb hM hC hd e1 e2 e3 e4 e5 e6
  go_enter Try.func5, Try.ntmps5
  go_wp2_with (fail)
  refine HP.out.mono ?_
  rintro e W1 ⟨v1, rfl, row1, k1⟩
  obtain ⟨a1, c1, rfl, pr1, l1, m1, -, b1⟩ := PRow.form row1
  rw [HMM.out] at l1 ⊢
  have K1 := hide k1
  have PR1 := hide pr1
  have M1 := hide m1
  have B1 := hide (fun ad e => (b1 ad e).2)
  clear k1 row1 pr1 m1 b1 HP
  go_wp2_with (fail)
  refine (now_new W1 W1 2000 (Kept.refl _) (by decide) (by decide)).mono ?_
  rintro e W2 ⟨rfl, h2, -⟩
  have H2 := hide h2
  clear h2
  generalize W1.heap.size = b at H2 ⊢
  go_wp2_with (fail)
  refine (begin_n W1 W2 b 2000 H2.out (by decide)).mono ?_
  rintro e W3 ⟨rfl, h3⟩
  have H3 := hide h3
  clear h3 H2
  go_wp2_with (fail)
  refine (now_bfar W1 W3 b _ a1 ps M c1 H3.out PR1.out HMM.out l1 M1.out B1.out z true s1 E1.out).mono ?_
  rintro e W4 ⟨rfl, h4⟩
  have H4 := hide h4
  clear h4 H3
  go_wp2_with (fail)
  refine (now_write W1 W4 b s1 6 z s2 H4.out E2.out).mono ?_
  rintro e W5 ⟨rfl, h5⟩
  have H5 := hide h5
  clear h5 H4
  go_wp2_with (fail)
  refine (known_c _).mono ?_
  rintro e W6 ⟨rfl, k6⟩
  have H6 := hide (H5.out.on k6)
  clear k6 H5
  go_wp2_with (fail)
  refine (now_used W1 W6 b s2 _ H6.out E5.out).mono ?_
  rintro e W7 ⟨rfl, rfl⟩
  go_wp2_with (fail)
  refine (cells_n (M : Int) C MI.out HC.out _).mono ?_
  rintro e W7 ⟨rfl, k7⟩
  have H7 := hide (H6.out.on k7)
  clear k7 H6
  go_wp2_with (fail)
  refine (sound_p _ b s2 H7.out.pm E4.out true S.out).mono ?_
  rintro e W8 ⟨rfl, k8⟩
  have H8 := hide (H7.out.on k8)
  clear k8 H7
  go_wp2_with (fail)
  refine (calm_p _ b s2 H8.out.pm E4.out true Ca.out).mono ?_
  rintro e W9 ⟨rfl, k9⟩
  have H9 := hide (H8.out.on k9)
  clear k9 H8
  go_wp2_with (fail)
  refine (ideal_p _ b s2 z H9.out.pm E4.out E3.out true I.out).mono ?_
  rintro e WA ⟨rfl, ka⟩
  have HA := hide (H9.out.on ka)
  clear ka H9
  go_wp2_with (fail)
  refine (content_p _ b s2 z HA.out.pm E4.out E3.out ps Co.out).mono ?_
  rintro e WB ⟨vb, rfl, rowb, kb⟩
  obtain ⟨ab, cb, rfl, prb, lb, mb, -, -⟩ := PRow.form rowb
  rw [HMM.out] at lb ⊢
  have HB := hide (HA.out.on kb)
  have PB := hide (pairs_same WB ab a1 ps M cb c1 HMM.out prb (PR1.out.kept HB.out.2) lb l1 (by omega))
  clear kb rowb prb mb HA
  go_wp2_with (fail)
  refine PB.out.mono ?_
  rintro e WC ⟨rfl, kc⟩
  have HC' := hide (HB.out.on kc)
  clear kc HB PB
  go_wp2_with (fail)
  refine (depth_p _ b s2 z HC'.out.pm E4.out E3.out d De.out).mono ?_
  rintro e WD ⟨rfl, kd'⟩
  have HD' := hide (HC'.out.on kd')
  clear kd' HC'
  go_wp2_with (fail)
  refine (depth_n (M : Int) d MI.out HD.out _).mono ?_
  rintro e WE ⟨rfl, ke⟩
  have KE := hide ((K1.out.trans HD'.out.2).trans ke)
  clear ke
  go_wp2
  go_ret
  exact ⟨rfl, KE.out⟩
end Go.Proofs.Ytgialpjdfeldeaa

/-! PlantWide's walk: keys as far apart as keys may be; each is found below the word. No conditions beyond each theorem's own. -/
namespace Go.Proofs.Ytgialpjdfeldeaa
open Go.RowKit Go.Shelf

attribute [local go_sem] Oper.semAt_some

/-- The pairs of PlantWide. -/
def halves (q : List Int) : List (Int × Int) := q.map (fun k => (k, k.tdiv 2))
theorem halves_len (q : List Int) : (halves q).length = q.length := by simp [halves]
theorem halves_keys (q : List Int) : (halves q).map Prod.fst = q := by
  unfold halves
  rw [List.map_map]
  exact List.map_id' q
theorem half_i64 {k : Int} (h : I64 k) : I64 (k.tdiv 2) := by
  obtain ⟨h1, h2⟩ := h
  unfold I64
  by_cases h0 : 0 ≤ k
  · rw [Int.tdiv_eq_ediv_of_nonneg h0]; omega
  · have : k.tdiv 2 = -((-k).tdiv 2) := by rw [Int.neg_tdiv, Int.neg_neg]
    rw [this, Int.tdiv_eq_ediv_of_nonneg (by omega)]; omega
theorem halves_i64 {q : List Int} (h : ∀ z ∈ q, I64 z) : ∀ p ∈ halves q, I64 p.1 ∧ I64 p.2 := by
  intro p hp
  unfold halves at hp
  rw [List.mem_map] at hp
  obtain ⟨k, hk, rfl⟩ := hp
  exact ⟨h k hk, half_i64 (h k hk)⟩
theorem Pst.apart {S E : TypeId} {w : World} {n₀ b : Nat} {v : Value} {xs : List (Int × Int)} (h : Pst S E w n₀ b v xs) (hSE : S ≠ E) : v.ownBlock ≠ some b := by
  intro e
  rcases h.row.2 with ⟨rfl, _⟩ | ⟨g, cap, cur, rfl, _, hgb, _⟩
  · simp [Value.ownBlock] at e
  · obtain rfl : g = b := by simpa [Value.ownBlock] using e
    have hb : w.heap[g]? = some (.cells #[_] S) := h.box
    have := hb.symm.trans hgb
    simp at this
    exact hSE this.2

/-- How many have come, in a box at n. -/
def Cnt (n : Nat) : Inv (Int × Int) := fun O pre A => (∀ k, O k ↔ k = n) ∧ Boxed A n 3 (.int .i64 (pre.length : Int))
theorem Cnt.good (n : Nat) : Good (Cnt n) := by
  constructor
  · rintro O pre A B ⟨hO, hb⟩ ht
    exact ⟨hO, ht.boxed hb (fun hn => hn ((hO n).2 rfl))⟩
  · rintro O pre A ⟨hO, hb⟩ k hk
    rw [(hO k).1 hk]
    exact hb.lt

set_option maxHeartbeats 4000000 in
set_option maxRecDepth 20000 in
theorem plantWide_c (w : World) (a : Option Addr) (zs : List Int) (cap : Nat) (hr : Reads w a zs) (hc : zs.length ≤ cap) (hm : cap ≤ maxLen) (hz : ∀ z ∈ zs, I64 z) :
    Calls Try.prog 7 #[.slice a zs.length cap] w fun e w' => e = .returned (.bool true) ∧ Kept w w' := by
  have up := Mp.wide_up zs
  have le := Mp.wide_le zs
  have hq := fun z hz' => hz z (Mp.wide_mem (zs := zs) (z := z) hz')
  have HP : Hid (∀ W, Kept w W → Calls Try.prog 38 #[.slice a zs.length cap] W (Mp.Sliced2 (Mp.wideP zs) W)) := hide (fun W k => Mp.wide_c W a zs cap (hr.kept k) hc hm)
  obtain ⟨q, hqq⟩ : ∃ q, Mp.wideP zs = q := ⟨_, rfl⟩
  rw [hqq] at up le hq HP
  have cb := cel_60 (n := (halves q).length) (by rw [halves_len]; exact le)
  obtain ⟨z, s1, s2, e1, e2, e3, e4, e5, e6⟩ := planted (N := 2500) (ps := halves q) (ascB_up (by rw [halves_keys]; exact up) (by rw [halves_len]; omega)) (halves_i64 hq) (by omega) (by decide)
  obtain ⟨M, hM⟩ : ∃ M, q.length = M := ⟨_, rfl⟩
  have HM := hide hM
  have HPL : Hid ((halves q).length = M) := hide (by rw [halves_len, hM])
  have m80 : M ≤ 80 := by omega
  have HQI := hide hq
  have E1 := hide e1
  have E2 := hide e2
  have E3 := hide e3
  have E4 := hide e4
  have I := hide e6.ideal
  have Co : Hid (contentB s2 (s2.logicZ 6) = halves q) := hide (by rw [e6.logic]; exact e6.content)
  obtain ⟨n, hn⟩ : ∃ n, w.heap.size = n := ⟨_, rfl⟩
  have HN := hide hn
  obtain ⟨W0, hW0⟩ : ∃ W0, w.alloc (.cells #[.bool false] 4) = W0 := ⟨_, rfl⟩
  have K0 : Hid (Kept w W0) := hide (by rw [← hW0]; exact (Kept.refl w).alloc _)
  have R0 : Hid (Boxed W0 n 4 (.bool false)) := hide (by rw [← hW0, ← hn]; exact Boxed.new w 4 _)
  have Z0 : Hid (W0.heap.size = n + 1) := hide (by rw [← hW0]; simp [hn])
  clear hr hm up le hq hqq cb e1 e2 e3 e4 e5 e6 hM hz
  refine calls_marks Try.func7 rfl ?_
  simp only [Try.ntmps7, List.size_toArray, List.length_cons, List.length_nil, Nat.reduceAdd, Nat.reduceSub, Array.replicate_succ, Array.replicate_zero, List.push_toArray, List.append_toArray, List.nil_append, List.cons_append]
  go_wp2_with (fail)
  clear hW0 hn
  refine (HP.out W0 K0.out).mono ?_
  rintro e W1 ⟨v1, rfl, row1, k1⟩
  obtain ⟨a1, c1, rfl, rq, l1, m1, b1⟩ := Row.reads row1
  rw [HM.out] at l1 ⊢
  have K1 := hide (K0.out.trans k1)
  have R1 := hide (k1.boxed R0.out id)
  have RQ := hide rq
  have mc : (c1 : Int) ≤ 9223372036854775807 := by unfold maxLen at m1; omega
  have Z1 : Hid (n + 1 ≤ W1.heap.size) := hide (by have := k1.size; have := Z0.out; omega)
  obtain ⟨bp, hbp⟩ : ∃ bp, W1.heap.size = bp := ⟨_, rfl⟩
  obtain ⟨W2, hW2⟩ : ∃ W2, W1.alloc (.cells #[.slice none 0 0] 31) = W2 := ⟨_, rfl⟩
  have P2 : Hid (Pst 31 30 W2 bp bp (.slice none 0 0) []) := hide (by rw [← hW2, ← hbp]; exact ⟨Nat.le_refl _, Boxed.new W1 31 _, PRow.nil _ _ _⟩)
  have K2 : Hid (Kept W1 W2) := hide (by rw [← hW2]; exact (Kept.refl W1).alloc _)
  have HBP := hide hbp
  clear k1 row1 rq m1 b1 R0 K0 HP
  go_wp2
  clear hW2 hbp
  go_loopw [5] (fun i wr => ∃ (t : Nat) (v : Value), t ≤ M ∧ i = .int .i64 t ∧ Hid (Pst 31 30 wr bp bp v ((halves q).take t)) ∧ Hid (Kept W1 wr)) (fun i _ => M - (intOf i).toNat)
  case atStart => exact ⟨0, _, Nat.zero_le _, rfl, hide (by simpa using P2.out), K2⟩
  case round =>
    obtain ⟨t, v, ht, rfl, HP, HK⟩ := hrel
    clear P2 K2
    by_cases hlt : t < M
    · obtain ⟨x, hx⟩ : ∃ x, q[t]? = some x := ⟨_, List.getElem?_eq_getElem (by have := HM.out; omega)⟩
      obtain ⟨bl, off, rfl, hbl, hcq⟩ := (RQ.out.kept HK.out).at hx
      obtain ⟨bl', off', e', hbl', _⟩ := RQ.out.at hx
      cases e'
      have hxi := HQI.out x (List.mem_of_getElem? hx)
      obtain ⟨y, hy⟩ : ∃ y, x.tdiv 2 = y := ⟨_, rfl⟩
      have hyi := half_i64 hxi
      rw [hy] at hyi
      have wy : wrap64 (x.tdiv 2) = y := by rw [hy]; exact Rf.wrap_same hyi.1 hyi.2
      have HS : Hid ((halves q).take (t + 1) = (halves q).take t ++ [(x, y)]) := hide (by
        have hl : (halves q)[t]? = some (x, y) := by unfold halves; rw [List.getElem?_map, hx, ← hy]; rfl
        obtain ⟨h1, h2⟩ := List.getElem?_eq_some_iff.1 hl
        rw [List.take_succ_eq_append_getElem h1, h2])
      obtain ⟨V, hV⟩ : ∃ V, wr.drew = V := ⟨_, rfl⟩
      have kV : Kept wr V := by rw [← hV]; exact Kept.drew _
      have PV := HP.out.kept kV
      have hne := PV.apart (by decide)
      have x0 : ∀ u : Wd (fun U => Turned (fun k => v.ownBlock = some k) V U), u.w.cell? ⟨bp, 0, none⟩ = some v := fun u => u.ok.cell PV.box.cell hne
      have x1 : ∀ u : Wd (fun U => Turned (fun k => v.ownBlock = some k) V U), u.w.cell? ⟨bl, off + t, none⟩ = some (.int .i64 x) := fun u => u.ok.cell (kV.cell hcq id) (fun e => by have := (PV.row.lt _ e).1; have := HBP.out; simp only at *; omega)
      obtain ⟨av, cv, hv, _⟩ := PV.row.reads
      have lt1 : ((halves q).take t).length = t := by rw [List.length_take, HPL.out]; omega
      rw [lt1] at hv
      subst hv
      have HPV := hide PV
      have HV := hide hV
      have KV := hide (HK.out.trans kV)
      have SZ : Hid (bp ≤ V.heap.size) := hide (by have := (PV.lt bp (.inl rfl)).2; omega)
      have LT1 := hide lt1
      have i1 : (t : Int) < (M : Int) := by omega
      have i2 : t < c1 := by omega
      clear hx hcq hbl hbl' hxi hy hyi hV kV PV hne lt1
      go_wp2_with (fail)
      refine region_last [0, 1, 2, 3, 4, 5, 6, 7, 8, 9, 10, 11, 12] 13 (fun U => Turned (fun k => (Value.slice av t cv).ownBlock = some k) V U) (by kernel_rfl) (by kernel_rfl) (by rw [HV.out]; exact Turned.refl _ _) (fun _ => ?_)
      rw [HV.out]
      repeat (refine lq rfl rfl ?_; go_big_quiet_step (fail); refine wpQuiet_nil ?_)
      refine ll rfl rfl ?_
      gi_wp2
      refine ⟨Wd.mem (Turned.alloc _ _ _), ?_⟩
      refine ll rfl rfl ?_
      gi_wp2_with (gi_at_builtin; refine Stop.out ?_)
      refine ⟨?_⟩
      refine wpListIn_append_pair ptP rfl _ _ rfl bp (.slice av t cv) ((halves q).take t) ((halves q).take (t + 1)) rfl (HPV.out.row.kept (Turned.alloc _ _ _)) V.heap.size x y rfl (heap_new _ _) (by rw [LT1.out]; omega) (by have := SZ.out; simp; omega) HS.out ?_
      intro v' A1 hown hgrow hat
      obtain ⟨a', cap', hv', _⟩ := hown.reads
      obtain ⟨L, hLL⟩ : ∃ L, ((halves q).take (t + 1)).length = L := ⟨_, rfl⟩
      rw [hLL] at hv'
      clear hLL
      subst hv'
      obtain ⟨hb1, hg⟩ := grew_of (tmp := .cells #[.int .i64 x, .int .i64 y] 30) (by decide) SZ.out HPV.out hown hgrow (by simpa using hat)
      have TA : Hid (Turned (fun k => (Value.slice av t cv).ownBlock = some k) V A1) := hide ((Turned.alloc (fun _ => False) V _).trans (Turned.of_grownBy (R := fun k => (Value.slice av t cv).ownBlock = some k) hgrow (fun _ h => h)) (fun _ e => e.elim) (fun _ _ e => e))
      have cA := hb1.cell
      have fA := hb1.frozen
      obtain ⟨v2, g1, g2, _⟩ := hg
      have KN : Hid (Kept W1 (A1.setCell ⟨bp, 0, none⟩ (.slice a' L cap'))) := hide (KV.out.own (fun i hi => by have := (HPV.out.lt i hi).1; have := HBP.out; omega) g2)
      have G1 := hide g1
      clear hown hgrow hat g1 g2 hb1
      gi_wp2
      refine ⟨Wd.mem TA.out, ?_⟩
      refine lz rfl ?_
      gi_wp2
      refine last_done ?_
      go_wp2
      exact ⟨⟨t + 1, v2, by omega, by simp, G1, KN⟩, by simp [intOf]; omega⟩
    · obtain rfl : t = M := by omega
      have all : (halves q).take t = halves q := List.take_of_length_le (by rw [HPL.out]; exact Nat.le_refl _)
      rw [all] at HP
      have PW := HP.out
      obtain ⟨a5, c5, rfl, pr5, l5, m5, -, b5⟩ := PRow.form PW.row
      rw [HPL.out] at HP PW l5
      have PR5 := hide pr5
      have M5 := hide m5
      have B5 := hide (fun ad e => (b5 ad e).2)
      have BX := hide PW.box
      have cP := PW.box.cell
      have i1 : ¬ ((t : Int) < (t : Int)) := by omega
      have RW := hide (HK.out.boxed R1.out id)
      have ZW : Hid (bp < wr.heap.size) := hide PW.box.lt
      have KW := hide (K1.out.trans HK.out)
      rename World => W3
      clear all pr5 m5 b5 PW HP HK
      go_wp2_with (fail)
      refine (now_new W3 W3 2500 (Kept.refl _) (by decide) (by decide)).mono ?_
      rintro e W4 ⟨rfl, h4, -⟩
      have H4 := hide h4
      clear h4 cP
      obtain ⟨b, hb⟩ : ∃ b, W3.heap.size = b := ⟨_, rfl⟩
      have HBB := hide hb
      rw [hb] at H4 ⊢
      clear hb
      go_wp2_with (fail)
      refine (begin_n W3 W4 b 2500 H4.out (by decide)).mono ?_
      rintro e W5 ⟨rfl, h5⟩
      have H5 := hide h5
      have cP := (h5.2.boxed BX.out id).cell
      clear h5 H4
      go_wp2_with (fail)
      refine (now_bfar W3 W5 b _ a5 (halves q) t c5 H5.out PR5.out HPL.out l5 M5.out B5.out z true s1 E1.out).mono ?_
      rintro e W6 ⟨rfl, h6⟩
      have H6 := hide h6
      clear h6 H5 cP
      go_wp2_with (fail)
      refine (now_write W3 W6 b s1 6 z s2 H6.out E2.out).mono ?_
      rintro e W7 ⟨rfl, h7⟩
      have H7 := hide h7
      obtain ⟨bi, hbi⟩ : ∃ bi, W7.heap.size = bi := ⟨_, rfl⟩
      have I8 : Hid (Boxed (W7.alloc (.cells #[.int .i64 0] 3)) bi 3 (.int .i64 0)) := hide (by rw [← hbi]; exact Boxed.new W7 3 _)
      have K8 : Hid (Kept W7 (W7.alloc (.cells #[.int .i64 0] 3))) := hide ((Kept.refl W7).alloc _)
      have HBI := hide hbi
      have Z7 : Hid (bp < bi ∧ n < bi ∧ W3.heap.size ≤ bi) := hide (by
        have h1 := h7.2.size
        have h2 := ZW.out
        have h3 := Z1.out
        have h4 := HBP.out
        omega)
      clear h7 H6
      go_wp2_with (fail)
      clear hbi
      refine (leaves_k (W7.alloc (.cells #[.int .i64 0] 3)) b).mono ?_
      rintro e W9 ⟨B1, rfl, k9, bx9, l9⟩
      have I9 := hide (k9.boxed I8.out id)
      have B9 := hide bx9
      have K9 := hide (K8.out.trans k9)
      have L9 : Hid (bi < B1) := hide (by have := I8.out.lt; omega)
      have KA := hide (H7.out.2.trans K9.out)
      clear k9 bx9 l9 I8 K8
      go_wp2_with (fail)
      refine wp_range2 (gf := 67) rfl (enters_of Try.func67 (by kernel_rfl) rfl) (encs := enc2) (xs := halves q) (R := SpotR W7 B1)
        (fun X hX => leaves_i W7 X (K9.out.trans hX) b s2 H7.out.pm E4.out (halves q) Co.out (by rw [HPL.out]; omega) B1 (hX.boxed B9.out id)) (fun _ => rfl)
        (fun k => k = bi) (Cnt bi) (fun _ _ _ _ => False) ?hR (Cnt.good bi) (fun _ => good_false) ⟨fun _ => Iff.rfl, I9.out⟩ ?ab ?done ?stop
      case hR =>
        rintro k (hk | rfl)
        · have h1 := K9.out.size
          have h2 := HBI.out
          exact ⟨by omega, by omega⟩
        · have h1 := B9.out.lt
          have h2 := L9.out
          exact ⟨h1, by omega⟩
      case ab =>
        apply Exists.intro
        refine ⟨?_, ?_⟩
        · intro l' p X K hK
          gi_wp2
          exact hK
        · rintro l' O pre ⟨k, v⟩ rest B hx' tB sB ⟨hO, bI⟩
          obtain ⟨L, hL⟩ : ∃ L, pre.length = L := ⟨_, rfl⟩
          have hat : (halves q)[L]? = some (k, v) := by rw [hx', ← hL, List.getElem?_append_right (Nat.le_refl _), Nat.sub_self]; rfl
          have hlt : L < t := by have := (List.getElem?_eq_some_iff.1 hat).1; have := HPL.out; omega
          have kB : Turned (fun k => k = bi) W3 B := KA.out.then tB
          have cP := (kB.boxed BX.out (by have := Z7.out; omega)).cell
          obtain ⟨bl, off, rfl, _, g1, g2⟩ := (PR5.out.turned kB (fun i _ ⟨ad, e1, e2⟩ hi => by
            have h1 := B5.out ad e1
            have h2 := Z7.out
            omega)).at hat
          simp only at g1 g2
          rw [← Nat.add_assoc] at g2
          rw [hL] at bI
          have cI := bI.cell
          have fI := bI.frozen
          have HOO := hide hO
          have END : Hid (∃ O', Sub O' O B.heap.size ∧ Turned O B (B.setCell ⟨bi, 0, none⟩ (.int .i64 ((L : Int) + 1))) ∧ Cnt bi O' (pre ++ [(k, v)]) (B.setCell ⟨bi, 0, none⟩ (.int .i64 ((L : Int) + 1)))) := hide (by
            refine ⟨O, Sub.refl _ _, Turned.setCell _ _ _ ((hO bi).2 rfl), hO, ?_⟩
            have := bI.set (.int .i64 ((L : Int) + 1))
            rw [List.length_append, hL]
            simpa using this)
          have j1 : (L : Int) < (t : Int) := by omega
          have j2 : L < c5 := by omega
          have j3 : (L : Int) ≤ 80 := by omega
          clear hx' tB sB hO bI hL hat kB
          gi_wp2
          exact END.out
      case done =>
        rintro D O X hD nD tX sX ⟨hO, bI⟩ hK
        rw [HPL.out] at bI
        have tW : Turned (fun k => k = bi) W3 X := KA.out.then tX
        have HX : Hid (Now W3 X b s2) := hide (by
          obtain ⟨⟨v7, m7⟩, k7⟩ := H7.out
          refine ⟨⟨v7, (m7.kept K9.out).turned tX (fun k hk e => ?_)⟩, KA.out.did (by have := Z7.out; omega) tX⟩
          have h1 := (m7.lt k hk).2
          have h2 := HBI.out
          omega)
        have BXX := hide (tW.boxed BX.out (by have := Z7.out; omega))
        have RXX := hide (tW.boxed RW.out (by have := Z7.out; omega))
        have BII := hide bI
        have HKD := hide hK
        have HDD : Hid (D ≠ n ∧ w.heap.size ≤ D) := hide (by
          have h1 := KA.out.size
          have h2 := ZW.out
          have h3 := Z1.out
          have h4 := HBP.out
          have h5 := HN.out
          omega)
        clear hD nD tX sX hO bI hK tW
        go_wp2_with (fail)
        refine (known_c X).mono ?_
        rintro e X1 ⟨rfl, k1⟩
        have H1 := hide (HX.out.on k1)
        have cB := (k1.boxed BXX.out id).cell
        have cI := (k1.boxed BII.out id).cell
        have RX1 := hide (k1.boxed RXX.out id)
        have HK1 := hide (k1.heap HKD.out id)
        clear k1 HX BXX BII RXX HKD
        go_wp2_with (fail)
        refine (ideal_p X1 b s2 z H1.out.pm E4.out E3.out true I.out).mono ?_
        rintro e X2 ⟨rfl, k2⟩
        have RX2 := hide (k2.boxed RX1.out id)
        have HK2 := hide (k2.heap HK1.out id)
        have cR := RX2.out.cell
        have fR := RX2.out.frozen
        have tS : Turned (fun k => k = n) X2 (X2.setCell ⟨n, 0, none⟩ (.bool true)) := Turned.setCell _ _ _ rfl
        have HK3 : Hid ((X2.setCell ⟨n, 0, none⟩ (.bool true)).heap[D]? = some (.deferred (some []))) := hide (tS.heap HK2.out (HDD.out.1))
        have CS : Hid ((X2.setCell ⟨n, 0, none⟩ (.bool true)).cell? ⟨n, 0, none⟩ = some (.bool true)) := hide (RX2.out.set (.bool true)).cell
        have KX : Hid (Kept w (X2.setCell ⟨n, 0, none⟩ (.bool true))) := hide (((KW.out.trans H1.out.2).trans k2).did (by have := HN.out; omega) tS)
        clear k2 tS RX1 HK1 cB cI H1
        go_wp2
        refine leave_marks [D] _ ?_ ?_ ?_
        · intro k hk
          simp at hk
          rw [hk]
          exact HK3.out
        · simp
        · intro X' hX'
          have q1 := hX'.cell CS.out (by have := HDD.out; simp; omega)
          exact ⟨.bool true, by simp [results, Try.results7, go_sem, q1], rfl, KX.out.own (fun i hi => by simp at hi; have := HDD.out; omega) hX'⟩
      case stop =>
        rintro D O c pre rest X hD nD tX sX hx' h
        exact h.elim
end Go.Proofs.Ytgialpjdfeldeaa
