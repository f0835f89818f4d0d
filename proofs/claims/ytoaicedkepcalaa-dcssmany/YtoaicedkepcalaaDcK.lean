/-
  What known and DcssKnown answer: true; a frame of dcss beside a memory that was made since w ('Ot': blocks of other types lie on). No conditions beyond each theorem's own.
-/
import Derived.Test.YtoaicedkepcalaaDcF
import Derived.Test.YtoaicedkepcalaaLook
namespace Go.Proofs.Ytoaicedkepcalaa
open Go.RowKit
set_option maxRecDepth 20000

/-- Blocks of other types than a memory's lie on, but f. -/
def Ot (f : Nat) (W W' : World) : Prop := ∀ (k : Nat) (c : Array Value) (T : TypeId), k ≠ f → W.heap[k]? = some (.cells c T) → T ≠ 2 → T ≠ 50 → W'.heap[k]? = some (.cells c T)
theorem Ot.kept {f : Nat} {W W' : World} (h : Kept W W') : Ot f W W' := fun _ _ _ _ e _ _ => h.heap e id
theorem Row.typed {W : World} {n₀ : Nat} {v : Value} {xs : List Int} (h : Row W n₀ 2 v xs) : ∀ g, v.ownBlock = some g → ∃ c, W.heap[g]? = some (.cells c 2) := by
  intro g e
  rcases h.2 with ⟨rfl, _⟩ | ⟨g', cap, cur, rfl, hg, hh, _⟩
  · simp [Value.ownBlock] at e
  · simp [Value.ownBlock] at e
    subst e
    exact ⟨_, hh⟩
theorem foot_ty {W : World} {n₀ b : Nat} {v : Value} {m : Mst} (h : PMem W n₀ b v m) {k : Nat} {c : Array Value} {T : TypeId} (hk : W.heap[k]? = some (.cells c T)) (h1 : T ≠ 2) (h2 : T ≠ 50) : ¬ Foot b v k := by
  rintro (e | e)
  · have := h.box
    rw [← e, hk] at this
    simp at this
    exact h2 this.2
  · obtain ⟨c', hc⟩ := h.row.typed k e
    rw [hk] at hc
    simp at hc
    exact h1 hc.2
theorem Ot.turned {f b n₀ : Nat} {W W' : World} {v : Value} {m : Mst} (h : PMem W n₀ b v m) (t : Turned (fun k => k = f ∨ Foot b v k) W W') : Ot f W W' := fun _ _ _ hf hk h1 h2 => t.heap hk (fun e => e.elim hf (foot_ty h hk h1 h2))
theorem DpAt.ot {W W' : World} {f g : Nat} {p : Dp} (h : DpAt W f p) (t : Ot g W W') (hf : f ≠ g) : DpAt W' f p := t _ _ _ hf h (by decide) (by decide)
theorem d_step (w W : World) (b : Nat) (s : Mst) (f : Nat) (p : Dp) (h : Now w W b s) (hp : DpAt W f p) (hnew : w.heap.size ≤ f) (hn : 0 ≤ p.n ∧ p.n ≤ 6) (hr : 0 ≤ p.r ∧ p.r ≤ 1000000) (ho : ∀ a, I64 (s.look a)) (p' : Dp) (s' : Mst) (r : Bool) (e1 : p.step s = (p', s')) (e2 : (p'.n == 6) = r) :
    Calls Try.prog 11 #[.pointer (some ⟨f, 0, none⟩), .pointer (some ⟨b, 0, none⟩)] W fun e W' => e = .returned (.bool r) ∧ Now w W' b s' ∧ DpAt W' f p' ∧ Ot f W W' := by
  obtain ⟨⟨v, hm⟩, hk⟩ := h
  refine (dp_step W _ b v f p s hp hm hk.size hn hr ho (foot_ty hm hp (by decide) (by decide)) p' s' r e1 e2).mono ?_
  rintro e W' ⟨rfl, v', R⟩
  exact ⟨rfl, ⟨⟨v', R.mem⟩, hk.own (fun i hi => hi.elim (fun e => e ▸ hnew) (fun e => (hm.lt i e).1)) R.turned⟩, R.frame, Ot.turned hm R.turned⟩
theorem d_read (w W : World) (b : Nat) (s : Mst) (a r : Int) (s' : Mst) (h : Now w W b s) (e1 : s.look a = r) (e2 : s.touch a = s') :
    Calls Try.prog 39 #[.pointer (some ⟨b, 0, none⟩), .int .i64 a] W fun e W' => e = .returned (.int .i64 r) ∧ Now w W' b s' ∧ Ot b W W' := by
  obtain ⟨⟨v, h⟩, hk⟩ := h
  subst e1 e2
  exact (read_p W _ b v s a h).mono fun _ _ ⟨h1, h2, h3⟩ => ⟨h1, Now.box h hk h2 h3, Ot.turned h (h3.mono (fun _ _ e => .inl e))⟩
theorem d_write (w W : World) (b : Nat) (s : Mst) (a x : Int) (s' : Mst) (h : Now w W b s) (e1 : s.write a x = s') :
    Calls Try.prog 18 #[.pointer (some ⟨b, 0, none⟩), .int .i64 a, .int .i64 x] W fun e W' => e = .returned (.tuple #[]) ∧ Now w W' b s' ∧ Ot b W W' := by
  obtain ⟨⟨v, h⟩, hk⟩ := h
  subst e1
  exact (write_p W _ b v s a x h).mono fun _ _ ⟨h1, h2, h3⟩ => ⟨h1, Now.put h hk h2 h3, Ot.turned h (h3.mono (fun _ _ e => .inr e))⟩
/-- A frame and a memory behind so many steps. -/
def dt (p : Dp) (m : Mst) : Nat → Dp × Mst
  | 0 => (p, m)
  | k + 1 => (dt p m k).1.step (dt p m k).2
theorem dt_step (p : Dp) (m : Mst) (k : Nat) : (dt p m k).1.step (dt p m k).2 = ((dt p m (k + 1)).1, (dt p m (k + 1)).2) := rfl
def dokB (p : Dp) (s : Mst) : Bool := decide (0 ≤ p.n) && decide (p.n ≤ 6) && decide (0 ≤ p.r) && decide (p.r ≤ 1000000) && allI s.xs
structure DOk (p : Dp) (s : Mst) : Prop where
  n : 0 ≤ p.n ∧ p.n ≤ 6
  r : 0 ≤ p.r ∧ p.r ≤ 1000000
  i64 : ∀ a, I64 (s.look a)
theorem dokB_ok {p : Dp} {s : Mst} (h : dokB p s = true) : DOk p s := by
  simp only [dokB, Bool.and_eq_true, decide_eq_true_eq] at h
  obtain ⟨⟨⟨⟨h1, h2⟩, h3⟩, h4⟩, h5⟩ := h
  exact ⟨⟨h1, h2⟩, ⟨h3, h4⟩, allI_ok h5⟩
def dtB (p : Dp) (m : Mst) : Bool := (List.range 6).all fun k => dokB (dt p m k).1 (dt p m k).2 && ((dt p m (k + 1)).1.n == (k : Int) + 1)
structure DtOk (p : Dp) (m : Mst) (k : Nat) : Prop where
  ok : DOk (dt p m k).1 (dt p m k).2
  n' : ((dt p m (k + 1)).1.n == 6) = decide (k = 5)
theorem dt_ok {p : Dp} {m : Mst} (h : dtB p m = true) (k : Nat) (hk : k < 6) : DtOk p m k := by
  have := List.all_eq_true.1 h k (List.mem_range.2 hk)
  simp only [Bool.and_eq_true, beq_iff_eq] at this
  obtain ⟨h1, h3⟩ := this
  refine ⟨dokB_ok h1, ?_⟩
  rw [h3, Bool.eq_iff_iff]; simp; omega
def kd0 : Mst := ⟨[1, 0, 0, 0, 0, 57, 0], 40, 2, 0, 0⟩
theorem kd0_is : begun (Mst.new 40) = kd0 := by kernel_rfl
def kdF : Dp := Dp.new 3 6 57 66
def kd1 : Mst := (dt kdF kd0 6).2
def kdG : Dp := Dp.new 3 6 57 74
def kd2 : Mst := (dt kdG kd1 2).2
def kd3 : Mst := ((kd2.touch 6).write 3 1)
def kdH : Dp := Dp.new 3 6 66 74
def kd4 : Mst := (dt kdH kd3 6).2
theorem kdF_ok : dtB kdF kd0 = true := by kernel_rfl
theorem kdH_ok : dtB kdH kd3 = true := by kernel_rfl
set_option maxHeartbeats 4000000 in
theorem known_c (w : World) : Calls Try.prog 12 #[] w fun e w' => e = .returned (.bool true) ∧ Kept w w' := by
  go_enter Try.func12, Try.ntmps12
  go_wp2_with (fail)
  refine (now_new w w 40 (Kept.refl w) (by decide) (by decide)).mono ?_
  rintro e W1 ⟨rfl, h1, -⟩
  have H1 := hide h1
  obtain ⟨b, hb⟩ : ∃ b, w.heap.size = b := ⟨_, rfl⟩
  rw [hb] at H1
  clear h1
  rw [hb]
  clear hb
  go_wp2_with (fail)
  refine (begin_c w W1 _ _ H1.out rfl (by decide)).mono ?_
  rintro e W2 ⟨rfl, h2⟩
  have H2 := hide h2
  rw [kd0_is] at H2
  clear h2 H1
  go_wp2_with (fail)
  refine (dp_new W2 3 6 57 66).mono ?_
  rintro e W3 ⟨rfl, p3, k3⟩
  have H3 := hide (H2.out.on k3)
  have NF := hide H2.out.2.size
  have FL := hide H2.out.lt
  obtain ⟨f, hf⟩ : ∃ f, W2.heap.size = f := ⟨_, rfl⟩
  have P3 := hide p3
  rw [hf] at P3 NF FL
  clear p3 k3 H2
  rw [hf]
  clear hf
  go_wp2_with (fail)
  rename World => U0
  go_loopw [4] (fun vi wr => ∃ k : Nat, k ≤ 6 ∧ vi = .int .i64 (k : Int) ∧ Hid (Now w wr b (dt kdF kd0 k).2) ∧ Hid (DpAt wr f (dt kdF kd0 k).1)) (fun vi _ => (6 - intOf vi).toNat)
  case atStart => exact ⟨0, by omega, by simp, H3, P3⟩
  case round =>
    obtain ⟨k, k6, rfl, M, P⟩ := hrel
    clear H3 P3
    by_cases hk : k = 6
    · subst hk
      clear k6
      rename World => wr
      obtain ⟨S, hS⟩ : ∃ S, (dt kdF kd0 6).2 = S := ⟨_, rfl⟩
      rw [show (dt kdF kd0 6).2 = kd1 from rfl] at M
      clear hS
      go_wp2_with (fail)
      refine (dp_new wr 3 6 57 74).mono ?_
      rintro e V1 ⟨rfl, q1, k1⟩
      have M1 := hide (M.out.on k1)
      have P1 := hide (P.out.kept k1)
      have NG := hide M.out.2.size
      have FG : Hid (f ≠ wr.heap.size) := hide (Nat.ne_of_lt P.out.lt)
      have BG : Hid (b ≠ wr.heap.size) := hide (Nat.ne_of_lt M.out.lt.2)
      obtain ⟨g, hg⟩ : ∃ g, wr.heap.size = g := ⟨_, rfl⟩
      have Q1 := hide q1
      rw [hg] at Q1 NG FG BG
      clear q1 k1 M P
      rw [hg]
      clear hg
      go_wp2_with (fail)
      refine (d_step w V1 b kd1 g kdG M1.out Q1.out NG.out (by decide) (by decide) (allI_ok (by kernel_rfl)) (dt kdG kd1 1).1 (dt kdG kd1 1).2 false rfl (by kernel_rfl)).mono ?_
      rintro e V2 ⟨rfl, m2, q2, o2⟩
      have M2 := hide m2
      have Q2 := hide q2
      have P2 := hide (P1.out.ot o2 FG.out)
      clear m2 q2 o2 M1 Q1 P1
      go_wp2_with (fail)
      refine (d_step w V2 b _ g _ M2.out Q2.out NG.out (by decide) (by decide) (allI_ok (by kernel_rfl)) (dt kdG kd1 2).1 (dt kdG kd1 2).2 true rfl (by kernel_rfl)).mono ?_
      rintro e V3 ⟨rfl, m3, q3, o3⟩
      have M3 : Hid (Now w V3 b kd2) := hide m3
      have Q3 := hide q3
      have P3 := hide (P2.out.ot o3 FG.out)
      clear m3 q3 o3 M2 Q2 P2
      go_wp2_with (fail)
      refine (dp_outcome V3 f _ P3.out 1 (by kernel_rfl)).mono ?_
      rintro e w' ⟨rfl, rfl⟩
      go_wp2_with (fail)
      refine (dp_rec V3 f _ P3.out 8 (by kernel_rfl)).mono ?_
      rintro e w' ⟨rfl, rfl⟩
      go_wp2_with (fail)
      refine (d_read w V3 b kd2 6 66 (kd2.touch 6) M3.out (by kernel_rfl) rfl).mono ?_
      rintro e V4 ⟨rfl, m4, o4⟩
      have M4 := hide m4
      have Q4 := hide (Q3.out.ot o4 (Ne.symm BG.out))
      clear m4 o4 M3 Q3 P3
      go_wp2_with (fail)
      refine (dp_outcome V4 g _ Q4.out 0 (by kernel_rfl)).mono ?_
      rintro e w' ⟨rfl, rfl⟩
      clear Q4
      go_wp2_with (fail)
      refine (d_write w V4 b _ 3 1 kd3 M4.out rfl).mono ?_
      rintro e V5 ⟨rfl, m5, -⟩
      have M5 := hide m5
      clear m5 M4
      go_wp2_with (fail)
      refine (dp_new V5 3 6 66 74).mono ?_
      rintro e V6 ⟨rfl, p6, k6⟩
      have H6 := hide (M5.out.on k6)
      have NH := hide M5.out.2.size
      obtain ⟨h, hh⟩ : ∃ h, V5.heap.size = h := ⟨_, rfl⟩
      have P6 := hide p6
      rw [hh] at P6 NH
      clear p6 k6 M5
      rw [hh]
      clear hh
      go_wp2_with (fail)
      go_loopw [7] (fun vi wr => ∃ k : Nat, k ≤ 6 ∧ vi = .int .i64 (k : Int) ∧ Hid (Now w wr b (dt kdH kd3 k).2) ∧ Hid (DpAt wr h (dt kdH kd3 k).1)) (fun vi _ => (6 - intOf vi).toNat)
      case atStart => exact ⟨0, by omega, by simp, H6, P6⟩
      case round =>
        obtain ⟨k, k6, rfl, M, P⟩ := hrel
        clear H6 P6
        by_cases hk : k = 6
        · subst hk
          clear k6
          rename World => wz
          go_wp2_with (fail)
          refine (dp_outcome wz h _ P.out 2 (by kernel_rfl)).mono ?_
          rintro e w' ⟨rfl, rfl⟩
          go_wp2_with (fail)
          refine (d_read w wz b _ 6 66 _ M.out (by kernel_rfl) rfl).mono ?_
          rintro e X ⟨rfl, mx, -⟩
          have KX := hide mx.2
          clear mx M P
          go_wp2
          go_ret
          exact ⟨rfl, KX.out⟩
        · have k1 : k < 6 := by omega
          have IK := hide (dt_ok kdH_ok k k1)
          have i1 : (k : Int) < 6 := by omega
          clear k6
          rename World => wz
          go_wp2_with (fail)
          refine (d_step w wz b _ h _ M.out P.out NH.out IK.out.ok.n IK.out.ok.r IK.out.ok.i64 _ _ (decide (k = 5)) (dt_step kdH kd3 k) IK.out.n').mono ?_
          rintro e X ⟨rfl, m8, p8, -⟩
          have M8 := hide m8
          have P8 := hide p8
          clear m8 p8 M P
          by_cases hk5 : k = 5
          · subst hk5
            go_wp2
            exact ⟨⟨6, by omega, by simp, M8, P8⟩, by simp only [intOf]; omega⟩
          · have g6 : decide (k = 5) = false := by simp [hk5]
            have g7 : ((k : Int) == 5) = false := by simp; omega
            rw [g6]
            go_wp2
            exact ⟨⟨k + 1, by omega, by simp, M8, P8⟩, by simp only [intOf]; omega⟩
    · have k1 : k < 6 := by omega
      have IK := hide (dt_ok kdF_ok k k1)
      have i1 : (k : Int) < 6 := by omega
      clear k6
      rename World => wz
      go_wp2_with (fail)
      refine (d_step w wz b _ f _ M.out P.out NF.out IK.out.ok.n IK.out.ok.r IK.out.ok.i64 _ _ (decide (k = 5)) (dt_step kdF kd0 k) IK.out.n').mono ?_
      rintro e X ⟨rfl, m8, p8, -⟩
      have M8 := hide m8
      have P8 := hide p8
      clear m8 p8 M P
      by_cases hk5 : k = 5
      · subst hk5
        go_wp2
        exact ⟨⟨6, by omega, by simp, M8, P8⟩, by simp only [intOf]; omega⟩
      · have g6 : decide (k = 5) = false := by simp [hk5]
        have g7 : ((k : Int) == 5) = false := by simp; omega
        rw [g6]
        go_wp2
        exact ⟨⟨k + 1, by omega, by simp, M8, P8⟩, by simp only [intOf]; omega⟩
end Go.Proofs.Ytoaicedkepcalaa
