/-
  What HelpOnce answers: true, of whatever words and turns; nothing that lay is turned. No conditions but those of its arguments.
-/
import Derived.Test.YtejdgdpiddngiaaKnLaw
import Derived.Test.YtejdgdpiddngiaaOnceP
namespace Go.Proofs.Ytejdgdpiddngiaa
open Go.RowKit
set_option maxRecDepth 100000

/-- A memory and three frames, all made since w. -/
structure TF (w W : World) (b : Nat) (s : Mst) (f : Nat → Nat) (p : Nat → Hp) : Prop where
  mem : ∃ v, PMem W w.heap.size b v s ∧ ∀ j, j < 3 → ¬ Foot b v (f j)
  frame : ∀ j, j < 3 → HpAt W (f j) (p j)
  new : ∀ j, j < 3 → w.heap.size ≤ f j
  apart : ∀ i j, i < 3 → j < 3 → f i = f j → i = j
  kept : Kept w W
theorem TF.now {w W : World} {b : Nat} {s : Mst} {f : Nat → Nat} {p : Nat → Hp} (h : TF w W b s f p) : Now w W b s := by
  obtain ⟨⟨v, h1, _⟩, _, _, _, hk⟩ := h
  exact ⟨⟨v, h1⟩, hk⟩
def upd (p : Nat → Hp) (j : Nat) (q : Hp) : Nat → Hp := fun i => if i = j then q else p i
theorem tf_step (w W : World) (b : Nat) (s : Mst) (f : Nat → Nat) (p : Nat → Hp) (h : TF w W b s f p) (j : Nat) (hj : j < 3) (hok : (p j).Ok) (ho : ∀ a, I64 (s.look a)) (p' : Hp) (s' : Mst) (r : Bool) (e1 : (p j).step s = (p', s')) (e2 : (p'.n == 7) = r) :
    Calls Try.prog 12 #[.pointer (some ⟨f j, 0, none⟩), .pointer (some ⟨b, 0, none⟩)] W fun e W' => e = .returned (.bool r) ∧ TF w W' b s' f (upd p j p') ∧ ∃ v, (∃ m, PMem W w.heap.size b v m) ∧ Turned (fun k => k = f j ∨ Foot b v k) W W' := by
  obtain ⟨⟨v, hm, hf⟩, hp, hn, ha, hk⟩ := h
  refine (hp_step W _ b v (f j) (p j) s (hp j hj) hm hok ho (hf j hj) p' s' r e1 e2).mono ?_
  rintro e W' ⟨rfl, R⟩
  refine ⟨rfl, ⟨⟨v, R.mem, hf⟩, fun i hi => ?_, hn, ha, hk.own (fun i hi => hi.elim (fun e => e ▸ hn j hj) (fun e => (hm.lt i e).1)) R.turned⟩, v, ⟨_, hm⟩, R.turned⟩
  unfold upd
  by_cases hij : i = j
  · rw [if_pos hij, hij]; exact R.frame
  · rw [if_neg hij]
    exact (hp i hi).turned R.turned (fun e => e.elim (fun e => hij (ha i j hi hj e)) (fun e => hf i hi e))
/-- One's memory is written to, by no frame. -/
theorem tf_write (w W : World) (b : Nat) (s : Mst) (f : Nat → Nat) (p : Nat → Hp) (h : TF w W b s f p) (a x : Int) (s' : Mst) (e1 : s.write a x = s') :
    Calls Try.prog 9 #[.pointer (some ⟨b, 0, none⟩), .int .i64 a, .int .i64 x] W fun e W' => e = .returned (.tuple #[]) ∧ TF w W' b s' f p ∧ ∃ v, (∃ m, PMem W w.heap.size b v m) ∧ Turned (Foot b v) W W' := by
  obtain ⟨⟨v, hm, hf⟩, hp, hn, ha, hk⟩ := h
  subst e1
  refine (write_p W _ b v s a x hm).mono ?_
  rintro e W' ⟨rfl, h2, h3⟩
  exact ⟨rfl, ⟨⟨v, h2, hf⟩, fun i hi => (hp i hi).turned h3 (hf i hi), hn, ha, hk.own (fun i hi => (hm.lt i hi).1) h3⟩, v, ⟨_, hm⟩, h3⟩
theorem Row.typed {W : World} {n₀ : Nat} {v : Value} {xs : List Int} (h : Row W n₀ 2 v xs) : ∀ g, v.ownBlock = some g → ∃ c, W.heap[g]? = some (.cells c 2) := by
  intro g e
  rcases h.2 with ⟨rfl, _⟩ | ⟨g', cap, cur, rfl, hg, hh, _⟩
  · simp [Value.ownBlock] at e
  · simp [Value.ownBlock] at e
    subst e
    exact ⟨_, hh⟩
/-- The frames' row lies there. -/
def RowAt (W : World) (y : Nat) (f : Nat → Nat) : Prop := W.heap[y]? = some (.cells #[.pointer (some ⟨f 0, 0, none⟩), .pointer (some ⟨f 1, 0, none⟩), .pointer (some ⟨f 2, 0, none⟩)] 41)
theorem RowAt.at {W : World} {y : Nat} {f : Nat → Nat} (h : RowAt W y f) (j : Nat) (hj : j < 3) : W.cell? ⟨y, j, none⟩ = some (.pointer (some ⟨f j, 0, none⟩)) := by
  have hb : W.heap[y]? = _ := h
  obtain rfl | rfl | rfl : j = 0 ∨ j = 1 ∨ j = 2 := by omega
  all_goals simp [World.cell?, hb]
theorem RowAt.step {w W W' : World} {y b : Nat} {s : Mst} {f : Nat → Nat} {p : Nat → Hp} {v : Value} (h : RowAt W y f) (hT : TF w W b s f p) {j : Nat} (hj : j < 3) (hm : ∃ m, PMem W w.heap.size b v m) (t : Turned (fun k => k = f j ∨ Foot b v k) W W') : RowAt W' y f := by
  have hb : W.heap[y]? = _ := h
  refine t.heap hb (fun e => ?_)
  rcases e with e | e
  · have := hT.frame j hj
    rw [← e] at this
    have h2 : W.heap[y]? = _ := this
    rw [hb] at h2
    simp at h2
  · obtain ⟨m, hm⟩ := hm
    rcases e with e | e
    · have h2 := hm.box
      rw [← e, hb] at h2
      simp at h2
    · obtain ⟨c, hc⟩ := hm.row.typed y e
      rw [hb] at hc
      simp at hc
theorem i64_of {z : Int} (h : (Lit.int .i64 z).wf = true) : I64 z := bounds_i64 h
theorem kd69 {z : Int} (h : kd z ≠ 5) : z ≠ 69 := by
  rintro rfl
  exact h (by decide)
theorem kd_q (w : World) (a k : Int) (h : I64 a) (e1 : kd a = k) : Calls Try.prog 15 #[.int .i64 a] w fun e w' => e = .returned (.int .i64 k) ∧ w = w' := by
  subst e1
  refine (Rf.kind_c a h.wf w).mono ?_
  rintro e w' ⟨rfl, rfl⟩
  exact ⟨rfl, rfl⟩
/-- What is true at each round. -/
structure Gd (w wr : World) (old x : Int) (gd : Bool) (b y : Nat) (f : Nat → Nat) (g : Int) (p : Nat → Hp) (s o c out word : Int) (ended : Bool) : Prop where
  tf : TF w wr b (onceM old x g s o c) f p
  row : RowAt wr y f
  inv : OInv old x gd g s o
  fr : ∀ j, j < 3 → FInv old x gd s o (p j)
  en : ended = true → out = o ∧ word = s ∧ o ≠ 0 ∧ s ≠ 69
theorem once_write (old x g s o c : Int) : (onceM old x g s o c).write 3 1 = onceM old x 1 s o (wrap64 (c + 1)) := by
  simp [Mst.write, Mst.touch, Mst.put, Mst.used, onceM]
theorem once_look12 (old x g s o c : Int) : (onceM old x g s o c).look 12 = o := by simp [Mst.look, Mst.used, onceM]
theorem once_look6 (old x g s o c : Int) : (onceM old x g s o c).look 6 = s := by simp [Mst.look, Mst.used, onceM]
/-- A step of the frame j, as the law's round meets it. -/
structure Stp (w wr W' : World) (old x : Int) (gd : Bool) (b y : Nat) (f : Nat → Nat) (g : Int) (p' : Nat → Hp) (s o s' o' c' : Int) (r : Bool) : Prop where
  tf : TF w W' b (onceM old x g s' o' c') f p'
  row : RowAt W' y f
  inv : OInv old x gd g s' o'
  fr : ∀ j, j < 3 → FInv old x gd s' o' (p' j)
  o1 : o ≠ 0 → o' = o
  s1 : s ≠ 69 → s' = s
  en : r = true → o' ≠ 0 ∧ s' = finZ old x o'
theorem gd_step {w wr : World} {old x : Int} {gd : Bool} {b y : Nat} {f : Nat → Nat} {g : Int} {p : Nat → Hp} {s o c out word : Int} {ended : Bool} (n1 : old ≠ 69) (n2 : x ≠ 69) (i1 : I64 old) (i2 : I64 x) (h : Gd w wr old x gd b y f g p s o c out word ended) (j : Nat) (hj : j < 3) :
    Calls Try.prog 12 #[.pointer (some ⟨f j, 0, none⟩), .pointer (some ⟨b, 0, none⟩)] wr fun e W' => ∃ r p' s' o' c', e = .returned (.bool r) ∧ Stp w wr W' old x gd b y f g p' s o s' o' c' r := by
  obtain ⟨q, s', o', c', e1, O⟩ := once_step (c := c) n1 n2 h.inv (h.fr j hj)
  refine (tf_step w wr b _ f p h.tf j hj (h.fr j hj).ok (once_i64 h.inv i1 i2) q _ (q.n == 7) e1 rfl).mono ?_
  rintro e W' ⟨rfl, T, v, hm, t⟩
  refine ⟨_, _, s', o', c', rfl, T, h.row.step h.tf hj hm t, O.inv, fun i hi => ?_, O.ok, O.sk, fun e => O.ended (by simpa using e)⟩
  unfold upd
  by_cases hij : i = j
  · rw [if_pos hij]; exact O.frame
  · rw [if_neg hij]; exact O.others _ (h.fr i hi)
theorem finZ_ne {old x o : Int} (n1 : old ≠ 69) (n2 : x ≠ 69) : finZ old x o ≠ 69 := by unfold finZ; split <;> assumption
def ko : Mst := ⟨[1, 0, 0, 0, 0, 57, 0], 40, 2, 0, 0⟩
theorem ko_is : begun (Mst.new 40) = ko := by kernel_rfl

set_option maxHeartbeats 8000000 in
theorem helpOnce_c (w : World) (old x : Int) (gd : Bool) (a0 : Option Addr) (zs : List Int) (cap : Nat) (hr : Reads w a0 zs) (hc : zs.length ≤ cap) (hm : cap ≤ maxLen) (i1 : I64 old) (i2 : I64 x) :
    Calls Try.prog 4 #[.int .i64 old, .int .i64 x, .bool gd, .slice a0 zs.length cap] w fun e w' => e = .returned (.bool true) ∧ Kept w w' := by
  have hlm : (zs.length : Int) ≤ 9223372036854775807 := by unfold maxLen at hm; omega
  obtain ⟨k1, hk1⟩ : ∃ k, kd old = k := ⟨_, rfl⟩
  obtain ⟨k2, hk2⟩ : ∃ k, kd x = k := ⟨_, rfl⟩
  have HR := hide hr
  have HK1 := hide hk1
  have HK2 := hide hk2
  have I1 := hide i1
  have I2 := hide i2
  have HC := hide hc
  clear hr hk1 hk2 i1 i2 hc hm
  by_cases h5 : k1 = 5
  · subst h5
    go_enter Try.func4, Try.ntmps4
    go_wp2_with (fail)
    refine (now_new w w 40 (Kept.refl w) (by decide) (by decide)).mono ?_
    rintro e W1 ⟨rfl, h1, -⟩
    have H1 := hide h1
    obtain ⟨b, hb⟩ : ∃ b, w.heap.size = b := ⟨_, rfl⟩
    rw [hb] at H1
    clear h1
    rw [hb]
    clear hb
    go_wp2_with (fail)
    refine (begin_c w W1 _ _ H1.out rfl (by decide)).mono ?_
    rintro e W2 ⟨rfl, h2⟩
    have H2 := hide h2
    rw [ko_is] at H2
    clear h2 H1
    go_wp2_with (fail)
    refine (kd_q W2 old _ I1.out HK1.out).mono ?_
    rintro e w' ⟨rfl, rfl⟩
    go_wp2_with (fail)
    refine (known_c W2).mono ?_
    rintro e W3 ⟨rfl, k3⟩
    have K3 := hide (H2.out.2.trans k3)
    clear k3
    go_wp2
    go_ret
    exact ⟨rfl, K3.out⟩
  by_cases h6 : k2 = 5
  · subst h6
    have g1 : (k1 == 5) = false := by simp [h5]
    go_enter Try.func4, Try.ntmps4
    go_wp2_with (fail)
    refine (now_new w w 40 (Kept.refl w) (by decide) (by decide)).mono ?_
    rintro e W1 ⟨rfl, h1, -⟩
    have H1 := hide h1
    obtain ⟨b, hb⟩ : ∃ b, w.heap.size = b := ⟨_, rfl⟩
    rw [hb] at H1
    clear h1
    rw [hb]
    clear hb
    go_wp2_with (fail)
    refine (begin_c w W1 _ _ H1.out rfl (by decide)).mono ?_
    rintro e W2 ⟨rfl, h2⟩
    have H2 := hide h2
    rw [ko_is] at H2
    clear h2 H1
    go_wp2_with (fail)
    refine (kd_q W2 old _ I1.out HK1.out).mono ?_
    rintro e w' ⟨rfl, rfl⟩
    go_wp2_with (fail)
    refine (kd_q W2 x _ I2.out HK2.out).mono ?_
    rintro e w' ⟨rfl, rfl⟩
    go_wp2_with (fail)
    refine (known_c W2).mono ?_
    rintro e W3 ⟨rfl, k3⟩
    have K3 := hide (H2.out.2.trans k3)
    clear k3
    go_wp2
    go_ret
    exact ⟨rfl, K3.out⟩
  have N1 : Hid (old ≠ 69) := hide (kd69 (by rw [HK1.out]; exact h5))
  have N2 : Hid (x ≠ 69) := hide (kd69 (by rw [HK2.out]; exact h6))
  have g1 : (k1 == 5) = false := by simp [h5]
  have g2 : (k2 == 5) = false := by simp [h6]
  clear h5 h6
  cases gd
  · go_enter Try.func4, Try.ntmps4
    go_wp2_with (fail)
    refine (now_new w w 40 (Kept.refl w) (by decide) (by decide)).mono ?_
    rintro e W1 ⟨rfl, h1, -⟩
    have H1 := hide h1
    obtain ⟨b, hb⟩ : ∃ b, w.heap.size = b := ⟨_, rfl⟩
    rw [hb] at H1
    clear h1
    rw [hb]
    clear hb
    go_wp2_with (fail)
    refine (begin_c w W1 _ _ H1.out rfl (by decide)).mono ?_
    rintro e W2 ⟨rfl, h2⟩
    have H2 := hide h2
    rw [ko_is] at H2
    clear h2 H1
    go_wp2_with (fail)
    refine (kd_q W2 old _ I1.out HK1.out).mono ?_
    rintro e w' ⟨rfl, rfl⟩
    go_wp2_with (fail)
    refine (kd_q W2 x _ I2.out HK2.out).mono ?_
    rintro e w' ⟨rfl, rfl⟩
    go_wp2_with (fail)
    refine (now_write w W2 b _ 6 old ⟨[1, 0, 0, 0, 0, old, 0], 40, 3, 0, 0⟩ H2.out (by simp [Mst.write, Mst.touch, Mst.put, Mst.used, ko, wrap64])).mono ?_
    rintro e W3 ⟨rfl, h3⟩
    have H3 := hide h3
    clear h3 H2 g1 g2
    rename World => W4
    have H4 := H3
    clear H3
    go_wp2_with (fail)
    refine (dcss_c W4 3 6 old x).mono ?_
    intro e W5 hF
    obtain ⟨fa, fc, rfl, hr, hc1, hc2, hn, _, hk⟩ := hF.form
    have H5 := hide (H4.out.on hk)
    have HRD := hide hr
    have HNB : Hid (∀ ad, fa = some ad → ad.block ≠ b) := hide (fun ad e => by have := hn ad e; have := H4.out.lt.2; omega)
    clear hF hr hc1 hc2 hn hk H4
    go_wp2_with (fail)
    refine (now_make w W5 b _ fa [3, 6, old, x, 0] fc 8 true (onceM old x 0 old 0 4) H5.out HRD.out (by unfold maxLen; simp) (fun _ => HNB.out) (by simp [Mst.next, Mst.fits]) (by simp [Mst.fits]) (by simp [Mst.make, Mst.fits, onceM, wrap64])).mono ?_
    rintro e W6 ⟨rfl, h6⟩
    have H6 := hide h6
    clear h6 H5 HRD HNB
    go_wp2_with (fail)
    refine (of_q W6 5 8 69 (by decide)).mono ?_
    rintro e w' ⟨rfl, rfl⟩
    go_wp2_with (fail)
    refine (now_cas w W6 b _ 6 old 69 true (onceM old x 0 69 0 5) H6.out (by simp [Mst.did, Mst.look, Mst.used, onceM]) (by simp [Mst.cas, Mst.did, Mst.look, Mst.write, Mst.touch, Mst.put, Mst.used, onceM, wrap64])).mono ?_
    rintro e W7 ⟨rfl, h7⟩
    have H7 := hide h7
    clear h7 H6
    go_wp2_with (fail)
    refine (hp_new W7 8).mono ?_
    rintro e V0 ⟨rfl, p0, q0⟩
    obtain ⟨f0, hf0⟩ : ∃ f, W7.heap.size = f := ⟨_, rfl⟩
    rw [hf0] at p0
    rw [hf0]
    have P0 := hide p0
    have Q0 := hide q0
    clear p0 q0
    go_wp2_with (fail)
    refine (hp_new V0 8).mono ?_
    rintro e V1 ⟨rfl, p1, q1⟩
    obtain ⟨f1, hf1⟩ : ∃ f, V0.heap.size = f := ⟨_, rfl⟩
    rw [hf1] at p1
    rw [hf1]
    have P1 := hide p1
    have Q1 := hide q1
    clear p1 q1
    go_wp2_with (fail)
    refine (hp_new V1 8).mono ?_
    rintro e V2 ⟨rfl, p2, q2⟩
    obtain ⟨f2, hf2⟩ : ∃ f, V1.heap.size = f := ⟨_, rfl⟩
    rw [hf2] at p2
    rw [hf2]
    obtain ⟨y, hy⟩ : ∃ y, V2.heap.size = y := ⟨_, rfl⟩
    have G0 : Hid (Gd w (V2.alloc (.cells #[.pointer (some ⟨f0, 0, none⟩), .pointer (some ⟨f1, 0, none⟩), .pointer (some ⟨f2, 0, none⟩)] 41)) old x false b y (fun j => if j = 0 then f0 else if j = 1 then f1 else f2) 0 (fun _ => Hp.new 8) 69 0 5 0 0 false) := hide (by
      have a0 := H7.out.lt
      have a1 := P0.out.lt
      have a2 := P1.out.lt
      have kA : Kept V2 (V2.alloc (.cells #[.pointer (some ⟨f0, 0, none⟩), .pointer (some ⟨f1, 0, none⟩), .pointer (some ⟨f2, 0, none⟩)] 41)) := Turned.alloc _ _ _
      have r0 := ((P0.out.kept Q1.out).kept q2).kept kA
      have r1 := (P1.out.kept q2).kept kA
      have r2 := p2.kept kA
      obtain ⟨⟨v, hM⟩, hKw⟩ := H7.out
      have k7 : Kept W7 (V2.alloc (.cells #[.pointer (some ⟨f0, 0, none⟩), .pointer (some ⟨f1, 0, none⟩), .pointer (some ⟨f2, 0, none⟩)] 41)) := ((Q0.out.trans Q1.out).trans q2).trans kA
      have lf : ∀ k, Foot b v k → k < f0 := fun k e => by have := (hM.lt k e).2; omega
      refine ⟨⟨⟨v, hM.kept k7, fun j hj e => ?_⟩, fun j hj => ?_, fun j hj => ?_, fun i j hi hj e => ?_, hKw.trans k7⟩, ?_, ⟨.inl rfl, .inl rfl, fun e => ?_, .inl rfl⟩, fun j hj => ⟨by decide, rfl, fun e => by simp [Hp.new] at e, fun e => by simp [Hp.new] at e, fun e => by simp [Hp.new] at e, fun e => by simp [Hp.new] at e, by decide, fun e => by simp [Hp.new] at e, fun e => by simp [Hp.new] at e, fun e => by simp [Hp.new] at e⟩, fun e => by cases e⟩
      · have := lf _ e
        obtain rfl | rfl | rfl : j = 0 ∨ j = 1 ∨ j = 2 := by omega
        all_goals simp at this
        all_goals omega
      · obtain rfl | rfl | rfl : j = 0 ∨ j = 1 ∨ j = 2 := by omega
        · exact r0
        · exact r1
        · exact r2
      · have := hKw.size
        obtain rfl | rfl | rfl : j = 0 ∨ j = 1 ∨ j = 2 := by omega
        all_goals simp
        all_goals omega
      · obtain rfl | rfl | rfl : i = 0 ∨ i = 1 ∨ i = 2 := by omega
        all_goals obtain rfl | rfl | rfl : j = 0 ∨ j = 1 ∨ j = 2 := by omega
        all_goals simp at e
        all_goals omega
      · rw [← hy]; exact heap_new _ _
      · cases e)
    clear P0 P1 Q0 Q1 H7 p2 q2 hf0 hf1 hf2
    obtain ⟨f, hf⟩ : ∃ f : Nat → Nat, (fun j => if j = 0 then f0 else if j = 1 then f1 else f2) = f := ⟨_, rfl⟩
    rw [hf] at G0
    clear hf
    go_wp2_with (fail)
    clear hy
    rename World => VV
    go_loopw [14, 15, 16, 17, 18, 19] (fun vo vw ve vi _ _ wr => ∃ (i : Nat) (g : Int) (p : Nat → Hp) (s o c out word : Int) (ended : Bool), vo = .int .i64 out ∧ vw = .int .i64 word ∧ ve = .bool ended ∧ vi = .int .i64 (i : Int) ∧ i ≤ zs.length ∧ i ≤ 60 ∧ Hid (Gd w wr old x false b y f g p s o c out word ended)) (fun _ _ _ vi _ _ _ => (60 - intOf vi).toNat)
    case atStart => exact ⟨0, _, _, _, _, _, _, _, _, rfl, rfl, rfl, rfl, by omega, by omega, G0⟩
    case round =>
      obtain ⟨i, g, p, s, o, c, out, word, ended, rfl, rfl, rfl, rfl, hi, hi6, G⟩ := hrel
      clear G0
      by_cases hlt : i < zs.length
      · have j1 : (i : Int) < (zs.length : Int) := by omega
        by_cases h60 : i < 60
        · have j2 : (i : Int) < 60 := by omega
          obtain ⟨z, hz⟩ : ∃ z, zs[i]? = some z := ⟨_, List.getElem?_eq_getElem hlt⟩
          obtain ⟨bl, off, rfl, hbl, hcell0⟩ := HR.out.at hz
          have hcell := G.out.tf.kept.cell hcell0 id
          have j3 : i < cap := by have := HC.out; omega
          obtain ⟨k, hk⟩ : ∃ k, z % 4 = k := ⟨_, rfl⟩
          have CK : ∀ X, Calls Try.prog 18 #[.int .i64 z, .int .i64 4] X fun e X' => e = .returned (.int .i64 k) ∧ X = X' := fun X => hk ▸ cut_g X z 4 (by decide) (by decide)
          have k0 : k = 0 ∨ k = 1 ∨ k = 2 ∨ k = 3 := by omega
          clear hz hk hcell0 hbl hi hi6
          go_wp2_with (fail)
          refine (CK _).mono ?_
          rintro e w' ⟨rfl, rfl⟩
          clear CK hcell
          obtain rfl | rfl | rfl | rfl := k0
          · have cj := G.out.row.at 0 (by decide)
            go_wp2_with (fail)
            refine (gd_step N1.out N2.out I1.out I2.out G.out 0 (by decide)).mono ?_
            rintro e X ⟨r, p', s', o', c', rfl, st⟩
            have ST := hide st
            clear st cj
            have C12 : ∀ d, o' = d → Calls Try.prog 13 #[.pointer (some ⟨b, 0, none⟩), .int .i64 12] X fun e X' => e = .returned (.int .i64 d) ∧ X = X' := fun d hd => now_look w X b _ 12 d ST.out.tf.now (by rw [once_look12, hd])
            have C6 : ∀ d, s' = d → Calls Try.prog 13 #[.pointer (some ⟨b, 0, none⟩), .int .i64 6] X fun e X' => e = .returned (.int .i64 d) ∧ X = X' := fun d hd => now_look w X b _ 6 d ST.out.tf.now (by rw [once_look6, hd])
            cases ended
            · cases r
              · have GN : Hid (Gd w X old x false b y f g p' s' o' c' out word false) := hide ⟨ST.out.tf, ST.out.row, ST.out.inv, ST.out.fr, fun e => by cases e⟩
                go_wp2
                exact ⟨⟨i + 1, _, _, _, _, _, _, _, _, rfl, rfl, rfl, by simp, by omega, by omega, GN⟩, by simp only [intOf]; omega⟩
              · obtain ⟨n0, hs⟩ := ST.out.en rfl
                have hs69 : s' ≠ 69 := by rw [hs]; exact finZ_ne N1.out N2.out
                have GN : Hid (Gd w X old x false b y f g p' s' o' c' o' s' true) := hide ⟨ST.out.tf, ST.out.row, ST.out.inv, ST.out.fr, fun _ => ⟨rfl, rfl, n0, hs69⟩⟩
                obtain rfl | rfl : o' = 1 ∨ o' = 2 := by rcases ST.out.inv.oo with h | h | h; exact absurd h n0; exact .inl h; exact .inr h
                · obtain rfl : s' = x := by rw [hs]; rfl
                  clear hs
                  go_wp2_with (fail)
                  refine (C12 1 rfl).mono ?_
                  rintro e w' ⟨rfl, rfl⟩
                  go_wp2_with (fail)
                  refine (C6 _ rfl).mono ?_
                  rintro e w' ⟨rfl, rfl⟩
                  go_wp2
                  exact ⟨⟨i + 1, _, _, _, _, _, _, _, _, rfl, rfl, rfl, by simp, by omega, by omega, GN⟩, by simp only [intOf]; omega⟩
                · obtain rfl : s' = old := by rw [hs]; rfl
                  clear hs
                  go_wp2_with (fail)
                  refine (C12 2 rfl).mono ?_
                  rintro e w' ⟨rfl, rfl⟩
                  go_wp2_with (fail)
                  refine (C6 _ rfl).mono ?_
                  rintro e w' ⟨rfl, rfl⟩
                  go_wp2
                  exact ⟨⟨i + 1, _, _, _, _, _, _, _, _, rfl, rfl, rfl, by simp, by omega, by omega, GN⟩, by simp only [intOf]; omega⟩
            · obtain ⟨rfl, rfl, n0, n69⟩ := G.out.en rfl
              obtain rfl := ST.out.o1 n0
              obtain rfl := ST.out.s1 n69
              have GN : Hid (Gd w X old x false b y f g p' _ _ c' _ _ true) := hide ⟨ST.out.tf, ST.out.row, ST.out.inv, ST.out.fr, fun _ => ⟨rfl, rfl, n0, n69⟩⟩
              clear n0 n69
              cases r
              all_goals
                go_wp2_with (fail)
                refine (C12 _ rfl).mono ?_
                rintro e w' ⟨rfl, rfl⟩
                go_wp2_with (fail)
                refine (C6 _ rfl).mono ?_
                rintro e w' ⟨rfl, rfl⟩
                go_wp2
                exact ⟨⟨i + 1, _, _, _, _, _, _, _, _, rfl, rfl, rfl, by simp, by omega, by omega, GN⟩, by simp only [intOf]; omega⟩
          · have cj := G.out.row.at 1 (by decide)
            go_wp2_with (fail)
            refine (gd_step N1.out N2.out I1.out I2.out G.out 1 (by decide)).mono ?_
            rintro e X ⟨r, p', s', o', c', rfl, st⟩
            have ST := hide st
            clear st cj
            have C12 : ∀ d, o' = d → Calls Try.prog 13 #[.pointer (some ⟨b, 0, none⟩), .int .i64 12] X fun e X' => e = .returned (.int .i64 d) ∧ X = X' := fun d hd => now_look w X b _ 12 d ST.out.tf.now (by rw [once_look12, hd])
            have C6 : ∀ d, s' = d → Calls Try.prog 13 #[.pointer (some ⟨b, 0, none⟩), .int .i64 6] X fun e X' => e = .returned (.int .i64 d) ∧ X = X' := fun d hd => now_look w X b _ 6 d ST.out.tf.now (by rw [once_look6, hd])
            cases ended
            · cases r
              · have GN : Hid (Gd w X old x false b y f g p' s' o' c' out word false) := hide ⟨ST.out.tf, ST.out.row, ST.out.inv, ST.out.fr, fun e => by cases e⟩
                go_wp2
                exact ⟨⟨i + 1, _, _, _, _, _, _, _, _, rfl, rfl, rfl, by simp, by omega, by omega, GN⟩, by simp only [intOf]; omega⟩
              · obtain ⟨n0, hs⟩ := ST.out.en rfl
                have hs69 : s' ≠ 69 := by rw [hs]; exact finZ_ne N1.out N2.out
                have GN : Hid (Gd w X old x false b y f g p' s' o' c' o' s' true) := hide ⟨ST.out.tf, ST.out.row, ST.out.inv, ST.out.fr, fun _ => ⟨rfl, rfl, n0, hs69⟩⟩
                obtain rfl | rfl : o' = 1 ∨ o' = 2 := by rcases ST.out.inv.oo with h | h | h; exact absurd h n0; exact .inl h; exact .inr h
                · obtain rfl : s' = x := by rw [hs]; rfl
                  clear hs
                  go_wp2_with (fail)
                  refine (C12 1 rfl).mono ?_
                  rintro e w' ⟨rfl, rfl⟩
                  go_wp2_with (fail)
                  refine (C6 _ rfl).mono ?_
                  rintro e w' ⟨rfl, rfl⟩
                  go_wp2
                  exact ⟨⟨i + 1, _, _, _, _, _, _, _, _, rfl, rfl, rfl, by simp, by omega, by omega, GN⟩, by simp only [intOf]; omega⟩
                · obtain rfl : s' = old := by rw [hs]; rfl
                  clear hs
                  go_wp2_with (fail)
                  refine (C12 2 rfl).mono ?_
                  rintro e w' ⟨rfl, rfl⟩
                  go_wp2_with (fail)
                  refine (C6 _ rfl).mono ?_
                  rintro e w' ⟨rfl, rfl⟩
                  go_wp2
                  exact ⟨⟨i + 1, _, _, _, _, _, _, _, _, rfl, rfl, rfl, by simp, by omega, by omega, GN⟩, by simp only [intOf]; omega⟩
            · obtain ⟨rfl, rfl, n0, n69⟩ := G.out.en rfl
              obtain rfl := ST.out.o1 n0
              obtain rfl := ST.out.s1 n69
              have GN : Hid (Gd w X old x false b y f g p' _ _ c' _ _ true) := hide ⟨ST.out.tf, ST.out.row, ST.out.inv, ST.out.fr, fun _ => ⟨rfl, rfl, n0, n69⟩⟩
              clear n0 n69
              cases r
              all_goals
                go_wp2_with (fail)
                refine (C12 _ rfl).mono ?_
                rintro e w' ⟨rfl, rfl⟩
                go_wp2_with (fail)
                refine (C6 _ rfl).mono ?_
                rintro e w' ⟨rfl, rfl⟩
                go_wp2
                exact ⟨⟨i + 1, _, _, _, _, _, _, _, _, rfl, rfl, rfl, by simp, by omega, by omega, GN⟩, by simp only [intOf]; omega⟩
          · have cj := G.out.row.at 2 (by decide)
            go_wp2_with (fail)
            refine (gd_step N1.out N2.out I1.out I2.out G.out 2 (by decide)).mono ?_
            rintro e X ⟨r, p', s', o', c', rfl, st⟩
            have ST := hide st
            clear st cj
            have C12 : ∀ d, o' = d → Calls Try.prog 13 #[.pointer (some ⟨b, 0, none⟩), .int .i64 12] X fun e X' => e = .returned (.int .i64 d) ∧ X = X' := fun d hd => now_look w X b _ 12 d ST.out.tf.now (by rw [once_look12, hd])
            have C6 : ∀ d, s' = d → Calls Try.prog 13 #[.pointer (some ⟨b, 0, none⟩), .int .i64 6] X fun e X' => e = .returned (.int .i64 d) ∧ X = X' := fun d hd => now_look w X b _ 6 d ST.out.tf.now (by rw [once_look6, hd])
            cases ended
            · cases r
              · have GN : Hid (Gd w X old x false b y f g p' s' o' c' out word false) := hide ⟨ST.out.tf, ST.out.row, ST.out.inv, ST.out.fr, fun e => by cases e⟩
                go_wp2
                exact ⟨⟨i + 1, _, _, _, _, _, _, _, _, rfl, rfl, rfl, by simp, by omega, by omega, GN⟩, by simp only [intOf]; omega⟩
              · obtain ⟨n0, hs⟩ := ST.out.en rfl
                have hs69 : s' ≠ 69 := by rw [hs]; exact finZ_ne N1.out N2.out
                have GN : Hid (Gd w X old x false b y f g p' s' o' c' o' s' true) := hide ⟨ST.out.tf, ST.out.row, ST.out.inv, ST.out.fr, fun _ => ⟨rfl, rfl, n0, hs69⟩⟩
                obtain rfl | rfl : o' = 1 ∨ o' = 2 := by rcases ST.out.inv.oo with h | h | h; exact absurd h n0; exact .inl h; exact .inr h
                · obtain rfl : s' = x := by rw [hs]; rfl
                  clear hs
                  go_wp2_with (fail)
                  refine (C12 1 rfl).mono ?_
                  rintro e w' ⟨rfl, rfl⟩
                  go_wp2_with (fail)
                  refine (C6 _ rfl).mono ?_
                  rintro e w' ⟨rfl, rfl⟩
                  go_wp2
                  exact ⟨⟨i + 1, _, _, _, _, _, _, _, _, rfl, rfl, rfl, by simp, by omega, by omega, GN⟩, by simp only [intOf]; omega⟩
                · obtain rfl : s' = old := by rw [hs]; rfl
                  clear hs
                  go_wp2_with (fail)
                  refine (C12 2 rfl).mono ?_
                  rintro e w' ⟨rfl, rfl⟩
                  go_wp2_with (fail)
                  refine (C6 _ rfl).mono ?_
                  rintro e w' ⟨rfl, rfl⟩
                  go_wp2
                  exact ⟨⟨i + 1, _, _, _, _, _, _, _, _, rfl, rfl, rfl, by simp, by omega, by omega, GN⟩, by simp only [intOf]; omega⟩
            · obtain ⟨rfl, rfl, n0, n69⟩ := G.out.en rfl
              obtain rfl := ST.out.o1 n0
              obtain rfl := ST.out.s1 n69
              have GN : Hid (Gd w X old x false b y f g p' _ _ c' _ _ true) := hide ⟨ST.out.tf, ST.out.row, ST.out.inv, ST.out.fr, fun _ => ⟨rfl, rfl, n0, n69⟩⟩
              clear n0 n69
              cases r
              all_goals
                go_wp2_with (fail)
                refine (C12 _ rfl).mono ?_
                rintro e w' ⟨rfl, rfl⟩
                go_wp2_with (fail)
                refine (C6 _ rfl).mono ?_
                rintro e w' ⟨rfl, rfl⟩
                go_wp2
                exact ⟨⟨i + 1, _, _, _, _, _, _, _, _, rfl, rfl, rfl, by simp, by omega, by omega, GN⟩, by simp only [intOf]; omega⟩
          · cases ended
            · go_wp2_with (fail)
              refine (tf_write w wr b _ f p G.out.tf 3 1 _ (once_write _ _ _ _ _ _)).mono ?_
              rintro e X ⟨rfl, T, v, hm, t⟩
              have GN : Hid (Gd w X old x false b y f 1 p s o (wrap64 (c + 1)) out word false) := hide ⟨T, G.out.row.step G.out.tf (j := 0) (by decide) hm (t.mono fun _ _ e => .inr e), ⟨G.out.inv.oo, G.out.inv.ss, fun e => ⟨by decide, (G.out.inv.gg e).2⟩, .inr rfl⟩, G.out.fr, fun e => by cases e⟩
              clear T hm t
              go_wp2
              exact ⟨⟨i + 1, _, _, _, _, _, _, _, _, rfl, rfl, rfl, by simp, by omega, by omega, GN⟩, by simp only [intOf]; omega⟩
            · go_wp2
              exact ⟨⟨i + 1, _, _, _, _, _, _, _, _, rfl, rfl, rfl, by simp, by omega, by omega, G⟩, by simp only [intOf]; omega⟩
        · have j2 : ¬ ((i : Int) < 60) := by omega
          clear hi hi6 h60
          go_wp2_with (fail)
          refine (known_c wr).mono ?_
          rintro e X ⟨rfl, kX⟩
          have HX := hide (G.out.tf.now.on kX)
          clear kX
          go_wp2_with (fail)
          refine (now_odd w X b _ 0 HX.out rfl).mono ?_
          rintro e w' ⟨rfl, rfl⟩
          go_wp2
          go_ret
          exact ⟨rfl, HX.out.2⟩
      · have j1 : ¬ ((i : Int) < (zs.length : Int)) := by omega
        clear hi hi6 hlt
        go_wp2_with (fail)
        refine (known_c wr).mono ?_
        rintro e X ⟨rfl, kX⟩
        have HX := hide (G.out.tf.now.on kX)
        clear kX
        go_wp2_with (fail)
        refine (now_odd w X b _ 0 HX.out rfl).mono ?_
        rintro e w' ⟨rfl, rfl⟩
        go_wp2
        go_ret
        exact ⟨rfl, HX.out.2⟩
  · go_enter Try.func4, Try.ntmps4
    go_wp2_with (fail)
    refine (now_new w w 40 (Kept.refl w) (by decide) (by decide)).mono ?_
    rintro e W1 ⟨rfl, h1, -⟩
    have H1 := hide h1
    obtain ⟨b, hb⟩ : ∃ b, w.heap.size = b := ⟨_, rfl⟩
    rw [hb] at H1
    clear h1
    rw [hb]
    clear hb
    go_wp2_with (fail)
    refine (begin_c w W1 _ _ H1.out rfl (by decide)).mono ?_
    rintro e W2 ⟨rfl, h2⟩
    have H2 := hide h2
    rw [ko_is] at H2
    clear h2 H1
    go_wp2_with (fail)
    refine (kd_q W2 old _ I1.out HK1.out).mono ?_
    rintro e w' ⟨rfl, rfl⟩
    go_wp2_with (fail)
    refine (kd_q W2 x _ I2.out HK2.out).mono ?_
    rintro e w' ⟨rfl, rfl⟩
    go_wp2_with (fail)
    refine (now_write w W2 b _ 6 old ⟨[1, 0, 0, 0, 0, old, 0], 40, 3, 0, 0⟩ H2.out (by simp [Mst.write, Mst.touch, Mst.put, Mst.used, ko, wrap64])).mono ?_
    rintro e W3 ⟨rfl, h3⟩
    have H3 := hide h3
    clear h3 H2 g1 g2
    go_wp2_with (fail)
    refine (now_write w W3 b _ 3 1 ⟨[1, 0, 1, 0, 0, old, 0], 40, 4, 0, 0⟩ H3.out (by simp [Mst.write, Mst.touch, Mst.put, Mst.used, wrap64])).mono ?_
    rintro e W4 ⟨rfl, h4⟩
    have H4 := hide h4
    clear h4 H3
    go_wp2_with (fail)
    refine (dcss_c W4 3 6 old x).mono ?_
    intro e W5 hF
    obtain ⟨fa, fc, rfl, hr, hc1, hc2, hn, _, hk⟩ := hF.form
    have H5 := hide (H4.out.on hk)
    have HRD := hide hr
    have HNB : Hid (∀ ad, fa = some ad → ad.block ≠ b) := hide (fun ad e => by have := hn ad e; have := H4.out.lt.2; omega)
    clear hF hr hc1 hc2 hn hk H4
    go_wp2_with (fail)
    refine (now_make w W5 b _ fa [3, 6, old, x, 0] fc 8 true (onceM old x 1 old 0 5) H5.out HRD.out (by unfold maxLen; simp) (fun _ => HNB.out) (by simp [Mst.next, Mst.fits]) (by simp [Mst.fits]) (by simp [Mst.make, Mst.fits, onceM, wrap64])).mono ?_
    rintro e W6 ⟨rfl, h6⟩
    have H6 := hide h6
    clear h6 H5 HRD HNB
    go_wp2_with (fail)
    refine (of_q W6 5 8 69 (by decide)).mono ?_
    rintro e w' ⟨rfl, rfl⟩
    go_wp2_with (fail)
    refine (now_cas w W6 b _ 6 old 69 true (onceM old x 1 69 0 6) H6.out (by simp [Mst.did, Mst.look, Mst.used, onceM]) (by simp [Mst.cas, Mst.did, Mst.look, Mst.write, Mst.touch, Mst.put, Mst.used, onceM, wrap64])).mono ?_
    rintro e W7 ⟨rfl, h7⟩
    have H7 := hide h7
    clear h7 H6
    go_wp2_with (fail)
    refine (hp_new W7 8).mono ?_
    rintro e V0 ⟨rfl, p0, q0⟩
    obtain ⟨f0, hf0⟩ : ∃ f, W7.heap.size = f := ⟨_, rfl⟩
    rw [hf0] at p0
    rw [hf0]
    have P0 := hide p0
    have Q0 := hide q0
    clear p0 q0
    go_wp2_with (fail)
    refine (hp_new V0 8).mono ?_
    rintro e V1 ⟨rfl, p1, q1⟩
    obtain ⟨f1, hf1⟩ : ∃ f, V0.heap.size = f := ⟨_, rfl⟩
    rw [hf1] at p1
    rw [hf1]
    have P1 := hide p1
    have Q1 := hide q1
    clear p1 q1
    go_wp2_with (fail)
    refine (hp_new V1 8).mono ?_
    rintro e V2 ⟨rfl, p2, q2⟩
    obtain ⟨f2, hf2⟩ : ∃ f, V1.heap.size = f := ⟨_, rfl⟩
    rw [hf2] at p2
    rw [hf2]
    obtain ⟨y, hy⟩ : ∃ y, V2.heap.size = y := ⟨_, rfl⟩
    have G0 : Hid (Gd w (V2.alloc (.cells #[.pointer (some ⟨f0, 0, none⟩), .pointer (some ⟨f1, 0, none⟩), .pointer (some ⟨f2, 0, none⟩)] 41)) old x true b y (fun j => if j = 0 then f0 else if j = 1 then f1 else f2) 1 (fun _ => Hp.new 8) 69 0 6 0 0 false) := hide (by
      have a0 := H7.out.lt
      have a1 := P0.out.lt
      have a2 := P1.out.lt
      have kA : Kept V2 (V2.alloc (.cells #[.pointer (some ⟨f0, 0, none⟩), .pointer (some ⟨f1, 0, none⟩), .pointer (some ⟨f2, 0, none⟩)] 41)) := Turned.alloc _ _ _
      have r0 := ((P0.out.kept Q1.out).kept q2).kept kA
      have r1 := (P1.out.kept q2).kept kA
      have r2 := p2.kept kA
      obtain ⟨⟨v, hM⟩, hKw⟩ := H7.out
      have k7 : Kept W7 (V2.alloc (.cells #[.pointer (some ⟨f0, 0, none⟩), .pointer (some ⟨f1, 0, none⟩), .pointer (some ⟨f2, 0, none⟩)] 41)) := ((Q0.out.trans Q1.out).trans q2).trans kA
      have lf : ∀ k, Foot b v k → k < f0 := fun k e => by have := (hM.lt k e).2; omega
      refine ⟨⟨⟨v, hM.kept k7, fun j hj e => ?_⟩, fun j hj => ?_, fun j hj => ?_, fun i j hi hj e => ?_, hKw.trans k7⟩, ?_, ⟨.inl rfl, .inl rfl, fun e => ?_, .inr rfl⟩, fun j hj => ⟨by decide, rfl, fun e => by simp [Hp.new] at e, fun e => by simp [Hp.new] at e, fun e => by simp [Hp.new] at e, fun e => by simp [Hp.new] at e, by decide, fun e => by simp [Hp.new] at e, fun e => by simp [Hp.new] at e, fun e => by simp [Hp.new] at e⟩, fun e => by cases e⟩
      · have := lf _ e
        obtain rfl | rfl | rfl : j = 0 ∨ j = 1 ∨ j = 2 := by omega
        all_goals simp at this
        all_goals omega
      · obtain rfl | rfl | rfl : j = 0 ∨ j = 1 ∨ j = 2 := by omega
        · exact r0
        · exact r1
        · exact r2
      · have := hKw.size
        obtain rfl | rfl | rfl : j = 0 ∨ j = 1 ∨ j = 2 := by omega
        all_goals simp
        all_goals omega
      · obtain rfl | rfl | rfl : i = 0 ∨ i = 1 ∨ i = 2 := by omega
        all_goals obtain rfl | rfl | rfl : j = 0 ∨ j = 1 ∨ j = 2 := by omega
        all_goals simp at e
        all_goals omega
      · rw [← hy]; exact heap_new _ _
      · exact ⟨by decide, by decide⟩)
    clear P0 P1 Q0 Q1 H7 p2 q2 hf0 hf1 hf2
    obtain ⟨f, hf⟩ : ∃ f : Nat → Nat, (fun j => if j = 0 then f0 else if j = 1 then f1 else f2) = f := ⟨_, rfl⟩
    rw [hf] at G0
    clear hf
    go_wp2_with (fail)
    clear hy
    rename World => VV
    go_loopw [14, 15, 16, 17, 18, 19] (fun vo vw ve vi _ _ wr => ∃ (i : Nat) (g : Int) (p : Nat → Hp) (s o c out word : Int) (ended : Bool), vo = .int .i64 out ∧ vw = .int .i64 word ∧ ve = .bool ended ∧ vi = .int .i64 (i : Int) ∧ i ≤ zs.length ∧ i ≤ 60 ∧ Hid (Gd w wr old x true b y f g p s o c out word ended)) (fun _ _ _ vi _ _ _ => (60 - intOf vi).toNat)
    case atStart => exact ⟨0, _, _, _, _, _, _, _, _, rfl, rfl, rfl, rfl, by omega, by omega, G0⟩
    case round =>
      obtain ⟨i, g, p, s, o, c, out, word, ended, rfl, rfl, rfl, rfl, hi, hi6, G⟩ := hrel
      clear G0
      by_cases hlt : i < zs.length
      · have j1 : (i : Int) < (zs.length : Int) := by omega
        by_cases h60 : i < 60
        · have j2 : (i : Int) < 60 := by omega
          obtain ⟨z, hz⟩ : ∃ z, zs[i]? = some z := ⟨_, List.getElem?_eq_getElem hlt⟩
          obtain ⟨bl, off, rfl, hbl, hcell0⟩ := HR.out.at hz
          have hcell := G.out.tf.kept.cell hcell0 id
          have j3 : i < cap := by have := HC.out; omega
          obtain ⟨k, hk⟩ : ∃ k, z % 4 = k := ⟨_, rfl⟩
          have CK : ∀ X, Calls Try.prog 18 #[.int .i64 z, .int .i64 4] X fun e X' => e = .returned (.int .i64 k) ∧ X = X' := fun X => hk ▸ cut_g X z 4 (by decide) (by decide)
          have k0 : k = 0 ∨ k = 1 ∨ k = 2 ∨ k = 3 := by omega
          clear hz hk hcell0 hbl hi hi6
          go_wp2_with (fail)
          refine (CK _).mono ?_
          rintro e w' ⟨rfl, rfl⟩
          clear CK hcell
          obtain rfl | rfl | rfl | rfl := k0
          · have cj := G.out.row.at 0 (by decide)
            go_wp2_with (fail)
            refine (gd_step N1.out N2.out I1.out I2.out G.out 0 (by decide)).mono ?_
            rintro e X ⟨r, p', s', o', c', rfl, st⟩
            have ST := hide st
            clear st cj
            have C12 : ∀ d, o' = d → Calls Try.prog 13 #[.pointer (some ⟨b, 0, none⟩), .int .i64 12] X fun e X' => e = .returned (.int .i64 d) ∧ X = X' := fun d hd => now_look w X b _ 12 d ST.out.tf.now (by rw [once_look12, hd])
            have C6 : ∀ d, s' = d → Calls Try.prog 13 #[.pointer (some ⟨b, 0, none⟩), .int .i64 6] X fun e X' => e = .returned (.int .i64 d) ∧ X = X' := fun d hd => now_look w X b _ 6 d ST.out.tf.now (by rw [once_look6, hd])
            cases ended
            · cases r
              · have GN : Hid (Gd w X old x true b y f g p' s' o' c' out word false) := hide ⟨ST.out.tf, ST.out.row, ST.out.inv, ST.out.fr, fun e => by cases e⟩
                go_wp2
                exact ⟨⟨i + 1, _, _, _, _, _, _, _, _, rfl, rfl, rfl, by simp, by omega, by omega, GN⟩, by simp only [intOf]; omega⟩
              · obtain ⟨n0, hs⟩ := ST.out.en rfl
                have hs69 : s' ≠ 69 := by rw [hs]; exact finZ_ne N1.out N2.out
                have GN : Hid (Gd w X old x true b y f g p' s' o' c' o' s' true) := hide ⟨ST.out.tf, ST.out.row, ST.out.inv, ST.out.fr, fun _ => ⟨rfl, rfl, n0, hs69⟩⟩
                obtain rfl | rfl : o' = 1 ∨ o' = 2 := by rcases ST.out.inv.oo with h | h | h; exact absurd h n0; exact .inl h; exact .inr h
                · exact absurd rfl (ST.out.inv.gg rfl).2
                · obtain rfl : s' = old := by rw [hs]; rfl
                  clear hs
                  go_wp2_with (fail)
                  refine (C12 2 rfl).mono ?_
                  rintro e w' ⟨rfl, rfl⟩
                  go_wp2_with (fail)
                  refine (C6 _ rfl).mono ?_
                  rintro e w' ⟨rfl, rfl⟩
                  go_wp2
                  exact ⟨⟨i + 1, _, _, _, _, _, _, _, _, rfl, rfl, rfl, by simp, by omega, by omega, GN⟩, by simp only [intOf]; omega⟩
            · obtain ⟨rfl, rfl, n0, n69⟩ := G.out.en rfl
              obtain rfl := ST.out.o1 n0
              obtain rfl := ST.out.s1 n69
              have GN : Hid (Gd w X old x true b y f g p' _ _ c' _ _ true) := hide ⟨ST.out.tf, ST.out.row, ST.out.inv, ST.out.fr, fun _ => ⟨rfl, rfl, n0, n69⟩⟩
              clear n0 n69
              cases r
              all_goals
                go_wp2_with (fail)
                refine (C12 _ rfl).mono ?_
                rintro e w' ⟨rfl, rfl⟩
                go_wp2_with (fail)
                refine (C6 _ rfl).mono ?_
                rintro e w' ⟨rfl, rfl⟩
                go_wp2
                exact ⟨⟨i + 1, _, _, _, _, _, _, _, _, rfl, rfl, rfl, by simp, by omega, by omega, GN⟩, by simp only [intOf]; omega⟩
          · have cj := G.out.row.at 1 (by decide)
            go_wp2_with (fail)
            refine (gd_step N1.out N2.out I1.out I2.out G.out 1 (by decide)).mono ?_
            rintro e X ⟨r, p', s', o', c', rfl, st⟩
            have ST := hide st
            clear st cj
            have C12 : ∀ d, o' = d → Calls Try.prog 13 #[.pointer (some ⟨b, 0, none⟩), .int .i64 12] X fun e X' => e = .returned (.int .i64 d) ∧ X = X' := fun d hd => now_look w X b _ 12 d ST.out.tf.now (by rw [once_look12, hd])
            have C6 : ∀ d, s' = d → Calls Try.prog 13 #[.pointer (some ⟨b, 0, none⟩), .int .i64 6] X fun e X' => e = .returned (.int .i64 d) ∧ X = X' := fun d hd => now_look w X b _ 6 d ST.out.tf.now (by rw [once_look6, hd])
            cases ended
            · cases r
              · have GN : Hid (Gd w X old x true b y f g p' s' o' c' out word false) := hide ⟨ST.out.tf, ST.out.row, ST.out.inv, ST.out.fr, fun e => by cases e⟩
                go_wp2
                exact ⟨⟨i + 1, _, _, _, _, _, _, _, _, rfl, rfl, rfl, by simp, by omega, by omega, GN⟩, by simp only [intOf]; omega⟩
              · obtain ⟨n0, hs⟩ := ST.out.en rfl
                have hs69 : s' ≠ 69 := by rw [hs]; exact finZ_ne N1.out N2.out
                have GN : Hid (Gd w X old x true b y f g p' s' o' c' o' s' true) := hide ⟨ST.out.tf, ST.out.row, ST.out.inv, ST.out.fr, fun _ => ⟨rfl, rfl, n0, hs69⟩⟩
                obtain rfl | rfl : o' = 1 ∨ o' = 2 := by rcases ST.out.inv.oo with h | h | h; exact absurd h n0; exact .inl h; exact .inr h
                · exact absurd rfl (ST.out.inv.gg rfl).2
                · obtain rfl : s' = old := by rw [hs]; rfl
                  clear hs
                  go_wp2_with (fail)
                  refine (C12 2 rfl).mono ?_
                  rintro e w' ⟨rfl, rfl⟩
                  go_wp2_with (fail)
                  refine (C6 _ rfl).mono ?_
                  rintro e w' ⟨rfl, rfl⟩
                  go_wp2
                  exact ⟨⟨i + 1, _, _, _, _, _, _, _, _, rfl, rfl, rfl, by simp, by omega, by omega, GN⟩, by simp only [intOf]; omega⟩
            · obtain ⟨rfl, rfl, n0, n69⟩ := G.out.en rfl
              obtain rfl := ST.out.o1 n0
              obtain rfl := ST.out.s1 n69
              have GN : Hid (Gd w X old x true b y f g p' _ _ c' _ _ true) := hide ⟨ST.out.tf, ST.out.row, ST.out.inv, ST.out.fr, fun _ => ⟨rfl, rfl, n0, n69⟩⟩
              clear n0 n69
              cases r
              all_goals
                go_wp2_with (fail)
                refine (C12 _ rfl).mono ?_
                rintro e w' ⟨rfl, rfl⟩
                go_wp2_with (fail)
                refine (C6 _ rfl).mono ?_
                rintro e w' ⟨rfl, rfl⟩
                go_wp2
                exact ⟨⟨i + 1, _, _, _, _, _, _, _, _, rfl, rfl, rfl, by simp, by omega, by omega, GN⟩, by simp only [intOf]; omega⟩
          · have cj := G.out.row.at 2 (by decide)
            go_wp2_with (fail)
            refine (gd_step N1.out N2.out I1.out I2.out G.out 2 (by decide)).mono ?_
            rintro e X ⟨r, p', s', o', c', rfl, st⟩
            have ST := hide st
            clear st cj
            have C12 : ∀ d, o' = d → Calls Try.prog 13 #[.pointer (some ⟨b, 0, none⟩), .int .i64 12] X fun e X' => e = .returned (.int .i64 d) ∧ X = X' := fun d hd => now_look w X b _ 12 d ST.out.tf.now (by rw [once_look12, hd])
            have C6 : ∀ d, s' = d → Calls Try.prog 13 #[.pointer (some ⟨b, 0, none⟩), .int .i64 6] X fun e X' => e = .returned (.int .i64 d) ∧ X = X' := fun d hd => now_look w X b _ 6 d ST.out.tf.now (by rw [once_look6, hd])
            cases ended
            · cases r
              · have GN : Hid (Gd w X old x true b y f g p' s' o' c' out word false) := hide ⟨ST.out.tf, ST.out.row, ST.out.inv, ST.out.fr, fun e => by cases e⟩
                go_wp2
                exact ⟨⟨i + 1, _, _, _, _, _, _, _, _, rfl, rfl, rfl, by simp, by omega, by omega, GN⟩, by simp only [intOf]; omega⟩
              · obtain ⟨n0, hs⟩ := ST.out.en rfl
                have hs69 : s' ≠ 69 := by rw [hs]; exact finZ_ne N1.out N2.out
                have GN : Hid (Gd w X old x true b y f g p' s' o' c' o' s' true) := hide ⟨ST.out.tf, ST.out.row, ST.out.inv, ST.out.fr, fun _ => ⟨rfl, rfl, n0, hs69⟩⟩
                obtain rfl | rfl : o' = 1 ∨ o' = 2 := by rcases ST.out.inv.oo with h | h | h; exact absurd h n0; exact .inl h; exact .inr h
                · exact absurd rfl (ST.out.inv.gg rfl).2
                · obtain rfl : s' = old := by rw [hs]; rfl
                  clear hs
                  go_wp2_with (fail)
                  refine (C12 2 rfl).mono ?_
                  rintro e w' ⟨rfl, rfl⟩
                  go_wp2_with (fail)
                  refine (C6 _ rfl).mono ?_
                  rintro e w' ⟨rfl, rfl⟩
                  go_wp2
                  exact ⟨⟨i + 1, _, _, _, _, _, _, _, _, rfl, rfl, rfl, by simp, by omega, by omega, GN⟩, by simp only [intOf]; omega⟩
            · obtain ⟨rfl, rfl, n0, n69⟩ := G.out.en rfl
              obtain rfl := ST.out.o1 n0
              obtain rfl := ST.out.s1 n69
              have GN : Hid (Gd w X old x true b y f g p' _ _ c' _ _ true) := hide ⟨ST.out.tf, ST.out.row, ST.out.inv, ST.out.fr, fun _ => ⟨rfl, rfl, n0, n69⟩⟩
              clear n0 n69
              cases r
              all_goals
                go_wp2_with (fail)
                refine (C12 _ rfl).mono ?_
                rintro e w' ⟨rfl, rfl⟩
                go_wp2_with (fail)
                refine (C6 _ rfl).mono ?_
                rintro e w' ⟨rfl, rfl⟩
                go_wp2
                exact ⟨⟨i + 1, _, _, _, _, _, _, _, _, rfl, rfl, rfl, by simp, by omega, by omega, GN⟩, by simp only [intOf]; omega⟩
          · cases ended
            · go_wp2_with (fail)
              refine (tf_write w wr b _ f p G.out.tf 3 1 _ (once_write _ _ _ _ _ _)).mono ?_
              rintro e X ⟨rfl, T, v, hm, t⟩
              have GN : Hid (Gd w X old x true b y f 1 p s o (wrap64 (c + 1)) out word false) := hide ⟨T, G.out.row.step G.out.tf (j := 0) (by decide) hm (t.mono fun _ _ e => .inr e), ⟨G.out.inv.oo, G.out.inv.ss, fun e => ⟨by decide, (G.out.inv.gg e).2⟩, .inr rfl⟩, G.out.fr, fun e => by cases e⟩
              clear T hm t
              go_wp2
              exact ⟨⟨i + 1, _, _, _, _, _, _, _, _, rfl, rfl, rfl, by simp, by omega, by omega, GN⟩, by simp only [intOf]; omega⟩
            · go_wp2
              exact ⟨⟨i + 1, _, _, _, _, _, _, _, _, rfl, rfl, rfl, by simp, by omega, by omega, G⟩, by simp only [intOf]; omega⟩
        · have j2 : ¬ ((i : Int) < 60) := by omega
          clear hi hi6 h60
          go_wp2_with (fail)
          refine (known_c wr).mono ?_
          rintro e X ⟨rfl, kX⟩
          have HX := hide (G.out.tf.now.on kX)
          clear kX
          go_wp2_with (fail)
          refine (now_odd w X b _ 0 HX.out rfl).mono ?_
          rintro e w' ⟨rfl, rfl⟩
          go_wp2
          go_ret
          exact ⟨rfl, HX.out.2⟩
      · have j1 : ¬ ((i : Int) < (zs.length : Int)) := by omega
        clear hi hi6 hlt
        go_wp2_with (fail)
        refine (known_c wr).mono ?_
        rintro e X ⟨rfl, kX⟩
        have HX := hide (G.out.tf.now.on kX)
        clear kX
        go_wp2_with (fail)
        refine (now_odd w X b _ 0 HX.out rfl).mono ?_
        rintro e w' ⟨rfl, rfl⟩
        go_wp2
        go_ret
        exact ⟨rfl, HX.out.2⟩
end Go.Proofs.Ytejdgdpiddngiaa
