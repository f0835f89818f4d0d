/-
  What the proof of YtgialpjdfeldeaaPlantIdealProof goes by, part 5 of 6: contracts and plain facts; each part begins with its own sentence. No conditions beyond each theorem's own.
-/
import Derived.Test.YtgialpjdfeldeaaIa4
/-! The program's isInTree, isCalm and Calm. -/
namespace Go.Proofs.Ytgialpjdfeldeaa
open Go.RowKit Go.Shelf

attribute [local go_sem] Oper.semAt_some

/-- Is w the word of that slot, or what it stands for? -/
def meetB (s : Mst) (x : Int) (p : Int × Int) : Bool := (x == p.2) || (x == tgt s p.2)
def inTreeB (s : Mst) (x : Int) : Bool := soundB s && (spotsL s (fuel s)).any (meetB s x)
def calmW (s : Mst) (x : Int) : Bool := if kd x = 4 then false else if kd x = 3 then (!(s.look (ad x + 2) == 1) && decide (s.look (ad x + 3) < Pt.limZ (s.look (ad x + 1)))) else true
def calmS (s : Mst) (p : Int × Int) : Bool := !(kd (s.look p.1) == 5) && calmW s p.2
def calmB (s : Mst) : Bool := soundB s && (spotsL s (fuel s)).all (calmS s)

theorem spotsF_i64 {s : Mst} (ho : s.ok) : ∀ (f : Nat) (x : Int), ∀ p ∈ spotsF s f x, I64 p.2
  | 0, _, _, h => by cases h
  | f + 1, x, p, h => by
    rw [spotsF_succ, List.mem_flatMap] at h
    obtain ⟨q, _, hq⟩ := h
    rcases List.mem_cons.1 hq with rfl | hq
    · exact ho.logic _
    · exact spotsF_i64 ho f _ p hq
theorem spotsL_i64 {s : Mst} (ho : s.ok) (f : Nat) : ∀ p ∈ spotsL s f, I64 p.2 := by
  intro p h
  rcases List.mem_cons.1 h with rfl | h
  · exact ho.logic _
  · exact spotsF_i64 ho f _ p h

theorem isCalm_p (w : World) (b : Nat) (s : Mst) (x : Int) (r : Bool) (h : PM w b s) (ho : s.ok) (hx : I64 x) (e1 : calmW s x = r) :
    Calls Try.prog 61 #[.pointer (some ⟨b, 0, none⟩), .int .i64 x] w fun e w' => e = .returned (.bool r) ∧ w = w' := by
  have H := hide h
  have HX := hide hx
  obtain ⟨k, hk⟩ : ∃ k, kd x = k := ⟨_, rfl⟩
  obtain ⟨p, hp⟩ : ∃ p, ad x = p := ⟨_, rfl⟩
  have kr := ad_range x
  rw [hp] at kr
  obtain ⟨p0, p1⟩ := kr
  have HK := hide hk
  have HP := hide hp
  have e2 : r = if k = 4 then false else if k = 3 then (!(s.look (p + 2) == 1) && decide (s.look (p + 3) < Pt.limZ (s.look (p + 1)))) else true := by rw [← e1, calmW, hk, hp]
  by_cases k4 : k = 4
  · have HR : Hid (r = false) := hide (by rw [e2, if_pos k4])
    subst k4
    clear h hx hk hp e1 e2
    go_enter Try.func61, Try.ntmps61
    go_wp2_with (fail)
    refine (ak_p _ x p HX.out HP.out).mono ?_
    rintro e w' ⟨rfl, rfl⟩
    go_wp2_with (fail)
    refine (kk_p _ x 4 HX.out HK.out).mono ?_
    rintro e w' ⟨rfl, rfl⟩
    go_wp2
    go_ret
    exact ⟨by rw [HR.out]; rfl, rfl⟩
  by_cases k3 : k = 3
  · obtain ⟨z1, hz1⟩ : ∃ z, s.look (p + 1) = z := ⟨_, rfl⟩
    obtain ⟨z2, hz2⟩ : ∃ z, s.look (p + 2) = z := ⟨_, rfl⟩
    obtain ⟨z3, hz3⟩ : ∃ z, s.look (p + 3) = z := ⟨_, rfl⟩
    obtain ⟨m, hm⟩ : ∃ m, Pt.limZ z1 = m := ⟨_, rfl⟩
    have HB1 : Hid (I64 z1) := hide (by rw [← hz1]; exact ho.look _)
    have HZ1 := hide hz1
    have HZ2 := hide hz2
    have HZ3 := hide hz3
    have HM : Hid (∀ W, Calls Try.prog 92 #[.int .i64 z1] W fun e w' => e = .returned (.int .i64 m) ∧ W = w') := hide (fun W => by
      refine (Pt.lim_c z1 HB1.out.wf W).mono ?_
      rw [← hm]
      rintro e w' ⟨rfl, rfl⟩
      exact ⟨rfl, rfl⟩)
    have E2 : Hid (r = (!(z2 == 1) && decide (z3 < m))) := hide (by rw [e2, if_neg k4, if_pos k3, hz1, hz2, hz3, hm])
    subst k3
    clear h hx hk hp e1 e2 hz1 hz2 hz3 hm k4
    by_cases y2 : z2 = 1
    · subst y2
      have HR : Hid (r = false) := hide (by rw [E2.out]; rfl)
      go_enter Try.func61, Try.ntmps61
      go_wp2_with (fail)
      refine (ak_p _ x p HX.out HP.out).mono ?_
      rintro e w' ⟨rfl, rfl⟩
      go_wp2_with (fail)
      refine (kk_p _ x 3 HX.out HK.out).mono ?_
      rintro e w' ⟨rfl, rfl⟩
      go_wp2_with (fail)
      refine (lk_p _ b s (p + 1) z1 H.out HZ1.out).mono ?_
      rintro e w' ⟨rfl, rfl⟩
      go_wp2_with (fail)
      refine (HM.out _).mono ?_
      rintro e w' ⟨rfl, rfl⟩
      go_wp2_with (fail)
      refine (lk_p _ b s (p + 2) 1 H.out HZ2.out).mono ?_
      rintro e w' ⟨rfl, rfl⟩
      go_wp2
      go_ret
      exact ⟨by rw [HR.out]; rfl, rfl⟩
    · have g1 : (z2 == 1) = false := by simp [y2]
      have g2 : (z2 != 1) = true := by simp [y2]
      clear y2
      by_cases y3 : z3 < m
      · have HR : Hid (r = true) := hide (by rw [E2.out, g1]; simp [y3])
        go_enter Try.func61, Try.ntmps61
        go_wp2_with (fail)
        refine (ak_p _ x p HX.out HP.out).mono ?_
        rintro e w' ⟨rfl, rfl⟩
        go_wp2_with (fail)
        refine (kk_p _ x 3 HX.out HK.out).mono ?_
        rintro e w' ⟨rfl, rfl⟩
        go_wp2_with (fail)
        refine (lk_p _ b s (p + 1) z1 H.out HZ1.out).mono ?_
        rintro e w' ⟨rfl, rfl⟩
        go_wp2_with (fail)
        refine (HM.out _).mono ?_
        rintro e w' ⟨rfl, rfl⟩
        go_wp2_with (fail)
        refine (lk_p _ b s (p + 2) z2 H.out HZ2.out).mono ?_
        rintro e w' ⟨rfl, rfl⟩
        go_wp2_with (fail)
        refine (lk_p _ b s (p + 3) z3 H.out HZ3.out).mono ?_
        rintro e w' ⟨rfl, rfl⟩
        go_wp2
        go_ret
        exact ⟨by rw [HR.out]; rfl, rfl⟩
      · have HR : Hid (r = false) := hide (by rw [E2.out, g1]; simp [y3])
        have y3' : decide (z3 < m) = false := by simp [y3]
        have y4 : m ≤ z3 := by omega
        clear y3
        go_enter Try.func61, Try.ntmps61
        go_wp2_with (fail)
        refine (ak_p _ x p HX.out HP.out).mono ?_
        rintro e w' ⟨rfl, rfl⟩
        go_wp2_with (fail)
        refine (kk_p _ x 3 HX.out HK.out).mono ?_
        rintro e w' ⟨rfl, rfl⟩
        go_wp2_with (fail)
        refine (lk_p _ b s (p + 1) z1 H.out HZ1.out).mono ?_
        rintro e w' ⟨rfl, rfl⟩
        go_wp2_with (fail)
        refine (HM.out _).mono ?_
        rintro e w' ⟨rfl, rfl⟩
        go_wp2_with (fail)
        refine (lk_p _ b s (p + 2) z2 H.out HZ2.out).mono ?_
        rintro e w' ⟨rfl, rfl⟩
        go_wp2_with (fail)
        refine (lk_p _ b s (p + 3) z3 H.out HZ3.out).mono ?_
        rintro e w' ⟨rfl, rfl⟩
        go_wp2
        go_ret
        exact ⟨by rw [HR.out]; rfl, rfl⟩
  · have HR : Hid (r = true) := hide (by rw [e2, if_neg k4, if_neg k3])
    have g1 : (k == 4) = false := by simp [k4]
    have g2 : (k == 3) = false := by simp [k3]
    clear h hx hk hp e1 e2 k4 k3
    go_enter Try.func61, Try.ntmps61
    go_wp2_with (fail)
    refine (ak_p _ x p HX.out HP.out).mono ?_
    rintro e w' ⟨rfl, rfl⟩
    go_wp2_with (fail)
    refine (kk_p _ x k HX.out HK.out).mono ?_
    rintro e w' ⟨rfl, rfl⟩
    go_wp2
    go_ret
    exact ⟨by rw [HR.out]; rfl, rfl⟩

set_option maxHeartbeats 2000000 in
theorem isInTree_p (w : World) (b : Nat) (s : Mst) (x : Int) (h : PM w b s) (ho : s.ok) (hx : I64 x) (r : Bool) (e1 : inTreeB s x = r) :
    Calls Try.prog 62 #[.pointer (some ⟨b, 0, none⟩), .int .i64 x] w fun e w' => e = .returned (.bool r) ∧ Kept w w' := by
  have H := hide h
  have HO := hide ho
  have HX := hide hx
  clear hx
  obtain ⟨n, hn⟩ : ∃ n, w.heap.size = n := ⟨_, rfl⟩
  obtain ⟨W1, hW1⟩ : ∃ W1, ((w.alloc (.cells #[.pointer (some ⟨b, 0, none⟩)] 22)).alloc (.cells #[.int .i64 x] 2)).alloc (.cells #[.bool false] 4) = W1 := ⟨_, rfl⟩
  have z1 : W1.heap.size = n + 3 := by rw [← hW1]; simp [hn]
  have t1 : Kept w W1 := by
    rw [← hW1]
    exact (((Kept.refl w).alloc _).alloc _).alloc _
  have bx : ∀ (X : World) (T : TypeId) (v : Value) (m : Nat), X.heap.size = m → Boxed (X.alloc (.cells #[v] T)) m T v := fun X T v m e => by rw [← e]; exact Boxed.new X T v
  have bM : Boxed W1 n 22 (.pointer (some ⟨b, 0, none⟩)) := by
    rw [← hW1]; exact ((bx w 22 _ n hn).alloc _).alloc _
  have bX : Boxed W1 (n + 1) 2 (.int .i64 x) := by
    rw [← hW1]; exact (bx _ 2 _ (n + 1) (by simp [hn])).alloc _
  have bR : Boxed W1 (n + 2) 4 (.bool false) := by
    rw [← hW1]; exact bx _ 4 _ (n + 2) (by simp [hn])
  have K1 := hide t1
  have HN0 := hide hn
  have Z1 := hide z1
  obtain ⟨q, hq⟩ : ∃ q, soundB s = q := ⟨_, rfl⟩
  have HQ := hide hq
  have BM := hide bM
  have BX := hide bX
  have BR := hide bR
  have c0 := bM.cell
  have cR := bR.cell
  have fR := bR.frozen
  have HE : Hid (inTreeB s x = r) := hide e1
  clear h ho e1 t1 bx bM bX bR hq z1
  refine calls_marks Try.func62 rfl ?_
  simp only [Try.ntmps62, List.size_toArray, List.length_cons, List.length_nil, Nat.reduceAdd, Nat.reduceSub, Array.replicate_succ, Array.replicate_zero, List.push_toArray, List.append_toArray, List.nil_append, List.cons_append]
  go_wp2_with (fail)
  clear hW1 hn
  refine (sound_p W1 b s (H.out.kept K1.out) HO.out q HQ.out).mono ?_
  rintro e W2 ⟨rfl, k2⟩
  have K2 := hide (K1.out.trans k2)
  have BM2 := hide (k2.boxed BM.out id)
  have BX2 := hide (k2.boxed BX.out id)
  have BR2 := hide (k2.boxed BR.out id)
  have c0 := BM2.out.cell
  have cR := BR2.out.cell
  have fR := BR2.out.frozen
  have Z2 : Hid (n + 3 ≤ W2.heap.size) := hide (by have := k2.size; have := Z1.out; omega)
  clear k2
  cases q with
  | false =>
    have HR : Hid (r = false) := hide (by rw [← HE.out, inTreeB, HQ.out]; rfl)
    have tS : Turned (fun k => k = n + 2) W2 (W2.setCell ⟨n + 2, 0, none⟩ (.bool false)) := Turned.setCell _ _ _ rfl
    have KS := hide (K2.out.did (by have := HN0.out; omega) tS)
    have CS := hide (BR2.out.set (.bool false)).cell
    clear tS
    go_wp2
    refine leave_marks [] _ ?_ ?_ ?_
    · intro k hk; cases hk
    · simp
    · intro X' hX'
      have q1 := hX'.cell CS.out (by simp)
      exact ⟨.bool false, by simp [results, Try.results62, go_sem, q1], by rw [HR.out], KS.out.trans (hX'.mono fun _ _ h => by cases h)⟩
  | true =>
    have hWf := wf_root HO.out HQ.out
    have HWF := hide hWf
    have HE2 : Hid ((spotsL s (fuel s)).any (meetB s x) = r) := hide (by rw [← HE.out, inTreeB, HQ.out]; rfl)
    clear hWf
    go_wp2_with (fail)
    refine (spots_k W2 b).mono ?_
    rintro e W3 ⟨B1, rfl, k3, b1, l1⟩
    have K3 := hide (K2.out.trans k3)
    have BM3 := hide (k3.boxed BM2.out id)
    have BX3 := hide (k3.boxed BX2.out id)
    have BR3 := hide (k3.boxed BR2.out id)
    have BS3 := hide b1
    have L1 : Hid (n + 3 ≤ B1) := hide (by have := Z2.out; omega)
    have Z3 : Hid (n + 3 ≤ W3.heap.size) := hide (by have := k3.size; have := Z2.out; omega)
    clear k3 b1 l1 c0 cR fR
    go_wp2_with (fail)
    refine wp_range3 (gf := 88) rfl (enters_of Try.func88 (by kernel_rfl) rfl) (encs := encS) (xs := spotsL s (fuel s)) (R := SpotR w B1)
      (fun X hX => spots_i w X (K3.out.trans hX) b s H.out HO.out (fuel s) HWF.out B1 (hX.boxed BS3.out id)) (fun _ => rfl)
      (fun k => k = n + 2) (fun O pre A => (∀ p ∈ pre, meetB s x p = false) ∧ Cell1 (n + 2) 4 (.bool false) O pre A) (fun c O pre A => c = .ret ∧ (∃ p ∈ pre, meetB s x p = true) ∧ Cell1 (n + 2) 4 (.bool true) O pre A) ?hR
      (good_and (Cell1.good _ _ _) _) (fun c => good_only (good_and (Cell1.good _ _ _) _) c .ret) ⟨(by intro p hp; cases hp), fun _ => Iff.rfl, BR3.out⟩ (fun p => #[.int .i64 p.1, .int .i64 p.2]) 86 ?ab ?done ?stop
    case hR =>
      rintro k (hk | rfl)
      · have h1 := K3.out.size
        have h2 := HN0.out
        exact ⟨by omega, by omega⟩
      · have h1 := BS3.out.lt
        have h2 := L1.out
        exact ⟨h1, by omega⟩
    case ab =>
      apply Exists.intro
      refine ⟨?_, ?_⟩
      · intro l' p X m K hm hK
        gi_wp2
        exact hK
      · rintro l' O pre ⟨sl, y⟩ rest B m hx' tB sB ⟨hpre, hO, rB⟩ hm nOm _
        have HOO := hide hO
        have HPRE := hide hpre
        have KB := hide (K3.out.did (by have := HN0.out; omega) tB)
        have MB := hide (H.out.kept KB.out)
        have cM := (tB.boxed BM3.out (by omega)).cell
        have cX := (tB.boxed BX3.out (by omega)).cell
        have HYI : Hid (I64 y) := hide (spotsL_i64 HO.out (fuel s) (sl, y) (by rw [hx']; simp))
        have RB := hide rB
        have cq0 : B.heap[m]? = some (.cells #[.int .i64 sl, .int .i64 y] 86) := hm
        have GO : Hid (∀ X, Kept B X → meetB s x (sl, y) = false → ∃ O', Sub O' O B.heap.size ∧ Turned O B X ∧ (∀ p ∈ pre ++ [(sl, y)], meetB s x p = false) ∧ Cell1 (n + 2) 4 (.bool false) O' (pre ++ [(sl, y)]) X) := hide (fun X kX hm => by
          refine ⟨O, Sub.refl _ _, kX.mono (fun _ _ h => h.elim), ?_, HOO.out, kX.boxed RB.out id⟩
          intro p hp
          rcases List.mem_append.1 hp with hp | hp
          · exact HPRE.out p hp
          · simp at hp; rw [hp]; exact hm)
        have OUT : Hid (∀ X, Kept B X → meetB s x (sl, y) = true → ∃ O', Sub O' O B.heap.size ∧ Turned O B (X.setCell ⟨n + 2, 0, none⟩ (.bool true)) ∧ (∃ p ∈ pre ++ [(sl, y)], meetB s x p = true) ∧ Cell1 (n + 2) 4 (.bool true) O' (pre ++ [(sl, y)]) (X.setCell ⟨n + 2, 0, none⟩ (.bool true))) := hide (fun X kX hm => by
          have tS : Turned (fun k => k = n + 2) X (X.setCell ⟨n + 2, 0, none⟩ (.bool true)) := Turned.setCell _ _ _ rfl
          refine ⟨O, Sub.refl _ _, (Turned.trans kX tS (fun _ h => h.elim) (fun k _ h => (HOO.out k).2 h)), ⟨(sl, y), by simp, hm⟩, HOO.out, (kX.boxed RB.out id).set _⟩)
        clear hx' tB sB hpre hO rB hm nOm
        obtain ⟨V, hV⟩ : ∃ V, B.drew = V := ⟨_, rfl⟩
        have kV : Kept B V := by rw [← hV]; exact Kept.drew _
        have KBV := hide kV
        have x0 : ∀ u : Wd (fun U => U = V), u.w.cell? ⟨n, 0, none⟩ = some (.pointer (some ⟨b, 0, none⟩)) := fun u => by rw [u.ok]; exact KBV.out.cell cM id
        have x1 : ∀ u : Wd (fun U => U = V), u.w.cell? ⟨n + 1, 0, none⟩ = some (.int .i64 x) := fun u => by rw [u.ok]; exact KBV.out.cell cX id
        have x2 : ∀ u : Wd (fun U => U = V), u.w.cell? ⟨m, 1, none⟩ = some (.int .i64 y) := fun u => by
          rw [u.ok]
          refine kV.cell ?_ id
          simp [World.cell?, cq0]
        have RV := hide (kV.boxed RB.out id)
        have KV := hide kV
        have HV := hide hV
        have c6 := RV.out.cell
        have f6 := RV.out.frozen
        clear cM cX cq0 hV kV
        obtain ⟨t, ht⟩ : ∃ t, tgt s y = t := ⟨_, rfl⟩
        have HT := hide ht
        by_cases xy : x = y
        · subst xy
          have MM : Hid (meetB s x (sl, x) = true) := hide (by simp [meetB])
          clear ht
          gi_wp2_with (fail)
          refine region_round [0, 1, 2, 3, 4, 5, 6, 7, 8, 9, 10, 11] (fun U => U = V) (by kernel_rfl) (by kernel_rfl) (by kernel_rfl) HV.out (fun _ => ?_)
          rw [HV.out]
          repeat (refine pq rfl rfl ?_; go_big_quiet_step (fail); refine wpQuiet_nil ?_)
          refine ps rfl rfl rfl (Wd.mem rfl) ?_
          go_big_quiet_skip
          refine wpQuiet_nil ?_
          repeat (refine pq rfl rfl ?_; go_big_quiet_step (fail); refine wpQuiet_nil ?_)
          refine perm_done ?_
          gi_wp2
          obtain ⟨O', q1, q2, q3, q4⟩ := OUT.out V KV.out MM.out
          exact ⟨O', q1, q2, rfl, q3, q4⟩
        · have g1 : (x == y) = false := by simp [xy]
          by_cases xt : x = t
          · have MM : Hid (meetB s x (sl, y) = true) := hide (by simp [meetB, ht, xt])
            subst xt
            clear ht xy
            gi_wp2_with (fail)
            refine region_round [0, 1, 2, 3, 4, 5, 6, 7, 8, 9, 10, 11] (fun U => U = V) (by kernel_rfl) (by kernel_rfl) (by kernel_rfl) HV.out (fun _ => ?_)
            rw [HV.out]
            repeat (refine pq rfl rfl ?_; go_big_quiet_step (fail); refine wpQuiet_nil ?_)
            refine pl rfl rfl ?_
            gi_wp2_with (fail)
            refine ⟨trivial, ?_⟩
            refine (callsIn_wide.2 (target_p _ b s y x (MB.out.kept KBV.out) HYI.out HT.out)).mono ?_
            rintro e U ⟨rfl, rfl⟩
            gi_wp2_with (fail)
            refine ⟨Wd.mem rfl, ?_⟩
            repeat (refine pq rfl rfl ?_; go_big_quiet_step (fail); refine wpQuiet_nil ?_)
            refine perm_done ?_
            gi_wp2
            obtain ⟨O', q1, q2, q3, q4⟩ := OUT.out V KV.out MM.out
            exact ⟨O', q1, q2, rfl, q3, q4⟩
          · have g2 : (x == t) = false := by simp [xt]
            have MM : Hid (meetB s x (sl, y) = false) := hide (by simp [meetB, ht, xt, xy])
            clear ht xy xt
            gi_wp2_with (fail)
            refine region_round [0, 1, 2, 3, 4, 5, 6, 7, 8, 9, 10, 11] (fun U => U = V) (by kernel_rfl) (by kernel_rfl) (by kernel_rfl) HV.out (fun _ => ?_)
            rw [HV.out]
            repeat (refine pq rfl rfl ?_; go_big_quiet_step (fail); refine wpQuiet_nil ?_)
            refine pl rfl rfl ?_
            gi_wp2_with (fail)
            refine ⟨trivial, ?_⟩
            refine (callsIn_wide.2 (target_p _ b s y t (MB.out.kept KBV.out) HYI.out HT.out)).mono ?_
            rintro e U ⟨rfl, rfl⟩
            gi_wp2_with (fail)
            refine ⟨Wd.mem rfl, ?_⟩
            repeat (refine pq rfl rfl ?_; go_big_quiet_step (fail); refine wpQuiet_nil ?_)
            refine perm_done ?_
            gi_wp2
            exact GO.out V KV.out MM.out
    case done =>
      rintro D O X hD nD tX sX ⟨hpre, hO, rX⟩ hK
      have HR : Hid (r = false) := hide (by rw [← HE2.out]; exact List.any_eq_false.2 (fun p hp => by simp [hpre p hp]))
      have nD2 : D ≠ n + 2 := by have := Z3.out; omega
      have c6 := rX.cell
      have f6 := rX.frozen
      have tS : Turned (fun k => k = n + 2) X (X.setCell ⟨n + 2, 0, none⟩ (.bool false)) := Turned.setCell _ _ _ rfl
      have hK2 : Hid ((X.setCell ⟨n + 2, 0, none⟩ (.bool false)).heap[D]? = some (.deferred (some []))) := hide (tS.heap hK nD2)
      have CS : Hid ((X.setCell ⟨n + 2, 0, none⟩ (.bool false)).cell? ⟨n + 2, 0, none⟩ = some (.bool false)) := hide (rX.set (.bool false)).cell
      have KX : Hid (Kept w (X.setCell ⟨n + 2, 0, none⟩ (.bool false))) := hide ((K3.out.did (by have := HN0.out; omega) tX).did (by have := HN0.out; omega) tS)
      clear hK rX tS tX sX hO nD
      go_wp2
      refine leave_marks [D] _ ?_ ?_ ?_
      · intro k hk
        simp at hk
        rw [hk]
        exact hK2.out
      · simp
      · intro X' hX'
        have q1 := hX'.cell CS.out (by simp; omega)
        exact ⟨.bool false, by simp [results, Try.results62, go_sem, q1], by rw [HR.out], KX.out.own (fun i hi => by simp at hi; have := K3.out.size; omega) hX'⟩
    case stop =>
      rintro D O c pre rest X hD nD tX sX hx' ⟨rfl, ⟨p, hp, hm⟩, hO, rX⟩ hK
      have HR : Hid (r = true) := hide (by rw [← HE2.out]; exact List.any_eq_true.2 ⟨p, by rw [hx']; exact List.mem_append_left _ hp, hm⟩)
      have nD2 : D ≠ n + 2 := by have := Z3.out; omega
      have c6 := rX.cell
      have f6 := rX.frozen
      have tS : Turned (fun k => k = n + 2) X X := Turned.refl _ _
      have hK2 : Hid (X.heap[D]? = some (.deferred (some []))) := hide (tS.heap hK nD2)
      have CS : Hid (X.cell? ⟨n + 2, 0, none⟩ = some (.bool true)) := hide rX.cell
      have KX : Hid (Kept w X) := hide ((K3.out.did (by have := HN0.out; omega) tX).did (by have := HN0.out; omega) tS)
      clear hK rX tS tX sX hO nD
      go_wp2
      refine leave_marks [D] _ ?_ ?_ ?_
      · intro k hk
        simp at hk
        rw [hk]
        exact hK2.out
      · simp
      · intro X' hX'
        have q1 := hX'.cell CS.out (by simp; omega)
        exact ⟨.bool true, by simp [results, Try.results62, go_sem, q1], by rw [HR.out], KX.out.own (fun i hi => by simp at hi; have := K3.out.size; omega) hX'⟩

set_option maxHeartbeats 2000000 in
theorem calm_p (w : World) (b : Nat) (s : Mst) (h : PM w b s) (ho : s.ok) (r : Bool) (e1 : calmB s = r) :
    Calls Try.prog 32 #[.pointer (some ⟨b, 0, none⟩)] w fun e w' => e = .returned (.bool r) ∧ Kept w w' := by
  have H := hide h
  have HO := hide ho
  obtain ⟨n, hn⟩ : ∃ n, w.heap.size = n := ⟨_, rfl⟩
  obtain ⟨W1, hW1⟩ : ∃ W1, (w.alloc (.cells #[.pointer (some ⟨b, 0, none⟩)] 22)).alloc (.cells #[.bool false] 4) = W1 := ⟨_, rfl⟩
  have z1 : W1.heap.size = n + 2 := by rw [← hW1]; simp [hn]
  have t1 : Kept w W1 := by
    rw [← hW1]
    exact ((Kept.refl w).alloc _).alloc _
  have bx : ∀ (X : World) (T : TypeId) (v : Value) (m : Nat), X.heap.size = m → Boxed (X.alloc (.cells #[v] T)) m T v := fun X T v m e => by rw [← e]; exact Boxed.new X T v
  have bM : Boxed W1 n 22 (.pointer (some ⟨b, 0, none⟩)) := by
    rw [← hW1]; exact (bx w 22 _ n hn).alloc _
  have bR : Boxed W1 (n + 1) 4 (.bool false) := by
    rw [← hW1]; exact bx _ 4 _ (n + 1) (by simp [hn])
  have K1 := hide t1
  have HN0 := hide hn
  have Z1 := hide z1
  obtain ⟨q, hq⟩ : ∃ q, soundB s = q := ⟨_, rfl⟩
  have HQ := hide hq
  have BM := hide bM
  have BR := hide bR
  have c0 := bM.cell
  have cR := bR.cell
  have fR := bR.frozen
  have HE : Hid (calmB s = r) := hide e1
  clear h ho e1 t1 bx bM bR hq z1
  refine calls_marks Try.func32 rfl ?_
  simp only [Try.ntmps32, List.size_toArray, List.length_cons, List.length_nil, Nat.reduceAdd, Nat.reduceSub, Array.replicate_succ, Array.replicate_zero, List.push_toArray, List.append_toArray, List.nil_append, List.cons_append]
  go_wp2_with (fail)
  clear hW1 hn
  refine (sound_p W1 b s (H.out.kept K1.out) HO.out q HQ.out).mono ?_
  rintro e W2 ⟨rfl, k2⟩
  have K2 := hide (K1.out.trans k2)
  have BM2 := hide (k2.boxed BM.out id)
  have BR2 := hide (k2.boxed BR.out id)
  have c0 := BM2.out.cell
  have cR := BR2.out.cell
  have fR := BR2.out.frozen
  have Z2 : Hid (n + 2 ≤ W2.heap.size) := hide (by have := k2.size; have := Z1.out; omega)
  clear k2
  cases q with
  | false =>
    have HR : Hid (r = false) := hide (by rw [← HE.out, calmB, HQ.out]; rfl)
    have tS : Turned (fun k => k = n + 1) W2 (W2.setCell ⟨n + 1, 0, none⟩ (.bool false)) := Turned.setCell _ _ _ rfl
    have KS := hide (K2.out.did (by have := HN0.out; omega) tS)
    have CS := hide (BR2.out.set (.bool false)).cell
    clear tS
    go_wp2
    refine leave_marks [] _ ?_ ?_ ?_
    · intro k hk; cases hk
    · simp
    · intro X' hX'
      have q1 := hX'.cell CS.out (by simp)
      exact ⟨.bool false, by simp [results, Try.results32, go_sem, q1], by rw [HR.out], KS.out.trans (hX'.mono fun _ _ h => by cases h)⟩
  | true =>
    have hWf := wf_root HO.out HQ.out
    have HWF := hide hWf
    have HE2 : Hid ((spotsL s (fuel s)).all (calmS s) = r) := hide (by rw [← HE.out, calmB, HQ.out]; rfl)
    clear hWf
    go_wp2_with (fail)
    refine (spots_k W2 b).mono ?_
    rintro e W3 ⟨B1, rfl, k3, b1, l1⟩
    have K3 := hide (K2.out.trans k3)
    have BM3 := hide (k3.boxed BM2.out id)
    have BR3 := hide (k3.boxed BR2.out id)
    have BS3 := hide b1
    have L1 : Hid (n + 2 ≤ B1) := hide (by have := Z2.out; omega)
    have Z3 : Hid (n + 2 ≤ W3.heap.size) := hide (by have := k3.size; have := Z2.out; omega)
    clear k3 b1 l1 c0 cR fR
    go_wp2_with (fail)
    refine wp_range3 (gf := 88) rfl (enters_of Try.func88 (by kernel_rfl) rfl) (encs := encS) (xs := spotsL s (fuel s)) (R := SpotR w B1)
      (fun X hX => spots_i w X (K3.out.trans hX) b s H.out HO.out (fuel s) HWF.out B1 (hX.boxed BS3.out id)) (fun _ => rfl)
      (fun k => k = n + 1) (fun O pre A => (∀ p ∈ pre, calmS s p = true) ∧ Cell1 (n + 1) 4 (.bool false) O pre A) (fun c O pre A => c = .ret ∧ (∃ p ∈ pre, calmS s p = false) ∧ Cell1 (n + 1) 4 (.bool false) O pre A) ?hR
      (good_and (Cell1.good _ _ _) _) (fun c => good_only (good_and (Cell1.good _ _ _) _) c .ret) ⟨(by intro p hp; cases hp), fun _ => Iff.rfl, BR3.out⟩ (fun p => #[.int .i64 p.1, .int .i64 p.2]) 86 ?ab ?done ?stop
    case hR =>
      rintro k (hk | rfl)
      · have h1 := K3.out.size
        have h2 := HN0.out
        exact ⟨by omega, by omega⟩
      · have h1 := BS3.out.lt
        have h2 := L1.out
        exact ⟨h1, by omega⟩
    case ab =>
      apply Exists.intro
      refine ⟨?_, ?_⟩
      · intro l' p X m K hm hK
        gi_wp2
        exact hK
      · rintro l' O pre ⟨sl, y⟩ rest B m hx' tB sB ⟨hpre, hO, rB⟩ hm nOm _
        have HOO := hide hO
        have HPRE := hide hpre
        have KB := hide (K3.out.did (by have := HN0.out; omega) tB)
        have MB := hide (H.out.kept KB.out)
        have cM := (tB.boxed BM3.out (by omega)).cell
        have HYI : Hid (I64 y) := hide (spotsL_i64 HO.out (fuel s) (sl, y) (by rw [hx']; simp))
        have RB := hide rB
        have cq0 : B.heap[m]? = some (.cells #[.int .i64 sl, .int .i64 y] 86) := hm
        have GO : Hid (∀ X, Kept B X → calmS s (sl, y) = true → ∃ O', Sub O' O B.heap.size ∧ Turned O B X ∧ (∀ p ∈ pre ++ [(sl, y)], calmS s p = true) ∧ Cell1 (n + 1) 4 (.bool false) O' (pre ++ [(sl, y)]) X) := hide (fun X kX hm => by
          refine ⟨O, Sub.refl _ _, kX.mono (fun _ _ h => h.elim), ?_, HOO.out, kX.boxed RB.out id⟩
          intro p hp
          rcases List.mem_append.1 hp with hp | hp
          · exact HPRE.out p hp
          · simp at hp; rw [hp]; exact hm)
        have OUT : Hid (∀ X, Kept B X → calmS s (sl, y) = false → ∃ O', Sub O' O B.heap.size ∧ Turned O B (X.setCell ⟨n + 1, 0, none⟩ (.bool false)) ∧ (∃ p ∈ pre ++ [(sl, y)], calmS s p = false) ∧ Cell1 (n + 1) 4 (.bool false) O' (pre ++ [(sl, y)]) (X.setCell ⟨n + 1, 0, none⟩ (.bool false))) := hide (fun X kX hm => by
          have tS : Turned (fun k => k = n + 1) X (X.setCell ⟨n + 1, 0, none⟩ (.bool false)) := Turned.setCell _ _ _ rfl
          refine ⟨O, Sub.refl _ _, (Turned.trans kX tS (fun _ h => h.elim) (fun k _ h => (HOO.out k).2 h)), ⟨(sl, y), by simp, hm⟩, HOO.out, (kX.boxed RB.out id).set _⟩)
        clear hx' tB sB hpre hO rB hm nOm
        have cq1 : B.cell? ⟨m, 0, none⟩ = some (.int .i64 sl) := by simp [World.cell?, cq0]
        have cq2 : B.cell? ⟨m, 1, none⟩ = some (.int .i64 y) := by simp [World.cell?, cq0]
        have c6 := RB.out.cell
        have f6 := RB.out.frozen
        obtain ⟨z, hz⟩ : ∃ z, s.look sl = z := ⟨_, rfl⟩
        obtain ⟨k, hk⟩ : ∃ k, kd z = k := ⟨_, rfl⟩
        obtain ⟨v, hv⟩ : ∃ v, calmW s y = v := ⟨_, rfl⟩
        have HZ := hide hz
        have HK := hide hk
        have HVV := hide hv
        have HZI : Hid (I64 z) := hide (by rw [← hz]; exact HO.out.look _)
        have MC := MB
        have MM : Hid (calmS s (sl, y) = (!(k == 5) && v)) := hide (by simp only [calmS, hz, hk, hv])
        clear cq0 hz hk hv
        by_cases k5 : k = 5
        · subst k5
          have M2 : Hid (calmS s (sl, y) = false) := hide (by rw [MM.out]; rfl)
          gi_wp2_with (fail)
          refine ⟨trivial, ?_⟩
          refine (CallsIn.inRound l' (callsIn_wide.2 (lk_p _ b s sl z MC.out HZ.out))).mono ?_
          rintro e U ⟨rfl, rfl⟩
          gi_wp2_with (fail)
          refine ⟨trivial, ?_⟩
          refine (CallsIn.inRound l' (callsIn_wide.2 (kk_p _ z 5 HZI.out HK.out))).mono ?_
          rintro e U ⟨rfl, rfl⟩
          gi_wp2
          refine ⟨trivial, ?_⟩
          gi_wp2
          obtain ⟨O', q1, q2, q3, q4⟩ := OUT.out _ (Kept.refl _) M2.out
          exact ⟨O', q1, q2, rfl, q3, q4⟩
        · have g1 : (k == 5) = false := by simp [k5]
          clear k5
          cases v with
          | true =>
            have M2 : Hid (calmS s (sl, y) = true) := hide (by rw [MM.out, g1]; rfl)
            gi_wp2_with (fail)
            refine ⟨trivial, ?_⟩
            refine (CallsIn.inRound l' (callsIn_wide.2 (lk_p _ b s sl z MC.out HZ.out))).mono ?_
            rintro e U ⟨rfl, rfl⟩
            gi_wp2_with (fail)
            refine ⟨trivial, ?_⟩
            refine (CallsIn.inRound l' (callsIn_wide.2 (kk_p _ z k HZI.out HK.out))).mono ?_
            rintro e U ⟨rfl, rfl⟩
            gi_wp2_with (fail)
            refine ⟨trivial, ?_⟩
            refine (CallsIn.inRound l' (callsIn_wide.2 (isCalm_p _ b s y _ MC.out HO.out HYI.out HVV.out))).mono ?_
            rintro e U ⟨rfl, rfl⟩
            gi_wp2
            exact GO.out _ (Kept.refl _) M2.out
          | false =>
            have M2 : Hid (calmS s (sl, y) = false) := hide (by rw [MM.out, g1]; rfl)
            gi_wp2_with (fail)
            refine ⟨trivial, ?_⟩
            refine (CallsIn.inRound l' (callsIn_wide.2 (lk_p _ b s sl z MC.out HZ.out))).mono ?_
            rintro e U ⟨rfl, rfl⟩
            gi_wp2_with (fail)
            refine ⟨trivial, ?_⟩
            refine (CallsIn.inRound l' (callsIn_wide.2 (kk_p _ z k HZI.out HK.out))).mono ?_
            rintro e U ⟨rfl, rfl⟩
            gi_wp2_with (fail)
            refine ⟨trivial, ?_⟩
            refine (CallsIn.inRound l' (callsIn_wide.2 (isCalm_p _ b s y _ MC.out HO.out HYI.out HVV.out))).mono ?_
            rintro e U ⟨rfl, rfl⟩
            gi_wp2
            obtain ⟨O', q1, q2, q3, q4⟩ := OUT.out _ (Kept.refl _) M2.out
            exact ⟨O', q1, q2, rfl, q3, q4⟩
    case done =>
      rintro D O X hD nD tX sX ⟨hpre, hO, rX⟩ hK
      have HR : Hid (r = true) := hide (by rw [← HE2.out]; exact List.all_eq_true.2 hpre)
      have nD2 : D ≠ n + 1 := by have := Z3.out; omega
      have c6 := rX.cell
      have f6 := rX.frozen
      have tS : Turned (fun k => k = n + 1) X (X.setCell ⟨n + 1, 0, none⟩ (.bool true)) := Turned.setCell _ _ _ rfl
      have hK2 : Hid ((X.setCell ⟨n + 1, 0, none⟩ (.bool true)).heap[D]? = some (.deferred (some []))) := hide (tS.heap hK nD2)
      have CS : Hid ((X.setCell ⟨n + 1, 0, none⟩ (.bool true)).cell? ⟨n + 1, 0, none⟩ = some (.bool true)) := hide (rX.set (.bool true)).cell
      have KX : Hid (Kept w (X.setCell ⟨n + 1, 0, none⟩ (.bool true))) := hide ((K3.out.did (by have := HN0.out; omega) tX).did (by have := HN0.out; omega) tS)
      clear hK rX tS tX sX hO nD
      go_wp2
      refine leave_marks [D] _ ?_ ?_ ?_
      · intro k hk
        simp at hk
        rw [hk]
        exact hK2.out
      · simp
      · intro X' hX'
        have q1 := hX'.cell CS.out (by simp; omega)
        exact ⟨.bool true, by simp [results, Try.results32, go_sem, q1], by rw [HR.out], KX.out.own (fun i hi => by simp at hi; have := K3.out.size; omega) hX'⟩
    case stop =>
      rintro D O c pre rest X hD nD tX sX hx' ⟨rfl, ⟨p, hp, hm⟩, hO, rX⟩ hK
      have HR : Hid (r = false) := hide (by rw [← HE2.out]; exact List.all_eq_false.2 ⟨p, by rw [hx']; exact List.mem_append_left _ hp, by simp [hm]⟩)
      have nD2 : D ≠ n + 1 := by have := Z3.out; omega
      have c6 := rX.cell
      have f6 := rX.frozen
      have tS : Turned (fun k => k = n + 1) X X := Turned.refl _ _
      have hK2 : Hid (X.heap[D]? = some (.deferred (some []))) := hide (tS.heap hK nD2)
      have CS : Hid (X.cell? ⟨n + 1, 0, none⟩ = some (.bool false)) := hide rX.cell
      have KX : Hid (Kept w X) := hide ((K3.out.did (by have := HN0.out; omega) tX).did (by have := HN0.out; omega) tS)
      clear hK rX tS tX sX hO nD
      go_wp2
      refine leave_marks [D] _ ?_ ?_ ?_
      · intro k hk
        simp at hk
        rw [hk]
        exact hK2.out
      · simp
      · intro X' hX'
        have q1 := hX'.cell CS.out (by simp; omega)
        exact ⟨.bool false, by simp [results, Try.results32, go_sem, q1], by rw [HR.out], KX.out.own (fun i hi => by simp at hi; have := K3.out.size; omega) hX'⟩
end Go.Proofs.Ytgialpjdfeldeaa

/-! Chapter 9 in plain: how many slots a sound tree has; fuel that suffices. -/
namespace Go.Proofs.Ytgialpjdfeldeaa
open Go.RowKit

theorem freeN_take {N : Nat} {t : Tk} {a : Nat} : ∀ (n : Nat), a + n ≤ N → freeB t a n = true → freeN N (takeT t a n) + n ≤ freeN N t
  | 0, _, _ => by rw [takeT_zero]; exact Nat.le_refl _
  | n + 1, h, hf => by
    rw [freeB_succ] at hf
    simp only [Bool.and_eq_true] at hf
    have ih := freeN_take (N := N) (t := t) (a := a) n (by omega) hf.1
    have h1 : freeN N (takeT t a (n + 1)) < freeN N (takeT t a n) := by
      refine countP_lt' _ _ ?_ N (a + n) (by omega) ?_ ?_
      · intro j hj
        simp only [takeT, Bool.not_or, Bool.and_eq_true] at hj ⊢
        refine ⟨hj.1, ?_⟩
        have := hj.2
        simp only [Bool.not_eq_true', decide_eq_false_iff_not] at this ⊢
        omega
      · simp [takeT]
      · have := hf.2
        rw [takeT_at]
        exact this
    omega
theorem take_count {N : Nat} {t u : Tk} {a n : Nat} (h : takeO N t a n = some u) : freeN N u + n ≤ freeN N t := by
  unfold takeO at h
  split at h
  · rename_i c
    simp only [Bool.and_eq_true, decide_eq_true_eq] at c
    simp only [Option.some.injEq] at h
    subst h
    exact freeN_take n c.1.2 c.2
  · cases h

theorem spotsF_more {s : Mst} : ∀ {f g : Nat} {x : Int}, Wf s f x → f ≤ g → spotsF s g x = spotsF s f x
  | 0, _, _, h, _ => h.elim
  | f + 1, 0, _, _, h => absurd h (by omega)
  | f + 1, g + 1, x, h, hg => by
    rw [spotsF_succ, spotsF_succ]
    unfold oneF
    have : ∀ (L : List (Int × Int)), (∀ p ∈ L, Wf s f (s.logicZ p.2)) → L.flatMap (fun p => (p.2, s.logicZ p.2) :: spotsF s g (s.logicZ p.2)) = L.flatMap (fun p => (p.2, s.logicZ p.2) :: spotsF s f (s.logicZ p.2)) := by
      intro L
      induction L with
      | nil => intro _; rfl
      | cons p L ih =>
        intro hL
        rw [List.flatMap_cons, List.flatMap_cons, ih (fun q hq => hL q (List.mem_cons_of_mem _ hq)), spotsF_more (hL p List.mem_cons_self) (by omega)]
    exact this _ h.2
theorem slotsL_tgt {s : Mst} {x : Int} (h : kd (tgt s x) = 3) : slotsL s (tgt s x) = slotsL s x := by
  unfold slotsL degN atN; rw [tgt_tgt h]
theorem Wf.down {s : Mst} (ho : s.ok) {f : Nat} {x : Int} (h : Wf s f x) (h3 : kd (tgt s x) = 3) : Wf s f (tgt s x) := by
  obtain ⟨g, rfl, h1, h2⟩ := h.pos
  refine ⟨⟨tgt_i64 ho h1.i64, ?_, ?_⟩, ?_⟩
  · rw [tgt_tgt h3]; exact h1.deg
  · intro h4; rw [h3] at h4; cases h4
  · rw [slotsL_tgt h3]; exact h2
theorem spotsF_tgt {s : Mst} {f : Nat} {x : Int} (h3 : kd (tgt s x) = 3) : spotsF s f (tgt s x) = spotsF s f x := by
  cases f with
  | zero => rfl
  | succ f => rw [spotsF_succ, spotsF_succ, slotsL_tgt h3]
theorem spotsF_none {s : Mst} {f : Nat} {x : Int} (h3 : kd (tgt s x) ≠ 3) : spotsF s f x = [] := by
  cases f with
  | zero => rfl
  | succ f => rw [spotsF_succ, slotsL_none h3]; rfl

theorem chain_count {s : Mst} {f a d : Nat} {lo hi : Int} (ih : ∀ (x lo hi : Int) (t u : Tk), I64 x → sndW s f x lo hi t = some u → (spotsF s f x).length + freeN (s.xs.length + 1) u ≤ freeN (s.xs.length + 1) t) (ho : s.ok) :
    ∀ (n : Nat) (t u : Tk), chain (kidG s (sndW s f) a d lo hi) n t = some u → (((List.range n).map (fun i : Nat => ((i : Int), childS a d i))).flatMap (oneF s f)).length + freeN (s.xs.length + 1) u ≤ n + freeN (s.xs.length + 1) t
  | 0, t, u, h => by simp [chain] at h; subst h; simp
  | n + 1, t, u, h => by
    rw [chain, Option.bind_eq_some_iff] at h
    obtain ⟨v, h1, h2⟩ := h
    have i1 := chain_count ih ho n t v h1
    unfold kidG sndSlot at h2
    split at h2
    · have i2 := ih _ _ _ _ _ (ho.logic _) h2
      rw [List.range_succ, List.map_append, List.flatMap_append, List.length_append]
      simp only [List.map_cons, List.map_nil, List.flatMap_cons, List.flatMap_nil, List.append_nil, oneF, List.length_cons] at i1 ⊢
      omega
    · cases h2
theorem spots_count {s : Mst} (ho : s.ok) : ∀ (f : Nat) (x lo hi : Int) (t u : Tk), I64 x → sndW s f x lo hi t = some u → (spotsF s f x).length + freeN (s.xs.length + 1) u ≤ freeN (s.xs.length + 1) t
  | 0, _, _, _, _, _, _, h => by cases h
  | f + 1, x, lo, hi, t, u, hx, h => by
    have ih := spots_count ho f
    have hm := sndW_free s (f + 1) x lo hi t u h
    have hwf := wf_of_snd ho (f + 1) x lo hi t u hx h
    rw [sndW_succ] at h
    have plain : kd x ≠ 3 → kd x ≠ 4 → (spotsF s (f + 1) x).length + freeN (s.xs.length + 1) u ≤ freeN (s.xs.length + 1) t := fun h3 h4 => by
      rw [spotsF_none (by rw [tgt, if_neg h4]; exact h3)]
      simpa using hm
    split at h
    · rename_i k; exact plain (by omega) (by omega)
    · split at h
      · rename_i k; exact plain (by omega) (by omega)
      · split at h
        · rename_i k3
          have e : tgt s x = x := by rw [tgt, if_neg (by omega)]
          have ha := ad_range x
          have ea : (((ad x).toNat : Nat) : Int) = ad x := by omega
          unfold sndInner at h
          rw [ea] at h
          split at h
          · cases h
          · rename_i hd
            rw [Option.bind_eq_some_iff] at h
            obtain ⟨t1, h1, h2⟩ := h
            split at h2
            · have c1 := take_count h1
              have c2 := chain_count ih ho _ _ _ h2
              have e3 : slotsL s x = (List.range (s.look (ad x)).toNat).map (fun i : Nat => ((i : Int), childS (ad x).toNat (s.look (ad x)).toNat i)) := by
                unfold slotsL degN atN
                rw [e, if_pos k3]
              rw [spotsF_succ, e3]
              omega
            · cases h2
        · split at h
          · rename_i k4
            split at h
            · rename_i k3
              rw [Option.bind_eq_some_iff] at h
              obtain ⟨t1, h1, h2⟩ := h
              have c1 := take_count h1
              have e : tgt s x = s.look (ad x) := by rw [tgt, if_pos k4]
              have hw2 := wf_of_snd ho f _ _ _ _ _ (ho.look _) h2
              have c2 := ih _ _ _ _ _ (ho.look _) h2
              rw [← spotsF_tgt (by rw [e]; exact k3), e, spotsF_more hw2 (by omega)]
              omega
            · cases h
          · cases h
theorem spotsL_len {s : Mst} (ho : s.ok) (h : soundB s = true) : (spotsL s (fuel s)).length ≤ 70000 := by
  unfold soundB at h
  simp only [Bool.and_eq_true] at h
  have h4 := h.2
  cases e : sndSlot s (sndW s (fuel s)) 6 (-9223372036854775808) 9223372036854775807 base0 with
  | none => rw [e] at h4; cases h4
  | some u =>
    unfold sndSlot at e
    split at e
    · have := spots_count ho _ _ _ _ _ _ (ho.logic _) e
      have h1 := freeN_le (s.xs.length + 1) base0
      have h2 := ho.2
      unfold spotsL
      rw [List.length_cons]
      omega
    · cases e

/-- The words that a sound tree has: each is one of the four kinds, its Inner shut or open. -/
def WordOk (s : Mst) (x : Int) : Prop := 1 ≤ kd x ∧ kd x ≤ 4 ∧ (kd x = 3 → shutB s (ad x).toNat = true)
theorem wordOk_of_snd {s : Mst} : ∀ (f : Nat) (x lo hi : Int) (t u : Tk), sndW s f x lo hi t = some u → WordOk s x
  | 0, _, _, _, _, _, h => by cases h
  | f + 1, x, lo, hi, t, u, h => by
    rw [sndW_succ] at h
    split at h
    · rename_i k; exact ⟨by omega, by omega, fun h' => by omega⟩
    · split at h
      · rename_i k; exact ⟨by omega, by omega, fun h' => by omega⟩
      · split at h
        · rename_i k
          refine ⟨by omega, by omega, fun _ => ?_⟩
          unfold sndInner at h
          split at h
          · cases h
          · rw [Option.bind_eq_some_iff] at h
            obtain ⟨t1, _, h2⟩ := h
            split at h2
            · rename_i c
              simp only [Bool.and_eq_true] at c
              exact c.2
            · cases h2
        · split at h
          · rename_i k; exact ⟨by omega, by omega, fun h' => by omega⟩
          · cases h
theorem spots_ok {s : Mst} (ho : s.ok) : ∀ (f : Nat) (x lo hi : Int) (t u : Tk), I64 x → sndW s f x lo hi t = some u → ∀ p ∈ spotsF s f x, WordOk s p.2 ∧ p.2 = s.logicZ p.1
  | 0, _, _, _, _, _, _, h => by cases h
  | f + 1, x, lo, hi, t, u, hx, h => by
    have ih := spots_ok ho f
    have kids : ∀ (a d n : Nat) (lo hi : Int) (t u : Tk), chain (kidG s (sndW s f) a d lo hi) n t = some u → ∀ p ∈ ((List.range n).map (fun i : Nat => ((i : Int), childS a d i))).flatMap (oneF s f), WordOk s p.2 ∧ p.2 = s.logicZ p.1 := by
      intro a d n lo hi t u hc p hp
      rw [List.mem_flatMap] at hp
      obtain ⟨q, hq, hp⟩ := hp
      rw [List.mem_map] at hq
      obtain ⟨i, hi', rfl⟩ := hq
      simp only [List.mem_range] at hi'
      obtain ⟨l, h', t', u', h3⟩ := chain_all hc i hi'
      unfold oneF at hp
      rcases List.mem_cons.1 hp with rfl | hp
      · exact ⟨wordOk_of_snd f _ _ _ _ _ h3, rfl⟩
      · exact ih _ _ _ _ _ (ho.logic _) h3 p hp
    rw [sndW_succ] at h
    have plain : kd x ≠ 3 → kd x ≠ 4 → ∀ p ∈ spotsF s (f + 1) x, WordOk s p.2 ∧ p.2 = s.logicZ p.1 := fun h3 h4 p hp => by
      rw [spotsF_none (by rw [tgt, if_neg h4]; exact h3)] at hp
      cases hp
    split at h
    · rename_i k; exact plain (by omega) (by omega)
    · split at h
      · rename_i k; exact plain (by omega) (by omega)
      · split at h
        · rename_i k3
          have e : tgt s x = x := by rw [tgt, if_neg (by omega)]
          have ha := ad_range x
          have ea : (((ad x).toNat : Nat) : Int) = ad x := by omega
          unfold sndInner at h
          rw [ea] at h
          split at h
          · cases h
          · rw [Option.bind_eq_some_iff] at h
            obtain ⟨t1, h1, h2⟩ := h
            split at h2
            · have e3 : slotsL s x = (List.range (s.look (ad x)).toNat).map (fun i : Nat => ((i : Int), childS (ad x).toNat (s.look (ad x)).toNat i)) := by
                unfold slotsL degN atN
                rw [e, if_pos k3]
              rw [spotsF_succ, e3]
              exact kids _ _ _ _ _ _ _ h2
            · cases h2
        · split at h
          · rename_i k4
            split at h
            · rename_i k3
              rw [Option.bind_eq_some_iff] at h
              obtain ⟨t1, h1, h2⟩ := h
              have e : tgt s x = s.look (ad x) := by rw [tgt, if_pos k4]
              have hw2 := wf_of_snd ho f _ _ _ _ _ (ho.look _) h2
              rw [← spotsF_tgt (by rw [e]; exact k3), e, spotsF_more hw2 (by omega)]
              exact ih _ _ _ _ _ (ho.look _) h2
            · cases h
          · cases h
theorem spotsL_ok {s : Mst} (ho : s.ok) (h : soundB s = true) : ∀ p ∈ spotsL s (fuel s), WordOk s p.2 ∧ p.2 = s.logicZ p.1 := by
  unfold soundB at h
  simp only [Bool.and_eq_true] at h
  have h4 := h.2
  cases e : sndSlot s (sndW s (fuel s)) 6 (-9223372036854775808) 9223372036854775807 base0 with
  | none => rw [e] at h4; cases h4
  | some u =>
    unfold sndSlot at e
    split at e
    · intro p hp
      rcases List.mem_cons.1 hp with rfl | hp
      · exact ⟨wordOk_of_snd _ _ _ _ _ _ e, rfl⟩
      · exact spots_ok ho _ _ _ _ _ _ (ho.logic _) e p hp
    · cases e
end Go.Proofs.Ytgialpjdfeldeaa

/-! The program's Spots (slices.Collect of spots), appendLeaf, pairsBelow, Content. -/
namespace Go.Proofs.Ytgialpjdfeldeaa
open Go.RowKit Go.Shelf

attribute [local go_sem] Oper.semAt_some

/-- A new slice of these pairs. -/
def PSliced (E : TypeId) (xs : List (Int × Int)) (w : World) (e : Ending) (w' : World) : Prop := ∃ v, e = .returned v ∧ PRow w' w.heap.size E v xs ∧ Kept w w'

end Go.Proofs.Ytgialpjdfeldeaa

/-! The program's appendLeaf, pairsBelow, Content. -/
namespace Go.Proofs.Ytgialpjdfeldeaa
open Go.RowKit Go.Shelf

attribute [local go_sem] Oper.semAt_some

/-- The pair of a word, if it is a Leaf's. -/
def leafL (s : Mst) (x : Int) : List (Int × Int) := if kd x = 2 then [(s.look (ad x), s.look (ad x + 1))] else []
theorem leafL_len (s : Mst) (x : Int) : (leafL s x).length ≤ 1 := by unfold leafL; split <;> simp
/-- What lies below a word. -/
def pairsF (s : Mst) (f : Nat) (x : Int) : List (Int × Int) := leafL s x ++ (spotsF s f x).flatMap (fun p => leafL s p.2)
def contentB (s : Mst) (x : Int) : List (Int × Int) := if inTreeB s x = true then pairsF s (fuel s) x else []
theorem leaves_len (s : Mst) (L : List (Int × Int)) : (L.flatMap (fun p => leafL s p.2)).length ≤ L.length := by
  induction L with
  | nil => simp
  | cons p L ih =>
    have := leafL_len s p.2
    rw [List.flatMap_cons, List.length_append, List.length_cons]
    omega

/-- What an append of a Leaf's pair leaves. -/
def AppPost (W : World) (n₀ : Nat) (v : Value) (ys : List (Int × Int)) (e : Ending) (W' : World) : Prop :=
  ∃ v', e = .returned v' ∧ PRow W' n₀ 30 v' ys ∧ Turned (fun k => v.ownBlock = some k) W W' ∧ (v'.ownBlock = v.ownBlock ∨ ∃ k, v'.ownBlock = some k ∧ W.heap.size ≤ k)
theorem appendLeaf_p (W : World) (b : Nat) (s : Mst) (x : Int) (n₀ : Nat) (v : Value) (xs ys : List (Int × Int)) (h : PM W b s) (hx : I64 x) (hr : PRow W n₀ 30 v xs) (hl : xs.length ≤ 1000000) (hn : n₀ ≤ W.heap.size) (e1 : ys = xs ++ leafL s x) :
    Calls Try.prog 95 #[v, .pointer (some ⟨b, 0, none⟩), .int .i64 x] W (AppPost W n₀ v ys) := by
  have H := hide h
  have HX := hide hx
  have HR := hide hr
  have HL := hide hl
  have HN := hide hn
  obtain ⟨k, hk⟩ : ∃ k, kd x = k := ⟨_, rfl⟩
  obtain ⟨p, hp⟩ : ∃ p, ad x = p := ⟨_, rfl⟩
  have pr := ad_range x
  rw [hp] at pr
  obtain ⟨p0, p1⟩ := pr
  have HK := hide hk
  have HP := hide hp
  obtain ⟨la, lc, hv, _⟩ := hr.reads
  obtain ⟨M, hM⟩ : ∃ M, xs.length = M := ⟨_, rfl⟩
  rw [hM] at hv
  by_cases k2 : k = 2
  · obtain ⟨z, hz⟩ : ∃ z, s.look p = z := ⟨_, rfl⟩
    obtain ⟨u, hu⟩ : ∃ u, s.look (p + 1) = u := ⟨_, rfl⟩
    have HZ := hide hz
    have HU := hide hu
    have HE : Hid (ys = xs ++ [(z, u)]) := hide (by rw [e1, leafL, if_pos (by rw [hk]; exact k2), hp, hz, hu])
    subst hv k2
    clear h hx hr hl hn hk hp e1 hM hz hu
    go_enter Try.func95, Try.ntmps95
    go_wp2_with (fail)
    refine (kk_p _ x 2 HX.out HK.out).mono ?_
    rintro e w' ⟨rfl, rfl⟩
    go_wp2_with (fail)
    refine (ak_p _ x p HX.out HP.out).mono ?_
    rintro e w' ⟨rfl, rfl⟩
    go_wp2_with (fail)
    refine (lk_p _ b s _ z H.out (by first | exact HZ.out | simpa using HZ.out)).mono ?_
    rintro e w' ⟨rfl, rfl⟩
    go_wp2_with (fail)
    refine (lk_p _ b s (p + 1) u H.out HU.out).mono ?_
    rintro e w' ⟨rfl, rfl⟩
    go_wp2_with (at_builtin; refine Stop.out ?_)
    refine ⟨?_⟩
    have HRA := hide (HR.out.kept (Kept.alloc (Kept.refl W) (.cells #[.int .i64 z, .int .i64 u] 30)))
    have HNW : Hid ((W.alloc (.cells #[.int .i64 z, .int .i64 u] 30)).heap[W.heap.size]? = some (.cells #[.int .i64 z, .int .i64 u] 30)) := hide (heap_new _ _)
    refine wpList_append_pair ptP rfl _ _ rfl n₀ _ xs ys rfl HRA.out W.heap.size z u rfl HNW.out HL.out (by have := HN.out; simp; omega) HE.out ?_
    intro v1 W1 hown hg hat
    have T1 : Hid (Turned (fun k => (Value.slice la M lc).ownBlock = some k) W W1) := hide ((Turned.alloc (fun _ => False) W _).trans (Turned.of_grownBy (R := fun k => (Value.slice la M lc).ownBlock = some k) hg (fun _ h => h)) (fun _ h => h.elim) (fun _ _ h => h))
    have HR1 := hide hown
    have HAT : Hid (v1.ownBlock = (Value.slice la M lc).ownBlock ∨ ∃ k, v1.ownBlock = some k ∧ W.heap.size ≤ k) := hide (by
      rcases hat with h | h
      · exact .inl h
      · exact .inr ⟨_, h, by simp⟩)
    clear hown hg hat HRA HNW
    go_wp2
    go_ret
    exact ⟨_, rfl, HR1.out, T1.out, HAT.out⟩
  · have HE : Hid (ys = xs) := hide (by rw [e1, leafL, if_neg (by rw [hk]; exact k2), List.append_nil])
    have g1 : (k == 2) = false := by simp [k2]
    have g2 : (k != 2) = true := by simp [k2]
    subst hv
    clear h hx hr hl hn hk hp e1 hM k2
    go_enter Try.func95, Try.ntmps95
    go_wp2_with (fail)
    refine (kk_p _ x k HX.out HK.out).mono ?_
    rintro e w' ⟨rfl, rfl⟩
    go_wp2
    go_ret
    exact ⟨_, rfl, by rw [HE.out]; exact HR.out, Turned.refl _ _, .inl rfl⟩

/-- What a box with a slice of pairs is, once another slice is laid there. -/
theorem grew_set {W W' : World} {n₀ b : Nat} {v v' : Value} {xs ys : List (Int × Int)} (h : Pst 31 30 W n₀ b v xs) (hr : PRow W' n₀ 30 v' ys) (ht : Turned (fun k => v.ownBlock = some k) W W') (hnew : v'.ownBlock = v.ownBlock ∨ ∃ k, v'.ownBlock = some k ∧ W.heap.size ≤ k) :
    Boxed W' b 31 v ∧ Grew 31 30 n₀ b v ys W (W'.setCell ⟨b, 0, none⟩ v') := by
  have nb : v.ownBlock ≠ some b := by
    intro e
    rcases h.row.2 with ⟨rfl, _⟩ | ⟨g, cap, cur, rfl, _, hg, _⟩
    · simp [Value.ownBlock] at e
    · obtain rfl : g = b := by simpa [Value.ownBlock] using e
      have := (show W.heap[g]? = _ from h.box).symm.trans hg
      simp at this
  have nb' : v'.ownBlock ≠ some b := by
    rcases hnew with e | ⟨k, e, hk⟩
    · rw [e]; exact nb
    · rw [e]
      have := h.box.lt
      intro e'
      cases e'
      omega
  have hb : Boxed W' b 31 v := ht.boxed h.box (fun e => nb e)
  have tS : Turned (fun k => k = b) W' (W'.setCell ⟨b, 0, none⟩ v') := Turned.setCell _ _ _ rfl
  refine ⟨hb, v', ⟨h.le, hb.set v', hr.turned tS (fun g hg e => nb' (by rw [hg, e]))⟩, ?_, ?_⟩
  · exact (ht.mono (fun k _ e => .inr e)).trans tS (fun _ e => e) (fun k _ e => .inl e)
  · rintro k (rfl | hk)
    · exact .inl (.inl rfl)
    · rcases hnew with e | ⟨j, e, hj⟩
      · exact .inl (.inr (by rw [← e]; exact hk))
      · rw [e] at hk
        cases hk
        exact .inr hj

set_option maxHeartbeats 1000000 in
theorem pairsBelow_p (w : World) (b : Nat) (s : Mst) (h : PM w b s) (ho : s.ok) (f : Nat) (x : Int) (hw : Wf s f x) (hl : (spotsF s f x).length ≤ 70000) (zs : List (Int × Int)) (e1 : pairsF s f x = zs) :
    Calls Try.prog 64 #[.pointer (some ⟨b, 0, none⟩), .int .i64 x] w (PSliced 30 zs w) := by
  obtain ⟨n, hn⟩ : ∃ n, w.heap.size = n := ⟨_, rfl⟩
  obtain ⟨W1, hW1⟩ : ∃ W1, w.alloc (.cells #[.pointer (some ⟨b, 0, none⟩)] 22) = W1 := ⟨_, rfl⟩
  have t1 : Kept w W1 := by rw [← hW1]; exact (Kept.refl w).alloc _
  have z1 : W1.heap.size = n + 1 := by rw [← hW1]; simp [hn]
  have bM : Boxed W1 n 22 (.pointer (some ⟨b, 0, none⟩)) := by rw [← hW1, ← hn]; exact Boxed.new w 22 _
  have K1 := hide t1
  have BM := hide bM
  have c0 := bM.cell
  have H := hide h
  have HO := hide ho
  have HW := hide hw
  have HX := hide (hw.pos.elim fun _ h => h.2.1.i64)
  have HL := hide hl
  have HN := hide hn
  have Z1 := hide z1
  have HE := hide e1
  clear t1 bM h ho hw hl e1 z1
  refine calls_marks Try.func64 rfl ?_
  simp only [Try.ntmps64, List.size_toArray, List.length_cons, List.length_nil, Nat.reduceAdd, Nat.reduceSub, Array.replicate_succ, Array.replicate_zero, List.push_toArray, List.append_toArray, List.nil_append, List.cons_append]
  go_wp2_with (fail)
  clear hW1 hn
  refine (appendLeaf_p W1 b s x n (.slice none 0 0) [] (leafL s x) (H.out.kept K1.out) HX.out (PRow.nil _ _ _) (by simp) (by have := Z1.out; omega) rfl).mono ?_
  rintro e W2 ⟨v2, rfl, r2, t2, _⟩
  have k2 : Kept W1 W2 := t2.mono (fun k _ e => by simp [Value.ownBlock] at e)
  obtain ⟨la, lc, hv, _⟩ := r2.reads
  obtain ⟨M, hM⟩ : ∃ M, (leafL s x).length = M := ⟨_, rfl⟩
  rw [hM] at hv
  subst hv
  clear hM
  obtain ⟨W3, hW3⟩ : ∃ W3, W2.alloc (.cells #[.slice la M lc] 31) = W3 := ⟨_, rfl⟩
  obtain ⟨m, hm⟩ : ∃ m, W2.heap.size = m := ⟨_, rfl⟩
  have t3 : Kept W2 W3 := by rw [← hW3]; exact (Kept.refl W2).alloc _
  have P3 : Hid (Pst 31 30 W3 n m (.slice la M lc) (leafL s x)) := hide ⟨by have := k2.size; have := Z1.out; omega, by rw [← hW3, ← hm]; exact Boxed.new W2 31 _, r2.kept t3⟩
  have K3 := hide (K1.out.trans (k2.trans t3))
  have BM3 := hide ((k2.trans t3).boxed BM.out id)
  have c0' := BM3.out.cell
  have Z3 : Hid (n + 1 ≤ m ∧ W3.heap.size = m + 1) := hide ⟨by have := k2.size; have := Z1.out; omega, by rw [← hW3]; simp [hm]⟩
  clear r2 t2 k2 t3 c0 BM K1
  go_wp2_with (fail)
  clear hW3 hm
  refine (below_k W3 b x).mono ?_
  rintro e W4 ⟨B1, B2, rfl, k4, b1, b2, l1, l2⟩
  have K4 := hide (K3.out.trans k4)
  have KW4 := hide k4
  have BM4 := hide (k4.boxed BM3.out id)
  have P4 := hide (P3.out.kept k4)
  have BB1 := hide b1
  have BB2 := hide b2
  have L1 : Hid (m + 1 ≤ B1 ∧ m + 1 ≤ B2 ∧ m + 1 ≤ W4.heap.size) := hide (by have := Z3.out; have := k4.size; omega)
  have FT : Hid (∀ k, Foot m (.slice la M lc) k → n ≤ k ∧ k < m + 1) := hide (fun k hk => by
    have := P3.out.lt k hk
    have := Z3.out
    omega)
  have NM : Hid (¬ Foot m (.slice la M lc) n) := hide (by
    rintro (h | h)
    · have := Z3.out; omega
    · rcases P3.out.row.2 with ⟨e, _⟩ | ⟨g, cap, cur, e, _, hg, _⟩
      · cases e; simp [Value.ownBlock] at h
      · cases e
        obtain rfl : g = n := by simpa [Value.ownBlock] using h
        have := (show W3.heap[g]? = _ from BM3.out).symm.trans hg
        simp at this)
  clear k4 b1 b2 l1 l2 c0'
  go_wp2_with (fail)
  refine wp_range3 (gf := 106) rfl (enters_of Try.func106 (by kernel_rfl) rfl) (encs := encS) (xs := spotsF s f x) (R := SlotR w B1 B2)
    (fun X hX => below_i w X (K4.out.trans hX) b s H.out HO.out f x HW.out B1 B2 (hX.boxed BB1.out id) (hX.boxed BB2.out id)) (fun _ => rfl)
    (Foot m (.slice la M lc)) (Coll 31 30 n m (fun pre => leafL s x ++ pre.flatMap (fun p => leafL s p.2))) (fun _ _ _ _ => False) ?hR (Coll.good _ _ _ _ _) (fun _ => good_false) ⟨_, fun _ => Iff.rfl, by simpa using P4.out⟩ (fun p => #[.int .i64 p.1, .int .i64 p.2]) 86 ?ab ?done (fun _ _ _ _ _ _ _ _ _ _ _ h => h.elim)
  case hR =>
    rintro k (hk | rfl | rfl)
    · have h1 := HN.out
      have h2 := K4.out.size
      refine ⟨by omega, fun h => ?_⟩
      have := FT.out k h
      omega
    · refine ⟨BB1.out.lt, fun h => ?_⟩
      have := FT.out _ h
      have := L1.out
      omega
    · refine ⟨BB2.out.lt, fun h => ?_⟩
      have := FT.out _ h
      have := L1.out
      omega
  case ab =>
    apply Exists.intro
    refine ⟨?_, ?_⟩
    · intro l' p X m K hm hK
      gi_wp2
      exact hK
    · rintro l' O pre ⟨sl, y⟩ rest B q hx' tB sB ⟨v, hO, hp⟩ hq nOq hWq
      have hmem : (sl, y) ∈ spotsF s f x := by rw [hx']; simp
      have HYI := hide (spotsF_i64 HO.out f x _ hmem)
      have hpl : pre.length ≤ 70000 := by
        have := congrArg List.length hx'
        simp at this
        have := HL.out
        omega
      have hyl : Hid ((leafL s x ++ pre.flatMap (fun p => leafL s p.2)).length ≤ 1000000) := hide (by
        have h1 := leafL_len s x
        have h2 := leaves_len s pre
        rw [List.length_append]
        omega)
      have KB : Hid (Kept w B) := hide (K4.out.own (O := Foot m (.slice la M lc)) (fun i hi => by have := FT.out i hi; have := HN.out; omega) tB)
      have MB := hide (H.out.kept KB.out)
      have cM := (tB.boxed BM4.out NM.out).cell
      have cX := hp.box.cell
      have cm1 : B.cell? ⟨q, 1, none⟩ = some (.int .i64 y) := by simp [World.cell?, hq]
      have HOO := hide hO
      have HPP := hide hp
      obtain ⟨va, vc, hv, _⟩ := hp.row.reads
      obtain ⟨N, hNN⟩ : ∃ N, (leafL s x ++ pre.flatMap (fun p => leafL s p.2)).length = N := ⟨_, rfl⟩
      rw [hNN] at hv
      subst hv
      have zB : Hid (n ≤ B.heap.size) := hide (by have := KB.out.size; have := HN.out; omega)
      have HYS : Hid (leafL s x ++ List.flatMap (fun p => leafL s p.2) (pre ++ [(sl, y)]) = (leafL s x ++ pre.flatMap (fun p => leafL s p.2)) ++ leafL s y) := hide (by simp)
      clear hx' tB sB hO hp hq nOq hWq hmem hNN
      gi_wp2_with (fail)
      refine ⟨trivial, ?_⟩
      refine (CallsIn.inRound l' (callsIn_wide.2 (appendLeaf_p B b s y n (.slice va N vc) _ _ MB.out HYI.out HPP.out.row hyl.out zB.out HYS.out))).mono ?_
      rintro e C ⟨v', rfl, r', t', hnew⟩
      obtain ⟨hb1, hg⟩ := grew_set HPP.out r' t' hnew
      obtain ⟨va', vc', hv', _⟩ := r'.reads
      obtain ⟨N', hN'⟩ : ∃ N', (leafL s x ++ List.flatMap (fun p => leafL s p.2) (pre ++ [(sl, y)])).length = N' := ⟨_, rfl⟩
      rw [hN'] at hv'
      subst hv'
      have hc1 := hb1.cell
      have hf1 := hb1.frozen
      have HG := hide hg
      clear hg r' t' hnew cX hN'
      gi_wp2
      exact Coll.next HOO.out HG.out rfl
  case done =>
    rintro D O X hD nD tX sX ⟨v, hO, hp⟩ hK
    have cX := hp.box.cell
    have HK := hide hK
    have HPP := hide hp
    have ND : Hid (¬ Foot m v D) := hide (fun h => nD ((hO D).2 h))
    have KX : Hid (Kept w X) := hide (K4.out.own (O := Foot m (.slice la M lc)) (fun i hi => by have := FT.out i hi; have := HN.out; omega) tX)
    have HDn : Hid (n ≤ D) := hide (by have := L1.out; have := Z3.out; omega)
    clear hK hp hO nD tX sX
    go_wp2
    refine leave_marks [D] X ?_ ?_ ?_
    · intro k hk
      simp at hk
      rw [hk]
      exact HK.out
    · simp
    · intro X' hX'
      refine ⟨_, results_tmp rfl _ _ _, v, rfl, ?_, ?_⟩
      · rw [HN.out, ← HE.out]
        exact HPP.out.row.turned hX' (fun g hg h => ND.out (.inr (by simp at h; rw [← h]; exact hg)))
      · exact KX.out.own (fun i hi => by simp at hi; have := HDn.out; have := HN.out; omega) hX'

theorem wf_spots {s : Mst} : ∀ {f : Nat} {x : Int}, Wf s f x → ∀ p ∈ spotsF s f x, Wf s f p.2
  | 0, _, h, _, _ => h.elim
  | f + 1, x, h, p, hp => by
    rw [spotsF_succ, List.mem_flatMap] at hp
    obtain ⟨q, hq, hp⟩ := hp
    have hq' := h.2 q hq
    unfold oneF at hp
    rcases List.mem_cons.1 hp with rfl | hp
    · exact hq'.mono (by omega)
    · exact (wf_spots hq' p hp).mono (by omega)
theorem wf_tgt {s : Mst} (ho : s.ok) {f : Nat} {x : Int} (h : Wf s f x) : Wf s f (tgt s x) := by
  by_cases h4 : kd x = 4
  · obtain ⟨g, rfl, h1, _⟩ := h.pos
    exact h.down ho (h1.tg h4)
  · rw [tgt, if_neg h4]; exact h
theorem spotsF_sub {s : Mst} : ∀ {f : Nat} {x : Int}, Wf s f x → ∀ p ∈ spotsF s f x, (spotsF s f p.2).length ≤ (spotsF s f x).length
  | 0, _, h, _, _ => h.elim
  | f + 1, x, h, p, hp => by
    rw [spotsF_succ, List.mem_flatMap] at hp
    obtain ⟨q, hq, hp⟩ := hp
    have hq' := h.2 q hq
    have hle : (oneF s f q).length ≤ (spotsF s (f + 1) x).length := by
      rw [spotsF_succ]
      obtain ⟨L1, L2, e⟩ := List.append_of_mem hq
      rw [e, List.flatMap_append, List.flatMap_cons, List.length_append, List.length_append]
      omega
    unfold oneF at hp hle
    rw [List.length_cons] at hle
    rcases List.mem_cons.1 hp with rfl | hp
    · rw [spotsF_more hq' (by omega)]
      omega
    · have := spotsF_sub hq' p hp
      rw [spotsF_more (wf_spots hq' p hp) (by omega)]
      omega
/-- A word of the tree is well-founded, and not too much is below it. -/
theorem inTree_wf {s : Mst} (ho : s.ok) {x : Int} (h : inTreeB s x = true) : Wf s (fuel s) x ∧ (spotsF s (fuel s) x).length ≤ 70000 := by
  unfold inTreeB at h
  rw [Bool.and_eq_true] at h
  obtain ⟨hs, ha⟩ := h
  have hr := wf_root ho hs
  have hlen := spotsL_len ho hs
  rw [spotsL, List.length_cons] at hlen
  have all : ∀ p ∈ spotsL s (fuel s), Wf s (fuel s) p.2 ∧ (spotsF s (fuel s) p.2).length ≤ 70000 := by
    intro p hp
    rcases List.mem_cons.1 hp with rfl | hp
    · exact ⟨hr, by show (spotsF s (fuel s) (s.logicZ 6)).length ≤ 70000; omega⟩
    · exact ⟨wf_spots hr p hp, Nat.le_trans (spotsF_sub hr p hp) (by omega)⟩
  obtain ⟨p, hp, hm⟩ := List.any_eq_true.1 ha
  obtain ⟨h1, h2⟩ := all p hp
  unfold meetB at hm
  simp only [Bool.or_eq_true, beq_iff_eq] at hm
  rcases hm with rfl | rfl
  · exact ⟨h1, h2⟩
  · refine ⟨wf_tgt ho h1, ?_⟩
    by_cases h4 : kd p.2 = 4
    · obtain ⟨g, hg, h1', _⟩ := h1.pos
      rw [spotsF_tgt (h1'.tg h4)]
      exact h2
    · rw [tgt, if_neg h4]; exact h2

theorem content_p (w : World) (b : Nat) (s : Mst) (x : Int) (h : PM w b s) (ho : s.ok) (hx : I64 x) (zs : List (Int × Int)) (e1 : contentB s x = zs) :
    Calls Try.prog 34 #[.pointer (some ⟨b, 0, none⟩), .int .i64 x] w (PSliced 30 zs w) := by
  have H := hide h
  have HO := hide ho
  have HX := hide hx
  obtain ⟨q, hq⟩ : ∃ q, inTreeB s x = q := ⟨_, rfl⟩
  have HQ := hide hq
  unfold contentB at e1
  rw [hq] at e1
  cases q with
  | false =>
    have HE : Hid (zs = []) := hide (by rw [← e1]; rfl)
    clear h ho hx hq e1
    go_enter Try.func34, Try.ntmps34
    go_wp2_with (fail)
    refine (isInTree_p _ b s x H.out HO.out HX.out false HQ.out).mono ?_
    rintro e W2 ⟨rfl, k2⟩
    have K2 := hide k2
    clear k2
    go_wp2
    go_ret
    exact ⟨_, rfl, by rw [HE.out]; exact PRow.nil _ _ _, K2.out⟩
  | true =>
    have HE : Hid (pairsF s (fuel s) x = zs) := hide e1
    clear h ho hx hq e1
    go_enter Try.func34, Try.ntmps34
    go_wp2_with (fail)
    refine (isInTree_p _ b s x H.out HO.out HX.out true HQ.out).mono ?_
    rintro e W2 ⟨rfl, k2⟩
    have K2 := hide k2
    clear k2
    go_wp2_with (fail)
    refine (pairsBelow_p W2 b s (H.out.kept K2.out) HO.out (fuel s) x (inTree_wf HO.out HQ.out).1 (inTree_wf HO.out HQ.out).2 zs HE.out).mono ?_
    rintro e W3 ⟨v, rfl, hr, k3⟩
    have HR := hide (hr.low K2.out.size)
    have K3 := hide (K2.out.trans k3)
    clear hr k3
    go_wp2
    go_ret
    exact ⟨_, rfl, HR.out, K3.out⟩
end Go.Proofs.Ytgialpjdfeldeaa

/-! A region that draws its order, in two parts: plain operations that all stand ahead of one loud one (a call that turns the world), and what comes behind it, walked in another class of worlds ('region_two': the order and the barrier are handed in). Conditions: each theorem's own. -/
namespace Go.Proofs.Ytgialpjdfeldeaa
open Go.RowKit

section
variable {P : Program} {ops : Array Oper} {Q : Exit → Act → World → Prop} {md : Region.Mode} {C : World → Prop} {n : Nat}

/-- What is done has all done that it waits for. -/
def Closed (md : Region.Mode) (ops : Array Oper) (listed : Array Bool) : Prop :=
  ∀ (j : Nat) (o : Oper), ops[j]? = some o → listed.getD j false = true → ∀ e ∈ o.after, Region.binds md e = true → listed.getD e.on false = true
theorem closed_start (m : Nat) : Closed md ops (Array.replicate m false) := fun j o _ h => by
  exfalso
  rcases Nat.lt_or_ge j m with h' | h'
  · simp [h'] at h
  · simp [Nat.not_lt.2 h'] at h
theorem closed_step {listed : Array Bool} {j : Nat} (h : Closed md ops listed) (hj : j ∈ Region.ready md ops listed) : Closed md ops (listed.setIfInBounds j true) := by
  intro k o hk hl e he hb
  by_cases hkj : j = k
  · subst hkj
    obtain ⟨_, o', ho', hall⟩ := mem_ready.1 hj
    rw [hk] at ho'
    cases ho'
    exact getD_set_true (hall e he hb)
  · rw [getD_set_ne false hkj] at hl
    exact getD_set_true (h k o hk hl e he hb)

/-- p stands ahead of i. -/
inductive Anc (md : Region.Mode) (ops : Array Oper) : Nat → Nat → Prop
  | direct {i : Nat} {o : Oper} {e : Edge} : ops[i]? = some o → e ∈ o.after → Region.binds md e = true → Anc md ops e.on i
  | trans {p q i : Nat} : Anc md ops p q → Anc md ops q i → Anc md ops p i
theorem anc_done {listed : Array Bool} (hc : Closed md ops listed) {p i : Nat} (h : Anc md ops p i) : (∀ o, ops[i]? = some o → ∀ e ∈ o.after, Region.binds md e = true → listed.getD e.on false = true) → listed.getD p false = true := by
  induction h with
  | direct ho he hb => exact fun h => h _ ho _ he hb
  | trans _ _ ih1 ih2 => exact fun h => ih1 (fun o ho e he hb => hc _ o ho (ih2 h) e he hb)
def ancB (md : Region.Mode) (ops : Array Oper) : Nat → Nat → Nat → Bool
  | 0, _, _ => false
  | f + 1, p, i => match ops[i]? with
    | none => false
    | some o => o.after.any fun e => Region.binds md e && (e.on == p || ancB md ops f p e.on)
theorem ancB_sound : ∀ (f p i : Nat), ancB md ops f p i = true → Anc md ops p i
  | 0, _, _, h => by cases h
  | f + 1, p, i, h => by
    unfold ancB at h
    cases ho : ops[i]? with
    | none => rw [ho] at h; cases h
    | some o =>
      rw [ho] at h
      obtain ⟨e, he, hb⟩ := Array.any_eq_true'.1 h
      simp only [Bool.and_eq_true, Bool.or_eq_true, beq_iff_eq] at hb
      obtain ⟨h1, h2⟩ := hb
      have hd : Anc md ops e.on i := .direct ho he h1
      rcases h2 with h2 | h2
      · rw [← h2]
        exact hd
      · exact .trans (ancB_sound f p e.on h2) hd
theorem not_ready {listed : Array Bool} (hc : Closed md ops listed) {p i : Nat} (h : Anc md ops p i) (hp : p ∈ Region.ready md ops listed) : i ∉ Region.ready md ops listed := by
  intro hi
  obtain ⟨_, o, ho, hall⟩ := mem_ready.1 hi
  have h1 := anc_done hc h (fun o' ho' => by rw [ho] at ho'; cases ho'; exact hall)
  have h0 := (mem_ready.1 hp).1
  rcases Nat.lt_or_ge p listed.size with h' | h'
  · simp [h'] at h0 h1
    rw [h0] at h1
    cases h1
  · simp [Array.getElem?_eq_none h'] at h1

/-- Whatever order is picked, up to the barrier i; C holding behind every operation ahead of it. -/
def anyB (P : Program) (md : Region.Mode) (ops : Array Oper) (Q : Exit → Act → World → Prop) (C : World → Prop) (n i : Nat) : Nat → Array Bool → Act → World → Prop
  | 0, _, _, _ => False
  | fuel + 1, listed, a, w =>
    (Region.ready md ops listed = [] → Q .normal a w) ∧
    ∀ j ∈ Region.ready md ops listed, wpOpIn Fence.wide n P ops Q j (fun a' w' => if j = i then wpAnyIn Fence.wide n P md ops Q fuel (listed.setIfInBounds j true) a' w' else C w' ∧ anyB P md ops Q C n i fuel (listed.setIfInBounds j true) a' w') a w

theorem wpAnyIn_of_anyB {i : Nat} : ∀ (fuel : Nat) (listed : Array Bool) (a : Act) (w : World), anyB P md ops Q C n i fuel listed a w → wpAnyIn Fence.wide n P md ops Q fuel listed a w
  | 0, _, _, _, h => h.elim
  | fuel + 1, _, _, _, h => ⟨h.1, fun j hj => wpOpIn_mono (fun a' w' h' => by
      by_cases e : j = i
      · rw [if_pos e] at h'
        exact h'
      · rw [if_neg e] at h'
        exact wpAnyIn_of_anyB fuel _ a' w' h'.2) (h.2 j hj)⟩

theorem anyB_first {p i : Nat} {oi : Oper} {v : Value} (hi : ops[p]? = some oi) (hpi : p ≠ i) (hanc : Anc md ops p i) (hsel : ∀ (j : Nat) (o : Oper) cs b, ops[j]? = some o → o.op ≠ .select cs b)
    (hQ : ∀ c a w, Q (.panic c) (a.put oi.dst v) w → Q (.panic c) a w) :
    ∀ (fuel : Nat) (listed : Array Bool) (a : Act) (w : World), Closed md ops listed →
      (∀ j oj, ops[j]? = some oj → j ≠ p → listed.getD j true = false → (∀ e ∈ oj.after, Region.binds md e = true → e.on ≠ p) → oi.apart ops oj = true) →
      p ∈ Region.ready md ops listed → YieldsIf P ops C oi v a → C w →
      anyB P md ops Q C n i fuel (listed.setIfInBounds p true) (a.put oi.dst v) w → anyB P md ops Q C n i (fuel + 1) listed a w := by
  intro fuel
  induction fuel with
  | zero =>
    intro listed a w _ _ _ _ _ H
    exact H.elim
  | succ fuel ih =>
    intro listed a w hcl hfree hr hy hS H
    refine ⟨fun h => (by rw [h] at hr; cases hr), fun j hj => ?_⟩
    by_cases hjp : j = p
    · subst hjp
      refine yieldsIf_wpOpIn hi hy hS ?_
      rw [if_neg hpi]
      exact ⟨hS, H⟩
    · have hji : j ≠ i := fun e => not_ready hcl hanc hr (e ▸ hj)
      have h1 := H.2 j (ready_mono hj hjp)
      simp only [if_neg hji] at h1 ⊢
      obtain ⟨hjun, oj, hoj, hall⟩ := mem_ready.1 hj
      have hnot : ∀ e ∈ oj.after, Region.binds md e = true → e.on ≠ p := fun e he hb heq => by
        have h1 := hall e he hb
        have h0 := (mem_ready.1 hr).1
        rw [heq] at h1
        rcases Nat.lt_or_ge p listed.size with h' | h'
        · simp [h'] at h0 h1; rw [h0] at h1; cases h1
        · simp [Array.getElem?_eq_none h'] at h1
      have h2 := wpOpIn_putIf hoj (hfree j oj hoj hjp hjun hnot) (fun cs b => hsel p oi cs b hi) (fun cs b => hsel j oj cs b hoj) hQ hy h1
      have hfree' : ∀ k ok, ops[k]? = some ok → k ≠ p → (listed.setIfInBounds j true).getD k true = false →
          (∀ e ∈ ok.after, Region.binds md e = true → e.on ≠ p) → oi.apart ops ok = true := fun k ok hk hki hun hno => by
        refine hfree k ok hk hki ?_ hno
        by_cases hjk : j = k
        · subst hjk; exact hjun
        · rw [getD_set_ne true hjk] at hun; exact hun
      refine wpOpIn_mono (fun a' w' h3 => ⟨h3.2.1, ih (listed.setIfInBounds j true) a' w' (closed_step hcl hj) hfree' (ready_mono hr (Ne.symm hjp)) h3.1 h3.2.1 ?_⟩) h2
      rw [Array.setIfInBounds_comm _ _ hjp]
      exact h3.2.2

/-- The walk: the plain ones 'ps', the barrier i, then 'is' in the class C2. -/
def wpTwo (P : Program) (ops : Array Oper) (Q : Exit → Act → World → Prop) (C : World → Prop) (n i : Nat) (is : List Nat) : List Nat → Act → World → Prop
  | [], a, w => wpOpIn Fence.wide n P ops Q i (fun a' w' => ∃ S2 : World → Prop, S2 w' ∧ wpPerm P ops Q (fun V => ∃ x : Wd S2, V = x.w) n is a' w') a w
  | p :: ps, a, w => match ops[p]? with
    | none => False
    | some o => ∃ v, YieldsIf P ops C o v a ∧ wpTwo P ops Q C n i is ps (a.put o.dst v) w
def twoB (md : Region.Mode) (ops : Array Oper) (i : Nat) (is : List Nat) : List Nat → Array Bool → Bool
  | [], listed => Region.ready md ops listed == [i] && permB md ops is (listed.setIfInBounds i true)
  | p :: ps, listed => (match ops[p]? with | none => false | some o => plainOp o.op && (Region.ready md ops listed).contains p && Region.free md ops listed p) && p != i && ancB md ops ops.size p i && twoB md ops i is ps (listed.setIfInBounds p true)

theorem two_any {i : Nat} {is : List Nat} (hs : Region.noSelect ops = true) (hQ : ∀ c a d v w, Q (.panic c) (Act.put a d v) w → Q (.panic c) a w) : ∀ (ps : List Nat) (listed : Array Bool) (a : Act) (w : World), C w → Closed md ops listed → twoB md ops i is ps listed = true → wpTwo P ops Q C n i is ps a w → anyB P md ops Q C n i (ps.length + (is.length + 1)) listed a w
  | [], listed, a, w, _, _, hB, h => by
    simp only [twoB, Bool.and_eq_true, beq_iff_eq] at hB
    obtain ⟨hr, hB2⟩ := hB
    simp only [List.length_nil, Nat.zero_add]
    refine ⟨fun h0 => (by rw [hr] at h0; cases h0), fun j hj => ?_⟩
    rw [hr] at hj
    obtain rfl : j = i := by simpa using hj
    refine wpOpIn_mono (fun a' w' h' => ?_) h
    rw [if_pos rfl]
    obtain ⟨S2, h1, h2⟩ := h'
    exact wpAnyIn_of_anyC _ _ _ _ (perm_any hs hQ is _ _ _ (Wd.mem h1) hB2 h2)
  | p :: ps, listed, a, w, hC, hcl, hB, h => by
    simp only [twoB, Bool.and_eq_true, bne_iff_ne, ne_eq] at hB
    obtain ⟨⟨⟨hB1, hpi⟩, hanc⟩, hB2⟩ := hB
    unfold wpTwo at h
    cases ho : ops[p]? with
    | none => simp [ho] at hB1
    | some o =>
      simp only [ho, Bool.and_eq_true] at hB1 h
      obtain ⟨⟨hp, hr⟩, hf⟩ := hB1
      obtain ⟨v, hy, hk⟩ := h
      have hr' : p ∈ Region.ready md ops listed := by simpa using hr
      rw [List.length_cons, Nat.add_right_comm]
      exact anyB_first ho hpi (ancB_sound _ _ _ hanc) (Region.noSelect_spec hs) (fun c a w => hQ c a _ v w) _ listed a w hcl (Region.free_spec ho hf) hr' hy hC (two_any hs hQ ps _ _ _ hC (closed_step hcl hr') hB2 hk)
end

section
variable {P : Program} {l : List Oper} {Q : Exit → Act → World → Prop} {C : World → Prop} {n : Nat} {i p : Nat} {is ps : List Nat} {o : Oper} {a : Act} {w : World}
/-- The next operation is plain. -/
theorem tq (ho : nth l p = some o) (hp : plainOp o.op = true) (h : wpQuiet P l.toArray C (fun a' => wpTwo P l.toArray Q C n i is ps a' w) [o] a) : wpTwo P l.toArray Q C n i is (p :: ps) a w := by
  unfold wpTwo
  simp only [(nth_eq l p).trans ho]
  unfold wpQuiet at h
  by_cases hw : Region.wanted o (yielded l.toArray a.tmps) = true
  · rw [if_pos hw] at h
    obtain ⟨v, hv, hk⟩ := h
    refine ⟨v, .inl ⟨hw, fun w1 hC => ?_⟩, hk⟩
    have h1 := hv w1 hC
    unfold Oper.quietAt at h1
    cases hr : (execOp a.eval o).run P w1 with
    | ok x w' =>
      rw [hr] at h1
      obtain ⟨u, rfl⟩ := plain_value hp hr
      simp only [Oper.quietUpon] at h1
      rw [h1.1, h1.2]
    | halt x w' => rw [hr] at h1; exact h1.elim
  · rw [if_neg hw] at h
    exact ⟨undef, .inr ⟨by simpa using hw, rfl⟩, h⟩
/-- A loud operation alone. -/
theorem loud_list {K : Act → World → Prop} (ho : nth l i = some o) (h : wpListIn Fence.wide n P l.toArray (Exit.then K Q) [o] a w) : wpOpIn Fence.wide n P l.toArray Q i K a w := by
  unfold wpOpIn
  simp only [(nth_eq l i).trans ho]
  unfold wpListIn at h
  split
  · rename_i hw
    rw [if_pos hw] at h
    unfold Oper.wpIn at h ⊢
    refine ⟨h.1, ?_⟩
    have h := h.2
    generalize (o.semAt Fence.wide.round a.eval).run P w = r at h ⊢
    cases r with
    | ok x w' =>
      cases x <;> simp only [Oper.uponIn, wpListIn, Exit.then] at h ⊢ <;> exact h
    | halt x w' => cases x <;> simp only [Oper.uponIn, Exit.then] at h ⊢ <;> exact h
  · rename_i hw
    rw [if_neg hw] at h
    exact h
/-- The barrier. -/
theorem tl (ho : nth l i = some o) (h : wpListIn Fence.wide n P l.toArray (Exit.then (fun a' w' => ∃ S2 : World → Prop, S2 w' ∧ wpPerm P l.toArray Q (fun V => ∃ x : Wd S2, V = x.w) n is a' w') Q) [o] a w) : wpTwo P l.toArray Q C n i is [] a w := by
  unfold wpTwo
  exact loud_list ho h
end

/-- **A REGION THAT DRAWS ITS ORDER, IN TWO PARTS**, in the plain walk. -/
theorem region_two {P : Program} {ops : Array Oper} {Q : Exit → Act → World → Prop} {id : Nat} {a : Act} {w : World} (ps : List Nat) (i : Nat) (is : List Nat) (S : World → Prop) (hm : P.follows .mixedOrders = true)
    (hB : (Region.noSelect ops && ps.length + (is.length + 1) == ops.size && twoB .any ops i is ps (Array.replicate ops.size false)) = true)
    (hS : S w.drew) (h : Nonempty (Wd S) → wpTwo P ops (calm Q) (fun w' => ∃ x : Wd S, w' = x.w) 10 i is ps a w.drew) : (Code.region id ops true).wp P Q a w := by
  simp only [Bool.and_eq_true, beq_iff_eq] at hB
  have := two_any (md := .any) hB.1.1 (fun _ _ _ _ _ h => h) ps _ a _ (Wd.mem hS) (closed_start _) hB.2 (h ⟨⟨_, hS⟩⟩)
  rw [hB.1.2] at this
  exact (wpIn_wide (n := 10)).1 (Go.wpIn_mono (wpIn_region_any hm (wpAnyIn_of_anyB _ _ _ _ this)) (fun _ _ _ h => calm_imp h))
end Go.Proofs.Ytgialpjdfeldeaa

/-! A region that draws its order and ends in one operation that waits for all others (a store): its class of worlds need not hold behind that one ('region_last': in the plain walk; 'region_last_round': within a round). Conditions: each theorem's own. -/
namespace Go.Proofs.Ytgialpjdfeldeaa
section
variable {P : Program} {ops : Array Oper} {Q : Exit → Act → World → Prop} {md : Region.Mode} {C : World → Prop} {n : Nat}
/-- The walk: those ahead ('ps'), then the last one, i. -/
def wpLast (P : Program) (ops : Array Oper) (Q : Exit → Act → World → Prop) (C : World → Prop) (n i : Nat) : List Nat → Act → World → Prop
  | [], a, w => wpOpIn Fence.wide n P ops Q i (fun a' w' => Q .normal a' w') a w
  | p :: ps, a, w => match ops[p]? with
    | none => False
    | some o => if plainOp o.op then (∃ v, YieldsIf P ops C o v a ∧ wpLast P ops Q C n i ps (a.put o.dst v) w) else wpOpIn Fence.wide n P ops Q p (fun a' w' => C w' ∧ wpLast P ops Q C n i ps a' w') a w
def lastB (md : Region.Mode) (ops : Array Oper) (i : Nat) : List Nat → Array Bool → Bool
  | [], listed => Region.ready md ops listed == [i] && (Region.ready md ops (listed.setIfInBounds i true)).isEmpty
  | p :: ps, listed => (match ops[p]? with | none => false | some o => if plainOp o.op then (Region.ready md ops listed).contains p && Region.free md ops listed p && ancB md ops ops.size p i else Region.ready md ops listed == [p]) && p != i && lastB md ops i ps (listed.setIfInBounds p true)
theorem last_any {i : Nat} (hs : Region.noSelect ops = true) (hQ : ∀ c a d v w, Q (.panic c) (Act.put a d v) w → Q (.panic c) a w) : ∀ (ps : List Nat) (listed : Array Bool) (a : Act) (w : World), C w → Closed md ops listed → lastB md ops i ps listed = true → wpLast P ops Q C n i ps a w → anyB P md ops Q C n i (ps.length + 1) listed a w
  | [], listed, a, w, _, _, hB, h => by
    simp only [lastB, Bool.and_eq_true, beq_iff_eq] at hB
    obtain ⟨hr, hB2⟩ := hB
    refine ⟨fun h0 => (by rw [hr] at h0; cases h0), fun j hj => ?_⟩
    rw [hr] at hj
    obtain rfl : j = i := by simpa using hj
    refine wpOpIn_mono (fun a' w' h' => ?_) h
    rw [if_pos rfl]
    exact ⟨by simpa using hB2, h'⟩
  | p :: ps, listed, a, w, hC, hcl, hB, h => by
    simp only [lastB, Bool.and_eq_true, bne_iff_ne, ne_eq] at hB
    obtain ⟨⟨hB1, hpi⟩, hB2⟩ := hB
    unfold wpLast at h
    cases ho : ops[p]? with
    | none => simp [ho] at hB1
    | some o =>
      simp only [ho] at hB1 h
      by_cases hp : plainOp o.op = true
      · simp only [hp, if_true, Bool.and_eq_true] at hB1 h
        obtain ⟨⟨hr, hf⟩, hanc⟩ := hB1
        obtain ⟨v, hy, hk⟩ := h
        have hr' : p ∈ Region.ready md ops listed := by simpa using hr
        exact anyB_first ho hpi (ancB_sound _ _ _ hanc) (Region.noSelect_spec hs) (fun c a w => hQ c a _ v w) _ listed a w hcl (Region.free_spec ho hf) hr' hy hC (last_any hs hQ ps _ _ _ hC (closed_step hcl hr') hB2 hk)
      · simp only [hp, Bool.false_eq_true, if_false] at hB1 h
        have hr : Region.ready md ops listed = [p] := by simpa using hB1
        refine ⟨fun h0 => (by rw [hr] at h0; cases h0), fun j hj => ?_⟩
        rw [hr] at hj
        obtain rfl : j = p := by simpa using hj
        have hj' : j ∈ Region.ready md ops listed := by rw [hr]; simp
        refine wpOpIn_mono (fun a' w' h' => ?_) h
        rw [if_neg hpi]
        exact ⟨h'.1, last_any hs hQ ps _ _ _ h'.1 (closed_step hcl hj') hB2 h'.2⟩
end
section
variable {P : Program} {l : List Oper} {Q : Exit → Act → World → Prop} {C : World → Prop} {n : Nat} {i p : Nat} {ps : List Nat} {o : Oper} {a : Act} {w : World}
/-- The next operation is plain. -/
theorem lq (ho : nth l p = some o) (hp : plainOp o.op = true) (h : wpQuiet P l.toArray C (fun a' => wpLast P l.toArray Q C n i ps a' w) [o] a) : wpLast P l.toArray Q C n i (p :: ps) a w := by
  have ho' := (nth_eq l p).trans ho
  unfold wpLast
  simp only [ho', hp, if_true]
  unfold wpQuiet at h
  by_cases hw : Region.wanted o (yielded l.toArray a.tmps) = true
  · rw [if_pos hw] at h
    obtain ⟨v, hv, hk⟩ := h
    refine ⟨v, .inl ⟨hw, fun w1 hC => ?_⟩, hk⟩
    have h1 := hv w1 hC
    unfold Oper.quietAt at h1
    cases hr : (execOp a.eval o).run P w1 with
    | ok x w' =>
      rw [hr] at h1
      obtain ⟨u, rfl⟩ := plain_value hp hr
      simp only [Oper.quietUpon] at h1
      rw [h1.1, h1.2]
    | halt x w' => rw [hr] at h1; exact h1.elim
  · rw [if_neg hw] at h
    exact ⟨undef, .inr ⟨by simpa using hw, rfl⟩, h⟩
/-- The next operation is loud. -/
theorem ll (ho : nth l p = some o) (hp : plainOp o.op = false) (h : wpListIn Fence.wide n P l.toArray (Exit.then (fun a' w' => C w' ∧ wpLast P l.toArray Q C n i ps a' w') Q) [o] a w) : wpLast P l.toArray Q C n i (p :: ps) a w := by
  unfold wpLast
  simp only [(nth_eq l p).trans ho, hp, Bool.false_eq_true, if_false]
  exact loud_list ho h
/-- The last one. -/
theorem lz (ho : nth l i = some o) (h : wpListIn Fence.wide n P l.toArray (Exit.then (fun a' w' => Q .normal a' w') Q) [o] a w) : wpLast P l.toArray Q C n i [] a w := by
  unfold wpLast
  exact loud_list ho h
end
/-- **A REGION THAT DRAWS ITS ORDER AND ENDS IN ONE OPERATION**, in the plain walk. -/
theorem region_last {P : Program} {ops : Array Oper} {Q : Exit → Act → World → Prop} {id : Nat} {a : Act} {w : World} (ps : List Nat) (i : Nat) (S : World → Prop) (hm : P.follows .mixedOrders = true)
    (hB : (Region.noSelect ops && ps.length + 1 == ops.size && lastB .any ops i ps (Array.replicate ops.size false)) = true)
    (hS : S w.drew) (h : Nonempty (Wd S) → wpLast P ops (calm Q) (fun w' => ∃ x : Wd S, w' = x.w) 10 i ps a w.drew) : (Code.region id ops true).wp P Q a w := by
  simp only [Bool.and_eq_true, beq_iff_eq] at hB
  have := last_any (md := .any) hB.1.1 (Q := calm Q) (fun _ _ _ _ _ h => h) ps _ a _ (Wd.mem hS) (closed_start _) hB.2 (h ⟨⟨_, hS⟩⟩)
  rw [hB.1.2] at this
  exact (wpIn_wide (n := 10)).1 (Go.wpIn_mono (wpIn_region_any hm (wpAnyIn_of_anyB _ _ _ _ this)) (fun _ _ _ h => calm_imp h))
/-- .. within a round. -/
theorem region_last_round {P : Program} {ops : Array Oper} {Q : Exit → Act → World → Prop} {n l id : Nat} {a : Act} {w : World} (ps : List Nat) (i : Nat) (S : World → Prop) (hm : P.follows .mixedOrders = true) (hd : noDefer ops = true)
    (hB : (Region.noSelect ops && ps.length + 1 == ops.size && lastB .any ops i ps (Array.replicate ops.size false)) = true)
    (hS : S w.drew) (h : Nonempty (Wd S) → wpLast P ops (calm Q) (fun w' => ∃ x : Wd S, w' = x.w) n i ps a w.drew) : (Code.region id ops true).wpIn (Fence.wide.inRound l) n P Q a w := by
  simp only [Bool.and_eq_true, beq_iff_eq] at hB
  have := last_any (md := .any) hB.1.1 (Q := calm Q) (fun _ _ _ _ _ h => h) ps _ a _ (Wd.mem hS) (closed_start _) hB.2 (h ⟨⟨_, hS⟩⟩)
  rw [hB.1.2] at this
  exact Go.wpIn_mono (wpIn_region_any hm (wpAnyIn_inRound hd _ _ _ _ (wpAnyIn_of_anyB _ _ _ _ this))) (fun _ _ _ h => calm_imp h)
theorem last_done {Q : Exit → Act → World → Prop} {a : Act} {w : World} (h : Q .normal a w) : calm Q .normal a w := h
end Go.Proofs.Ytgialpjdfeldeaa

/-! The program's levels and Depth. -/
namespace Go.Proofs.Ytgialpjdfeldeaa
open Go.RowKit Go.Shelf

attribute [local go_sem] Oper.semAt_some

/-- How many Inner stand one below the other. -/
def levF (s : Mst) : Nat → Int → Int
  | 0, _ => 0
  | f + 1, x => if kd (tgt s x) = 3 then 1 + (slotsL s x).foldl (fun m p => max m (levF s f (s.logicZ p.2))) 0 else 0
theorem levF_succ (s : Mst) (f : Nat) (x : Int) : levF s (f + 1) x = if kd (tgt s x) = 3 then 1 + (slotsL s x).foldl (fun m p => max m (levF s f (s.logicZ p.2))) 0 else 0 := rfl
def depthB (s : Mst) (x : Int) : Int := if inTreeB s x = true then levF s (fuel s) x else 0
theorem fold_max {α : Type} (g : α → Int) (B : Int) (hg : ∀ a, 0 ≤ g a ∧ g a ≤ B) (L : List α) : ∀ m, 0 ≤ m → m ≤ B → 0 ≤ L.foldl (fun m p => max m (g p)) m ∧ L.foldl (fun m p => max m (g p)) m ≤ B := by
  induction L with
  | nil => intro m h1 h2; exact ⟨h1, h2⟩
  | cons a L ih =>
    intro m h1 h2
    have := hg a
    rw [List.foldl_cons]
    exact ih (max m (g a)) (by omega) (by omega)
theorem levF_bound (s : Mst) : ∀ (f : Nat) (x : Int), 0 ≤ levF s f x ∧ levF s f x ≤ f
  | 0, _ => by simp [levF]
  | f + 1, x => by
    unfold levF
    split
    · have := fold_max (fun p : Int × Int => levF s f (s.logicZ p.2)) f (fun p => levF_bound s f _) (slotsL s x) 0 (by omega) (by omega)
      omega
    · omega
/-- The invariant: the deepest so far. -/
def Deep (n : Nat) (g : Int × Int → Int) : Inv (Int × Int) := fun O pre A => (∀ k, O k ↔ k = n) ∧ Boxed A n 3 (.int .i64 (pre.foldl (fun m p => max m (g p)) 0))
theorem Deep.good (n : Nat) (g : Int × Int → Int) : Good (Deep n g) := by
  constructor
  · rintro O pre A B ⟨hO, hb⟩ ht
    exact ⟨hO, ht.boxed hb (fun hn => hn ((hO n).2 rfl))⟩
  · rintro O pre A ⟨hO, hb⟩ k hk
    rw [(hO k).1 hk]
    exact hb.lt

set_option maxHeartbeats 2000000 in
theorem levels_p : ∀ (f : Nat) (w : World) (b : Nat) (s : Mst) (x : Int), PM w b s → s.ok → Wf s f x → f ≤ 100000 →
    Calls Try.prog 65 #[.pointer (some ⟨b, 0, none⟩), .int .i64 x] w fun e w' => e = .returned (.int .i64 (levF s f x)) ∧ Kept w w'
  | 0, _, _, _, _, _, _, h, _ => h.elim
  | f + 1, w, b, s, x, h, ho, hw, hf => by
    have ih := levels_p f
    obtain ⟨hwh, hwk⟩ := hw
    obtain ⟨n, hn⟩ : ∃ n, w.heap.size = n := ⟨_, rfl⟩
    obtain ⟨W1, hW1⟩ : ∃ W1, w.alloc (.cells #[.pointer (some ⟨b, 0, none⟩)] 22) = W1 := ⟨_, rfl⟩
    have t1 : Kept w W1 := by rw [← hW1]; exact (Kept.refl w).alloc _
    have z1 : W1.heap.size = n + 1 := by rw [← hW1]; simp [hn]
    have bM : Boxed W1 n 22 (.pointer (some ⟨b, 0, none⟩)) := by rw [← hW1, ← hn]; exact Boxed.new w 22 _
    have K1 := hide t1
    have BM := hide bM
    have c0 := bM.cell
    have H := hide h
    have HO := hide ho
    have HWH := hide hwh
    have HWK := hide hwk
    have IH := hide ih
    have HN := hide hn
    have Z1 := hide z1
    have HF := hide hf
    obtain ⟨t, ht⟩ : ∃ t, tgt s x = t := ⟨_, rfl⟩
    have HT := hide ht
    have HTI : Hid (I64 t) := hide (by rw [← ht]; exact tgt_i64 ho hwh.i64)
    obtain ⟨j, hj⟩ : ∃ j, kd t = j := ⟨_, rfl⟩
    have HJ := hide hj
    by_cases j3 : j = 3
    · obtain ⟨g, hg⟩ : ∃ g : Int × Int → Int, (fun p => levF s f (s.logicZ p.2)) = g := ⟨_, rfl⟩
      have HE : Hid (levF s (f + 1) x = 1 + (slotsL s x).foldl (fun m p => max m (g p)) 0) := hide (by subst hg; rw [levF_succ, if_pos (by rw [ht, hj]; exact j3)])
      have HG : Hid (∀ p : Int × Int, levF s f (s.logicZ p.2) = g p) := hide (fun p => by subst hg; rfl)
      have GB : Hid (∀ p : Int × Int, 0 ≤ g p ∧ g p ≤ 100000) := hide (fun p => by rw [← hg]; have := levF_bound s f (s.logicZ p.2); have := HF.out; dsimp only; omega)
      subst j3
      clear t1 bM h ho hwh hwk ih z1 hf ht hj hg
      refine calls_marks Try.func65 rfl ?_
      simp only [Try.ntmps65, List.size_toArray, List.length_cons, List.length_nil, Nat.reduceAdd, Nat.reduceSub, Array.replicate_succ, Array.replicate_zero, List.push_toArray, List.append_toArray, List.nil_append, List.cons_append]
      go_wp2_with (fail)
      clear hW1 hn
      refine (target_p _ b s x t (H.out.kept K1.out) HWH.out.i64 HT.out).mono ?_
      rintro e w' ⟨rfl, rfl⟩
      go_wp2_with (fail)
      refine (kk_p _ t 3 HTI.out HJ.out).mono ?_
      rintro e w' ⟨rfl, rfl⟩
      have ca := (Kept.alloc (Kept.refl W1) (.cells #[.int .i64 0] 3)).cell c0 id
      go_wp2_with (fail)
      rw [Z1.out]
      clear ca
      obtain ⟨W2, hW2⟩ : ∃ W2, W1.alloc (.cells #[.int .i64 0] 3) = W2 := ⟨_, rfl⟩
      have zz := Z1.out
      have t2 : Kept W1 W2 := by rw [← hW2]; exact (Kept.refl W1).alloc _
      have bD : Boxed W2 (n + 1) 3 (.int .i64 0) := by rw [← hW2, ← zz]; exact Boxed.new W1 3 _
      have Z2 : Hid (W2.heap.size = n + 2) := hide (by rw [← hW2]; simp [zz])
      have K2 := hide (K1.out.trans t2)
      have BM2 := hide (t2.boxed BM.out id)
      have BD := hide bD
      have c0' := BM2.out.cell
      clear t2 bD c0
      rw [hW2]
      clear hW2
      refine (slots_k W2 b x).mono ?_
      rintro e W3 ⟨B1, B2, rfl, k3, b1, b2, l1, l2⟩
      have K3 := hide (K2.out.trans k3)
      have BM3 := hide (k3.boxed BM2.out id)
      have BD3 := hide (k3.boxed BD.out id)
      have BB1 := hide b1
      have BB2 := hide b2
      have L1 : Hid (n + 2 ≤ B1 ∧ n + 2 ≤ B2 ∧ n + 2 ≤ W3.heap.size) := hide (by have := Z2.out; have := k3.size; omega)
      clear k3 b1 b2 l1 l2 c0' zz
      go_wp2_with (fail)
      refine wp_range2 (gf := 107) rfl (enters_of Try.func107 (by kernel_rfl) rfl) (encs := enc2) (xs := slotsL s x) (R := SlotR w B1 B2)
        (fun X hX => slots_i w X (K3.out.trans hX) b s H.out HO.out x HWH.out B1 B2 (hX.boxed BB1.out id) (hX.boxed BB2.out id)) (fun _ => rfl)
        (fun k => k = n + 1) (Deep (n + 1) g) (fun _ _ _ _ => False) ?hR (Deep.good _ _) (fun _ => good_false) ⟨fun _ => Iff.rfl, by simpa using BD3.out⟩ ?ab ?done (fun _ _ _ _ _ _ _ _ _ _ _ h => h.elim)
      case hR =>
        rintro k (hk | rfl | rfl)
        · have h1 := HN.out
          have h2 := K3.out.size
          exact ⟨by omega, by omega⟩
        · have := L1.out
          exact ⟨BB1.out.lt, by omega⟩
        · have := L1.out
          exact ⟨BB2.out.lt, by omega⟩
      case ab =>
        apply Exists.intro
        refine ⟨?_, ?_⟩
        · intro l' p X K hK
          gi_wp2
          exact hK
        · rintro l' O pre ⟨pi, sl⟩ rest B hx' tB sB ⟨hO, bD⟩
          obtain ⟨y, hy⟩ : ∃ y, s.logicZ sl = y := ⟨_, rfl⟩
          have HY := hide hy
          have HWF : Hid (Wf s f y) := hide (by
            have := HWK.out (pi, sl) (by rw [hx']; simp)
            rwa [hy] at this)
          obtain ⟨v, hv⟩ : ∃ v, g (pi, sl) = v := ⟨_, rfl⟩
          have HV : Hid (levF s f y = v) := hide (by rw [← hy, HG.out (pi, sl)]; exact hv)
          obtain ⟨D, hD⟩ : ∃ D, pre.foldl (fun m p => max m (g p)) 0 = D := ⟨_, rfl⟩
          have HDN : Hid ((pre ++ [(pi, sl)]).foldl (fun m p => max m (g p)) 0 = max D v) := hide (by rw [List.foldl_append, hD]; simp [hv])
          rw [hD] at bD
          have vb : 0 ≤ v ∧ v ≤ 100000 := by rw [← hv]; exact GB.out _
          have db : 0 ≤ D ∧ D ≤ 100000 := by rw [← hD]; exact fold_max g 100000 GB.out pre 0 (by omega) (by omega)
          have KB : Hid (Kept w B) := hide (K3.out.did (by have := HN.out; omega) tB)
          obtain ⟨V, hV⟩ : ∃ V, B.drew = V := ⟨_, rfl⟩
          have kV : Kept B V := by rw [← hV]; exact Kept.drew _
          have KV := hide kV
          have HVV := hide hV
          have bM' := (tB.boxed BM3.out (by omega))
          have MV := hide (H.out.kept (KB.out.trans kV))
          have x0 : ∀ u : Wd (fun U => Kept V U), u.w.cell? ⟨n, 0, none⟩ = some (.pointer (some ⟨b, 0, none⟩)) := fun u => u.ok.cell (kV.cell bM'.cell id) id
          have x1 : ∀ u : Wd (fun U => Kept V U), u.w.cell? ⟨n + 1, 0, none⟩ = some (.int .i64 D) := fun u => u.ok.cell (kV.cell bD.cell id) id
          have BDV := hide (kV.boxed bD id)
          have HOO := hide hO
          clear hx' tB sB hO bD hy hv hD hV kV bM'
          gi_wp2_with (fail)
          refine region_last_round [0, 1, 2, 3, 4, 5, 6] 7 (fun U => Kept V U) (by kernel_rfl) (by kernel_rfl) (by kernel_rfl) (by rw [HVV.out]; exact Kept.refl _) (fun _ => ?_)
          rw [HVV.out]
          repeat (refine lq rfl rfl ?_; go_big_quiet_step (fail); refine wpQuiet_nil ?_)
          refine ll rfl rfl ?_
          gi_wp2_with (fail)
          refine ⟨trivial, ?_⟩
          refine (callsIn_wide.2 (logic_p _ b s sl y MV.out HO.out HY.out)).mono ?_
          rintro e U ⟨rfl, rfl⟩
          gi_wp2_with (fail)
          refine ⟨Wd.mem (Kept.refl _), ?_⟩
          refine ll rfl rfl ?_
          gi_wp2_with (fail)
          refine ⟨trivial, ?_⟩
          refine (callsIn_wide.2 (IH.out V b s y MV.out HO.out HWF.out (by have := HF.out; omega))).mono ?_
          rw [HV.out]
          rintro e U ⟨rfl, kU⟩
          have KU := hide kU
          have BDU := hide (kU.boxed BDV.out id)
          have cD := BDU.out.cell
          have fD := BDU.out.frozen
          clear kU
          gi_wp2_with (fail)
          refine ⟨Wd.mem KU.out, ?_⟩
          refine ll rfl rfl ?_
          gi_wp2
          refine ⟨Wd.mem KU.out, ?_⟩
          refine lz rfl ?_
          gi_wp2
          refine last_done ?_
          gi_wp2
          refine ⟨O, Sub.refl _ _, (Turned.trans (KV.out.trans KU.out) (Turned.setCell (R := fun k => k = n + 1) _ _ _ rfl) (fun _ h => h.elim) (fun k _ h => (HOO.out k).2 h)), HOO.out, ?_⟩
          rw [HDN.out]
          exact BDU.out.set _
      case done =>
        rintro D O X hD nD tX sX ⟨hO, bD⟩ hK
        obtain ⟨d, hd⟩ : ∃ d, (slotsL s x).foldl (fun m p => max m (g p)) 0 = d := ⟨_, rfl⟩
        rw [hd] at bD
        have db : 0 ≤ d ∧ d ≤ 100000 := by rw [← hd]; exact fold_max g 100000 GB.out _ 0 (by omega) (by omega)
        have HE2 : Hid (levF s (f + 1) x = 1 + d) := hide (by rw [HE.out, hd])
        have cD := bD.cell
        have HK := hide hK
        have KX : Hid (Kept w X) := hide (K3.out.did (by have := HN.out; omega) tX)
        have HDn : Hid (n ≤ D) := hide (by have := L1.out; omega)
        clear hK bD hO nD tX sX hd
        go_wp2
        refine leave_marks [D] X ?_ ?_ ?_
        · intro k hk
          simp at hk
          rw [hk]
          exact HK.out
        · simp
        · intro X' hX'
          refine ⟨_, results_tmp rfl _ _ _, by rw [HE2.out]; rfl, ?_⟩
          exact KX.out.own (fun i hi => by simp at hi; have := HDn.out; have := HN.out; omega) hX'
    · have HE : Hid (levF s (f + 1) x = 0) := hide (by rw [levF_succ, if_neg (by rw [ht, hj]; exact j3)])
      have g1 : (j == 3) = false := by simp [j3]
      have g2 : (j != 3) = true := by simp [j3]
      clear t1 bM h ho hwh hwk ih z1 hf ht hj j3
      refine calls_marks Try.func65 rfl ?_
      simp only [Try.ntmps65, List.size_toArray, List.length_cons, List.length_nil, Nat.reduceAdd, Nat.reduceSub, Array.replicate_succ, Array.replicate_zero, List.push_toArray, List.append_toArray, List.nil_append, List.cons_append]
      go_wp2_with (fail)
      clear hW1 hn
      refine (target_p _ b s x t (H.out.kept K1.out) HWH.out.i64 HT.out).mono ?_
      rintro e w' ⟨rfl, rfl⟩
      go_wp2_with (fail)
      refine (kk_p _ t j HTI.out HJ.out).mono ?_
      rintro e w' ⟨rfl, rfl⟩
      go_wp2
      refine leave_marks [] _ ?_ ?_ ?_
      · intro k hk; cases hk
      · simp
      · intro X' hX'
        exact ⟨_, results_tmp rfl _ _ _, by rw [HE.out]; rfl, K1.out.trans (hX'.mono fun _ _ h => by cases h)⟩

theorem depth_p (w : World) (b : Nat) (s : Mst) (x : Int) (h : PM w b s) (ho : s.ok) (hx : I64 x) (d : Int) (e1 : depthB s x = d) :
    Calls Try.prog 35 #[.pointer (some ⟨b, 0, none⟩), .int .i64 x] w fun e w' => e = .returned (.int .i64 d) ∧ Kept w w' := by
  have H := hide h
  have HO := hide ho
  have HX := hide hx
  obtain ⟨q, hq⟩ : ∃ q, inTreeB s x = q := ⟨_, rfl⟩
  have HQ := hide hq
  unfold depthB at e1
  rw [hq] at e1
  cases q with
  | false =>
    have HE : Hid (d = 0) := hide (by rw [← e1]; rfl)
    clear h ho hx hq e1
    go_enter Try.func35, Try.ntmps35
    go_wp2_with (fail)
    refine (isInTree_p _ b s x H.out HO.out HX.out false HQ.out).mono ?_
    rintro e W2 ⟨rfl, k2⟩
    have K2 := hide k2
    clear k2
    go_wp2
    go_ret
    exact ⟨by rw [HE.out]; rfl, K2.out⟩
  | true =>
    have HE : Hid (levF s (fuel s) x = d) := hide e1
    have HFU : Hid (fuel s ≤ 100000) := hide (by have := ho.2; unfold fuel; omega)
    clear h ho hx hq e1
    go_enter Try.func35, Try.ntmps35
    go_wp2_with (fail)
    refine (isInTree_p _ b s x H.out HO.out HX.out true HQ.out).mono ?_
    rintro e W2 ⟨rfl, k2⟩
    have K2 := hide k2
    clear k2
    go_wp2_with (fail)
    refine (levels_p (fuel s) W2 b s x (H.out.kept K2.out) HO.out (inTree_wf HO.out HQ.out).1 HFU.out).mono ?_
    rw [HE.out]
    rintro e W3 ⟨rfl, k3⟩
    have K3 := hide (K2.out.trans k3)
    clear k3
    go_wp2
    go_ret
    exact ⟨rfl, K3.out⟩
end Go.Proofs.Ytgialpjdfeldeaa

/-! A region that draws its order, walked in every order of its loud operations ('region_tree'; 'aq': a plain one first; 'al': whichever is ready). Conditions: each theorem's own. -/
namespace Go.Proofs.Ytgialpjdfeldeaa
/-- **A REGION THAT DRAWS ITS ORDER**, in the plain walk. -/
theorem region_tree {P : Program} {ops : Array Oper} {Q : Exit → Act → World → Prop} {id : Nat} {a : Act} {w : World} (S : World → Prop) (hm : P.follows .mixedOrders = true)
    (hS : S w.drew) (h : Nonempty (Wd S) → anyC P .any ops (calm Q) (fun w' => ∃ x : Wd S, w' = x.w) 10 ops.size (Array.replicate ops.size false) a w.drew) : (Code.region id ops true).wp P Q a w :=
  (wpIn_wide (n := 10)).1 (Go.wpIn_mono (wpIn_region_any hm (wpAnyIn_of_anyC _ _ _ _ (h ⟨⟨_, hS⟩⟩))) (fun _ _ _ h => calm_imp h))
section
variable {P : Program} {l : List Oper} {Q : Exit → Act → World → Prop} {C : World → Prop} {n : Nat} {fuel : Nat} {o : Oper} {a : Act} {w : World} {listed : Array Bool}
/-- A plain operation first. -/
theorem aq (i : Nat) (listed' : Array Bool) (ho : nth l i = some o) (hp : plainOp o.op = true) (hB : (Region.noSelect l.toArray && (Region.ready .any l.toArray listed).contains i && Region.free .any l.toArray listed i) = true) (hl : listed.setIfInBounds i true = listed') (hC : C w)
    (h : wpQuiet P l.toArray C (fun a' => anyC P .any l.toArray (calm Q) C n fuel listed' a' w) [o] a) : anyC P .any l.toArray (calm Q) C n (fuel + 1) listed a w := by
  simp only [Bool.and_eq_true] at hB
  obtain ⟨⟨h1, h2⟩, h3⟩ := hB
  have ho' := (nth_eq l i).trans ho
  subst hl
  obtain ⟨v, hy, hk⟩ : ∃ v, YieldsIf P l.toArray C o v a ∧ anyC P .any l.toArray (calm Q) C n fuel (listed.setIfInBounds i true) (a.put o.dst v) w := by
    unfold wpQuiet at h
    by_cases hw : Region.wanted o (yielded l.toArray a.tmps) = true
    · rw [if_pos hw] at h
      obtain ⟨v, hv, hk⟩ := h
      refine ⟨v, .inl ⟨hw, fun w1 hC => ?_⟩, hk⟩
      have h1 := hv w1 hC
      unfold Oper.quietAt at h1
      cases hr : (execOp a.eval o).run P w1 with
      | ok x w' =>
        rw [hr] at h1
        obtain ⟨u, rfl⟩ := plain_value hp hr
        simp only [Oper.quietUpon] at h1
        rw [h1.1, h1.2]
      | halt x w' => rw [hr] at h1; exact h1.elim
    · rw [if_neg hw] at h
      exact ⟨undef, .inr ⟨by simpa using hw, rfl⟩, h⟩
  exact anyC_first ho' (Region.noSelect_spec h1) (fun c a w h => h) fuel listed a w (Region.free_spec ho' h3) (by simpa using h2) hy hC hk
/-- Whichever is ready. -/
theorem al (is : List Nat) (hr : (Region.ready .any l.toArray listed == is && !is.isEmpty) = true)
    (h : ∀ i ∈ is, ∃ o listed', nth l i = some o ∧ listed.setIfInBounds i true = listed' ∧ wpListIn Fence.wide n P l.toArray (Exit.then (fun a' w' => C w' ∧ anyC P .any l.toArray (calm Q) C n fuel listed' a' w') (calm Q)) [o] a w) : anyC P .any l.toArray (calm Q) C n (fuel + 1) listed a w := by
  simp only [Bool.and_eq_true, beq_iff_eq] at hr
  obtain ⟨hr, he⟩ := hr
  refine ⟨fun h0 => ?_, fun j hj => ?_⟩
  · rw [hr] at h0
    rw [h0] at he
    cases he
  · rw [hr] at hj
    obtain ⟨o, _, ho, rfl, hh⟩ := h j hj
    exact loud_list ho hh
/-- None is left. -/
theorem adone (hr : (Region.ready .any l.toArray listed).isEmpty = true) (h : Q .normal a w) : anyC P .any l.toArray (calm Q) C n 0 listed a w := ⟨by simpa using hr, h⟩
end
end Go.Proofs.Ytgialpjdfeldeaa

/-! The program's isNew. -/
namespace Go.Proofs.Ytgialpjdfeldeaa
open Go.RowKit Go.Shelf

/-- Is the Inner at a one that was just made over n keys? -/
def newB (s : Mst) (a n : Int) : Bool := (s.look a == Pt.degZ n) && (s.look (a + 1) == n) && (s.look (a + 2) == 0) && (s.look (a + 3) == 0) && (s.look (a + 4) == 0)

theorem isNew_p (w : World) (b : Nat) (s : Mst) (a n : Int) (r : Bool) (h : PM w b s) (ha : 0 ≤ a) (ha2 : a ≤ 100000) (hn : I64 n) (e1 : newB s a n = r) :
    Calls Try.prog 104 #[.pointer (some ⟨b, 0, none⟩), .int .i64 a, .int .i64 n] w fun e w' => e = .returned (.bool r) ∧ w = w' := by
  have H := hide h
  have HNI := hide hn
  obtain ⟨z0, hz0⟩ : ∃ z, s.look a = z := ⟨_, rfl⟩
  obtain ⟨z1, hz1⟩ : ∃ z, s.look (a + 1) = z := ⟨_, rfl⟩
  obtain ⟨z2, hz2⟩ : ∃ z, s.look (a + 2) = z := ⟨_, rfl⟩
  obtain ⟨z3, hz3⟩ : ∃ z, s.look (a + 3) = z := ⟨_, rfl⟩
  obtain ⟨z4, hz4⟩ : ∃ z, s.look (a + 4) = z := ⟨_, rfl⟩
  obtain ⟨d, hd⟩ : ∃ d, Pt.degZ n = d := ⟨_, rfl⟩
  have HZ0 := hide hz0
  have HZ1 := hide hz1
  have HZ2 := hide hz2
  have HZ3 := hide hz3
  have HZ4 := hide hz4
  have HD := hide hd
  have E : Hid (r = ((z0 == d) && (z1 == n) && (z2 == 0) && (z3 == 0) && (z4 == 0))) := hide (by rw [← e1, newB, hz0, hz1, hz2, hz3, hz4, hd])
  clear h hn hz0 hz1 hz2 hz3 hz4 hd e1
  by_cases y0 : d = z0
  · subst y0
    by_cases y1 : n = z1
    · subst y1
      by_cases y2 : 0 = z2
      · subst y2
        by_cases y3 : 0 = z3
        · subst y3
          by_cases y4 : 0 = z4
          · subst y4
            have HR : Hid (r = true) := hide (by rw [E.out]; simp)
            go_enter Try.func104, Try.ntmps104
            go_wp2_with (fail)
            refine (lk_p _ b s _ d H.out (by first | exact HZ0.out | simpa using HZ0.out)).mono ?_
            rintro e w' ⟨rfl, rfl⟩
            go_wp2_with (fail)
            refine (Pt.deg_c n HNI.out.wf _).mono ?_
            rw [HD.out]
            rintro e w' ⟨rfl, rfl⟩
            go_wp2_with (fail)
            refine (lk_p _ b s (a + 1) n H.out HZ1.out).mono ?_
            rintro e w' ⟨rfl, rfl⟩
            go_wp2_with (fail)
            refine (lk_p _ b s (a + 2) 0 H.out HZ2.out).mono ?_
            rintro e w' ⟨rfl, rfl⟩
            go_wp2_with (fail)
            refine (lk_p _ b s (a + 3) 0 H.out HZ3.out).mono ?_
            rintro e w' ⟨rfl, rfl⟩
            go_wp2_with (fail)
            refine (lk_p _ b s (a + 4) 0 H.out HZ4.out).mono ?_
            rintro e w' ⟨rfl, rfl⟩
            go_wp2
            go_ret
            exact ⟨by rw [HR.out]; rfl, rfl⟩
          · replace y4 : ¬ z4 = 0 := fun h => y4 h.symm
            have HR : Hid (r = false) := hide (by rw [E.out]; simp [y4])
            have g1 : (z4 == 0) = false := by simp [y4]
            have g2 : (z4 != 0) = true := by simp [y4]
            clear y4
            go_enter Try.func104, Try.ntmps104
            go_wp2_with (fail)
            refine (lk_p _ b s _ d H.out (by first | exact HZ0.out | simpa using HZ0.out)).mono ?_
            rintro e w' ⟨rfl, rfl⟩
            go_wp2_with (fail)
            refine (Pt.deg_c n HNI.out.wf _).mono ?_
            rw [HD.out]
            rintro e w' ⟨rfl, rfl⟩
            go_wp2_with (fail)
            refine (lk_p _ b s (a + 1) n H.out HZ1.out).mono ?_
            rintro e w' ⟨rfl, rfl⟩
            go_wp2_with (fail)
            refine (lk_p _ b s (a + 2) 0 H.out HZ2.out).mono ?_
            rintro e w' ⟨rfl, rfl⟩
            go_wp2_with (fail)
            refine (lk_p _ b s (a + 3) 0 H.out HZ3.out).mono ?_
            rintro e w' ⟨rfl, rfl⟩
            go_wp2_with (fail)
            refine (lk_p _ b s (a + 4) z4 H.out HZ4.out).mono ?_
            rintro e w' ⟨rfl, rfl⟩
            go_wp2
            go_ret
            exact ⟨by rw [HR.out]; rfl, rfl⟩
        · replace y3 : ¬ z3 = 0 := fun h => y3 h.symm
          have HR : Hid (r = false) := hide (by rw [E.out]; simp [y3])
          have g1 : (z3 == 0) = false := by simp [y3]
          have g2 : (z3 != 0) = true := by simp [y3]
          clear y3
          go_enter Try.func104, Try.ntmps104
          go_wp2_with (fail)
          refine (lk_p _ b s _ d H.out (by first | exact HZ0.out | simpa using HZ0.out)).mono ?_
          rintro e w' ⟨rfl, rfl⟩
          go_wp2_with (fail)
          refine (Pt.deg_c n HNI.out.wf _).mono ?_
          rw [HD.out]
          rintro e w' ⟨rfl, rfl⟩
          go_wp2_with (fail)
          refine (lk_p _ b s (a + 1) n H.out HZ1.out).mono ?_
          rintro e w' ⟨rfl, rfl⟩
          go_wp2_with (fail)
          refine (lk_p _ b s (a + 2) 0 H.out HZ2.out).mono ?_
          rintro e w' ⟨rfl, rfl⟩
          go_wp2_with (fail)
          refine (lk_p _ b s (a + 3) z3 H.out HZ3.out).mono ?_
          rintro e w' ⟨rfl, rfl⟩
          go_wp2
          go_ret
          exact ⟨by rw [HR.out]; rfl, rfl⟩
      · replace y2 : ¬ z2 = 0 := fun h => y2 h.symm
        have HR : Hid (r = false) := hide (by rw [E.out]; simp [y2])
        have g1 : (z2 == 0) = false := by simp [y2]
        have g2 : (z2 != 0) = true := by simp [y2]
        clear y2
        go_enter Try.func104, Try.ntmps104
        go_wp2_with (fail)
        refine (lk_p _ b s _ d H.out (by first | exact HZ0.out | simpa using HZ0.out)).mono ?_
        rintro e w' ⟨rfl, rfl⟩
        go_wp2_with (fail)
        refine (Pt.deg_c n HNI.out.wf _).mono ?_
        rw [HD.out]
        rintro e w' ⟨rfl, rfl⟩
        go_wp2_with (fail)
        refine (lk_p _ b s (a + 1) n H.out HZ1.out).mono ?_
        rintro e w' ⟨rfl, rfl⟩
        go_wp2_with (fail)
        refine (lk_p _ b s (a + 2) z2 H.out HZ2.out).mono ?_
        rintro e w' ⟨rfl, rfl⟩
        go_wp2
        go_ret
        exact ⟨by rw [HR.out]; rfl, rfl⟩
    · replace y1 : ¬ z1 = n := fun h => y1 h.symm
      have HR : Hid (r = false) := hide (by rw [E.out]; simp [y1])
      have g1 : (z1 == n) = false := by simp [y1]
      have g2 : (z1 != n) = true := by simp [y1]
      clear y1
      go_enter Try.func104, Try.ntmps104
      go_wp2_with (fail)
      refine (lk_p _ b s _ d H.out (by first | exact HZ0.out | simpa using HZ0.out)).mono ?_
      rintro e w' ⟨rfl, rfl⟩
      go_wp2_with (fail)
      refine (Pt.deg_c n HNI.out.wf _).mono ?_
      rw [HD.out]
      rintro e w' ⟨rfl, rfl⟩
      go_wp2_with (fail)
      refine (lk_p _ b s (a + 1) z1 H.out HZ1.out).mono ?_
      rintro e w' ⟨rfl, rfl⟩
      go_wp2
      go_ret
      exact ⟨by rw [HR.out]; rfl, rfl⟩
  · replace y0 : ¬ z0 = d := fun h => y0 h.symm
    have HR : Hid (r = false) := hide (by rw [E.out]; simp [y0])
    have g1 : (z0 == d) = false := by simp [y0]
    have g2 : (z0 != d) = true := by simp [y0]
    clear y0
    go_enter Try.func104, Try.ntmps104
    go_wp2_with (fail)
    refine (lk_p _ b s _ z0 H.out (by first | exact HZ0.out | simpa using HZ0.out)).mono ?_
    rintro e w' ⟨rfl, rfl⟩
    go_wp2_with (fail)
    refine (Pt.deg_c n HNI.out.wf _).mono ?_
    rw [HD.out]
    rintro e w' ⟨rfl, rfl⟩
    go_wp2
    go_ret
    exact ⟨by rw [HR.out]; rfl, rfl⟩
end Go.Proofs.Ytgialpjdfeldeaa
