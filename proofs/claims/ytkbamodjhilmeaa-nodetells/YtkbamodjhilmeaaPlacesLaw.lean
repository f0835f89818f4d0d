/-
  What NodePlaces answers: true; nothing that lay is turned.
-/
import Derived.Test.YtkbamodjhilmeaaBeginLaw
import Derived.Deep.OwnRows
namespace Go.Proofs.Ytkbamodjhilmeaa
open Go.RowKit

/-- A memory made since w, and the blocks X apart from it. -/
def NowX (X : Nat → Prop) (w W : World) (b : Nat) (s : Mst) : Prop := ∃ v, PMem W w.heap.size b v s ∧ Kept w W ∧ ∀ k, X k → k < W.heap.size ∧ ¬ Foot b v k
namespace NowX
variable {X : Nat → Prop} {w W W' : World} {b : Nat} {s : Mst}
theorem now (h : NowX X w W b s) : Now w W b s := by
  obtain ⟨v, h1, h2, _⟩ := h
  exact ⟨⟨v, h1⟩, h2⟩
/-- New blocks are apart. -/
theorem new (h : Now w W b s) (k : Kept W W') (hX : ∀ k, X k → W.heap.size ≤ k ∧ k < W'.heap.size) : NowX X w W' b s := by
  obtain ⟨⟨v, h1⟩, h2⟩ := h
  exact ⟨v, h1.kept k, h2.trans k, fun i hi => ⟨(hX i hi).2, fun e => by have := (h1.lt i e).2; have := (hX i hi).1; omega⟩⟩
theorem on (h : NowX X w W b s) (k : Kept W W') : NowX X w W' b s := by
  obtain ⟨v, h1, h2, h3⟩ := h
  exact ⟨v, h1.kept k, h2.trans k, fun i hi => ⟨Nat.lt_of_lt_of_le (h3 i hi).1 k.size, (h3 i hi).2⟩⟩
end NowX
/-- Make at such a memory: the blocks X are as they were, and apart again. -/
theorem nowx_make (X : Nat → Prop) (w W : World) (b : Nat) (s : Mst) (a : Option Addr) (ws : List Int) (M cw : Nat) (r : Int) (f : Bool) (s' : Mst) (h : NowX X w W b s) (hM : ws.length = M) (hr : Reads W a ws) (hlw : ws.length ≤ maxLen) (hs : ws ≠ [] → ∀ ad, a = some ad → ad.block ≠ b) (e1 : s.next ws = r) (e2 : s.fits ws.length = f) (e3 : s.make ws = s') :
    Calls Try.prog 25 #[.pointer (some ⟨b, 0, none⟩), .slice a M cw] W fun e W' => e = .returned (.tuple #[.int .i64 r, .bool f]) ∧ NowX X w W' b s' ∧ Turned (fun k => ¬ X k) W W' := by
  obtain ⟨v, h1, h2, h3⟩ := h
  subst e1 e2 e3 hM
  refine (make_p W w.heap.size b v s a ws cw h1 h2.size hr hlw hs).mono fun e W' hh => ?_
  obtain ⟨he, v', h', t, hf⟩ := hh
  refine ⟨he, ⟨v', h', h2.own (fun i e => (h1.lt i e).1) t, fun i hi => ⟨Nat.lt_of_lt_of_le (h3 i hi).1 t.size, fun e => ?_⟩⟩, t.mono fun i _ e hX => (h3 i hX).2 e⟩
  rcases hf i e with hi' | hi'
  · exact (h3 i hi).2 hi'
  · have := (h3 i hi).1
    omega

theorem run_make2 (n : Nat) (h : n ≤ 100) (w : World) : (Instr.makeSlice 23 (.int .i64 (n : Int)) (.int .i64 (n : Int))).run Try.prog w = .ok (.slice (some ⟨w.heap.size, 0, none⟩) n n) (w.alloc (.cells (madeCells #[.int .i64 0] n) 2)) :=
  run_make_row' 23 2 (.int .i64 0) 8 Try.underlying23 info2_p rfl .i64 .i64 n (by omega) (by omega) w
theorem made_reads (W : World) (N : Nat) : Reads (W.alloc (.cells (madeCells #[.int .i64 0] N) 2)) (some ⟨W.heap.size, 0, none⟩) (List.replicate N 0) := by
  refine .inr ⟨W.heap.size, 0, rfl, fun j z hz => ?_⟩
  have hj : j < N := by have := (List.getElem?_eq_some_iff.1 hz).1; simpa using this
  have e : (List.replicate N (0 : Int))[j]? = some 0 := by simp [hj]
  rw [e] at hz
  cases hz
  rw [Nat.zero_add, (World.rowIs_made W (.int .i64 0) N 2).cell hj]

/-- An append of one number to a row of one's own; the longer list a letter. -/
theorem wpList_append_one {w0 wr : World} {x : Int} {ops : Array Oper} {rest : List Oper} {o : Oper} {a : Act} {Q : Exit → Act → World → Prop} (hgd : o.guard = none) (s y : Operand)
    (ho : o.op = .call { callee := .builtin .append, args := #[s, y], argTypes := #[23, 23] }) (v : Value) (ys : List Int) (hs : a.eval s = v) (hx : a.eval y = .slice (some ⟨wr.heap.size, 0, none⟩) 1 1) (hrow : Row wr w0.heap.size 2 v ys) (hk : Kept w0 wr) (hl : ys.length ≤ 999999)
    (h : ∀ v' w' ys', Row w' w0.heap.size 2 v' ys' → ys' = ys ++ [x] → Kept w0 w' → wpList Try.prog ops Q rest (a.put o.dst v') w') :
    wpList Try.prog ops Q (o :: rest) a (wr.alloc (.cells #[.int .i64 x] 2)) := by
  have k1 : Kept wr (wr.alloc (.cells #[.int .i64 x] 2)) := Turned.alloc _ _ _
  refine wpList_append_reads hgd s y ho w0.heap.size v ys.length (cellsOf ys) hs (hrow.kept k1) _ [x] 1 hx (Reads.new wr 2 [x]) (fun e => by cases e) (by simp; omega) (Nat.le_trans hk.size k1.size) ?_
  intro v2 w2 hown hg _
  refine h v2 w2 _ ?_ rfl (kept_append (hk.trans k1) (hrow.kept k1) hg)
  show World.ownsRow _ _ 2 1 _ (ys ++ [x]).length (cellsOf (ys ++ [x]))
  rw [List.length_append, cellsOf, List.map_append]
  exact hown

/-- What a Make lays behind what is there. -/
theorem make_more (xs ws : List Int) (n c : Int) (h0 : ws ≠ []) (h : (xs.length : Int) + ws.length ≤ n) : (Mst.mk xs n c 0 0).make ws = ⟨xs ++ ws, n, wrap64 (c + 1), 0, 0⟩ ∧ (Mst.mk xs n c 0 0).fits ws.length = true ∧ (Mst.mk xs n c 0 0).next ws = (xs.length : Int) + 1 := by
  have h1 : 0 < ws.length := List.length_pos_iff.2 h0
  have hf : (Mst.mk xs n c 0 0).fits ws.length = true := by simp [Mst.fits, h1, h]
  exact ⟨by rw [Mst.make, if_pos hf], hf, by rw [Mst.next, if_pos hf]⟩
theorem look_more {xs ws : List Int} {n c x z : Int} {i : Nat} (hz : ws[i]? = some z) (hx : x = (xs.length : Int) + 1 + i) : (Mst.mk (xs ++ ws) n c 0 0).look x = z := by
  have : (xs ++ ws)[xs.length + i]? = some z := by rw [List.getElem?_append_right (by omega), Nat.add_sub_cancel_left]; exact hz
  have h2 := Mst.look_succ (s := Mst.mk (xs ++ ws) n c 0 0) this
  rw [hx, ← h2]
  congr 1
  omega
theorem innerL_key {size : Int} {q c : List Int} {i : Nat} {z : Int} (h : q[i]? = some z) : (innerL size q c)[5 + i]? = some z := by
  have hi := (List.getElem?_eq_some_iff.1 h).1
  rw [innerL, List.getElem?_append_right (by simp)]
  simp [List.getElem?_append_left hi, h]
theorem innerL_child {size : Int} {q c : List Int} {i : Nat} {z : Int} (h : c[i]? = some z) : (innerL size q c)[5 + q.length + i]? = some z := by
  rw [innerL, List.getElem?_append_right (by simp; omega)]
  rw [List.getElem?_append_right (by simp; omega)]
  rw [← h]
  congr 1
  simp
  omega

set_option maxRecDepth 100000 in
set_option maxHeartbeats 4000000 in
theorem nodePlaces_c (w : World) (size : Int) (aq : Option Addr) (q : List Int) (cq : Nat) (first pad : Int) (hr : Reads w aq q) (hq0 : aq = none → cq = 0) (hc : q.length ≤ cq) (hm : cq ≤ maxLen) :
    Calls Try.prog 5 #[.int .i64 size, .slice aq q.length cq, .int .i64 first, .int .i64 pad] w fun e w' => e = .returned (.bool true) ∧ Kept w w' := by
  have hlm : (q.length : Int) ≤ 9223372036854775807 := by unfold maxLen at hm; omega
  by_cases hlen : 100 < q.length
  · have i1 : (100 : Int) < (q.length : Int) := by omega
    go_enter Try.func5, Try.ntmps5
    go_wp2_with (fail)
    refine (known_c w).mono ?_
    rintro e W1 ⟨rfl, hk⟩
    have HK := hide hk
    clear hk
    go_wp2
    go_ret
    exact ⟨rfl, HK.out⟩
  have hl1 : (q.length : Int) ≤ 100 := by omega
  obtain ⟨p, hp, -, HJ⟩ := cut_k pad 20 (by omega) (by omega)
  have HR := hide hr
  have HQ0 := hide hq0
  clear hr hm hlen hq0
  go_enter Try.func5, Try.ntmps5
  go_wp2_with (fail)
  refine (now_new w w 400 (Kept.refl w) (by decide) (by decide)).mono ?_
  rintro e W1 ⟨rfl, h1, -⟩
  have H1 := hide h1
  have R1 := hide (row_new W1 2 [first] W1.heap.size (Nat.le_refl _) (by simp))
  have K1 : Hid (Kept W1 (W1.alloc (.cells #[.int .i64 first] 2))) := hide ((Kept.refl W1).alloc _)
  clear h1
  go_wp2
  go_loopw [11, 12] (fun v i wr => ∃ (t : Nat) (ys : List Int), t ≤ q.length ∧ i = .int .i64 (t : Int) ∧ Hid (Row wr W1.heap.size 2 v ys) ∧ Hid (ys.length = t + 1) ∧ Hid (Kept W1 wr)) (fun _ i _ => q.length - (intOf i).toNat)
  case atStart => exact ⟨0, [first], Nat.zero_le _, rfl, R1, hide rfl, K1⟩
  case round =>
    obtain ⟨t, ys, ht, rfl, R2, L2, K2⟩ := hrel
    clear R1 K1
    by_cases hlt : t < q.length
    · obtain ⟨z, hz⟩ : ∃ z, q[t]? = some z := ⟨_, List.getElem?_eq_getElem hlt⟩
      obtain ⟨bl, off, rfl, hbl, hcell⟩ := HR.out.at hz
      have hcell1 := (H1.out.2.trans K2.out).cell hcell id
      have i1 : (t : Int) < (q.length : Int) := by omega
      have i3 : t < cq := by omega
      clear hz hcell
      go_wp2_with (at_builtin; refine Stop.out ?_)
      refine ⟨?_⟩
      refine wpList_append_one rfl _ _ rfl _ ys rfl rfl R2.out K2.out (by have := L2.out; omega) ?_
      intro v2 w2 zs r3 e3 k3
      have R3 := hide r3
      have K3 := hide k3
      have L3 : Hid (zs.length = t + 1 + 1) := hide (by rw [e3, List.length_append, L2.out]; rfl)
      clear r3 e3 k3
      go_wp2
      exact ⟨⟨t + 1, zs, by omega, by simp, R3, L3, K3⟩, by simp [intOf]; omega⟩
    · have i1 : ¬ ((t : Int) < (q.length : Int)) := by omega
      obtain rfl : t = q.length := by omega
      rename World => W2
      obtain ⟨ac, cc, rfl, rc, hcc, hcm, hclow⟩ := R2.out.reads
      have hy : 0 < ys.length := by rw [L2.out]; omega
      have LT := hide R2.out.lt
      have HN : Hid (NowX (fun k => ∃ ad, ac = some ad ∧ ad.block = k) w W2 w.heap.size (Mst.new 400)) := hide (NowX.new H1.out K2.out (fun k hk => by
        obtain ⟨ad, rfl, rfl⟩ := hk
        exact LT.out _ rfl))
      have HC0 : Hid (ac = none → cc = 0) := hide (fun e => by
        rcases rc with h | ⟨bl, off, h, _⟩
        · rw [h] at hy
          simp at hy
        · rw [h] at e
          cases e)
      have RC := hide rc
      have HMK : ∀ W : World, (Instr.makeSlice 23 (.int .i64 (1 + (p : Int))) (.int .i64 (1 + (p : Int)))).run Try.prog W = .ok (.slice (some ⟨W.heap.size, 0, none⟩) (p + 1) (p + 1)) (W.alloc (.cells (madeCells #[.int .i64 0] (p + 1)) 2)) := fun W => by
        rw [show 1 + (p : Int) = ((p + 1 : Nat) : Int) by omega]
        exact run_make2 (p + 1) (by omega) W
      have hl2 : (ys.length : Int) ≤ 101 := by rw [L2.out]; omega
      have hl3 : (1 : Int) ≤ (ys.length : Int) := by omega
      have F1 := hide (make_full (List.replicate (p + 1) 0) 400 (by simp) (by simp; omega))
      have F2 := hide (make_more (List.replicate (p + 1) 0) (innerL size q ys) 400 1 (by simp [innerL]) (by rw [innerL_length, L2.out]; simp; omega))
      clear rc hy LT hcm hclow R2
      go_wp2_with (fail)
      refine (HJ _).mono ?_
      rintro e w' ⟨rfl, rfl⟩
      go_wp2_with (fail)
      refine (nowx_make _ w _ w.heap.size (Mst.new 400) _ (List.replicate (p + 1) 0) (p + 1) (p + 1) _ true ⟨List.replicate (p + 1) 0, 400, 1, 0, 0⟩ (HN.out.on (Turned.alloc (fun _ => False) W2 _)) (by simp) (made_reads W2 (p + 1)) (by simp; unfold maxLen; omega) (fun _ ad e => by cases e; exact Nat.ne_of_gt HN.out.now.lt.2) rfl F1.out.2 F1.out.1).mono ?_
      rintro e W3 ⟨rfl, h3, t3⟩
      have H3 := hide h3
      have RC3 := hide ((RC.out.kept (Turned.alloc (fun _ => False) W2 _)).turned t3 (fun k _ hk hn => hn hk))
      clear h3 t3 HN RC F1
      go_wp2_with (fail)
      refine (inner_c W3 size aq q cq ac ys cc (HR.out.kept H3.out.now.2) RC3.out HQ0.out HC0.out L2.out (by omega)).mono ?_
      intro e W4 hf
      obtain ⟨a4, cap4, rfl, r4, c4, m4, lo4, -, k4⟩ := hf.form
      have H4 := hide (H3.out.on k4)
      have RC4 := hide (RC3.out.kept k4)
      have R4 := hide r4
      have B4 : Hid (∀ ad, a4 = some ad → ad.block ≠ w.heap.size) := hide (fun ad e => by
        have e1 := lo4 ad e
        have e2 := H3.out.now.lt.2
        omega)
      have M4 : Hid ((innerL size q ys).length ≤ maxLen) := hide (by rw [innerL_length]; unfold maxLen; omega)
      clear hf r4 c4 m4 lo4 k4 H3 RC3
      go_wp2_with (fail)
      refine (nowx_make _ w W4 w.heap.size ⟨List.replicate (p + 1) 0, 400, 1, 0, 0⟩ a4 (innerL size q ys) _ cap4 ((p : Int) + 2) true ⟨List.replicate (p + 1) 0 ++ innerL size q ys, 400, wrap64 (1 + 1), 0, 0⟩ H4.out rfl R4.out M4.out (fun _ => B4.out) (by rw [F2.out.2.2]; simp; omega) F2.out.2.1 F2.out.1).mono ?_
      rintro e W5 ⟨rfl, h5, t5⟩
      have N5 := h5.now
      have RC5 := hide (RC4.out.turned t5 (fun k _ hk hn => hn hk))
      clear h5 t5 H4 RC4 R4 B4 M4 F2
      obtain ⟨S, hS⟩ : ∃ S : Mst, S = ⟨List.replicate (p + 1) 0 ++ innerL size q ys, 400, wrap64 (1 + 1), 0, 0⟩ := ⟨_, rfl⟩
      have LK : Hid (∀ (x : Int) (i : Nat) (z : Int), (innerL size q ys)[i]? = some z → x = (p : Int) + 2 + i → S.look x = z) := hide (fun x i z hz hx => by
        rw [hS]
        exact look_more hz (by simp; omega))
      have LU : Hid ((S.xs.length : Int) = (p : Int) + 2 * (ys.length : Int) + 5) := hide (by
        rw [hS]
        show ((List.replicate (p + 1) 0 ++ innerL size q ys).length : Int) = _
        rw [List.length_append, innerL_length]
        have := L2.out
        simp
        omega)
      rw [← hS] at N5
      have H5 := hide N5
      clear N5 hS
      go_wp2_with (fail)
      refine (now_look w W5 w.heap.size S _ (ys.length : Int) H5.out (LK.out _ 0 _ rfl (by omega))).mono ?_
      rintro e w' ⟨rfl, rfl⟩
      go_wp2_with (fail)
      refine (now_look w W5 w.heap.size S _ size H5.out (LK.out _ 1 _ rfl (by omega))).mono ?_
      rintro e w' ⟨rfl, rfl⟩
      go_wp2_with (fail)
      refine (now_look w W5 w.heap.size S _ 0 H5.out (LK.out _ 2 _ rfl (by omega))).mono ?_
      rintro e w' ⟨rfl, rfl⟩
      go_wp2_with (fail)
      refine (now_look w W5 w.heap.size S _ 0 H5.out (LK.out _ 3 _ rfl (by omega))).mono ?_
      rintro e w' ⟨rfl, rfl⟩
      go_wp2_with (fail)
      refine (now_look w W5 w.heap.size S _ 0 H5.out (LK.out _ 4 _ rfl (by omega))).mono ?_
      rintro e w' ⟨rfl, rfl⟩
      go_wp2
      go_loopw [16] (fun i wr => ∃ t : Nat, t ≤ ys.length ∧ i = .int .i64 (t : Int) ∧ Hid (Kept W5 wr)) (fun i _ => ys.length - (intOf i).toNat)
      case atStart => exact ⟨0, Nat.zero_le _, rfl, hide (Kept.refl _)⟩
      case round =>
        obtain ⟨t, ht, rfl, K6⟩ := hrel
        by_cases hlt : t < ys.length
        · obtain ⟨z, hz⟩ : ∃ z, ys[t]? = some z := ⟨_, List.getElem?_eq_getElem hlt⟩
          obtain ⟨bl, off, rfl, hbl, hcell⟩ := (RC5.out.kept K6.out).at hz
          have i1 : (t : Int) < (ys.length : Int) := by omega
          have i3 : t < cc := by omega
          have H6 := H5.out.on K6.out
          obtain ⟨A1, hA1⟩ : ∃ A, childZ ((p : Int) + 2) (ys.length : Int) (t : Int) = A := ⟨_, rfl⟩
          have e1 : S.look A1 = z := LK.out A1 (5 + q.length + t) z (innerL_child hz) (by
            rw [← hA1, childZ_in (by omega) (by omega) (by omega) (by omega) (by omega) (by omega)]
            have := L2.out
            omega)
          have hch : ∀ k : Nat, Calls Try.prog 11 #[.int .i64 ((p : Int) + 2), .int .i64 (ys.length : Int), .int .i64 (t : Int)] (wr.drewN k) fun e w' => e = .returned (.int .i64 A1) ∧ w' = wr.drewN k := fun k => (child_c _ _ _ _ _ hA1).mono fun _ _ h => ⟨h.1, h.2.symm⟩
          have hlk : ∀ (k : Nat) (x : Int), Calls Try.prog 27 #[.pointer (some ⟨w.heap.size, 0, none⟩), .int .i64 x] (wr.drewN k) fun e w' => e = .returned (.int .i64 (S.look x)) ∧ w' = wr.drewN k := fun k x => (now_look w _ w.heap.size S x _ (H6.on (Kept.drewN _ k)) rfl).mono fun _ _ h => ⟨h.1, h.2.symm⟩
          have KD : Hid (∀ k : Nat, Kept W5 (wr.drewN k)) := hide (fun k => K6.out.drewN' k)
          clear hz hA1 H6
          by_cases h0 : t = 0
          · have i4 : decide ((0 : Int) < (t : Int)) = false := by simp; omega
            have i5 : decide (0 < t) = false := by simp; omega
            clear h0
            go_wp2_with (fail)
            go_quiet (first | (go_at_call 11; refine Calls.quiet_of_same (hch _)) | (go_at_call 27; refine Calls.quiet_of_same (hlk _ _)))
            go_wp2
            exact ⟨⟨t + 1, by omega, by simp, hide (KD.out _)⟩, by simp [intOf]; omega⟩
          · obtain ⟨u, rfl⟩ : ∃ u, t = u + 1 := ⟨t - 1, by omega⟩
            have hu : u < q.length := by have := L2.out; omega
            obtain ⟨y, hy⟩ : ∃ y, q[u]? = some y := ⟨_, List.getElem?_eq_getElem hu⟩
            obtain ⟨bl2, off2, rfl, hbl2, hcell2'⟩ := HR.out.at hy
            have hcell2 := (H5.out.2.trans K6.out).cell hcell2' id
            obtain ⟨A2, hA2⟩ : ∃ A, keyZ ((p : Int) + 2) ((u : Int) + 1) = A := ⟨_, rfl⟩
            have e2 : S.look A2 = y := LK.out A2 (5 + u) y (innerL_key hy) (by
              rw [← hA2, keyZ_in (by omega) (by omega) (by omega) (by omega)]
              omega)
            have hky : ∀ k : Nat, Calls Try.prog 10 #[.int .i64 ((p : Int) + 2), .int .i64 ((u : Int) + 1)] (wr.drewN k) fun e w' => e = .returned (.int .i64 A2) ∧ w' = wr.drewN k := fun k => (key_c _ _ _ _ hA2).mono fun _ _ h => ⟨h.1, h.2.symm⟩
            have i4 : (0 : Int) < (u : Int) + 1 := by omega
            have i5 : u < cq := by omega
            clear hy hA2 hcell2' h0
            go_wp2_with (fail)
            go_quiet (first | (go_at_call 11; refine Calls.quiet_of_same (hch _)) | (go_at_call 10; refine Calls.quiet_of_same (hky _)) | (go_at_call 27; refine Calls.quiet_of_same (hlk _ _)))
            go_wp2
            exact ⟨⟨u + 1 + 1, by omega, by simp, hide (KD.out _)⟩, by simp [intOf]; omega⟩
        · have i1 : ¬ ((t : Int) < (ys.length : Int)) := by omega
          have H6 := hide (H5.out.on K6.out)
          clear H5 K6 RC5
          rename World => W6
          go_wp2_with (fail)
          refine (known_c W6).mono ?_
          rintro e W7 ⟨rfl, hk⟩
          have H7 := hide (H6.out.on hk)
          clear hk H6
          go_wp2_with (fail)
          refine (child_c W7 _ _ _ ((p : Int) + 2 * (ys.length : Int) + 5) (by rw [childZ_in (by omega) (by omega) (by omega) (by omega) (by omega) (by omega)]; omega)).mono ?_
          rintro e w' ⟨rfl, rfl⟩
          go_wp2_with (fail)
          refine (now_used w W7 w.heap.size _ ((p : Int) + 2 * (ys.length : Int) + 5) H7.out LU.out).mono ?_
          rintro e w' ⟨rfl, rfl⟩
          go_wp2_with (fail)
          refine (now_used w W7 w.heap.size _ ((p : Int) + 2 + 2 * (ys.length : Int) + 3) H7.out (by rw [LU.out]; omega)).mono ?_
          rintro e w' ⟨rfl, rfl⟩
          go_wp2
          go_ret
          exact ⟨rfl, H7.out.2⟩
end Go.Proofs.Ytkbamodjhilmeaa
