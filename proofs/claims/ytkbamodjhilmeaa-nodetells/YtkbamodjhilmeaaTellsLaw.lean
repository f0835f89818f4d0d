/-
  What NodeTells answers: true; nothing that lay is turned.
-/
import Derived.Test.YtkbamodjhilmeaaPlacesLaw
namespace Go.Proofs.Ytkbamodjhilmeaa
open Go.RowKit

/-- An append of a slice of numbers to an empty literal: a new row. -/
theorem wpList_append_empty {wr : World} {ops : Array Oper} {rest : List Oper} {o : Oper} {a : Act} {Q : Exit → Act → World → Prop} (hgd : o.guard = none) (s y : Operand)
    (ho : o.op = .call { callee := .builtin .append, args := #[s, y], argTypes := #[23, 23] }) (hs : a.eval s = .slice (some ⟨wr.heap.size, 0, none⟩) 0 0) (aw : Option Addr) (ws : List Int) (cw : Nat) (hx : a.eval y = .slice aw ws.length cw) (hr : Reads wr aw ws) (h0 : aw = none → cw = 0) (hl : ws.length ≤ 999999)
    (h : ∀ v' w', Row w' wr.heap.size 2 v' ws → Kept wr w' → wpList Try.prog ops Q rest (a.put o.dst v') w') :
    wpList Try.prog ops Q (o :: rest) a (wr.alloc (.cells #[] 2)) := by
  have k1 : Kept wr (wr.alloc (.cells #[] 2)) := Turned.alloc _ _ _
  have r0 : (wr.alloc (.cells #[] 2)).ownsRow wr.heap.size 2 1 (.slice (some ⟨wr.heap.size, 0, none⟩) 0 0) 0 [] := ⟨rfl, .inr ⟨wr.heap.size, 0, #[], rfl, Nat.le_refl _, heap_new wr _, Nat.le_refl _, Nat.zero_le _, rfl, rfl⟩⟩
  refine wpList_append_reads hgd s y ho wr.heap.size _ 0 [] hs r0 aw ws cw hx (hr.kept k1) h0 (by omega) k1.size ?_
  intro v2 w2 hown hg _
  exact h v2 w2 (by simpa using hown) (kept_append (ys := []) k1 r0 hg)

/-- InnerWords of a slice whose length is told another way. -/
theorem inner_m (w : World) (size : Int) (aq : Option Addr) (q : List Int) (cq : Nat) (ac : Option Addr) (c : List Int) (M cc : Nat) (hM : c.length = M) (hq : Reads w aq q) (hc : Reads w ac c) (hq0 : aq = none → cq = 0) (hc0 : ac = none → cc = 0) (hlen : M = q.length + 1) (hl : M ≤ 40000) :
    Calls Try.prog 9 #[.int .i64 size, .slice aq q.length cq, .slice ac M cc] w (Fresh (innerL size q c) w) := by
  subst hM
  exact inner_c w size aq q cq ac c cc hq hc hq0 hc0 hlen hl
theorem inner_mr (w : World) (size : Int) (aq : Option Addr) (q : List Int) (cq : Nat) (ac : Option Addr) (c : List Int) (M cc : Nat) (hM : c.length = M) (hq : Reads w aq q) (hc : Reads w ac c) (hq0 : aq = none → cq = 0) (hc0 : ac = none → cc = 0) (hlen : M = q.length + 1) (hl : M ≤ 40000) :
    Calls Try.prog 17 #[.int .i64 size, .slice aq q.length cq, .slice ac M cc] w (Fresh (innerL size q c) w) := by
  subst hM
  exact inner_r w size aq q cq ac c cc hq hc hq0 hc0 hlen hl

/-- A row of numbers, whatever they are. -/
def Some (w : World) (n₀ : Nat) (v : Value) (n : Nat) : Prop := ∃ ys : List Int, w.ownsRow n₀ 2 1 v n (cellsOf ys)
theorem Some.at {w : World} {n₀ n k : Nat} {v : Value} (h : Some w n₀ v n) (hk : k < n) : ∃ g cap z, v = .slice (some ⟨g, 0, none⟩) n cap ∧ w.cell? ⟨g, k, none⟩ = some (.int .i64 z) ∧ w.frozen? ⟨g, k, none⟩ = false ∧ n₀ ≤ g ∧ n ≤ cap ∧ cap ≤ maxLen ∧ ∀ x, Some (w.setCell ⟨g, k, none⟩ (.int .i64 x)) n₀ v n := by
  obtain ⟨ys, h⟩ := h
  rcases h.2 with ⟨_, h0⟩ | ⟨g, cap, cur, rfl, hg, _, hc, hm, _⟩
  · omega
  · have hl : ys.length = n := by have := h.1; simpa [cellsOf] using this
    refine ⟨g, cap, ys[k]'(by omega), rfl, ?_, h.frozenAt k, hg, hc, hm, fun x => ⟨ys.set k x, ?_⟩⟩
    · rw [h.cellAt k (by omega)]
      simp [cellsOf, hl, hk]
    · have : cellsOf (ys.set k x) = (cellsOf ys).set k (.int .i64 x) := by simp [cellsOf, List.map_set]
      rw [this]
      exact (h.stored k (.int .i64 x)).1

/-- The first of them. -/
theorem Reads.take {w : World} {a : Option Addr} {zs : List Int} (h : Reads w a zs) (n : Nat) : Reads w a (zs.take n) := by
  rcases h with h | ⟨bl, off, h1, h2⟩
  · exact .inl (by rw [h]; simp)
  · refine .inr ⟨bl, off, h1, fun j z hz => h2 j z ?_⟩
    rw [List.getElem?_take] at hz
    split at hz
    · exact hz
    · cases hz
/-- A slice's length. -/
def lenV : Value → Nat
  | .slice _ n _ => n
  | _ => 0
theorem Reads.none {w : World} {a : Option Addr} {zs : List Int} {cap : Nat} (h : Reads w a zs) (h0 : 0 < zs.length) : a = none → cap = 0 := fun e => by
  rcases h with h | ⟨bl, off, h, _⟩
  · rw [h] at h0
    simp at h0
  · rw [h] at e
    cases e
theorem Row.none {w : World} {n₀ : Nat} {a : Option Addr} {n cap : Nat} {zs : List Int} (h : Row w n₀ 2 (.slice a n cap) zs) : a = none → cap = 0 := fun e => by
  subst e
  rcases h.2 with ⟨h1, _⟩ | ⟨g, cap, cur, h1, _⟩
  · cases h1
    rfl
  · cases h1

/-- Two calls that tell the same numbers, one behind the other, and that they are alike: what the second one and Words want. -/
theorem words_two {W W1 W2 : World} {a1 a2 : Option Addr} {zs : List Int} {p1 p2 : Nat} (r1 : Reads W1 a1 zs) (c1 : zs.length ≤ p1) (m1 : p1 ≤ maxLen) (k1 : Kept W W1) (r2 : Reads W2 a2 zs) (c2 : zs.length ≤ p2) (k2 : Kept W1 W2) :
    Calls Try.prog 12 #[.slice a1 zs.length p1, .slice a2 zs.length p2] W2 fun e w' => e = .returned (.bool true) ∧ Kept W w' :=
  (words_k W2 a1 a2 zs p1 p2 (r1.kept k2) r2 c1 c2 m1).mono fun _ _ h => ⟨h.1, (k1.trans k2).trans h.2⟩

set_option maxRecDepth 100000 in
set_option maxHeartbeats 8000000 in
theorem nodeTells_c (w : World) (k v size : Int) (aq : Option Addr) (q : List Int) (cq : Nat) (ac : Option Addr) (c : List Int) (cc : Nat) (n d i : Int) (hq : Reads w aq q) (hc : Reads w ac c) (hq0 : aq = none → cq = 0) (hc0 : ac = none → cc = 0) (hqm : q.length ≤ maxLen) (hcm : c.length ≤ maxLen) :
    Calls Try.prog 4 #[.int .i64 k, .int .i64 v, .int .i64 size, .slice aq q.length cq, .slice ac c.length cc, .int .i64 n, .int .i64 d, .int .i64 i] w fun e w' => e = .returned (.bool true) ∧ Kept w w' := by
  have hlq : (q.length : Int) ≤ 9223372036854775807 := by unfold maxLen at hqm; omega
  have hlc : (c.length : Int) ≤ 9223372036854775807 := by unfold maxLen at hcm; omega
  by_cases h1 : 300 < q.length
  · have i1 : (300 : Int) < (q.length : Int) := by omega
    clear hq hc hq0 hc0 hqm hcm
    go_enter Try.func4, Try.ntmps4
    go_wp2_with (fail)
    refine (known_c w).mono ?_
    rintro e W1 ⟨rfl, hk⟩
    have HK := hide hk
    clear hk
    go_wp2
    go_ret
    exact ⟨rfl, HK.out⟩
  have i1 : (q.length : Int) ≤ 300 := by omega
  by_cases h2 : 300 < c.length
  · have i2 : (300 : Int) < (c.length : Int) := by omega
    clear hq hc hq0 hc0 hqm hcm h1
    go_enter Try.func4, Try.ntmps4
    go_wp2_with (fail)
    refine (known_c w).mono ?_
    rintro e W1 ⟨rfl, hk⟩
    have HK := hide hk
    clear hk
    go_wp2
    go_ret
    exact ⟨rfl, HK.out⟩
  have i2 : (c.length : Int) ≤ 300 := by omega
  have HQ := hide hq
  have HC := hide hc
  have HQ0 := hide hq0
  have HC0 := hide hc0
  clear hq hc hq0 hc0 hqm hcm h1 h2
  go_enter Try.func4, Try.ntmps4
  go_wp2_with (at_builtin; refine Stop.out ?_)
  refine ⟨?_⟩
  refine wpList_append_empty rfl _ _ rfl rfl ac c cc rfl HC.out HC0.out (by omega) ?_
  intro v1 W1 r1 k1
  obtain ⟨aw, cw, rfl, -⟩ := r1.reads
  have R1 := hide r1
  have K1 := hide k1
  clear r1 k1
  go_wp2
  go_loopw [17] (fun u wr => ∃ (ys : List Int) (a : Option Addr) (cap : Nat), u = .slice a ys.length cap ∧ (ys.length : Int) ≤ 400 ∧ Hid (Row wr w.heap.size 2 (.slice a ys.length cap) ys) ∧ Hid (Kept w wr)) (fun u _ => q.length + 1 - lenV u)
  case atStart => exact ⟨c, aw, cw, rfl, by omega, R1, K1⟩
  case round =>
    obtain ⟨ys, aw, cw, rfl, hy, R2, K2⟩ := hrel
    clear R1 K1
    by_cases hlt : ys.length < q.length + 1
    · have j1 : (ys.length : Int) < (q.length : Int) + 1 := by omega
      go_wp2_with (at_builtin; refine Stop.out ?_)
      refine ⟨?_⟩
      refine wpList_append_one rfl _ _ rfl _ ys rfl rfl R2.out K2.out (by omega) ?_
      intro v2 w2 zs r3 e3 k3
      obtain ⟨a3, c3, rfl, -⟩ := r3.reads
      have hzl : zs.length = ys.length + 1 := by rw [e3, List.length_append]; rfl
      have Z1 : Hid ((zs.length : Int) ≤ 400 ∧ q.length + 1 - zs.length < q.length + 1 - ys.length) := hide (by omega)
      have R3 := hide r3
      have K3 := hide k3
      clear r3 e3 k3 hzl
      go_wp2
      exact ⟨⟨zs, a3, c3, rfl, Z1.out.1, R3, K3⟩, Z1.out.2⟩
    · have j1 : ¬ ((ys.length : Int) < (q.length : Int) + 1) := by omega
      rename World => W2
      obtain ⟨_, _, e2, rw2, hcw, hmw, lw2⟩ := R2.out.reads
      cases e2
      have j2 : q.length + 1 ≤ cw := by omega
      have j2' : (q.length : Int) + 1 ≤ (cw : Int) := by omega
      have PL : Hid ((ys.take (q.length + 1)).length = q.length + 1) := hide (by rw [List.length_take]; omega)
      have BW : Hid (∀ ad, aw = some ad → ad.block < W2.heap.size) := hide (fun ad e => (R2.out.lt ad.block (by rw [e]; rfl)).2)
      have AW : Hid (∀ C : Nat, aw = none → C = 0) := hide (fun C => rw2.none (by omega))
      have RP := hide (rw2.take (q.length + 1))
      clear rw2 lw2 hlt
      generalize ys.take (q.length + 1) = P at *
      go_wp2_with (at_builtin; refine Stop.out ?_)
      refine ⟨?_⟩
      refine wpList_append_empty rfl _ _ rfl rfl aq q cq rfl (HQ.out.kept K2.out) HQ0.out (by omega) ?_
      intro v3 W3 r3 k3
      obtain ⟨aa, ca, rfl, ra, hca, hma, -⟩ := r3.reads
      have S3 : Hid (Some W3 W2.heap.size (.slice aa q.length ca) q.length) := hide ⟨q, r3⟩
      have O3 : Hid (∀ ad, aa = some ad → W2.heap.size ≤ ad.block ∧ ad.block < W3.heap.size) := hide (fun ad e => r3.lt ad.block (by rw [e]; rfl))
      have A3 := hide r3.none
      have R3 := hide ra
      have K3 := hide k3
      have P3 := hide (RP.out.kept k3)
      clear r3 k3 ra hma
      go_wp2_with (fail)
      refine (inner_m W3 size aa q ca aw P _ cw PL.out R3.out P3.out A3.out (AW.out _) rfl (by omega)).mono ?_
      intro e W4 hf
      obtain ⟨ax, cx, rfl, r4, c4, m4, lo4, -, k4⟩ := hf.form
      have X4 := hide r4
      have C4 := hide c4
      have M4 := hide m4
      have L4 := hide lo4
      have S4 : Hid (Some W4 W2.heap.size (.slice aa q.length ca) q.length) := hide (by
        obtain ⟨us, h⟩ := S3.out
        refine ⟨us, h.1, ?_⟩
        rcases h.2 with h2 | ⟨g, cap, cur, h1, hg, hh, r⟩
        · exact .inl h2
        · exact .inr ⟨g, cap, cur, h1, hg, k4.heap hh id, r⟩)
      have P4 := hide (P3.out.kept k4)
      have K4 := hide k4
      clear hf r4 c4 m4 lo4 k4 S3 R3 P3 A3
      go_wp2
      go_loopw [20] (fun u wr => ∃ t : Nat, t ≤ q.length ∧ u = .int .i64 (t : Int) ∧ Hid (Some wr W2.heap.size (.slice aa q.length ca) q.length) ∧ Hid (Turned (fun b => ∃ ad, aa = some ad ∧ ad.block = b) W4 wr)) (fun u _ => q.length - (intOf u).toNat)
      case atStart => exact ⟨0, Nat.zero_le _, rfl, S4, hide (Turned.refl _ _)⟩
      case round =>
        obtain ⟨t, ht, rfl, S5, T5⟩ := hrel
        clear S4
        by_cases hlt : t < q.length
        · obtain ⟨g, c5, y, he, hcl, hfr, hg, hn5, hm5, hst⟩ := S5.out.at hlt
          cases he
          have j3 : (t : Int) < (q.length : Int) := by omega
          have j4 : t < ca := by omega
          have HST := hide hst
          have HT : Hid (∀ u : Value, Turned (fun b => ∃ ad, some (⟨g, 0, none⟩ : Addr) = some ad ∧ ad.block = b) W4 (wr.setCell ⟨g, t, none⟩ u)) := hide (fun u => T5.out.trans (Turned.setCell (R := fun b => ∃ ad, some (⟨g, 0, none⟩ : Addr) = some ad ∧ ad.block = b) wr ⟨g, t, none⟩ u ⟨_, rfl, rfl⟩) (fun _ h => h) (fun _ _ h => h))
          clear hst S5 hm5 T5
          go_wp2
          exact ⟨⟨t + 1, by omega, by simp, hide (HST.out _), hide (HT.out _)⟩, by simp [intOf]; omega⟩
        · have j3 : ¬ ((t : Int) < (q.length : Int)) := by omega
          rename World => W5
          have KW : Hid (Kept w W5) := hide ((K2.out.trans (K3.out.trans K4.out)).own (fun b hb => by
            obtain ⟨ad, h1, rfl⟩ := hb
            exact Nat.le_trans K2.out.size (O3.out ad h1).1) T5.out)
          have P5 : Hid (Reads W5 aw P) := hide (P4.out.turned T5.out (fun b _ h1 h2 => by
            obtain ⟨ad, e1, rfl⟩ := h1
            obtain ⟨ad', e2, e3⟩ := h2
            have f1 := BW.out ad e1
            have f2 := (O3.out ad' e2).1
            omega))
          have X5 : Hid (Reads W5 ax (innerL size q P)) := hide (X4.out.turned T5.out (fun b _ h1 h2 => by
            obtain ⟨ad, e1, rfl⟩ := h1
            obtain ⟨ad', e2, e3⟩ := h2
            have f1 := L4.out ad e1
            have f2 := (O3.out ad' e2).2
            omega))
          clear P4 X4 T5 S5 L4 O3 BW K4 K3 K2 R2 RP hlt
          go_wp2_with (fail)
          refine (known_c W5).mono ?_
          rintro e W6 ⟨rfl, hk⟩
          have K6 := hide (KW.out.trans hk)
          have P6 := hide (P5.out.kept hk)
          have X6 := hide (X5.out.kept hk)
          clear hk KW P5 X5
          go_wp2_with (fail)
          refine (leaf_c W6 k v).mono ?_
          intro e W7 hf
          obtain ⟨a1, p1, rfl, r1, c1, m1, -, -, k1⟩ := hf.form
          have RR := hide r1
          have CC := hide c1
          have MM := hide m1
          have KK := hide k1
          clear hf r1 c1 m1 k1
          go_wp2_with (fail)
          refine (leaf_r W7 k v).mono ?_
          intro e W8 hf
          obtain ⟨a2, p2, rfl, r2, c2, -, -, -, k2⟩ := hf.form
          have HW := hide (words_two RR.out CC.out MM.out KK.out r2 c2 k2)
          clear hf r2 c2 k2 RR CC MM KK
          go_wp2_with (fail)
          refine HW.out.mono ?_
          rintro e W9 ⟨rfl, hk⟩
          have K9 := hide (K6.out.trans hk)
          have P9 := hide (P6.out.kept hk)
          have X9 := hide (X6.out.kept hk)
          clear hk K6 P6 X6
          clear HW
          go_wp2_with (fail)
          refine (empty_c W9).mono ?_
          intro e W10 hf
          obtain ⟨a1, p1, rfl, r1, c1, m1, -, -, k1⟩ := hf.form
          have RR := hide r1
          have CC := hide c1
          have MM := hide m1
          have KK := hide k1
          clear hf r1 c1 m1 k1
          go_wp2_with (fail)
          refine (empty_r W10).mono ?_
          intro e W11 hf
          obtain ⟨a2, p2, rfl, r2, c2, -, -, -, k2⟩ := hf.form
          have HW := hide (words_two RR.out CC.out MM.out KK.out r2 c2 k2)
          clear hf r2 c2 k2 RR CC MM KK
          go_wp2_with (fail)
          refine HW.out.mono ?_
          rintro e W12 ⟨rfl, hk⟩
          have K12 := hide (K9.out.trans hk)
          have P12 := hide (P9.out.kept hk)
          have X12 := hide (X9.out.kept hk)
          clear hk K9 P9 X9
          clear HW
          go_wp2_with (fail)
          refine (inner_mr W12 size aq q cq aw P _ cw PL.out (HQ.out.kept K12.out) P12.out HQ0.out (AW.out _) rfl (by omega)).mono ?_
          intro e W13 hf
          obtain ⟨a2, p2, rfl, r2, c2, -, -, -, k2⟩ := hf.form
          have HW := hide (words_two X12.out C4.out M4.out (Kept.refl W12) r2 c2 k2)
          clear hf r2 c2 k2
          go_wp2_with (fail)
          refine HW.out.mono ?_
          rintro e W14 ⟨rfl, hk⟩
          have K14 := hide (K12.out.trans hk)
          clear hk K12
          clear HW P12 X12 C4 M4 AW PL
          by_cases hcl : c.length = q.length + 1
          · have HL := hide hcl
            clear hcl
            go_wp2_with (fail)
            refine (inner_c W14 size aq q cq ac c cc (HQ.out.kept K14.out) (HC.out.kept K14.out) HQ0.out HC0.out HL.out (by omega)).mono ?_
            intro e W15 hf
            obtain ⟨a1, p1, rfl, r1, c1, m1, -, -, k1⟩ := hf.form
            have RR := hide r1
            have CC := hide c1
            have MM := hide m1
            have KK := hide k1
            clear hf r1 c1 m1 k1
            go_wp2_with (fail)
            refine (inner_r W15 size aq q cq ac c cc (HQ.out.kept (K14.out.trans KK.out)) (HC.out.kept (K14.out.trans KK.out)) HQ0.out HC0.out HL.out (by omega)).mono ?_
            intro e W16 hf
            obtain ⟨a2, p2, rfl, r2, c2, -, -, -, k2⟩ := hf.form
            have HW := hide (words_two RR.out CC.out MM.out KK.out r2 c2 k2)
            clear hf r2 c2 k2 RR CC MM KK
            go_wp2_with (fail)
            refine HW.out.mono ?_
            rintro e W17 ⟨rfl, hk⟩
            have K17 := hide (K14.out.trans hk)
            clear hk K14
            clear HW
            go_wp2_with (fail)
            refine (rebuild_c W17 k n d).mono ?_
            intro e W18 hf
            obtain ⟨a1, p1, rfl, r1, c1, m1, -, -, k1⟩ := hf.form
            have RR := hide r1
            have CC := hide c1
            have MM := hide m1
            have KK := hide k1
            clear hf r1 c1 m1 k1
            go_wp2_with (fail)
            refine (rebuild_r W18 k n d).mono ?_
            intro e W19 hf
            obtain ⟨a2, p2, rfl, r2, c2, -, -, -, k2⟩ := hf.form
            have HW := hide (words_two RR.out CC.out MM.out KK.out r2 c2 k2)
            clear hf r2 c2 k2 RR CC MM KK
            go_wp2_with (fail)
            refine HW.out.mono ?_
            rintro e W20 ⟨rfl, hk⟩
            have K20 := hide (K17.out.trans hk)
            clear hk K17
            clear HW
            go_wp2_with (fail)
            refine (dcss_c W20 n d k v).mono ?_
            intro e W21 hf
            obtain ⟨a1, p1, rfl, r1, c1, m1, -, -, k1⟩ := hf.form
            have RR := hide r1
            have CC := hide c1
            have MM := hide m1
            have KK := hide k1
            clear hf r1 c1 m1 k1
            go_wp2_with (fail)
            refine (dcss_r W21 n d k v).mono ?_
            intro e W22 hf
            obtain ⟨a2, p2, rfl, r2, c2, -, -, -, k2⟩ := hf.form
            have HW := hide (words_two RR.out CC.out MM.out KK.out r2 c2 k2)
            clear hf r2 c2 k2 RR CC MM KK
            go_wp2_with (fail)
            refine HW.out.mono ?_
            rintro e W23 ⟨rfl, hk⟩
            have K23 := hide (K20.out.trans hk)
            clear hk K20
            clear HW
            obtain ⟨A, hA⟩ : ∃ A, keyZ n i = A := ⟨_, rfl⟩
            have HA := hide hA
            clear hA
            go_wp2_with (fail)
            refine (key_c W23 n i A HA.out).mono ?_
            rintro e w' ⟨rfl, rfl⟩
            go_wp2_with (fail)
            refine (key_r W23 n i A HA.out).mono ?_
            rintro e w' ⟨rfl, rfl⟩
            clear HA
            obtain ⟨A, hA⟩ : ∃ A, childZ n d i = A := ⟨_, rfl⟩
            have HA := hide hA
            clear hA
            go_wp2_with (fail)
            refine (child_c W23 n d i A HA.out).mono ?_
            rintro e w' ⟨rfl, rfl⟩
            go_wp2_with (fail)
            refine (child_r W23 n d i A HA.out).mono ?_
            rintro e w' ⟨rfl, rfl⟩
            clear HA
            go_wp2
            go_ret
            exact ⟨rfl, K23.out⟩
          · have HL := hide hcl
            clear hcl
            go_wp2_with (fail)
            refine (inner0_c W14 size aq q cq ac c cc HL.out (by omega)).mono ?_
            rintro e w' ⟨rfl, rfl⟩
            go_wp2_with (fail)
            refine (inner0_r W14 size aq q cq ac c cc HL.out (by omega)).mono ?_
            rintro e w' ⟨rfl, rfl⟩
            go_wp2_with (fail)
            refine (words_k W14 none none [] 0 0 (.inl rfl) (.inl rfl) (Nat.le_refl _) (Nat.le_refl _) (Nat.zero_le _)).mono ?_
            rintro e W15 ⟨rfl, hk⟩
            have K15 := hide (K14.out.trans hk)
            clear hk K14
            go_wp2_with (fail)
            refine (rebuild_c W15 k n d).mono ?_
            intro e W16 hf
            obtain ⟨a1, p1, rfl, r1, c1, m1, -, -, k1⟩ := hf.form
            have RR := hide r1
            have CC := hide c1
            have MM := hide m1
            have KK := hide k1
            clear hf r1 c1 m1 k1
            go_wp2_with (fail)
            refine (rebuild_r W16 k n d).mono ?_
            intro e W17 hf
            obtain ⟨a2, p2, rfl, r2, c2, -, -, -, k2⟩ := hf.form
            have HW := hide (words_two RR.out CC.out MM.out KK.out r2 c2 k2)
            clear hf r2 c2 k2 RR CC MM KK
            go_wp2_with (fail)
            refine HW.out.mono ?_
            rintro e W18 ⟨rfl, hk⟩
            have K18 := hide (K15.out.trans hk)
            clear hk K15
            clear HW
            go_wp2_with (fail)
            refine (dcss_c W18 n d k v).mono ?_
            intro e W19 hf
            obtain ⟨a1, p1, rfl, r1, c1, m1, -, -, k1⟩ := hf.form
            have RR := hide r1
            have CC := hide c1
            have MM := hide m1
            have KK := hide k1
            clear hf r1 c1 m1 k1
            go_wp2_with (fail)
            refine (dcss_r W19 n d k v).mono ?_
            intro e W20 hf
            obtain ⟨a2, p2, rfl, r2, c2, -, -, -, k2⟩ := hf.form
            have HW := hide (words_two RR.out CC.out MM.out KK.out r2 c2 k2)
            clear hf r2 c2 k2 RR CC MM KK
            go_wp2_with (fail)
            refine HW.out.mono ?_
            rintro e W21 ⟨rfl, hk⟩
            have K21 := hide (K18.out.trans hk)
            clear hk K18
            clear HW
            obtain ⟨A, hA⟩ : ∃ A, keyZ n i = A := ⟨_, rfl⟩
            have HA := hide hA
            clear hA
            go_wp2_with (fail)
            refine (key_c W21 n i A HA.out).mono ?_
            rintro e w' ⟨rfl, rfl⟩
            go_wp2_with (fail)
            refine (key_r W21 n i A HA.out).mono ?_
            rintro e w' ⟨rfl, rfl⟩
            clear HA
            obtain ⟨A, hA⟩ : ∃ A, childZ n d i = A := ⟨_, rfl⟩
            have HA := hide hA
            clear hA
            go_wp2_with (fail)
            refine (child_c W21 n d i A HA.out).mono ?_
            rintro e w' ⟨rfl, rfl⟩
            go_wp2_with (fail)
            refine (child_r W21 n d i A HA.out).mono ?_
            rintro e w' ⟨rfl, rfl⟩
            clear HA
            go_wp2
            go_ret
            exact ⟨rfl, K21.out⟩
end Go.Proofs.Ytkbamodjhilmeaa
