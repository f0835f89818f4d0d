/-
  What the proof of YtgialpjdfeldeaaPlantTellsProof goes by, part 4 of 4: contracts and plain facts; each part begins with its own sentence. No conditions beyond each theorem's own.
-/
import Derived.Test.YtgialpjdfeldeaaTc3
import Derived.BigQuiet
import Derived.Deep.QuietTactic
import Derived.ProofKit
import Derived.OpenShut
import Derived.Deep.Slices
/-! What the document's build answers and makes, at a memory as it lies: the plain 'layF'. No conditions beyond each theorem's own. -/
namespace Go.Proofs.Ytgialpjdfeldeaa
open Go.RowKit
set_option maxRecDepth 20000

theorem record_d (W : World) (n₀ b : Nat) (v : Value) (s : Mst) (k : Int) (a : Option Addr) (ws : List Int) (M cw : Nat) (hM : ws.length = M) (h : DMem W n₀ b v s) (hn : n₀ ≤ W.heap.size) (hr : Reads W a ws) (hl : M ≤ 1000000) (hs : ∀ ad, a = some ad → ad.block ≠ b) (z : Int) (s' : Mst) (e1 : recS s k ws = (z, s')) :
    ∃ x y, Rf.ofZ k x = z ∧ Calls Try.prog 20 #[.pointer (some ⟨b, 0, none⟩), .slice a M cw] W fun e W' => e = .returned (.tuple #[.int .i64 x, .bool y]) ∧ Does 70 layD n₀ b v s' W W' := by
  subst hM
  refine ⟨s.next ws, s.fits ws.length, congrArg Prod.fst e1, ?_⟩
  have := make_d W n₀ b v s a ws cw h hn hr (by unfold maxLen; omega) (fun _ => hs)
  rw [show s.make ws = s' from congrArg Prod.snd e1] at this
  exact this
def LayCD (f : Nat) : Prop := ∀ (W : World) (n₀ b : Nat) (v : Value) (s : Mst) (a : Option Addr) (ps : List (Int × Int)) (M cap : Nat) (_ : DMem W n₀ b v s) (_ : n₀ ≤ W.heap.size) (_ : PReads W a ps) (_ : ps.length = M) (_ : M ≤ cap) (_ : cap ≤ maxLen) (_ : M ≤ 16384) (_ : M < f) (_ : ps ≠ [] → ∀ ad, a = some ad → ¬ Foot b v ad.block) (z : Int) (s' : Mst) (_ : layF f s ps = (z, s')),
    Calls Try.prog 47 #[.pointer (some ⟨b, 0, none⟩), .slice a M cap] W fun e W' => e = .returned (.int .i64 z) ∧ Does 70 layD n₀ b v s' W W'
set_option maxHeartbeats 4000000 in
theorem buildInner_d (f : Nat) (ih : LayCD f) (W : World) (n₀ b : Nat) (v : Value) (s : Mst) (a : Option Addr) (ps : List (Int × Int)) (M cap : Nat) (h : DMem W n₀ b v s) (hn : n₀ ≤ W.heap.size) (hr : PReads W a ps) (hM : ps.length = M) (hc : M ≤ cap) (hcm : cap ≤ maxLen) (hm : M ≤ 16384) (hf : M < f + 1) (h2 : 2 ≤ M) (ha : ∀ ad, a = some ad → ¬ Foot b v ad.block) (z : Int) (s' : Mst) (e1 : layF (f + 1) s ps = (z, s')) :
    Calls Try.prog 47 #[.pointer (some ⟨b, 0, none⟩), .slice a M cap] W fun e W' => e = .returned (.int .i64 z) ∧ Does 70 layD n₀ b v s' W W' := by
  have db := Pt.deg_bound (n := (M : Int)) (by omega) (by omega)
  obtain ⟨D, hD⟩ : ∃ D : Nat, Pt.degZ (M : Int) = (D : Int) := ⟨(Pt.degZ M).toNat, by omega⟩
  rw [hD] at db
  obtain ⟨d1, d2, d3⟩ := db
  have e2 : recS (kidF (layF f) ps s D).2 3 (innerL (M : Int) (lowL ps D) (kidF (layF f) ps s D).1) = (z, s') := by
    rw [layF_succ, hM, if_neg (by omega), if_neg (by omega), hD] at e1
    exact e1
  obtain ⟨bl, off, rfl⟩ : ∃ bl off, a = some ⟨bl, off, none⟩ := by
    rcases hr with e | ⟨bl, off, e, _⟩
    · rw [e] at hM; simp at hM; omega
    · exact ⟨bl, off, e⟩
  have hcm' : (cap : Int) ≤ 9223372036854775807 := by unfold maxLen at hcm; omega
  have hb1 : bl < W.heap.size := by
    obtain ⟨p, hp⟩ : ∃ p, ps[0]? = some p := ⟨_, List.getElem?_eq_getElem (by omega)⟩
    obtain ⟨bl', off', e, h1, _⟩ := hr.at hp
    cases e
    exact h1
  have HA := hide (ha _ rfl)
  have HB := hide hb1
  have HR := hide hr
  have HM := hide hM
  have H := hide h
  have HN := hide hn
  have IH := hide ih
  have HD := hide hD
  have E2 := hide e2
  have HCM := hide hcm
  have HF := hide hf
  have S1 : Hid (InnI 70 layD f n₀ b v W s ps (.slice none 0 0) (.slice none 0 0) 0 W) := hide (LayI.start h (Kept.refl W) (World.ownsRow_nil _ _ _ _) (World.ownsRow_nil _ _ _ _) (fun k hk => by simp [Value.ownBlock] at hk))
  have FZ : Hid (Pt.aheadZ (M : Int) 0 = 0) := hide (Pt.ahead_zero (by rw [hD]; omega))
  have g0 : ((M : Int) == 0) = false := by simp only [beq_eq_false_iff_ne, ne_eq]; omega
  have g1 : ((M : Int) == 1) = false := by simp only [beq_eq_false_iff_ne, ne_eq]; omega
  clear h hr ha hM ih e1 e2 hD hcm hf hn hb1
  go_enter Try.func47, Try.ntmps47
  go_wp2
  go_loopw [10, 11, 12, 13, 14, 15] (fun vq vc at_ i _ _ wr => ∃ (t : Nat) (x : Int), t ≤ D ∧ i = .int .i64 t ∧ at_ = .int .i64 x ∧ 0 ≤ x ∧ x ≤ (M : Int) ∧ Hid (Pt.aheadZ (M : Int) (t : Int) = x) ∧ Hid (InnI 70 layD f n₀ b v W s ps vq vc t wr)) (fun _ _ _ i _ _ _ => D - (intOf i).toNat)
  case atStart => exact ⟨0, 0, Nat.zero_le _, rfl, rfl, by omega, by omega, FZ, S1⟩
  case round =>
    obtain ⟨t, x, ht, rfl, rfl, x0, x1, HX, HI⟩ := hrel
    clear S1 FZ
    by_cases hlt : t < D
    · have pin := part_in (n := (M : Int)) (i := (t : Int)) (by omega) (by rw [HD.out]; omega)
      have sb := Pt.size_bound (n := (M : Int)) (i := (t : Int)) (by omega) (by rw [HD.out]; omega)
      obtain ⟨F, hF⟩ : ∃ F : Nat, Pt.fromZ (M : Int) (t : Int) = (F : Int) := ⟨(Pt.fromZ (M : Int) (t : Int)).toNat, by omega⟩
      obtain ⟨S, hS⟩ : ∃ S : Nat, Pt.sizeZ (M : Int) (t : Int) = (S : Int) := ⟨(Pt.sizeZ (M : Int) (t : Int)).toNat, by omega⟩
      rw [hF, hS] at pin
      rw [hS] at sb
      have hown : partL ps (t : Int) = (ps.drop F).take S := by unfold partL; rw [HM.out, hF, hS]; rfl
      obtain ⟨own, ho⟩ : ∃ own, partL ps (t : Int) = own := ⟨_, rfl⟩
      have OWL : Hid (own.length = S) := hide (by rw [← ho, hown, List.length_take, List.length_drop, HM.out]; omega)
      have OWN : Hid (own = (ps.drop F).take S) := hide (by rw [← ho, hown])
      unfold InnI at HI
      have KS : Hid (kidF (layF f) ps s (t + 1) = ((kidF (layF f) ps s t).1 ++ [(layF f (kidF (layF f) ps s t).2 own).1], (layF f (kidF (layF f) ps s t).2 own).2)) := hide (by rw [kidF, ho])
      have LS : Hid (0 < t → lowL ps (t + 1) = lowL ps t ++ [(own.headD (0, 0)).1]) := hide (fun h => by rw [lowL, if_neg (by omega), ho])
      have CL := kidF_len (layF f) ps s t
      have QL := lowL_len ps t
      obtain ⟨cs, hcs⟩ : ∃ cs, (kidF (layF f) ps s t).1 = cs := ⟨_, rfl⟩
      obtain ⟨st, hst⟩ : ∃ st, (kidF (layF f) ps s t).2 = st := ⟨_, rfl⟩
      obtain ⟨qs, hqs⟩ : ∃ qs, lowL ps t = qs := ⟨_, rfl⟩
      obtain ⟨zc, sc, hz⟩ : ∃ zc sc, layF f st own = (zc, sc) := ⟨_, _, rfl⟩
      rw [hcs, hst, hz] at KS
      rw [hqs] at LS QL
      rw [hcs] at CL
      rw [hcs, hst, hqs] at HI
      have HZ := hide hz
      have HFF := hide hF
      have HSS := hide hS
      have HCL := hide CL
      have HQL := hide QL
      obtain ⟨p1, p2, p3⟩ := pin
      have p4 : F + S ≤ M := by omega
      have p5 : 1 ≤ S := by omega
      have p6 : S < M := by omega
      have i1 : (t : Int) < (D : Int) := by omega
      have xF : x = (F : Int) := by rw [← HX.out, ← hF, Pt.from_some (by omega) (by rw [HD.out]; omega)]
      have XN : Hid (Pt.aheadZ (M : Int) ((t + 1 : Nat) : Int) = (F : Int) + (S : Int)) := hide (by rw [Int.natCast_add, Int.natCast_one, Pt.ahead_step (by omega) (by rw [HD.out]; omega), HX.out, hS, xF])
      subst xF
      clear hown ho hcs hst hqs hz hF hS sb p1 p2 p3 CL QL HX x0 x1
      go_wp2_with (fail)
      refine (Pt.deg_r (M : Int) (I64.wf ⟨by omega, by omega⟩) _).mono ?_
      rw [HD.out]
      rintro e w' ⟨rfl, rfl⟩
      go_wp2_with (fail)
      refine (Pt.size_r (M : Int) (t : Int) (I64.wf ⟨by omega, by omega⟩) _).mono ?_
      rw [HSS.out]
      rintro e w2 ⟨rfl, rfl⟩
      have PR := LayI.list HI.out HR.out HA.out F S
      rw [← OWN.out] at PR
      have c0 := (preads_head PR (by have := OWL.out; omega)).1
      obtain ⟨hk, hhk⟩ : ∃ x, (own.headD (0, 0)).1 = x := ⟨_, rfl⟩
      rw [hhk] at c0 LS
      clear PR hhk
      by_cases g0 : (0 : Int) < (t : Int)
      · go_wp2_with (at_builtin; refine Stop.out ?_)
        refine ⟨?_⟩
        refine wpList_append_q rfl _ _ rfl rfl rfl HI.out (by have := HQL.out; omega) rfl ?_
        intro vq' wq iq
        have IQ := hide iq
        clear iq HI c0
        go_wp2_with (fail)
        obtain ⟨v1, m1, f1, st1⟩ := IQ.out.step
        have PR1 := LayI.list IQ.out HR.out HA.out F S
        rw [← OWN.out] at PR1
        refine (IH.out _ n₀ b v1 st _ own S (cap - F) m1 (Nat.le_trans HN.out IQ.out.turned.size) PR1 OWL.out (by omega) (by have := HCM.out; omega) (by omega) (by have := HF.out; omega) (fun _ ad e hk => by
          cases e
          rcases f1 _ hk with e | e
          · exact HA.out e
          · have := HB.out; exact absurd e (by simp only; omega)) zc sc HZ.out).mono ?_
        rintro e w3 ⟨rfl, d3⟩
        have I3 := hide (st1 _ _ d3)
        clear d3 st1 m1 f1 PR1 IQ
        go_wp2_with (at_builtin; refine Stop.out ?_)
        refine ⟨?_⟩
        refine wpList_append_c rfl _ _ rfl rfl rfl I3.out (by have := HCL.out; omega) rfl ?_
        intro v4 w4 i4
        have I4 := hide i4
        clear i4 I3
        go_wp2
        exact ⟨⟨t + 1, (F : Int) + S, by omega, by simp, rfl, by omega, by omega, XN, hide (by unfold InnI; rw [KS.out, LS.out (by omega)]; exact I4.out)⟩, by simp [intOf]; omega⟩
      · have z0 : t = 0 := by omega
        have QN : Hid (lowL ps (t + 1) = qs) := hide (by
          have h1 := lowL_len ps (t + 1)
          have h2 := HQL.out
          rw [z0] at h1 h2
          rw [z0, List.length_eq_zero_iff.1 h1, List.length_eq_zero_iff.1 h2])
        clear c0 z0
        go_wp2_with (fail)
        obtain ⟨v1, m1, f1, st1⟩ := HI.out.step
        have PR1 := LayI.list HI.out HR.out HA.out F S
        rw [← OWN.out] at PR1
        refine (IH.out _ n₀ b v1 st _ own S (cap - F) m1 (Nat.le_trans HN.out HI.out.turned.size) PR1 OWL.out (by omega) (by have := HCM.out; omega) (by omega) (by have := HF.out; omega) (fun _ ad e hk => by
          cases e
          rcases f1 _ hk with e | e
          · exact HA.out e
          · have := HB.out; exact absurd e (by simp only; omega)) zc sc HZ.out).mono ?_
        rintro e w3 ⟨rfl, d3⟩
        have I3 := hide (st1 _ _ d3)
        clear d3 st1 m1 f1 PR1 HI
        go_wp2_with (at_builtin; refine Stop.out ?_)
        refine ⟨?_⟩
        refine wpList_append_c rfl _ _ rfl rfl rfl I3.out (by have := HCL.out; omega) rfl ?_
        intro v4 w4 i4
        have I4 := hide i4
        clear i4 I3
        go_wp2
        exact ⟨⟨t + 1, (F : Int) + S, by omega, by simp, rfl, by omega, by omega, XN, hide (by unfold InnI; rw [KS.out, QN.out]; exact I4.out)⟩, by simp [intOf]; omega⟩
    · obtain rfl : t = D := by omega
      unfold InnI at HI
      have CL := kidF_len (layF f) ps s t
      have QL := lowL_len ps t
      obtain ⟨cs, hcs⟩ : ∃ cs, (kidF (layF f) ps s t).1 = cs := ⟨_, rfl⟩
      obtain ⟨st, hst⟩ : ∃ st, (kidF (layF f) ps s t).2 = st := ⟨_, rfl⟩
      obtain ⟨qs, hqs⟩ : ∃ qs, lowL ps t = qs := ⟨_, rfl⟩
      rw [hcs, hst, hqs] at HI E2
      rw [hqs] at QL
      rw [hcs] at CL
      obtain ⟨aq, cq, rfl, rq, q0⟩ := HI.out.q.form
      obtain ⟨ac, cc, rfl, rc, c0⟩ := HI.out.c.form
      have HIN := hide (inner_r _ (M : Int) aq qs cq ac cs cc rq rc q0 c0 (by omega) (by omega))
      have WL : Hid ((innerL (M : Int) qs cs).length ≤ 1000000) := hide (by rw [innerL_length]; omega)
      obtain ⟨ws, hws⟩ : ∃ ws, innerL (M : Int) qs cs = ws := ⟨_, rfl⟩
      rw [hws] at HIN E2 WL
      clear hcs hst hqs hws rq rc q0 c0 CL QL
      go_wp2_with (fail)
      refine (Pt.deg_r (M : Int) (I64.wf ⟨by omega, by omega⟩) _).mono ?_
      rw [HD.out]
      rintro e w' ⟨rfl, rfl⟩
      go_wp2_with (fail)
      refine HIN.out.mono ?_
      intro e w1 hf
      obtain ⟨a1, cap1, rfl, r1, -, -, lo1, -, k1⟩ := hf.form
      have I1 := hide (HI.out.kept k1)
      have R1 := hide r1
      have LO : Hid (∀ ad, a1 = some ad → ad.block ≠ b) := hide (fun ad e => by
        obtain ⟨v1, m1, _⟩ := HI.out.mem
        have e1 := lo1 ad e
        have e2 := (m1.lt b (.inl rfl)).2
        omega)
      clear hf k1 r1 lo1 HI HIN
      go_wp2_with (fail)
      obtain ⟨v1, m1, f1, st1⟩ := I1.out.step
      obtain ⟨x2, y2, ex, hx2⟩ := record_d _ n₀ b v1 st 3 a1 ws ws.length cap1 rfl m1 (Nat.le_trans HN.out I1.out.turned.size) R1.out WL.out LO.out z s' E2.out
      refine hx2.mono ?_
      rintro e w3 ⟨rfl, d3⟩
      have D3 := hide (Does.then I1.out.turned f1 d3)
      have EX := hide ex
      clear d3 st1 m1 f1 hx2 ex
      go_wp2_with (fail)
      refine (ofr_c 3 x2 z EX.out _).mono ?_
      rintro e w4 ⟨rfl, rfl⟩
      go_wp2
      go_ret
      exact ⟨rfl, D3.out⟩

set_option maxHeartbeats 4000000 in
theorem build_d : ∀ f, LayCD f
  | 0 => fun _ _ _ _ _ _ _ _ _ _ _ _ _ _ _ _ h => by omega
  | f + 1 => fun W n₀ b v s a ps M cap h hn hr hM hc hcm hm hf ha z s' e1 => by
    have ih := build_d f
    have hcm' : (cap : Int) ≤ 9223372036854775807 := by unfold maxLen at hcm; omega
    by_cases h0 : M = 0
    · have e2 : recS s 1 [0] = (z, s') := by rw [← e1, layF_succ, if_pos (by omega)]
      have H := hide h
      have HN := hide hn
      have E2 := hide e2
      have g0 : ((M : Int) == 0) = true := by simp [h0]
      clear h hn hr hM ha e1 e2 ih hcm
      go_enter Try.func47, Try.ntmps47
      go_wp2_with (fail)
      refine (empty_r W).mono ?_
      intro e w1 hff
      obtain ⟨a1, cap1, rfl, r1, -, -, lo1, -, k1⟩ := hff.form
      have R1 := hide r1
      have K1 := hide k1
      have LO : Hid (∀ ad, a1 = some ad → ad.block ≠ b) := hide (fun ad e => by
        have e1 := lo1 ad e
        have e2 := (H.out.lt b (.inl rfl)).2
        omega)
      clear hff k1 r1 lo1
      go_wp2_with (fail)
      obtain ⟨x2, y2, ex, hx2⟩ := record_d _ n₀ b v s 1 a1 [0] _ cap1 rfl (H.out.kept K1.out) (Nat.le_trans HN.out K1.out.size) R1.out (by decide) LO.out z s' E2.out
      refine hx2.mono ?_
      rintro e w3 ⟨rfl, d3⟩
      have D3 := hide (Does.after K1.out d3)
      have EX := hide ex
      clear d3 hx2 ex
      go_wp2_with (fail)
      refine (ofr_c 1 x2 z EX.out _).mono ?_
      rintro e w4 ⟨rfl, rfl⟩
      go_wp2
      go_ret
      exact ⟨rfl, D3.out⟩
    · by_cases h1 : M = 1
      · subst h1
        obtain ⟨p, rfl⟩ : ∃ p, ps = [p] := List.length_eq_one_iff.1 hM
        have e2 : recS s 2 [p.1, p.2] = (z, s') := by rw [← e1, layF_succ, if_neg (by simp), if_pos (by simp)]; rfl
        obtain ⟨bl, off, rfl⟩ : ∃ bl off, a = some ⟨bl, off, none⟩ := by
          obtain ⟨bl, off, e, _⟩ := hr.at (j := 0) (p := p) rfl
          exact ⟨bl, off, e⟩
        obtain ⟨c1, c2⟩ := preads_head hr (by simp)
        simp only [List.headD_cons] at c1 c2
        obtain ⟨V, hV⟩ : ∃ V, W.drew = V := ⟨_, rfl⟩
        have kV : Kept W V := by rw [← hV]; exact Kept.drew _
        have hna := ha (by simp) _ rfl
        have x1 : ∀ u : Wd (fun U => Turned (Foot b v) V U), u.w.cell? ⟨bl, off, none⟩ = some (.int .i64 p.1) := fun u => u.ok.cell (kV.cell c1 id) hna
        have x2 : ∀ u : Wd (fun U => Turned (Foot b v) V U), u.w.cell? ⟨bl, off + 1, none⟩ = some (.int .i64 p.2) := fun u => u.ok.cell (kV.cell c2 id) hna
        have HV := hide hV
        have KV := hide kV
        have H := hide (h.kept kV)
        have HN := hide (Nat.le_trans hn kV.size)
        have E2 := hide e2
        obtain ⟨p1, p2⟩ := p
        simp only at x1 x2 E2
        clear h hn hr hM ha e1 e2 ih hcm c1 c2 hna hV kV
        go_enter Try.func47, Try.ntmps47
        go_wp2_with (fail)
        refine region_wide [0, 1, 2, 3, 4, 5, 6, 7, 8, 9, 10, 11, 12, 13, 14, 15] (fun U => Turned (Foot b v) V U) (by kernel_rfl) (by kernel_rfl) (by rw [HV.out]; exact Turned.refl _ _) (fun _ => ?_)
        rw [HV.out]
        repeat (refine pq rfl rfl ?_; go_big_quiet_step (fail); refine wpQuiet_nil ?_)
        refine pl rfl rfl ?_
        gi_wp2_with (fail)
        refine ⟨trivial, ?_⟩
        refine (callsIn_wide.2 (leaf_r V p1 p2)).mono ?_
        intro e w1 hff
        obtain ⟨a1, cap1, rfl, r1, -, -, lo1, -, k1⟩ := hff.form
        have R1 := hide r1
        have K1 := hide k1
        have LO : Hid (∀ ad, a1 = some ad → ad.block ≠ b) := hide (fun ad e => by
          have e1 := lo1 ad e
          have e2 := (H.out.lt b (.inl rfl)).2
          omega)
        clear hff k1 r1 lo1
        gi_wp2_with (fail)
        refine ⟨Wd.mem (K1.out.mono (fun _ _ e => e.elim)), ?_⟩
        refine pl rfl rfl ?_
        gi_wp2_with (fail)
        refine ⟨trivial, ?_⟩
        obtain ⟨x3, y3, ex, hx3⟩ := record_d _ n₀ b v s 2 a1 [p1, p2] _ cap1 rfl (H.out.kept K1.out) (Nat.le_trans HN.out K1.out.size) R1.out (by simp) LO.out z s' E2.out
        refine (callsIn_wide.2 hx3).mono ?_
        rintro e w3 ⟨rfl, d3⟩
        have D3 := hide (Does.after (KV.out.trans K1.out) d3)
        have T3 : Hid (Turned (Foot b v) V w3) := hide (by
          obtain ⟨_, _, t3, _⟩ := Does.after K1.out d3
          exact t3)
        have EX := hide ex
        clear d3 hx3 ex
        gi_wp2_with (fail)
        refine ⟨Wd.mem T3.out, ?_⟩
        repeat (refine pq rfl rfl ?_; go_big_quiet_step (fail); refine wpQuiet_nil ?_)
        refine perm_done ?_
        go_wp2_with (fail)
        refine (ofr_c 2 x3 z EX.out _).mono ?_
        rintro e w4 ⟨rfl, rfl⟩
        go_wp2
        go_ret
        exact ⟨rfl, D3.out⟩
      · exact buildInner_d f ih W n₀ b v s a ps M cap h hn hr hM hc hcm hm hf (by omega) (ha (fun e => by rw [e] at hM; simp at hM; omega)) z s' e1
end Go.Proofs.Ytgialpjdfeldeaa

/-! What the document's From, Depth and Cells answer, each in one sentence (a contract), for every number that may be handed to them; no world is turned. -/
namespace Go.Proofs.Ytgialpjdfeldeaa.Pt
open Go.ChangeShapes Go.WideShapes Go.ChangeAt Go.RowKit

theorem cells_rf (f : Nat) : ∀ (n : Int), n.toNat ≤ f → (Lit.int .i64 n).wf = true → ∀ (w : World),
    Calls Try.prog 46 #[.int .i64 n] w fun e w' => e = .returned (.int .i64 (celZ n)) ∧ w = w' := by
  induction f with
  | zero =>
    intro n hf hn w
    have hn' := bounds_i64 hn
    clear hn
    by_cases c : n < 0
    · rw [cel_none (by omega)]
      go_enter Try.func46, Try.ntmps46
      go_wp2
      go_ret
      exact ⟨rfl, rfl⟩
    · obtain rfl : n = 0 := by omega
      rw [cel_is_0]
      go_enter Try.func46, Try.ntmps46
      go_wp2
      go_ret
      exact ⟨rfl, rfl⟩
  | succ f ih =>
    intro n hf hn w
    have hn' := bounds_i64 hn
    by_cases c : n < 0
    · rw [cel_none (by omega)]
      clear hn ih
      go_enter Try.func46, Try.ntmps46
      go_wp2
      go_ret
      exact ⟨rfl, rfl⟩
    · by_cases c1 : 16384 < n
      · rw [cel_none (by omega)]
        clear hn ih
        go_enter Try.func46, Try.ntmps46
        go_wp2
        go_ret
        exact ⟨rfl, rfl⟩
      · by_cases c2 : n < 2
        · rw [cel_few (by omega) c2]
          clear hn ih
          go_enter Try.func46, Try.ntmps46
          go_wp2
          go_ret
          exact ⟨rfl, rfl⟩
        · have hd := deg_r n hn
          have d := deg_bound (n := n) (by omega) (by omega)
          have HE := hide (cs_end (n := n) (by omega))
          obtain ⟨z, ez⟩ : ∃ z, degZ n = z := ⟨_, rfl⟩
          have HZ := hide ez
          rw [ez] at hd d HE
          obtain ⟨r, er⟩ : ∃ r, celZ n = r := ⟨_, rfl⟩
          rw [er] at HE ⊢
          have hn2 := hide hn
          have ih2 := hide ih
          clear hn ez er ih
          go_enter Try.func46, Try.ntmps46
          go_wp2_with (go_at_call 72; refine (hd _).mono ?_; rintro e w' ⟨rfl, rfl⟩)
          go_loop [3, 4] (fun a k => ∃ x y : Int, Hid (4 + z * 2 + csZ n y = x) ∧ 0 ≤ y ∧ y ≤ z ∧ a = .int .i64 x ∧ k = .int .i64 y) (fun _ k => (z - intOf k).toNat)
          case atStart => exact ⟨4 + 2 * z, 0, hide (by rw [cs_zero (by have := HZ.out; omega)]; omega), by omega, by omega, rfl, rfl⟩
          case round =>
            obtain ⟨x, y, H, y0, y1, rfl, rfl⟩ := hrel
            by_cases g : y < z
            · have hs := size_r n y hn2.out
              have sb := size_bound (n := n) (i := y) y0 (by have := HZ.out; omega)
              have hi := ih2.out (sizeZ n y) (by omega) (wf_int (by omega) (by omega))
              have cb := cel_nat (sizeZ n y)
              have nb := cs_nat (n := n) (i := y) (by have := HZ.out; omega) y0 (by have := HZ.out; omega)
              have st := cs_step (n := n) (i := y) y0 (by have := HZ.out; omega)
              have xb : 0 ≤ x ∧ x ≤ 100000000 := by have := H.out; omega
              have H2 := hide (show 4 + z * 2 + csZ n (y + 1) = x + celZ (sizeZ n y) by rw [st]; have := H.out; omega)
              clear st nb H HE HZ ih2
              generalize celZ (sizeZ n y) = u at *
              generalize sizeZ n y = s at *
              go_wp2_with fail
              refine (hd _).mono ?_
              rintro e w' ⟨rfl, rfl⟩
              go_wp2_with fail
              refine (hs _).mono ?_
              rintro e w' ⟨rfl, rfl⟩
              go_wp2_with fail
              refine (hi _).mono ?_
              rintro e w' ⟨rfl, rfl⟩
              go_wp2
              go_round
              case rel => exact ⟨x + u, y + 1, H2, by omega, by omega, rfl, rfl⟩
              case measure => simp [intOf]; omega
            · obtain rfl : y = z := by omega
              have e : x = r := by rw [← H.out, HE.out]
              subst e
              clear H HE HZ ih2
              go_wp2_with (go_at_call 72; refine (hd _).mono ?_; rintro e w' ⟨rfl, rfl⟩)
              go_ret
              exact ⟨rfl, rfl⟩
theorem cells_r (n : Int) (hn : (Lit.int .i64 n).wf = true) (w : World) :
    Calls Try.prog 46 #[.int .i64 n] w fun e w' => e = .returned (.int .i64 (celZ n)) ∧ w = w' := cells_rf n.toNat n (Nat.le_refl _) hn w
end Go.Proofs.Ytgialpjdfeldeaa.Pt

/-! What the document's Map, Ascending and Build answer, of any list of at most 5000 pairs, and at a memory of its as it lies. No conditions beyond each theorem's own. -/
namespace Go.Proofs.Ytgialpjdfeldeaa
open Go.RowKit
set_option maxRecDepth 20000

theorem map_d (W : World) (a : Option Addr) (ps : List (Int × Int)) (M cap : Nat) (hr : PReads W a ps) (hM : ps.length = M) (hc : M ≤ cap) (hm : M ≤ 5000) (r : Bool) (e1 : decide ((ps.map Prod.fst).Pairwise (· < ·)) = r) :
    Calls Try.prog 48 #[.slice a M cap] W fun e W' => e = .returned (.bool r) ∧ ∃ m, W' = W.drewN m := by
  have HR := hide hr
  have HM := hide hM
  have E1 := hide e1
  have hm' : (M : Int) ≤ 5000 := by omega
  clear hr hM e1
  go_enter Try.func48, Try.ntmps48
  go_wp2
  go_loopw [3] (fun i wr => ∃ k d : Nat, (k < M ∨ k = 0) ∧ i = .int .i64 ((k : Int) + 1) ∧ Hid (Pb.PwTo (ps.map Prod.fst) (k + 1)) ∧ wr = W.drewN d) (fun i _ => M + 1 - (intOf i).toNat)
  case atStart => exact ⟨0, 0, .inr rfl, rfl, hide (.start _), rfl⟩
  case round =>
    obtain ⟨k, d, hk1, rfl, HP, rfl⟩ := hrel
    by_cases hlt : k + 1 < M
    · obtain ⟨⟨x, xv⟩, hp⟩ : ∃ p, ps[k + 1]? = some p := ⟨_, List.getElem?_eq_getElem (by have := HM.out; omega)⟩
      obtain ⟨⟨y, yv⟩, hq⟩ : ∃ p, ps[k]? = some p := ⟨_, List.getElem?_eq_getElem (by have := HM.out; omega)⟩
      have hx : (ps.map Prod.fst)[k + 1]? = some x := by rw [List.getElem?_map, hp]; rfl
      have hy : (ps.map Prod.fst)[k]? = some y := by rw [List.getElem?_map, hq]; rfl
      obtain ⟨bl, off, rfl, hbl, g1, -⟩ := HR.out.at hp
      obtain ⟨bl', off', hbe, _, g3, -⟩ := HR.out.at hq
      cases hbe
      have i1 : (k : Int) + 1 < (M : Int) := by omega
      have i3 : k + 1 < cap := by omega
      simp only at g1 g3
      by_cases hyx : y < x
      · have HP2 : Hid (Pb.PwTo (ps.map Prod.fst) (k + 1 + 1)) := hide (Pb.pw_snoc HP.out hy hx hyx)
        have hzy : ¬ (x ≤ y) := by omega
        clear hp hq hx hy hk1 HP hyx
        go_wp2
        go_quiet (fail)
        go_wp2
        exact ⟨⟨k + 1, _, .inl (by omega), by simp, HP2, rfl⟩, by simp [intOf]; omega⟩
      · have HF : Hid (r = false) := hide (by rw [← E1.out]; exact decide_eq_false (Pb.pw_not hy hx (by omega)))
        have hyz' : x ≤ y := by omega
        clear hp hq hx hy hk1 HP hyx
        go_wp2
        go_quiet (fail)
        go_wp2
        go_ret
        exact ⟨by rw [HF.out]; rfl, _, World.drewN_drewN ..⟩
    · have i1 : ¬ ((k : Int) + 1 < (M : Int)) := by omega
      have HF : Hid (r = true) := hide (by
        rw [← E1.out]
        refine decide_eq_true ?_
        have : ((ps.map Prod.fst).take (k + 1)).Pairwise (· < ·) := HP.out
        rwa [List.take_of_length_le (by rw [List.length_map, HM.out]; omega)] at this)
      clear HP
      go_wp2
      go_ret
      exact ⟨by rw [HF.out]; rfl, _, rfl⟩
theorem asc_d (W : World) (a : Option Addr) (ps : List (Int × Int)) (M cap : Nat) (hr : PReads W a ps) (hM : ps.length = M) (hc : M ≤ cap) (hm : M ≤ 5000) (r : Bool) (e1 : ascB ps = r) :
    Calls Try.prog 24 #[.slice a M cap] W fun e W' => e = .returned (.bool r) ∧ Kept W W' := by
  have HD := hide (map_d W a ps M cap hr hM hc hm r (by
    rw [← e1]
    unfold ascB
    exact decide_eq_decide.2 ⟨fun h => ⟨by omega, h⟩, fun h => h.2⟩))
  have i1 : (M : Int) ≤ 16384 := by omega
  clear hr hM e1 hm
  cases r with
  | true =>
    go_enter Try.func24, Try.ntmps24
    go_wp2_with (fail)
    refine HD.out.mono ?_
    rintro e w1 ⟨rfl, m, rfl⟩
    go_wp2
    go_ret
    exact ⟨rfl, Kept.drewN _ _⟩
  | false =>
    go_enter Try.func24, Try.ntmps24
    go_wp2_with (fail)
    refine HD.out.mono ?_
    rintro e w1 ⟨rfl, m, rfl⟩
    go_wp2
    go_ret
    exact ⟨rfl, Kept.drewN _ _⟩

set_option maxHeartbeats 4000000 in
theorem buildA_d (W : World) (n₀ b : Nat) (v : Value) (s : Mst) (a : Option Addr) (ps : List (Int × Int)) (M cap : Nat) (h : DMem W n₀ b v s) (hn : n₀ ≤ W.heap.size) (hr : PReads W a ps) (hM : ps.length = M) (hc : M ≤ cap) (hcm : cap ≤ maxLen) (hm5 : M ≤ 5000) (ha : ps ≠ [] → ∀ ad, a = some ad → ¬ Foot b v ad.block) (z : Int) (r : Bool) (s' : Mst) (e1 : buildS s ps = ((z, r), s')) :
    Calls Try.prog 22 #[.pointer (some ⟨b, 0, none⟩), .slice a M cap] W fun e W' => e = .returned (.tuple #[.int .i64 z, .bool r]) ∧ Does 70 layD n₀ b v s' W W' := by
  obtain ⟨V, hV⟩ : ∃ V, W.drew = V := ⟨_, rfl⟩
  have kV : Kept W V := by rw [← hV]; exact Kept.drew _
  have H := hide (h.kept kV)
  have HRG := fun r => asc_d V a ps M cap (hr.kept kV) hM hc hm5 r
  have hcm' : (M : Int) ≤ 9223372036854775807 := by unfold maxLen at hcm; omega
  have hl := h.len
  have hroom := h.room
  have htop := h.top
  obtain ⟨a0, c0, rfl, _⟩ := h.form
  have x1 : ∀ u : Wd (fun U => Kept V U), u.w.cell? ⟨b, 0, none⟩ = some (.int .i64 s.size) := fun u => (DMem.opened (H.out.kept u.ok)).1.2.1
  have x2 : ∀ u : Wd (fun U => Kept V U), u.w.cell? ⟨b, 1, none⟩ = some (.slice a0 s.xs.length c0) := fun u => (DMem.opened (H.out.kept u.ok)).1.1
  have HV := hide hV
  have KV := hide kV
  cases hb : ascB ps with
  | false =>
    have HR := hide (HRG false hb)
    rw [buildS, if_neg (by rw [hb]; simp)] at e1
    simp only [Prod.mk.injEq] at e1
    obtain ⟨⟨rfl, rfl⟩, rfl⟩ := e1
    clear h hn hr hM hcm ha HRG hb hV kV
    go_enter Try.func22, Try.ntmps22
    go_wp2_with (fail)
    refine region_wide [0, 1, 2, 3, 4, 5, 7, 8, 9, 10, 11, 12, 13, 14, 15, 16, 6, 17, 18] (fun U => Kept V U) (by kernel_rfl) (by kernel_rfl) (by rw [HV.out]; exact Kept.refl _) (fun _ => ?_)
    rw [HV.out]
    refine pq rfl rfl ?_; go_big_quiet_step (fail); refine wpQuiet_nil ?_
    refine pl rfl rfl ?_
    gi_wp2_with (fail)
    refine ⟨trivial, ?_⟩
    refine (callsIn_wide.2 HR.out).mono ?_
    rintro e w1 ⟨rfl, k1⟩
    have K1 := hide k1
    clear k1
    gi_wp2_with (fail)
    refine ⟨Wd.mem K1.out, ?_⟩
    repeat (refine pq rfl rfl ?_; go_big_quiet_step (fail); refine wpQuiet_nil ?_)
    refine Go.Proofs.Ytgialpjdfeldeaa.ps rfl rfl rfl (Wd.mem K1.out) ?_
    go_big_quiet_step (fail)
    refine wpQuiet_nil ?_
    repeat (refine pq rfl rfl ?_; go_big_quiet_step (fail); refine wpQuiet_nil ?_)
    refine perm_done ?_
    have D1 := hide (Does.same (H.out.kept K1.out) ((KV.out.trans K1.out).mono (fun _ _ e => e.elim)))
    go_wp2
    go_ret2
    exact ⟨rfl, D1.out⟩
  | true =>
    have HR := hide (HRG true hb)
    have hm : M ≤ 16384 := by omega
    have HC := hide (Pt.cells_r (M : Int) (I64.wf ⟨by omega, by omega⟩))
    have cb := Pt.cel_nat (M : Int)
    obtain ⟨C, hC⟩ : ∃ C, Pt.celZ (M : Int) = C := ⟨_, rfl⟩
    rw [hC] at HC cb
    by_cases hfit : C ≤ s.size - (s.xs.length : Int)
    · rw [buildS, if_pos ⟨hb, by rw [hM, hC]; exact hfit⟩, hM] at e1
      simp only [Prod.mk.injEq] at e1
      obtain ⟨⟨e1, rfl⟩, e2⟩ := e1
      have e3 : layF (M + 1) s ps = (z, s') := by rw [← e1, ← e2]
      have HLAY : Hid (∀ w1, Kept V w1 → Calls Try.prog 47 #[.pointer (some ⟨b, 0, none⟩), .slice a M cap] w1 fun e W' => e = .returned (.int .i64 z) ∧ Does 70 layD n₀ b (.slice a0 s.xs.length c0) s' w1 W') := hide (fun w1 k1 => build_d (M + 1) w1 n₀ b _ s a ps M cap (H.out.kept k1) (Nat.le_trans hn (KV.out.trans k1).size) (hr.kept (KV.out.trans k1)) hM hc hcm hm (by omega) ha z s' e3)
      have g1 : ¬ s.size - (s.xs.length : Int) < C := by omega
      have g2 : decide (s.size - (s.xs.length : Int) < C) = false := decide_eq_false g1
      clear e1 e2 e3
      clear h hn hr hM hcm ha HRG hb hV kV hC hm
      go_enter Try.func22, Try.ntmps22
      go_wp2_with (fail)
      refine region_wide [0, 1, 2, 3, 4, 5, 7, 8, 9, 10, 11, 12, 13, 14, 15, 16, 6, 17, 18] (fun U => Kept V U) (by kernel_rfl) (by kernel_rfl) (by rw [HV.out]; exact Kept.refl _) (fun _ => ?_)
      rw [HV.out]
      refine pq rfl rfl ?_; go_big_quiet_step (fail); refine wpQuiet_nil ?_
      refine pl rfl rfl ?_
      gi_wp2_with (fail)
      refine ⟨trivial, ?_⟩
      refine (callsIn_wide.2 HR.out).mono ?_
      rintro e w1 ⟨rfl, k1⟩
      have K1 := hide k1
      clear k1
      gi_wp2_with (fail)
      refine ⟨Wd.mem K1.out, ?_⟩
      repeat (refine pq rfl rfl ?_; go_big_quiet_step (fail); refine wpQuiet_nil ?_)
      refine pl rfl rfl ?_
      gi_wp2_with (fail)
      refine ⟨trivial, ?_⟩
      refine (callsIn_wide.2 (HC.out w1)).mono ?_
      rintro e w2 ⟨rfl, rfl⟩
      gi_wp2_with (fail)
      refine ⟨Wd.mem K1.out, ?_⟩
      repeat (refine pq rfl rfl ?_; go_big_quiet_step (fail); refine wpQuiet_nil ?_)
      refine perm_done ?_
      go_wp2_with (fail)
      refine (HLAY.out _ K1.out).mono ?_
      rintro e w4 ⟨rfl, d4⟩
      have D4 := hide (Does.after (KV.out.trans K1.out) d4)
      clear d4
      go_wp2
      go_ret2
      exact ⟨rfl, D4.out⟩
    · rw [buildS, if_neg (by rw [hM, hC]; exact fun h => hfit h.2)] at e1
      simp only [Prod.mk.injEq] at e1
      obtain ⟨⟨rfl, rfl⟩, rfl⟩ := e1
      have g1 : s.size - (s.xs.length : Int) < C := by omega
      have g2 : decide (s.size - (s.xs.length : Int) < C) = true := decide_eq_true g1
      clear h hn hr hM hcm ha HRG hb hV kV hC hm
      go_enter Try.func22, Try.ntmps22
      go_wp2_with (fail)
      refine region_wide [0, 1, 2, 3, 4, 5, 7, 8, 9, 10, 11, 12, 13, 14, 15, 16, 6, 17, 18] (fun U => Kept V U) (by kernel_rfl) (by kernel_rfl) (by rw [HV.out]; exact Kept.refl _) (fun _ => ?_)
      rw [HV.out]
      refine pq rfl rfl ?_; go_big_quiet_step (fail); refine wpQuiet_nil ?_
      refine pl rfl rfl ?_
      gi_wp2_with (fail)
      refine ⟨trivial, ?_⟩
      refine (callsIn_wide.2 HR.out).mono ?_
      rintro e w1 ⟨rfl, k1⟩
      have K1 := hide k1
      clear k1
      gi_wp2_with (fail)
      refine ⟨Wd.mem K1.out, ?_⟩
      repeat (refine pq rfl rfl ?_; go_big_quiet_step (fail); refine wpQuiet_nil ?_)
      refine pl rfl rfl ?_
      gi_wp2_with (fail)
      refine ⟨trivial, ?_⟩
      refine (callsIn_wide.2 (HC.out w1)).mono ?_
      rintro e w2 ⟨rfl, rfl⟩
      gi_wp2_with (fail)
      refine ⟨Wd.mem K1.out, ?_⟩
      repeat (refine pq rfl rfl ?_; go_big_quiet_step (fail); refine wpQuiet_nil ?_)
      refine perm_done ?_
      have D1 := hide (Does.same (H.out.kept K1.out) ((KV.out.trans K1.out).mono (fun _ _ e => e.elim)))
      go_wp2
      go_ret2
      exact ⟨rfl, D1.out⟩
end Go.Proofs.Ytgialpjdfeldeaa

/-! What At, ref.Kind, ref.At and Logic answer, the program's and the document's, of a memory whose state is known: each by an equation; no world is turned. -/
namespace Go.Proofs.Ytgialpjdfeldeaa
open Go.RowKit

/-- A memory of this state lies at b. -/
def PM (w : World) (b : Nat) (s : Mst) : Prop := ∃ n₀ v, PMem w n₀ b v s
theorem PM.kept {w w' : World} {b : Nat} {s : Mst} (h : PM w b s) (k : Kept w w') : PM w' b s := by
  obtain ⟨n₀, v, h⟩ := h
  exact ⟨n₀, v, h.kept k⟩
theorem lk_p (w : World) (b : Nat) (s : Mst) (a r : Int) (h : PM w b s) (e1 : s.look a = r) :
    Calls Try.prog 56 #[.pointer (some ⟨b, 0, none⟩), .int .i64 a] w fun e w' => e = .returned (.int .i64 r) ∧ w = w' := by
  obtain ⟨n₀, v, h⟩ := h
  subst e1
  exact look_p w n₀ b v s a h
theorem kk_p (w : World) (a k : Int) (h : I64 a) (e1 : kd a = k) : Calls Try.prog 60 #[.int .i64 a] w fun e w' => e = .returned (.int .i64 k) ∧ w = w' := by
  subst e1
  refine (Rf.kind_c a h.wf w).mono ?_
  rintro e w' ⟨rfl, rfl⟩
  exact ⟨rfl, rfl⟩
theorem ak_p (w : World) (a k : Int) (h : I64 a) (e1 : ad a = k) : Calls Try.prog 86 #[.int .i64 a] w fun e w' => e = .returned (.int .i64 k) ∧ w = w' := by
  subst e1
  refine (Rf.at_c a h.wf w).mono ?_
  rintro e w' ⟨rfl, rfl⟩
  exact ⟨rfl, rfl⟩
theorem logic_p (w : World) (b : Nat) (s : Mst) (a r : Int) (h : PM w b s) (ho : s.ok) (e1 : s.logicZ a = r) :
    Calls Try.prog 68 #[.pointer (some ⟨b, 0, none⟩), .int .i64 a] w fun e w' => e = .returned (.int .i64 r) ∧ w = w' := by
  have H := hide h
  have HO := hide ho
  obtain ⟨z, hz⟩ : ∃ z, s.look a = z := ⟨_, rfl⟩
  obtain ⟨k, hk⟩ : ∃ k, kd z = k := ⟨_, rfl⟩
  obtain ⟨p, hp⟩ : ∃ p, ad z = p := ⟨_, rfl⟩
  obtain ⟨o, h4⟩ : ∃ o, s.look (p + 4) = o := ⟨_, rfl⟩
  have hb := hide (ho.look a)
  rw [hz] at hb
  have kr := ad_range z
  rw [hp] at kr
  obtain ⟨p0, p1⟩ := kr
  have HZ := hide hz
  have HK := hide hk
  have HP := hide hp
  have H4 := hide h4
  by_cases hk5 : k = 5
  · have e2 : r = if o = 1 then s.look (p + 3) else s.look (p + 2) := by
      rw [← e1, Mst.logicZ, hz]
      show (if kd z = 5 then (if s.look (ad z + 4) = 1 then s.look (ad z + 3) else s.look (ad z + 2)) else z) = _
      rw [hk, hk5, if_pos rfl, hp, h4]
    have E2 := hide e2
    by_cases ho1 : o = 1
    · have e3 : Hid (s.look (p + 3) = r) := hide (by rw [e2, if_pos ho1])
      subst hk5 ho1
      clear h ho hz hk hp h4 e1 e2 E2
      go_enter Try.func68, Try.ntmps68
      go_wp2_with (fail)
      refine (lk_p _ b s a z H.out HZ.out).mono ?_
      rintro e w' ⟨rfl, rfl⟩
      go_wp2_with (fail)
      refine (kk_p _ z 5 hb.out HK.out).mono ?_
      rintro e w' ⟨rfl, rfl⟩
      go_wp2_with (fail)
      refine (ak_p _ z p hb.out HP.out).mono ?_
      rintro e w' ⟨rfl, rfl⟩
      go_wp2_with (fail)
      refine (lk_p _ b s (p + 4) 1 H.out H4.out).mono ?_
      rintro e w' ⟨rfl, rfl⟩
      go_wp2_with (fail)
      refine (ak_p _ z p hb.out HP.out).mono ?_
      rintro e w' ⟨rfl, rfl⟩
      go_wp2_with (fail)
      refine (lk_p _ b s (p + 3) r H.out e3.out).mono ?_
      rintro e w' ⟨rfl, rfl⟩
      go_wp2
      go_ret
      exact ⟨rfl, rfl⟩
    · have e3 : Hid (s.look (p + 2) = r) := hide (by rw [e2, if_neg ho1])
      have g1 : (o == 1) = false := by simp [ho1]
      have g2 : (o != 1) = true := by simp [ho1]
      subst hk5
      clear h ho hz hk hp h4 e1 e2 E2
      go_enter Try.func68, Try.ntmps68
      go_wp2_with (fail)
      refine (lk_p _ b s a z H.out HZ.out).mono ?_
      rintro e w' ⟨rfl, rfl⟩
      go_wp2_with (fail)
      refine (kk_p _ z 5 hb.out HK.out).mono ?_
      rintro e w' ⟨rfl, rfl⟩
      go_wp2_with (fail)
      refine (ak_p _ z p hb.out HP.out).mono ?_
      rintro e w' ⟨rfl, rfl⟩
      go_wp2_with (fail)
      refine (lk_p _ b s (p + 4) o H.out H4.out).mono ?_
      rintro e w' ⟨rfl, rfl⟩
      go_wp2_with (fail)
      refine (ak_p _ z p hb.out HP.out).mono ?_
      rintro e w' ⟨rfl, rfl⟩
      go_wp2_with (fail)
      refine (lk_p _ b s (p + 2) r H.out e3.out).mono ?_
      rintro e w' ⟨rfl, rfl⟩
      go_wp2
      go_ret
      exact ⟨rfl, rfl⟩
  · have e3 : r = z := by
      rw [← e1, Mst.logicZ, hz, if_neg (by show ¬ kd z = 5; rw [hk]; exact hk5)]
    have g1 : (k == 5) = false := by simp [hk5]
    have g2 : (k != 5) = true := by simp [hk5]
    subst e3
    clear h ho hz hk hp h4 e1
    go_enter Try.func68, Try.ntmps68
    go_wp2_with (fail)
    refine (lk_p _ b s a r H.out HZ.out).mono ?_
    rintro e w' ⟨rfl, rfl⟩
    go_wp2_with (fail)
    refine (kk_p _ r k hb.out HK.out).mono ?_
    rintro e w' ⟨rfl, rfl⟩
    go_wp2
    go_ret
    exact ⟨rfl, rfl⟩

theorem look_xs {s s' : Mst} (h : s.xs = s'.xs) (a : Int) : s.look a = s'.look a := by unfold Mst.look Mst.used; rw [h]
/-- A memory with the cells of this state lies at b (its counts are whatever they are). -/
def DM (w : World) (b : Nat) (s : Mst) : Prop := ∃ n₀ v s0, s0.xs = s.xs ∧ DMem w n₀ b v s0
theorem DM.kept {w w' : World} {b : Nat} {s : Mst} (h : DM w b s) (k : Kept w w') : DM w' b s := by
  obtain ⟨n₀, v, s0, e, h⟩ := h
  exact ⟨n₀, v, s0, e, h.kept k⟩
end Go.Proofs.Ytgialpjdfeldeaa

/-! ordinatehand.Copy and Like: a memory of the program with the cells of the document's. -/
namespace Go.Proofs.Ytgialpjdfeldeaa
open Go.RowKit

/-- The state of the copy. -/
def cp (s : Mst) : Mst := (Mst.new s.size).make s.xs
theorem cp_xs {s : Mst} (h : (s.xs.length : Int) ≤ s.size) : (cp s).xs = s.xs := by
  unfold cp Mst.make
  split
  · show [] ++ s.xs = s.xs; simp
  · rename_i hf
    have : s.xs = [] := by
      apply Classical.byContradiction
      intro h0
      apply hf
      have := List.length_pos_iff.2 h0
      simp [Mst.fits, Mst.new]
      omega
    rw [this]; rfl
theorem cp_size (s : Mst) : (cp s).size = s.size := by unfold cp Mst.make; split <;> rfl
theorem copy_c (W : World) (n₀ b : Nat) (v : Value) (s : Mst) (h : DMem W n₀ b v s) (h1 : 1 ≤ s.size) :
    Calls Try.prog 21 #[.pointer (some ⟨b, 0, none⟩)] W fun e W' => ∃ bm, e = .returned (.pointer (some ⟨bm, 0, none⟩)) ∧ Now W W' bm (cp s) := by
  obtain ⟨la, lc, rfl, hr, hlc, hlm⟩ := h.form
  have c0 := (DMem.opened h).1.2.1
  have hb : b < W.heap.size := (h.lt b (.inl rfl)).2
  have hl := h.len
  have h2 := h.top
  have H := hide h
  have HR := hide hr
  obtain ⟨N, hN⟩ : ∃ N, s.xs.length = N := ⟨_, rfl⟩
  have HN := hide hN
  obtain ⟨z, hz⟩ : ∃ z, s.size = z := ⟨_, rfl⟩
  have HZ := hide hz
  rw [hz] at c0 h1 h2
  clear h hr hlc hlm hz hN
  go_enter Try.func21, Try.ntmps21
  go_wp2_with (fail)
  refine (now_new W W z (Kept.refl W) h1 h2).mono ?_
  rintro e W1 ⟨rfl, N1, k1⟩
  obtain ⟨bm, hbm⟩ : ∃ bm, W.heap.size = bm := ⟨_, rfl⟩
  rw [hbm] at N1 ⊢
  have c1 := (DMem.opened (H.out.kept k1)).1.1
  rw [HN.out] at c1
  have M1 := hide N1
  have HF : Hid (cp s = (Mst.new z).make s.xs) := hide (by unfold cp; rw [HZ.out])
  clear N1 k1 hbm c0
  go_wp2_with (fail)
  rw [← HN.out]
  refine (now_put W W1 bm (Mst.new z) la s.xs lc _ _ _ M1.out HR.out (by unfold maxLen; omega) rfl rfl rfl).mono ?_
  rintro e W2 ⟨rfl, N2⟩
  have M2 := hide N2
  clear N2 M1 c1
  go_wp2
  go_ret
  exact ⟨bm, rfl, by rw [HF.out]; exact M2.out⟩

theorem like_c (w W : World) (bm : Nat) (s : Mst) (hm : Now w W bm s) (n₀ bx : Nat) (vx : Value) (sx : Mst) (hx : DMem W n₀ bx vx sx) (e1 : sx.xs = s.xs) (e2 : sx.size = s.size) :
    Calls Try.prog 23 #[.pointer (some ⟨bm, 0, none⟩), .pointer (some ⟨bx, 0, none⟩)] W fun e W' => e = .returned (.bool true) ∧ Kept W W' := by
  obtain ⟨ax, cx, rfl, hrx, hcx, hmx⟩ := hx.form
  rw [e1] at hrx hcx
  have bC : ∀ y : Wd (Kept W), y.w.cell? ⟨bx, 1, none⟩ = some (.slice ax s.xs.length cx) := fun y => by rw [← e1]; exact (DMem.opened (hx.kept y.ok)).1.1
  have bS : ∀ y : Wd (Kept W), y.w.cell? ⟨bx, 0, none⟩ = some (.int .i64 s.size) := fun y => by rw [← e2]; exact (DMem.opened (hx.kept y.ok)).1.2.1
  have HX := hide hrx
  have HCX := hide hcx
  have hl := hx.len
  rw [e1] at hl
  have KD := hide (Kept.drew W)
  have HP := hide hm
  clear hx hrx hcx hmx hm e1 e2
  go_enter Try.func23, Try.ntmps23
  go_wp2_with (fail)
  refine region_wide [0, 2, 3, 4, 5, 1, 6, 7, 8, 10, 11, 12, 13, 14, 9, 15, 16, 17, 18, 20, 21, 22, 23, 19, 24, 25, 26] (Kept W) (by kernel_rfl) (by kernel_rfl) KD.out (fun _ => ?_)
  repeat (refine pq rfl rfl ?_; go_big_quiet_step (fail); refine wpQuiet_nil ?_)
  refine pl rfl rfl ?_
  gi_wp2_with (fail)
  refine ⟨trivial, ?_⟩
  refine (callsIn_wide.2 (now_cells w _ bm s (HP.out.on KD.out))).mono ?_
  rintro e W1 ⟨a1, cap1, rfl, hr1, hc1, hm1, -, -, hk⟩
  have K1 := hide (KD.out.trans hk)
  have HR1 := hide hr1
  have HC1 := hide hc1
  have HM1 := hide hm1
  clear hr1 hc1 hm1 hk
  gi_wp2_with (fail)
  refine ⟨Wd.mem K1.out, ?_⟩
  refine pl rfl rfl ?_
  gi_wp2_with (fail)
  refine ⟨trivial, ?_⟩
  refine (callsIn_wide.2 (words_k W1 a1 ax s.xs cap1 cx HR1.out (HX.out.kept K1.out) HC1.out HCX.out HM1.out)).mono ?_
  rintro e W2 ⟨rfl, hk⟩
  have K2 := hide (K1.out.trans hk)
  clear hk
  gi_wp2_with (fail)
  refine ⟨Wd.mem K2.out, ?_⟩
  repeat (refine pq rfl rfl ?_; go_big_quiet_step (fail); refine wpQuiet_nil ?_)
  refine pl rfl rfl ?_
  gi_wp2_with (fail)
  refine ⟨trivial, ?_⟩
  refine (callsIn_wide.2 (now_used w W2 bm s (s.xs.length : Int) (HP.out.on K2.out) rfl)).mono ?_
  rintro e w' ⟨rfl, rfl⟩
  gi_wp2_with (fail)
  refine ⟨Wd.mem K2.out, ?_⟩
  repeat (refine pq rfl rfl ?_; go_big_quiet_step (fail); refine wpQuiet_nil ?_)
  refine pl rfl rfl ?_
  gi_wp2_with (fail)
  refine ⟨trivial, ?_⟩
  refine (callsIn_wide.2 (now_size w W2 bm s s.size (HP.out.on K2.out) rfl)).mono ?_
  rintro e w' ⟨rfl, rfl⟩
  gi_wp2_with (fail)
  refine ⟨Wd.mem K2.out, ?_⟩
  repeat (refine pq rfl rfl ?_; go_big_quiet_step (fail); refine wpQuiet_nil ?_)
  refine perm_done ?_
  go_wp2
  go_ret
  exact ⟨rfl, K2.out⟩
end Go.Proofs.Ytgialpjdfeldeaa

/-! ref1.Pairs of two lists that are alike. -/
namespace Go.Proofs.Ytgialpjdfeldeaa
open Go.RowKit

theorem pairs_same (W : World) (a b : Option Addr) (xs : List (Int × Int)) (M ca cb : Nat) (hM : xs.length = M) (ha : PReads W a xs) (hb : PReads W b xs) (h1 : M ≤ ca) (h2 : M ≤ cb) (hl : M ≤ 1000000) :
    Calls Try.prog 25 #[.slice a M ca, .slice b M cb] W fun e w' => e = .returned (.bool true) ∧ Kept W w' := by
  have HA := hide ha
  have HB := hide hb
  have HM := hide hM
  clear ha hb hM
  go_enter Try.func25, Try.ntmps25
  go_wp2
  go_loopw [5] (fun i wr => ∃ k d : Nat, k ≤ M ∧ i = .int .i64 (k : Int) ∧ wr = W.drewN d) (fun i _ => M - (intOf i).toNat)
  case atStart => exact ⟨0, 0, by omega, by simp, rfl⟩
  case round =>
    obtain ⟨k, d, hk, rfl, rfl⟩ := hrel
    by_cases hkm : k < M
    · obtain ⟨⟨x, y⟩, hp⟩ : ∃ p, xs[k]? = some p := ⟨_, List.getElem?_eq_getElem (by rw [HM.out]; exact hkm)⟩
      obtain ⟨bl, off, rfl, _, p0, p1⟩ := HA.out.at hp
      obtain ⟨bl', off', rfl, _, q0, q1⟩ := HB.out.at hp
      have c0 : W.cell? ⟨bl, off + k * 2, none⟩ = some (.int .i64 x) := p0
      have c1 : W.cell? ⟨bl, off + k * 2 + 1, none⟩ = some (.int .i64 y) := p1
      have d0 : W.cell? ⟨bl', off' + k * 2, none⟩ = some (.int .i64 x) := q0
      have d1 : W.cell? ⟨bl', off' + k * 2 + 1, none⟩ = some (.int .i64 y) := q1
      have j1 : (k : Int) < (M : Int) := by omega
      have j2 : k < ca := by omega
      have j3 : k < cb := by omega
      clear p0 p1 q0 q1 hp
      go_wp2
      go_quiet (fail)
      go_wp2
      exact ⟨⟨k + 1, _, by omega, by simp, rfl⟩, by simp [intOf]; omega⟩
    · have hkm' : k = M := by omega
      subst hkm'
      have j1 : ¬ ((k : Int) < (k : Int)) := by omega
      go_wp2
      go_ret
      exact ⟨rfl, Kept.drewN _ _⟩

end Go.Proofs.Ytgialpjdfeldeaa

/-! PlantTells' walk: the program's Build and the document's, side by side. No conditions beyond each theorem's own. -/
namespace Go.Proofs.Ytgialpjdfeldeaa
open Go.RowKit
set_option maxRecDepth 20000

section
variable {T1 T2 : TypeId} {lay1 lay2 : Value → Int → Int → Int → Int → Array Value}
/-- Two memories that lie apart, and blocks that are neither's. -/
def PY (T1 : TypeId) (lay1 : Value → Int → Int → Int → Int → Array Value) (T2 : TypeId) (lay2 : Value → Int → Int → Int → Int → Array Value) (X : Nat → Prop) (w W : World) (b1 : Nat) (s1 : Mst) (b2 : Nat) (s2 : Mst) : Prop :=
  ∃ v1 v2, MemAt T1 lay1 W w.heap.size b1 v1 s1 ∧ MemAt T2 lay2 W w.heap.size b2 v2 s2 ∧ (∀ k, Foot b1 v1 k → ¬ Foot b2 v2 k) ∧ (∀ k, X k → ¬ Foot b1 v1 k ∧ ¬ Foot b2 v2 k ∧ k < W.heap.size) ∧ Kept w W
namespace PY
variable {X : Nat → Prop} {w W W' : World} {b1 b2 : Nat} {s1 s2 : Mst}
theorem swap (h : PY T1 lay1 T2 lay2 X w W b1 s1 b2 s2) : PY T2 lay2 T1 lay1 X w W b2 s2 b1 s1 := by
  obtain ⟨v1, v2, h1, h2, h3, h4, h5⟩ := h
  exact ⟨v2, v1, h2, h1, fun k hk e => h3 k e hk, fun k hk => ⟨(h4 k hk).2.1, (h4 k hk).1, (h4 k hk).2.2⟩, h5⟩
theorem on (h : PY T1 lay1 T2 lay2 X w W b1 s1 b2 s2) (k : Kept W W') : PY T1 lay1 T2 lay2 X w W' b1 s1 b2 s2 := by
  obtain ⟨v1, v2, h1, h2, h3, h4, h5⟩ := h
  exact ⟨v1, v2, h1.kept k, h2.kept k, h3, fun j hj => ⟨(h4 j hj).1, (h4 j hj).2.1, Nat.lt_of_lt_of_le (h4 j hj).2.2 k.size⟩, h5.trans k⟩
theorem fst (h : PY T1 lay1 T2 lay2 X w W b1 s1 b2 s2) : ∃ v1, MemAt T1 lay1 W w.heap.size b1 v1 s1 ∧ (∀ k, X k → ¬ Foot b1 v1 k) ∧ ∀ W' s', Does T1 lay1 w.heap.size b1 v1 s' W W' → PY T1 lay1 T2 lay2 X w W' b1 s' b2 s2 ∧ Turned (fun k => ¬ X k) W W' := by
  obtain ⟨v1, v2, h1, h2, h3, h4, h5⟩ := h
  refine ⟨v1, h1, fun k hk => (h4 k hk).1, fun W' s' d => ?_⟩
  obtain ⟨v', g1, g2, g3⟩ := d
  have t1 : Turned (fun k => ¬ X k) W W' := g2.mono (fun k _ hk hx => (h4 k hx).1 hk)
  refine ⟨⟨v', v2, g1, h2.turned g2 (fun k hk e => h3 k e hk), ?_, ?_, h5.own (fun i hi => (h1.lt i hi).1) g2⟩, t1⟩
  · intro k hk hf
    rcases g3 k hk with e | e
    · exact h3 k e hf
    · have := (h2.lt k hf).2; omega
  · intro k hk
    obtain ⟨e1, e2, e3⟩ := h4 k hk
    refine ⟨fun hf => ?_, e2, Nat.lt_of_lt_of_le e3 g2.size⟩
    rcases g3 k hf with e | e
    · exact e1 e
    · omega
theorem kept (h : PY T1 lay1 T2 lay2 X w W b1 s1 b2 s2) : Kept w W := by
  obtain ⟨v1, v2, h1, h2, h3, h4, h5⟩ := h
  exact h5
theorem more {Y : Nat → Prop} (h : PY T1 lay1 T2 lay2 X w W b1 s1 b2 s2) (k : Kept W W') (hY : ∀ j, Y j → W.heap.size ≤ j ∧ j < W'.heap.size) : PY T1 lay1 T2 lay2 Y w W' b1 s1 b2 s2 := by
  obtain ⟨v1, v2, h1, h2, h3, h4, h5⟩ := h
  refine ⟨v1, v2, h1.kept k, h2.kept k, h3, fun j hj => ⟨fun hf => ?_, fun hf => ?_, (hY j hj).2⟩, h5.trans k⟩
  · have := (h1.lt j hf).2; have := (hY j hj).1; omega
  · have := (h2.lt j hf).2; have := (hY j hj).1; omega
theorem of {v1 v2 : Value} (m1 : MemAt T1 lay1 W w.heap.size b1 v1 s1) (k1 : Kept w W) (m2 : MemAt T2 lay2 W' W.heap.size b2 v2 s2) (k2 : Kept W W') : PY T1 lay1 T2 lay2 (fun _ => False) w W' b1 s1 b2 s2 := by
  refine ⟨v1, v2, m1.kept k2, m2.low k1.size, fun k hk hf => ?_, fun _ e => e.elim, k1.trans k2⟩
  have := (m1.lt k hk).2
  have := (m2.lt k hf).1
  omega
end PY
end
theorem buildS_same {s s' : Mst} (h1 : s.xs = s'.xs) (h2 : s.size = s'.size) (ps : List (Int × Int)) : (buildS s ps).1 = (buildS s' ps).1 ∧ (buildS s ps).2.xs = (buildS s' ps).2.xs ∧ (buildS s ps).2.size = (buildS s' ps).2.size := by
  obtain ⟨l1, l2, l3⟩ := lay_same (ps.length + 1) s s' ps h1 h2
  unfold buildS
  rw [h1, h2]
  split
  · exact ⟨by simp only [l1], l2, l3⟩
  · exact ⟨rfl, h1, h2⟩

/-- What lists tells. -/
def Listed (w : World) (e : Ending) (W : World) : Prop := ∃ (ps : List (Int × Int)) (a : Option Addr) (M cap : Nat), e = .returned (.slice a M cap) ∧ ps.length = M ∧ PReads W a ps ∧ M ≤ cap ∧ cap ≤ maxLen ∧ (a = none → cap = 0) ∧ Kept w W
theorem lists_c (w : World) (ar : Option Addr) (rs : List (Int × Int)) (R cr : Nat) (al : Option Addr) (zs : List Int) (cl : Nat) (is : Bool) (hR : rs.length = R) (hr : PReads w ar rs) (h1 : R ≤ cr) (h2 : cr ≤ maxLen) (h3 : ar = none → cr = 0) (hl : Reads w al zs) (l1 : zs.length ≤ cl) (l2 : cl ≤ maxLen) :
    Calls Try.prog 17 #[.slice ar R cr, .slice al zs.length cl, .bool is] w (Listed w) := by
  have HP := hide (Mp.pairs_c w al zs zs.length cl rfl hl l1 l2)
  have HA : Hid (Listed w (.returned (.slice ar R cr)) w) := hide ⟨rs, ar, R, cr, rfl, hR, hr, h1, h2, h3, Kept.refl _⟩
  clear hR hr h1 h2 h3 hl l1 l2
  cases is with
  | true =>
    go_enter Try.func17, Try.ntmps17
    go_wp2
    go_ret
    exact HA.out
  | false =>
    go_enter Try.func17, Try.ntmps17
    go_wp2_with (fail)
    refine HP.out.mono ?_
    rintro e W1 ⟨v1, rfl, row1, k1⟩
    obtain ⟨a1, c1, rfl, pr1, q1, m1, n1, -⟩ := PRow.form row1
    have HB : Hid (Listed w (.returned (.slice a1 (Mp.pairsP zs).length c1)) W1) := hide ⟨_, a1, _, c1, rfl, rfl, pr1, q1, m1, n1, k1⟩
    clear row1 pr1 q1 m1 n1 k1
    generalize (Mp.pairsP zs).length = M at *
    go_wp2
    go_ret
    exact HB.out

theorem made_reads (W : World) (N : Nat) : Reads (W.alloc (.cells (madeCells #[.int .i64 0] N) 2)) (some ⟨W.heap.size, 0, none⟩) (List.replicate N 0) := by
  refine .inr ⟨W.heap.size, 0, rfl, fun j z hz => ?_⟩
  have hj : j < N := by have := (List.getElem?_eq_some_iff.1 hz).1; simpa using this
  have e : (List.replicate N (0 : Int))[j]? = some 0 := by simp [hj]
  rw [e] at hz
  cases hz
  rw [Nat.zero_add, (World.rowIs_made W (.int .i64 0) N 2).cell hj]
theorem preads_lt {w : World} {a : Option Addr} {ps : List (Int × Int)} (h : PReads w a ps) (h0 : ps ≠ []) : ∀ ad, a = some ad → ad.block < w.heap.size := fun ad e => by
  obtain ⟨p, hp⟩ : ∃ p, ps[0]? = some p := ⟨_, List.getElem?_eq_getElem (List.length_pos_iff.2 h0)⟩
  obtain ⟨bl, off, h1, h2, _⟩ := h.at hp
  rw [h1] at e
  cases e
  exact h2

set_option maxHeartbeats 4000000 in
theorem plantTells_c (w : World) (size pad : Int) (ar : Option Addr) (rs : List (Int × Int)) (R cr : Nat) (al : Option Addr) (zs : List Int) (cl : Nat) (is : Bool) (hR : rs.length = R) (hr : PReads w ar rs) (h1 : R ≤ cr) (h2 : cr ≤ maxLen) (h3 : ar = none → cr = 0) (hl : Reads w al zs) (l1 : zs.length ≤ cl) (l2 : cl ≤ maxLen) :
    Calls Try.prog 4 #[.int .i64 size, .int .i64 pad, .slice ar R cr, .slice al zs.length cl, .bool is] w fun e w' => e = .returned (.bool true) ∧ Kept w w' := by
  have HL := hide (lists_c w ar rs R cr al zs cl is hR hr h1 h2 h3 hl l1 l2)
  obtain ⟨y, hy⟩ : ∃ y, size % 900 = y := ⟨_, rfl⟩
  have y1 : 0 ≤ y := by omega
  have y2 : y < 900 := by omega
  have HY := hide hy
  obtain ⟨Y, hY⟩ : ∃ Y : Nat, pad % 30 = (Y : Int) := ⟨(pad % 30).toNat, by omega⟩
  have Y2 : Y < 30 := by omega
  have HYY := hide hY
  have HMK : ∀ W : World, (Instr.makeSlice 35 (.int .i64 (Y : Int)) (.int .i64 (Y : Int))).run Try.prog W = .ok (.slice (some ⟨W.heap.size, 0, none⟩) Y Y) (W.alloc (.cells (madeCells #[.int .i64 0] Y) 2)) := fun W => run_make_row' 35 2 (.int .i64 0) 8 Try.underlying35 info2_p rfl .i64 .i64 Y (by omega) (by omega) W
  clear hR hr h1 h2 h3 hl l1 l2 hy hY
  go_enter Try.func4, Try.ntmps4
  go_wp2_with (fail)
  refine HL.out.mono ?_
  rintro e W1 ⟨ps, a1, M, c1, rfl, hM, pr1, q1, m1, n1, k1⟩
  have K1 := hide k1
  have PR1 := hide pr1
  have M1 := hide m1
  have N1 := hide n1
  have HMM := hide hM
  have hm1 : (M : Int) ≤ 9223372036854775807 := by unfold maxLen at m1; omega
  clear hM pr1 m1 n1 k1 HL
  by_cases h120 : (120 : Int) < (M : Int)
  · go_wp2_with (fail)
    refine (known_c _).mono ?_
    rintro e W2 ⟨rfl, k2⟩
    have K2 := hide (K1.out.trans k2)
    clear k2
    go_wp2
    go_ret
    exact ⟨rfl, K2.out⟩
  · have LE : M ≤ 120 := by omega
    go_wp2_with (fail)
    refine (cut_g _ size 900 (by decide) (by decide)).mono ?_
    rw [HY.out]
    rintro e W2 ⟨rfl, rfl⟩
    go_wp2_with (fail)
    refine (new_d W1 (1 + y) (by omega) (by omega)).mono ?_
    rintro e W2 ⟨rfl, d2, k2, -⟩
    obtain ⟨bx, hbx⟩ : ∃ bx, W1.heap.size = bx := ⟨_, rfl⟩
    have D2 := hide d2
    have K2 := hide k2
    have BX : Hid (bx < W2.heap.size) := hide (by have := (d2.lt _ (.inl rfl)).2; omega)
    have HBX := hide hbx
    rw [hbx]
    clear d2 k2 hbx
    go_wp2_with (fail)
    refine (cut_g _ pad 30 (by decide) (by decide)).mono ?_
    rw [HYY.out]
    rintro e W3 ⟨rfl, rfl⟩
    go_wp2_with (fail)
    have MD := make_d (W2.alloc (.cells (madeCells #[.int .i64 0] Y) 2)) W1.heap.size bx (.slice none 0 0) (Mst.new (1 + y)) (some ⟨W2.heap.size, 0, none⟩) (List.replicate Y 0) Y (by rw [← HBX.out]; exact D2.out.kept (Turned.alloc _ _ _)) (Nat.le_trans K2.out.size (by simp)) (made_reads W2 Y) (by simp; unfold maxLen; omega) (fun _ ad e => by cases e; have := BX.out; simp only; omega)
    rw [List.length_replicate] at MD
    refine MD.mono ?_
    rintro e W4 ⟨rfl, d4⟩
    obtain ⟨v4, m4, t4, -⟩ := d4
    have K4 : Hid (Kept W1 W4) := hide ((K2.out.trans (Turned.alloc (fun _ => False) W2 _)).own (O := Foot bx (.slice none 0 0)) (fun i hi => by
      rcases hi with rfl | hi
      · exact Nat.le_of_eq HBX.out
      · simp [Value.ownBlock] at hi) t4)
    obtain ⟨sx, hsx⟩ : ∃ sx, (Mst.new (1 + y)).make (List.replicate Y 0) = sx := ⟨_, rfl⟩
    rw [hsx] at m4
    have SX : Hid (sx.size = 1 + y) := hide (by rw [← hsx]; unfold Mst.make; split <;> rfl)
    have M4 := hide m4
    clear MD m4 t4 hsx
    go_wp2_with (fail)
    refine (copy_c W4 W1.heap.size bx v4 sx M4.out (by rw [SX.out]; omega)).mono ?_
    rintro e W5 ⟨bm, rfl, ⟨v5, m5⟩, k5⟩
    have CX : Hid ((cp sx).xs = sx.xs ∧ (cp sx).size = sx.size) := hide ⟨cp_xs M4.out.room, cp_size sx⟩
    have P5 := hide (PY.of M4.out K4.out m5 k5)
    clear m5 k5 M4
    obtain ⟨⟨⟨z, r⟩, s'⟩, hb⟩ : ∃ x, buildS (cp sx) ps = x := ⟨_, rfl⟩
    have BS := buildS_same CX.out.1 CX.out.2 ps
    obtain ⟨⟨⟨z', r'⟩, s''⟩, hb'⟩ : ∃ x, buildS sx ps = x := ⟨_, rfl⟩
    rw [hb, hb'] at BS
    simp only [Prod.mk.injEq] at BS
    obtain ⟨⟨rfl, rfl⟩, x1, x2⟩ := BS
    have HB := hide hb
    have HB' := hide hb'
    have X1 := hide x1
    have X2 := hide x2
    have g1 : (z == z) = true := by simp
    have g2 : (r == r) = true := by simp
    clear hb hb' x1 x2
    have r0 : PRow (W5.alloc (.cells #[] 30)) W5.heap.size 30 (.slice (some ⟨W5.heap.size, 0, none⟩) 0 0) [] := Mp.prow_new W5
    go_wp2_with (at_builtin; refine Stop.out ?_)
    refine ⟨?_⟩
    refine wpList_append_pairs ptP rfl _ _ rfl W5.heap.size _ [] ps ps rfl r0 a1 M c1 HMM.out rfl ((PR1.out.kept P5.out.kept).kept (Turned.alloc _ _ _)) N1.out (by simp [HMM.out]; omega) (by simp) (by simp) ?_
    intro v6 W6 row6 g6 _
    have K6 := hide (pkept_append ((Kept.refl W5).alloc _) r0 g6)
    obtain ⟨a6, c6, rfl, pr6, q6, m6, -, b6⟩ := PRow.form row6
    have P6 : Hid (PY 66 layP 70 layD (fun k => ∃ ad, a6 = some ad ∧ ad.block = k) W1 W6 bm (cp sx) bx sx) := hide (P5.out.swap.more K6.out (fun j ⟨ad, e1, e2⟩ => by rw [← e2]; exact b6 ad e1))
    rw [HMM.out] at q6 ⊢
    have PR6 := hide pr6
    have M6 := hide m6
    clear row6 g6 pr6 m6 b6 r0
    go_wp2_with (fail)
    obtain ⟨v1, mm1, nx, hd⟩ := P6.out.fst
    refine (build_p W6 W1.heap.size bm v1 (cp sx) a6 ps M c6 mm1 P6.out.kept.size PR6.out HMM.out q6 M6.out (fun _ ad e hf => nx _ ⟨ad, e, rfl⟩ hf) z r s' HB.out).mono ?_
    rintro e W7 ⟨rfl, d7⟩
    obtain ⟨p7, t7⟩ := hd _ _ d7
    have P7 := hide p7.swap
    have PR7 := hide (PR6.out.turned t7 (fun k _ hk hn => hn hk))
    clear d7 p7 t7 hd mm1 nx P6 PR6
    go_wp2_with (fail)
    obtain ⟨v2, mm2, -, hd⟩ := P7.out.fst
    refine (buildA_d W7 W1.heap.size bx v2 sx a1 ps M c1 mm2 P7.out.kept.size (PR1.out.kept P7.out.kept) HMM.out q1 M1.out (by omega) (fun h0 ad e hf => by
      have e1 := preads_lt PR1.out h0 ad e
      have e2 := (mm2.lt _ hf).1
      omega) z r s'' HB'.out).mono ?_
    rintro e W8 ⟨rfl, d8⟩
    obtain ⟨p8, t8⟩ := hd _ _ d8
    have P8 := hide p8.swap
    have PR8 := hide (PR7.out.turned t8 (fun k _ hk hn => hn hk))
    clear d8 p8 t8 hd mm2 P7 PR7
    go_wp2_with (fail)
    refine (known_c _).mono ?_
    rintro e W9 ⟨rfl, k9⟩
    have P9 := hide (P8.out.on k9)
    have PR9 := hide (PR8.out.kept k9)
    clear k9 P8 PR8
    obtain ⟨va, vb, ma, mb, -, -, ka⟩ := P9.out
    have LK := hide (like_c W1 W9 bm s' ⟨⟨va, ma⟩, ka⟩ W1.heap.size bx vb s'' mb X1.out.symm X2.out.symm)
    have K9 := hide ka
    clear ma mb ka P9
    go_wp2_with (fail)
    refine LK.out.mono ?_
    rintro e WA ⟨rfl, kA⟩
    have KA := hide (K9.out.trans kA)
    have PRA := hide (PR9.out.kept kA)
    clear kA K9 PR9 LK
    obtain ⟨u, hu⟩ : ∃ u, ascB ps = u := ⟨_, rfl⟩
    have HU := hide hu
    have g3 : (u == u) = true := by simp
    clear hu
    go_wp2_with (fail)
    refine (right_p WA a1 ps M c1 (PR1.out.kept KA.out) HMM.out q1 M1.out u HU.out).mono ?_
    rintro e WB ⟨rfl, kB⟩
    have KB := hide (KA.out.trans kB)
    have PRB := hide (PRA.out.kept kB)
    clear kB KA PRA
    go_wp2_with (fail)
    refine (asc_d WB a1 ps M c1 (PR1.out.kept KB.out) HMM.out q1 (by omega) u HU.out).mono ?_
    rintro e WC ⟨rfl, kC⟩
    have KC := hide (KB.out.trans kC)
    have PRC := hide (PRB.out.kept kC)
    clear kC KB PRB
    go_wp2_with (fail)
    refine (pairs_same WC a6 a1 ps M c6 c1 HMM.out PRC.out (PR1.out.kept KC.out) q6 q1 (by omega)).mono ?_
    rintro e WD ⟨rfl, kD⟩
    have KD := hide ((K1.out.trans KC.out).trans kD)
    clear kD
    go_wp2
    go_ret
    exact ⟨rfl, KD.out⟩
end Go.Proofs.Ytgialpjdfeldeaa

/-! A slice of pairs as an argument: what a proof's frame is told of it. No conditions beyond each theorem's own. -/
namespace Go.Proofs.Ytgialpjdfeldeaa
open Go.ChangeShapes Go.WideShapes Go.ChangeAt Go.RowKit

theorem pair_cells {H : Type} {enc : TypeId × Value → H} {w : World} {base fuel : Nat} {held : Bool} {cs : List Value} {x : DataW H × List MemPlace} (h : DataW.trod enc Try.prog w base (fun _ => true) held fuel 30 cs = some x) : ∃ k v : Int, cs = [.int .i64 k, .int .i64 v] := by
  obtain ⟨xs, n, rfl, rfl, hl, hxl, hf⟩ := DataW.trod_struct Try.underlying30 h
  have hl2 : cs.length = 2 := hl.trans (by kernel_rfl)
  have hx2 : xs.length = 2 := hxl
  have c2 : Try.prog.cellsOf 2 = 1 := by kernel_rfl
  obtain ⟨v0, v1, rfl⟩ : ∃ v0 v1, cs = [v0, v1] := by
    rcases cs with _ | ⟨v0, _ | ⟨v1, _ | ⟨v2, r⟩⟩⟩ <;> simp at hl2
    exact ⟨_, _, rfl⟩
  have get : ∀ i, i < 2 → ∃ y, xs[i]? = some y := fun i hi => ⟨_, List.getElem?_eq_getElem (by omega)⟩
  have h0 : DataW.trod enc Try.prog w base (fun _ => true) held n 2 (([v0, v1].drop 0).take (Try.prog.cellsOf 2)) = xs[0]? := hf 0 _ rfl
  have h1 : DataW.trod enc Try.prog w base (fun _ => true) held n 2 (([v0, v1].drop 1).take (Try.prog.cellsOf 2)) = xs[1]? := hf 1 _ rfl
  obtain ⟨y0, e0⟩ := get 0 (by omega)
  obtain ⟨y1, e1⟩ := get 1 (by omega)
  rw [e0, c2] at h0
  rw [e1, c2] at h1
  obtain ⟨k, q0, _⟩ := DataW.trod_int Try.underlying2 h0
  obtain ⟨a, q1, _⟩ := DataW.trod_int Try.underlying2 h1
  simp at q0 q1
  subst q0 q1
  exact ⟨k, a, rfl⟩
theorem list_of {P : Nat → Int × Int → Prop} : ∀ n, (∀ i, i < n → ∃ p, P i p) → ∃ l : List (Int × Int), l.length = n ∧ ∀ i p, l[i]? = some p → P i p
  | 0, _ => ⟨[], rfl, by simp⟩
  | n + 1, h => by
    obtain ⟨l, h1, h2⟩ := list_of n (fun i hi => h i (by omega))
    obtain ⟨p, hp⟩ := h n (by omega)
    refine ⟨l ++ [p], by simp [h1], fun i q hq => ?_⟩
    by_cases e : i < n
    · rw [List.getElem?_append_left (by omega)] at hq
      exact h2 i q hq
    · rw [List.getElem?_append_right (by omega)] at hq
      by_cases e2 : i = n
      · subst e2
        rw [h1, Nat.sub_self] at hq
        simp at hq
        subst hq
        exact hp
      · have : i - l.length ≠ 0 := by omega
        obtain ⟨m, hm⟩ : ∃ m, i - l.length = m + 1 := ⟨i - l.length - 1, by omega⟩
        rw [hm] at hq
        simp at hq
theorem pairs_value {H : Type} {enc : TypeId × Value → H} {w : World} {base : Nat} {held : Bool} {a : Option Addr} {len cap : Nat} {d : DataW H} {pl : List MemPlace} (h : DataW.Trod enc Try.prog w base (fun _ => true) held 31 (.slice a len cap) d pl) :
    ∃ ps : List (Int × Int), ps.length = len ∧ PReads w a ps ∧ len ≤ cap ∧ cap ≤ maxLen ∧ (a = none → cap = 0) := by
  obtain ⟨fuel, hf⟩ := h
  rcases Go.Deep.open_slice Try.underlying31 hf with ⟨hcs, _⟩ | ⟨ad, l, c, m, n, D, Pl, hcs, hb, hl, hm, hmm, _, hi⟩
  · simp [Value.cells] at hcs
    obtain ⟨rfl, rfl, rfl⟩ := hcs
    exact ⟨[], rfl, .inl rfl, Nat.le_refl _, Nat.zero_le _, fun _ => rfl⟩
  · simp [Value.cells] at hcs
    obtain ⟨rfl, rfl, rfl⟩ := hcs
    by_cases h0 : len = 0
    · exact ⟨[], by simp [h0], .inl rfl, hl, hm, fun e => by cases e⟩
    · simp only [if_true] at hmm
      subst hmm
      have c2 : Try.prog.cellsOf 30 = 2 := by kernel_rfl
      have each : ∀ i, i < len → ∃ p : Int × Int, w.cell? (ad.add (i * 2)) = some (.int .i64 p.1) ∧ w.cell? (ad.add (i * 2 + 1)) = some (.int .i64 p.2) := fun i him => by
        obtain ⟨cs', h1, h2⟩ := hi i (by omega)
        rw [c2] at h1
        obtain ⟨_, h3, h4⟩ := World.cells?_some h1
        obtain ⟨k, v, rfl⟩ := pair_cells h2
        have g0 := h4 0 (by omega)
        have g1 := h4 1 (by omega)
        rw [Go.Deep.add_add] at g0 g1
        exact ⟨(k, v), by simpa using g0, by simpa using g1⟩
      obtain ⟨bl, off, spot⟩ := ad
      have hspot : spot = none := by
        obtain ⟨p, h3, _⟩ := each 0 (by omega)
        simpa [Addr.add] using World.cell?_spot h3
      subst hspot
      obtain ⟨ps, e1, e2⟩ := list_of len each
      refine ⟨ps, e1, .inr ⟨bl, off, rfl, fun j p hp => ?_⟩, hl, hm, fun e => by cases e⟩
      obtain ⟨g1, g2⟩ := e2 j p hp
      rw [Go.WideShapes.add_plain] at g1 g2
      exact ⟨g1, g2⟩
end Go.Proofs.Ytgialpjdfeldeaa
