/-
  What 'ProbePath' of the statements of chapter 6 answers: true; nothing that lay is turned.
-/
import Derived.Test.YtmfpfoikfpcnkaaKeys
import Derived.Test.YtmfpfoikfpcnkaaProbeB
import Derived.Deep.OwnRows
namespace Go.Proofs.Ytmfpfoikfpcnkaa
open Go.RowKit

/-- Which numbers were met among the first t of a path. -/
def metF (p : List Int) (t : Nat) : Nat → Value := fun v => .bool (decide ((v : Int) ∈ p.take t))
theorem not_met {p : List Int} {t : Nat} {x : Int} (hn : p.Nodup) (hx : p[t]? = some x) : x ∉ p.take t := by
  obtain ⟨h1, rfl⟩ := List.getElem?_eq_some_iff.1 hx
  intro h
  rw [List.mem_take_iff_getElem] at h
  obtain ⟨i, hi, e⟩ := h
  have := (List.getElem_inj hn).1 e
  omega
theorem metF_step {p : List Int} {t v : Nat} (hx : p[t]? = some (v : Int)) (j : Nat) : (if j = v then Value.bool true else metF p t j) = metF p (t + 1) j := by
  unfold metF
  rw [take_snoc' hx]
  by_cases h : j = v
  · subst h
    simp
  · rw [if_neg h]
    congr 1
    simp only [List.mem_append, List.mem_singleton]
    by_cases g : (j : Int) ∈ p.take t
    · simp [g]
    · simp only [g, false_or]
      rw [decide_eq_false (by simp), decide_eq_false (by omega)]
theorem metF_all {p : List Int} {v : Nat} (h : (v : Int) ∈ p) : metF p p.length v = .bool true := by
  unfold metF
  rw [List.take_length, decide_eq_true h]
theorem metF_none (p : List Int) : (fun _ => Value.bool false) = metF p 0 := by
  funext v
  simp [metF]
theorem info4 : (Try.prog.info? 4).map (fun i => (i.zero, i.size, i.bytes)) = some (some (.bool false), 1, 1) := by kernel_rfl
theorem make_bools (n : Nat) (hn : n ≤ 1000) (w : World) : (Instr.makeSlice 35 (.int .i64 (n : Int)) (.int .i64 (n : Int))).run Try.prog w = .ok (.slice (some ⟨w.heap.size, 0, none⟩) n n) (w.alloc (.cells (madeCells #[.bool false] n) 4)) := by
  obtain ⟨i, hi, hz0, hz1, hz2⟩ := info_parts info4
  exact run_make_row 35 4 i (.bool false) Try.underlying35 hi hz0 hz1 rfl .i64 .i64 n (by rw [hz2]; omega) (by omega) w
theorem rowIs_kept {w w' : World} {b : Nat} {t : TypeId} {n : Nat} {f : Nat → Value} (h : w.rowIs b t n f) (hk : Kept w w') : w'.rowIs b t n f := h.of_block (hk.block b h.lt (fun e => e))

set_option maxRecDepth 100000 in
set_option maxHeartbeats 4000000 in
theorem pathLaw_c (w : World) (a : Option Addr) (l : List Int) (cap : Nat) (n : Int) (hr : Reads w a l) (hc : l.length ≤ cap) (hm : cap ≤ maxLen) :
    Calls Try.prog 6 #[.slice a l.length cap, .int .i64 n] w fun e w' => e = .returned (.bool true) ∧ Kept w w' := by
  have KK := hide (Kept.refl w)
  have HR := hide hr
  have HCT := hide (fun w => cut_c n 1500 (by omega) (by omega) w)
  have h1 := Int.emod_nonneg n (show (1500 : Int) ≠ 0 by omega)
  have h2 := Int.emod_lt_of_pos n (show (0 : Int) < 1500 by omega)
  obtain ⟨c, hcz⟩ : ∃ c, n % 1500 = c := ⟨_, rfl⟩
  rw [hcz] at h1 h2 HCT
  obtain ⟨k, hk⟩ : ∃ k, c = k + 350 := ⟨c - 350, by omega⟩
  subst hk
  have WK : Hid ((Lit.int .i64 k).wf = true) := hide (wf_of (by omega) (by omega))
  have HW : Hid (∀ z ∈ keysP l, (Lit.int .i64 z).wf = true) := hide fun z hz => keys_wf hz
  have HU := hide (keys_up l)
  have hle := keys_le l
  have HQ := hide (fun (w : World) (h : Reads w a l) => (keys_c w a l cap h hc hm).mono (fun _ _ h => sliced2_at h))
  obtain ⟨q, hq⟩ : ∃ q, keysP l = q := ⟨_, rfl⟩
  rw [hq] at HU HW HQ hle
  have PF := path_facts k HU.out
  have HFU := hide (find_up (k := k) HU.out)
  have HB := hide (fun (j : Nat) (z : Int) (h : q[j]? = some z) => cnt_below (k := k) (up_parts HU.out).2 h)
  have hFL := cnt_le q k
  obtain ⟨F, hF⟩ : ∃ F, cnt q k = F := ⟨_, rfl⟩
  obtain ⟨p, hp⟩ : ∃ p, pathP q k = p := ⟨_, rfl⟩
  rw [hF] at PF HFU HB hFL
  rw [hp] at PF
  obtain ⟨L, hL⟩ : ∃ L, q.length = L := ⟨_, rfl⟩
  rw [hL] at hle hFL PF
  obtain ⟨PN, PR, PA, PB⟩ := PF
  have HPN := hide PN
  have HPR := hide PR
  have HPA := hide PA
  have HPB := hide PB
  have HPP := hide hp
  have HL := hide hL
  have HQ' : Hid (∀ W, Reads W a l → Calls Try.prog 21 #[.slice a l.length cap] W (fun e w' => ∃ a' c', e = .returned (.slice a' L c') ∧ Reads w' a' q ∧ L ≤ c' ∧ c' ≤ maxLen ∧ Kept W w')) := hide fun W h => by have := HQ.out W h; rwa [HL.out] at this
  have PK : Hid (∀ (W : World) (a : Option Addr) (c : Nat), Reads W a q → L ≤ c → c ≤ maxLen → Calls Try.prog 13 #[.slice a L c, .int .i64 k] W (fun e w' => ∃ a' c', e = .returned (.slice a' p.length c') ∧ Reads w' a' p ∧ p.length ≤ c' ∧ c' ≤ maxLen ∧ Kept W w')) := hide fun W a c h1 h2 h3 => by have := path_k W a q c k p h1 (by rw [HL.out]; exact h2) h3 HW.out WK.out HPP.out; rwa [HL.out] at this
  have FK : Hid (∀ (W : World) (a : Option Addr) (c : Nat), Reads W a q → L ≤ c → c ≤ maxLen → Calls Try.prog 12 #[.slice a L c, .int .i64 k] W (fun e w' => e = .returned (.int .i64 (F : Int)) ∧ Kept W w')) := hide fun W a c h1 h2 h3 => by have := find_k W a q c k F h1 (by rw [HL.out]; exact h2) h3 HFU.out; rwa [HL.out] at this
  have hle' : (L : Int) ≤ 60 := by omega
  have mk := fun W => make_bools (L + 2) (by omega) W
  have mk' : ∀ W : World, (Instr.makeSlice 35 (.int .i64 ((L : Int) + 2)) (.int .i64 ((L : Int) + 2))).run Try.prog W = .ok (.slice (some ⟨W.heap.size, 0, none⟩) (L + 2) (L + 2)) (W.alloc (.cells (madeCells #[.bool false] (L + 2)) 4)) := mk
  clear hr hm hc hcz hq hF hp hL PN PR PA PB HQ HFU mk
  go_enter Try.func6, Try.ntmps6
  go_wp2_with (fail)
  refine (HQ'.out _ HR.out).mono ?_
  rintro e V1 ⟨aq, cq, rfl, hrq, hcq, hmq, hk⟩
  have KK1 := hide (KK.out.trans (hk))
  have HR' := hide (HR.out.kept (hk))
  clear KK hk HR
  have KK := KK1
  clear KK1
  have HR := HR'
  clear HR'
  have Rq := hide hrq
  have Cq := hide hcq
  have Mq := hide hmq
  clear hrq hcq hmq
  go_wp2_with (fail)
  refine (HCT.out _).mono ?_
  rintro e w' ⟨rfl, rfl⟩
  go_wp2_with (fail)
  refine (PK.out _ _ cq Rq.out Cq.out Mq.out).mono ?_
  rintro e V2 ⟨ap, cp, rfl, hrp, hcp, hmp, hk⟩
  have KK2 := hide (KK.out.trans (hk))
  have HR' := hide (HR.out.kept (hk))
  have Rq' := hide (Rq.out.kept (hk))
  clear KK hk HR Rq
  have KK := KK2
  clear KK2
  have HR := HR'
  clear HR'
  have Rq := Rq'
  clear Rq'
  have Rp := hide hrp
  have Cp := hide hcp
  have Mp := hide hmp
  clear hrp hcp hmp
  go_wp2_with (fail)
  refine (FK.out _ _ cq Rq.out Cq.out Mq.out).mono ?_
  rintro e V3 ⟨rfl, hk⟩
  have KK3 := hide (KK.out.trans (hk))
  have HR' := hide (HR.out.kept (hk))
  have Rq' := hide (Rq.out.kept (hk))
  have Rp' := hide (Rp.out.kept (hk))
  clear KK hk HR Rq Rp
  have KK := KK3
  clear KK3
  have HR := HR'
  clear HR'
  have Rq := Rq'
  clear Rq'
  have Rp := Rp'
  clear Rp'
  have OQ := hide Rq.out.old
  have OP := hide Rp.out.old
  have hcq : L ≤ cq := Cq.out
  have hcp : p.length ≤ cp := Cp.out
  have hmp : (p.length : Int) ≤ 9223372036854775807 := by have := Mp.out; unfold maxLen at this; omega
  obtain ⟨B, hB⟩ : ∃ B, V3.heap.size = B := ⟨_, rfl⟩
  have KW := KK
  clear HR Rq Rp KK Cq Cp Mq Mp HQ' PK FK HCT
  have M0 := World.rowIs_made V3 (.bool false) (L + 2) 4
  have T0 : From B V3 (V3.alloc (.cells (madeCells #[.bool false] (L + 2)) 4)) := Turned.alloc _ _ _
  rw [hB] at M0 OQ OP
  have HM0 := hide M0
  have HT0 := hide T0
  clear M0 T0
  go_wp2
  clear mk'
  go_loopw [29] (fun vi wr => ∃ t : Nat, t ≤ p.length ∧ vi = .int .i64 t ∧ Hid (wr.rowIs B 4 (L + 2) (metF p t)) ∧ Hid (From B V3 wr)) (fun vi _ => p.length - (intOf vi).toNat)
  case atStart => exact ⟨0, Nat.zero_le _, rfl, hide (by rw [← metF_none]; exact HM0.out), HT0⟩
  case round =>
    obtain ⟨t, ht, rfl, HM, HT⟩ := hrel
    clear HM0 HT0
    by_cases hlt : t < p.length
    · obtain ⟨x, hx⟩ : ∃ x, p[t]? = some x := ⟨_, List.getElem?_eq_getElem hlt⟩
      have hxr := HPR.out x (List.mem_of_getElem? hx)
      obtain ⟨v, rfl⟩ : ∃ v : Nat, x = (v : Int) := ⟨x.toNat, by omega⟩
      obtain ⟨pb, poff, rfl, _, g1⟩ := (OP.out wr HT.out).at hx
      have hv : v < L + 2 := by omega
      have gm : wr.cell? ⟨B, v, none⟩ = some (.bool false) := by
        rw [HM.out.cell hv]
        unfold metF
        rw [decide_eq_false (not_met HPN.out hx)]
      have gz := HM.out.frozen v
      have i1 : (t : Int) < (p.length : Int) := by omega
      have i2 : ¬ ((v : Int) < 1) := by omega
      have i3 : ¬ ((L : Int) < (v : Int)) := by omega
      have i4 : t < cp := by omega
      have M1 : Hid ((wr.setCell ⟨B, v, none⟩ (.bool true)).rowIs B 4 (L + 2) (metF p (t + 1))) := hide ((HM.out.set v (.bool true)).congr (fun j _ => metF_step hx j))
      have T1 : Hid (From B V3 (wr.setCell ⟨B, v, none⟩ (.bool true))) := hide (HT.out.trans (Turned.setCell _ _ _ (Nat.le_refl _)))
      clear hx hxr HM HT
      go_wp2
      exact ⟨⟨t + 1, by omega, by simp, M1, T1⟩, by simp [intOf]; omega⟩
    · obtain rfl : t = p.length := by omega
      have i1 : ¬ ((p.length : Int) < (p.length : Int)) := by omega
      have RQ := hide (OQ.out wr HT.out)
      have K1 := hide (KW.out.own (O := fun k => B ≤ k) (fun i hi => by have := KW.out.size; omega) HT.out)
      have kF : (F : Int) ≤ (L : Int) := by omega
      have nF : ¬ ((F : Int) < 0) := by omega
      have nG : ¬ ((L : Int) < (F : Int)) := by omega
      clear ht hlt OQ OP KW HT HPN HPR
      by_cases hF0 : F = 0
      · by_cases hFL : F = L
        · have e0 : ((F : Int) == 0) = true := by simp only [beq_iff_eq]; omega
          have e1 : ((F : Int) == (L : Int)) = true := by simp only [beq_iff_eq]; omega
          have c0 : ¬ ((0 : Int) < (F : Int)) := by omega
          have c1 : ¬ ((F : Int) < (L : Int)) := by omega
          clear hF0 hFL
          go_wp2_with (fail)
          refine (known_c _).mono ?_
          rintro e V ⟨rfl, hk⟩
          have K2 := hide (K1.out.trans hk)
          clear hk
          go_wp2
          go_ret
          exact ⟨rfl, K2.out⟩
        · have e0 : ((F : Int) == 0) = true := by simp only [beq_iff_eq]; omega
          have e1 : ((F : Int) == (L : Int)) = false := by simp only [beq_eq_false_iff_ne, ne_eq]; omega
          have c0 : ¬ ((0 : Int) < (F : Int)) := by omega
          have c1 : (F : Int) < (L : Int) := by omega
          have c2 : F < L := by omega
          obtain ⟨z, hz⟩ : ∃ z, q[F]? = some z := ⟨_, List.getElem?_eq_getElem (by have := HL.out; omega)⟩
          have hzk : ¬ (z ≤ k) := fun h => by have := (HB.out F z hz).2 h; omega
          have c3 : F < cq := by omega
          obtain ⟨qb, qoff, rfl, _, g2⟩ := RQ.out.at hz
          have g3 : Hid (wr.rowIs B 4 (L + 2) (metF p p.length)) := HM
          have m1 : metF p p.length (F + 1) = .bool true := metF_all (HPB.out.elim (fun h => by omega) (fun h => by simpa using h))
          clear hF0 hFL hz
          go_wp2_with (fail)
          refine (known_c _).mono ?_
          rintro e V ⟨rfl, hk⟩
          have K2 := hide (K1.out.trans hk)
          have g4 := (rowIs_kept g3.out hk).cell (show F + 1 < L + 2 by omega)
          rw [m1] at g4
          have c4 : F + 1 < L + 2 := by omega
          clear hk m1
          go_wp2
          go_ret
          exact ⟨rfl, K2.out⟩
      · obtain ⟨g, rfl⟩ : ∃ g, F = g + 1 := ⟨F - 1, by omega⟩
        have eg : ((g + 1 : Nat) : Int) = (g : Int) + 1 := rfl
        rw [eg] at kF nF nG ⊢
        obtain ⟨y, hy⟩ : ∃ z, q[g]? = some z := ⟨_, List.getElem?_eq_getElem (by have := HL.out; omega)⟩
        have hyk : ¬ (k < y) := by have := (HB.out g y hy).1 (by omega); omega
        have d3 : g < cq := by omega
        have d4 : g < L := by omega
        obtain ⟨qb, qoff, rfl, _, g1⟩ := RQ.out.at hy
        have m0 : metF p p.length (g + 1) = .bool true := metF_all (HPA.out.elim (fun h => by omega) (fun h => h))
        have e0 : ((g : Int) + 1 == 0) = false := by simp only [beq_eq_false_iff_ne, ne_eq]; omega
        have c0 : (0 : Int) < (g : Int) + 1 := by omega
        have c5 : g + 1 < L + 2 := by omega
        by_cases hFL : g + 1 = L
        · have e1 : ((g : Int) + 1 == (L : Int)) = true := by simp only [beq_iff_eq]; omega
          have c1 : ¬ ((g : Int) + 1 < (L : Int)) := by omega
          clear hF0 hFL hy eg
          go_wp2_with (fail)
          refine (known_c _).mono ?_
          rintro e V ⟨rfl, hk⟩
          have K2 := hide (K1.out.trans hk)
          have g4 := (rowIs_kept HM.out hk).cell c5
          rw [m0] at g4
          clear hk m0
          go_wp2
          go_ret
          exact ⟨rfl, K2.out⟩
        · have e1 : ((g : Int) + 1 == (L : Int)) = false := by simp only [beq_eq_false_iff_ne, ne_eq]; omega
          have c1 : (g : Int) + 1 < (L : Int) := by omega
          have c2 : g + 1 < L := by omega
          obtain ⟨z, hz⟩ : ∃ z, q[g + 1]? = some z := ⟨_, List.getElem?_eq_getElem (by have := HL.out; omega)⟩
          have hzk : ¬ (z ≤ k) := fun h => by have := (HB.out (g + 1) z hz).2 h; omega
          have c3 : g + 1 < cq := by omega
          obtain ⟨_, _, e, _, g2⟩ := RQ.out.at hz
          cases e
          have m1 : metF p p.length (g + 2) = .bool true := metF_all (HPB.out.elim (fun h => by omega) (fun h => by rw [show ((g + 2 : Nat) : Int) = ((g + 1 : Nat) : Int) + 1 by omega]; exact h))
          have c6 : g + 2 < L + 2 := by omega
          clear hF0 hFL hz hy eg
          go_wp2_with (fail)
          refine (known_c _).mono ?_
          rintro e V ⟨rfl, hk⟩
          have K2 := hide (K1.out.trans hk)
          have g4 := (rowIs_kept HM.out hk).cell c5
          have g5 := (rowIs_kept HM.out hk).cell c6
          rw [m0] at g4
          rw [m1] at g5
          clear hk m0 m1
          go_wp2
          go_ret
          exact ⟨rfl, K2.out⟩
end Go.Proofs.Ytmfpfoikfpcnkaa
