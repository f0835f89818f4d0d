/-
  What Make of the program's memory answers, and what it turns, at a memory as it lies (PMem).
-/
import Derived.Test.YtoaicedkepcalaaConP
namespace Go.Proofs.Ytoaicedkepcalaa
open Go.RowKit

theorem info2_p : (Try.prog.info? 2).map (fun i => (i.zero, i.size, i.bytes)) = some (some (.int .i64 0), 1, 8) := by kernel_rfl

/-- The store of the longer slice into the box. -/
theorem slice_p {w : World} {n₀ b : Nat} {v v' : Value} {s : Mst} {ys : List Int} (hle : n₀ ≤ b) (hb : w.heap[b]? = some (.cells (layP v s.size s.count s.odd s.ref) 50)) (hr : Row w n₀ 2 v' ys) (hne : v'.ownBlock ≠ some b) (h1 : (ys.length : Int) ≤ s.size) (h2 : s.size ≤ 65536) :
    PMem (w.setCell ⟨b, 0, none⟩ v') n₀ b v' { s with xs := ys } := by
  refine ⟨hle, by rw [box_set _ hb]; rfl, ?_, h1, h2⟩
  obtain ⟨r1, r2⟩ := hr
  refine ⟨r1, ?_⟩
  rcases r2 with r2 | ⟨g, cap, cur, rfl, hg, hh, r⟩
  · exact .inl r2
  · exact .inr ⟨g, cap, cur, rfl, hg, (Below.heap_setCell w ⟨b, 0, none⟩ _ g (fun e => hne (by rw [e]; rfl))).trans hh, r⟩

/-- What a Make leaves, behind its append. -/
theorem made_p {w w0 w1 : World} {n₀ b g cap m : Nat} {v : Value} {s : Mst} {ws : List Int} (h : PMem w0 n₀ b v s) (t : Turned (fun k => k = b) w w0) (hm : ws.length = m) (hfit : (s.xs.length : Int) + m ≤ s.size)
    (hown : w1.ownsRow n₀ 2 1 (.slice (some ⟨g, 0, none⟩) (s.xs.length + m) cap) (s.xs.length + m) (cellsOf s.xs ++ cellsOf ws)) (hg : w0.grownBy w1 v.ownBlock) (hat : v.ownBlock = some g ∨ g = w0.heap.size) :
    Does 50 layP n₀ b v { s with xs := s.xs ++ ws } w (w1.setCell ⟨b, 0, none⟩ (.slice (some ⟨g, 0, none⟩) (s.xs.length + m) cap)) := by
  obtain ⟨hb, hne, hr⟩ := h.appended (by decide) hm hown hg
  refine ⟨_, slice_p h.le hb hr (fun e => hne (by simpa [Value.ownBlock] using e)) (by rw [List.length_append, hm]; exact_mod_cast hfit) h.top, ?_, ?_⟩
  · exact (t.trans (Turned.of_grownBy (R := Foot b v) hg (fun k hk => .inr hk)) (fun _ e => .inl e) (fun _ _ e => e)).trans (Turned.setCell (R := Foot b v) w1 ⟨b, 0, none⟩ _ (.inl rfl)) (fun _ e => e) (fun _ _ e => e)
  · rintro k (rfl | hk)
    · exact .inl (.inl rfl)
    · obtain rfl : g = k := by simpa [Value.ownBlock] using hk
      rcases hat with e | e
      · exact .inl (.inr e)
      · exact .inr (by have := t.size; omega)

/-- The cells of a slice that reads as these numbers. -/
theorem news_p {w : World} {bl off : Nat} {ws : List Int} (h : ∀ j z, ws[j]? = some z → w.cell? ⟨bl, off + j, none⟩ = some (.int .i64 z)) : ∀ (j : Nat) (u : Value), (cellsOf ws)[j]? = some u → w.cell? ((⟨bl, off, none⟩ : Addr).add j) = some u := by
  intro j u hu
  have hadd : (⟨bl, off, none⟩ : Addr).add j = ⟨bl, off + j, none⟩ := by unfold Addr.add; split <;> simp_all
  rw [hadd]
  rw [cellsOf, List.getElem?_map] at hu
  cases hz : ws[j]? with
  | none => rw [hz] at hu; cases hu
  | some z =>
    rw [hz] at hu
    obtain rfl : Value.int .i64 z = u := by simpa using hu
    exact h j z hz

/-- Make -/
theorem make_p (w : World) (n₀ b : Nat) (v : Value) (s : Mst) (a : Option Addr) (ws : List Int) (cw : Nat) (h : PMem w n₀ b v s) (hn : n₀ ≤ w.heap.size) (hr : Reads w a ws) (hlw : ws.length ≤ maxLen) (hs : ws ≠ [] → ∀ ad, a = some ad → ad.block ≠ b) :
    Calls Try.prog 30 #[.pointer (some ⟨b, 0, none⟩), .slice a ws.length cw] w fun e w' => e = .returned (.tuple #[.int .i64 (s.next ws), .bool (s.fits ws.length)]) ∧ Does 50 layP n₀ b v (s.make ws) w w' := by
  obtain ⟨⟨c0, c1, c2, c3, c4⟩, f⟩ := h.opened
  have f2 := f 2
  have f4 := f 4
  have fc := f 0
  have hl := h.len
  have hroom := h.room
  have htop := h.top
  unfold maxLen at hlw
  have h1 := count_p h (wrap64 (s.count + 1))
  have H1 := hide h1
  have H2 := hide (ref_p h1 (wrap64 (s.ref + 1)))
  have T1 := hide (Turned.setCell (R := fun k => k = b) w ⟨b, 2, none⟩ (.int .i64 (wrap64 (s.count + 1))) rfl)
  obtain ⟨a0, cap, rfl, _⟩ := h.form
  rw [Mst.next, Mst.make]
  cases hf : s.fits ws.length with
  | false =>
    rw [if_neg (by simp), if_neg (by simp)]
    have HN : ¬ (0 < ws.length ∧ (s.xs.length : Int) + ws.length ≤ s.size) := fun e => by simp [Mst.fits, e.1, e.2] at hf
    have HD : Hid (∀ k, Does 50 layP n₀ b (.slice a0 s.xs.length cap) { s with count := wrap64 (s.count + 1), ref := wrap64 (s.ref + 1) } w (((w.setCell ⟨b, 2, none⟩ (.int .i64 (wrap64 (s.count + 1)))).drewN k).setCell ⟨b, 4, none⟩ (.int .i64 (wrap64 (s.ref + 1))))) := hide (fun k => Does.same (ref_p (h1.kept (Kept.drewN _ k)) (wrap64 (s.ref + 1)))
      ((T1.out.trans (Turned.drewN (fun _ => False) _ k) (fun _ e => e) (fun _ _ e => e.elim)).trans (Turned.setCell (R := fun k => k = b) _ ⟨b, 4, none⟩ _ rfl) (fun _ e => .inl e) (fun _ _ e => .inl e)))
    by_cases h0 : ws.length = 0
    · have n0 : ((ws.length : Int) == 0) = true := by simp [h0]
      clear h h1 f hr hs hf HN
      go_enter Try.func30, Try.ntmps30
      go_wp2
      go_quiet (fail)
      go_wp2
      go_ret2
      exact ⟨rfl, HD.out _⟩
    · have n0 : ((ws.length : Int) == 0) = false := by simp only [beq_eq_false_iff_ne, ne_eq]; omega
      have n1 : s.size - (s.xs.length : Int) < (ws.length : Int) := by omega
      clear h h1 f hr hs hf HN
      go_enter Try.func30, Try.ntmps30
      go_wp2
      go_quiet (fail)
      go_wp2
      go_ret2
      exact ⟨rfl, HD.out _⟩
  | true =>
    rw [if_pos rfl, if_pos rfl]
    obtain ⟨h0, h5⟩ : 0 < ws.length ∧ (s.xs.length : Int) + ws.length ≤ s.size := by simpa [Mst.fits] using hf
    have n0 : ((ws.length : Int) == 0) = false := by simp only [beq_eq_false_iff_ne, ne_eq]; omega
    have n1 : (ws.length : Int) ≤ s.size - (s.xs.length : Int) := by omega
    obtain ⟨bl, off, rfl, hrow⟩ : ∃ bl off, a = some ⟨bl, off, none⟩ ∧ ∀ j z, ws[j]? = some z → w.cell? ⟨bl, off + j, none⟩ = some (.int .i64 z) := by
      rcases hr with e | ⟨bl, off, e, hc⟩
      · rw [e] at h0
        simp at h0
      · exact ⟨bl, off, e, hc⟩
    have hbb : bl ≠ b := hs (List.length_pos_iff.1 h0) _ rfl
    have hrow1 : ∀ k, ∀ j z, ws[j]? = some z → ((w.setCell ⟨b, 2, none⟩ (.int .i64 (wrap64 (s.count + 1)))).drewN k).cell? ⟨bl, off + j, none⟩ = some (.int .i64 z) := fun k j z hz => T1.out.cell (hrow j z hz) hbb
    have HR := hide hrow1
    obtain ⟨i0, hi, hz0, hz1, hz2⟩ := info_parts info2_p
    obtain ⟨W, hW⟩ : ∃ W, w.setCell ⟨b, 2, none⟩ (.int .i64 (wrap64 (s.count + 1))) = W := ⟨_, rfl⟩
    rw [hW] at h1 T1 HR H1
    have d0 := h1.opened.1
    have g0 := h1.opened.2 0
    have d1 := d0.1
    have d2 := d0.2.1
    have HN := hide hn
    have HW := hide hW
    have zW := T1.out.size
    clear h f hr hs hf H2 hrow hrow1 d0 hn hW
    go_enter Try.func30, Try.ntmps30
    go_wp2_with (fail)
    rw [HW.out]
    go_quiet (fail)
    go_wp2_with (at_builtin; refine Stop.out ?_)
    refine ⟨?_⟩
    refine wpList_append_lies _ rfl _ _ 45 rfl n₀ 2 i0 (.int .i64 0) 1 8 Try.underlying45 hi hz0 hz1 hz2 rfl (by decide) (.slice a0 s.xs.length cap) s.xs.length (cellsOf s.xs) rfl h1.row ⟨bl, off, none⟩ ws.length cw (cellsOf ws) rfl (by simp) (news_p (HR.out _)) (ints_oneCell _ _) h0 (by unfold maxLen; omega) (by omega) (Nat.le_trans HN.out zW) W.heap.size rfl ?_
    intro g cap1 w1 hown hgrow' hat hlt
    have hgrow : W.grownBy w1 (Value.slice a0 s.xs.length cap).ownBlock := ⟨hgrow'.os, hgrow'.tape, hgrow'.output, hgrow'.size, hgrow'.block⟩
    clear hgrow'
    have HM := hide (made_p h1 T1.out rfl h5 hown hgrow hat)
    have hb1 := (h1.appended (by decide) rfl hown hgrow).1
    have e0 : w1.cell? ⟨b, 0, none⟩ = some (.slice a0 s.xs.length cap) := by simp [World.cell?, hb1, layP]
    have e1 : w1.frozen? ⟨b, 0, none⟩ = false := by simp [World.frozen?, hb1, layP]
    clear hown hgrow hat hb1 d1 d2 g0 h1
    go_wp2
    go_ret2
    exact ⟨rfl, HM.out⟩
end Go.Proofs.Ytoaicedkepcalaa
