/-
  What MemFresh answers: true; nothing that lay is turned.
-/
import Derived.Test.YtfgflfjlepgfpaaApart
import Derived.Deep.OwnRows
namespace Go.Proofs.Ytfgflfjlepgfpaa
open Go.RowKit

/-- A row that is filled up to k with c, c + 1 .. -/
def fillF (c : Int) (k : Nat) : Nat → Value := fun i => if i < k then .int .i64 (c + i) else .int .i64 0
def fillL (c : Int) (n : Nat) : List Int := (List.range n).map fun k : Nat => c + (k : Int)
theorem fillL_length (c : Int) (n : Nat) : (fillL c n).length = n := by simp [fillL]
theorem fillL_at {c : Int} {n k : Nat} (h : k < n) : (fillL c n)[k]? = some (c + k) := by simp [fillL, h]
theorem fillF_step {c : Int} {k : Nat} (j : Nat) : (if j = k then Value.int .i64 (c + k) else fillF c k j) = fillF c (k + 1) j := by
  unfold fillF
  by_cases h : j = k
  · subst h
    simp
  · rw [if_neg h]
    by_cases h2 : j < k
    · rw [if_pos h2, if_pos (by omega)]
    · rw [if_neg h2, if_neg (by omega)]
theorem rowIs_kept {w w' : World} {b : Nat} {t : TypeId} {n : Nat} {f : Nat → Value} (h : w.rowIs b t n f) (hk : Kept w w') : w'.rowIs b t n f := h.of_block (hk.block b h.lt (fun e => e))
theorem rowIs_reads {w : World} {b n : Nat} {c : Int} (h : w.rowIs b 2 n (fillF c n)) : Reads w (some ⟨b, 0, none⟩) (fillL c n) := by
  refine .inr ⟨b, 0, rfl, fun j z hz => ?_⟩
  have hj : j < n := by have := (List.getElem?_eq_some_iff.1 hz).1; rwa [fillL_length] at this
  rw [fillL_at hj] at hz
  cases hz
  rw [Nat.zero_add, h.cell hj]
  simp [fillF, hj]

theorem run_make2 (n : Nat) (h : n ≤ 100) (w : World) : (Instr.makeSlice 28 (.int .i64 (n : Int)) (.int .i64 (n : Int))).run Try.prog w = .ok (.slice (some ⟨w.heap.size, 0, none⟩) n n) (w.alloc (.cells (madeCells #[.int .i64 0] n) 2)) :=
  run_make_row' 28 2 (.int .i64 0) 8 Try.underlying28 info2_p rfl .i64 .i64 n (by omega) (by omega) w

/-- A memory with so many used cells, without an odd access. -/
def Good (w W : World) (b : Nat) (n : Int) (xs : List Int) : Prop := ∃ c r, Now w W b ⟨xs, n, c, 0, r⟩
theorem Good.on {w W W' : World} {b : Nat} {n : Int} {xs : List Int} (h : Good w W b n xs) (k : Kept W W') : Good w W' b n xs := by
  obtain ⟨c, r, h⟩ := h
  exact ⟨c, r, h.on k⟩
theorem Good.lt {w W : World} {b : Nat} {n : Int} {xs : List Int} (h : Good w W b n xs) : w.heap.size ≤ b ∧ b < W.heap.size := by
  obtain ⟨c, r, h⟩ := h
  exact h.lt
/-- .. beside a row of numbers that is none of its blocks. -/
def GoodR (w W : World) (b : Nat) (n : Int) (xs : List Int) (B N : Nat) (f : Nat → Value) : Prop :=
  ∃ v c r, PMem W w.heap.size b v ⟨xs, n, c, 0, r⟩ ∧ Kept w W ∧ ¬ Foot b v B ∧ w.heap.size ≤ B ∧ W.rowIs B 2 N f
namespace GoodR
variable {w W W' : World} {b : Nat} {n : Int} {xs : List Int} {B N : Nat} {f : Nat → Value}
theorem good (h : GoodR w W b n xs B N f) : Good w W b n xs := by
  obtain ⟨v, c, r, h1, h2, _⟩ := h
  exact ⟨c, r, ⟨v, h1⟩, h2⟩
theorem row (h : GoodR w W b n xs B N f) : W.rowIs B 2 N f := by
  obtain ⟨v, c, r, _, _, _, _, h⟩ := h
  exact h
theorem new {c : Int} (h : Good w W b n xs) : GoodR w (W.alloc (.cells (madeCells #[.int .i64 0] N) 2)) b n xs W.heap.size N (fillF c 0) := by
  obtain ⟨c', r, ⟨v, h⟩, hk⟩ := h
  have k1 : Kept W (W.alloc (.cells (madeCells #[.int .i64 0] N) 2)) := Turned.alloc _ _ _
  refine ⟨v, c', r, h.kept k1, hk.trans k1, fun e => Nat.lt_irrefl _ (h.lt _ e).2, hk.size, ?_⟩
  exact (World.rowIs_made W (.int .i64 0) N 2).congr (fun j _ => by simp [fillF])
theorem set (h : GoodR w W b n xs B N f) (k : Nat) (x : Int) : GoodR w (W.setCell ⟨B, k, none⟩ (.int .i64 x)) b n xs B N (fun j => if j = k then .int .i64 x else f j) := by
  obtain ⟨v, c', r, h, hk, hn, hB, hrow⟩ := h
  have t : Turned (fun i => i = B) W (W.setCell ⟨B, k, none⟩ (.int .i64 x)) := Turned.setCell _ _ _ rfl
  exact ⟨v, c', r, h.turned t (fun i e e' => hn (by rw [← e']; exact e)), hk.did hB t, hn, hB, hrow.set k (.int .i64 x)⟩
theorem on (h : GoodR w W b n xs B N f) (k : Kept W W') : GoodR w W' b n xs B N f := by
  obtain ⟨v, c', r, h, hk, hn, hB, hrow⟩ := h
  exact ⟨v, c', r, h.kept k, hk.trans k, hn, hB, rowIs_kept hrow k⟩
theorem congr {g : Nat → Value} (h : GoodR w W b n xs B N f) (e : ∀ j, f j = g j) : GoodR w W b n xs B N g := by
  obtain rfl : f = g := funext e
  exact h
end GoodR

theorem fresh_make (w W : World) (b : Nat) (n : Int) (xs : List Int) (B : Nat) (c : Int) (N : Nat) (f : Bool) (r : Int) (ys : List Int) (h : GoodR w W b n xs B N (fillF c N)) (hN : N ≤ 100) (hf : (0 < N ∧ (xs.length : Int) + N ≤ n) ↔ f = true) (e1 : r = if f = true then (xs.length : Int) + 1 else 0) (e2 : ys = if f = true then xs ++ fillL c N else xs) :
    Calls Try.prog 10 #[.pointer (some ⟨b, 0, none⟩), .slice (some ⟨B, 0, none⟩) N N] W fun e W' => e = .returned (.tuple #[.int .i64 r, .bool f]) ∧ GoodR w W' b n ys B N (fillF c N) := by
  obtain ⟨v, c', r', h, hk, hn, hB, hrow⟩ := h
  have hbB : B ≠ b := fun e => hn (.inl e)
  have key : ∀ M : Nat, (fillL c N).length = M → Calls Try.prog 10 #[.pointer (some ⟨b, 0, none⟩), .slice (some ⟨B, 0, none⟩) M N] W fun e W' => e = .returned (.tuple #[.int .i64 r, .bool f]) ∧ GoodR w W' b n ys B N (fillF c N) := by
    intro M hM
    have hfit : (Mst.mk xs n c' 0 r').fits (fillL c N).length = f := by
      rw [fillL_length]
      cases f with
      | true =>
        obtain ⟨h1, h2⟩ := hf.2 rfl
        simp [Mst.fits, h1, h2]
      | false =>
        have : ¬ (0 < N ∧ (xs.length : Int) + N ≤ n) := fun e => by simpa using hf.1 e
        cases hh : (Mst.mk xs n c' 0 r').fits N with
        | false => rfl
        | true => exact (this (by simpa [Mst.fits] using hh)).elim
    have hmk := make_p W w.heap.size b v _ (some ⟨B, 0, none⟩) (fillL c N) N h hk.size (rowIs_reads hrow) (by rw [fillL_length]; unfold maxLen; omega) (fun _ ad e => by cases e; exact hbB)
    subst hM
    refine hmk.mono fun e W' hh => ?_
    obtain ⟨he, v', h', t, hft⟩ := hh
    refine ⟨by rw [he, Mst.next, hfit, e1], ?_⟩
    have hlt : B < W.heap.size := hrow.lt
    have hn' : ¬ Foot b v' B := fun e => by
      rcases hft B e with e | e
      · exact hn e
      · omega
    have hk' := hk.own (fun i e => (h.lt i e).1) t
    have hrow' : W'.rowIs B 2 N (fillF c N) := hrow.of_block (t.block B hlt hn)
    have e3 : ∃ c'' r'', (Mst.mk xs n c' 0 r').make (fillL c N) = ⟨ys, n, c'', 0, r''⟩ := by
      rw [Mst.make, hfit, e2]
      cases f <;> exact ⟨_, _, rfl⟩
    obtain ⟨c'', r'', e3⟩ := e3
    rw [e3] at h'
    exact ⟨v', c'', r'', h', hk', hn', hB, hrow'⟩
  exact key N (fillL_length c N)

theorem fresh_read (w W : World) (b : Nat) (n : Int) (xs : List Int) (B N : Nat) (f : Nat → Value) (j : Nat) (z a : Int) (h : GoodR w W b n xs B N f) (hz : xs[j]? = some z) (ha : a = (j : Int) + 1) :
    Calls Try.prog 26 #[.pointer (some ⟨b, 0, none⟩), .int .i64 a] W fun e W' => e = .returned (.int .i64 z) ∧ GoodR w W' b n xs B N f := by
  subst ha
  obtain ⟨v, c', r', h, hk, hn, hB, hrow⟩ := h
  have hj := (List.getElem?_eq_some_iff.1 hz).1
  refine (read_p W w.heap.size b v _ ((j : Int) + 1) h).mono fun e W' hh => ?_
  obtain ⟨he, h', t⟩ := hh
  rw [Mst.look_succ (s := Mst.mk xs n c' 0 r') hz] at he
  rw [Mst.touch_in (Mst.used_succ (s := Mst.mk xs n c' 0 r') hj)] at h'
  exact ⟨he, v, _, _, h', Turned.trans hk t (fun _ e => e) (fun i hi e => by have := (h.lt b (.inl rfl)).1; omega), hn, hB, hrow.of_block (t.block B hrow.lt (fun e => hn (.inl e)))⟩

set_option maxRecDepth 100000 in
set_option maxHeartbeats 4000000 in
theorem memFresh_c (w : World) (sz : Int) (a0 : Option Addr) (zs : List Int) (cap : Nat) (hr : Reads w a0 zs) (hc : zs.length ≤ cap) (hm : cap ≤ maxLen) :
    Calls Try.prog 5 #[.int .i64 sz, .slice a0 zs.length cap] w fun e w' => e = .returned (.bool true) ∧ Kept w w' := by
  have hlm : (zs.length : Int) ≤ 9223372036854775807 := by unfold maxLen at hm; omega
  obtain ⟨m, hm0, -, HJ⟩ := cut_k sz 300 (by omega) (by omega)
  have HR := hide hr
  clear hr hm
  go_enter Try.func5, Try.ntmps5
  go_wp2_with (fail)
  refine (HJ _).mono ?_
  rintro e w' ⟨rfl, rfl⟩
  go_wp2_with (fail)
  refine (now_new w w (1 + (m : Int)) (Kept.refl w) (by omega) (by omega)).mono ?_
  rintro e W1 ⟨rfl, h1, -⟩
  have G1 : Hid (Good w W1 w.heap.size (1 + (m : Int)) []) := hide ⟨0, 0, h1⟩
  clear h1 HJ
  go_wp2
  go_loopw [8, 9] (fun nx i wr => ∃ (t L : Nat), t ≤ zs.length ∧ t ≤ 100 ∧ (L : Int) ≤ 1 + (m : Int) ∧ nx = .int .i64 ((L : Int) + 1) ∧ i = .int .i64 (t : Int) ∧ ∃ xs, Hid (xs.length = L) ∧ Hid (Good w wr w.heap.size (1 + (m : Int)) xs)) (fun _ i _ => 100 - (intOf i).toNat)
  case atStart => exact ⟨0, 0, Nat.zero_le _, Nat.zero_le _, by omega, rfl, rfl, [], hide rfl, G1⟩
  case round =>
    obtain ⟨t, L, ht, ht1, hL, rfl, rfl, xs, HL, HG⟩ := hrel
    clear G1
    by_cases hlt : t < zs.length ∧ t < 100
    · obtain ⟨hlt, hlt1⟩ := hlt
      obtain ⟨z, hz⟩ : ∃ z, zs[t]? = some z := ⟨_, List.getElem?_eq_getElem hlt⟩
      obtain ⟨bl, off, rfl, hbl, hcell⟩ := HR.out.at hz
      obtain ⟨N, hN, -, HJ⟩ := cut_k z 9 (by omega) (by omega)
      obtain ⟨c0, r0, hnow⟩ := HG.out
      have hcell1 := hnow.2.cell hcell id
      have i1 : (t : Int) < (zs.length : Int) := by omega
      have i2 : (t : Int) < 100 := by omega
      have i3 : t < cap := by omega
      have hmk := run_make2 N (by omega)
      have HGR := hide (GoodR.new (N := N) (c := (t : Int) * 10) HG.out)
      rename World => W2
      clear hz hcell hnow HG
      go_wp2_with (fail)
      refine (HJ _).mono ?_
      rintro e w' ⟨rfl, rfl⟩
      go_wp2
      go_loopw [11] (fun i wr => ∃ k : Nat, k ≤ N ∧ i = .int .i64 (k : Int) ∧ Hid (GoodR w wr w.heap.size (1 + (m : Int)) xs W2.heap.size N (fillF ((t : Int) * 10) k))) (fun i _ => N - (intOf i).toNat)
      case atStart => exact ⟨0, Nat.zero_le _, rfl, HGR⟩
      case round =>
        obtain ⟨k, hk, rfl, HB⟩ := hrel
        clear HGR
        by_cases hkn : k < N
        · have c1 := HB.out.row.cell hkn
          have f1 := HB.out.row.frozen (i := k)
          have HN : Hid (GoodR w (wr.setCell ⟨W2.heap.size, k, none⟩ (.int .i64 ((t : Int) * 10 + k))) w.heap.size (1 + (m : Int)) xs W2.heap.size N (fillF ((t : Int) * 10) (k + 1))) := hide ((HB.out.set k ((t : Int) * 10 + k)).congr (fun j => fillF_step j))
          have j1 : (k : Int) < (N : Int) := by omega
          clear HB
          go_wp2
          exact ⟨⟨k + 1, by omega, by simp, HN⟩, by simp [intOf]; omega⟩
        · have j1 : ¬ ((k : Int) < (N : Int)) := by omega
          obtain rfl : k = N := by omega
          rename World => W3
          by_cases hfit : 0 < k ∧ (L : Int) + k ≤ 1 + (m : Int)
          · have HM := hide (fresh_make w W3 w.heap.size (1 + (m : Int)) xs W2.heap.size ((t : Int) * 10) k true ((L : Int) + 1) (xs ++ fillL ((t : Int) * 10) k) HB.out (by omega) (by rw [HL.out]; exact ⟨fun _ => rfl, fun _ => hfit⟩) (by rw [HL.out, if_pos rfl]) (by rw [if_pos rfl]))
            obtain ⟨p1, p2⟩ := hfit
            have p3 : (0 : Int) < (k : Int) := by omega
            have p4 : (L : Int) + 1 + k - 1 ≤ 1 + (m : Int) := by omega
            clear HB hmk
            go_wp2_with (fail)
            refine HM.out.mono ?_
            rintro e W4 ⟨rfl, h4⟩
            have H4 := hide h4
            clear h4 HM
            go_wp2
            go_loopw [14] (fun i wr => ∃ q : Nat, q ≤ k ∧ i = .int .i64 (q : Int) ∧ Hid (GoodR w wr w.heap.size (1 + (m : Int)) (xs ++ fillL ((t : Int) * 10) k) W2.heap.size k (fillF ((t : Int) * 10) k))) (fun i _ => k - (intOf i).toNat)
            case atStart => exact ⟨0, Nat.zero_le _, rfl, H4⟩
            case round =>
              obtain ⟨q, hq, rfl, HB⟩ := hrel
              clear H4
              by_cases hqk : q < k
              · have j2 : (q : Int) < (k : Int) := by omega
                have hz : (xs ++ fillL ((t : Int) * 10) k)[L + q]? = some ((t : Int) * 10 + q) := by
                  rw [List.getElem?_append_right (by rw [HL.out]; omega), HL.out, Nat.add_sub_cancel_left]
                  exact fillL_at hqk
                have HZ := hide hz
                have cz : ∀ y : Wd (fun W => GoodR w W w.heap.size (1 + (m : Int)) (xs ++ fillL ((t : Int) * 10) k) W2.heap.size k (fillF ((t : Int) * 10) k)), y.w.cell? ⟨W2.heap.size, q, none⟩ = some (.int .i64 ((t : Int) * 10 + q)) := fun y => by
                  rw [y.ok.row.cell hqk]
                  simp [fillF, hqk]
                have KD : Hid (GoodR w wr.drew w.heap.size (1 + (m : Int)) (xs ++ fillL ((t : Int) * 10) k) W2.heap.size k (fillF ((t : Int) * 10) k)) := hide (HB.out.on (Kept.drew _))
                clear hz
                go_wp2_with (fail)
                refine region_wide [0, 1, 2, 3, 5, 6, 7, 8, 4, 9] (fun W => GoodR w W w.heap.size (1 + (m : Int)) (xs ++ fillL ((t : Int) * 10) k) W2.heap.size k (fillF ((t : Int) * 10) k)) (by kernel_rfl) (by kernel_rfl) KD.out (fun _ => ?_)
                repeat (refine pq rfl rfl ?_; go_big_quiet_step (fail); refine wpQuiet_nil ?_)
                refine pl rfl rfl ?_
                gi_wp2_with (fail)
                refine ⟨trivial, ?_⟩
                refine (callsIn_wide.2 (fresh_read w _ w.heap.size _ _ W2.heap.size k _ (L + q) _ _ KD.out HZ.out (by omega))).mono ?_
                rintro e W5 ⟨rfl, h5⟩
                have H5 := hide h5
                clear h5 HB KD
                gi_wp2_with (fail)
                refine ⟨Wd.mem H5.out, ?_⟩
                repeat (refine pq rfl rfl ?_; go_big_quiet_step (fail); refine wpQuiet_nil ?_)
                refine perm_done ?_
                go_wp2
                exact ⟨⟨q + 1, by omega, by simp, H5⟩, by simp [intOf]; omega⟩
              · have j2 : ¬ ((q : Int) < (k : Int)) := by omega
                have HG := hide HB.out.good
                clear HB
                go_wp2
                exact ⟨⟨t + 1, L + k, by omega, by omega, by omega, by simp; omega, by simp, xs ++ fillL ((t : Int) * 10) k, hide (by rw [List.length_append, HL.out, fillL_length]), HG⟩, by simp [intOf]; omega⟩
          · have HM := hide (fresh_make w W3 w.heap.size (1 + (m : Int)) xs W2.heap.size ((t : Int) * 10) k false 0 xs HB.out (by omega) (by rw [HL.out]; exact ⟨fun e => (hfit e).elim, fun e => by cases e⟩) (by simp) (by simp))
            clear HB hmk
            by_cases hk0 : k = 0
            · subst hk0
              go_wp2_with (fail)
              refine HM.out.mono ?_
              rintro e W4 ⟨rfl, h4⟩
              have H4 := hide h4.good
              clear h4 HM
              go_wp2
              go_loopw [14] (fun i wr => i = .int .i64 0 ∧ Hid (Good w wr w.heap.size (1 + (m : Int)) xs)) (fun _ _ => 0)
              case atStart => exact ⟨rfl, H4⟩
              case round =>
                obtain ⟨rfl, HB⟩ := hrel
                clear H4
                go_wp2
                exact ⟨⟨t + 1, L, by omega, by omega, by omega, by simp, by simp, xs, HL, HB⟩, by simp [intOf]; omega⟩
            · have p3 : (0 : Int) < (k : Int) := by omega
              have p4 : ¬ ((L : Int) + 1 + k - 1 ≤ 1 + (m : Int)) := by omega
              go_wp2_with (fail)
              refine HM.out.mono ?_
              rintro e W4 ⟨rfl, h4⟩
              have H4 := hide h4.good
              clear h4 HM
              go_wp2
              go_loopw [14] (fun i wr => i = .int .i64 0 ∧ Hid (Good w wr w.heap.size (1 + (m : Int)) xs)) (fun _ _ => 0)
              case atStart => exact ⟨rfl, H4⟩
              case round =>
                obtain ⟨rfl, HB⟩ := hrel
                clear H4
                go_wp2
                exact ⟨⟨t + 1, L, by omega, by omega, by omega, by simp, by simp, xs, HL, HB⟩, by simp [intOf]; omega⟩
    · obtain ⟨c1, r1, hnow⟩ := HG.out
      have HN := hide hnow
      clear HG hnow
      by_cases h1 : t < zs.length
      · have e1 : (t : Int) < (zs.length : Int) := by omega
        have e2 : ¬ ((t : Int) < 100) := by omega
        clear hlt
        go_wp2_with (fail)
        refine (known_c _).mono ?_
        rintro e W2 ⟨rfl, hk⟩
        have H2 := hide (HN.out.on hk)
        clear hk HN
        go_wp2_with (fail)
        refine (now_used w W2 w.heap.size _ (L : Int) H2.out (by rw [← HL.out])).mono ?_
        rintro e w' ⟨rfl, rfl⟩
        go_wp2_with (fail)
        refine (now_odd w W2 w.heap.size _ 0 H2.out rfl).mono ?_
        rintro e w' ⟨rfl, rfl⟩
        go_wp2_with (fail)
        refine (now_cells w W2 w.heap.size _ H2.out).mono ?_
        rintro e W3 ⟨a3, cap3, rfl, -, -, -, -, -, hk⟩
        have KF := hide (H2.out.2.trans hk)
        rw [show (Mst.mk xs (1 + (m : Int)) c1 0 r1).xs.length = L from HL.out]
        clear hk H2
        go_wp2
        go_ret
        exact ⟨rfl, KF.out⟩
      · have e1 : ¬ ((t : Int) < (zs.length : Int)) := by omega
        clear hlt
        go_wp2_with (fail)
        refine (known_c _).mono ?_
        rintro e W2 ⟨rfl, hk⟩
        have H2 := hide (HN.out.on hk)
        clear hk HN
        go_wp2_with (fail)
        refine (now_used w W2 w.heap.size _ (L : Int) H2.out (by rw [← HL.out])).mono ?_
        rintro e w' ⟨rfl, rfl⟩
        go_wp2_with (fail)
        refine (now_odd w W2 w.heap.size _ 0 H2.out rfl).mono ?_
        rintro e w' ⟨rfl, rfl⟩
        go_wp2_with (fail)
        refine (now_cells w W2 w.heap.size _ H2.out).mono ?_
        rintro e W3 ⟨a3, cap3, rfl, -, -, -, -, -, hk⟩
        have KF := hide (H2.out.2.trans hk)
        rw [show (Mst.mk xs (1 + (m : Int)) c1 0 r1).xs.length = L from HL.out]
        clear hk H2
        go_wp2
        go_ret
        exact ⟨rfl, KF.out⟩
end Go.Proofs.Ytfgflfjlepgfpaa
