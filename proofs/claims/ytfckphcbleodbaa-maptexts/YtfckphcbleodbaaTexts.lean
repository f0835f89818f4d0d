/-
  What 'MapTexts' of the statements of chapter 4 answers, for any slice of texts: true; nothing that lay is turned.
-/
import Derived.Test.YtfckphcbleodbaaKn
import Derived.Test.YtfckphcbleodbaaRiseS
import Derived.Test.YtfckphcbleodbaaKnown
import Derived.Test.YtfckphcbleodbaaPlainD
import Derived.OpenShut
namespace Go.Proofs.Ytfckphcbleodbaa
open Go.RowKit Go.Shelf
attribute [local go_sem] Oper.semAt_some

/-- A slice value that reads as these strings. -/
def ReadsS (w : World) (a : Option Addr) (ts : List ByteArray) : Prop :=
  ts = [] ∨ ∃ bl off, a = some ⟨bl, off, none⟩ ∧ ∀ j s, ts[j]? = some s → w.cell? ⟨bl, off + j, none⟩ = some (.string s)
theorem ReadsS.kept {w w' : World} {a : Option Addr} {ts : List ByteArray} (h : ReadsS w a ts) (ht : Kept w w') : ReadsS w' a ts := by
  rcases h with h | ⟨bl, off, rfl, h⟩
  · exact .inl h
  · exact .inr ⟨bl, off, rfl, fun j z hz => ht.cell (h j z hz) id⟩
theorem ReadsS.at {w : World} {a : Option Addr} {ts : List ByteArray} (h : ReadsS w a ts) {j : Nat} {z : ByteArray} (hz : ts[j]? = some z) : ∃ bl off, a = some ⟨bl, off, none⟩ ∧ w.cell? ⟨bl, off + j, none⟩ = some (.string z) := by
  rcases h with h | ⟨bl, off, ha, hc⟩
  · rw [h] at hz
    simp at hz
  · exact ⟨bl, off, ha, hc j z hz⟩

/-- What the frame of a proof tells of a slice of strings that came in. -/
theorem readsS_in {w : World} {a : Option Addr} {len cap : Nat} {z : List ByteArray} (h : (a = none ∧ len = 0 ∧ cap = 0 ∧ z = []) ∨
    ∃ x, a = some x ∧ len ≤ cap ∧ z.length = cap ∧ ∀ i, i < z.length → w.cell? (x.add i) = some (.string (z.getD i ByteArray.empty))) :
    ∃ ts : List ByteArray, ts.length = len ∧ ts.length ≤ cap ∧ ReadsS w a ts := by
  rcases h with ⟨rfl, rfl, rfl, rfl⟩ | ⟨x, rfl, h1, h3, h4⟩
  · exact ⟨[], rfl, Nat.zero_le _, .inl rfl⟩
  · refine ⟨z.take len, by rw [List.length_take]; omega, by rw [List.length_take]; omega, ?_⟩
    by_cases hl : len = 0
    · subst hl
      exact .inl (by simp)
    · obtain ⟨b, off, spot⟩ := x
      have hspot : spot = none := by simpa [Addr.add] using World.cell?_spot (h4 0 (by omega))
      subst hspot
      refine .inr ⟨b, off, rfl, fun j y hy => ?_⟩
      obtain ⟨hj, e⟩ := List.getElem?_eq_some_iff.1 hy
      rw [List.length_take] at hj
      have hc := h4 j (by omega)
      rw [Go.WideShapes.add_plain] at hc
      rw [hc]
      rw [List.getElem_take] at e
      rw [← e, List.getD_eq_getElem?_getD, List.getElem?_eq_getElem (by omega)]
      rfl

theorem all_ks (b : Nat) (w : World) : Calls Try.prog 31 #[.pointer (some ⟨b, 0, none⟩)] w fun e w' => e = .returned (.func (.func 46) #[] #[.pointer (some ⟨w.heap.size, 0, none⟩)]) ∧ Kept w w' ∧ Boxed w' w.heap.size 57 (.pointer (some ⟨b, 0, none⟩)) ∧ w'.heap.size = w.heap.size + 1 := by
  refine (all_s b w).mono ?_
  rintro e w' ⟨rfl, rfl⟩
  exact ⟨rfl, Turned.alloc _ _ _, Boxed.new _ _ _, by simp⟩
theorem Mp_s.reads {w : World} {b : Nat} {xs : List (ByteArray × Bool)} (h : Mp_s w b xs) {B : Nat} (hB : B < w.heap.size) {k : Nat} (hk : Reads_s w B b k) : k < w.heap.size := by
  rcases hk with rfl | rfl | ⟨cs, hc⟩
  · exact hB
  · exact h.lt
  · exact (Array.getElem?_eq_some_iff.1 hc).1

/-- A map of the first k of these texts. -/
def TextsAt (w wr : World) (b : Nat) (ts : List ByteArray) (k : Nat) : Prop :=
  ∃ xs, Mp_s wr b xs ∧ Kept w wr ∧ (∀ j s, j < k → ts[j]? = some s → (get ltS xs s).isSome = true) ∧ xs.length ≤ k ∧ (0 < k → 0 < xs.length)

/-- The greatest key that has come, or the empty text. -/
def lastKey (pre : List (ByteArray × Bool)) : ByteArray := (pre.getLast?.map Prod.fst).getD ⟨#[]⟩

theorem last_less {xs pre rest : List (ByteArray × Bool)} {x : ByteArray × Bool} (h : Asc ltS xs) (hx : xs = pre ++ x :: rest) (hp : 0 < pre.length) : (Op.bytesLess x.1.toList (lastKey pre).toList || x.1.toList == (lastKey pre).toList) = false := by
  subst hx
  have hlt := (asc_cut h).2.2.1
  obtain ⟨y, hy⟩ : ∃ y, pre.getLast? = some y := by
    cases he : pre.getLast? with
    | none =>
      rw [List.getLast?_eq_none_iff] at he
      subst he
      simp at hp
    | some y => exact ⟨y, rfl⟩
  have h1 : ltS y.1 x.1 = true := hlt y (List.mem_of_getLast? hy)
  have e : lastKey pre = y.1 := by simp [lastKey, hy]
  rw [e]
  have h2 : Op.bytesLess x.1.toList y.1.toList = false := linS.asym h1
  have h3 : x.1.toList ≠ y.1.toList := by
    intro e'
    rw [toList_inj e', linS.irr] at h1
    cases h1
  simp [h2, h3]

set_option maxRecDepth 100000 in
set_option maxHeartbeats 4000000 in
theorem mapTexts_c (w : World) (a : Option Addr) (ts : List ByteArray) (cap : Nat) (hr : ReadsS w a ts) (hc : ts.length ≤ cap) :
    Calls Try.prog 8 #[.slice a ts.length cap] w fun e w' => e = .returned (.bool true) ∧ Kept w w' := by
  have HR := Lib.hid hr
  clear hr
  refine calls_marks Try.func8 rfl ?_
  simp only [Try.ntmps8, List.size_toArray, List.length_cons, List.length_nil, Nat.reduceAdd, Nat.reduceSub, Array.replicate_succ, Array.replicate_zero, List.push_toArray, List.append_toArray, List.nil_append, List.cons_append]
  go_wp2_with (fail)
  refine (known_c _).mono ?_
  rintro e w1 ⟨rfl, hk⟩
  have K1 : Hid (Kept w (w1.alloc (.cells #[.pointer none, .int .i64 0] 60))) := Lib.hid (((show Kept w _ from Turned.alloc _ _ _).trans hk).trans (Turned.alloc _ _ _))
  have bR : Hid (Boxed w1 w.heap.size 4 (.bool false)) := Lib.hid (hk.boxed (Boxed.new w 4 (.bool false)) id)
  have z1 : w.heap.size + 1 ≤ w1.heap.size := by have := hk.size; simpa using this
  have KK1 : Hid (Kept w w1) := Lib.hid ((show Kept w _ from Turned.alloc _ _ _).trans hk)
  clear hk
  have T0 : Hid (TextsAt w1 (w1.alloc (.cells #[.pointer none, .int .i64 0] 60)) w1.heap.size ts 0) := Lib.hid ⟨[], Mp_s.new w1, Turned.alloc _ _ _, by simp, by simp, by simp⟩
  go_wp2_with (fail)
  go_loopw [4] (fun i wr => ∃ k : Nat, k ≤ ts.length ∧ k ≤ 100 ∧ i = .int .i64 k ∧ Hid (TextsAt w1 wr w1.heap.size ts k)) (fun i _ => 100 - (intOf i).toNat)
  case atStart => exact ⟨0, Nat.zero_le _, by omega, rfl, T0⟩
  case round =>
    obtain ⟨k, hk1, hk2, rfl, hT⟩ := hrel
    clear T0
    obtain ⟨xs, hM, hK, hG, hL, hP⟩ := hT.out
    have M := Lib.hid hM
    have K := Lib.hid hK
    have G := Lib.hid hG
    have P := Lib.hid hP
    clear hM hK hG hP hT
    by_cases hlt : k < ts.length ∧ k < 100
    · obtain ⟨hlt1, hlt2⟩ := hlt
      obtain ⟨z, hz⟩ : ∃ z, ts[k]? = some z := ⟨_, List.getElem?_eq_getElem hlt1⟩
      obtain ⟨bl, off, rfl, hrow⟩ := ((HR.out.kept KK1.out).kept K.out).at hz
      have HZ := Lib.hid hz
      have HLC : k < cap := by omega
      clear hz
      go_wp2_with (fail)
      refine (put_s _ _ _ M.out z _ (by omega)).mono ?_
      rintro e w2 ⟨rfl, m, t⟩
      have T1 : Hid (TextsAt w1 w2 w1.heap.size ts (k + 1)) := Lib.hid ⟨_, m, K.out.did (Nat.le_refl _) t, fun j s hj hs => by
        by_cases e : j = k
        · subst e
          rw [HZ.out] at hs
          cases hs
          rw [get_put_same linS]
          rfl
        · exact isSome_put linS M.out.asc (G.out j s (by omega) hs), by have := length_put_le (lt := ltS) (xs := xs) (k := z) (v := decide ((k : Int) % 2 = 0)); exact Nat.le_trans length_put_le (by omega), fun _ => List.length_pos_iff.2 put_ne⟩
      clear m t
      go_wp2
      exact ⟨⟨k + 1, by omega, by omega, by simp, T1⟩, by simp [intOf]; omega⟩
    · have hk : k = min ts.length 100 := by omega
      have RW := Lib.hid HR.out
      by_cases h1 : k < ts.length
      · have h2 : (100 : Int) ≤ (k : Int) := by omega
        clear hlt
        have z2 : w1.heap.size + 1 ≤ wr.heap.size := M.out.lt
        have KR := Lib.hid (KK1.out.trans K.out)
        have bRr := Lib.hid (K.out.boxed bR.out id)
        have RR := Lib.hid (HR.out.kept KR.out)
        clear HR KK1 bR
        go_wp2_with (fail)
        refine (all_ks _ _).mono ?_
        rintro e W6 ⟨rfl, hk, bA, zA⟩
        simp at zA
        have ka : Kept wr W6 := ((show Kept wr (wr.alloc (.cells #[.string ⟨#[]⟩] 9)) from Turned.alloc _ _ _).trans (show Kept _ ((wr.alloc (.cells #[.string ⟨#[]⟩] 9)).alloc (.cells #[.int .i64 0] 3)) from Turned.alloc _ _ _)).trans hk
        have M6 := Lib.hid (M.out.kept ka)
        have KW6 := Lib.hid (KR.out.trans ka)
        have bR6 := Lib.hid (ka.boxed bRr.out id)
        have R6 := Lib.hid (RR.out.kept ka)
        have E5 : Hid (Boxed W6 wr.heap.size 9 (.string ⟨#[]⟩)) := Lib.hid (hk.boxed ((Boxed.new wr 9 (.string ⟨#[]⟩)).alloc (.cells #[.int .i64 0] 3)) id)
        have E6 : Hid (Boxed W6 (wr.heap.size + 1) 3 (.int .i64 0)) := Lib.hid (by
          have := hk.boxed (Boxed.new (wr.alloc (.cells #[.string ⟨#[]⟩] 9)) 3 (.int .i64 0)) id
          simpa using this)
        have BA : Hid (Boxed W6 (wr.heap.size + 1 + 1) 57 (.pointer (some ⟨w1.heap.size, 0, none⟩))) := Lib.hid (by simpa using bA)
        have z6 : wr.heap.size + 1 + 1 < W6.heap.size := by omega
        have ML := M.out.lt
        clear hk bA zA ka M K KR bRr RR
        go_wp2_with (fail)
        refine wp_range2 (gf := 46) rfl (enters_of Try.func46 (by kernel_rfl) rfl) (encs := enc_s) (xs := xs) (R := Reads_s W6 (wr.heap.size + 1 + 1) w1.heap.size)
          (fun X hX => all1_s W6 X hX _ _ xs BA.out M6.out) (fun _ => rfl) (fun j => j = wr.heap.size ∨ j = wr.heap.size + 1)
          (fun O pre A => (∀ j, O j ↔ (j = wr.heap.size ∨ j = wr.heap.size + 1)) ∧ Boxed A wr.heap.size 9 (.string (lastKey pre)) ∧ Boxed A (wr.heap.size + 1) 3 (.int .i64 (pre.length : Int)))
          (fun _ _ _ _ => False) (fun j hj => ⟨M6.out.reads z6 hj, ?notOwn⟩)
          ⟨fun O pre A B h ht => ⟨h.1, Boxed.own h.2.1 ((h.1 _).2 (.inl rfl)) ht, Boxed.own h.2.2 ((h.1 _).2 (.inr rfl)) ht⟩, fun O pre A h j hj => by
            rcases (h.1 j).1 hj with rfl | rfl
            · exact h.2.1.lt
            · exact h.2.2.lt⟩
          (fun _ => good_false) ⟨fun _ => Iff.rfl, E5.out, E6.out⟩ ?ab ?done (fun _ _ _ _ _ _ _ _ _ _ _ h => h.elim)
        case notOwn =>
          rcases hj with rfl | rfl | hj
          · omega
          · omega
          · rintro (rfl | rfl)
            · obtain ⟨cs, hcs⟩ := hj
              rw [show W6.heap[_]? = _ from E5.out] at hcs
              cases hcs
            · obtain ⟨cs, hcs⟩ := hj
              rw [show W6.heap[_]? = _ from E6.out] at hcs
              cases hcs
        case ab =>
          apply Exists.intro
          refine ⟨?_, ?_⟩
          · intro l' x X K hK
            gi_wp2
            exact hK
          · rintro l' O pre ⟨x, xv⟩ rest A hx tA sA ⟨hO, b5, b6⟩
            have LL : pre.length ≤ 100 := by
              have := congrArg List.length hx
              simp at this
              omega
            have HX := Lib.hid hx
            have c5 := b5.cell
            have f5 := b5.frozen
            have c6 := b6.cell
            have f6 := b6.frozen
            have HO := Lib.hid hO
            have B5 := Lib.hid b5
            have B6 := Lib.hid b6
            have hlk : Hid (lastKey (pre ++ [(x, xv)]) = x) := Lib.hid (by simp [lastKey])
            have hll : Hid ((pre ++ [(x, xv)]).length = pre.length + 1) := Lib.hid (by simp)
            clear tA sA hx hO b5 b6
            have fin : ∀ A', A' = (A.setCell ⟨wr.heap.size, 0, none⟩ (.string x)).setCell ⟨wr.heap.size + 1, 0, none⟩ (.int .i64 ((pre.length : Int) + 1)) → ∃ O', Sub O' O A.heap.size ∧ Turned O A A' ∧ (∀ j, O' j ↔ (j = wr.heap.size ∨ j = wr.heap.size + 1)) ∧ Boxed A' wr.heap.size 9 (.string (lastKey (pre ++ [(x, xv)]))) ∧ Boxed A' (wr.heap.size + 1) 3 (.int .i64 ((pre ++ [(x, xv)]).length : Int)) := by
              intro A' hA'
              subst hA'
              refine ⟨O, Sub.refl _ _, (Turned.setCell A ⟨wr.heap.size, 0, none⟩ _ ((HO.out _).2 (.inl rfl))).trans (Turned.setCell _ ⟨wr.heap.size + 1, 0, none⟩ _ ((HO.out _).2 (.inr rfl))) (fun _ h => h) (fun _ _ h => h), HO.out, ?_, ?_⟩
              · rw [hlk.out]
                exact (B5.out.set (.string x)).other (by omega) _
              · rw [hll.out]
                exact (B6.out.other (by omega) (.string x)).set (.int .i64 ((pre.length : Int) + 1))
            have FIN := Lib.hid fin
            clear fin
            by_cases hp : pre.length = 0
            · have hp' : ¬ ((0 : Int) < (pre.length : Int)) := by omega
              clear hp
              gi_wp2
              exact FIN.out _ rfl
            · have hp' : (0 : Int) < (pre.length : Int) := by omega
              have hle : binOp .leq 9 (.string x) (.string (lastKey pre)) = pure (.bool false) := by
                have : (Op.bytesLess x.toList (lastKey pre).toList || x.toList == (lastKey pre).toList) = false := last_less M6.out.asc HX.out (by omega)
                simp [binOp, Op.stringOp, this]
              gi_wp2
              exact FIN.out _ rfl
        case done =>
          rintro D O X hD nD tX sX ⟨hO, b5, b6⟩ hK
          have kwX := Lib.hid (KW6.out.own (fun i hi => by omega) tX)
          have bRX := Lib.hid (tX.boxed bR6.out (by omega))
          have hDX := Lib.hid hK
          have B6X := Lib.hid b6
          have MX := Lib.hid (M6.out.turned tX (by omega) (fun j hj => by
            rintro (rfl | rfl)
            · obtain ⟨cs, hcs⟩ := hj
              rw [show W6.heap[_]? = _ from E5.out] at hcs
              cases hcs
            · obtain ⟨cs, hcs⟩ := hj
              rw [show W6.heap[_]? = _ from E6.out] at hcs
              cases hcs))
          have RX := Lib.hid (RW.out.kept kwX.out)
          have c6X := b6.cell
          clear M6 KW6 bR6 E5 E6 BA tX hK nD sX hO b5 b6 R6
          go_wp2_with (fail)
          go_loopw [8] (fun i wx => ∃ q : Nat, q ≤ ts.length ∧ q ≤ 100 ∧ i = .int .i64 q ∧ X = wx) (fun i _ => 100 - (intOf i).toNat)
          case atStart => exact ⟨0, Nat.zero_le _, by omega, rfl, rfl⟩
          case round =>
            obtain ⟨q, hq1, hq2, rfl, rfl⟩ := hrel
            by_cases hlt2 : q < ts.length ∧ q < 100
            · obtain ⟨hlt3, hlt4⟩ := hlt2
              obtain ⟨z, hz⟩ : ∃ z, ts[q]? = some z := ⟨_, List.getElem?_eq_getElem hlt3⟩
              obtain ⟨bl, off, rfl, hrow⟩ := RX.out.at hz
              have HG : Hid ((get ltS xs z).isSome = true) := Lib.hid (G.out q z (by omega) hz)
              have HLC : q < cap := by omega
              clear hz
              go_wp2_with (fail)
              refine (get_s _ _ _ MX.out z).mono ?_
              rintro e w' ⟨rfl, rfl⟩
              rw [HG.out]
              go_wp2
              exact ⟨⟨q + 1, by omega, by omega, by simp, trivial⟩, by simp [intOf]; omega⟩
            · have hx1 : (xs.length : Int) ≤ (ts.length : Int) := by omega
              have hx2 : ((xs.length : Int) == 0) = ((ts.length : Int) == 0) := by
                have := P.out
                by_cases ht : ts.length = 0
                · have hx0 : xs.length = 0 := by omega
                  rw [ht, hx0]
                · have hx0 : xs.length ≠ 0 := by
                    have := this (by omega)
                    omega
                  have e1 : ((xs.length : Int) == 0) = false := by simp only [beq_eq_false_iff_ne, ne_eq]; omega
                  have e2 : ((ts.length : Int) == 0) = false := by simp only [beq_eq_false_iff_ne, ne_eq]; omega
                  rw [e1, e2]
              by_cases h5 : q < ts.length
              · have h6 : (100 : Int) ≤ (q : Int) := by omega
                clear hlt2
                go_wp2_with (fail)
                have c6 : ∀ x : Wd (Turned (fun j => j = w.heap.size) X), x.w.cell? ⟨wr.heap.size + 1, 0, none⟩ = some (.int .i64 (xs.length : Int)) := fun x => (x.ok.boxed B6X.out (by omega)).cell
                have KD : Hid (Turned (fun j => j = w.heap.size) X X.drew) := Lib.hid (Turned.drewN _ X 1)
                refine (wpIn_wide (n := 10)).1 ?_
                refine region_calm [0, 1, 2, 3, 4, 5, 6, 7, 8, 9, 10, 11, 12, 13, 14, 15, 16, 17, 18, 19, 20, 21] (Turned (fun j => j = w.heap.size) X) (by kernel_rfl) (by kernel_rfl) KD.out (fun _ => ?_)
                refine pl rfl rfl ?_
                gi_wp2_with (fail)
                refine ⟨trivial, ?_⟩
                refine (callsIn_wide.2 (known_c _)).mono ?_
                rintro e X4 ⟨rfl, hk4⟩
                have T4 : Hid (Turned (fun j => j = w.heap.size) X X4) := Lib.hid (Kept.behind KD.out hk4)
                have M4 := Lib.hid (MX.out.kept ((Kept.drew X).trans hk4))
                have b4 := hk4.boxed (show Boxed X.drew w.heap.size 4 (.bool false) from bRX.out) id
                have hc4 := b4.cell
                have hf4 := b4.frozen
                have D4 := Lib.hid (hk4.heap (show X.drew.heap[D]? = _ from hDX.out) id)
                have KW4 := Lib.hid (kwX.out.trans ((Kept.drew X).trans hk4))
                clear hk4 b4
                gi_wp2_with (fail)
                refine ⟨Wd.mem T4.out, ?_⟩
                repeat (refine pq rfl rfl ?_; go_big_quiet_step (fail); refine wpQuiet_nil ?_)
                refine pl rfl rfl ?_
                gi_wp2_with (fail)
                refine ⟨trivial, ?_⟩
                refine (callsIn_wide.2 (len_s _ _ _ M4.out)).mono ?_
                rintro e w' ⟨rfl, rfl⟩
                gi_wp2_with (fail)
                refine ⟨Wd.mem T4.out, ?_⟩
                repeat (refine pq rfl rfl ?_; go_big_quiet_step (fail); refine wpQuiet_nil ?_)
                refine pl rfl rfl ?_
                gi_wp2_with (fail)
                refine ⟨Wd.mem T4.out, ?_⟩
                repeat (refine pq rfl rfl ?_; go_big_quiet_step (fail); refine wpQuiet_nil ?_)
                refine pl rfl rfl ?_
                gi_wp2_with (fail)
                refine ⟨Wd.mem T4.out, ?_⟩
                repeat (refine pq rfl rfl ?_; go_big_quiet_step (fail); refine wpQuiet_nil ?_)
                refine pl rfl rfl ?_
                gi_wp2
                refine ⟨Wd.mem (T4.out.trans (Turned.setCell (R := fun j => j = w.heap.size) X4 ⟨w.heap.size, 0, none⟩ (.bool true) rfl) (fun _ h => h) (fun _ _ h => h)), ?_⟩
                refine perm_done ?_
                go_wp2
                refine leave_marks [D] (X4.setCell ⟨w.heap.size, 0, none⟩ (.bool true)) ?_ (by simp) ?_
                · intro j hj
                  simp at hj
                  subst hj
                  exact (Below.heap_setCell X4 ⟨w.heap.size, 0, none⟩ (.bool true) j (by show j ≠ w.heap.size; omega)).trans D4.out
                · intro X' hX'
                  have hc5 : X'.cell? ⟨w.heap.size, 0, none⟩ = some (.bool true) := hX'.cell (p := ⟨w.heap.size, 0, none⟩) (World.cell?_setCell_same' X4 _ _ (by rw [hc4]; rfl)) (by simp; omega)
                  refine ⟨.bool true, ?_, rfl, (KW4.out.did (Nat.le_refl _) (Turned.setCell X4 ⟨w.heap.size, 0, none⟩ (.bool true) (R := fun i => i = w.heap.size) rfl)).own (fun i hi => by simp at hi; omega) hX'⟩
                  simp [results, Try.f8, go_sem, hc5]
              · exfalso
                omega
      · clear hlt
        have z2 : w1.heap.size + 1 ≤ wr.heap.size := M.out.lt
        have KR := Lib.hid (KK1.out.trans K.out)
        have bRr := Lib.hid (K.out.boxed bR.out id)
        have RR := Lib.hid (HR.out.kept KR.out)
        clear HR KK1 bR
        go_wp2_with (fail)
        refine (all_ks _ _).mono ?_
        rintro e W6 ⟨rfl, hk, bA, zA⟩
        simp at zA
        have ka : Kept wr W6 := ((show Kept wr (wr.alloc (.cells #[.string ⟨#[]⟩] 9)) from Turned.alloc _ _ _).trans (show Kept _ ((wr.alloc (.cells #[.string ⟨#[]⟩] 9)).alloc (.cells #[.int .i64 0] 3)) from Turned.alloc _ _ _)).trans hk
        have M6 := Lib.hid (M.out.kept ka)
        have KW6 := Lib.hid (KR.out.trans ka)
        have bR6 := Lib.hid (ka.boxed bRr.out id)
        have R6 := Lib.hid (RR.out.kept ka)
        have E5 : Hid (Boxed W6 wr.heap.size 9 (.string ⟨#[]⟩)) := Lib.hid (hk.boxed ((Boxed.new wr 9 (.string ⟨#[]⟩)).alloc (.cells #[.int .i64 0] 3)) id)
        have E6 : Hid (Boxed W6 (wr.heap.size + 1) 3 (.int .i64 0)) := Lib.hid (by
          have := hk.boxed (Boxed.new (wr.alloc (.cells #[.string ⟨#[]⟩] 9)) 3 (.int .i64 0)) id
          simpa using this)
        have BA : Hid (Boxed W6 (wr.heap.size + 1 + 1) 57 (.pointer (some ⟨w1.heap.size, 0, none⟩))) := Lib.hid (by simpa using bA)
        have z6 : wr.heap.size + 1 + 1 < W6.heap.size := by omega
        have ML := M.out.lt
        clear hk bA zA ka M K KR bRr RR
        go_wp2_with (fail)
        refine wp_range2 (gf := 46) rfl (enters_of Try.func46 (by kernel_rfl) rfl) (encs := enc_s) (xs := xs) (R := Reads_s W6 (wr.heap.size + 1 + 1) w1.heap.size)
          (fun X hX => all1_s W6 X hX _ _ xs BA.out M6.out) (fun _ => rfl) (fun j => j = wr.heap.size ∨ j = wr.heap.size + 1)
          (fun O pre A => (∀ j, O j ↔ (j = wr.heap.size ∨ j = wr.heap.size + 1)) ∧ Boxed A wr.heap.size 9 (.string (lastKey pre)) ∧ Boxed A (wr.heap.size + 1) 3 (.int .i64 (pre.length : Int)))
          (fun _ _ _ _ => False) (fun j hj => ⟨M6.out.reads z6 hj, ?notOwn⟩)
          ⟨fun O pre A B h ht => ⟨h.1, Boxed.own h.2.1 ((h.1 _).2 (.inl rfl)) ht, Boxed.own h.2.2 ((h.1 _).2 (.inr rfl)) ht⟩, fun O pre A h j hj => by
            rcases (h.1 j).1 hj with rfl | rfl
            · exact h.2.1.lt
            · exact h.2.2.lt⟩
          (fun _ => good_false) ⟨fun _ => Iff.rfl, E5.out, E6.out⟩ ?ab ?done (fun _ _ _ _ _ _ _ _ _ _ _ h => h.elim)
        case notOwn =>
          rcases hj with rfl | rfl | hj
          · omega
          · omega
          · rintro (rfl | rfl)
            · obtain ⟨cs, hcs⟩ := hj
              rw [show W6.heap[_]? = _ from E5.out] at hcs
              cases hcs
            · obtain ⟨cs, hcs⟩ := hj
              rw [show W6.heap[_]? = _ from E6.out] at hcs
              cases hcs
        case ab =>
          apply Exists.intro
          refine ⟨?_, ?_⟩
          · intro l' x X K hK
            gi_wp2
            exact hK
          · rintro l' O pre ⟨x, xv⟩ rest A hx tA sA ⟨hO, b5, b6⟩
            have LL : pre.length ≤ 100 := by
              have := congrArg List.length hx
              simp at this
              omega
            have HX := Lib.hid hx
            have c5 := b5.cell
            have f5 := b5.frozen
            have c6 := b6.cell
            have f6 := b6.frozen
            have HO := Lib.hid hO
            have B5 := Lib.hid b5
            have B6 := Lib.hid b6
            have hlk : Hid (lastKey (pre ++ [(x, xv)]) = x) := Lib.hid (by simp [lastKey])
            have hll : Hid ((pre ++ [(x, xv)]).length = pre.length + 1) := Lib.hid (by simp)
            clear tA sA hx hO b5 b6
            have fin : ∀ A', A' = (A.setCell ⟨wr.heap.size, 0, none⟩ (.string x)).setCell ⟨wr.heap.size + 1, 0, none⟩ (.int .i64 ((pre.length : Int) + 1)) → ∃ O', Sub O' O A.heap.size ∧ Turned O A A' ∧ (∀ j, O' j ↔ (j = wr.heap.size ∨ j = wr.heap.size + 1)) ∧ Boxed A' wr.heap.size 9 (.string (lastKey (pre ++ [(x, xv)]))) ∧ Boxed A' (wr.heap.size + 1) 3 (.int .i64 ((pre ++ [(x, xv)]).length : Int)) := by
              intro A' hA'
              subst hA'
              refine ⟨O, Sub.refl _ _, (Turned.setCell A ⟨wr.heap.size, 0, none⟩ _ ((HO.out _).2 (.inl rfl))).trans (Turned.setCell _ ⟨wr.heap.size + 1, 0, none⟩ _ ((HO.out _).2 (.inr rfl))) (fun _ h => h) (fun _ _ h => h), HO.out, ?_, ?_⟩
              · rw [hlk.out]
                exact (B5.out.set (.string x)).other (by omega) _
              · rw [hll.out]
                exact (B6.out.other (by omega) (.string x)).set (.int .i64 ((pre.length : Int) + 1))
            have FIN := Lib.hid fin
            clear fin
            by_cases hp : pre.length = 0
            · have hp' : ¬ ((0 : Int) < (pre.length : Int)) := by omega
              clear hp
              gi_wp2
              exact FIN.out _ rfl
            · have hp' : (0 : Int) < (pre.length : Int) := by omega
              have hle : binOp .leq 9 (.string x) (.string (lastKey pre)) = pure (.bool false) := by
                have : (Op.bytesLess x.toList (lastKey pre).toList || x.toList == (lastKey pre).toList) = false := last_less M6.out.asc HX.out (by omega)
                simp [binOp, Op.stringOp, this]
              gi_wp2
              exact FIN.out _ rfl
        case done =>
          rintro D O X hD nD tX sX ⟨hO, b5, b6⟩ hK
          have kwX := Lib.hid (KW6.out.own (fun i hi => by omega) tX)
          have bRX := Lib.hid (tX.boxed bR6.out (by omega))
          have hDX := Lib.hid hK
          have B6X := Lib.hid b6
          have MX := Lib.hid (M6.out.turned tX (by omega) (fun j hj => by
            rintro (rfl | rfl)
            · obtain ⟨cs, hcs⟩ := hj
              rw [show W6.heap[_]? = _ from E5.out] at hcs
              cases hcs
            · obtain ⟨cs, hcs⟩ := hj
              rw [show W6.heap[_]? = _ from E6.out] at hcs
              cases hcs))
          have RX := Lib.hid (RW.out.kept kwX.out)
          have c6X := b6.cell
          clear M6 KW6 bR6 E5 E6 BA tX hK nD sX hO b5 b6 R6
          go_wp2_with (fail)
          go_loopw [8] (fun i wx => ∃ q : Nat, q ≤ ts.length ∧ q ≤ 100 ∧ i = .int .i64 q ∧ X = wx) (fun i _ => 100 - (intOf i).toNat)
          case atStart => exact ⟨0, Nat.zero_le _, by omega, rfl, rfl⟩
          case round =>
            obtain ⟨q, hq1, hq2, rfl, rfl⟩ := hrel
            by_cases hlt2 : q < ts.length ∧ q < 100
            · obtain ⟨hlt3, hlt4⟩ := hlt2
              obtain ⟨z, hz⟩ : ∃ z, ts[q]? = some z := ⟨_, List.getElem?_eq_getElem hlt3⟩
              obtain ⟨bl, off, rfl, hrow⟩ := RX.out.at hz
              have HG : Hid ((get ltS xs z).isSome = true) := Lib.hid (G.out q z (by omega) hz)
              have HLC : q < cap := by omega
              clear hz
              go_wp2_with (fail)
              refine (get_s _ _ _ MX.out z).mono ?_
              rintro e w' ⟨rfl, rfl⟩
              rw [HG.out]
              go_wp2
              exact ⟨⟨q + 1, by omega, by omega, by simp, trivial⟩, by simp [intOf]; omega⟩
            · have hx1 : (xs.length : Int) ≤ (ts.length : Int) := by omega
              have hx2 : ((xs.length : Int) == 0) = ((ts.length : Int) == 0) := by
                have := P.out
                by_cases ht : ts.length = 0
                · have hx0 : xs.length = 0 := by omega
                  rw [ht, hx0]
                · have hx0 : xs.length ≠ 0 := by
                    have := this (by omega)
                    omega
                  have e1 : ((xs.length : Int) == 0) = false := by simp only [beq_eq_false_iff_ne, ne_eq]; omega
                  have e2 : ((ts.length : Int) == 0) = false := by simp only [beq_eq_false_iff_ne, ne_eq]; omega
                  rw [e1, e2]
              by_cases h5 : q < ts.length
              · exfalso
                omega
              · clear hlt2
                go_wp2_with (fail)
                have c6 : ∀ x : Wd (Turned (fun j => j = w.heap.size) X), x.w.cell? ⟨wr.heap.size + 1, 0, none⟩ = some (.int .i64 (xs.length : Int)) := fun x => (x.ok.boxed B6X.out (by omega)).cell
                have KD : Hid (Turned (fun j => j = w.heap.size) X X.drew) := Lib.hid (Turned.drewN _ X 1)
                refine (wpIn_wide (n := 10)).1 ?_
                refine region_calm [0, 1, 2, 3, 4, 5, 6, 7, 8, 9, 10, 11, 12, 13, 14, 15, 16, 17, 18, 19, 20, 21] (Turned (fun j => j = w.heap.size) X) (by kernel_rfl) (by kernel_rfl) KD.out (fun _ => ?_)
                refine pl rfl rfl ?_
                gi_wp2_with (fail)
                refine ⟨trivial, ?_⟩
                refine (callsIn_wide.2 (known_c _)).mono ?_
                rintro e X4 ⟨rfl, hk4⟩
                have T4 : Hid (Turned (fun j => j = w.heap.size) X X4) := Lib.hid (Kept.behind KD.out hk4)
                have M4 := Lib.hid (MX.out.kept ((Kept.drew X).trans hk4))
                have b4 := hk4.boxed (show Boxed X.drew w.heap.size 4 (.bool false) from bRX.out) id
                have hc4 := b4.cell
                have hf4 := b4.frozen
                have D4 := Lib.hid (hk4.heap (show X.drew.heap[D]? = _ from hDX.out) id)
                have KW4 := Lib.hid (kwX.out.trans ((Kept.drew X).trans hk4))
                clear hk4 b4
                gi_wp2_with (fail)
                refine ⟨Wd.mem T4.out, ?_⟩
                repeat (refine pq rfl rfl ?_; go_big_quiet_step (fail); refine wpQuiet_nil ?_)
                refine pl rfl rfl ?_
                gi_wp2_with (fail)
                refine ⟨trivial, ?_⟩
                refine (callsIn_wide.2 (len_s _ _ _ M4.out)).mono ?_
                rintro e w' ⟨rfl, rfl⟩
                gi_wp2_with (fail)
                refine ⟨Wd.mem T4.out, ?_⟩
                repeat (refine pq rfl rfl ?_; go_big_quiet_step (fail); refine wpQuiet_nil ?_)
                refine pl rfl rfl ?_
                gi_wp2_with (fail)
                refine ⟨Wd.mem T4.out, ?_⟩
                repeat (refine pq rfl rfl ?_; go_big_quiet_step (fail); refine wpQuiet_nil ?_)
                refine pl rfl rfl ?_
                gi_wp2_with (fail)
                refine ⟨Wd.mem T4.out, ?_⟩
                repeat (refine pq rfl rfl ?_; go_big_quiet_step (fail); refine wpQuiet_nil ?_)
                refine pl rfl rfl ?_
                gi_wp2
                refine ⟨Wd.mem (T4.out.trans (Turned.setCell (R := fun j => j = w.heap.size) X4 ⟨w.heap.size, 0, none⟩ (.bool true) rfl) (fun _ h => h) (fun _ _ h => h)), ?_⟩
                refine perm_done ?_
                go_wp2
                refine leave_marks [D] (X4.setCell ⟨w.heap.size, 0, none⟩ (.bool true)) ?_ (by simp) ?_
                · intro j hj
                  simp at hj
                  subst hj
                  exact (Below.heap_setCell X4 ⟨w.heap.size, 0, none⟩ (.bool true) j (by show j ≠ w.heap.size; omega)).trans D4.out
                · intro X' hX'
                  have hc5 : X'.cell? ⟨w.heap.size, 0, none⟩ = some (.bool true) := hX'.cell (p := ⟨w.heap.size, 0, none⟩) (World.cell?_setCell_same' X4 _ _ (by rw [hc4]; rfl)) (by simp; omega)
                  refine ⟨.bool true, ?_, rfl, (KW4.out.did (Nat.le_refl _) (Turned.setCell X4 ⟨w.heap.size, 0, none⟩ (.bool true) (R := fun i => i = w.heap.size) rfl)).own (fun i hi => by simp at hi; omega) hX'⟩
                  simp [results, Try.f8, go_sem, hc5]
end Go.Proofs.Ytfckphcbleodbaa
