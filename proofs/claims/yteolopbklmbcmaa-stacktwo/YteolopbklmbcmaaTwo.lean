/-
  What 'StackTwo' of the statements of chapter 3 answers, for any slice of ints and any slice of strings: true; nothing that lay is turned.
-/
import Derived.Test.YteolopbklmbcmaaTurn
import Derived.Test.YteolopbklmbcmaaStr
namespace Go.Proofs.Yteolopbklmbcmaa
open Go.RowKit

/-- A slice value that reads as these strings. -/
def ReadsS (w : World) (a : Option Addr) (ts : List ByteArray) : Prop :=
  ts = [] ∨ ∃ bl off, a = some ⟨bl, off, none⟩ ∧ ∀ j s, ts[j]? = some s → w.cell? ⟨bl, off + j, none⟩ = some (.string s)

/-- What the frame of a proof tells of a slice of strings that came in. -/
theorem readsS_in {w : World} {a : Option Addr} {len cap : Nat} {z : List ByteArray} (h : (a = none ∧ len = 0 ∧ cap = 0 ∧ z = []) ∨
    ∃ x, a = some x ∧ len ≤ cap ∧ z.length = cap ∧ ∀ i, i < z.length → w.cell? (x.add i) = some (.string (z.getD i ByteArray.empty))) :
    ∃ ts : List ByteArray, ts.length = len ∧ ReadsS w a ts := by
  rcases h with ⟨rfl, rfl, rfl, rfl⟩ | ⟨x, rfl, h1, h3, h4⟩
  · exact ⟨[], rfl, .inl rfl⟩
  · refine ⟨z.take len, by rw [List.length_take]; omega, ?_⟩
    by_cases hl : len = 0
    · subst hl
      exact .inl (by simp)
    · obtain ⟨b, off, spot⟩ := x
      have hspot : spot = none := by simpa [Addr.add] using World.cell?_spot (h4 0 (by omega))
      subst hspot
      refine .inr ⟨b, off, rfl, fun j y hy => ?_⟩
      obtain ⟨hj, e⟩ := List.getElem?_eq_some_iff.1 hy
      rw [List.length_take] at hj
      have hc := h4 j (by omega)
      rw [Go.WideShapes.add_plain] at hc
      rw [hc]
      rw [List.getElem_take] at e
      rw [← e, List.getD_eq_getElem?_getD, List.getElem?_eq_getElem (by omega)]
      rfl

abbrev strs (ts : List ByteArray) : List Value := ts.map Value.string

theorem strs_take_succ {ts : List ByteArray} {k : Nat} {s : ByteArray} (h : ts[k]? = some s) : strs (ts.take (k + 1)) = strs (ts.take k) ++ [.string s] := by
  obtain ⟨hk, rfl⟩ := List.getElem?_eq_some_iff.1 h
  unfold strs
  rw [List.take_succ_eq_append_getElem hk, List.map_append]
  rfl

theorem take_past {α : Type} {xs : List α} {k : Nat} (h : xs.length ≤ k) : xs.take k = xs.take (k + 1) := by
  rw [List.take_of_length_le h, List.take_of_length_le (by omega)]
theorem take_end {α : Type} {xs : List α} {k m : Nat} (h : k = m ∨ (xs.length ≤ k ∧ xs.length ≤ m)) : xs.take k = xs.take m := by
  rcases h with rfl | ⟨h1, h2⟩
  · rfl
  · rw [List.take_of_length_le h1, List.take_of_length_le h2]

/-- A stack of ints and one of strings, apart from one another. -/
structure Both (w wr : World) (n : Nat) (va vb : Value) (xa xb : List Value) : Prop where
  a : Stk wr 37 3 n n va xa
  b : Stk wr 26 9 n (n + 1) vb xb
  ab : Disj n va (n + 1) vb
  k : Kept w wr
  le : w.heap.size ≤ n

namespace Both
variable {w wr w' : World} {n : Nat} {va vb : Value} {xa xb ys : List Value}
theorem pushA (h : Both w wr n va vb xa xb) (hp : Pushed 37 3 n n va ys wr w') : ∃ v', Both w w' n v' vb ys xb := by
  have hb := push_apart hp h.b h.ab
  obtain ⟨v', hs, ht, hf⟩ := hp
  exact ⟨v', hs, hb.1, hb.2 v' hf, h.k.trans ht (fun _ h => h) (fun i hi h' => by have := (h.a.lt i h').1; have := h.le; omega), h.le⟩
theorem pushB (h : Both w wr n va vb xa xb) (hp : Pushed 26 9 n (n + 1) vb ys wr w') : ∃ v', Both w w' n va v' xa ys := by
  have ha := push_apart hp h.a h.ab.symm
  obtain ⟨v', hs, ht, hf⟩ := hp
  exact ⟨v', ha.1, hs, (ha.2 v' hf).symm, h.k.trans ht (fun _ h => h) (fun i hi h' => by have := (h.b.lt i h').1; have := h.le; omega), h.le⟩
theorem popB (h : Both w wr n va vb xa xb) (hp : Popped 26 9 n (n + 1) vb ys wr w') : ∃ v', Both w w' n va v' xa ys := by
  have ha := pop_apart hp h.a h.ab.symm
  obtain ⟨v', hs, ht, hf⟩ := hp
  exact ⟨v', ha.1, hs, (ha.2 v' hf).symm, h.k.trans ht (fun _ h => h) (fun i hi h' => by have := (h.b.lt i h').1; have := h.le; omega), h.le⟩
theorem kept (h : Both w wr n va vb xa xb) (hk : Kept wr w') : Both w w' n va vb xa xb :=
  ⟨h.a.turned hk (fun _ _ h => h), h.b.turned hk (fun _ _ h => h), h.ab, h.k.trans hk (fun _ h => h) (fun _ _ h => h), h.le⟩
end Both

theorem both_new (w : World) : Both w ((w.alloc (.cells #[.slice none 0 0] 37)).alloc (.cells #[.slice none 0 0] 26)) w.heap.size (.slice none 0 0) (.slice none 0 0) [] [] := by
  refine ⟨⟨Nat.le_refl _, (Boxed.new w 37 _).alloc _, World.ownsRow_nil _ _ _ _⟩, ⟨by omega, ?_, World.ownsRow_nil _ _ _ _⟩, ?_, Kept.alloc (Turned.alloc _ _ _) _, Nat.le_refl _⟩
  · have := Boxed.new (w.alloc (.cells #[.slice none 0 0] 37)) 26 (.slice none 0 0)
    rwa [World.size_alloc] at this
  · intro k h1 h2
    rcases h1 with rfl | h1
    · rcases h2 with h2 | h2
      · omega
      · simp [Value.ownBlock] at h2
    · simp [Value.ownBlock] at h1

set_option maxRecDepth 100000 in
set_option maxHeartbeats 4000000 in
theorem stackTwo_c (w : World) (a0 a1 : Option Addr) (cap0 cap1 : Nat) (zs : List Int) (ts : List ByteArray) (hcap : zs.length ≤ cap0) (hr : Reads w a0 zs) (hr1 : ReadsS w a1 ts) :
    Calls Try.prog 6 #[.slice a0 zs.length cap0, .slice a1 ts.length cap1] w fun e w' => e = .returned (.bool true) ∧ Kept w w' := by
  have HR := Lib.hid hr
  have HRS := Lib.hid hr1
  have H0 := Lib.hid (both_new w)
  clear hr hr1
  obtain ⟨n, hn⟩ : ∃ n, w.heap.size = n := ⟨_, rfl⟩
  rw [hn] at H0
  go_enter Try.func6, Try.ntmps6
  go_wp2
  obtain ⟨M, hM⟩ : ∃ M, max zs.length ts.length = M := ⟨_, rfl⟩
  have hmax : (if zs.length < ts.length then (ts.length : Int) else (zs.length : Int)) = (M : Int) := by split <;> omega
  go_loopw [7] (fun i wr => ∃ (k : Nat) (va vb : Value), k ≤ 200 ∧ k ≤ M ∧ i = .int .i64 k ∧ Hid (Both w wr n va vb (ints (zs.take k)) (strs (ts.take k))))
    (fun i _ => 200 - (intOf i).toNat)
  case atStart => exact ⟨0, _, _, Nat.zero_le _, Nat.zero_le _, rfl, H0⟩
  case round =>
    obtain ⟨k, va, vb, hk1, hk2, rfl, HB⟩ := hrel
    have HM := Lib.hid hM
    clear H0 hn hM
    by_cases hlt : k < 200 ∧ k < M
    · obtain ⟨hlt1, hlt2⟩ := hlt
      have hor : k < zs.length ∨ k < ts.length := by have := HM.out; omega
      by_cases cz : k < zs.length
      · clear hor
        by_cases ct : k < ts.length
        · obtain ⟨z, hz⟩ : ∃ z, zs[k]? = some z := ⟨_, List.getElem?_eq_getElem cz⟩
          obtain ⟨bl, off, ha, hrow⟩ : ∃ bl off, a0 = some ⟨bl, off, none⟩ ∧ wr.cell? ⟨bl, off + k, none⟩ = some (.int .i64 z) := by
            rcases HR.out with h | ⟨bl, off, ha, hc⟩
            · rw [h] at hz
              simp at hz
            · exact ⟨bl, off, ha, HB.out.k.cell (hc k z hz) id⟩
          subst ha
          have HE := Lib.hid (ints_take_succ hz)
          have hsz : n ≤ wr.heap.size := by have := HB.out.a.box.lt; omega
          clear hz
          go_wp2_with fail
          refine (push_i _ n _ _ _ z hsz (by simp; omega) HB.out.a).mono ?_
          rintro e w2 ⟨rfl, hp⟩
          obtain ⟨v2, h2⟩ := HB.out.pushA hp
          rw [← HE.out] at h2
          have HB2 := Lib.hid h2
          clear hp h2 hrow HB HE hsz
          obtain ⟨t, ht⟩ : ∃ t, ts[k]? = some t := ⟨_, List.getElem?_eq_getElem ct⟩
          obtain ⟨bs, offs, hb, hrows⟩ : ∃ bs offs, a1 = some ⟨bs, offs, none⟩ ∧ w2.cell? ⟨bs, offs + k, none⟩ = some (.string t) := by
            rcases HRS.out with h | ⟨bs, offs, hb, hc⟩
            · rw [h] at ht
              simp at ht
            · exact ⟨bs, offs, hb, HB2.out.k.cell (hc k t ht) id⟩
          subst hb
          have HF := Lib.hid (strs_take_succ ht)
          have hsz : n ≤ w2.heap.size := by have := HB2.out.a.box.lt; omega
          clear ht
          go_wp2_with fail
          refine (push_s _ n _ _ _ t hsz (by simp; omega) HB2.out.b).mono ?_
          rintro e w3 ⟨rfl, hp⟩
          obtain ⟨v3, h3⟩ := HB2.out.pushB hp
          rw [← HF.out] at h3
          have HB3 := Lib.hid h3
          clear hp h3 hrows HB2 HF hsz
          go_wp2
          exact ⟨⟨k + 1, _, _, by omega, by omega, by go_num, HB3⟩, by simp [intOf]; omega⟩
        · obtain ⟨z, hz⟩ : ∃ z, zs[k]? = some z := ⟨_, List.getElem?_eq_getElem cz⟩
          obtain ⟨bl, off, ha, hrow⟩ : ∃ bl off, a0 = some ⟨bl, off, none⟩ ∧ wr.cell? ⟨bl, off + k, none⟩ = some (.int .i64 z) := by
            rcases HR.out with h | ⟨bl, off, ha, hc⟩
            · rw [h] at hz
              simp at hz
            · exact ⟨bl, off, ha, HB.out.k.cell (hc k z hz) id⟩
          subst ha
          have HE := Lib.hid (ints_take_succ hz)
          have hsz : n ≤ wr.heap.size := by have := HB.out.a.box.lt; omega
          clear hz
          go_wp2_with fail
          refine (push_i _ n _ _ _ z hsz (by simp; omega) HB.out.a).mono ?_
          rintro e w2 ⟨rfl, hp⟩
          obtain ⟨v2, h2⟩ := HB.out.pushA hp
          rw [← HE.out] at h2
          have HB2 := Lib.hid h2
          clear hp h2 hrow HB HE hsz
          have HB3 : Hid (Both w w2 n v2 vb (ints (zs.take (k + 1))) (strs (ts.take (k + 1)))) := Lib.hid (by have := HB2.out; rwa [take_past (xs := ts) (by omega)] at this)
          clear HB2
          go_wp2
          exact ⟨⟨k + 1, _, _, by omega, by omega, by go_num, HB3⟩, by simp [intOf]; omega⟩
      · have ct : k < ts.length := by omega
        clear hor
        have HB2 : Hid (Both w wr n va vb (ints (zs.take (k + 1))) (strs (ts.take k))) := Lib.hid (by have := HB.out; rwa [take_past (xs := zs) (by omega)] at this)
        clear HB
        obtain ⟨t, ht⟩ : ∃ t, ts[k]? = some t := ⟨_, List.getElem?_eq_getElem ct⟩
        obtain ⟨bs, offs, hb, hrows⟩ : ∃ bs offs, a1 = some ⟨bs, offs, none⟩ ∧ wr.cell? ⟨bs, offs + k, none⟩ = some (.string t) := by
          rcases HRS.out with h | ⟨bs, offs, hb, hc⟩
          · rw [h] at ht
            simp at ht
          · exact ⟨bs, offs, hb, HB2.out.k.cell (hc k t ht) id⟩
        subst hb
        have HF := Lib.hid (strs_take_succ ht)
        have hsz : n ≤ wr.heap.size := by have := HB2.out.a.box.lt; omega
        clear ht
        go_wp2_with fail
        refine (push_s _ n _ _ _ t hsz (by simp; omega) HB2.out.b).mono ?_
        rintro e w3 ⟨rfl, hp⟩
        obtain ⟨v3, h3⟩ := HB2.out.pushB hp
        rw [← HF.out] at h3
        have HB3 := Lib.hid h3
        clear hp h3 hrows HB2 HF hsz
        go_wp2
        exact ⟨⟨k + 1, _, _, by omega, by omega, by go_num, HB3⟩, by simp [intOf]; omega⟩
    · have hzk : zs.take k = zs.take 200 := take_end (by have := HM.out; omega)
      have htk : ts.take k = ts.take 200 := take_end (by have := HM.out; omega)
      have hB := HB.out
      rw [hzk, htk] at hB
      obtain ⟨q, hq⟩ : ∃ q, min ts.length 200 = q := ⟨_, rfl⟩
      obtain ⟨p, hp⟩ : ∃ p, min zs.length 200 = p := ⟨_, rfl⟩
      have htq : ts.take 200 = ts.take q := take_end (by omega)
      have hzp : zs.take 200 = zs.take p := take_end (by omega)
      rw [htq, hzp] at hB
      have hmin : (if (200 : Int) < (ts.length : Int) then (200 : Int) else (ts.length : Int)) = (q : Int) := by split <;> omega
      have hminz : (if (200 : Int) < (zs.length : Int) then (200 : Int) else (zs.length : Int)) = (p : Int) := by split <;> omega
      have hq1 : q ≤ ts.length := by omega
      have hq2 : q ≤ 200 := by omega
      have hp1 : p ≤ zs.length := by omega
      have hp2 : p ≤ 200 := by omega
      have HB2 := Lib.hid hB
      have HLT := Lib.hid hlt
      clear hB hzk htk htq hzp HB
      by_cases c1 : k < M
      · have c2 : ¬ k < 200 := by omega
        clear hlt hq hp
        go_wp2
        clear hmax
        go_loopw [8] (fun i wr => ∃ (j : Nat) (vb : Value), j ≤ q ∧ i = .int .i64 ((j : Int) - 1) ∧ Hid (Both w wr n va vb (ints (zs.take p)) (strs (ts.take j))))
          (fun i _ => (intOf i + 1).toNat)
        case atStart => exact ⟨q, _, Nat.le_refl _, rfl, HB2⟩
        case round =>
          obtain ⟨j, vb', hj, rfl, HC⟩ := hrel
          clear HB2
          cases j with
          | zero =>
            go_wp2_with fail
            refine (known_c _).mono ?_
            rintro e w2 ⟨rfl, hk⟩
            have HC2 := Lib.hid (HC.out.kept hk)
            have HR2 : Hid (Reads w2 a0 (zs.take p)) := Lib.hid (reads_take HR.out HC2.out.k p)
            clear hk HC
            go_wp2_with fail
            refine (len_s _ n _ _ _ HC2.out.b).mono ?_
            rintro e w3 ⟨rfl, rfl⟩
            go_wp2_with fail
            have hlp : (zs.take p).length = p := by rw [List.length_take]; omega
            have hsm := same_c w2 n _ _ (zs.take p) a0 cap0 (by rw [hlp]; omega) HC2.out.a HR2.out
            rw [hlp] at hsm
            refine hsm.mono ?_
            rintro e w4 ⟨rfl, hk⟩
            have HK4 := Lib.hid (HC2.out.k.trans hk (fun _ h => h) (fun _ _ h => h))
            clear hk HC2 HR2 hsm hlp
            go_wp2
            go_ret
            exact ⟨rfl, HK4.out⟩
          | succ j =>
            obtain ⟨t, ht⟩ : ∃ t, ts[j]? = some t := ⟨_, List.getElem?_eq_getElem (by omega)⟩
            obtain ⟨bs, offs, hb, hrows⟩ : ∃ bs offs, a1 = some ⟨bs, offs, none⟩ ∧ w.cell? ⟨bs, offs + j, none⟩ = some (.string t) := by
              rcases HRS.out with h | ⟨bs, offs, hb, hc⟩
              · rw [h] at ht
                simp at ht
              · exact ⟨bs, offs, hb, hc j t ht⟩
            subst hb
            have hC := HC.out
            rw [strs_take_succ ht] at hC
            have HC1 := Lib.hid hC
            have HRW := Lib.hid hrows
            clear hC HC ht hrows
            go_wp2_with fail
            refine (pop1_s _ n _ _ _ t HC1.out.b).mono ?_
            rintro e w2 ⟨rfl, hp⟩
            obtain ⟨v2, h2⟩ := HC1.out.popB hp
            have HC2 := Lib.hid h2
            have hrow2 := h2.k.cell HRW.out id
            clear hp h2 HC1
            go_wp2
            exact ⟨⟨j, v2, by omega, rfl, HC2⟩, by simp [intOf]⟩
      · have hM' := HM.out
        obtain rfl : q = ts.length := by omega
        obtain rfl : p = zs.length := by omega
        clear hlt hq hp hmin hminz hM'
        go_wp2
        clear hmax
        go_loopw [8] (fun i wr => ∃ (j : Nat) (vb : Value), j ≤ ts.length ∧ i = .int .i64 ((j : Int) - 1) ∧ Hid (Both w wr n va vb (ints (zs.take zs.length)) (strs (ts.take j))))
          (fun i _ => (intOf i + 1).toNat)
        case atStart => exact ⟨ts.length, _, Nat.le_refl _, rfl, HB2⟩
        case round =>
          obtain ⟨j, vb', hj, rfl, HC⟩ := hrel
          clear HB2
          cases j with
          | zero =>
            go_wp2_with fail
            refine (known_c _).mono ?_
            rintro e w2 ⟨rfl, hk⟩
            have HC2 := Lib.hid (HC.out.kept hk)
            have HR2 : Hid (Reads w2 a0 (zs.take zs.length)) := Lib.hid (reads_take HR.out HC2.out.k zs.length)
            clear hk HC
            go_wp2_with fail
            refine (len_s _ n _ _ _ HC2.out.b).mono ?_
            rintro e w3 ⟨rfl, rfl⟩
            go_wp2_with fail
            have hlp : (zs.take zs.length).length = zs.length := by rw [List.length_take]; omega
            have hsm := same_c w2 n _ _ (zs.take zs.length) a0 cap0 (by rw [hlp]; omega) HC2.out.a HR2.out
            rw [hlp] at hsm
            refine hsm.mono ?_
            rintro e w4 ⟨rfl, hk⟩
            have HK4 := Lib.hid (HC2.out.k.trans hk (fun _ h => h) (fun _ _ h => h))
            clear hk HC2 HR2 hsm hlp
            go_wp2
            go_ret
            exact ⟨rfl, HK4.out⟩
          | succ j =>
            obtain ⟨t, ht⟩ : ∃ t, ts[j]? = some t := ⟨_, List.getElem?_eq_getElem (by omega)⟩
            obtain ⟨bs, offs, hb, hrows⟩ : ∃ bs offs, a1 = some ⟨bs, offs, none⟩ ∧ w.cell? ⟨bs, offs + j, none⟩ = some (.string t) := by
              rcases HRS.out with h | ⟨bs, offs, hb, hc⟩
              · rw [h] at ht
                simp at ht
              · exact ⟨bs, offs, hb, hc j t ht⟩
            subst hb
            have hC := HC.out
            rw [strs_take_succ ht] at hC
            have HC1 := Lib.hid hC
            have HRW := Lib.hid hrows
            clear hC HC ht hrows
            go_wp2_with fail
            refine (pop1_s _ n _ _ _ t HC1.out.b).mono ?_
            rintro e w2 ⟨rfl, hp⟩
            obtain ⟨v2, h2⟩ := HC1.out.popB hp
            have HC2 := Lib.hid h2
            have hrow2 := h2.k.cell HRW.out id
            clear hp h2 HC1
            go_wp2
            exact ⟨⟨j, v2, by omega, rfl, HC2⟩, by simp [intOf]⟩
end Go.Proofs.Yteolopbklmbcmaa
