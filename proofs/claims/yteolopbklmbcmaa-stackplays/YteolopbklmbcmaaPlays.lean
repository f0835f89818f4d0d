/-
  What 'StackPlays' of the statements of chapter 3 answers, for any slice of ints: true; nothing that lay is turned.
-/
import Derived.Test.YteolopbklmbcmaaSame
namespace Go.Proofs.Yteolopbklmbcmaa
open Go.RowKit

/-- Where the loop stands: a stack and a slice, apart from one another, with the same numbers. -/
def PlaysAt (w : World) (b : Nat) (u : Value) (k : Nat) (wr : World) : Prop :=
  ∃ (v : Value) (xs : List Int), xs.length ≤ k ∧ Stk wr 37 3 w.heap.size b v (ints xs) ∧ wr.ownsRow w.heap.size 3 1 u xs.length (ints xs) ∧ (∀ g, u.ownBlock = some g → ¬ Foot b v g) ∧ Kept w wr

theorem plays_push {w wr w1 w2 : World} {b k g cap : Nat} {u v : Value} {xs : List Int} {z : Int} {tmp : Obj} (hk : xs.length ≤ k) (hs : Stk wr 37 3 w.heap.size b v (ints xs)) (hr : wr.ownsRow w.heap.size 3 1 u xs.length (ints xs))
    (hd : ∀ g, u.ownBlock = some g → ¬ Foot b v g) (hK : Kept w wr) (hp : Pushed 37 3 w.heap.size b v (ints xs ++ [.int .i64 z]) wr w1)
    (hown : w2.ownsRow w.heap.size 3 1 (.slice (some ⟨g, 0, none⟩) (xs.length + 1) cap) (xs.length + 1) (ints xs ++ [.int .i64 z])) (hgrow : (w1.alloc tmp).grownBy w2 u.ownBlock) (hat : u.ownBlock = some g ∨ g = w1.heap.size + 1) :
    PlaysAt w b (.slice (some ⟨g, 0, none⟩) (xs.length + 1) cap) (k + 1) w2 := by
  obtain ⟨v', hs', ht, hf⟩ := hp
  have t2 : Turned (fun k => u.ownBlock = some k) w1 w2 := (Turned.alloc _ w1 tmp).trans (Turned.of_grownBy hgrow (fun _ h => h)) (fun _ h => h) (fun _ _ h => h)
  have hd' : ∀ g, u.ownBlock = some g → ¬ Foot b v' g := fun g hg hfg => (hf g hfg).elim (hd g hg) (fun h => by have := (hr.lt g hg).2; omega)
  have low : ∀ g, u.ownBlock = some g → w.heap.size ≤ g := fun g hg => (hr.lt g hg).1
  have hK1 : Kept w w1 := hK.trans ht (fun _ h => h) (fun i hi h => by have := (hs.lt i h).1; omega)
  refine ⟨v', xs ++ [z], by simp; omega, ?_, by simpa using hown, ?_, hK1.trans t2 (fun _ h => h) (fun i hi h => by have := low i h; omega)⟩
  · have := hs'.turned t2 (fun k hk h => hd' k h hk)
    simpa using this
  · intro g' hg'
    obtain rfl : g = g' := by simpa [Value.ownBlock] using hg'
    rcases hat with h | h
    · exact hd' g h
    · intro hfg
      have := (hs'.lt g hfg).2
      omega

theorem plays_pop {w wr w1 : World} {b k g cap : Nat} {v : Value} {ys : List Int} {y : Int} (hk : ys.length + 1 ≤ k) (hs : Stk wr 37 3 w.heap.size b v (ints ys ++ [.int .i64 y]))
    (hr : wr.ownsRow w.heap.size 3 1 (.slice (some ⟨g, 0, none⟩) (ys.length + 1) cap) (ys.length + 1) (ints ys ++ [.int .i64 y]))
    (hd : ¬ Foot b v g) (hK : Kept w wr) (hp : Popped 37 3 w.heap.size b v (ints ys) wr w1) :
    PlaysAt w b (.slice (some ⟨g, 0, none⟩) ys.length cap) (k + 1) w1 := by
  obtain ⟨v', hs', ht, hf⟩ := hp
  refine ⟨v', ys, by omega, hs', ?_, ?_, hK.trans ht (fun _ h => h) (fun i hi h => by have := (hs.lt i h).1; omega)⟩
  · have h1 := ownsRow_pop (by simp) hr
    exact ownsRow_turned h1 ht (fun g' hg' => by
      obtain rfl : g = g' := by simpa [Value.ownBlock] using hg'
      exact hd)
  · intro g' hg'
    obtain rfl : g = g' := by simpa [Value.ownBlock] using hg'
    exact fun h => hd (hf g h)

/-- A slice that owns its row reads as what is there. -/
theorem reads_of_row {w : World} {n₀ : Nat} {a : Option Addr} {cap : Nat} {xs : List Int} (h : w.ownsRow n₀ 3 1 (.slice a xs.length cap) xs.length (ints xs)) : Reads w a xs := by
  rcases h.2 with ⟨_, h0⟩ | ⟨g, cap', cur, hv, _⟩
  · exact .inl (List.eq_nil_of_length_eq_zero h0)
  · cases hv
    refine .inr ⟨g, 0, rfl, fun j z hz => ?_⟩
    have hj := (List.getElem?_eq_some_iff.1 hz).1
    rw [Nat.zero_add, h.cellAt j (by omega), List.getElem?_map, hz]
    rfl

set_option maxRecDepth 100000 in
set_option maxHeartbeats 4000000 in
theorem stackPlays_c (w : World) (a0 : Option Addr) (cap0 : Nat) (zs : List Int) (hr : Reads w a0 zs) :
    Calls Try.prog 4 #[.slice a0 zs.length cap0] w fun e w' => e = .returned (.bool true) ∧ Kept w w' := by
  have HR := Lib.hid hr
  clear hr
  have h0 : PlaysAt w w.heap.size (.slice none 0 0) 0 (w.alloc (.cells #[.slice none 0 0] 37)) :=
    ⟨_, [], Nat.zero_le _, stk_new w 37 3 w.heap.size (Nat.le_refl _), World.ownsRow_nil _ _ _ _, fun g hg => by simp [Value.ownBlock] at hg, Turned.alloc _ _ _⟩
  have H0 := Lib.hid h0
  clear h0
  obtain ⟨i0, hi, hz0, hz1, hz2⟩ := info_parts info3
  go_enter Try.func4, Try.ntmps4
  go_wp2
  go_loopw [4, 5] (fun u i wr => ∃ k : Nat, k ≤ zs.length ∧ k ≤ 300 ∧ i = .int .i64 k ∧ Hid (PlaysAt w w.heap.size u k wr))
    (fun _ i _ => 300 - (intOf i).toNat)
  case atStart => exact ⟨0, Nat.zero_le _, by omega, rfl, H0⟩
  case round =>
    obtain ⟨k, hk1, hk2, rfl, hP⟩ := hrel
    clear H0
    obtain ⟨v, xs, hx, hs, hw, hd, hK⟩ := hP.out
    obtain ⟨a, cap, rfl⟩ := ownsRow_form hw
    have HS := Lib.hid hs
    have HW := Lib.hid hw
    have HD := Lib.hid hd
    have HK := Lib.hid hK
    have hsz := hK.size
    clear hP hs hw hd hK
    by_cases hlt : k < zs.length ∧ k < 300
    · obtain ⟨hlt1, hlt2⟩ := hlt
      obtain ⟨z, hz⟩ : ∃ z, zs[k]? = some z := ⟨_, List.getElem?_eq_getElem hlt1⟩
      obtain ⟨bl, off, ha, hbl, hrow⟩ : ∃ bl off, a0 = some ⟨bl, off, none⟩ ∧ bl < w.heap.size ∧ w.cell? ⟨bl, off + k, none⟩ = some (.int .i64 z) := by
        rcases HR.out with h | ⟨bl, off, ha, hc⟩
        · rw [h] at hz
          simp at hz
        · exact ⟨bl, off, ha, World.block_lt_of_cell? _ _ (hc k z hz), hc k z hz⟩
      subst ha
      have hrow1 := HK.out.cell hrow id
      clear hz
      by_cases hz3 : z.tmod 3 = 0
      · have hb1 : (z.tmod 3 != 0) = false := by rw [hz3]; rfl
        have hb2 : (z.tmod 3 == 0) = true := by rw [hz3]; rfl
        clear hz3
        clear hi hz0 hz1 hz2
        rcases List.eq_nil_or_concat xs with hxs | ⟨ys, y, hxs⟩
        · subst hxs
          go_wp2_with fail
          refine (pop0_i _ w.heap.size _ _ HS.out).mono ?_
          rintro e w1 ⟨rfl, rfl⟩
          go_wp2
          exact ⟨⟨k + 1, by omega, by omega, by go_num, Lib.hid ⟨v, [], by simp, HS.out, HW.out, HD.out, HK.out⟩⟩, by simp [intOf]; omega⟩
        · rw [List.concat_eq_append] at hxs
          subst hxs
          have hs2 : Stk wr 37 3 w.heap.size w.heap.size v (ints ys ++ [.int .i64 y]) := by have := HS.out; simpa using this
          have hw2 : wr.ownsRow w.heap.size 3 1 (.slice a (ys.length + 1) cap) (ys.length + 1) (ints ys ++ [.int .i64 y]) := by have := HW.out; simpa using this
          obtain ⟨g, cap', e⟩ := ownsRow_succ hw2
          cases e
          have hd2 : ¬ Foot w.heap.size v g := HD.out g (by simp [Value.ownBlock])
          have hx2 : ys.length + 1 ≤ k := by simpa using hx
          have hcy : wr.cell? ⟨g, ys.length, none⟩ = some (.int .i64 y) := by rw [hw2.cellAt ys.length (by omega)]; simp
          have hcap : ys.length + 1 ≤ cap := by
            rcases hw2.2 with ⟨h', _⟩ | ⟨g', cap', cur, h', _, _, hnc, _⟩
            · cases h'
            · cases h'
              exact hnc
          have HS2 := Lib.hid hs2
          have HW2 := Lib.hid hw2
          have HD2 := Lib.hid hd2
          clear hs2 hw2 hd2 HS HW HD hx
          go_wp2_with fail
          refine (pop1_i _ w.heap.size _ _ _ y HS2.out).mono ?_
          rintro e w1 ⟨rfl, hp⟩
          have HF := Lib.hid (plays_pop hx2 HS2.out HW2.out HD2.out HK.out hp)
          have hcy1 : w1.cell? ⟨g, ys.length, none⟩ = some (.int .i64 y) := by
            obtain ⟨_, _, ht, _⟩ := hp
            exact ht.cell hcy HD2.out
          clear hp hcy hrow1
          go_wp2
          exact ⟨⟨k + 1, by omega, by omega, by go_num, HF⟩, by simp [intOf]; omega⟩
      · have hb1 : (z.tmod 3 != 0) = true := by simpa using hz3
        have hb2 : (z.tmod 3 == 0) = false := by simpa using hz3
        clear hz3
        go_wp2_with fail
        refine (push_i _ w.heap.size _ _ _ z hsz (by simp; omega) HS.out).mono ?_
        rintro e w1 ⟨rfl, hp⟩
        have HP := Lib.hid hp
        have hs1 := hp.size
        have hrow2 : w1.cell? ⟨bl, off + k, none⟩ = some (.int .i64 z) := by
          obtain ⟨_, _, ht, _⟩ := hp
          exact ht.cell hrow1 (fun h => by have := (HS.out.lt _ h).1; simp at this; omega)
        have hw1 : w1.ownsRow w.heap.size 3 1 (.slice a xs.length cap) xs.length (ints xs) := by
          obtain ⟨_, _, ht, _⟩ := hp
          exact ownsRow_turned HW.out ht HD.out
        have hw2 := hw1.alloc (.cells #[.int .i64 z] 3)
        have hm2 : xs.length + 1 ≤ maxLen := by unfold maxLen; omega
        clear hp hrow1 hw1
        go_wp2_with (at_builtin; refine wpList_append_lies _ rfl _ _ 34 rfl w.heap.size 3 i0 (.int .i64 0) 1 8 Try.underlying34 hi hz0 hz1 hz2 rfl (by decide) (.slice a xs.length cap) xs.length (ints xs) rfl hw2 ⟨w1.heap.size, 0, none⟩ 1 1 [.int .i64 z] rfl rfl (cell_one_new _ _ _) (by simp [Value.oneCell']) (by decide) hm2 (by omega) (by simp; omega) (w1.heap.size + 1) (by simp) ?_; intro g cap' w2 hown hgrow hat hlt; have HF := Lib.hid (plays_push hx HS.out HW.out HD.out HK.out HP.out hown hgrow hat); clear hown hgrow hat hlt hw2)
        exact ⟨⟨k + 1, by omega, by omega, by go_num, HF⟩, by simp [intOf]; omega⟩
    · clear hi hz0 hz1 hz2
      go_wp2_with fail
      all_goals
        refine (known_c _).mono ?_
        rintro e w1 ⟨rfl, hk⟩
        have HS1 := Lib.hid (HS.out.turned hk (fun _ _ h => h))
        have HW1 := Lib.hid (ownsRow_turned HW.out hk (fun _ _ h => h))
        have HK1 := Lib.hid (HK.out.trans hk (fun _ h => h) (fun _ _ h => h))
        clear hk
        go_wp2_with fail
        refine (same_c _ w.heap.size _ _ xs a cap (by omega) HS1.out (reads_of_row HW1.out)).mono ?_
        rintro e w2 ⟨rfl, hk⟩
        have HK2 := Lib.hid (HK1.out.trans hk (fun _ h => h) (fun _ _ h => h))
        clear hk
        go_wp2
        go_ret
        exact ⟨rfl, HK2.out⟩
end Go.Proofs.Yteolopbklmbcmaa
