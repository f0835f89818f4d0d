/-
  What 'StackTurned' of the statements of chapter 3 answers, for any slice of ints: true; nothing that lay is turned.
-/
import Derived.Test.YteolopbklmbcmaaLeft
namespace Go.Proofs.Yteolopbklmbcmaa
open Go.RowKit Go.Shelf
attribute [local go_sem] Oper.semAt_some

theorem ints_drop {zs : List Int} {k : Nat} {z : Int} (h : zs[k]? = some z) : (ints (zs.drop k)).reverse = (ints (zs.drop (k + 1))).reverse ++ [.int .i64 z] := by
  obtain ⟨hk, rfl⟩ := List.getElem?_eq_some_iff.1 h
  unfold ints
  rw [List.drop_eq_getElem_cons hk, List.map_cons, List.reverse_cons]

/-- Two stacks share no block. -/
def Disj (b : Nat) (v : Value) (b' : Nat) (v' : Value) : Prop := ∀ k, Foot b v k → ¬ Foot b' v' k

theorem Disj.symm {b b' : Nat} {v v' : Value} (h : Disj b v b' v') : Disj b' v' b v := fun k h1 h2 => h k h2 h1

section
variable {w w' : World} {t e t2 e2 : TypeId} {n₀ n₂ b b2 : Nat} {v v2 : Value} {xs ys xs2 : List Value}
/-- A Push onto one stack leaves another that is apart from it, and they stay apart. -/
theorem push_apart (hp : Pushed t e n₀ b v ys w w') (h : Stk w t2 e2 n₂ b2 v2 xs2) (hd : Disj b v b2 v2) : Stk w' t2 e2 n₂ b2 v2 xs2 ∧ ∀ v', (∀ k, Foot b v' k → Foot b v k ∨ w.heap.size ≤ k) → Disj b v' b2 v2 := by
  obtain ⟨_, _, ht, _⟩ := hp
  refine ⟨h.turned ht (fun k h1 h2 => hd k h2 h1), fun v' hf k h1 h2 => ?_⟩
  rcases hf k h1 with h3 | h3
  · exact hd k h3 h2
  · have := (h.lt k h2).2
    omega
theorem pop_apart (hp : Popped t e n₀ b v ys w w') (h : Stk w t2 e2 n₂ b2 v2 xs2) (hd : Disj b v b2 v2) : Stk w' t2 e2 n₂ b2 v2 xs2 ∧ ∀ v', (∀ k, Foot b v' k → Foot b v k) → Disj b v' b2 v2 := by
  obtain ⟨_, _, ht, _⟩ := hp
  exact ⟨h.turned ht (fun k h1 h2 => hd k h2 h1), fun v' hf k h1 h2 => hd k (hf k h1) h2⟩
end

/-- Three stacks, apart from one another, and a box of the second one's pointer. -/
structure Three (w wr : World) (n : Nat) (va vb vc : Value) (xa xb xc : List Value) : Prop where
  a : Stk wr 37 3 n n va xa
  b : Stk wr 37 3 n (n + 1) vb xb
  c : Stk wr 37 3 n (n + 1 + 1) vc xc
  ab : Disj n va (n + 1) vb
  ac : Disj n va (n + 1 + 1) vc
  bc : Disj (n + 1) vb (n + 1 + 1) vc
  p : Boxed wr (n + 1 + 1 + 1) 35 (.pointer (some ⟨n + 1, 0, none⟩))
  k : Kept w wr
  le : w.heap.size ≤ n

namespace Three
variable {w wr w' : World} {n : Nat} {va vb vc : Value} {xa xb xc ys : List Value}
theorem pushA (h : Three w wr n va vb vc xa xb xc) (hp : Pushed 37 3 n n va ys wr w') : ∃ v', Three w w' n v' vb vc ys xb xc := by
  have hb := push_apart hp h.b h.ab
  have hc := push_apart hp h.c h.ac
  have hbox := hp.boxed h.a h.p (by decide) (by omega)
  obtain ⟨v', hs, ht, hf⟩ := hp
  exact ⟨v', hs, hb.1, hc.1, hb.2 v' hf, hc.2 v' hf, h.bc, hbox, h.k.trans ht (fun _ h => h) (fun i hi h' => by have := (h.a.lt i h').1; have := h.le; omega), h.le⟩
theorem pushC (h : Three w wr n va vb vc xa xb xc) (hp : Pushed 37 3 n (n + 1 + 1) vc ys wr w') : ∃ v', Three w w' n va vb v' xa xb ys := by
  have ha := push_apart hp h.a h.ac.symm
  have hb := push_apart hp h.b h.bc.symm
  have hbox := hp.boxed h.c h.p (by decide) (by omega)
  obtain ⟨v', hs, ht, hf⟩ := hp
  exact ⟨v', ha.1, hb.1, hs, h.ab, (ha.2 v' hf).symm, (hb.2 v' hf).symm, hbox, h.k.trans ht (fun _ h => h) (fun i hi h' => by have := (h.c.lt i h').1; have := h.le; omega), h.le⟩
theorem popB (h : Three w wr n va vb vc xa xb xc) (hp : Popped 37 3 n (n + 1) vb ys wr w') : ∃ v', Three w w' n va v' vc xa ys xc := by
  have ha := pop_apart hp h.a h.ab.symm
  have hc := pop_apart hp h.c h.bc
  have hbox := hp.boxed h.b h.p (by decide) (by omega)
  obtain ⟨v', hs, ht, hf⟩ := hp
  exact ⟨v', ha.1, hs, hc.1, (ha.2 v' hf).symm, h.ac, hc.2 v' hf, hbox, h.k.trans ht (fun _ h => h) (fun i hi h' => by have := (h.b.lt i h').1; have := h.le; omega), h.le⟩
theorem kept (h : Three w wr n va vb vc xa xb xc) (hk : Kept wr w') : Three w w' n va vb vc xa xb xc :=
  ⟨h.a.turned hk (fun _ _ h => h), h.b.turned hk (fun _ _ h => h), h.c.turned hk (fun _ _ h => h), h.ab, h.ac, h.bc, hk.boxed h.p id, h.k.trans hk (fun _ h => h) (fun _ _ h => h), h.le⟩
end Three

theorem three_new {w w1 : World} (hk : Kept w w1) : Three w ((((w1.alloc (.cells #[.slice none 0 0] 37)).alloc (.cells #[.slice none 0 0] 37)).alloc (.cells #[.slice none 0 0] 37)).alloc (.cells #[.pointer (some ⟨w1.heap.size + 1, 0, none⟩)] 35)) w1.heap.size (.slice none 0 0) (.slice none 0 0) (.slice none 0 0) [] [] [] := by
  have dj : ∀ b b' : Nat, b ≠ b' → Disj b (.slice none 0 0) b' (.slice none 0 0) := fun b b' hne k h1 h2 => by
    rcases h1 with rfl | h1
    · rcases h2 with h2 | h2
      · exact hne h2
      · simp [Value.ownBlock] at h2
    · simp [Value.ownBlock] at h1
  refine ⟨⟨Nat.le_refl _, ((((Boxed.new w1 37 _).alloc _).alloc _).alloc _), World.ownsRow_nil _ _ _ _⟩, ⟨by omega, ?_, World.ownsRow_nil _ _ _ _⟩, ⟨by omega, ?_, World.ownsRow_nil _ _ _ _⟩, dj _ _ (by omega), dj _ _ (by omega), dj _ _ (by omega), ?_, Kept.alloc (Kept.alloc (Kept.alloc (hk.alloc _) _) _) _, hk.size⟩
  · have := ((Boxed.new (w1.alloc (.cells #[.slice none 0 0] 37)) 37 (.slice none 0 0)).alloc (.cells #[.slice none 0 0] 37)).alloc (.cells #[.pointer (some ⟨w1.heap.size + 1, 0, none⟩)] 35)
    rwa [World.size_alloc] at this
  · have := (Boxed.new ((w1.alloc (.cells #[.slice none 0 0] 37)).alloc (.cells #[.slice none 0 0] 37)) 37 (.slice none 0 0)).alloc (.cells #[.pointer (some ⟨w1.heap.size + 1, 0, none⟩)] 35)
    rwa [World.size_alloc, World.size_alloc] at this
  · have := Boxed.new (((w1.alloc (.cells #[.slice none 0 0] 37)).alloc (.cells #[.slice none 0 0] 37)).alloc (.cells #[.slice none 0 0] 37)) 35 (.pointer (some ⟨w1.heap.size + 1, 0, none⟩))
    rwa [World.size_alloc, World.size_alloc, World.size_alloc] at this

set_option maxRecDepth 100000 in
set_option maxHeartbeats 4000000 in
theorem stackTurned_c (w : World) (a0 : Option Addr) (cap0 : Nat) (zs0 : List Int) (hcap : zs0.length ≤ cap0) (hr : Reads w a0 zs0) :
    Calls Try.prog 7 #[.slice a0 zs0.length cap0] w fun e w' => e = .returned (.bool true) ∧ Kept w w' := by
  obtain ⟨zs, hzs⟩ : ∃ zs, zs0.take 200 = zs := ⟨_, rfl⟩
  have hm : min zs0.length 200 = zs.length := by rw [← hzs, List.length_take]; omega
  have hm2 : zs.length ≤ 200 := by omega
  have HR : Hid (Reads w a0 zs) := Lib.hid (by rw [← hzs]; exact reads_take hr (Turned.refl _ _) 200)
  clear hr hzs
  refine calls_marks Try.func7 rfl ?_
  simp only [Try.ntmps7, List.size_toArray, List.length_cons, List.length_nil, Nat.reduceAdd, Nat.reduceSub, Array.replicate_succ, Array.replicate_zero, List.push_toArray, List.append_toArray, List.nil_append, List.cons_append]
  go_wp2_with fail
  refine (known_c _).mono ?_
  rintro e w1 ⟨rfl, hk⟩
  have H0 := Lib.hid (three_new hk)
  clear hk
  go_wp2_with (go_at_call 17; refine (few_c _ _ _ _ hcap).mono ?_; rintro e w' ⟨rfl, rfl⟩)
  obtain ⟨n, hn⟩ : ∃ n, w1.heap.size = n := ⟨_, rfl⟩
  rw [hn] at H0 ⊢
  clear hm hcap
  go_loopw [24] (fun i wr => ∃ (k : Nat) (va : Value), k ≤ zs.length ∧ i = .int .i64 k ∧ Hid (Three w wr n va (.slice none 0 0) (.slice none 0 0) (ints (zs.take k)) [] []))
    (fun i _ => zs.length - (intOf i).toNat)
  case atStart => exact ⟨0, _, Nat.zero_le _, rfl, H0⟩
  case round =>
    obtain ⟨k, va, hk, rfl, HT⟩ := hrel
    clear H0 hn
    by_cases hlt : k < zs.length
    · obtain ⟨z, hz⟩ : ∃ z, zs[k]? = some z := ⟨_, List.getElem?_eq_getElem hlt⟩
      obtain ⟨bl, off, ha, hrow⟩ : ∃ bl off, a0 = some ⟨bl, off, none⟩ ∧ wr.cell? ⟨bl, off + k, none⟩ = some (.int .i64 z) := by
        rcases HR.out with h | ⟨bl, off, ha, hc⟩
        · rw [h] at hz
          simp at hz
        · exact ⟨bl, off, ha, HT.out.k.cell (hc k z hz) id⟩
      subst ha
      have HE := Lib.hid (ints_take_succ hz)
      have hsz : n ≤ wr.heap.size := by have := HT.out.a.box.lt; omega
      clear hz
      go_wp2_with fail
      refine (push_i _ n _ _ _ z hsz (by simp; omega) HT.out.a).mono ?_
      rintro e w2 ⟨rfl, hp⟩
      obtain ⟨v1, h1⟩ := HT.out.pushA hp
      rw [← HE.out] at h1
      have HT1 := Lib.hid h1
      clear hp h1 hrow HT
      go_wp2
      exact ⟨⟨k + 1, v1, by omega, by go_num, HT1⟩, by simp [intOf]; omega⟩
    · obtain rfl : k = zs.length := by omega
      have hT := HT.out
      rw [List.take_length] at hT
      have HT2 := Lib.hid hT
      clear HT hT hk hlt
      go_wp2_with (go_at_call 19; refine (all_i _ _).mono ?_; rintro e w' ⟨rfl, rfl⟩)
      obtain ⟨W5, hW5⟩ : ∃ W5, wr.alloc (.cells #[.pointer (some ⟨n, 0, none⟩)] 35) = W5 := ⟨_, rfl⟩
      have T5 : Three w W5 n va (.slice none 0 0) (.slice none 0 0) (ints zs) [] [] := by
        rw [← hW5]
        exact HT2.out.kept (Turned.alloc _ _ _)
      have bA : Boxed W5 wr.heap.size 35 (.pointer (some ⟨n, 0, none⟩)) := by
        rw [← hW5]
        exact Boxed.new _ _ _
      have z5 : W5.heap.size = wr.heap.size + 1 := by rw [← hW5, World.size_alloc]
      have zp : n + 1 + 1 + 1 < wr.heap.size := HT2.out.p.lt
      have fO : ∀ k, Foot (n + 1) (.slice none 0 0) k → k = n + 1 := fun k hk => by
        rcases hk with h | h
        · exact h
        · simp [Value.ownBlock] at h
      have HT5 := Lib.hid T5
      have HKW : Hid (w.heap.size ≤ W5.heap.size) := Lib.hid T5.k.size
      clear T5 HT2
      rw [hW5]
      clear hW5
      refine wp_range' (gf := 24) (lb := #[.pointer (some ⟨wr.heap.size, 0, none⟩)]) rfl (enters_of Try.func24 (by kernel_rfl) rfl) (encs := fun x : Value => #[x]) (xs := (ints zs).reverse) (R := fun j => j = wr.heap.size ∨ Foot n va j)
        (fun X hX => all1_i X n n _ _ _ (hX.boxed bA id) (HT5.out.a.turned hX (fun _ _ h => h))) (fun _ => rfl)
        (Foot (n + 1) (.slice none 0 0))
        (fun O pre A => ∃ vb, (∀ k, O k ↔ Foot (n + 1) vb k) ∧ Stk A 37 3 n (n + 1) vb pre)
        (fun _ _ _ _ => False) ?hR
        ⟨fun O pre A B h ht => by
          obtain ⟨vb, hO, hs⟩ := h
          exact ⟨vb, hO, hs.turned ht (fun k hk hn => hn ((hO k).2 hk))⟩, fun O pre A h j hj => by
          obtain ⟨vb, hO, hs⟩ := h
          exact (hs.lt j ((hO j).1 hj)).2⟩
        (fun _ => ⟨fun _ _ _ _ h _ => h, fun _ _ _ h => h.elim⟩) ⟨_, fun _ => Iff.rfl, HT5.out.b⟩
        (fun x => { tmps := #[.slice a0 zs.length cap0, undef, .bool false, .pointer (some ⟨n, 0, none⟩), .pointer (some ⟨n + 1 + 1 + 1, 0, none⟩), .pointer (some ⟨n + 1 + 1, 0, none⟩), undef, u7, x, undef, undef, undef, .bool true, .bool false, .slice a0 zs0.length cap0, .slice a0 zs.length cap0, .agg #[.slice none 0 0], .pointer (some ⟨n, 0, none⟩), .agg #[.slice none 0 0], .pointer (some ⟨n + 1, 0, none⟩), .agg #[.slice none 0 0], .pointer (some ⟨n + 1 + 1, 0, none⟩), .slice a0 zs.length cap0, .int .i64 zs.length, .int .i64 zs.length, .bool false, u26, u27, u28, u29, u30, u31, .pointer (some ⟨n, 0, none⟩), .func (.func 24) #[] #[.pointer (some ⟨wr.heap.size, 0, none⟩)], x, undef, undef, undef, undef, undef, undef, undef, undef, undef, undef, undef, undef, undef, undef, undef, undef, undef, undef, undef, undef, undef, undef, undef, undef, undef, undef, undef, undef, undef, undef, undef, undef, undef, undef, undef, undef, undef, undef, undef, undef, undef, undef, undef], defers := [] }) ?assign ?body ?done ?stop
      case hR =>
        rintro j (rfl | hj)
        · exact ⟨by omega, fun h => by have := fO _ h; omega⟩
        · exact ⟨(HT5.out.a.lt j hj).2, HT5.out.ab j hj⟩
      case assign =>
        intro l' x X K hK
        gi_wp2
        exact hK
      case stop =>
        rintro D O c pre rest X hD nD tX sX hx h
        exact h.elim
      case body =>
        intro l' O pre x rest A hx tA sA hI
        obtain ⟨z, _, rfl, hlen⟩ := rev_at hx
        obtain ⟨vb, hO, hs⟩ := hI
        have hcP := tA.cell HT5.out.p.cell (fun h => by have h' : n + 1 + 1 + 1 = n + 1 := fO _ h; omega)
        have hz : n ≤ A.heap.size := by have := hs.box.lt; omega
        have HS := Lib.hid hs
        have HO := Lib.hid hO
        clear hx tA sA hs hO bA
        gi_wp2_with fail
        refine ⟨trivial, ?_⟩
        refine (CallsIn.inRound l' (callsIn_wide.2 (push_i A n _ _ _ z hz (by omega) HS.out))).mono ?_
        rintro e A2 ⟨rfl, hp⟩
        have HP := Lib.hid hp
        clear hp
        gi_wp2
        obtain ⟨v', hs', ht, hf⟩ := HP.out
        exact ⟨Foot (n + 1) v', fun k hk => (hf k hk).imp (HO.out k).2 id, ht.mono (fun k _ hk => (HO.out k).2 hk), v', fun _ => Iff.rfl, hs'⟩
      case done =>
        rintro D O X hD nD tX sX ⟨vb, hO, hs⟩ hK
        have hT : Three w X n va vb (.slice none 0 0) (ints zs) (ints zs).reverse [] := by
          have T5 := HT5.out
          have far : ∀ b v (xs : List Value), Stk W5 37 3 n b v xs → Disj b v (n + 1) (.slice none 0 0) → Disj b v (n + 1) vb := fun b v xs hb hd k h1 h2 => by
            rcases sX k ((hO k).2 h2) with h3 | h3
            · exact hd k h1 h3
            · have := (hb.lt k h1).2
              omega
          exact ⟨T5.a.turned tX T5.ab, hs, T5.c.turned tX T5.bc.symm, far _ _ _ T5.a T5.ab, T5.ac, (far _ _ _ T5.c T5.bc.symm).symm, tX.boxed T5.p (fun h => by have h' : n + 1 + 1 + 1 = n + 1 := fO _ h; omega), T5.k.trans tX (fun _ h => h) (fun i hi h => by have := fO i h; have := T5.le; omega), T5.le⟩
        have HT := Lib.hid hT
        have HD := Lib.hid hK
        have HDI := Lib.hid hD
        clear hT hs hO hK tX sX nD bA HT5 z5 zp fO hD
        go_wp2
        go_loopw [9] (fun i wr => ∃ (k : Nat) (vb vc : Value), k ≤ zs.length ∧ i = .int .i64 k ∧ Hid (Three w wr n va vb vc (ints zs) (ints (zs.drop k)).reverse (ints (zs.take k))) ∧ Hid (wr.heap[D]? = some (.deferred (some []))))
          (fun i _ => zs.length - (intOf i).toNat)
        case atStart => exact ⟨0, _, _, Nat.zero_le _, rfl, HT, HD⟩
        case round =>
          obtain ⟨k, vb', vc', hk, rfl, HU, HE⟩ := hrel
          clear HT HD
          by_cases hlt : k < zs.length
          · obtain ⟨z, hz⟩ : ∃ z, zs[k]? = some z := ⟨_, List.getElem?_eq_getElem hlt⟩
            obtain ⟨bl, off, ha, hbl, hrow⟩ : ∃ bl off, a0 = some ⟨bl, off, none⟩ ∧ bl < w.heap.size ∧ w.cell? ⟨bl, off + k, none⟩ = some (.int .i64 z) := by
              rcases HR.out with h | ⟨bl, off, ha, hc⟩
              · rw [h] at hz
                simp at hz
              · exact ⟨bl, off, ha, World.block_lt_of_cell? _ _ (hc k z hz), hc k z hz⟩
            subst ha
            have HG := Lib.hid (ints_take_succ hz)
            have hdr := ints_drop hz
            have hU := HU.out
            rw [hdr] at hU
            have HU1 := Lib.hid hU
            have hcP := hU.p.cell
            have HRW := Lib.hid hrow
            clear hU hdr HU hz hrow
            go_wp2_with fail
            refine (pop1_i _ n _ _ _ z HU1.out.b).mono ?_
            rintro e w2 ⟨rfl, hp⟩
            obtain ⟨v2, h2⟩ := HU1.out.popB hp
            have HU2 := Lib.hid h2
            have HE2 := Lib.hid (hp.others HU1.out.b HE.out rfl)
            have hrow2 := h2.k.cell HRW.out id
            have hz2 : n ≤ w2.heap.size := by have := h2.a.box.lt; omega
            clear hp h2 HU1 HE hcP
            go_wp2_with fail
            refine (push_i _ n _ _ _ z hz2 (by simp; omega) HU2.out.c).mono ?_
            rintro e w3 ⟨rfl, hp⟩
            obtain ⟨v3, h3⟩ := HU2.out.pushC hp
            rw [← HG.out] at h3
            have HU3 := Lib.hid h3
            have HE3 := Lib.hid (hp.others HU2.out.c HE2.out rfl)
            clear hp h3 HU2 HE2 hrow2 hz2
            go_wp2
            exact ⟨⟨k + 1, v2, v3, by omega, by go_num, HU3, HE3⟩, by simp [intOf]; omega⟩
          · obtain rfl : k = zs.length := by omega
            have hU := HU.out
            rw [List.take_length, List.drop_length] at hU
            have HU1 := Lib.hid hU
            clear hU HU hk hlt
            go_wp2_with fail
            refine (known_c _).mono ?_
            rintro e w2 ⟨rfl, hk⟩
            have HU2 := Lib.hid (HU1.out.kept hk)
            have HE2 := Lib.hid (hk.heap HE.out id)
            have HR2 : Hid (Reads w2 a0 zs) := Lib.hid (by have := reads_take HR.out HU2.out.k zs.length; rwa [List.take_length] at this)
            clear hk HU1 HE
            go_wp2_with fail
            refine (same_c _ n _ _ zs a0 cap0 (by omega) HU2.out.c HR2.out).mono ?_
            rintro e w3 ⟨rfl, hk⟩
            have HU3 := Lib.hid (HU2.out.kept hk)
            have HE3 := Lib.hid (hk.heap HE2.out id)
            have HR3 : Hid (Reads w3 a0 zs) := Lib.hid (by have := reads_take HR.out HU3.out.k zs.length; rwa [List.take_length] at this)
            clear hk HU2 HE2 HR2
            go_wp2_with fail
            refine (same_c _ n _ _ zs a0 cap0 (by omega) HU3.out.a HR3.out).mono ?_
            rintro e w4 ⟨rfl, hk⟩
            have HU4 := Lib.hid (HU3.out.kept hk)
            have hD4 := hk.heap HE3.out id
            have hcP := HU4.out.p.cell
            clear hk HU3 HE3 HR3
            go_wp2_with fail
            refine (len_i _ n _ _ _ HU4.out.b).mono ?_
            rintro e w5 ⟨rfl, rfl⟩
            go_wp2
            refine ⟨by simp, .inl ⟨_, _, rfl, run_takeDeferred hD4, ?_⟩⟩
            exact ⟨_, results_tmp rfl _ _ _, rfl, HU4.out.k.trans (Turned.putObj (R := fun k => k = D) _ D _ rfl) (fun _ h => h) (fun i hi h => by have := HDI.out; have := HKW.out; omega)⟩
end Go.Proofs.Yteolopbklmbcmaa
