/-
  What the proof of YtbojjpmcopnjpaaViewKnownProof goes by, part 4 of 5: contracts and plain facts; each part begins with its own sentence. No conditions beyond each theorem's own.
-/
import Derived.Test.YtbojjpmcopnjpaaKno3
import Derived.Test.YtbojjpmcopnjpaaRows
import Derived.Laws.OwnMore
import Derived.Maps.OwnIn
import Derived.Maps.AppendAt
/-! Plain arithmetic of chapter 5: an ideal tree is shallow, and the examples of the chapter; no Go in sight. -/
namespace Go.Proofs.Ytbojjpmcopnjpaa.Pt
open Go

/-! ### An ideal tree is shallow -/
theorem first_le {n S : Int} (h : 0 < degZ n) (hS : n ≤ degZ n * S) : sizeZ n 0 ≤ S ∧ eachZ n ≤ S := by
  obtain ⟨s1, s2, s3⟩ := split_eq h
  have a : eachZ n ≤ S := by
    rcases Int.lt_or_le S (eachZ n) with k | k
    · have : degZ n * (S + 1) ≤ degZ n * eachZ n := Int.mul_le_mul_of_nonneg_left (by omega) (by omega)
      rw [Int.mul_add] at this
      omega
    · exact k
  rcases size_first h with ⟨f1, f2⟩ | ⟨f1, f2⟩
  · refine ⟨?_, a⟩
    rw [f2]
    rcases Int.lt_or_le (eachZ n) S with k | k
    · omega
    · have : degZ n * S ≤ degZ n * eachZ n := Int.mul_le_mul_of_nonneg_left (by omega) (by omega)
      omega
  · rw [f2]; exact ⟨a, a⟩
theorem dep_up {n S B : Int} (hB : 0 ≤ B) (hS : 0 < degZ n → n ≤ degZ n * S) (hm : ∀ m : Int, m ≤ S → depZ m ≤ B) : depZ n ≤ 1 + B := by
  have d := deg_nat n
  by_cases c : degZ n = 0
  · rw [dep_eq, if_pos c]; omega
  · obtain ⟨a, b⟩ := first_le (n := n) (S := S) (by omega) (hS (by omega))
    have a' := hm _ a
    have b' := hm _ b
    rw [dep_some (by omega)]
    omega
theorem wide {n K : Int} (h : 2 ≤ n) (h' : n ≤ 16384) (hK : 2 ≤ K) (hn : n ≤ (K - 1) * K) : n ≤ degZ n * K := by
  obtain ⟨r1, r2, r3⟩ := root_bound h h'
  obtain ⟨g0, g1, g2⟩ := root_spec (n := n) (by omega)
  obtain ⟨d1, d2, d3⟩ := deg_bound h h'
  have dr : rootZ n ≤ degZ n := by rw [deg_some h h']; omega
  have a : rootZ n * K ≤ degZ n * K := Int.mul_le_mul_of_nonneg_right dr (by omega)
  rcases Int.lt_or_le (rootZ n) (K - 1) with k | k
  · have b : rootZ n * (rootZ n + 2) ≤ rootZ n * K := Int.mul_le_mul_of_nonneg_left (by omega) (by omega)
    have c : (rootZ n + 1) * (rootZ n + 1) = rootZ n * (rootZ n + 2) + 1 := by
      simp only [Int.add_mul, Int.mul_add]; omega
    omega
  · have b : (K - 1) * K ≤ rootZ n * K := Int.mul_le_mul_of_nonneg_right (by omega) (by omega)
    omega
theorem dep_1 (m : Int) (h : m ≤ 1) : depZ m ≤ 0 := by rw [dep_none (by omega)]; omega
theorem dep_2 (m : Int) (h : m ≤ 2) : depZ m ≤ 1 := dep_up (S := 1) (B := 0) (by omega) (fun d => by have := deg_pos d; have := deg_bound this.1 this.2; omega) dep_1
theorem dep_4 (m : Int) (h : m ≤ 4) : depZ m ≤ 2 := dep_up (S := 2) (B := 1) (by omega) (fun d => by have := deg_pos d; have := deg_bound this.1 this.2; omega) dep_2
theorem dep_12 (m : Int) (h : m ≤ 12) : depZ m ≤ 3 := dep_up (S := 4) (B := 2) (by omega) (fun d => by have := deg_pos d; exact wide this.1 this.2 (by omega) (by omega)) dep_4
theorem dep_132 (m : Int) (h : m ≤ 132) : depZ m ≤ 4 := dep_up (S := 12) (B := 3) (by omega) (fun d => by have := deg_pos d; exact wide this.1 this.2 (by omega) (by omega)) dep_12
theorem dep_all (m : Int) : depZ m ≤ 5 := dep_up (S := 132) (B := 4) (by omega) (fun d => by have := deg_pos d; exact wide this.1 this.2 (by omega) (by omega)) dep_132
theorem bits_ge {n : Int} (k : Nat) (h : ((2 ^ k : Nat) : Int) ≤ n) (h' : n ≤ 9223372036854775807) : (k : Int) + 1 ≤ bitsZ n := by
  have p : 1 ≤ 2 ^ k := Nat.one_le_two_pow
  obtain ⟨L, e, l1, l2, b1, b2⟩ := bits_spec (n := n) (by omega) h'
  rw [e]
  rcases Nat.lt_or_ge k L with g | g
  · omega
  · have : 2 ^ L ≤ 2 ^ k := Nat.pow_le_pow_right (by omega) g
    omega
theorem shallow {n : Int} (h : 2 ≤ n) (h' : n ≤ 16384) : 1 ≤ depZ n ∧ depZ n ≤ 1 + bitsZ (bitsZ n) := by
  have d := deg_bound h h'
  refine ⟨?_, ?_⟩
  · rw [dep_some (by omega)]
    have := dep_nat (eachZ n)
    omega
  · have b0 := bits_le n (by omega)
    by_cases c : n < 8
    · have a := dep_12 n (by omega)
      have b := bits_ge (n := n) 1 (by omega) (by omega)
      have e := bits_ge (n := bitsZ n) 1 (by omega) (by omega)
      omega
    · by_cases c2 : n < 128
      · have a := dep_132 n (by omega)
        have b := bits_ge (n := n) 3 (by omega) (by omega)
        have e := bits_ge (n := bitsZ n) 2 (by omega) (by omega)
        omega
      · have a := dep_all n
        have b := bits_ge (n := n) 7 (by omega) (by omega)
        have e := bits_ge (n := bitsZ n) 3 (by omega) (by omega)
        omega

/-! ### The chapter's examples -/
theorem deg_is {n r : Int} (h : 2 ≤ n) (h' : n ≤ 16384) (hr : 0 ≤ r) (h1 : r * r ≤ n) (h2 : n < (r + 1) * (r + 1)) : degZ n = max 2 r := by
  rw [deg_some h h', root_unique hr h1 h2]
theorem deg_2 : degZ 2 = 2 := deg_is (r := 1) (by decide) (by decide) (by decide) (by decide) (by decide)
theorem deg_3 : degZ 3 = 2 := deg_is (r := 1) (by decide) (by decide) (by decide) (by decide) (by decide)
theorem deg_4 : degZ 4 = 2 := deg_is (r := 2) (by decide) (by decide) (by decide) (by decide) (by decide)
theorem deg_8 : degZ 8 = 2 := deg_is (r := 2) (by decide) (by decide) (by decide) (by decide) (by decide)
theorem deg_9 : degZ 9 = 3 := deg_is (r := 3) (by decide) (by decide) (by decide) (by decide) (by decide)
theorem deg_11 : degZ 11 = 3 := deg_is (r := 3) (by decide) (by decide) (by decide) (by decide) (by decide)
theorem deg_16 : degZ 16 = 4 := deg_is (r := 4) (by decide) (by decide) (by decide) (by decide) (by decide)
theorem deg_100 : degZ 100 = 10 := deg_is (r := 10) (by decide) (by decide) (by decide) (by decide) (by decide)
theorem deg_full : degZ 16384 = 128 := deg_is (r := 128) (by decide) (by decide) (by decide) (by decide) (by decide)
theorem size_11_0 : sizeZ 11 0 = 4 := by simp [sizeZ, eachZ, moreZ, deg_11]
theorem size_11_2 : sizeZ 11 2 = 3 := by simp [sizeZ, eachZ, moreZ, deg_11]
theorem size_11_3 : sizeZ 11 3 = 0 := size_none (Or.inr (by rw [deg_11]; decide))
theorem from_11_2 : fromZ 11 2 = 8 := by simp [fromZ, aheadZ, eachZ, moreZ, deg_11]
theorem dep_is_0 : depZ 0 = 0 := dep_none (by decide)
theorem dep_is_1 : depZ 1 = 0 := dep_none (by decide)
theorem dep_is_2 : depZ 2 = 1 := by rw [dep_eq]; simp [sizeZ, eachZ, moreZ, deg_2, dep_is_1]
theorem dep_is_3 : depZ 3 = 2 := by rw [dep_eq]; simp [sizeZ, eachZ, moreZ, deg_3, dep_is_1, dep_is_2]; rfl
theorem dep_is_4 : depZ 4 = 2 := by rw [dep_eq]; simp [sizeZ, eachZ, moreZ, deg_4, dep_is_2]
theorem dep_is_16 : depZ 16 = 3 := by rw [dep_eq]; simp [sizeZ, eachZ, moreZ, deg_16, dep_is_4]
theorem cel_is_0 : celZ 0 = 1 := rfl
theorem cel_is_1 : celZ 1 = 2 := rfl
theorem cel_is_2 : celZ 2 = 12 := by rw [cel_some (by rw [deg_2]; decide)]; simp [eachZ, moreZ, deg_2, cel_is_1]
theorem cel_is_3 : celZ 3 = 22 := by rw [cel_some (by rw [deg_3]; decide)]; simp [eachZ, moreZ, deg_3, cel_is_1, cel_is_2]
end Go.Proofs.Ytbojjpmcopnjpaa.Pt

/-! What part.may, part.Degree, part.isPart, part.Limit and the document's Degree, Limit and Size answer, each in one sentence (a contract), for every number that may be handed to them. -/
namespace Go.Proofs.Ytbojjpmcopnjpaa.Pt
open Go.ChangeShapes Go.WideShapes Go.ChangeAt Go.RowKit

theorem may_yes (n : Int) (h : 0 ≤ n) (h' : n ≤ 16384) (w : World) :
    Calls Try.prog 77 #[.int .i64 n] w fun e w' => e = .returned (.bool true) ∧ w = w' := by
  go_enter Try.func77, Try.ntmps77
  go_wp2
  go_ret
  exact ⟨rfl, rfl⟩
theorem may_no (n : Int) (h : n < 0 ∨ 16384 < n) (w : World) :
    Calls Try.prog 77 #[.int .i64 n] w fun e w' => e = .returned (.bool false) ∧ w = w' := by
  rcases h with h | h
  · go_enter Try.func77, Try.ntmps77
    go_wp2
    go_ret
    exact ⟨rfl, rfl⟩
  · go_enter Try.func77, Try.ntmps77
    go_wp2
    go_ret
    exact ⟨congrArg (fun b => Ending.returned (.bool b)) (decide_eq_false (by omega)), rfl⟩

theorem deg_c (n : Int) (hn : (Lit.int .i64 n).wf = true) (w : World) :
    Calls Try.prog 92 #[.int .i64 n] w fun e w' => e = .returned (.int .i64 (degZ n)) ∧ w = w' := by
  have hn' := bounds_i64 hn
  by_cases c : n < 0 ∨ 16384 < n
  · have hc := may_no n c
    rw [deg_none (by omega)]
    clear hn
    go_enter Try.func92, Try.ntmps92
    go_wp2_with (go_at_call 77; refine (hc _).mono ?_; rintro e w' ⟨rfl, rfl⟩)
    go_ret
    exact ⟨rfl, rfl⟩
  · have hc := may_yes n (by omega) (by omega)
    by_cases c2 : n < 2
    · rw [deg_none (by omega)]
      clear hn
      go_enter Try.func92, Try.ntmps92
      go_wp2_with (go_at_call 77; refine (hc _).mono ?_; rintro e w' ⟨rfl, rfl⟩)
      go_ret
      exact ⟨rfl, rfl⟩
    · have hr := root_c n hn
      have b := root_bound (n := n) (by omega) (by omega)
      rw [deg_some (by omega) (by omega)]
      obtain ⟨r, er⟩ : ∃ r, rootZ n = r := ⟨_, rfl⟩
      rw [er] at hr b ⊢
      clear hn er
      go_enter Try.func92, Try.ntmps92
      go_wp2_with (first | (go_at_call 77; refine (hc _).mono ?_; rintro e w' ⟨rfl, rfl⟩) | (go_at_call 95; refine (hr _).mono ?_; rintro e w' ⟨rfl, rfl⟩))
      go_ret
      exact ⟨rfl, rfl⟩

theorem lim_c (n : Int) (hn : (Lit.int .i64 n).wf = true) (w : World) :
    Calls Try.prog 62 #[.int .i64 n] w fun e w' => e = .returned (.int .i64 (limZ n)) ∧ w = w' := by
  have hn' := bounds_i64 hn
  clear hn
  by_cases c : n < 0 ∨ 16384 < n
  · have hc := may_no n c
    have e : limZ n = 0 := by unfold limZ; rw [if_neg (by omega)]
    rw [e]
    clear e
    go_enter Try.func62, Try.ntmps62
    go_wp2_with (go_at_call 77; refine (hc _).mono ?_; rintro e w' ⟨rfl, rfl⟩)
    go_ret
    exact ⟨rfl, rfl⟩
  · have hc := may_yes n (by omega) (by omega)
    have e : limZ n = n / 4 + 2 := by unfold limZ; rw [if_pos (by omega)]
    rw [e]
    clear e
    go_enter Try.func62, Try.ntmps62
    go_wp2_with (go_at_call 77; refine (hc _).mono ?_; rintro e w' ⟨rfl, rfl⟩)
    go_ret
    exact ⟨rfl, rfl⟩
theorem lim_r (n : Int) (hn : (Lit.int .i64 n).wf = true) (w : World) :
    Calls Try.prog 49 #[.int .i64 n] w fun e w' => e = .returned (.int .i64 (limZ n)) ∧ w = w' := by
  have hn' := bounds_i64 hn
  clear hn
  by_cases c : n < 0
  · have e : limZ n = 0 := by unfold limZ; rw [if_neg (by omega)]
    rw [e]
    clear e
    go_enter Try.func49, Try.ntmps49
    go_wp2
    go_ret
    exact ⟨rfl, rfl⟩
  · by_cases c2 : 16384 < n
    · have e : limZ n = 0 := by unfold limZ; rw [if_neg (by omega)]
      rw [e]
      clear e
      go_enter Try.func49, Try.ntmps49
      go_wp2
      go_ret
      exact ⟨rfl, rfl⟩
    · have e : limZ n = n / 4 + 2 := by unfold limZ; rw [if_pos (by omega)]
      rw [e]
      clear e
      go_enter Try.func49, Try.ntmps49
      go_wp2
      go_ret
      exact ⟨rfl, rfl⟩

theorem part_c (n i : Int) (hn : (Lit.int .i64 n).wf = true) (w : World) :
    Calls Try.prog 93 #[.int .i64 n, .int .i64 i] w fun e w' => e = .returned (.bool (decide (0 ≤ i ∧ i < degZ n))) ∧ w = w' := by
  have hd := deg_c n hn
  have d := deg_nat n
  obtain ⟨z, ez⟩ : ∃ z, degZ n = z := ⟨_, rfl⟩
  rw [ez] at hd d ⊢
  clear hn ez
  by_cases c : i < 0
  · have e : decide (0 ≤ i ∧ i < z) = false := decide_eq_false (by omega)
    rw [e]
    clear e
    go_enter Try.func93, Try.ntmps93
    go_wp2
    go_ret
    exact ⟨rfl, rfl⟩
  · by_cases c2 : i < z
    · have e : decide (0 ≤ i ∧ i < z) = true := decide_eq_true (by omega)
      rw [e]
      clear e
      go_enter Try.func93, Try.ntmps93
      go_wp2_with (go_at_call 92; refine (hd _).mono ?_; rintro e w' ⟨rfl, rfl⟩)
      go_ret
      exact ⟨rfl, rfl⟩
    · have e : decide (0 ≤ i ∧ i < z) = false := decide_eq_false (by omega)
      rw [e]
      clear e
      go_enter Try.func93, Try.ntmps93
      go_wp2_with (go_at_call 92; refine (hd _).mono ?_; rintro e w' ⟨rfl, rfl⟩)
      go_ret
      exact ⟨congrArg (fun b => Ending.returned (.bool b)) (decide_eq_false (by omega)), rfl⟩
end Go.Proofs.Ytbojjpmcopnjpaa.Pt

/-! The program's isInTree, isCalm and Calm. -/
namespace Go.Proofs.Ytbojjpmcopnjpaa
open Go.RowKit Go.Shelf

attribute [local go_sem] Oper.semAt_some

/-- Is w the word of that slot, or what it stands for? -/
def meetB (s : Mst) (x : Int) (p : Int × Int) : Bool := (x == p.2) || (x == tgt s p.2)
def inTreeB (s : Mst) (x : Int) : Bool := soundB s && (spotsL s (fuel s)).any (meetB s x)
def calmW (s : Mst) (x : Int) : Bool := if kd x = 4 then false else if kd x = 3 then (!(s.look (ad x + 2) == 1) && decide (s.look (ad x + 3) < Pt.limZ (s.look (ad x + 1)))) else true
def calmS (s : Mst) (p : Int × Int) : Bool := !(kd (s.look p.1) == 5) && calmW s p.2
def calmB (s : Mst) : Bool := soundB s && (spotsL s (fuel s)).all (calmS s)

theorem spotsF_i64 {s : Mst} (ho : s.ok) : ∀ (f : Nat) (x : Int), ∀ p ∈ spotsF s f x, I64 p.2
  | 0, _, _, h => by cases h
  | f + 1, x, p, h => by
    rw [spotsF_succ, List.mem_flatMap] at h
    obtain ⟨q, _, hq⟩ := h
    rcases List.mem_cons.1 hq with rfl | hq
    · exact ho.logic _
    · exact spotsF_i64 ho f _ p hq
theorem spotsL_i64 {s : Mst} (ho : s.ok) (f : Nat) : ∀ p ∈ spotsL s f, I64 p.2 := by
  intro p h
  rcases List.mem_cons.1 h with rfl | h
  · exact ho.logic _
  · exact spotsF_i64 ho f _ p h

theorem isCalm_p (w : World) (b : Nat) (s : Mst) (x : Int) (r : Bool) (h : PM w b s) (ho : s.ok) (hx : I64 x) (e1 : calmW s x = r) :
    Calls Try.prog 34 #[.pointer (some ⟨b, 0, none⟩), .int .i64 x] w fun e w' => e = .returned (.bool r) ∧ w = w' := by
  have H := hide h
  have HX := hide hx
  obtain ⟨k, hk⟩ : ∃ k, kd x = k := ⟨_, rfl⟩
  obtain ⟨p, hp⟩ : ∃ p, ad x = p := ⟨_, rfl⟩
  have kr := ad_range x
  rw [hp] at kr
  obtain ⟨p0, p1⟩ := kr
  have HK := hide hk
  have HP := hide hp
  have e2 : r = if k = 4 then false else if k = 3 then (!(s.look (p + 2) == 1) && decide (s.look (p + 3) < Pt.limZ (s.look (p + 1)))) else true := by rw [← e1, calmW, hk, hp]
  by_cases k4 : k = 4
  · have HR : Hid (r = false) := hide (by rw [e2, if_pos k4])
    subst k4
    clear h hx hk hp e1 e2
    go_enter Try.func34, Try.ntmps34
    go_wp2_with (fail)
    refine (ak_p _ x p HX.out HP.out).mono ?_
    rintro e w' ⟨rfl, rfl⟩
    go_wp2_with (fail)
    refine (kk_p _ x 4 HX.out HK.out).mono ?_
    rintro e w' ⟨rfl, rfl⟩
    go_wp2
    go_ret
    exact ⟨by rw [HR.out]; rfl, rfl⟩
  by_cases k3 : k = 3
  · obtain ⟨z1, hz1⟩ : ∃ z, s.look (p + 1) = z := ⟨_, rfl⟩
    obtain ⟨z2, hz2⟩ : ∃ z, s.look (p + 2) = z := ⟨_, rfl⟩
    obtain ⟨z3, hz3⟩ : ∃ z, s.look (p + 3) = z := ⟨_, rfl⟩
    obtain ⟨m, hm⟩ : ∃ m, Pt.limZ z1 = m := ⟨_, rfl⟩
    have HB1 : Hid (I64 z1) := hide (by rw [← hz1]; exact ho.look _)
    have HZ1 := hide hz1
    have HZ2 := hide hz2
    have HZ3 := hide hz3
    have HM : Hid (∀ W, Calls Try.prog 62 #[.int .i64 z1] W fun e w' => e = .returned (.int .i64 m) ∧ W = w') := hide (fun W => by
      refine (Pt.lim_c z1 HB1.out.wf W).mono ?_
      rw [← hm]
      rintro e w' ⟨rfl, rfl⟩
      exact ⟨rfl, rfl⟩)
    have E2 : Hid (r = (!(z2 == 1) && decide (z3 < m))) := hide (by rw [e2, if_neg k4, if_pos k3, hz1, hz2, hz3, hm])
    subst k3
    clear h hx hk hp e1 e2 hz1 hz2 hz3 hm k4
    by_cases y2 : z2 = 1
    · subst y2
      have HR : Hid (r = false) := hide (by rw [E2.out]; rfl)
      go_enter Try.func34, Try.ntmps34
      go_wp2_with (fail)
      refine (ak_p _ x p HX.out HP.out).mono ?_
      rintro e w' ⟨rfl, rfl⟩
      go_wp2_with (fail)
      refine (kk_p _ x 3 HX.out HK.out).mono ?_
      rintro e w' ⟨rfl, rfl⟩
      go_wp2_with (fail)
      refine (lk_p _ b s (p + 1) z1 H.out HZ1.out).mono ?_
      rintro e w' ⟨rfl, rfl⟩
      go_wp2_with (fail)
      refine (HM.out _).mono ?_
      rintro e w' ⟨rfl, rfl⟩
      go_wp2_with (fail)
      refine (lk_p _ b s (p + 2) 1 H.out HZ2.out).mono ?_
      rintro e w' ⟨rfl, rfl⟩
      go_wp2
      go_ret
      exact ⟨by rw [HR.out]; rfl, rfl⟩
    · have g1 : (z2 == 1) = false := by simp [y2]
      have g2 : (z2 != 1) = true := by simp [y2]
      clear y2
      by_cases y3 : z3 < m
      · have HR : Hid (r = true) := hide (by rw [E2.out, g1]; simp [y3])
        go_enter Try.func34, Try.ntmps34
        go_wp2_with (fail)
        refine (ak_p _ x p HX.out HP.out).mono ?_
        rintro e w' ⟨rfl, rfl⟩
        go_wp2_with (fail)
        refine (kk_p _ x 3 HX.out HK.out).mono ?_
        rintro e w' ⟨rfl, rfl⟩
        go_wp2_with (fail)
        refine (lk_p _ b s (p + 1) z1 H.out HZ1.out).mono ?_
        rintro e w' ⟨rfl, rfl⟩
        go_wp2_with (fail)
        refine (HM.out _).mono ?_
        rintro e w' ⟨rfl, rfl⟩
        go_wp2_with (fail)
        refine (lk_p _ b s (p + 2) z2 H.out HZ2.out).mono ?_
        rintro e w' ⟨rfl, rfl⟩
        go_wp2_with (fail)
        refine (lk_p _ b s (p + 3) z3 H.out HZ3.out).mono ?_
        rintro e w' ⟨rfl, rfl⟩
        go_wp2
        go_ret
        exact ⟨by rw [HR.out]; rfl, rfl⟩
      · have HR : Hid (r = false) := hide (by rw [E2.out, g1]; simp [y3])
        have y3' : decide (z3 < m) = false := by simp [y3]
        have y4 : m ≤ z3 := by omega
        clear y3
        go_enter Try.func34, Try.ntmps34
        go_wp2_with (fail)
        refine (ak_p _ x p HX.out HP.out).mono ?_
        rintro e w' ⟨rfl, rfl⟩
        go_wp2_with (fail)
        refine (kk_p _ x 3 HX.out HK.out).mono ?_
        rintro e w' ⟨rfl, rfl⟩
        go_wp2_with (fail)
        refine (lk_p _ b s (p + 1) z1 H.out HZ1.out).mono ?_
        rintro e w' ⟨rfl, rfl⟩
        go_wp2_with (fail)
        refine (HM.out _).mono ?_
        rintro e w' ⟨rfl, rfl⟩
        go_wp2_with (fail)
        refine (lk_p _ b s (p + 2) z2 H.out HZ2.out).mono ?_
        rintro e w' ⟨rfl, rfl⟩
        go_wp2_with (fail)
        refine (lk_p _ b s (p + 3) z3 H.out HZ3.out).mono ?_
        rintro e w' ⟨rfl, rfl⟩
        go_wp2
        go_ret
        exact ⟨by rw [HR.out]; rfl, rfl⟩
  · have HR : Hid (r = true) := hide (by rw [e2, if_neg k4, if_neg k3])
    have g1 : (k == 4) = false := by simp [k4]
    have g2 : (k == 3) = false := by simp [k3]
    clear h hx hk hp e1 e2 k4 k3
    go_enter Try.func34, Try.ntmps34
    go_wp2_with (fail)
    refine (ak_p _ x p HX.out HP.out).mono ?_
    rintro e w' ⟨rfl, rfl⟩
    go_wp2_with (fail)
    refine (kk_p _ x k HX.out HK.out).mono ?_
    rintro e w' ⟨rfl, rfl⟩
    go_wp2
    go_ret
    exact ⟨by rw [HR.out]; rfl, rfl⟩

set_option maxHeartbeats 2000000 in
theorem isInTree_p (w : World) (b : Nat) (s : Mst) (x : Int) (h : PM w b s) (ho : s.ok) (hx : I64 x) (r : Bool) (e1 : inTreeB s x = r) :
    Calls Try.prog 35 #[.pointer (some ⟨b, 0, none⟩), .int .i64 x] w fun e w' => e = .returned (.bool r) ∧ Kept w w' := by
  have H := hide h
  have HO := hide ho
  have HX := hide hx
  clear hx
  obtain ⟨n, hn⟩ : ∃ n, w.heap.size = n := ⟨_, rfl⟩
  obtain ⟨W1, hW1⟩ : ∃ W1, ((w.alloc (.cells #[.pointer (some ⟨b, 0, none⟩)] 22)).alloc (.cells #[.int .i64 x] 2)).alloc (.cells #[.bool false] 4) = W1 := ⟨_, rfl⟩
  have z1 : W1.heap.size = n + 3 := by rw [← hW1]; simp [hn]
  have t1 : Kept w W1 := by
    rw [← hW1]
    exact (((Kept.refl w).alloc _).alloc _).alloc _
  have bx : ∀ (X : World) (T : TypeId) (v : Value) (m : Nat), X.heap.size = m → Boxed (X.alloc (.cells #[v] T)) m T v := fun X T v m e => by rw [← e]; exact Boxed.new X T v
  have bM : Boxed W1 n 22 (.pointer (some ⟨b, 0, none⟩)) := by
    rw [← hW1]; exact ((bx w 22 _ n hn).alloc _).alloc _
  have bX : Boxed W1 (n + 1) 2 (.int .i64 x) := by
    rw [← hW1]; exact (bx _ 2 _ (n + 1) (by simp [hn])).alloc _
  have bR : Boxed W1 (n + 2) 4 (.bool false) := by
    rw [← hW1]; exact bx _ 4 _ (n + 2) (by simp [hn])
  have K1 := hide t1
  have HN0 := hide hn
  have Z1 := hide z1
  obtain ⟨q, hq⟩ : ∃ q, soundB s = q := ⟨_, rfl⟩
  have HQ := hide hq
  have BM := hide bM
  have BX := hide bX
  have BR := hide bR
  have c0 := bM.cell
  have cR := bR.cell
  have fR := bR.frozen
  have HE : Hid (inTreeB s x = r) := hide e1
  clear h ho e1 t1 bx bM bX bR hq z1
  refine calls_marks Try.func35 rfl ?_
  simp only [Try.ntmps35, List.size_toArray, List.length_cons, List.length_nil, Nat.reduceAdd, Nat.reduceSub, Array.replicate_succ, Array.replicate_zero, List.push_toArray, List.append_toArray, List.nil_append, List.cons_append]
  go_wp2_with (fail)
  clear hW1 hn
  refine (sound_p W1 b s (H.out.kept K1.out) HO.out q HQ.out).mono ?_
  rintro e W2 ⟨rfl, k2⟩
  have K2 := hide (K1.out.trans k2)
  have BM2 := hide (k2.boxed BM.out id)
  have BX2 := hide (k2.boxed BX.out id)
  have BR2 := hide (k2.boxed BR.out id)
  have c0 := BM2.out.cell
  have cR := BR2.out.cell
  have fR := BR2.out.frozen
  have Z2 : Hid (n + 3 ≤ W2.heap.size) := hide (by have := k2.size; have := Z1.out; omega)
  clear k2
  cases q with
  | false =>
    have HR : Hid (r = false) := hide (by rw [← HE.out, inTreeB, HQ.out]; rfl)
    have tS : Turned (fun k => k = n + 2) W2 (W2.setCell ⟨n + 2, 0, none⟩ (.bool false)) := Turned.setCell _ _ _ rfl
    have KS := hide (K2.out.did (by have := HN0.out; omega) tS)
    have CS := hide (BR2.out.set (.bool false)).cell
    clear tS
    go_wp2
    refine leave_marks [] _ ?_ ?_ ?_
    · intro k hk; cases hk
    · simp
    · intro X' hX'
      have q1 := hX'.cell CS.out (by simp)
      exact ⟨.bool false, by simp [results, Try.results35, go_sem, q1], by rw [HR.out], KS.out.trans (hX'.mono fun _ _ h => by cases h)⟩
  | true =>
    have hWf := wf_root HO.out HQ.out
    have HWF := hide hWf
    have HE2 : Hid ((spotsL s (fuel s)).any (meetB s x) = r) := hide (by rw [← HE.out, inTreeB, HQ.out]; rfl)
    clear hWf
    go_wp2_with (fail)
    refine (spots_k W2 b).mono ?_
    rintro e W3 ⟨B1, rfl, k3, b1, l1⟩
    have K3 := hide (K2.out.trans k3)
    have BM3 := hide (k3.boxed BM2.out id)
    have BX3 := hide (k3.boxed BX2.out id)
    have BR3 := hide (k3.boxed BR2.out id)
    have BS3 := hide b1
    have L1 : Hid (n + 3 ≤ B1) := hide (by have := Z2.out; omega)
    have Z3 : Hid (n + 3 ≤ W3.heap.size) := hide (by have := k3.size; have := Z2.out; omega)
    clear k3 b1 l1 c0 cR fR
    go_wp2_with (fail)
    refine wp_range3 (gf := 58) rfl (enters_of Try.func58 (by kernel_rfl) rfl) (encs := encS) (xs := spotsL s (fuel s)) (R := SpotR w B1)
      (fun X hX => spots_i w X (K3.out.trans hX) b s H.out HO.out (fuel s) HWF.out B1 (hX.boxed BS3.out id)) (fun _ => rfl)
      (fun k => k = n + 2) (fun O pre A => (∀ p ∈ pre, meetB s x p = false) ∧ Cell1 (n + 2) 4 (.bool false) O pre A) (fun c O pre A => c = .ret ∧ (∃ p ∈ pre, meetB s x p = true) ∧ Cell1 (n + 2) 4 (.bool true) O pre A) ?hR
      (good_and (Cell1.good _ _ _) _) (fun c => good_only (good_and (Cell1.good _ _ _) _) c .ret) ⟨(by intro p hp; cases hp), fun _ => Iff.rfl, BR3.out⟩ (fun p => #[.int .i64 p.1, .int .i64 p.2]) 37 ?ab ?done ?stop
    case hR =>
      rintro k (hk | rfl)
      · have h1 := K3.out.size
        have h2 := HN0.out
        exact ⟨by omega, by omega⟩
      · have h1 := BS3.out.lt
        have h2 := L1.out
        exact ⟨h1, by omega⟩
    case ab =>
      apply Exists.intro
      refine ⟨?_, ?_⟩
      · intro l' p X m K hm hK
        gi_wp2
        exact hK
      · rintro l' O pre ⟨sl, y⟩ rest B m hx' tB sB ⟨hpre, hO, rB⟩ hm nOm _
        have HOO := hide hO
        have HPRE := hide hpre
        have KB := hide (K3.out.did (by have := HN0.out; omega) tB)
        have MB := hide (H.out.kept KB.out)
        have cM := (tB.boxed BM3.out (by omega)).cell
        have cX := (tB.boxed BX3.out (by omega)).cell
        have HYI : Hid (I64 y) := hide (spotsL_i64 HO.out (fuel s) (sl, y) (by rw [hx']; simp))
        have RB := hide rB
        have cq0 : B.heap[m]? = some (.cells #[.int .i64 sl, .int .i64 y] 37) := hm
        have GO : Hid (∀ X, Kept B X → meetB s x (sl, y) = false → ∃ O', Sub O' O B.heap.size ∧ Turned O B X ∧ (∀ p ∈ pre ++ [(sl, y)], meetB s x p = false) ∧ Cell1 (n + 2) 4 (.bool false) O' (pre ++ [(sl, y)]) X) := hide (fun X kX hm => by
          refine ⟨O, Sub.refl _ _, kX.mono (fun _ _ h => h.elim), ?_, HOO.out, kX.boxed RB.out id⟩
          intro p hp
          rcases List.mem_append.1 hp with hp | hp
          · exact HPRE.out p hp
          · simp at hp; rw [hp]; exact hm)
        have OUT : Hid (∀ X, Kept B X → meetB s x (sl, y) = true → ∃ O', Sub O' O B.heap.size ∧ Turned O B (X.setCell ⟨n + 2, 0, none⟩ (.bool true)) ∧ (∃ p ∈ pre ++ [(sl, y)], meetB s x p = true) ∧ Cell1 (n + 2) 4 (.bool true) O' (pre ++ [(sl, y)]) (X.setCell ⟨n + 2, 0, none⟩ (.bool true))) := hide (fun X kX hm => by
          have tS : Turned (fun k => k = n + 2) X (X.setCell ⟨n + 2, 0, none⟩ (.bool true)) := Turned.setCell _ _ _ rfl
          refine ⟨O, Sub.refl _ _, (Turned.trans kX tS (fun _ h => h.elim) (fun k _ h => (HOO.out k).2 h)), ⟨(sl, y), by simp, hm⟩, HOO.out, (kX.boxed RB.out id).set _⟩)
        clear hx' tB sB hpre hO rB hm nOm
        obtain ⟨V, hV⟩ : ∃ V, B.drew = V := ⟨_, rfl⟩
        have kV : Kept B V := by rw [← hV]; exact Kept.drew _
        have KBV := hide kV
        have x0 : ∀ u : Wd (fun U => U = V), u.w.cell? ⟨n, 0, none⟩ = some (.pointer (some ⟨b, 0, none⟩)) := fun u => by rw [u.ok]; exact KBV.out.cell cM id
        have x1 : ∀ u : Wd (fun U => U = V), u.w.cell? ⟨n + 1, 0, none⟩ = some (.int .i64 x) := fun u => by rw [u.ok]; exact KBV.out.cell cX id
        have x2 : ∀ u : Wd (fun U => U = V), u.w.cell? ⟨m, 1, none⟩ = some (.int .i64 y) := fun u => by
          rw [u.ok]
          refine kV.cell ?_ id
          simp [World.cell?, cq0]
        have RV := hide (kV.boxed RB.out id)
        have KV := hide kV
        have HV := hide hV
        have c6 := RV.out.cell
        have f6 := RV.out.frozen
        clear cM cX cq0 hV kV
        obtain ⟨t, ht⟩ : ∃ t, tgt s y = t := ⟨_, rfl⟩
        have HT := hide ht
        by_cases xy : x = y
        · subst xy
          have MM : Hid (meetB s x (sl, x) = true) := hide (by simp [meetB])
          clear ht
          gi_wp2_with (fail)
          refine region_round [0, 1, 2, 3, 4, 5, 6, 7, 8, 9, 10, 11] (fun U => U = V) (by kernel_rfl) (by kernel_rfl) (by kernel_rfl) HV.out (fun _ => ?_)
          rw [HV.out]
          repeat (refine pq rfl rfl ?_; go_big_quiet_step (fail); refine wpQuiet_nil ?_)
          refine ps rfl rfl rfl (Wd.mem rfl) ?_
          go_big_quiet_skip
          refine wpQuiet_nil ?_
          repeat (refine pq rfl rfl ?_; go_big_quiet_step (fail); refine wpQuiet_nil ?_)
          refine perm_done ?_
          gi_wp2
          obtain ⟨O', q1, q2, q3, q4⟩ := OUT.out V KV.out MM.out
          exact ⟨O', q1, q2, rfl, q3, q4⟩
        · have g1 : (x == y) = false := by simp [xy]
          by_cases xt : x = t
          · have MM : Hid (meetB s x (sl, y) = true) := hide (by simp [meetB, ht, xt])
            subst xt
            clear ht xy
            gi_wp2_with (fail)
            refine region_round [0, 1, 2, 3, 4, 5, 6, 7, 8, 9, 10, 11] (fun U => U = V) (by kernel_rfl) (by kernel_rfl) (by kernel_rfl) HV.out (fun _ => ?_)
            rw [HV.out]
            repeat (refine pq rfl rfl ?_; go_big_quiet_step (fail); refine wpQuiet_nil ?_)
            refine pl rfl rfl ?_
            gi_wp2_with (fail)
            refine ⟨trivial, ?_⟩
            refine (callsIn_wide.2 (target_p _ b s y x (MB.out.kept KBV.out) HYI.out HT.out)).mono ?_
            rintro e U ⟨rfl, rfl⟩
            gi_wp2_with (fail)
            refine ⟨Wd.mem rfl, ?_⟩
            repeat (refine pq rfl rfl ?_; go_big_quiet_step (fail); refine wpQuiet_nil ?_)
            refine perm_done ?_
            gi_wp2
            obtain ⟨O', q1, q2, q3, q4⟩ := OUT.out V KV.out MM.out
            exact ⟨O', q1, q2, rfl, q3, q4⟩
          · have g2 : (x == t) = false := by simp [xt]
            have MM : Hid (meetB s x (sl, y) = false) := hide (by simp [meetB, ht, xt, xy])
            clear ht xy xt
            gi_wp2_with (fail)
            refine region_round [0, 1, 2, 3, 4, 5, 6, 7, 8, 9, 10, 11] (fun U => U = V) (by kernel_rfl) (by kernel_rfl) (by kernel_rfl) HV.out (fun _ => ?_)
            rw [HV.out]
            repeat (refine pq rfl rfl ?_; go_big_quiet_step (fail); refine wpQuiet_nil ?_)
            refine pl rfl rfl ?_
            gi_wp2_with (fail)
            refine ⟨trivial, ?_⟩
            refine (callsIn_wide.2 (target_p _ b s y t (MB.out.kept KBV.out) HYI.out HT.out)).mono ?_
            rintro e U ⟨rfl, rfl⟩
            gi_wp2_with (fail)
            refine ⟨Wd.mem rfl, ?_⟩
            repeat (refine pq rfl rfl ?_; go_big_quiet_step (fail); refine wpQuiet_nil ?_)
            refine perm_done ?_
            gi_wp2
            exact GO.out V KV.out MM.out
    case done =>
      rintro D O X hD nD tX sX ⟨hpre, hO, rX⟩ hK
      have HR : Hid (r = false) := hide (by rw [← HE2.out]; exact List.any_eq_false.2 (fun p hp => by simp [hpre p hp]))
      have nD2 : D ≠ n + 2 := by have := Z3.out; omega
      have c6 := rX.cell
      have f6 := rX.frozen
      have tS : Turned (fun k => k = n + 2) X (X.setCell ⟨n + 2, 0, none⟩ (.bool false)) := Turned.setCell _ _ _ rfl
      have hK2 : Hid ((X.setCell ⟨n + 2, 0, none⟩ (.bool false)).heap[D]? = some (.deferred (some []))) := hide (tS.heap hK nD2)
      have CS : Hid ((X.setCell ⟨n + 2, 0, none⟩ (.bool false)).cell? ⟨n + 2, 0, none⟩ = some (.bool false)) := hide (rX.set (.bool false)).cell
      have KX : Hid (Kept w (X.setCell ⟨n + 2, 0, none⟩ (.bool false))) := hide ((K3.out.did (by have := HN0.out; omega) tX).did (by have := HN0.out; omega) tS)
      clear hK rX tS tX sX hO nD
      go_wp2
      refine leave_marks [D] _ ?_ ?_ ?_
      · intro k hk
        simp at hk
        rw [hk]
        exact hK2.out
      · simp
      · intro X' hX'
        have q1 := hX'.cell CS.out (by simp; omega)
        exact ⟨.bool false, by simp [results, Try.results35, go_sem, q1], by rw [HR.out], KX.out.own (fun i hi => by simp at hi; have := K3.out.size; omega) hX'⟩
    case stop =>
      rintro D O c pre rest X hD nD tX sX hx' ⟨rfl, ⟨p, hp, hm⟩, hO, rX⟩ hK
      have HR : Hid (r = true) := hide (by rw [← HE2.out]; exact List.any_eq_true.2 ⟨p, by rw [hx']; exact List.mem_append_left _ hp, hm⟩)
      have nD2 : D ≠ n + 2 := by have := Z3.out; omega
      have c6 := rX.cell
      have f6 := rX.frozen
      have tS : Turned (fun k => k = n + 2) X X := Turned.refl _ _
      have hK2 : Hid (X.heap[D]? = some (.deferred (some []))) := hide (tS.heap hK nD2)
      have CS : Hid (X.cell? ⟨n + 2, 0, none⟩ = some (.bool true)) := hide rX.cell
      have KX : Hid (Kept w X) := hide ((K3.out.did (by have := HN0.out; omega) tX).did (by have := HN0.out; omega) tS)
      clear hK rX tS tX sX hO nD
      go_wp2
      refine leave_marks [D] _ ?_ ?_ ?_
      · intro k hk
        simp at hk
        rw [hk]
        exact hK2.out
      · simp
      · intro X' hX'
        have q1 := hX'.cell CS.out (by simp; omega)
        exact ⟨.bool true, by simp [results, Try.results35, go_sem, q1], by rw [HR.out], KX.out.own (fun i hi => by simp at hi; have := K3.out.size; omega) hX'⟩

set_option maxHeartbeats 2000000 in
theorem calm_p (w : World) (b : Nat) (s : Mst) (h : PM w b s) (ho : s.ok) (r : Bool) (e1 : calmB s = r) :
    Calls Try.prog 8 #[.pointer (some ⟨b, 0, none⟩)] w fun e w' => e = .returned (.bool r) ∧ Kept w w' := by
  have H := hide h
  have HO := hide ho
  obtain ⟨n, hn⟩ : ∃ n, w.heap.size = n := ⟨_, rfl⟩
  obtain ⟨W1, hW1⟩ : ∃ W1, (w.alloc (.cells #[.pointer (some ⟨b, 0, none⟩)] 22)).alloc (.cells #[.bool false] 4) = W1 := ⟨_, rfl⟩
  have z1 : W1.heap.size = n + 2 := by rw [← hW1]; simp [hn]
  have t1 : Kept w W1 := by
    rw [← hW1]
    exact ((Kept.refl w).alloc _).alloc _
  have bx : ∀ (X : World) (T : TypeId) (v : Value) (m : Nat), X.heap.size = m → Boxed (X.alloc (.cells #[v] T)) m T v := fun X T v m e => by rw [← e]; exact Boxed.new X T v
  have bM : Boxed W1 n 22 (.pointer (some ⟨b, 0, none⟩)) := by
    rw [← hW1]; exact (bx w 22 _ n hn).alloc _
  have bR : Boxed W1 (n + 1) 4 (.bool false) := by
    rw [← hW1]; exact bx _ 4 _ (n + 1) (by simp [hn])
  have K1 := hide t1
  have HN0 := hide hn
  have Z1 := hide z1
  obtain ⟨q, hq⟩ : ∃ q, soundB s = q := ⟨_, rfl⟩
  have HQ := hide hq
  have BM := hide bM
  have BR := hide bR
  have c0 := bM.cell
  have cR := bR.cell
  have fR := bR.frozen
  have HE : Hid (calmB s = r) := hide e1
  clear h ho e1 t1 bx bM bR hq z1
  refine calls_marks Try.func8 rfl ?_
  simp only [Try.ntmps8, List.size_toArray, List.length_cons, List.length_nil, Nat.reduceAdd, Nat.reduceSub, Array.replicate_succ, Array.replicate_zero, List.push_toArray, List.append_toArray, List.nil_append, List.cons_append]
  go_wp2_with (fail)
  clear hW1 hn
  refine (sound_p W1 b s (H.out.kept K1.out) HO.out q HQ.out).mono ?_
  rintro e W2 ⟨rfl, k2⟩
  have K2 := hide (K1.out.trans k2)
  have BM2 := hide (k2.boxed BM.out id)
  have BR2 := hide (k2.boxed BR.out id)
  have c0 := BM2.out.cell
  have cR := BR2.out.cell
  have fR := BR2.out.frozen
  have Z2 : Hid (n + 2 ≤ W2.heap.size) := hide (by have := k2.size; have := Z1.out; omega)
  clear k2
  cases q with
  | false =>
    have HR : Hid (r = false) := hide (by rw [← HE.out, calmB, HQ.out]; rfl)
    have tS : Turned (fun k => k = n + 1) W2 (W2.setCell ⟨n + 1, 0, none⟩ (.bool false)) := Turned.setCell _ _ _ rfl
    have KS := hide (K2.out.did (by have := HN0.out; omega) tS)
    have CS := hide (BR2.out.set (.bool false)).cell
    clear tS
    go_wp2
    refine leave_marks [] _ ?_ ?_ ?_
    · intro k hk; cases hk
    · simp
    · intro X' hX'
      have q1 := hX'.cell CS.out (by simp)
      exact ⟨.bool false, by simp [results, Try.results8, go_sem, q1], by rw [HR.out], KS.out.trans (hX'.mono fun _ _ h => by cases h)⟩
  | true =>
    have hWf := wf_root HO.out HQ.out
    have HWF := hide hWf
    have HE2 : Hid ((spotsL s (fuel s)).all (calmS s) = r) := hide (by rw [← HE.out, calmB, HQ.out]; rfl)
    clear hWf
    go_wp2_with (fail)
    refine (spots_k W2 b).mono ?_
    rintro e W3 ⟨B1, rfl, k3, b1, l1⟩
    have K3 := hide (K2.out.trans k3)
    have BM3 := hide (k3.boxed BM2.out id)
    have BR3 := hide (k3.boxed BR2.out id)
    have BS3 := hide b1
    have L1 : Hid (n + 2 ≤ B1) := hide (by have := Z2.out; omega)
    have Z3 : Hid (n + 2 ≤ W3.heap.size) := hide (by have := k3.size; have := Z2.out; omega)
    clear k3 b1 l1 c0 cR fR
    go_wp2_with (fail)
    refine wp_range3 (gf := 58) rfl (enters_of Try.func58 (by kernel_rfl) rfl) (encs := encS) (xs := spotsL s (fuel s)) (R := SpotR w B1)
      (fun X hX => spots_i w X (K3.out.trans hX) b s H.out HO.out (fuel s) HWF.out B1 (hX.boxed BS3.out id)) (fun _ => rfl)
      (fun k => k = n + 1) (fun O pre A => (∀ p ∈ pre, calmS s p = true) ∧ Cell1 (n + 1) 4 (.bool false) O pre A) (fun c O pre A => c = .ret ∧ (∃ p ∈ pre, calmS s p = false) ∧ Cell1 (n + 1) 4 (.bool false) O pre A) ?hR
      (good_and (Cell1.good _ _ _) _) (fun c => good_only (good_and (Cell1.good _ _ _) _) c .ret) ⟨(by intro p hp; cases hp), fun _ => Iff.rfl, BR3.out⟩ (fun p => #[.int .i64 p.1, .int .i64 p.2]) 37 ?ab ?done ?stop
    case hR =>
      rintro k (hk | rfl)
      · have h1 := K3.out.size
        have h2 := HN0.out
        exact ⟨by omega, by omega⟩
      · have h1 := BS3.out.lt
        have h2 := L1.out
        exact ⟨h1, by omega⟩
    case ab =>
      apply Exists.intro
      refine ⟨?_, ?_⟩
      · intro l' p X m K hm hK
        gi_wp2
        exact hK
      · rintro l' O pre ⟨sl, y⟩ rest B m hx' tB sB ⟨hpre, hO, rB⟩ hm nOm _
        have HOO := hide hO
        have HPRE := hide hpre
        have KB := hide (K3.out.did (by have := HN0.out; omega) tB)
        have MB := hide (H.out.kept KB.out)
        have cM := (tB.boxed BM3.out (by omega)).cell
        have HYI : Hid (I64 y) := hide (spotsL_i64 HO.out (fuel s) (sl, y) (by rw [hx']; simp))
        have RB := hide rB
        have cq0 : B.heap[m]? = some (.cells #[.int .i64 sl, .int .i64 y] 37) := hm
        have GO : Hid (∀ X, Kept B X → calmS s (sl, y) = true → ∃ O', Sub O' O B.heap.size ∧ Turned O B X ∧ (∀ p ∈ pre ++ [(sl, y)], calmS s p = true) ∧ Cell1 (n + 1) 4 (.bool false) O' (pre ++ [(sl, y)]) X) := hide (fun X kX hm => by
          refine ⟨O, Sub.refl _ _, kX.mono (fun _ _ h => h.elim), ?_, HOO.out, kX.boxed RB.out id⟩
          intro p hp
          rcases List.mem_append.1 hp with hp | hp
          · exact HPRE.out p hp
          · simp at hp; rw [hp]; exact hm)
        have OUT : Hid (∀ X, Kept B X → calmS s (sl, y) = false → ∃ O', Sub O' O B.heap.size ∧ Turned O B (X.setCell ⟨n + 1, 0, none⟩ (.bool false)) ∧ (∃ p ∈ pre ++ [(sl, y)], calmS s p = false) ∧ Cell1 (n + 1) 4 (.bool false) O' (pre ++ [(sl, y)]) (X.setCell ⟨n + 1, 0, none⟩ (.bool false))) := hide (fun X kX hm => by
          have tS : Turned (fun k => k = n + 1) X (X.setCell ⟨n + 1, 0, none⟩ (.bool false)) := Turned.setCell _ _ _ rfl
          refine ⟨O, Sub.refl _ _, (Turned.trans kX tS (fun _ h => h.elim) (fun k _ h => (HOO.out k).2 h)), ⟨(sl, y), by simp, hm⟩, HOO.out, (kX.boxed RB.out id).set _⟩)
        clear hx' tB sB hpre hO rB hm nOm
        have cq1 : B.cell? ⟨m, 0, none⟩ = some (.int .i64 sl) := by simp [World.cell?, cq0]
        have cq2 : B.cell? ⟨m, 1, none⟩ = some (.int .i64 y) := by simp [World.cell?, cq0]
        have c6 := RB.out.cell
        have f6 := RB.out.frozen
        obtain ⟨z, hz⟩ : ∃ z, s.look sl = z := ⟨_, rfl⟩
        obtain ⟨k, hk⟩ : ∃ k, kd z = k := ⟨_, rfl⟩
        obtain ⟨v, hv⟩ : ∃ v, calmW s y = v := ⟨_, rfl⟩
        have HZ := hide hz
        have HK := hide hk
        have HVV := hide hv
        have HZI : Hid (I64 z) := hide (by rw [← hz]; exact HO.out.look _)
        have MC := MB
        have MM : Hid (calmS s (sl, y) = (!(k == 5) && v)) := hide (by simp only [calmS, hz, hk, hv])
        clear cq0 hz hk hv
        by_cases k5 : k = 5
        · subst k5
          have M2 : Hid (calmS s (sl, y) = false) := hide (by rw [MM.out]; rfl)
          gi_wp2_with (fail)
          refine ⟨trivial, ?_⟩
          refine (CallsIn.inRound l' (callsIn_wide.2 (lk_p _ b s sl z MC.out HZ.out))).mono ?_
          rintro e U ⟨rfl, rfl⟩
          gi_wp2_with (fail)
          refine ⟨trivial, ?_⟩
          refine (CallsIn.inRound l' (callsIn_wide.2 (kk_p _ z 5 HZI.out HK.out))).mono ?_
          rintro e U ⟨rfl, rfl⟩
          gi_wp2
          refine ⟨trivial, ?_⟩
          gi_wp2
          obtain ⟨O', q1, q2, q3, q4⟩ := OUT.out _ (Kept.refl _) M2.out
          exact ⟨O', q1, q2, rfl, q3, q4⟩
        · have g1 : (k == 5) = false := by simp [k5]
          clear k5
          cases v with
          | true =>
            have M2 : Hid (calmS s (sl, y) = true) := hide (by rw [MM.out, g1]; rfl)
            gi_wp2_with (fail)
            refine ⟨trivial, ?_⟩
            refine (CallsIn.inRound l' (callsIn_wide.2 (lk_p _ b s sl z MC.out HZ.out))).mono ?_
            rintro e U ⟨rfl, rfl⟩
            gi_wp2_with (fail)
            refine ⟨trivial, ?_⟩
            refine (CallsIn.inRound l' (callsIn_wide.2 (kk_p _ z k HZI.out HK.out))).mono ?_
            rintro e U ⟨rfl, rfl⟩
            gi_wp2_with (fail)
            refine ⟨trivial, ?_⟩
            refine (CallsIn.inRound l' (callsIn_wide.2 (isCalm_p _ b s y _ MC.out HO.out HYI.out HVV.out))).mono ?_
            rintro e U ⟨rfl, rfl⟩
            gi_wp2
            exact GO.out _ (Kept.refl _) M2.out
          | false =>
            have M2 : Hid (calmS s (sl, y) = false) := hide (by rw [MM.out, g1]; rfl)
            gi_wp2_with (fail)
            refine ⟨trivial, ?_⟩
            refine (CallsIn.inRound l' (callsIn_wide.2 (lk_p _ b s sl z MC.out HZ.out))).mono ?_
            rintro e U ⟨rfl, rfl⟩
            gi_wp2_with (fail)
            refine ⟨trivial, ?_⟩
            refine (CallsIn.inRound l' (callsIn_wide.2 (kk_p _ z k HZI.out HK.out))).mono ?_
            rintro e U ⟨rfl, rfl⟩
            gi_wp2_with (fail)
            refine ⟨trivial, ?_⟩
            refine (CallsIn.inRound l' (callsIn_wide.2 (isCalm_p _ b s y _ MC.out HO.out HYI.out HVV.out))).mono ?_
            rintro e U ⟨rfl, rfl⟩
            gi_wp2
            obtain ⟨O', q1, q2, q3, q4⟩ := OUT.out _ (Kept.refl _) M2.out
            exact ⟨O', q1, q2, rfl, q3, q4⟩
    case done =>
      rintro D O X hD nD tX sX ⟨hpre, hO, rX⟩ hK
      have HR : Hid (r = true) := hide (by rw [← HE2.out]; exact List.all_eq_true.2 hpre)
      have nD2 : D ≠ n + 1 := by have := Z3.out; omega
      have c6 := rX.cell
      have f6 := rX.frozen
      have tS : Turned (fun k => k = n + 1) X (X.setCell ⟨n + 1, 0, none⟩ (.bool true)) := Turned.setCell _ _ _ rfl
      have hK2 : Hid ((X.setCell ⟨n + 1, 0, none⟩ (.bool true)).heap[D]? = some (.deferred (some []))) := hide (tS.heap hK nD2)
      have CS : Hid ((X.setCell ⟨n + 1, 0, none⟩ (.bool true)).cell? ⟨n + 1, 0, none⟩ = some (.bool true)) := hide (rX.set (.bool true)).cell
      have KX : Hid (Kept w (X.setCell ⟨n + 1, 0, none⟩ (.bool true))) := hide ((K3.out.did (by have := HN0.out; omega) tX).did (by have := HN0.out; omega) tS)
      clear hK rX tS tX sX hO nD
      go_wp2
      refine leave_marks [D] _ ?_ ?_ ?_
      · intro k hk
        simp at hk
        rw [hk]
        exact hK2.out
      · simp
      · intro X' hX'
        have q1 := hX'.cell CS.out (by simp; omega)
        exact ⟨.bool true, by simp [results, Try.results8, go_sem, q1], by rw [HR.out], KX.out.own (fun i hi => by simp at hi; have := K3.out.size; omega) hX'⟩
    case stop =>
      rintro D O c pre rest X hD nD tX sX hx' ⟨rfl, ⟨p, hp, hm⟩, hO, rX⟩ hK
      have HR : Hid (r = false) := hide (by rw [← HE2.out]; exact List.all_eq_false.2 ⟨p, by rw [hx']; exact List.mem_append_left _ hp, by simp [hm]⟩)
      have nD2 : D ≠ n + 1 := by have := Z3.out; omega
      have c6 := rX.cell
      have f6 := rX.frozen
      have tS : Turned (fun k => k = n + 1) X X := Turned.refl _ _
      have hK2 : Hid (X.heap[D]? = some (.deferred (some []))) := hide (tS.heap hK nD2)
      have CS : Hid (X.cell? ⟨n + 1, 0, none⟩ = some (.bool false)) := hide rX.cell
      have KX : Hid (Kept w X) := hide ((K3.out.did (by have := HN0.out; omega) tX).did (by have := HN0.out; omega) tS)
      clear hK rX tS tX sX hO nD
      go_wp2
      refine leave_marks [D] _ ?_ ?_ ?_
      · intro k hk
        simp at hk
        rw [hk]
        exact hK2.out
      · simp
      · intro X' hX'
        have q1 := hX'.cell CS.out (by simp; omega)
        exact ⟨.bool false, by simp [results, Try.results8, go_sem, q1], by rw [HR.out], KX.out.own (fun i hi => by simp at hi; have := K3.out.size; omega) hX'⟩
end Go.Proofs.Ytbojjpmcopnjpaa

/-! Chapter 9 in plain: how many slots a sound tree has; fuel that suffices. -/
namespace Go.Proofs.Ytbojjpmcopnjpaa
open Go.RowKit

theorem freeN_take {N : Nat} {t : Tk} {a : Nat} : ∀ (n : Nat), a + n ≤ N → freeB t a n = true → freeN N (takeT t a n) + n ≤ freeN N t
  | 0, _, _ => by rw [takeT_zero]; exact Nat.le_refl _
  | n + 1, h, hf => by
    rw [freeB_succ] at hf
    simp only [Bool.and_eq_true] at hf
    have ih := freeN_take (N := N) (t := t) (a := a) n (by omega) hf.1
    have h1 : freeN N (takeT t a (n + 1)) < freeN N (takeT t a n) := by
      refine countP_lt' _ _ ?_ N (a + n) (by omega) ?_ ?_
      · intro j hj
        simp only [takeT, Bool.not_or, Bool.and_eq_true] at hj ⊢
        refine ⟨hj.1, ?_⟩
        have := hj.2
        simp only [Bool.not_eq_true', decide_eq_false_iff_not] at this ⊢
        omega
      · simp [takeT]
      · have := hf.2
        rw [takeT_at]
        exact this
    omega
theorem take_count {N : Nat} {t u : Tk} {a n : Nat} (h : takeO N t a n = some u) : freeN N u + n ≤ freeN N t := by
  unfold takeO at h
  split at h
  · rename_i c
    simp only [Bool.and_eq_true, decide_eq_true_eq] at c
    simp only [Option.some.injEq] at h
    subst h
    exact freeN_take n c.1.2 c.2
  · cases h

theorem spotsF_more {s : Mst} : ∀ {f g : Nat} {x : Int}, Wf s f x → f ≤ g → spotsF s g x = spotsF s f x
  | 0, _, _, h, _ => h.elim
  | f + 1, 0, _, _, h => absurd h (by omega)
  | f + 1, g + 1, x, h, hg => by
    rw [spotsF_succ, spotsF_succ]
    unfold oneF
    have : ∀ (L : List (Int × Int)), (∀ p ∈ L, Wf s f (s.logicZ p.2)) → L.flatMap (fun p => (p.2, s.logicZ p.2) :: spotsF s g (s.logicZ p.2)) = L.flatMap (fun p => (p.2, s.logicZ p.2) :: spotsF s f (s.logicZ p.2)) := by
      intro L
      induction L with
      | nil => intro _; rfl
      | cons p L ih =>
        intro hL
        rw [List.flatMap_cons, List.flatMap_cons, ih (fun q hq => hL q (List.mem_cons_of_mem _ hq)), spotsF_more (hL p List.mem_cons_self) (by omega)]
    exact this _ h.2
theorem slotsL_tgt {s : Mst} {x : Int} (h : kd (tgt s x) = 3) : slotsL s (tgt s x) = slotsL s x := by
  unfold slotsL degN atN; rw [tgt_tgt h]
theorem Wf.down {s : Mst} (ho : s.ok) {f : Nat} {x : Int} (h : Wf s f x) (h3 : kd (tgt s x) = 3) : Wf s f (tgt s x) := by
  obtain ⟨g, rfl, h1, h2⟩ := h.pos
  refine ⟨⟨tgt_i64 ho h1.i64, ?_, ?_⟩, ?_⟩
  · rw [tgt_tgt h3]; exact h1.deg
  · intro h4; rw [h3] at h4; cases h4
  · rw [slotsL_tgt h3]; exact h2
theorem spotsF_tgt {s : Mst} {f : Nat} {x : Int} (h3 : kd (tgt s x) = 3) : spotsF s f (tgt s x) = spotsF s f x := by
  cases f with
  | zero => rfl
  | succ f => rw [spotsF_succ, spotsF_succ, slotsL_tgt h3]
theorem spotsF_none {s : Mst} {f : Nat} {x : Int} (h3 : kd (tgt s x) ≠ 3) : spotsF s f x = [] := by
  cases f with
  | zero => rfl
  | succ f => rw [spotsF_succ, slotsL_none h3]; rfl

theorem chain_count {s : Mst} {f a d : Nat} {lo hi : Int} (ih : ∀ (x lo hi : Int) (t u : Tk), I64 x → sndW s f x lo hi t = some u → (spotsF s f x).length + freeN (s.xs.length + 1) u ≤ freeN (s.xs.length + 1) t) (ho : s.ok) :
    ∀ (n : Nat) (t u : Tk), chain (kidG s (sndW s f) a d lo hi) n t = some u → (((List.range n).map (fun i : Nat => ((i : Int), childS a d i))).flatMap (oneF s f)).length + freeN (s.xs.length + 1) u ≤ n + freeN (s.xs.length + 1) t
  | 0, t, u, h => by simp [chain] at h; subst h; simp
  | n + 1, t, u, h => by
    rw [chain, Option.bind_eq_some_iff] at h
    obtain ⟨v, h1, h2⟩ := h
    have i1 := chain_count ih ho n t v h1
    unfold kidG sndSlot at h2
    split at h2
    · have i2 := ih _ _ _ _ _ (ho.logic _) h2
      rw [List.range_succ, List.map_append, List.flatMap_append, List.length_append]
      simp only [List.map_cons, List.map_nil, List.flatMap_cons, List.flatMap_nil, List.append_nil, oneF, List.length_cons] at i1 ⊢
      omega
    · cases h2
theorem spots_count {s : Mst} (ho : s.ok) : ∀ (f : Nat) (x lo hi : Int) (t u : Tk), I64 x → sndW s f x lo hi t = some u → (spotsF s f x).length + freeN (s.xs.length + 1) u ≤ freeN (s.xs.length + 1) t
  | 0, _, _, _, _, _, _, h => by cases h
  | f + 1, x, lo, hi, t, u, hx, h => by
    have ih := spots_count ho f
    have hm := sndW_free s (f + 1) x lo hi t u h
    have hwf := wf_of_snd ho (f + 1) x lo hi t u hx h
    rw [sndW_succ] at h
    have plain : kd x ≠ 3 → kd x ≠ 4 → (spotsF s (f + 1) x).length + freeN (s.xs.length + 1) u ≤ freeN (s.xs.length + 1) t := fun h3 h4 => by
      rw [spotsF_none (by rw [tgt, if_neg h4]; exact h3)]
      simpa using hm
    split at h
    · rename_i k; exact plain (by omega) (by omega)
    · split at h
      · rename_i k; exact plain (by omega) (by omega)
      · split at h
        · rename_i k3
          have e : tgt s x = x := by rw [tgt, if_neg (by omega)]
          have ha := ad_range x
          have ea : (((ad x).toNat : Nat) : Int) = ad x := by omega
          unfold sndInner at h
          rw [ea] at h
          split at h
          · cases h
          · rename_i hd
            rw [Option.bind_eq_some_iff] at h
            obtain ⟨t1, h1, h2⟩ := h
            split at h2
            · have c1 := take_count h1
              have c2 := chain_count ih ho _ _ _ h2
              have e3 : slotsL s x = (List.range (s.look (ad x)).toNat).map (fun i : Nat => ((i : Int), childS (ad x).toNat (s.look (ad x)).toNat i)) := by
                unfold slotsL degN atN
                rw [e, if_pos k3]
              rw [spotsF_succ, e3]
              omega
            · cases h2
        · split at h
          · rename_i k4
            split at h
            · rename_i k3
              rw [Option.bind_eq_some_iff] at h
              obtain ⟨t1, h1, h2⟩ := h
              have c1 := take_count h1
              have e : tgt s x = s.look (ad x) := by rw [tgt, if_pos k4]
              have hw2 := wf_of_snd ho f _ _ _ _ _ (ho.look _) h2
              have c2 := ih _ _ _ _ _ (ho.look _) h2
              rw [← spotsF_tgt (by rw [e]; exact k3), e, spotsF_more hw2 (by omega)]
              omega
            · cases h
          · cases h
theorem spotsL_len {s : Mst} (ho : s.ok) (h : soundB s = true) : (spotsL s (fuel s)).length ≤ 70000 := by
  unfold soundB at h
  simp only [Bool.and_eq_true] at h
  have h4 := h.2
  cases e : sndSlot s (sndW s (fuel s)) 6 (-9223372036854775808) 9223372036854775807 base0 with
  | none => rw [e] at h4; cases h4
  | some u =>
    unfold sndSlot at e
    split at e
    · have := spots_count ho _ _ _ _ _ _ (ho.logic _) e
      have h1 := freeN_le (s.xs.length + 1) base0
      have h2 := ho.2
      unfold spotsL
      rw [List.length_cons]
      omega
    · cases e

/-- The words that a sound tree has: each is one of the four kinds, its Inner shut or open. -/
def WordOk (s : Mst) (x : Int) : Prop := 1 ≤ kd x ∧ kd x ≤ 4 ∧ (kd x = 3 → shutB s (ad x).toNat = true)
theorem wordOk_of_snd {s : Mst} : ∀ (f : Nat) (x lo hi : Int) (t u : Tk), sndW s f x lo hi t = some u → WordOk s x
  | 0, _, _, _, _, _, h => by cases h
  | f + 1, x, lo, hi, t, u, h => by
    rw [sndW_succ] at h
    split at h
    · rename_i k; exact ⟨by omega, by omega, fun h' => by omega⟩
    · split at h
      · rename_i k; exact ⟨by omega, by omega, fun h' => by omega⟩
      · split at h
        · rename_i k
          refine ⟨by omega, by omega, fun _ => ?_⟩
          unfold sndInner at h
          split at h
          · cases h
          · rw [Option.bind_eq_some_iff] at h
            obtain ⟨t1, _, h2⟩ := h
            split at h2
            · rename_i c
              simp only [Bool.and_eq_true] at c
              exact c.2
            · cases h2
        · split at h
          · rename_i k; exact ⟨by omega, by omega, fun h' => by omega⟩
          · cases h
theorem spots_ok {s : Mst} (ho : s.ok) : ∀ (f : Nat) (x lo hi : Int) (t u : Tk), I64 x → sndW s f x lo hi t = some u → ∀ p ∈ spotsF s f x, WordOk s p.2 ∧ p.2 = s.logicZ p.1
  | 0, _, _, _, _, _, _, h => by cases h
  | f + 1, x, lo, hi, t, u, hx, h => by
    have ih := spots_ok ho f
    have kids : ∀ (a d n : Nat) (lo hi : Int) (t u : Tk), chain (kidG s (sndW s f) a d lo hi) n t = some u → ∀ p ∈ ((List.range n).map (fun i : Nat => ((i : Int), childS a d i))).flatMap (oneF s f), WordOk s p.2 ∧ p.2 = s.logicZ p.1 := by
      intro a d n lo hi t u hc p hp
      rw [List.mem_flatMap] at hp
      obtain ⟨q, hq, hp⟩ := hp
      rw [List.mem_map] at hq
      obtain ⟨i, hi', rfl⟩ := hq
      simp only [List.mem_range] at hi'
      obtain ⟨l, h', t', u', h3⟩ := chain_all hc i hi'
      unfold oneF at hp
      rcases List.mem_cons.1 hp with rfl | hp
      · exact ⟨wordOk_of_snd f _ _ _ _ _ h3, rfl⟩
      · exact ih _ _ _ _ _ (ho.logic _) h3 p hp
    rw [sndW_succ] at h
    have plain : kd x ≠ 3 → kd x ≠ 4 → ∀ p ∈ spotsF s (f + 1) x, WordOk s p.2 ∧ p.2 = s.logicZ p.1 := fun h3 h4 p hp => by
      rw [spotsF_none (by rw [tgt, if_neg h4]; exact h3)] at hp
      cases hp
    split at h
    · rename_i k; exact plain (by omega) (by omega)
    · split at h
      · rename_i k; exact plain (by omega) (by omega)
      · split at h
        · rename_i k3
          have e : tgt s x = x := by rw [tgt, if_neg (by omega)]
          have ha := ad_range x
          have ea : (((ad x).toNat : Nat) : Int) = ad x := by omega
          unfold sndInner at h
          rw [ea] at h
          split at h
          · cases h
          · rw [Option.bind_eq_some_iff] at h
            obtain ⟨t1, h1, h2⟩ := h
            split at h2
            · have e3 : slotsL s x = (List.range (s.look (ad x)).toNat).map (fun i : Nat => ((i : Int), childS (ad x).toNat (s.look (ad x)).toNat i)) := by
                unfold slotsL degN atN
                rw [e, if_pos k3]
              rw [spotsF_succ, e3]
              exact kids _ _ _ _ _ _ _ h2
            · cases h2
        · split at h
          · rename_i k4
            split at h
            · rename_i k3
              rw [Option.bind_eq_some_iff] at h
              obtain ⟨t1, h1, h2⟩ := h
              have e : tgt s x = s.look (ad x) := by rw [tgt, if_pos k4]
              have hw2 := wf_of_snd ho f _ _ _ _ _ (ho.look _) h2
              rw [← spotsF_tgt (by rw [e]; exact k3), e, spotsF_more hw2 (by omega)]
              exact ih _ _ _ _ _ (ho.look _) h2
            · cases h
          · cases h
theorem spotsL_ok {s : Mst} (ho : s.ok) (h : soundB s = true) : ∀ p ∈ spotsL s (fuel s), WordOk s p.2 ∧ p.2 = s.logicZ p.1 := by
  unfold soundB at h
  simp only [Bool.and_eq_true] at h
  have h4 := h.2
  cases e : sndSlot s (sndW s (fuel s)) 6 (-9223372036854775808) 9223372036854775807 base0 with
  | none => rw [e] at h4; cases h4
  | some u =>
    unfold sndSlot at e
    split at e
    · intro p hp
      rcases List.mem_cons.1 hp with rfl | hp
      · exact ⟨wordOk_of_snd _ _ _ _ _ _ e, rfl⟩
      · exact spots_ok ho _ _ _ _ _ _ (ho.logic _) e p hp
    · cases e
end Go.Proofs.Ytbojjpmcopnjpaa

/-! Slices of pairs of numbers (api.Spot, api.Pair): how they read ('PReads'), rows of one's own ('PRow'), appends to them, a box that holds one ('Pst', 'Coll'). -/
namespace Go.Proofs.Ytbojjpmcopnjpaa
open Go.RowKit

/-- The cells of pairs, one behind the other. -/
def flat : List (Int × Int) → List Value
  | [] => []
  | p :: xs => .int .i64 p.1 :: .int .i64 p.2 :: flat xs
theorem flat_append : (xs ys : List (Int × Int)) → flat (xs ++ ys) = flat xs ++ flat ys
  | [], _ => rfl
  | p :: xs, ys => by simp [flat, flat_append xs ys]
theorem flat_length : (xs : List (Int × Int)) → (flat xs).length = xs.length * 2
  | [] => rfl
  | p :: xs => by simp [flat, flat_length xs]; omega
theorem flat_at : {xs : List (Int × Int)} → {j : Nat} → {p : Int × Int} → xs[j]? = some p → (flat xs)[j * 2]? = some (.int .i64 p.1) ∧ (flat xs)[j * 2 + 1]? = some (.int .i64 p.2)
  | x :: xs, 0, p, h => by
    obtain rfl : x = p := by simpa using h
    exact ⟨rfl, rfl⟩
  | x :: xs, j + 1, p, h => by
    have := flat_at (xs := xs) (j := j) (p := p) (by simpa using h)
    rw [show (j + 1) * 2 = j * 2 + 1 + 1 by omega]
    simpa [flat] using this
theorem flat_of : {xs : List (Int × Int)} → {j : Nat} → {u : Value} → (flat xs)[j]? = some u → ∃ i p, xs[i]? = some p ∧ ((j = i * 2 ∧ u = .int .i64 p.1) ∨ (j = i * 2 + 1 ∧ u = .int .i64 p.2))
  | x :: _, 0, u, h => ⟨0, x, rfl, .inl ⟨rfl, by simpa [flat] using h.symm⟩⟩
  | x :: _, 1, u, h => ⟨0, x, rfl, .inr ⟨rfl, by simpa [flat] using h.symm⟩⟩
  | x :: xs, j + 2, u, h => by
    obtain ⟨i, p, h1, h2⟩ := flat_of (xs := xs) (j := j) (u := u) (by simpa [flat] using h)
    refine ⟨i + 1, p, by simpa using h1, ?_⟩
    rcases h2 with ⟨e, h⟩ | ⟨e, h⟩
    · exact .inl ⟨by omega, h⟩
    · exact .inr ⟨by omega, h⟩
theorem flat_one : (xs : List (Int × Int)) → ∀ u ∈ flat xs, u.oneCell' = true
  | [] => by simp [flat]
  | p :: xs => by
    intro u hu
    simp only [flat, List.mem_cons] at hu
    rcases hu with rfl | rfl | hu
    · rfl
    · rfl
    · exact flat_one xs u hu

/-- A slice value that reads as these pairs. -/
def PReads (w : World) (a : Option Addr) (xs : List (Int × Int)) : Prop :=
  xs = [] ∨ ∃ bl off, a = some ⟨bl, off, none⟩ ∧ ∀ j p, xs[j]? = some p → w.cell? ⟨bl, off + j * 2, none⟩ = some (.int .i64 p.1) ∧ w.cell? ⟨bl, off + (j * 2 + 1), none⟩ = some (.int .i64 p.2)
theorem PReads.turned {w w' : World} {a : Option Addr} {xs : List (Int × Int)} (h : PReads w a xs) {R : Nat → Prop} (ht : Turned R w w') (hR : ∀ k, k < w.heap.size → (∃ ad, a = some ad ∧ ad.block = k) → ¬ R k) : PReads w' a xs := by
  rcases h with h | ⟨bl, off, rfl, h⟩
  · exact .inl h
  · refine .inr ⟨bl, off, rfl, fun j p hp => ?_⟩
    have hc := h j p hp
    have hn := hR bl (World.block_lt_of_cell? _ _ hc.1) ⟨_, rfl, rfl⟩
    exact ⟨ht.cell hc.1 hn, ht.cell hc.2 hn⟩
theorem PReads.kept {w w' : World} {a : Option Addr} {xs : List (Int × Int)} (h : PReads w a xs) (ht : Kept w w') : PReads w' a xs := h.turned ht (fun _ _ _ e => e)
theorem PReads.at {w : World} {a : Option Addr} {xs : List (Int × Int)} (h : PReads w a xs) {j : Nat} {p : Int × Int} (hp : xs[j]? = some p) : ∃ bl off, a = some ⟨bl, off, none⟩ ∧ bl < w.heap.size ∧ w.cell? ⟨bl, off + j * 2, none⟩ = some (.int .i64 p.1) ∧ w.cell? ⟨bl, off + (j * 2 + 1), none⟩ = some (.int .i64 p.2) := by
  rcases h with h | ⟨bl, off, ha, hc⟩
  · rw [h] at hp
    simp at hp
  · exact ⟨bl, off, ha, World.block_lt_of_cell? _ _ (hc j p hp).1, hc j p hp⟩
theorem PReads.news {w : World} {bl off : Nat} {xs : List (Int × Int)} (h : ∀ j p, xs[j]? = some p → w.cell? ⟨bl, off + j * 2, none⟩ = some (.int .i64 p.1) ∧ w.cell? ⟨bl, off + (j * 2 + 1), none⟩ = some (.int .i64 p.2)) :
    ∀ (j : Nat) (u : Value), (flat xs)[j]? = some u → w.cell? ((⟨bl, off, none⟩ : Addr).add j) = some u := by
  intro j u hu
  obtain ⟨i, p, h1, ⟨rfl, rfl⟩ | ⟨rfl, rfl⟩⟩ := flat_of hu
  · rcases i with _ | i
    · simpa [Addr.add] using (h 0 p h1).1
    · exact (h (i + 1) p h1).1
  · exact (h i p h1).2

/-- A slice of pairs that owns its row, from n₀ on. -/
abbrev PRow (w : World) (n₀ : Nat) (E : TypeId) (v : Value) (xs : List (Int × Int)) : Prop := w.ownsRow n₀ E 2 v xs.length (flat xs)
theorem PRow.reads {w : World} {n₀ : Nat} {E : TypeId} {v : Value} {xs : List (Int × Int)} (h : PRow w n₀ E v xs) : ∃ a cap, v = .slice a xs.length cap ∧ PReads w a xs ∧ xs.length ≤ cap ∧ cap ≤ maxLen ∧ (a = none → cap = 0) ∧ ∀ ad, a = some ad → n₀ ≤ ad.block := by
  rcases h.2 with ⟨rfl, h0⟩ | ⟨g, cap, cur, rfl, hg, _, hc, hm, _⟩
  · obtain rfl := List.length_eq_zero_iff.1 h0
    exact ⟨none, 0, rfl, .inl rfl, Nat.le_refl _, Nat.zero_le _, fun _ => rfl, fun _ e => by cases e⟩
  · refine ⟨_, cap, rfl, .inr ⟨g, 0, rfl, fun j p hp => ?_⟩, hc, hm, fun e => (by cases e), fun ad e => by cases e; exact hg⟩
    have hj := (List.getElem?_eq_some_iff.1 hp).1
    rw [Nat.zero_add, Nat.zero_add, h.cellAt (j * 2) (by omega), h.cellAt (j * 2 + 1) (by omega)]
    exact flat_at hp
theorem PRow.turned {w w' : World} {n₀ : Nat} {E : TypeId} {v : Value} {xs : List (Int × Int)} (h : PRow w n₀ E v xs) {R : Nat → Prop} (ht : Turned R w w') (hn : ∀ g, v.ownBlock = some g → ¬ R g) : PRow w' n₀ E v xs := by
  obtain ⟨h1, h2⟩ := h
  refine ⟨h1, ?_⟩
  rcases h2 with h2 | ⟨g, cap, cur, rfl, hg, hh, r⟩
  · exact .inl h2
  · exact .inr ⟨g, cap, cur, rfl, hg, ht.heap hh (hn g rfl), r⟩
theorem PRow.kept {w w' : World} {n₀ : Nat} {E : TypeId} {v : Value} {xs : List (Int × Int)} (h : PRow w n₀ E v xs) (ht : Kept w w') : PRow w' n₀ E v xs := h.turned ht (fun _ _ e => e)
theorem PRow.low {w : World} {n₀ m : Nat} {E : TypeId} {v : Value} {xs : List (Int × Int)} (h : PRow w n₀ E v xs) (hm : m ≤ n₀) : PRow w m E v xs := by
  obtain ⟨h1, h2⟩ := h
  refine ⟨h1, ?_⟩
  rcases h2 with h2 | ⟨g, cap, cur, rfl, hg, r⟩
  · exact .inl h2
  · exact .inr ⟨g, cap, cur, rfl, Nat.le_trans hm hg, r⟩
theorem PRow.nil (w : World) (n₀ : Nat) (E : TypeId) : PRow w n₀ E (.slice none 0 0) [] := ⟨rfl, .inl ⟨rfl, rfl⟩⟩

/-- The type of a slice, S, and of its elements, E: pairs of numbers. -/
structure PT (S E : TypeId) : Prop where
  under : Try.prog.underlying S = some (.slice E)
  info : (Try.prog.info? E).map (fun i => (i.zero, i.size, i.bytes)) = some (some (.agg #[.int .i64 0, .int .i64 0]), 2, 16)
theorem ptS : PT 34 37 := ⟨Try.underlying34, by kernel_rfl⟩
theorem ptP : PT 29 32 := ⟨Try.underlying29, by kernel_rfl⟩

/-- Two cells of a new block. -/
theorem two_cells {w : World} {m : Nat} {x y : Int} {E : TypeId} (h : w.heap[m]? = some (.cells #[.int .i64 x, .int .i64 y] E)) : ∀ (j : Nat) (u : Value), (flat [(x, y)])[j]? = some u → w.cell? ((⟨m, 0, none⟩ : Addr).add j) = some u := by
  refine PReads.news (fun j p hp => ?_)
  rcases j with _ | j
  · simp at hp
    subst hp
    simp [World.cell?, h]
  · simp at hp

section
variable {S E : TypeId} {w : World} {ops : Array Oper} {rest : List Oper} {o : Oper} {a : Act} {Q : Exit → Act → World → Prop}
/-- append of one pair. -/
theorem wpList_append_pair (pt : PT S E) (hgd : o.guard = none) (s x : Operand) (ho : o.op = .call { callee := .builtin .append, args := #[s, x], argTypes := #[S, S] })
    (base : Nat) (v : Value) (xs ys : List (Int × Int)) (hs : a.eval s = v) (hown : PRow w base E v xs) (m : Nat) (p q : Int) (hx : a.eval x = .slice (some ⟨m, 0, none⟩) 1 1) (hc : w.heap[m]? = some (.cells #[.int .i64 p, .int .i64 q] E))
    (hl : xs.length ≤ 1000000) (hbase : base ≤ w.heap.size) (hy : ys = xs ++ [(p, q)])
    (h : ∀ v' w', PRow w' base E v' ys → w.grownBy w' v.ownBlock → (v'.ownBlock = v.ownBlock ∨ v'.ownBlock = some w.heap.size) → wpList Try.prog ops Q rest (a.put o.dst v') w') : wpList Try.prog ops Q (o :: rest) a w := by
  obtain ⟨i0, hi, hz0, hz1, hz2⟩ := info_parts pt.info
  refine wpList_append_own_at w hgd s x S ho base E i0 _ 2 16 pt.under hi hz0 hz1 hz2 rfl (by decide) v xs.length (flat xs) hs hown ⟨m, 0, none⟩ 1 1 (flat [(p, q)]) hx rfl (two_cells hc) (flat_one _) (by unfold maxLen; omega) (by omega) hbase ?_
  intro v' w' h1 h2 _ h4
  refine h v' w' ?_ h2 h4
  rw [hy]
  show World.ownsRow _ _ _ _ _ (xs ++ [(p, q)]).length (flat (xs ++ [(p, q)]))
  rw [List.length_append, flat_append]
  exact h1
theorem wpListIn_append_pair {F : Fence} {nF : Nat} (pt : PT S E) (hgd : o.guard = none) (s x : Operand) (ho : o.op = .call { callee := .builtin .append, args := #[s, x], argTypes := #[S, S] })
    (base : Nat) (v : Value) (xs ys : List (Int × Int)) (hs : a.eval s = v) (hown : PRow w base E v xs) (m : Nat) (p q : Int) (hx : a.eval x = .slice (some ⟨m, 0, none⟩) 1 1) (hc : w.heap[m]? = some (.cells #[.int .i64 p, .int .i64 q] E))
    (hl : xs.length ≤ 1000000) (hbase : base ≤ w.heap.size) (hy : ys = xs ++ [(p, q)])
    (h : ∀ v' w', PRow w' base E v' ys → w.grownBy w' v.ownBlock → (v'.ownBlock = v.ownBlock ∨ v'.ownBlock = some w.heap.size) → wpListIn F nF Try.prog ops Q rest (a.put o.dst v') w') : wpListIn F nF Try.prog ops Q (o :: rest) a w := by
  obtain ⟨i0, hi, hz0, hz1, hz2⟩ := info_parts pt.info
  refine wpListIn_append_own_at w hgd s x S ho base E i0 _ 2 16 pt.under hi hz0 hz1 hz2 rfl (by decide) v xs.length (flat xs) hs hown ⟨m, 0, none⟩ 1 1 (flat [(p, q)]) hx rfl (two_cells hc) (flat_one _) (by unfold maxLen; omega) (by omega) hbase ?_
  intro v' w' h1 h2 _ h4
  refine h v' w' ?_ h2 h4
  rw [hy]
  show World.ownsRow _ _ _ _ _ (xs ++ [(p, q)]).length (flat (xs ++ [(p, q)]))
  rw [List.length_append, flat_append]
  exact h1
/-- append of a slice of pairs. -/
theorem wpList_append_pairs (pt : PT S E) (hgd : o.guard = none) (s x : Operand) (ho : o.op = .call { callee := .builtin .append, args := #[s, x], argTypes := #[S, S] })
    (base : Nat) (v : Value) (xs zs ys : List (Int × Int)) (hs : a.eval s = v) (hown : PRow w base E v xs) (aw : Option Addr) (M cw : Nat) (hM : zs.length = M) (hx : a.eval x = .slice aw M cw) (hr : PReads w aw zs) (h0 : aw = none → cw = 0)
    (hl : xs.length + zs.length ≤ 1000000) (hbase : base ≤ w.heap.size) (hy : ys = xs ++ zs)
    (h : ∀ v' w', PRow w' base E v' ys → w.grownBy w' v.ownBlock → (v'.ownBlock = v.ownBlock ∨ v'.ownBlock = some w.heap.size) → wpList Try.prog ops Q rest (a.put o.dst v') w') : wpList Try.prog ops Q (o :: rest) a w := by
  obtain ⟨i0, hi, hz0, hz1, hz2⟩ := info_parts pt.info
  have fin : ∀ v' w', w'.ownsRow base E 2 v' (xs.length + zs.length) (flat xs ++ flat zs) → PRow w' base E v' ys := fun v' w' h1 => by
    rw [hy]
    show World.ownsRow _ _ _ _ _ (xs ++ zs).length (flat (xs ++ zs))
    rw [List.length_append, flat_append]
    exact h1
  subst hM
  cases aw with
  | none =>
    have e0 : zs = [] := by
      rcases hr with e | ⟨_, _, e, _⟩
      · exact e
      · cases e
    subst e0
    obtain rfl := h0 rfl
    refine wpList_plain hgd fun K hK => ?_
    have hrun := run_append_owned_none (P := Try.prog) (w := w) base S o.type E i0 2 pt.under hi v xs.length (flat xs) hown
    unfold Oper.wp execOp
    simp only [ho, resolve, invoke, builtin, Sem.run_bind, Sem.run_pure, Result.andThen_ok, List.map_toArray, List.map_cons, List.map_nil, hs, hx, List.length_nil, hrun]
    exact hK _ _ (h v w (by rw [hy, List.append_nil]; exact hown) (World.grownBy.refl _ _) (.inl rfl))
  | some ad =>
    by_cases e0 : zs = []
    · subst e0
      exact wpList_append_own_at w hgd s x S ho base E i0 _ 2 16 pt.under hi hz0 hz1 hz2 rfl (by decide) v xs.length (flat xs) hs hown ad 0 cw [] hx rfl (by simp) (by simp) (by simp at hl; unfold maxLen; omega) (by simp at hl; omega) hbase (fun v' w' h1 h2 _ h4 => h v' w' (fin v' w' (by simpa [flat] using h1)) h2 h4)
    · obtain ⟨bl, off, e, hrow⟩ : ∃ bl off, some ad = some ⟨bl, off, none⟩ ∧ ∀ j p, zs[j]? = some p → w.cell? ⟨bl, off + j * 2, none⟩ = some (.int .i64 p.1) ∧ w.cell? ⟨bl, off + (j * 2 + 1), none⟩ = some (.int .i64 p.2) := by
        rcases hr with e | h
        · exact (e0 e).elim
        · exact h
      obtain rfl : ad = ⟨bl, off, none⟩ := Option.some.inj e
      exact wpList_append_own_at w hgd s x S ho base E i0 _ 2 16 pt.under hi hz0 hz1 hz2 rfl (by decide) v xs.length (flat xs) hs hown ⟨bl, off, none⟩ zs.length cw (flat zs) hx (flat_length _) (PReads.news hrow) (flat_one _) (by unfold maxLen; omega) (by omega) hbase (fun v' w' h1 h2 _ h4 => h v' w' (fin v' w' h1) h2 h4)
end
/-- Behind an append to a row that is new since w0, what lay at w0 lies as it lay. -/
theorem pkept_append {w0 w w1 : World} {E : TypeId} {v : Value} {xs : List (Int × Int)} (k : Kept w0 w) (hr : PRow w w0.heap.size E v xs) (hg : w.grownBy w1 v.ownBlock) : Kept w0 w1 :=
  k.own (O := fun j => v.ownBlock = some j) (fun i e => (hr.lt i e).1) (Turned.of_grownBy (R := fun j => v.ownBlock = some j) hg (fun _ h => h))

/-- A box at b that holds a slice of pairs, which owns its row; all from n₀ on. -/
structure Pst (S E : TypeId) (w : World) (n₀ b : Nat) (v : Value) (xs : List (Int × Int)) : Prop where
  le : n₀ ≤ b
  box : Boxed w b S v
  row : PRow w n₀ E v xs
namespace Pst
variable {S E : TypeId} {w w' : World} {n₀ b : Nat} {v : Value} {xs : List (Int × Int)}
theorem turned (h : Pst S E w n₀ b v xs) {R : Nat → Prop} (ht : Turned R w w') (hn : ∀ k, Foot b v k → ¬ R k) : Pst S E w' n₀ b v xs :=
  ⟨h.le, ht.boxed h.box (hn b (.inl rfl)), h.row.turned ht (fun g hg => hn g (.inr hg))⟩
theorem kept (h : Pst S E w n₀ b v xs) (ht : Kept w w') : Pst S E w' n₀ b v xs := h.turned ht (fun _ _ e => e)
theorem lt (h : Pst S E w n₀ b v xs) : ∀ k, Foot b v k → n₀ ≤ k ∧ k < w.heap.size := by
  rintro k (rfl | hk)
  · exact ⟨h.le, h.box.lt⟩
  · exact h.row.lt k hk
end Pst
/-- What collecting one more leaves. -/
def Grew (S E : TypeId) (n₀ b : Nat) (v : Value) (ys : List (Int × Int)) (w w' : World) : Prop :=
  ∃ v', Pst S E w' n₀ b v' ys ∧ Turned (Foot b v) w w' ∧ ∀ k, Foot b v' k → Foot b v k ∨ w.heap.size ≤ k
theorem grew_of {S E : TypeId} {w w1 : World} {n₀ b : Nat} {v v' : Value} {xs ys : List (Int × Int)} {tmp : Obj} (hSE : S ≠ E) (hn : n₀ ≤ w.heap.size) (h : Pst S E w n₀ b v xs)
    (hown : PRow w1 n₀ E v' ys) (hgrow : (w.alloc tmp).grownBy w1 v.ownBlock) (hnew : v'.ownBlock = v.ownBlock ∨ v'.ownBlock = some (w.alloc tmp).heap.size) :
    Boxed w1 b S v ∧ Grew S E n₀ b v ys w (w1.setCell ⟨b, 0, none⟩ v') := by
  obtain ⟨hv1, hv2, hr2, hk2, hb2⟩ := h.box.appended hSE h.row hn h.le hown hgrow
  refine ⟨hv1, v', ⟨h.le, hv2, hr2⟩, ?_, ?_⟩
  · have h1 : Turned (Foot b v) w (w.alloc tmp) := Turned.alloc _ _ _
    have h2 : Turned (Foot b v) (w.alloc tmp) w1 := Turned.of_grownBy hgrow (fun k hk => .inr hk)
    have h3 : Turned (Foot b v) w1 (w1.setCell ⟨b, 0, none⟩ v') := Turned.setCell _ _ _ (.inl rfl)
    exact (h1.trans h2 (fun _ h => h) (fun _ _ h => h)).trans h3 (fun _ h => h) (fun _ _ h => h)
  · rintro k (rfl | hk)
    · exact .inl (.inl rfl)
    · rcases hnew with e | e
      · exact .inl (.inr (by rw [← e]; exact hk))
      · right
        rw [e] at hk
        simp at hk
        omega
/-- The invariant of a loop that collects pairs in a box at b. -/
def Coll (S E : TypeId) (n₀ b : Nat) (f : List (Int × Int) → List (Int × Int)) : Inv (Int × Int) := fun O pre A => ∃ v, (∀ j, O j ↔ Foot b v j) ∧ Pst S E A n₀ b v (f pre)
theorem Coll.good (S E : TypeId) (n₀ b : Nat) (f : List (Int × Int) → List (Int × Int)) : Good (Coll S E n₀ b f) := by
  constructor
  · rintro O pre A B ⟨v, hO, hp⟩ ht
    exact ⟨v, hO, hp.turned ht (fun k hk hn => hn ((hO k).2 hk))⟩
  · rintro O pre A ⟨v, hO, hp⟩ k hk
    exact (hp.lt k ((hO k).1 hk)).2
/-- One more has come. -/
theorem Coll.next {S E : TypeId} {n₀ b : Nat} {f : List (Int × Int) → List (Int × Int)} {O : Nat → Prop} {pre ys : List (Int × Int)} {v : Value} {A A' : World} (hO : ∀ j, O j ↔ Foot b v j) (h : Grew S E n₀ b v ys A A') (e : f pre = ys) :
    ∃ O', Sub O' O A.heap.size ∧ Turned O A A' ∧ Coll S E n₀ b f O' pre A' := by
  obtain ⟨v', hp, ht, hs⟩ := h
  refine ⟨Foot b v', fun k hk => (hs k hk).imp (fun h => (hO k).2 h) id, ht.mono (fun k _ hk => (hO k).2 hk), v', fun _ => Iff.rfl, by rw [e]; exact hp⟩
theorem good_false {α : Type} : Good (fun (_ : Nat → Prop) (_ : List α) (_ : World) => False) := ⟨fun _ _ _ _ h _ => h, fun _ _ _ h => h.elim⟩
end Go.Proofs.Ytbojjpmcopnjpaa

/-! The program's Spots (slices.Collect of spots), appendLeaf, pairsBelow, Content. -/
namespace Go.Proofs.Ytbojjpmcopnjpaa
open Go.RowKit Go.Shelf

attribute [local go_sem] Oper.semAt_some

/-- A new slice of these pairs. -/
def PSliced (E : TypeId) (xs : List (Int × Int)) (w : World) (e : Ending) (w' : World) : Prop := ∃ v, e = .returned v ∧ PRow w' w.heap.size E v xs ∧ Kept w w'

set_option maxHeartbeats 1000000 in
theorem appendSeq_p (w W : World) (hk : Kept w W) (b : Nat) (s : Mst) (hM : PM w b s) (ho : s.ok) (f : Nat) (hw : Wf s f (s.logicZ 6)) (hl : (spotsL s f).length ≤ 70000) (B1 : Nat) (h1 : Boxed W B1 22 (.pointer (some ⟨b, 0, none⟩))) :
    Calls Try.prog 68 #[.slice none 0 0, .func (.func 58) #[] #[.pointer (some ⟨B1, 0, none⟩)]] W (PSliced 37 (spotsL s f) W) := by
  obtain ⟨n, hn⟩ : ∃ n, W.heap.size = n := ⟨_, rfl⟩
  have t2 : Kept W (W.alloc (.cells #[.slice none 0 0] 34)) := (Kept.refl W).alloc _
  have hP : Pst 34 37 (W.alloc (.cells #[.slice none 0 0] 34)) n n (.slice none 0 0) [] := ⟨Nat.le_refl _, by rw [← hn]; exact Boxed.new W 34 _, PRow.nil _ _ _⟩
  have HP := hide hP
  have BB := hide (t2.boxed h1 id)
  have K2 := hide (hk.trans t2)
  have T2 := hide t2
  have HM := hide hM
  have HO := hide ho
  have HW := hide hw
  have HL := hide hl
  have zw := hk.size
  have HB1 := hide h1.lt
  have HN := hide hn
  clear hP h1 hk t2 hM ho hw hl
  refine calls_marks Try.func68 rfl ?_
  simp only [Try.ntmps68, List.size_toArray, List.length_cons, List.length_nil, Nat.reduceAdd, Nat.reduceSub, Array.replicate_succ, Array.replicate_zero, List.push_toArray, List.append_toArray, List.nil_append, List.cons_append]
  go_wp2_with (fail)
  obtain ⟨W2, hW2⟩ : ∃ W2, W.alloc (.cells #[.slice none 0 0] 34) = W2 := ⟨_, rfl⟩
  have z2 : W2.heap.size = n + 1 := by rw [← hW2]; simp [hn]
  rw [hW2] at HP BB K2 T2 ⊢
  clear hW2 hn
  have HZ2 := hide z2
  clear z2
  refine wp_range3 (gf := 58) rfl (enters_of Try.func58 (by kernel_rfl) rfl) (encs := encS) (xs := spotsL s f) (R := SpotR w B1)
    (fun X hX => spots_i w X (K2.out.trans hX) b s HM.out HO.out f HW.out B1 (hX.boxed BB.out id)) (fun _ => rfl)
    (Foot n (.slice none 0 0)) (Coll 34 37 n n id) (fun _ _ _ _ => False) ?hR (Coll.good _ _ _ _ _) (fun _ => good_false) ⟨_, fun _ => Iff.rfl, HP.out⟩ (fun p => #[.int .i64 p.1, .int .i64 p.2]) 37 ?ab ?done (fun _ _ _ _ _ _ _ _ _ _ _ h => h.elim)
  case hR =>
    rintro k (hk | rfl)
    · have h2 := HN.out
      have h3 := HZ2.out
      refine ⟨by omega, ?_⟩
      rintro (h | h)
      · omega
      · simp [Value.ownBlock] at h
    · have h2 := HN.out
      have h3 := HB1.out
      have h4 := HZ2.out
      refine ⟨by omega, ?_⟩
      rintro (h | h)
      · omega
      · simp [Value.ownBlock] at h
  case ab =>
    apply Exists.intro
    refine ⟨?_, ?_⟩
    · intro l' p X m K hm hK
      gi_wp2
      exact hK
    · rintro l' O pre ⟨sl, y⟩ rest B m hx' tB sB ⟨v, hO, hp⟩ hm nOm hWm
      have hpl : pre.length ≤ 70000 := by
        have := congrArg List.length hx'
        simp at this
        have := HL.out
        omega
      have zB := tB.size
      have z2 := HZ2.out
      have cX := hp.box.cell
      have cm0 : B.cell? ⟨m, 0, none⟩ = some (.int .i64 sl) := by simp [World.cell?, hm]
      have cm1 : B.cell? ⟨m, 1, none⟩ = some (.int .i64 y) := by simp [World.cell?, hm]
      have HOO := hide hO
      have HPP := hide hp
      have hrow := hide (PRow.kept hp.row (Kept.alloc (Kept.refl B) (.cells #[.int .i64 sl, .int .i64 y] 37)))
      have hnw : (B.alloc (.cells #[.int .i64 sl, .int .i64 y] 37)).heap[B.heap.size]? = some (.cells #[.int .i64 sl, .int .i64 y] 37) := heap_new _ _
      have HNW := hide hnw
      clear hx' tB sB hO hp hm nOm hWm hnw
      gi_wp2_with (gi_at_builtin; refine Stop.out ?_)
      refine ⟨?_⟩
      refine wpListIn_append_pair ptS rfl _ _ rfl n v (id pre) (pre ++ [(sl, y)]) rfl hrow.out B.heap.size sl y rfl HNW.out (by show pre.length ≤ 1000000; omega) (by simp; omega) rfl ?_
      intro v' A1 hown hgrow hat
      obtain ⟨a', cap', hv', _⟩ := hown.reads
      obtain ⟨M, hMM⟩ : ∃ M, (pre ++ [(sl, y)]).length = M := ⟨_, rfl⟩
      rw [hMM] at hv'
      clear hMM
      subst hv'
      obtain ⟨hb1, hg⟩ := grew_of (tmp := .cells #[.int .i64 sl, .int .i64 y] 37) (by decide) (by omega) HPP.out hown hgrow (by simpa using hat)
      have hc1 := hb1.cell
      have hf1 := hb1.frozen
      have HG := hide hg
      clear hg hown hgrow hat cX
      gi_wp2
      exact Coll.next HOO.out HG.out rfl
  case done =>
    rintro D O X hD nD tX sX ⟨v, hO, hp⟩ hK
    have cX := hp.box.cell
    have HK := hide hK
    have HPP := hide hp
    have nD2 : ¬ Foot n v D := fun h => nD ((hO D).2 h)
    have ND := hide nD2
    have zX := tX.size
    have z2 := HZ2.out
    have hn := HN.out
    have KX : Hid (Kept W X) := hide (T2.out.own (O := Foot n (.slice none 0 0)) (fun i hi => by
      rcases hi with h | h
      · omega
      · simp [Value.ownBlock] at h) tX)
    clear hK hp hO nD tX sX nD2 hn
    go_wp2
    refine leave_marks [D] X ?_ ?_ ?_
    · intro k hk
      simp at hk
      rw [hk]
      exact HK.out
    · simp
    · intro X' hX'
      refine ⟨_, results_tmp rfl _ _ _, v, rfl, ?_, ?_⟩
      · rw [HN.out]
        exact HPP.out.row.turned hX' (fun g hg h => ND.out (.inr (by simp at h; rw [← h]; exact hg)))
      · have := HN.out
        exact KX.out.own (fun i hi => by simp at hi; omega) hX'

theorem spots_p (w : World) (b : Nat) (s : Mst) (h : PM w b s) (ho : s.ok) (xs : List (Int × Int)) (e1 : (if soundB s = true then spotsL s (fuel s) else []) = xs) :
    Calls Try.prog 14 #[.pointer (some ⟨b, 0, none⟩)] w (PSliced 37 xs w) := by
  have H := hide h
  have HO := hide ho
  obtain ⟨q, hq⟩ : ∃ q, soundB s = q := ⟨_, rfl⟩
  have HQ := hide hq
  rw [hq] at e1
  cases q with
  | false =>
    have HX : Hid (xs = []) := hide (by rw [← e1]; rfl)
    clear h ho hq e1
    go_enter Try.func14, Try.ntmps14
    go_wp2_with (fail)
    refine (sound_p _ b s H.out HO.out false HQ.out).mono ?_
    rintro e W2 ⟨rfl, k2⟩
    have K2 := hide k2
    clear k2
    go_wp2
    go_ret
    exact ⟨_, rfl, by rw [HX.out]; exact PRow.nil _ _ _, K2.out⟩
  | true =>
    have HX : Hid (xs = spotsL s (fuel s)) := hide (by rw [← e1]; rfl)
    clear h ho hq e1
    go_enter Try.func14, Try.ntmps14
    go_wp2_with (fail)
    refine (sound_p _ b s H.out HO.out true HQ.out).mono ?_
    rintro e W2 ⟨rfl, k2⟩
    have K2 := hide k2
    clear k2
    go_wp2_with (fail)
    refine (spots_k W2 b).mono ?_
    rintro e W3 ⟨B1, rfl, k3, b1, l1⟩
    have K3 := hide (K2.out.trans k3)
    have BB := hide b1
    clear k3 b1 l1
    go_wp2_with (fail)
    refine (show Calls Try.prog 39 #[.func (.func 58) #[] #[.pointer (some ⟨B1, 0, none⟩)]] W3 (PSliced 37 (spotsL s (fuel s)) W3) from ?_).mono ?_
    · have HS := hide (appendSeq_p w W3 K3.out b s H.out HO.out (fuel s) (wf_root HO.out HQ.out) (spotsL_len HO.out HQ.out) B1 BB.out)
      go_enter Try.func39, Try.ntmps39
      go_wp2_with (fail)
      refine HS.out.mono ?_
      rintro e W4 ⟨v, rfl, hr, k4⟩
      have HR := hide hr
      have K4 := hide k4
      clear hr k4 HS
      go_wp2
      go_ret
      exact ⟨_, rfl, HR.out, K4.out⟩
    · rintro e W4 ⟨v, rfl, hr, k4⟩
      have HR := hide (hr.low K3.out.size)
      have K4 := hide (K3.out.trans k4)
      clear hr k4
      go_wp2
      go_ret
      exact ⟨_, rfl, by rw [HX.out]; exact HR.out, K4.out⟩
end Go.Proofs.Ytbojjpmcopnjpaa

/-! The document's spots, Spots. -/
namespace Go.Proofs.Ytbojjpmcopnjpaa
open Go.RowKit

theorem flat_take {α β : Type} (F : α → List β) {L : List α} {k : Nat} {p : α} (h : L[k]? = some p) : (L.take (k + 1)).flatMap F = (L.take k).flatMap F ++ F p := by
  rw [← (at_split h).2, List.flatMap_append]; simp
theorem flat_take_le {α β : Type} (F : α → List β) (L : List α) (k : Nat) : ((L.take k).flatMap F).length ≤ (L.flatMap F).length := by
  conv => rhs; rw [← List.take_append_drop k L, List.flatMap_append, List.length_append]
  omega

/-- The contract with fuel f. -/
def SpotsD (f : Nat) : Prop := ∀ (w : World) (b : Nat) (s : Mst) (_ : DM w b s) (_ : s.ok) (x : Int) (_ : Wf s f x) (_ : (spotsF s f x).length ≤ 70000), Calls Try.prog 50 #[.pointer (some ⟨b, 0, none⟩), .int .i64 x] w (PSliced 37 (spotsF s f x) w)

set_option maxHeartbeats 2000000 in
set_option maxRecDepth 20000 in
theorem spots_inner (f : Nat) (ih : SpotsD f) (w : World) (b : Nat) (s : Mst) (h : DM w b s) (ho : s.ok) (x : Int) (hw : Wf s (f + 1) x) (k3 : kd x = 3) (hl : (spotsF s (f + 1) x).length ≤ 70000) :
    Calls Try.prog 50 #[.pointer (some ⟨b, 0, none⟩), .int .i64 x] w (PSliced 37 (spotsF s (f + 1) x) w) := by
  have e0 : tgt s x = x := by rw [tgt, if_neg (by rw [k3]; decide)]
  obtain ⟨hwh, hwk⟩ := hw
  obtain ⟨p, hp⟩ : ∃ p, ad x = p := ⟨_, rfl⟩
  have pr := ad_range x
  rw [hp] at pr
  obtain ⟨a, rfl⟩ : ∃ a : Nat, p = (a : Int) := ⟨p.toNat, by omega⟩
  have a2 : (a : Int) ≤ 65536 := pr.2
  have hd := hwh.deg (by rw [e0]; exact k3)
  rw [e0, hp] at hd
  obtain ⟨d, hd'⟩ : ∃ d : Nat, s.look (a : Int) = (d : Int) := ⟨(s.look a).toNat, by omega⟩
  rw [hd'] at hd
  obtain ⟨d2, d3⟩ := hd
  have eA : atN s x = a := by unfold atN; rw [e0, hp]; omega
  have eD : degN s x = d := by unfold degN; rw [e0, hp, hd']; omega
  have HLA : Hid (∀ k, k < d → (slotsL s x)[k]? = some ((k : Int), childS a d k)) := hide (fun k hk => by
    have := slotsL_at (s := s) (x := x) (by rw [e0]; exact k3) (k := k) (by rw [eD]; exact hk)
    rwa [eA, eD] at this)
  have HLL : Hid ((slotsL s x).length = d) := hide (by rw [slotsL_len (by rw [e0]; exact k3), eD])
  rw [spotsF_succ] at hl ⊢
  have H := hide h
  have HO := hide ho
  have HX := hide hwh.i64
  have HP := hide hp
  have HD := hide hd'
  have K3 := hide k3
  have IH := hide ih
  have HWK := hide hwk
  have HL := hide hl
  clear h ho hwh hp hd' k3 ih hwk hl pr e0 eA eD
  go_enter Try.func50, Try.ntmps50
  go_wp2_with (fail)
  refine (ak_d _ x a HX.out HP.out).mono ?_
  rintro e w' ⟨rfl, rfl⟩
  go_wp2_with (fail)
  refine (kk_d _ x 3 HX.out K3.out).mono ?_
  rintro e w' ⟨rfl, rfl⟩
  go_wp2_with (fail)
  refine (lk_d _ b s a d H.out HD.out).mono ?_
  rintro e w' ⟨rfl, rfl⟩
  go_wp2
  go_loopw [5, 8] (fun v i wr => ∃ (k : Nat) (ys : List (Int × Int)), k ≤ d ∧ i = .int .i64 (k : Int) ∧ Hid (ys = ((slotsL s x).take k).flatMap (oneF s f)) ∧ Hid (PRow wr w.heap.size 37 v ys) ∧ Hid (Kept w wr)) (fun _ i _ => d - (intOf i).toNat)
  case atStart => exact ⟨0, [], by omega, by simp, hide (by simp), hide (PRow.nil _ _ _), hide (Kept.refl _)⟩
  case round =>
    obtain ⟨k, ys, hk, rfl, HY, HR, HK⟩ := hrel
    by_cases hkn : k < d
    · have j1 : (k : Int) < (d : Int) := by omega
      have hcz := hide (childZ_in (n := a) (d := (d : Int)) (i := k) (by omega) (by omega) (by omega) (by omega) (by omega) (by omega))
      obtain ⟨sl, hsl⟩ : ∃ sl, (a : Int) + 4 + (d : Int) + k = sl := ⟨_, rfl⟩
      rw [hsl] at hcz
      obtain ⟨y, hy⟩ : ∃ y, s.logicZ sl = y := ⟨_, rfl⟩
      have HYY := hide hy
      have hat := HLA.out k hkn
      have hat' : (slotsL s x)[k]? = some ((k : Int), sl) := by rw [hat]; unfold childS; rw [hsl]
      have hone : oneF s f ((k : Int), sl) = (sl, y) :: spotsF s f y := by rw [oneF, hy]
      have hwf : Wf s f y := by
        have := HWK.out ((k : Int), sl) (List.mem_of_getElem? hat')
        rwa [hy] at this
      have HWF := hide hwf
      have hnx : ((slotsL s x).take (k + 1)).flatMap (oneF s f) = ys ++ ((sl, y) :: spotsF s f y) := by rw [flat_take _ hat', ← HY.out, hone]
      have hlen : (ys ++ ((sl, y) :: spotsF s f y)).length ≤ 70000 := by rw [← hnx]; exact Nat.le_trans (flat_take_le _ _ _) HL.out
      rw [List.length_append, List.length_cons] at hlen
      obtain ⟨zs, hzs⟩ : ∃ zs, ys ++ [(sl, y)] = zs := ⟨_, rfl⟩
      have hzl : zs.length = ys.length + 1 := by rw [← hzs]; simp
      obtain ⟨us, hus⟩ : ∃ us, zs ++ spotsF s f y = us := ⟨_, rfl⟩
      have HUS := hide hus.symm
      have HNX : Hid (us = ((slotsL s x).take (k + 1)).flatMap (oneF s f)) := hide (by rw [hnx, ← hus, ← hzs]; simp)
      have HZS := hide hzs.symm
      have L1 : Hid (ys.length ≤ 1000000) := hide (by omega)
      have L2 : Hid ((spotsF s f y).length ≤ 70000) := hide (by omega)
      have L3 : Hid (zs.length + (spotsF s f y).length ≤ 1000000) := hide (by omega)
      have MW := hide (H.out.kept HK.out)
      clear hy hat hat' hone hwf hnx hlen hzs hzl hus hsl
      go_wp2_with (fail)
      refine (child_r _ a d k sl hcz.out).mono ?_
      rintro e w' ⟨rfl, rfl⟩
      go_wp2_with (fail)
      refine (logic_d _ b s sl y MW.out HO.out HYY.out).mono ?_
      rintro e w' ⟨rfl, rfl⟩
      go_wp2_with (at_builtin; refine Stop.out ?_)
      refine ⟨?_⟩
      have HRA := hide (HR.out.kept (Kept.alloc (Kept.refl wr) (.cells #[.int .i64 sl, .int .i64 y] 37)))
      have HNW : Hid ((wr.alloc (.cells #[.int .i64 sl, .int .i64 y] 37)).heap[wr.heap.size]? = some (.cells #[.int .i64 sl, .int .i64 y] 37)) := hide (heap_new _ _)
      have HKA := hide (HK.out.trans (Kept.alloc (Kept.refl wr) (.cells #[.int .i64 sl, .int .i64 y] 37)))
      refine wpList_append_pair ptS rfl _ _ rfl w.heap.size _ ys zs rfl HRA.out wr.heap.size sl y rfl HNW.out L1.out HKA.out.size HZS.out ?_
      intro v1 W1 hown hg _
      have HK1 := hide (pkept_append HKA.out HRA.out hg)
      have HR1 := hide hown
      have MW1 := hide (H.out.kept HK1.out)
      clear hown hg HRA HNW HKA HR HK MW
      go_wp2_with (fail)
      refine (logic_d _ b s sl y MW1.out HO.out HYY.out).mono ?_
      rintro e w' ⟨rfl, rfl⟩
      go_wp2_with (fail)
      refine (IH.out W1 b s MW1.out HO.out y HWF.out L2.out).mono ?_
      rintro e W2 ⟨v2, rfl, hr2, k2⟩
      obtain ⟨a2', c2, hv2, hrd, _, _, h0, _⟩ := hr2.reads
      obtain ⟨M, hM⟩ : ∃ M, (spotsF s f y).length = M := ⟨_, rfl⟩
      have HMM := hide hM
      rw [hM] at hv2
      subst hv2
      have HR2 := hide (HR1.out.kept k2)
      have HK2 := hide (HK1.out.trans k2)
      have HRD := hide hrd
      have H0 := hide h0
      clear hr2 k2 hrd h0 hM HR1 HK1 MW1
      go_wp2_with (at_builtin; refine Stop.out ?_)
      refine ⟨?_⟩
      refine wpList_append_pairs ptS rfl _ _ rfl w.heap.size _ zs (spotsF s f y) us rfl HR2.out a2' M c2 HMM.out rfl HRD.out H0.out L3.out HK2.out.size HUS.out ?_
      intro v3 W3 hown hg _
      have HK3 := hide (pkept_append HK2.out HR2.out hg)
      have HR3 := hide hown
      clear hown hg HR2 HK2 HRD H0
      go_wp2
      exact ⟨⟨k + 1, us, by omega, by simp, HNX, HR3, HK3⟩, by simp [intOf]; omega⟩
    · have hkn' : k = d := by omega
      subst hkn'
      have j1 : ¬ ((k : Int) < (k : Int)) := by omega
      have HE : Hid (ys = (slotsL s x).flatMap (oneF s f)) := hide (by rw [HY.out, List.take_of_length_le (by rw [HLL.out]; omega)])
      go_wp2
      go_ret
      exact ⟨_, rfl, by rw [← HE.out]; exact HR.out, HK.out⟩

set_option maxHeartbeats 1000000 in
theorem spots_d : ∀ f, SpotsD f
  | 0 => fun _ _ _ _ _ _ h _ => h.elim
  | f + 1 => by
    have ih := spots_d f
    intro w b s h ho x hw hl
    obtain ⟨k, hk⟩ : ∃ k, kd x = k := ⟨_, rfl⟩
    by_cases k3 : k = 3
    · exact spots_inner f ih w b s h ho x hw (by rw [hk, k3]) hl
    obtain ⟨p, hp⟩ : ∃ p, ad x = p := ⟨_, rfl⟩
    have pr := ad_range x
    rw [hp] at pr
    have H := hide h
    have HX := hide hw.1.i64
    have HP := hide hp
    have HK := hide hk
    by_cases k4 : k = 4
    · have h3 := hw.1.tg (by rw [hk]; exact k4)
      have e0 : tgt s x = s.look p := by rw [tgt, if_pos (by rw [hk]; exact k4), hp]
      obtain ⟨z, hz⟩ : ∃ z, s.look p = z := ⟨_, rfl⟩
      have HZ := hide hz
      have hw2 := hw.down ho h3
      have HS : Hid (Calls Try.prog 50 #[.pointer (some ⟨b, 0, none⟩), .int .i64 z] w (PSliced 37 (spotsF s (f + 1) x) w)) := hide (by
        rw [← spotsF_tgt h3, e0, hz]
        rw [e0, hz] at hw2 h3
        refine spots_inner f ih w b s h ho z hw2 h3 ?_
        rw [← hz, ← e0, spotsF_tgt (by rw [e0, hz]; exact h3)]
        exact hl)
      subst k4
      clear h ho hw hl hk hp hz e0 h3 hw2 ih k3
      go_enter Try.func50, Try.ntmps50
      go_wp2_with (fail)
      refine (ak_d _ x p HX.out HP.out).mono ?_
      rintro e w' ⟨rfl, rfl⟩
      go_wp2_with (fail)
      refine (kk_d _ x 4 HX.out HK.out).mono ?_
      rintro e w' ⟨rfl, rfl⟩
      go_wp2_with (fail)
      refine (lk_d _ b s p z H.out HZ.out).mono ?_
      rintro e w' ⟨rfl, rfl⟩
      go_wp2_with (fail)
      refine HS.out.mono ?_
      rintro e W1 ⟨v, rfl, hr, k1⟩
      have HR := hide hr
      have K1 := hide k1
      clear hr k1 HS
      go_wp2
      go_ret
      exact ⟨_, rfl, HR.out, K1.out⟩
    · have HE := hide (spotsF_none (s := s) (f := f + 1) (x := x) (by rw [tgt, if_neg (by rw [hk]; exact k4), hk]; exact k3))
      have g1 : (k == 4) = false := by simp [k4]
      have g2 : (k == 3) = false := by simp [k3]
      clear h ho hw hl hk hp ih k3 k4
      go_enter Try.func50, Try.ntmps50
      go_wp2_with (fail)
      refine (ak_d _ x p HX.out HP.out).mono ?_
      rintro e w' ⟨rfl, rfl⟩
      go_wp2_with (fail)
      refine (kk_d _ x k HX.out HK.out).mono ?_
      rintro e w' ⟨rfl, rfl⟩
      go_wp2
      go_ret
      exact ⟨_, rfl, by rw [HE.out]; exact PRow.nil _ _ _, Kept.refl _⟩

theorem spotsD_p (w : World) (b : Nat) (s : Mst) (h : DM w b s) (ho : s.ok) (xs : List (Int × Int)) (e1 : (if soundB s = true then spotsL s (fuel s) else []) = xs) :
    Calls Try.prog 23 #[.pointer (some ⟨b, 0, none⟩)] w (PSliced 37 xs w) := by
  have H := hide h
  have HO := hide ho
  obtain ⟨q, hq⟩ : ∃ q, soundB s = q := ⟨_, rfl⟩
  have HQ := hide hq
  rw [hq] at e1
  cases q with
  | false =>
    have HX : Hid (xs = []) := hide (by rw [← e1]; rfl)
    clear h ho hq e1
    go_enter Try.func23, Try.ntmps23
    go_wp2_with (fail)
    refine (sound_d _ b s H.out HO.out false HQ.out).mono ?_
    rintro e W2 ⟨rfl, k2⟩
    have K2 := hide k2
    clear k2
    go_wp2
    go_ret
    exact ⟨_, rfl, by rw [HX.out]; exact PRow.nil _ _ _, K2.out⟩
  | true =>
    obtain ⟨y, hy⟩ : ∃ y, s.logicZ 6 = y := ⟨_, rfl⟩
    have HYY := hide hy
    have HX : Hid (xs = [(6, y)] ++ spotsF s (fuel s) y) := hide (by rw [← e1, if_pos rfl, spotsL, hy]; rfl)
    have hwf := wf_root ho hq
    rw [hy] at hwf
    have HWF := hide hwf
    have hlen := spotsL_len ho hq
    rw [spotsL, hy, List.length_cons] at hlen
    have L2 : Hid ((spotsF s (fuel s) y).length ≤ 70000) := hide (by omega)
    have L3 : Hid ([((6 : Int), y)].length + (spotsF s (fuel s) y).length ≤ 1000000) := hide (by rw [List.length_singleton]; omega)
    clear h ho hq e1 hy hwf hlen
    go_enter Try.func23, Try.ntmps23
    go_wp2_with (fail)
    refine (sound_d _ b s H.out HO.out true HQ.out).mono ?_
    rintro e W2 ⟨rfl, k2⟩
    have K2 := hide k2
    have M2 := hide (H.out.kept k2)
    clear k2
    go_wp2_with (fail)
    refine (logic_d _ b s 6 y M2.out HO.out HYY.out).mono ?_
    rintro e w' ⟨rfl, rfl⟩
    go_wp2_with (fail)
    obtain ⟨W3, hW3⟩ : ∃ W3, W2.alloc (.cells #[.int .i64 6, .int .i64 y] 37) = W3 := ⟨_, rfl⟩
    obtain ⟨m, hm⟩ : ∃ m, W2.heap.size = m := ⟨_, rfl⟩
    have k3 : Kept W2 W3 := by rw [← hW3]; exact (Kept.refl _).alloc _
    have r3 : PRow W3 w.heap.size 37 (.slice (some ⟨m, 0, none⟩) 1 1) [(6, y)] := by
      rw [← hW3, ← hm]
      exact ⟨rfl, .inr ⟨W2.heap.size, 1, _, rfl, K2.out.size, heap_new _ _, Nat.le_refl _, by unfold maxLen; omega, rfl, rfl⟩⟩
    rw [hW3, hm]
    have R3 := hide r3
    have K3 := hide (K2.out.trans k3)
    have M3 := hide (H.out.kept K3.out)
    clear hW3 hm k3 r3 K2 M2
    refine (spots_d (fuel s) W3 b s M3.out HO.out y HWF.out L2.out).mono ?_
    rintro e W4 ⟨v2, rfl, hr2, k4⟩
    obtain ⟨a2', c2, hv2, hrd, _, _, h0, _⟩ := hr2.reads
    obtain ⟨M, hM⟩ : ∃ M, (spotsF s (fuel s) y).length = M := ⟨_, rfl⟩
    have HMM := hide hM
    rw [hM] at hv2
    subst hv2
    have R4 := hide (R3.out.kept k4)
    have K4 := hide (K3.out.trans k4)
    have HRD := hide hrd
    have H0 := hide h0
    clear hr2 k4 hrd h0 hM R3 K3 M3
    go_wp2_with (at_builtin; refine Stop.out ?_)
    refine ⟨?_⟩
    refine wpList_append_pairs ptS rfl _ _ rfl w.heap.size _ [(6, y)] (spotsF s (fuel s) y) xs rfl R4.out a2' M c2 HMM.out rfl HRD.out H0.out L3.out K4.out.size HX.out ?_
    intro v3 W5 hown hg _
    have K5 := hide (pkept_append K4.out R4.out hg)
    have R5 := hide hown
    clear hown hg R4 K4 HRD H0
    go_wp2
    go_ret
    exact ⟨_, rfl, R5.out, K5.out⟩
end Go.Proofs.Ytbojjpmcopnjpaa

/-! The document's Calm. -/
namespace Go.Proofs.Ytbojjpmcopnjpaa
open Go.RowKit

theorem calmS_dcss {s : Mst} {p : Int × Int} (he : p.2 = s.logicZ p.1) (h : s.look p.1 ≠ p.2) : calmS s p = false := by
  have h5 : kd (s.look p.1) = 5 := by
    apply Classical.byContradiction
    intro h5
    apply h
    rw [he, Mst.logicZ, if_neg h5]
  rw [calmS, h5]; rfl
theorem calmS_same {s : Mst} {p : Int × Int} (hw : WordOk s p.2) (h : s.look p.1 = p.2) : calmS s p = calmW s p.2 := by
  have := hw.2.1
  have h5 : kd p.2 ≠ 5 := by omega
  rw [calmS, h]
  simp [h5]

set_option maxHeartbeats 4000000 in
set_option maxRecDepth 20000 in
theorem calm_d (w : World) (b : Nat) (s : Mst) (h : DM w b s) (ho : s.ok) (r : Bool) (e1 : calmB s = r) :
    Calls Try.prog 22 #[.pointer (some ⟨b, 0, none⟩)] w fun e w' => e = .returned (.bool r) ∧ Kept w w' := by
  have H := hide h
  have HO := hide ho
  obtain ⟨L, hL⟩ : ∃ L, (if soundB s = true then spotsL s (fuel s) else []) = L := ⟨_, rfl⟩
  have HLL := hide hL
  obtain ⟨M, hM⟩ : ∃ M, L.length = M := ⟨_, rfl⟩
  have hm : M ≤ 70000 := by
    rw [← hM, ← hL]
    split
    · rename_i hs; exact spotsL_len ho hs
    · simp
  have e2 : r = (decide (0 < M) && L.all (calmS s)) := by
    rw [← e1, calmB, ← hM, ← hL]
    split
    · rename_i hs; rw [hs]; simp [spotsL]
    · rename_i hs; simp [hs]
  have HE := hide e2
  have OK : Hid (∀ p ∈ L, WordOk s p.2 ∧ p.2 = s.logicZ p.1) := hide (by
    rw [← hL]
    split
    · rename_i hs; exact spotsL_ok ho hs
    · intro p hp; cases hp)
  have OI : Hid (∀ p ∈ L, I64 p.2) := hide (by
    rw [← hL]
    split
    · exact spotsL_i64 ho _
    · intro p hp; cases hp)
  have HM := hide hM
  clear h ho e1 e2 hL hM
  go_enter Try.func22, Try.ntmps22
  go_wp2_with (fail)
  refine (spotsD_p w b s H.out HO.out L HLL.out).mono ?_
  rintro e W1 ⟨v, rfl, hr, k1⟩
  obtain ⟨la, lc, hv, hrd, hlc, hlm, _, _⟩ := hr.reads
  rw [HM.out] at hv hlc
  subst hv
  have HRD := hide hrd
  have K1 := hide k1
  clear hr hrd k1
  go_wp2
  go_loopw [4] (fun i wr => ∃ k : Nat, k ≤ M ∧ i = .int .i64 (k : Int) ∧ Hid (∀ p ∈ L.take k, calmS s p = true) ∧ Hid (Kept W1 wr)) (fun i _ => M - (intOf i).toNat)
  case atStart => exact ⟨0, by omega, by simp, hide (by intro p hp; simp at hp), hide (Kept.refl _)⟩
  case round =>
    obtain ⟨k, hk, rfl, HA, HK⟩ := hrel
    by_cases hkm : k < M
    · obtain ⟨⟨sl, y⟩, hp⟩ : ∃ p, L[k]? = some p := ⟨_, List.getElem?_eq_getElem (by rw [HM.out]; exact hkm)⟩
      obtain ⟨bl, off, rfl, _, q0, q1⟩ := HRD.out.at hp
      have c0 := HK.out.cell q0 id
      have c1 : wr.cell? ⟨bl, off + k * 2 + 1, none⟩ = some (.int .i64 y) := HK.out.cell q1 id
      have hmem := List.mem_of_getElem? hp
      obtain ⟨hw0, hw1⟩ := OK.out _ hmem
      have HW0 := hide hw0
      have HYI := hide (OI.out _ hmem)
      have MW := hide (H.out.kept (K1.out.trans HK.out))
      have j1 : (k : Int) < (M : Int) := by omega
      have j2 : k < lc := by omega
      obtain ⟨t, ht⟩ : ∃ t, kd y = t := ⟨_, rfl⟩
      obtain ⟨p, hpp⟩ : ∃ p, ad y = p := ⟨_, rfl⟩
      obtain ⟨u, hu⟩ : ∃ u, s.look sl = u := ⟨_, rfl⟩
      have pr := ad_range y
      rw [hpp] at pr
      obtain ⟨p0, p1⟩ := pr
      have HT := hide ht
      have HPP := hide hpp
      have HU := hide hu
      have BAD : calmS s (sl, y) = false → Hid (r = false) := fun hc => hide (by
        rw [HE.out]
        have : L.all (calmS s) = false := List.all_eq_false.2 ⟨_, hmem, by simp [hc]⟩
        rw [this, Bool.and_false])
      have GOOD : calmS s (sl, y) = true → Hid (∀ p ∈ L.take (k + 1), calmS s p = true) := fun hc => hide (by
        rw [← (at_split hp).2]
        intro q hq
        rcases List.mem_append.1 hq with hq | hq
        · exact HA.out q hq
        · simp at hq; rw [hq]; exact hc)
      by_cases t4 : t = 4
      · have HR := BAD (by
          have : calmW s y = false := by rw [calmW, if_pos (by rw [ht]; exact t4)]
          rw [calmS]; show (!(kd (s.look sl) == 5) && calmW s y) = false; rw [this, Bool.and_false])
        subst t4
        clear hp q0 q1 hmem hw0 hw1 ht hpp hu BAD GOOD
        go_wp2_with (fail)
        refine (ak_d _ y p HYI.out HPP.out).mono ?_
        rintro e w' ⟨rfl, rfl⟩
        go_wp2_with (fail)
        refine (kk_d _ y 4 HYI.out HT.out).mono ?_
        rintro e w' ⟨rfl, rfl⟩
        go_wp2
        go_ret
        exact ⟨by rw [HR.out]; rfl, K1.out.trans HK.out⟩
      have g4 : (t == 4) = false := by simp [t4]
      by_cases uy : u = y
      · have ec : calmS s (sl, y) = calmW s y := calmS_same (p := (sl, y)) hw0 (by show s.look sl = y; rw [hu]; exact uy)
        by_cases t3 : t = 3
        · obtain ⟨z1, hz1⟩ : ∃ z, s.look (p + 1) = z := ⟨_, rfl⟩
          obtain ⟨z2, hz2⟩ : ∃ z, s.look (p + 2) = z := ⟨_, rfl⟩
          obtain ⟨z3, hz3⟩ : ∃ z, s.look (p + 3) = z := ⟨_, rfl⟩
          obtain ⟨m, hmm⟩ : ∃ m, Pt.limZ z1 = m := ⟨_, rfl⟩
          have HB1 : Hid (I64 z1) := hide (by rw [← hz1]; exact HO.out.look _)
          have HLM : Hid (∀ W, Calls Try.prog 49 #[.int .i64 z1] W fun e w' => e = .returned (.int .i64 m) ∧ W = w') := hide (fun W => by
            refine (Pt.lim_r z1 HB1.out.wf W).mono ?_
            rw [← hmm]
            rintro e w' ⟨rfl, rfl⟩
            exact ⟨rfl, rfl⟩)
          have sh : z2 = 0 ∨ z2 = 1 := by
            have := hw0.2.2 (by show kd y = 3; rw [ht]; exact t3)
            unfold shutB at this
            have e' : (((ad y).toNat : Nat) : Int) = p := by rw [hpp]; omega
            simp only [e', hz2, Bool.or_eq_true, beq_iff_eq] at this
            exact this
          have ew : calmW s y = (!(z2 == 1) && decide (z3 < m)) := by
            rw [calmW, if_neg (by rw [ht]; exact t4), if_pos (by rw [ht]; exact t3), hpp, hz1, hz2, hz3, hmm]
          have HZ1 := hide hz1
          have HZ2 := hide hz2
          have HZ3 := hide hz3
          rcases sh with sh | sh
          · subst sh
            by_cases y3 : z3 < m
            · have HG := GOOD (by rw [ec, ew]; simp [y3])
              have y4 : ¬ (m ≤ z3) := by omega
              subst t3 uy
              clear hp q0 q1 hmem hw0 hw1 ht hpp hu BAD GOOD ec ew hz1 hz2 hz3 hmm t4
              go_wp2_with (fail)
              refine (ak_d _ u p HYI.out HPP.out).mono ?_
              rintro e w' ⟨rfl, rfl⟩
              go_wp2_with (fail)
              refine (kk_d _ u 3 HYI.out HT.out).mono ?_
              rintro e w' ⟨rfl, rfl⟩
              go_wp2_with (fail)
              refine (lk_d _ b s sl u MW.out HU.out).mono ?_
              rintro e w' ⟨rfl, rfl⟩
              go_wp2_with (fail)
              refine (kk_d _ u 3 HYI.out HT.out).mono ?_
              rintro e w' ⟨rfl, rfl⟩
              go_wp2_with (fail)
              refine (lk_d _ b s (p + 2) 0 MW.out HZ2.out).mono ?_
              rintro e w' ⟨rfl, rfl⟩
              go_wp2_with (fail)
              refine (lk_d _ b s (p + 3) z3 MW.out HZ3.out).mono ?_
              rintro e w' ⟨rfl, rfl⟩
              go_wp2_with (fail)
              refine (lk_d _ b s (p + 1) z1 MW.out HZ1.out).mono ?_
              rintro e w' ⟨rfl, rfl⟩
              go_wp2_with (fail)
              refine (HLM.out _).mono ?_
              rintro e w' ⟨rfl, rfl⟩
              go_wp2
              exact ⟨⟨k + 1, by omega, by simp, HG, HK⟩, by simp [intOf]; omega⟩
            · have HR := BAD (by rw [ec, ew]; simp [y3])
              have y4 : m ≤ z3 := by omega
              subst t3 uy
              clear hp q0 q1 hmem hw0 hw1 ht hpp hu BAD GOOD ec ew hz1 hz2 hz3 hmm t4
              go_wp2_with (fail)
              refine (ak_d _ u p HYI.out HPP.out).mono ?_
              rintro e w' ⟨rfl, rfl⟩
              go_wp2_with (fail)
              refine (kk_d _ u 3 HYI.out HT.out).mono ?_
              rintro e w' ⟨rfl, rfl⟩
              go_wp2_with (fail)
              refine (lk_d _ b s sl u MW.out HU.out).mono ?_
              rintro e w' ⟨rfl, rfl⟩
              go_wp2_with (fail)
              refine (kk_d _ u 3 HYI.out HT.out).mono ?_
              rintro e w' ⟨rfl, rfl⟩
              go_wp2_with (fail)
              refine (lk_d _ b s (p + 2) 0 MW.out HZ2.out).mono ?_
              rintro e w' ⟨rfl, rfl⟩
              go_wp2_with (fail)
              refine (lk_d _ b s (p + 3) z3 MW.out HZ3.out).mono ?_
              rintro e w' ⟨rfl, rfl⟩
              go_wp2_with (fail)
              refine (lk_d _ b s (p + 1) z1 MW.out HZ1.out).mono ?_
              rintro e w' ⟨rfl, rfl⟩
              go_wp2_with (fail)
              refine (HLM.out _).mono ?_
              rintro e w' ⟨rfl, rfl⟩
              go_wp2
              go_ret
              exact ⟨by rw [HR.out]; rfl, K1.out.trans HK.out⟩
          · have HR := BAD (by rw [ec, ew, sh]; rfl)
            subst sh t3 uy
            clear hp q0 q1 hmem hw0 hw1 ht hpp hu BAD GOOD ec ew hz1 hz2 hz3 hmm t4
            go_wp2_with (fail)
            refine (ak_d _ u p HYI.out HPP.out).mono ?_
            rintro e w' ⟨rfl, rfl⟩
            go_wp2_with (fail)
            refine (kk_d _ u 3 HYI.out HT.out).mono ?_
            rintro e w' ⟨rfl, rfl⟩
            go_wp2_with (fail)
            refine (lk_d _ b s sl u MW.out HU.out).mono ?_
            rintro e w' ⟨rfl, rfl⟩
            go_wp2_with (fail)
            refine (kk_d _ u 3 HYI.out HT.out).mono ?_
            rintro e w' ⟨rfl, rfl⟩
            go_wp2_with (fail)
            refine (lk_d _ b s (p + 2) 1 MW.out HZ2.out).mono ?_
            rintro e w' ⟨rfl, rfl⟩
            go_wp2
            go_ret
            exact ⟨by rw [HR.out]; rfl, K1.out.trans HK.out⟩
        · have g3 : (t == 3) = false := by simp [t3]
          have HG := GOOD (by rw [ec, calmW, if_neg (by rw [ht]; exact t4), if_neg (by rw [ht]; exact t3)])
          subst uy
          clear hp q0 q1 hmem hw0 hw1 ht hpp hu BAD GOOD ec t3 t4
          go_wp2_with (fail)
          refine (ak_d _ u p HYI.out HPP.out).mono ?_
          rintro e w' ⟨rfl, rfl⟩
          go_wp2_with (fail)
          refine (kk_d _ u t HYI.out HT.out).mono ?_
          rintro e w' ⟨rfl, rfl⟩
          go_wp2_with (fail)
          refine (lk_d _ b s sl u MW.out HU.out).mono ?_
          rintro e w' ⟨rfl, rfl⟩
          go_wp2_with (fail)
          refine (kk_d _ u t HYI.out HT.out).mono ?_
          rintro e w' ⟨rfl, rfl⟩
          go_wp2
          exact ⟨⟨k + 1, by omega, by simp, HG, HK⟩, by simp [intOf]; omega⟩
      · have HR := BAD (calmS_dcss (p := (sl, y)) hw1 (by show s.look sl ≠ y; rw [hu]; exact uy))
        have g1 : (u == y) = false := by simp [uy]
        have g2 : (u != y) = true := by simp [uy]
        clear hp q0 q1 hmem hw0 hw1 ht hpp hu BAD GOOD uy t4
        go_wp2_with (fail)
        refine (ak_d _ y p HYI.out HPP.out).mono ?_
        rintro e w' ⟨rfl, rfl⟩
        go_wp2_with (fail)
        refine (kk_d _ y t HYI.out HT.out).mono ?_
        rintro e w' ⟨rfl, rfl⟩
        go_wp2_with (fail)
        refine (lk_d _ b s sl u MW.out HU.out).mono ?_
        rintro e w' ⟨rfl, rfl⟩
        go_wp2
        go_ret
        exact ⟨by rw [HR.out]; rfl, K1.out.trans HK.out⟩
    · have hkm' : k = M := by omega
      subst hkm'
      have j1 : ¬ ((k : Int) < (k : Int)) := by omega
      have HALL : Hid (L.all (calmS s) = true) := hide (List.all_eq_true.2 (fun p hp => HA.out p (by rw [List.take_of_length_le (by rw [HM.out]; omega)]; exact hp)))
      have KK := hide (K1.out.trans HK.out)
      by_cases k0 : 0 < k
      · have i0 : (0 : Int) < (k : Int) := by omega
        have HR : Hid (r = true) := hide (by rw [HE.out, HALL.out]; simp [k0])
        go_wp2
        go_ret
        exact ⟨by rw [HR.out]; rfl, KK.out⟩
      · have i0 : ¬ ((0 : Int) < (k : Int)) := by omega
        have HR : Hid (r = false) := hide (by rw [HE.out]; simp [k0])
        have i1 : decide ((0 : Int) < (k : Int)) = false := by simp; omega
        go_wp2
        go_ret
        exact ⟨by rw [HR.out]; rfl, KK.out⟩
end Go.Proofs.Ytbojjpmcopnjpaa

/-! The program's appendLeaf, pairsBelow, Content. -/
namespace Go.Proofs.Ytbojjpmcopnjpaa
open Go.RowKit Go.Shelf

attribute [local go_sem] Oper.semAt_some

/-- The pair of a word, if it is a Leaf's. -/
def leafL (s : Mst) (x : Int) : List (Int × Int) := if kd x = 2 then [(s.look (ad x), s.look (ad x + 1))] else []
theorem leafL_len (s : Mst) (x : Int) : (leafL s x).length ≤ 1 := by unfold leafL; split <;> simp
/-- What lies below a word. -/
def pairsF (s : Mst) (f : Nat) (x : Int) : List (Int × Int) := leafL s x ++ (spotsF s f x).flatMap (fun p => leafL s p.2)
def contentB (s : Mst) (x : Int) : List (Int × Int) := if inTreeB s x = true then pairsF s (fuel s) x else []
theorem leaves_len (s : Mst) (L : List (Int × Int)) : (L.flatMap (fun p => leafL s p.2)).length ≤ L.length := by
  induction L with
  | nil => simp
  | cons p L ih =>
    have := leafL_len s p.2
    rw [List.flatMap_cons, List.length_append, List.length_cons]
    omega

/-- What an append of a Leaf's pair leaves. -/
def AppPost (W : World) (n₀ : Nat) (v : Value) (ys : List (Int × Int)) (e : Ending) (W' : World) : Prop :=
  ∃ v', e = .returned v' ∧ PRow W' n₀ 32 v' ys ∧ Turned (fun k => v.ownBlock = some k) W W' ∧ (v'.ownBlock = v.ownBlock ∨ ∃ k, v'.ownBlock = some k ∧ W.heap.size ≤ k)
theorem appendLeaf_p (W : World) (b : Nat) (s : Mst) (x : Int) (n₀ : Nat) (v : Value) (xs ys : List (Int × Int)) (h : PM W b s) (hx : I64 x) (hr : PRow W n₀ 32 v xs) (hl : xs.length ≤ 1000000) (hn : n₀ ≤ W.heap.size) (e1 : ys = xs ++ leafL s x) :
    Calls Try.prog 66 #[v, .pointer (some ⟨b, 0, none⟩), .int .i64 x] W (AppPost W n₀ v ys) := by
  have H := hide h
  have HX := hide hx
  have HR := hide hr
  have HL := hide hl
  have HN := hide hn
  obtain ⟨k, hk⟩ : ∃ k, kd x = k := ⟨_, rfl⟩
  obtain ⟨p, hp⟩ : ∃ p, ad x = p := ⟨_, rfl⟩
  have pr := ad_range x
  rw [hp] at pr
  obtain ⟨p0, p1⟩ := pr
  have HK := hide hk
  have HP := hide hp
  obtain ⟨la, lc, hv, _⟩ := hr.reads
  obtain ⟨M, hM⟩ : ∃ M, xs.length = M := ⟨_, rfl⟩
  rw [hM] at hv
  by_cases k2 : k = 2
  · obtain ⟨z, hz⟩ : ∃ z, s.look p = z := ⟨_, rfl⟩
    obtain ⟨u, hu⟩ : ∃ u, s.look (p + 1) = u := ⟨_, rfl⟩
    have HZ := hide hz
    have HU := hide hu
    have HE : Hid (ys = xs ++ [(z, u)]) := hide (by rw [e1, leafL, if_pos (by rw [hk]; exact k2), hp, hz, hu])
    subst hv k2
    clear h hx hr hl hn hk hp e1 hM hz hu
    go_enter Try.func66, Try.ntmps66
    go_wp2_with (fail)
    refine (kk_p _ x 2 HX.out HK.out).mono ?_
    rintro e w' ⟨rfl, rfl⟩
    go_wp2_with (fail)
    refine (ak_p _ x p HX.out HP.out).mono ?_
    rintro e w' ⟨rfl, rfl⟩
    go_wp2_with (fail)
    refine (lk_p _ b s _ z H.out (by first | exact HZ.out | simpa using HZ.out)).mono ?_
    rintro e w' ⟨rfl, rfl⟩
    go_wp2_with (fail)
    refine (lk_p _ b s (p + 1) u H.out HU.out).mono ?_
    rintro e w' ⟨rfl, rfl⟩
    go_wp2_with (at_builtin; refine Stop.out ?_)
    refine ⟨?_⟩
    have HRA := hide (HR.out.kept (Kept.alloc (Kept.refl W) (.cells #[.int .i64 z, .int .i64 u] 32)))
    have HNW : Hid ((W.alloc (.cells #[.int .i64 z, .int .i64 u] 32)).heap[W.heap.size]? = some (.cells #[.int .i64 z, .int .i64 u] 32)) := hide (heap_new _ _)
    refine wpList_append_pair ptP rfl _ _ rfl n₀ _ xs ys rfl HRA.out W.heap.size z u rfl HNW.out HL.out (by have := HN.out; simp; omega) HE.out ?_
    intro v1 W1 hown hg hat
    have T1 : Hid (Turned (fun k => (Value.slice la M lc).ownBlock = some k) W W1) := hide ((Turned.alloc (fun _ => False) W _).trans (Turned.of_grownBy (R := fun k => (Value.slice la M lc).ownBlock = some k) hg (fun _ h => h)) (fun _ h => h.elim) (fun _ _ h => h))
    have HR1 := hide hown
    have HAT : Hid (v1.ownBlock = (Value.slice la M lc).ownBlock ∨ ∃ k, v1.ownBlock = some k ∧ W.heap.size ≤ k) := hide (by
      rcases hat with h | h
      · exact .inl h
      · exact .inr ⟨_, h, by simp⟩)
    clear hown hg hat HRA HNW
    go_wp2
    go_ret
    exact ⟨_, rfl, HR1.out, T1.out, HAT.out⟩
  · have HE : Hid (ys = xs) := hide (by rw [e1, leafL, if_neg (by rw [hk]; exact k2), List.append_nil])
    have g1 : (k == 2) = false := by simp [k2]
    have g2 : (k != 2) = true := by simp [k2]
    subst hv
    clear h hx hr hl hn hk hp e1 hM k2
    go_enter Try.func66, Try.ntmps66
    go_wp2_with (fail)
    refine (kk_p _ x k HX.out HK.out).mono ?_
    rintro e w' ⟨rfl, rfl⟩
    go_wp2
    go_ret
    exact ⟨_, rfl, by rw [HE.out]; exact HR.out, Turned.refl _ _, .inl rfl⟩

/-- What a box with a slice of pairs is, once another slice is laid there. -/
theorem grew_set {W W' : World} {n₀ b : Nat} {v v' : Value} {xs ys : List (Int × Int)} (h : Pst 29 32 W n₀ b v xs) (hr : PRow W' n₀ 32 v' ys) (ht : Turned (fun k => v.ownBlock = some k) W W') (hnew : v'.ownBlock = v.ownBlock ∨ ∃ k, v'.ownBlock = some k ∧ W.heap.size ≤ k) :
    Boxed W' b 29 v ∧ Grew 29 32 n₀ b v ys W (W'.setCell ⟨b, 0, none⟩ v') := by
  have nb : v.ownBlock ≠ some b := by
    intro e
    rcases h.row.2 with ⟨rfl, _⟩ | ⟨g, cap, cur, rfl, _, hg, _⟩
    · simp [Value.ownBlock] at e
    · obtain rfl : g = b := by simpa [Value.ownBlock] using e
      have := (show W.heap[g]? = _ from h.box).symm.trans hg
      simp at this
  have nb' : v'.ownBlock ≠ some b := by
    rcases hnew with e | ⟨k, e, hk⟩
    · rw [e]; exact nb
    · rw [e]
      have := h.box.lt
      intro e'
      cases e'
      omega
  have hb : Boxed W' b 29 v := ht.boxed h.box (fun e => nb e)
  have tS : Turned (fun k => k = b) W' (W'.setCell ⟨b, 0, none⟩ v') := Turned.setCell _ _ _ rfl
  refine ⟨hb, v', ⟨h.le, hb.set v', hr.turned tS (fun g hg e => nb' (by rw [hg, e]))⟩, ?_, ?_⟩
  · exact (ht.mono (fun k _ e => .inr e)).trans tS (fun _ e => e) (fun k _ e => .inl e)
  · rintro k (rfl | hk)
    · exact .inl (.inl rfl)
    · rcases hnew with e | ⟨j, e, hj⟩
      · exact .inl (.inr (by rw [← e]; exact hk))
      · rw [e] at hk
        cases hk
        exact .inr hj

set_option maxHeartbeats 1000000 in
theorem pairsBelow_p (w : World) (b : Nat) (s : Mst) (h : PM w b s) (ho : s.ok) (f : Nat) (x : Int) (hw : Wf s f x) (hl : (spotsF s f x).length ≤ 70000) (zs : List (Int × Int)) (e1 : pairsF s f x = zs) :
    Calls Try.prog 38 #[.pointer (some ⟨b, 0, none⟩), .int .i64 x] w (PSliced 32 zs w) := by
  obtain ⟨n, hn⟩ : ∃ n, w.heap.size = n := ⟨_, rfl⟩
  obtain ⟨W1, hW1⟩ : ∃ W1, w.alloc (.cells #[.pointer (some ⟨b, 0, none⟩)] 22) = W1 := ⟨_, rfl⟩
  have t1 : Kept w W1 := by rw [← hW1]; exact (Kept.refl w).alloc _
  have z1 : W1.heap.size = n + 1 := by rw [← hW1]; simp [hn]
  have bM : Boxed W1 n 22 (.pointer (some ⟨b, 0, none⟩)) := by rw [← hW1, ← hn]; exact Boxed.new w 22 _
  have K1 := hide t1
  have BM := hide bM
  have c0 := bM.cell
  have H := hide h
  have HO := hide ho
  have HW := hide hw
  have HX := hide (hw.pos.elim fun _ h => h.2.1.i64)
  have HL := hide hl
  have HN := hide hn
  have Z1 := hide z1
  have HE := hide e1
  clear t1 bM h ho hw hl e1 z1
  refine calls_marks Try.func38 rfl ?_
  simp only [Try.ntmps38, List.size_toArray, List.length_cons, List.length_nil, Nat.reduceAdd, Nat.reduceSub, Array.replicate_succ, Array.replicate_zero, List.push_toArray, List.append_toArray, List.nil_append, List.cons_append]
  go_wp2_with (fail)
  clear hW1 hn
  refine (appendLeaf_p W1 b s x n (.slice none 0 0) [] (leafL s x) (H.out.kept K1.out) HX.out (PRow.nil _ _ _) (by simp) (by have := Z1.out; omega) rfl).mono ?_
  rintro e W2 ⟨v2, rfl, r2, t2, _⟩
  have k2 : Kept W1 W2 := t2.mono (fun k _ e => by simp [Value.ownBlock] at e)
  obtain ⟨la, lc, hv, _⟩ := r2.reads
  obtain ⟨M, hM⟩ : ∃ M, (leafL s x).length = M := ⟨_, rfl⟩
  rw [hM] at hv
  subst hv
  clear hM
  obtain ⟨W3, hW3⟩ : ∃ W3, W2.alloc (.cells #[.slice la M lc] 29) = W3 := ⟨_, rfl⟩
  obtain ⟨m, hm⟩ : ∃ m, W2.heap.size = m := ⟨_, rfl⟩
  have t3 : Kept W2 W3 := by rw [← hW3]; exact (Kept.refl W2).alloc _
  have P3 : Hid (Pst 29 32 W3 n m (.slice la M lc) (leafL s x)) := hide ⟨by have := k2.size; have := Z1.out; omega, by rw [← hW3, ← hm]; exact Boxed.new W2 29 _, r2.kept t3⟩
  have K3 := hide (K1.out.trans (k2.trans t3))
  have BM3 := hide ((k2.trans t3).boxed BM.out id)
  have c0' := BM3.out.cell
  have Z3 : Hid (n + 1 ≤ m ∧ W3.heap.size = m + 1) := hide ⟨by have := k2.size; have := Z1.out; omega, by rw [← hW3]; simp [hm]⟩
  clear r2 t2 k2 t3 c0 BM K1
  go_wp2_with (fail)
  clear hW3 hm
  refine (below_k W3 b x).mono ?_
  rintro e W4 ⟨B1, B2, rfl, k4, b1, b2, l1, l2⟩
  have K4 := hide (K3.out.trans k4)
  have KW4 := hide k4
  have BM4 := hide (k4.boxed BM3.out id)
  have P4 := hide (P3.out.kept k4)
  have BB1 := hide b1
  have BB2 := hide b2
  have L1 : Hid (m + 1 ≤ B1 ∧ m + 1 ≤ B2 ∧ m + 1 ≤ W4.heap.size) := hide (by have := Z3.out; have := k4.size; omega)
  have FT : Hid (∀ k, Foot m (.slice la M lc) k → n ≤ k ∧ k < m + 1) := hide (fun k hk => by
    have := P3.out.lt k hk
    have := Z3.out
    omega)
  have NM : Hid (¬ Foot m (.slice la M lc) n) := hide (by
    rintro (h | h)
    · have := Z3.out; omega
    · rcases P3.out.row.2 with ⟨e, _⟩ | ⟨g, cap, cur, e, _, hg, _⟩
      · cases e; simp [Value.ownBlock] at h
      · cases e
        obtain rfl : g = n := by simpa [Value.ownBlock] using h
        have := (show W3.heap[g]? = _ from BM3.out).symm.trans hg
        simp at this)
  clear k4 b1 b2 l1 l2 c0'
  go_wp2_with (fail)
  refine wp_range3 (gf := 84) rfl (enters_of Try.func84 (by kernel_rfl) rfl) (encs := encS) (xs := spotsF s f x) (R := SlotR w B1 B2)
    (fun X hX => below_i w X (K4.out.trans hX) b s H.out HO.out f x HW.out B1 B2 (hX.boxed BB1.out id) (hX.boxed BB2.out id)) (fun _ => rfl)
    (Foot m (.slice la M lc)) (Coll 29 32 n m (fun pre => leafL s x ++ pre.flatMap (fun p => leafL s p.2))) (fun _ _ _ _ => False) ?hR (Coll.good _ _ _ _ _) (fun _ => good_false) ⟨_, fun _ => Iff.rfl, by simpa using P4.out⟩ (fun p => #[.int .i64 p.1, .int .i64 p.2]) 37 ?ab ?done (fun _ _ _ _ _ _ _ _ _ _ _ h => h.elim)
  case hR =>
    rintro k (hk | rfl | rfl)
    · have h1 := HN.out
      have h2 := K4.out.size
      refine ⟨by omega, fun h => ?_⟩
      have := FT.out k h
      omega
    · refine ⟨BB1.out.lt, fun h => ?_⟩
      have := FT.out _ h
      have := L1.out
      omega
    · refine ⟨BB2.out.lt, fun h => ?_⟩
      have := FT.out _ h
      have := L1.out
      omega
  case ab =>
    apply Exists.intro
    refine ⟨?_, ?_⟩
    · intro l' p X m K hm hK
      gi_wp2
      exact hK
    · rintro l' O pre ⟨sl, y⟩ rest B q hx' tB sB ⟨v, hO, hp⟩ hq nOq hWq
      have hmem : (sl, y) ∈ spotsF s f x := by rw [hx']; simp
      have HYI := hide (spotsF_i64 HO.out f x _ hmem)
      have hpl : pre.length ≤ 70000 := by
        have := congrArg List.length hx'
        simp at this
        have := HL.out
        omega
      have hyl : Hid ((leafL s x ++ pre.flatMap (fun p => leafL s p.2)).length ≤ 1000000) := hide (by
        have h1 := leafL_len s x
        have h2 := leaves_len s pre
        rw [List.length_append]
        omega)
      have KB : Hid (Kept w B) := hide (K4.out.own (O := Foot m (.slice la M lc)) (fun i hi => by have := FT.out i hi; have := HN.out; omega) tB)
      have MB := hide (H.out.kept KB.out)
      have cM := (tB.boxed BM4.out NM.out).cell
      have cX := hp.box.cell
      have cm1 : B.cell? ⟨q, 1, none⟩ = some (.int .i64 y) := by simp [World.cell?, hq]
      have HOO := hide hO
      have HPP := hide hp
      obtain ⟨va, vc, hv, _⟩ := hp.row.reads
      obtain ⟨N, hNN⟩ : ∃ N, (leafL s x ++ pre.flatMap (fun p => leafL s p.2)).length = N := ⟨_, rfl⟩
      rw [hNN] at hv
      subst hv
      have zB : Hid (n ≤ B.heap.size) := hide (by have := KB.out.size; have := HN.out; omega)
      have HYS : Hid (leafL s x ++ List.flatMap (fun p => leafL s p.2) (pre ++ [(sl, y)]) = (leafL s x ++ pre.flatMap (fun p => leafL s p.2)) ++ leafL s y) := hide (by simp)
      clear hx' tB sB hO hp hq nOq hWq hmem hNN
      gi_wp2_with (fail)
      refine ⟨trivial, ?_⟩
      refine (CallsIn.inRound l' (callsIn_wide.2 (appendLeaf_p B b s y n (.slice va N vc) _ _ MB.out HYI.out HPP.out.row hyl.out zB.out HYS.out))).mono ?_
      rintro e C ⟨v', rfl, r', t', hnew⟩
      obtain ⟨hb1, hg⟩ := grew_set HPP.out r' t' hnew
      obtain ⟨va', vc', hv', _⟩ := r'.reads
      obtain ⟨N', hN'⟩ : ∃ N', (leafL s x ++ List.flatMap (fun p => leafL s p.2) (pre ++ [(sl, y)])).length = N' := ⟨_, rfl⟩
      rw [hN'] at hv'
      subst hv'
      have hc1 := hb1.cell
      have hf1 := hb1.frozen
      have HG := hide hg
      clear hg r' t' hnew cX hN'
      gi_wp2
      exact Coll.next HOO.out HG.out rfl
  case done =>
    rintro D O X hD nD tX sX ⟨v, hO, hp⟩ hK
    have cX := hp.box.cell
    have HK := hide hK
    have HPP := hide hp
    have ND : Hid (¬ Foot m v D) := hide (fun h => nD ((hO D).2 h))
    have KX : Hid (Kept w X) := hide (K4.out.own (O := Foot m (.slice la M lc)) (fun i hi => by have := FT.out i hi; have := HN.out; omega) tX)
    have HDn : Hid (n ≤ D) := hide (by have := L1.out; have := Z3.out; omega)
    clear hK hp hO nD tX sX
    go_wp2
    refine leave_marks [D] X ?_ ?_ ?_
    · intro k hk
      simp at hk
      rw [hk]
      exact HK.out
    · simp
    · intro X' hX'
      refine ⟨_, results_tmp rfl _ _ _, v, rfl, ?_, ?_⟩
      · rw [HN.out, ← HE.out]
        exact HPP.out.row.turned hX' (fun g hg h => ND.out (.inr (by simp at h; rw [← h]; exact hg)))
      · exact KX.out.own (fun i hi => by simp at hi; have := HDn.out; have := HN.out; omega) hX'

theorem wf_spots {s : Mst} : ∀ {f : Nat} {x : Int}, Wf s f x → ∀ p ∈ spotsF s f x, Wf s f p.2
  | 0, _, h, _, _ => h.elim
  | f + 1, x, h, p, hp => by
    rw [spotsF_succ, List.mem_flatMap] at hp
    obtain ⟨q, hq, hp⟩ := hp
    have hq' := h.2 q hq
    unfold oneF at hp
    rcases List.mem_cons.1 hp with rfl | hp
    · exact hq'.mono (by omega)
    · exact (wf_spots hq' p hp).mono (by omega)
theorem wf_tgt {s : Mst} (ho : s.ok) {f : Nat} {x : Int} (h : Wf s f x) : Wf s f (tgt s x) := by
  by_cases h4 : kd x = 4
  · obtain ⟨g, rfl, h1, _⟩ := h.pos
    exact h.down ho (h1.tg h4)
  · rw [tgt, if_neg h4]; exact h
theorem spotsF_sub {s : Mst} : ∀ {f : Nat} {x : Int}, Wf s f x → ∀ p ∈ spotsF s f x, (spotsF s f p.2).length ≤ (spotsF s f x).length
  | 0, _, h, _, _ => h.elim
  | f + 1, x, h, p, hp => by
    rw [spotsF_succ, List.mem_flatMap] at hp
    obtain ⟨q, hq, hp⟩ := hp
    have hq' := h.2 q hq
    have hle : (oneF s f q).length ≤ (spotsF s (f + 1) x).length := by
      rw [spotsF_succ]
      obtain ⟨L1, L2, e⟩ := List.append_of_mem hq
      rw [e, List.flatMap_append, List.flatMap_cons, List.length_append, List.length_append]
      omega
    unfold oneF at hp hle
    rw [List.length_cons] at hle
    rcases List.mem_cons.1 hp with rfl | hp
    · rw [spotsF_more hq' (by omega)]
      omega
    · have := spotsF_sub hq' p hp
      rw [spotsF_more (wf_spots hq' p hp) (by omega)]
      omega
/-- A word of the tree is well-founded, and not too much is below it. -/
theorem inTree_wf {s : Mst} (ho : s.ok) {x : Int} (h : inTreeB s x = true) : Wf s (fuel s) x ∧ (spotsF s (fuel s) x).length ≤ 70000 := by
  unfold inTreeB at h
  rw [Bool.and_eq_true] at h
  obtain ⟨hs, ha⟩ := h
  have hr := wf_root ho hs
  have hlen := spotsL_len ho hs
  rw [spotsL, List.length_cons] at hlen
  have all : ∀ p ∈ spotsL s (fuel s), Wf s (fuel s) p.2 ∧ (spotsF s (fuel s) p.2).length ≤ 70000 := by
    intro p hp
    rcases List.mem_cons.1 hp with rfl | hp
    · exact ⟨hr, by show (spotsF s (fuel s) (s.logicZ 6)).length ≤ 70000; omega⟩
    · exact ⟨wf_spots hr p hp, Nat.le_trans (spotsF_sub hr p hp) (by omega)⟩
  obtain ⟨p, hp, hm⟩ := List.any_eq_true.1 ha
  obtain ⟨h1, h2⟩ := all p hp
  unfold meetB at hm
  simp only [Bool.or_eq_true, beq_iff_eq] at hm
  rcases hm with rfl | rfl
  · exact ⟨h1, h2⟩
  · refine ⟨wf_tgt ho h1, ?_⟩
    by_cases h4 : kd p.2 = 4
    · obtain ⟨g, hg, h1', _⟩ := h1.pos
      rw [spotsF_tgt (h1'.tg h4)]
      exact h2
    · rw [tgt, if_neg h4]; exact h2

theorem content_p (w : World) (b : Nat) (s : Mst) (x : Int) (h : PM w b s) (ho : s.ok) (hx : I64 x) (zs : List (Int × Int)) (e1 : contentB s x = zs) :
    Calls Try.prog 12 #[.pointer (some ⟨b, 0, none⟩), .int .i64 x] w (PSliced 32 zs w) := by
  have H := hide h
  have HO := hide ho
  have HX := hide hx
  obtain ⟨q, hq⟩ : ∃ q, inTreeB s x = q := ⟨_, rfl⟩
  have HQ := hide hq
  unfold contentB at e1
  rw [hq] at e1
  cases q with
  | false =>
    have HE : Hid (zs = []) := hide (by rw [← e1]; rfl)
    clear h ho hx hq e1
    go_enter Try.func12, Try.ntmps12
    go_wp2_with (fail)
    refine (isInTree_p _ b s x H.out HO.out HX.out false HQ.out).mono ?_
    rintro e W2 ⟨rfl, k2⟩
    have K2 := hide k2
    clear k2
    go_wp2
    go_ret
    exact ⟨_, rfl, by rw [HE.out]; exact PRow.nil _ _ _, K2.out⟩
  | true =>
    have HE : Hid (pairsF s (fuel s) x = zs) := hide e1
    clear h ho hx hq e1
    go_enter Try.func12, Try.ntmps12
    go_wp2_with (fail)
    refine (isInTree_p _ b s x H.out HO.out HX.out true HQ.out).mono ?_
    rintro e W2 ⟨rfl, k2⟩
    have K2 := hide k2
    clear k2
    go_wp2_with (fail)
    refine (pairsBelow_p W2 b s (H.out.kept K2.out) HO.out (fuel s) x (inTree_wf HO.out HQ.out).1 (inTree_wf HO.out HQ.out).2 zs HE.out).mono ?_
    rintro e W3 ⟨v, rfl, hr, k3⟩
    have HR := hide (hr.low K2.out.size)
    have K3 := hide (K2.out.trans k3)
    clear hr k3
    go_wp2
    go_ret
    exact ⟨_, rfl, HR.out, K3.out⟩
end Go.Proofs.Ytbojjpmcopnjpaa

/-! A region that draws its order, in two parts: plain operations that all stand ahead of one loud one (a call that turns the world), and what comes behind it, walked in another class of worlds ('region_two': the order and the barrier are handed in). Conditions: each theorem's own. -/
namespace Go.Proofs.Ytbojjpmcopnjpaa
open Go.RowKit

section
variable {P : Program} {ops : Array Oper} {Q : Exit → Act → World → Prop} {md : Region.Mode} {C : World → Prop} {n : Nat}

/-- What is done has all done that it waits for. -/
def Closed (md : Region.Mode) (ops : Array Oper) (listed : Array Bool) : Prop :=
  ∀ (j : Nat) (o : Oper), ops[j]? = some o → listed.getD j false = true → ∀ e ∈ o.after, Region.binds md e = true → listed.getD e.on false = true
theorem closed_start (m : Nat) : Closed md ops (Array.replicate m false) := fun j o _ h => by
  exfalso
  rcases Nat.lt_or_ge j m with h' | h'
  · simp [h'] at h
  · simp [Nat.not_lt.2 h'] at h
theorem closed_step {listed : Array Bool} {j : Nat} (h : Closed md ops listed) (hj : j ∈ Region.ready md ops listed) : Closed md ops (listed.setIfInBounds j true) := by
  intro k o hk hl e he hb
  by_cases hkj : j = k
  · subst hkj
    obtain ⟨_, o', ho', hall⟩ := mem_ready.1 hj
    rw [hk] at ho'
    cases ho'
    exact getD_set_true (hall e he hb)
  · rw [getD_set_ne false hkj] at hl
    exact getD_set_true (h k o hk hl e he hb)

/-- p stands ahead of i. -/
inductive Anc (md : Region.Mode) (ops : Array Oper) : Nat → Nat → Prop
  | direct {i : Nat} {o : Oper} {e : Edge} : ops[i]? = some o → e ∈ o.after → Region.binds md e = true → Anc md ops e.on i
  | trans {p q i : Nat} : Anc md ops p q → Anc md ops q i → Anc md ops p i
theorem anc_done {listed : Array Bool} (hc : Closed md ops listed) {p i : Nat} (h : Anc md ops p i) : (∀ o, ops[i]? = some o → ∀ e ∈ o.after, Region.binds md e = true → listed.getD e.on false = true) → listed.getD p false = true := by
  induction h with
  | direct ho he hb => exact fun h => h _ ho _ he hb
  | trans _ _ ih1 ih2 => exact fun h => ih1 (fun o ho e he hb => hc _ o ho (ih2 h) e he hb)
def ancB (md : Region.Mode) (ops : Array Oper) : Nat → Nat → Nat → Bool
  | 0, _, _ => false
  | f + 1, p, i => match ops[i]? with
    | none => false
    | some o => o.after.any fun e => Region.binds md e && (e.on == p || ancB md ops f p e.on)
theorem ancB_sound : ∀ (f p i : Nat), ancB md ops f p i = true → Anc md ops p i
  | 0, _, _, h => by cases h
  | f + 1, p, i, h => by
    unfold ancB at h
    cases ho : ops[i]? with
    | none => rw [ho] at h; cases h
    | some o =>
      rw [ho] at h
      obtain ⟨e, he, hb⟩ := Array.any_eq_true'.1 h
      simp only [Bool.and_eq_true, Bool.or_eq_true, beq_iff_eq] at hb
      obtain ⟨h1, h2⟩ := hb
      have hd : Anc md ops e.on i := .direct ho he h1
      rcases h2 with h2 | h2
      · rw [← h2]
        exact hd
      · exact .trans (ancB_sound f p e.on h2) hd
theorem not_ready {listed : Array Bool} (hc : Closed md ops listed) {p i : Nat} (h : Anc md ops p i) (hp : p ∈ Region.ready md ops listed) : i ∉ Region.ready md ops listed := by
  intro hi
  obtain ⟨_, o, ho, hall⟩ := mem_ready.1 hi
  have h1 := anc_done hc h (fun o' ho' => by rw [ho] at ho'; cases ho'; exact hall)
  have h0 := (mem_ready.1 hp).1
  rcases Nat.lt_or_ge p listed.size with h' | h'
  · simp [h'] at h0 h1
    rw [h0] at h1
    cases h1
  · simp [Array.getElem?_eq_none h'] at h1

/-- Whatever order is picked, up to the barrier i; C holding behind every operation ahead of it. -/
def anyB (P : Program) (md : Region.Mode) (ops : Array Oper) (Q : Exit → Act → World → Prop) (C : World → Prop) (n i : Nat) : Nat → Array Bool → Act → World → Prop
  | 0, _, _, _ => False
  | fuel + 1, listed, a, w =>
    (Region.ready md ops listed = [] → Q .normal a w) ∧
    ∀ j ∈ Region.ready md ops listed, wpOpIn Fence.wide n P ops Q j (fun a' w' => if j = i then wpAnyIn Fence.wide n P md ops Q fuel (listed.setIfInBounds j true) a' w' else C w' ∧ anyB P md ops Q C n i fuel (listed.setIfInBounds j true) a' w') a w

theorem wpAnyIn_of_anyB {i : Nat} : ∀ (fuel : Nat) (listed : Array Bool) (a : Act) (w : World), anyB P md ops Q C n i fuel listed a w → wpAnyIn Fence.wide n P md ops Q fuel listed a w
  | 0, _, _, _, h => h.elim
  | fuel + 1, _, _, _, h => ⟨h.1, fun j hj => wpOpIn_mono (fun a' w' h' => by
      by_cases e : j = i
      · rw [if_pos e] at h'
        exact h'
      · rw [if_neg e] at h'
        exact wpAnyIn_of_anyB fuel _ a' w' h'.2) (h.2 j hj)⟩

theorem anyB_first {p i : Nat} {oi : Oper} {v : Value} (hi : ops[p]? = some oi) (hpi : p ≠ i) (hanc : Anc md ops p i) (hsel : ∀ (j : Nat) (o : Oper) cs b, ops[j]? = some o → o.op ≠ .select cs b)
    (hQ : ∀ c a w, Q (.panic c) (a.put oi.dst v) w → Q (.panic c) a w) :
    ∀ (fuel : Nat) (listed : Array Bool) (a : Act) (w : World), Closed md ops listed →
      (∀ j oj, ops[j]? = some oj → j ≠ p → listed.getD j true = false → (∀ e ∈ oj.after, Region.binds md e = true → e.on ≠ p) → oi.apart ops oj = true) →
      p ∈ Region.ready md ops listed → YieldsIf P ops C oi v a → C w →
      anyB P md ops Q C n i fuel (listed.setIfInBounds p true) (a.put oi.dst v) w → anyB P md ops Q C n i (fuel + 1) listed a w := by
  intro fuel
  induction fuel with
  | zero =>
    intro listed a w _ _ _ _ _ H
    exact H.elim
  | succ fuel ih =>
    intro listed a w hcl hfree hr hy hS H
    refine ⟨fun h => (by rw [h] at hr; cases hr), fun j hj => ?_⟩
    by_cases hjp : j = p
    · subst hjp
      refine yieldsIf_wpOpIn hi hy hS ?_
      rw [if_neg hpi]
      exact ⟨hS, H⟩
    · have hji : j ≠ i := fun e => not_ready hcl hanc hr (e ▸ hj)
      have h1 := H.2 j (ready_mono hj hjp)
      simp only [if_neg hji] at h1 ⊢
      obtain ⟨hjun, oj, hoj, hall⟩ := mem_ready.1 hj
      have hnot : ∀ e ∈ oj.after, Region.binds md e = true → e.on ≠ p := fun e he hb heq => by
        have h1 := hall e he hb
        have h0 := (mem_ready.1 hr).1
        rw [heq] at h1
        rcases Nat.lt_or_ge p listed.size with h' | h'
        · simp [h'] at h0 h1; rw [h0] at h1; cases h1
        · simp [Array.getElem?_eq_none h'] at h1
      have h2 := wpOpIn_putIf hoj (hfree j oj hoj hjp hjun hnot) (fun cs b => hsel p oi cs b hi) (fun cs b => hsel j oj cs b hoj) hQ hy h1
      have hfree' : ∀ k ok, ops[k]? = some ok → k ≠ p → (listed.setIfInBounds j true).getD k true = false →
          (∀ e ∈ ok.after, Region.binds md e = true → e.on ≠ p) → oi.apart ops ok = true := fun k ok hk hki hun hno => by
        refine hfree k ok hk hki ?_ hno
        by_cases hjk : j = k
        · subst hjk; exact hjun
        · rw [getD_set_ne true hjk] at hun; exact hun
      refine wpOpIn_mono (fun a' w' h3 => ⟨h3.2.1, ih (listed.setIfInBounds j true) a' w' (closed_step hcl hj) hfree' (ready_mono hr (Ne.symm hjp)) h3.1 h3.2.1 ?_⟩) h2
      rw [Array.setIfInBounds_comm _ _ hjp]
      exact h3.2.2

/-- The walk: the plain ones 'ps', the barrier i, then 'is' in the class C2. -/
def wpTwo (P : Program) (ops : Array Oper) (Q : Exit → Act → World → Prop) (C : World → Prop) (n i : Nat) (is : List Nat) : List Nat → Act → World → Prop
  | [], a, w => wpOpIn Fence.wide n P ops Q i (fun a' w' => ∃ S2 : World → Prop, S2 w' ∧ wpPerm P ops Q (fun V => ∃ x : Wd S2, V = x.w) n is a' w') a w
  | p :: ps, a, w => match ops[p]? with
    | none => False
    | some o => ∃ v, YieldsIf P ops C o v a ∧ wpTwo P ops Q C n i is ps (a.put o.dst v) w
def twoB (md : Region.Mode) (ops : Array Oper) (i : Nat) (is : List Nat) : List Nat → Array Bool → Bool
  | [], listed => Region.ready md ops listed == [i] && permB md ops is (listed.setIfInBounds i true)
  | p :: ps, listed => (match ops[p]? with | none => false | some o => plainOp o.op && (Region.ready md ops listed).contains p && Region.free md ops listed p) && p != i && ancB md ops ops.size p i && twoB md ops i is ps (listed.setIfInBounds p true)

theorem two_any {i : Nat} {is : List Nat} (hs : Region.noSelect ops = true) (hQ : ∀ c a d v w, Q (.panic c) (Act.put a d v) w → Q (.panic c) a w) : ∀ (ps : List Nat) (listed : Array Bool) (a : Act) (w : World), C w → Closed md ops listed → twoB md ops i is ps listed = true → wpTwo P ops Q C n i is ps a w → anyB P md ops Q C n i (ps.length + (is.length + 1)) listed a w
  | [], listed, a, w, _, _, hB, h => by
    simp only [twoB, Bool.and_eq_true, beq_iff_eq] at hB
    obtain ⟨hr, hB2⟩ := hB
    simp only [List.length_nil, Nat.zero_add]
    refine ⟨fun h0 => (by rw [hr] at h0; cases h0), fun j hj => ?_⟩
    rw [hr] at hj
    obtain rfl : j = i := by simpa using hj
    refine wpOpIn_mono (fun a' w' h' => ?_) h
    rw [if_pos rfl]
    obtain ⟨S2, h1, h2⟩ := h'
    exact wpAnyIn_of_anyC _ _ _ _ (perm_any hs hQ is _ _ _ (Wd.mem h1) hB2 h2)
  | p :: ps, listed, a, w, hC, hcl, hB, h => by
    simp only [twoB, Bool.and_eq_true, bne_iff_ne, ne_eq] at hB
    obtain ⟨⟨⟨hB1, hpi⟩, hanc⟩, hB2⟩ := hB
    unfold wpTwo at h
    cases ho : ops[p]? with
    | none => simp [ho] at hB1
    | some o =>
      simp only [ho, Bool.and_eq_true] at hB1 h
      obtain ⟨⟨hp, hr⟩, hf⟩ := hB1
      obtain ⟨v, hy, hk⟩ := h
      have hr' : p ∈ Region.ready md ops listed := by simpa using hr
      rw [List.length_cons, Nat.add_right_comm]
      exact anyB_first ho hpi (ancB_sound _ _ _ hanc) (Region.noSelect_spec hs) (fun c a w => hQ c a _ v w) _ listed a w hcl (Region.free_spec ho hf) hr' hy hC (two_any hs hQ ps _ _ _ hC (closed_step hcl hr') hB2 hk)
end

section
variable {P : Program} {l : List Oper} {Q : Exit → Act → World → Prop} {C : World → Prop} {n : Nat} {i p : Nat} {is ps : List Nat} {o : Oper} {a : Act} {w : World}
/-- The next operation is plain. -/
theorem tq (ho : nth l p = some o) (hp : plainOp o.op = true) (h : wpQuiet P l.toArray C (fun a' => wpTwo P l.toArray Q C n i is ps a' w) [o] a) : wpTwo P l.toArray Q C n i is (p :: ps) a w := by
  unfold wpTwo
  simp only [(nth_eq l p).trans ho]
  unfold wpQuiet at h
  by_cases hw : Region.wanted o (yielded l.toArray a.tmps) = true
  · rw [if_pos hw] at h
    obtain ⟨v, hv, hk⟩ := h
    refine ⟨v, .inl ⟨hw, fun w1 hC => ?_⟩, hk⟩
    have h1 := hv w1 hC
    unfold Oper.quietAt at h1
    cases hr : (execOp a.eval o).run P w1 with
    | ok x w' =>
      rw [hr] at h1
      obtain ⟨u, rfl⟩ := plain_value hp hr
      simp only [Oper.quietUpon] at h1
      rw [h1.1, h1.2]
    | halt x w' => rw [hr] at h1; exact h1.elim
  · rw [if_neg hw] at h
    exact ⟨undef, .inr ⟨by simpa using hw, rfl⟩, h⟩
/-- A loud operation alone. -/
theorem loud_list {K : Act → World → Prop} (ho : nth l i = some o) (h : wpListIn Fence.wide n P l.toArray (Exit.then K Q) [o] a w) : wpOpIn Fence.wide n P l.toArray Q i K a w := by
  unfold wpOpIn
  simp only [(nth_eq l i).trans ho]
  unfold wpListIn at h
  split
  · rename_i hw
    rw [if_pos hw] at h
    unfold Oper.wpIn at h ⊢
    refine ⟨h.1, ?_⟩
    have h := h.2
    generalize (o.semAt Fence.wide.round a.eval).run P w = r at h ⊢
    cases r with
    | ok x w' =>
      cases x <;> simp only [Oper.uponIn, wpListIn, Exit.then] at h ⊢ <;> exact h
    | halt x w' => cases x <;> simp only [Oper.uponIn, Exit.then] at h ⊢ <;> exact h
  · rename_i hw
    rw [if_neg hw] at h
    exact h
/-- The barrier. -/
theorem tl (ho : nth l i = some o) (h : wpListIn Fence.wide n P l.toArray (Exit.then (fun a' w' => ∃ S2 : World → Prop, S2 w' ∧ wpPerm P l.toArray Q (fun V => ∃ x : Wd S2, V = x.w) n is a' w') Q) [o] a w) : wpTwo P l.toArray Q C n i is [] a w := by
  unfold wpTwo
  exact loud_list ho h
end

/-- **A REGION THAT DRAWS ITS ORDER, IN TWO PARTS**, in the plain walk. -/
theorem region_two {P : Program} {ops : Array Oper} {Q : Exit → Act → World → Prop} {id : Nat} {a : Act} {w : World} (ps : List Nat) (i : Nat) (is : List Nat) (S : World → Prop) (hm : P.follows .mixedOrders = true)
    (hB : (Region.noSelect ops && ps.length + (is.length + 1) == ops.size && twoB .any ops i is ps (Array.replicate ops.size false)) = true)
    (hS : S w.drew) (h : Nonempty (Wd S) → wpTwo P ops (calm Q) (fun w' => ∃ x : Wd S, w' = x.w) 10 i is ps a w.drew) : (Code.region id ops true).wp P Q a w := by
  simp only [Bool.and_eq_true, beq_iff_eq] at hB
  have := two_any (md := .any) hB.1.1 (fun _ _ _ _ _ h => h) ps _ a _ (Wd.mem hS) (closed_start _) hB.2 (h ⟨⟨_, hS⟩⟩)
  rw [hB.1.2] at this
  exact (wpIn_wide (n := 10)).1 (Go.wpIn_mono (wpIn_region_any hm (wpAnyIn_of_anyB _ _ _ _ this)) (fun _ _ _ h => calm_imp h))
end Go.Proofs.Ytbojjpmcopnjpaa

/-! A region that draws its order and ends in one operation that waits for all others (a store): its class of worlds need not hold behind that one ('region_last': in the plain walk; 'region_last_round': within a round). Conditions: each theorem's own. -/
namespace Go.Proofs.Ytbojjpmcopnjpaa
section
variable {P : Program} {ops : Array Oper} {Q : Exit → Act → World → Prop} {md : Region.Mode} {C : World → Prop} {n : Nat}
/-- The walk: those ahead ('ps'), then the last one, i. -/
def wpLast (P : Program) (ops : Array Oper) (Q : Exit → Act → World → Prop) (C : World → Prop) (n i : Nat) : List Nat → Act → World → Prop
  | [], a, w => wpOpIn Fence.wide n P ops Q i (fun a' w' => Q .normal a' w') a w
  | p :: ps, a, w => match ops[p]? with
    | none => False
    | some o => if plainOp o.op then (∃ v, YieldsIf P ops C o v a ∧ wpLast P ops Q C n i ps (a.put o.dst v) w) else wpOpIn Fence.wide n P ops Q p (fun a' w' => C w' ∧ wpLast P ops Q C n i ps a' w') a w
def lastB (md : Region.Mode) (ops : Array Oper) (i : Nat) : List Nat → Array Bool → Bool
  | [], listed => Region.ready md ops listed == [i] && (Region.ready md ops (listed.setIfInBounds i true)).isEmpty
  | p :: ps, listed => (match ops[p]? with | none => false | some o => if plainOp o.op then (Region.ready md ops listed).contains p && Region.free md ops listed p && ancB md ops ops.size p i else Region.ready md ops listed == [p]) && p != i && lastB md ops i ps (listed.setIfInBounds p true)
theorem last_any {i : Nat} (hs : Region.noSelect ops = true) (hQ : ∀ c a d v w, Q (.panic c) (Act.put a d v) w → Q (.panic c) a w) : ∀ (ps : List Nat) (listed : Array Bool) (a : Act) (w : World), C w → Closed md ops listed → lastB md ops i ps listed = true → wpLast P ops Q C n i ps a w → anyB P md ops Q C n i (ps.length + 1) listed a w
  | [], listed, a, w, _, _, hB, h => by
    simp only [lastB, Bool.and_eq_true, beq_iff_eq] at hB
    obtain ⟨hr, hB2⟩ := hB
    refine ⟨fun h0 => (by rw [hr] at h0; cases h0), fun j hj => ?_⟩
    rw [hr] at hj
    obtain rfl : j = i := by simpa using hj
    refine wpOpIn_mono (fun a' w' h' => ?_) h
    rw [if_pos rfl]
    exact ⟨by simpa using hB2, h'⟩
  | p :: ps, listed, a, w, hC, hcl, hB, h => by
    simp only [lastB, Bool.and_eq_true, bne_iff_ne, ne_eq] at hB
    obtain ⟨⟨hB1, hpi⟩, hB2⟩ := hB
    unfold wpLast at h
    cases ho : ops[p]? with
    | none => simp [ho] at hB1
    | some o =>
      simp only [ho] at hB1 h
      by_cases hp : plainOp o.op = true
      · simp only [hp, if_true, Bool.and_eq_true] at hB1 h
        obtain ⟨⟨hr, hf⟩, hanc⟩ := hB1
        obtain ⟨v, hy, hk⟩ := h
        have hr' : p ∈ Region.ready md ops listed := by simpa using hr
        exact anyB_first ho hpi (ancB_sound _ _ _ hanc) (Region.noSelect_spec hs) (fun c a w => hQ c a _ v w) _ listed a w hcl (Region.free_spec ho hf) hr' hy hC (last_any hs hQ ps _ _ _ hC (closed_step hcl hr') hB2 hk)
      · simp only [hp, Bool.false_eq_true, if_false] at hB1 h
        have hr : Region.ready md ops listed = [p] := by simpa using hB1
        refine ⟨fun h0 => (by rw [hr] at h0; cases h0), fun j hj => ?_⟩
        rw [hr] at hj
        obtain rfl : j = p := by simpa using hj
        have hj' : j ∈ Region.ready md ops listed := by rw [hr]; simp
        refine wpOpIn_mono (fun a' w' h' => ?_) h
        rw [if_neg hpi]
        exact ⟨h'.1, last_any hs hQ ps _ _ _ h'.1 (closed_step hcl hj') hB2 h'.2⟩
end
section
variable {P : Program} {l : List Oper} {Q : Exit → Act → World → Prop} {C : World → Prop} {n : Nat} {i p : Nat} {ps : List Nat} {o : Oper} {a : Act} {w : World}
/-- The next operation is plain. -/
theorem lq (ho : nth l p = some o) (hp : plainOp o.op = true) (h : wpQuiet P l.toArray C (fun a' => wpLast P l.toArray Q C n i ps a' w) [o] a) : wpLast P l.toArray Q C n i (p :: ps) a w := by
  have ho' := (nth_eq l p).trans ho
  unfold wpLast
  simp only [ho', hp, if_true]
  unfold wpQuiet at h
  by_cases hw : Region.wanted o (yielded l.toArray a.tmps) = true
  · rw [if_pos hw] at h
    obtain ⟨v, hv, hk⟩ := h
    refine ⟨v, .inl ⟨hw, fun w1 hC => ?_⟩, hk⟩
    have h1 := hv w1 hC
    unfold Oper.quietAt at h1
    cases hr : (execOp a.eval o).run P w1 with
    | ok x w' =>
      rw [hr] at h1
      obtain ⟨u, rfl⟩ := plain_value hp hr
      simp only [Oper.quietUpon] at h1
      rw [h1.1, h1.2]
    | halt x w' => rw [hr] at h1; exact h1.elim
  · rw [if_neg hw] at h
    exact ⟨undef, .inr ⟨by simpa using hw, rfl⟩, h⟩
/-- The next operation is loud. -/
theorem ll (ho : nth l p = some o) (hp : plainOp o.op = false) (h : wpListIn Fence.wide n P l.toArray (Exit.then (fun a' w' => C w' ∧ wpLast P l.toArray Q C n i ps a' w') Q) [o] a w) : wpLast P l.toArray Q C n i (p :: ps) a w := by
  unfold wpLast
  simp only [(nth_eq l p).trans ho, hp, Bool.false_eq_true, if_false]
  exact loud_list ho h
/-- The last one. -/
theorem lz (ho : nth l i = some o) (h : wpListIn Fence.wide n P l.toArray (Exit.then (fun a' w' => Q .normal a' w') Q) [o] a w) : wpLast P l.toArray Q C n i [] a w := by
  unfold wpLast
  exact loud_list ho h
end
/-- **A REGION THAT DRAWS ITS ORDER AND ENDS IN ONE OPERATION**, in the plain walk. -/
theorem region_last {P : Program} {ops : Array Oper} {Q : Exit → Act → World → Prop} {id : Nat} {a : Act} {w : World} (ps : List Nat) (i : Nat) (S : World → Prop) (hm : P.follows .mixedOrders = true)
    (hB : (Region.noSelect ops && ps.length + 1 == ops.size && lastB .any ops i ps (Array.replicate ops.size false)) = true)
    (hS : S w.drew) (h : Nonempty (Wd S) → wpLast P ops (calm Q) (fun w' => ∃ x : Wd S, w' = x.w) 10 i ps a w.drew) : (Code.region id ops true).wp P Q a w := by
  simp only [Bool.and_eq_true, beq_iff_eq] at hB
  have := last_any (md := .any) hB.1.1 (Q := calm Q) (fun _ _ _ _ _ h => h) ps _ a _ (Wd.mem hS) (closed_start _) hB.2 (h ⟨⟨_, hS⟩⟩)
  rw [hB.1.2] at this
  exact (wpIn_wide (n := 10)).1 (Go.wpIn_mono (wpIn_region_any hm (wpAnyIn_of_anyB _ _ _ _ this)) (fun _ _ _ h => calm_imp h))
/-- .. within a round. -/
theorem region_last_round {P : Program} {ops : Array Oper} {Q : Exit → Act → World → Prop} {n l id : Nat} {a : Act} {w : World} (ps : List Nat) (i : Nat) (S : World → Prop) (hm : P.follows .mixedOrders = true) (hd : noDefer ops = true)
    (hB : (Region.noSelect ops && ps.length + 1 == ops.size && lastB .any ops i ps (Array.replicate ops.size false)) = true)
    (hS : S w.drew) (h : Nonempty (Wd S) → wpLast P ops (calm Q) (fun w' => ∃ x : Wd S, w' = x.w) n i ps a w.drew) : (Code.region id ops true).wpIn (Fence.wide.inRound l) n P Q a w := by
  simp only [Bool.and_eq_true, beq_iff_eq] at hB
  have := last_any (md := .any) hB.1.1 (Q := calm Q) (fun _ _ _ _ _ h => h) ps _ a _ (Wd.mem hS) (closed_start _) hB.2 (h ⟨⟨_, hS⟩⟩)
  rw [hB.1.2] at this
  exact Go.wpIn_mono (wpIn_region_any hm (wpAnyIn_inRound hd _ _ _ _ (wpAnyIn_of_anyB _ _ _ _ this))) (fun _ _ _ h => calm_imp h)
theorem last_done {Q : Exit → Act → World → Prop} {a : Act} {w : World} (h : Q .normal a w) : calm Q .normal a w := h
end Go.Proofs.Ytbojjpmcopnjpaa
