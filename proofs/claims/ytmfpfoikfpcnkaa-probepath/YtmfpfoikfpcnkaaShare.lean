/-
  What the document's Share answers (a contract), for every uint64 part and whole and every int; no world is turned.
-/
import Derived.Test.YtmfpfoikfpcnkaaCon
import Derived.Test.YtmfpfoikfpcnkaaOwn
import Derived.LoopTactic
namespace Go.Proofs.Ytmfpfoikfpcnkaa
open Go.ChangeShapes Go.WideShapes Go.ChangeAt Go.RowKit

theorem pow_cast (k : Nat) : (2 : Int) ^ k = ((2 ^ k : Nat) : Int) := by rw [Int.natCast_pow]; rfl
theorem pow_wrap {k : Nat} (h : k ≤ 62) : wrap64 ((2 : Int) ^ k) = ((2 ^ k : Nat) : Int) := by
  have h1 : 2 ^ k ≤ 2 ^ 62 := Nat.pow_le_pow_right (by omega) h
  have h0 : 1 ≤ 2 ^ k := Nat.one_le_two_pow
  rw [pow_cast, wrap_same (by omega) (by omega)]
theorem ret_int {k : IntKind} {a b : Int} (h : a = b) : Ending.returned (.int k a) = .returned (.int k b) := by rw [h]


theorem bit_i64 (a : Int) (h0 : 0 ≤ a) (h : a < 9223372036854775808) : bits .and .i64 a 1 = a % 2 := by
  obtain ⟨n, rfl⟩ := Int.eq_ofNat_of_zero_le h0
  have h1 : (BitVec.ofInt 64 (n : Int)).toNat = n := by
    rw [BitVec.ofInt_natCast, BitVec.toNat_ofNat]; exact Nat.mod_eq_of_lt (by omega)
  have e : n &&& 1 = n % 2 := Nat.and_two_pow_sub_one_eq_mod n 1
  show IntKind.i64.wrap ((BitVec.ofInt 64 (n : Int) &&& BitVec.ofInt 64 1).toNat : Int) = _
  rw [BitVec.toNat_and, h1]
  show IntKind.i64.wrap ((n &&& 1 : Nat) : Int) = _
  rw [e]
  simp only [IntKind.wrap, IntKind.bits, IntKind.signed]
  simp
  omega

theorem share_step {P m x y v : Int} (b c : Int) (h : P * m = x * v + y) : P * (2 * m + b) = (2 * x + c) * v + (2 * y + P * b - c * v) := by
  have e1 : P * (2 * m + b) = 2 * (P * m) + P * b := by rw [Int.mul_add, Int.mul_left_comm]
  have e2 : (2 * x + c) * v = 2 * (x * v) + c * v := by rw [Int.add_mul, Int.mul_assoc]
  omega
theorem share_le {P M x y v : Int} (h : P * M = x * v + y) (hy : 0 ≤ y) (hP : P ≤ v) (hM : 0 ≤ M) (hv : 0 < v) : x ≤ M := by
  have h1 : P * M ≤ v * M := Int.mul_le_mul_of_nonneg_right hP hM
  have h2 : v * M = M * v := Int.mul_comm _ _
  rcases Int.lt_or_le M x with g | g
  · have h3 : M * v < x * v := Int.mul_lt_mul_of_pos_right g hv
    omega
  · exact g
theorem share_end {P n x y v : Int} (h : P * n = x * v + y) (hy : 0 ≤ y) (hy' : y < v) : P * n / v = x := by
  rw [h, Int.add_comm, Int.add_mul_ediv_right _ _ (by omega), Int.ediv_eq_zero_of_lt hy hy']
  omega
theorem halves (n : Int) (k : Nat) : n / ((2 ^ k : Nat) : Int) = 2 * (n / ((2 ^ (k + 1) : Nat) : Int)) + (n / ((2 ^ k : Nat) : Int)) % 2 := by
  have e : ((2 ^ (k + 1) : Nat) : Int) = ((2 ^ k : Nat) : Int) * 2 := by rw [Nat.pow_succ]; omega
  rw [e, ← Int.ediv_ediv_of_nonneg (Int.natCast_nonneg _)]
  omega
theorem div_pow_bound {n : Int} (k : Nat) (h0 : 0 ≤ n) : 0 ≤ n / ((2 ^ k : Nat) : Int) ∧ n / ((2 ^ k : Nat) : Int) ≤ n :=
  ⟨Int.ediv_nonneg h0 (Int.natCast_nonneg _), Int.ediv_le_self _ h0⟩

theorem share_none {p w n : Int} (h : ¬ (1 ≤ w ∧ 1 ≤ n ∧ n ≤ 65536)) : shareZ p w n = 0 := by
  simp only [shareZ, if_neg h]

theorem share_r (p v n : Int) (hp : (Lit.int .u64 p).wf = true) (hv : (Lit.int .u64 v).wf = true) (w : World) :
    Calls Try.prog 28 #[.int .u64 p, .int .u64 v, .int .i64 n] w fun e w' => e = .returned (.int .i64 (shareZ p v n)) ∧ w = w' := by
  have hp' := bounds_u64 hp
  have hv' := bounds_u64 hv
  clear hp hv
  by_cases c1 : v = 0
  · rw [share_none (by omega)]
    subst c1
    go_enter Try.func28, Try.ntmps28
    go_wp2
    go_ret
    exact ⟨rfl, rfl⟩
  · by_cases c2 : n < 1
    · rw [share_none (by omega)]
      go_enter Try.func28, Try.ntmps28
      go_wp2
      go_ret
      exact ⟨rfl, rfl⟩
    · by_cases c3 : 65536 < n
      · rw [share_none (by omega)]
        go_enter Try.func28, Try.ntmps28
        go_wp2
        go_ret
        exact ⟨rfl, rfl⟩
      · obtain ⟨P, hP⟩ : ∃ P, min p v = P := ⟨_, rfl⟩
        have P1 : 0 ≤ P := by omega
        have P2 : P ≤ v := by omega
        obtain ⟨z, ez⟩ : ∃ z, shareZ p v n = z := ⟨_, rfl⟩
        have HE := hide (show shareZ p v n = z ∧ min p v = P from ⟨ez, hP⟩)
        rw [ez]
        clear ez
        go_enter Try.func28, Try.ntmps28
        go_wp2
        clear hP
        go_loop [7, 8, 9] (fun q r b => ∃ (x y : Int) (k : Nat), k ≤ 17 ∧ 0 ≤ x ∧ x ≤ 65536 ∧ 0 ≤ y ∧ y < v ∧ Hid (P * (n / ((2 ^ k : Nat) : Int)) = x * v + y) ∧ q = .int .i64 x ∧ r = .int .u64 y ∧ b = .int .i64 ((k : Int) - 1)) (fun _ _ b => (intOf b + 1).toNat)
        case atStart =>
          refine ⟨0, 0, 17, by omega, by omega, by omega, by omega, by omega, hide ?_, rfl, rfl, rfl⟩
          have e : n / ((2 ^ 17 : Nat) : Int) = 0 := Int.ediv_eq_zero_of_lt (by omega) (by omega)
          rw [e]; omega
        case round =>
          obtain ⟨x, y, k, k1, x0, x1, y0, y1, H, rfl, rfl, rfl⟩ := hrel
          cases k with
          | zero =>
            have e : x = z := by
              have h := H.out
              rw [show n / ((2 ^ 0 : Nat) : Int) = n by simp] at h
              have h2 := share_end h y0 y1
              have h3 := HE.out
              simp only [shareZ, if_pos (show 1 ≤ v ∧ 1 ≤ n ∧ n ≤ 65536 by omega), h3.2] at h3
              omega
            subst e
            clear H HE
            go_wp2
            go_ret
            exact ⟨rfl, rfl⟩
          | succ k =>
            clear HE
            have hh := halves n k
            obtain ⟨b1, b2⟩ := div_pow_bound (n := n) k (by omega)
            have hb := bit_i64 (n / ((2 ^ k : Nat) : Int)) (by omega) (by omega)
            have ep := pow_cast k
            have h := H.out
            obtain ⟨m, hm⟩ : ∃ m, n / ((2 ^ (k + 1) : Nat) : Int) = m := ⟨_, rfl⟩
            rw [hm] at h hh
            have FIN : ∀ (c b x' y' : Int), n / ((2 ^ k : Nat) : Int) % 2 = b → x' = 2 * x + c → y' = 2 * y + P * b - c * v → 0 ≤ y' → y' < v → 0 ≤ x' →
                (∃ (x_1 y_1 : Int) (k_1 : Nat), k_1 ≤ 17 ∧ 0 ≤ x_1 ∧ x_1 ≤ 65536 ∧ 0 ≤ y_1 ∧ y_1 < v ∧ Hid (P * (n / ((2 ^ k_1 : Nat) : Int)) = x_1 * v + y_1) ∧ Value.int IntKind.i64 x' = Value.int IntKind.i64 x_1 ∧ Value.int IntKind.u64 y' = Value.int IntKind.u64 y_1 ∧ Value.int IntKind.i64 ((k : Int) - 1) = Value.int IntKind.i64 ((k_1 : Int) - 1)) := by
              intro c b x' y' hb' hx' hy' hy0 hy1 hx0
              rw [hb'] at hh
              have h2 := share_step b c h
              rw [← hh, ← hx', ← hy'] at h2
              have h3 := share_le h2 hy0 P2 b1 (by omega)
              exact ⟨x', y', k, by omega, hx0, by omega, hy0, hy1, hide h2, rfl, rfl, rfl⟩
            rw [← ep] at hb
            have FIN2 := hide FIN
            clear hh b1 b2 ep h hm H FIN
            rcases Int.emod_two_eq (n / ((2 ^ k : Nat) : Int)) with hz | ho
            · rw [pow_cast, hz, ← pow_cast] at hb
              have HZ := hide hz
              clear hz
              go_wp2
              · go_round
                case rel => exact FIN2.out 1 0 _ _ HZ.out rfl (by omega) (by omega) (by omega) (by omega)
                case measure => simp [intOf]
              · go_round
                case rel => exact FIN2.out 0 0 _ _ HZ.out (by omega) (by omega) (by omega) (by omega) (by omega)
                case measure => simp [intOf]
            · rw [pow_cast, ho, ← pow_cast] at hb
              have HZ := hide ho
              clear ho
              go_wp2
              · go_round
                case rel => exact FIN2.out 2 1 _ _ HZ.out (by omega) (by omega) (by omega) (by omega) (by omega)
                case measure => simp [intOf]
              · go_round
                case rel => exact FIN2.out 1 1 _ _ HZ.out (by omega) (by omega) (by omega) (by omega) (by omega)
                case measure => simp [intOf]
              · go_round
                case rel => exact FIN2.out 1 1 _ _ HZ.out (by omega) (by omega) (by omega) (by omega) (by omega)
                case measure => simp [intOf]
              · go_round
                case rel => exact FIN2.out 0 1 _ _ HZ.out (by omega) (by omega) (by omega) (by omega) (by omega)
                case measure => simp [intOf]
end Go.Proofs.Ytmfpfoikfpcnkaa
