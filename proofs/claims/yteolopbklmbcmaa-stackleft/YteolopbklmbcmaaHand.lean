/-
  What ordinatehand's Few (at 200) and Cut (at 210) answer; no world is turned.
-/
import Derived.Test.YteolopbklmbcmaaSame
namespace Go.Proofs.Yteolopbklmbcmaa
open Go.RowKit

theorem few_c (w : World) (a : Option Addr) (len cap : Nat) (hc : len ≤ cap) :
    Calls Try.prog 17 #[.slice a len cap, .int .i64 200] w fun e w' => e = .returned (.slice a (min len 200) cap) ∧ w = w' := by
  by_cases h : 200 < len
  · have e : min len 200 = 200 := by omega
    rw [e]
    clear e
    go_enter Try.func17, Try.ntmps17
    go_wp2
    go_ret
    exact ⟨rfl, rfl⟩
  · have e : min len 200 = len := by omega
    rw [e]
    clear e
    go_enter Try.func17, Try.ntmps17
    go_wp2
    go_ret
    exact ⟨rfl, rfl⟩

/-- A number from 0 to 209. -/
def CutTo (w : World) (e : Ending) (w' : World) : Prop := ∃ r : Nat, r < 210 ∧ e = .returned (.int .i64 r) ∧ w = w'

theorem cut_c (w : World) (n : Int) : Calls Try.prog 18 #[.int .i64 n, .int .i64 210] w (CutTo w) := by
  have h1 : -210 < n.tmod 210 := Int.lt_tmod_of_pos n (by decide)
  have h2 : n.tmod 210 < 210 := Int.tmod_lt_of_pos n (by decide)
  obtain ⟨t, ht⟩ : ∃ t, n.tmod 210 = t := ⟨_, rfl⟩
  rw [ht] at h1 h2
  by_cases h : t < 0
  · go_enter Try.func18, Try.ntmps18
    go_wp2
    go_ret
    exact ⟨(t + 210).toNat, by omega, by rw [Int.toNat_of_nonneg (by omega)]; rfl, rfl⟩
  · go_enter Try.func18, Try.ntmps18
    go_wp2
    go_ret
    exact ⟨t.toNat, by omega, by rw [Int.toNat_of_nonneg (by omega)]; rfl, rfl⟩
end Go.Proofs.Yteolopbklmbcmaa
