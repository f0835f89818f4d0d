/-
  What At, ref.Kind, ref.At and Logic answer, the program's, of a memory whose state is known: each by an equation; no world is turned.
-/
import Derived.Test.YtoaicedkepcalaaViewP
import Derived.Test.YtoaicedkepcalaaTell
import Derived.Test.YtoaicedkepcalaaMakeP
namespace Go.Proofs.Ytoaicedkepcalaa
open Go.RowKit

/-- A memory of this state lies at b. -/
def PM (w : World) (b : Nat) (s : Mst) : Prop := ∃ n₀ v, PMem w n₀ b v s
theorem PM.kept {w w' : World} {b : Nat} {s : Mst} (h : PM w b s) (k : Kept w w') : PM w' b s := by
  obtain ⟨n₀, v, h⟩ := h
  exact ⟨n₀, v, h.kept k⟩
theorem lk_p (w : World) (b : Nat) (s : Mst) (a r : Int) (h : PM w b s) (e1 : s.look a = r) :
    Calls Try.prog 20 #[.pointer (some ⟨b, 0, none⟩), .int .i64 a] w fun e w' => e = .returned (.int .i64 r) ∧ w = w' := by
  obtain ⟨n₀, v, h⟩ := h
  subst e1
  exact look_p w n₀ b v s a h
theorem kk_p (w : World) (a k : Int) (h : I64 a) (e1 : kd a = k) : Calls Try.prog 19 #[.int .i64 a] w fun e w' => e = .returned (.int .i64 k) ∧ w = w' := by
  subst e1
  refine (Rf.kind_c a h.wf w).mono ?_
  rintro e w' ⟨rfl, rfl⟩
  exact ⟨rfl, rfl⟩
theorem ak_p (w : World) (a k : Int) (h : I64 a) (e1 : ad a = k) : Calls Try.prog 21 #[.int .i64 a] w fun e w' => e = .returned (.int .i64 k) ∧ w = w' := by
  subst e1
  refine (Rf.at_c a h.wf w).mono ?_
  rintro e w' ⟨rfl, rfl⟩
  exact ⟨rfl, rfl⟩
theorem logic_p (w : World) (b : Nat) (s : Mst) (a r : Int) (h : PM w b s) (ho : s.ok) (e1 : s.logicZ a = r) :
    Calls Try.prog 16 #[.pointer (some ⟨b, 0, none⟩), .int .i64 a] w fun e w' => e = .returned (.int .i64 r) ∧ w = w' := by
  have H := hide h
  have HO := hide ho
  obtain ⟨z, hz⟩ : ∃ z, s.look a = z := ⟨_, rfl⟩
  obtain ⟨k, hk⟩ : ∃ k, kd z = k := ⟨_, rfl⟩
  obtain ⟨p, hp⟩ : ∃ p, ad z = p := ⟨_, rfl⟩
  obtain ⟨o, h4⟩ : ∃ o, s.look (p + 4) = o := ⟨_, rfl⟩
  have hb := hide (ho.look a)
  rw [hz] at hb
  have kr := ad_range z
  rw [hp] at kr
  obtain ⟨p0, p1⟩ := kr
  have HZ := hide hz
  have HK := hide hk
  have HP := hide hp
  have H4 := hide h4
  by_cases hk5 : k = 5
  · have e2 : r = if o = 1 then s.look (p + 3) else s.look (p + 2) := by
      rw [← e1, Mst.logicZ, hz]
      show (if kd z = 5 then (if s.look (ad z + 4) = 1 then s.look (ad z + 3) else s.look (ad z + 2)) else z) = _
      rw [hk, hk5, if_pos rfl, hp, h4]
    have E2 := hide e2
    by_cases ho1 : o = 1
    · have e3 : Hid (s.look (p + 3) = r) := hide (by rw [e2, if_pos ho1])
      subst hk5 ho1
      clear h ho hz hk hp h4 e1 e2 E2
      go_enter Try.func16, Try.ntmps16
      go_wp2_with (fail)
      refine (lk_p _ b s a z H.out HZ.out).mono ?_
      rintro e w' ⟨rfl, rfl⟩
      go_wp2_with (fail)
      refine (kk_p _ z 5 hb.out HK.out).mono ?_
      rintro e w' ⟨rfl, rfl⟩
      go_wp2_with (fail)
      refine (ak_p _ z p hb.out HP.out).mono ?_
      rintro e w' ⟨rfl, rfl⟩
      go_wp2_with (fail)
      refine (lk_p _ b s (p + 4) 1 H.out H4.out).mono ?_
      rintro e w' ⟨rfl, rfl⟩
      go_wp2_with (fail)
      refine (ak_p _ z p hb.out HP.out).mono ?_
      rintro e w' ⟨rfl, rfl⟩
      go_wp2_with (fail)
      refine (lk_p _ b s (p + 3) r H.out e3.out).mono ?_
      rintro e w' ⟨rfl, rfl⟩
      go_wp2
      go_ret
      exact ⟨rfl, rfl⟩
    · have e3 : Hid (s.look (p + 2) = r) := hide (by rw [e2, if_neg ho1])
      have g1 : (o == 1) = false := by simp [ho1]
      have g2 : (o != 1) = true := by simp [ho1]
      subst hk5
      clear h ho hz hk hp h4 e1 e2 E2
      go_enter Try.func16, Try.ntmps16
      go_wp2_with (fail)
      refine (lk_p _ b s a z H.out HZ.out).mono ?_
      rintro e w' ⟨rfl, rfl⟩
      go_wp2_with (fail)
      refine (kk_p _ z 5 hb.out HK.out).mono ?_
      rintro e w' ⟨rfl, rfl⟩
      go_wp2_with (fail)
      refine (ak_p _ z p hb.out HP.out).mono ?_
      rintro e w' ⟨rfl, rfl⟩
      go_wp2_with (fail)
      refine (lk_p _ b s (p + 4) o H.out H4.out).mono ?_
      rintro e w' ⟨rfl, rfl⟩
      go_wp2_with (fail)
      refine (ak_p _ z p hb.out HP.out).mono ?_
      rintro e w' ⟨rfl, rfl⟩
      go_wp2_with (fail)
      refine (lk_p _ b s (p + 2) r H.out e3.out).mono ?_
      rintro e w' ⟨rfl, rfl⟩
      go_wp2
      go_ret
      exact ⟨rfl, rfl⟩
  · have e3 : r = z := by
      rw [← e1, Mst.logicZ, hz, if_neg (by show ¬ kd z = 5; rw [hk]; exact hk5)]
    have g1 : (k == 5) = false := by simp [hk5]
    have g2 : (k != 5) = true := by simp [hk5]
    subst e3
    clear h ho hz hk hp h4 e1
    go_enter Try.func16, Try.ntmps16
    go_wp2_with (fail)
    refine (lk_p _ b s a r H.out HZ.out).mono ?_
    rintro e w' ⟨rfl, rfl⟩
    go_wp2_with (fail)
    refine (kk_p _ r k hb.out HK.out).mono ?_
    rintro e w' ⟨rfl, rfl⟩
    go_wp2
    go_ret
    exact ⟨rfl, rfl⟩

theorem look_xs {s s' : Mst} (h : s.xs = s'.xs) (a : Int) : s.look a = s'.look a := by unfold Mst.look Mst.used; rw [h]
end Go.Proofs.Ytoaicedkepcalaa
