/-
  A yard, a frame of read beside it, and blocks that nobody turns. Conditions: each theorem's own.
-/
import Derived.Test.YtibnlaihiahjpaaGreatQRsA
import Derived.Test.YtibnlaihiahjpaaGreatQRsK
import Derived.Test.YtibnlaihiahjpaaGreatQE
namespace Go.Proofs.YtibnlaihiahjpaaGreat
open Go.RowKit Go.Shelf

/-- A yard, and a frame of read at f; of what lay at W0 the blocks H lie as they lay. -/
structure Yr (w W0 W : World) (H : Nat → Prop) (y b x mb : Nat) (m : Mst) (ix : Ixp) (f : Nat) (p : Rd) : Prop where
  yd : ∃ tb v mv tv lv pz g, YdIs W w.heap.size y b x mb tb v mv tv lv pz m ix ∧ RdAt W f g p ∧ (p.c.isSome = true → w.heap.size ≤ g ∧ ¬ H g) ∧ ∀ k, H k → ¬ Foot b v k
  since : Kept w W
  new : w.heap.size ≤ f ∧ ¬ H f
  old : ∀ k, H k → k < W0.heap.size
  held : Td (fun k => ¬ H k) W0 W
theorem yr_new {w Wa W0 W : World} {y b x mb : Nat} {m : Mst} {ix : Ixp} (h : Yx w Wa y b x mb m ix) (k0 : Kept Wa W0) (k1 : Kept W0 W) {H : Nat → Prop} (hH : ∀ k, H k → Wa.heap.size ≤ k ∧ k < W0.heap.size) {f : Nat} {s : Int} (hf : RdAt W f 0 (Rd.new s)) (hn : W0.heap.size ≤ f) : Yr w W0 W H y b x mb m ix f (Rd.new s) := by
  obtain ⟨tb, v, mv, tv, lv, pz, h1, h2⟩ := h
  have k := k0.trans k1
  refine ⟨⟨tb, v, mv, tv, lv, pz, 0, h1.kept k, hf, (fun e => by cases e), fun k hk e => ?_⟩, h2.trans k, ⟨Nat.le_trans (Nat.le_trans h2.size k0.size) hn, fun e => ?_⟩, fun k hk => (hH k hk).2, k1.mono (fun _ _ e => e.elim)⟩
  · have := (h1.pm.lt k e).2
    have := (hH k hk).1
    omega
  · have := (hH f e).2
    omega
namespace Yr
variable {w W0 W W' : World} {H : Nat → Prop} {y b x mb f : Nat} {m : Mst} {ix : Ixp} {p : Rd}
theorem kept (h : Yr w W0 W H y b x mb m ix f p) (k : Kept W W') : Yr w W0 W' H y b x mb m ix f p := by
  obtain ⟨⟨tb, v, mv, tv, lv, pz, g, h1, h2, h3, h4⟩, hs, hn, ho, hh⟩ := h
  exact ⟨⟨tb, v, mv, tv, lv, pz, g, h1.kept k, h2.turned k id (fun _ => id), h3, h4⟩, hs.trans k, hn, ho, Kept.behind hh k⟩
theorem yx (h : Yr w W0 W H y b x mb m ix f p) : Yx w W y b x mb m ix := by
  obtain ⟨⟨tb, v, mv, tv, lv, pz, g, h1, _⟩, hs, _⟩ := h
  exact ⟨tb, v, mv, tv, lv, pz, h1, hs⟩
theorem ints (h : Yr w W0 W H y b x mb m ix f p) {a : Option Addr} {zs : List Int} (hr : Reads W0 a zs) (ha : ∀ ad, a = some ad → H ad.block) : Reads W a zs :=
  hr.turned h.held (fun k _ ⟨ad, e, e2⟩ hk => hk (by rw [← e2]; exact ha ad e))
theorem prs (h : Yr w W0 W H y b x mb m ix f p) {a : Option Addr} {zs : List (Int × Int)} (hr : PReads W0 a zs) (ha : ∀ ad, a = some ad → H ad.block) : PReads W a zs :=
  hr.turned h.held (fun k _ ⟨ad, e, e2⟩ hk => hk (by rw [← e2]; exact ha ad e))
end Yr
theorem yr_done (w W0 W : World) (H : Nat → Prop) (y b x mb f : Nat) (m : Mst) (ix : Ixp) (p : Rd) (h : Yr w W0 W H y b x mb m ix f p) (r : Bool) (e1 : p.d = r) : Calls Tryz.prog 45 #[.pointer (some ⟨f, 0, none⟩)] W fun e W' => e = .returned (.bool r) ∧ W = W' := by
  obtain ⟨⟨_, _, _, _, _, _, g, _, h, _⟩, _⟩ := h
  obtain ⟨⟨_, _, _, c3⟩, _⟩ := box4 h.1
  subst e1
  clear h
  go_enter Tryz.func45, Tryz.ntmps45
  go_wp2
  go_ret
  exact ⟨rfl, rfl⟩
theorem yr_step (w W0 W : World) (H : Nat → Prop) (y b x mb f : Nat) (m : Mst) (ix : Ixp) (p : Rd) (h : Yr w W0 W H y b x mb m ix f p) (ok : Rok (p, m)) (p' : Rd) (m' : Mst) (r : Bool) (e1 : p.step m = (p', m')) (e2 : p'.d = r) :
    Calls Tryz.prog 44 #[.pointer (some ⟨f, 0, none⟩), .pointer (some ⟨b, 0, none⟩)] W fun e W' => e = .returned (.bool r) ∧ Yr w W0 W' H y b x mb m' ix f p' := by
  obtain ⟨⟨tb, v, mv, tv, lv, pz, g, h1, h2, h3, h4⟩, hs, hn, ho, hh⟩ := h
  refine (rd_step W _ b v f g p m h2 h1.pm ok.ok (fun a => ok.mem.look a) p' m' r e1 e2).mono ?_
  rintro e W' ⟨rfl, g', r1, r2, r3, r4⟩
  have hold : ∀ k, H k → k < W.heap.size := fun k hk => Nat.lt_of_lt_of_le (ho k hk) hh.size
  refine ⟨rfl, ⟨tb, v, mv, tv, lv, pz, g', h1.prog r4 (fun k hk => ?_) r2 (fun k hk => .inl hk), r1, fun e => ?_, h4⟩, hs.own (fun k hk => ?_) r4, hn, ho, hh.trans r4 (fun _ e => e) (fun k _ hk e => ?_)⟩
  · rcases hk with rfl | ⟨hc, rfl⟩ | hk
    · exact .inr ⟨_, _, h2.1, by decide, by decide⟩
    · obtain ⟨q, hq⟩ := Option.isSome_iff_exists.1 hc
      exact .inr ⟨_, _, h2.2 q hq, by decide, by decide⟩
    · exact .inl hk
  · rcases r3 e with ⟨hc, rfl⟩ | hg
    · exact h3 hc
    · exact ⟨Nat.le_trans hs.size hg, fun e => by have := hold _ e; omega⟩
  · rcases hk with rfl | ⟨hc, rfl⟩ | hk
    · exact hn.1
    · exact (h3 hc).1
    · exact (h1.pm.lt k hk).1
  · rcases hk with rfl | ⟨hc, rfl⟩ | hk
    · exact hn.2 e
    · exact (h3 hc).2 e
    · exact h4 k e hk
end Go.Proofs.YtibnlaihiahjpaaGreat
