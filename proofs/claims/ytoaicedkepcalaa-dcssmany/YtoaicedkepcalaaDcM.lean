/-
  What DcssMany answers: true, of whatever numbers; nothing that lay is turned. No conditions but those of its arguments.
-/
import Derived.Test.YtoaicedkepcalaaDcS
import Derived.Test.YtoaicedkepcalaaDcR
import Derived.Deep.DeepCutAuto
import Derived.Deep.CutBlock
namespace Go.Proofs.Ytoaicedkepcalaa
open Go.RowKit
set_option maxRecDepth 100000

def oldA : Nat → Int := fun j => if j = 0 then 57 else if j = 1 then 57 else if j = 2 then 90 else if j = 3 then 98 else 90
def newA : Nat → Int := fun j => if j = 0 then 90 else if j = 1 then 98 else if j = 2 then 106 else if j = 3 then 114 else 122
theorem two_ok : Two oldA newA := by
  refine ⟨fun j hj => ?_, fun j hj => ?_, fun j hj => ?_, fun j hj => ?_, fun j hj => ?_⟩
  all_goals obtain rfl | rfl | rfl | rfl | rfl : j = 0 ∨ j = 1 ∨ j = 2 ∨ j = 3 ∨ j = 4 := by omega
  all_goals first | decide | exact ⟨by decide, by decide⟩
def dm0 : Mst := ⟨[1, 0, 0, 0, 0, 57, 0], 400, 2, 0, 0⟩
theorem dm0_is : begun (Mst.new 400) = dm0 := by kernel_rfl
/-- Some frames are made. -/
structure Mk (w W : World) (b bo bn bf : Nat) (i : Nat) (f : Nat → Nat) : Prop where
  now : Now w W b dm0
  fr : ∀ j, j < i → DpAt W (f j) (Dp.new 3 6 (oldA j) (newA j)) ∧ w.heap.size ≤ f j
  fa : ∀ a c, a < i → c < i → f a = f c → a = c
  ro : W.heap[bo]? = some (.cells (rowV fun j => .int .i64 (oldA j)) 32)
  rn : W.heap[bn]? = some (.cells (rowV fun j => .int .i64 (newA j)) 32)
  rf : W.heap[bf]? = some (.cells (rowV fun j => if j < i then ptr (f j) else .pointer none) 33) ∧ w.heap.size ≤ bf
theorem Mk.next {w W : World} {b bo bn bf i : Nat} {f : Nat → Nat} (h : Mk w W b bo bn bf i f) (hi : i < 5) {V : World} (kV : Kept W V) {k : Nat} (hk : W.heap.size ≤ k) (hf : DpAt V k (Dp.new 3 6 (oldA i) (newA i))) :
    Mk w (V.setCell ⟨bf, i, none⟩ (ptr k)) b bo bn bf (i + 1) (upd f i k) := by
  have t : Turned (fun j => j = bf) V (V.setCell ⟨bf, i, none⟩ (ptr k)) := Turned.setCell _ _ _ rfl
  have rf := kV.heap h.rf.1 id
  have key : ∀ {z : Nat} {c : Array Value} {T : TypeId}, V.heap[z]? = some (.cells c T) → T ≠ 33 → (V.setCell ⟨bf, i, none⟩ (ptr k)).heap[z]? = some (.cells c T) := fun hz h1 => t.heap hz (fun e => by
    rw [← e, hz] at rf
    simp at rf
    exact h1 rf.2)
  have lt : ∀ j, j < i → f j < k := fun j hj => by
    have := (Array.getElem?_eq_some_iff.1 (h.fr j hj).1).1
    omega
  obtain ⟨⟨v, hv⟩, hw⟩ := h.now.on kV
  refine ⟨⟨⟨v, hv.turned t (fun z hz e => ?_)⟩, hw.own (O := fun j => j = bf) (fun z e => by rw [e]; exact h.rf.2) t⟩, fun j hj => ?_, fun a c ha hc e => ?_, key (kV.heap h.ro id) (by decide), key (kV.heap h.rn id) (by decide), ?_, h.rf.2⟩
  · rw [e] at hz
    exact foot_ty hv rf (by decide) (by decide) hz
  · by_cases hj' : j = i
    · subst hj'
      rw [upd_self]
      exact ⟨key hf (by decide), Nat.le_trans h.now.2.size hk⟩
    · rw [upd_ne _ _ hj']
      have := h.fr j (by omega)
      exact ⟨key (this.1.kept kV) (by decide), this.2⟩
  · by_cases hai : a = i
    · by_cases hci : c = i
      · rw [hai, hci]
      · rw [hai, upd_self, upd_ne _ _ hci] at e
        have := lt c (by omega)
        omega
    · rw [upd_ne _ _ hai] at e
      by_cases hci : c = i
      · rw [hci, upd_self] at e
        have := lt a (by omega)
        omega
      · rw [upd_ne _ _ hci] at e
        exact h.fa a c (by omega) (by omega) e
  · rw [rowV_ext (h' := upd (fun j => if j < i then ptr (f j) else .pointer none) i (ptr k)) (fun j _ => by
      by_cases hj' : j = i
      · subst hj'; simp [upd_self]
      · simp only [upd_ne _ _ hj']
        by_cases h1 : j < i
        · rw [if_pos (by omega), if_pos h1]
        · rw [if_neg (by omega), if_neg h1])]
    exact rowV_set rf hi (ptr k)
theorem Mk.ms {w W : World} {b bo bn bf : Nat} {f : Nat → Nat} (h : Mk w W b bo bn bf 5 f) {V : World} (kV : Kept W V) {bh : Nat} (hh : V.heap[bh]? = some (.cells #[.pointer none, .pointer none, .pointer none, .pointer none, .pointer none] 35)) (hb : W.heap.size ≤ bh) :
    MS w V b bo bn bf bh f f oldA newA dm0 57 (fun _ => 0) (fun j => Dp.new 3 6 (oldA j) (newA j)) (fun _ => none) := by
  have nI : ∀ j, ¬ (Dp.new 3 6 (oldA j) (newA j)).In := fun j e => by have := e.1; simp [Dp.new] at this
  refine ⟨h.now.on kV, ⟨rfl, rfl, ⟨fun z hz => ?_, by decide⟩, by simp [Mst.look, Mst.used, dm0], by decide, rfl, fun j hj => ?_, fun i j _ _ _ e _ => by simp [Dp.new] at e, .inl (by decide)⟩, fun j hj => ⟨(h.fr j hj).1.kept kV, (h.fr j hj).2⟩, h.fa, fun j _ x hx => (by cases hx), fun i j _ _ a _ => absurd rfl a, kV.heap h.ro id, kV.heap h.rn id, ?_, ⟨hh, Nat.le_trans h.now.2.size hb⟩⟩
  · simp only [dm0, List.mem_cons, List.not_mem_nil, or_false] at hz
    rcases hz with rfl | rfl | rfl | rfl | rfl | rfl | rfl
    all_goals exact ⟨by decide, by decide⟩
  · exact ⟨rfl, rfl, rfl, rfl, by simp [Dp.new], .inl rfl, fun _ => rfl, fun _ => ⟨rfl, rfl⟩, fun e => by simp [Dp.new] at e, .inl rfl, fun _ => ⟨rfl, rfl, fun e => by simp [Dp.new] at e⟩, fun e => absurd e (nI j), fun e => by simp [Dp.new] at e, fun e => by simp [Dp.new] at e, fun e => by simp [Dp.new] at e, fun e => by simp [Dp.new] at e, fun x e => by cases e⟩
  · have := kV.heap h.rf.1 id
    rwa [rowV_ext (h' := fun j => ptr (f j)) (fun j hj => if_pos hj)] at this
/-- How far each frame is, behind so many rounds. -/
def Pg (M i : Nat) (p : Nat → Dp) : Prop := ∀ j : Nat, j < 5 → 6 ≤ (p j).n ∨ (((i + 9 - j) / 15 : Nat) : Int) ≤ (p j).n + (((M + 9 - j) / 15 : Nat) : Int)
theorem Pg.start (M i : Nat) (p : Nat → Dp) (h : i ≤ M) (hp : ∀ j, j < 5 → 0 ≤ (p j).n) : Pg M i p := fun j hj => .inr (by have := hp j hj; omega)
theorem Pg.done {M : Nat} {p : Nat → Dp} (h : Pg M (M + 100) p) (hp : ∀ j, j < 5 → (p j).n ≤ 6) {j : Nat} (hj : j < 5) : (p j).n = 6 := by
  have := h j hj
  have := hp j hj
  omega
/-- A round behind which every frame is as it was. -/
theorem Pg.same {M i : Nat} {p : Nat → Dp} (h : Pg M i p) (hq : i < M ∨ ¬ (i % 15 = 5 + i % 5)) (hp : ∀ j, j < 5 → 0 ≤ (p j).n) : Pg M (i + 1) p := fun j hj => by
  rcases hq with hq | hq
  · right
    have := hp j hj
    omega
  · have := h j hj
    omega
theorem Pg.step {M i : Nat} {p : Nat → Dp} (h : Pg M i p) {j : Nat} (hj : j < 5) {p' : Dp} (hn : (p j).n ≤ 6) (hg : (p j).n < 6 → (p j).n < p'.n) (hs : ¬ ((p j).n < 6) → p' = p j) (hq : i < M ∨ j = i % 5) (hp : ∀ j, j < 5 → 0 ≤ (p j).n) : Pg M (i + 1) (upd p j p') := fun k hk => by
  by_cases hkj : k = j
  · subst hkj
    rw [upd_self]
    have := h k hk
    have := hp k hk
    by_cases h6 : (p k).n < 6
    · have := hg h6
      omega
    · rw [hs h6]
      omega
  · rw [upd_ne _ _ hkj]
    have := h k hk
    have := hp k hk
    rcases hq with hq | hq
    · right; omega
    · omega
/-- What a round does. -/
def Rd1 (m m' : Mst) (o o' : Nat → Int) (p' : Nat → Dp) : Prop :=
  (m'.logicZ 6 = m.logicZ 6 ∧ sum5 (fun j => on1 (o' j)) = sum5 (fun j => on1 (o j))) ∨ ∃ j, j < 5 ∧ m.logicZ 6 = oldA j ∧ m'.logicZ 6 = newA j ∧ sum5 (fun j => on1 (o' j)) = sum5 (fun j => on1 (o j)) + 1 ∧ 1 ≤ (p' j).n
theorem Rd1.of {m m' : Mst} {o : Nat → Int} {p' : Nat → Dp} {j : Nat} (hj : j < 5) {o' : Int} (h : Tn m m' (oldA j) (newA j) (o j) o' (1 ≤ (p' j).n)) : Rd1 m m' o (upd o j o') p' := by
  have e := sum5_upd (fun i => on1 (o i)) (G := fun i => on1 (upd o j o' i)) hj (fun i _ hij => by simp only [upd_ne o o' hij])
  simp only [upd_self] at e
  rcases h with ⟨h1, h2⟩ | ⟨h1, h2, h3, h4, h5⟩
  · exact .inl ⟨h1, by omega⟩
  · exact .inr ⟨j, hj, h1, h2, by omega, h5⟩
def psum (o : Nat → Int) : Nat → Nat
  | 0 => 0
  | k + 1 => psum o k + on1 (o k)
theorem psum5 (o : Nat → Int) : psum o 5 = sum5 (fun j => on1 (o j)) := by simp [psum, sum5]
theorem fr_out {m : Mst} {s o : Int} {p : Dp} {q : Option Hp} {old new : Int} (h : FI m s o p q old new) (h6 : p.n = 6) : p.c = o := by
  by_cases hI : p.In
  · exact h.c5 (by omega) hI
  · have := (h.out hI).2.1
    rw [this]
    exact Classical.byContradiction fun e => hI ⟨by omega, .inr e⟩
theorem sum5_le (o : Nat → Int) : sum5 (fun j => on1 (o j)) ≤ 5 := by
  have k : ∀ i, on1 (o i) ≤ 1 := fun i => by unfold on1; split <;> omega
  have a0 := k 0
  have a1 := k 1
  have a2 := k 2
  have a3 := k 3
  have a4 := k 4
  show on1 (o 0) + on1 (o 1) + on1 (o 2) + on1 (o 3) + on1 (o 4) ≤ 5
  omega
set_option maxHeartbeats 16000000 in
theorem dcssMany_c (w : World) (a0 : Option Addr) (zs : List Int) (cap : Nat) (when_ : Int) (hr : Reads w a0 zs) (hc : zs.length ≤ cap) (hm : cap ≤ maxLen) (hi : ∀ z ∈ zs, I64 z) :
    Calls Try.prog 4 #[.slice a0 zs.length cap, .int .i64 when_] w fun e w' => e = .returned (.bool true) ∧ Kept w w' := by
  have hlm : (zs.length : Int) ≤ 9223372036854775807 := by unfold maxLen at hm; omega
  obtain ⟨M0, hM0⟩ : ∃ M, zs.length = M := ⟨_, rfl⟩
  have HR := hide hr
  have HC := hide hc
  have HL := hide hM0
  have HMX := hide hm
  rw [hM0]
  rw [hM0] at hlm
  have HIZ := hide hi
  clear hr hc hm hM0 hi
  go_enter Try.func4, Try.ntmps4
  go_wp2_with (fail)
  refine (now_new w w 400 (Kept.refl w) (by decide) (by decide)).mono ?_
  rintro e W1 ⟨rfl, h1, -⟩
  have H1 := hide h1
  obtain ⟨b, hb⟩ : ∃ b, w.heap.size = b := ⟨_, rfl⟩
  rw [hb] at H1
  clear h1
  rw [hb]
  clear hb
  go_wp2_with (fail)
  refine (begin_c w W1 _ _ H1.out rfl (by decide)).mono ?_
  rintro e W2 ⟨rfl, h2⟩
  have H2 := hide h2
  rw [dm0_is] at H2
  clear h2 H1
  go_wp2_with (fail)
  obtain ⟨bo, hbo⟩ : ∃ k, W2.heap.size = k := ⟨_, rfl⟩
  obtain ⟨bn, hbn⟩ : ∃ k, bo + 1 = k := ⟨_, rfl⟩
  obtain ⟨bf, hbf⟩ : ∃ k, bn + 1 = k := ⟨_, rfl⟩
  rw [hbo, hbn, hbf]
  obtain ⟨V0, hV0⟩ : ∃ V, ((W2.alloc (.cells #[.int .i64 57, .int .i64 57, .int .i64 90, .int .i64 98, .int .i64 90] 32)).alloc (.cells #[.int .i64 90, .int .i64 98, .int .i64 106, .int .i64 114, .int .i64 122] 32)).alloc (.cells #[.pointer none, .pointer none, .pointer none, .pointer none, .pointer none] 33) = V := ⟨_, rfl⟩
  rw [hV0]
  have MK0 : Hid (Mk w V0 b bo bn bf 0 (fun _ => 0)) := hide (by
    have k1 : Kept W2 (W2.alloc (.cells #[.int .i64 57, .int .i64 57, .int .i64 90, .int .i64 98, .int .i64 90] 32)) := Turned.alloc _ _ _
    have k2 : Kept (W2.alloc (.cells #[.int .i64 57, .int .i64 57, .int .i64 90, .int .i64 98, .int .i64 90] 32)) ((W2.alloc (.cells #[.int .i64 57, .int .i64 57, .int .i64 90, .int .i64 98, .int .i64 90] 32)).alloc (.cells #[.int .i64 90, .int .i64 98, .int .i64 106, .int .i64 114, .int .i64 122] 32)) := Turned.alloc _ _ _
    have k3 : Kept ((W2.alloc (.cells #[.int .i64 57, .int .i64 57, .int .i64 90, .int .i64 98, .int .i64 90] 32)).alloc (.cells #[.int .i64 90, .int .i64 98, .int .i64 106, .int .i64 114, .int .i64 122] 32)) V0 := by rw [← hV0]; exact Turned.alloc _ _ _
    have e1 : (W2.alloc (.cells #[.int .i64 57, .int .i64 57, .int .i64 90, .int .i64 98, .int .i64 90] 32)).heap.size = bn := by rw [← hbn, ← hbo]; exact World.size_alloc ..
    have e2 : ((W2.alloc (.cells #[.int .i64 57, .int .i64 57, .int .i64 90, .int .i64 98, .int .i64 90] 32)).alloc (.cells #[.int .i64 90, .int .i64 98, .int .i64 106, .int .i64 114, .int .i64 122] 32)).heap.size = bf := by rw [← hbf, ← hbn, ← hbo]; exact (World.size_alloc ..).trans (congrArg (· + 1) (World.size_alloc ..))
    have a1 := heap_new W2 (.cells #[.int .i64 57, .int .i64 57, .int .i64 90, .int .i64 98, .int .i64 90] 32)
    have a2 := heap_new (W2.alloc (.cells #[.int .i64 57, .int .i64 57, .int .i64 90, .int .i64 98, .int .i64 90] 32)) (.cells #[.int .i64 90, .int .i64 98, .int .i64 106, .int .i64 114, .int .i64 122] 32)
    have a3 := heap_new ((W2.alloc (.cells #[.int .i64 57, .int .i64 57, .int .i64 90, .int .i64 98, .int .i64 90] 32)).alloc (.cells #[.int .i64 90, .int .i64 98, .int .i64 106, .int .i64 114, .int .i64 122] 32)) (.cells #[.pointer none, .pointer none, .pointer none, .pointer none, .pointer none] 33)
    rw [hV0, e2] at a3
    rw [e1] at a2
    rw [hbo] at a1
    refine ⟨H2.out.on ((k1.trans k2).trans k3), fun j hj => absurd hj (Nat.not_lt_zero j), fun a c ha => absurd ha (Nat.not_lt_zero a), (k2.trans k3).heap a1 id, k3.heap a2 id, a3, ?_⟩
    have := H2.out.2.size
    omega)
  clear H2 hV0 hbf hbn hbo
  go_loopw [10] (fun vi wr => ∃ (i : Nat) (f : Nat → Nat), i ≤ 5 ∧ vi = .int .i64 (i : Int) ∧ Hid (Mk w wr b bo bn bf i f)) (fun vi _ => (5 - intOf vi).toNat)
  case atStart => exact ⟨0, _, by omega, rfl, MK0⟩
  case round =>
    obtain ⟨i, f, hi, rfl, G⟩ := hrel
    clear MK0
    by_cases h5 : i = 5
    · subst h5
      clear hi
      rename World => wr
      go_wp2_with (fail)
      obtain ⟨bh, hbh⟩ : ∃ k, wr.heap.size = k := ⟨_, rfl⟩
      obtain ⟨V1, hV1⟩ : ∃ V, wr.alloc (.cells #[.pointer none, .pointer none, .pointer none, .pointer none, .pointer none] 35) = V := ⟨_, rfl⟩
      rw [hV1]
      have kV : Kept wr V1 := by rw [← hV1]; exact Turned.alloc _ _ _
      have aV := heap_new wr (.cells #[.pointer none, .pointer none, .pointer none, .pointer none, .pointer none] 35)
      rw [hV1, hbh] at aV
      have S0 := hide (Mk.ms G.out kV aV (Nat.le_of_eq hbh))
      have RZ := hide (HR.out.kept S0.out.now.2)
      clear kV aV hV1 G
      try rw [hbh]
      clear hbh
      refine (few_c V1 a0 zs M0 cap 300 RZ.out HL.out (by rw [← HL.out]; exact HC.out) HMX.out (by omega)).mono ?_
      rintro e w' ⟨rfl, rfl⟩
      obtain ⟨M, hMM⟩ : ∃ M, min M0 300 = M := ⟨_, rfl⟩
      rw [hMM]
      have M3 : M ≤ 300 := by omega
      have MZ : M ≤ zs.length := by rw [HL.out]; omega
      have MC : M ≤ cap := Nat.le_trans MZ HC.out
      have HMZ := hide MZ
      clear hMM RZ MZ
      go_wp2_with (fail)
      refine (logic_p V1 b dm0 6 57 S0.out.pm S0.out.di.ok (by rw [S0.out.di.lg_pl (by decide)])).mono ?_
      rintro e w' ⟨rfl, rfl⟩
      go_wp2_with (fail)
      have PG0 : Hid (Pg M 0 (fun j => Dp.new 3 6 (oldA j) (newA j))) := hide (Pg.start M 0 _ (by omega) (fun j _ => by simp [Dp.new]))
      go_loopw [12, 13, 14, 15, 16, 17, 18, 19] (fun vl vt vi _ _ _ _ _ wr => ∃ (i : Nat) (g : Nat → Nat) (m : Mst) (s : Int) (o : Nat → Int) (p : Nat → Dp) (q : Nat → Option Hp), vl = .int .i64 (m.logicZ 6) ∧ vt = .int .i64 ((sum5 (fun j => on1 (o j)) : Nat) : Int) ∧ vi = .int .i64 (i : Int) ∧ i ≤ M + 100 ∧ Hid (Pg M i p) ∧ Hid (MS w wr b bo bn bf bh f g oldA newA m s o p q)) (fun _ _ vi _ _ _ _ _ _ => (M + 100 - intOf vi).toNat)
      case atStart => exact ⟨0, _, _, _, _, _, _, by rw [S0.out.di.lg_pl (by decide)], rfl, rfl, by omega, PG0, S0⟩
      case round =>
        obtain ⟨i, g, m, s, o, p, q, rfl, rfl, rfl, hi, PG, S⟩ := hrel
        clear S0 PG0
        rename World => wr
        obtain ⟨lz, hlz⟩ : ∃ l, m.logicZ 6 = l := ⟨_, rfl⟩
        obtain ⟨tz, htz⟩ : ∃ t, sum5 (fun j => on1 (o j)) = t := ⟨_, rfl⟩
        rw [hlz, htz]
        have HLZ := hide hlz
        have HTZ := hide htz
        have TZ5 : tz ≤ 5 := by rw [← htz]; exact sum5_le o
        clear hlz htz
        by_cases hin : i < M + 100
        · have j0 : (i : Int) < (M : Int) + 100 := by omega
          go_upto_if 67 with (fail)
          go_cut [15] (fun c wx => ∃ kz : Int, c = .int .i64 kz ∧ I64 kz ∧ (i < M ∨ kz = (i : Int)) ∧ wx = wr)
          case first =>
            by_cases h1 : i < M
            · have j1 : (i : Int) < (M : Int) := by omega
              obtain ⟨z, hz⟩ : ∃ z, zs[i]? = some z := ⟨_, List.getElem?_eq_getElem (by have := HMZ.out; omega)⟩
              obtain ⟨bl, off, rfl, hbl, hcell0⟩ := HR.out.at hz
              have hcell := S.out.now.2.cell hcell0 id
              have j3 : i < cap := by omega
              have ZI : Hid (I64 z) := hide (HIZ.out z (List.mem_of_getElem? hz))
              clear hz hcell0 hbl
              go_wp2_with (fail)
              go_meet
              exact ⟨z, rfl, ZI.out, .inl h1, rfl⟩
            · have j1 : ¬ ((i : Int) < (M : Int)) := by omega
              go_wp2_with (fail)
              go_meet
              exact ⟨(i : Int), rfl, ⟨by omega, by omega⟩, .inr rfl, rfl⟩
          case rest =>
          obtain ⟨kz, rfl, ⟨kz1, kz2⟩, hkz, rfl⟩ := hcut
          go_wp2_with (fail)
          obtain ⟨wz, hwz⟩ : ∃ z, when_ % 90 = z := ⟨_, rfl⟩
          refine (cut_k _ when_ 90 wz (by decide) (by decide) hwz).mono ?_
          rintro e w' ⟨rfl, rfl⟩
          clear hwz
          go_upto_if 75 with (fail)
          go_cut [] (fun wx => ∃ m', Hid (MS w wx b bo bn bf bh f g oldA newA m' s o p q ∧ m'.logicZ 6 = lz))
          case first =>
            by_cases h2 : (i : Int) = wz
            · subst h2
              go_wp2_with (fail)
              refine S.out.shut.mono ?_
              rintro e X ⟨rfl, S1, L1⟩
              have S2 := hide S1
              have L2 := hide L1
              clear S1 L1
              go_wp2_with (fail)
              go_meet
              exact ⟨_, S2.out, L2.out.trans HLZ.out⟩
            · have g2 : ((i : Int) == wz) = false := by simp [h2]
              go_wp2_with (fail)
              go_meet
              exact ⟨_, S.out, HLZ.out⟩
          case rest =>
          obtain ⟨m1, SS⟩ := hcut
          have S1 : Hid (MS w wc b bo bn bf bh f g oldA newA m1 s o p q) := hide SS.out.1
          have HL1 : Hid (m1.logicZ 6 = lz) := hide SS.out.2
          clear SS S HLZ
          go_wp2_with (fail)
          obtain ⟨jn, hjn⟩ : ∃ j : Nat, kz % 5 = (j : Int) := ⟨(kz % 5).toNat, by omega⟩
          have jn5 : jn < 5 := by omega
          refine (cut_k _ kz 5 (jn : Int) (by decide) (by decide) hjn).mono ?_
          rintro e w' ⟨rfl, rfl⟩
          obtain ⟨tt, htt⟩ : ∃ t : Int, kz.tdiv 5 % 3 = t := ⟨_, rfl⟩
          have CT : ∀ X, Calls Try.prog 17 #[.int .i64 (kz.tdiv 5), .int .i64 3] X fun e X' => e = .returned (.int .i64 tt) ∧ X = X' := fun X => cut_k X _ 3 tt (by decide) (by decide) htt
          -- what the last rounds step
          have HQ : Hid ((i < M ∨ jn = i % 5) ∧ (tt = 0 → i < M ∨ ¬ (i % 15 = 5 + i % 5))) := hide (by
            rcases hkz with h | h
            · exact ⟨.inl h, fun _ => .inl h⟩
            · subst h
              refine ⟨.inr (by omega), fun e => .inr (by rw [Int.tdiv_eq_ediv_of_nonneg (by omega)] at htt; omega)⟩)
          have t02 : tt = 0 ∨ tt = 1 ∨ tt = 2 := by omega
          clear htt hjn hkz
          have ji : (jn : Int) < 5 := by omega
          obtain ⟨rz, hrz⟩ : ∃ r, (p jn).r = r := ⟨_, rfl⟩
          have HRZ := hide hrz
          obtain ⟨kk, hkk⟩ : ∃ k, kd s = k := ⟨_, rfl⟩
          have HKK := hide hkk
          obtain ⟨aa, haa⟩ : ∃ k, ad s = k := ⟨_, rfl⟩
          have HAA := hide haa
          have R0 : Hid (¬ (p jn).n ≥ 1 → rz = 0) := hide (fun e => by
            have F := S1.out.di.fr jn jn5
            rw [← hrz]
            exact (F.r0 (by have := F.n; omega)).1)
          have R1 : Hid ((p jn).n ≥ 1 → 0 < rz) := hide (fun e => by
            have := ((S1.out.di.fr jn jn5).rc e).lo
            rw [hrz] at this
            omega)
          have SW : Hid ((p jn).n ≥ 1 → kk = 5 → aa = rz → s = (p jn).w) := hide (fun e h5 ha => by
            rcases S1.out.di.slot with h | ⟨z, hz, e1, e2⟩
            · rw [hkk] at h; exact absurd h5 h
            · have nz : 1 ≤ (p z).n := by have := e1.1; omega
              have wz := S1.out.di.wk hz nz
              rw [← e2, haa, ha, ← hrz] at wz
              rw [e2, Dp.w, Dp.w, ← wz.2.2])
          clear hrz hkk haa
          go_upto_region 24 with (fail)
          go_cut [112] (fun c wx => ∃ cb, c = .bool cb ∧ Hid (Kept wc wx) ∧ Hid (cb = true → tt = 0 ∧ (p jn).n ≥ 1 ∧ (q jn = none → s = (p jn).w)))
          case first =>
            have y9 : ∀ u : Wd (Kept wc), u.w.cell? ⟨bf, jn, none⟩ = some (ptr (f jn)) := fun u => u.ok.cell (rowV_at S1.out.rf jn5) id
            have yh : ∀ u : Wd (Kept wc), u.w.cell? ⟨bh, jn, none⟩ = some (hpV (q jn) (g jn)) := fun u => u.ok.cell (rowV_at S1.out.rh.1 jn5) id
            have OKM := hide S1.out.di.ok
            have S6 := hide S1.out.di.s6
            have SI : Hid (I64 s) := hide (by rw [← S6.out]; exact OKM.out.look 6)
            rcases t02 with rfl | rfl | rfl
            · by_cases hn : (p jn).n ≥ 1
              · have r0 := R1.out hn
                cases hqj : q jn with
                | some x =>
                  simp only [hqj, hpV] at yh
                  refine region_quiet (Kept wc) (by kernel_rfl) (by kernel_rfl) (Kept.drew _) (fun _ => ?_)
                  repeat (go_big_quiet_step (first
                    | (go_at_call 17; rename_i u; refine (CT u.w).mono ?_; rintro e w' ⟨rfl, rfl⟩; exact ⟨rfl, u, rfl⟩)
                    | (go_at_call 10; rename_i u; refine (dp_rec u.w (f jn) (p jn) ((S1.out.fr jn jn5).1.kept u.ok) _ HRZ.out).mono ?_; rintro e w' ⟨rfl, rfl⟩; exact ⟨rfl, u, rfl⟩)
                    | (go_at_call 20; rename_i u; refine (lk_p u.w b m1 6 s (S1.out.pm.kept u.ok) S6.out).mono ?_; rintro e w' ⟨rfl, rfl⟩; exact ⟨rfl, u, rfl⟩)
                    | (go_at_call 19; rename_i u; refine (kk_p u.w s _ SI.out HKK.out).mono ?_; rintro e w' ⟨rfl, rfl⟩; exact ⟨rfl, u, rfl⟩)
                    | (go_at_call 21; rename_i u; refine (ak_p u.w s _ SI.out HAA.out).mono ?_; rintro e w' ⟨rfl, rfl⟩; exact ⟨rfl, u, rfl⟩)
                    | rfl))
                  refine wpQuiet_nil ?_
                  intro u
                  go_wp2_with (fail)
                  go_meet
                  exact ⟨true, rfl, u.ok, fun _ => ⟨trivial, hn, fun e => by rw [hqj] at e; cases e⟩⟩
                | none =>
                  simp only [hqj, hpV] at yh
                  by_cases h5 : kk = 5
                  · subst h5
                    by_cases ha : aa = rz
                    · subst ha
                      refine region_quiet (Kept wc) (by kernel_rfl) (by kernel_rfl) (Kept.drew _) (fun _ => ?_)
                      repeat (go_big_quiet_step (first
                        | (go_at_call 17; rename_i u; refine (CT u.w).mono ?_; rintro e w' ⟨rfl, rfl⟩; exact ⟨rfl, u, rfl⟩)
                        | (go_at_call 10; rename_i u; refine (dp_rec u.w (f jn) (p jn) ((S1.out.fr jn jn5).1.kept u.ok) _ HRZ.out).mono ?_; rintro e w' ⟨rfl, rfl⟩; exact ⟨rfl, u, rfl⟩)
                        | (go_at_call 20; rename_i u; refine (lk_p u.w b m1 6 s (S1.out.pm.kept u.ok) S6.out).mono ?_; rintro e w' ⟨rfl, rfl⟩; exact ⟨rfl, u, rfl⟩)
                        | (go_at_call 19; rename_i u; refine (kk_p u.w s _ SI.out HKK.out).mono ?_; rintro e w' ⟨rfl, rfl⟩; exact ⟨rfl, u, rfl⟩)
                        | (go_at_call 21; rename_i u; refine (ak_p u.w s _ SI.out HAA.out).mono ?_; rintro e w' ⟨rfl, rfl⟩; exact ⟨rfl, u, rfl⟩)
                        | rfl))
                      refine wpQuiet_nil ?_
                      intro u
                      go_wp2_with (fail)
                      go_meet
                      exact ⟨true, rfl, u.ok, fun _ => ⟨trivial, hn, fun _ => SW.out hn trivial trivial⟩⟩
                    · have g3 : (aa == rz) = false := by simp [ha]
                      refine region_quiet (Kept wc) (by kernel_rfl) (by kernel_rfl) (Kept.drew _) (fun _ => ?_)
                      repeat (go_big_quiet_step (first
                        | (go_at_call 17; rename_i u; refine (CT u.w).mono ?_; rintro e w' ⟨rfl, rfl⟩; exact ⟨rfl, u, rfl⟩)
                        | (go_at_call 10; rename_i u; refine (dp_rec u.w (f jn) (p jn) ((S1.out.fr jn jn5).1.kept u.ok) _ HRZ.out).mono ?_; rintro e w' ⟨rfl, rfl⟩; exact ⟨rfl, u, rfl⟩)
                        | (go_at_call 20; rename_i u; refine (lk_p u.w b m1 6 s (S1.out.pm.kept u.ok) S6.out).mono ?_; rintro e w' ⟨rfl, rfl⟩; exact ⟨rfl, u, rfl⟩)
                        | (go_at_call 19; rename_i u; refine (kk_p u.w s _ SI.out HKK.out).mono ?_; rintro e w' ⟨rfl, rfl⟩; exact ⟨rfl, u, rfl⟩)
                        | (go_at_call 21; rename_i u; refine (ak_p u.w s _ SI.out HAA.out).mono ?_; rintro e w' ⟨rfl, rfl⟩; exact ⟨rfl, u, rfl⟩)
                        | rfl))
                      refine wpQuiet_nil ?_
                      intro u
                      go_wp2_with (fail)
                      go_meet
                      exact ⟨false, rfl, u.ok, fun e => by cases e⟩
                  · have g3 : (kk == 5) = false := by simp [h5]
                    refine region_quiet (Kept wc) (by kernel_rfl) (by kernel_rfl) (Kept.drew _) (fun _ => ?_)
                    repeat (go_big_quiet_step (first
                      | (go_at_call 17; rename_i u; refine (CT u.w).mono ?_; rintro e w' ⟨rfl, rfl⟩; exact ⟨rfl, u, rfl⟩)
                      | (go_at_call 10; rename_i u; refine (dp_rec u.w (f jn) (p jn) ((S1.out.fr jn jn5).1.kept u.ok) _ HRZ.out).mono ?_; rintro e w' ⟨rfl, rfl⟩; exact ⟨rfl, u, rfl⟩)
                      | (go_at_call 20; rename_i u; refine (lk_p u.w b m1 6 s (S1.out.pm.kept u.ok) S6.out).mono ?_; rintro e w' ⟨rfl, rfl⟩; exact ⟨rfl, u, rfl⟩)
                      | (go_at_call 19; rename_i u; refine (kk_p u.w s _ SI.out HKK.out).mono ?_; rintro e w' ⟨rfl, rfl⟩; exact ⟨rfl, u, rfl⟩)
                      | (go_at_call 21; rename_i u; refine (ak_p u.w s _ SI.out HAA.out).mono ?_; rintro e w' ⟨rfl, rfl⟩; exact ⟨rfl, u, rfl⟩)
                      | rfl))
                    refine wpQuiet_nil ?_
                    intro u
                    go_wp2_with (fail)
                    go_meet
                    exact ⟨false, rfl, u.ok, fun e => by cases e⟩
              · have r0 := R0.out (by omega)
                subst r0
                refine region_quiet (Kept wc) (by kernel_rfl) (by kernel_rfl) (Kept.drew _) (fun _ => ?_)
                repeat (go_big_quiet_step (first
                  | (go_at_call 17; rename_i u; refine (CT u.w).mono ?_; rintro e w' ⟨rfl, rfl⟩; exact ⟨rfl, u, rfl⟩)
                  | (go_at_call 10; rename_i u; refine (dp_rec u.w (f jn) (p jn) ((S1.out.fr jn jn5).1.kept u.ok) _ HRZ.out).mono ?_; rintro e w' ⟨rfl, rfl⟩; exact ⟨rfl, u, rfl⟩)
                  | (go_at_call 20; rename_i u; refine (lk_p u.w b m1 6 s (S1.out.pm.kept u.ok) S6.out).mono ?_; rintro e w' ⟨rfl, rfl⟩; exact ⟨rfl, u, rfl⟩)
                  | (go_at_call 19; rename_i u; refine (kk_p u.w s _ SI.out HKK.out).mono ?_; rintro e w' ⟨rfl, rfl⟩; exact ⟨rfl, u, rfl⟩)
                  | (go_at_call 21; rename_i u; refine (ak_p u.w s _ SI.out HAA.out).mono ?_; rintro e w' ⟨rfl, rfl⟩; exact ⟨rfl, u, rfl⟩)
                  | rfl))
                refine wpQuiet_nil ?_
                intro u
                go_wp2_with (fail)
                go_meet
                exact ⟨false, rfl, u.ok, fun e => by cases e⟩
            · skip
              refine region_quiet (Kept wc) (by kernel_rfl) (by kernel_rfl) (Kept.drew _) (fun _ => ?_)
              repeat (go_big_quiet_step (first
                | (go_at_call 17; rename_i u; refine (CT u.w).mono ?_; rintro e w' ⟨rfl, rfl⟩; exact ⟨rfl, u, rfl⟩)
                | (go_at_call 10; rename_i u; refine (dp_rec u.w (f jn) (p jn) ((S1.out.fr jn jn5).1.kept u.ok) _ HRZ.out).mono ?_; rintro e w' ⟨rfl, rfl⟩; exact ⟨rfl, u, rfl⟩)
                | (go_at_call 20; rename_i u; refine (lk_p u.w b m1 6 s (S1.out.pm.kept u.ok) S6.out).mono ?_; rintro e w' ⟨rfl, rfl⟩; exact ⟨rfl, u, rfl⟩)
                | (go_at_call 19; rename_i u; refine (kk_p u.w s _ SI.out HKK.out).mono ?_; rintro e w' ⟨rfl, rfl⟩; exact ⟨rfl, u, rfl⟩)
                | (go_at_call 21; rename_i u; refine (ak_p u.w s _ SI.out HAA.out).mono ?_; rintro e w' ⟨rfl, rfl⟩; exact ⟨rfl, u, rfl⟩)
                | rfl))
              refine wpQuiet_nil ?_
              intro u
              go_wp2_with (fail)
              go_meet
              exact ⟨false, rfl, u.ok, fun e => by cases e⟩
            · skip
              refine region_quiet (Kept wc) (by kernel_rfl) (by kernel_rfl) (Kept.drew _) (fun _ => ?_)
              repeat (go_big_quiet_step (first
                | (go_at_call 17; rename_i u; refine (CT u.w).mono ?_; rintro e w' ⟨rfl, rfl⟩; exact ⟨rfl, u, rfl⟩)
                | (go_at_call 10; rename_i u; refine (dp_rec u.w (f jn) (p jn) ((S1.out.fr jn jn5).1.kept u.ok) _ HRZ.out).mono ?_; rintro e w' ⟨rfl, rfl⟩; exact ⟨rfl, u, rfl⟩)
                | (go_at_call 20; rename_i u; refine (lk_p u.w b m1 6 s (S1.out.pm.kept u.ok) S6.out).mono ?_; rintro e w' ⟨rfl, rfl⟩; exact ⟨rfl, u, rfl⟩)
                | (go_at_call 19; rename_i u; refine (kk_p u.w s _ SI.out HKK.out).mono ?_; rintro e w' ⟨rfl, rfl⟩; exact ⟨rfl, u, rfl⟩)
                | (go_at_call 21; rename_i u; refine (ak_p u.w s _ SI.out HAA.out).mono ?_; rintro e w' ⟨rfl, rfl⟩; exact ⟨rfl, u, rfl⟩)
                | rfl))
              refine wpQuiet_nil ?_
              intro u
              go_wp2_with (fail)
              go_meet
              exact ⟨false, rfl, u.ok, fun e => by cases e⟩
          case rest =>
          obtain ⟨cb, rfl, KC0, CB0⟩ := hcut
          have S2 := hide (S1.out.kept KC0.out)
          clear S1 R0 R1 SW HKK HAA KC0 CT
          rename World => wd
          go_upto_if 112 with (fail)
          go_cut [] (fun wx => ∃ (g' : Nat → Nat) (m' : Mst) (s' : Int) (o' : Nat → Int) (p' : Nat → Dp) (q' : Nat → Option Hp), Hid (MS w wx b bo bn bf bh f g' oldA newA m' s' o' p' q' ∧ Rd1 m1 m' o o' p' ∧ Pg M (i + 1) p'))
          case first =>
            cases cb with
            | true =>
              obtain ⟨tt0, hn, hs⟩ := CB0.out rfl
              have PGN : Hid (Pg M (i + 1) p) := hide (PG.out.same (HQ.out.2 tt0) (fun j hj => (S2.out.di.fr j hj).n.1))
              cases hqj : q jn with
              | some x =>
                have yh : wd.cell? ⟨bh, jn, none⟩ = some (ptr (g jn)) := by have := rowV_at S2.out.rh.1 jn5; rwa [hqj] at this
                go_wp2_with (fail)
                refine (S2.out.help two_ok jn5 hqj).mono ?_
                rintro e X ⟨r, h', m', s', o', rfl, S3, T3⟩
                have SS := hide S3
                have TT := hide T3
                clear S3 T3 yh
                go_wp2_with (fail)
                go_meet
                exact ⟨_, _, _, _, _, _, SS.out, Rd1.of jn5 TT.out, PGN.out⟩
              | none =>
                have sw := hs hqj
                have yh : wd.cell? ⟨bh, jn, none⟩ = some (.pointer none) := by have := rowV_at S2.out.rh.1 jn5; rwa [hqj] at this
                have y9 : wd.cell? ⟨bf, jn, none⟩ = some (ptr (f jn)) := rowV_at S2.out.rf jn5
                have HQJ := hide hqj
                have SWH := hide sw
                have HN := hide hn
                clear hqj sw hn hs
                go_wp2_with (fail)
                refine (dp_rec wd (f jn) (p jn) (S2.out.fr jn jn5).1 _ HRZ.out).mono ?_
                rintro e w' ⟨rfl, rfl⟩
                go_wp2_with (fail)
                refine (hp_new wd rz).mono ?_
                rintro e V2 ⟨rfl, hf2, k2⟩
                have hb2 := k2.heap S2.out.rh.1 id
                have z2 := rowV_at hb2 jn5
                have z3 := rowV_fz hb2 jn
                have B3 := hide (S2.out.begun (V := V2) jn5 HQJ.out HN.out SWH.out k2 (Nat.le_refl _) (by rw [HRZ.out]; exact hf2))
                obtain ⟨gk, hgk⟩ : ∃ k, wd.heap.size = k := ⟨_, rfl⟩
                rw [hgk] at B3
                rw [hgk]
                obtain ⟨V3, hV3⟩ : ∃ V, V2.setCell ⟨bh, jn, none⟩ (ptr gk) = V := ⟨_, rfl⟩
                rw [hV3] at B3
                have HV3 := hide hV3
                clear hf2 k2 hb2 hgk hV3 y9 yh
                go_wp2_with (fail)
                rw [show V2.setCell ⟨bh, jn, none⟩ (.pointer (some ⟨gk, 0, none⟩)) = V3 from HV3.out]
                have HH := B3.out.help two_ok jn5 (upd_self q jn (some (Hp.new (p jn).r)))
                rw [upd_self] at HH
                refine HH.mono ?_
                clear HH
                rintro e X ⟨r, h', m', s', o', rfl, S3, T3⟩
                have SS := hide S3
                have TT := hide T3
                clear S3 T3 z2 z3
                go_wp2_with (fail)
                go_meet
                exact ⟨_, _, _, _, _, _, SS.out, Rd1.of jn5 TT.out, PGN.out⟩
            | false =>
              have y9 : wd.cell? ⟨bf, jn, none⟩ = some (ptr (f jn)) := rowV_at S2.out.rf jn5
              go_wp2_with (fail)
              refine (S2.out.frame two_ok jn5).mono ?_
              rintro e X ⟨r, p', m', s', o', rfl, S3, T3, G3, E3⟩
              have SS := hide S3
              have TT := hide T3
              have PGN : Hid (Pg M (i + 1) (upd p jn p')) := hide (PG.out.step jn5 (S2.out.di.fr jn jn5).n.2 G3 E3 HQ.out.1 (fun j hj => (S2.out.di.fr j hj).n.1))
              clear S3 T3 G3 E3 y9
              go_wp2_with (fail)
              go_meet
              exact ⟨_, _, _, _, _, _, SS.out, Rd1.of jn5 (by rw [upd_self]; exact TT.out), PGN.out⟩
          case rest =>
          obtain ⟨g', m', s', o', p', q', Z⟩ := hcut
          have S3 := hide Z.out.1
          have RD := hide Z.out.2.1
          have PG2 := hide Z.out.2.2
          clear Z S2 CB0 PG HQ
          obtain ⟨nz, hnz⟩ : ∃ n, m'.logicZ 6 = n := ⟨_, rfl⟩
          have HNZ := hide hnz
          have HLG := logic_p wc b m' 6 nz S3.out.pm S3.out.di.ok hnz
          clear hnz
          go_wp2_with (fail)
          refine HLG.mono ?_
          rintro e w' ⟨rfl, rfl⟩
          clear HLG
          rename World => we
          have RD2 : (nz = lz ∧ sum5 (fun j => on1 (o' j)) = tz) ∨ ∃ j, j < 5 ∧ lz = oldA j ∧ nz = newA j ∧ sum5 (fun j => on1 (o' j)) = tz + 1 ∧ 1 ≤ (p' j).n := by
            have := RD.out
            unfold Rd1 at this
            rw [HL1.out, HNZ.out, HTZ.out] at this
            exact this
          clear RD HL1 HTZ
          rcases RD2 with ⟨e1, e2⟩ | ⟨jj, hjj, e1, e2, e3, e4⟩
          · subst e1
            have E2 := hide e2
            clear e2
            go_wp2_with (fail)
            exact ⟨⟨i + 1, _, _, _, _, _, _, by rw [HNZ.out], by rw [E2.out], by simp, by omega, PG2, S3⟩, by simp only [intOf]; omega⟩
          · have NE : (nz != lz) = true := by
              rw [e1, e2]
              have := two_ok.ne jj hjj
              simp
              exact fun e => this e.symm
            have E1 := hide e1
            have E2 := hide e2
            have E3 := hide e3
            have E4 := hide e4
            clear e1 e2 e3 e4
            go_wp2_with (fail)
            go_loopw [18, 19] (fun vok vn wx => ∃ (n : Nat) (c : Bool), n ≤ 5 ∧ vok = .bool c ∧ vn = .int .i64 (n : Int) ∧ (jj < n → c = true) ∧ we = wx) (fun _ vn _ => (5 - intOf vn).toNat)
            case atStart => exact ⟨0, false, by omega, rfl, rfl, fun e => absurd e (Nat.not_lt_zero _), rfl⟩
            case round =>
              obtain ⟨n, c, hn, rfl, rfl, hcj, rfl⟩ := hrel
              by_cases hn5 : n = 5
              · subst hn5
                obtain rfl := hcj hjj
                clear hcj
                go_wp2_with (fail)
                exact ⟨⟨i + 1, _, _, _, _, _, _, by rw [HNZ.out], by rw [E3.out]; simp, by simp, by omega, PG2, S3⟩, by simp only [intOf]; omega⟩
              · have n5 : n < 5 := by omega
                have nI : (n : Int) < 5 := by omega
                have c7 : we.cell? ⟨bo, n, none⟩ = some (.int .i64 (oldA n)) := rowV_at S3.out.ro n5
                have c8 : we.cell? ⟨bn, n, none⟩ = some (.int .i64 (newA n)) := rowV_at S3.out.rn n5
                have c9 : we.cell? ⟨bf, n, none⟩ = some (ptr (f n)) := rowV_at S3.out.rf n5
                obtain ⟨on, hon⟩ : ∃ z, oldA n = z := ⟨_, rfl⟩
                obtain ⟨nn, hnn⟩ : ∃ z, newA n = z := ⟨_, rfl⟩
                obtain ⟨rn, hrn⟩ : ∃ z, (p' n).r = z := ⟨_, rfl⟩
                rw [hon] at c7
                rw [hnn] at c8
                have HCJ := hide hcj
                have JJ : Hid (n = jj → on = lz ∧ nn = nz ∧ 0 < rn) := hide (fun e => by
                  refine ⟨by rw [← hon, e]; exact E1.out.symm, by rw [← hnn, e]; exact E2.out.symm, ?_⟩
                  have := ((S3.out.di.fr n n5).rc (by rw [e]; exact E4.out)).lo
                  rw [hrn] at this
                  omega)
                have CR : ∀ X, we = X → Calls Try.prog 10 #[.pointer (some ⟨f n, 0, none⟩)] X fun e X' => e = .returned (.int .i64 rn) ∧ X = X' := fun X hX => hX ▸ dp_rec we (f n) (p' n) (S3.out.fr n n5).1 rn hrn
                clear hon hnn hrn hcj hn hn5
                cases c with
                | true =>
                  go_wp2_with (fail)
                  exact ⟨⟨n + 1, true, by omega, rfl, by simp, fun _ => rfl, trivial⟩, by simp only [intOf]; omega⟩
                | false =>
                  by_cases h1 : on = lz
                  · subst h1
                    by_cases h2 : nn = nz
                    · subst h2
                      go_wp2_with (fail)
                      refine (CR _ rfl).mono ?_
                      rintro e w' ⟨rfl, rfl⟩
                      by_cases h3 : 0 < rn
                      · go_wp2_with (fail)
                        exact ⟨⟨n + 1, true, by omega, rfl, by simp, fun _ => rfl, trivial⟩, by simp only [intOf]; omega⟩
                      · go_wp2_with (fail)
                        exact ⟨⟨n + 1, false, by omega, (by have := h3; congr 1; simp; omega), by simp, fun e => (by
                          have h := HCJ.out
                          have k := JJ.out
                          by_cases hnj : n = jj
                          · have := (k hnj).2.2; omega
                          · exact h (by omega)), trivial⟩, by simp only [intOf]; omega⟩
                    · have g2 : (nn == nz) = false := by simp [h2]
                      go_wp2_with (fail)
                      exact ⟨⟨n + 1, false, by omega, rfl, by simp, fun e => (by
                        have h := HCJ.out
                        have k := JJ.out
                        by_cases hnj : n = jj
                        · exact absurd (k hnj).2.1 h2
                        · exact h (by omega)), trivial⟩, by simp only [intOf]; omega⟩
                  · have g1 : (on == lz) = false := by simp [h1]
                    go_wp2_with (fail)
                    exact ⟨⟨n + 1, false, by omega, rfl, by simp, fun e => (by
                      have h := HCJ.out
                      have k := JJ.out
                      by_cases hnj : n = jj
                      · exact absurd (k hnj).1 h1
                      · exact h (by omega)), trivial⟩, by simp only [intOf]; omega⟩
        · obtain rfl : i = M + 100 := by omega
          have N6 : Hid (∀ j, j < 5 → (p j).n = 6) := hide (fun j hj => PG.out.done (fun k hk => (S.out.di.fr k hk).n.2) hj)
          have j0 : ¬ (((M + 100 : Nat) : Int) < (M : Int) + 100) := by omega
          clear PG hin hi
          go_wp2_with (fail)
          go_loopw [20, 21] (fun vc vi wx => ∃ n : Nat, n ≤ 5 ∧ vc = .int .i64 ((psum o n : Nat) : Int) ∧ vi = .int .i64 (n : Int) ∧ wr = wx) (fun _ vi _ => (5 - intOf vi).toNat)
          case atStart => exact ⟨0, by omega, rfl, rfl, rfl⟩
          case round =>
            obtain ⟨n, hn, rfl, rfl, rfl⟩ := hrel
            by_cases hn5 : n = 5
            · subst hn5
              have PS : Hid (psum o 5 = tz) := hide ((psum5 o).trans HTZ.out)
              rw [PS.out]
              have KS : Hid (kd s ≠ 5) := hide (by
                rcases S.out.di.slot with h | ⟨z, hz, e1, e2⟩
                · exact h
                · exact absurd e2 ((S.out.di.fr z hz).e6 (N6.out z hz)))
              obtain ⟨kk, hkk⟩ : ∃ k, kd s = k := ⟨_, rfl⟩
              have g5 : (kk != 5) = true := by have := KS.out; rw [hkk] at this; simp [this]
              have HKK := hide hkk
              have SI : Hid (I64 s) := hide (by rw [← S.out.di.s6]; exact S.out.di.ok.look 6)
              clear hkk KS HTZ HLZ
              go_wp2_with (fail)
              refine (known_c wr).mono ?_
              rintro e X ⟨rfl, k9⟩
              have S9 := hide (S.out.kept k9)
              clear k9 S
              go_wp2_with (fail)
              refine (lk_p X b m 6 s S9.out.pm S9.out.di.s6).mono ?_
              rintro e w' ⟨rfl, rfl⟩
              go_wp2_with (fail)
              refine (kk_p X s kk SI.out HKK.out).mono ?_
              rintro e w' ⟨rfl, rfl⟩
              go_wp2_with (fail)
              refine (now_odd w X b m 0 S9.out.now S9.out.di.odd).mono ?_
              rintro e w' ⟨rfl, rfl⟩
              have KX := hide S9.out.now.2
              clear S9
              go_wp2
              go_ret
              exact ⟨rfl, KX.out⟩
            · have n5 : n < 5 := by omega
              have nI : (n : Int) < 5 := by omega
              have c9 : wr.cell? ⟨bf, n, none⟩ = some (ptr (f n)) := rowV_at S.out.rf n5
              have OUT : Hid ((if (p n).n = 6 then (p n).c else 0) = o n) := hide (by rw [if_pos (N6.out n n5)]; exact fr_out (S.out.di.fr n n5) (N6.out n n5))
              have DN : Hid (((p n).n == 6) = true) := hide (by simp [N6.out n n5])
              have PN : Hid (psum o (n + 1) = psum o n + on1 (o n)) := hide rfl
              obtain ⟨ps, hps⟩ : ∃ z, psum o n = z := ⟨_, rfl⟩
              obtain ⟨oz, hoz⟩ : ∃ z, o n = z := ⟨_, rfl⟩
              rw [hps, hoz] at PN
              rw [hoz] at OUT
              rw [hps]
              have PB : ps ≤ 5 := by
                rw [← hps]
                have k : ∀ i, on1 (o i) ≤ 1 := fun i => by unfold on1; split <;> omega
                have : ∀ n, psum o n ≤ n := fun n => by
                  induction n with
                  | zero => exact Nat.le_refl 0
                  | succ n ih => have := k n; show psum o n + on1 (o n) ≤ n + 1; omega
                have := this n
                omega
              clear hps hoz hn hn5
              go_wp2_with (fail)
              refine (dp_done wr (f n) (p n) (S.out.fr n n5).1 true DN.out).mono ?_
              rintro e w' ⟨rfl, rfl⟩
              go_wp2_with (fail)
              refine (dp_outcome wr (f n) (p n) (S.out.fr n n5).1 oz OUT.out).mono ?_
              rintro e w' ⟨rfl, rfl⟩
              by_cases h1 : oz = 1
              · subst h1
                go_wp2_with (fail)
                exact ⟨⟨n + 1, by omega, by rw [PN.out]; simp [on1], by simp, trivial⟩, by simp only [intOf]; omega⟩
              · have g1 : (oz == 1) = false := by simp [h1]
                go_wp2_with (fail)
                exact ⟨⟨n + 1, by omega, by rw [PN.out]; simp [on1, h1], by simp, trivial⟩, by simp only [intOf]; omega⟩
    go_upto_region 10 with (fail)
    obtain ⟨V, hV⟩ : ∃ V, wr.drew = V := ⟨_, rfl⟩
    have KV : Hid (Kept wr V) := hide (by rw [← hV]; exact Kept.drew _)
    have HV := hide hV
    have R1 := hide (KV.out.heap G.out.ro id)
    have R2 := hide (KV.out.heap G.out.rn id)
    have R3 := hide (KV.out.heap G.out.rf.1 id)
    clear hV
    obtain rfl | rfl | rfl | rfl | rfl : i = 0 ∨ i = 1 ∨ i = 2 ∨ i = 3 ∨ i = 4 := by omega
    · have x7 : ∀ u : Wd (Kept V), u.w.cell? ⟨bo, 0, none⟩ = some (.int .i64 (57)) := fun u => u.ok.cell (rowV_at R1.out (j := 0) (by decide)) id
      have x8 : ∀ u : Wd (Kept V), u.w.cell? ⟨bn, 0, none⟩ = some (.int .i64 (90)) := fun u => u.ok.cell (rowV_at R2.out (j := 0) (by decide)) id
      refine region_last [0, 1, 2, 3, 4, 5, 6, 7, 8] 9 (Kept V) (by kernel_rfl) (by kernel_rfl) (by rw [HV.out]; exact Kept.refl _) (fun _ => ?_)
      rw [HV.out]
      repeat (refine lq rfl rfl ?_; go_big_quiet_step (fail); refine wpQuiet_nil ?_)
      refine ll rfl rfl ?_
      gi_wp2_with (fail)
      refine ⟨trivial, ?_⟩
      refine (callsIn_wide.2 (dp_new V 3 6 57 90)).mono ?_
      rintro e V1 ⟨rfl, hd, k1⟩
      have NX := hide (Mk.next (i := 0) G.out (by decide) (KV.out.trans k1) KV.out.size hd)
      have rf1 := k1.heap R3.out id
      have f9 := rowV_fz rf1 0
      have c9 := rowV_at rf1 (j := 0) (by decide)
      have K1 := hide k1
      obtain ⟨z, hz⟩ : ∃ z, V.heap.size = z := ⟨_, rfl⟩
      rw [hz] at NX
      rw [hz]
      clear hd k1 rf1 hz
      gi_wp2_with (fail)
      refine ⟨Wd.mem K1.out, ?_⟩
      repeat (refine lq rfl rfl ?_; go_big_quiet_step (fail); refine wpQuiet_nil ?_)
      clear x7 x8
      refine lz rfl ?_
      gi_wp2
      refine last_done ?_
      clear f9 c9
      go_wp2_with (fail)
      exact ⟨⟨0 + 1, _, by decide, rfl, NX⟩, by simp only [intOf]; omega⟩
    · have x7 : ∀ u : Wd (Kept V), u.w.cell? ⟨bo, 1, none⟩ = some (.int .i64 (57)) := fun u => u.ok.cell (rowV_at R1.out (j := 1) (by decide)) id
      have x8 : ∀ u : Wd (Kept V), u.w.cell? ⟨bn, 1, none⟩ = some (.int .i64 (98)) := fun u => u.ok.cell (rowV_at R2.out (j := 1) (by decide)) id
      refine region_last [0, 1, 2, 3, 4, 5, 6, 7, 8] 9 (Kept V) (by kernel_rfl) (by kernel_rfl) (by rw [HV.out]; exact Kept.refl _) (fun _ => ?_)
      rw [HV.out]
      repeat (refine lq rfl rfl ?_; go_big_quiet_step (fail); refine wpQuiet_nil ?_)
      refine ll rfl rfl ?_
      gi_wp2_with (fail)
      refine ⟨trivial, ?_⟩
      refine (callsIn_wide.2 (dp_new V 3 6 57 98)).mono ?_
      rintro e V1 ⟨rfl, hd, k1⟩
      have NX := hide (Mk.next (i := 1) G.out (by decide) (KV.out.trans k1) KV.out.size hd)
      have rf1 := k1.heap R3.out id
      have f9 := rowV_fz rf1 1
      have c9 := rowV_at rf1 (j := 1) (by decide)
      have K1 := hide k1
      obtain ⟨z, hz⟩ : ∃ z, V.heap.size = z := ⟨_, rfl⟩
      rw [hz] at NX
      rw [hz]
      clear hd k1 rf1 hz
      gi_wp2_with (fail)
      refine ⟨Wd.mem K1.out, ?_⟩
      repeat (refine lq rfl rfl ?_; go_big_quiet_step (fail); refine wpQuiet_nil ?_)
      clear x7 x8
      refine lz rfl ?_
      gi_wp2
      refine last_done ?_
      clear f9 c9
      go_wp2_with (fail)
      exact ⟨⟨1 + 1, _, by decide, rfl, NX⟩, by simp only [intOf]; omega⟩
    · have x7 : ∀ u : Wd (Kept V), u.w.cell? ⟨bo, 2, none⟩ = some (.int .i64 (90)) := fun u => u.ok.cell (rowV_at R1.out (j := 2) (by decide)) id
      have x8 : ∀ u : Wd (Kept V), u.w.cell? ⟨bn, 2, none⟩ = some (.int .i64 (106)) := fun u => u.ok.cell (rowV_at R2.out (j := 2) (by decide)) id
      refine region_last [0, 1, 2, 3, 4, 5, 6, 7, 8] 9 (Kept V) (by kernel_rfl) (by kernel_rfl) (by rw [HV.out]; exact Kept.refl _) (fun _ => ?_)
      rw [HV.out]
      repeat (refine lq rfl rfl ?_; go_big_quiet_step (fail); refine wpQuiet_nil ?_)
      refine ll rfl rfl ?_
      gi_wp2_with (fail)
      refine ⟨trivial, ?_⟩
      refine (callsIn_wide.2 (dp_new V 3 6 90 106)).mono ?_
      rintro e V1 ⟨rfl, hd, k1⟩
      have NX := hide (Mk.next (i := 2) G.out (by decide) (KV.out.trans k1) KV.out.size hd)
      have rf1 := k1.heap R3.out id
      have f9 := rowV_fz rf1 2
      have c9 := rowV_at rf1 (j := 2) (by decide)
      have K1 := hide k1
      obtain ⟨z, hz⟩ : ∃ z, V.heap.size = z := ⟨_, rfl⟩
      rw [hz] at NX
      rw [hz]
      clear hd k1 rf1 hz
      gi_wp2_with (fail)
      refine ⟨Wd.mem K1.out, ?_⟩
      repeat (refine lq rfl rfl ?_; go_big_quiet_step (fail); refine wpQuiet_nil ?_)
      clear x7 x8
      refine lz rfl ?_
      gi_wp2
      refine last_done ?_
      clear f9 c9
      go_wp2_with (fail)
      exact ⟨⟨2 + 1, _, by decide, rfl, NX⟩, by simp only [intOf]; omega⟩
    · have x7 : ∀ u : Wd (Kept V), u.w.cell? ⟨bo, 3, none⟩ = some (.int .i64 (98)) := fun u => u.ok.cell (rowV_at R1.out (j := 3) (by decide)) id
      have x8 : ∀ u : Wd (Kept V), u.w.cell? ⟨bn, 3, none⟩ = some (.int .i64 (114)) := fun u => u.ok.cell (rowV_at R2.out (j := 3) (by decide)) id
      refine region_last [0, 1, 2, 3, 4, 5, 6, 7, 8] 9 (Kept V) (by kernel_rfl) (by kernel_rfl) (by rw [HV.out]; exact Kept.refl _) (fun _ => ?_)
      rw [HV.out]
      repeat (refine lq rfl rfl ?_; go_big_quiet_step (fail); refine wpQuiet_nil ?_)
      refine ll rfl rfl ?_
      gi_wp2_with (fail)
      refine ⟨trivial, ?_⟩
      refine (callsIn_wide.2 (dp_new V 3 6 98 114)).mono ?_
      rintro e V1 ⟨rfl, hd, k1⟩
      have NX := hide (Mk.next (i := 3) G.out (by decide) (KV.out.trans k1) KV.out.size hd)
      have rf1 := k1.heap R3.out id
      have f9 := rowV_fz rf1 3
      have c9 := rowV_at rf1 (j := 3) (by decide)
      have K1 := hide k1
      obtain ⟨z, hz⟩ : ∃ z, V.heap.size = z := ⟨_, rfl⟩
      rw [hz] at NX
      rw [hz]
      clear hd k1 rf1 hz
      gi_wp2_with (fail)
      refine ⟨Wd.mem K1.out, ?_⟩
      repeat (refine lq rfl rfl ?_; go_big_quiet_step (fail); refine wpQuiet_nil ?_)
      clear x7 x8
      refine lz rfl ?_
      gi_wp2
      refine last_done ?_
      clear f9 c9
      go_wp2_with (fail)
      exact ⟨⟨3 + 1, _, by decide, rfl, NX⟩, by simp only [intOf]; omega⟩
    · have x7 : ∀ u : Wd (Kept V), u.w.cell? ⟨bo, 4, none⟩ = some (.int .i64 (90)) := fun u => u.ok.cell (rowV_at R1.out (j := 4) (by decide)) id
      have x8 : ∀ u : Wd (Kept V), u.w.cell? ⟨bn, 4, none⟩ = some (.int .i64 (122)) := fun u => u.ok.cell (rowV_at R2.out (j := 4) (by decide)) id
      refine region_last [0, 1, 2, 3, 4, 5, 6, 7, 8] 9 (Kept V) (by kernel_rfl) (by kernel_rfl) (by rw [HV.out]; exact Kept.refl _) (fun _ => ?_)
      rw [HV.out]
      repeat (refine lq rfl rfl ?_; go_big_quiet_step (fail); refine wpQuiet_nil ?_)
      refine ll rfl rfl ?_
      gi_wp2_with (fail)
      refine ⟨trivial, ?_⟩
      refine (callsIn_wide.2 (dp_new V 3 6 90 122)).mono ?_
      rintro e V1 ⟨rfl, hd, k1⟩
      have NX := hide (Mk.next (i := 4) G.out (by decide) (KV.out.trans k1) KV.out.size hd)
      have rf1 := k1.heap R3.out id
      have f9 := rowV_fz rf1 4
      have c9 := rowV_at rf1 (j := 4) (by decide)
      have K1 := hide k1
      obtain ⟨z, hz⟩ : ∃ z, V.heap.size = z := ⟨_, rfl⟩
      rw [hz] at NX
      rw [hz]
      clear hd k1 rf1 hz
      gi_wp2_with (fail)
      refine ⟨Wd.mem K1.out, ?_⟩
      repeat (refine lq rfl rfl ?_; go_big_quiet_step (fail); refine wpQuiet_nil ?_)
      clear x7 x8
      refine lz rfl ?_
      gi_wp2
      refine last_done ?_
      clear f9 c9
      go_wp2_with (fail)
      exact ⟨⟨4 + 1, _, by decide, rfl, NX⟩, by simp only [intOf]; omega⟩
end Go.Proofs.Ytoaicedkepcalaa
