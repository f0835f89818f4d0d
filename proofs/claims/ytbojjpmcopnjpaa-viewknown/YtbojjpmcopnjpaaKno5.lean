/-
  What the proof of YtbojjpmcopnjpaaViewKnownProof goes by, part 5 of 5: contracts and plain facts; each part begins with its own sentence. No conditions beyond each theorem's own.
-/
import Derived.Test.YtbojjpmcopnjpaaKno4
import Derived.BigQuiet
import Derived.Deep.QuietTactic
/-! The program's levels and Depth. -/
namespace Go.Proofs.Ytbojjpmcopnjpaa
open Go.RowKit Go.Shelf

attribute [local go_sem] Oper.semAt_some

/-- How many Inner stand one below the other. -/
def levF (s : Mst) : Nat → Int → Int
  | 0, _ => 0
  | f + 1, x => if kd (tgt s x) = 3 then 1 + (slotsL s x).foldl (fun m p => max m (levF s f (s.logicZ p.2))) 0 else 0
theorem levF_succ (s : Mst) (f : Nat) (x : Int) : levF s (f + 1) x = if kd (tgt s x) = 3 then 1 + (slotsL s x).foldl (fun m p => max m (levF s f (s.logicZ p.2))) 0 else 0 := rfl
def depthB (s : Mst) (x : Int) : Int := if inTreeB s x = true then levF s (fuel s) x else 0
theorem fold_max {α : Type} (g : α → Int) (B : Int) (hg : ∀ a, 0 ≤ g a ∧ g a ≤ B) (L : List α) : ∀ m, 0 ≤ m → m ≤ B → 0 ≤ L.foldl (fun m p => max m (g p)) m ∧ L.foldl (fun m p => max m (g p)) m ≤ B := by
  induction L with
  | nil => intro m h1 h2; exact ⟨h1, h2⟩
  | cons a L ih =>
    intro m h1 h2
    have := hg a
    rw [List.foldl_cons]
    exact ih (max m (g a)) (by omega) (by omega)
theorem levF_bound (s : Mst) : ∀ (f : Nat) (x : Int), 0 ≤ levF s f x ∧ levF s f x ≤ f
  | 0, _ => by simp [levF]
  | f + 1, x => by
    unfold levF
    split
    · have := fold_max (fun p : Int × Int => levF s f (s.logicZ p.2)) f (fun p => levF_bound s f _) (slotsL s x) 0 (by omega) (by omega)
      omega
    · omega
/-- The invariant: the deepest so far. -/
def Deep (n : Nat) (g : Int × Int → Int) : Inv (Int × Int) := fun O pre A => (∀ k, O k ↔ k = n) ∧ Boxed A n 3 (.int .i64 (pre.foldl (fun m p => max m (g p)) 0))
theorem Deep.good (n : Nat) (g : Int × Int → Int) : Good (Deep n g) := by
  constructor
  · rintro O pre A B ⟨hO, hb⟩ ht
    exact ⟨hO, ht.boxed hb (fun hn => hn ((hO n).2 rfl))⟩
  · rintro O pre A ⟨hO, hb⟩ k hk
    rw [(hO k).1 hk]
    exact hb.lt

set_option maxHeartbeats 2000000 in
theorem levels_p : ∀ (f : Nat) (w : World) (b : Nat) (s : Mst) (x : Int), PM w b s → s.ok → Wf s f x → f ≤ 100000 →
    Calls Try.prog 36 #[.pointer (some ⟨b, 0, none⟩), .int .i64 x] w fun e w' => e = .returned (.int .i64 (levF s f x)) ∧ Kept w w'
  | 0, _, _, _, _, _, _, h, _ => h.elim
  | f + 1, w, b, s, x, h, ho, hw, hf => by
    have ih := levels_p f
    obtain ⟨hwh, hwk⟩ := hw
    obtain ⟨n, hn⟩ : ∃ n, w.heap.size = n := ⟨_, rfl⟩
    obtain ⟨W1, hW1⟩ : ∃ W1, w.alloc (.cells #[.pointer (some ⟨b, 0, none⟩)] 22) = W1 := ⟨_, rfl⟩
    have t1 : Kept w W1 := by rw [← hW1]; exact (Kept.refl w).alloc _
    have z1 : W1.heap.size = n + 1 := by rw [← hW1]; simp [hn]
    have bM : Boxed W1 n 22 (.pointer (some ⟨b, 0, none⟩)) := by rw [← hW1, ← hn]; exact Boxed.new w 22 _
    have K1 := hide t1
    have BM := hide bM
    have c0 := bM.cell
    have H := hide h
    have HO := hide ho
    have HWH := hide hwh
    have HWK := hide hwk
    have IH := hide ih
    have HN := hide hn
    have Z1 := hide z1
    have HF := hide hf
    obtain ⟨t, ht⟩ : ∃ t, tgt s x = t := ⟨_, rfl⟩
    have HT := hide ht
    have HTI : Hid (I64 t) := hide (by rw [← ht]; exact tgt_i64 ho hwh.i64)
    obtain ⟨j, hj⟩ : ∃ j, kd t = j := ⟨_, rfl⟩
    have HJ := hide hj
    by_cases j3 : j = 3
    · obtain ⟨g, hg⟩ : ∃ g : Int × Int → Int, (fun p => levF s f (s.logicZ p.2)) = g := ⟨_, rfl⟩
      have HE : Hid (levF s (f + 1) x = 1 + (slotsL s x).foldl (fun m p => max m (g p)) 0) := hide (by subst hg; rw [levF_succ, if_pos (by rw [ht, hj]; exact j3)])
      have HG : Hid (∀ p : Int × Int, levF s f (s.logicZ p.2) = g p) := hide (fun p => by subst hg; rfl)
      have GB : Hid (∀ p : Int × Int, 0 ≤ g p ∧ g p ≤ 100000) := hide (fun p => by rw [← hg]; have := levF_bound s f (s.logicZ p.2); have := HF.out; dsimp only; omega)
      subst j3
      clear t1 bM h ho hwh hwk ih z1 hf ht hj hg
      refine calls_marks Try.func36 rfl ?_
      simp only [Try.ntmps36, List.size_toArray, List.length_cons, List.length_nil, Nat.reduceAdd, Nat.reduceSub, Array.replicate_succ, Array.replicate_zero, List.push_toArray, List.append_toArray, List.nil_append, List.cons_append]
      go_wp2_with (fail)
      clear hW1 hn
      refine (target_p _ b s x t (H.out.kept K1.out) HWH.out.i64 HT.out).mono ?_
      rintro e w' ⟨rfl, rfl⟩
      go_wp2_with (fail)
      refine (kk_p _ t 3 HTI.out HJ.out).mono ?_
      rintro e w' ⟨rfl, rfl⟩
      have ca := (Kept.alloc (Kept.refl W1) (.cells #[.int .i64 0] 3)).cell c0 id
      go_wp2_with (fail)
      rw [Z1.out]
      clear ca
      obtain ⟨W2, hW2⟩ : ∃ W2, W1.alloc (.cells #[.int .i64 0] 3) = W2 := ⟨_, rfl⟩
      have zz := Z1.out
      have t2 : Kept W1 W2 := by rw [← hW2]; exact (Kept.refl W1).alloc _
      have bD : Boxed W2 (n + 1) 3 (.int .i64 0) := by rw [← hW2, ← zz]; exact Boxed.new W1 3 _
      have Z2 : Hid (W2.heap.size = n + 2) := hide (by rw [← hW2]; simp [zz])
      have K2 := hide (K1.out.trans t2)
      have BM2 := hide (t2.boxed BM.out id)
      have BD := hide bD
      have c0' := BM2.out.cell
      clear t2 bD c0
      rw [hW2]
      clear hW2
      refine (slots_k W2 b x).mono ?_
      rintro e W3 ⟨B1, B2, rfl, k3, b1, b2, l1, l2⟩
      have K3 := hide (K2.out.trans k3)
      have BM3 := hide (k3.boxed BM2.out id)
      have BD3 := hide (k3.boxed BD.out id)
      have BB1 := hide b1
      have BB2 := hide b2
      have L1 : Hid (n + 2 ≤ B1 ∧ n + 2 ≤ B2 ∧ n + 2 ≤ W3.heap.size) := hide (by have := Z2.out; have := k3.size; omega)
      clear k3 b1 b2 l1 l2 c0' zz
      go_wp2_with (fail)
      refine wp_range2 (gf := 78) rfl (enters_of Try.func78 (by kernel_rfl) rfl) (encs := enc2) (xs := slotsL s x) (R := SlotR w B1 B2)
        (fun X hX => slots_i w X (K3.out.trans hX) b s H.out HO.out x HWH.out B1 B2 (hX.boxed BB1.out id) (hX.boxed BB2.out id)) (fun _ => rfl)
        (fun k => k = n + 1) (Deep (n + 1) g) (fun _ _ _ _ => False) ?hR (Deep.good _ _) (fun _ => good_false) ⟨fun _ => Iff.rfl, by simpa using BD3.out⟩ ?ab ?done (fun _ _ _ _ _ _ _ _ _ _ _ h => h.elim)
      case hR =>
        rintro k (hk | rfl | rfl)
        · have h1 := HN.out
          have h2 := K3.out.size
          exact ⟨by omega, by omega⟩
        · have := L1.out
          exact ⟨BB1.out.lt, by omega⟩
        · have := L1.out
          exact ⟨BB2.out.lt, by omega⟩
      case ab =>
        apply Exists.intro
        refine ⟨?_, ?_⟩
        · intro l' p X K hK
          gi_wp2
          exact hK
        · rintro l' O pre ⟨pi, sl⟩ rest B hx' tB sB ⟨hO, bD⟩
          obtain ⟨y, hy⟩ : ∃ y, s.logicZ sl = y := ⟨_, rfl⟩
          have HY := hide hy
          have HWF : Hid (Wf s f y) := hide (by
            have := HWK.out (pi, sl) (by rw [hx']; simp)
            rwa [hy] at this)
          obtain ⟨v, hv⟩ : ∃ v, g (pi, sl) = v := ⟨_, rfl⟩
          have HV : Hid (levF s f y = v) := hide (by rw [← hy, HG.out (pi, sl)]; exact hv)
          obtain ⟨D, hD⟩ : ∃ D, pre.foldl (fun m p => max m (g p)) 0 = D := ⟨_, rfl⟩
          have HDN : Hid ((pre ++ [(pi, sl)]).foldl (fun m p => max m (g p)) 0 = max D v) := hide (by rw [List.foldl_append, hD]; simp [hv])
          rw [hD] at bD
          have vb : 0 ≤ v ∧ v ≤ 100000 := by rw [← hv]; exact GB.out _
          have db : 0 ≤ D ∧ D ≤ 100000 := by rw [← hD]; exact fold_max g 100000 GB.out pre 0 (by omega) (by omega)
          have KB : Hid (Kept w B) := hide (K3.out.did (by have := HN.out; omega) tB)
          obtain ⟨V, hV⟩ : ∃ V, B.drew = V := ⟨_, rfl⟩
          have kV : Kept B V := by rw [← hV]; exact Kept.drew _
          have KV := hide kV
          have HVV := hide hV
          have bM' := (tB.boxed BM3.out (by omega))
          have MV := hide (H.out.kept (KB.out.trans kV))
          have x0 : ∀ u : Wd (fun U => Kept V U), u.w.cell? ⟨n, 0, none⟩ = some (.pointer (some ⟨b, 0, none⟩)) := fun u => u.ok.cell (kV.cell bM'.cell id) id
          have x1 : ∀ u : Wd (fun U => Kept V U), u.w.cell? ⟨n + 1, 0, none⟩ = some (.int .i64 D) := fun u => u.ok.cell (kV.cell bD.cell id) id
          have BDV := hide (kV.boxed bD id)
          have HOO := hide hO
          clear hx' tB sB hO bD hy hv hD hV kV bM'
          gi_wp2_with (fail)
          refine region_last_round [0, 1, 2, 3, 4, 5, 6] 7 (fun U => Kept V U) (by kernel_rfl) (by kernel_rfl) (by kernel_rfl) (by rw [HVV.out]; exact Kept.refl _) (fun _ => ?_)
          rw [HVV.out]
          repeat (refine lq rfl rfl ?_; go_big_quiet_step (fail); refine wpQuiet_nil ?_)
          refine ll rfl rfl ?_
          gi_wp2_with (fail)
          refine ⟨trivial, ?_⟩
          refine (callsIn_wide.2 (logic_p _ b s sl y MV.out HO.out HY.out)).mono ?_
          rintro e U ⟨rfl, rfl⟩
          gi_wp2_with (fail)
          refine ⟨Wd.mem (Kept.refl _), ?_⟩
          refine ll rfl rfl ?_
          gi_wp2_with (fail)
          refine ⟨trivial, ?_⟩
          refine (callsIn_wide.2 (IH.out V b s y MV.out HO.out HWF.out (by have := HF.out; omega))).mono ?_
          rw [HV.out]
          rintro e U ⟨rfl, kU⟩
          have KU := hide kU
          have BDU := hide (kU.boxed BDV.out id)
          have cD := BDU.out.cell
          have fD := BDU.out.frozen
          clear kU
          gi_wp2_with (fail)
          refine ⟨Wd.mem KU.out, ?_⟩
          refine ll rfl rfl ?_
          gi_wp2
          refine ⟨Wd.mem KU.out, ?_⟩
          refine lz rfl ?_
          gi_wp2
          refine last_done ?_
          gi_wp2
          refine ⟨O, Sub.refl _ _, (Turned.trans (KV.out.trans KU.out) (Turned.setCell (R := fun k => k = n + 1) _ _ _ rfl) (fun _ h => h.elim) (fun k _ h => (HOO.out k).2 h)), HOO.out, ?_⟩
          rw [HDN.out]
          exact BDU.out.set _
      case done =>
        rintro D O X hD nD tX sX ⟨hO, bD⟩ hK
        obtain ⟨d, hd⟩ : ∃ d, (slotsL s x).foldl (fun m p => max m (g p)) 0 = d := ⟨_, rfl⟩
        rw [hd] at bD
        have db : 0 ≤ d ∧ d ≤ 100000 := by rw [← hd]; exact fold_max g 100000 GB.out _ 0 (by omega) (by omega)
        have HE2 : Hid (levF s (f + 1) x = 1 + d) := hide (by rw [HE.out, hd])
        have cD := bD.cell
        have HK := hide hK
        have KX : Hid (Kept w X) := hide (K3.out.did (by have := HN.out; omega) tX)
        have HDn : Hid (n ≤ D) := hide (by have := L1.out; omega)
        clear hK bD hO nD tX sX hd
        go_wp2
        refine leave_marks [D] X ?_ ?_ ?_
        · intro k hk
          simp at hk
          rw [hk]
          exact HK.out
        · simp
        · intro X' hX'
          refine ⟨_, results_tmp rfl _ _ _, by rw [HE2.out]; rfl, ?_⟩
          exact KX.out.own (fun i hi => by simp at hi; have := HDn.out; have := HN.out; omega) hX'
    · have HE : Hid (levF s (f + 1) x = 0) := hide (by rw [levF_succ, if_neg (by rw [ht, hj]; exact j3)])
      have g1 : (j == 3) = false := by simp [j3]
      have g2 : (j != 3) = true := by simp [j3]
      clear t1 bM h ho hwh hwk ih z1 hf ht hj j3
      refine calls_marks Try.func36 rfl ?_
      simp only [Try.ntmps36, List.size_toArray, List.length_cons, List.length_nil, Nat.reduceAdd, Nat.reduceSub, Array.replicate_succ, Array.replicate_zero, List.push_toArray, List.append_toArray, List.nil_append, List.cons_append]
      go_wp2_with (fail)
      clear hW1 hn
      refine (target_p _ b s x t (H.out.kept K1.out) HWH.out.i64 HT.out).mono ?_
      rintro e w' ⟨rfl, rfl⟩
      go_wp2_with (fail)
      refine (kk_p _ t j HTI.out HJ.out).mono ?_
      rintro e w' ⟨rfl, rfl⟩
      go_wp2
      refine leave_marks [] _ ?_ ?_ ?_
      · intro k hk; cases hk
      · simp
      · intro X' hX'
        exact ⟨_, results_tmp rfl _ _ _, by rw [HE.out]; rfl, K1.out.trans (hX'.mono fun _ _ h => by cases h)⟩

theorem depth_p (w : World) (b : Nat) (s : Mst) (x : Int) (h : PM w b s) (ho : s.ok) (hx : I64 x) (d : Int) (e1 : depthB s x = d) :
    Calls Try.prog 9 #[.pointer (some ⟨b, 0, none⟩), .int .i64 x] w fun e w' => e = .returned (.int .i64 d) ∧ Kept w w' := by
  have H := hide h
  have HO := hide ho
  have HX := hide hx
  obtain ⟨q, hq⟩ : ∃ q, inTreeB s x = q := ⟨_, rfl⟩
  have HQ := hide hq
  unfold depthB at e1
  rw [hq] at e1
  cases q with
  | false =>
    have HE : Hid (d = 0) := hide (by rw [← e1]; rfl)
    clear h ho hx hq e1
    go_enter Try.func9, Try.ntmps9
    go_wp2_with (fail)
    refine (isInTree_p _ b s x H.out HO.out HX.out false HQ.out).mono ?_
    rintro e W2 ⟨rfl, k2⟩
    have K2 := hide k2
    clear k2
    go_wp2
    go_ret
    exact ⟨by rw [HE.out]; rfl, K2.out⟩
  | true =>
    have HE : Hid (levF s (fuel s) x = d) := hide e1
    have HFU : Hid (fuel s ≤ 100000) := hide (by have := ho.2; unfold fuel; omega)
    clear h ho hx hq e1
    go_enter Try.func9, Try.ntmps9
    go_wp2_with (fail)
    refine (isInTree_p _ b s x H.out HO.out HX.out true HQ.out).mono ?_
    rintro e W2 ⟨rfl, k2⟩
    have K2 := hide k2
    clear k2
    go_wp2_with (fail)
    refine (levels_p (fuel s) W2 b s x (H.out.kept K2.out) HO.out (inTree_wf HO.out HQ.out).1 HFU.out).mono ?_
    rw [HE.out]
    rintro e W3 ⟨rfl, k3⟩
    have K3 := hide (K2.out.trans k3)
    clear k3
    go_wp2
    go_ret
    exact ⟨rfl, K3.out⟩
end Go.Proofs.Ytbojjpmcopnjpaa

/-! What Begin of node answers and makes, at a memory that was made since w; what known answers. No conditions beyond each theorem's own. -/
namespace Go.Proofs.Ytbojjpmcopnjpaa
open Go.RowKit

theorem of17_c (w : World) : Calls Try.prog 52 #[.int .i64 1, .int .i64 7] w fun e w' => e = .returned (.int .i64 57) ∧ w = w' := by
  go_enter Try.func52, Try.ntmps52
  go_wp2
  go_ret
  exact ⟨rfl, rfl⟩
theorem kind57_c (w : World) : Calls Try.prog 33 #[.int .i64 57] w fun e w' => e = .returned (.int .i64 1) ∧ w = w' := by
  go_enter Try.func33, Try.ntmps33
  go_wp2
  go_ret
  exact ⟨rfl, rfl⟩
theorem at57_c (w : World) : Calls Try.prog 40 #[.int .i64 57] w fun e w' => e = .returned (.int .i64 7) ∧ w = w' := by
  go_enter Try.func40, Try.ntmps40
  go_wp2
  go_ret
  exact ⟨rfl, rfl⟩

/-- A slice that is answered, where it lies. -/
theorem Fresh.form {zs : List Int} {w W : World} {e : Ending} (h : Fresh zs w e W) : ∃ a cap, e = .returned (.slice a zs.length cap) ∧ Reads W a zs ∧ zs.length ≤ cap ∧ cap ≤ maxLen ∧ (∀ ad, a = some ad → w.heap.size ≤ ad.block) ∧ Row W w.heap.size 2 (.slice a zs.length cap) zs ∧ Kept w W := by
  obtain ⟨v, rfl, hrow, hk⟩ := h
  have hr := hrow
  rcases hr.2 with ⟨rfl, h0⟩ | ⟨g, cap, cur, rfl, hg, _, hc, hm, _⟩
  · obtain rfl := List.length_eq_zero_iff.1 h0
    exact ⟨none, 0, rfl, .inl rfl, Nat.le_refl _, Nat.zero_le _, (fun _ e => by cases e), hrow, hk⟩
  · obtain ⟨a, cap', e1, h1, _⟩ := hrow.reads
    cases e1
    exact ⟨_, _, rfl, h1, hc, hm, (fun _ e => by cases e; exact hg), hrow, hk⟩

/-- The state of a memory that is begun. -/
def begun (s : Mst) : Mst := { s with xs := [1, 0, 0, 0, 0, 57, 0], count := wrap64 (wrap64 (s.count + 1) + 1) }
theorem begun_make {s : Mst} (h0 : s.xs = []) (h7 : 7 ≤ s.size) : s.next [1, 0, 0, 0, 0, 57] = 1 ∧ s.fits 6 = true ∧ s.make [1, 0, 0, 0, 0, 57] = { s with xs := [1, 0, 0, 0, 0, 57], count := wrap64 (s.count + 1) } := by
  have h6 : (6 : Int) ≤ s.size := by omega
  have hf : s.fits 6 = true := by simp [Mst.fits, h0, h6]
  refine ⟨?_, hf, ?_⟩
  · rw [Mst.next]
    rw [if_pos (by exact hf), h0]
    rfl
  · rw [Mst.make]
    rw [if_pos (by exact hf), h0]
    rfl
theorem begun_make2 {s : Mst} (h7 : 7 ≤ s.size) : ({ s with xs := [1, 0, 0, 0, 0, 57], count := wrap64 (s.count + 1) } : Mst).next [0] = 7 ∧ ({ s with xs := [1, 0, 0, 0, 0, 57], count := wrap64 (s.count + 1) } : Mst).fits 1 = true ∧ ({ s with xs := [1, 0, 0, 0, 0, 57], count := wrap64 (s.count + 1) } : Mst).make [0] = begun s := by
  have hf : ({ s with xs := [1, 0, 0, 0, 0, 57], count := wrap64 (s.count + 1) } : Mst).fits 1 = true := by simp [Mst.fits, h7]
  refine ⟨?_, hf, ?_⟩
  · rw [Mst.next]
    rw [if_pos (by exact hf)]
    rfl
  · rw [Mst.make]
    rw [if_pos (by exact hf)]
    rfl

set_option maxRecDepth 100000 in
/-- Begin, where it may be. -/
theorem begin_c (w W : World) (b : Nat) (s : Mst) (h : Now w W b s) (h0 : s.xs = []) (h7 : 7 ≤ s.size) :
    Calls Try.prog 27 #[.pointer (some ⟨b, 0, none⟩)] W fun e W' => e = .returned (.bool true) ∧ Now w W' b (begun s) := by
  have H := hide h
  have B1 := hide (begun_make h0 h7)
  have B2 := hide (begun_make2 h7)
  have HU : Hid ((s.xs.length : Int) = 0) := hide (by rw [h0]; rfl)
  clear h h0
  go_enter Try.func27, Try.ntmps27
  go_wp2_with (fail)
  refine (now_used w W b s 0 H.out HU.out).mono ?_
  rintro e w' ⟨rfl, rfl⟩
  go_wp2_with (fail)
  refine (now_size w W b s s.size H.out rfl).mono ?_
  rintro e w' ⟨rfl, rfl⟩
  go_wp2_with (fail)
  refine (of17_c W).mono ?_
  rintro e w' ⟨rfl, rfl⟩
  go_wp2_with (fail)
  refine (inner_c (W.alloc (.cells #[.int .i64 57] 2)) 0 none [] 0 (some ⟨W.heap.size, 0, none⟩) [57] 1 (.inl rfl) (Reads.new W 2 [57]) (fun _ => rfl) (fun e => by cases e) rfl (by decide)).mono ?_
  intro e W1 hf
  obtain ⟨a1, cap1, rfl, hr, hc, hm, ha, -, hk⟩ := hf.form
  have H1 := hide (H.out.on ((Turned.alloc (fun _ => False) W _).trans hk (fun _ e => e) (fun _ _ e => e)))
  have HR := hide hr
  have HA : Hid (∀ ad, a1 = some ad → ad.block ≠ b) := hide (fun ad e => by
    have e1 := ha ad e
    have e2 := H.out.lt.2
    simp at e1
    omega)
  clear hf hr hc hm ha hk H
  go_wp2_with (fail)
  refine (now_make w W1 b s a1 (innerL 0 [] [57]) cap1 1 true _ H1.out HR.out (by decide) (fun _ => HA.out) B1.out.1 B1.out.2.1 B1.out.2.2).mono ?_
  rintro e W2 ⟨rfl, h2⟩
  have H2 := hide h2
  clear h2 H1 HR HA B1
  go_wp2_with (fail)
  refine (empty_c W2).mono ?_
  intro e W3 hf
  obtain ⟨a1, cap1, rfl, hr, hc, hm, ha, -, hk⟩ := hf.form
  have H3 := hide (H2.out.on hk)
  have HR := hide hr
  have HA : Hid (∀ ad, a1 = some ad → ad.block ≠ b) := hide (fun ad e => by
    have e1 := ha ad e
    have e2 := H2.out.lt.2
    omega)
  clear hf hr hc hm ha hk H2
  go_wp2_with (fail)
  refine (now_make w W3 b _ a1 [0] cap1 7 true _ H3.out HR.out (by decide) (fun _ => HA.out) B2.out.1 B2.out.2.1 B2.out.2.2).mono ?_
  rintro e W4 ⟨rfl, h4⟩
  have H4 := hide h4
  clear h4 H3 HR HA B2
  go_wp2
  go_ret
  exact ⟨rfl, H4.out⟩
/-- .. where it may not. -/
theorem begin0_c (w W : World) (b : Nat) (s : Mst) (h : Now w W b s) (h0 : ¬ (s.xs = [] ∧ 7 ≤ s.size)) :
    Calls Try.prog 27 #[.pointer (some ⟨b, 0, none⟩)] W fun e W' => e = .returned (.bool false) ∧ W = W' := by
  have H := hide h
  by_cases hx : s.xs = []
  · have h7 : s.size < 7 := by have : ¬ 7 ≤ s.size := fun e => h0 ⟨hx, e⟩; omega
    have HU : Hid ((s.xs.length : Int) = 0) := hide (by rw [hx]; rfl)
    clear h h0 hx
    go_enter Try.func27, Try.ntmps27
    go_wp2_with (fail)
    refine (now_used w W b s 0 H.out HU.out).mono ?_
    rintro e w' ⟨rfl, rfl⟩
    go_wp2_with (fail)
    refine (now_size w W b s s.size H.out rfl).mono ?_
    rintro e w' ⟨rfl, rfl⟩
    go_wp2
    go_ret
    exact ⟨rfl, rfl⟩
  · have hp0 : 0 < s.xs.length := List.length_pos_iff.2 hx
    have hp : (0 : Int) < (s.xs.length : Int) := by omega
    clear h h0 hx
    go_enter Try.func27, Try.ntmps27
    go_wp2_with (fail)
    refine (now_used w W b s _ H.out rfl).mono ?_
    rintro e w' ⟨rfl, rfl⟩
    go_wp2
    go_ret
    exact ⟨rfl, rfl⟩

/-- Two slices that are answered, alike. -/
theorem words_lit (W : World) (a : Option Addr) (q : List Int) (cap : Nat) (hr : Reads W a q) (hc : q.length ≤ cap) (hm : cap ≤ maxLen) :
    Calls Try.prog 42 #[.slice a q.length cap, .slice (some ⟨W.heap.size, 0, none⟩) q.length q.length] (W.alloc (.cells (q.map (Value.int .i64)).toArray 2)) fun e w' => e = .returned (.bool true) ∧ Kept W w' :=
  (words_k _ a _ q cap q.length (hr.kept (Turned.alloc _ _ _)) (Reads.new W 2 q) hc (Nat.le_refl _) hm).mono fun _ _ ⟨h1, h2⟩ => ⟨h1, ((Kept.refl W).alloc _).trans h2⟩

end Go.Proofs.Ytbojjpmcopnjpaa

/-! What known answers; ref1.Spots of two lists that are alike; isIdeal and Ideal of an Empty's word. -/
namespace Go.Proofs.Ytbojjpmcopnjpaa
open Go.RowKit

theorem spots_same (W : World) (a b : Option Addr) (xs : List (Int × Int)) (M ca cb : Nat) (hM : xs.length = M) (ha : PReads W a xs) (hb : PReads W b xs) (h1 : M ≤ ca) (h2 : M ≤ cb) (hl : M ≤ 1000000) :
    Calls Try.prog 13 #[.slice a M ca, .slice b M cb] W fun e w' => e = .returned (.bool true) ∧ Kept W w' := by
  have HA := hide ha
  have HB := hide hb
  have HM := hide hM
  clear ha hb hM
  go_enter Try.func13, Try.ntmps13
  go_wp2
  go_loopw [5] (fun i wr => ∃ k d : Nat, k ≤ M ∧ i = .int .i64 (k : Int) ∧ wr = W.drewN d) (fun i _ => M - (intOf i).toNat)
  case atStart => exact ⟨0, 0, by omega, by simp, rfl⟩
  case round =>
    obtain ⟨k, d, hk, rfl, rfl⟩ := hrel
    by_cases hkm : k < M
    · obtain ⟨⟨x, y⟩, hp⟩ : ∃ p, xs[k]? = some p := ⟨_, List.getElem?_eq_getElem (by rw [HM.out]; exact hkm)⟩
      obtain ⟨bl, off, rfl, _, p0, p1⟩ := HA.out.at hp
      obtain ⟨bl', off', rfl, _, q0, q1⟩ := HB.out.at hp
      have c0 : W.cell? ⟨bl, off + k * 2, none⟩ = some (.int .i64 x) := p0
      have c1 : W.cell? ⟨bl, off + k * 2 + 1, none⟩ = some (.int .i64 y) := p1
      have d0 : W.cell? ⟨bl', off' + k * 2, none⟩ = some (.int .i64 x) := q0
      have d1 : W.cell? ⟨bl', off' + k * 2 + 1, none⟩ = some (.int .i64 y) := q1
      have j1 : (k : Int) < (M : Int) := by omega
      have j2 : k < ca := by omega
      have j3 : k < cb := by omega
      clear p0 p1 q0 q1 hp
      go_wp2
      go_quiet (fail)
      go_wp2
      exact ⟨⟨k + 1, _, by omega, by simp, rfl⟩, by simp [intOf]; omega⟩
    · have hkm' : k = M := by omega
      subst hkm'
      have j1 : ¬ ((k : Int) < (k : Int)) := by omega
      go_wp2
      go_ret
      exact ⟨rfl, Kept.drewN _ _⟩

/-- isIdeal of an Empty's word, with no pairs. -/
theorem isIdeal0_p (W : World) (b : Nat) (x : Int) (v : Value) (n₀ : Nat) (hx : I64 x) (k1 : kd x = 1) (hr : PRow W n₀ 32 v []) :
    Calls Try.prog 37 #[.pointer (some ⟨b, 0, none⟩), .int .i64 x, v] W fun e w' => e = .returned (.bool true) ∧ W = w' := by
  obtain ⟨la, lc, rfl, _⟩ := hr.reads
  have HX := hide hx
  have HK := hide k1
  simp only [List.length_nil]
  clear hx k1 hr
  go_enter Try.func37, Try.ntmps37
  go_wp2_with (fail)
  refine (kk_p _ x 1 HX.out HK.out).mono ?_
  rintro e w' ⟨rfl, rfl⟩
  go_wp2
  go_ret
  exact ⟨rfl, rfl⟩
theorem ideal0_p (w : World) (b : Nat) (s : Mst) (x : Int) (h : PM w b s) (ho : s.ok) (hx : I64 x) (ht : inTreeB s x = true) (k1 : kd x = 1) :
    Calls Try.prog 10 #[.pointer (some ⟨b, 0, none⟩), .int .i64 x] w fun e w' => e = .returned (.bool true) ∧ Kept w w' := by
  have H := hide h
  have HO := hide ho
  have HX := hide hx
  have HT := hide ht
  have HK := hide k1
  have HE : Hid (pairsF s (fuel s) x = []) := hide (by
    unfold pairsF leafL
    rw [if_neg (by rw [k1]; decide), spotsF_none (by rw [tgt, if_neg (by rw [k1]; decide), k1]; decide)]
    rfl)
  clear h ho hx ht k1
  go_enter Try.func10, Try.ntmps10
  go_wp2_with (fail)
  refine (isInTree_p _ b s x H.out HO.out HX.out true HT.out).mono ?_
  rintro e W2 ⟨rfl, k2⟩
  have K2 := hide k2
  clear k2
  go_wp2_with (fail)
  refine (pairsBelow_p W2 b s (H.out.kept K2.out) HO.out (fuel s) x (inTree_wf HO.out HT.out).1 (inTree_wf HO.out HT.out).2 [] HE.out).mono ?_
  rintro e W3 ⟨v, rfl, hr, k3⟩
  have HR := hide hr
  have K3 := hide (K2.out.trans k3)
  clear hr k3
  go_wp2_with (fail)
  refine (isIdeal0_p W3 b x v W2.heap.size HX.out HK.out HR.out).mono ?_
  rintro e w' ⟨rfl, rfl⟩
  go_wp2
  go_ret
  exact ⟨rfl, K3.out⟩

theorem Now.pm {w W : World} {b : Nat} {s : Mst} (h : Now w W b s) : PM W b s := by
  obtain ⟨⟨v, h⟩, _⟩ := h
  exact ⟨_, _, h⟩
/-- The memory of known. -/
def kn0 : Mst := begun (Mst.new 9)
theorem kn0_eq : kn0 = ⟨[1, 0, 0, 0, 0, 57, 0], 9, 2, 0, 0⟩ := by kernel_rfl
theorem kn0_ok : kn0.ok := by
  rw [kn0_eq]
  refine ⟨?_, by simp⟩
  intro z hz
  simp at hz
  rcases hz with rfl | rfl | rfl | rfl <;> exact ⟨by decide, by decide⟩
theorem kn0_sound : soundB kn0 = true := by decide +kernel
theorem kn0_calm : calmB kn0 = true := by decide +kernel
theorem kn0_logic : kn0.logicZ 6 = 57 := by decide +kernel
theorem kn0_spots : (if soundB kn0 = true then spotsL kn0 (fuel kn0) else []) = [(6, 57)] := by decide +kernel
theorem kn0_in : inTreeB kn0 57 = true := by decide +kernel
theorem kn0_content : contentB kn0 57 = [] := by decide +kernel
theorem kn0_depth : depthB kn0 57 = 0 := by decide +kernel
theorem kn0_kind : kd 57 = 1 := by decide +kernel

set_option maxHeartbeats 1000000 in
set_option maxRecDepth 20000 in
theorem known_c (w : World) : Calls Try.prog 6 #[] w fun e w' => e = .returned (.bool true) ∧ Kept w w' := by
  go_enter Try.func6, Try.ntmps6
  go_wp2_with (fail)
  refine (now_new w w 9 (Kept.refl w) (by decide) (by decide)).mono ?_
  rintro e W1 ⟨rfl, N1, _⟩
  obtain ⟨b, hb⟩ : ∃ b, w.heap.size = b := ⟨_, rfl⟩
  rw [hb] at N1 ⊢
  clear hb
  have M1 := hide N1
  clear N1
  go_wp2_with (fail)
  refine (begin_c w W1 b (Mst.new 9) M1.out rfl (by decide)).mono ?_
  rintro e W2 ⟨rfl, N2⟩
  have K2 := hide N2.2
  have M2 : Hid (PM W2 b kn0) := hide N2.pm
  clear N2 M1
  have i57 : Hid (I64 57) := hide ⟨by decide, by decide⟩
  go_wp2_with (fail)
  refine (spots_p W2 b kn0 M2.out kn0_ok _ kn0_spots).mono ?_
  rintro e W3 ⟨v, rfl, hr, k3⟩
  obtain ⟨la, lc, hv, hrd, hlc, _⟩ := hr.reads
  simp only [List.length_singleton] at hv hlc
  subst hv
  obtain ⟨bl, off, rfl, _, q0, q1⟩ := hrd.at (j := 0) rfl
  have K3 := hide (K2.out.trans k3)
  have M3 := hide (M2.out.kept k3)
  have C0 : Hid (W3.cell? ⟨bl, off, none⟩ = some (.int .i64 6)) := hide (by simpa using q0)
  have C1 : Hid (W3.cell? ⟨bl, off + 1, none⟩ = some (.int .i64 57)) := hide (by simpa using q1)
  clear hr k3 hrd q0 q1 K2 M2
  go_wp2_with (fail)
  refine (sound_p W3 b kn0 M3.out kn0_ok true kn0_sound).mono ?_
  rintro e W4 ⟨rfl, k4⟩
  have K4 := hide (K3.out.trans k4)
  have M4 := hide (M3.out.kept k4)
  have C0 := hide (k4.cell C0.out id)
  have C1 := hide (k4.cell C1.out id)
  clear k4 K3 M3
  go_wp2_with (fail)
  refine (calm_p W4 b kn0 M4.out kn0_ok true kn0_calm).mono ?_
  rintro e W5 ⟨rfl, k5⟩
  have K5 := hide (K4.out.trans k5)
  have M5 := hide (M4.out.kept k5)
  have c0 := k5.cell C0.out id
  have c1 := k5.cell C1.out id
  clear k5 K4 M4
  go_wp2_with (fail)
  refine (logic_p W5 b kn0 6 57 M5.out kn0_ok kn0_logic).mono ?_
  rintro e w' ⟨rfl, rfl⟩
  go_wp2_with (fail)
  refine (content_p W5 b kn0 57 M5.out kn0_ok i57.out [] kn0_content).mono ?_
  rintro e W6 ⟨v6, rfl, hr6, k6⟩
  obtain ⟨la6, lc6, hv6, _⟩ := hr6.reads
  simp only [List.length_nil] at hv6
  subst hv6
  have K6 := hide (K5.out.trans k6)
  have M6 := hide (M5.out.kept k6)
  clear hr6 k6 K5 M5
  go_wp2_with (fail)
  refine (depth_p W6 b kn0 57 M6.out kn0_ok i57.out 0 kn0_depth).mono ?_
  rintro e W7 ⟨rfl, k7⟩
  have K7 := hide (K6.out.trans k7)
  have M7 := hide (M6.out.kept k7)
  clear k7 K6 M6
  go_wp2_with (fail)
  refine (ideal0_p W7 b kn0 57 M7.out kn0_ok i57.out kn0_in kn0_kind).mono ?_
  rintro e W8 ⟨rfl, k8⟩
  have K8 := hide (K7.out.trans k8)
  clear k8 K7 M7
  go_wp2
  go_ret
  exact ⟨rfl, K8.out⟩
end Go.Proofs.Ytbojjpmcopnjpaa

/-! A region that draws its order, walked in every order of its loud operations ('region_tree'; 'aq': a plain one first; 'al': whichever is ready). Conditions: each theorem's own. -/
namespace Go.Proofs.Ytbojjpmcopnjpaa
/-- **A REGION THAT DRAWS ITS ORDER**, in the plain walk. -/
theorem region_tree {P : Program} {ops : Array Oper} {Q : Exit → Act → World → Prop} {id : Nat} {a : Act} {w : World} (S : World → Prop) (hm : P.follows .mixedOrders = true)
    (hS : S w.drew) (h : Nonempty (Wd S) → anyC P .any ops (calm Q) (fun w' => ∃ x : Wd S, w' = x.w) 10 ops.size (Array.replicate ops.size false) a w.drew) : (Code.region id ops true).wp P Q a w :=
  (wpIn_wide (n := 10)).1 (Go.wpIn_mono (wpIn_region_any hm (wpAnyIn_of_anyC _ _ _ _ (h ⟨⟨_, hS⟩⟩))) (fun _ _ _ h => calm_imp h))
section
variable {P : Program} {l : List Oper} {Q : Exit → Act → World → Prop} {C : World → Prop} {n : Nat} {fuel : Nat} {o : Oper} {a : Act} {w : World} {listed : Array Bool}
/-- A plain operation first. -/
theorem aq (i : Nat) (listed' : Array Bool) (ho : nth l i = some o) (hp : plainOp o.op = true) (hB : (Region.noSelect l.toArray && (Region.ready .any l.toArray listed).contains i && Region.free .any l.toArray listed i) = true) (hl : listed.setIfInBounds i true = listed') (hC : C w)
    (h : wpQuiet P l.toArray C (fun a' => anyC P .any l.toArray (calm Q) C n fuel listed' a' w) [o] a) : anyC P .any l.toArray (calm Q) C n (fuel + 1) listed a w := by
  simp only [Bool.and_eq_true] at hB
  obtain ⟨⟨h1, h2⟩, h3⟩ := hB
  have ho' := (nth_eq l i).trans ho
  subst hl
  obtain ⟨v, hy, hk⟩ : ∃ v, YieldsIf P l.toArray C o v a ∧ anyC P .any l.toArray (calm Q) C n fuel (listed.setIfInBounds i true) (a.put o.dst v) w := by
    unfold wpQuiet at h
    by_cases hw : Region.wanted o (yielded l.toArray a.tmps) = true
    · rw [if_pos hw] at h
      obtain ⟨v, hv, hk⟩ := h
      refine ⟨v, .inl ⟨hw, fun w1 hC => ?_⟩, hk⟩
      have h1 := hv w1 hC
      unfold Oper.quietAt at h1
      cases hr : (execOp a.eval o).run P w1 with
      | ok x w' =>
        rw [hr] at h1
        obtain ⟨u, rfl⟩ := plain_value hp hr
        simp only [Oper.quietUpon] at h1
        rw [h1.1, h1.2]
      | halt x w' => rw [hr] at h1; exact h1.elim
    · rw [if_neg hw] at h
      exact ⟨undef, .inr ⟨by simpa using hw, rfl⟩, h⟩
  exact anyC_first ho' (Region.noSelect_spec h1) (fun c a w h => h) fuel listed a w (Region.free_spec ho' h3) (by simpa using h2) hy hC hk
/-- Whichever is ready. -/
theorem al (is : List Nat) (hr : (Region.ready .any l.toArray listed == is && !is.isEmpty) = true)
    (h : ∀ i ∈ is, ∃ o listed', nth l i = some o ∧ listed.setIfInBounds i true = listed' ∧ wpListIn Fence.wide n P l.toArray (Exit.then (fun a' w' => C w' ∧ anyC P .any l.toArray (calm Q) C n fuel listed' a' w') (calm Q)) [o] a w) : anyC P .any l.toArray (calm Q) C n (fuel + 1) listed a w := by
  simp only [Bool.and_eq_true, beq_iff_eq] at hr
  obtain ⟨hr, he⟩ := hr
  refine ⟨fun h0 => ?_, fun j hj => ?_⟩
  · rw [hr] at h0
    rw [h0] at he
    cases he
  · rw [hr] at hj
    obtain ⟨o, _, ho, rfl, hh⟩ := h j hj
    exact loud_list ho hh
/-- None is left. -/
theorem adone (hr : (Region.ready .any l.toArray listed).isEmpty = true) (h : Q .normal a w) : anyC P .any l.toArray (calm Q) C n 0 listed a w := ⟨by simpa using hr, h⟩
end
end Go.Proofs.Ytbojjpmcopnjpaa

/-! What part.Size, part.From and the document's Size answer, each in one sentence (a contract), for every number that may be handed to them; the world is turned by draws alone. -/
namespace Go.Proofs.Ytbojjpmcopnjpaa.Pt
open Go.ChangeShapes Go.WideShapes Go.ChangeAt Go.RowKit

theorem deg_s (n : Int) (hn : (Lit.int .i64 n).wf = true) (w : World) :
    Calls Try.prog 92 #[.int .i64 n] w fun e w' => e = .returned (.int .i64 (degZ n)) ∧ w' = w :=
  (deg_c n hn w).mono fun _ _ ⟨a, b⟩ => ⟨a, b.symm⟩

theorem size_c (n i : Int) (hn : (Lit.int .i64 n).wf = true) (w : World) :
    Calls Try.prog 82 #[.int .i64 n, .int .i64 i] w fun e w' => e = .returned (.int .i64 (sizeZ n i)) ∧ ∃ k, w' = w.drewN k := by
  have hp := part_c n i hn
  have hd := deg_s n hn
  have d := deg_nat n
  by_cases c : 0 ≤ i ∧ i < degZ n
  · rw [decide_eq_true c] at hp
    have p := deg_pos (n := n) (by omega)
    have eb := each_bound (n := n) (by omega)
    have sp := split_eq (n := n) (by omega)
    have e1 : n / degZ n = eachZ n := rfl
    have e2 : n % degZ n = moreZ n := rfl
    by_cases c2 : i < moreZ n
    · rw [size_more c.1 c.2 c2]
      generalize eachZ n = q at *
      generalize moreZ n = m at *
      generalize degZ n = z at *
      clear sp hn
      go_enter Try.func82, Try.ntmps82
      go_wp2_with (go_at_call 93; refine (hp _).mono ?_; rintro e w' ⟨rfl, rfl⟩)
      go_quiet (first | (go_at_call 92; refine Calls.quiet_of_same (hd _)))
      go_wp2
      go_ret
      exact ⟨rfl, _, rfl⟩
    · rw [size_each c.1 c.2 (by omega)]
      generalize eachZ n = q at *
      generalize moreZ n = m at *
      generalize degZ n = z at *
      clear sp hn
      go_enter Try.func82, Try.ntmps82
      go_wp2_with (go_at_call 93; refine (hp _).mono ?_; rintro e w' ⟨rfl, rfl⟩)
      go_quiet (first | (go_at_call 92; refine Calls.quiet_of_same (hd _)))
      go_wp2
      go_ret
      exact ⟨ret_int e1, _, rfl⟩
  · rw [decide_eq_false c] at hp
    rw [size_none (by omega)]
    clear hn
    go_enter Try.func82, Try.ntmps82
    go_wp2_with (go_at_call 93; refine (hp _).mono ?_; rintro e w' ⟨rfl, rfl⟩)
    go_ret
    exact ⟨rfl, 0, rfl⟩

theorem from_c (n i : Int) (hn : (Lit.int .i64 n).wf = true) (w : World) :
    Calls Try.prog 81 #[.int .i64 n, .int .i64 i] w fun e w' => e = .returned (.int .i64 (fromZ n i)) ∧ ∃ k, w' = w.drewN k := by
  have hp := part_c n i hn
  have hd := deg_s n hn
  have d := deg_nat n
  by_cases c : 0 ≤ i ∧ i < degZ n
  · rw [decide_eq_true c] at hp
    have p := deg_pos (n := n) (by omega)
    have eb := each_bound (n := n) (by omega)
    have sp := split_eq (n := n) (by omega)
    have ab := ahead_bound (n := n) (i := i) (by omega) (by omega) (by omega)
    have e1 : n / degZ n = eachZ n := rfl
    have e2 : n % degZ n = moreZ n := rfl
    have e3 : wrap64 (i * eachZ n) = i * eachZ n := wrap_same (by omega) (by omega)
    rw [from_some c.1 c.2]
    unfold aheadZ at *
    generalize eachZ n = q at *
    generalize moreZ n = m at *
    generalize degZ n = z at *
    obtain ⟨u, hu⟩ : ∃ u, i * q = u := ⟨_, rfl⟩
    rw [hu] at ab ⊢
    have e4 : wrap64 (i * q) = u := by rw [e3, hu]
    clear sp hn e3 hu
    go_enter Try.func81, Try.ntmps81
    go_wp2_with (go_at_call 93; refine (hp _).mono ?_; rintro e w' ⟨rfl, rfl⟩)
    go_quiet (first | (go_at_call 92; refine Calls.quiet_of_same (hd _)))
    go_wp2
    go_ret
    exact ⟨rfl, _, rfl⟩
  · rw [decide_eq_false c] at hp
    rw [from_none (by omega)]
    clear hn
    go_enter Try.func81, Try.ntmps81
    go_wp2_with (go_at_call 93; refine (hp _).mono ?_; rintro e w' ⟨rfl, rfl⟩)
    go_ret
    exact ⟨rfl, 0, rfl⟩

end Go.Proofs.Ytbojjpmcopnjpaa.Pt

/-! The program's isNew. -/
namespace Go.Proofs.Ytbojjpmcopnjpaa
open Go.RowKit Go.Shelf

/-- Is the Inner at a one that was just made over n keys? -/
def newB (s : Mst) (a n : Int) : Bool := (s.look a == Pt.degZ n) && (s.look (a + 1) == n) && (s.look (a + 2) == 0) && (s.look (a + 3) == 0) && (s.look (a + 4) == 0)

theorem isNew_p (w : World) (b : Nat) (s : Mst) (a n : Int) (r : Bool) (h : PM w b s) (ha : 0 ≤ a) (ha2 : a ≤ 100000) (hn : I64 n) (e1 : newB s a n = r) :
    Calls Try.prog 80 #[.pointer (some ⟨b, 0, none⟩), .int .i64 a, .int .i64 n] w fun e w' => e = .returned (.bool r) ∧ w = w' := by
  have H := hide h
  have HNI := hide hn
  obtain ⟨z0, hz0⟩ : ∃ z, s.look a = z := ⟨_, rfl⟩
  obtain ⟨z1, hz1⟩ : ∃ z, s.look (a + 1) = z := ⟨_, rfl⟩
  obtain ⟨z2, hz2⟩ : ∃ z, s.look (a + 2) = z := ⟨_, rfl⟩
  obtain ⟨z3, hz3⟩ : ∃ z, s.look (a + 3) = z := ⟨_, rfl⟩
  obtain ⟨z4, hz4⟩ : ∃ z, s.look (a + 4) = z := ⟨_, rfl⟩
  obtain ⟨d, hd⟩ : ∃ d, Pt.degZ n = d := ⟨_, rfl⟩
  have HZ0 := hide hz0
  have HZ1 := hide hz1
  have HZ2 := hide hz2
  have HZ3 := hide hz3
  have HZ4 := hide hz4
  have HD := hide hd
  have E : Hid (r = ((z0 == d) && (z1 == n) && (z2 == 0) && (z3 == 0) && (z4 == 0))) := hide (by rw [← e1, newB, hz0, hz1, hz2, hz3, hz4, hd])
  clear h hn hz0 hz1 hz2 hz3 hz4 hd e1
  by_cases y0 : d = z0
  · subst y0
    by_cases y1 : n = z1
    · subst y1
      by_cases y2 : 0 = z2
      · subst y2
        by_cases y3 : 0 = z3
        · subst y3
          by_cases y4 : 0 = z4
          · subst y4
            have HR : Hid (r = true) := hide (by rw [E.out]; simp)
            go_enter Try.func80, Try.ntmps80
            go_wp2_with (fail)
            refine (lk_p _ b s _ d H.out (by first | exact HZ0.out | simpa using HZ0.out)).mono ?_
            rintro e w' ⟨rfl, rfl⟩
            go_wp2_with (fail)
            refine (Pt.deg_c n HNI.out.wf _).mono ?_
            rw [HD.out]
            rintro e w' ⟨rfl, rfl⟩
            go_wp2_with (fail)
            refine (lk_p _ b s (a + 1) n H.out HZ1.out).mono ?_
            rintro e w' ⟨rfl, rfl⟩
            go_wp2_with (fail)
            refine (lk_p _ b s (a + 2) 0 H.out HZ2.out).mono ?_
            rintro e w' ⟨rfl, rfl⟩
            go_wp2_with (fail)
            refine (lk_p _ b s (a + 3) 0 H.out HZ3.out).mono ?_
            rintro e w' ⟨rfl, rfl⟩
            go_wp2_with (fail)
            refine (lk_p _ b s (a + 4) 0 H.out HZ4.out).mono ?_
            rintro e w' ⟨rfl, rfl⟩
            go_wp2
            go_ret
            exact ⟨by rw [HR.out]; rfl, rfl⟩
          · replace y4 : ¬ z4 = 0 := fun h => y4 h.symm
            have HR : Hid (r = false) := hide (by rw [E.out]; simp [y4])
            have g1 : (z4 == 0) = false := by simp [y4]
            have g2 : (z4 != 0) = true := by simp [y4]
            clear y4
            go_enter Try.func80, Try.ntmps80
            go_wp2_with (fail)
            refine (lk_p _ b s _ d H.out (by first | exact HZ0.out | simpa using HZ0.out)).mono ?_
            rintro e w' ⟨rfl, rfl⟩
            go_wp2_with (fail)
            refine (Pt.deg_c n HNI.out.wf _).mono ?_
            rw [HD.out]
            rintro e w' ⟨rfl, rfl⟩
            go_wp2_with (fail)
            refine (lk_p _ b s (a + 1) n H.out HZ1.out).mono ?_
            rintro e w' ⟨rfl, rfl⟩
            go_wp2_with (fail)
            refine (lk_p _ b s (a + 2) 0 H.out HZ2.out).mono ?_
            rintro e w' ⟨rfl, rfl⟩
            go_wp2_with (fail)
            refine (lk_p _ b s (a + 3) 0 H.out HZ3.out).mono ?_
            rintro e w' ⟨rfl, rfl⟩
            go_wp2_with (fail)
            refine (lk_p _ b s (a + 4) z4 H.out HZ4.out).mono ?_
            rintro e w' ⟨rfl, rfl⟩
            go_wp2
            go_ret
            exact ⟨by rw [HR.out]; rfl, rfl⟩
        · replace y3 : ¬ z3 = 0 := fun h => y3 h.symm
          have HR : Hid (r = false) := hide (by rw [E.out]; simp [y3])
          have g1 : (z3 == 0) = false := by simp [y3]
          have g2 : (z3 != 0) = true := by simp [y3]
          clear y3
          go_enter Try.func80, Try.ntmps80
          go_wp2_with (fail)
          refine (lk_p _ b s _ d H.out (by first | exact HZ0.out | simpa using HZ0.out)).mono ?_
          rintro e w' ⟨rfl, rfl⟩
          go_wp2_with (fail)
          refine (Pt.deg_c n HNI.out.wf _).mono ?_
          rw [HD.out]
          rintro e w' ⟨rfl, rfl⟩
          go_wp2_with (fail)
          refine (lk_p _ b s (a + 1) n H.out HZ1.out).mono ?_
          rintro e w' ⟨rfl, rfl⟩
          go_wp2_with (fail)
          refine (lk_p _ b s (a + 2) 0 H.out HZ2.out).mono ?_
          rintro e w' ⟨rfl, rfl⟩
          go_wp2_with (fail)
          refine (lk_p _ b s (a + 3) z3 H.out HZ3.out).mono ?_
          rintro e w' ⟨rfl, rfl⟩
          go_wp2
          go_ret
          exact ⟨by rw [HR.out]; rfl, rfl⟩
      · replace y2 : ¬ z2 = 0 := fun h => y2 h.symm
        have HR : Hid (r = false) := hide (by rw [E.out]; simp [y2])
        have g1 : (z2 == 0) = false := by simp [y2]
        have g2 : (z2 != 0) = true := by simp [y2]
        clear y2
        go_enter Try.func80, Try.ntmps80
        go_wp2_with (fail)
        refine (lk_p _ b s _ d H.out (by first | exact HZ0.out | simpa using HZ0.out)).mono ?_
        rintro e w' ⟨rfl, rfl⟩
        go_wp2_with (fail)
        refine (Pt.deg_c n HNI.out.wf _).mono ?_
        rw [HD.out]
        rintro e w' ⟨rfl, rfl⟩
        go_wp2_with (fail)
        refine (lk_p _ b s (a + 1) n H.out HZ1.out).mono ?_
        rintro e w' ⟨rfl, rfl⟩
        go_wp2_with (fail)
        refine (lk_p _ b s (a + 2) z2 H.out HZ2.out).mono ?_
        rintro e w' ⟨rfl, rfl⟩
        go_wp2
        go_ret
        exact ⟨by rw [HR.out]; rfl, rfl⟩
    · replace y1 : ¬ z1 = n := fun h => y1 h.symm
      have HR : Hid (r = false) := hide (by rw [E.out]; simp [y1])
      have g1 : (z1 == n) = false := by simp [y1]
      have g2 : (z1 != n) = true := by simp [y1]
      clear y1
      go_enter Try.func80, Try.ntmps80
      go_wp2_with (fail)
      refine (lk_p _ b s _ d H.out (by first | exact HZ0.out | simpa using HZ0.out)).mono ?_
      rintro e w' ⟨rfl, rfl⟩
      go_wp2_with (fail)
      refine (Pt.deg_c n HNI.out.wf _).mono ?_
      rw [HD.out]
      rintro e w' ⟨rfl, rfl⟩
      go_wp2_with (fail)
      refine (lk_p _ b s (a + 1) z1 H.out HZ1.out).mono ?_
      rintro e w' ⟨rfl, rfl⟩
      go_wp2
      go_ret
      exact ⟨by rw [HR.out]; rfl, rfl⟩
  · replace y0 : ¬ z0 = d := fun h => y0 h.symm
    have HR : Hid (r = false) := hide (by rw [E.out]; simp [y0])
    have g1 : (z0 == d) = false := by simp [y0]
    have g2 : (z0 != d) = true := by simp [y0]
    clear y0
    go_enter Try.func80, Try.ntmps80
    go_wp2_with (fail)
    refine (lk_p _ b s _ z0 H.out (by first | exact HZ0.out | simpa using HZ0.out)).mono ?_
    rintro e w' ⟨rfl, rfl⟩
    go_wp2_with (fail)
    refine (Pt.deg_c n HNI.out.wf _).mono ?_
    rw [HD.out]
    rintro e w' ⟨rfl, rfl⟩
    go_wp2
    go_ret
    exact ⟨by rw [HR.out]; rfl, rfl⟩
end Go.Proofs.Ytbojjpmcopnjpaa

/-! The program's isIdealInner, isIdeal, Ideal. -/
namespace Go.Proofs.Ytbojjpmcopnjpaa
open Go.RowKit Go.Shelf

attribute [local go_sem] Oper.semAt_some

/-- The pairs of the part i of n. -/
def partL (ps : List (Int × Int)) (i : Int) : List (Int × Int) := (ps.drop (Pt.fromZ ps.length i).toNat).take (Pt.sizeZ ps.length i).toNat
def keyOk (s : Mst) (a : Int) (ps : List (Int × Int)) (i : Int) : Bool := decide (i ≤ 0) || (s.look (a + 4 + i) == ((partL ps i).headD (0, 0)).1)
def idealF (s : Mst) : Nat → Int → List (Int × Int) → Bool
  | 0, x, ps => if kd x = 1 then ps.isEmpty else if kd x = 2 then ps.length == 1 else false
  | f + 1, x, ps => if kd x = 1 then ps.isEmpty else if kd x = 2 then ps.length == 1 else if kd x = 3 then newB s (ad x) ps.length && (slotsL s x).all (fun p => keyOk s (ad x) ps p.1 && idealF s f (s.look p.2) (partL ps p.1)) else false
def kidB (s : Mst) (f : Nat) (x : Int) (ps : List (Int × Int)) (p : Int × Int) : Bool := keyOk s (ad x) ps p.1 && idealF s f (s.look p.2) (partL ps p.1)
theorem idealF_succ (s : Mst) (f : Nat) (x : Int) (ps : List (Int × Int)) : idealF s (f + 1) x ps = if kd x = 1 then ps.isEmpty else if kd x = 2 then ps.length == 1 else if kd x = 3 then newB s (ad x) ps.length && (slotsL s x).all (kidB s f x ps) else false := rfl
/-- A part lies within. -/
theorem part_in {n i : Int} (h0 : 0 ≤ i) (h1 : i < Pt.degZ n) : 0 ≤ Pt.fromZ n i ∧ 1 ≤ Pt.sizeZ n i ∧ Pt.fromZ n i + Pt.sizeZ n i ≤ n := by
  have hp : 0 < Pt.degZ n := by omega
  rw [Pt.from_some h0 h1, ← Pt.ahead_step h0 h1]
  have hb := Pt.ahead_bound h0 (by omega) hp
  have hs := Pt.size_bound h0 h1
  refine ⟨hb.2.2.1, hs.1, ?_⟩
  have mono : ∀ k : Nat, i + 1 + k ≤ Pt.degZ n → Pt.aheadZ n (i + 1) ≤ Pt.aheadZ n (i + 1 + k) := by
    intro k
    induction k with
    | zero => intro _; simp
    | succ k ih =>
      intro hk
      have h2 := ih (by omega)
      have h3 := Pt.ahead_step (n := n) (i := i + 1 + k) (by omega) (by omega)
      have h4 := Pt.size_bound (n := n) (i := i + 1 + k) (by omega) (by omega)
      rw [show i + 1 + ((k + 1 : Nat) : Int) = i + 1 + k + 1 by omega, h3]
      omega
  have := mono (Pt.degZ n - (i + 1)).toNat (by omega)
  rw [show i + 1 + (((Pt.degZ n - (i + 1)).toNat : Nat) : Int) = Pt.degZ n by omega, Pt.ahead_end hp] at this
  exact this
theorem PReads.sub {w : World} {bl off : Nat} {ps : List (Int × Int)} (h : PReads w (some ⟨bl, off, none⟩) ps) (i m : Nat) : PReads w (some ⟨bl, off + i * 2, none⟩) ((ps.drop i).take m) := by
  rcases h with h | ⟨bl', off', e, h⟩
  · subst h; exact .inl (by simp)
  · cases e
    refine .inr ⟨bl, off + i * 2, rfl, fun j p hp => ?_⟩
    have hp' : ps[i + j]? = some p := by
      rw [List.getElem?_take] at hp
      split at hp
      · rwa [List.getElem?_drop] at hp
      · cases hp
    have := h (i + j) p hp'
    rw [show off + (i + j) * 2 = off + i * 2 + j * 2 by omega, show off + ((i + j) * 2 + 1) = off + i * 2 + (j * 2 + 1) by omega] at this
    exact this

def IdealC (f : Nat) : Prop := ∀ (w : World) (b : Nat) (s : Mst) (_ : PM w b s) (_ : s.ok) (x : Int) (_ : I64 x) (_ : kd x = 3 → Wf s f x) (ps : List (Int × Int)) (M : Nat) (_ : ps.length = M) (_ : M ≤ 1000000) (la : Option Addr) (lc : Nat) (_ : PReads w la ps) (_ : M ≤ lc) (_ : lc ≤ maxLen) (r : Bool) (_ : idealF s f x ps = r),
    Calls Try.prog 37 #[.pointer (some ⟨b, 0, none⟩), .int .i64 x, .slice la M lc] w fun e w' => e = .returned (.bool r) ∧ Kept w w'

theorem from_k (n i r : Int) (hn : (Lit.int .i64 n).wf = true) (e1 : Pt.fromZ n i = r) (w : World) : Calls Try.prog 81 #[.int .i64 n, .int .i64 i] w fun e w' => e = .returned (.int .i64 r) ∧ Kept w w' := by
  refine (Pt.from_c n i hn w).mono ?_
  rw [e1]
  rintro e w' ⟨rfl, k, rfl⟩
  exact ⟨rfl, Kept.drewN _ _⟩
theorem size_k (n i r : Int) (hn : (Lit.int .i64 n).wf = true) (e1 : Pt.sizeZ n i = r) (w : World) : Calls Try.prog 82 #[.int .i64 n, .int .i64 i] w fun e w' => e = .returned (.int .i64 r) ∧ Kept w w' := by
  refine (Pt.size_c n i hn w).mono ?_
  rw [e1]
  rintro e w' ⟨rfl, k, rfl⟩
  exact ⟨rfl, Kept.drewN _ _⟩

set_option maxHeartbeats 4000000 in
set_option maxRecDepth 20000 in
theorem idealInner_p (f : Nat) (ih : IdealC f) (w : World) (b : Nat) (s : Mst) (h : PM w b s) (ho : s.ok) (x : Int) (k3 : kd x = 3) (hw : Wf s (f + 1) x) (ps : List (Int × Int)) (M : Nat) (hM : ps.length = M) (hM2 : M ≤ 1000000) (la : Option Addr) (lc : Nat) (hr : PReads w la ps) (hlc : M ≤ lc) (hlm : lc ≤ maxLen) (r : Bool) (e1 : (newB s (ad x) ps.length && (slotsL s x).all (kidB s f x ps)) = r) :
    Calls Try.prog 65 #[.pointer (some ⟨b, 0, none⟩), .int .i64 x, .slice la M lc] w fun e w' => e = .returned (.bool r) ∧ Kept w w' := by
  unfold maxLen at hlm
  obtain ⟨hwh, hwk⟩ := hw
  obtain ⟨n, hn⟩ : ∃ n, w.heap.size = n := ⟨_, rfl⟩
  obtain ⟨p, hp⟩ : ∃ p, ad x = p := ⟨_, rfl⟩
  have pr := ad_range x
  rw [hp] at pr
  obtain ⟨a, rfl⟩ : ∃ a : Nat, p = (a : Int) := ⟨p.toNat, by omega⟩
  have a2 : (a : Int) ≤ 65536 := pr.2
  have HP := hide hp
  have H := hide h
  have HO := hide ho
  have HX := hide hwh.i64
  have HWH := hide hwh
  have HWK := hide hwk
  have HRD := hide hr
  have HMM := hide hM
  have IH := hide ih
  have HN := hide hn
  have e0 : tgt s x = x := by rw [tgt, if_neg (by rw [k3]; decide)]
  have E0 := hide e0
  have K3 := hide k3
  have HE : Hid ((newB s (a : Int) (M : Int) && (slotsL s x).all (kidB s f x ps)) = r) := hide (by rw [← e1, hp, hM])
  obtain ⟨W1, hW1⟩ : ∃ W1, ((w.alloc (.cells #[.pointer (some ⟨b, 0, none⟩)] 22)).alloc (.cells #[.slice la M lc] 29)).alloc (.cells #[.bool false] 4) = W1 := ⟨_, rfl⟩
  have z1 : W1.heap.size = n + 3 := by rw [← hW1]; simp [hn]
  have t1 : Kept w W1 := by rw [← hW1]; exact (((Kept.refl w).alloc _).alloc _).alloc _
  have bx : ∀ (X : World) (T : TypeId) (v : Value) (m : Nat), X.heap.size = m → Boxed (X.alloc (.cells #[v] T)) m T v := fun X T v m e => by rw [← e]; exact Boxed.new X T v
  have bM : Boxed W1 n 22 (.pointer (some ⟨b, 0, none⟩)) := by rw [← hW1]; exact ((bx w 22 _ n hn).alloc _).alloc _
  have bP : Boxed W1 (n + 1) 29 (.slice la M lc) := by rw [← hW1]; exact (bx _ 29 _ (n + 1) (by simp [hn])).alloc _
  have bR : Boxed W1 (n + 2) 4 (.bool false) := by rw [← hW1]; exact bx _ 4 _ (n + 2) (by simp [hn])
  have K1 := hide t1
  have Z1 := hide z1
  have BM := hide bM
  have BP := hide bP
  have BR := hide bR
  clear h ho hwh hwk hr hM ih e0 k3 e1 t1 bx bM bP bR z1 hp pr
  refine calls_marks Try.func65 rfl ?_
  simp only [Try.ntmps65, List.size_toArray, List.length_cons, List.length_nil, Nat.reduceAdd, Nat.reduceSub, Array.replicate_succ, Array.replicate_zero, List.push_toArray, List.append_toArray, List.nil_append, List.cons_append]
  go_wp2_with (fail)
  clear hW1 hn
  obtain ⟨V, hV⟩ : ∃ V, W1.drew = V := ⟨_, rfl⟩
  have kV : Kept W1 V := by rw [← hV]; exact Kept.drew _
  have KV := hide kV
  have HVV := hide hV
  have x0 : ∀ u : Wd (fun U => Kept V U), u.w.cell? ⟨n + 1, 0, none⟩ = some (.slice la M lc) := fun u => u.ok.cell (kV.cell BP.out.cell id) id
  have zv : V.heap.size = n + 3 := by rw [← hV]; exact Z1.out
  have BXa : Hid (∀ u v : Value, Boxed ((V.alloc (.cells #[u] 3)).alloc (.cells #[v] 3)) (n + 3) 3 u) := hide (fun u v => by rw [← zv]; exact (Boxed.new V 3 u).alloc _)
  have BXb : Hid (∀ u v : Value, Boxed ((V.alloc (.cells #[u] 3)).alloc (.cells #[v] 3)) (n + 3 + 1) 3 v) := hide (fun u v => by
    have := Boxed.new (V.alloc (.cells #[u] 3)) 3 v
    rwa [World.size_alloc, zv] at this)
  clear kV hV
  refine Code.wp_mono (Q := fun e a' X => e = .normal ∧ ∃ b7 b8, a' = { tmps := #[.pointer (some ⟨b, 0, none⟩), .int .i64 x, .slice la M lc, .pointer (some ⟨n, 0, none⟩), undef, .pointer (some ⟨n + 1, 0, none⟩), .pointer (some ⟨n + 2, 0, none⟩), .pointer (some ⟨b7, 0, none⟩), .pointer (some ⟨b8, 0, none⟩), undef, undef, undef, undef, .int .i64 x, .int .i64 (a : Int), .slice la M lc, .int .i64 (M : Int), undef, undef, undef, undef, undef, undef, undef, undef, undef, undef, undef, undef, undef, undef, undef, undef, undef, undef, undef, undef, undef, undef, undef, undef, undef, undef, undef, undef, undef, undef, undef, undef, undef, undef, undef, undef, undef, undef, undef, undef, undef, undef], defers := [] } ∧ Kept V X ∧ Boxed X b7 3 (.int .i64 (a : Int)) ∧ Boxed X b8 3 (.int .i64 (M : Int)) ∧ n + 3 ≤ b7 ∧ n + 3 ≤ b8) ?cont ?reg
  case reg =>
    refine region_tree (fun U => Kept V U) (by kernel_rfl) (by rw [HVV.out]; exact Kept.refl _) (fun _ => ?_)
    rw [HVV.out]
    refine aq 0 #[true, false, false, false, false, false, false, false] rfl rfl (by kernel_rfl) (by kernel_rfl) (Wd.mem (Kept.refl _)) ?_
    go_big_quiet_step (fail)
    refine wpQuiet_nil ?_
    refine aq 2 #[true, false, true, false, false, false, false, false] rfl rfl (by kernel_rfl) (by kernel_rfl) (Wd.mem (Kept.refl _)) ?_
    go_big_quiet_step (fail)
    refine wpQuiet_nil ?_
    refine aq 3 #[true, false, true, true, false, false, false, false] rfl rfl (by kernel_rfl) (by kernel_rfl) (Wd.mem (Kept.refl _)) ?_
    go_big_quiet_step (fail)
    refine wpQuiet_nil ?_
    refine al [1, 4, 5] (by kernel_rfl) (fun i hi => ?_)
    simp only [List.mem_cons, List.not_mem_nil, or_false] at hi
    rcases hi with rfl | rfl | rfl
    · refine ⟨_, #[true, true, true, true, false, false, false, false], rfl, by kernel_rfl, ?_⟩
      gi_wp2_with (fail)
      refine ⟨trivial, ?_⟩
      refine (callsIn_wide.2 (ak_p _ x a HX.out HP.out)).mono ?_
      rintro e U ⟨rfl, rfl⟩
      gi_wp2_with (fail)
      refine ⟨Wd.mem ?_, ?_⟩
      · first | exact Kept.refl _ | exact (Kept.refl _).alloc _ | exact ((Kept.refl _).alloc _).alloc _
      refine al [4, 5] (by kernel_rfl) (fun i hi => ?_)
      simp only [List.mem_cons, List.not_mem_nil, or_false] at hi
      rcases hi with rfl | rfl
      · refine ⟨_, #[true, true, true, true, true, false, false, false], rfl, by kernel_rfl, ?_⟩
        gi_wp2
        refine ⟨Wd.mem ?_, ?_⟩
        · first | exact (Kept.refl _).alloc _ | exact ((Kept.refl _).alloc _).alloc _
        refine al [5] (by kernel_rfl) (fun i hi => ?_)
        obtain rfl : i = 5 := by simpa using hi
        refine ⟨_, #[true, true, true, true, true, true, false, false], rfl, by kernel_rfl, ?_⟩
        gi_wp2
        refine ⟨Wd.mem ?_, ?_⟩
        · first | exact (Kept.refl _).alloc _ | exact ((Kept.refl _).alloc _).alloc _
        refine al [6] (by kernel_rfl) (fun i hi => ?_)
        obtain rfl : i = 6 := by simpa using hi
        refine ⟨_, #[true, true, true, true, true, true, true, false], rfl, by kernel_rfl, ?_⟩
        gi_wp2
        refine ⟨Wd.mem ?_, ?_⟩
        · first | exact (Kept.refl _).alloc _ | exact ((Kept.refl _).alloc _).alloc _
        refine al [7] (by kernel_rfl) (fun i hi => ?_)
        obtain rfl : i = 7 := by simpa using hi
        refine ⟨_, #[true, true, true, true, true, true, true, true], rfl, by kernel_rfl, ?_⟩
        gi_wp2
        refine ⟨Wd.mem ?_, ?_⟩
        · first | exact (Kept.refl _).alloc _ | exact ((Kept.refl _).alloc _).alloc _
        refine adone (by kernel_rfl) ?_
        refine ⟨rfl, _, _, rfl, ((Kept.refl _).alloc _).alloc _, ?_, ?_, by omega, by omega⟩
        · first | exact BXa.out _ _ | exact BXb.out _ _
        · first | exact BXa.out _ _ | exact BXb.out _ _
      · refine ⟨_, #[true, true, true, true, false, true, false, false], rfl, by kernel_rfl, ?_⟩
        gi_wp2
        refine ⟨Wd.mem ?_, ?_⟩
        · first | exact (Kept.refl _).alloc _ | exact ((Kept.refl _).alloc _).alloc _
        refine al [4] (by kernel_rfl) (fun i hi => ?_)
        obtain rfl : i = 4 := by simpa using hi
        refine ⟨_, #[true, true, true, true, true, true, false, false], rfl, by kernel_rfl, ?_⟩
        gi_wp2
        refine ⟨Wd.mem ?_, ?_⟩
        · first | exact (Kept.refl _).alloc _ | exact ((Kept.refl _).alloc _).alloc _
        refine al [6] (by kernel_rfl) (fun i hi => ?_)
        obtain rfl : i = 6 := by simpa using hi
        refine ⟨_, #[true, true, true, true, true, true, true, false], rfl, by kernel_rfl, ?_⟩
        gi_wp2
        refine ⟨Wd.mem ?_, ?_⟩
        · first | exact (Kept.refl _).alloc _ | exact ((Kept.refl _).alloc _).alloc _
        refine al [7] (by kernel_rfl) (fun i hi => ?_)
        obtain rfl : i = 7 := by simpa using hi
        refine ⟨_, #[true, true, true, true, true, true, true, true], rfl, by kernel_rfl, ?_⟩
        gi_wp2
        refine ⟨Wd.mem ?_, ?_⟩
        · first | exact (Kept.refl _).alloc _ | exact ((Kept.refl _).alloc _).alloc _
        refine adone (by kernel_rfl) ?_
        refine ⟨rfl, _, _, rfl, ((Kept.refl _).alloc _).alloc _, ?_, ?_, by omega, by omega⟩
        · first | exact BXa.out _ _ | exact BXb.out _ _
        · first | exact BXa.out _ _ | exact BXb.out _ _
    · refine ⟨_, #[true, false, true, true, true, false, false, false], rfl, by kernel_rfl, ?_⟩
      gi_wp2
      refine ⟨Wd.mem ?_, ?_⟩
      · first | exact (Kept.refl _).alloc _ | exact ((Kept.refl _).alloc _).alloc _
      refine al [1, 5] (by kernel_rfl) (fun i hi => ?_)
      simp only [List.mem_cons, List.not_mem_nil, or_false] at hi
      rcases hi with rfl | rfl
      · refine ⟨_, #[true, true, true, true, true, false, false, false], rfl, by kernel_rfl, ?_⟩
        gi_wp2_with (fail)
        refine ⟨trivial, ?_⟩
        refine (callsIn_wide.2 (ak_p _ x a HX.out HP.out)).mono ?_
        rintro e U ⟨rfl, rfl⟩
        gi_wp2_with (fail)
        refine ⟨Wd.mem ?_, ?_⟩
        · first | exact Kept.refl _ | exact (Kept.refl _).alloc _ | exact ((Kept.refl _).alloc _).alloc _
        refine al [5] (by kernel_rfl) (fun i hi => ?_)
        obtain rfl : i = 5 := by simpa using hi
        refine ⟨_, #[true, true, true, true, true, true, false, false], rfl, by kernel_rfl, ?_⟩
        gi_wp2
        refine ⟨Wd.mem ?_, ?_⟩
        · first | exact (Kept.refl _).alloc _ | exact ((Kept.refl _).alloc _).alloc _
        refine al [6] (by kernel_rfl) (fun i hi => ?_)
        obtain rfl : i = 6 := by simpa using hi
        refine ⟨_, #[true, true, true, true, true, true, true, false], rfl, by kernel_rfl, ?_⟩
        gi_wp2
        refine ⟨Wd.mem ?_, ?_⟩
        · first | exact (Kept.refl _).alloc _ | exact ((Kept.refl _).alloc _).alloc _
        refine al [7] (by kernel_rfl) (fun i hi => ?_)
        obtain rfl : i = 7 := by simpa using hi
        refine ⟨_, #[true, true, true, true, true, true, true, true], rfl, by kernel_rfl, ?_⟩
        gi_wp2
        refine ⟨Wd.mem ?_, ?_⟩
        · first | exact (Kept.refl _).alloc _ | exact ((Kept.refl _).alloc _).alloc _
        refine adone (by kernel_rfl) ?_
        refine ⟨rfl, _, _, rfl, ((Kept.refl _).alloc _).alloc _, ?_, ?_, by omega, by omega⟩
        · first | exact BXa.out _ _ | exact BXb.out _ _
        · first | exact BXa.out _ _ | exact BXb.out _ _
      · refine ⟨_, #[true, false, true, true, true, true, false, false], rfl, by kernel_rfl, ?_⟩
        gi_wp2
        refine ⟨Wd.mem ?_, ?_⟩
        · first | exact (Kept.refl _).alloc _ | exact ((Kept.refl _).alloc _).alloc _
        refine al [1] (by kernel_rfl) (fun i hi => ?_)
        obtain rfl : i = 1 := by simpa using hi
        refine ⟨_, #[true, true, true, true, true, true, false, false], rfl, by kernel_rfl, ?_⟩
        gi_wp2_with (fail)
        refine ⟨trivial, ?_⟩
        refine (callsIn_wide.2 (ak_p _ x a HX.out HP.out)).mono ?_
        rintro e U ⟨rfl, rfl⟩
        gi_wp2_with (fail)
        refine ⟨Wd.mem ?_, ?_⟩
        · first | exact Kept.refl _ | exact (Kept.refl _).alloc _ | exact ((Kept.refl _).alloc _).alloc _
        refine al [6] (by kernel_rfl) (fun i hi => ?_)
        obtain rfl : i = 6 := by simpa using hi
        refine ⟨_, #[true, true, true, true, true, true, true, false], rfl, by kernel_rfl, ?_⟩
        gi_wp2
        refine ⟨Wd.mem ?_, ?_⟩
        · first | exact (Kept.refl _).alloc _ | exact ((Kept.refl _).alloc _).alloc _
        refine al [7] (by kernel_rfl) (fun i hi => ?_)
        obtain rfl : i = 7 := by simpa using hi
        refine ⟨_, #[true, true, true, true, true, true, true, true], rfl, by kernel_rfl, ?_⟩
        gi_wp2
        refine ⟨Wd.mem ?_, ?_⟩
        · first | exact (Kept.refl _).alloc _ | exact ((Kept.refl _).alloc _).alloc _
        refine adone (by kernel_rfl) ?_
        refine ⟨rfl, _, _, rfl, ((Kept.refl _).alloc _).alloc _, ?_, ?_, by omega, by omega⟩
        · first | exact BXa.out _ _ | exact BXb.out _ _
        · first | exact BXa.out _ _ | exact BXb.out _ _
    · refine ⟨_, #[true, false, true, true, false, true, false, false], rfl, by kernel_rfl, ?_⟩
      gi_wp2
      refine ⟨Wd.mem ?_, ?_⟩
      · first | exact (Kept.refl _).alloc _ | exact ((Kept.refl _).alloc _).alloc _
      refine al [1, 4] (by kernel_rfl) (fun i hi => ?_)
      simp only [List.mem_cons, List.not_mem_nil, or_false] at hi
      rcases hi with rfl | rfl
      · refine ⟨_, #[true, true, true, true, false, true, false, false], rfl, by kernel_rfl, ?_⟩
        gi_wp2_with (fail)
        refine ⟨trivial, ?_⟩
        refine (callsIn_wide.2 (ak_p _ x a HX.out HP.out)).mono ?_
        rintro e U ⟨rfl, rfl⟩
        gi_wp2_with (fail)
        refine ⟨Wd.mem ?_, ?_⟩
        · first | exact Kept.refl _ | exact (Kept.refl _).alloc _ | exact ((Kept.refl _).alloc _).alloc _
        refine al [4] (by kernel_rfl) (fun i hi => ?_)
        obtain rfl : i = 4 := by simpa using hi
        refine ⟨_, #[true, true, true, true, true, true, false, false], rfl, by kernel_rfl, ?_⟩
        gi_wp2
        refine ⟨Wd.mem ?_, ?_⟩
        · first | exact (Kept.refl _).alloc _ | exact ((Kept.refl _).alloc _).alloc _
        refine al [6] (by kernel_rfl) (fun i hi => ?_)
        obtain rfl : i = 6 := by simpa using hi
        refine ⟨_, #[true, true, true, true, true, true, true, false], rfl, by kernel_rfl, ?_⟩
        gi_wp2
        refine ⟨Wd.mem ?_, ?_⟩
        · first | exact (Kept.refl _).alloc _ | exact ((Kept.refl _).alloc _).alloc _
        refine al [7] (by kernel_rfl) (fun i hi => ?_)
        obtain rfl : i = 7 := by simpa using hi
        refine ⟨_, #[true, true, true, true, true, true, true, true], rfl, by kernel_rfl, ?_⟩
        gi_wp2
        refine ⟨Wd.mem ?_, ?_⟩
        · first | exact (Kept.refl _).alloc _ | exact ((Kept.refl _).alloc _).alloc _
        refine adone (by kernel_rfl) ?_
        refine ⟨rfl, _, _, rfl, ((Kept.refl _).alloc _).alloc _, ?_, ?_, by omega, by omega⟩
        · first | exact BXa.out _ _ | exact BXb.out _ _
        · first | exact BXa.out _ _ | exact BXb.out _ _
      · refine ⟨_, #[true, false, true, true, true, true, false, false], rfl, by kernel_rfl, ?_⟩
        gi_wp2
        refine ⟨Wd.mem ?_, ?_⟩
        · first | exact (Kept.refl _).alloc _ | exact ((Kept.refl _).alloc _).alloc _
        refine al [1] (by kernel_rfl) (fun i hi => ?_)
        obtain rfl : i = 1 := by simpa using hi
        refine ⟨_, #[true, true, true, true, true, true, false, false], rfl, by kernel_rfl, ?_⟩
        gi_wp2_with (fail)
        refine ⟨trivial, ?_⟩
        refine (callsIn_wide.2 (ak_p _ x a HX.out HP.out)).mono ?_
        rintro e U ⟨rfl, rfl⟩
        gi_wp2_with (fail)
        refine ⟨Wd.mem ?_, ?_⟩
        · first | exact Kept.refl _ | exact (Kept.refl _).alloc _ | exact ((Kept.refl _).alloc _).alloc _
        refine al [6] (by kernel_rfl) (fun i hi => ?_)
        obtain rfl : i = 6 := by simpa using hi
        refine ⟨_, #[true, true, true, true, true, true, true, false], rfl, by kernel_rfl, ?_⟩
        gi_wp2
        refine ⟨Wd.mem ?_, ?_⟩
        · first | exact (Kept.refl _).alloc _ | exact ((Kept.refl _).alloc _).alloc _
        refine al [7] (by kernel_rfl) (fun i hi => ?_)
        obtain rfl : i = 7 := by simpa using hi
        refine ⟨_, #[true, true, true, true, true, true, true, true], rfl, by kernel_rfl, ?_⟩
        gi_wp2
        refine ⟨Wd.mem ?_, ?_⟩
        · first | exact (Kept.refl _).alloc _ | exact ((Kept.refl _).alloc _).alloc _
        refine adone (by kernel_rfl) ?_
        refine ⟨rfl, _, _, rfl, ((Kept.refl _).alloc _).alloc _, ?_, ?_, by omega, by omega⟩
        · first | exact BXa.out _ _ | exact BXb.out _ _
        · first | exact BXa.out _ _ | exact BXb.out _ _
  case cont =>
    rintro e a' X ⟨rfl, b7, b8, rfl, kX, bA, bN, l7, l8⟩
    have K2 := hide (K1.out.trans (KV.out.trans kX))
    have BM2 := hide (kX.boxed (KV.out.boxed BM.out id) id)
    have BP2 := hide (kX.boxed (KV.out.boxed BP.out id) id)
    have BR2 := hide (kX.boxed (KV.out.boxed BR.out id) id)
    have BA2 := hide bA
    have BN2 := hide bN
    have L78 : Hid (n + 3 ≤ b7 ∧ n + 3 ≤ b8) := hide ⟨l7, l8⟩
    have cM := BM2.out.cell
    have cA := bA.cell
    have cN := bN.cell
    have cR := BR2.out.cell
    have fR := BR2.out.frozen
    have HMI : Hid ((Lit.int .i64 (M : Int)).wf = true) := hide (I64.wf ⟨by omega, by omega⟩)
    obtain ⟨q, hq⟩ : ∃ q, newB s (a : Int) (M : Int) = q := ⟨_, rfl⟩
    have HQ := hide hq
    have HE2 : Hid ((q && (slotsL s x).all (kidB s f x ps)) = r) := hide (by rw [← hq]; exact HE.out)
    have Z2 : Hid (n + 3 ≤ X.heap.size) := hide (by have := bA.lt; omega)
    clear kX bA bN l7 l8 hq x0 zv BXa BXb
    cases q with
    | false =>
      have HR : Hid (r = false) := hide (by rw [← HE2.out]; rfl)
      have tS : Turned (fun k => k = n + 2) X (X.setCell ⟨n + 2, 0, none⟩ (.bool false)) := Turned.setCell _ _ _ rfl
      have KS := hide (K2.out.did (by have := HN.out; omega) tS)
      have CS := hide (BR2.out.set (.bool false)).cell
      clear tS
      go_wp2_with (fail)
      refine (isNew_p X b s a M false (H.out.kept K2.out) (by omega) (by omega) ⟨by omega, by omega⟩ HQ.out).mono ?_
      rintro e w' ⟨rfl, rfl⟩
      go_wp2
      refine leave_marks [] _ ?_ ?_ ?_
      · intro k hk; cases hk
      · simp
      · intro X' hX'
        have q1 := hX'.cell CS.out (by simp)
        exact ⟨.bool false, by simp [results, Try.results65, go_sem, q1], by rw [HR.out], KS.out.trans (hX'.mono fun _ _ h => by cases h)⟩
    | true =>
      have hdeg : s.look (a : Int) = Pt.degZ (M : Int) := by
        have := HQ.out
        unfold newB at this
        simp only [Bool.and_eq_true, beq_iff_eq] at this
        exact this.1.1.1.1
      have HDEG := hide hdeg
      have hd := HWH.out.deg (by rw [E0.out]; exact K3.out)
      rw [E0.out, HP.out, hdeg] at hd
      have hpos : 0 < Pt.degZ (M : Int) := by omega
      obtain ⟨hm2, hm3⟩ := Pt.deg_pos hpos
      have HPOS := hide hpos
      have HE3 : Hid ((slotsL s x).all (kidB s f x ps) = r) := hide (by rw [← HE2.out]; rfl)
      obtain ⟨bl, off, rfl⟩ : ∃ bl off, la = some ⟨bl, off, none⟩ := by
        rcases HRD.out with e | ⟨bl, off, e, _⟩
        · have := HMM.out; rw [e] at this; simp at this; omega
        · exact ⟨bl, off, e⟩
      clear hdeg hd hpos
      go_wp2_with (fail)
      refine (isNew_p X b s a M true (H.out.kept K2.out) (by omega) (by omega) ⟨by omega, by omega⟩ HQ.out).mono ?_
      rintro e w' ⟨rfl, rfl⟩
      go_wp2_with (fail)
      refine (slots_k X b x).mono ?_
      rintro e W3 ⟨B1, B2, rfl, k3, b1, b2, l1, l2⟩
      have K3' := hide (K2.out.trans k3)
      have BM3 := hide (k3.boxed BM2.out id)
      have BP3 := hide (k3.boxed BP2.out id)
      have BR3 := hide (k3.boxed BR2.out id)
      have BA3 := hide (k3.boxed BA2.out id)
      have BN3 := hide (k3.boxed BN2.out id)
      have BB1 := hide b1
      have BB2 := hide b2
      have L1 : Hid (n + 3 ≤ B1 ∧ n + 3 ≤ B2 ∧ n + 3 ≤ W3.heap.size) := hide (by have := Z2.out; have := k3.size; omega)
      clear k3 b1 b2 l1 l2 cM cA cN cR fR
      go_wp2_with (fail)
      refine wp_range2 (gf := 78) rfl (enters_of Try.func78 (by kernel_rfl) rfl) (encs := enc2) (xs := slotsL s x) (R := SlotR w B1 B2)
        (fun X hX => slots_i w X (K3'.out.trans hX) b s H.out HO.out x HWH.out B1 B2 (hX.boxed BB1.out id) (hX.boxed BB2.out id)) (fun _ => rfl)
        (fun k => k = n + 2) (fun O pre A => (∀ p ∈ pre, kidB s f x ps p = true) ∧ Cell1 (n + 2) 4 (.bool false) O pre A) (fun c O pre A => c = .ret ∧ (∃ p ∈ pre, kidB s f x ps p = false) ∧ Cell1 (n + 2) 4 (.bool false) O pre A) ?hR
        (good_and (Cell1.good _ _ _) _) (fun c => good_only (good_and (Cell1.good _ _ _) _) c .ret) ⟨(by intro p hp; cases hp), fun _ => Iff.rfl, BR3.out⟩ ?ab ?done ?stop
      case hR =>
        rintro k (hk | rfl | rfl)
        · have h1 := HN.out
          have h2 := K3'.out.size
          exact ⟨by omega, by omega⟩
        · have := L1.out
          exact ⟨BB1.out.lt, by omega⟩
        · have := L1.out
          exact ⟨BB2.out.lt, by omega⟩
      case ab =>
        apply Exists.intro
        refine ⟨?_, ?_⟩
        · intro l' p X K hK
          gi_wp2
          exact hK
        · rintro l' O pre ⟨pi, sl⟩ rest B hx' tB sB ⟨hpre, hO, rB⟩
          have hmem : (pi, sl) ∈ slotsL s x := by rw [hx']; simp
          obtain ⟨k, hk, hpi, hsl⟩ : ∃ k : Nat, (k : Int) < Pt.degZ (M : Int) ∧ pi = (k : Int) ∧ sl = childS a (Pt.degZ (M : Int)).toNat k := by
            have hm := hmem
            unfold slotsL at hm
            rw [E0.out, if_pos K3.out, List.mem_map] at hm
            obtain ⟨k, h1, h2⟩ := hm
            have eA : atN s x = a := by unfold atN; rw [E0.out, HP.out]; omega
            have eD : degN s x = (Pt.degZ (M : Int)).toNat := by unfold degN; rw [E0.out, HP.out, HDEG.out]
            rw [eD, List.mem_range] at h1
            rw [eA, eD] at h2
            cases h2
            exact ⟨k, by omega, rfl, rfl⟩
          have hdb := Pt.deg_nat (M : Int)
          subst hpi
          obtain ⟨pf, pg, ph⟩ := part_in (n := (M : Int)) (i := (k : Int)) (by omega) hk
          obtain ⟨F, hF⟩ : ∃ F : Nat, Pt.fromZ (M : Int) (k : Int) = (F : Int) := ⟨(Pt.fromZ (M : Int) (k : Int)).toNat, by omega⟩
          obtain ⟨S, hS⟩ : ∃ S : Nat, Pt.sizeZ (M : Int) (k : Int) = (S : Int) := ⟨(Pt.sizeZ (M : Int) (k : Int)).toNat, by omega⟩
          rw [hF] at pf ph
          rw [hS] at pg ph
          have HFR := hide hF
          have HSZ := hide hS
          have hfs : F + S ≤ M := by omega
          obtain ⟨own, hown⟩ : ∃ own, partL ps (k : Int) = own := ⟨_, rfl⟩
          have hown2 : own = (ps.drop F).take S := by rw [← hown, partL, HMM.out, hF, hS]; simp
          have hownl : own.length = S := by rw [hown2, List.length_take, List.length_drop, HMM.out]; omega
          have HOWL := hide hownl
          have HOWN : Hid (∀ W, Kept w W → PReads W (some ⟨bl, off + F * 2, none⟩) own) := hide (fun W kW => by rw [hown2]; exact (HRD.out.sub F S).kept kW)
          obtain ⟨u, hu⟩ : ∃ u, s.look sl = u := ⟨_, rfl⟩
          have HU := hide hu
          have HUI : Hid (I64 u) := hide (by rw [← hu]; exact HO.out.look _)
          have HUW : Hid (kd u = 3 → Wf s f u) := hide (fun h3 => by
            have e : s.logicZ sl = u := by rw [Mst.logicZ, hu, if_neg (by rw [show Rf.kindZ u = 3 from h3]; decide)]
            have := HWK.out ((k : Int), sl) hmem
            rwa [e] at this)
          obtain ⟨v, hv⟩ : ∃ v, idealF s f u own = v := ⟨_, rfl⟩
          have HV := hide hv
          obtain ⟨z, hz⟩ : ∃ z, s.look ((a : Int) + 4 + (k : Int)) = z := ⟨_, rfl⟩
          have HZ := hide hz
          obtain ⟨⟨h0, h1'⟩, hh⟩ : ∃ p, own[0]? = some p := ⟨_, List.getElem?_eq_getElem (by omega)⟩
          have HH := hide hh
          have HKB : Hid (kidB s f x ps ((k : Int), sl) = ((decide ((k : Int) ≤ 0) || (z == h0)) && v)) := hide (by
            have e : own.headD (0, 0) = (h0, h1') := by cases own with
              | nil => simp at hh
              | cons p l => simp at hh; simp [hh]
            simp only [kidB, keyOk, HP.out, hown, hz, hu, hv, e])
          have HOO := hide hO
          have HPRE := hide hpre
          have KB := hide (K3'.out.did (by have := HN.out; omega) tB)
          have cM := (tB.boxed BM3.out (by omega)).cell
          have cP := (tB.boxed BP3.out (by omega)).cell
          have cA := (tB.boxed BA3.out (by have := L78.out; omega)).cell
          have cN := (tB.boxed BN3.out (by have := L78.out; omega)).cell
          have RB := hide rB
          have GO : Hid (∀ X, Kept B X → kidB s f x ps ((k : Int), sl) = true → ∃ O', Sub O' O B.heap.size ∧ Turned O B X ∧ (∀ p ∈ pre ++ [((k : Int), sl)], kidB s f x ps p = true) ∧ Cell1 (n + 2) 4 (.bool false) O' (pre ++ [((k : Int), sl)]) X) := hide (fun X kX hm => by
            refine ⟨O, Sub.refl _ _, kX.mono (fun _ _ h => h.elim), ?_, HOO.out, kX.boxed RB.out id⟩
            intro p hp
            rcases List.mem_append.1 hp with hp | hp
            · exact HPRE.out p hp
            · simp at hp; rw [hp]; exact hm)
          have OUT : Hid (∀ X, Kept B X → kidB s f x ps ((k : Int), sl) = false → ∃ O', Sub O' O B.heap.size ∧ Turned O B (X.setCell ⟨n + 2, 0, none⟩ (.bool false)) ∧ (∃ p ∈ pre ++ [((k : Int), sl)], kidB s f x ps p = false) ∧ Cell1 (n + 2) 4 (.bool false) O' (pre ++ [((k : Int), sl)]) (X.setCell ⟨n + 2, 0, none⟩ (.bool false))) := hide (fun X kX hm => by
            have tS : Turned (fun k => k = n + 2) X (X.setCell ⟨n + 2, 0, none⟩ (.bool false)) := Turned.setCell _ _ _ rfl
            exact ⟨O, Sub.refl _ _, Turned.trans kX tS (fun _ h => h.elim) (fun k _ h => (HOO.out k).2 h), ⟨((k : Int), sl), by simp, hm⟩, HOO.out, (kX.boxed RB.out id).set _⟩)
          have i1 : (F : Int) + (S : Int) ≤ (M : Int) := by omega
          have i2 : (1 : Int) ≤ (S : Int) := by omega
          have i3 : F ≠ lc := by omega
          have i4 : F + S ≤ lc := by omega
          have i5 : (F : Int) + (S : Int) ≤ (lc : Int) := by omega
          have i6 : (k : Int) < 200 := by omega
          have hkz := hide (keyZ_in (n := a) (i := (k : Int)) (by omega) (by omega) (by omega) (by omega))
          clear hx' tB sB hpre hO rB hmem hk hsl hdb pf pg ph hF hS hown hown2 hownl hu hv hz hh
          gi_wp2_with (fail)
          refine ⟨trivial, ?_⟩
          refine (CallsIn.inRound l' (callsIn_wide.2 (from_k (M : Int) (k : Int) (F : Int) HMI.out HFR.out B))).mono ?_
          rintro e C ⟨rfl, kC⟩
          have KC := hide kC
          have cM := kC.cell cM id
          have cP := kC.cell cP id
          have cA := kC.cell cA id
          have cN := kC.cell cN id
          clear kC
          obtain ⟨V8, hVx⟩ : ∃ V8, C.drew = V8 := ⟨_, rfl⟩
          have kVx : Kept C V8 := by rw [← hVx]; exact Kept.drew _
          have HVx := hide hVx
          have KV8 := hide kVx
          have y0 : ∀ u : Wd (fun U => Kept V8 U), u.w.cell? ⟨n + 1, 0, none⟩ = some (.slice (some ⟨bl, off, none⟩) M lc) := fun u => u.ok.cell (kVx.cell cP id) id
          have y1 : ∀ u : Wd (fun U => Kept V8 U), u.w.cell? ⟨b8, 0, none⟩ = some (.int .i64 (M : Int)) := fun u => u.ok.cell (kVx.cell cN id) id
          clear hVx kVx
          gi_wp2_with (fail)
          refine region_round [0, 1, 2, 3, 4, 5, 6, 7, 8] (fun U => Kept V8 U) (by kernel_rfl) (by kernel_rfl) (by kernel_rfl) (by rw [HVx.out]; exact Kept.refl _) (fun _ => ?_)
          rw [HVx.out]
          repeat (refine pq rfl rfl ?_; go_big_quiet_step (fail); refine wpQuiet_nil ?_)
          refine pl rfl rfl ?_
          gi_wp2_with (fail)
          refine ⟨trivial, ?_⟩
          refine (callsIn_wide.2 (size_k (M : Int) (k : Int) (S : Int) HMI.out HSZ.out V8)).mono ?_
          rintro e U8 ⟨rfl, kU⟩
          have KU8 := hide kU
          clear kU
          gi_wp2_with (fail)
          refine ⟨Wd.mem KU8.out, ?_⟩
          repeat (refine pq rfl rfl ?_; go_big_quiet_step (fail); refine wpQuiet_nil ?_)
          refine perm_done ?_
          rw [Nat.add_sub_cancel_left]
          have KU : Hid (Kept B U8) := hide (KC.out.trans (KV8.out.trans KU8.out))
          have k8 : Kept C U8 := KV8.out.trans KU8.out
          have cM := k8.cell cM id
          have cA := k8.cell cA id
          have hw8 := KB.out.trans KU.out
          have cH : U8.cell? ⟨bl, off + F * 2, none⟩ = some (.int .i64 h0) := by
            obtain ⟨bl', off', e', _, q0, _⟩ := (HOWN.out U8 hw8).at HH.out
            cases e'
            simpa using q0
          obtain ⟨V9, hVx⟩ : ∃ V9, U8.drew = V9 := ⟨_, rfl⟩
          have kVx : Kept U8 V9 := by rw [← hVx]; exact Kept.drew _
          have HVx := hide hVx
          have KV9 := hide kVx
          have y2 : ∀ u : Wd (fun U => Kept V9 U), u.w.cell? ⟨n, 0, none⟩ = some (.pointer (some ⟨b, 0, none⟩)) := fun u => u.ok.cell (kVx.cell cM id) id
          have y3 : ∀ u : Wd (fun U => Kept V9 U), u.w.cell? ⟨b7, 0, none⟩ = some (.int .i64 (a : Int)) := fun u => u.ok.cell (kVx.cell cA id) id
          have y4 : ∀ u : Wd (fun U => Kept V9 U), u.w.cell? ⟨bl, off + F * 2, none⟩ = some (.int .i64 h0) := fun u => u.ok.cell (kVx.cell cH id) id
          have cM := kVx.cell cM id
          have MV9 := hide (H.out.kept (hw8.trans kVx))
          have KB9 : Hid (Kept B V9) := hide (KU.out.trans kVx)
          have f6 := (KB9.out.boxed RB.out id).frozen
          have c6 := (KB9.out.boxed RB.out id).cell
          clear hVx kVx k8 hw8 y0 y1 cP cN cA cH
          by_cases k0 : k = 0
          · have j0 : ¬ ((0 : Int) < (k : Int)) := by omega
            have j1 : decide ((0 : Int) < (k : Int)) = false := by simp; omega
            have j1n : decide (0 < k) = false := by simp; omega
            gi_wp2_with (fail)
            refine region_round [0, 1, 2, 3, 4, 5, 8, 9, 10, 11, 6, 7, 12, 13] (fun U => Kept V9 U) (by kernel_rfl) (by kernel_rfl) (by kernel_rfl) (by rw [HVx.out]; exact Kept.refl _) (fun _ => ?_)
            rw [HVx.out]
            repeat (refine pq rfl rfl ?_; go_big_quiet_step (fail); refine wpQuiet_nil ?_)
            refine Go.Proofs.Ytbojjpmcopnjpaa.ps rfl rfl rfl (Wd.mem (Kept.refl _)) ?_
            go_big_quiet_skip
            refine wpQuiet_nil ?_
            refine Go.Proofs.Ytbojjpmcopnjpaa.ps rfl rfl rfl (Wd.mem (Kept.refl _)) ?_
            go_big_quiet_skip
            refine wpQuiet_nil ?_
            repeat (refine pq rfl rfl ?_; go_big_quiet_step (fail); refine wpQuiet_nil ?_)
            refine perm_done ?_
            cases v with
            | true =>
              obtain ⟨VB, hVy⟩ : ∃ VB, V9.drew = VB := ⟨_, rfl⟩
              have kVy : Kept V9 VB := by rw [← hVy]; exact Kept.drew _
              have HVy := hide hVy
              have w0 : ∀ u : Wd (fun U => Kept VB U), u.w.cell? ⟨n, 0, none⟩ = some (.pointer (some ⟨b, 0, none⟩)) := fun u => u.ok.cell (kVy.cell cM id) id
              have MVB := hide (MV9.out.kept kVy)
              have KBB : Hid (Kept B VB) := hide (KB9.out.trans kVy)
              have OWB := hide (HOWN.out VB (KB.out.trans KBB.out))
              clear hVy kVy y2 y3 y4 cM f6 c6
              gi_wp2_with (fail)
              refine region_round [0, 1, 2, 4, 3, 5, 6] (fun U => Kept VB U) (by kernel_rfl) (by kernel_rfl) (by kernel_rfl) (by rw [HVy.out]; exact Kept.refl _) (fun _ => ?_)
              rw [HVy.out]
              repeat (refine pq rfl rfl ?_; go_big_quiet_step (fail); refine wpQuiet_nil ?_)
              refine pl rfl rfl ?_
              gi_wp2_with (fail)
              refine ⟨trivial, ?_⟩
              refine (callsIn_wide.2 (lk_p _ b s sl u MVB.out HU.out)).mono ?_
              rintro e U ⟨rfl, rfl⟩
              gi_wp2_with (fail)
              refine ⟨Wd.mem (Kept.refl _), ?_⟩
              refine pl rfl rfl ?_
              gi_wp2_with (fail)
              refine ⟨trivial, ?_⟩
              refine (callsIn_wide.2 (IH.out VB b s MVB.out HO.out u HUI.out HUW.out own S HOWL.out (by omega) _ (lc - F) OWB.out (by omega) (by unfold maxLen; omega) true HV.out)).mono ?_
              rintro e UB ⟨rfl, kUB⟩
              have KUB : Hid (Kept B UB) := hide (KBB.out.trans kUB)
              have KCL := hide kUB
              have f6 := (KUB.out.boxed RB.out id).frozen
              have c6 := (KUB.out.boxed RB.out id).cell
              clear kUB
              gi_wp2_with (fail)
              refine ⟨Wd.mem KCL.out, ?_⟩
              repeat (refine pq rfl rfl ?_; go_big_quiet_step (fail); refine wpQuiet_nil ?_)
              refine perm_done ?_
              gi_wp2
              exact GO.out UB KUB.out (by rw [HKB.out]; simp; omega)
            | false =>
              obtain ⟨VB, hVy⟩ : ∃ VB, V9.drew = VB := ⟨_, rfl⟩
              have kVy : Kept V9 VB := by rw [← hVy]; exact Kept.drew _
              have HVy := hide hVy
              have w0 : ∀ u : Wd (fun U => Kept VB U), u.w.cell? ⟨n, 0, none⟩ = some (.pointer (some ⟨b, 0, none⟩)) := fun u => u.ok.cell (kVy.cell cM id) id
              have MVB := hide (MV9.out.kept kVy)
              have KBB : Hid (Kept B VB) := hide (KB9.out.trans kVy)
              have OWB := hide (HOWN.out VB (KB.out.trans KBB.out))
              clear hVy kVy y2 y3 y4 cM f6 c6
              gi_wp2_with (fail)
              refine region_round [0, 1, 2, 4, 3, 5, 6] (fun U => Kept VB U) (by kernel_rfl) (by kernel_rfl) (by kernel_rfl) (by rw [HVy.out]; exact Kept.refl _) (fun _ => ?_)
              rw [HVy.out]
              repeat (refine pq rfl rfl ?_; go_big_quiet_step (fail); refine wpQuiet_nil ?_)
              refine pl rfl rfl ?_
              gi_wp2_with (fail)
              refine ⟨trivial, ?_⟩
              refine (callsIn_wide.2 (lk_p _ b s sl u MVB.out HU.out)).mono ?_
              rintro e U ⟨rfl, rfl⟩
              gi_wp2_with (fail)
              refine ⟨Wd.mem (Kept.refl _), ?_⟩
              refine pl rfl rfl ?_
              gi_wp2_with (fail)
              refine ⟨trivial, ?_⟩
              refine (callsIn_wide.2 (IH.out VB b s MVB.out HO.out u HUI.out HUW.out own S HOWL.out (by omega) _ (lc - F) OWB.out (by omega) (by unfold maxLen; omega) false HV.out)).mono ?_
              rintro e UB ⟨rfl, kUB⟩
              have KUB : Hid (Kept B UB) := hide (KBB.out.trans kUB)
              have KCL := hide kUB
              have f6 := (KUB.out.boxed RB.out id).frozen
              have c6 := (KUB.out.boxed RB.out id).cell
              clear kUB
              gi_wp2_with (fail)
              refine ⟨Wd.mem KCL.out, ?_⟩
              repeat (refine pq rfl rfl ?_; go_big_quiet_step (fail); refine wpQuiet_nil ?_)
              refine perm_done ?_
              gi_wp2
              obtain ⟨O', q1, q2, q3, q4⟩ := OUT.out UB KUB.out (by rw [HKB.out]; simp)
              exact ⟨O', q1, q2, rfl, q3, q4⟩
          · have j0 : (0 : Int) < (k : Int) := by omega
            have j0n : 0 < k := by omega
            have j5 : (0 : Int) < (S : Int) := by omega
            have j6 : 0 < lc - F := by omega
            by_cases zh : z = h0
            · subst zh
              gi_wp2_with (fail)
              refine region_round [0, 1, 2, 3, 4, 5, 8, 9, 10, 11, 6, 7, 12, 13] (fun U => Kept V9 U) (by kernel_rfl) (by kernel_rfl) (by kernel_rfl) (by rw [HVx.out]; exact Kept.refl _) (fun _ => ?_)
              rw [HVx.out]
              repeat (refine pq rfl rfl ?_; go_big_quiet_step (fail); refine wpQuiet_nil ?_)
              refine pl rfl rfl ?_
              gi_wp2_with (fail)
              refine ⟨trivial, ?_⟩
              refine (callsIn_wide.2 (key_c _ a (k : Int) _ hkz.out)).mono ?_
              rintro e U ⟨rfl, rfl⟩
              gi_wp2_with (fail)
              refine ⟨Wd.mem (Kept.refl _), ?_⟩
              refine pl rfl rfl ?_
              gi_wp2_with (fail)
              refine ⟨trivial, ?_⟩
              refine (callsIn_wide.2 (lk_p _ b s _ z MV9.out HZ.out)).mono ?_
              rintro e U ⟨rfl, rfl⟩
              gi_wp2_with (fail)
              refine ⟨Wd.mem (Kept.refl _), ?_⟩
              repeat (refine pq rfl rfl ?_; go_big_quiet_step (fail); refine wpQuiet_nil ?_)
              refine perm_done ?_
              cases v with
              | true =>
                obtain ⟨VB, hVy⟩ : ∃ VB, V9.drew = VB := ⟨_, rfl⟩
                have kVy : Kept V9 VB := by rw [← hVy]; exact Kept.drew _
                have HVy := hide hVy
                have w0 : ∀ u : Wd (fun U => Kept VB U), u.w.cell? ⟨n, 0, none⟩ = some (.pointer (some ⟨b, 0, none⟩)) := fun u => u.ok.cell (kVy.cell cM id) id
                have MVB := hide (MV9.out.kept kVy)
                have KBB : Hid (Kept B VB) := hide (KB9.out.trans kVy)
                have OWB := hide (HOWN.out VB (KB.out.trans KBB.out))
                clear hVy kVy y2 y3 y4 cM f6 c6
                gi_wp2_with (fail)
                refine region_round [0, 1, 2, 4, 3, 5, 6] (fun U => Kept VB U) (by kernel_rfl) (by kernel_rfl) (by kernel_rfl) (by rw [HVy.out]; exact Kept.refl _) (fun _ => ?_)
                rw [HVy.out]
                repeat (refine pq rfl rfl ?_; go_big_quiet_step (fail); refine wpQuiet_nil ?_)
                refine pl rfl rfl ?_
                gi_wp2_with (fail)
                refine ⟨trivial, ?_⟩
                refine (callsIn_wide.2 (lk_p _ b s sl u MVB.out HU.out)).mono ?_
                rintro e U ⟨rfl, rfl⟩
                gi_wp2_with (fail)
                refine ⟨Wd.mem (Kept.refl _), ?_⟩
                refine pl rfl rfl ?_
                gi_wp2_with (fail)
                refine ⟨trivial, ?_⟩
                refine (callsIn_wide.2 (IH.out VB b s MVB.out HO.out u HUI.out HUW.out own S HOWL.out (by omega) _ (lc - F) OWB.out (by omega) (by unfold maxLen; omega) true HV.out)).mono ?_
                rintro e UB ⟨rfl, kUB⟩
                have KUB : Hid (Kept B UB) := hide (KBB.out.trans kUB)
                have KCL := hide kUB
                have f6 := (KUB.out.boxed RB.out id).frozen
                have c6 := (KUB.out.boxed RB.out id).cell
                clear kUB
                gi_wp2_with (fail)
                refine ⟨Wd.mem KCL.out, ?_⟩
                repeat (refine pq rfl rfl ?_; go_big_quiet_step (fail); refine wpQuiet_nil ?_)
                refine perm_done ?_
                gi_wp2
                exact GO.out UB KUB.out (by rw [HKB.out]; simp)
              | false =>
                obtain ⟨VB, hVy⟩ : ∃ VB, V9.drew = VB := ⟨_, rfl⟩
                have kVy : Kept V9 VB := by rw [← hVy]; exact Kept.drew _
                have HVy := hide hVy
                have w0 : ∀ u : Wd (fun U => Kept VB U), u.w.cell? ⟨n, 0, none⟩ = some (.pointer (some ⟨b, 0, none⟩)) := fun u => u.ok.cell (kVy.cell cM id) id
                have MVB := hide (MV9.out.kept kVy)
                have KBB : Hid (Kept B VB) := hide (KB9.out.trans kVy)
                have OWB := hide (HOWN.out VB (KB.out.trans KBB.out))
                clear hVy kVy y2 y3 y4 cM f6 c6
                gi_wp2_with (fail)
                refine region_round [0, 1, 2, 4, 3, 5, 6] (fun U => Kept VB U) (by kernel_rfl) (by kernel_rfl) (by kernel_rfl) (by rw [HVy.out]; exact Kept.refl _) (fun _ => ?_)
                rw [HVy.out]
                repeat (refine pq rfl rfl ?_; go_big_quiet_step (fail); refine wpQuiet_nil ?_)
                refine pl rfl rfl ?_
                gi_wp2_with (fail)
                refine ⟨trivial, ?_⟩
                refine (callsIn_wide.2 (lk_p _ b s sl u MVB.out HU.out)).mono ?_
                rintro e U ⟨rfl, rfl⟩
                gi_wp2_with (fail)
                refine ⟨Wd.mem (Kept.refl _), ?_⟩
                refine pl rfl rfl ?_
                gi_wp2_with (fail)
                refine ⟨trivial, ?_⟩
                refine (callsIn_wide.2 (IH.out VB b s MVB.out HO.out u HUI.out HUW.out own S HOWL.out (by omega) _ (lc - F) OWB.out (by omega) (by unfold maxLen; omega) false HV.out)).mono ?_
                rintro e UB ⟨rfl, kUB⟩
                have KUB : Hid (Kept B UB) := hide (KBB.out.trans kUB)
                have KCL := hide kUB
                have f6 := (KUB.out.boxed RB.out id).frozen
                have c6 := (KUB.out.boxed RB.out id).cell
                clear kUB
                gi_wp2_with (fail)
                refine ⟨Wd.mem KCL.out, ?_⟩
                repeat (refine pq rfl rfl ?_; go_big_quiet_step (fail); refine wpQuiet_nil ?_)
                refine perm_done ?_
                gi_wp2
                obtain ⟨O', q1, q2, q3, q4⟩ := OUT.out UB KUB.out (by rw [HKB.out]; simp)
                exact ⟨O', q1, q2, rfl, q3, q4⟩
            · have g1 : (z == h0) = false := by simp [zh]
              have g2 : (z != h0) = true := by simp [zh]
              have KF : Hid (kidB s f x ps ((k : Int), sl) = false) := hide (by rw [HKB.out, g1]; simp; omega)
              gi_wp2_with (fail)
              refine region_round [0, 1, 2, 3, 4, 5, 8, 9, 10, 11, 6, 7, 12, 13] (fun U => Kept V9 U) (by kernel_rfl) (by kernel_rfl) (by kernel_rfl) (by rw [HVx.out]; exact Kept.refl _) (fun _ => ?_)
              rw [HVx.out]
              repeat (refine pq rfl rfl ?_; go_big_quiet_step (fail); refine wpQuiet_nil ?_)
              refine pl rfl rfl ?_
              gi_wp2_with (fail)
              refine ⟨trivial, ?_⟩
              refine (callsIn_wide.2 (key_c _ a (k : Int) _ hkz.out)).mono ?_
              rintro e U ⟨rfl, rfl⟩
              gi_wp2_with (fail)
              refine ⟨Wd.mem (Kept.refl _), ?_⟩
              refine pl rfl rfl ?_
              gi_wp2_with (fail)
              refine ⟨trivial, ?_⟩
              refine (callsIn_wide.2 (lk_p _ b s _ z MV9.out HZ.out)).mono ?_
              rintro e U ⟨rfl, rfl⟩
              gi_wp2_with (fail)
              refine ⟨Wd.mem (Kept.refl _), ?_⟩
              repeat (refine pq rfl rfl ?_; go_big_quiet_step (fail); refine wpQuiet_nil ?_)
              refine perm_done ?_
              gi_wp2
              obtain ⟨O', q1, q2, q3, q4⟩ := OUT.out V9 KB9.out KF.out
              exact ⟨O', q1, q2, rfl, q3, q4⟩
      case done =>
        rintro D O X hD nD tX sX ⟨hpre, hO, rX⟩ hK
        have HR : Hid (r = true) := hide (by rw [← HE3.out]; exact List.all_eq_true.2 hpre)
        have nD2 : D ≠ n + 2 := by have := L1.out; omega
        have c6 := rX.cell
        have f6 := rX.frozen
        have tS : Turned (fun k => k = n + 2) X (X.setCell ⟨n + 2, 0, none⟩ (.bool true)) := Turned.setCell _ _ _ rfl
        have hK2 : Hid ((X.setCell ⟨n + 2, 0, none⟩ (.bool true)).heap[D]? = some (.deferred (some []))) := hide (tS.heap hK nD2)
        have CS : Hid ((X.setCell ⟨n + 2, 0, none⟩ (.bool true)).cell? ⟨n + 2, 0, none⟩ = some (.bool true)) := hide (rX.set (.bool true)).cell
        have KX : Hid (Kept w (X.setCell ⟨n + 2, 0, none⟩ (.bool true))) := hide ((K3'.out.did (by have := HN.out; omega) tX).did (by have := HN.out; omega) tS)
        clear hK rX tS tX sX hO nD
        go_wp2
        refine leave_marks [D] _ ?_ ?_ ?_
        · intro k hk
          simp at hk
          rw [hk]
          exact hK2.out
        · simp
        · intro X' hX'
          have q1 := hX'.cell CS.out (by simp; omega)
          exact ⟨.bool true, by simp [results, Try.results65, go_sem, q1], by rw [HR.out], KX.out.own (fun i hi => by simp at hi; have := K3'.out.size; omega) hX'⟩
      case stop =>
        rintro D O c pre rest X hD nD tX sX hx' ⟨rfl, ⟨p, hp, hm⟩, hO, rX⟩ hK
        have HR : Hid (r = false) := hide (by rw [← HE3.out]; exact List.all_eq_false.2 ⟨p, by rw [hx']; exact List.mem_append_left _ hp, by simp [hm]⟩)
        have nD2 : D ≠ n + 2 := by have := L1.out; omega
        have c6 := rX.cell
        have f6 := rX.frozen
        have tS : Turned (fun k => k = n + 2) X X := Turned.refl _ _
        have hK2 : Hid (X.heap[D]? = some (.deferred (some []))) := hide (tS.heap hK nD2)
        have CS : Hid (X.cell? ⟨n + 2, 0, none⟩ = some (.bool false)) := hide rX.cell
        have KX : Hid (Kept w X) := hide ((K3'.out.did (by have := HN.out; omega) tX).did (by have := HN.out; omega) tS)
        clear hK rX tS tX sX hO nD
        go_wp2
        refine leave_marks [D] _ ?_ ?_ ?_
        · intro k hk
          simp at hk
          rw [hk]
          exact hK2.out
        · simp
        · intro X' hX'
          have q1 := hX'.cell CS.out (by simp; omega)
          exact ⟨.bool false, by simp [results, Try.results65, go_sem, q1], by rw [HR.out], KX.out.own (fun i hi => by simp at hi; have := K3'.out.size; omega) hX'⟩
end Go.Proofs.Ytbojjpmcopnjpaa

/-! The program's isIdeal, Ideal. -/
namespace Go.Proofs.Ytbojjpmcopnjpaa
open Go.RowKit Go.Shelf

theorem idealF_kind (s : Mst) : ∀ (f : Nat) (x : Int) (ps : List (Int × Int)), kd x ≠ 3 → idealF s f x ps = if kd x = 1 then ps.isEmpty else if kd x = 2 then ps.length == 1 else false
  | 0, _, _, _ => rfl
  | f + 1, x, ps, h => by rw [idealF_succ, if_neg h]

set_option maxRecDepth 20000 in
theorem ideal_other (f : Nat) (w : World) (b : Nat) (s : Mst) (x : Int) (hx : I64 x) (k3 : kd x ≠ 3) (ps : List (Int × Int)) (M : Nat) (hM : ps.length = M) (la : Option Addr) (lc : Nat) (r : Bool) (e1 : idealF s f x ps = r) :
    Calls Try.prog 37 #[.pointer (some ⟨b, 0, none⟩), .int .i64 x, .slice la M lc] w fun e w' => e = .returned (.bool r) ∧ Kept w w' := by
  have HX := hide hx
  obtain ⟨k, hk⟩ : ∃ k, kd x = k := ⟨_, rfl⟩
  have HK := hide hk
  have e2 : r = if k = 1 then decide (M = 0) else if k = 2 then decide (M = 1) else false := by
    rw [← e1, idealF_kind s f x ps k3, hk, ← hM]
    split
    · cases ps <;> rfl
    · split
      · cases h : (ps.length == 1) <;> simp_all
      · rfl
  have HE := hide e2
  rw [hk] at k3
  clear hx hk e1 e2 hM
  by_cases k1 : k = 1
  · subst k1
    by_cases m0 : M = 0
    · subst m0
      have HR : Hid (r = true) := hide (by rw [HE.out]; rfl)
      go_enter Try.func37, Try.ntmps37
      go_wp2_with (fail)
      refine (kk_p _ x 1 HX.out HK.out).mono ?_
      rintro e w' ⟨rfl, rfl⟩
      go_wp2
      go_ret
      exact ⟨by rw [HR.out]; rfl, Kept.refl _⟩
    · have HR : Hid (r = false) := hide (by rw [HE.out]; simp [m0])
      have g1 : ((M : Int) == 0) = false := by simp [m0]
      have g2 : (M == 0) = false := by simp [m0]
      go_enter Try.func37, Try.ntmps37
      go_wp2_with (fail)
      refine (kk_p _ x 1 HX.out HK.out).mono ?_
      rintro e w' ⟨rfl, rfl⟩
      go_wp2
      go_ret
      exact ⟨by rw [HR.out]; rfl, Kept.refl _⟩
  by_cases k2 : k = 2
  · subst k2
    by_cases m0 : M = 1
    · subst m0
      have HR : Hid (r = true) := hide (by rw [HE.out]; rfl)
      go_enter Try.func37, Try.ntmps37
      go_wp2_with (fail)
      refine (kk_p _ x 2 HX.out HK.out).mono ?_
      rintro e w' ⟨rfl, rfl⟩
      go_wp2
      go_ret
      exact ⟨by rw [HR.out]; rfl, Kept.refl _⟩
    · have HR : Hid (r = false) := hide (by rw [HE.out]; simp [m0])
      have g1 : ((M : Int) == 1) = false := by simp; omega
      have g2 : (M == 1) = false := by simp [m0]
      go_enter Try.func37, Try.ntmps37
      go_wp2_with (fail)
      refine (kk_p _ x 2 HX.out HK.out).mono ?_
      rintro e w' ⟨rfl, rfl⟩
      go_wp2
      go_ret
      exact ⟨by rw [HR.out]; rfl, Kept.refl _⟩
  · have HR : Hid (r = false) := hide (by rw [HE.out, if_neg k1, if_neg k2])
    have g1 : (k == 1) = false := by simp [k1]
    have g2 : (k == 2) = false := by simp [k2]
    have g3 : (k == 3) = false := by simp [k3]
    clear k1 k2 k3
    go_enter Try.func37, Try.ntmps37
    go_wp2_with (fail)
    refine (kk_p _ x k HX.out HK.out).mono ?_
    rintro e w' ⟨rfl, rfl⟩
    go_wp2
    go_ret
    exact ⟨by rw [HR.out]; rfl, Kept.refl _⟩
theorem isIdeal_p : ∀ f, IdealC f
  | 0 => fun w b s _ _ x hx hw ps M hM _ la lc _ _ _ r e1 => by
    by_cases k3 : kd x = 3
    · exact (hw k3).elim
    · exact ideal_other 0 w b s x hx k3 ps M hM la lc r e1
  | f + 1 => fun w b s h ho x hx hw ps M hM hM2 la lc hr hlc hlm r e1 => by
    by_cases k3 : kd x = 3
    · have HC := hide (idealInner_p f (isIdeal_p f) w b s h ho x k3 (hw k3) ps M hM hM2 la lc hr hlc hlm r (by rw [← e1, idealF_succ, if_neg (by rw [k3]; decide), if_neg (by rw [k3]; decide), if_pos k3]))
      have HX := hide hx
      have HK := hide k3
      clear h ho hx hw hr e1 k3 hM hM2 hlc hlm
      go_enter Try.func37, Try.ntmps37
      go_wp2_with (fail)
      refine (kk_p _ x 3 HX.out HK.out).mono ?_
      rintro e w' ⟨rfl, rfl⟩
      go_wp2_with (fail)
      refine HC.out.mono ?_
      rintro e W1 ⟨rfl, k1⟩
      have K1 := hide k1
      clear k1 HC
      go_wp2
      go_ret
      exact ⟨rfl, K1.out⟩
    · exact ideal_other (f + 1) w b s x hx k3 ps M hM la lc r e1

def idealB (s : Mst) (x : Int) : Bool := inTreeB s x && idealF s (fuel s) x (pairsF s (fuel s) x)
theorem pairsF_len {s : Mst} {f : Nat} {x : Int} (h : (spotsF s f x).length ≤ 70000) : (pairsF s f x).length ≤ 70001 := by
  have h1 := leafL_len s x
  have h2 := leaves_len s (spotsF s f x)
  unfold pairsF
  rw [List.length_append]
  omega
theorem ideal_p (w : World) (b : Nat) (s : Mst) (x : Int) (h : PM w b s) (ho : s.ok) (hx : I64 x) (r : Bool) (e1 : idealB s x = r) :
    Calls Try.prog 10 #[.pointer (some ⟨b, 0, none⟩), .int .i64 x] w fun e w' => e = .returned (.bool r) ∧ Kept w w' := by
  have H := hide h
  have HO := hide ho
  have HX := hide hx
  obtain ⟨q, hq⟩ : ∃ q, inTreeB s x = q := ⟨_, rfl⟩
  have HQ := hide hq
  unfold idealB at e1
  rw [hq] at e1
  cases q with
  | false =>
    have HR : Hid (r = false) := hide (by rw [← e1]; rfl)
    clear h ho hx hq e1
    go_enter Try.func10, Try.ntmps10
    go_wp2_with (fail)
    refine (isInTree_p _ b s x H.out HO.out HX.out false HQ.out).mono ?_
    rintro e W2 ⟨rfl, k2⟩
    have K2 := hide k2
    clear k2
    go_wp2
    go_ret
    exact ⟨by rw [HR.out]; rfl, K2.out⟩
  | true =>
    have HE : Hid (idealF s (fuel s) x (pairsF s (fuel s) x) = r) := hide e1
    obtain ⟨hwf, hlen⟩ := inTree_wf ho hq
    have HWF := hide hwf
    have HLEN := hide hlen
    have HLL := hide (pairsF_len hlen)
    clear h ho hx hq e1 hwf hlen
    go_enter Try.func10, Try.ntmps10
    go_wp2_with (fail)
    refine (isInTree_p _ b s x H.out HO.out HX.out true HQ.out).mono ?_
    rintro e W2 ⟨rfl, k2⟩
    have K2 := hide k2
    clear k2
    go_wp2_with (fail)
    refine (pairsBelow_p W2 b s (H.out.kept K2.out) HO.out (fuel s) x HWF.out HLEN.out _ rfl).mono ?_
    rintro e W3 ⟨v, rfl, hr, k3⟩
    obtain ⟨la, lc, hv, hrd, hlc, hlm, _⟩ := hr.reads
    obtain ⟨M, hM⟩ : ∃ M, (pairsF s (fuel s) x).length = M := ⟨_, rfl⟩
    have HMM := hide hM
    have hm : M ≤ 70001 := by rw [← hM]; exact HLL.out
    rw [hM] at hv hlc
    subst hv
    have HRD := hide hrd
    have HLC := hide hlc
    have HLM := hide hlm
    have K3 := hide (K2.out.trans k3)
    clear hr k3 hrd hlc hlm hM
    go_wp2_with (fail)
    refine (isIdeal_p (fuel s) W3 b s (H.out.kept K3.out) HO.out x HX.out (fun _ => HWF.out) _ M HMM.out (by omega) la lc HRD.out HLC.out HLM.out r HE.out).mono ?_
    rintro e W4 ⟨rfl, k4⟩
    have K4 := hide (K3.out.trans k4)
    clear k4
    go_wp2
    go_ret
    exact ⟨rfl, K4.out⟩
end Go.Proofs.Ytbojjpmcopnjpaa

/-! ordinatelaw9.of and two: a memory of these cells; ref1.Pairs of two lists that are alike. -/
namespace Go.Proofs.Ytbojjpmcopnjpaa
open Go.RowKit

theorem pairs_same (W : World) (a b : Option Addr) (xs : List (Int × Int)) (M ca cb : Nat) (hM : xs.length = M) (ha : PReads W a xs) (hb : PReads W b xs) (h1 : M ≤ ca) (h2 : M ≤ cb) (hl : M ≤ 1000000) :
    Calls Try.prog 11 #[.slice a M ca, .slice b M cb] W fun e w' => e = .returned (.bool true) ∧ Kept W w' := by
  have HA := hide ha
  have HB := hide hb
  have HM := hide hM
  clear ha hb hM
  go_enter Try.func11, Try.ntmps11
  go_wp2
  go_loopw [5] (fun i wr => ∃ k d : Nat, k ≤ M ∧ i = .int .i64 (k : Int) ∧ wr = W.drewN d) (fun i _ => M - (intOf i).toNat)
  case atStart => exact ⟨0, 0, by omega, by simp, rfl⟩
  case round =>
    obtain ⟨k, d, hk, rfl, rfl⟩ := hrel
    by_cases hkm : k < M
    · obtain ⟨⟨x, y⟩, hp⟩ : ∃ p, xs[k]? = some p := ⟨_, List.getElem?_eq_getElem (by rw [HM.out]; exact hkm)⟩
      obtain ⟨bl, off, rfl, _, p0, p1⟩ := HA.out.at hp
      obtain ⟨bl', off', rfl, _, q0, q1⟩ := HB.out.at hp
      have c0 : W.cell? ⟨bl, off + k * 2, none⟩ = some (.int .i64 x) := p0
      have c1 : W.cell? ⟨bl, off + k * 2 + 1, none⟩ = some (.int .i64 y) := p1
      have d0 : W.cell? ⟨bl', off' + k * 2, none⟩ = some (.int .i64 x) := q0
      have d1 : W.cell? ⟨bl', off' + k * 2 + 1, none⟩ = some (.int .i64 y) := q1
      have j1 : (k : Int) < (M : Int) := by omega
      have j2 : k < ca := by omega
      have j3 : k < cb := by omega
      clear p0 p1 q0 q1 hp
      go_wp2
      go_quiet (fail)
      go_wp2
      exact ⟨⟨k + 1, _, by omega, by simp, rfl⟩, by simp [intOf]; omega⟩
    · have hkm' : k = M := by omega
      subst hkm'
      have j1 : ¬ ((k : Int) < (k : Int)) := by omega
      go_wp2
      go_ret
      exact ⟨rfl, Kept.drewN _ _⟩

/-- A memory of these cells. -/
def ofS (ws : List Int) : Mst := (Mst.new 300).make ws
theorem of_c (W : World) (g : Nat) (ws : List Int) (N cap : Nat) (hN : ws.length = N) (hr : Reads W (some ⟨g, 0, none⟩) ws) (hl : N ≤ 300) :
    Calls Try.prog 25 #[.slice (some ⟨g, 0, none⟩) N cap] W fun e W' => ∃ bm, e = .returned (.pointer (some ⟨bm, 0, none⟩)) ∧ PM W' bm (ofS ws) ∧ Kept W W' := by
  have HR := hide hr
  have HN := hide hN
  clear hr hN
  go_enter Try.func25, Try.ntmps25
  go_wp2_with (fail)
  refine (now_new W W 300 (Kept.refl W) (by decide) (by decide)).mono ?_
  rintro e W1 ⟨rfl, N1, _⟩
  obtain ⟨b, hb⟩ : ∃ b, W.heap.size = b := ⟨_, rfl⟩
  rw [hb] at N1 ⊢
  have M1 := hide N1
  clear N1 hb
  go_wp2_with (fail)
  rw [← HN.out]
  refine (now_put W W1 b (Mst.new 300) _ ws cap _ _ _ M1.out HR.out (by have := HN.out; unfold maxLen; omega) rfl rfl rfl).mono ?_
  rintro e W2 ⟨rfl, N2⟩
  have K2 := hide N2.2
  have M2 : Hid (PM W2 b (ofS ws)) := hide N2.pm
  clear N2 M1
  go_wp2
  go_ret
  exact ⟨b, rfl, M2.out, K2.out⟩

/-- Places and numbers in turn. -/
def turnF : List Int → List Int → List Int
  | ys, p :: z :: l => turnF (ys.set (p - 1).toNat z) l
  | ys, _ => ys
def placesB : List Int → Bool
  | p :: _ :: l => decide (1 ≤ p) && decide (p ≤ 23) && placesB l
  | _ => true
def base23 : List Int := [1, 0, 0, 0, 0, 91, 5, 50, 9, 90, 2, 2, 0, 0, 0, 9, 58, 74, 0, 0, 0, 0, 0]
theorem turnF_len : ∀ (l ys : List Int), (turnF ys l).length = ys.length
  | [], _ => rfl
  | [_], _ => rfl
  | _ :: _ :: l, ys => by rw [turnF, turnF_len l]; simp

set_option maxHeartbeats 1000000 in
set_option maxRecDepth 20000 in
theorem two_c (W : World) (a : Option Addr) (zs : List Int) (N cap : Nat) (hN : zs.length = N) (hr : Reads W a zs) (hc : N ≤ cap) (hl : N ≤ 100) (hp : placesB zs = true) (s : Mst) (e1 : ofS (turnF base23 zs) = s) :
    Calls Try.prog 5 #[.slice a N cap] W fun e W' => ∃ bm, e = .returned (.pointer (some ⟨bm, 0, none⟩)) ∧ PM W' bm s ∧ Kept W W' := by
  have HR := hide hr
  have HN := hide hN
  have HP := hide hp
  have HE := hide e1
  obtain ⟨g, hg⟩ : ∃ g, W.heap.size = g := ⟨_, rfl⟩
  have B0 : Hid ((W.alloc (.cells (cellsOf base23).toArray 2)).heap[g]? = some (.cells (cellsOf base23).toArray 2)) := hide (by rw [← hg]; exact heap_new _ _)
  have K0 : Hid (Kept W (W.alloc (.cells (cellsOf base23).toArray 2))) := hide ((Kept.refl W).alloc _)
  clear hr hN hp e1
  go_enter Try.func5, Try.ntmps5
  go_wp2
  go_loopw [4] (fun i wr => ∃ (k : Nat) (ys rest : List Int), k ≤ 100 ∧ i = .int .i64 (k : Int) ∧ Hid (zs.drop k = rest ∧ k ≤ N) ∧ Hid (turnF ys rest = turnF base23 zs ∧ placesB rest = true ∧ ys.length = 23) ∧ Hid (wr.heap[g]? = some (.cells (cellsOf ys).toArray 2)) ∧ Hid (Kept W wr)) (fun i _ => 102 - (intOf i).toNat)
  case atStart => exact ⟨0, base23, zs, by omega, by simp, hide ⟨by simp, by omega⟩, hide ⟨rfl, HP.out, rfl⟩, B0, K0⟩
  case round =>
    obtain ⟨k, ys, rest, hk, rfl, HD, HT, HB, HK⟩ := hrel
    by_cases hkn : k + 1 < N
    · have j1 : (k : Int) + 1 < (N : Int) := by omega
      obtain ⟨p, z, l, hrest⟩ : ∃ p z l, rest = p :: z :: l := by
        have h1 := HD.out.1
        have h2 : rest.length = N - k := by rw [← h1, List.length_drop, HN.out]
        match rest, h2 with
        | [], h => simp at h; omega
        | [_], h => simp at h; omega
        | p :: z :: l, _ => exact ⟨p, z, l, rfl⟩
      subst hrest
      have hp0 : zs[k]? = some p := by
        have := congrArg (fun l => l[0]?) HD.out.1
        simpa [List.getElem?_drop] using this
      have hp1 : zs[k + 1]? = some z := by
        have := congrArg (fun l => l[1]?) HD.out.1
        simpa [List.getElem?_drop] using this
      obtain ⟨bl, off, rfl, _, q0⟩ := HR.out.at hp0
      obtain ⟨bl', off', e', _, q1⟩ := HR.out.at hp1
      cases e'
      obtain ⟨t1, t2, t3⟩ := HT.out
      simp only [placesB, Bool.and_eq_true, decide_eq_true_eq] at t2
      obtain ⟨⟨p1, p2⟩, t4⟩ := t2
      obtain ⟨m, rfl⟩ : ∃ m : Nat, p = (m : Int) + 1 := ⟨(p - 1).toNat, by omega⟩
      have hm : m < 23 := by omega
      have hm' : ((m : Int) + 1 - 1).toNat = m := by omega
      obtain ⟨V, hV⟩ : ∃ V, wr.drew = V := ⟨_, rfl⟩
      have kV : Kept wr V := by rw [← hV]; exact Kept.drew _
      have HV := hide hV
      have BV := hide (kV.heap HB.out id)
      have KV := hide (HK.out.trans kV)
      have c0 : ∀ u : Wd (fun U => U = V), u.w.cell? ⟨bl, off + k, none⟩ = some (.int .i64 ((m : Int) + 1)) := fun u => by rw [u.ok]; exact KV.out.cell q0 id
      have c1 : ∀ u : Wd (fun U => U = V), u.w.cell? ⟨bl, off + (k + 1), none⟩ = some (.int .i64 z) := fun u => by rw [u.ok]; exact KV.out.cell q1 id
      have f1 : V.frozen? ⟨g, m, none⟩ = false := by simp [World.frozen?, BV.out]
      obtain ⟨y0, hy0⟩ : ∃ y0, ys[m]? = some y0 := ⟨_, List.getElem?_eq_getElem (by omega)⟩
      have f2 : V.cell? ⟨g, m, none⟩ = some (.int .i64 y0) := by
        rw [World.cell?, BV.out]
        simp [hy0]
      have NX : Hid (∃ (k' : Nat) (ys' rest' : List Int), k' ≤ 100 ∧ (Value.int IntKind.i64 ((k : Int) + 2)) = .int .i64 (k' : Int) ∧ Hid (zs.drop k' = rest' ∧ k' ≤ N) ∧ Hid (turnF ys' rest' = turnF base23 zs ∧ placesB rest' = true ∧ ys'.length = 23) ∧ Hid ((V.setCell ⟨g, m, none⟩ (.int .i64 z)).heap[g]? = some (.cells (cellsOf ys').toArray 2)) ∧ Hid (Kept W (V.setCell ⟨g, m, none⟩ (.int .i64 z)))) := hide (by
        refine ⟨k + 2, ys.set m z, l, by omega, by simp, hide ⟨?_, by omega⟩, hide ⟨?_, t4, by simpa using t3⟩, hide ?_, hide ?_⟩
        · have := congrArg (List.drop 2) HD.out.1
          simpa [List.drop_drop] using this
        · rw [← t1, turnF, hm']
        · rw [box_set _ BV.out]
          congr 2
          simp [cellsOf, List.map_set]
        · exact KV.out.did (by omega) (Turned.setCell (R := fun i => i = g) _ _ _ rfl))
      have j2 : k < cap := by omega
      have j3 : k + 1 < cap := by omega
      have j4 : (m : Int) < 23 := by omega
      have j5 : (k : Int) < (N : Int) := by omega
      clear hp0 hp1 q0 q1 t1 t3 t4 p1 p2 hV kV hy0 HT HD HB
      go_wp2_with (fail)
      refine region_last [0, 1, 2, 3, 4, 5, 6, 7, 8, 9, 10, 11] 12 (fun U => U = V) (by kernel_rfl) (by kernel_rfl) HV.out (fun _ => ?_)
      rw [HV.out]
      repeat (refine lq rfl rfl ?_; go_big_quiet_step (fail); refine wpQuiet_nil ?_)
      refine lz rfl ?_
      gi_wp2
      refine last_done ?_
      go_wp2
      exact ⟨NX.out, by simp [intOf]; omega⟩
    · have j1 : ¬ ((k : Int) + 1 < (N : Int)) := by omega
      have hfin : turnF base23 zs = ys := by
        have h1 := HD.out.1
        have h2 : rest.length = N - k := by rw [← h1, List.length_drop, HN.out]
        rw [← HT.out.1]
        match rest, h2 with
        | [], _ => rfl
        | [_], _ => rfl
        | _ :: _ :: _, h => simp at h; omega
      have HF := hide hfin
      have HL23 : Hid (ys.length = 23) := hide HT.out.2.2
      have HRD : Hid (Reads wr (some ⟨g, 0, none⟩) ys) := hide (.inr ⟨g, 0, rfl, fun j z hz => by
        rw [Nat.zero_add, World.cell?, HB.out]
        simp [hz]⟩)
      clear hfin HT HD
      go_wp2_with (fail)
      refine (of_c wr g ys 23 23 HL23.out HRD.out (by omega)).mono ?_
      rintro e W2 ⟨bm, rfl, pm, k2⟩
      have PM2 : Hid (PM W2 bm s) := hide (by rw [← HE.out, HF.out]; exact pm)
      have K2 := hide (HK.out.trans k2)
      clear pm k2
      go_wp2
      go_ret
      exact ⟨bm, rfl, PM2.out, K2.out⟩
end Go.Proofs.Ytbojjpmcopnjpaa

/-! ViewKnown: its walk. -/
namespace Go.Proofs.Ytbojjpmcopnjpaa
open Go.RowKit

theorem preads_new (w : World) (E : TypeId) (xs : List (Int × Int)) : PReads (w.alloc (.cells (flat xs).toArray E)) (some ⟨w.heap.size, 0, none⟩) xs := by
  refine .inr ⟨_, 0, rfl, fun j p hp => ?_⟩
  have hb : (w.alloc (.cells (flat xs).toArray E)).heap[w.heap.size]? = some (.cells (flat xs).toArray E) := heap_new w _
  obtain ⟨h1, h2⟩ := flat_at hp
  rw [Nat.zero_add, Nat.zero_add]
  unfold World.cell?
  rw [hb]
  simp [h1, h2]
def okMB (s : Mst) : Bool := s.xs.all (fun z => decide (-9223372036854775808 ≤ z) && decide (z ≤ 9223372036854775807)) && decide (s.xs.length ≤ 65536)
theorem ok_of {s : Mst} (h : okMB s = true) : s.ok := by
  unfold okMB at h
  simp only [Bool.and_eq_true, List.all_eq_true, decide_eq_true_eq] at h
  exact ⟨fun z hz => h.1 z hz, h.2⟩
def sA : Mst := ofS (turnF base23 [])
theorem okA : sA.ok := ok_of (by decide +kernel)
def sB : Mst := ofS (turnF base23 [14, 2])
theorem okB : sB.ok := ok_of (by decide +kernel)
def sC : Mst := ofS (turnF base23 [16, 5])
theorem okC : sC.ok := ok_of (by decide +kernel)
def sD : Mst := ofS (turnF base23 [13, 1])
theorem okD : sD.ok := ok_of (by decide +kernel)
def sE : Mst := ofS (turnF base23 [19, 3, 20, 6, 21, 91, 22, 58, 6, 157])
theorem okE : sE.ok := ok_of (by decide +kernel)
def sF : Mst := ofS (turnF base23 [19, 3, 20, 6, 21, 91, 22, 58, 23, 1, 6, 157])
theorem okF : sF.ok := ok_of (by decide +kernel)
def sG : Mst := ofS (turnF base23 [19, 3, 20, 7, 21, 91, 22, 58, 6, 157])
theorem okG : sG.ok := ok_of (by decide +kernel)
def sH : Mst := ofS (turnF base23 [19, 91, 20, 3, 21, 6, 6, 156])
theorem okH : sH.ok := ok_of (by decide +kernel)
theorem sASound : soundB sA = true := by decide +kernel
theorem sACalm : calmB sA = true := by decide +kernel
theorem sADepth91 : depthB sA 91 = 1 := by decide +kernel
theorem sAIdeal91 : idealB sA 91 = true := by decide +kernel
theorem sAContent91 : contentB sA 91 = [(5, 50), (9, 90)] := by decide +kernel
theorem sASpots : (if soundB sA = true then spotsL sA (fuel sA) else []) = [(6, 91), (17, 58), (18, 74)] := by decide +kernel
theorem sBSound : soundB sB = true := by decide +kernel
theorem sBCalm : calmB sB = false := by decide +kernel
theorem sBIdeal91 : idealB sB 91 = false := by decide +kernel
theorem sCSound : soundB sC = false := by decide +kernel
theorem sCContent91 : contentB sC 91 = [] := by decide +kernel
theorem sDSound : soundB sD = true := by decide +kernel
theorem sDCalm : calmB sD = false := by decide +kernel
theorem sDIdeal91 : idealB sD 91 = false := by decide +kernel
theorem sELogic6 : sE.logicZ 6 = 91 := by decide +kernel
theorem sESound : soundB sE = true := by decide +kernel
theorem sECalm : calmB sE = false := by decide +kernel
theorem sEIdeal91 : idealB sE 91 = true := by decide +kernel
theorem sFLogic6 : sF.logicZ 6 = 58 := by decide +kernel
theorem sFSound : soundB sF = true := by decide +kernel
theorem sFContent58 : contentB sF 58 = [(5, 50)] := by decide +kernel
theorem sGSound : soundB sG = false := by decide +kernel
theorem sHSound : soundB sH = true := by decide +kernel
theorem sHCalm : calmB sH = false := by decide +kernel
theorem sHDepth156 : depthB sH 156 = 1 := by decide +kernel
theorem sHContent156 : contentB sH 156 = [(5, 50), (9, 90)] := by decide +kernel
theorem sHIdeal156 : idealB sH 156 = false := by decide +kernel
theorem sHIdeal91 : idealB sH 91 = true := by decide +kernel
theorem sHContent58 : contentB sH 58 = [(5, 50)] := by decide +kernel
theorem sHContent3 : contentB sH 3 = [] := by decide +kernel
theorem sHSpots : (if soundB sH = true then spotsL sH (fuel sH) else []) = [(6, 156), (17, 58), (18, 74)] := by decide +kernel

set_option maxHeartbeats 8000000 in
set_option maxRecDepth 20000 in
theorem viewKnown_c (w : World) : Calls Try.prog 3 #[] w fun e w' => e = .returned (.bool true) ∧ Kept w w' := by
  go_enter Try.func3, Try.ntmps3
  have KW := hide (Kept.refl w)
  go_wp2_with (fail)
  refine (two_c w none [] 0 0 rfl (.inl rfl) (by omega) (by omega) rfl sA rfl).mono ?_
  rintro e W1 ⟨bA, rfl, pm, k1⟩
  have PA := hide pm
  have KW := hide (KW.out.trans k1)
  clear pm k1
  go_wp2_with (fail)
  obtain ⟨W2, hWx⟩ : ∃ X, W1.alloc (.cells #[.int .i64 14, .int .i64 2] 3) = X := ⟨_, rfl⟩
  obtain ⟨mB, hm⟩ : ∃ m, W1.heap.size = m := ⟨_, rfl⟩
  have rx : Hid (Reads W2 (some ⟨mB, 0, none⟩) [14, 2]) := hide (by rw [← hWx, ← hm]; exact Reads.new W1 3 [14, 2])
  have kx : Kept W1 W2 := by rw [← hWx]; exact (Kept.refl _).alloc _
  have KW := hide (KW.out.trans kx)
  have PA := hide (PA.out.kept kx)
  rw [hWx, hm]
  clear hWx hm kx
  refine (two_c W2 _ [14, 2] 2 2 rfl rx.out (by omega) (by omega) rfl sB rfl).mono ?_
  rintro e W3 ⟨bB, rfl, pm, k1⟩
  have PB := hide pm
  have KW := hide (KW.out.trans k1)
  have PA := hide (PA.out.kept k1)
  clear pm k1
  go_wp2_with (fail)
  obtain ⟨W4, hWx⟩ : ∃ X, W3.alloc (.cells #[.int .i64 16, .int .i64 5] 3) = X := ⟨_, rfl⟩
  obtain ⟨mC, hm⟩ : ∃ m, W3.heap.size = m := ⟨_, rfl⟩
  have rx : Hid (Reads W4 (some ⟨mC, 0, none⟩) [16, 5]) := hide (by rw [← hWx, ← hm]; exact Reads.new W3 3 [16, 5])
  have kx : Kept W3 W4 := by rw [← hWx]; exact (Kept.refl _).alloc _
  have KW := hide (KW.out.trans kx)
  have PA := hide (PA.out.kept kx)
  have PB := hide (PB.out.kept kx)
  rw [hWx, hm]
  clear hWx hm kx
  refine (two_c W4 _ [16, 5] 2 2 rfl rx.out (by omega) (by omega) rfl sC rfl).mono ?_
  rintro e W5 ⟨bC, rfl, pm, k1⟩
  have PC := hide pm
  have KW := hide (KW.out.trans k1)
  have PA := hide (PA.out.kept k1)
  have PB := hide (PB.out.kept k1)
  clear pm k1
  go_wp2_with (fail)
  obtain ⟨W6, hWx⟩ : ∃ X, W5.alloc (.cells #[.int .i64 13, .int .i64 1] 3) = X := ⟨_, rfl⟩
  obtain ⟨mD, hm⟩ : ∃ m, W5.heap.size = m := ⟨_, rfl⟩
  have rx : Hid (Reads W6 (some ⟨mD, 0, none⟩) [13, 1]) := hide (by rw [← hWx, ← hm]; exact Reads.new W5 3 [13, 1])
  have kx : Kept W5 W6 := by rw [← hWx]; exact (Kept.refl _).alloc _
  have KW := hide (KW.out.trans kx)
  have PA := hide (PA.out.kept kx)
  have PB := hide (PB.out.kept kx)
  have PC := hide (PC.out.kept kx)
  rw [hWx, hm]
  clear hWx hm kx
  refine (two_c W6 _ [13, 1] 2 2 rfl rx.out (by omega) (by omega) rfl sD rfl).mono ?_
  rintro e W7 ⟨bD, rfl, pm, k1⟩
  have PD := hide pm
  have KW := hide (KW.out.trans k1)
  have PA := hide (PA.out.kept k1)
  have PB := hide (PB.out.kept k1)
  have PC := hide (PC.out.kept k1)
  clear pm k1
  go_wp2_with (fail)
  obtain ⟨W8, hWx⟩ : ∃ X, W7.alloc (.cells #[.int .i64 19, .int .i64 3, .int .i64 20, .int .i64 6, .int .i64 21, .int .i64 91, .int .i64 22, .int .i64 58, .int .i64 6, .int .i64 157] 3) = X := ⟨_, rfl⟩
  obtain ⟨mE, hm⟩ : ∃ m, W7.heap.size = m := ⟨_, rfl⟩
  have rx : Hid (Reads W8 (some ⟨mE, 0, none⟩) [19, 3, 20, 6, 21, 91, 22, 58, 6, 157]) := hide (by rw [← hWx, ← hm]; exact Reads.new W7 3 [19, 3, 20, 6, 21, 91, 22, 58, 6, 157])
  have kx : Kept W7 W8 := by rw [← hWx]; exact (Kept.refl _).alloc _
  have KW := hide (KW.out.trans kx)
  have PA := hide (PA.out.kept kx)
  have PB := hide (PB.out.kept kx)
  have PC := hide (PC.out.kept kx)
  have PD := hide (PD.out.kept kx)
  rw [hWx, hm]
  clear hWx hm kx
  refine (two_c W8 _ [19, 3, 20, 6, 21, 91, 22, 58, 6, 157] 10 10 rfl rx.out (by omega) (by omega) rfl sE rfl).mono ?_
  rintro e W9 ⟨bE, rfl, pm, k1⟩
  have PE := hide pm
  have KW := hide (KW.out.trans k1)
  have PA := hide (PA.out.kept k1)
  have PB := hide (PB.out.kept k1)
  have PC := hide (PC.out.kept k1)
  have PD := hide (PD.out.kept k1)
  clear pm k1
  go_wp2_with (fail)
  obtain ⟨W10, hWx⟩ : ∃ X, W9.alloc (.cells #[.int .i64 19, .int .i64 3, .int .i64 20, .int .i64 6, .int .i64 21, .int .i64 91, .int .i64 22, .int .i64 58, .int .i64 23, .int .i64 1, .int .i64 6, .int .i64 157] 3) = X := ⟨_, rfl⟩
  obtain ⟨mF, hm⟩ : ∃ m, W9.heap.size = m := ⟨_, rfl⟩
  have rx : Hid (Reads W10 (some ⟨mF, 0, none⟩) [19, 3, 20, 6, 21, 91, 22, 58, 23, 1, 6, 157]) := hide (by rw [← hWx, ← hm]; exact Reads.new W9 3 [19, 3, 20, 6, 21, 91, 22, 58, 23, 1, 6, 157])
  have kx : Kept W9 W10 := by rw [← hWx]; exact (Kept.refl _).alloc _
  have KW := hide (KW.out.trans kx)
  have PA := hide (PA.out.kept kx)
  have PB := hide (PB.out.kept kx)
  have PC := hide (PC.out.kept kx)
  have PD := hide (PD.out.kept kx)
  have PE := hide (PE.out.kept kx)
  rw [hWx, hm]
  clear hWx hm kx
  refine (two_c W10 _ [19, 3, 20, 6, 21, 91, 22, 58, 23, 1, 6, 157] 12 12 rfl rx.out (by omega) (by omega) rfl sF rfl).mono ?_
  rintro e W11 ⟨bF, rfl, pm, k1⟩
  have PF := hide pm
  have KW := hide (KW.out.trans k1)
  have PA := hide (PA.out.kept k1)
  have PB := hide (PB.out.kept k1)
  have PC := hide (PC.out.kept k1)
  have PD := hide (PD.out.kept k1)
  have PE := hide (PE.out.kept k1)
  clear pm k1
  go_wp2_with (fail)
  obtain ⟨W12, hWx⟩ : ∃ X, W11.alloc (.cells #[.int .i64 19, .int .i64 3, .int .i64 20, .int .i64 7, .int .i64 21, .int .i64 91, .int .i64 22, .int .i64 58, .int .i64 6, .int .i64 157] 3) = X := ⟨_, rfl⟩
  obtain ⟨mG, hm⟩ : ∃ m, W11.heap.size = m := ⟨_, rfl⟩
  have rx : Hid (Reads W12 (some ⟨mG, 0, none⟩) [19, 3, 20, 7, 21, 91, 22, 58, 6, 157]) := hide (by rw [← hWx, ← hm]; exact Reads.new W11 3 [19, 3, 20, 7, 21, 91, 22, 58, 6, 157])
  have kx : Kept W11 W12 := by rw [← hWx]; exact (Kept.refl _).alloc _
  have KW := hide (KW.out.trans kx)
  have PA := hide (PA.out.kept kx)
  have PB := hide (PB.out.kept kx)
  have PC := hide (PC.out.kept kx)
  have PD := hide (PD.out.kept kx)
  have PE := hide (PE.out.kept kx)
  have PF := hide (PF.out.kept kx)
  rw [hWx, hm]
  clear hWx hm kx
  refine (two_c W12 _ [19, 3, 20, 7, 21, 91, 22, 58, 6, 157] 10 10 rfl rx.out (by omega) (by omega) rfl sG rfl).mono ?_
  rintro e W13 ⟨bG, rfl, pm, k1⟩
  have PG := hide pm
  have KW := hide (KW.out.trans k1)
  have PA := hide (PA.out.kept k1)
  have PB := hide (PB.out.kept k1)
  have PC := hide (PC.out.kept k1)
  have PD := hide (PD.out.kept k1)
  have PE := hide (PE.out.kept k1)
  have PF := hide (PF.out.kept k1)
  clear pm k1
  go_wp2_with (fail)
  obtain ⟨W14, hWx⟩ : ∃ X, W13.alloc (.cells #[.int .i64 19, .int .i64 91, .int .i64 20, .int .i64 3, .int .i64 21, .int .i64 6, .int .i64 6, .int .i64 156] 3) = X := ⟨_, rfl⟩
  obtain ⟨mH, hm⟩ : ∃ m, W13.heap.size = m := ⟨_, rfl⟩
  have rx : Hid (Reads W14 (some ⟨mH, 0, none⟩) [19, 91, 20, 3, 21, 6, 6, 156]) := hide (by rw [← hWx, ← hm]; exact Reads.new W13 3 [19, 91, 20, 3, 21, 6, 6, 156])
  have kx : Kept W13 W14 := by rw [← hWx]; exact (Kept.refl _).alloc _
  have KW := hide (KW.out.trans kx)
  have PA := hide (PA.out.kept kx)
  have PB := hide (PB.out.kept kx)
  have PC := hide (PC.out.kept kx)
  have PD := hide (PD.out.kept kx)
  have PE := hide (PE.out.kept kx)
  have PF := hide (PF.out.kept kx)
  have PG := hide (PG.out.kept kx)
  rw [hWx, hm]
  clear hWx hm kx
  refine (two_c W14 _ [19, 91, 20, 3, 21, 6, 6, 156] 8 8 rfl rx.out (by omega) (by omega) rfl sH rfl).mono ?_
  rintro e W15 ⟨bH, rfl, pm, k1⟩
  have PH := hide pm
  have KW := hide (KW.out.trans k1)
  have PA := hide (PA.out.kept k1)
  have PB := hide (PB.out.kept k1)
  have PC := hide (PC.out.kept k1)
  have PD := hide (PD.out.kept k1)
  have PE := hide (PE.out.kept k1)
  have PF := hide (PF.out.kept k1)
  have PG := hide (PG.out.kept k1)
  clear pm k1
  have KN := hide (Kept.refl W15)
  go_wp2_with (fail)
  refine (known_c W15).mono ?_
  rintro e W16 ⟨rfl, k1⟩
  have KN := hide (KN.out.trans k1)
  clear k1
  go_wp2_with (fail)
  refine (sound_p W16 bA sA (PA.out.kept KN.out) okA true sASound).mono ?_
  rintro e W17 ⟨rfl, k1⟩
  have KN := hide (KN.out.trans k1)
  clear k1
  go_wp2_with (fail)
  refine (calm_p W17 bA sA (PA.out.kept KN.out) okA true sACalm).mono ?_
  rintro e W18 ⟨rfl, k1⟩
  have KN := hide (KN.out.trans k1)
  clear k1
  go_wp2_with (fail)
  refine (depth_p W18 bA sA 91 (PA.out.kept KN.out) okA ⟨by decide, by decide⟩ 1 sADepth91).mono ?_
  rintro e W19 ⟨rfl, k1⟩
  have KN := hide (KN.out.trans k1)
  clear k1
  go_wp2_with (fail)
  refine (ideal_p W19 bA sA 91 (PA.out.kept KN.out) okA ⟨by decide, by decide⟩ true sAIdeal91).mono ?_
  rintro e W20 ⟨rfl, k1⟩
  have KN := hide (KN.out.trans k1)
  clear k1
  go_wp2_with (fail)
  refine (content_p W20 bA sA 91 (PA.out.kept KN.out) okA ⟨by decide, by decide⟩ [(5, 50), (9, 90)] sAContent91).mono ?_
  rintro e W21 ⟨v, rfl, hr, k1⟩
  obtain ⟨la, lc, hv, hrd, hlc, _⟩ := hr.reads
  replace hv : v = .slice la 2 lc := hv
  replace hlc : 2 ≤ lc := hlc
  subst hv
  have HRD := hide hrd
  have HLC := hide hlc
  clear hr hrd hlc
  have KN := hide (KN.out.trans k1)
  clear k1
  go_wp2_with (fail)
  obtain ⟨W22, hWx⟩ : ∃ X, W21.alloc (.cells #[.int .i64 5, .int .i64 50, .int .i64 9, .int .i64 90] 32) = X := ⟨_, rfl⟩
  obtain ⟨m1, hm⟩ : ∃ m, W21.heap.size = m := ⟨_, rfl⟩
  have rx : Hid (PReads W22 (some ⟨m1, 0, none⟩) [(5, 50), (9, 90)]) := hide (by rw [← hWx, ← hm]; exact preads_new W21 32 [(5, 50), (9, 90)])
  have kx : Kept W21 W22 := by rw [← hWx]; exact (Kept.refl _).alloc _
  have HRD := hide (HRD.out.kept kx)
  rw [hWx, hm]
  clear hWx hm
  have KN := hide (KN.out.trans kx)
  clear kx
  refine (pairs_same W22 _ _ [(5, 50), (9, 90)] 2 _ 2 rfl HRD.out rx.out HLC.out (by omega) (by omega)).mono ?_
  rintro e W23 ⟨rfl, k1⟩
  have KN := hide (KN.out.trans k1)
  clear k1
  go_wp2_with (fail)
  refine (spots_p W23 bA sA (PA.out.kept KN.out) okA [(6, 91), (17, 58), (18, 74)] sASpots).mono ?_
  rintro e W24 ⟨v, rfl, hr, k1⟩
  obtain ⟨la, lc, hv, hrd, hlc, _⟩ := hr.reads
  replace hv : v = .slice la 3 lc := hv
  replace hlc : 3 ≤ lc := hlc
  subst hv
  have HRD := hide hrd
  have HLC := hide hlc
  clear hr hrd hlc
  have KN := hide (KN.out.trans k1)
  clear k1
  go_wp2_with (fail)
  obtain ⟨W25, hWx⟩ : ∃ X, W24.alloc (.cells #[.int .i64 6, .int .i64 91, .int .i64 17, .int .i64 58, .int .i64 18, .int .i64 74] 37) = X := ⟨_, rfl⟩
  obtain ⟨m1, hm⟩ : ∃ m, W24.heap.size = m := ⟨_, rfl⟩
  have rx : Hid (PReads W25 (some ⟨m1, 0, none⟩) [(6, 91), (17, 58), (18, 74)]) := hide (by rw [← hWx, ← hm]; exact preads_new W24 37 [(6, 91), (17, 58), (18, 74)])
  have kx : Kept W24 W25 := by rw [← hWx]; exact (Kept.refl _).alloc _
  have HRD := hide (HRD.out.kept kx)
  rw [hWx, hm]
  clear hWx hm
  have KN := hide (KN.out.trans kx)
  clear kx
  refine (spots_same W25 _ _ [(6, 91), (17, 58), (18, 74)] 3 _ 3 rfl HRD.out rx.out HLC.out (by omega) (by omega)).mono ?_
  rintro e W26 ⟨rfl, k1⟩
  have KN := hide (KN.out.trans k1)
  clear k1
  go_wp2_with (fail)
  refine (sound_p W26 bB sB (PB.out.kept KN.out) okB true sBSound).mono ?_
  rintro e W27 ⟨rfl, k1⟩
  have KN := hide (KN.out.trans k1)
  clear k1
  go_wp2_with (fail)
  refine (calm_p W27 bB sB (PB.out.kept KN.out) okB false sBCalm).mono ?_
  rintro e W28 ⟨rfl, k1⟩
  have KN := hide (KN.out.trans k1)
  clear k1
  go_wp2_with (fail)
  refine (ideal_p W28 bB sB 91 (PB.out.kept KN.out) okB ⟨by decide, by decide⟩ false sBIdeal91).mono ?_
  rintro e W29 ⟨rfl, k1⟩
  have KN := hide (KN.out.trans k1)
  clear k1
  go_wp2_with (fail)
  refine (sound_p W29 bC sC (PC.out.kept KN.out) okC false sCSound).mono ?_
  rintro e W30 ⟨rfl, k1⟩
  have KN := hide (KN.out.trans k1)
  clear k1
  go_wp2_with (fail)
  refine (content_p W30 bC sC 91 (PC.out.kept KN.out) okC ⟨by decide, by decide⟩ [] sCContent91).mono ?_
  rintro e W31 ⟨v, rfl, hr, k1⟩
  obtain ⟨la, lc, hv, hrd, hlc, _⟩ := hr.reads
  replace hv : v = .slice la 0 lc := hv
  replace hlc : 0 ≤ lc := hlc
  subst hv
  clear hr hrd hlc
  have KN := hide (KN.out.trans k1)
  clear k1
  go_wp2_with (fail)
  refine (sound_p W31 bD sD (PD.out.kept KN.out) okD true sDSound).mono ?_
  rintro e W32 ⟨rfl, k1⟩
  have KN := hide (KN.out.trans k1)
  clear k1
  go_wp2_with (fail)
  refine (calm_p W32 bD sD (PD.out.kept KN.out) okD false sDCalm).mono ?_
  rintro e W33 ⟨rfl, k1⟩
  have KN := hide (KN.out.trans k1)
  clear k1
  go_wp2_with (fail)
  refine (ideal_p W33 bD sD 91 (PD.out.kept KN.out) okD ⟨by decide, by decide⟩ false sDIdeal91).mono ?_
  rintro e W34 ⟨rfl, k1⟩
  have KN := hide (KN.out.trans k1)
  clear k1
  go_wp2_with (fail)
  refine (logic_p W34 bE sE 6 91 (PE.out.kept KN.out) okE sELogic6).mono ?_
  rintro e w' ⟨rfl, rfl⟩
  go_wp2_with (fail)
  refine (sound_p W34 bE sE (PE.out.kept KN.out) okE true sESound).mono ?_
  rintro e W35 ⟨rfl, k1⟩
  have KN := hide (KN.out.trans k1)
  clear k1
  go_wp2_with (fail)
  refine (calm_p W35 bE sE (PE.out.kept KN.out) okE false sECalm).mono ?_
  rintro e W36 ⟨rfl, k1⟩
  have KN := hide (KN.out.trans k1)
  clear k1
  go_wp2_with (fail)
  refine (ideal_p W36 bE sE 91 (PE.out.kept KN.out) okE ⟨by decide, by decide⟩ true sEIdeal91).mono ?_
  rintro e W37 ⟨rfl, k1⟩
  have KN := hide (KN.out.trans k1)
  clear k1
  go_wp2_with (fail)
  refine (logic_p W37 bF sF 6 58 (PF.out.kept KN.out) okF sFLogic6).mono ?_
  rintro e w' ⟨rfl, rfl⟩
  go_wp2_with (fail)
  refine (sound_p W37 bF sF (PF.out.kept KN.out) okF true sFSound).mono ?_
  rintro e W38 ⟨rfl, k1⟩
  have KN := hide (KN.out.trans k1)
  clear k1
  go_wp2_with (fail)
  refine (content_p W38 bF sF 58 (PF.out.kept KN.out) okF ⟨by decide, by decide⟩ [(5, 50)] sFContent58).mono ?_
  rintro e W39 ⟨v, rfl, hr, k1⟩
  obtain ⟨la, lc, hv, hrd, hlc, _⟩ := hr.reads
  replace hv : v = .slice la 1 lc := hv
  replace hlc : 1 ≤ lc := hlc
  subst hv
  clear hr hrd hlc
  have KN := hide (KN.out.trans k1)
  clear k1
  go_wp2_with (fail)
  refine (sound_p W39 bG sG (PG.out.kept KN.out) okG false sGSound).mono ?_
  rintro e W40 ⟨rfl, k1⟩
  have KN := hide (KN.out.trans k1)
  clear k1
  go_wp2_with (fail)
  refine (sound_p W40 bH sH (PH.out.kept KN.out) okH true sHSound).mono ?_
  rintro e W41 ⟨rfl, k1⟩
  have KN := hide (KN.out.trans k1)
  clear k1
  go_wp2_with (fail)
  refine (calm_p W41 bH sH (PH.out.kept KN.out) okH false sHCalm).mono ?_
  rintro e W42 ⟨rfl, k1⟩
  have KN := hide (KN.out.trans k1)
  clear k1
  go_wp2_with (fail)
  refine (depth_p W42 bH sH 156 (PH.out.kept KN.out) okH ⟨by decide, by decide⟩ 1 sHDepth156).mono ?_
  rintro e W43 ⟨rfl, k1⟩
  have KN := hide (KN.out.trans k1)
  clear k1
  go_wp2_with (fail)
  refine (content_p W43 bH sH 156 (PH.out.kept KN.out) okH ⟨by decide, by decide⟩ [(5, 50), (9, 90)] sHContent156).mono ?_
  rintro e W44 ⟨v, rfl, hr, k1⟩
  obtain ⟨la, lc, hv, hrd, hlc, _⟩ := hr.reads
  replace hv : v = .slice la 2 lc := hv
  replace hlc : 2 ≤ lc := hlc
  subst hv
  clear hr hrd hlc
  have KN := hide (KN.out.trans k1)
  clear k1
  go_wp2_with (fail)
  refine (ideal_p W44 bH sH 156 (PH.out.kept KN.out) okH ⟨by decide, by decide⟩ false sHIdeal156).mono ?_
  rintro e W45 ⟨rfl, k1⟩
  have KN := hide (KN.out.trans k1)
  clear k1
  go_wp2_with (fail)
  refine (ideal_p W45 bH sH 91 (PH.out.kept KN.out) okH ⟨by decide, by decide⟩ true sHIdeal91).mono ?_
  rintro e W46 ⟨rfl, k1⟩
  have KN := hide (KN.out.trans k1)
  clear k1
  go_wp2_with (fail)
  refine (content_p W46 bH sH 58 (PH.out.kept KN.out) okH ⟨by decide, by decide⟩ [(5, 50)] sHContent58).mono ?_
  rintro e W47 ⟨v, rfl, hr, k1⟩
  obtain ⟨la, lc, hv, hrd, hlc, _⟩ := hr.reads
  replace hv : v = .slice la 1 lc := hv
  replace hlc : 1 ≤ lc := hlc
  subst hv
  clear hr hrd hlc
  have KN := hide (KN.out.trans k1)
  clear k1
  go_wp2_with (fail)
  refine (content_p W47 bH sH 3 (PH.out.kept KN.out) okH ⟨by decide, by decide⟩ [] sHContent3).mono ?_
  rintro e W48 ⟨v, rfl, hr, k1⟩
  obtain ⟨la, lc, hv, hrd, hlc, _⟩ := hr.reads
  replace hv : v = .slice la 0 lc := hv
  replace hlc : 0 ≤ lc := hlc
  subst hv
  clear hr hrd hlc
  have KN := hide (KN.out.trans k1)
  clear k1
  go_wp2_with (fail)
  refine (spots_p W48 bH sH (PH.out.kept KN.out) okH [(6, 156), (17, 58), (18, 74)] sHSpots).mono ?_
  rintro e W49 ⟨v, rfl, hr, k1⟩
  obtain ⟨la, lc, hv, hrd, hlc, _⟩ := hr.reads
  replace hv : v = .slice la 3 lc := hv
  replace hlc : 3 ≤ lc := hlc
  subst hv
  clear hr hrd hlc
  have KN := hide (KN.out.trans k1)
  clear k1
  go_wp2
  go_ret
  exact ⟨rfl, KW.out.trans KN.out⟩
end Go.Proofs.Ytbojjpmcopnjpaa
