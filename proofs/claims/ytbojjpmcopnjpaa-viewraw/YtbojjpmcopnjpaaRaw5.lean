/-
  What the proof of YtbojjpmcopnjpaaViewRawProof goes by, part 5 of 5: contracts and plain facts; each part begins with its own sentence. No conditions beyond each theorem's own.
-/
import Derived.Test.YtbojjpmcopnjpaaRaw4
/-! The program's levels and Depth. -/
namespace Go.Proofs.Ytbojjpmcopnjpaa
open Go.RowKit Go.Shelf

attribute [local go_sem] Oper.semAt_some

/-- How many Inner stand one below the other. -/
def levF (s : Mst) : Nat → Int → Int
  | 0, _ => 0
  | f + 1, x => if kd (tgt s x) = 3 then 1 + (slotsL s x).foldl (fun m p => max m (levF s f (s.logicZ p.2))) 0 else 0
theorem levF_succ (s : Mst) (f : Nat) (x : Int) : levF s (f + 1) x = if kd (tgt s x) = 3 then 1 + (slotsL s x).foldl (fun m p => max m (levF s f (s.logicZ p.2))) 0 else 0 := rfl
def depthB (s : Mst) (x : Int) : Int := if inTreeB s x = true then levF s (fuel s) x else 0
theorem fold_max {α : Type} (g : α → Int) (B : Int) (hg : ∀ a, 0 ≤ g a ∧ g a ≤ B) (L : List α) : ∀ m, 0 ≤ m → m ≤ B → 0 ≤ L.foldl (fun m p => max m (g p)) m ∧ L.foldl (fun m p => max m (g p)) m ≤ B := by
  induction L with
  | nil => intro m h1 h2; exact ⟨h1, h2⟩
  | cons a L ih =>
    intro m h1 h2
    have := hg a
    rw [List.foldl_cons]
    exact ih (max m (g a)) (by omega) (by omega)
theorem levF_bound (s : Mst) : ∀ (f : Nat) (x : Int), 0 ≤ levF s f x ∧ levF s f x ≤ f
  | 0, _ => by simp [levF]
  | f + 1, x => by
    unfold levF
    split
    · have := fold_max (fun p : Int × Int => levF s f (s.logicZ p.2)) f (fun p => levF_bound s f _) (slotsL s x) 0 (by omega) (by omega)
      omega
    · omega
/-- The invariant: the deepest so far. -/
def Deep (n : Nat) (g : Int × Int → Int) : Inv (Int × Int) := fun O pre A => (∀ k, O k ↔ k = n) ∧ Boxed A n 3 (.int .i64 (pre.foldl (fun m p => max m (g p)) 0))
theorem Deep.good (n : Nat) (g : Int × Int → Int) : Good (Deep n g) := by
  constructor
  · rintro O pre A B ⟨hO, hb⟩ ht
    exact ⟨hO, ht.boxed hb (fun hn => hn ((hO n).2 rfl))⟩
  · rintro O pre A ⟨hO, hb⟩ k hk
    rw [(hO k).1 hk]
    exact hb.lt

set_option maxHeartbeats 2000000 in
theorem levels_p : ∀ (f : Nat) (w : World) (b : Nat) (s : Mst) (x : Int), PM w b s → s.ok → Wf s f x → f ≤ 100000 →
    Calls Try.prog 36 #[.pointer (some ⟨b, 0, none⟩), .int .i64 x] w fun e w' => e = .returned (.int .i64 (levF s f x)) ∧ Kept w w'
  | 0, _, _, _, _, _, _, h, _ => h.elim
  | f + 1, w, b, s, x, h, ho, hw, hf => by
    have ih := levels_p f
    obtain ⟨hwh, hwk⟩ := hw
    obtain ⟨n, hn⟩ : ∃ n, w.heap.size = n := ⟨_, rfl⟩
    obtain ⟨W1, hW1⟩ : ∃ W1, w.alloc (.cells #[.pointer (some ⟨b, 0, none⟩)] 22) = W1 := ⟨_, rfl⟩
    have t1 : Kept w W1 := by rw [← hW1]; exact (Kept.refl w).alloc _
    have z1 : W1.heap.size = n + 1 := by rw [← hW1]; simp [hn]
    have bM : Boxed W1 n 22 (.pointer (some ⟨b, 0, none⟩)) := by rw [← hW1, ← hn]; exact Boxed.new w 22 _
    have K1 := hide t1
    have BM := hide bM
    have c0 := bM.cell
    have H := hide h
    have HO := hide ho
    have HWH := hide hwh
    have HWK := hide hwk
    have IH := hide ih
    have HN := hide hn
    have Z1 := hide z1
    have HF := hide hf
    obtain ⟨t, ht⟩ : ∃ t, tgt s x = t := ⟨_, rfl⟩
    have HT := hide ht
    have HTI : Hid (I64 t) := hide (by rw [← ht]; exact tgt_i64 ho hwh.i64)
    obtain ⟨j, hj⟩ : ∃ j, kd t = j := ⟨_, rfl⟩
    have HJ := hide hj
    by_cases j3 : j = 3
    · obtain ⟨g, hg⟩ : ∃ g : Int × Int → Int, (fun p => levF s f (s.logicZ p.2)) = g := ⟨_, rfl⟩
      have HE : Hid (levF s (f + 1) x = 1 + (slotsL s x).foldl (fun m p => max m (g p)) 0) := hide (by subst hg; rw [levF_succ, if_pos (by rw [ht, hj]; exact j3)])
      have HG : Hid (∀ p : Int × Int, levF s f (s.logicZ p.2) = g p) := hide (fun p => by subst hg; rfl)
      have GB : Hid (∀ p : Int × Int, 0 ≤ g p ∧ g p ≤ 100000) := hide (fun p => by rw [← hg]; have := levF_bound s f (s.logicZ p.2); have := HF.out; dsimp only; omega)
      subst j3
      clear t1 bM h ho hwh hwk ih z1 hf ht hj hg
      refine calls_marks Try.func36 rfl ?_
      simp only [Try.ntmps36, List.size_toArray, List.length_cons, List.length_nil, Nat.reduceAdd, Nat.reduceSub, Array.replicate_succ, Array.replicate_zero, List.push_toArray, List.append_toArray, List.nil_append, List.cons_append]
      go_wp2_with (fail)
      clear hW1 hn
      refine (target_p _ b s x t (H.out.kept K1.out) HWH.out.i64 HT.out).mono ?_
      rintro e w' ⟨rfl, rfl⟩
      go_wp2_with (fail)
      refine (kk_p _ t 3 HTI.out HJ.out).mono ?_
      rintro e w' ⟨rfl, rfl⟩
      have ca := (Kept.alloc (Kept.refl W1) (.cells #[.int .i64 0] 3)).cell c0 id
      go_wp2_with (fail)
      rw [Z1.out]
      clear ca
      obtain ⟨W2, hW2⟩ : ∃ W2, W1.alloc (.cells #[.int .i64 0] 3) = W2 := ⟨_, rfl⟩
      have zz := Z1.out
      have t2 : Kept W1 W2 := by rw [← hW2]; exact (Kept.refl W1).alloc _
      have bD : Boxed W2 (n + 1) 3 (.int .i64 0) := by rw [← hW2, ← zz]; exact Boxed.new W1 3 _
      have Z2 : Hid (W2.heap.size = n + 2) := hide (by rw [← hW2]; simp [zz])
      have K2 := hide (K1.out.trans t2)
      have BM2 := hide (t2.boxed BM.out id)
      have BD := hide bD
      have c0' := BM2.out.cell
      clear t2 bD c0
      rw [hW2]
      clear hW2
      refine (slots_k W2 b x).mono ?_
      rintro e W3 ⟨B1, B2, rfl, k3, b1, b2, l1, l2⟩
      have K3 := hide (K2.out.trans k3)
      have BM3 := hide (k3.boxed BM2.out id)
      have BD3 := hide (k3.boxed BD.out id)
      have BB1 := hide b1
      have BB2 := hide b2
      have L1 : Hid (n + 2 ≤ B1 ∧ n + 2 ≤ B2 ∧ n + 2 ≤ W3.heap.size) := hide (by have := Z2.out; have := k3.size; omega)
      clear k3 b1 b2 l1 l2 c0' zz
      go_wp2_with (fail)
      refine wp_range2 (gf := 78) rfl (enters_of Try.func78 (by kernel_rfl) rfl) (encs := enc2) (xs := slotsL s x) (R := SlotR w B1 B2)
        (fun X hX => slots_i w X (K3.out.trans hX) b s H.out HO.out x HWH.out B1 B2 (hX.boxed BB1.out id) (hX.boxed BB2.out id)) (fun _ => rfl)
        (fun k => k = n + 1) (Deep (n + 1) g) (fun _ _ _ _ => False) ?hR (Deep.good _ _) (fun _ => good_false) ⟨fun _ => Iff.rfl, by simpa using BD3.out⟩ ?ab ?done (fun _ _ _ _ _ _ _ _ _ _ _ h => h.elim)
      case hR =>
        rintro k (hk | rfl | rfl)
        · have h1 := HN.out
          have h2 := K3.out.size
          exact ⟨by omega, by omega⟩
        · have := L1.out
          exact ⟨BB1.out.lt, by omega⟩
        · have := L1.out
          exact ⟨BB2.out.lt, by omega⟩
      case ab =>
        apply Exists.intro
        refine ⟨?_, ?_⟩
        · intro l' p X K hK
          gi_wp2
          exact hK
        · rintro l' O pre ⟨pi, sl⟩ rest B hx' tB sB ⟨hO, bD⟩
          obtain ⟨y, hy⟩ : ∃ y, s.logicZ sl = y := ⟨_, rfl⟩
          have HY := hide hy
          have HWF : Hid (Wf s f y) := hide (by
            have := HWK.out (pi, sl) (by rw [hx']; simp)
            rwa [hy] at this)
          obtain ⟨v, hv⟩ : ∃ v, g (pi, sl) = v := ⟨_, rfl⟩
          have HV : Hid (levF s f y = v) := hide (by rw [← hy, HG.out (pi, sl)]; exact hv)
          obtain ⟨D, hD⟩ : ∃ D, pre.foldl (fun m p => max m (g p)) 0 = D := ⟨_, rfl⟩
          have HDN : Hid ((pre ++ [(pi, sl)]).foldl (fun m p => max m (g p)) 0 = max D v) := hide (by rw [List.foldl_append, hD]; simp [hv])
          rw [hD] at bD
          have vb : 0 ≤ v ∧ v ≤ 100000 := by rw [← hv]; exact GB.out _
          have db : 0 ≤ D ∧ D ≤ 100000 := by rw [← hD]; exact fold_max g 100000 GB.out pre 0 (by omega) (by omega)
          have KB : Hid (Kept w B) := hide (K3.out.did (by have := HN.out; omega) tB)
          obtain ⟨V, hV⟩ : ∃ V, B.drew = V := ⟨_, rfl⟩
          have kV : Kept B V := by rw [← hV]; exact Kept.drew _
          have KV := hide kV
          have HVV := hide hV
          have bM' := (tB.boxed BM3.out (by omega))
          have MV := hide (H.out.kept (KB.out.trans kV))
          have x0 : ∀ u : Wd (fun U => Kept V U), u.w.cell? ⟨n, 0, none⟩ = some (.pointer (some ⟨b, 0, none⟩)) := fun u => u.ok.cell (kV.cell bM'.cell id) id
          have x1 : ∀ u : Wd (fun U => Kept V U), u.w.cell? ⟨n + 1, 0, none⟩ = some (.int .i64 D) := fun u => u.ok.cell (kV.cell bD.cell id) id
          have BDV := hide (kV.boxed bD id)
          have HOO := hide hO
          clear hx' tB sB hO bD hy hv hD hV kV bM'
          gi_wp2_with (fail)
          refine region_last_round [0, 1, 2, 3, 4, 5, 6] 7 (fun U => Kept V U) (by kernel_rfl) (by kernel_rfl) (by kernel_rfl) (by rw [HVV.out]; exact Kept.refl _) (fun _ => ?_)
          rw [HVV.out]
          repeat (refine lq rfl rfl ?_; go_big_quiet_step (fail); refine wpQuiet_nil ?_)
          refine ll rfl rfl ?_
          gi_wp2_with (fail)
          refine ⟨trivial, ?_⟩
          refine (callsIn_wide.2 (logic_p _ b s sl y MV.out HO.out HY.out)).mono ?_
          rintro e U ⟨rfl, rfl⟩
          gi_wp2_with (fail)
          refine ⟨Wd.mem (Kept.refl _), ?_⟩
          refine ll rfl rfl ?_
          gi_wp2_with (fail)
          refine ⟨trivial, ?_⟩
          refine (callsIn_wide.2 (IH.out V b s y MV.out HO.out HWF.out (by have := HF.out; omega))).mono ?_
          rw [HV.out]
          rintro e U ⟨rfl, kU⟩
          have KU := hide kU
          have BDU := hide (kU.boxed BDV.out id)
          have cD := BDU.out.cell
          have fD := BDU.out.frozen
          clear kU
          gi_wp2_with (fail)
          refine ⟨Wd.mem KU.out, ?_⟩
          refine ll rfl rfl ?_
          gi_wp2
          refine ⟨Wd.mem KU.out, ?_⟩
          refine lz rfl ?_
          gi_wp2
          refine last_done ?_
          gi_wp2
          refine ⟨O, Sub.refl _ _, (Turned.trans (KV.out.trans KU.out) (Turned.setCell (R := fun k => k = n + 1) _ _ _ rfl) (fun _ h => h.elim) (fun k _ h => (HOO.out k).2 h)), HOO.out, ?_⟩
          rw [HDN.out]
          exact BDU.out.set _
      case done =>
        rintro D O X hD nD tX sX ⟨hO, bD⟩ hK
        obtain ⟨d, hd⟩ : ∃ d, (slotsL s x).foldl (fun m p => max m (g p)) 0 = d := ⟨_, rfl⟩
        rw [hd] at bD
        have db : 0 ≤ d ∧ d ≤ 100000 := by rw [← hd]; exact fold_max g 100000 GB.out _ 0 (by omega) (by omega)
        have HE2 : Hid (levF s (f + 1) x = 1 + d) := hide (by rw [HE.out, hd])
        have cD := bD.cell
        have HK := hide hK
        have KX : Hid (Kept w X) := hide (K3.out.did (by have := HN.out; omega) tX)
        have HDn : Hid (n ≤ D) := hide (by have := L1.out; omega)
        clear hK bD hO nD tX sX hd
        go_wp2
        refine leave_marks [D] X ?_ ?_ ?_
        · intro k hk
          simp at hk
          rw [hk]
          exact HK.out
        · simp
        · intro X' hX'
          refine ⟨_, results_tmp rfl _ _ _, by rw [HE2.out]; rfl, ?_⟩
          exact KX.out.own (fun i hi => by simp at hi; have := HDn.out; have := HN.out; omega) hX'
    · have HE : Hid (levF s (f + 1) x = 0) := hide (by rw [levF_succ, if_neg (by rw [ht, hj]; exact j3)])
      have g1 : (j == 3) = false := by simp [j3]
      have g2 : (j != 3) = true := by simp [j3]
      clear t1 bM h ho hwh hwk ih z1 hf ht hj j3
      refine calls_marks Try.func36 rfl ?_
      simp only [Try.ntmps36, List.size_toArray, List.length_cons, List.length_nil, Nat.reduceAdd, Nat.reduceSub, Array.replicate_succ, Array.replicate_zero, List.push_toArray, List.append_toArray, List.nil_append, List.cons_append]
      go_wp2_with (fail)
      clear hW1 hn
      refine (target_p _ b s x t (H.out.kept K1.out) HWH.out.i64 HT.out).mono ?_
      rintro e w' ⟨rfl, rfl⟩
      go_wp2_with (fail)
      refine (kk_p _ t j HTI.out HJ.out).mono ?_
      rintro e w' ⟨rfl, rfl⟩
      go_wp2
      refine leave_marks [] _ ?_ ?_ ?_
      · intro k hk; cases hk
      · simp
      · intro X' hX'
        exact ⟨_, results_tmp rfl _ _ _, by rw [HE.out]; rfl, K1.out.trans (hX'.mono fun _ _ h => by cases h)⟩

theorem depth_p (w : World) (b : Nat) (s : Mst) (x : Int) (h : PM w b s) (ho : s.ok) (hx : I64 x) (d : Int) (e1 : depthB s x = d) :
    Calls Try.prog 9 #[.pointer (some ⟨b, 0, none⟩), .int .i64 x] w fun e w' => e = .returned (.int .i64 d) ∧ Kept w w' := by
  have H := hide h
  have HO := hide ho
  have HX := hide hx
  obtain ⟨q, hq⟩ : ∃ q, inTreeB s x = q := ⟨_, rfl⟩
  have HQ := hide hq
  unfold depthB at e1
  rw [hq] at e1
  cases q with
  | false =>
    have HE : Hid (d = 0) := hide (by rw [← e1]; rfl)
    clear h ho hx hq e1
    go_enter Try.func9, Try.ntmps9
    go_wp2_with (fail)
    refine (isInTree_p _ b s x H.out HO.out HX.out false HQ.out).mono ?_
    rintro e W2 ⟨rfl, k2⟩
    have K2 := hide k2
    clear k2
    go_wp2
    go_ret
    exact ⟨by rw [HE.out]; rfl, K2.out⟩
  | true =>
    have HE : Hid (levF s (fuel s) x = d) := hide e1
    have HFU : Hid (fuel s ≤ 100000) := hide (by have := ho.2; unfold fuel; omega)
    clear h ho hx hq e1
    go_enter Try.func9, Try.ntmps9
    go_wp2_with (fail)
    refine (isInTree_p _ b s x H.out HO.out HX.out true HQ.out).mono ?_
    rintro e W2 ⟨rfl, k2⟩
    have K2 := hide k2
    clear k2
    go_wp2_with (fail)
    refine (levels_p (fuel s) W2 b s x (H.out.kept K2.out) HO.out (inTree_wf HO.out HQ.out).1 HFU.out).mono ?_
    rw [HE.out]
    rintro e W3 ⟨rfl, k3⟩
    have K3 := hide (K2.out.trans k3)
    clear k3
    go_wp2
    go_ret
    exact ⟨rfl, K3.out⟩
end Go.Proofs.Ytbojjpmcopnjpaa

/-! What Begin of node answers and makes, at a memory that was made since w; what known answers. No conditions beyond each theorem's own. -/
namespace Go.Proofs.Ytbojjpmcopnjpaa
open Go.RowKit

theorem of17_c (w : World) : Calls Try.prog 52 #[.int .i64 1, .int .i64 7] w fun e w' => e = .returned (.int .i64 57) ∧ w = w' := by
  go_enter Try.func52, Try.ntmps52
  go_wp2
  go_ret
  exact ⟨rfl, rfl⟩
theorem kind57_c (w : World) : Calls Try.prog 33 #[.int .i64 57] w fun e w' => e = .returned (.int .i64 1) ∧ w = w' := by
  go_enter Try.func33, Try.ntmps33
  go_wp2
  go_ret
  exact ⟨rfl, rfl⟩
theorem at57_c (w : World) : Calls Try.prog 40 #[.int .i64 57] w fun e w' => e = .returned (.int .i64 7) ∧ w = w' := by
  go_enter Try.func40, Try.ntmps40
  go_wp2
  go_ret
  exact ⟨rfl, rfl⟩

/-- A slice that is answered, where it lies. -/
theorem Fresh.form {zs : List Int} {w W : World} {e : Ending} (h : Fresh zs w e W) : ∃ a cap, e = .returned (.slice a zs.length cap) ∧ Reads W a zs ∧ zs.length ≤ cap ∧ cap ≤ maxLen ∧ (∀ ad, a = some ad → w.heap.size ≤ ad.block) ∧ Row W w.heap.size 2 (.slice a zs.length cap) zs ∧ Kept w W := by
  obtain ⟨v, rfl, hrow, hk⟩ := h
  have hr := hrow
  rcases hr.2 with ⟨rfl, h0⟩ | ⟨g, cap, cur, rfl, hg, _, hc, hm, _⟩
  · obtain rfl := List.length_eq_zero_iff.1 h0
    exact ⟨none, 0, rfl, .inl rfl, Nat.le_refl _, Nat.zero_le _, (fun _ e => by cases e), hrow, hk⟩
  · obtain ⟨a, cap', e1, h1, _⟩ := hrow.reads
    cases e1
    exact ⟨_, _, rfl, h1, hc, hm, (fun _ e => by cases e; exact hg), hrow, hk⟩

/-- The state of a memory that is begun. -/
def begun (s : Mst) : Mst := { s with xs := [1, 0, 0, 0, 0, 57, 0], count := wrap64 (wrap64 (s.count + 1) + 1) }
theorem begun_make {s : Mst} (h0 : s.xs = []) (h7 : 7 ≤ s.size) : s.next [1, 0, 0, 0, 0, 57] = 1 ∧ s.fits 6 = true ∧ s.make [1, 0, 0, 0, 0, 57] = { s with xs := [1, 0, 0, 0, 0, 57], count := wrap64 (s.count + 1) } := by
  have h6 : (6 : Int) ≤ s.size := by omega
  have hf : s.fits 6 = true := by simp [Mst.fits, h0, h6]
  refine ⟨?_, hf, ?_⟩
  · rw [Mst.next]
    rw [if_pos (by exact hf), h0]
    rfl
  · rw [Mst.make]
    rw [if_pos (by exact hf), h0]
    rfl
theorem begun_make2 {s : Mst} (h7 : 7 ≤ s.size) : ({ s with xs := [1, 0, 0, 0, 0, 57], count := wrap64 (s.count + 1) } : Mst).next [0] = 7 ∧ ({ s with xs := [1, 0, 0, 0, 0, 57], count := wrap64 (s.count + 1) } : Mst).fits 1 = true ∧ ({ s with xs := [1, 0, 0, 0, 0, 57], count := wrap64 (s.count + 1) } : Mst).make [0] = begun s := by
  have hf : ({ s with xs := [1, 0, 0, 0, 0, 57], count := wrap64 (s.count + 1) } : Mst).fits 1 = true := by simp [Mst.fits, h7]
  refine ⟨?_, hf, ?_⟩
  · rw [Mst.next]
    rw [if_pos (by exact hf)]
    rfl
  · rw [Mst.make]
    rw [if_pos (by exact hf)]
    rfl

set_option maxRecDepth 100000 in
/-- Begin, where it may be. -/
theorem begin_c (w W : World) (b : Nat) (s : Mst) (h : Now w W b s) (h0 : s.xs = []) (h7 : 7 ≤ s.size) :
    Calls Try.prog 27 #[.pointer (some ⟨b, 0, none⟩)] W fun e W' => e = .returned (.bool true) ∧ Now w W' b (begun s) := by
  have H := hide h
  have B1 := hide (begun_make h0 h7)
  have B2 := hide (begun_make2 h7)
  have HU : Hid ((s.xs.length : Int) = 0) := hide (by rw [h0]; rfl)
  clear h h0
  go_enter Try.func27, Try.ntmps27
  go_wp2_with (fail)
  refine (now_used w W b s 0 H.out HU.out).mono ?_
  rintro e w' ⟨rfl, rfl⟩
  go_wp2_with (fail)
  refine (now_size w W b s s.size H.out rfl).mono ?_
  rintro e w' ⟨rfl, rfl⟩
  go_wp2_with (fail)
  refine (of17_c W).mono ?_
  rintro e w' ⟨rfl, rfl⟩
  go_wp2_with (fail)
  refine (inner_c (W.alloc (.cells #[.int .i64 57] 2)) 0 none [] 0 (some ⟨W.heap.size, 0, none⟩) [57] 1 (.inl rfl) (Reads.new W 2 [57]) (fun _ => rfl) (fun e => by cases e) rfl (by decide)).mono ?_
  intro e W1 hf
  obtain ⟨a1, cap1, rfl, hr, hc, hm, ha, -, hk⟩ := hf.form
  have H1 := hide (H.out.on ((Turned.alloc (fun _ => False) W _).trans hk (fun _ e => e) (fun _ _ e => e)))
  have HR := hide hr
  have HA : Hid (∀ ad, a1 = some ad → ad.block ≠ b) := hide (fun ad e => by
    have e1 := ha ad e
    have e2 := H.out.lt.2
    simp at e1
    omega)
  clear hf hr hc hm ha hk H
  go_wp2_with (fail)
  refine (now_make w W1 b s a1 (innerL 0 [] [57]) cap1 1 true _ H1.out HR.out (by decide) (fun _ => HA.out) B1.out.1 B1.out.2.1 B1.out.2.2).mono ?_
  rintro e W2 ⟨rfl, h2⟩
  have H2 := hide h2
  clear h2 H1 HR HA B1
  go_wp2_with (fail)
  refine (empty_c W2).mono ?_
  intro e W3 hf
  obtain ⟨a1, cap1, rfl, hr, hc, hm, ha, -, hk⟩ := hf.form
  have H3 := hide (H2.out.on hk)
  have HR := hide hr
  have HA : Hid (∀ ad, a1 = some ad → ad.block ≠ b) := hide (fun ad e => by
    have e1 := ha ad e
    have e2 := H2.out.lt.2
    omega)
  clear hf hr hc hm ha hk H2
  go_wp2_with (fail)
  refine (now_make w W3 b _ a1 [0] cap1 7 true _ H3.out HR.out (by decide) (fun _ => HA.out) B2.out.1 B2.out.2.1 B2.out.2.2).mono ?_
  rintro e W4 ⟨rfl, h4⟩
  have H4 := hide h4
  clear h4 H3 HR HA B2
  go_wp2
  go_ret
  exact ⟨rfl, H4.out⟩
/-- .. where it may not. -/
theorem begin0_c (w W : World) (b : Nat) (s : Mst) (h : Now w W b s) (h0 : ¬ (s.xs = [] ∧ 7 ≤ s.size)) :
    Calls Try.prog 27 #[.pointer (some ⟨b, 0, none⟩)] W fun e W' => e = .returned (.bool false) ∧ W = W' := by
  have H := hide h
  by_cases hx : s.xs = []
  · have h7 : s.size < 7 := by have : ¬ 7 ≤ s.size := fun e => h0 ⟨hx, e⟩; omega
    have HU : Hid ((s.xs.length : Int) = 0) := hide (by rw [hx]; rfl)
    clear h h0 hx
    go_enter Try.func27, Try.ntmps27
    go_wp2_with (fail)
    refine (now_used w W b s 0 H.out HU.out).mono ?_
    rintro e w' ⟨rfl, rfl⟩
    go_wp2_with (fail)
    refine (now_size w W b s s.size H.out rfl).mono ?_
    rintro e w' ⟨rfl, rfl⟩
    go_wp2
    go_ret
    exact ⟨rfl, rfl⟩
  · have hp0 : 0 < s.xs.length := List.length_pos_iff.2 hx
    have hp : (0 : Int) < (s.xs.length : Int) := by omega
    clear h h0 hx
    go_enter Try.func27, Try.ntmps27
    go_wp2_with (fail)
    refine (now_used w W b s _ H.out rfl).mono ?_
    rintro e w' ⟨rfl, rfl⟩
    go_wp2
    go_ret
    exact ⟨rfl, rfl⟩

/-- Two slices that are answered, alike. -/
theorem words_lit (W : World) (a : Option Addr) (q : List Int) (cap : Nat) (hr : Reads W a q) (hc : q.length ≤ cap) (hm : cap ≤ maxLen) :
    Calls Try.prog 42 #[.slice a q.length cap, .slice (some ⟨W.heap.size, 0, none⟩) q.length q.length] (W.alloc (.cells (q.map (Value.int .i64)).toArray 2)) fun e w' => e = .returned (.bool true) ∧ Kept W w' :=
  (words_k _ a _ q cap q.length (hr.kept (Turned.alloc _ _ _)) (Reads.new W 2 q) hc (Nat.le_refl _) hm).mono fun _ _ ⟨h1, h2⟩ => ⟨h1, ((Kept.refl W).alloc _).trans h2⟩

end Go.Proofs.Ytbojjpmcopnjpaa

/-! What known answers; ref1.Spots of two lists that are alike; isIdeal and Ideal of an Empty's word. -/
namespace Go.Proofs.Ytbojjpmcopnjpaa
open Go.RowKit

theorem spots_same (W : World) (a b : Option Addr) (xs : List (Int × Int)) (M ca cb : Nat) (hM : xs.length = M) (ha : PReads W a xs) (hb : PReads W b xs) (h1 : M ≤ ca) (h2 : M ≤ cb) (hl : M ≤ 1000000) :
    Calls Try.prog 13 #[.slice a M ca, .slice b M cb] W fun e w' => e = .returned (.bool true) ∧ Kept W w' := by
  have HA := hide ha
  have HB := hide hb
  have HM := hide hM
  clear ha hb hM
  go_enter Try.func13, Try.ntmps13
  go_wp2
  go_loopw [5] (fun i wr => ∃ k d : Nat, k ≤ M ∧ i = .int .i64 (k : Int) ∧ wr = W.drewN d) (fun i _ => M - (intOf i).toNat)
  case atStart => exact ⟨0, 0, by omega, by simp, rfl⟩
  case round =>
    obtain ⟨k, d, hk, rfl, rfl⟩ := hrel
    by_cases hkm : k < M
    · obtain ⟨⟨x, y⟩, hp⟩ : ∃ p, xs[k]? = some p := ⟨_, List.getElem?_eq_getElem (by rw [HM.out]; exact hkm)⟩
      obtain ⟨bl, off, rfl, _, p0, p1⟩ := HA.out.at hp
      obtain ⟨bl', off', rfl, _, q0, q1⟩ := HB.out.at hp
      have c0 : W.cell? ⟨bl, off + k * 2, none⟩ = some (.int .i64 x) := p0
      have c1 : W.cell? ⟨bl, off + k * 2 + 1, none⟩ = some (.int .i64 y) := p1
      have d0 : W.cell? ⟨bl', off' + k * 2, none⟩ = some (.int .i64 x) := q0
      have d1 : W.cell? ⟨bl', off' + k * 2 + 1, none⟩ = some (.int .i64 y) := q1
      have j1 : (k : Int) < (M : Int) := by omega
      have j2 : k < ca := by omega
      have j3 : k < cb := by omega
      clear p0 p1 q0 q1 hp
      go_wp2
      go_quiet (fail)
      go_wp2
      exact ⟨⟨k + 1, _, by omega, by simp, rfl⟩, by simp [intOf]; omega⟩
    · have hkm' : k = M := by omega
      subst hkm'
      have j1 : ¬ ((k : Int) < (k : Int)) := by omega
      go_wp2
      go_ret
      exact ⟨rfl, Kept.drewN _ _⟩

/-- isIdeal of an Empty's word, with no pairs. -/
theorem isIdeal0_p (W : World) (b : Nat) (x : Int) (v : Value) (n₀ : Nat) (hx : I64 x) (k1 : kd x = 1) (hr : PRow W n₀ 32 v []) :
    Calls Try.prog 37 #[.pointer (some ⟨b, 0, none⟩), .int .i64 x, v] W fun e w' => e = .returned (.bool true) ∧ W = w' := by
  obtain ⟨la, lc, rfl, _⟩ := hr.reads
  have HX := hide hx
  have HK := hide k1
  simp only [List.length_nil]
  clear hx k1 hr
  go_enter Try.func37, Try.ntmps37
  go_wp2_with (fail)
  refine (kk_p _ x 1 HX.out HK.out).mono ?_
  rintro e w' ⟨rfl, rfl⟩
  go_wp2
  go_ret
  exact ⟨rfl, rfl⟩
theorem ideal0_p (w : World) (b : Nat) (s : Mst) (x : Int) (h : PM w b s) (ho : s.ok) (hx : I64 x) (ht : inTreeB s x = true) (k1 : kd x = 1) :
    Calls Try.prog 10 #[.pointer (some ⟨b, 0, none⟩), .int .i64 x] w fun e w' => e = .returned (.bool true) ∧ Kept w w' := by
  have H := hide h
  have HO := hide ho
  have HX := hide hx
  have HT := hide ht
  have HK := hide k1
  have HE : Hid (pairsF s (fuel s) x = []) := hide (by
    unfold pairsF leafL
    rw [if_neg (by rw [k1]; decide), spotsF_none (by rw [tgt, if_neg (by rw [k1]; decide), k1]; decide)]
    rfl)
  clear h ho hx ht k1
  go_enter Try.func10, Try.ntmps10
  go_wp2_with (fail)
  refine (isInTree_p _ b s x H.out HO.out HX.out true HT.out).mono ?_
  rintro e W2 ⟨rfl, k2⟩
  have K2 := hide k2
  clear k2
  go_wp2_with (fail)
  refine (pairsBelow_p W2 b s (H.out.kept K2.out) HO.out (fuel s) x (inTree_wf HO.out HT.out).1 (inTree_wf HO.out HT.out).2 [] HE.out).mono ?_
  rintro e W3 ⟨v, rfl, hr, k3⟩
  have HR := hide hr
  have K3 := hide (K2.out.trans k3)
  clear hr k3
  go_wp2_with (fail)
  refine (isIdeal0_p W3 b x v W2.heap.size HX.out HK.out HR.out).mono ?_
  rintro e w' ⟨rfl, rfl⟩
  go_wp2
  go_ret
  exact ⟨rfl, K3.out⟩

theorem Now.pm {w W : World} {b : Nat} {s : Mst} (h : Now w W b s) : PM W b s := by
  obtain ⟨⟨v, h⟩, _⟩ := h
  exact ⟨_, _, h⟩
/-- The memory of known. -/
def kn0 : Mst := begun (Mst.new 9)
theorem kn0_eq : kn0 = ⟨[1, 0, 0, 0, 0, 57, 0], 9, 2, 0, 0⟩ := by kernel_rfl
theorem kn0_ok : kn0.ok := by
  rw [kn0_eq]
  refine ⟨?_, by simp⟩
  intro z hz
  simp at hz
  rcases hz with rfl | rfl | rfl | rfl <;> exact ⟨by decide, by decide⟩
theorem kn0_sound : soundB kn0 = true := by decide +kernel
theorem kn0_calm : calmB kn0 = true := by decide +kernel
theorem kn0_logic : kn0.logicZ 6 = 57 := by decide +kernel
theorem kn0_spots : (if soundB kn0 = true then spotsL kn0 (fuel kn0) else []) = [(6, 57)] := by decide +kernel
theorem kn0_in : inTreeB kn0 57 = true := by decide +kernel
theorem kn0_content : contentB kn0 57 = [] := by decide +kernel
theorem kn0_depth : depthB kn0 57 = 0 := by decide +kernel
theorem kn0_kind : kd 57 = 1 := by decide +kernel

set_option maxHeartbeats 1000000 in
set_option maxRecDepth 20000 in
theorem known_c (w : World) : Calls Try.prog 6 #[] w fun e w' => e = .returned (.bool true) ∧ Kept w w' := by
  go_enter Try.func6, Try.ntmps6
  go_wp2_with (fail)
  refine (now_new w w 9 (Kept.refl w) (by decide) (by decide)).mono ?_
  rintro e W1 ⟨rfl, N1, _⟩
  obtain ⟨b, hb⟩ : ∃ b, w.heap.size = b := ⟨_, rfl⟩
  rw [hb] at N1 ⊢
  clear hb
  have M1 := hide N1
  clear N1
  go_wp2_with (fail)
  refine (begin_c w W1 b (Mst.new 9) M1.out rfl (by decide)).mono ?_
  rintro e W2 ⟨rfl, N2⟩
  have K2 := hide N2.2
  have M2 : Hid (PM W2 b kn0) := hide N2.pm
  clear N2 M1
  have i57 : Hid (I64 57) := hide ⟨by decide, by decide⟩
  go_wp2_with (fail)
  refine (spots_p W2 b kn0 M2.out kn0_ok _ kn0_spots).mono ?_
  rintro e W3 ⟨v, rfl, hr, k3⟩
  obtain ⟨la, lc, hv, hrd, hlc, _⟩ := hr.reads
  simp only [List.length_singleton] at hv hlc
  subst hv
  obtain ⟨bl, off, rfl, _, q0, q1⟩ := hrd.at (j := 0) rfl
  have K3 := hide (K2.out.trans k3)
  have M3 := hide (M2.out.kept k3)
  have C0 : Hid (W3.cell? ⟨bl, off, none⟩ = some (.int .i64 6)) := hide (by simpa using q0)
  have C1 : Hid (W3.cell? ⟨bl, off + 1, none⟩ = some (.int .i64 57)) := hide (by simpa using q1)
  clear hr k3 hrd q0 q1 K2 M2
  go_wp2_with (fail)
  refine (sound_p W3 b kn0 M3.out kn0_ok true kn0_sound).mono ?_
  rintro e W4 ⟨rfl, k4⟩
  have K4 := hide (K3.out.trans k4)
  have M4 := hide (M3.out.kept k4)
  have C0 := hide (k4.cell C0.out id)
  have C1 := hide (k4.cell C1.out id)
  clear k4 K3 M3
  go_wp2_with (fail)
  refine (calm_p W4 b kn0 M4.out kn0_ok true kn0_calm).mono ?_
  rintro e W5 ⟨rfl, k5⟩
  have K5 := hide (K4.out.trans k5)
  have M5 := hide (M4.out.kept k5)
  have c0 := k5.cell C0.out id
  have c1 := k5.cell C1.out id
  clear k5 K4 M4
  go_wp2_with (fail)
  refine (logic_p W5 b kn0 6 57 M5.out kn0_ok kn0_logic).mono ?_
  rintro e w' ⟨rfl, rfl⟩
  go_wp2_with (fail)
  refine (content_p W5 b kn0 57 M5.out kn0_ok i57.out [] kn0_content).mono ?_
  rintro e W6 ⟨v6, rfl, hr6, k6⟩
  obtain ⟨la6, lc6, hv6, _⟩ := hr6.reads
  simp only [List.length_nil] at hv6
  subst hv6
  have K6 := hide (K5.out.trans k6)
  have M6 := hide (M5.out.kept k6)
  clear hr6 k6 K5 M5
  go_wp2_with (fail)
  refine (depth_p W6 b kn0 57 M6.out kn0_ok i57.out 0 kn0_depth).mono ?_
  rintro e W7 ⟨rfl, k7⟩
  have K7 := hide (K6.out.trans k7)
  have M7 := hide (M6.out.kept k7)
  clear k7 K6 M6
  go_wp2_with (fail)
  refine (ideal0_p W7 b kn0 57 M7.out kn0_ok i57.out kn0_in kn0_kind).mono ?_
  rintro e W8 ⟨rfl, k8⟩
  have K8 := hide (K7.out.trans k8)
  clear k8 K7 M7
  go_wp2
  go_ret
  exact ⟨rfl, K8.out⟩
end Go.Proofs.Ytbojjpmcopnjpaa

/-! ordinatehand.Copy and Like: a memory of the program with the cells of the document's. -/
namespace Go.Proofs.Ytbojjpmcopnjpaa
open Go.RowKit

/-- The state of the copy. -/
def cp (s : Mst) : Mst := (Mst.new s.size).make s.xs
theorem cp_xs {s : Mst} (h : (s.xs.length : Int) ≤ s.size) : (cp s).xs = s.xs := by
  unfold cp Mst.make
  split
  · show [] ++ s.xs = s.xs; simp
  · rename_i hf
    have : s.xs = [] := by
      apply Classical.byContradiction
      intro h0
      apply hf
      have := List.length_pos_iff.2 h0
      simp [Mst.fits, Mst.new]
      omega
    rw [this]; rfl
theorem cp_size (s : Mst) : (cp s).size = s.size := by unfold cp Mst.make; split <;> rfl
theorem copy_c (W : World) (n₀ b : Nat) (v : Value) (s : Mst) (h : DMem W n₀ b v s) (h1 : 1 ≤ s.size) :
    Calls Try.prog 19 #[.pointer (some ⟨b, 0, none⟩)] W fun e W' => ∃ bm, e = .returned (.pointer (some ⟨bm, 0, none⟩)) ∧ Now W W' bm (cp s) := by
  obtain ⟨la, lc, rfl, hr, hlc, hlm⟩ := h.form
  have c0 := (DMem.opened h).1.2.1
  have hb : b < W.heap.size := (h.lt b (.inl rfl)).2
  have hl := h.len
  have h2 := h.top
  have H := hide h
  have HR := hide hr
  obtain ⟨N, hN⟩ : ∃ N, s.xs.length = N := ⟨_, rfl⟩
  have HN := hide hN
  obtain ⟨z, hz⟩ : ∃ z, s.size = z := ⟨_, rfl⟩
  have HZ := hide hz
  rw [hz] at c0 h1 h2
  clear h hr hlc hlm hz hN
  go_enter Try.func19, Try.ntmps19
  go_wp2_with (fail)
  refine (now_new W W z (Kept.refl W) h1 h2).mono ?_
  rintro e W1 ⟨rfl, N1, k1⟩
  obtain ⟨bm, hbm⟩ : ∃ bm, W.heap.size = bm := ⟨_, rfl⟩
  rw [hbm] at N1 ⊢
  have c1 := (DMem.opened (H.out.kept k1)).1.1
  rw [HN.out] at c1
  have M1 := hide N1
  have HF : Hid (cp s = (Mst.new z).make s.xs) := hide (by unfold cp; rw [HZ.out])
  clear N1 k1 hbm c0
  go_wp2_with (fail)
  rw [← HN.out]
  refine (now_put W W1 bm (Mst.new z) la s.xs lc _ _ _ M1.out HR.out (by unfold maxLen; omega) rfl rfl rfl).mono ?_
  rintro e W2 ⟨rfl, N2⟩
  have M2 := hide N2
  clear N2 M1 c1
  go_wp2
  go_ret
  exact ⟨bm, rfl, by rw [HF.out]; exact M2.out⟩

theorem like_c (w W : World) (bm : Nat) (s : Mst) (hm : Now w W bm s) (n₀ bx : Nat) (vx : Value) (sx : Mst) (hx : DMem W n₀ bx vx sx) (e1 : sx.xs = s.xs) (e2 : sx.size = s.size) :
    Calls Try.prog 20 #[.pointer (some ⟨bm, 0, none⟩), .pointer (some ⟨bx, 0, none⟩)] W fun e W' => e = .returned (.bool true) ∧ Kept W W' := by
  obtain ⟨ax, cx, rfl, hrx, hcx, hmx⟩ := hx.form
  rw [e1] at hrx hcx
  have bC : ∀ y : Wd (Kept W), y.w.cell? ⟨bx, 1, none⟩ = some (.slice ax s.xs.length cx) := fun y => by rw [← e1]; exact (DMem.opened (hx.kept y.ok)).1.1
  have bS : ∀ y : Wd (Kept W), y.w.cell? ⟨bx, 0, none⟩ = some (.int .i64 s.size) := fun y => by rw [← e2]; exact (DMem.opened (hx.kept y.ok)).1.2.1
  have HX := hide hrx
  have HCX := hide hcx
  have hl := hx.len
  rw [e1] at hl
  have KD := hide (Kept.drew W)
  have HP := hide hm
  clear hx hrx hcx hmx hm e1 e2
  go_enter Try.func20, Try.ntmps20
  go_wp2_with (fail)
  refine region_wide [0, 2, 3, 4, 5, 1, 6, 7, 8, 10, 11, 12, 13, 14, 9, 15, 16, 17, 18, 20, 21, 22, 23, 19, 24, 25, 26] (Kept W) (by kernel_rfl) (by kernel_rfl) KD.out (fun _ => ?_)
  repeat (refine pq rfl rfl ?_; go_big_quiet_step (fail); refine wpQuiet_nil ?_)
  refine pl rfl rfl ?_
  gi_wp2_with (fail)
  refine ⟨trivial, ?_⟩
  refine (callsIn_wide.2 (now_cells w _ bm s (HP.out.on KD.out))).mono ?_
  rintro e W1 ⟨a1, cap1, rfl, hr1, hc1, hm1, -, -, hk⟩
  have K1 := hide (KD.out.trans hk)
  have HR1 := hide hr1
  have HC1 := hide hc1
  have HM1 := hide hm1
  clear hr1 hc1 hm1 hk
  gi_wp2_with (fail)
  refine ⟨Wd.mem K1.out, ?_⟩
  refine pl rfl rfl ?_
  gi_wp2_with (fail)
  refine ⟨trivial, ?_⟩
  refine (callsIn_wide.2 (words_k W1 a1 ax s.xs cap1 cx HR1.out (HX.out.kept K1.out) HC1.out HCX.out HM1.out)).mono ?_
  rintro e W2 ⟨rfl, hk⟩
  have K2 := hide (K1.out.trans hk)
  clear hk
  gi_wp2_with (fail)
  refine ⟨Wd.mem K2.out, ?_⟩
  repeat (refine pq rfl rfl ?_; go_big_quiet_step (fail); refine wpQuiet_nil ?_)
  refine pl rfl rfl ?_
  gi_wp2_with (fail)
  refine ⟨trivial, ?_⟩
  refine (callsIn_wide.2 (now_used w W2 bm s (s.xs.length : Int) (HP.out.on K2.out) rfl)).mono ?_
  rintro e w' ⟨rfl, rfl⟩
  gi_wp2_with (fail)
  refine ⟨Wd.mem K2.out, ?_⟩
  repeat (refine pq rfl rfl ?_; go_big_quiet_step (fail); refine wpQuiet_nil ?_)
  refine pl rfl rfl ?_
  gi_wp2_with (fail)
  refine ⟨trivial, ?_⟩
  refine (callsIn_wide.2 (now_size w W2 bm s s.size (HP.out.on K2.out) rfl)).mono ?_
  rintro e w' ⟨rfl, rfl⟩
  gi_wp2_with (fail)
  refine ⟨Wd.mem K2.out, ?_⟩
  repeat (refine pq rfl rfl ?_; go_big_quiet_step (fail); refine wpQuiet_nil ?_)
  refine perm_done ?_
  go_wp2
  go_ret
  exact ⟨rfl, K2.out⟩
end Go.Proofs.Ytbojjpmcopnjpaa

/-! ViewRaw: its walk. -/
namespace Go.Proofs.Ytbojjpmcopnjpaa
open Go.RowKit

theorem i64_of_wf {z : Int} (h : (Lit.int .i64 z).wf = true) : I64 z := bounds_i64 h

theorem wpList_append_one {w0 wr : World} {x : Int} {ops : Array Oper} {rest : List Oper} {o : Oper} {a : Act} {Q : Exit → Act → World → Prop} (hgd : o.guard = none) (s y : Operand)
    (ho : o.op = .call { callee := .builtin .append, args := #[s, y], argTypes := #[39, 39] }) (v : Value) (ys : List Int) (hs : a.eval s = v) (hx : a.eval y = .slice (some ⟨wr.heap.size, 0, none⟩) 1 1) (hrow : Row wr w0.heap.size 2 v ys) (hk : Kept w0 wr) (hl : ys.length ≤ 999999)
    (h : ∀ v' w' ys', Row w' w0.heap.size 2 v' ys' → ys' = ys ++ [x] → Kept w0 w' → wpList Try.prog ops Q rest (a.put o.dst v') w') :
    wpList Try.prog ops Q (o :: rest) a (wr.alloc (.cells #[.int .i64 x] 2)) := by
  have k1 : Kept wr (wr.alloc (.cells #[.int .i64 x] 2)) := Turned.alloc _ _ _
  refine wpList_append_reads hgd s y ho w0.heap.size v ys.length (cellsOf ys) hs (hrow.kept k1) _ [x] 1 hx (Reads.new wr 2 [x]) (fun e => by cases e) (by simp; omega) (Nat.le_trans hk.size k1.size) ?_
  intro v2 w2 hown hg _
  refine h v2 w2 _ ?_ rfl (kept_append (hk.trans k1) (hrow.kept k1) hg)
  show World.ownsRow _ _ 2 1 _ (ys ++ [x]).length (cellsOf (ys ++ [x]))
  rw [List.length_append, cellsOf, List.map_append]
  exact hown

set_option maxHeartbeats 4000000 in
set_option maxRecDepth 20000 in
theorem viewRaw_c (w : World) (a0 : Option Addr) (zs : List Int) (cap0 : Nat) (hr0 : Reads w a0 zs) (h00 : a0 = none → cap0 = 0) (hw0 : ∀ z ∈ zs, I64 z)
    (a1 : Option Addr) (us : List Int) (cap1 : Nat) (hr1 : Reads w a1 us) (hc1 : us.length ≤ cap1) (slot : Int) :
    Calls Try.prog 4 #[.slice a0 zs.length cap0, .slice a1 us.length cap1, .int .i64 slot] w fun e w' => e = .returned (.bool true) ∧ Kept w w' := by
  have HR0 := hide hr0
  have HR1 := hide hr1
  have H00 := hide h00
  have HW0 := hide hw0
  obtain ⟨M, hM⟩ : ∃ M, zs.length = M := ⟨_, rfl⟩
  obtain ⟨U, hU⟩ : ∃ U, us.length = U := ⟨_, rfl⟩
  have HM := hide hM
  have HU := hide hU
  rw [hM]
  rw [hU] at hc1 ⊢
  clear hr0 hr1 h00 hw0 hM hU
  by_cases big : 200 < M
  · have i1 : (200 : Int) < (M : Int) := by omega
    go_enter Try.func4, Try.ntmps4
    go_wp2_with (fail)
    refine (known_c w).mono ?_
    rintro e W1 ⟨rfl, k1⟩
    have K1 := hide k1
    clear k1
    go_wp2
    go_ret
    exact ⟨rfl, K1.out⟩
  · have i1 : ¬ ((200 : Int) < (M : Int)) := by omega
    have R5 : Hid (Row (w.alloc (.cells (cellsOf [1, 0, 0, 0, 0]).toArray 2)) w.heap.size 2 (.slice (some ⟨w.heap.size, 0, none⟩) 5 5) [1, 0, 0, 0, 0]) := hide (row_new w 2 [1, 0, 0, 0, 0] w.heap.size (Nat.le_refl _) (by simp))
    go_enter Try.func4, Try.ntmps4
    go_wp2_with (at_builtin; refine Stop.out ?_)
    refine ⟨?_⟩
    obtain ⟨W1, hW1⟩ : ∃ W1, w.alloc (.cells (cellsOf [1, 0, 0, 0, 0]).toArray 2) = W1 := ⟨_, rfl⟩
    have k1 : Kept w W1 := by rw [← hW1]; exact (Kept.refl w).alloc _
    have K1 := hide k1
    rw [hW1] at R5
    rw [show w.alloc (.cells #[.int .i64 1, .int .i64 0, .int .i64 0, .int .i64 0, .int .i64 0] 2) = W1 from hW1, ← HM.out]
    clear hW1 k1
    refine wpList_append_reads rfl _ _ rfl w.heap.size _ 5 (cellsOf [1, 0, 0, 0, 0]) rfl R5.out a0 zs cap0 rfl (HR0.out.kept K1.out) H00.out (by have := HM.out; omega) K1.out.size ?_
    intro v1 W2 hown hg _
    have RC : Hid (Row W2 w.heap.size 2 v1 ([1, 0, 0, 0, 0] ++ zs)) := hide (by
      show World.ownsRow _ _ 2 1 _ ([1, 0, 0, 0, 0] ++ zs).length (cellsOf ([1, 0, 0, 0, 0] ++ zs))
      rw [List.length_append, cellsOf, List.map_append]
      exact hown)
    have K2 := hide (kept_append (ys := [1, 0, 0, 0, 0]) K1.out R5.out hg)
    have OK2 : Hid (∀ z ∈ [1, 0, 0, 0, 0] ++ zs, I64 z) := hide (by
      intro z hz
      rcases List.mem_append.1 hz with hz | hz
      · simp at hz
        rcases hz with rfl | rfl <;> exact ⟨by decide, by decide⟩
      · exact HW0.out z hz)
    obtain ⟨cs, hcs⟩ : ∃ cs, [1, 0, 0, 0, 0] ++ zs = cs := ⟨_, rfl⟩
    have HL2 : Hid (cs.length ≤ 205 ∧ 5 ≤ cs.length) := hide (by rw [← hcs, List.length_append]; have := HM.out; simp; omega)
    rw [hcs] at RC OK2
    clear hown hg R5 K1 hcs
    go_wp2
    go_loopw [7, 8] (fun v i wr => ∃ (k : Nat) (ys : List Int), k ≤ U ∧ k ≤ 100 ∧ i = .int .i64 (k : Int) ∧ Hid (Row wr w.heap.size 2 v ys) ∧ Hid (∀ z ∈ ys, I64 z) ∧ Hid (ys.length ≤ 205 + k ∧ 5 ≤ ys.length) ∧ Hid (Kept w wr)) (fun _ i _ => 100 - (intOf i).toNat)
    case atStart => exact ⟨0, cs, by omega, by omega, by simp, RC, OK2, HL2, K2⟩
    case round =>
      obtain ⟨k, ys, hk, hk2, rfl, RY, OY, LY, KY⟩ := hrel
      by_cases go : k < U ∧ k < 100
      · obtain ⟨go1, go2⟩ := go
        have j1 : (k : Int) < (U : Int) := by omega
        have j2 : (k : Int) < 100 := by omega
        obtain ⟨u, hu⟩ : ∃ u, us[k]? = some u := ⟨_, List.getElem?_eq_getElem (by rw [HU.out]; exact go1)⟩
        obtain ⟨bl, off, rfl, _, q0⟩ := HR1.out.at hu
        have c0 := KY.out.cell q0 id
        have j3 : k < cap1 := by omega
        obtain ⟨z, hz⟩ : ∃ z, u % 500 = z := ⟨_, rfl⟩
        have zb : 0 ≤ z ∧ z < 500 := by rw [← hz]; omega
        have HZ := hide hz
        clear hu q0 hz
        go_wp2_with (fail)
        refine (cut_g _ u 500 (by decide) (by decide)).mono ?_
        rw [HZ.out]
        rintro e w' ⟨rfl, rfl⟩
        go_wp2_with (at_builtin; refine Stop.out ?_)
        refine ⟨?_⟩
        refine wpList_append_one (w0 := w) (wr := wr) (x := z) rfl _ _ rfl _ ys rfl rfl RY.out KY.out (by have := LY.out; omega) ?_
        intro v' w' ys' r1 e1 k1
        have R1 := hide r1
        have K1 := hide k1
        have O1 : Hid (∀ z ∈ ys', I64 z) := hide (by
          rw [e1]
          intro y hy
          rcases List.mem_append.1 hy with hy | hy
          · exact OY.out y hy
          · simp at hy; rw [hy]; exact ⟨by omega, by omega⟩)
        have L1 : Hid (ys'.length ≤ 205 + (k + 1) ∧ 5 ≤ ys'.length) := hide (by rw [e1, List.length_append, List.length_singleton]; have := LY.out; omega)
        clear r1 e1 k1
        go_wp2
        exact ⟨⟨k + 1, ys', by omega, by omega, by simp, R1, O1, L1, K1⟩, by simp [intOf]; omega⟩
      · obtain ⟨la, lc, hv, hry, hly, hlm, hbb⟩ := RY.out.reads
        subst hv
        have HRY := hide hry
        have HB : Hid (∀ ad, la = some ad → w.heap.size ≤ ad.block) := hide (fun ad e => by
          rcases HRY.out with e0 | ⟨bl, off, e', _⟩
          · have := LY.out; rw [e0] at this; simp at this
          · rw [e'] at e; cases e; exact hbb bl off e')
        obtain ⟨s, hs⟩ : ∃ s : Mst, (Mst.new 400).make ys = s := ⟨_, rfl⟩
        have lb := LY.out
        have hfit : (Mst.new 400).fits ys.length = true := by simp [Mst.fits, Mst.new]; omega
        have hsx : s.xs = ys := by rw [← hs, Mst.make, if_pos hfit]; simp [Mst.new]
        have hsz : s.size = 400 := by rw [← hs, Mst.make, if_pos hfit]; rfl
        have HOK : Hid s.ok := hide ⟨by rw [hsx]; exact OY.out, by rw [hsx]; omega⟩
        have HS := hide hs
        have HSX := hide hsx
        have HSZ := hide hsz
        have HCP : Hid (cp s = s) := hide (by unfold cp; rw [hsz, hsx, hs])
        have HLM : Hid (ys.length ≤ maxLen) := hide (by unfold maxLen; omega)
        obtain ⟨N, hN⟩ : ∃ N, ys.length = N := ⟨_, rfl⟩
        have HN := hide hN
        have G : Hid (¬ ((k : Int) < (U : Int)) ∨ ((k : Int) < (U : Int) ∧ ¬ ((k : Int) < 100))) := hide (by omega)
        rw [hN]
        clear hry hly hlm hbb hs hfit hsx hsz lb hN go
        rcases G.out with g1 | ⟨g1, g2⟩
        · go_wp2_with (fail)
          refine (new_d wr 400 (by decide) (by decide)).mono ?_
          rintro e W3 ⟨rfl, m3, k3, z3⟩
          obtain ⟨bx, hbx⟩ : ∃ bx, wr.heap.size = bx := ⟨_, rfl⟩
          rw [hbx] at m3 z3 ⊢
          have NX : Hid (wr.heap.size = bx) := hide hbx
          have M3 := hide m3
          have K3 := hide (KY.out.trans k3)
          have R3 := hide (HRY.out.kept k3)
          have NB : Hid (∀ ad, la = some ad → ad.block ≠ bx) := hide (fun ad e => by
            have := HRY.out.lt (by intro e0; have := LY.out; rw [e0] at this; simp at this) ad e
            omega)
          clear m3 k3 z3 hbx
          go_wp2_with (fail)
          rw [← HN.out]
          refine (make_d W3 bx bx _ (Mst.new 400) la ys lc M3.out (Nat.le_of_lt (M3.out.lt bx (.inl rfl)).2) R3.out HLM.out (fun _ => NB.out)).mono ?_
          rintro e W4 ⟨rfl, v4, m4, t4, f4⟩
          rw [HS.out] at m4
          have M4 := hide m4
          have NW3 : Hid (w.heap.size ≤ bx) := hide (by have := KY.out.size; have := NX.out; omega)
          have K4 : Hid (Kept w W4) := hide (K3.out.own (O := Foot bx (.slice none 0 0)) (fun i hi => by
            have := NW3.out
            rcases hi with h | h
            · omega
            · simp [Value.ownBlock] at h) t4)
          clear m4 t4 f4 M3 K3 R3
          go_wp2_with (fail)
          refine (copy_c W4 bx bx v4 s M4.out (by rw [HSZ.out]; decide)).mono ?_
          rintro e W5 ⟨bm, rfl, n5⟩
          rw [HCP.out] at n5
          have N5 := hide n5
          have D5 := hide (M4.out.kept n5.2)
          have K5 := hide (K4.out.trans n5.2)
          clear n5 M4 K4
          go_wp2_with (fail)
          refine (known_c W5).mono ?_
          rintro e W6 ⟨rfl, k6⟩
          have N6 := hide (N5.out.on k6)
          have D6 := hide (D5.out.kept k6)
          have K6 := hide (K5.out.trans k6)
          clear k6 N5 D5 K5
          go_wp2_with (fail)
          refine (like_c W4 W6 bm s N6.out bx bx v4 s D6.out rfl rfl).mono ?_
          rintro e W7 ⟨rfl, k7⟩
          have PM7 := hide (N6.out.on k7).pm
          have DM7 : Hid (DM W7 bx s) := hide ⟨bx, v4, s, rfl, D6.out.kept k7⟩
          have K7 := hide (K6.out.trans k7)
          clear k7 N6 D6 K6
          obtain ⟨sb, hsb⟩ : ∃ sb, soundB s = sb := ⟨_, rfl⟩
          have HSB := hide hsb
          clear hsb
          go_wp2_with (fail)
          refine (sound_p W7 bm s PM7.out HOK.out sb HSB.out).mono ?_
          rintro e W8 ⟨rfl, k8⟩
          have PM8 := hide (PM7.out.kept k8)
          have DM8 := hide (DM7.out.kept k8)
          have K8 := hide (K7.out.trans k8)
          clear k8 PM7 DM7 K7
          go_wp2_with (fail)
          refine (sound_d W8 bx s DM8.out HOK.out sb HSB.out).mono ?_
          rintro e W9 ⟨rfl, k9⟩
          have PM9 := hide (PM8.out.kept k9)
          have DM9 := hide (DM8.out.kept k9)
          have K9 := hide (K8.out.trans k9)
          clear k9 PM8 DM8 K8
          obtain ⟨cb, hcb⟩ : ∃ cb, calmB s = cb := ⟨_, rfl⟩
          have HCB := hide hcb
          clear hcb
          have es : (sb == sb) = true := by simp
          have ec : (cb == cb) = true := by simp
          go_wp2_with (fail)
          refine (calm_p W9 bm s PM9.out HOK.out cb HCB.out).mono ?_
          rintro e WA ⟨rfl, kA⟩
          have PMA := hide (PM9.out.kept kA)
          have DMA := hide (DM9.out.kept kA)
          have KA := hide (K9.out.trans kA)
          clear kA PM9 DM9 K9
          go_wp2_with (fail)
          refine (calm_d WA bx s DMA.out HOK.out cb HCB.out).mono ?_
          rintro e WB ⟨rfl, kB⟩
          have PMB := hide (PMA.out.kept kB)
          have DMB := hide (DMA.out.kept kB)
          have KB := hide (KA.out.trans kB)
          clear kB PMA DMA KA
          obtain ⟨L, hL⟩ : ∃ L, (if soundB s = true then spotsL s (fuel s) else []) = L := ⟨_, rfl⟩
          have HL := hide hL
          have HLE : Hid (L.length ≤ 1000000) := hide (by
            rw [← hL]
            split
            · rename_i hs; have := spotsL_len HOK.out hs; omega
            · simp)
          clear hL
          go_wp2_with (fail)
          refine (spots_p WB bm s PMB.out HOK.out L HL.out).mono ?_
          rintro e WC ⟨vc, rfl, rc, kC⟩
          have PMC := hide (PMB.out.kept kC)
          have DMC := hide (DMB.out.kept kC)
          have KC := hide (KB.out.trans kC)
          have RCC := hide rc
          clear kC rc PMB DMB KB
          go_wp2_with (fail)
          refine (spotsD_p WC bx s DMC.out HOK.out L HL.out).mono ?_
          rintro e WD ⟨vd, rfl, rd, kD⟩
          obtain ⟨ca, cc, hvc, hrc, hcc, _⟩ := (RCC.out.kept kD).reads
          obtain ⟨da, dc, hvd, hrd, hdc, _⟩ := rd.reads
          obtain ⟨T, hT⟩ : ∃ T, L.length = T := ⟨_, rfl⟩
          have HT := hide hT
          rw [hT] at hvc hvd hcc hdc
          subst hvc hvd
          have PMD := hide (PMC.out.kept kD)
          have DMD := hide (DMC.out.kept kD)
          have KDD := hide (KC.out.trans kD)
          have HRC := hide hrc
          have HRD := hide hrd
          have HLT : Hid (T ≤ 1000000) := hide (by rw [← hT]; exact HLE.out)
          clear kD rd hrc hrd hT PMC DMC KC RCC
          go_wp2_with (fail)
          refine (spots_same WD ca da L T cc dc HT.out HRC.out HRD.out hcc hdc HLT.out).mono ?_
          rintro e WE ⟨rfl, kE⟩
          have PME := hide (PMD.out.kept kE)
          have DME := hide (DMD.out.kept kE)
          have KE := hide (KDD.out.trans kE)
          clear kE PMD DMD KDD HRC HRD
          obtain ⟨l1, hl1⟩ : ∃ l1, s.logicZ slot = l1 := ⟨_, rfl⟩
          obtain ⟨l2, hl2⟩ : ∃ l2, s.logicZ 6 = l2 := ⟨_, rfl⟩
          have HL1 := hide hl1
          have HL2' := hide hl2
          clear hl1 hl2
          go_wp2_with (fail)
          refine (logic_p WE bm s slot l1 PME.out HOK.out HL1.out).mono ?_
          rintro e w' ⟨rfl, rfl⟩
          go_wp2_with (fail)
          refine (logic_d WE bx s slot l1 DME.out HOK.out HL1.out).mono ?_
          rintro e w' ⟨rfl, rfl⟩
          go_wp2_with (fail)
          refine (logic_p WE bm s 6 l2 PME.out HOK.out HL2'.out).mono ?_
          rintro e w' ⟨rfl, rfl⟩
          go_wp2_with (fail)
          refine (logic_d WE bx s 6 l2 DME.out HOK.out HL2'.out).mono ?_
          rintro e w' ⟨rfl, rfl⟩
          go_wp2
          go_ret
          exact ⟨rfl, KE.out⟩
        · go_wp2_with (fail)
          refine (new_d wr 400 (by decide) (by decide)).mono ?_
          rintro e W3 ⟨rfl, m3, k3, z3⟩
          obtain ⟨bx, hbx⟩ : ∃ bx, wr.heap.size = bx := ⟨_, rfl⟩
          rw [hbx] at m3 z3 ⊢
          have NX : Hid (wr.heap.size = bx) := hide hbx
          have M3 := hide m3
          have K3 := hide (KY.out.trans k3)
          have R3 := hide (HRY.out.kept k3)
          have NB : Hid (∀ ad, la = some ad → ad.block ≠ bx) := hide (fun ad e => by
            have := HRY.out.lt (by intro e0; have := LY.out; rw [e0] at this; simp at this) ad e
            omega)
          clear m3 k3 z3 hbx
          go_wp2_with (fail)
          rw [← HN.out]
          refine (make_d W3 bx bx _ (Mst.new 400) la ys lc M3.out (Nat.le_of_lt (M3.out.lt bx (.inl rfl)).2) R3.out HLM.out (fun _ => NB.out)).mono ?_
          rintro e W4 ⟨rfl, v4, m4, t4, f4⟩
          rw [HS.out] at m4
          have M4 := hide m4
          have NW3 : Hid (w.heap.size ≤ bx) := hide (by have := KY.out.size; have := NX.out; omega)
          have K4 : Hid (Kept w W4) := hide (K3.out.own (O := Foot bx (.slice none 0 0)) (fun i hi => by
            have := NW3.out
            rcases hi with h | h
            · omega
            · simp [Value.ownBlock] at h) t4)
          clear m4 t4 f4 M3 K3 R3
          go_wp2_with (fail)
          refine (copy_c W4 bx bx v4 s M4.out (by rw [HSZ.out]; decide)).mono ?_
          rintro e W5 ⟨bm, rfl, n5⟩
          rw [HCP.out] at n5
          have N5 := hide n5
          have D5 := hide (M4.out.kept n5.2)
          have K5 := hide (K4.out.trans n5.2)
          clear n5 M4 K4
          go_wp2_with (fail)
          refine (known_c W5).mono ?_
          rintro e W6 ⟨rfl, k6⟩
          have N6 := hide (N5.out.on k6)
          have D6 := hide (D5.out.kept k6)
          have K6 := hide (K5.out.trans k6)
          clear k6 N5 D5 K5
          go_wp2_with (fail)
          refine (like_c W4 W6 bm s N6.out bx bx v4 s D6.out rfl rfl).mono ?_
          rintro e W7 ⟨rfl, k7⟩
          have PM7 := hide (N6.out.on k7).pm
          have DM7 : Hid (DM W7 bx s) := hide ⟨bx, v4, s, rfl, D6.out.kept k7⟩
          have K7 := hide (K6.out.trans k7)
          clear k7 N6 D6 K6
          obtain ⟨sb, hsb⟩ : ∃ sb, soundB s = sb := ⟨_, rfl⟩
          have HSB := hide hsb
          clear hsb
          go_wp2_with (fail)
          refine (sound_p W7 bm s PM7.out HOK.out sb HSB.out).mono ?_
          rintro e W8 ⟨rfl, k8⟩
          have PM8 := hide (PM7.out.kept k8)
          have DM8 := hide (DM7.out.kept k8)
          have K8 := hide (K7.out.trans k8)
          clear k8 PM7 DM7 K7
          go_wp2_with (fail)
          refine (sound_d W8 bx s DM8.out HOK.out sb HSB.out).mono ?_
          rintro e W9 ⟨rfl, k9⟩
          have PM9 := hide (PM8.out.kept k9)
          have DM9 := hide (DM8.out.kept k9)
          have K9 := hide (K8.out.trans k9)
          clear k9 PM8 DM8 K8
          obtain ⟨cb, hcb⟩ : ∃ cb, calmB s = cb := ⟨_, rfl⟩
          have HCB := hide hcb
          clear hcb
          have es : (sb == sb) = true := by simp
          have ec : (cb == cb) = true := by simp
          go_wp2_with (fail)
          refine (calm_p W9 bm s PM9.out HOK.out cb HCB.out).mono ?_
          rintro e WA ⟨rfl, kA⟩
          have PMA := hide (PM9.out.kept kA)
          have DMA := hide (DM9.out.kept kA)
          have KA := hide (K9.out.trans kA)
          clear kA PM9 DM9 K9
          go_wp2_with (fail)
          refine (calm_d WA bx s DMA.out HOK.out cb HCB.out).mono ?_
          rintro e WB ⟨rfl, kB⟩
          have PMB := hide (PMA.out.kept kB)
          have DMB := hide (DMA.out.kept kB)
          have KB := hide (KA.out.trans kB)
          clear kB PMA DMA KA
          obtain ⟨L, hL⟩ : ∃ L, (if soundB s = true then spotsL s (fuel s) else []) = L := ⟨_, rfl⟩
          have HL := hide hL
          have HLE : Hid (L.length ≤ 1000000) := hide (by
            rw [← hL]
            split
            · rename_i hs; have := spotsL_len HOK.out hs; omega
            · simp)
          clear hL
          go_wp2_with (fail)
          refine (spots_p WB bm s PMB.out HOK.out L HL.out).mono ?_
          rintro e WC ⟨vc, rfl, rc, kC⟩
          have PMC := hide (PMB.out.kept kC)
          have DMC := hide (DMB.out.kept kC)
          have KC := hide (KB.out.trans kC)
          have RCC := hide rc
          clear kC rc PMB DMB KB
          go_wp2_with (fail)
          refine (spotsD_p WC bx s DMC.out HOK.out L HL.out).mono ?_
          rintro e WD ⟨vd, rfl, rd, kD⟩
          obtain ⟨ca, cc, hvc, hrc, hcc, _⟩ := (RCC.out.kept kD).reads
          obtain ⟨da, dc, hvd, hrd, hdc, _⟩ := rd.reads
          obtain ⟨T, hT⟩ : ∃ T, L.length = T := ⟨_, rfl⟩
          have HT := hide hT
          rw [hT] at hvc hvd hcc hdc
          subst hvc hvd
          have PMD := hide (PMC.out.kept kD)
          have DMD := hide (DMC.out.kept kD)
          have KDD := hide (KC.out.trans kD)
          have HRC := hide hrc
          have HRD := hide hrd
          have HLT : Hid (T ≤ 1000000) := hide (by rw [← hT]; exact HLE.out)
          clear kD rd hrc hrd hT PMC DMC KC RCC
          go_wp2_with (fail)
          refine (spots_same WD ca da L T cc dc HT.out HRC.out HRD.out hcc hdc HLT.out).mono ?_
          rintro e WE ⟨rfl, kE⟩
          have PME := hide (PMD.out.kept kE)
          have DME := hide (DMD.out.kept kE)
          have KE := hide (KDD.out.trans kE)
          clear kE PMD DMD KDD HRC HRD
          obtain ⟨l1, hl1⟩ : ∃ l1, s.logicZ slot = l1 := ⟨_, rfl⟩
          obtain ⟨l2, hl2⟩ : ∃ l2, s.logicZ 6 = l2 := ⟨_, rfl⟩
          have HL1 := hide hl1
          have HL2' := hide hl2
          clear hl1 hl2
          go_wp2_with (fail)
          refine (logic_p WE bm s slot l1 PME.out HOK.out HL1.out).mono ?_
          rintro e w' ⟨rfl, rfl⟩
          go_wp2_with (fail)
          refine (logic_d WE bx s slot l1 DME.out HOK.out HL1.out).mono ?_
          rintro e w' ⟨rfl, rfl⟩
          go_wp2_with (fail)
          refine (logic_p WE bm s 6 l2 PME.out HOK.out HL2'.out).mono ?_
          rintro e w' ⟨rfl, rfl⟩
          go_wp2_with (fail)
          refine (logic_d WE bx s 6 l2 DME.out HOK.out HL2'.out).mono ?_
          rintro e w' ⟨rfl, rfl⟩
          go_wp2
          go_ret
          exact ⟨rfl, KE.out⟩
end Go.Proofs.Ytbojjpmcopnjpaa
