/- NamesWraps: a body within an if. -/
import Derived.Test.YtkkcgkpbbngloabDoorPart6
import Derived.Test.YtkkcgkpbbngloabDoorPart5
import Derived.Deep.RegionHeld3
import Derived.Deep.RegionWith
namespace Go.Proofs.YtkkcgkpbbngloabDoor
open Go.RowKit Go.Sort

theorem field0_flt (w : World) (a b c : Int) : (Instr.field 29 (.agg #[.int .i64 a, .int .i64 b, .int .i64 c]) 0).run Tryd.prog w = .ok (.int .i64 a) w := by kernel_rfl
/-- What is asked of the copy with a body within an if. -/
structure AskW (q p : Pr) (k N : Nat) (C : Int × Int × Int) (w' : World) : Prop where
  chk : Calls Tryd.prog 6 #[.agg #[.slice q.wa q.widen.length q.wc, .slice q.fa q.funcs.length q.fc]] w' fun e w'' => e = .returned (.agg #[.int .i64 C.1, .int .i64 C.2.1, .int .i64 C.2.2]) ∧ Below w'.heap.size w' w''
  nam : C.1 = 0 → Calls Tryd.prog 5 #[.agg #[.slice q.wa q.widen.length q.wc, .slice q.fa q.funcs.length q.fc]] w' fun e w'' => e = .returned (.agg #[.int .i64 (bump k (namZ p)).1, .int .i64 (bump k (namZ p)).2.1, .int .i64 (bump k (namZ p)).2.2]) ∧ Below w'.heap.size w' w''
  cal : C.1 = 0 → Calls Tryd.prog 8 #[.agg #[.slice q.wa q.widen.length q.wc, .slice q.fa q.funcs.length q.fc], .int .i64 k] w' fun e w'' => (∃ v, e = .returned v ∧ w''.ownsRow w'.heap.size 3 1 v (clN p k).length ((clN p k).map (Value.int .i64))) ∧ Below w'.heap.size w' w''
theorem askW {q p : Pr} {k N : Nat} {w' : World} (hk : k < q.funcs.length) (her : q.er = p.er) (h0 : (checkZ p).1 = 0) (hq : (q.setF k (q.funcs[k].wrap (some ⟨N, 0, none⟩) 1)).In w') (ht : Tabs w') :
    AskW q p k N (checkZ (q.setF k (q.funcs[k].wrap (some ⟨N, 0, none⟩) 1))) w' := by
  obtain ⟨e1, e2, e3⟩ := er_names her
  have hv : (q.setF k (q.funcs[k].wrap (some ⟨N, 0, none⟩) 1)).val = .agg #[.slice q.wa q.widen.length q.wc, .slice q.fa q.funcs.length q.fc] := by
    unfold Pr.val Pr.setF
    rw [List.length_set]
  have c0 : (checkZ q).1 = 0 := by rw [e1]; exact h0
  refine ⟨?_, fun hz => ?_, fun hz => ?_⟩
  · have := check_any _ w' hq ht; rw [hv] at this; exact this
  · have := ncheck_any _ w' hq ht; rw [hv, nam_wrap hk _ _ c0 hz, e2] at this; exact this
  · have := ncalls_any _ k w' hq ht; rw [hv, cl_wrap hk _ _ c0 hz, e3] at this; exact this
/-- What lies in a copy's row of functions. -/
theorem cp_body {W : World} {q : Pr} {k : Nat} (hc : q.Cp W) (hk : k < q.funcs.length) : ∃ gF, q.fa = some ⟨gF, 0, none⟩ ∧ q.fc = q.funcs.length + 1 ∧ gF ∈ q.bl ∧ W.cell? ⟨gF, k * 3 + 2, none⟩ = some (.slice q.funcs[k].ba q.funcs[k].body.length q.funcs[k].bc) ∧ W.frozen? ⟨gF, k * 3 + 2, none⟩ = false := by
  obtain ⟨_, _, ⟨gF, h1, h2, _, h3⟩, _⟩ := hc
  refine ⟨gF, h1, h2, by unfold Pr.bl; rw [h1]; show gF ∈ _ :: gF :: _; simp, ?_, Lib.frozen_of_heap h3 _⟩
  rw [Lib.cell_of_heap h3]
  show (q.funcs.flatMap Fu.cells ++ senF).toArray[k * 3 + 2]? = _
  have : (q.funcs.flatMap Fu.cells).length = q.funcs.length * 3 := flat_len (f := Fu.cells) (k := 3) (fun x => rfl) q.funcs
  rw [List.getElem?_toArray, List.getElem?_append_left (by omega)]
  exact flat_at 3 (q.funcs.map Fu.cells) (lenF _) k 2 q.funcs[k].cells _ (by simp [hk]) rfl
theorem fn_small (ft : List (List UInt8 × Int)) (f : Fu) : (fnS ft f).m ≤ qSs f.body := by
  unfold fnS
  split
  · show (0 : Int) ≤ _; omega
  split
  · show (0 : Int) ≤ _; omega
  · have := (lsS_m ft f.body (paS f.params [(false, [])]).2 0).2; omega
theorem lk_small {fs : List Fu} (h : ∀ f ∈ fs, qSs f.body ≤ 12288) : ∀ (d k : Nat), k + d = fs.length → (lkZ fs (fs.drop k) k).2.2 ≤ 12288
  | 0, k, hd => by rw [List.drop_eq_nil_of_le (by omega), lkZ]; decide
  | d + 1, k, hd => by
    rw [lkZ_drop (by omega)]
    split
    · have h1 := fn_small (ftK fs k) fs[k]
      have h2 := h fs[k] (List.getElem_mem _)
      show (fnS (ftK fs k) fs[k]).m ≤ 12288
      omega
    · exact lk_small h d (k + 1) (by omega)
theorem nam_small {p : Pr} (h : (checkZ p).1 = 0) : (namZ p).2.2 ≤ 12288 := by
  unfold namZ
  rw [if_neg (show ¬ (checkZ p).1 ≠ 0 by simpa using h)]
  have := lk_small (fun f hf => ((check_room h).2 f hf).1) p.funcs.length 0 (by omega)
  rw [List.drop_zero] at this
  exact this
theorem gown_cell {W : World} {N n sz : Nat} {T : TypeId} {v : Value} {xs : List Value} (h : W.ownsRow N T sz v n xs) {j : Nat} {u : Value} (hj : xs[j]? = some u) : ∃ g cap, v = .slice (some ⟨g, 0, none⟩) n cap ∧ n ≤ cap ∧ W.cell? ⟨g, j, none⟩ = some u ∧ W.frozen? ⟨g, j, none⟩ = false := by
  rcases h.2 with ⟨rfl, rfl⟩ | ⟨g', cap, cur, rfl, h1, h2, h3, h4, h5, h6⟩
  · have := (List.getElem?_eq_some_iff.1 hj).1; have h1 := h.1; omega
  · refine ⟨g', cap, rfl, h3, ?_, Lib.frozen_of_heap h2 _⟩
    rw [Lib.cell_of_heap h2, ← Array.getElem?_toList]
    rw [← h6, List.getElem?_take] at hj
    split at hj
    · exact hj
    · cases hj
theorem nam_all {p : Pr} (h : (namZ p).1 = 0) : (checkZ p).1 = 0 ∧ ∀ (j : Nat) (f : Fu), p.funcs[j]? = some f → (fnK p.funcs j f).e = 0 := by
  have hc : (checkZ p).1 = 0 := by
    unfold namZ at h
    split at h
    · rename_i h0; exact absurd h h0
    · rename_i h0; simpa using h0
  refine ⟨hc, fun j f hf => ?_⟩
  unfold namZ at h
  rw [if_neg (by simpa using hc)] at h
  exact lk_right p.funcs.length 0 (by omega) (by rw [List.drop_zero]; exact h) j f (by omega) hf
theorem clN_len (p : Pr) (i : Int) : (clN p i).length ≤ 12288 := by
  unfold clN
  split
  · simp
  · rename_i h
    have hz : (namZ p).1 = 0 := by
      by_cases h0 : (namZ p).1 = 0
      · exact h0
      · exact absurd (Or.inl h0) h
    split
    · rename_i f hf
      have h1 := Lib.compact_length_le (sortI (fnK p.funcs i.toNat f).c)
      rw [sortI_length] at h1
      have h2 := fnS_len (ftK p.funcs i.toNat) f
      have h3 := ((check_room (nam_all hz).1).2 f (List.mem_of_getElem? hf)).1
      have h4 : (fnK p.funcs i.toNat f).c.length ≤ qSs f.body := h2
      omega
    · simp
theorem own_hid {f : FuncId} {xs : Array Value} {W' : World} {l : List Int} (h : Calls Tryd.prog f xs W' fun e w'' => (∃ v, e = .returned v ∧ w''.ownsRow W'.heap.size 3 1 v l.length (l.map (Value.int .i64))) ∧ Below W'.heap.size W' w'') : Calls Tryd.prog f xs W' fun e w'' => (∃ a n, e = .returned (.slice a l.length n) ∧ Hid (w''.ownsRow W'.heap.size 3 1 (.slice a l.length n) l.length (l.map (Value.int .i64)))) ∧ Below W'.heap.size W' w'' :=
  h.mono fun e w' h => by
    obtain ⟨⟨v, rfl, ho⟩, hb⟩ := h
    obtain ⟨a, c, rfl⟩ := own_form ho
    exact ⟨⟨a, c, rfl, ho⟩, hb⟩
/-- What lies where, once the copy is wrapped. -/
structure WrapAt (w W7 : World) (S : List Nat) (q p : Pr) (Bf Y : Nat) (b1 b2 b3 : Int) (W : World) : Prop where
  below : Below w.heap.size w W
  hF : W.heap[Bf]? = some (.cells #[.int .i64 b1, .int .i64 b2, .int .i64 b3] 29 (0, 0))
  hY : W.heap[Y]? = some (.cells #[.slice q.wa q.widen.length q.wc, .slice q.fa q.funcs.length q.fc] 25 (0, 0))
  hZ : W.heap[w.heap.size]? = some (.cells #[.slice p.wa p.widen.length p.wc, .slice p.fa p.funcs.length p.fc] 25 (0, 0))
  hK : ∀ b ∈ S, W.heap[b]? = W7.heap[b]? ∧ b < W.heap.size
theorem WrapAt.stay {w W7 : World} {S : List Nat} {q p : Pr} {Bf Y : Nat} {b1 b2 b3 : Int} {W W' : World} (h : WrapAt w W7 S q p Bf Y b1 b2 b3 W) (hb : Below W.heap.size W W') : WrapAt w W7 S q p Bf Y b1 b2 b3 W' :=
  ⟨Below.on h.below hb, keep_h h.hF hb, keep_h h.hY hb, keep_h h.hZ hb, fun b hx => ⟨(hb.block b (h.hK b hx).2).trans (h.hK b hx).1, Nat.lt_of_lt_of_le (h.hK b hx).2 hb.size⟩⟩
theorem WrapAt.set {w W7 : World} {S : List Nat} {q p : Pr} {Bf Y : Nat} {b1 b2 b3 : Int} {W : World} (h : WrapAt w W7 S q p Bf Y b1 b2 b3 W) (h1 : Bf ∉ S) (h2 : Bf ≠ Y) (h3 : w.heap.size < Bf) (z : Int) : WrapAt w W7 S q p Bf Y b1 b2 z (W.setCell ⟨Bf, 2, none⟩ (.int .i64 z)) := by
  refine ⟨Below.setCell h.below (show w.heap.size ≤ Bf by omega) _, ?_, (Below.heap_setCell _ _ _ _ (Ne.symm h2)).trans h.hY, (Below.heap_setCell _ _ _ _ (show w.heap.size ≠ Bf by omega)).trans h.hZ, fun b hb => ⟨(Below.heap_setCell _ _ _ _ (fun e => h1 (by rw [← show b = Bf from e]; exact hb))).trans (h.hK b hb).1, ?_⟩⟩
  · have := h.hF
    simp [World.setCell, Array.getElem?_modify, this]
  · have := (h.hK b hb).2
    simpa [World.setCell] using this

set_option maxRecDepth 100000 in
set_option maxHeartbeats 8000000 in
theorem namesWraps_any (p : Pr) (i : Int) (w : World) (hin : p.In w) (_hi : I64 i) (ht : Tabs w) : Calls Tryd.prog 3 #[p.val, .int .i64 i] w fun e w' => e = .returned (.bool true) ∧ Below w.heap.size w w' := by
  have hb0 := (Below.refl _ w).alloc (Nat.le_refl _) (.cells #[.slice p.wa p.widen.length p.wc, .slice p.fa p.funcs.length p.fc] 25)
  have HNC : Hid (∀ w', Below w.heap.size w w' → Calls Tryd.prog 5 #[p.val] w' fun e w'' => e = .returned (fltV (namZ p).1 (namZ p).2.1 (namZ p).2.2) ∧ Below w'.heap.size w' w'') := fun w' hb => ncheck_any p w' (hin.stay hb) (ht.stay hb)
  have HTC : Hid (∀ w', Below w.heap.size w w' → Calls Tryd.prog 6 #[p.val] w' fun e w'' => e = .returned (fltV (checkZ p).1 (checkZ p).2.1 (checkZ p).2.2) ∧ Below w'.heap.size w' w'') := fun w' hb => check_any p w' (hin.stay hb) (ht.stay hb)
  have HPN : Hid (∀ w', Below w.heap.size w w' → Calls Tryd.prog 8 #[p.val, .int .i64 i] w' fun e w'' => (∃ v, e = .returned v ∧ w''.ownsRow w'.heap.size 3 1 v (clN p i).length ((clN p i).map (Value.int .i64))) ∧ Below w'.heap.size w' w'') := fun w' h => ncalls_any p i w' (hin.stay h) (ht.stay h)
  have HCP : Hid ((checkZ p).1 = 0 → ∀ w', Below w.heap.size w w' → Calls Tryd.prog 7 #[p.val] w' fun e w'' => (∃ q : Pr, e = .returned q.val ∧ q.Cp w'' ∧ q.er = p.er ∧ q.bl.Nodup ∧ (∀ b ∈ q.bl, w'.heap.size ≤ b ∧ b < w''.heap.size)) ∧ Below w'.heap.size w' w'') := fun hb w' h => copy_any p w' (hin.stay h) (few_check hb)
  have HAW := Hid.mk' (awake4_any _ (ht.stay hb0))
  have HT := Hid.mk' ht
  have HZ1 : Hid ((checkZ p).1 ≠ 0 → namZ p = checkZ p) := fun h => by unfold namZ; rw [if_pos h]
  have HAS : Hid (∀ (q : Pr) (k N : Nat) (w' : World) (hk : k < q.funcs.length), q.er = p.er → (checkZ p).1 = 0 → (q.setF k (q.funcs[k].wrap (some ⟨N, 0, none⟩) 1)).In w' → Below w.heap.size w w' → AskW q p k N (checkZ (q.setF k (q.funcs[k].wrap (some ⟨N, 0, none⟩) 1))) w') := fun q k N w' hk her h0 hq hb => askW hk her h0 hq (ht.stay hb)
  have HNB : Hid ((checkZ p).1 = 0 → (namZ p).2.2 ≤ 12288) := nam_small
  have HLE : Hid (∀ q : Pr, q.er = p.er → q.funcs.length = p.funcs.length) := fun q h => by
    have := congrArg (fun x => x.funcs.length) h
    simpa [Pr.er] using this
  clear hin ht
  unfold Pr.val at HNC HTC HPN HCP ⊢
  generalize hnz : namZ p = nz at HNC HTC HPN HCP HZ1 HNB ⊢
  obtain ⟨n1, n2, n3⟩ := nz
  generalize hcz : checkZ p = cz at HNC HTC HPN HCP HZ1 HAS HNB ⊢
  obtain ⟨z1, z2, z3⟩ := cz
  have HNZ := Hid.mk' hnz
  have HCZ := Hid.mk' hcz
  clear hnz hcz
  simp only at HNC HTC HZ1 HCP HAS HNB
  have hq := equalIn_flt
  have hg := eqGuard_flt
  have hfd := field0_flt
  unfold fltV at hq HTC HNC
  go_enter Tryd.func3, Tryd.ntmps3
  go_wp2_with fail
  refine HAW.out.mono ?_
  rintro e w1 ⟨rfl, hb1⟩
  have hbw1 : Below w.heap.size w w1 := hb0.trans (hb1.mono hb0.size)
  have P : Hid (∀ w', Below w1.heap.size w1 w' → w'.cell? ⟨w.heap.size, 0, none⟩ = some (.slice p.wa p.widen.length p.wc) ∧ w'.cell? ⟨w.heap.size, 1, none⟩ = some (.slice p.fa p.funcs.length p.fc)) := fun w' hb => by
    have h0 := heap_alloc_new w (.cells #[.slice p.wa p.widen.length p.wc, .slice p.fa p.funcs.length p.fc] 25)
    have h1 := keep_h (keep_h h0 hb1) hb
    exact ⟨by rw [Lib.cell_of_heap h1]; rfl, by rw [Lib.cell_of_heap h1]; rfl⟩
  have PH : Hid (∀ w', Below w1.heap.size w1 w' → w'.heap[w.heap.size]? = some (.cells #[.slice p.wa p.widen.length p.wc, .slice p.fa p.funcs.length p.fc] 25 (0, 0))) := fun w' hb => by
    have h0 := heap_alloc_new w (.cells #[.slice p.wa p.widen.length p.wc, .slice p.fa p.funcs.length p.fc] 25)
    exact keep_h (keep_h h0 hb1) hb
  obtain ⟨c0, c1⟩ := P.out _ (Below.refl _ _)
  have hs1 := hb1.size
  have HB1 := Hid.mk' hbw1
  clear hb0 hb1 hbw1 HAW
  go_wp2_with fail
  refine (HNC.out _ HB1.out).mono ?_
  rintro e w2 ⟨rfl, hb2⟩
  have hb3 : Below w1.heap.size w1 (w2.alloc (.cells #[.int .i64 n1, .int .i64 n2, .int .i64 n3] 29)) := hb2.alloc hb2.size _
  have h5 := heap_alloc_new w2 (.cells #[.int .i64 n1, .int .i64 n2, .int .i64 n3] 29)
  have HB3 := Hid.mk' hb3
  have H5 := Hid.mk' h5
  have HBFW : Hid (w.heap.size < w2.heap.size) := by
    show _ < _
    have := hb2.size
    simp at hs1
    omega
  clear c0 c1 hb2 hb3 h5 hs1
  obtain ⟨c0, c1⟩ := P.out _ HB3.out
  go_upto_region 4 with fail
  generalize w2.alloc (.cells #[.int .i64 n1, .int .i64 n2, .int .i64 n3] 29) = W3 at *
  generalize w2.heap.size = Bf at *
  go_wp2_with fail
  refine (HTC.out _ (HB1.out.trans (HB3.out.mono HB1.out.size))).mono ?_
  rintro e w4 ⟨rfl, hb4⟩
  have hb5 := HB3.out.trans (hb4.mono HB3.out.size)
  have HB5 := Hid.mk' hb5
  have H54 := Hid.mk' (keep_h H5.out hb4)
  clear c0 c1 hb4 hb5 H5 HB3
  have s0 : ∀ d os, (World.cell? _ _ = _) := fun d os => seen (by rw [Lib.cell_of_heap H54.out]; rfl : w4.cell? ⟨Bf, 0, none⟩ = some (.int .i64 n1)) _ (below_regrown w4 d os)
  have s1 : ∀ d os, (World.cell? _ _ = _) := fun d os => seen (by rw [Lib.cell_of_heap H54.out]; rfl : w4.cell? ⟨Bf, 1, none⟩ = some (.int .i64 n2)) _ (below_regrown w4 d os)
  have s2 : ∀ d os, (World.cell? _ _ = _) := fun d os => seen (by rw [Lib.cell_of_heap H54.out]; rfl : w4.cell? ⟨Bf, 2, none⟩ = some (.int .i64 n3)) _ (below_regrown w4 d os)
  have p0 := fun d os => (P.out _ (Below.on HB5.out (below_regrown w4 d os))).1
  have p1 := fun d os => (P.out _ (Below.on HB5.out (below_regrown w4 d os))).2
  have HC2 : Hid (∀ w', Below w4.heap.size w4 w' → Calls Tryd.prog 6 #[.agg #[.slice p.wa p.widen.length p.wc, .slice p.fa p.funcs.length p.fc]] w' fun e w'' => e = .returned (.agg #[.int .i64 z1, .int .i64 z2, .int .i64 z3]) ∧ Below w'.heap.size w' w'') := fun w' h => HTC.out w' (Below.on HB1.out (Below.on HB5.out h))
  cases hz : (z1 != 0)
  · have hz' : z1 = 0 := by simpa using hz
    by_cases hi1 : i < 0
    · have hq2 := hq
      have hzz : (z1 == 0) = true := by simpa using hz'
      have hz0 : (0 : Int) == 0 := rfl
      subst hz'
      go_wp2_with fail
      refine wp_region_quiet_below (by kernel_rfl) (by kernel_rfl) ?_
      repeat (go_big_quiet_step ((go_at_call 6; exact Calls.regrown_of (HC2.out _ (below_regrown _ _ _)))))
      refine wpQuiet_nil ?_
      intro _ hw'
      obtain ⟨⟨dq, osq⟩, hw''⟩ := hw'
      subst hw''
      have hbq := below_regrown w4 dq osq
      clear s0 s1 s2 p0 p1 hq2 hg
      go_wp2_with fail
      go_ret
      exact ⟨rfl, Below.on HB1.out (Below.on HB5.out hbq)⟩
    by_cases hi2 : (p.funcs.length : Int) ≤ i
    · obtain ⟨c0, c1⟩ := P.out _ HB5.out
      have hq2 := hq
      have hzz : (z1 == 0) = true := by simpa using hz'
      have hz0 : (0 : Int) == 0 := rfl
      subst hz'
      go_wp2_with fail
      refine wp_region_quiet_below (by kernel_rfl) (by kernel_rfl) ?_
      repeat (go_big_quiet_step ((go_at_call 6; exact Calls.regrown_of (HC2.out _ (below_regrown _ _ _)))))
      refine wpQuiet_nil ?_
      intro _ hw'
      obtain ⟨⟨dq, osq⟩, hw''⟩ := hw'
      subst hw''
      have hbq := below_regrown w4 dq osq
      clear s0 s1 s2 p0 p1 hq2 hg
      go_wp2_with fail
      go_ret
      exact ⟨rfl, Below.on HB1.out (Below.on HB5.out hbq)⟩
    clear s0 s1 s2 p0 p1 HC2 HZ1 HNC HTC
    obtain ⟨k, rfl⟩ : ∃ k : Nat, i = (k : Int) := ⟨i.toNat, by omega⟩
    have HK : Hid (k < p.funcs.length) := by show k < _; omega
    subst hz'
    have HCP2 := Hid.mk' (HCP.out rfl)
    clear HCP
    obtain ⟨p0, p1⟩ := P.out _ HB5.out
    go_wp2_with fail
    refine (HCP2.out _ (Below.on HB1.out HB5.out)).mono ?_
    rintro e w5 ⟨⟨q, rfl, hcp, her, hnd, hbl⟩, hb5⟩
    clear p0 p1 HCP2
    have hb6 : Below w5.heap.size w5 (w5.alloc (.cells #[.slice q.wa q.widen.length q.wc, .slice q.fa q.funcs.length q.fc] 25)) := Below.one (Below.refl _ _) _
    have hkq : k < q.funcs.length := by rw [HLE.out q her]; exact HK.out
    have hc6 := hcp.stay hb6
    obtain ⟨gF, hfa, hfc, hgF, hcell, hfz⟩ := cp_body hc6 hkq
    have hY := heap_alloc_new w5 (.cells #[.slice q.wa q.widen.length q.wc, .slice q.fa q.funcs.length q.fc] 25)
    have HX : Hid (q.Cp (w5.alloc (.cells #[.slice q.wa q.widen.length q.wc, .slice q.fa q.funcs.length q.fc] 25)) ∧ q.er = p.er ∧ q.bl.Nodup ∧ (∀ b ∈ q.bl, w4.heap.size ≤ b ∧ b < w5.heap.size) ∧ Below w4.heap.size w4 (w5.alloc (.cells #[.slice q.wa q.widen.length q.wc, .slice q.fa q.funcs.length q.fc] 25)) ∧ gF ∈ q.bl ∧ k < q.funcs.length) := ⟨hc6, her, hnd, hbl, Below.on hb5 hb6, hgF, hkq⟩
    have HS : Hid ((w5.alloc (.cells #[.slice q.wa q.widen.length q.wc, .slice q.fa q.funcs.length q.fc] 25)).heap.size = w5.heap.size + 1) := by show _ = _; simp
    have HY := Hid.mk' hY
    have HFA := Hid.mk' hfa
    have HCE := Hid.mk' (And.intro hcell hfz)
    clear hcp her hnd hbl hb5 hb6 hc6 hfc hgF hfa hY hcell hfz
    go_upto_region 7 with fail
    generalize w5.alloc (.cells #[.slice q.wa q.widen.length q.wc, .slice q.fa q.funcs.length q.fc] 25) = W6 at *
    generalize w5.heap.size = Y at *
    obtain ⟨hcell, hfz⟩ := HCE.out
    have q0 : W6.cell? ⟨Y, 0, none⟩ = some (.slice q.wa q.widen.length q.wc) := Lib.cell_of_heap HY.out 0
    have q1 : W6.cell? ⟨Y, 1, none⟩ = some (.slice (some ⟨gF, 0, none⟩) q.funcs.length q.fc) := by rw [Lib.cell_of_heap HY.out, HFA.out]; rfl
    have hlk : (k : Int) < (q.funcs.length : Int) := by omega
    have hcell' : W6.drew.cell? _ = _ := hcell
    have hfz' : W6.drew.frozen? _ = _ := hfz
    have q1' : W6.drew.cell? _ = _ := q1
    have hltF : gF < W6.heap.size := by have := (HX.out.2.2.2.1 gF HX.out.2.2.2.2.2.1).2; rw [HS.out]; omega
    have hltY : Y < W6.heap.size := by rw [HS.out]; omega
    have q1a : ∀ o, (W6.drew.alloc o).cell? ⟨Y, 1, none⟩ = some (.slice (some ⟨gF, 0, none⟩) q.funcs.length q.fc) := fun o => by
      rw [World.cell?_alloc_past _ _ _ (show Y < W6.drew.heap.size from hltY)]; exact q1
    have fza : ∀ c t, (W6.drew.alloc (.cells c t)).frozen? ⟨gF, k * 3 + 2, none⟩ = false := fun c t => (frozen?_alloc_cells _ _ _ _).trans hfz
    have cea : ∀ o, (W6.drew.alloc o).cell? ⟨gF, k * 3 + 2, none⟩ = some (.slice q.funcs[k].ba q.funcs[k].body.length q.funcs[k].bc) := fun o => by
      rw [World.cell?_alloc_past _ _ _ (show gF < W6.drew.heap.size from hltF)]; exact hcell
    have q1b : ∀ o, (W6.alloc o).drew.cell? ⟨Y, 1, none⟩ = some (.slice (some ⟨gF, 0, none⟩) q.funcs.length q.fc) := q1a
    have fzb : ∀ c t, (W6.alloc (.cells c t)).drew.frozen? ⟨gF, k * 3 + 2, none⟩ = false := fza
    have ceb : ∀ o, (W6.alloc o).drew.cell? ⟨gF, k * 3 + 2, none⟩ = some (.slice q.funcs[k].ba q.funcs[k].body.length q.funcs[k].bc) := cea
    clear hltF hltY
    go_region
    have HC := Hid.mk' hkq
    clear q0 q1 q1' q1a q1b fza fzb cea ceb hcell hcell' hfz hfz' hlk
    obtain ⟨arr, hARR⟩ : ∃ arr, arr = (wS q.funcs[k].ba q.funcs[k].bc q.funcs[k].body).cells.toArray := ⟨_, rfl⟩
    show Exit.then _ _ Exit.normal _ ((W6.alloc (.cells (wS q.funcs[k].ba q.funcs[k].bc q.funcs[k].body).cells.toArray 41)).setCell ⟨gF, k * 3 + 2, none⟩ (.slice (some ⟨W6.heap.size, 0, none⟩) 1 1)).drew
    rw [← hARR]
    obtain ⟨W7, hW7⟩ : ∃ W7, ((W6.alloc (.cells arr 41)).setCell ⟨gF, k * 3 + 2, none⟩ (.slice (some ⟨W6.heap.size, 0, none⟩) 1 1)).drew = W7 := ⟨_, rfl⟩
    rw [hW7]
    have HQI : Hid (∀ W', (∀ b ∈ W6.heap.size :: q.bl, W'.heap[b]? = W7.heap[b]?) → (q.setF k (q.funcs[k].wrap (some ⟨W6.heap.size, 0, none⟩) 1)).In W') := fun W' h => wrap_in HX.out.1 HX.out.2.2.1 hkq hARR (fun b hb => (h b hb).trans (by rw [← hW7, HFA.out]; rfl))
    have BW7 : Hid (Below w4.heap.size w4 W7) := by
      show Below _ _ _
      rw [← hW7]
      exact Below.drew (Below.setCell (Below.one HX.out.2.2.2.2.1 _) (HX.out.2.2.2.1 gF HX.out.2.2.2.2.2.1).1 _)
    have HY7 : Hid (W7.heap[Y]? = some (.cells #[.slice q.wa q.widen.length q.wc, .slice q.fa q.funcs.length q.fc] 25 (0, 0))) := by
      show _ = _
      rw [← hW7]
      have hne : Y ≠ gF := by have := (HX.out.2.2.2.1 gF HX.out.2.2.2.2.2.1).2; omega
      exact (Below.heap_setCell _ _ _ _ hne).trans (keep_heap HY.out _)
    have HSZ : Hid ((∀ b ∈ W6.heap.size :: q.bl, w4.heap.size ≤ b ∧ b < W7.heap.size) ∧ Y < W7.heap.size ∧ Y ∉ W6.heap.size :: q.bl ∧ w4.heap.size ≤ Y) := by
      have hs7 : W7.heap.size = W6.heap.size + 1 := by rw [← hW7]; simp [World.drew, World.setCell]
      have h6 := HX.out.2.2.2.2.1.size
      have h5 := HS.out
      have h9 := HX.out.2.2.2.1 gF HX.out.2.2.2.2.2.1
      refine ⟨fun b hb => ?_, by omega, fun h => ?_, by omega⟩
      · rcases List.mem_cons.1 hb with rfl | hb
        · omega
        · have := HX.out.2.2.2.1 b hb; omega
      · rcases List.mem_cons.1 h with h | h
        · omega
        · have := HX.out.2.2.2.1 Y h; omega
    have HAQ : Hid (∀ W', (∀ b ∈ W6.heap.size :: q.bl, W'.heap[b]? = W7.heap[b]?) → Below w.heap.size w W' → AskW q p k W6.heap.size (checkZ (q.setF k (q.funcs[k].wrap (some ⟨W6.heap.size, 0, none⟩) 1))) W') := fun W' h hb => HAS.out q k W6.heap.size W' hkq HX.out.2.1 (by trivial) (HQI.out W' h) hb
    have BW : Hid (Below w.heap.size w W7) := Below.on HB1.out (Below.on HB5.out BW7.out)
    have HBF : Hid (W7.heap[Bf]? = some (.cells #[.int .i64 n1, .int .i64 n2, .int .i64 n3] 29 (0, 0)) ∧ Bf ∉ W6.heap.size :: q.bl ∧ Bf ≠ Y ∧ w.heap.size < Bf) := by
      have hlt : Bf < w4.heap.size := (Array.getElem?_eq_some_iff.1 H54.out).1
      exact ⟨keep_h H54.out BW7.out, fun h => by have := (HSZ.out.1 Bf h).1; omega, by have := HSZ.out.2.2.2; omega, HBFW.out⟩
    have HZ7 : Hid (W7.heap[w.heap.size]? = some (.cells #[.slice p.wa p.widen.length p.wc, .slice p.fa p.funcs.length p.fc] 25 (0, 0))) := PH.out _ (Below.on HB5.out BW7.out)
    obtain ⟨q0, q1⟩ : W7.cell? ⟨Y, 0, none⟩ = some (.slice q.wa q.widen.length q.wc) ∧ W7.cell? ⟨Y, 1, none⟩ = some (.slice q.fa q.funcs.length q.fc) := ⟨Lib.cell_of_heap HY7.out 0, Lib.cell_of_heap HY7.out 1⟩
    have HW := Hid.mk' hW7
    clear hARR hW7 HQI HX HY HS HAS HLE BW7 HCE H54 HB5
    generalize W6.heap.size :: q.bl = S at *
    generalize checkZ (q.setF k (q.funcs[k].wrap (some ⟨W6.heap.size, 0, none⟩) 1)) = C at *
    obtain ⟨k1, k2, k3⟩ := C
    go_wp2_with fail
    refine (HAQ.out W7 (fun _ _ => rfl) BW.out).chk.mono ?_
    rintro e w8 ⟨rfl, hb8⟩
    clear q0 q1
    cases hk1 : (k1 != 0) with
    | true =>
      go_wp2_with fail
      go_ret
      exact ⟨rfl, Below.on BW.out hb8⟩
    | false =>
      have hk1' : k1 = 0 := by simpa using hk1
      subst hk1'
      have H8 : Hid (WrapAt w W7 S q p Bf Y n1 n2 n3 w8) := ⟨Below.on BW.out hb8, keep_h HBF.out.1 hb8, keep_h HY7.out hb8, keep_h HZ7.out hb8, fun b hb => ⟨hb8.block b (HSZ.out.1 b hb).2, Nat.lt_of_lt_of_le (HSZ.out.1 b hb).2 hb8.size⟩⟩
      have f0 : w8.cell? ⟨Bf, 0, none⟩ = some (.int .i64 n1) := Lib.cell_of_heap H8.out.hF 0
      have f1 : w8.cell? ⟨Bf, 1, none⟩ = some (.int .i64 n2) := Lib.cell_of_heap H8.out.hF 1
      have f2 : w8.cell? ⟨Bf, 2, none⟩ = some (.int .i64 n3) := Lib.cell_of_heap H8.out.hF 2
      have fz : w8.frozen? ⟨Bf, 2, none⟩ = false := Lib.frozen_of_heap H8.out.hF 2
      have HN3 : Hid (n3 ≤ 12288) := HNB.out (by trivial)
      clear hb8 hk1 HNB
      by_cases a1 : n1 = 0
      · have a1' : (n1 != 0) = false := by simpa using a1
        have HBU : Hid (bump k (n1, n2, n3) = (n1, n2, n3)) := by show _ = _; unfold bump; rw [if_neg (fun h => h.1 a1)]
        clear a1
        go_upto_region 12 with fail
        have H9 := H8
        clear f0 f1 f2 fz a1' H8
        have HP9 : Hid (∀ W', Below w8.heap.size w8 W' → Calls Tryd.prog 8 #[.agg #[.slice p.wa p.widen.length p.wc, .slice p.fa p.funcs.length p.fc], .int .i64 k] W' fun e w'' => (∃ a n, e = .returned (.slice a (clN p k).length n) ∧ Hid (w''.ownsRow W'.heap.size 3 1 (.slice a (clN p k).length n) (clN p k).length ((clN p k).map (Value.int .i64)))) ∧ Below W'.heap.size W' w'') := fun W' h => own_hid (HPN.out W' (H9.out.stay h).below)
        have HQ9 : Hid (∀ W', Below w8.heap.size w8 W' → Calls Tryd.prog 8 #[.agg #[.slice q.wa q.widen.length q.wc, .slice q.fa q.funcs.length q.fc], .int .i64 k] W' fun e w'' => (∃ a n, e = .returned (.slice a (clN p k).length n) ∧ Hid (w''.ownsRow W'.heap.size 3 1 (.slice a (clN p k).length n) (clN p k).length ((clN p k).map (Value.int .i64)))) ∧ Below W'.heap.size W' w'') := fun W' h => own_hid ((HAQ.out W' (fun b hb => ((H9.out.stay h).hK b hb).1) (H9.out.stay h).below).cal (by trivial))
        have HN9 : Hid (∀ W', Below w8.heap.size w8 W' → Calls Tryd.prog 5 #[.agg #[.slice q.wa q.widen.length q.wc, .slice q.fa q.funcs.length q.fc]] W' fun e w'' => e = .returned (.agg #[.int .i64 n1, .int .i64 n2, .int .i64 n3]) ∧ Below W'.heap.size W' w'') := fun W' h => by
          have := (HAQ.out W' (fun b hb => ((H9.out.stay h).hK b hb).1) (H9.out.stay h).below).nam (by trivial)
          rw [HNZ.out, HBU.out] at this
          exact this
        have HCL : Hid ((clN p k).length ≤ 12288) := clN_len p k
        have p0 := seen (Lib.cell_of_heap H9.out.hZ 0 : w8.cell? ⟨w.heap.size, 0, none⟩ = some (.slice p.wa p.widen.length p.wc))
        have p1 := seen (Lib.cell_of_heap H9.out.hZ 1 : w8.cell? ⟨w.heap.size, 1, none⟩ = some (.slice p.fa p.funcs.length p.fc))
        have q0 := seen (Lib.cell_of_heap H9.out.hY 0 : w8.cell? ⟨Y, 0, none⟩ = some (.slice q.wa q.widen.length q.wc))
        have q1 := seen (Lib.cell_of_heap H9.out.hY 1 : w8.cell? ⟨Y, 1, none⟩ = some (.slice q.fa q.funcs.length q.fc))
        clear HPN HAQ HBU HNZ
        generalize clN p k = c at *
        go_region_held3 (fun w' => Below w8.heap.size w8 w') (first | exact Below.drew (Below.refl _ _) | exact Below.on (by assumption) (by assumption) | exact Below.one (by assumption) _)
          (first
            | (go_at_call_of 8 (Value.slice p.fa p.funcs.length p.fc); refine (HP9.out _ (by assumption)).mono ?_; rintro e wa ⟨⟨xa, ca, rfl, oa⟩, hba⟩)
            | (go_at_call_of 8 (Value.slice q.fa q.funcs.length q.fc); refine (HQ9.out _ (by assumption)).mono ?_; rintro e wb ⟨⟨xb, cb, rfl, ob⟩, hbb⟩))
        have HA9 : Hid (∀ W', Below wb.heap.size wb W' → W'.ownsRow w8.drew.heap.size 3 1 (.slice xa c.length ca) c.length (c.map (Value.int .i64))) := fun W' h => own_keep oa.out (fun g hg => by
          have h1 := (own_lt oa.out g hg).2
          rw [h.block g (Nat.lt_of_lt_of_le h1 hbb.size), hbb.block g h1])
        have HO9 : Hid (∀ W', Below wb.heap.size wb W' → W'.ownsRow wa.heap.size 3 1 (.slice xb c.length cb) c.length (c.map (Value.int .i64))) := fun W' h => own_keep ob.out (fun g hg => by rw [h.block g (own_lt ob.out g hg).2])
        have HBB : Hid (Below w8.heap.size w8 wb) := by show Below _ _ _; assumption
        have f0 := seen (Lib.cell_of_heap H9.out.hF 0 : w8.cell? ⟨Bf, 0, none⟩ = some (.int .i64 n1))
        have f1 := seen (Lib.cell_of_heap H9.out.hF 1 : w8.cell? ⟨Bf, 1, none⟩ = some (.int .i64 n2))
        have f2 := seen (Lib.cell_of_heap H9.out.hF 2 : w8.cell? ⟨Bf, 2, none⟩ = some (.int .i64 n3))
        have hqt : ∀ w, (Op.equalIn 10000 29 (.agg #[.int .i64 n1, .int .i64 n2, .int .i64 n3]) (.agg #[.int .i64 n1, .int .i64 n2, .int .i64 n3])).run Tryd.prog w = .ok true w := fun w => by rw [hq]; simp
        clear p0 p1 HP9 HQ9 oa ob hba hbb hq hfd
        go_wp2_with fail
        go_loopw [90] (fun t90 wr => ∃ j : Nat, j ≤ c.length ∧ t90 = .int .i64 j ∧ Below wb.heap.size wb wr) (fun t90 _ => c.length - (intOf t90).toNat)
        case atStart => exact ⟨0, Nat.zero_le _, rfl, Below.refl _ _⟩
        case round =>
          obtain ⟨j, hj, rfl, hbr⟩ := hrel
          by_cases hlj : j < c.length
          · have hcl : c.length ≤ 12288 := HCL.out
            have hlij : (j : Int) < (c.length : Int) := by omega
            obtain ⟨ga, cap1, hv1, hc1, e1, _⟩ := gown_cell (j := j) (u := .int .i64 c[j]) (HA9.out _ hbr) (by simp [hlj])
            injection hv1 with hla _ hlc
            subst hla
            subst hlc
            obtain ⟨gb, cap2, hv2, hc2, e2, _⟩ := gown_cell (j := j) (u := .int .i64 c[j]) (HO9.out _ hbr) (by simp [hlj])
            injection hv2 with hla _ hlc
            subst hla
            subst hlc
            have HBR := Hid.mk' hbr
            clear hbr f0 f1 f2 q0 q1
            generalize c[j] = z at *
            have e1' : wr.drew.cell? _ = _ := e1
            have e2' : wr.drew.cell? _ = _ := e2
            go_upto_region 18 with fail
            go_region
            clear e1 e2 e1' e2'
            go_wp2_with fail
            go_roundw
            case rel => exact ⟨j + 1, by omega, by go_num, Below.drew HBR.out⟩
            case measure => simp [intOf]; omega
          · have hlij : ¬ (j : Int) < (c.length : Int) := by omega
            have HBR := Hid.mk' (Below.on HBB.out hbr)
            clear hbr
            go_upto_region 21 with fail
            go_region_held3 (fun w' => Below w8.heap.size w8 w') (first | exact Below.drew HBR.out | exact Below.on (by assumption) (by assumption)) ((go_at_call 5; refine (HN9.out _ (by assumption)).mono ?_; rintro e w' ⟨rfl, hb⟩))
            all_goals go_wp2_with fail
            all_goals go_ret
            all_goals exact ⟨rfl, Below.on H9.out.below (by assumption)⟩
      have a1' : (n1 != 0) = true := by simpa using a1
      by_cases a2 : n2 = (k : Int)
      · have a2' : (n2 == (k : Int)) = true := by simpa using a2
        by_cases a3 : 0 < n3
        · have HBU : Hid (bump k (n1, n2, n3) = (n1, n2, n3 + 1)) := by show _ = _; unfold bump; rw [if_pos ⟨a1, a2, a3⟩]
          have hov1 : n3 + 1 ≤ 9223372036854775807 := by have := HN3.out; omega
          have hov2 : -9223372036854775808 ≤ n3 + 1 := by omega
          clear a1 a2
          go_upto_region 12 with fail
          have H9 := Hid.mk' (H8.out.set HBF.out.2.1 HBF.out.2.2.1 HBF.out.2.2.2 (n3 + 1))
          clear f0 f1 f2 fz a1' a2' a3 hov1 hov2 HN3 H8 HBF
          generalize w8.setCell ⟨Bf, 2, none⟩ (.int .i64 (n3 + 1)) = W9 at *
          generalize n3 + 1 = b3 at *
          have HP9 : Hid (∀ W', Below W9.heap.size W9 W' → Calls Tryd.prog 8 #[.agg #[.slice p.wa p.widen.length p.wc, .slice p.fa p.funcs.length p.fc], .int .i64 k] W' fun e w'' => (∃ a n, e = .returned (.slice a (clN p k).length n) ∧ Hid (w''.ownsRow W'.heap.size 3 1 (.slice a (clN p k).length n) (clN p k).length ((clN p k).map (Value.int .i64)))) ∧ Below W'.heap.size W' w'') := fun W' h => own_hid (HPN.out W' (H9.out.stay h).below)
          have HQ9 : Hid (∀ W', Below W9.heap.size W9 W' → Calls Tryd.prog 8 #[.agg #[.slice q.wa q.widen.length q.wc, .slice q.fa q.funcs.length q.fc], .int .i64 k] W' fun e w'' => (∃ a n, e = .returned (.slice a (clN p k).length n) ∧ Hid (w''.ownsRow W'.heap.size 3 1 (.slice a (clN p k).length n) (clN p k).length ((clN p k).map (Value.int .i64)))) ∧ Below W'.heap.size W' w'') := fun W' h => own_hid ((HAQ.out W' (fun b hb => ((H9.out.stay h).hK b hb).1) (H9.out.stay h).below).cal (by trivial))
          have HN9 : Hid (∀ W', Below W9.heap.size W9 W' → Calls Tryd.prog 5 #[.agg #[.slice q.wa q.widen.length q.wc, .slice q.fa q.funcs.length q.fc]] W' fun e w'' => e = .returned (.agg #[.int .i64 n1, .int .i64 n2, .int .i64 b3]) ∧ Below W'.heap.size W' w'') := fun W' h => by
            have := (HAQ.out W' (fun b hb => ((H9.out.stay h).hK b hb).1) (H9.out.stay h).below).nam (by trivial)
            rw [HNZ.out, HBU.out] at this
            exact this
          have HCL : Hid ((clN p k).length ≤ 12288) := clN_len p k
          have p0 := seen (Lib.cell_of_heap H9.out.hZ 0 : W9.cell? ⟨w.heap.size, 0, none⟩ = some (.slice p.wa p.widen.length p.wc))
          have p1 := seen (Lib.cell_of_heap H9.out.hZ 1 : W9.cell? ⟨w.heap.size, 1, none⟩ = some (.slice p.fa p.funcs.length p.fc))
          have q0 := seen (Lib.cell_of_heap H9.out.hY 0 : W9.cell? ⟨Y, 0, none⟩ = some (.slice q.wa q.widen.length q.wc))
          have q1 := seen (Lib.cell_of_heap H9.out.hY 1 : W9.cell? ⟨Y, 1, none⟩ = some (.slice q.fa q.funcs.length q.fc))
          clear HPN HAQ HBU HNZ
          generalize clN p k = c at *
          go_region_held3 (fun w' => Below W9.heap.size W9 w') (first | exact Below.drew (Below.refl _ _) | exact Below.on (by assumption) (by assumption) | exact Below.one (by assumption) _)
            (first
              | (go_at_call_of 8 (Value.slice p.fa p.funcs.length p.fc); refine (HP9.out _ (by assumption)).mono ?_; rintro e wa ⟨⟨xa, ca, rfl, oa⟩, hba⟩)
              | (go_at_call_of 8 (Value.slice q.fa q.funcs.length q.fc); refine (HQ9.out _ (by assumption)).mono ?_; rintro e wb ⟨⟨xb, cb, rfl, ob⟩, hbb⟩))
          have HA9 : Hid (∀ W', Below wb.heap.size wb W' → W'.ownsRow W9.drew.heap.size 3 1 (.slice xa c.length ca) c.length (c.map (Value.int .i64))) := fun W' h => own_keep oa.out (fun g hg => by
            have h1 := (own_lt oa.out g hg).2
            rw [h.block g (Nat.lt_of_lt_of_le h1 hbb.size), hbb.block g h1])
          have HO9 : Hid (∀ W', Below wb.heap.size wb W' → W'.ownsRow wa.heap.size 3 1 (.slice xb c.length cb) c.length (c.map (Value.int .i64))) := fun W' h => own_keep ob.out (fun g hg => by rw [h.block g (own_lt ob.out g hg).2])
          have HBB : Hid (Below W9.heap.size W9 wb) := by show Below _ _ _; assumption
          have f0 := seen (Lib.cell_of_heap H9.out.hF 0 : W9.cell? ⟨Bf, 0, none⟩ = some (.int .i64 n1))
          have f1 := seen (Lib.cell_of_heap H9.out.hF 1 : W9.cell? ⟨Bf, 1, none⟩ = some (.int .i64 n2))
          have f2 := seen (Lib.cell_of_heap H9.out.hF 2 : W9.cell? ⟨Bf, 2, none⟩ = some (.int .i64 b3))
          have hqt : ∀ w, (Op.equalIn 10000 29 (.agg #[.int .i64 n1, .int .i64 n2, .int .i64 b3]) (.agg #[.int .i64 n1, .int .i64 n2, .int .i64 b3])).run Tryd.prog w = .ok true w := fun w => by rw [hq]; simp
          clear p0 p1 HP9 HQ9 oa ob hba hbb hq hfd
          go_wp2_with fail
          go_loopw [90] (fun t90 wr => ∃ j : Nat, j ≤ c.length ∧ t90 = .int .i64 j ∧ Below wb.heap.size wb wr) (fun t90 _ => c.length - (intOf t90).toNat)
          case atStart => exact ⟨0, Nat.zero_le _, rfl, Below.refl _ _⟩
          case round =>
            obtain ⟨j, hj, rfl, hbr⟩ := hrel
            by_cases hlj : j < c.length
            · have hcl : c.length ≤ 12288 := HCL.out
              have hlij : (j : Int) < (c.length : Int) := by omega
              obtain ⟨ga, cap1, hv1, hc1, e1, _⟩ := gown_cell (j := j) (u := .int .i64 c[j]) (HA9.out _ hbr) (by simp [hlj])
              injection hv1 with hla _ hlc
              subst hla
              subst hlc
              obtain ⟨gb, cap2, hv2, hc2, e2, _⟩ := gown_cell (j := j) (u := .int .i64 c[j]) (HO9.out _ hbr) (by simp [hlj])
              injection hv2 with hla _ hlc
              subst hla
              subst hlc
              have HBR := Hid.mk' hbr
              clear hbr f0 f1 f2 q0 q1
              generalize c[j] = z at *
              have e1' : wr.drew.cell? _ = _ := e1
              have e2' : wr.drew.cell? _ = _ := e2
              go_upto_region 18 with fail
              go_region
              clear e1 e2 e1' e2'
              go_wp2_with fail
              go_roundw
              case rel => exact ⟨j + 1, by omega, by go_num, Below.drew HBR.out⟩
              case measure => simp [intOf]; omega
            · have hlij : ¬ (j : Int) < (c.length : Int) := by omega
              have HBR := Hid.mk' (Below.on HBB.out hbr)
              clear hbr
              go_upto_region 21 with fail
              go_region_held3 (fun w' => Below W9.heap.size W9 w') (first | exact Below.drew HBR.out | exact Below.on (by assumption) (by assumption)) ((go_at_call 5; refine (HN9.out _ (by assumption)).mono ?_; rintro e w' ⟨rfl, hb⟩))
              all_goals go_wp2_with fail
              all_goals go_ret
              all_goals exact ⟨rfl, Below.on H9.out.below (by assumption)⟩
        · have HBU : Hid (bump k (n1, n2, n3) = (n1, n2, n3)) := by show _ = _; unfold bump; rw [if_neg (fun h => a3 h.2.2)]
          clear a1 a2
          go_upto_region 12 with fail
          have H9 := H8
          clear f0 f1 f2 fz a1' a2' a3 H8
          have HP9 : Hid (∀ W', Below w8.heap.size w8 W' → Calls Tryd.prog 8 #[.agg #[.slice p.wa p.widen.length p.wc, .slice p.fa p.funcs.length p.fc], .int .i64 k] W' fun e w'' => (∃ a n, e = .returned (.slice a (clN p k).length n) ∧ Hid (w''.ownsRow W'.heap.size 3 1 (.slice a (clN p k).length n) (clN p k).length ((clN p k).map (Value.int .i64)))) ∧ Below W'.heap.size W' w'') := fun W' h => own_hid (HPN.out W' (H9.out.stay h).below)
          have HQ9 : Hid (∀ W', Below w8.heap.size w8 W' → Calls Tryd.prog 8 #[.agg #[.slice q.wa q.widen.length q.wc, .slice q.fa q.funcs.length q.fc], .int .i64 k] W' fun e w'' => (∃ a n, e = .returned (.slice a (clN p k).length n) ∧ Hid (w''.ownsRow W'.heap.size 3 1 (.slice a (clN p k).length n) (clN p k).length ((clN p k).map (Value.int .i64)))) ∧ Below W'.heap.size W' w'') := fun W' h => own_hid ((HAQ.out W' (fun b hb => ((H9.out.stay h).hK b hb).1) (H9.out.stay h).below).cal (by trivial))
          have HN9 : Hid (∀ W', Below w8.heap.size w8 W' → Calls Tryd.prog 5 #[.agg #[.slice q.wa q.widen.length q.wc, .slice q.fa q.funcs.length q.fc]] W' fun e w'' => e = .returned (.agg #[.int .i64 n1, .int .i64 n2, .int .i64 n3]) ∧ Below W'.heap.size W' w'') := fun W' h => by
            have := (HAQ.out W' (fun b hb => ((H9.out.stay h).hK b hb).1) (H9.out.stay h).below).nam (by trivial)
            rw [HNZ.out, HBU.out] at this
            exact this
          have HCL : Hid ((clN p k).length ≤ 12288) := clN_len p k
          have p0 := seen (Lib.cell_of_heap H9.out.hZ 0 : w8.cell? ⟨w.heap.size, 0, none⟩ = some (.slice p.wa p.widen.length p.wc))
          have p1 := seen (Lib.cell_of_heap H9.out.hZ 1 : w8.cell? ⟨w.heap.size, 1, none⟩ = some (.slice p.fa p.funcs.length p.fc))
          have q0 := seen (Lib.cell_of_heap H9.out.hY 0 : w8.cell? ⟨Y, 0, none⟩ = some (.slice q.wa q.widen.length q.wc))
          have q1 := seen (Lib.cell_of_heap H9.out.hY 1 : w8.cell? ⟨Y, 1, none⟩ = some (.slice q.fa q.funcs.length q.fc))
          clear HPN HAQ HBU HNZ
          generalize clN p k = c at *
          go_region_held3 (fun w' => Below w8.heap.size w8 w') (first | exact Below.drew (Below.refl _ _) | exact Below.on (by assumption) (by assumption) | exact Below.one (by assumption) _)
            (first
              | (go_at_call_of 8 (Value.slice p.fa p.funcs.length p.fc); refine (HP9.out _ (by assumption)).mono ?_; rintro e wa ⟨⟨xa, ca, rfl, oa⟩, hba⟩)
              | (go_at_call_of 8 (Value.slice q.fa q.funcs.length q.fc); refine (HQ9.out _ (by assumption)).mono ?_; rintro e wb ⟨⟨xb, cb, rfl, ob⟩, hbb⟩))
          have HA9 : Hid (∀ W', Below wb.heap.size wb W' → W'.ownsRow w8.drew.heap.size 3 1 (.slice xa c.length ca) c.length (c.map (Value.int .i64))) := fun W' h => own_keep oa.out (fun g hg => by
            have h1 := (own_lt oa.out g hg).2
            rw [h.block g (Nat.lt_of_lt_of_le h1 hbb.size), hbb.block g h1])
          have HO9 : Hid (∀ W', Below wb.heap.size wb W' → W'.ownsRow wa.heap.size 3 1 (.slice xb c.length cb) c.length (c.map (Value.int .i64))) := fun W' h => own_keep ob.out (fun g hg => by rw [h.block g (own_lt ob.out g hg).2])
          have HBB : Hid (Below w8.heap.size w8 wb) := by show Below _ _ _; assumption
          have f0 := seen (Lib.cell_of_heap H9.out.hF 0 : w8.cell? ⟨Bf, 0, none⟩ = some (.int .i64 n1))
          have f1 := seen (Lib.cell_of_heap H9.out.hF 1 : w8.cell? ⟨Bf, 1, none⟩ = some (.int .i64 n2))
          have f2 := seen (Lib.cell_of_heap H9.out.hF 2 : w8.cell? ⟨Bf, 2, none⟩ = some (.int .i64 n3))
          have hqt : ∀ w, (Op.equalIn 10000 29 (.agg #[.int .i64 n1, .int .i64 n2, .int .i64 n3]) (.agg #[.int .i64 n1, .int .i64 n2, .int .i64 n3])).run Tryd.prog w = .ok true w := fun w => by rw [hq]; simp
          clear p0 p1 HP9 HQ9 oa ob hba hbb hq hfd
          go_wp2_with fail
          go_loopw [90] (fun t90 wr => ∃ j : Nat, j ≤ c.length ∧ t90 = .int .i64 j ∧ Below wb.heap.size wb wr) (fun t90 _ => c.length - (intOf t90).toNat)
          case atStart => exact ⟨0, Nat.zero_le _, rfl, Below.refl _ _⟩
          case round =>
            obtain ⟨j, hj, rfl, hbr⟩ := hrel
            by_cases hlj : j < c.length
            · have hcl : c.length ≤ 12288 := HCL.out
              have hlij : (j : Int) < (c.length : Int) := by omega
              obtain ⟨ga, cap1, hv1, hc1, e1, _⟩ := gown_cell (j := j) (u := .int .i64 c[j]) (HA9.out _ hbr) (by simp [hlj])
              injection hv1 with hla _ hlc
              subst hla
              subst hlc
              obtain ⟨gb, cap2, hv2, hc2, e2, _⟩ := gown_cell (j := j) (u := .int .i64 c[j]) (HO9.out _ hbr) (by simp [hlj])
              injection hv2 with hla _ hlc
              subst hla
              subst hlc
              have HBR := Hid.mk' hbr
              clear hbr f0 f1 f2 q0 q1
              generalize c[j] = z at *
              have e1' : wr.drew.cell? _ = _ := e1
              have e2' : wr.drew.cell? _ = _ := e2
              go_upto_region 18 with fail
              go_region
              clear e1 e2 e1' e2'
              go_wp2_with fail
              go_roundw
              case rel => exact ⟨j + 1, by omega, by go_num, Below.drew HBR.out⟩
              case measure => simp [intOf]; omega
            · have hlij : ¬ (j : Int) < (c.length : Int) := by omega
              have HBR := Hid.mk' (Below.on HBB.out hbr)
              clear hbr
              go_upto_region 21 with fail
              go_region_held3 (fun w' => Below w8.heap.size w8 w') (first | exact Below.drew HBR.out | exact Below.on (by assumption) (by assumption)) ((go_at_call 5; refine (HN9.out _ (by assumption)).mono ?_; rintro e w' ⟨rfl, hb⟩))
              all_goals go_wp2_with fail
              all_goals go_ret
              all_goals exact ⟨rfl, Below.on H9.out.below (by assumption)⟩
      · have a2' : (n2 == (k : Int)) = false := by simpa using a2
        have HBU : Hid (bump k (n1, n2, n3) = (n1, n2, n3)) := by show _ = _; unfold bump; rw [if_neg (fun h => a2 h.2.1)]
        clear a1 a2
        go_upto_region 12 with fail
        have H9 := H8
        clear f0 f1 f2 fz a1' a2' H8
        have HP9 : Hid (∀ W', Below w8.heap.size w8 W' → Calls Tryd.prog 8 #[.agg #[.slice p.wa p.widen.length p.wc, .slice p.fa p.funcs.length p.fc], .int .i64 k] W' fun e w'' => (∃ a n, e = .returned (.slice a (clN p k).length n) ∧ Hid (w''.ownsRow W'.heap.size 3 1 (.slice a (clN p k).length n) (clN p k).length ((clN p k).map (Value.int .i64)))) ∧ Below W'.heap.size W' w'') := fun W' h => own_hid (HPN.out W' (H9.out.stay h).below)
        have HQ9 : Hid (∀ W', Below w8.heap.size w8 W' → Calls Tryd.prog 8 #[.agg #[.slice q.wa q.widen.length q.wc, .slice q.fa q.funcs.length q.fc], .int .i64 k] W' fun e w'' => (∃ a n, e = .returned (.slice a (clN p k).length n) ∧ Hid (w''.ownsRow W'.heap.size 3 1 (.slice a (clN p k).length n) (clN p k).length ((clN p k).map (Value.int .i64)))) ∧ Below W'.heap.size W' w'') := fun W' h => own_hid ((HAQ.out W' (fun b hb => ((H9.out.stay h).hK b hb).1) (H9.out.stay h).below).cal (by trivial))
        have HN9 : Hid (∀ W', Below w8.heap.size w8 W' → Calls Tryd.prog 5 #[.agg #[.slice q.wa q.widen.length q.wc, .slice q.fa q.funcs.length q.fc]] W' fun e w'' => e = .returned (.agg #[.int .i64 n1, .int .i64 n2, .int .i64 n3]) ∧ Below W'.heap.size W' w'') := fun W' h => by
          have := (HAQ.out W' (fun b hb => ((H9.out.stay h).hK b hb).1) (H9.out.stay h).below).nam (by trivial)
          rw [HNZ.out, HBU.out] at this
          exact this
        have HCL : Hid ((clN p k).length ≤ 12288) := clN_len p k
        have p0 := seen (Lib.cell_of_heap H9.out.hZ 0 : w8.cell? ⟨w.heap.size, 0, none⟩ = some (.slice p.wa p.widen.length p.wc))
        have p1 := seen (Lib.cell_of_heap H9.out.hZ 1 : w8.cell? ⟨w.heap.size, 1, none⟩ = some (.slice p.fa p.funcs.length p.fc))
        have q0 := seen (Lib.cell_of_heap H9.out.hY 0 : w8.cell? ⟨Y, 0, none⟩ = some (.slice q.wa q.widen.length q.wc))
        have q1 := seen (Lib.cell_of_heap H9.out.hY 1 : w8.cell? ⟨Y, 1, none⟩ = some (.slice q.fa q.funcs.length q.fc))
        clear HPN HAQ HBU HNZ
        generalize clN p k = c at *
        go_region_held3 (fun w' => Below w8.heap.size w8 w') (first | exact Below.drew (Below.refl _ _) | exact Below.on (by assumption) (by assumption) | exact Below.one (by assumption) _)
          (first
            | (go_at_call_of 8 (Value.slice p.fa p.funcs.length p.fc); refine (HP9.out _ (by assumption)).mono ?_; rintro e wa ⟨⟨xa, ca, rfl, oa⟩, hba⟩)
            | (go_at_call_of 8 (Value.slice q.fa q.funcs.length q.fc); refine (HQ9.out _ (by assumption)).mono ?_; rintro e wb ⟨⟨xb, cb, rfl, ob⟩, hbb⟩))
        have HA9 : Hid (∀ W', Below wb.heap.size wb W' → W'.ownsRow w8.drew.heap.size 3 1 (.slice xa c.length ca) c.length (c.map (Value.int .i64))) := fun W' h => own_keep oa.out (fun g hg => by
          have h1 := (own_lt oa.out g hg).2
          rw [h.block g (Nat.lt_of_lt_of_le h1 hbb.size), hbb.block g h1])
        have HO9 : Hid (∀ W', Below wb.heap.size wb W' → W'.ownsRow wa.heap.size 3 1 (.slice xb c.length cb) c.length (c.map (Value.int .i64))) := fun W' h => own_keep ob.out (fun g hg => by rw [h.block g (own_lt ob.out g hg).2])
        have HBB : Hid (Below w8.heap.size w8 wb) := by show Below _ _ _; assumption
        have f0 := seen (Lib.cell_of_heap H9.out.hF 0 : w8.cell? ⟨Bf, 0, none⟩ = some (.int .i64 n1))
        have f1 := seen (Lib.cell_of_heap H9.out.hF 1 : w8.cell? ⟨Bf, 1, none⟩ = some (.int .i64 n2))
        have f2 := seen (Lib.cell_of_heap H9.out.hF 2 : w8.cell? ⟨Bf, 2, none⟩ = some (.int .i64 n3))
        have hqt : ∀ w, (Op.equalIn 10000 29 (.agg #[.int .i64 n1, .int .i64 n2, .int .i64 n3]) (.agg #[.int .i64 n1, .int .i64 n2, .int .i64 n3])).run Tryd.prog w = .ok true w := fun w => by rw [hq]; simp
        clear p0 p1 HP9 HQ9 oa ob hba hbb hq hfd
        go_wp2_with fail
        go_loopw [90] (fun t90 wr => ∃ j : Nat, j ≤ c.length ∧ t90 = .int .i64 j ∧ Below wb.heap.size wb wr) (fun t90 _ => c.length - (intOf t90).toNat)
        case atStart => exact ⟨0, Nat.zero_le _, rfl, Below.refl _ _⟩
        case round =>
          obtain ⟨j, hj, rfl, hbr⟩ := hrel
          by_cases hlj : j < c.length
          · have hcl : c.length ≤ 12288 := HCL.out
            have hlij : (j : Int) < (c.length : Int) := by omega
            obtain ⟨ga, cap1, hv1, hc1, e1, _⟩ := gown_cell (j := j) (u := .int .i64 c[j]) (HA9.out _ hbr) (by simp [hlj])
            injection hv1 with hla _ hlc
            subst hla
            subst hlc
            obtain ⟨gb, cap2, hv2, hc2, e2, _⟩ := gown_cell (j := j) (u := .int .i64 c[j]) (HO9.out _ hbr) (by simp [hlj])
            injection hv2 with hla _ hlc
            subst hla
            subst hlc
            have HBR := Hid.mk' hbr
            clear hbr f0 f1 f2 q0 q1
            generalize c[j] = z at *
            have e1' : wr.drew.cell? _ = _ := e1
            have e2' : wr.drew.cell? _ = _ := e2
            go_upto_region 18 with fail
            go_region
            clear e1 e2 e1' e2'
            go_wp2_with fail
            go_roundw
            case rel => exact ⟨j + 1, by omega, by go_num, Below.drew HBR.out⟩
            case measure => simp [intOf]; omega
          · have hlij : ¬ (j : Int) < (c.length : Int) := by omega
            have HBR := Hid.mk' (Below.on HBB.out hbr)
            clear hbr
            go_upto_region 21 with fail
            go_region_held3 (fun w' => Below w8.heap.size w8 w') (first | exact Below.drew HBR.out | exact Below.on (by assumption) (by assumption)) ((go_at_call 5; refine (HN9.out _ (by assumption)).mono ?_; rintro e w' ⟨rfl, hb⟩))
            all_goals go_wp2_with fail
            all_goals go_ret
            all_goals exact ⟨rfl, Below.on H9.out.below (by assumption)⟩
  · have hz' : z1 ≠ 0 := by simpa using hz
    have hze : (z1 == 0) = false := by simpa using hz'
    have hn := HZ1.out hz'
    simp only [Prod.mk.injEq] at hn
    obtain ⟨rfl, rfl, rfl⟩ := hn
    clear hz' HNC HZ1 HAS HCP HPN HLE
    have hq2 : ∀ w, (Op.equalIn 10000 29 (.agg #[.int .i64 n1, .int .i64 n2, .int .i64 n3]) (.agg #[.int .i64 n1, .int .i64 n2, .int .i64 n3])).run Tryd.prog w = .ok true w := fun w => by rw [hq]; simp
    clear hq
    go_wp2_with fail
    refine wp_region_quiet_below (by kernel_rfl) (by kernel_rfl) ?_
    repeat (go_big_quiet_step ((go_at_call 6; exact Calls.regrown_of (HC2.out _ (below_regrown _ _ _)))))
    refine wpQuiet_nil ?_
    intro _ hw'
    obtain ⟨⟨dq, osq⟩, hw''⟩ := hw'
    subst hw''
    have hbq := below_regrown w4 dq osq
    clear s0 s1 s2 p0 p1 hq2 hg
    go_wp2_with fail
    go_ret
    exact ⟨rfl, Below.on HB1.out (Below.on HB5.out hbq)⟩
end Go.Proofs.YtkkcgkpbbngloabDoor
