/- The law DomTree. -/
import Derived.Test.YtlnjhnbiljkbmaaDoorRc
namespace Go.Proofs.YtlnjhnbiljkbmaaDoor
open Go.RowKit Go.Shelf

set_option maxRecDepth 100000 in
set_option maxHeartbeats 4000000 in
theorem domTree_any (f : Fn) (w : World) (hi : Iss w f.ca f.code) (hc : f.code.length ≤ f.cc) (hG : 0 < w.heap.size) (hT : Tb w) : Calls Tryd.prog 4 #[f.val] w fun e w' => e = .returned (.bool true) ∧ Below w.heap.size w w' := by
  have HFX : Hid (∀ W, Below w.heap.size w W → Calls Tryd.prog 10 #[] W fun e w' => e = .returned (.bool true) ∧ Below W.heap.size W w') := fun W hb => fixed_any W (Nat.lt_of_lt_of_le hG hb.size) (hT.keep (hb.block _ hG))
  have HTR : Hid (∀ W, Below w.heap.size w W → Calls Tryd.prog 12 #[f.val] W (TrP f.code W)) := fun W hb => tree_any f W (hi.stay hb) hc (Nat.lt_of_lt_of_le hG hb.size) (hT.keep (hb.block _ hG))
  have HRT : Hid (∀ W, Below w.heap.size w W → Calls Tryd.prog 13 #[f.val] W (TrQ f.code W)) := fun W hb => rtree_any f W (hi.stay hb)
  clear hi hc hG hT
  obtain ⟨fn, fpa, fpc, fps, frg, fwd, fca, fcc, fl⟩ := f
  unfold Fn.val at *
  simp only at HTR HRT ⊢
  obtain ⟨W0, hW0⟩ : ∃ X, X = w.alloc (.cells #[.string fn, .slice fpa fps.length fpc, .int .i64 frg, .int .i64 fwd, .slice fca fl.length fcc] 25) := ⟨_, rfl⟩
  have hb0 : Below w.heap.size w W0 := by rw [hW0]; exact Below.one (Below.refl _ w) _
  have hx : W0.heap[w.heap.size]? = some (.cells #[.string fn, .slice fpa fps.length fpc, .int .i64 frg, .int .i64 fwd, .slice fca fl.length fcc] 25) := by rw [hW0]; exact heap_alloc_new w _
  have HZ : Hid (∀ W, Below W0.heap.size W0 W → W.cell? ⟨w.heap.size, 0, none⟩ = some (.string fn) ∧ W.cell? ⟨w.heap.size, 1, none⟩ = some (.slice fpa fps.length fpc) ∧ W.cell? ⟨w.heap.size, 2, none⟩ = some (.int .i64 frg) ∧ W.cell? ⟨w.heap.size, 3, none⟩ = some (.int .i64 fwd) ∧ W.cell? ⟨w.heap.size, 4, none⟩ = some (.slice fca fl.length fcc)) := fun W hb => by
    have h := blk_stay hx hb
    exact ⟨cell_of_obj h rfl, cell_of_obj h rfl, cell_of_obj h rfl, cell_of_obj h rfl, cell_of_obj h rfl⟩
  have HON : Hid (∀ W, Below W0.heap.size W0 W → Below w.heap.size w W) := fun W hb => Below.on hb0 hb
  have HW0 := Hid.mk' hW0
  clear hx hb0 hW0
  go_enter Tryd.func4, Tryd.ntmps4
  go_wp2_with fail
  obtain ⟨z0, z1, z2, z3, z4⟩ := HZ.out W0 (Below.refl _ _)
  rw [← HW0.out]
  refine (HTR.out W0 (HON.out _ (Below.refl _ _))).mono ?_
  rintro e W1 ⟨g, ts, rfl, hit, hoi, bb1⟩
  have HB1 := Hid.mk' bb1
  have HIT := Hid.mk' hit
  have HOI := Hid.mk' hoi
  have hgl : W0.heap.size ≤ g ∧ g < W1.heap.size := ⟨own_base hoi g rfl, (hoi.lt g rfl).2⟩
  have HGL := Hid.mk' hgl
  clear bb1 hit hoi HW0 z0 z1 z2 z3 z4 hgl
  obtain ⟨z0, z1, z2, z3, z4⟩ := HZ.out W1 HB1.out
  go_wp2_with fail
  refine (HRT.out W1 (HON.out _ HB1.out)).mono ?_
  rintro e W2 ⟨g2, ts2, rfl, hit2, hoi2, bb2⟩
  obtain rfl := hit2.one HIT.out
  have HB2 := Hid.mk' (Below.on HB1.out bb2)
  have HO1 := Hid.mk' (own_stay HOI.out bb2)
  have HO2 := Hid.mk' hoi2
  have HBW2 := Hid.mk' bb2
  have htl : ts2.length ≤ 1024 := by
    rcases HIT.out with ⟨_, rfl⟩ | ⟨_, h2, h3, _⟩
    · simp
    · omega
  clear bb2 hit2 hoi2 HOI z0 z1 z2 z3 z4
  go_wp2_with fail
  refine (HFX.out W2 (HON.out _ HB2.out)).mono ?_
  rintro e W3 ⟨rfl, bb3⟩
  have HB3 := Hid.mk' (Below.on HB2.out bb3)
  have HP1 := Hid.mk' (own_stay HO1.out bb3)
  have HP2 := Hid.mk' (own_stay HO2.out bb3)
  have HS1 := Hid.mk' (sameInts_i ts2 ts2 (some ⟨g, 0, none⟩) (some ⟨g2, 0, none⟩) ts2.length ts2.length W3 (oi_lst HP1.out) (oi_lst HP2.out) (by omega))
  rw [decide_eq_true rfl] at HS1
  clear bb3 HO1 HO2
  go_wp2_with fail
  refine HS1.out.mono ?_
  rintro e W4 ⟨rfl, bb4⟩
  have HB4 := Hid.mk' (Below.on HB3.out bb4)
  have HR1 := Hid.mk' (own_stay HP1.out bb4)
  have HR2 := Hid.mk' (own_stay HP2.out bb4)
  have HG12 : Hid (g2 ≠ g) := fun e => by
    have h1 := own_base HR2.out g2 rfl
    have h2 := HGL.out.2
    omega
  clear bb4 HP1 HP2 HS1
  go_wp2_with fail
  go_loopw [5] (fun t5 wr => ∃ (i : Nat) (ls : List Int), t5 = .int .i64 (i : Int) ∧ i ≤ ts2.length ∧ ls.length = ts2.length ∧ Oi W0.heap.size ls (.slice (some ⟨g, 0, none⟩) ts2.length ts2.length) wr ∧ Oi W1.heap.size ts2 (.slice (some ⟨g2, 0, none⟩) ts2.length ts2.length) wr ∧ Below W0.heap.size W0 wr) (fun t5 _ => ts2.length - (intOf t5).toNat)
  case atStart => exact ⟨0, ts2, rfl, Nat.zero_le _, rfl, HR1.out, HR2.out, HB4.out⟩
  case round =>
    clear HR1 HR2
    obtain ⟨i, ls, rfl, hil, hll, h1, h2, hb⟩ := hrel
    have H1 := Hid.mk' h1
    have H2 := Hid.mk' h2
    have HBI := Hid.mk' hb
    have HLL := Hid.mk' hll
    clear h1 h2 hb
    by_cases hlt : i < ts2.length
    · have hli : (i : Int) < (ts2.length : Int) := by omega
      have d0 := oi_at H1.out (j := i) (by omega)
      have f0 := World.ownsRow.frozenAt (by have := H1.out; unfold Oi at this; rw [hll] at this; exact this) i
      have HN1 := Hid.mk' (oi_put H1.out i (i : Int))
      have HN2 : Hid (Oi W1.heap.size ts2 (.slice (some ⟨g2, 0, none⟩) ts2.length ts2.length) (wr.setCell ⟨g, i, none⟩ (.int .i64 (i : Int)))) := H2.out.kept (row := some g) ⟨rfl, rfl, rfl, by simp, fun k _ hk => heap_setCell_other wr ⟨g, i, none⟩ k _ fun e => hk (by rw [e])⟩ (.inr fun e => HG12.out (Option.some.inj e))
      have HNB := Hid.mk' (HBI.out.setCell (p := ⟨g, i, none⟩) HGL.out.1 (.int .i64 (i : Int)))
      generalize ls[i] = q0 at *
      clear hll
      go_wp2_with fail
      go_roundw
      case rel => exact ⟨i + 1, ls.set i (i : Int), by go_num, hlt, by rw [List.length_set]; exact HLL.out, HN1.out, HN2.out, HNB.out⟩
      case measure => simp [intOf]; omega
    · have HAP : Hid (∃ v' W', (Builtin.append_ #[34, 34] 34 #[.slice (some ⟨g, 0, none⟩) ts2.length ts2.length, .slice (some ⟨wr.heap.size, 0, none⟩) 1 1]).run Tryd.prog (wr.alloc (.cells #[.int .i64 3] 3)) = .ok v' W' ∧ Oi W1.heap.size ts2 (.slice (some ⟨g2, 0, none⟩) ts2.length ts2.length) W' ∧ Below W0.heap.size W0 W') := by
        have h1 := H1.out
        unfold Oi at h1
        obtain ⟨v', W', k1, k2, k3⟩ := app_one (t := 34) Tryd.underlying34 Tryd.infoN rfl (by decide) h1 HBI.out.size (by rw [hll]; unfold maxLen; omega) (by omega) #[.int .i64 3] rfl (by simp [Value.oneCell']) 34
        exact ⟨v', W', k1, H2.out.kept k3 (.inr fun e => HG12.out (Option.some.inj e)), HBI.out.grown k3 HBI.out.size fun k e => by cases e; exact HGL.out.1⟩
      clear hll
      go_wp2_with (at_builtin; refine wpl_app rfl _ _ 34 34 _ _ rfl rfl rfl HAP.out ?_; rintro v5 W5 ⟨o5, b5⟩; have HO5 := Hid.mk' o5; have HB5 := Hid.mk' b5; obtain ⟨z0, z1, z2, z3, z4⟩ := HZ.out W5 b5; clear o5 b5)
      refine (HTR.out W5 (HON.out _ HB5.out)).mono ?_
      rintro e W6 ⟨g6, ts6, rfl, hit6, hoi6, bb6⟩
      obtain rfl := hit6.one HIT.out
      have HS2 := Hid.mk' (sameInts_i ts6 ts6 (some ⟨g6, 0, none⟩) (some ⟨g2, 0, none⟩) ts6.length ts6.length W6 (oi_lst hoi6) (oi_lst (own_stay HO5.out bb6)) (by omega))
      rw [decide_eq_true rfl] at HS2
      have HB6 := Hid.mk' (Below.on HB5.out bb6)
      clear hit6 hoi6 bb6 z0 z1 z2 z3 z4
      go_wp2_with fail
      refine HS2.out.mono ?_
      rintro e W7 ⟨rfl, bb7⟩
      have HB7 := Hid.mk' (Below.on HB6.out bb7)
      clear bb7
      go_wp2_with fail
      go_ret
      exact ⟨rfl, HON.out _ HB7.out⟩
end Go.Proofs.YtlnjhnbiljkbmaaDoor
