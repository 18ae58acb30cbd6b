/- Calls whose answers the document fixes. -/
import Derived.Test.YtlnjhnbiljkbmaaDoorQv
namespace Go.Proofs.YtlnjhnbiljkbmaaDoor
open Go.RowKit Go.Shelf

def smp : List Is := [⟨17, 0, 1, 0, 4⟩, ⟨15, 2, 0, 0, 3⟩, ⟨3, 3, 3, 0, 0⟩, ⟨18, 0, 0, 0, 0⟩, ⟨0, 3, 0, 0, 0⟩, ⟨14, 0, 0, 0, 5⟩]
theorem smp_nx : nxt smp 0 = [1, 4] ∧ nxt smp 1 = [2, 3] ∧ nxt smp 2 = [3] ∧ nxt smp 3 = [0] ∧ nxt smp 4 = [] ∧ nxt smp 5 = [5] := by decide +kernel
theorem smp_rch : Rch smp 1 ∧ Rch smp 2 ∧ Rch smp 3 ∧ Rch smp 4 ∧ ∀ v, Rch smp v → v < 5 := by
  obtain ⟨n0, n1, n2, n3, n4, n5⟩ := smp_nx
  have r0 : Rch smp 0 := .zero
  have r1 : Rch smp 1 := .step r0 (by rw [n0]; decide)
  refine ⟨r1, .step r1 (by rw [n1]; decide), .step r1 (by rw [n1]; decide), .step r0 (by rw [n0]; decide), fun v hv => ?_⟩
  induction hv with
  | zero => omega
  | @step u v _ hv ih =>
    match u, ih with
    | 0, _ => rw [n0] at hv; simp at hv; omega
    | 1, _ => rw [n1] at hv; simp at hv; omega
    | 2, _ => rw [n2] at hv; simp at hv; omega
    | 3, _ => rw [n3] at hv; simp at hv; omega
    | 4, _ => rw [n4] at hv; cases hv
theorem smp_w (a : Nat) : (a ≠ 0 → a ≠ 1 → RchW smp (a : Int) 1) ∧ (a ≠ 0 → a ≠ 4 → RchW smp (a : Int) 4) ∧ (a ≠ 0 → a ≠ 1 → a ≠ 2 → RchW smp (a : Int) 2) ∧ (a ≠ 0 → a ≠ 1 → a ≠ 3 → RchW smp (a : Int) 3) := by
  obtain ⟨n0, n1, n2, n3, n4, n5⟩ := smp_nx
  have w1 : a ≠ 0 → a ≠ 1 → RchW smp (a : Int) 1 := fun h h1 => (rchW_zero h).next (by rw [n0]; decide) (by omega)
  exact ⟨w1, fun h h4 => (rchW_zero h).next (by rw [n0]; decide) (by omega), fun h h1 h2 => (w1 h h1).next (by rw [n1]; decide) (by omega), fun h h1 h3 => (w1 h h1).next (by rw [n1]; decide) (by omega)⟩
theorem smp_1 : ∀ v, RchW smp ((1 : Nat) : Int) v → v = 0 ∨ v = 4 := by
  obtain ⟨n0, n1, n2, n3, n4, n5⟩ := smp_nx
  intro v hv
  generalize hg : ((1 : Nat) : Int) = g at hv
  induction hv with
  | zero => exact .inl rfl
  | @step u v _ hv hn ih =>
    rcases ih with rfl | rfl
    · rw [n0] at hv; simp at hv; omega
    · rw [n4] at hv; cases hv
theorem smp_dm : Dm smp 1 2 ∧ Dm smp 1 3 ∧ ¬ Dm smp 2 3 ∧ ¬ Dm smp 5 5 := by
  obtain ⟨r1, r2, r3, r4, hr⟩ := smp_rch
  refine ⟨⟨r2, fun h => ?_⟩, ⟨r3, fun h => ?_⟩, fun h => h.2 ((smp_w 2).2.2.2 (by decide) (by decide) (by decide)), fun h => ?_⟩
  · have := smp_1 _ h; omega
  · have := smp_1 _ h; omega
  · have := hr _ h.1; omega
theorem smp_T : IsT smp [-1, 0, 1, 1, 0, -1] := by
  obtain ⟨r1, r2, r3, r4, hr⟩ := smp_rch
  obtain ⟨d12, d13, _, _⟩ := smp_dm
  refine .inr ⟨by decide, by decide, rfl, fun v hv => ?_⟩
  have hv6 : v < 6 := hv
  match v, hv6 with
  | 0, _ => exact .inl ⟨rfl, fun h => h.2 rfl⟩
  | 1, _ => exact .inr ⟨0, rfl, dm_zero r1, by decide, fun a ha hn => by
      by_cases h0 : a = 0
      · rw [h0]; exact Dm.refl .zero
      · exact absurd ((smp_w a).1 h0 hn) ha.2⟩
  | 2, _ => exact .inr ⟨1, rfl, d12, by decide, fun a ha hn => by
      by_cases h0 : a = 0
      · rw [h0]; exact dm_zero r1
      · by_cases h1 : a = 1
        · rw [h1]; exact Dm.refl r1
        · exact absurd ((smp_w a).2.2.1 h0 h1 hn) ha.2⟩
  | 3, _ => exact .inr ⟨1, rfl, d13, by decide, fun a ha hn => by
      by_cases h0 : a = 0
      · rw [h0]; exact dm_zero r1
      · by_cases h1 : a = 1
        · rw [h1]; exact Dm.refl r1
        · exact absurd ((smp_w a).2.2.2 h0 h1 hn) ha.2⟩
  | 4, _ => exact .inr ⟨0, rfl, dm_zero r4, by decide, fun a ha hn => by
      by_cases h0 : a = 0
      · rw [h0]; exact Dm.refl .zero
      · exact absurd ((smp_w a).2.1 h0 hn) ha.2⟩
  | 5, _ => exact .inl ⟨rfl, fun h => by have := hr _ h.1; omega⟩
theorem smp_b : domb smp 1 3 = true ∧ domb smp 2 3 = false ∧ domb smp 3 3 = true ∧ domb smp 5 5 = false := by
  obtain ⟨r1, r2, r3, r4, hr⟩ := smp_rch
  obtain ⟨d12, d13, n23, n55⟩ := smp_dm
  exact ⟨domb_true.2 ⟨by decide, by decide, by decide, by decide, d13⟩, domb_false fun h => n23 h.2.2.2.2, domb_true.2 ⟨by decide, by decide, by decide, by decide, Dm.refl r3⟩, domb_false fun h => n55 h.2.2.2.2⟩
theorem oi_lst {W : World} {N n c : Nat} {l : List Int} {a : Option Addr} (h : Oi N l (.slice a n c) W) : Lst W a (l.map iV) := by
  obtain ⟨a', k', e⟩ := gown_form h
  injection e with e1 e2 e3
  subst e2
  exact own_lst h
set_option maxRecDepth 100000 in
set_option maxHeartbeats 4000000 in
theorem fixed_any (w : World) (hG : 0 < w.heap.size) (hT : Tb w) : Calls Tryd.prog 10 #[] w fun e w' => e = .returned (.bool true) ∧ Below w.heap.size w w' := by
  obtain ⟨W0, hW0⟩ : ∃ X, X = (w.alloc (.cells (smp.flatMap Is.cells).toArray 54)).alloc (.cells #[.string ⟨#[]⟩, .slice none 0 0, .int .i64 0, .int .i64 0, .slice (some ⟨w.heap.size, 0, none⟩) 6 6] 25) := ⟨_, rfl⟩
  have hb0 : Below w.heap.size w W0 := by rw [hW0]; exact Below.one (Below.one (Below.refl _ w) _) _
  have HX : Hid (W0.heap[w.heap.size + 1]? = some (.cells #[.string ⟨#[]⟩, .slice none 0 0, .int .i64 0, .int .i64 0, .slice (some ⟨w.heap.size, 0, none⟩) 6 6] 25)) := by
    have := heap_alloc_new (w.alloc (.cells (smp.flatMap Is.cells).toArray 54)) (.cells #[.string ⟨#[]⟩, .slice none 0 0, .int .i64 0, .int .i64 0, .slice (some ⟨w.heap.size, 0, none⟩) 6 6] 25)
    rw [World.size_alloc] at this
    rw [hW0]; exact this
  have hi0 : Iss W0 (some ⟨w.heap.size, 0, none⟩) smp := by
    have := World.ownsRow_lit (base := 0) (e := 54) (size := 5) w (smp.flatMap Is.cells).toArray 6 (Nat.zero_le _) (by unfold maxLen; omega) rfl
    rw [hW0]
    exact (row_iss this (by decide)).stay (Below.one (Below.refl _ _) _)
  have HTR : Hid (∀ W, Below W0.heap.size W0 W → Calls Tryd.prog 12 #[.agg #[.string ⟨#[]⟩, .slice none 0 0, .int .i64 0, .int .i64 0, .slice (some ⟨w.heap.size, 0, none⟩) 6 6]] W (TrP smp W)) := fun W hb => by
    have hbw := Below.on hb0 hb
    exact tree_any ⟨⟨#[]⟩, none, 0, [], 0, 0, some ⟨w.heap.size, 0, none⟩, 6, smp⟩ W (hi0.stay hb) (Nat.le_refl 6) (Nat.lt_of_lt_of_le hG hbw.size) (hT.keep (hbw.block _ hG))
  have HDM : Hid (∀ (a b : Int) W, Below W0.heap.size W0 W → Calls Tryd.prog 8 #[.agg #[.string ⟨#[]⟩, .slice none 0 0, .int .i64 0, .int .i64 0, .slice (some ⟨w.heap.size, 0, none⟩) 6 6], .int .i64 a, .int .i64 b] W (DmP smp a b W)) := fun a b W hb =>
    dominates_any ⟨⟨#[]⟩, none, 0, [], 0, 0, some ⟨w.heap.size, 0, none⟩, 6, smp⟩ a b W (hi0.stay hb) (Nat.le_refl 6)
  have HZ : Hid (∀ W, Below W0.heap.size W0 W → W.cell? ⟨w.heap.size + 1, 0, none⟩ = some (.string ⟨#[]⟩) ∧ W.cell? ⟨w.heap.size + 1, 1, none⟩ = some (.slice none 0 0) ∧ W.cell? ⟨w.heap.size + 1, 2, none⟩ = some (.int .i64 0) ∧ W.cell? ⟨w.heap.size + 1, 3, none⟩ = some (.int .i64 0) ∧ W.cell? ⟨w.heap.size + 1, 4, none⟩ = some (.slice (some ⟨w.heap.size, 0, none⟩) 6 6)) := fun W hb => by
    have h := blk_stay HX.out hb
    exact ⟨cell_of_obj h rfl, cell_of_obj h rfl, cell_of_obj h rfl, cell_of_obj h rfl, cell_of_obj h rfl⟩
  have HW0 := Hid.mk' hW0
  have HB0 := Hid.mk' hb0
  obtain ⟨z0, z1, z2, z3, z4⟩ := HZ.out W0 (Below.refl _ _)
  rw [hW0] at z0 z1 z2 z3 z4
  clear hW0 hb0 hi0 HX hG hT
  go_enter Tryd.func10, Tryd.ntmps10
  go_wp2_with fail
  have HT1 : Hid (∀ X, W0 = X → Calls Tryd.prog 12 #[.agg #[.string ⟨#[]⟩, .slice none 0 0, .int .i64 0, .int .i64 0, .slice (some ⟨w.heap.size, 0, none⟩) 6 6]] X (TrP smp W0)) := fun X e => by subst e; exact HTR.out _ (Below.refl _ _)
  have HSB := Hid.mk' smp_b
  refine (HT1.out _ HW0.out).mono ?_
  rintro e W1 ⟨g, ts, rfl, hit, hoi, bb1⟩
  obtain rfl := hit.one smp_T
  have HS1 := Hid.mk' (sameInts_i [-1, 0, 1, 1, 0, -1] [-1, 0, 1, 1, 0, -1] (some ⟨g, 0, none⟩) (some ⟨W1.heap.size, 0, none⟩) 6 6 _ ((oi_lst hoi).stay (Below.one (Below.refl _ W1) (.cells #[.int .i64 (-1), .int .i64 0, .int .i64 1, .int .i64 1, .int .i64 0, .int .i64 (-1)] 3))) (lst_new W1 #[.int .i64 (-1), .int .i64 0, .int .i64 1, .int .i64 1, .int .i64 0, .int .i64 (-1)] 3 _ rfl) (by decide))
  rw [decide_eq_true rfl] at HS1
  have HB1 := Hid.mk' (Below.one bb1 (.cells #[.int .i64 (-1), .int .i64 0, .int .i64 1, .int .i64 1, .int .i64 0, .int .i64 (-1)] 3))
  clear hit hoi bb1 HT1 z0 z1 z2 z3 z4
  go_wp2_with fail
  refine HS1.out.mono ?_
  rintro e W2 ⟨rfl, bb2⟩
  have HB2 := Hid.mk' (Below.on HB1.out bb2)
  clear bb2 HS1
  obtain ⟨z0, z1, z2, z3, z4⟩ := HZ.out W2 HB2.out
  go_wp2_with fail
  refine (HDM.out 1 3 W2 HB2.out).mono ?_
  rintro e W3 ⟨rfl, bb3⟩
  rw [HSB.out.1]
  have HB3 := Hid.mk' (Below.on HB2.out bb3)
  clear bb3 z0 z1 z2 z3 z4
  obtain ⟨z0, z1, z2, z3, z4⟩ := HZ.out W3 HB3.out
  go_wp2_with fail
  refine (HDM.out 2 3 W3 HB3.out).mono ?_
  rintro e W4 ⟨rfl, bb4⟩
  rw [HSB.out.2.1]
  have HB4 := Hid.mk' (Below.on HB3.out bb4)
  clear bb4 z0 z1 z2 z3 z4
  obtain ⟨z0, z1, z2, z3, z4⟩ := HZ.out W4 HB4.out
  go_wp2_with fail
  refine (HDM.out 3 3 W4 HB4.out).mono ?_
  rintro e W5 ⟨rfl, bb5⟩
  rw [HSB.out.2.2.1]
  have HB5 := Hid.mk' (Below.on HB4.out bb5)
  clear bb5 z0 z1 z2 z3 z4
  obtain ⟨z0, z1, z2, z3, z4⟩ := HZ.out W5 HB5.out
  go_wp2_with fail
  refine (HDM.out 5 5 W5 HB5.out).mono ?_
  rintro e W6 ⟨rfl, bb6⟩
  rw [HSB.out.2.2.2]
  have HB6 := Hid.mk' (Below.on HB5.out bb6)
  clear bb6 z0 z1 z2 z3 z4
  go_wp2_with fail
  go_ret
  exact ⟨rfl, Below.on HB0.out HB6.out⟩
end Go.Proofs.YtlnjhnbiljkbmaaDoor
