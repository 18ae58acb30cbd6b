/- Where an instruction leads: the document's own Next. -/
import Derived.Test.YtfmkjdfidenfkaaDoorZaf
import Derived.Test.YtfmkjdfidenfkaaDoorCb
namespace Go.Proofs.YtfmkjdfidenfkaaDoor
open Go.RowKit Go.Sort

theorem rtarget_b (op : Int) (w : World) : Calls Tryd.prog 24 #[.int .i64 op] w fun e w' => e = .returned (.bool (decide (op = 14 ∨ op = 15 ∨ op = 16 ∨ op = 17 ∨ op = 18))) ∧ w' = w := by
  have := rtarget_any op w
  rwa [show ((rwOf op).n == 3) = decide (op = 14 ∨ op = 15 ∨ op = 16 ∨ op = 17 ∨ op = 18) by
    by_cases h : 0 ≤ op ∧ op ≤ 19
    · refine op_cases (P := fun op => ((rwOf op).n == 3) = decide (op = 14 ∨ op = 15 ∨ op = 16 ∨ op = 17 ∨ op = 18)) h.1 h.2 ?_ ?_ ?_ ?_ ?_ ?_ ?_ ?_ ?_ ?_ ?_ ?_ ?_ ?_ ?_ ?_ ?_ ?_ ?_ ?_ <;> kernel_rfl
    · rw [rwOf_no h, decide_eq_false (by omega)]; rfl] at this
theorem tgt_yes {n k : Nat} (h : (k : Int) < n) : tgt n (k : Int) = [k] := by unfold tgt; rw [if_pos (by omega)]; simp
theorem tgt_yes1 {n k : Nat} (h : (k : Int) + 1 < n) : tgt n ((k : Int) + 1) = [k + 1] := by unfold tgt; rw [if_pos (by omega)]; congr 1
theorem tgt_no {n : Nat} {z : Int} (h : ¬ (0 ≤ z ∧ z < n)) : tgt n z = [] := by unfold tgt; rw [if_neg h]
theorem nx_none {n u : Nat} {o a b c m : Int} (h : ¬ (1 ≤ o ∧ o ≤ 19)) : nxL n ⟨o, a, b, c, m⟩ u = [] := by unfold nxL; simp only; rw [if_neg (by omega), if_neg (by omega), if_neg h]
theorem nx_j {n u : Nat} {o a b c m : Int} (h : o = 14 ∨ o = 18) : nxL n ⟨o, a, b, c, m⟩ u = tgt n m := by unfold nxL; simp only; rw [if_pos h]
theorem nx_i {n u : Nat} {o a b c m : Int} (h : o = 15 ∨ o = 16 ∨ o = 17) : nxL n ⟨o, a, b, c, m⟩ u = tgt n ((u : Int) + 1) ++ (if m = (u : Int) + 1 then [] else tgt n m) := by unfold nxL; simp only; rw [if_neg (by omega), if_pos h]
theorem nx_i0 {n u : Nat} {o a b c m : Int} (h : o = 15 ∨ o = 16 ∨ o = 17) (hm : ¬ (0 ≤ m ∧ m < n)) : nxL n ⟨o, a, b, c, m⟩ u = tgt n ((u : Int) + 1) := by rw [nx_i h, tgt_no hm]; simp
theorem nx_o {n u : Nat} {o a b c m : Int} (h : 1 ≤ o ∧ o ≤ 19) (h2 : ¬ (14 ≤ o ∧ o ≤ 18)) : nxL n ⟨o, a, b, c, m⟩ u = tgt n ((u : Int) + 1) := by unfold nxL; simp only; rw [if_neg (by omega), if_neg (by omega), if_pos h]
set_option maxRecDepth 100000 in
set_option maxHeartbeats 4000000 in
theorem rnext_any (f : Fn) (z : Int) (w : World) (hi : Iss w f.ca f.code) : Calls Tryd.prog 11 #[f.val, .int .i64 z] w (NxP (nxZ f.code z) w) := by
  obtain ⟨fn, fpa, fpc, fps, frg, fwd, fca, fcc, fl⟩ := f
  unfold Fn.val
  simp only at hi ⊢
  have HB := Hid.mk' (Below.one (Below.one (Below.refl _ w) (.cells #[.string fn, .slice fpa fps.length fpc, .int .i64 frg, .int .i64 fwd, .slice fca fl.length fcc] 37)) (.cells #[] 3))
  have HI := Hid.mk' (hi.stay HB.out)
  have y4 := cell_kept_below (new_cell w #[.string fn, .slice fpa fps.length fpc, .int .i64 frg, .int .i64 fwd, .slice fca fl.length fcc] 37 4 (.slice fca fl.length fcc) rfl) (Below.one (Below.refl _ _) (.cells #[] 3))
  have HO := Hid.mk' (row_new (w.alloc (.cells #[.string fn, .slice fpa fps.length fpc, .int .i64 frg, .int .i64 fwd, .slice fca fl.length fcc] 37)) 3 1)
  rw [World.size_alloc] at HO
  have hc := hi.1
  clear hi
  by_cases hneg : z < 0
  · rw [nxZ_none (.inl hneg)]
    go_enter Tryd.func11, Tryd.ntmps11
    go_wp2_with fail
    go_ret
    exact ⟨_, rfl, own_mono HO.out (Nat.le_succ _), HB.out⟩
  obtain ⟨i, rfl⟩ : ∃ i : Nat, z = i := ⟨z.toNat, by omega⟩
  by_cases hge : fl.length ≤ i
  · rw [nxZ_none (.inr (by omega))]
    have hgi : (fl.length : Int) ≤ (i : Int) := by omega
    clear hge
    go_enter Tryd.func11, Tryd.ntmps11
    go_wp2_with fail
    go_ret
    exact ⟨_, rfl, own_mono HO.out (Nat.le_succ _), HB.out⟩
  have hlt : i < fl.length := by omega
  have hli : (i : Int) < (fl.length : Int) := by omega
  rw [nxZ_nat, nxt_at hlt]
  obtain ⟨b, o, rfl, c0, c1, c2, c3, c4⟩ := iss_at HI.out hlt
  clear HI hge hneg
  generalize fl[i] = x at *
  obtain ⟨xo, xa, xb, xc, xn⟩ := x
  simp only at c0 c1 c2 c3 c4
  have bX := Below.one (Below.refl _ ((w.alloc (.cells #[.string fn, .slice fpa fps.length fpc, .int .i64 frg, .int .i64 fwd, .slice (some ⟨b, o, none⟩) fl.length fcc] 37)).alloc (.cells #[] 3))) (.cells #[.int .i64 xo, .int .i64 xa, .int .i64 xb, .int .i64 xc, .int .i64 xn] 57)
  have z4 := cell_kept_below y4 bX
  have x0 := new_cell ((w.alloc (.cells #[.string fn, .slice fpa fps.length fpc, .int .i64 frg, .int .i64 fwd, .slice (some ⟨b, o, none⟩) fl.length fcc] 37)).alloc (.cells #[] 3)) #[.int .i64 xo, .int .i64 xa, .int .i64 xb, .int .i64 xc, .int .i64 xn] 57 0 (.int .i64 xo) rfl
  have x4 := new_cell ((w.alloc (.cells #[.string fn, .slice fpa fps.length fpc, .int .i64 frg, .int .i64 fwd, .slice (some ⟨b, o, none⟩) fl.length fcc] 37)).alloc (.cells #[] 3)) #[.int .i64 xo, .int .i64 xa, .int .i64 xb, .int .i64 xc, .int .i64 xn] 57 4 (.int .i64 xn) rfl
  rw [World.size_alloc, World.size_alloc] at x0 x4
  replace HO := Hid.mk' (own_stay HO.out bX)
  replace HB := Hid.mk' (Below.on HB.out bX)
  have HS : Hid (w.heap.size + 1 ≤ (((w.alloc (.cells #[.string fn, .slice fpa fps.length fpc, .int .i64 frg, .int .i64 fwd, .slice (some ⟨b, o, none⟩) fl.length fcc] 37)).alloc (.cells #[] 3)).alloc (.cells #[.int .i64 xo, .int .i64 xa, .int .i64 xb, .int .i64 xc, .int .i64 xn] 57)).heap.size) := (by simp : w.heap.size + 1 ≤ _)
  have HK := Hid.mk' (rknown_any xo)
  have HG := Hid.mk' (rtarget_b xo)
  clear bX
  go_enter Tryd.func11, Tryd.ntmps11
  go_upto_region 5 with fail
  generalize ((w.alloc (.cells #[.string fn, .slice fpa fps.length fpc, .int .i64 frg, .int .i64 fwd, .slice (some ⟨b, o, none⟩) fl.length fcc] 37)).alloc (.cells #[] 3)).alloc (.cells #[.int .i64 xo, .int .i64 xa, .int .i64 xb, .int .i64 xc, .int .i64 xn] 57) = W3 at *
  clear c0 c1 c2 c3 c4 y4
  have HO3 : Hid (On (w.heap.size + 1) [] (.slice (some ⟨w.heap.size + 1, 0, none⟩) 0 0) W3) := HO.out
  have HAP1 := Hid.mk' (on_app HO3.out HS.out (by simp) (i + 1) 38)
  rw [Int.natCast_add, Int.natCast_one] at HAP1
  have HG3 : Hid (∀ W' v, W3.grownBy W' (Value.slice (some ⟨w.heap.size + 1, 0, none⟩) 0 0).ownBlock → On (w.heap.size + 1) ([] ++ [i + 1]) v W' → W'.cell? ⟨w.heap.size, 4, none⟩ = some (.slice (some ⟨b, o, none⟩) fl.length fcc) ∧ W'.cell? ⟨w.heap.size + 1 + 1, 0, none⟩ = some (.int .i64 xo) ∧ W'.cell? ⟨w.heap.size + 1 + 1, 4, none⟩ = some (.int .i64 xn) ∧ Below w.heap.size w W' ∧
      (∀ k : Nat, ∃ v' W'', (Builtin.append_ #[38, 38] 38 #[v, .slice (some ⟨W'.heap.size, 0, none⟩) 1 1]).run Tryd.prog (W'.alloc (.cells #[.int .i64 (k : Int)] 3)) = .ok v' W'' ∧ On w.heap.size [i + 1, k] v' W'' ∧ Below w.heap.size w W'')) := by
    intro W' v hg ho
    have b3 := HB.out.grown hg HB.out.size (fun k e => by simp [Value.ownBlock] at e; omega)
    refine ⟨hg.cell z4 (fun e => by simp [Value.ownBlock] at e), hg.cell x0 (fun e => by simp [Value.ownBlock] at e), hg.cell x4 (fun e => by simp [Value.ownBlock] at e), b3, fun k => ?_⟩
    obtain ⟨v', W'', r1, r2, r3⟩ := on_app ho (Nat.le_trans HS.out hg.size) (by simp) k 38
    exact ⟨v', W'', r1, own_mono r2 (Nat.le_succ _), b3.trans ((own_keeps ho (Nat.le_trans HS.out hg.size) r3).mono (Nat.le_succ _))⟩
  have HAP2 : Hid (∀ k : Nat, ∃ v' W'', (Builtin.append_ #[38, 38] 38 #[.slice (some ⟨w.heap.size + 1, 0, none⟩) 0 0, .slice (some ⟨W3.heap.size, 0, none⟩) 1 1]).run Tryd.prog (W3.alloc (.cells #[.int .i64 (k : Int)] 3)) = .ok v' W'' ∧ On w.heap.size [k] v' W'' ∧ Below w.heap.size w W'') := by
    intro k
    obtain ⟨v', W'', r1, r2, r3⟩ := on_app HO3.out HS.out (by simp) k 38
    exact ⟨v', W'', r1, own_mono r2 (Nat.le_succ _), HB.out.trans ((own_keeps HO3.out HS.out r3).mono (Nat.le_succ _))⟩
  have HF : Hid (On w.heap.size [] (.slice (some ⟨w.heap.size + 1, 0, none⟩) 0 0) W3) := own_mono HO3.out (Nat.le_succ _)
  clear HO HO3
  by_cases h0 : ¬ (0 ≤ xo ∧ xo ≤ 19)
  · have HL : Hid (nxL fl.length ⟨xo, xa, xb, xc, xn⟩ i = []) := by
      show _ = _
      rw [nx_none (by omega)]
    rw [show knB xo = false by simp [knB]; omega] at HK
    rw [show decide (xo = 14 ∨ xo = 15 ∨ xo = 16 ∨ xo = 17 ∨ xo = 18) = false by exact decide_eq_false (by omega)] at HG
    clear h0
    go_wp2_with (first
      | (go_at_call 23; refine (HK.out _).mono ?_; rintro e w2 ⟨rfl, rfl⟩)
      | (go_at_call 24; refine (HG.out _).mono ?_; rintro e w2 ⟨rfl, rfl⟩))
    go_ret
    exact ⟨_, rfl, by rw [HL.out]; exact HF.out, HB.out⟩
  by_cases h1 : xo = 0
  · have HL : Hid (nxL fl.length ⟨xo, xa, xb, xc, xn⟩ i = []) := by
      show _ = _
      rw [nx_none (by omega)]
    rw [show knB xo = true by simp [knB]; omega] at HK
    rw [show decide (xo = 14 ∨ xo = 15 ∨ xo = 16 ∨ xo = 17 ∨ xo = 18) = false by exact decide_eq_false (by omega)] at HG
    have q0 : (xo != 0) = false := bne_no h1
    clear h0 h1
    go_wp2_with (first
      | (go_at_call 23; refine (HK.out _).mono ?_; rintro e w2 ⟨rfl, rfl⟩)
      | (go_at_call 24; refine (HG.out _).mono ?_; rintro e w2 ⟨rfl, rfl⟩))
    go_ret
    exact ⟨_, rfl, by rw [HL.out]; exact HF.out, HB.out⟩
  have q0 : (xo != 0) = true := bne_of h1
  by_cases h2 : xo = 14
  · by_cases hn : xn < 0
    · have HL : Hid (nxL fl.length ⟨xo, xa, xb, xc, xn⟩ i = []) := by
        show _ = _
        rw [nx_j (by omega), tgt_no (by omega)]
      rw [show knB xo = true by simp [knB]; omega] at HK
      rw [show decide (xo = 14 ∨ xo = 15 ∨ xo = 16 ∨ xo = 17 ∨ xo = 18) = true by exact decide_eq_true (by omega)] at HG
      have q1 : (xo != 14) = false := bne_no h2
      clear h0 h1 h2
      go_wp2_with (first
        | (go_at_call 23; refine (HK.out _).mono ?_; rintro e w2 ⟨rfl, rfl⟩)
        | (go_at_call 24; refine (HG.out _).mono ?_; rintro e w2 ⟨rfl, rfl⟩))
      go_ret
      exact ⟨_, rfl, by rw [HL.out]; exact HF.out, HB.out⟩
    obtain ⟨k, rfl⟩ : ∃ k : Nat, xn = k := ⟨xn.toNat, by omega⟩
    by_cases hg : (fl.length : Int) ≤ (k : Int)
    · have HL : Hid (nxL fl.length ⟨xo, xa, xb, xc, (k : Int)⟩ i = []) := by
        show _ = _
        rw [nx_j (by omega), tgt_no (by omega)]
      rw [show knB xo = true by simp [knB]; omega] at HK
      rw [show decide (xo = 14 ∨ xo = 15 ∨ xo = 16 ∨ xo = 17 ∨ xo = 18) = true by exact decide_eq_true (by omega)] at HG
      have q1 : (xo != 14) = false := bne_no h2
      clear h0 h1 h2
      go_wp2_with (first
        | (go_at_call 23; refine (HK.out _).mono ?_; rintro e w2 ⟨rfl, rfl⟩)
        | (go_at_call 24; refine (HG.out _).mono ?_; rintro e w2 ⟨rfl, rfl⟩))
      go_ret
      exact ⟨_, rfl, by rw [HL.out]; exact HF.out, HB.out⟩
    have hg' : (k : Int) < (fl.length : Int) := by omega
    have HL : Hid (nxL fl.length ⟨xo, xa, xb, xc, (k : Int)⟩ i = [k]) := by
      show _ = _
      rw [nx_j (by omega), tgt_yes (by omega)]
    rw [show knB xo = true by simp [knB]; omega] at HK
    rw [show decide (xo = 14 ∨ xo = 15 ∨ xo = 16 ∨ xo = 17 ∨ xo = 18) = true by exact decide_eq_true (by omega)] at HG
    have q1 : (xo != 14) = false := bne_no h2
    clear h0 h1 h2
    go_wp2_with (first
      | (go_at_call 23; refine (HK.out _).mono ?_; rintro e w2 ⟨rfl, rfl⟩)
      | (go_at_call 24; refine (HG.out _).mono ?_; rintro e w2 ⟨rfl, rfl⟩)
      | (at_builtin; refine wpl_app rfl _ _ 38 38 _ _ rfl rfl rfl (HAP2.out k) ?_; rintro v5 W5 ⟨on5, b5⟩))
    go_ret
    exact ⟨_, rfl, by rw [HL.out]; exact on5, b5⟩
  have q1 : (xo != 14) = true := bne_of h2
  by_cases h3 : xo = 18
  · by_cases hn : xn < 0
    · have HL : Hid (nxL fl.length ⟨xo, xa, xb, xc, xn⟩ i = []) := by
        show _ = _
        rw [nx_j (by omega), tgt_no (by omega)]
      rw [show knB xo = true by simp [knB]; omega] at HK
      rw [show decide (xo = 14 ∨ xo = 15 ∨ xo = 16 ∨ xo = 17 ∨ xo = 18) = true by exact decide_eq_true (by omega)] at HG
      have q2 : (xo != 18) = false := bne_no h3
      clear h0 h1 h2 h3
      go_wp2_with (first
        | (go_at_call 23; refine (HK.out _).mono ?_; rintro e w2 ⟨rfl, rfl⟩)
        | (go_at_call 24; refine (HG.out _).mono ?_; rintro e w2 ⟨rfl, rfl⟩))
      go_ret
      exact ⟨_, rfl, by rw [HL.out]; exact HF.out, HB.out⟩
    obtain ⟨k, rfl⟩ : ∃ k : Nat, xn = k := ⟨xn.toNat, by omega⟩
    by_cases hg : (fl.length : Int) ≤ (k : Int)
    · have HL : Hid (nxL fl.length ⟨xo, xa, xb, xc, (k : Int)⟩ i = []) := by
        show _ = _
        rw [nx_j (by omega), tgt_no (by omega)]
      rw [show knB xo = true by simp [knB]; omega] at HK
      rw [show decide (xo = 14 ∨ xo = 15 ∨ xo = 16 ∨ xo = 17 ∨ xo = 18) = true by exact decide_eq_true (by omega)] at HG
      have q2 : (xo != 18) = false := bne_no h3
      clear h0 h1 h2 h3
      go_wp2_with (first
        | (go_at_call 23; refine (HK.out _).mono ?_; rintro e w2 ⟨rfl, rfl⟩)
        | (go_at_call 24; refine (HG.out _).mono ?_; rintro e w2 ⟨rfl, rfl⟩))
      go_ret
      exact ⟨_, rfl, by rw [HL.out]; exact HF.out, HB.out⟩
    have hg' : (k : Int) < (fl.length : Int) := by omega
    have HL : Hid (nxL fl.length ⟨xo, xa, xb, xc, (k : Int)⟩ i = [k]) := by
      show _ = _
      rw [nx_j (by omega), tgt_yes (by omega)]
    rw [show knB xo = true by simp [knB]; omega] at HK
    rw [show decide (xo = 14 ∨ xo = 15 ∨ xo = 16 ∨ xo = 17 ∨ xo = 18) = true by exact decide_eq_true (by omega)] at HG
    have q2 : (xo != 18) = false := bne_no h3
    clear h0 h1 h2 h3
    go_wp2_with (first
      | (go_at_call 23; refine (HK.out _).mono ?_; rintro e w2 ⟨rfl, rfl⟩)
      | (go_at_call 24; refine (HG.out _).mono ?_; rintro e w2 ⟨rfl, rfl⟩)
      | (at_builtin; refine wpl_app rfl _ _ 38 38 _ _ rfl rfl rfl (HAP2.out k) ?_; rintro v5 W5 ⟨on5, b5⟩))
    go_ret
    exact ⟨_, rfl, by rw [HL.out]; exact on5, b5⟩
  have q2 : (xo != 18) = true := bne_of h3
  by_cases h4 : xo = 15 ∨ xo = 16 ∨ xo = 17
  · by_cases ha : (i : Int) + 1 < (fl.length : Int)
    · by_cases hn : xn < 0
      · have HL : Hid (nxL fl.length ⟨xo, xa, xb, xc, xn⟩ i = [i + 1]) := by
          show _ = _
          rw [nx_i0 (by omega) (by omega), tgt_yes1 ha]
        rw [show knB xo = true by simp [knB]; omega] at HK
        rw [show decide (xo = 14 ∨ xo = 15 ∨ xo = 16 ∨ xo = 17 ∨ xo = 18) = true by exact decide_eq_true (by omega)] at HG
        clear h0 h1 h2 h3 h4
        go_wp2_with (first
          | (go_at_call 23; refine (HK.out _).mono ?_; rintro e w2 ⟨rfl, rfl⟩)
          | (go_at_call 24; refine (HG.out _).mono ?_; rintro e w2 ⟨rfl, rfl⟩)
          | (at_builtin; refine wpl_app rfl _ _ 38 38 _ _ rfl rfl rfl HAP1.out ?_; rintro v3 W4 ⟨on4, gr4⟩; obtain ⟨z4', x0', x4', b4, hap⟩ := HG3.out _ _ gr4 on4; obtain ⟨a3, k3, rfl⟩ := gown_form on4; have HAP4 := Hid.mk' hap; clear hap))
        go_ret
        exact ⟨_, rfl, by rw [HL.out]; exact own_mono on4 (Nat.le_succ _), b4⟩
      obtain ⟨k, rfl⟩ : ∃ k : Nat, xn = k := ⟨xn.toNat, by omega⟩
      by_cases hg : (fl.length : Int) ≤ (k : Int)
      · have HL : Hid (nxL fl.length ⟨xo, xa, xb, xc, (k : Int)⟩ i = [i + 1]) := by
          show _ = _
          rw [nx_i0 (by omega) (by omega), tgt_yes1 ha]
        rw [show knB xo = true by simp [knB]; omega] at HK
        rw [show decide (xo = 14 ∨ xo = 15 ∨ xo = 16 ∨ xo = 17 ∨ xo = 18) = true by exact decide_eq_true (by omega)] at HG
        clear h0 h1 h2 h3 h4
        go_wp2_with (first
          | (go_at_call 23; refine (HK.out _).mono ?_; rintro e w2 ⟨rfl, rfl⟩)
          | (go_at_call 24; refine (HG.out _).mono ?_; rintro e w2 ⟨rfl, rfl⟩)
          | (at_builtin; refine wpl_app rfl _ _ 38 38 _ _ rfl rfl rfl HAP1.out ?_; rintro v3 W4 ⟨on4, gr4⟩; obtain ⟨z4', x0', x4', b4, hap⟩ := HG3.out _ _ gr4 on4; obtain ⟨a3, k3, rfl⟩ := gown_form on4; have HAP4 := Hid.mk' hap; clear hap))
        go_ret
        exact ⟨_, rfl, by rw [HL.out]; exact own_mono on4 (Nat.le_succ _), b4⟩
      have hg' : (k : Int) < (fl.length : Int) := by omega
      by_cases hq : (k : Int) = (i : Int) + 1
      · have HL : Hid (nxL fl.length ⟨xo, xa, xb, xc, (k : Int)⟩ i = [i + 1]) := by
          show _ = _
          rw [nx_i (by omega), tgt_yes1 ha, if_pos hq, List.append_nil]
        have hq2 : ((k : Int) == (i : Int) + 1) = true := by simp [hq]
        clear hq
        rw [show knB xo = true by simp [knB]; omega] at HK
        rw [show decide (xo = 14 ∨ xo = 15 ∨ xo = 16 ∨ xo = 17 ∨ xo = 18) = true by exact decide_eq_true (by omega)] at HG
        clear h0 h1 h2 h3 h4
        go_wp2_with (first
          | (go_at_call 23; refine (HK.out _).mono ?_; rintro e w2 ⟨rfl, rfl⟩)
          | (go_at_call 24; refine (HG.out _).mono ?_; rintro e w2 ⟨rfl, rfl⟩)
          | (at_builtin; refine wpl_app rfl _ _ 38 38 _ _ rfl rfl rfl HAP1.out ?_; rintro v3 W4 ⟨on4, gr4⟩; obtain ⟨z4', x0', x4', b4, hap⟩ := HG3.out _ _ gr4 on4; obtain ⟨a3, k3, rfl⟩ := gown_form on4; have HAP4 := Hid.mk' hap; clear hap))
        go_ret
        exact ⟨_, rfl, by rw [HL.out]; exact own_mono on4 (Nat.le_succ _), b4⟩
      have HL : Hid (nxL fl.length ⟨xo, xa, xb, xc, (k : Int)⟩ i = [i + 1, k]) := by
        show _ = _
        rw [nx_i (by omega), tgt_yes1 ha, if_neg hq, tgt_yes (by omega)]; rfl
      have hq2 : ((k : Int) == (i : Int) + 1) = false := beq_no hq
      clear hq
      rw [show knB xo = true by simp [knB]; omega] at HK
      rw [show decide (xo = 14 ∨ xo = 15 ∨ xo = 16 ∨ xo = 17 ∨ xo = 18) = true by exact decide_eq_true (by omega)] at HG
      clear h0 h1 h2 h3 h4
      go_wp2_with (first
        | (go_at_call 23; refine (HK.out _).mono ?_; rintro e w2 ⟨rfl, rfl⟩)
        | (go_at_call 24; refine (HG.out _).mono ?_; rintro e w2 ⟨rfl, rfl⟩)
        | (at_builtin; refine wpl_app rfl _ _ 38 38 _ _ rfl rfl rfl HAP1.out ?_; rintro v3 W4 ⟨on4, gr4⟩; obtain ⟨z4', x0', x4', b4, hap⟩ := HG3.out _ _ gr4 on4; obtain ⟨a3, k3, rfl⟩ := gown_form on4; have HAP4 := Hid.mk' hap; clear hap)
        | (at_builtin; refine wpl_app rfl _ _ 38 38 _ _ rfl rfl rfl (HAP4.out k) ?_; rintro v5 W5 ⟨on5, b5⟩))
      go_ret
      exact ⟨_, rfl, by rw [HL.out]; exact on5, b5⟩
    by_cases hn : xn < 0
    · have HL : Hid (nxL fl.length ⟨xo, xa, xb, xc, xn⟩ i = []) := by
        show _ = _
        rw [nx_i0 (by omega) (by omega), tgt_no (z := (i : Int) + 1) (by omega)]
      rw [show knB xo = true by simp [knB]; omega] at HK
      rw [show decide (xo = 14 ∨ xo = 15 ∨ xo = 16 ∨ xo = 17 ∨ xo = 18) = true by exact decide_eq_true (by omega)] at HG
      clear h0 h1 h2 h3 h4
      go_wp2_with (first
        | (go_at_call 23; refine (HK.out _).mono ?_; rintro e w2 ⟨rfl, rfl⟩)
        | (go_at_call 24; refine (HG.out _).mono ?_; rintro e w2 ⟨rfl, rfl⟩))
      go_ret
      exact ⟨_, rfl, by rw [HL.out]; exact HF.out, HB.out⟩
    obtain ⟨k, rfl⟩ : ∃ k : Nat, xn = k := ⟨xn.toNat, by omega⟩
    by_cases hg : (fl.length : Int) ≤ (k : Int)
    · have HL : Hid (nxL fl.length ⟨xo, xa, xb, xc, (k : Int)⟩ i = []) := by
        show _ = _
        rw [nx_i0 (by omega) (by omega), tgt_no (z := (i : Int) + 1) (by omega)]
      rw [show knB xo = true by simp [knB]; omega] at HK
      rw [show decide (xo = 14 ∨ xo = 15 ∨ xo = 16 ∨ xo = 17 ∨ xo = 18) = true by exact decide_eq_true (by omega)] at HG
      clear h0 h1 h2 h3 h4
      go_wp2_with (first
        | (go_at_call 23; refine (HK.out _).mono ?_; rintro e w2 ⟨rfl, rfl⟩)
        | (go_at_call 24; refine (HG.out _).mono ?_; rintro e w2 ⟨rfl, rfl⟩))
      go_ret
      exact ⟨_, rfl, by rw [HL.out]; exact HF.out, HB.out⟩
    have hg' : (k : Int) < (fl.length : Int) := by omega
    have hq : ¬ (k : Int) = (i : Int) + 1 := by omega
    have HL : Hid (nxL fl.length ⟨xo, xa, xb, xc, (k : Int)⟩ i = [k]) := by
      show _ = _
      rw [nx_i (by omega), tgt_no (z := (i : Int) + 1) (by omega), if_neg hq, tgt_yes (by omega)]; rfl
    have hq2 : ((k : Int) == (i : Int) + 1) = false := beq_no hq
    clear hq
    rw [show knB xo = true by simp [knB]; omega] at HK
    rw [show decide (xo = 14 ∨ xo = 15 ∨ xo = 16 ∨ xo = 17 ∨ xo = 18) = true by exact decide_eq_true (by omega)] at HG
    clear h0 h1 h2 h3 h4
    go_wp2_with (first
      | (go_at_call 23; refine (HK.out _).mono ?_; rintro e w2 ⟨rfl, rfl⟩)
      | (go_at_call 24; refine (HG.out _).mono ?_; rintro e w2 ⟨rfl, rfl⟩)
      | (at_builtin; refine wpl_app rfl _ _ 38 38 _ _ rfl rfl rfl (HAP2.out k) ?_; rintro v5 W5 ⟨on5, b5⟩))
    go_ret
    exact ⟨_, rfl, by rw [HL.out]; exact on5, b5⟩
  by_cases ha : (i : Int) + 1 < (fl.length : Int)
  · have HL : Hid (nxL fl.length ⟨xo, xa, xb, xc, xn⟩ i = [i + 1]) := by
      show _ = _
      rw [nx_o (by omega) (by omega), tgt_yes1 ha]
    rw [show knB xo = true by simp [knB]; omega] at HK
    rw [show decide (xo = 14 ∨ xo = 15 ∨ xo = 16 ∨ xo = 17 ∨ xo = 18) = false by exact decide_eq_false (by omega)] at HG
    clear h0 h1 h2 h3 h4
    go_wp2_with (first
      | (go_at_call 23; refine (HK.out _).mono ?_; rintro e w2 ⟨rfl, rfl⟩)
      | (go_at_call 24; refine (HG.out _).mono ?_; rintro e w2 ⟨rfl, rfl⟩)
      | (at_builtin; refine wpl_app rfl _ _ 38 38 _ _ rfl rfl rfl HAP1.out ?_; rintro v3 W4 ⟨on4, gr4⟩; obtain ⟨z4', x0', x4', b4, hap⟩ := HG3.out _ _ gr4 on4; obtain ⟨a3, k3, rfl⟩ := gown_form on4; have HAP4 := Hid.mk' hap; clear hap))
    go_ret
    exact ⟨_, rfl, by rw [HL.out]; exact own_mono on4 (Nat.le_succ _), b4⟩
  have HL : Hid (nxL fl.length ⟨xo, xa, xb, xc, xn⟩ i = []) := by
    show _ = _
    rw [nx_o (by omega) (by omega), tgt_no (by omega)]
  rw [show knB xo = true by simp [knB]; omega] at HK
  rw [show decide (xo = 14 ∨ xo = 15 ∨ xo = 16 ∨ xo = 17 ∨ xo = 18) = false by exact decide_eq_false (by omega)] at HG
  clear h0 h1 h2 h3 h4
  go_wp2_with (first
    | (go_at_call 23; refine (HK.out _).mono ?_; rintro e w2 ⟨rfl, rfl⟩)
    | (go_at_call 24; refine (HG.out _).mono ?_; rintro e w2 ⟨rfl, rfl⟩))
  go_ret
  exact ⟨_, rfl, by rw [HL.out]; exact HF.out, HB.out⟩
end Go.Proofs.YtfmkjdfidenfkaaDoor
