/- soffitlaw01.ScanPieces answers true at every two sources. -/
import Derived.Test.YtdlddloggjckmaaDoorM6
import Derived.Deep.QuietTactic
import Derived.BigQuiet
namespace Go.Proofs.YtdlddloggjckmaaDoor
open Go.RowKit

theorem doc_cases (s : ByteArray) (h : s.size ≤ 65536) : (docEr s = 0 ∧ docAt s = 0 ∧ docXs s = items s ∧ (items s).all (fun y => y.err == 0) = true) ∨ (docEr s ≠ 0 ∧ docXs s = [] ∧ (items s).all (fun y => y.err == 0) = false ∧ ∃ pre x, items s = pre ++ [x] ∧ x.err = docEr s ∧ (x.at_ : Int) = docAt s) := by
  rcases items_errs s with ha | ⟨pre, x, h1, h3⟩
  · obtain ⟨d1, d2, d3⟩ := doc_ok h ha
    exact .inl ⟨d2, d3, d1, List.all_eq_true.2 fun y hy => by simp [ha y hy]⟩
  · obtain ⟨d1, d2, d3⟩ := doc_err h h1 h3
    refine .inr ⟨by rw [d2]; exact h3, d1, ?_, pre, x, h1, d2.symm, d3.symm⟩
    rw [h1, List.all_append]; simp [h3]

theorem doc_join (a b : ByteArray) (h : a.size + b.size < 65536) :
    (docEr a ≠ 0 → docEr (joined a b) = docEr a ∧ docAt (joined a b) = docAt a ∧ docXs (joined a b) = []) ∧
    (docEr a = 0 → docEr b ≠ 0 → docEr (joined a b) = docEr b ∧ docAt (joined a b) = a.size + 1 + docAt b ∧ docXs (joined a b) = []) ∧
    (docEr a = 0 → docEr b = 0 → docEr (joined a b) = 0 ∧ docAt (joined a b) = 0 ∧ docXs (joined a b) = docXs a ++ (docXs b).map (far (a.size + 1))) := by
  have hs := joined_size a b
  have hc : (joined a b).size ≤ 65536 := by omega
  have hj := items_join a b
  rcases doc_cases a (by omega) with ⟨a1, a2, a3, a4⟩ | ⟨a1, a3, a4, pre, x, a5, a6, a7⟩
  · rw [a4, if_pos rfl] at hj
    rcases doc_cases b (by omega) with ⟨b1, b2, b3, b4⟩ | ⟨b1, b3, b4, pre, x, b5, b6, b7⟩
    · refine ⟨fun h => (h a1).elim, fun _ h => (h b1).elim, fun _ _ => ?_⟩
      have hall : ∀ y ∈ items (joined a b), y.err = 0 := by
        intro y hy
        rw [hj] at hy
        rcases List.mem_append.1 hy with h | h
        · simpa using List.all_eq_true.1 a4 y h
        · obtain ⟨z, hz, rfl⟩ := List.mem_map.1 h
          show z.err = 0
          simpa using List.all_eq_true.1 b4 z hz
      obtain ⟨d1, d2, d3⟩ := doc_ok hc hall
      rw [d1, d2, d3, hj, a3, b3]; exact ⟨rfl, rfl, rfl⟩
    · refine ⟨fun h => (h a1).elim, fun _ _ => ?_, fun _ h => (b1 h).elim⟩
      have hi : items (joined a b) = (items a ++ pre.map (far (a.size + 1))) ++ [far (a.size + 1) x] := by rw [hj, b5]; simp
      obtain ⟨d1, d2, d3⟩ := doc_err hc hi (show x.err ≠ 0 by rw [b6]; exact b1)
      rw [d1, d2, d3, ← b7]
      exact ⟨b6, by show ((a.size + 1 + x.at_ : Nat) : Int) = _; omega, rfl⟩
  · rw [a4, if_neg (by decide), List.append_nil] at hj
    refine ⟨fun _ => ?_, fun h => (a1 h).elim, fun h => (a1 h).elim⟩
    obtain ⟨d1, d2, d3⟩ := doc_err hc (hj.trans a5) (by rw [a6]; exact a1)
    rw [d1, d2, d3]; exact ⟨a6, a7, rfl⟩

set_option maxRecDepth 100000 in
set_option maxHeartbeats 2000000 in
theorem pieces_long (a b : ByteArray) (w : World) (hv : VarOk w) (h : ¬ (a.size + b.size < 65536)) (ha : a.size ≤ maxLen) (hb : b.size ≤ maxLen) : Calls Tryd.prog 7 #[.string a, .string b] w fun e w' => e = .returned (.bool true) ∧ Below w.heap.size w w' := by
  unfold maxLen at ha hb
  by_cases h1 : 65536 < (a.size : Int)
  · go_enter Tryd.func7, Tryd.ntmps7
    go_wp2_with (go_at_call 9; refine (awake_any _ hv).mono ?_; rintro e w1 ⟨rfl, hb1⟩)
    go_ret
    exact ⟨rfl, hb1⟩
  · by_cases h2 : 65536 < (b.size : Int)
    · go_enter Tryd.func7, Tryd.ntmps7
      go_wp2_with (go_at_call 9; refine (awake_any _ hv).mono ?_; rintro e w1 ⟨rfl, hb1⟩)
      go_ret
      exact ⟨rfl, hb1⟩
    · have h3 : (65536 : Int) ≤ (a.size : Int) + (b.size : Int) := by omega
      go_enter Tryd.func7, Tryd.ntmps7
      go_wp2_with (go_at_call 9; refine (awake_any _ hv).mono ?_; rintro e w1 ⟨rfl, hb1⟩)
      go_ret
      exact ⟨rfl, hb1⟩

set_option maxRecDepth 100000 in
set_option maxHeartbeats 2000000 in
theorem pieces_err (a b : ByteArray) (xa xb : List It) (ea aa eb ab ec ac : Int) (w : World) (hv : VarOk w) (h : a.size + b.size < 65536)
    (h10a : ∀ w, VarOk w → Calls Tryd.prog 10 #[.string a] w (Ans xa ea aa w)) (h10b : ∀ w, VarOk w → Calls Tryd.prog 10 #[.string b] w (Ans xb eb ab w)) (h10c : ∀ w, VarOk w → Calls Tryd.prog 10 #[.string (a ++ ⟨#[10]⟩ ++ b)] w (Ans [] ec ac w))
    (hcase : ((ea != 0) = true ∧ ec = ea ∧ ac = aa) ∨ ((ea != 0) = false ∧ (eb != 0) = true ∧ ec = eb ∧ ac = (a.size : Int) + 1 + ab ∧ 0 ≤ ab ∧ ab ≤ 65536)) :
    Calls Tryd.prog 7 #[.string a, .string b] w fun e w' => e = .returned (.bool true) ∧ Below w.heap.size w w' := by
  have HA : Hid (∀ w, VarOk w → Calls Tryd.prog 10 #[.string a] w (Ans xa ea aa w)) := h10a
  have HB : Hid (∀ w, VarOk w → Calls Tryd.prog 10 #[.string b] w (Ans xb eb ab w)) := h10b
  have HC : Hid (∀ w, VarOk w → Calls Tryd.prog 10 #[.string (a ++ ⟨#[10]⟩ ++ b)] w (Ans [] ec ac w)) := h10c
  have HX : Hid (((ea != 0) = true ∧ ec = ea ∧ ac = aa) ∨ ((ea != 0) = false ∧ (eb != 0) = true ∧ ec = eb ∧ ac = (a.size : Int) + 1 + ab ∧ 0 ≤ ab ∧ ab ≤ 65536)) := hcase
  clear h10a h10b h10c hcase
  have h1 : ¬ 65536 < (a.size : Int) := by omega
  have h2 : ¬ 65536 < (b.size : Int) := by omega
  have t3 : decide ((65536 : Int) ≤ (a.size : Int) + (b.size : Int)) = false := by simp only [decide_eq_false_iff_not]; omega
  have HH : Hid (a.size + b.size < 65536) := h
  clear h
  go_enter Tryd.func7, Tryd.ntmps7
  go_wp2_with fail
  refine (awake_any _ hv).mono ?_
  rintro e w1 ⟨rfl, hb1⟩
  have hv1 := hv.below hb1
  go_wp2_with fail
  refine (HA.out _ hv1).mono ?_
  rintro e w2 ⟨v2, rfl, hb2, hr2⟩
  have hv2 := hv1.below hb2
  go_wp2_with fail
  refine (HB.out _ hv2).mono ?_
  rintro e w3 ⟨v3, rfl, hb3, hr3⟩
  have hv3 := hv2.below hb3
  go_wp2_with fail
  refine (HC.out _ hv3).mono ?_
  rintro e w4 ⟨v4, rfl, hb4, bo4, cap4, rfl, _, _⟩
  have hz1 := hb1.size
  have hz2 := hb2.size
  have hz3 := hb3.size
  have hBB : Below w.heap.size w w4 := ((hb1.trans (hb2.mono hz1)).trans (hb3.mono (by omega))).trans (hb4.mono (by omega))
  clear HA HB HC
  rcases HX.out with ⟨x1, rfl, rfl⟩ | ⟨x1, x2, rfl, rfl, x3, x4⟩
  · go_wp2
    go_ret
    exact ⟨rfl, hBB⟩
  · go_wp2
    go_ret
    exact ⟨rfl, hBB⟩

theorem cell_alloc_old (w : World) (o : Obj) {b : Nat} (h : b < w.heap.size) (i : Nat) : (w.alloc o).cell? ⟨b, i, none⟩ = w.cell? ⟨b, i, none⟩ :=
  World.cell?_of_block (a := ⟨b, i, none⟩) (Below.heap_alloc w o b h)

theorem rowCells_far (n : Nat) (xs : List It) (j : Nat) (h : j < xs.length) : (xs.map (far n))[j]? = some (far n xs[j]) := by
  rw [List.getElem?_map, List.getElem?_eq_getElem h]; rfl

set_option maxRecDepth 100000 in
set_option maxHeartbeats 4000000 in
theorem pieces_ok (a b : ByteArray) (xa xb : List It) (w : World) (hv : VarOk w) (h : a.size + b.size < 65536) (hla : xa.length ≤ 65537) (hlb : xb.length ≤ 65537) (hat : ∀ y ∈ xb, y.at_ ≤ 65536)
    (h10a : ∀ w, VarOk w → Calls Tryd.prog 10 #[.string a] w (Ans xa 0 0 w)) (h10b : ∀ w, VarOk w → Calls Tryd.prog 10 #[.string b] w (Ans xb 0 0 w)) (h10c : ∀ w, VarOk w → Calls Tryd.prog 10 #[.string (a ++ ⟨#[10]⟩ ++ b)] w (Ans (xa ++ xb.map (far (a.size + 1))) 0 0 w)) :
    Calls Tryd.prog 7 #[.string a, .string b] w fun e w' => e = .returned (.bool true) ∧ Below w.heap.size w w' := by
  have HA : Hid (∀ w, VarOk w → Calls Tryd.prog 10 #[.string a] w (Ans xa 0 0 w)) := h10a
  have HB : Hid (∀ w, VarOk w → Calls Tryd.prog 10 #[.string b] w (Ans xb 0 0 w)) := h10b
  have HC : Hid (∀ w, VarOk w → Calls Tryd.prog 10 #[.string (a ++ ⟨#[10]⟩ ++ b)] w (Ans (xa ++ xb.map (far (a.size + 1))) 0 0 w)) := h10c
  have HT : Hid (∀ y ∈ xb, y.at_ ≤ 65536) := hat
  clear h10a h10b h10c hat
  have h1 : ¬ 65536 < (a.size : Int) := by omega
  have h2 : ¬ 65536 < (b.size : Int) := by omega
  have t3 : decide ((65536 : Int) ≤ (a.size : Int) + (b.size : Int)) = false := by simp only [decide_eq_false_iff_not]; omega
  have HH : Hid (a.size + b.size < 65536) := h
  clear h
  have hln : (xa ++ xb.map (far (a.size + 1))).length = xa.length + xb.length := by simp
  go_enter Tryd.func7, Tryd.ntmps7
  go_wp2_with fail
  refine (awake_any _ hv).mono ?_
  rintro e w1 ⟨rfl, hb1⟩
  have hv1 := hv.below hb1
  go_wp2_with fail
  refine (HA.out _ hv1).mono ?_
  rintro e w2 ⟨v2, rfl, hb2, hr2⟩
  have hv2 := hv1.below hb2
  go_wp2_with fail
  refine (HB.out _ hv2).mono ?_
  rintro e w3 ⟨v3, rfl, hb3, hr3⟩
  have hv3 := hv2.below hb3
  go_wp2_with fail
  refine (HC.out _ hv3).mono ?_
  rintro e w4 ⟨v4, rfl, hb4, hr4⟩
  have hz1 := hb1.size
  have hz2 := hb2.size
  have hz3 := hb3.size
  have hBB : Below w.heap.size w w4 := ((hb1.trans (hb2.mono hz1)).trans (hb3.mono (by omega))).trans (hb4.mono (by omega))
  obtain ⟨bo2, cap2, rfl, hc2, hR2⟩ := (hr2.below hb3).below hb4
  obtain ⟨bo3, cap3, rfl, hc3, hR3⟩ := hr3.below hb4
  obtain ⟨bo4, cap4, rfl, hc4, hR4⟩ := hr4
  rw [hln] at hR4 hc4 ⊢
  obtain ⟨na, hna⟩ : ∃ na, xa.length = na := ⟨_, rfl⟩
  obtain ⟨nb, hnb⟩ : ∃ nb, xb.length = nb := ⟨_, rfl⟩
  have HR2 : Hid (0 < xa.length → ∃ g, bo2 = some ⟨g, 0, none⟩ ∧ g < w4.heap.size ∧ ∀ j u, (rowCells xa)[j]? = some u → w4.cell? ⟨g, j, none⟩ = some u) := hR2
  have HR3 : Hid (0 < xb.length → ∃ g, bo3 = some ⟨g, 0, none⟩ ∧ g < w4.heap.size ∧ ∀ j u, (rowCells xb)[j]? = some u → w4.cell? ⟨g, j, none⟩ = some u) := hR3
  have HR4 : Hid (0 < xa.length + xb.length → ∃ g, bo4 = some ⟨g, 0, none⟩ ∧ g < w4.heap.size ∧ ∀ j u, (rowCells (xa ++ xb.map (far (a.size + 1))))[j]? = some u → w4.cell? ⟨g, j, none⟩ = some u) := hR4
  rw [hna] at hla hc2 hc4 ⊢
  rw [hnb] at hlb hc3 hc4 ⊢
  have HNA : Hid (xa.length = na) := hna
  have HNB : Hid (xb.length = nb) := hnb
  clear HA HB HC hr2 hr3 hv1 hv2 hv3 hv hR2 hR3 hR4 hln hna hnb hb1 hb2 hb3 hb4
  go_wp2
  go_loopw [107] (fun t wr => ∃ k : Nat, k ≤ na + nb ∧ t = .int .i64 k ∧ Below w4.heap.size w4 wr) (fun t _ => na + nb - (intOf t).toNat)
  case atStart => exact ⟨0, Nat.zero_le _, rfl, Below.refl _ _⟩
  case round =>
    obtain ⟨k, hk, rfl, hB⟩ := hrel
    by_cases hlt : k < na + nb
    · have hna := HNA.out
      have hnb := HNB.out
      obtain ⟨g4, rfl, hg4, hcell4⟩ := HR4.out (by omega)
      have hc4' : ∀ j u, (rowCells (xa ++ xb.map (far (a.size + 1))))[j]? = some u → wr.cell? ⟨g4, j, none⟩ = some u := fun j u hj => (hB.cell (p := ⟨g4, j, none⟩) hg4).trans (hcell4 j u hj)
      obtain ⟨q0, q1, q2, q3⟩ := rowCells_at (xa ++ xb.map (far (a.size + 1))) k (by simp; omega)
      by_cases hka : k < na
      · obtain ⟨g2, rfl, hg2, hcell2⟩ := HR2.out (by omega)
        have hc2' : ∀ j u, (rowCells xa)[j]? = some u → wr.cell? ⟨g2, j, none⟩ = some u := fun j u hj => (hB.cell (p := ⟨g2, j, none⟩) hg2).trans (hcell2 j u hj)
        obtain ⟨p0, p1, p2, p3⟩ := rowCells_at xa k (by omega)
        have hget : (xa ++ xb.map (far (a.size + 1)))[k]'(by simp; omega) = xa[k]'(by omega) := List.getElem_append_left (by omega)
        rw [hget] at q0 q1 q2 q3
        have a0 := hc2' _ _ p0
        have a1 := hc2' _ _ p1
        have a2 := hc2' _ _ p2
        have a3 := hc2' _ _ p3
        have b0 := hc4' _ _ q0
        have b1 := hc4' _ _ q1
        have b2 := hc4' _ _ q2
        have b3 := hc4' _ _ q3
        generalize (xa[k]'(by omega)).kind = kd at a0 b0
        generalize (xa[k]'(by omega)).at_ = at0 at a1 b1
        generalize (xa[k]'(by omega)).text = tx at a2 b2
        generalize (xa[k]'(by omega)).n = nn at a3 b3
        have hgw : g2 < wr.heap.size := by have := hB.size; omega
        have a0' := fun o => (cell_alloc_old wr o hgw (k * 4)).trans a0
        have a1' := fun o => (cell_alloc_old wr o hgw (k * 4 + 1)).trans a1
        have a2' := fun o => (cell_alloc_old wr o hgw (k * 4 + 2)).trans a2
        have a3' := fun o => (cell_alloc_old wr o hgw (k * 4 + 3)).trans a3
        clear a0 a1 a2 a3
        have hki : (k : Int) < (na : Int) := by omega
        clear hna hnb hcell4 hc4' hcell2 hc2' q0 q1 q2 q3 p0 p1 p2 p3 hget
        go_wp2
        go_quiet (fail)
        go_wp2
        go_roundw
        case rel => exact ⟨k + 1, by omega, by go_num, below_drewN (hB.alloc hB.size _) _⟩
        case measure => simp [intOf]; omega
      · obtain ⟨j, hj⟩ : ∃ j, k = na + j := ⟨k - na, by omega⟩
        obtain ⟨g3, rfl, hg3, hcell3⟩ := HR3.out (by omega)
        have hc3' : ∀ j u, (rowCells xb)[j]? = some u → wr.cell? ⟨g3, j, none⟩ = some u := fun j u hj => (hB.cell (p := ⟨g3, j, none⟩) hg3).trans (hcell3 j u hj)
        have hjb : j < xb.length := by omega
        obtain ⟨p0, p1, p2, p3⟩ := rowCells_at xb j hjb
        have hget : (xa ++ xb.map (far (a.size + 1)))[k]'(by simp; omega) = far (a.size + 1) xb[j] := by
          rw [List.getElem_append_right (by omega), List.getElem_map]
          congr 2
          omega
        rw [hget] at q0 q1 q2 q3
        have hatl := HT.out _ (List.getElem_mem hjb)
        have a0 := hc3' _ _ p0
        have a1 := hc3' _ _ p1
        have a2 := hc3' _ _ p2
        have a3 := hc3' _ _ p3
        have b0 : wr.cell? ⟨g4, k * 4, none⟩ = some (.int .i64 xb[j].kind) := hc4' _ _ q0
        have b1 : wr.cell? ⟨g4, k * 4 + 1, none⟩ = some (.int .i64 ((a.size + 1 + xb[j].at_ : Nat) : Int)) := hc4' _ _ q1
        have b2 : wr.cell? ⟨g4, k * 4 + 2, none⟩ = some (.string xb[j].text) := hc4' _ _ q2
        have b3 : wr.cell? ⟨g4, k * 4 + 3, none⟩ = some (.int .i64 xb[j].n) := hc4' _ _ q3
        generalize xb[j].kind = kd at a0 b0
        generalize xb[j].at_ = at0 at a1 b1 hatl
        generalize xb[j].text = tx at a2 b2
        generalize xb[j].n = nn at a3 b3
        have hgw : g3 < wr.heap.size := by have := hB.size; omega
        have a0' := fun o => (cell_alloc_old wr o hgw (j * 4)).trans a0
        have a1' := fun o => (cell_alloc_old wr o hgw (j * 4 + 1)).trans a1
        have a2' := fun o => (cell_alloc_old wr o hgw (j * 4 + 2)).trans a2
        have a3' := fun o => (cell_alloc_old wr o hgw (j * 4 + 3)).trans a3
        clear a0 a1 a2 a3
        obtain ⟨av, hav⟩ : ∃ av : Int, ((a.size + 1 + at0 : Nat) : Int) = av := ⟨_, rfl⟩
        rw [hav] at b1
        have hsub : av - ((a.size : Int) + 1) = (at0 : Int) := by omega
        have hav0 : 0 ≤ av := by omega
        have hav1 : av ≤ 200000 := by omega
        have hw1 : IntKind.i64.wrap ((k : Int) - (na : Int)) = (j : Int) := by rw [IntKind.wrap_i64]; omega
        have hki : (na : Int) ≤ (k : Int) := by omega
        have hjj : (j : Int) < (nb : Int) := by omega
        have hjn : j < nb := by omega
        have HJ : Hid (k = na + j) := hj
        clear hna hnb hcell4 hc4' hcell3 hc3' q0 q1 q2 q3 p0 p1 p2 p3 hget hav hj
        go_wp2
        go_quiet (fail)
        go_wp2
        go_roundw
        case rel => exact ⟨k + 1, by omega, by go_num, below_drewN (hB.alloc hB.size _) _⟩
        case measure => simp [intOf]; omega
    · have hkz : ¬ ((k : Int) < (na : Int) + (nb : Int)) := by omega
      go_wp2
      go_ret
      exact ⟨rfl, hBB.trans (hB.mono hBB.size)⟩

end Go.Proofs.YtdlddloggjckmaaDoor
