/- PackCuts: the law. -/
import Derived.Test.YtfamomjgjamnoaaDoorLe
namespace Go.Proofs.YtfamomjgjamnoaaDoor
open Go.RowKit Go.Sort

theorem moB_pos (m : Mo) : 0 < (moB m).length := by unfold moB sigB; simp only [List.length_append, List.length_cons]; omega
theorem tmod_in (a : Int) {n : Nat} (h : 0 < n) : -(n : Int) < a.tmod n ∧ a.tmod n < n := by
  have h1 := Int.natAbs_tmod a n
  have h2 := Nat.mod_lt a.natAbs h
  rw [Int.natAbs_natCast] at h1
  omega
theorem rowIn_take {W : World} {a : Option Addr} {t : Bt} (h : RowIn W a 1 (t.map bC)) (k : Nat) : RowIn W a 1 ((t.take k).map bC) := by
  intro i cs hi
  refine h i cs ?_
  rw [List.getElem?_map] at hi ⊢
  rw [List.getElem?_take] at hi
  split at hi
  · exact hi
  · simp at hi
theorem sliced_first (g k c : Nat) : sliced (some ⟨g, 0, none⟩) 0 k c 1 = .slice (some ⟨g, 0, none⟩) k c := by
  unfold sliced
  simp [Addr.add_lit]
theorem slice_first (W : World) (g len c k : Nat) (h : k ≤ c) : (Instr.slice 27 (.slice (some ⟨g, 0, none⟩) len c) none (some (.int .i64 (k : Int))) none).run Tryd.prog W = .ok (.slice (some ⟨g, 0, none⟩) k c) W := by
  have hu : Tryd.prog.underlying 27 = some (.slice (Tryd.prog.elem 27)) := by rw [Tryd.elemB]; exact Tryd.underlying27
  rw [run_slice_h W 27 _ len c hu .i64 (k : Int) (by omega) (by omega), Tryd.elemB, Int.toNat_natCast]
  obtain ⟨i0, hi, hz0, hz1, hz2⟩ := info_parts Tryd.infoByte
  simp [sizeOf, typeInfo, hi, hz1, sliced_first]
theorem row_u8 {W : World} {a : Addr} {l : Bt} (h : RowIn W (some a) 1 (l.map bC)) : ∀ j u, (u8C l)[j]? = some u → W.cell? (a.add j) = some u := by
  intro j u hu
  have hj : j < l.length := by
    have := (List.getElem?_eq_some_iff.1 hu).1
    rwa [u8C_len] at this
  obtain ⟨b, o, e, hc⟩ := h j (bC l[j]) (by rw [List.getElem?_map, List.getElem?_eq_getElem hj]; rfl)
  have h1 := hc 0 (u8V l[j]) rfl
  injection e with e
  subst e
  rw [Addr.add_lit]
  rw [u8C, List.getElem?_map, List.getElem?_eq_getElem hj] at hu
  injection hu with hu
  rw [← hu]
  simpa using h1
/-- Bytes that lie there are put behind a row of the call's own. -/
theorem ob_put {N : Nat} {acc l : Bt} {v : Value} {W : World} {va : Option Addr} {vc : Nat} (h : Ob N acc v W) (hN : N ≤ W.heap.size) (hr : RowIn W va 1 (l.map bC)) (hl : acc.length + l.length ≤ 140737488355328) (ty : TypeId) :
    ∃ v' W', (Builtin.append_ #[27, 27] ty #[v, .slice va l.length vc]).run Tryd.prog W = .ok v' W' ∧ Ob N (acc ++ l) v' W' ∧ Gr N W W' := by
  obtain ⟨v', W', h1, h2, h3, _⟩ := ob_grow (l := l) h hl hN ty va vc (fun e => by subst e; exact rowIn_none hr rfl) (fun a e => by subst e; exact row_u8 hr)
  exact ⟨v', W', h1, h2, h3⟩
/-- What the second question of PackCuts comes to. -/
theorem more_cases {m q : Mo} {t bs : Bt} {e p : Int} (h0 : decZ t = .ok m.er) (h1 : 0 < bs.length → ¬ 1048576 < (t ++ bs).length → decZ (t ++ bs) = .error (7, (t.length : Int))) (h : DecR (t ++ bs) q e p) :
    (bs.length = 0 ∧ q.er = m.er ∧ e = 0 ∧ p = 0) ∨ (0 < bs.length ∧ 1048576 < t.length + bs.length ∧ e = 4 ∧ p = 1048576) ∨ (0 < bs.length ∧ ¬ 1048576 < t.length + bs.length ∧ e = 7 ∧ p = (t.length : Int)) := by
  by_cases hb : 0 < bs.length
  · by_cases hl : 1048576 < t.length + bs.length
    · unfold DecR at h
      rw [dec_long (by rw [List.length_append]; exact hl)] at h
      exact .inr (.inl ⟨hb, hl, h.2.1, h.2.2.1⟩)
    · unfold DecR at h
      rw [h1 hb (by rw [List.length_append]; exact hl)] at h
      exact .inr (.inr ⟨hb, hl, h.2.1, h.2.2.1⟩)
  · have hn : bs = [] := List.eq_nil_of_length_eq_zero (by omega)
    subst hn
    rw [List.append_nil] at h
    unfold DecR at h
    rw [h0] at h
    exact .inl ⟨rfl, h⟩
set_option maxRecDepth 100000 in
set_option maxHeartbeats 8000000 in
theorem packCuts_any (m : Mo) (cut : Int) (bs : Bt) (va : Option Addr) (vc : Nat) (w : World) (ht : Tab w) (hm : m.In w) (hcut : I64 cut) (hy : Bys w bs va vc) : Calls Tryd.prog 6 #[m.val, .int .i64 cut, .slice va bs.length vc] w fun e w' => e = .returned (.bool true) ∧ Below w.heap.size w w' := by
  have hb := Below.one (Below.refl _ w) (.cells (moC m) 25)
  have HF : Hid (∀ w', Below w.heap.size w w' → Calls Tryd.prog 11 #[] w' fun e w'' => e = .returned (.bool true) ∧ Below w'.heap.size w' w'') := fun w' hb => fixed_any w' (ht.stay hb)
  have HM1 := Hid.mk' (encode_any m _ (ht.stay hb) (hm.stay hb))
  have HS : Hid (∀ (q : Mo) w', q.er = m.er → q.In w' → Below w.heap.size w w' → Calls Tryd.prog 10 #[m.val, q.val] w' fun e w'' => e = .returned (.bool true) ∧ Below w'.heap.size w' w'') := fun q w' he h hb => by
    have := rsame_any m q w' (hm.stay hb) h
    rwa [samM_same he.symm] at this
  have HY : Hid (∀ w', Below w.heap.size w w' → Bys w' bs va vc) := fun w' hb => hy.stay hb
  have HN := Hid.mk' (nums_in hm)
  have HX := Hid.mk' (heap_alloc_new w (.cells (moC m) 25))
  have HB := Hid.mk' hb
  have HC := Hid.mk' hcut
  clear ht hm hb hy hcut
  unfold EnP fltV at HM1
  unfold Mo.val at *
  have x0 := cell_of_obj HX.out (j := 0) (v := .slice m.ta m.ths.length m.tc) rfl
  have x1 := cell_of_obj HX.out (j := 1) (v := .slice m.fa m.funcs.length m.fc) rfl
  go_enter Tryd.func6, Tryd.ntmps6
  go_wp2_with fail
  generalize w.alloc (.cells (moC m) 25) = W0 at *
  refine HM1.out.mono ?_
  rintro e W1 ⟨v1, rfl, ob1, bb1⟩
  have HZ : Hid ((mayZ m).1 = 0 → encB m = moB m ∧ MOk m) := fun h => ⟨encB_ok h, may_ok h⟩
  have HL := Hid.mk' (encB_len m)
  generalize mayZ m = z at *
  generalize encB m = t at *
  obtain ⟨z0, z1, z2⟩ := z
  simp only at *
  have b2 := Below.one bb1 (.cells #[.int .i64 z0, .int .i64 z1, .int .i64 z2] 30)
  have bo := Below.one (Below.refl _ W1) (.cells #[.int .i64 z0, .int .i64 z1, .int .i64 z2] 30)
  have HF1 := Hid.mk' (heap_alloc_new W1 (.cells #[.int .i64 z0, .int .i64 z1, .int .i64 z2] 30))
  have HO := Hid.mk' (own_stay ob1 bo)
  obtain ⟨a1, c1, rfl⟩ := gown_form ob1
  replace HB := Hid.mk' (Below.on HB.out b2)
  replace HX := Hid.mk' (blk_stay HX.out b2)
  clear HM1 ob1 bb1 b2 bo x0 x1
  go_wp2_with fail
  generalize W1.heap.size = G1 at *
  generalize W1.alloc (.cells #[.int .i64 z0, .int .i64 z1, .int .i64 z2] 30) = W2 at *
  refine (HF.out _ HB.out).mono ?_
  rintro e W3 ⟨rfl, bb3⟩
  replace HB := Hid.mk' (Below.on HB.out bb3)
  replace HX := Hid.mk' (blk_stay HX.out bb3)
  replace HF1 := Hid.mk' (blk_stay HF1.out bb3)
  replace HO := Hid.mk' (own_stay HO.out bb3)
  clear bb3 HF
  have a0 := cell_of_obj HF1.out (j := 0) (v := .int .i64 z0) rfl
  by_cases hz : z0 = 0
  rotate_left
  · have hz2 := bne_of hz
    clear hz
    go_wp2_with fail
    go_ret
    exact ⟨rfl, HB.out⟩
  subst hz
  by_cases hlong : 1048576 < bs.length
  · have hli : (1048576 : Int) < (bs.length : Int) := by omega
    clear hlong
    go_wp2_with fail
    go_ret
    exact ⟨rfl, HB.out⟩
  obtain ⟨rfl, hmk⟩ := HZ.out rfl
  have HMK := Hid.mk' hmk
  have HBL := Hid.mk' hlong
  have hli : ¬ (1048576 : Int) < (bs.length : Int) := by omega
  have hpos := moB_pos m
  have hlen := moB_len hmk
  have HPO := Hid.mk' hpos
  have HDC : Hid (∀ k, k < (moB m).length → decZ ((moB m).take k) = .error (6, (k : Int))) := fun k hk => dec_cut hmk HN.out hk
  have HD0 : Hid (decZ (moB m) = .ok m.er) := dec_enc hmk HN.out
  have HDM : Hid (0 < bs.length → ¬ 1048576 < ((moB m) ++ bs).length → decZ (moB m ++ bs) = .error (7, ((moB m).length : Int))) := fun h1 h2 => dec_more hmk HN.out h1 h2
  generalize moB m = t at *
  have hne : ¬ (t.length : Int) = 0 := by omega
  have HLE := Hid.mk' hlen
  clear hlong hmk HZ HMK HN hlen hpos HL
  clear HF1
  go_upto_region 7 with fail
  have hr1 : -(t.length : Int) < cut.tmod t.length ∧ cut.tmod t.length < t.length := tmod_in cut HPO.out
  generalize cut.tmod t.length = r at *
  clear HC a0
  obtain ⟨g1, cu1, hag, hN1, hgb, hcc⟩ := own_blk HO.out (i := 0) HPO.out
  subst hag
  clear hgb hcc hN1
  have HAT : Hid (∀ W, Below W3.heap.size W3 W → Bys W t (some ⟨g1, 0, none⟩) c1) := by
    intro W hb
    obtain ⟨va', vc', e', hr', hv', hc'⟩ := ob_dec (own_stay HO.out hb)
    injection e' with e1 _ e3
    subst e1; subst e3
    exact ⟨hr', hv', hc', by have := HLE.out; omega⟩
  have hc1 := (HAT.out _ (Below.refl _ _)).c
  obtain ⟨k, hk⟩ : ∃ k : Nat, (r < 0 ∧ -r = (k : Int) ∨ ¬ r < 0 ∧ r = (k : Int)) ∧ k < t.length := by
    by_cases hneg : r < 0
    · exact ⟨(-r).toNat, .inl ⟨hneg, by omega⟩, by omega⟩
    · exact ⟨r.toNat, .inr ⟨hneg, by omega⟩, by omega⟩
  obtain ⟨hk, hkl⟩ := hk
  have hwk : wrap64 (k : Int) = k := by have := HLE.out; have h2 := IntKind.wrap_i64 (k : Int); simp only [wrap64]; omega
  have hsl : ∀ W, (Instr.slice 27 (.slice (some ⟨g1, 0, none⟩) t.length c1) none (some (.int .i64 (k : Int))) none).run Tryd.prog W = .ok (.slice (some ⟨g1, 0, none⟩) k c1) W := fun W => slice_first W g1 _ _ _ (by omega)
  have hkt : (t.take k).length = k := by rw [List.length_take]; omega
  have HDK : Hid (∀ W, Below W3.heap.size W3 W → Calls Tryd.prog 13 #[.slice (some ⟨g1, 0, none⟩) k c1] W (DeP (t.take k) W)) := fun W hb => by
    have h := HAT.out W hb
    have := decode_any (t.take k) (some ⟨g1, 0, none⟩) c1 W (rowIn_take h.r k) h.b (by omega)
    rwa [hkt] at this
  have HDZ : Hid (∀ q e p, DecR (t.take k) q e p → e = 6 ∧ p = (k : Int)) := fun q e p h => by
    unfold DecR at h
    rw [HDC.out k hkl] at h
    exact ⟨h.2.1, h.2.2.1⟩
  have HMC : Hid (∀ q e p, DecR (t ++ bs) q e p → (bs.length = 0 ∧ q.er = m.er ∧ e = 0 ∧ p = 0) ∨ (0 < bs.length ∧ 1048576 < t.length + bs.length ∧ e = 4 ∧ p = 1048576) ∨ (0 < bs.length ∧ ¬ 1048576 < t.length + bs.length ∧ e = 7 ∧ p = (t.length : Int))) := fun q e p h => more_cases HD0.out HDM.out h
  have HZ2 : Hid (∀ W, Below w.heap.size w W → Below W3.heap.size W3 W → ∃ v' W', (Builtin.append_ #[27, 27] 27 #[.slice (some ⟨W.heap.size, 0, none⟩) 0 0, .slice (some ⟨g1, 0, none⟩) t.length c1]).run Tryd.prog (W.alloc (.cells #[] 5)) = .ok v' W' ∧ Ob W.heap.size t v' W' ∧ Below W.heap.size W W') := fun W _ hb => by
    have bo := Below.one (Below.refl _ W) (.cells #[] 5)
    obtain ⟨v', W', h1, h2, h3⟩ := ob_put (vc := c1) (ob_new (N := W.heap.size) (W := W) [] (Nat.le_refl _) (by simp)) (by simp) (HAT.out _ (hb.trans (bo.mono hb.size))).r (by have := HLE.out; simp; omega) 27
    exact ⟨v', W', h1, h2, bo.trans h3.b⟩
  have HZ3 : Hid (∀ N v W, Below w.heap.size w W → N ≤ W.heap.size → Ob N t v W → ∃ v' W', (Builtin.append_ #[27, 27] 27 #[v, .slice va bs.length vc]).run Tryd.prog W = .ok v' W' ∧ Ob N (t ++ bs) v' W' ∧ Gr N W W') := fun N v W hb hN ho => ob_put ho hN (HY.out W hb).r (by have := HLE.out; omega) _
  have HSM : Hid (wrap64 ((t.length : Int) + bs.length) = (t.length : Int) + bs.length) := by show wrap64 _ = _; have := HLE.out; have h2 := IntKind.wrap_i64 ((t.length : Int) + bs.length); simp only [wrap64]; omega
  clear HDC HD0 HDM HPO HLE hr1 hc1 hkt hkl HBL HAT HY HO
  have HBB := Hid.mk' (Below.refl W3.heap.size W3)
  generalize t ++ bs = u at *
  have hsum : wrap64 ((t.length : Int) + bs.length) = (t.length : Int) + bs.length := HSM.out
  rcases hk with ⟨hneg, hk⟩ | ⟨hneg, rfl⟩
  all_goals
    go_wp2_with fail
    refine (HDK.out _ HBB.out).mono ?_
    rintro e W4 ⟨q, e1, p1, rfl, hdq, om, bb4⟩
    obtain ⟨rfl, rfl⟩ := HDZ.out _ _ _ hdq
    have b5 := Below.one bb4 (.cells #[.slice q.ta q.ths.length q.tc, .slice q.fa q.funcs.length q.fc] 25)
    replace HB := Hid.mk' (Below.on HB.out b5)
    replace HBB := Hid.mk' (Below.on HBB.out b5)
    replace HX := Hid.mk' (blk_stay HX.out b5)
    clear HDK HDZ hdq om bb4 b5 hsl
    unfold Mo.val
    go_upto_region 12 with fail
    generalize W4.alloc (.cells #[.slice q.ta q.ths.length q.tc, .slice q.fa q.funcs.length q.fc] 25) = W5 at *
    have HAP := Hid.mk' (HZ2.out _ HB.out HBB.out)
    clear HZ2
    go_upto_region 13 with (first
      | (at_builtin; refine wpl_app rfl _ _ 27 27 _ _ rfl rfl rfl HAP.out ?_; rintro v6 W6 ⟨ob6, bb6⟩; have HAP3 := Hid.mk' (HZ3.out _ v6 W6 (Below.on HB.out bb6) bb6.size ob6))
      | (at_builtin; refine wpl_app rfl _ _ 27 27 _ _ rfl rfl rfl HAP3.out ?_; rintro v7 W7 ⟨ob7, gr7⟩; obtain ⟨a7, c7, rfl, hr7, hv7, hc7⟩ := ob_dec ob7; have bb7 := bb6.trans gr7.b)
      | (go_at_call 13; refine (decode_any u a7 c7 W7 hr7 hv7 hc7).mono ?_; rintro e W8 ⟨q8, e8, p8, rfl, hd8, om8, bb8⟩; unfold Mo.val))
    have b9 := Below.one (bb7.trans (bb8.mono bb7.size)) (.cells #[.slice q8.ta q8.ths.length q8.tc, .slice q8.fa q8.funcs.length q8.fc] 25)
    have bo := Below.one (Below.refl _ W8) (.cells #[.slice q8.ta q8.ths.length q8.tc, .slice q8.fa q8.funcs.length q8.fc] 25)
    have HXQ := Hid.mk' (heap_alloc_new W8 (.cells #[.slice q8.ta q8.ths.length q8.tc, .slice q8.fa q8.funcs.length q8.fc] 25))
    replace HB := Hid.mk' (Below.on HB.out b9)
    replace HX := Hid.mk' (blk_stay HX.out b9)
    have HIQ := Hid.mk' (om8.stay bo).in
    have hmc := HMC.out _ _ _ hd8
    have x0 := cell_of_obj HX.out (j := 0) (v := .slice m.ta m.ths.length m.tc) rfl
    have x1 := cell_of_obj HX.out (j := 1) (v := .slice m.fa m.funcs.length m.fc) rfl
    have y0 := cell_of_obj HXQ.out (j := 0) (v := .slice q8.ta q8.ths.length q8.tc) rfl
    have y1 := cell_of_obj HXQ.out (j := 1) (v := .slice q8.fa q8.funcs.length q8.fc) rfl
    clear HMC HAP HAP3 ob6 bb6 ob7 gr7 hr7 hv7 hc7 bb7 hd8 om8 bb8 b9 bo HZ3 HBB
    generalize W8.heap.size = G8 at *
    generalize W8.alloc (.cells #[.slice q8.ta q8.ths.length q8.tc, .slice q8.fa q8.funcs.length q8.fc] 25) = W9 at *
    rcases hmc with ⟨hb0, he, rfl, rfl⟩ | ⟨hb0, hb1, rfl, rfl⟩ | ⟨hb0, hb1, rfl, rfl⟩
    · have HSQ := Hid.mk' (HS.out q8 _ he HIQ.out HB.out)
      have hbi : ((bs.length : Int) == 0) = true := by rw [hb0]; rfl
      unfold Mo.val at HSQ
      clear hb0 he HS
      have hu : undef = Value.tuple #[] := rfl
      go_wp2_with (go_at_call 10; refine HSQ.out.mono ?_; rintro e WB ⟨rfl, bbB⟩)
      go_ret
      exact ⟨rfl, Below.on HB.out bbB⟩
    · have hbi : ¬ (bs.length : Int) = 0 := by omega
      have hbj : (1048576 : Int) < (t.length : Int) + bs.length := by omega
      clear hb0 hb1 HS
      go_wp2_with fail
      go_ret
      exact ⟨rfl, HB.out⟩
    · have hbi : ¬ (bs.length : Int) = 0 := by omega
      have hbj : ¬ (1048576 : Int) < (t.length : Int) + bs.length := by omega
      clear hb0 hb1 HS
      go_wp2_with fail
      go_ret
      exact ⟨rfl, HB.out⟩
end Go.Proofs.YtfamomjgjamnoaaDoor
