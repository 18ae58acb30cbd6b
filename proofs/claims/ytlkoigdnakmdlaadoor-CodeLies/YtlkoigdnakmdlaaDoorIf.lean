/- The document's own Reads. -/
import Derived.Test.YtlkoigdnakmdlaaDoorIe
import Derived.Test.YtlkoigdnakmdlaaDoorIa
namespace Go.Proofs.YtlkoigdnakmdlaaDoor
open Go.RowKit Go.Sort

set_option maxHeartbeats 1000000 in
theorem rreads_no (xop xa xb xc xn p : Int) (w : World) (h : ¬ (0 ≤ xop ∧ xop ≤ 19)) : RdP xop xa xb xc xn p w [] := by
  unfold RdP
  have hb2 := Below.one (Below.one (Below.refl _ w) (.cells #[.int .i64 xop, .int .i64 xa, .int .i64 xb, .int .i64 xc, .int .i64 xn] 27)) (.cells #[] 3)
  have HO := Hid.mk' (own_mono (N' := w.heap.size) (row_new (w.alloc (.cells #[.int .i64 xop, .int .i64 xa, .int .i64 xb, .int .i64 xc, .int .i64 xn] 27)) 3 1) (by simp))
  rw [World.size_alloc] at HO
  have q0 : (xop == 0) = false := beq_no (by omega)
  have q1 : (xop == 1) = false := beq_no (by omega)
  have q2 : (xop == 2) = false := beq_no (by omega)
  have q3 : (xop == 3) = false := beq_no (by omega)
  have q4 : (xop == 4) = false := beq_no (by omega)
  have q5 : (xop == 5) = false := beq_no (by omega)
  have q6 : (xop == 6) = false := beq_no (by omega)
  have q7 : (xop == 7) = false := beq_no (by omega)
  have q8 : (xop == 8) = false := beq_no (by omega)
  have q9 : (xop == 9) = false := beq_no (by omega)
  have q10 : (xop == 10) = false := beq_no (by omega)
  have q11 : (xop == 11) = false := beq_no (by omega)
  have q12 : (xop == 12) = false := beq_no (by omega)
  have q13 : (xop == 13) = false := beq_no (by omega)
  have q14 : (xop == 14) = false := beq_no (by omega)
  have q15 : (xop == 15) = false := beq_no (by omega)
  have q16 : (xop == 16) = false := beq_no (by omega)
  have q17 : (xop == 17) = false := beq_no (by omega)
  have q18 : (xop == 18) = false := beq_no (by omega)
  have q19 : (xop == 19) = false := beq_no (by omega)
  clear h
  go_enter Tryd.func30, Tryd.ntmps30
  go_wp2_with fail
  go_ret
  exact ⟨_, rfl, HO.out, hb2⟩
set_option maxRecDepth 100000 in
set_option maxHeartbeats 2000000 in
theorem rreads_19 (xa xb xc xn p : Int) (w : World) : RdP 19 xa xb xc xn p w (argL xb p) := by
  unfold RdP
  obtain ⟨i0, hi, hz0, hz1, hz2⟩ := info_parts Tryd.infoN
  have HI0 := Hid.mk' hi
  clear hi
  have hb2 := Below.one (Below.one (Below.refl _ w) (.cells #[.int .i64 19, .int .i64 xa, .int .i64 xb, .int .i64 xc, .int .i64 xn] 27)) (.cells #[] 3)
  have HO := Hid.mk' (own_mono (N' := w.heap.size + 1) (row_new (w.alloc (.cells #[.int .i64 19, .int .i64 xa, .int .i64 xb, .int .i64 xc, .int .i64 xn] 27)) 3 1) (by simp))
  rw [World.size_alloc] at HO
  have y2 := cell_kept_below (new_cell w #[.int .i64 19, .int .i64 xa, .int .i64 xb, .int .i64 xc, .int .i64 xn] 27 2 (.int .i64 xb) rfl) (Below.one (Below.refl _ _) (.cells #[] 3))
  have HT := Hid.mk' (fun k => argL_take (b := xb) (p := p) (k := k))
  have HL := Hid.mk' (argL_len xb p)
  obtain ⟨q, hq⟩ : ∃ q, q = (min p 8).toNat := ⟨_, rfl⟩
  have HQ := Hid.mk' hq
  have hq8 : q ≤ 8 := by omega
  have hqp : ∀ k : Nat, k < q → (k : Int) < p := fun k h => by omega
  have HP := Hid.mk' hqp
  clear hq hqp
  go_enter Tryd.func30, Tryd.ntmps30
  go_wp2_with fail
  generalize (w.alloc (.cells #[.int .i64 19, .int .i64 xa, .int .i64 xb, .int .i64 xc, .int .i64 xn] 27)).alloc (.cells #[] 3) = W at *
  go_loopw [5, 6] (fun t5 t6 wr => ∃ (k : Nat) (v : Value), k ≤ q ∧ t5 = v ∧ t6 = .int .i64 k ∧ wr.ownsRow (w.heap.size + 1) 3 1 v k (((argL xb p).take k).map iV) ∧ Below w.heap.size w wr ∧ wr.cell? ⟨w.heap.size, 2, none⟩ = some (.int .i64 xb)) (fun _ t6 _ => q - (intOf t6).toNat)
  case atStart => exact ⟨0, _, Nat.zero_le _, rfl, rfl, HO.out, hb2, y2⟩
  case round =>
    obtain ⟨k, v, hk, rfl, rfl, hown, hbr, e2⟩ := hrel
    by_cases hlt : k < q
    · have c1 := HP.out k hlt
      have c2 : (k : Int) < 8 := by omega
      have HTk := Hid.mk' (HT.out k (by rw [← HQ.out]; exact hlt))
      have hss := hbr.size
      have HS : Hid (w.heap.size + 1 ≤ (wr.alloc (.cells #[.int .i64 (wrap64 (xb + (k : Int)))] 3)).heap.size) := (by simp; omega : w.heap.size + 1 ≤ _)
      have HN := Hid.mk' (news_1 wr (wrap64 (xb + (k : Int))))
      obtain ⟨av, cv, rfl⟩ := gown_form hown
      have HO2 := Hid.mk' hown
      have HB := Hid.mk' hbr
      clear hown hbr hss
      go_wp2_with (at_builtin; refine wpList_append_own _ rfl _ _ 56 rfl (w.heap.size + 1) 3 i0 (.int .i64 0) 1 8 Tryd.underlying56 HI0.out hz0 hz1 hz2 rfl (by decide) _ k _ rfl (HO2.out.alloc _) ⟨wr.heap.size, 0, none⟩ 1 1 [.int .i64 (wrap64 (xb + (k : Int)))] rfl rfl HN.out (by simp [Value.oneCell']) (by unfold maxLen; omega) (by omega) HS.out ?_; intro v1 w1 own1 grow1 _; obtain ⟨a1, c1', rfl⟩ := gown_form own1)
      go_roundw
      case rel =>
        have hbw : Below w.heap.size w w1 := (Below.one HB.out _).grown grow1 (Nat.le_of_succ_le HS.out) (fun k e => Nat.le_of_succ_le (own_base HO2.out k e))
        refine ⟨k + 1, _, by omega, rfl, by go_num, by rw [HTk.out, List.map_append]; exact own1, hbw, ?_⟩
        exact grow1.cell (cell_kept_below e2 (Below.one (Below.refl _ _) _)) (fun e => by have := own_base HO2.out _ e.symm; simp only at this; omega)
      case measure => simp [intOf]; omega
    · have hkq : k = q := by omega
      have HK := Hid.mk' hkq
      by_cases c1 : (k : Int) < p
      · have c2 : ¬ ((k : Int) < 8) := by have := HQ.out; omega
        clear hkq
        go_wp2_with fail
        go_ret
        refine ⟨_, rfl, ?_, hbr⟩
        rw [List.take_of_length_le (by rw [HL.out, ← HQ.out, HK.out]; exact Nat.le_refl _), HK.out] at hown
        rw [HL.out, ← HQ.out]; exact own_mono hown (Nat.le_succ _)
      · clear hkq
        go_wp2_with fail
        go_ret
        refine ⟨_, rfl, ?_, hbr⟩
        rw [List.take_of_length_le (by rw [HL.out, ← HQ.out, HK.out]; exact Nat.le_refl _), HK.out] at hown
        rw [HL.out, ← HQ.out]; exact own_mono hown (Nat.le_succ _)
theorem rreads_any (x : Is) (p : Int) (w : World) : Calls Tryd.prog 30 #[x.val, .int .i64 p] w fun e w' => ∃ v, e = .returned v ∧ w'.ownsRow w.heap.size 3 1 v (rdL x p).length ((rdL x p).map iV) ∧ Below w.heap.size w w' := by
  obtain ⟨xop, xa, xb, xc, xn⟩ := x
  show RdP xop xa xb xc xn p w (rdL ⟨xop, xa, xb, xc, xn⟩ p)
  by_cases h : 0 ≤ xop ∧ xop ≤ 19
  · refine op_cases (P := fun xop => RdP xop xa xb xc xn p w (rdL ⟨xop, xa, xb, xc, xn⟩ p)) h.1 h.2 ?_ ?_ ?_ ?_ ?_ ?_ ?_ ?_ ?_ ?_ ?_ ?_ ?_ ?_ ?_ ?_ ?_ ?_ ?_ ?_
    · rw [show rdL ⟨0, xa, xb, xc, xn⟩ p = [xa] by kernel_rfl]; exact rreads_0 xa xb xc xn p w
    · rw [show rdL ⟨1, xa, xb, xc, xn⟩ p = [] by kernel_rfl]; exact rreads_1 xa xb xc xn p w
    · rw [show rdL ⟨2, xa, xb, xc, xn⟩ p = [xb] by kernel_rfl]; exact rreads_2 xa xb xc xn p w
    · rw [show rdL ⟨3, xa, xb, xc, xn⟩ p = [xb, xc] by kernel_rfl]; exact rreads_3 xa xb xc xn p w
    · rw [show rdL ⟨4, xa, xb, xc, xn⟩ p = [xb, xc] by kernel_rfl]; exact rreads_4 xa xb xc xn p w
    · rw [show rdL ⟨5, xa, xb, xc, xn⟩ p = [xb, xc] by kernel_rfl]; exact rreads_5 xa xb xc xn p w
    · rw [show rdL ⟨6, xa, xb, xc, xn⟩ p = [xb, xc] by kernel_rfl]; exact rreads_6 xa xb xc xn p w
    · rw [show rdL ⟨7, xa, xb, xc, xn⟩ p = [xb, xc] by kernel_rfl]; exact rreads_7 xa xb xc xn p w
    · rw [show rdL ⟨8, xa, xb, xc, xn⟩ p = [xb, xc] by kernel_rfl]; exact rreads_8 xa xb xc xn p w
    · rw [show rdL ⟨9, xa, xb, xc, xn⟩ p = [xb, xc] by kernel_rfl]; exact rreads_9 xa xb xc xn p w
    · rw [show rdL ⟨10, xa, xb, xc, xn⟩ p = [xb] by kernel_rfl]; exact rreads_10 xa xb xc xn p w
    · rw [show rdL ⟨11, xa, xb, xc, xn⟩ p = [xb] by kernel_rfl]; exact rreads_11 xa xb xc xn p w
    · rw [show rdL ⟨12, xa, xb, xc, xn⟩ p = [xa, xb] by kernel_rfl]; exact rreads_12 xa xb xc xn p w
    · rw [show rdL ⟨13, xa, xb, xc, xn⟩ p = [xa] by kernel_rfl]; exact rreads_13 xa xb xc xn p w
    · rw [show rdL ⟨14, xa, xb, xc, xn⟩ p = [] by kernel_rfl]; exact rreads_14 xa xb xc xn p w
    · rw [show rdL ⟨15, xa, xb, xc, xn⟩ p = [xa] by kernel_rfl]; exact rreads_15 xa xb xc xn p w
    · rw [show rdL ⟨16, xa, xb, xc, xn⟩ p = [xa] by kernel_rfl]; exact rreads_16 xa xb xc xn p w
    · rw [show rdL ⟨17, xa, xb, xc, xn⟩ p = [xa, xb] by kernel_rfl]; exact rreads_17 xa xb xc xn p w
    · rw [show rdL ⟨18, xa, xb, xc, xn⟩ p = [xa] by kernel_rfl]; exact rreads_18 xa xb xc xn p w
    · exact rreads_19 xa xb xc xn p w
  · have : rdL ⟨xop, xa, xb, xc, xn⟩ p = [] := by
      unfold rdL
      rw [if_neg (fun (e : xop = 19) => h (by omega))]
      unfold fldL
      rw [rwOf_no h]
      kernel_rfl
    rw [this]
    exact rreads_no xop xa xb xc xn p w h
end Go.Proofs.YtlkoigdnakmdlaaDoor
