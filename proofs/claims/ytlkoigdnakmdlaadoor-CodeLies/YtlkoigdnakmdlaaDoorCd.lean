/- Where a name stands. -/
import Derived.Test.YtlkoigdnakmdlaaDoorCa
namespace Go.Proofs.YtlkoigdnakmdlaaDoor
open Go.RowKit Go.Sort

set_option maxRecDepth 100000 in
set_option maxHeartbeats 2000000 in
theorem find_any (m : Mo) (s : ByteArray) (w : World) (hm : Fns w m.fa m.funcs) : Calls Tryd.prog 23 #[m.val, .string s] w fun e w' => e = .returned (.int .i64 (fndN m.funcs s 0)) ∧ Below w.heap.size w w' := by
  have hb0 := Below.one (Below.refl _ w) (.cells #[.slice m.ta m.ths.length m.tc, .slice m.fa m.funcs.length m.fc] 33)
  have hc := hm.1
  have HM := Hid.mk' hm
  clear hm
  unfold Mo.val
  obtain ⟨_, _, _, a, c, l⟩ := m
  simp only at HM hc hb0 ⊢
  go_enter Tryd.func23, Tryd.ntmps23
  go_wp2_with fail
  go_loopw [10] (fun t10 wr => ∃ (j : Nat), j ≤ l.length ∧ t10 = .int .i64 j ∧ fndN (l.drop j) s j = fndN l s 0 ∧ Below w.heap.size w wr) (fun t10 _ => l.length - (intOf t10).toNat)
  case atStart => exact ⟨0, Nat.zero_le _, rfl, rfl, hb0⟩
  case round =>
    obtain ⟨j, hj, rfl, hcnt, hb⟩ := hrel
    have HC : Hid (fndN (l.drop j) s j = fndN l s 0) := hcnt
    clear hcnt
    by_cases hlt : j < l.length
    · obtain ⟨b, o, rfl, c0, c1, c2, c3, c4⟩ := fns_at (HM.out.stay hb) hlt
      have hli : (j : Int) < (l.length : Int) := by omega
      have HD := Hid.mk' (fndN_drop (s := s) hlt)
      generalize l[j] = f at *
      cases ev : (f.name.toList == s.toList)
      · go_wp2_with fail
        go_roundw
        case rel => exact ⟨j + 1, by omega, by go_num, by rw [← HC.out, HD.out, ev]; rfl, Below.one hb _⟩
        case measure => simp [intOf]; omega
      · go_wp2_with fail
        go_ret
        exact ⟨ret_int (by rw [← HC.out, HD.out, ev]; rfl), Below.one hb _⟩
    · go_wp2_with fail
      go_ret
      exact ⟨ret_int (by rw [← HC.out, List.drop_eq_nil_of_le (by omega)]; rfl), hb⟩
set_option maxRecDepth 100000 in
set_option maxHeartbeats 2000000 in
theorem rfind_any (m : Mo) (s : ByteArray) (w : World) (hm : Fns w m.fa m.funcs) : Calls Tryd.prog 24 #[m.val, .string s] w fun e w' => e = .returned (.int .i64 (fndN m.funcs s 0)) ∧ Below w.heap.size w w' := by
  have hb0 := Below.one (Below.refl _ w) (.cells #[.slice m.ta m.ths.length m.tc, .slice m.fa m.funcs.length m.fc] 33)
  have hc := hm.1
  have HM := Hid.mk' (hm.stay hb0)
  clear hm
  unfold Mo.val
  obtain ⟨ta, tc, ths, a, c, l⟩ := m
  simp only at HM hc hb0 ⊢
  go_enter Tryd.func24, Tryd.ntmps24
  go_wp2_with fail
  go_loop [5] (fun i => ∃ (j : Nat), j ≤ l.length ∧ i = .int .i64 j ∧ fndN (l.drop j) s j = fndN l s 0) (fun i => l.length - (intOf i).toNat)
  case atStart => exact ⟨0, Nat.zero_le _, rfl, rfl⟩
  case round =>
    obtain ⟨j, hj, rfl, hcnt⟩ := hrel
    have HC : Hid (fndN (l.drop j) s j = fndN l s 0) := hcnt
    clear hcnt
    by_cases hlt : j < l.length
    · obtain ⟨b, o, rfl, c0, c1, c2, c3, c4⟩ := fns_at HM.out hlt
      have hli : (j : Int) < (l.length : Int) := by omega
      have HD := Hid.mk' (fndN_drop (s := s) hlt)
      generalize l[j] = f at *
      cases ev : (f.name.toList == s.toList)
      · go_wp2_with fail
        go_round
        case rel => exact ⟨j + 1, by omega, by go_num, by rw [← HC.out, HD.out, ev]; rfl⟩
        case measure => simp [intOf]; omega
      · go_wp2_with fail
        go_ret
        exact ⟨ret_int (by rw [← HC.out, HD.out, ev]; rfl), hb0⟩
    · go_wp2_with fail
      go_ret
      exact ⟨ret_int (by rw [← HC.out, List.drop_eq_nil_of_le (by omega)]; rfl), hb0⟩
end Go.Proofs.YtlkoigdnakmdlaaDoor
