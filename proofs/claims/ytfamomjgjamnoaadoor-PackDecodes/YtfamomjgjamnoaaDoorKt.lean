/- pack's reader: numbers. -/
import Derived.Test.YtfamomjgjamnoaaDoorKs
namespace Go.Proofs.YtfamomjgjamnoaaDoor
open Go.RowKit Go.Sort

theorem leN_app : ∀ (l : Bt) (b : UInt8), leN (l ++ [b]) = leN l + 256 ^ l.length * b.toNat
  | [], b => by simp [leN]
  | c :: l, b => by
    rw [List.cons_append, leN, leN_app l b, leN, List.length_cons, Nat.pow_succ, Nat.mul_add, Nat.mul_comm (256 ^ l.length) 256, Nat.mul_assoc]
    omega
theorem leN_more {l : Bt} {j : Nat} (h : j < l.length) : leN (l.take (j + 1)) = leN (l.take j) + 256 ^ j * l[j].toNat := by
  rw [List.take_add_one, List.getElem?_eq_getElem h]
  show leN (l.take j ++ [l[j]]) = _
  rw [leN_app, List.length_take, Nat.min_eq_left (by omega)]
theorem or_more {n b j : Nat} (hj : j < 8) (hn : n < 256 ^ j) (hb : b < 256) : bits .or .u64 (n : Int) ((b : Int) * 2 ^ (8 * j)) = ((n + 256 ^ j * b : Nat) : Int) := by
  have h1 : (256 : Nat) ^ j = 2 ^ (8 * j) := by rw [Nat.pow_mul]
  have h2 : (256 : Nat) ^ j ≤ 256 ^ 7 := Nat.pow_le_pow_right (by decide) (by omega)
  have h3 : 256 ^ j * b < 18446744073709551616 := by
    have : 256 ^ j * b ≤ 256 ^ 7 * 255 := Nat.mul_le_mul h2 (by omega)
    omega
  have hc : ((b : Int) * 2 ^ (8 * j)) = ((256 ^ j * b : Nat) : Int) := by
    rw [h1, Int.natCast_mul, Int.natCast_pow, Int.mul_comm]; rfl
  have h4 : n < 18446744073709551616 := by
    have : (256 : Nat) ^ 7 < 18446744073709551616 := by decide
    omega
  rw [hc, bits_or_u64_nat n (256 ^ j * b) h4 h3]
  congr 1
  rw [h1] at hn ⊢
  rw [Nat.or_comm, ← Nat.two_pow_add_eq_or_of_lt hn, Nat.add_comm]
theorem rowB_at {W : World} {a : Option Addr} {l : Bt} (h : RowIn W a 1 (l.map bC)) {i : Nat} (hi : i < l.length) : ∃ b o, a = some ⟨b, o, none⟩ ∧ W.cell? ⟨b, o + i, none⟩ = some (.int .u8 (l[i].toNat : Int)) := by
  obtain ⟨b, o, e, hc⟩ := h i (bC l[i]) (by simp [hi])
  exact ⟨b, o, e, by simpa [u8V] using hc 0 _ rfl⟩
set_option maxRecDepth 100000 in
set_option maxHeartbeats 4000000 in
theorem num_any (T : TypeId) (R : Nat) (bs : Bt) (va : Option Addr) (vc : Nat) (s : Sr) (w : World) (k : Nat) (h : RdAt T R bs va vc s w) (hk : k ≤ 8) :
    Calls Tryd.prog 55 #[.pointer (some ⟨R, 0, none⟩), .int .i64 (k : Int)] w (RdP T R bs va vc s (numR k) (fun n => .int .u64 (n : Int)) (fun n _ => n < 256 ^ k) w) := by
  have HT := Hid.mk' (take_any T R bs va vc s w k h (by omega))
  clear h
  go_enter Tryd.func55, Tryd.ntmps55
  go_wp2_with fail
  refine HT.out.mono ?_
  rintro en w1 ⟨v, l, s', rfl, ⟨av, cv, rfl, hrow⟩, hrn, hll, hr1, ho1⟩
  have HX := Hid.mk' (And.intro hrn (And.intro hr1 ho1))
  have HRW := Hid.mk' hrow
  clear HT hrn hr1 ho1 hrow
  go_wp2_with fail
  go_loopw [5, 12] (fun t5 t12 wr => ∃ (j : Nat), j ≤ l.length ∧ t12 = .int .i64 j ∧ t5 = .int .u64 ((leN (l.take j) : Nat) : Int) ∧ wr = w1) (fun _ t12 _ => l.length - (intOf t12).toNat)
  case atStart => exact ⟨0, Nat.zero_le _, rfl, rfl, rfl⟩
  case round =>
    obtain ⟨j, hj, rfl, rfl, rfl⟩ := hrel
    by_cases hlt : j < l.length
    · have hli : (j : Int) < (l.length : Int) := by omega
      obtain ⟨b, o, rfl, c0⟩ := rowB_at HRW.out hlt
      have HM := Hid.mk' (leN_more hlt)
      have hb : l[j].toNat < 256 := l[j].toNat_lt
      have hn : leN (l.take j) < 256 ^ j := by
        have := leN_lt (l.take j)
        rwa [List.length_take, Nat.min_eq_left (by omega)] at this
      have hor := or_more (by omega : j < 8) hn hb
      rw [← HM.out] at hor
      have hbn : l[j].toNat * 2 ^ (8 * j) < 18446744073709551616 := by
        have h2 : 2 ^ (8 * j) ≤ 2 ^ 56 := Nat.pow_le_pow_right (by decide) (by omega)
        have : l[j].toNat * 2 ^ (8 * j) ≤ 255 * 2 ^ 56 := Nat.mul_le_mul (by omega) h2
        omega
      have hm : (8 * (j : Int)).toNat = 8 * j := by omega
      have hw : ((l[j].toNat : Int) * 2 ^ (8 * j)) % 18446744073709551616 = (l[j].toNat : Int) * 2 ^ (8 * j) := by
        have : ((l[j].toNat : Int) * 2 ^ (8 * j)) = ((l[j].toNat * 2 ^ (8 * j) : Nat) : Int) := by simp
        rw [this]; omega
      generalize l[j].toNat = bv at *
      generalize leN (l.take j) = nv at *
      have hww : IntKind.u64.wrap (IntKind.u64.wrap (bv : Int) * 2 ^ (8 * j)) = (bv : Int) * 2 ^ (8 * j) := by
        rw [IntKind.wrap_u64 (bv : Int), Int.emod_eq_of_lt (by omega) (by omega), IntKind.wrap_u64, hw]
      have HOR : Hid (bits .or .u64 (nv : Int) (IntKind.u64.wrap (IntKind.u64.wrap (bv : Int) * 2 ^ (8 * j))) = ((leN (l.take (j + 1)) : Nat) : Int)) := (by rw [hww]; exact hor : _ = _)
      have hj8 : 8 * (j : Int) ≤ 64 := by omega
      have hj0 : 0 ≤ 8 * (j : Int) := by omega
      clear hbn hn hb hww hor hw
      go_wp2_with fail
      exact ⟨⟨j + 1, by omega, by go_num, by rw [HOR.out], trivial⟩, by simp [intOf]; omega⟩
    · have hje : j = l.length := by omega
      subst hje
      rw [List.take_length] at *
      have hb : leN l < 256 ^ k := Nat.lt_of_lt_of_le (leN_lt l) (Nat.pow_le_pow_right (by decide) hll)
      generalize hN : leN l = n at *
      have HN := Hid.mk' hN
      clear hN
      go_wp2_with fail
      go_ret
      obtain ⟨h1, h2, h3⟩ := HX.out
      exact ⟨n, s', rfl, HN.out ▸ h1.map, h2, h3, hb⟩
set_option maxRecDepth 100000 in
set_option maxHeartbeats 2000000 in
theorem rdByte_any (T : TypeId) (R : Nat) (bs : Bt) (va : Option Addr) (vc : Nat) (s : Sr) (w : World) (h : RdAt T R bs va vc s w) :
    Calls Tryd.prog 53 #[.pointer (some ⟨R, 0, none⟩)] w (RdP T R bs va vc s w1R (fun n => .int .i64 n) (fun n _ => 0 ≤ n ∧ n ≤ 255) w) := by
  have HC := Hid.mk' (num_any T R bs va vc s w 1 h (by decide))
  clear h
  go_enter Tryd.func53, Tryd.ntmps53
  go_wp2_with fail
  refine HC.out.mono ?_
  rintro e w1 ⟨n, s', rfl, h1, h2, h3, h4⟩
  have hw : IntKind.i64.wrap (n : Int) = (n : Int) := by rw [IntKind.wrap_i64]; omega
  have hw2 : wrap64 (n : Int) = (n : Int) := by unfold wrap64; omega
  have HX := Hid.mk' (And.intro h1 (And.intro h2 h3))
  clear h1 h2 h3 HC
  go_wp2_with fail
  go_ret
  exact ⟨(n : Int), s', rfl, HX.out.1.map, HX.out.2.1, HX.out.2.2, by omega, by omega⟩
set_option maxRecDepth 100000 in
set_option maxHeartbeats 2000000 in
theorem rdShort_any (T : TypeId) (R : Nat) (bs : Bt) (va : Option Addr) (vc : Nat) (s : Sr) (w : World) (h : RdAt T R bs va vc s w) :
    Calls Tryd.prog 59 #[.pointer (some ⟨R, 0, none⟩)] w (RdP T R bs va vc s w2R (fun n => .int .i64 n) (fun n _ => 0 ≤ n ∧ n ≤ 65535) w) := by
  have HC := Hid.mk' (num_any T R bs va vc s w 2 h (by decide))
  clear h
  go_enter Tryd.func59, Tryd.ntmps59
  go_wp2_with fail
  refine HC.out.mono ?_
  rintro e w1 ⟨n, s', rfl, h1, h2, h3, h4⟩
  have hw : IntKind.i64.wrap (n : Int) = (n : Int) := by rw [IntKind.wrap_i64]; omega
  have hw2 : wrap64 (n : Int) = (n : Int) := by unfold wrap64; omega
  have HX := Hid.mk' (And.intro h1 (And.intro h2 h3))
  clear h1 h2 h3 HC
  go_wp2_with fail
  go_ret
  exact ⟨(n : Int), s', rfl, HX.out.1.map, HX.out.2.1, HX.out.2.2, by omega, by omega⟩
set_option maxRecDepth 100000 in
set_option maxHeartbeats 2000000 in
theorem rdWord_any (T : TypeId) (R : Nat) (bs : Bt) (va : Option Addr) (vc : Nat) (s : Sr) (w : World) (h : RdAt T R bs va vc s w) :
    Calls Tryd.prog 38 #[.pointer (some ⟨R, 0, none⟩)] w (RdP T R bs va vc s w8R (fun n => .int .i64 n) (fun n _ => I64 n) w) := by
  have HC := Hid.mk' (num_any T R bs va vc s w 8 h (by decide))
  clear h
  go_enter Tryd.func38, Tryd.ntmps38
  go_wp2_with fail
  refine HC.out.mono ?_
  rintro e w1 ⟨n, s', rfl, h1, h2, h3, h4⟩
  have hw : IntKind.i64.wrap (n : Int) = sgn n := by rw [IntKind.wrap_i64]; unfold sgn; split <;> omega
  have hw2 : wrap64 (n : Int) = sgn n := by unfold wrap64 sgn; split <;> omega
  have hI : I64 (sgn n) := by unfold I64 sgn; split <;> omega
  have HX := Hid.mk' (And.intro h1 (And.intro h2 (And.intro h3 hI)))
  clear h1 h2 h3 HC hI
  generalize hz : sgn n = z at *
  have HZ := Hid.mk' hz
  clear hz
  go_wp2_with fail
  go_ret
  exact ⟨z, s', rfl, HZ.out ▸ HX.out.1.map, HX.out.2.1, HX.out.2.2.1, HX.out.2.2.2⟩
theorem Rn.cnt {k most : Nat} {e : Int} {bs : Bt} {s s' : Sr} {n : Nat} (h : Rn (numR k) bs s n s') (hn : n ≤ most) : Rn (cntR k most e) bs s n s' := by
  cases s with
  | bad e p => exact h
  | «at» a =>
    simp only [Rn, cntR] at h ⊢
    cases hr : numR k bs a with
    | error ep => rw [hr] at h; exact h
    | ok xa =>
      rw [hr] at h
      simp only at h ⊢
      obtain ⟨rfl, rfl⟩ := h
      rw [if_neg (by omega)]
      exact ⟨rfl, rfl⟩
/-- Too many. -/
theorem Rn.many {k most : Nat} {e : Int} {bs : Bt} {s s' : Sr} {n a : Nat} (h : Rn (numR k) bs s n s') (hn : most < n) (ha : ∀ a', s = .at a' → a = a') : Rn (cntR k most e) bs s 0 (failS s' e a) := by
  cases s with
  | bad e p => simp only [Rn] at h; subst h; rfl
  | «at» a' =>
    obtain rfl := ha _ rfl
    simp only [Rn, cntR] at h ⊢
    cases hr : numR k bs a with
    | error ep => rw [hr] at h; simp only at h ⊢; subst h; rfl
    | ok xa =>
      rw [hr] at h
      simp only at h ⊢
      obtain ⟨rfl, rfl⟩ := h
      rw [if_pos hn]
      rfl
set_option maxRecDepth 100000 in
set_option maxHeartbeats 2000000 in
theorem count_any (T : TypeId) (R : Nat) (bs : Bt) (va : Option Addr) (vc : Nat) (s : Sr) (w : World) (k most : Nat) (er : Int) (h : RdAt T R bs va vc s w) (hk : k ≤ 2) (he : er ≠ 0) :
    Calls Tryd.prog 37 #[.pointer (some ⟨R, 0, none⟩), .int .i64 (k : Int), .int .i64 (most : Int), .int .i64 er] w (RdP T R bs va vc s (cntR k most er) (fun n => .int .i64 (n : Int)) (fun n _ => n ≤ most) w) := by
  obtain ⟨a, e0, p0, hb, ha, hs⟩ := h.ex
  have c1 := cell_of_obj hb (j := 1) (v := .int .i64 (a : Int)) rfl
  have HC := Hid.mk' (num_any T R bs va vc s w k h (by omega))
  have HFA : Hid (∀ s' W, RdAt T R bs va vc s' W → Calls Tryd.prog 54 #[.pointer (some ⟨R, 0, none⟩), .int .i64 er, .int .i64 (a : Int)] W fun en w' => en = .returned (.tuple #[]) ∧ RdAt T R bs va vc (failS s' er (a : Int)) w' ∧ OnlyB R W w') := fun s' W h => fail_any T R bs va vc s' W er _ h he
  have HA : Hid (∀ a', s = .at a' → a = a') := fun a' e => by subst e; exact (ss_at hs).1
  clear h hb hs
  go_enter Tryd.func37, Tryd.ntmps37
  go_wp2_with fail
  refine HC.out.mono ?_
  rintro e w1 ⟨n, s', rfl, h1, h2, h3, h4⟩
  have hn8 : n < 65536 := Nat.lt_of_lt_of_le h4 (Nat.pow_le_pow_right (n := 256) (by decide) hk)
  have hw : IntKind.i64.wrap (n : Int) = (n : Int) := by rw [IntKind.wrap_i64]; omega
  have hw2 : wrap64 (n : Int) = (n : Int) := by unfold wrap64; omega
  have HX := Hid.mk' (And.intro h1 (And.intro h2 h3))
  clear h1 h2 h3 HC h4
  by_cases hlt : most < n
  · have hli : (most : Int) < (n : Int) := by omega
    go_wp2_with fail
    refine (HFA.out _ _ HX.out.2.1).mono ?_
    rintro en w2 ⟨rfl, h5, h6⟩
    go_wp2_with fail
    go_ret
    exact ⟨0, _, rfl, HX.out.1.many hlt HA.out, h5, HX.out.2.2.on h6, Nat.zero_le _⟩
  · have hli : ¬ (most : Int) < (n : Int) := by omega
    go_wp2_with fail
    go_ret
    exact ⟨n, s', rfl, HX.out.1.cnt (by omega), HX.out.2.1, HX.out.2.2, by omega⟩
end Go.Proofs.YtfamomjgjamnoaaDoor
