/- The document's own carried. -/
import Derived.Test.YtajkfopeomfacaaPart1
import Derived.BigRegion
import Derived.Deep.RegionLaw
namespace Go.Proofs.Ytajkfopeomfacaa
open Go.RowKit Go.Sort

/-- A row of numbers that may be read: at most 32 of them, each below 2^40. -/
def Reads (W : World) (v : Value) (l : List Nat) : Prop := l.length ≤ 32 ∧ (∀ x ∈ l, x < 1099511627776) ∧ ∃ M, Row W M v l
theorem hea_lt : ∀ (l : List Nat) (i o : Nat), (hea l i o).length ≤ l.length
  | _, 0, _ => by simp [hea]
  | [], i + 1, _ => by simp [hea]
  | x :: l, i + 1, o => by simp [hea, hea_lt l i]

set_option maxRecDepth 100000 in
set_option maxHeartbeats 2000000 in
theorem rcarried_any (l : List Nat) (v : Value) (w : World) (hr : Reads w v l) : Calls Try.prog 28 #[v] w fun e w' => (∃ v', e = .returned v' ∧ Row w' w.heap.size v' (car l 0)) ∧ Below w.heap.size w w' := by
  obtain ⟨h32, hsm, M, hrow⟩ := hr
  obtain ⟨ao, cap, hv⟩ := hrow.form
  subst hv
  have HR := Hid.mk' hrow
  clear hrow
  obtain ⟨i0, hi, hz0, hz1, hz2⟩ := info_parts Try.infoU
  go_enter Try.func28, Try.ntmps28
  go_wp2_with fail
  have HO := Hid.mk' (row_new w)
  have HB := Hid.mk' (Below.one (Below.refl _ w) (.cells #[] 22))
  generalize w.alloc (.cells #[] 22) = W0 at *
  go_loopw [3, 4, 5] (fun t3 t4 t5 wr => ∃ (k : Nat) (vo : Value), k ≤ l.length ∧ t5 = .int .i64 k ∧ t3 = vo ∧ t4 = .int .u64 (ovr l k 0) ∧ Row wr w.heap.size vo (hea l k 0) ∧ Below w.heap.size w wr) (fun _ _ t5 _ => l.length - (intOf t5).toNat)
  case atStart => exact ⟨0, _, by omega, rfl, rfl, by cases l <;> rfl, by cases l <;> exact HO.out, HB.out⟩
  case round =>
    obtain ⟨k, vo, hk, rfl, rfl, rfl, a1, a2⟩ := hrel
    have HA := Hid.mk' (And.intro a1 a2)
    have ho := ovr_lt l hsm k 0 (by omega)
    by_cases hlt : k < l.length
    · have hli : (k : Int) < (l.length : Int) := by omega
      have hx := hsm l[k] (List.getElem_mem hlt)
      have hrow := HR.out.stay a2
      obtain ⟨g, cap', hv, hcap, c1, _⟩ := hrow.cell hlt
      injection hv with e1 _ e3
      subst e1 e3
      obtain ⟨va, vc, hvo⟩ := a1.form
      subst hvo
      have hov : wr.ownsRow w.heap.size 22 1 _ _ _ := a1
      have hsw := a2.size
      have hdl := hea_len l k 0 hk
      have hs1 := ovr_succ l k 0 hlt
      have hs2 := hea_succ l k 0 hlt
      have HS := Hid.mk' (And.intro hs1 hs2)
      clear a1 a2 hrow hs1 hs2
      generalize l[k] = x at *
      generalize hoo : ovr l k 0 = o at *
      have hand : bits .and .u64 ((x : Int) + (o : Int)) 65535 = (((x + o) % 65536 : Nat) : Int) := by
        have := and_16 (x + o) (by omega)
        rwa [Int.natCast_add] at this
      have hdiv : ((x : Int) + (o : Int)) / 65536 = (((x + o) / 65536 : Nat) : Int) := by omega
      clear hoo
      have hbn : x + o < 2199023255552 := by omega
      generalize hdd : (x + o) % 65536 = d at *
      generalize hqq : (x + o) / 65536 = q at *
      clear hdd hqq
      have hnew : ∀ j2 u, ([.int .u64 (d : Int)] : List Value)[j2]? = some u → (wr.alloc (.cells #[.int .u64 (d : Int)] 22)).cell? ((⟨wr.heap.size, 0, none⟩ : Addr).add j2) = some u := new_cell _ _ _
      go_wp2_with (at_builtin; refine wpList_append_own _ rfl _ _ 45 rfl w.heap.size 22 i0 (.int .u64 0) 1 8 Try.underlying45 hi hz0 hz1 hz2 rfl (by decide) _ _ _ rfl (hov.alloc _) ⟨wr.heap.size, 0, none⟩ 1 1 [.int .u64 (d : Int)] rfl rfl hnew ?c2 ?c3 ?c4 ?c5 ?_)
      case c2 => first | rfl | (intro u hu; simp at hu; subst hu; rfl)
      case c3 => unfold maxLen; omega
      case c4 => omega
      case c5 => first | omega | (simp; omega)
      intro v' w2 hown' hgrow _
      have HW2 := Hid.mk' (And.intro hown' hgrow)
      clear hown' hgrow hov hnew c1 hand
      go_wp2_with fail
      go_roundw
      case rel =>
        obtain ⟨a1, a2⟩ := HA.out
        obtain ⟨o1, o2⟩ := HW2.out
        obtain ⟨r1, r2⟩ := a1.push (by omega) hdl o1 o2 (by rw [hdl])
        refine ⟨k + 1, v', by omega, by go_num, rfl, ?_, ?_, a2.trans r2⟩
        · rw [HS.out.1]
        · rw [HS.out.2]; exact r1
      case measure => simp [intOf]; omega
    · have hke : k = l.length := by omega
      have HC : Hid (hea l k 0 ++ ctl (ovr l k 0) = car l 0) := by rw [hke]; exact (car_hea l 0).symm
      have hcl : (car l 0).length ≤ 35 := by
        have h1 := car_hea l 0
        have h2 := ctl_len (ovr l l.length 0) 3 (by rw [← hke]; omega)
        have h3 := hea_len l l.length 0 (Nat.le_refl _)
        rw [h1, List.length_append]
        omega
      have hli : ¬ (k : Int) < (l.length : Int) := by omega
      generalize ovr l k 0 = o at *
      generalize hea l k 0 = hd at *
      clear hke hlt a1 a2
      go_wp2_with fail
      go_loopw [3, 4] (fun t3 t4 wr => ∃ (o : Nat) (vo : Value) (hd : List Nat), t3 = vo ∧ t4 = .int .u64 o ∧ o < 1099511627776 ∧ hd ++ ctl o = car l 0 ∧ Row wr w.heap.size vo hd ∧ Below w.heap.size w wr) (fun _ t4 _ => (intOf t4).toNat)
      case atStart => exact ⟨o, _, hd, rfl, rfl, ho, HC.out, HA.out.1, HA.out.2⟩
      case round =>
        obtain ⟨o, vo, hd, rfl, rfl, ho, hc, a1, a2⟩ := hrel
        have HA := Hid.mk' (And.intro a1 (And.intro a2 hc))
        have hlen : hd.length ≤ 35 := by have := congrArg List.length hc; rw [List.length_append] at this; omega
        by_cases h0 : (0 : Int) < (o : Int)
        · obtain ⟨va, vc, hvo⟩ := a1.form
          subst hvo
          have hov : wr.ownsRow w.heap.size 22 1 _ _ _ := a1
          have hsw := a2.size
          have hand : bits .and .u64 (o : Int) 65535 = ((o % 65536 : Nat) : Int) := and_16 o (by omega)
          have hdiv : (o : Int) / 65536 = ((o / 65536 : Nat) : Int) := by omega
          have HP := Hid.mk' (ctl_pos (show 0 < o by omega))
          have hq2 : o / 65536 < o := by omega
          clear a1 a2 hc
          generalize o % 65536 = d at *
          generalize o / 65536 = q at *
          have hnew : ∀ j2 u, ([.int .u64 (d : Int)] : List Value)[j2]? = some u → (wr.alloc (.cells #[.int .u64 (d : Int)] 22)).cell? ((⟨wr.heap.size, 0, none⟩ : Addr).add j2) = some u := new_cell _ _ _
          go_wp2_with (at_builtin; refine wpList_append_own _ rfl _ _ 45 rfl w.heap.size 22 i0 (.int .u64 0) 1 8 Try.underlying45 hi hz0 hz1 hz2 rfl (by decide) _ _ _ rfl (hov.alloc _) ⟨wr.heap.size, 0, none⟩ 1 1 [.int .u64 (d : Int)] rfl rfl hnew ?c2 ?c3 ?c4 ?c5 ?_)
          case c2 => first | rfl | (intro u hu; simp at hu; subst hu; rfl)
          case c3 => unfold maxLen; omega
          case c4 => omega
          case c5 => first | omega | (simp; omega)
          intro v' w2 hown' hgrow _
          have HW2 := Hid.mk' (And.intro hown' hgrow)
          clear hown' hgrow hov hnew hand
          go_wp2_with fail
          go_roundw
          case rel =>
            obtain ⟨a1, a2, hc⟩ := HA.out
            obtain ⟨o1, o2⟩ := HW2.out
            obtain ⟨r1, r2⟩ := a1.push (by omega) rfl o1 o2 rfl
            refine ⟨q, v', hd ++ [d], rfl, rfl, by omega, ?_, r1, a2.trans r2⟩
            rw [← hc, HP.out]; simp
          case measure => simp [intOf]; omega
        · obtain rfl : o = 0 := by omega
          have HV : Hid (hd = car l 0) := by show _ = _; rw [← hc, ctl_zero, List.append_nil]
          go_wp2_with fail
          go_ret
          exact ⟨⟨_, rfl, by rw [← HV.out]; exact HA.out.1⟩, HA.out.2.1⟩
end Go.Proofs.Ytajkfopeomfacaa

/- The document's own number: that of digits. -/
namespace Go.Proofs.Ytajkfopeomfacaa
open Go.RowKit Go.Sort

/-- The number of the first k digits. -/
def nv (l : List Nat) (k : Nat) : Nat := dv (l.take k)
theorem nv_succ (l : List Nat) (k : Nat) (h : k < l.length) : nv l (k + 1) = nv l k + 65536 ^ k * l[k] := by
  unfold nv
  rw [List.take_add_one, List.getElem?_eq_getElem h, dv_append]
  simp [dv, Nat.min_eq_left (Nat.le_of_lt h)]
theorem nv_lt (l : List Nat) (hl : ∀ x ∈ l, x < 65536) (k : Nat) (hk : k ≤ l.length) : nv l k < 65536 ^ k := by
  have := dv_lt (l.take k) fun x hx => hl x (List.mem_of_mem_take hx)
  rwa [List.length_take, Nat.min_eq_left hk] at this
theorem nv_le (l : List Nat) (k : Nat) : ∀ j, k + j ≤ l.length → nv l k ≤ nv l (k + j)
  | 0, _ => Nat.le_refl _
  | j + 1, h => by have := nv_le l k j (by omega); rw [← Nat.add_assoc, nv_succ l (k + j) (by omega)]; omega
theorem nv_all (l : List Nat) : nv l l.length = dv l := by unfold nv; rw [List.take_length]
theorem pow_room (k : Nat) (hk : k < 4) : 65536 ^ k * 65536 ≤ 18446744073709551616 := by
  match k, hk with
  | 0, _ => decide
  | 1, _ => decide
  | 2, _ => decide
  | 3, _ => decide
theorem digit_room (x k : Nat) (hk : k < 4) (hx : x < 65536) : x * 65536 ^ k < 18446744073709551616 :=
  Nat.lt_of_lt_of_le (Nat.mul_lt_mul_of_pos_right hx (Nat.pow_pos (by decide))) (by rw [Nat.mul_comm]; exact pow_room k hk)
theorem or_low (a x k : Nat) (hk : k < 4) (ha : a < 65536 ^ k) (hx : x < 65536) : bits .or .u64 (a : Int) ((x * 65536 ^ k : Nat) : Int) = ((a + 65536 ^ k * x : Nat) : Int) := by
  have hpa : a < 18446744073709551616 := by
    have : 65536 ^ k ≤ 65536 ^ k * 65536 := Nat.le_mul_of_pos_right _ (by decide)
    have := pow_room k hk
    omega
  rw [bits_or_u64_nat _ _ hpa (digit_room x k hk hx)]
  congr 1
  have e := Nat.two_pow_add_eq_or_of_lt (i := 16 * k) (b := a) (by rw [pow_16]; exact ha) x
  rw [pow_16] at e
  rw [Nat.or_comm, Nat.mul_comm x, ← e, Nat.add_comm]
theorem shl_16 (x k : Nat) (hk : k < 4) (hx : x < 65536) : IntKind.u64.wrap ((x : Int) * 2 ^ (16 * k)) = ((x * 65536 ^ k : Nat) : Int) := by
  have e : (x : Int) * 2 ^ (16 * k) = ((x * 65536 ^ k : Nat) : Int) := by rw [← pow_16]; simp
  rw [e]
  exact wrapN _ (digit_room x k hk hx)
end Go.Proofs.Ytajkfopeomfacaa

/- The document's own number, walked. -/
namespace Go.Proofs.Ytajkfopeomfacaa
open Go.RowKit Go.Sort

theorem lo_step (N k x : Nat) (hk : k < 4) (hN : N < 65536 ^ k) (hx : x < 65536) : hiN N = 0 ∧ loN N = N ∧ hiN (N + 65536 ^ k * x) = 0 ∧ loN (N + 65536 ^ k * x) = N + 65536 ^ k * x := by
  have h1 := pow_room k hk
  have h2 : N + 65536 ^ k * x < 18446744073709551616 := by
    have : 65536 ^ k * x + 65536 ^ k ≤ 65536 ^ k * 65536 := by rw [← Nat.mul_succ]; exact Nat.mul_le_mul_left _ hx
    omega
  unfold hiN loN
  omega
theorem hi_step (N k x : Nat) (hN : N < 65536 ^ (4 + k)) : hiN N < 65536 ^ k ∧ hiN (N + 65536 ^ (4 + k) * x) = hiN N + 65536 ^ k * x ∧ loN (N + 65536 ^ (4 + k) * x) = loN N := by
  have e : (65536 : Nat) ^ (4 + k) = 18446744073709551616 * 65536 ^ k := by rw [Nat.pow_add]
  rw [e] at hN ⊢
  unfold hiN loN
  rw [Nat.mul_assoc]
  refine ⟨Nat.div_lt_of_lt_mul hN, ?_, ?_⟩
  · rw [Nat.add_mul_div_left _ _ (by decide)]
  · rw [Nat.add_mul_mod_self_left]
/-- What number answers. -/
def numN (l : List Nat) : Nat := if dv l < noRoom then dv l else 0
/-- What lies in memory meanwhile. -/
def NuI (w wr : World) (n : Nat) : Prop := wr.heap[w.heap.size]? = some (.cells #[.int .u64 0, .int .u64 0] 24) ∧ At wr (w.heap.size + 1) n ∧ Below w.heap.size w wr
theorem NuI.cells {w wr : World} {n : Nat} (h : NuI w wr n) : wr.cell? ⟨w.heap.size + 1, 0, none⟩ = some (.int .u64 (hiN n)) ∧ wr.cell? ⟨w.heap.size + 1, 1, none⟩ = some (.int .u64 (loN n)) ∧ wr.frozen? ⟨w.heap.size + 1, 0, none⟩ = false ∧ wr.frozen? ⟨w.heap.size + 1, 1, none⟩ = false ∧
    wr.cell? ⟨w.heap.size, 0, none⟩ = some (.int .u64 0) ∧ wr.cell? ⟨w.heap.size, 1, none⟩ = some (.int .u64 0) ∧ wr.frozen? ⟨w.heap.size, 0, none⟩ = false ∧ wr.frozen? ⟨w.heap.size, 1, none⟩ = false :=
  ⟨h.2.1.c0, h.2.1.c1, Lib.frozen_of_heap h.2.1 _, Lib.frozen_of_heap h.2.1 _, by rw [Lib.cell_of_heap h.1]; rfl, by rw [Lib.cell_of_heap h.1]; rfl, Lib.frozen_of_heap h.1 _, Lib.frozen_of_heap h.1 _⟩
theorem NuI.lo {w wr : World} {n m : Nat} (h : NuI w wr n) (he : hiN m = hiN n) : NuI w (wr.setCell ⟨w.heap.size + 1, 1, none⟩ (.int .u64 (loN m))) m := by
  refine ⟨?_, ?_, h.2.2.setCell (by simp) _⟩
  · rw [Below.heap_setCell _ _ _ _ (by simp)]; exact h.1
  · unfold At; rw [he]; exact set_list h.2.1 1 _
theorem NuI.hi {w wr : World} {n m : Nat} (h : NuI w wr n) (he : loN m = loN n) : NuI w (wr.setCell ⟨w.heap.size + 1, 0, none⟩ (.int .u64 (hiN m))) m := by
  refine ⟨?_, ?_, h.2.2.setCell (by simp) _⟩
  · rw [Below.heap_setCell _ _ _ _ (by simp)]; exact h.1
  · unfold At; rw [he]; exact set_list h.2.1 0 _
theorem NuI.drew {w wr : World} {n : Nat} (h : NuI w wr n) : NuI w wr.drew n := ⟨h.1, h.2.1, h.2.2.drew⟩

set_option maxRecDepth 100000 in
set_option maxHeartbeats 4000000 in
theorem rnumber_any (l : List Nat) (hl : ∀ x ∈ l, x < 65536) (v : Value) (w : World) (hr : Reads w v l) : Calls Try.prog 27 #[v] w fun e w' => e = .returned (.tuple #[wd (numN l), .bool (decide (dv l < noRoom))]) ∧ Below w.heap.size w w' := by
  obtain ⟨h32, _, M, hrow⟩ := hr
  obtain ⟨ao, cap, hv⟩ := hrow.form
  subst hv
  have HR := Hid.mk' hrow
  have HL := Hid.mk' hl
  clear hrow hl
  have e0 : nv l 0 = 0 := by unfold nv; simp [dv]
  have H0 : Hid (NuI w ((w.alloc (.cells #[.int .u64 0, .int .u64 0] 24)).alloc (.cells #[.int .u64 0, .int .u64 0] 24)) (nv l 0)) := by
    rw [e0]
    refine ⟨?_, ?_, Below.one (Below.one (Below.refl _ w) _) _⟩
    · rw [Below.heap_alloc _ _ _ (by simp)]; exact heap_alloc_new _ _
    · have h := heap_alloc_new (w.alloc (.cells #[.int .u64 0, .int .u64 0] 24)) (.cells #[.int .u64 0, .int .u64 0] 24)
      rw [World.size_alloc] at h
      exact h
  clear e0
  rw [wd_v]
  go_enter Try.func27, Try.ntmps27
  go_wp2_with fail
  generalize (w.alloc (.cells #[.int .u64 0, .int .u64 0] 24)).alloc (.cells #[.int .u64 0, .int .u64 0] 24) = W0 at *
  go_loopw [5] (fun t5 wr => ∃ k : Nat, k ≤ l.length ∧ t5 = .int .i64 k ∧ nv l k < noRoom ∧ NuI w wr (nv l k)) (fun t5 _ => l.length - (intOf t5).toNat)
  case atStart => exact ⟨0, by omega, rfl, by unfold nv noRoom; simp [dv], H0.out⟩
  case round =>
    obtain ⟨k, hk, rfl, hn, hI⟩ := hrel
    have HI := Hid.mk' hI
    have HN := Hid.mk' hn
    obtain ⟨c0, c1, c2, c3, c4, c5, c6, c7⟩ := hI.cells
    by_cases hlt : k < l.length
    · have hli : (k : Int) < (l.length : Int) := by omega
      have hx := HL.out l[k] (List.getElem_mem hlt)
      obtain ⟨g, cap', hv, hcap, d1, _⟩ := (HR.out.stay hI.2.2).cell hlt
      injection hv with e1 _ e3
      subst e1 e3
      have hs := nv_succ l k hlt
      have hb := nv_lt l HL.out k hk
      have HS := Hid.mk' hs
      clear hs hn hI
      have HX : Hid (∀ m, k + 1 + m = l.length → nv l (k + 1) ≤ dv l) := fun m hm => by rw [← nv_all, ← hm]; exact nv_le l (k + 1) m (by omega)
      generalize l[k] = x at *
      by_cases h8 : (8 : Int) ≤ (k : Int)
      · have h8' : decide ((8 : Int) ≤ (k : Int)) = true := decide_eq_true h8
        have h4' : decide ((k : Int) < 4) = false := decide_eq_false (by omega)
        have h8'' : decide ((k : Int) < 8) = false := decide_eq_false (by omega)
        by_cases hx0 : (0 : Int) < (x : Int)
        · have HZ : Hid (numN l = 0 ∧ decide (dv l < noRoom) = false) := by
            have h1 := HX.out (l.length - (k + 1)) (by omega)
            have h2 : (65536 : Nat) ^ 8 ≤ 65536 ^ k := Nat.pow_le_pow_right (by decide) (by omega)
            have h3 : 65536 ^ k ≤ 65536 ^ k * x := Nat.le_mul_of_pos_right _ (by omega)
            have h4 : (65536 : Nat) ^ 8 = noRoom := by kernel_rfl
            rw [HS.out] at h1
            exact ⟨if_neg (by omega), decide_eq_false (by omega)⟩
          clear h8 hb hx
          go_wp2_with fail
          refine bodyPost_ret (v := .tuple #[.agg #[.int .u64 0, .int .u64 0], .bool false]) (by simp [results, Try.results27, go_sem, *]) rfl ⟨by rw [HZ.out.1, HZ.out.2]; rfl, ?_⟩
          exact (HI.out.2.2.setCell (by simp) _).setCell (by simp) _
        · obtain rfl : x = 0 := by omega
          have HV : Hid (nv l (k + 1) = nv l k) := by show _ = _; rw [HS.out]; omega
          clear h8 hx0 hb hx
          go_wp2_with fail
          go_roundw
          case rel => exact ⟨k + 1, by omega, by go_num, by rw [HV.out]; exact HN.out, by rw [HV.out]; exact HI.out⟩
          case measure => simp [intOf]; omega
      · have h8' : decide ((8 : Int) ≤ (k : Int)) = false := decide_eq_false h8
        have hk8 : k < 8 := by omega
        have HK8 := Hid.mk' hk8
        clear h8 hk8
        by_cases h4 : (k : Int) < 4
        · have hk4 : k < 4 := by omega
          obtain ⟨l1, l2, l3, l4⟩ := lo_step (nv l k) k x hk4 hb hx
          have hsh := shl_16 x k hk4 hx
          have hor : bits .or .u64 (loN (nv l k) : Int) ((x * 65536 ^ k : Nat) : Int) = (loN (nv l (k + 1)) : Int) := by rw [HS.out, l2, l4]; exact or_low (nv l k) x k hk4 hb hx
          have HH := Hid.mk' (HI.out.lo (m := nv l (k + 1)) (by rw [HS.out, l1, l3]))
          have HNN : Hid (nv l (k + 1) < noRoom) := by
            have h1 := nv_lt l HL.out (k + 1) hlt
            have h2 : (65536 : Nat) ^ (k + 1) ≤ 65536 ^ 8 := Nat.pow_le_pow_right (by decide) (by omega)
            have h3 : (65536 : Nat) ^ 8 = noRoom := by kernel_rfl
            show _ < _
            omega
          clear l1 l2 l3 l4 hb hx hk4
          generalize x * 65536 ^ k = y at *
          generalize loN (nv l (k + 1)) = n1 at *
          go_wp2_with fail
          go_region
          all_goals go_wp2_with fail
          all_goals go_roundw
          case rel => exact ⟨k + 1, by omega, by go_num, HNN.out, by first | exact HH.out.drew | exact HH.out⟩
          case measure => simp [intOf]; omega
        · obtain ⟨j, rfl⟩ : ∃ j, k = 4 + j := ⟨k - 4, by omega⟩
          have hj4 : j < 4 := by have := HK8.out; omega
          obtain ⟨l1, l2, l3⟩ := hi_step (nv l (4 + j)) j x hb
          have hsh := shl_16 x j hj4 hx
          have hor : bits .or .u64 (hiN (nv l (4 + j)) : Int) ((x * 65536 ^ j : Nat) : Int) = (hiN (nv l (4 + j + 1)) : Int) := by rw [HS.out, l2]; exact or_low _ x j hj4 l1 hx
          have HH := Hid.mk' (HI.out.hi (m := nv l (4 + j + 1)) (by rw [HS.out, l3]))
          have HNN : Hid (nv l (4 + j + 1) < noRoom) := by
            have h1 := nv_lt l HL.out (4 + j + 1) hlt
            have h2 : (65536 : Nat) ^ (4 + j + 1) ≤ 65536 ^ 8 := Nat.pow_le_pow_right (by decide) (by omega)
            have h3 : (65536 : Nat) ^ 8 = noRoom := by kernel_rfl
            show _ < _
            omega
          have h4' : decide (((4 + j : Nat) : Int) < 4) = false := decide_eq_false h4
          have hj8 : ((4 + j : Nat) : Int) < 8 := by omega
          clear l1 l2 l3 hb hx h4
          generalize x * 65536 ^ j = y at *
          generalize hiN (nv l (4 + j + 1)) = n1 at *
          go_wp2_with fail
          go_region
          all_goals go_wp2_with fail
          all_goals go_roundw
          case rel => exact ⟨4 + j + 1, by omega, by go_num, HNN.out, by first | exact HH.out.drew | exact HH.out⟩
          case measure => simp [intOf]; omega
    · have hke : k = l.length := by omega
      have HZ : Hid (numN l = nv l k ∧ decide (dv l < noRoom) = true) := by
        rw [hke, nv_all] at hn
        rw [hke, nv_all]
        exact ⟨if_pos hn, decide_eq_true hn⟩
      have hli : ¬ (k : Int) < (l.length : Int) := by omega
      have hB := hI.2.2
      clear hke hI hn
      go_wp2_with fail
      refine bodyPost_ret (v := .tuple #[.agg #[.int .u64 (hiN (nv l k)), .int .u64 (loN (nv l k))], .bool true]) (by simp [results, Try.results27, go_sem, *]) rfl ⟨by rw [HZ.out.1, HZ.out.2], ?_⟩
      exact (hB.setCell (by simp) _).setCell (by simp) _
end Go.Proofs.Ytajkfopeomfacaa

/- The document's own sum. -/
namespace Go.Proofs.Ytajkfopeomfacaa
open Go.RowKit Go.Sort

theorem step_append_own {P : Program} (w : World) {ops : Array Oper} {o : Oper} {a : Act} {K : Act → World → Prop} {Q : Exit → Act → World → Prop} {E : Prop} (hgd : o.guard = none) (s x : Operand) (t : TypeId)
    (ho : o.op = .call { callee := .builtin .append, args := #[s, x], argTypes := #[t, t] })
    (base : Nat) (e : TypeId) (i : TypeInfo) (z : Value) (size bytes : Nat) (ht : P.underlying t = some (.slice e)) (hi : P.info? e = some i) (hz : i.zero = some z)
    (hsize : i.size = size) (hby : i.bytes = bytes) (hzs : z.cells.size = size) (hsz : 0 < size)
    (v : Value) (n : Nat) (xs : List Value) (hs : a.eval s = v) (hown : w.ownsRow base e size v n xs)
    (ad : Addr) (m c : Nat) (news : List Value) (hx : a.eval x = .slice (some ad) m c) (hl : news.length = m * size) (hnews : ∀ j u, news[j]? = some u → w.cell? (ad.add j) = some u) (h1 : ∀ u ∈ news, u.oneCell' = true)
    (h63 : n + m ≤ maxLen) (hbytes : (n + m) * bytes ≤ 140737488355328) (hbase : base ≤ w.heap.size)
    (h : ∀ v' w', w'.ownsRow base e size v' (n + m) (xs ++ news) → w.grownBy w' v.ownBlock → K (a.put o.dst v') w') :
    if Region.wanted o (yielded ops a.tmps) = true then Oper.wp P o a w K Q else E := by
  have hw : Region.wanted o (yielded ops a.tmps) = true := by simp [Region.wanted, hgd]
  rw [if_pos hw]
  exact wp_append_own w s x t ho base e i z size bytes ht hi hz hsize hby hzs hsz v n xs hs hown ad m c news hx hl hnews h1 h63 hbytes hbase fun v' w' h2 h3 _ => h v' w' h2 h3

theorem Row.pushD {wr w2 : World} {N k : Nat} {v v0 v' : Value} {l : List Nat} {x : Nat} (h : Row wr N v l) (hN : N ≤ wr.heap.size) (hk : l.length = k) (o1 : w2.ownsRow N 22 1 v' (k + 1) (l.map uV ++ [.int .u64 (x : Int)])) (o2 : ((wr.alloc (.cells #[.int .u64 (x : Int)] 22)).drew).grownBy w2 v0.ownBlock) (hv : v0.ownBlock = v.ownBlock) : Row w2 N v' (l ++ [x]) ∧ Below N wr w2 := by
  subst hk
  rw [hv] at o2
  refine ⟨?_, ?_⟩
  · unfold Row
    rw [List.length_append, List.map_append]
    exact o1
  · have hb : Below N wr ((wr.alloc (.cells #[.int .u64 (x : Int)] 22)).drew) := ((Below.refl _ wr).alloc hN _).drew
    exact hb.grown o2 (by show _ ≤ (wr.alloc _).heap.size; simp; omega) (fun k hk => (h.low k (by simp [ob, hk])).1)
/-- Digits of both, one by one. -/
def sums (m n k : Nat) : List Nat := (List.range k).map fun i => dg m i + dg n i
theorem sums_succ (m n k : Nat) : sums m n (k + 1) = sums m n k ++ [dg m k + dg n k] := by simp [sums, List.range_succ]
theorem sums_len (m n k : Nat) : (sums m n k).length = k := by simp [sums]
theorem dv_sums (m n : Nat) : ∀ k, dv (sums m n k) = dv (dgs m k) + dv (dgs n k)
  | 0 => by simp [sums, dgs, dv]
  | k + 1 => by
    rw [sums_succ, dgs_succ, dgs_succ, dv_append, dv_append, dv_append, dv_sums m n k, sums_len, dgs_length, dgs_length]
    simp [dv, Nat.mul_add]
    omega
theorem dv_sum8 {m n : Nat} (hm : m < noRoom) (hn : n < noRoom) : dv (sums m n 8) = m + n := by
  have e : (65536 : Nat) ^ 8 = noRoom := by kernel_rfl
  rw [dv_sums, dv_dgs, dv_dgs, e, Nat.mod_eq_of_lt hm, Nat.mod_eq_of_lt hn]
theorem dgs_at (n k i : Nat) (h : i < (dgs n k).length) : (dgs n k)[i] = dg n i := by simp [dgs]

set_option maxRecDepth 100000 in
set_option maxHeartbeats 4000000 in
theorem radd_any (m n : Nat) (hm : m < noRoom) (hn : n < noRoom) (w : World) : Calls Try.prog 10 #[wd m, wd n] w fun e w' => e = .returned (.tuple #[wd (sumN m n), .bool (decide (m + n < noRoom))]) ∧ Below w.heap.size w w' := by
  have hd1 := rdig_any m hm
  have hd2 := rdig_any n hn
  rw [wd_v] at hd1 hd2
  have HD1 := Hid.mk' hd1
  have HD2 := Hid.mk' hd2
  have HC : Hid (∀ v w, Reads w v (sums m n 8) → Calls Try.prog 28 #[v] w fun e w' => (∃ v', e = .returned v' ∧ Row w' w.heap.size v' (car (sums m n 8) 0)) ∧ Below w.heap.size w w') := fun v w h => rcarried_any _ v w h
  have HN : Hid (∀ v w, Reads w v (car (sums m n 8) 0) → Calls Try.prog 27 #[v] w fun e w' => e = .returned (.tuple #[.agg #[.int .u64 (hiN (sumN m n)), .int .u64 (loN (sumN m n))], .bool (decide (m + n < noRoom))]) ∧ Below w.heap.size w w') := fun v w h => by
    have := rnumber_any _ (car_lt _ 0) v w h
    rw [show numN (car (sums m n 8) 0) = sumN m n by unfold numN sumN; rw [car_dv, dv_sum8 hm hn, Nat.add_zero], car_dv, dv_sum8 hm hn, Nat.add_zero] at this
    exact this
  clear hd1 hd2
  obtain ⟨i0, hi, hz0, hz1, hz2⟩ := info_parts Try.infoU
  rw [wd_v, wd_v, wd_v]
  generalize sumN m n = S at *
  generalize decide (m + n < noRoom) = D at *
  go_enter Try.func10, Try.ntmps10
  go_upto_region 1 with fail
  obtain ⟨A1, A2, A3, B0⟩ := at_three w m n 0 _ rfl
  have e0 : ((w.alloc (.cells #[.int .u64 (hiN m), .int .u64 (loN m)] 24)).alloc (.cells #[.int .u64 (hiN n), .int .u64 (loN n)] 24)).alloc (.cells #[.int .u64 (hiN 0), .int .u64 (loN 0)] 24) = ((w.alloc (.cells #[.int .u64 (hiN m), .int .u64 (loN m)] 24)).alloc (.cells #[.int .u64 (hiN n), .int .u64 (loN n)] 24)).alloc (.cells #[.int .u64 0, .int .u64 0] 24) := rfl
  rw [e0] at A1 A2 A3 B0
  clear e0
  generalize ((w.alloc (.cells #[.int .u64 (hiN m), .int .u64 (loN m)] 24)).alloc (.cells #[.int .u64 (hiN n), .int .u64 (loN n)] 24)).alloc (.cells #[.int .u64 0, .int .u64 0] 24) = W0 at *
  have z10 := A1.c0; have z11 := A1.c1
  go_upto_region 2 with (go_at_call 26; refine (HD1.out _).mono ?_; rintro e w1 ⟨⟨v1, rfl, r1⟩, hb1⟩)
  clear z10 z11
  replace A2 := A2.stay hb1
  replace A3 := A3.stay hb1
  have B1 := Below.on B0 hb1
  have z20 := A2.c0; have z21 := A2.c1
  go_upto_region 3 with (go_at_call 26; refine (HD2.out _).mono ?_; rintro e w2 ⟨⟨v2, rfl, r2⟩, hb2⟩)
  clear z20 z21
  replace A3 := A3.stay hb2
  replace r1 := r1.stay hb2
  have B2 := Below.on B1 hb2
  have s3 := (Array.getElem?_eq_some_iff.1 A3).1
  have L1 : ∀ g ∈ ob v1, g < w2.heap.size := fun g hg => (r1.low g hg).2
  have L2 : ∀ g ∈ ob v2, g < w2.heap.size := fun g hg => (r2.low g hg).2
  clear hb1 hb2 B0 B1 A1 A2
  have HO := Hid.mk' (row_new w2)
  have HB := Hid.mk' (Below.one (Below.refl _ w2) (.cells #[] 22))
  have HW := Hid.mk' (And.intro r1 (And.intro r2 (And.intro A3 B2)))
  clear r1 r2 A3 B2 L1 L2
  go_upto_region 5 with fail
  generalize w2.alloc (.cells #[] 22) = W2 at *
  go_loopw [8, 9] (fun t8 t9 wr => ∃ (k : Nat) (vo : Value), k ≤ 8 ∧ t9 = .int .i64 k ∧ t8 = vo ∧ Row wr w2.heap.size vo (sums m n k) ∧ Below w2.heap.size w2 wr) (fun _ t9 _ => 8 - (intOf t9).toNat)
  case atStart => exact ⟨0, _, by omega, rfl, rfl, HO.out, HB.out⟩
  case round =>
    obtain ⟨k, vo, hk, rfl, rfl, a1, a2⟩ := hrel
    have HA := Hid.mk' (And.intro a1 a2)
    by_cases hlt : k < 8
    · have hli : (k : Int) < 8 := by omega
      obtain ⟨g1, cap1, hv1, hcap1, p1, _⟩ := (HW.out.1.stay a2).cell (j := k) (by rw [dgs_length]; exact hlt)
      obtain ⟨g2, cap2, hv2, hcap2, p2, _⟩ := (HW.out.2.1.stay a2).cell (j := k) (by rw [dgs_length]; exact hlt)
      rw [dgs_at] at p1 p2
      rw [dgs_length] at hv1 hv2 hcap1 hcap2
      subst hv1 hv2
      obtain ⟨va, vc, hvo⟩ := a1.form
      subst hvo
      have hov : wr.ownsRow w2.heap.size 22 1 _ _ _ := a1
      have hsw := a2.size
      have hdl := sums_len m n k
      have hx1 := dg_lt m k
      have hx2 := dg_lt n k
      have HS := Hid.mk' (sums_succ m n k)
      clear a1 a2
      rw [hdl] at hov
      generalize dg m k = x at *
      generalize dg n k = y at *
      obtain ⟨z, hz⟩ : ∃ z, z = x + y := ⟨_, rfl⟩
      have hwz : IntKind.u64.wrap ((x : Int) + (y : Int)) = (z : Int) := by rw [IntKind.wrap_u64]; omega
      rw [← hz] at HS
      clear hz
      have hnew : ∀ j2 u, ([.int .u64 (z : Int)] : List Value)[j2]? = some u → ((wr.alloc (.cells #[.int .u64 (z : Int)] 22)).drew).cell? ((⟨wr.heap.size, 0, none⟩ : Addr).add j2) = some u := new_cell _ _ _
      have hov2 : ((wr.alloc (.cells #[.int .u64 (z : Int)] 22)).drew).ownsRow w2.heap.size 22 1 (.slice va k vc) k ((sums m n k).map uV) := hov.alloc (.cells #[.int .u64 (z : Int)] 22)
      have hm1 : ∀ u ∈ ([.int .u64 (z : Int)] : List Value), u.oneCell' = true := fun u hu => by simp at hu; subst hu; rfl
      have hm2 : k + 1 ≤ maxLen := by unfold maxLen; omega
      have hm3 : (k + 1) * 8 ≤ 140737488355328 := by omega
      have hm4 : w2.heap.size ≤ ((wr.alloc (.cells #[.int .u64 (z : Int)] 22)).drew).heap.size := by show _ ≤ (wr.alloc _).heap.size; simp; omega
      go_wp2_with fail
      go_region_law (refine step_append_own _ (by rfl) _ _ 45 (by rfl) w2.heap.size 22 i0 (.int .u64 0) 1 8 Try.underlying45 hi hz0 hz1 hz2 rfl (by decide) _ _ _ (by rfl) hov2 ⟨wr.heap.size, 0, none⟩ 1 1 [.int .u64 (z : Int)] (by rfl) (by rfl) hnew hm1 hm2 hm3 hm4 ?_; intro v' w4 hown' hgrow)
      all_goals
        have HW2 := Hid.mk' (And.intro hown' hgrow)
        clear hown' hgrow hov hov2 hnew p1 p2 hm1 hm2 hm3 hm4 hwz
        go_wp2_with fail
        go_roundw
        case rel =>
          obtain ⟨a1, a2⟩ := HA.out
          obtain ⟨o1, o2⟩ := HW2.out
          obtain ⟨r1, r2⟩ := a1.pushD (by omega) hdl o1 o2 (by rw [hdl])
          refine ⟨k + 1, v', by omega, by go_num, rfl, ?_, a2.trans r2⟩
          rw [HS.out]; exact r1
        case measure => simp [intOf]; omega
    · have hke : k = 8 := by omega
      rw [hke] at a1
      obtain ⟨_, _, A3, B2⟩ := HW.out
      have hsum : ∀ x ∈ sums m n 8, x < 1099511627776 := fun x hx => by
        obtain ⟨i, _, rfl⟩ := List.mem_map.1 hx
        have := dg_lt m i
        have := dg_lt n i
        omega
      have HCv := Hid.mk' (HC.out _ wr ⟨by rw [sums_len]; omega, hsum, _, a1⟩)
      have A3w := A3.stay a2
      have BW := Below.on B2 a2
      have hcl : (car (sums m n 8) 0).length ≤ 32 := by
        have h1 := congrArg List.length (car_hea (sums m n 8) 0)
        rw [List.length_append, hea_len _ _ _ (Nat.le_refl _)] at h1
        have h2 := ctl_len (ovr (sums m n 8) (sums m n 8).length 0) 3 (by have := ovr_lt _ hsum (sums m n 8).length 0 (by omega); omega)
        have h3 := sums_len m n 8
        omega
      have hli : ¬ (k : Int) < 8 := by omega
      have HCL := Hid.mk' (And.intro hcl (fun x hx => Nat.lt_trans (car_lt (sums m n 8) 0 x hx) (by decide) : ∀ x ∈ car (sums m n 8) 0, x < 1099511627776))
      clear hke hlt a1 hsum hcl A3 B2
      generalize (k : Int) = kk at *
      go_wp2_with (first | (go_at_call 28; refine HCv.out.mono ?_; rintro e w5 ⟨⟨v5, rfl, r5⟩, hb5⟩) | (go_at_call 27; refine (HN.out _ _ ⟨HCL.out.1, HCL.out.2, _, r5⟩).mono ?_; rintro e w6 ⟨rfl, hb6⟩; have A6 := (A3w.stay hb5).stay hb6; have y0 := A6.c0; have y1 := A6.c1; have y2 := Lib.frozen_of_heap A6 0; have y3 := Lib.frozen_of_heap A6 1))
      refine bodyPost_ret (v := .tuple #[.agg #[.int .u64 (hiN S), .int .u64 (loN S)], .bool D]) (by simp [results, Try.results10, go_sem, *]) rfl ⟨rfl, ?_⟩
      exact ((Below.on (Below.on BW hb5) hb6).setCell (by simp; omega) _).setCell (by simp; omega) _
end Go.Proofs.Ytajkfopeomfacaa

/- The document's own comparison. -/
namespace Go.Proofs.Ytajkfopeomfacaa
open Go.RowKit Go.Sort

theorem top_step (n k : Nat) : n / 65536 ^ k = n / 65536 ^ (k + 1) * 65536 + dg n k := by
  unfold dg
  rw [Nat.pow_succ, ← Nat.div_div_eq_div_mul]
  omega
theorem div_lt_of {m n k : Nat} (h : m / 65536 ^ k < n / 65536 ^ k) : m < n := by
  by_cases h' : m < n
  · exact h'
  · have := Nat.div_le_div_right (c := 65536 ^ k) (show n ≤ m by omega)
    omega
set_option maxRecDepth 100000 in
set_option maxHeartbeats 4000000 in
theorem rcompare_any (m n : Nat) (hm : m < noRoom) (hn : n < noRoom) (w : World) : Calls Try.prog 13 #[wd m, wd n] w fun e w' => e = .returned (.int .i64 (cmpN m n)) ∧ Below w.heap.size w w' := by
  have hd1 := rdig_any m hm
  have hd2 := rdig_any n hn
  rw [wd_v] at hd1 hd2
  have HD1 := Hid.mk' hd1
  have HD2 := Hid.mk' hd2
  have HST : Hid (m / 65536 ^ 8 = n / 65536 ^ 8) := by
    have e : (65536 : Nat) ^ 8 = noRoom := by kernel_rfl
    show _ = _
    rw [e, Nat.div_eq_of_lt hm, Nat.div_eq_of_lt hn]
  clear hd1 hd2
  rw [wd_v, wd_v]
  go_enter Try.func13, Try.ntmps13
  go_upto_region 1 with fail
  obtain ⟨A1, A2, B0⟩ := at_two w m n _ rfl
  generalize (w.alloc (.cells #[.int .u64 (hiN m), .int .u64 (loN m)] 24)).alloc (.cells #[.int .u64 (hiN n), .int .u64 (loN n)] 24) = W0 at *
  have z10 := A1.c0; have z11 := A1.c1
  go_upto_region 2 with (go_at_call 26; refine (HD1.out _).mono ?_; rintro e w1 ⟨⟨v1, rfl, r1⟩, hb1⟩)
  clear z10 z11
  replace A2 := A2.stay hb1
  have B1 := Below.on B0 hb1
  have z20 := A2.c0; have z21 := A2.c1
  go_upto_region 3 with (go_at_call 26; refine (HD2.out _).mono ?_; rintro e w2 ⟨⟨v2, rfl, r2⟩, hb2⟩)
  clear z20 z21
  replace r1 := r1.stay hb2
  have HW := Hid.mk' (And.intro r1 (And.intro r2 (Below.on B1 hb2)))
  clear r1 r2 hb1 hb2 B0 B1 A1 A2
  go_wp2_with fail
  go_loopw [7] (fun t7 wr => ∃ k : Nat, k ≤ 8 ∧ t7 = .int .i64 ((k : Int) - 1) ∧ m / 65536 ^ k = n / 65536 ^ k ∧ Below w2.heap.size w2 wr) (fun t7 _ => ((intOf t7) + 1).toNat)
  case atStart => exact ⟨8, by omega, rfl, HST.out, Below.refl _ _⟩
  case round =>
    obtain ⟨k, hk, rfl, he, a2⟩ := hrel
    have BW := Below.on HW.out.2.2 a2
    cases k with
    | zero =>
      have HC : Hid (cmpN m n = 0) := by
        have : m = n := by simpa using he
        exact if_pos this
      clear he
      go_wp2_with fail
      go_ret
      exact ⟨retI HC.out.symm, BW⟩
    | succ j =>
      have hj : j < 8 := by omega
      obtain ⟨g1, cap1, hv1, hcap1, p1, _⟩ := (HW.out.1.stay a2).cell (j := j) (by rw [dgs_length]; exact hj)
      obtain ⟨g2, cap2, hv2, hcap2, p2, _⟩ := (HW.out.2.1.stay a2).cell (j := j) (by rw [dgs_length]; exact hj)
      rw [dgs_at] at p1 p2
      rw [dgs_length] at hv1 hv2 hcap1 hcap2
      subst hv1 hv2
      have t1 := top_step m j
      have t2 := top_step n j
      have ej : ((j + 1 : Nat) : Int) - 1 = (j : Int) := by omega
      rw [ej]
      have HA := Hid.mk' a2
      clear a2 ej
      by_cases hlt : dg m j < dg n j
      · have HC : Hid (cmpN m n = -1) := by
          have : m < n := div_lt_of (k := j) (by omega)
          show (if _ then _ else _) = _
          rw [if_neg (by omega), if_pos this]
        clear t1 t2 he
        generalize dg m j = x at *
        generalize dg n j = y at *
        go_wp2_with fail
        go_region
        all_goals go_wp2_with fail
        all_goals go_ret
        all_goals exact ⟨retI HC.out.symm, by first | exact BW.drew | exact BW⟩
      · by_cases hgt : dg n j < dg m j
        · have HC : Hid (cmpN m n = 1) := by
            have : n < m := div_lt_of (k := j) (by omega)
            show (if _ then _ else _) = _
            rw [if_neg (by omega), if_neg (by omega)]
          clear t1 t2 he
          generalize dg m j = x at *
          generalize dg n j = y at *
          go_wp2_with fail
          go_region
          all_goals go_wp2_with fail
          all_goals go_region
          all_goals go_wp2_with fail
          all_goals go_ret
          all_goals exact ⟨retI HC.out.symm, by first | exact BW.drew.drew | exact BW.drew | exact BW⟩
        · have HV : Hid (m / 65536 ^ j = n / 65536 ^ j) := by show _ = _; omega
          clear t1 t2 he
          generalize dg m j = x at *
          generalize dg n j = y at *
          go_wp2_with fail
          go_region
          all_goals go_wp2_with fail
          all_goals go_region
          all_goals go_wp2_with fail
          all_goals go_roundw
          case rel => exact ⟨j, by omega, by go_num, HV.out, by first | exact HA.out.drew.drew | exact HA.out.drew | exact HA.out⟩
          case measure => simp [intOf]
end Go.Proofs.Ytajkfopeomfacaa

/- Sums, and which of two is less. -/
namespace Go.Proofs.Ytajkfopeomfacaa
open Go.RowKit Go.Sort

theorem of_low (n : Nat) (hn : n < 18446744073709551616) (w : World) : Calls Try.prog 14 #[.int .u64 n] w fun e w' => e = .returned (.agg #[.int .u64 0, .int .u64 n]) ∧ Below w.heap.size w w' := by
  have h := of_any n hn w
  have e := wd_of (h := 0) hn
  simp only [Nat.zero_mul, Nat.zero_add] at e
  rw [← e] at h
  exact h
theorem hi_lt {a : Nat} (h : a < noRoom) : hiN a < 18446744073709551616 := (halves h).1
set_option maxRecDepth 100000 in
set_option maxHeartbeats 2000000 in
theorem adds_any (a b : Nat) (ha : a < noRoom) (hb : b < noRoom) (w : World) : Calls Try.prog 3 #[wd a, wd b] w fun e w' => e = .returned (.bool true) ∧ Below w.heap.size w w' := by
  have HF := Hid.mk' fixed_any
  have HA1 := Hid.mk' (addV a b ha hb)
  have h2 := radd_any a b ha hb
  rw [wd_v, wd_v, wd_v] at h2
  have HA2 := Hid.mk' h2
  have HC1 := Hid.mk' (compareV a b ha hb)
  have h3 := rcompare_any a b ha hb
  rw [wd_v, wd_v] at h3
  have HC2 := Hid.mk' h3
  have HO := Hid.mk' (of_low (hiN a) (hi_lt ha))
  clear h2 h3
  have g1 := eqGuard_w
  have q1 := fun w => eqV (sumN a b) (sumN a b) w
  have q2 := fun w => equalIn_w 0 (hiN a) 0 (hiN a) w
  simp only [decide_true, beq_self_eq_true, Bool.and_self] at q1 q2
  rw [wd_v, wd_v]
  generalize decide (a + b < noRoom) = D at *
  generalize cmpN a b = c at *
  go_enter Try.func3, Try.ntmps3
  go_upto_region 1 with fail
  obtain ⟨A1, A2, B0⟩ := at_two w a b _ rfl
  generalize (w.alloc (.cells #[.int .u64 (hiN a), .int .u64 (loN a)] 24)).alloc (.cells #[.int .u64 (hiN b), .int .u64 (loN b)] 24) = W0 at *
  have z10 := A1.c0; have z11 := A1.c1; have z20 := A2.c0; have z21 := A2.c1
  go_upto_region 2 with (go_at_call 9; refine (HA1.out _).mono ?_; rintro e w1 ⟨rfl, hb1⟩)
  clear z10 z11 z20 z21
  replace A1 := A1.on (.cells #[.int .u64 (hiN (sumN a b)), .int .u64 (loN (sumN a b))] 24) hb1
  replace A2 := A2.on (.cells #[.int .u64 (hiN (sumN a b)), .int .u64 (loN (sumN a b))] 24) hb1
  have A3 := At.new w1 (sumN a b)
  have B1 := Below.one (Below.on B0 hb1) (.cells #[.int .u64 (hiN (sumN a b)), .int .u64 (loN (sumN a b))] 24)
  clear hb1 B0
  generalize w1.alloc (.cells #[.int .u64 (hiN (sumN a b)), .int .u64 (loN (sumN a b))] 24) = W1 at *
  generalize w1.heap.size = g3 at *
  have z10 := A1.c0; have z11 := A1.c1; have z20 := A2.c0; have z21 := A2.c1; have z30 := A3.c0; have z31 := A3.c1
  go_upto_region 3 with (go_at_call 10; refine (HA2.out _).mono ?_; rintro e w2 ⟨rfl, hb2⟩)
  clear z10 z11 z20 z21 z30 z31
  replace A1 := A1.on (.cells #[.int .u64 (hiN (sumN a b)), .int .u64 (loN (sumN a b))] 24) hb2
  replace A2 := A2.on (.cells #[.int .u64 (hiN (sumN a b)), .int .u64 (loN (sumN a b))] 24) hb2
  replace A3 := A3.on (.cells #[.int .u64 (hiN (sumN a b)), .int .u64 (loN (sumN a b))] 24) hb2
  have A4 := At.new w2 (sumN a b)
  have B2 := Below.one (Below.on B1 hb2) (.cells #[.int .u64 (hiN (sumN a b)), .int .u64 (loN (sumN a b))] 24)
  clear hb2 B1
  generalize w2.alloc (.cells #[.int .u64 (hiN (sumN a b)), .int .u64 (loN (sumN a b))] 24) = W2 at *
  generalize w2.heap.size = g4 at *
  have y10 := A1.r0; have y11 := A1.r1; have y20 := A2.r0; have y21 := A2.r1; have y30 := A3.r0; have y31 := A3.r1; have y40 := A4.r0; have y41 := A4.r1
  have HS : Hid (∀ d os, Below w.heap.size w (grow (redrawn W2 d) os)) := fun d os => Below.on B2 (below_regrown _ d os)
  clear B2 A1 A2 A3 A4
  have hcc : (c == c) = true := beq_self_eq_true c
  cases D
  all_goals
    refine wp_region_quiet_below (by kernel_rfl) (by kernel_rfl) ?_
    repeat (go_big_quiet_step (first | (go_at_call 11; with_reducible exact Calls.regrown_of (HF.out _)) | (go_at_call 12; with_reducible exact Calls.regrown_of (HC1.out _)) | (go_at_call 13; with_reducible exact Calls.regrown_of (HC2.out _)) | (go_at_call 14; with_reducible exact Calls.regrown_of (HO.out _))))
    refine wpQuiet_nil ?_
    intro _ hw'
    obtain ⟨⟨dq, osq⟩, hw''⟩ := hw'
    subst hw''
    have B3 := HS.out dq osq
    clear y10 y11 y20 y21 y30 y31 y40 y41
    go_wp2_with fail
    go_ret
    exact ⟨rfl, B3⟩
end Go.Proofs.Ytajkfopeomfacaa
