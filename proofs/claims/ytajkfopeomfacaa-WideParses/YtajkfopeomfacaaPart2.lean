/- The document's own carried. -/
import Derived.Test.YtajkfopeomfacaaPart1
import Derived.BigRegion
import Derived.Deep.RegionLaw
namespace Go.Proofs.Ytajkfopeomfacaa
open Go.RowKit Go.Sort

/-- A row of numbers that may be read: at most 32 of them, each below 2^40. -/
def Reads (W : World) (v : Value) (l : List Nat) : Prop := l.length ≤ 32 ∧ (∀ x ∈ l, x < 1099511627776) ∧ ∃ M, Row W M v l
theorem hea_lt : ∀ (l : List Nat) (i o : Nat), (hea l i o).length ≤ l.length
  | _, 0, _ => by simp [hea]
  | [], i + 1, _ => by simp [hea]
  | x :: l, i + 1, o => by simp [hea, hea_lt l i]

set_option maxRecDepth 100000 in
set_option maxHeartbeats 2000000 in
theorem rcarried_any (l : List Nat) (v : Value) (w : World) (hr : Reads w v l) : Calls Try.prog 28 #[v] w fun e w' => (∃ v', e = .returned v' ∧ Row w' w.heap.size v' (car l 0)) ∧ Below w.heap.size w w' := by
  obtain ⟨h32, hsm, M, hrow⟩ := hr
  obtain ⟨ao, cap, hv⟩ := hrow.form
  subst hv
  have HR := Hid.mk' hrow
  clear hrow
  obtain ⟨i0, hi, hz0, hz1, hz2⟩ := info_parts Try.infoU
  go_enter Try.func28, Try.ntmps28
  go_wp2_with fail
  have HO := Hid.mk' (row_new w)
  have HB := Hid.mk' (Below.one (Below.refl _ w) (.cells #[] 22))
  generalize w.alloc (.cells #[] 22) = W0 at *
  go_loopw [3, 4, 5] (fun t3 t4 t5 wr => ∃ (k : Nat) (vo : Value), k ≤ l.length ∧ t5 = .int .i64 k ∧ t3 = vo ∧ t4 = .int .u64 (ovr l k 0) ∧ Row wr w.heap.size vo (hea l k 0) ∧ Below w.heap.size w wr) (fun _ _ t5 _ => l.length - (intOf t5).toNat)
  case atStart => exact ⟨0, _, by omega, rfl, rfl, by cases l <;> rfl, by cases l <;> exact HO.out, HB.out⟩
  case round =>
    obtain ⟨k, vo, hk, rfl, rfl, rfl, a1, a2⟩ := hrel
    have HA := Hid.mk' (And.intro a1 a2)
    have ho := ovr_lt l hsm k 0 (by omega)
    by_cases hlt : k < l.length
    · have hli : (k : Int) < (l.length : Int) := by omega
      have hx := hsm l[k] (List.getElem_mem hlt)
      have hrow := HR.out.stay a2
      obtain ⟨g, cap', hv, hcap, c1, _⟩ := hrow.cell hlt
      injection hv with e1 _ e3
      subst e1 e3
      obtain ⟨va, vc, hvo⟩ := a1.form
      subst hvo
      have hov : wr.ownsRow w.heap.size 22 1 _ _ _ := a1
      have hsw := a2.size
      have hdl := hea_len l k 0 hk
      have hs1 := ovr_succ l k 0 hlt
      have hs2 := hea_succ l k 0 hlt
      have HS := Hid.mk' (And.intro hs1 hs2)
      clear a1 a2 hrow hs1 hs2
      generalize l[k] = x at *
      generalize hoo : ovr l k 0 = o at *
      have hand : bits .and .u64 ((x : Int) + (o : Int)) 65535 = (((x + o) % 65536 : Nat) : Int) := by
        have := and_16 (x + o) (by omega)
        rwa [Int.natCast_add] at this
      have hdiv : ((x : Int) + (o : Int)) / 65536 = (((x + o) / 65536 : Nat) : Int) := by omega
      clear hoo
      have hbn : x + o < 2199023255552 := by omega
      generalize hdd : (x + o) % 65536 = d at *
      generalize hqq : (x + o) / 65536 = q at *
      clear hdd hqq
      have hnew : ∀ j2 u, ([.int .u64 (d : Int)] : List Value)[j2]? = some u → (wr.alloc (.cells #[.int .u64 (d : Int)] 22)).cell? ((⟨wr.heap.size, 0, none⟩ : Addr).add j2) = some u := new_cell _ _ _
      go_wp2_with (at_builtin; refine wpList_append_own _ rfl _ _ 45 rfl w.heap.size 22 i0 (.int .u64 0) 1 8 Try.underlying45 hi hz0 hz1 hz2 rfl (by decide) _ _ _ rfl (hov.alloc _) ⟨wr.heap.size, 0, none⟩ 1 1 [.int .u64 (d : Int)] rfl rfl hnew ?c2 ?c3 ?c4 ?c5 ?_)
      case c2 => first | rfl | (intro u hu; simp at hu; subst hu; rfl)
      case c3 => unfold maxLen; omega
      case c4 => omega
      case c5 => first | omega | (simp; omega)
      intro v' w2 hown' hgrow _
      have HW2 := Hid.mk' (And.intro hown' hgrow)
      clear hown' hgrow hov hnew c1 hand
      go_wp2_with fail
      go_roundw
      case rel =>
        obtain ⟨a1, a2⟩ := HA.out
        obtain ⟨o1, o2⟩ := HW2.out
        obtain ⟨r1, r2⟩ := a1.push (by omega) hdl o1 o2 (by rw [hdl])
        refine ⟨k + 1, v', by omega, by go_num, rfl, ?_, ?_, a2.trans r2⟩
        · rw [HS.out.1]
        · rw [HS.out.2]; exact r1
      case measure => simp [intOf]; omega
    · have hke : k = l.length := by omega
      have HC : Hid (hea l k 0 ++ ctl (ovr l k 0) = car l 0) := by rw [hke]; exact (car_hea l 0).symm
      have hcl : (car l 0).length ≤ 35 := by
        have h1 := car_hea l 0
        have h2 := ctl_len (ovr l l.length 0) 3 (by rw [← hke]; omega)
        have h3 := hea_len l l.length 0 (Nat.le_refl _)
        rw [h1, List.length_append]
        omega
      have hli : ¬ (k : Int) < (l.length : Int) := by omega
      generalize ovr l k 0 = o at *
      generalize hea l k 0 = hd at *
      clear hke hlt a1 a2
      go_wp2_with fail
      go_loopw [3, 4] (fun t3 t4 wr => ∃ (o : Nat) (vo : Value) (hd : List Nat), t3 = vo ∧ t4 = .int .u64 o ∧ o < 1099511627776 ∧ hd ++ ctl o = car l 0 ∧ Row wr w.heap.size vo hd ∧ Below w.heap.size w wr) (fun _ t4 _ => (intOf t4).toNat)
      case atStart => exact ⟨o, _, hd, rfl, rfl, ho, HC.out, HA.out.1, HA.out.2⟩
      case round =>
        obtain ⟨o, vo, hd, rfl, rfl, ho, hc, a1, a2⟩ := hrel
        have HA := Hid.mk' (And.intro a1 (And.intro a2 hc))
        have hlen : hd.length ≤ 35 := by have := congrArg List.length hc; rw [List.length_append] at this; omega
        by_cases h0 : (0 : Int) < (o : Int)
        · obtain ⟨va, vc, hvo⟩ := a1.form
          subst hvo
          have hov : wr.ownsRow w.heap.size 22 1 _ _ _ := a1
          have hsw := a2.size
          have hand : bits .and .u64 (o : Int) 65535 = ((o % 65536 : Nat) : Int) := and_16 o (by omega)
          have hdiv : (o : Int) / 65536 = ((o / 65536 : Nat) : Int) := by omega
          have HP := Hid.mk' (ctl_pos (show 0 < o by omega))
          have hq2 : o / 65536 < o := by omega
          clear a1 a2 hc
          generalize o % 65536 = d at *
          generalize o / 65536 = q at *
          have hnew : ∀ j2 u, ([.int .u64 (d : Int)] : List Value)[j2]? = some u → (wr.alloc (.cells #[.int .u64 (d : Int)] 22)).cell? ((⟨wr.heap.size, 0, none⟩ : Addr).add j2) = some u := new_cell _ _ _
          go_wp2_with (at_builtin; refine wpList_append_own _ rfl _ _ 45 rfl w.heap.size 22 i0 (.int .u64 0) 1 8 Try.underlying45 hi hz0 hz1 hz2 rfl (by decide) _ _ _ rfl (hov.alloc _) ⟨wr.heap.size, 0, none⟩ 1 1 [.int .u64 (d : Int)] rfl rfl hnew ?c2 ?c3 ?c4 ?c5 ?_)
          case c2 => first | rfl | (intro u hu; simp at hu; subst hu; rfl)
          case c3 => unfold maxLen; omega
          case c4 => omega
          case c5 => first | omega | (simp; omega)
          intro v' w2 hown' hgrow _
          have HW2 := Hid.mk' (And.intro hown' hgrow)
          clear hown' hgrow hov hnew hand
          go_wp2_with fail
          go_roundw
          case rel =>
            obtain ⟨a1, a2, hc⟩ := HA.out
            obtain ⟨o1, o2⟩ := HW2.out
            obtain ⟨r1, r2⟩ := a1.push (by omega) rfl o1 o2 rfl
            refine ⟨q, v', hd ++ [d], rfl, rfl, by omega, ?_, r1, a2.trans r2⟩
            rw [← hc, HP.out]; simp
          case measure => simp [intOf]; omega
        · obtain rfl : o = 0 := by omega
          have HV : Hid (hd = car l 0) := by show _ = _; rw [← hc, ctl_zero, List.append_nil]
          go_wp2_with fail
          go_ret
          exact ⟨⟨_, rfl, by rw [← HV.out]; exact HA.out.1⟩, HA.out.2.1⟩
end Go.Proofs.Ytajkfopeomfacaa

/- The document's own number: that of digits. -/
namespace Go.Proofs.Ytajkfopeomfacaa
open Go.RowKit Go.Sort

/-- The number of the first k digits. -/
def nv (l : List Nat) (k : Nat) : Nat := dv (l.take k)
theorem nv_succ (l : List Nat) (k : Nat) (h : k < l.length) : nv l (k + 1) = nv l k + 65536 ^ k * l[k] := by
  unfold nv
  rw [List.take_add_one, List.getElem?_eq_getElem h, dv_append]
  simp [dv, Nat.min_eq_left (Nat.le_of_lt h)]
theorem nv_lt (l : List Nat) (hl : ∀ x ∈ l, x < 65536) (k : Nat) (hk : k ≤ l.length) : nv l k < 65536 ^ k := by
  have := dv_lt (l.take k) fun x hx => hl x (List.mem_of_mem_take hx)
  rwa [List.length_take, Nat.min_eq_left hk] at this
theorem nv_le (l : List Nat) (k : Nat) : ∀ j, k + j ≤ l.length → nv l k ≤ nv l (k + j)
  | 0, _ => Nat.le_refl _
  | j + 1, h => by have := nv_le l k j (by omega); rw [← Nat.add_assoc, nv_succ l (k + j) (by omega)]; omega
theorem nv_all (l : List Nat) : nv l l.length = dv l := by unfold nv; rw [List.take_length]
theorem pow_room (k : Nat) (hk : k < 4) : 65536 ^ k * 65536 ≤ 18446744073709551616 := by
  match k, hk with
  | 0, _ => decide
  | 1, _ => decide
  | 2, _ => decide
  | 3, _ => decide
theorem digit_room (x k : Nat) (hk : k < 4) (hx : x < 65536) : x * 65536 ^ k < 18446744073709551616 :=
  Nat.lt_of_lt_of_le (Nat.mul_lt_mul_of_pos_right hx (Nat.pow_pos (by decide))) (by rw [Nat.mul_comm]; exact pow_room k hk)
theorem or_low (a x k : Nat) (hk : k < 4) (ha : a < 65536 ^ k) (hx : x < 65536) : bits .or .u64 (a : Int) ((x * 65536 ^ k : Nat) : Int) = ((a + 65536 ^ k * x : Nat) : Int) := by
  have hpa : a < 18446744073709551616 := by
    have : 65536 ^ k ≤ 65536 ^ k * 65536 := Nat.le_mul_of_pos_right _ (by decide)
    have := pow_room k hk
    omega
  rw [bits_or_u64_nat _ _ hpa (digit_room x k hk hx)]
  congr 1
  have e := Nat.two_pow_add_eq_or_of_lt (i := 16 * k) (b := a) (by rw [pow_16]; exact ha) x
  rw [pow_16] at e
  rw [Nat.or_comm, Nat.mul_comm x, ← e, Nat.add_comm]
theorem shl_16 (x k : Nat) (hk : k < 4) (hx : x < 65536) : IntKind.u64.wrap ((x : Int) * 2 ^ (16 * k)) = ((x * 65536 ^ k : Nat) : Int) := by
  have e : (x : Int) * 2 ^ (16 * k) = ((x * 65536 ^ k : Nat) : Int) := by rw [← pow_16]; simp
  rw [e]
  exact wrapN _ (digit_room x k hk hx)
end Go.Proofs.Ytajkfopeomfacaa

/- The document's own number, walked. -/
namespace Go.Proofs.Ytajkfopeomfacaa
open Go.RowKit Go.Sort

theorem lo_step (N k x : Nat) (hk : k < 4) (hN : N < 65536 ^ k) (hx : x < 65536) : hiN N = 0 ∧ loN N = N ∧ hiN (N + 65536 ^ k * x) = 0 ∧ loN (N + 65536 ^ k * x) = N + 65536 ^ k * x := by
  have h1 := pow_room k hk
  have h2 : N + 65536 ^ k * x < 18446744073709551616 := by
    have : 65536 ^ k * x + 65536 ^ k ≤ 65536 ^ k * 65536 := by rw [← Nat.mul_succ]; exact Nat.mul_le_mul_left _ hx
    omega
  unfold hiN loN
  omega
theorem hi_step (N k x : Nat) (hN : N < 65536 ^ (4 + k)) : hiN N < 65536 ^ k ∧ hiN (N + 65536 ^ (4 + k) * x) = hiN N + 65536 ^ k * x ∧ loN (N + 65536 ^ (4 + k) * x) = loN N := by
  have e : (65536 : Nat) ^ (4 + k) = 18446744073709551616 * 65536 ^ k := by rw [Nat.pow_add]
  rw [e] at hN ⊢
  unfold hiN loN
  rw [Nat.mul_assoc]
  refine ⟨Nat.div_lt_of_lt_mul hN, ?_, ?_⟩
  · rw [Nat.add_mul_div_left _ _ (by decide)]
  · rw [Nat.add_mul_mod_self_left]
/-- What number answers. -/
def numN (l : List Nat) : Nat := if dv l < noRoom then dv l else 0
/-- What lies in memory meanwhile. -/
def NuI (w wr : World) (n : Nat) : Prop := wr.heap[w.heap.size]? = some (.cells #[.int .u64 0, .int .u64 0] 24) ∧ At wr (w.heap.size + 1) n ∧ Below w.heap.size w wr
theorem NuI.cells {w wr : World} {n : Nat} (h : NuI w wr n) : wr.cell? ⟨w.heap.size + 1, 0, none⟩ = some (.int .u64 (hiN n)) ∧ wr.cell? ⟨w.heap.size + 1, 1, none⟩ = some (.int .u64 (loN n)) ∧ wr.frozen? ⟨w.heap.size + 1, 0, none⟩ = false ∧ wr.frozen? ⟨w.heap.size + 1, 1, none⟩ = false ∧
    wr.cell? ⟨w.heap.size, 0, none⟩ = some (.int .u64 0) ∧ wr.cell? ⟨w.heap.size, 1, none⟩ = some (.int .u64 0) ∧ wr.frozen? ⟨w.heap.size, 0, none⟩ = false ∧ wr.frozen? ⟨w.heap.size, 1, none⟩ = false :=
  ⟨h.2.1.c0, h.2.1.c1, Lib.frozen_of_heap h.2.1 _, Lib.frozen_of_heap h.2.1 _, by rw [Lib.cell_of_heap h.1]; rfl, by rw [Lib.cell_of_heap h.1]; rfl, Lib.frozen_of_heap h.1 _, Lib.frozen_of_heap h.1 _⟩
theorem NuI.lo {w wr : World} {n m : Nat} (h : NuI w wr n) (he : hiN m = hiN n) : NuI w (wr.setCell ⟨w.heap.size + 1, 1, none⟩ (.int .u64 (loN m))) m := by
  refine ⟨?_, ?_, h.2.2.setCell (by simp) _⟩
  · rw [Below.heap_setCell _ _ _ _ (by simp)]; exact h.1
  · unfold At; rw [he]; exact set_list h.2.1 1 _
theorem NuI.hi {w wr : World} {n m : Nat} (h : NuI w wr n) (he : loN m = loN n) : NuI w (wr.setCell ⟨w.heap.size + 1, 0, none⟩ (.int .u64 (hiN m))) m := by
  refine ⟨?_, ?_, h.2.2.setCell (by simp) _⟩
  · rw [Below.heap_setCell _ _ _ _ (by simp)]; exact h.1
  · unfold At; rw [he]; exact set_list h.2.1 0 _
theorem NuI.drew {w wr : World} {n : Nat} (h : NuI w wr n) : NuI w wr.drew n := ⟨h.1, h.2.1, h.2.2.drew⟩

set_option maxRecDepth 100000 in
set_option maxHeartbeats 4000000 in
theorem rnumber_any (l : List Nat) (hl : ∀ x ∈ l, x < 65536) (v : Value) (w : World) (hr : Reads w v l) : Calls Try.prog 27 #[v] w fun e w' => e = .returned (.tuple #[wd (numN l), .bool (decide (dv l < noRoom))]) ∧ Below w.heap.size w w' := by
  obtain ⟨h32, _, M, hrow⟩ := hr
  obtain ⟨ao, cap, hv⟩ := hrow.form
  subst hv
  have HR := Hid.mk' hrow
  have HL := Hid.mk' hl
  clear hrow hl
  have e0 : nv l 0 = 0 := by unfold nv; simp [dv]
  have H0 : Hid (NuI w ((w.alloc (.cells #[.int .u64 0, .int .u64 0] 24)).alloc (.cells #[.int .u64 0, .int .u64 0] 24)) (nv l 0)) := by
    rw [e0]
    refine ⟨?_, ?_, Below.one (Below.one (Below.refl _ w) _) _⟩
    · rw [Below.heap_alloc _ _ _ (by simp)]; exact heap_alloc_new _ _
    · have h := heap_alloc_new (w.alloc (.cells #[.int .u64 0, .int .u64 0] 24)) (.cells #[.int .u64 0, .int .u64 0] 24)
      rw [World.size_alloc] at h
      exact h
  clear e0
  rw [wd_v]
  go_enter Try.func27, Try.ntmps27
  go_wp2_with fail
  generalize (w.alloc (.cells #[.int .u64 0, .int .u64 0] 24)).alloc (.cells #[.int .u64 0, .int .u64 0] 24) = W0 at *
  go_loopw [5] (fun t5 wr => ∃ k : Nat, k ≤ l.length ∧ t5 = .int .i64 k ∧ nv l k < noRoom ∧ NuI w wr (nv l k)) (fun t5 _ => l.length - (intOf t5).toNat)
  case atStart => exact ⟨0, by omega, rfl, by unfold nv noRoom; simp [dv], H0.out⟩
  case round =>
    obtain ⟨k, hk, rfl, hn, hI⟩ := hrel
    have HI := Hid.mk' hI
    have HN := Hid.mk' hn
    obtain ⟨c0, c1, c2, c3, c4, c5, c6, c7⟩ := hI.cells
    by_cases hlt : k < l.length
    · have hli : (k : Int) < (l.length : Int) := by omega
      have hx := HL.out l[k] (List.getElem_mem hlt)
      obtain ⟨g, cap', hv, hcap, d1, _⟩ := (HR.out.stay hI.2.2).cell hlt
      injection hv with e1 _ e3
      subst e1 e3
      have hs := nv_succ l k hlt
      have hb := nv_lt l HL.out k hk
      have HS := Hid.mk' hs
      clear hs hn hI
      have HX : Hid (∀ m, k + 1 + m = l.length → nv l (k + 1) ≤ dv l) := fun m hm => by rw [← nv_all, ← hm]; exact nv_le l (k + 1) m (by omega)
      generalize l[k] = x at *
      by_cases h8 : (8 : Int) ≤ (k : Int)
      · have h8' : decide ((8 : Int) ≤ (k : Int)) = true := decide_eq_true h8
        have h4' : decide ((k : Int) < 4) = false := decide_eq_false (by omega)
        have h8'' : decide ((k : Int) < 8) = false := decide_eq_false (by omega)
        by_cases hx0 : (0 : Int) < (x : Int)
        · have HZ : Hid (numN l = 0 ∧ decide (dv l < noRoom) = false) := by
            have h1 := HX.out (l.length - (k + 1)) (by omega)
            have h2 : (65536 : Nat) ^ 8 ≤ 65536 ^ k := Nat.pow_le_pow_right (by decide) (by omega)
            have h3 : 65536 ^ k ≤ 65536 ^ k * x := Nat.le_mul_of_pos_right _ (by omega)
            have h4 : (65536 : Nat) ^ 8 = noRoom := by kernel_rfl
            rw [HS.out] at h1
            exact ⟨if_neg (by omega), decide_eq_false (by omega)⟩
          clear h8 hb hx
          go_wp2_with fail
          refine bodyPost_ret (v := .tuple #[.agg #[.int .u64 0, .int .u64 0], .bool false]) (by simp [results, Try.results27, go_sem, *]) rfl ⟨by rw [HZ.out.1, HZ.out.2]; rfl, ?_⟩
          exact (HI.out.2.2.setCell (by simp) _).setCell (by simp) _
        · obtain rfl : x = 0 := by omega
          have HV : Hid (nv l (k + 1) = nv l k) := by show _ = _; rw [HS.out]; omega
          clear h8 hx0 hb hx
          go_wp2_with fail
          go_roundw
          case rel => exact ⟨k + 1, by omega, by go_num, by rw [HV.out]; exact HN.out, by rw [HV.out]; exact HI.out⟩
          case measure => simp [intOf]; omega
      · have h8' : decide ((8 : Int) ≤ (k : Int)) = false := decide_eq_false h8
        have hk8 : k < 8 := by omega
        have HK8 := Hid.mk' hk8
        clear h8 hk8
        by_cases h4 : (k : Int) < 4
        · have hk4 : k < 4 := by omega
          obtain ⟨l1, l2, l3, l4⟩ := lo_step (nv l k) k x hk4 hb hx
          have hsh := shl_16 x k hk4 hx
          have hor : bits .or .u64 (loN (nv l k) : Int) ((x * 65536 ^ k : Nat) : Int) = (loN (nv l (k + 1)) : Int) := by rw [HS.out, l2, l4]; exact or_low (nv l k) x k hk4 hb hx
          have HH := Hid.mk' (HI.out.lo (m := nv l (k + 1)) (by rw [HS.out, l1, l3]))
          have HNN : Hid (nv l (k + 1) < noRoom) := by
            have h1 := nv_lt l HL.out (k + 1) hlt
            have h2 : (65536 : Nat) ^ (k + 1) ≤ 65536 ^ 8 := Nat.pow_le_pow_right (by decide) (by omega)
            have h3 : (65536 : Nat) ^ 8 = noRoom := by kernel_rfl
            show _ < _
            omega
          clear l1 l2 l3 l4 hb hx hk4
          generalize x * 65536 ^ k = y at *
          generalize loN (nv l (k + 1)) = n1 at *
          go_wp2_with fail
          go_region
          all_goals go_wp2_with fail
          all_goals go_roundw
          case rel => exact ⟨k + 1, by omega, by go_num, HNN.out, by first | exact HH.out.drew | exact HH.out⟩
          case measure => simp [intOf]; omega
        · obtain ⟨j, rfl⟩ : ∃ j, k = 4 + j := ⟨k - 4, by omega⟩
          have hj4 : j < 4 := by have := HK8.out; omega
          obtain ⟨l1, l2, l3⟩ := hi_step (nv l (4 + j)) j x hb
          have hsh := shl_16 x j hj4 hx
          have hor : bits .or .u64 (hiN (nv l (4 + j)) : Int) ((x * 65536 ^ j : Nat) : Int) = (hiN (nv l (4 + j + 1)) : Int) := by rw [HS.out, l2]; exact or_low _ x j hj4 l1 hx
          have HH := Hid.mk' (HI.out.hi (m := nv l (4 + j + 1)) (by rw [HS.out, l3]))
          have HNN : Hid (nv l (4 + j + 1) < noRoom) := by
            have h1 := nv_lt l HL.out (4 + j + 1) hlt
            have h2 : (65536 : Nat) ^ (4 + j + 1) ≤ 65536 ^ 8 := Nat.pow_le_pow_right (by decide) (by omega)
            have h3 : (65536 : Nat) ^ 8 = noRoom := by kernel_rfl
            show _ < _
            omega
          have h4' : decide (((4 + j : Nat) : Int) < 4) = false := decide_eq_false h4
          have hj8 : ((4 + j : Nat) : Int) < 8 := by omega
          clear l1 l2 l3 hb hx h4
          generalize x * 65536 ^ j = y at *
          generalize hiN (nv l (4 + j + 1)) = n1 at *
          go_wp2_with fail
          go_region
          all_goals go_wp2_with fail
          all_goals go_roundw
          case rel => exact ⟨4 + j + 1, by omega, by go_num, HNN.out, by first | exact HH.out.drew | exact HH.out⟩
          case measure => simp [intOf]; omega
    · have hke : k = l.length := by omega
      have HZ : Hid (numN l = nv l k ∧ decide (dv l < noRoom) = true) := by
        rw [hke, nv_all] at hn
        rw [hke, nv_all]
        exact ⟨if_pos hn, decide_eq_true hn⟩
      have hli : ¬ (k : Int) < (l.length : Int) := by omega
      have hB := hI.2.2
      clear hke hI hn
      go_wp2_with fail
      refine bodyPost_ret (v := .tuple #[.agg #[.int .u64 (hiN (nv l k)), .int .u64 (loN (nv l k))], .bool true]) (by simp [results, Try.results27, go_sem, *]) rfl ⟨by rw [HZ.out.1, HZ.out.2], ?_⟩
      exact (hB.setCell (by simp) _).setCell (by simp) _
end Go.Proofs.Ytajkfopeomfacaa

/- The document's own sum. -/
namespace Go.Proofs.Ytajkfopeomfacaa
open Go.RowKit Go.Sort

theorem step_append_own {P : Program} (w : World) {ops : Array Oper} {o : Oper} {a : Act} {K : Act → World → Prop} {Q : Exit → Act → World → Prop} {E : Prop} (hgd : o.guard = none) (s x : Operand) (t : TypeId)
    (ho : o.op = .call { callee := .builtin .append, args := #[s, x], argTypes := #[t, t] })
    (base : Nat) (e : TypeId) (i : TypeInfo) (z : Value) (size bytes : Nat) (ht : P.underlying t = some (.slice e)) (hi : P.info? e = some i) (hz : i.zero = some z)
    (hsize : i.size = size) (hby : i.bytes = bytes) (hzs : z.cells.size = size) (hsz : 0 < size)
    (v : Value) (n : Nat) (xs : List Value) (hs : a.eval s = v) (hown : w.ownsRow base e size v n xs)
    (ad : Addr) (m c : Nat) (news : List Value) (hx : a.eval x = .slice (some ad) m c) (hl : news.length = m * size) (hnews : ∀ j u, news[j]? = some u → w.cell? (ad.add j) = some u) (h1 : ∀ u ∈ news, u.oneCell' = true)
    (h63 : n + m ≤ maxLen) (hbytes : (n + m) * bytes ≤ 140737488355328) (hbase : base ≤ w.heap.size)
    (h : ∀ v' w', w'.ownsRow base e size v' (n + m) (xs ++ news) → w.grownBy w' v.ownBlock → K (a.put o.dst v') w') :
    if Region.wanted o (yielded ops a.tmps) = true then Oper.wp P o a w K Q else E := by
  have hw : Region.wanted o (yielded ops a.tmps) = true := by simp [Region.wanted, hgd]
  rw [if_pos hw]
  exact wp_append_own w s x t ho base e i z size bytes ht hi hz hsize hby hzs hsz v n xs hs hown ad m c news hx hl hnews h1 h63 hbytes hbase fun v' w' h2 h3 _ => h v' w' h2 h3

theorem Row.pushD {wr w2 : World} {N k : Nat} {v v0 v' : Value} {l : List Nat} {x : Nat} (h : Row wr N v l) (hN : N ≤ wr.heap.size) (hk : l.length = k) (o1 : w2.ownsRow N 22 1 v' (k + 1) (l.map uV ++ [.int .u64 (x : Int)])) (o2 : ((wr.alloc (.cells #[.int .u64 (x : Int)] 22)).drew).grownBy w2 v0.ownBlock) (hv : v0.ownBlock = v.ownBlock) : Row w2 N v' (l ++ [x]) ∧ Below N wr w2 := by
  subst hk
  rw [hv] at o2
  refine ⟨?_, ?_⟩
  · unfold Row
    rw [List.length_append, List.map_append]
    exact o1
  · have hb : Below N wr ((wr.alloc (.cells #[.int .u64 (x : Int)] 22)).drew) := ((Below.refl _ wr).alloc hN _).drew
    exact hb.grown o2 (by show _ ≤ (wr.alloc _).heap.size; simp; omega) (fun k hk => (h.low k (by simp [ob, hk])).1)
/-- Digits of both, one by one. -/
def sums (m n k : Nat) : List Nat := (List.range k).map fun i => dg m i + dg n i
theorem sums_succ (m n k : Nat) : sums m n (k + 1) = sums m n k ++ [dg m k + dg n k] := by simp [sums, List.range_succ]
theorem sums_len (m n k : Nat) : (sums m n k).length = k := by simp [sums]
theorem dv_sums (m n : Nat) : ∀ k, dv (sums m n k) = dv (dgs m k) + dv (dgs n k)
  | 0 => by simp [sums, dgs, dv]
  | k + 1 => by
    rw [sums_succ, dgs_succ, dgs_succ, dv_append, dv_append, dv_append, dv_sums m n k, sums_len, dgs_length, dgs_length]
    simp [dv, Nat.mul_add]
    omega
theorem dv_sum8 {m n : Nat} (hm : m < noRoom) (hn : n < noRoom) : dv (sums m n 8) = m + n := by
  have e : (65536 : Nat) ^ 8 = noRoom := by kernel_rfl
  rw [dv_sums, dv_dgs, dv_dgs, e, Nat.mod_eq_of_lt hm, Nat.mod_eq_of_lt hn]
theorem dgs_at (n k i : Nat) (h : i < (dgs n k).length) : (dgs n k)[i] = dg n i := by simp [dgs]

set_option maxRecDepth 100000 in
set_option maxHeartbeats 4000000 in
theorem radd_any (m n : Nat) (hm : m < noRoom) (hn : n < noRoom) (w : World) : Calls Try.prog 10 #[wd m, wd n] w fun e w' => e = .returned (.tuple #[wd (sumN m n), .bool (decide (m + n < noRoom))]) ∧ Below w.heap.size w w' := by
  have hd1 := rdig_any m hm
  have hd2 := rdig_any n hn
  rw [wd_v] at hd1 hd2
  have HD1 := Hid.mk' hd1
  have HD2 := Hid.mk' hd2
  have HC : Hid (∀ v w, Reads w v (sums m n 8) → Calls Try.prog 28 #[v] w fun e w' => (∃ v', e = .returned v' ∧ Row w' w.heap.size v' (car (sums m n 8) 0)) ∧ Below w.heap.size w w') := fun v w h => rcarried_any _ v w h
  have HN : Hid (∀ v w, Reads w v (car (sums m n 8) 0) → Calls Try.prog 27 #[v] w fun e w' => e = .returned (.tuple #[.agg #[.int .u64 (hiN (sumN m n)), .int .u64 (loN (sumN m n))], .bool (decide (m + n < noRoom))]) ∧ Below w.heap.size w w') := fun v w h => by
    have := rnumber_any _ (car_lt _ 0) v w h
    rw [show numN (car (sums m n 8) 0) = sumN m n by unfold numN sumN; rw [car_dv, dv_sum8 hm hn, Nat.add_zero], car_dv, dv_sum8 hm hn, Nat.add_zero] at this
    exact this
  clear hd1 hd2
  obtain ⟨i0, hi, hz0, hz1, hz2⟩ := info_parts Try.infoU
  rw [wd_v, wd_v, wd_v]
  generalize sumN m n = S at *
  generalize decide (m + n < noRoom) = D at *
  go_enter Try.func10, Try.ntmps10
  go_upto_region 1 with fail
  obtain ⟨A1, A2, A3, B0⟩ := at_three w m n 0 _ rfl
  have e0 : ((w.alloc (.cells #[.int .u64 (hiN m), .int .u64 (loN m)] 24)).alloc (.cells #[.int .u64 (hiN n), .int .u64 (loN n)] 24)).alloc (.cells #[.int .u64 (hiN 0), .int .u64 (loN 0)] 24) = ((w.alloc (.cells #[.int .u64 (hiN m), .int .u64 (loN m)] 24)).alloc (.cells #[.int .u64 (hiN n), .int .u64 (loN n)] 24)).alloc (.cells #[.int .u64 0, .int .u64 0] 24) := rfl
  rw [e0] at A1 A2 A3 B0
  clear e0
  generalize ((w.alloc (.cells #[.int .u64 (hiN m), .int .u64 (loN m)] 24)).alloc (.cells #[.int .u64 (hiN n), .int .u64 (loN n)] 24)).alloc (.cells #[.int .u64 0, .int .u64 0] 24) = W0 at *
  have z10 := A1.c0; have z11 := A1.c1
  go_upto_region 2 with (go_at_call 26; refine (HD1.out _).mono ?_; rintro e w1 ⟨⟨v1, rfl, r1⟩, hb1⟩)
  clear z10 z11
  replace A2 := A2.stay hb1
  replace A3 := A3.stay hb1
  have B1 := Below.on B0 hb1
  have z20 := A2.c0; have z21 := A2.c1
  go_upto_region 3 with (go_at_call 26; refine (HD2.out _).mono ?_; rintro e w2 ⟨⟨v2, rfl, r2⟩, hb2⟩)
  clear z20 z21
  replace A3 := A3.stay hb2
  replace r1 := r1.stay hb2
  have B2 := Below.on B1 hb2
  have s3 := (Array.getElem?_eq_some_iff.1 A3).1
  have L1 : ∀ g ∈ ob v1, g < w2.heap.size := fun g hg => (r1.low g hg).2
  have L2 : ∀ g ∈ ob v2, g < w2.heap.size := fun g hg => (r2.low g hg).2
  clear hb1 hb2 B0 B1 A1 A2
  have HO := Hid.mk' (row_new w2)
  have HB := Hid.mk' (Below.one (Below.refl _ w2) (.cells #[] 22))
  have HW := Hid.mk' (And.intro r1 (And.intro r2 (And.intro A3 B2)))
  clear r1 r2 A3 B2 L1 L2
  go_upto_region 5 with fail
  generalize w2.alloc (.cells #[] 22) = W2 at *
  go_loopw [8, 9] (fun t8 t9 wr => ∃ (k : Nat) (vo : Value), k ≤ 8 ∧ t9 = .int .i64 k ∧ t8 = vo ∧ Row wr w2.heap.size vo (sums m n k) ∧ Below w2.heap.size w2 wr) (fun _ t9 _ => 8 - (intOf t9).toNat)
  case atStart => exact ⟨0, _, by omega, rfl, rfl, HO.out, HB.out⟩
  case round =>
    obtain ⟨k, vo, hk, rfl, rfl, a1, a2⟩ := hrel
    have HA := Hid.mk' (And.intro a1 a2)
    by_cases hlt : k < 8
    · have hli : (k : Int) < 8 := by omega
      obtain ⟨g1, cap1, hv1, hcap1, p1, _⟩ := (HW.out.1.stay a2).cell (j := k) (by rw [dgs_length]; exact hlt)
      obtain ⟨g2, cap2, hv2, hcap2, p2, _⟩ := (HW.out.2.1.stay a2).cell (j := k) (by rw [dgs_length]; exact hlt)
      rw [dgs_at] at p1 p2
      rw [dgs_length] at hv1 hv2 hcap1 hcap2
      subst hv1 hv2
      obtain ⟨va, vc, hvo⟩ := a1.form
      subst hvo
      have hov : wr.ownsRow w2.heap.size 22 1 _ _ _ := a1
      have hsw := a2.size
      have hdl := sums_len m n k
      have hx1 := dg_lt m k
      have hx2 := dg_lt n k
      have HS := Hid.mk' (sums_succ m n k)
      clear a1 a2
      rw [hdl] at hov
      generalize dg m k = x at *
      generalize dg n k = y at *
      obtain ⟨z, hz⟩ : ∃ z, z = x + y := ⟨_, rfl⟩
      have hwz : IntKind.u64.wrap ((x : Int) + (y : Int)) = (z : Int) := by rw [IntKind.wrap_u64]; omega
      rw [← hz] at HS
      clear hz
      have hnew : ∀ j2 u, ([.int .u64 (z : Int)] : List Value)[j2]? = some u → ((wr.alloc (.cells #[.int .u64 (z : Int)] 22)).drew).cell? ((⟨wr.heap.size, 0, none⟩ : Addr).add j2) = some u := new_cell _ _ _
      have hov2 : ((wr.alloc (.cells #[.int .u64 (z : Int)] 22)).drew).ownsRow w2.heap.size 22 1 (.slice va k vc) k ((sums m n k).map uV) := hov.alloc (.cells #[.int .u64 (z : Int)] 22)
      have hm1 : ∀ u ∈ ([.int .u64 (z : Int)] : List Value), u.oneCell' = true := fun u hu => by simp at hu; subst hu; rfl
      have hm2 : k + 1 ≤ maxLen := by unfold maxLen; omega
      have hm3 : (k + 1) * 8 ≤ 140737488355328 := by omega
      have hm4 : w2.heap.size ≤ ((wr.alloc (.cells #[.int .u64 (z : Int)] 22)).drew).heap.size := by show _ ≤ (wr.alloc _).heap.size; simp; omega
      go_wp2_with fail
      go_region_law (refine step_append_own _ (by rfl) _ _ 45 (by rfl) w2.heap.size 22 i0 (.int .u64 0) 1 8 Try.underlying45 hi hz0 hz1 hz2 rfl (by decide) _ _ _ (by rfl) hov2 ⟨wr.heap.size, 0, none⟩ 1 1 [.int .u64 (z : Int)] (by rfl) (by rfl) hnew hm1 hm2 hm3 hm4 ?_; intro v' w4 hown' hgrow)
      all_goals
        have HW2 := Hid.mk' (And.intro hown' hgrow)
        clear hown' hgrow hov hov2 hnew p1 p2 hm1 hm2 hm3 hm4 hwz
        go_wp2_with fail
        go_roundw
        case rel =>
          obtain ⟨a1, a2⟩ := HA.out
          obtain ⟨o1, o2⟩ := HW2.out
          obtain ⟨r1, r2⟩ := a1.pushD (by omega) hdl o1 o2 (by rw [hdl])
          refine ⟨k + 1, v', by omega, by go_num, rfl, ?_, a2.trans r2⟩
          rw [HS.out]; exact r1
        case measure => simp [intOf]; omega
    · have hke : k = 8 := by omega
      rw [hke] at a1
      obtain ⟨_, _, A3, B2⟩ := HW.out
      have hsum : ∀ x ∈ sums m n 8, x < 1099511627776 := fun x hx => by
        obtain ⟨i, _, rfl⟩ := List.mem_map.1 hx
        have := dg_lt m i
        have := dg_lt n i
        omega
      have HCv := Hid.mk' (HC.out _ wr ⟨by rw [sums_len]; omega, hsum, _, a1⟩)
      have A3w := A3.stay a2
      have BW := Below.on B2 a2
      have hcl : (car (sums m n 8) 0).length ≤ 32 := by
        have h1 := congrArg List.length (car_hea (sums m n 8) 0)
        rw [List.length_append, hea_len _ _ _ (Nat.le_refl _)] at h1
        have h2 := ctl_len (ovr (sums m n 8) (sums m n 8).length 0) 3 (by have := ovr_lt _ hsum (sums m n 8).length 0 (by omega); omega)
        have h3 := sums_len m n 8
        omega
      have hli : ¬ (k : Int) < 8 := by omega
      have HCL := Hid.mk' (And.intro hcl (fun x hx => Nat.lt_trans (car_lt (sums m n 8) 0 x hx) (by decide) : ∀ x ∈ car (sums m n 8) 0, x < 1099511627776))
      clear hke hlt a1 hsum hcl A3 B2
      generalize (k : Int) = kk at *
      go_wp2_with (first | (go_at_call 28; refine HCv.out.mono ?_; rintro e w5 ⟨⟨v5, rfl, r5⟩, hb5⟩) | (go_at_call 27; refine (HN.out _ _ ⟨HCL.out.1, HCL.out.2, _, r5⟩).mono ?_; rintro e w6 ⟨rfl, hb6⟩; have A6 := (A3w.stay hb5).stay hb6; have y0 := A6.c0; have y1 := A6.c1; have y2 := Lib.frozen_of_heap A6 0; have y3 := Lib.frozen_of_heap A6 1))
      refine bodyPost_ret (v := .tuple #[.agg #[.int .u64 (hiN S), .int .u64 (loN S)], .bool D]) (by simp [results, Try.results10, go_sem, *]) rfl ⟨rfl, ?_⟩
      exact ((Below.on (Below.on BW hb5) hb6).setCell (by simp; omega) _).setCell (by simp; omega) _
end Go.Proofs.Ytajkfopeomfacaa

/- The document's own comparison. -/
namespace Go.Proofs.Ytajkfopeomfacaa
open Go.RowKit Go.Sort

theorem top_step (n k : Nat) : n / 65536 ^ k = n / 65536 ^ (k + 1) * 65536 + dg n k := by
  unfold dg
  rw [Nat.pow_succ, ← Nat.div_div_eq_div_mul]
  omega
theorem div_lt_of {m n k : Nat} (h : m / 65536 ^ k < n / 65536 ^ k) : m < n := by
  by_cases h' : m < n
  · exact h'
  · have := Nat.div_le_div_right (c := 65536 ^ k) (show n ≤ m by omega)
    omega
set_option maxRecDepth 100000 in
set_option maxHeartbeats 4000000 in
theorem rcompare_any (m n : Nat) (hm : m < noRoom) (hn : n < noRoom) (w : World) : Calls Try.prog 13 #[wd m, wd n] w fun e w' => e = .returned (.int .i64 (cmpN m n)) ∧ Below w.heap.size w w' := by
  have hd1 := rdig_any m hm
  have hd2 := rdig_any n hn
  rw [wd_v] at hd1 hd2
  have HD1 := Hid.mk' hd1
  have HD2 := Hid.mk' hd2
  have HST : Hid (m / 65536 ^ 8 = n / 65536 ^ 8) := by
    have e : (65536 : Nat) ^ 8 = noRoom := by kernel_rfl
    show _ = _
    rw [e, Nat.div_eq_of_lt hm, Nat.div_eq_of_lt hn]
  clear hd1 hd2
  rw [wd_v, wd_v]
  go_enter Try.func13, Try.ntmps13
  go_upto_region 1 with fail
  obtain ⟨A1, A2, B0⟩ := at_two w m n _ rfl
  generalize (w.alloc (.cells #[.int .u64 (hiN m), .int .u64 (loN m)] 24)).alloc (.cells #[.int .u64 (hiN n), .int .u64 (loN n)] 24) = W0 at *
  have z10 := A1.c0; have z11 := A1.c1
  go_upto_region 2 with (go_at_call 26; refine (HD1.out _).mono ?_; rintro e w1 ⟨⟨v1, rfl, r1⟩, hb1⟩)
  clear z10 z11
  replace A2 := A2.stay hb1
  have B1 := Below.on B0 hb1
  have z20 := A2.c0; have z21 := A2.c1
  go_upto_region 3 with (go_at_call 26; refine (HD2.out _).mono ?_; rintro e w2 ⟨⟨v2, rfl, r2⟩, hb2⟩)
  clear z20 z21
  replace r1 := r1.stay hb2
  have HW := Hid.mk' (And.intro r1 (And.intro r2 (Below.on B1 hb2)))
  clear r1 r2 hb1 hb2 B0 B1 A1 A2
  go_wp2_with fail
  go_loopw [7] (fun t7 wr => ∃ k : Nat, k ≤ 8 ∧ t7 = .int .i64 ((k : Int) - 1) ∧ m / 65536 ^ k = n / 65536 ^ k ∧ Below w2.heap.size w2 wr) (fun t7 _ => ((intOf t7) + 1).toNat)
  case atStart => exact ⟨8, by omega, rfl, HST.out, Below.refl _ _⟩
  case round =>
    obtain ⟨k, hk, rfl, he, a2⟩ := hrel
    have BW := Below.on HW.out.2.2 a2
    cases k with
    | zero =>
      have HC : Hid (cmpN m n = 0) := by
        have : m = n := by simpa using he
        exact if_pos this
      clear he
      go_wp2_with fail
      go_ret
      exact ⟨retI HC.out.symm, BW⟩
    | succ j =>
      have hj : j < 8 := by omega
      obtain ⟨g1, cap1, hv1, hcap1, p1, _⟩ := (HW.out.1.stay a2).cell (j := j) (by rw [dgs_length]; exact hj)
      obtain ⟨g2, cap2, hv2, hcap2, p2, _⟩ := (HW.out.2.1.stay a2).cell (j := j) (by rw [dgs_length]; exact hj)
      rw [dgs_at] at p1 p2
      rw [dgs_length] at hv1 hv2 hcap1 hcap2
      subst hv1 hv2
      have t1 := top_step m j
      have t2 := top_step n j
      have ej : ((j + 1 : Nat) : Int) - 1 = (j : Int) := by omega
      rw [ej]
      have HA := Hid.mk' a2
      clear a2 ej
      by_cases hlt : dg m j < dg n j
      · have HC : Hid (cmpN m n = -1) := by
          have : m < n := div_lt_of (k := j) (by omega)
          show (if _ then _ else _) = _
          rw [if_neg (by omega), if_pos this]
        clear t1 t2 he
        generalize dg m j = x at *
        generalize dg n j = y at *
        go_wp2_with fail
        go_region
        all_goals go_wp2_with fail
        all_goals go_ret
        all_goals exact ⟨retI HC.out.symm, by first | exact BW.drew | exact BW⟩
      · by_cases hgt : dg n j < dg m j
        · have HC : Hid (cmpN m n = 1) := by
            have : n < m := div_lt_of (k := j) (by omega)
            show (if _ then _ else _) = _
            rw [if_neg (by omega), if_neg (by omega)]
          clear t1 t2 he
          generalize dg m j = x at *
          generalize dg n j = y at *
          go_wp2_with fail
          go_region
          all_goals go_wp2_with fail
          all_goals go_region
          all_goals go_wp2_with fail
          all_goals go_ret
          all_goals exact ⟨retI HC.out.symm, by first | exact BW.drew.drew | exact BW.drew | exact BW⟩
        · have HV : Hid (m / 65536 ^ j = n / 65536 ^ j) := by show _ = _; omega
          clear t1 t2 he
          generalize dg m j = x at *
          generalize dg n j = y at *
          go_wp2_with fail
          go_region
          all_goals go_wp2_with fail
          all_goals go_region
          all_goals go_wp2_with fail
          all_goals go_roundw
          case rel => exact ⟨j, by omega, by go_num, HV.out, by first | exact HA.out.drew.drew | exact HA.out.drew | exact HA.out⟩
          case measure => simp [intOf]
end Go.Proofs.Ytajkfopeomfacaa

/- Rows that are written; plain facts under a product. -/
namespace Go.Proofs.Ytajkfopeomfacaa
open Go.RowKit Go.Sort

theorem dv_set : ∀ (l : List Nat) (p v : Nat) (h : p < l.length), dv (l.set p v) + 65536 ^ p * l[p] = dv l + 65536 ^ p * v
  | x :: l, 0, v, _ => by simp [dv]; omega
  | x :: l, p + 1, v, h => by
    have ih := dv_set l p v (by simpa using h)
    simp only [List.set_cons_succ, dv, List.getElem_cons_succ, Nat.pow_succ]
    rw [Nat.mul_right_comm, Nat.mul_right_comm (65536 ^ p) 65536 v, Nat.mul_comm _ 65536, Nat.mul_comm (65536 ^ p * v) 65536]
    omega
theorem dv_zeros : ∀ k, dv (List.replicate k 0) = 0
  | 0 => rfl
  | k + 1 => by rw [List.replicate_succ, dv, dv_zeros k]
theorem car_same (l : List Nat) (h : dv l < 65536 ^ l.length) : (car l 0).length = l.length := by
  have h1 := car_hea l 0
  have h2 := hea_len l l.length 0 (Nat.le_refl _)
  have h3 := car_dv l 0
  rw [h1, dv_append, h2, ctl_dv] at h3
  have h4 : ovr l l.length 0 = 0 := by
    rcases Nat.eq_zero_or_pos (ovr l l.length 0) with e | e
    · exact e
    · have : 65536 ^ l.length ≤ 65536 ^ l.length * ovr l l.length 0 := Nat.le_mul_of_pos_right _ e
      omega
  rw [h1, h4, ctl_zero, List.append_nil, h2]
theorem mem_set {l : List Nat} {p v x : Nat} (h : x ∈ l.set p v) : x ∈ l ∨ x = v := List.mem_or_eq_of_mem_set h

/-- A row with one number turned. -/
theorem Row.set {W : World} {N g n cap : Nat} {l : List Nat} (h : Row W N (.slice (some ⟨g, 0, none⟩) n cap) l) (k x : Nat) (_hk : k < l.length) : Row (W.setCell ⟨g, k, none⟩ (.int .u64 (x : Int))) N (.slice (some ⟨g, 0, none⟩) n cap) (l.set k x) := by
  obtain ⟨h0, h⟩ := h
  rcases h with ⟨e, _⟩ | ⟨g', cap', cur, e, h1, h2, h3, h4, h5, h6⟩
  · cases e
  · injection e with e1 e2 e3
    injection e1 with e1
    injection e1 with e1 _ _
    subst e1 e2 e3
    refine ⟨by simp, .inr ⟨g, cap, cur.setIfInBounds k (.int .u64 (x : Int)), by rw [List.length_set], h1, ?_, by rw [List.length_set]; exact h3, h4, by simpa using h5, ?_⟩⟩
    · rw [heap_setCell_same _ _ _ _ _ _ h2]
    · rw [List.length_set, List.map_set, ← h6]
      simp [List.take_set, uV]
theorem Row.other {W : World} {N : Nat} {v : Value} {l : List Nat} (h : Row W N v l) (g k : Nat) (u : Value) (hg : g ∉ ob v) : Row (W.setCell ⟨g, k, none⟩ u) N v l :=
  gown_keep h fun g' hg' => Below.heap_setCell _ _ _ _ (fun e => hg (by
    have : g' = g := e
    rwa [← this]))
/-- Sixteen times nought. -/
def zer16 : Array Value := ⟨List.replicate 16 (.int .u64 0)⟩
theorem row_zeros (W : World) : Row (W.alloc (.cells zer16 22)) W.heap.size (.slice (some ⟨W.heap.size, 0, none⟩) 16 16) (List.replicate 16 0) :=
  ⟨rfl, .inr ⟨W.heap.size, 16, zer16, rfl, Nat.le_refl _, heap_alloc_new _ _, Nat.le_refl _, by unfold maxLen; omega, rfl, rfl⟩⟩
theorem run_make16 (W : World) : (Instr.makeSlice 45 (.int .i64 16) (.int .i64 16)).run Try.prog W = .ok (.slice (some ⟨W.heap.size, 0, none⟩) 16 16) (W.alloc (.cells zer16 22)) := by kernel_rfl
theorem Row.drew {W : World} {N : Nat} {v : Value} {l : List Nat} (h : Row W N v l) : Row W.drew N v l := h
theorem ob_slice (g n c : Nat) : ob (.slice (some ⟨g, 0, none⟩) n c) = [g] := by simp [ob, Value.ownBlock]
/-- The row of one digit's products. -/
structure PR (R : List Nat) (i k d : Nat) (Y : List Nat) : Prop where
  len : R.length = 16
  zer : ∀ p, i + k ≤ p → p < 16 → R[p]? = some 0
  low : ∀ x ∈ R, x < 4294967296
  sum : dv R = d * 65536 ^ i * nv Y k
theorem PR.zero (i d : Nat) (Y : List Nat) : PR (List.replicate 16 0) i 0 d Y :=
  ⟨by simp, fun p _ h => by rw [List.getElem?_replicate, if_pos h], fun x hx => by have := (List.mem_replicate.1 hx).2; omega, by rw [dv_zeros]; simp [nv, dv]⟩
theorem PR.step {R : List Nat} {i k d y : Nat} {Y : List Nat} (h : PR R i k d Y) (hi : i < 8) (hk : k < 8) (hY : Y[k]? = some y) (hd : d < 65536) (hy : y < 65536) : PR (R.set (i + k) (d * y)) i (k + 1) d Y := by
  obtain ⟨hkY, rfl⟩ := List.getElem?_eq_some_iff.1 hY
  refine ⟨by simp [h.len], fun p hp h16 => ?_, fun x hx => ?_, ?_⟩
  · rw [List.getElem?_set_ne (by omega)]; exact h.zer p (by omega) h16
  · rcases mem_set hx with hx | rfl
    · exact h.low x hx
    · have := Nat.mul_le_mul (show d ≤ 65535 by omega) (show Y[k] ≤ 65535 by omega)
      omega
  · have hl : i + k < R.length := by rw [h.len]; omega
    have h1 := dv_set R (i + k) (d * Y[k]) hl
    have h2 : R[i + k] = 0 := by
      have := h.zer (i + k) (Nat.le_refl _) (by omega)
      rw [List.getElem?_eq_getElem hl] at this
      exact Option.some.inj this
    rw [h2, Nat.mul_zero, Nat.add_zero] at h1
    rw [h1, h.sum, nv_succ Y k hkY, Nat.mul_add, Nat.pow_add]
    congr 1
    simp only [Nat.mul_assoc, Nat.mul_left_comm]
/-- The numbers so far, a row added as far as k. -/
structure PO (O O' R : List Nat) (k : Nat) : Prop where
  len : O'.length = 16
  hi : ∀ p, k ≤ p → O'[p]? = O[p]?
  low : ∀ x ∈ O', x < 1099511627776
  sum : dv O' = dv O + nv R k
theorem PO.step {O O' R : List Nat} {k a r : Nat} (h : PO O O' R k) (hk : k < 16) (ha : O[k]? = some a) (hr : R[k]? = some r) (ba : a < 65536) (br : r < 4294967296) : PO O (O'.set k (a + r)) R (k + 1) := by
  obtain ⟨hkR, rfl⟩ := List.getElem?_eq_some_iff.1 hr
  have hl : k < O'.length := by rw [h.len]; exact hk
  refine ⟨by simp [h.len], fun p hp => ?_, fun x hx => ?_, ?_⟩
  · rw [List.getElem?_set_ne (by omega)]; exact h.hi p (by omega)
  · rcases mem_set hx with hx | rfl
    · exact h.low x hx
    · omega
  · have h1 := dv_set O' k (a + R[k]) hl
    have h2 : O'[k] = a := by
      have := h.hi k (Nat.le_refl _)
      rw [ha, List.getElem?_eq_getElem hl] at this
      exact Option.some.inj this
    rw [h2, Nat.mul_add, h.sum] at h1
    rw [nv_succ R k hkR]
    omega
end Go.Proofs.Ytajkfopeomfacaa

/- The document's own product of two rows of digits. -/
namespace Go.Proofs.Ytajkfopeomfacaa
open Go.RowKit Go.Sort

theorem prod_room {m n : Nat} (hm : m < noRoom) (hn : n < noRoom) : m * n < 65536 ^ 16 := by
  have e : (65536 : Nat) ^ 16 = noRoom * noRoom := by kernel_rfl
  rw [e]
  have h1 := Nat.mul_le_mul (Nat.le_sub_one_of_lt hm) (Nat.le_sub_one_of_lt hn)
  have h2 : (noRoom - 1) * (noRoom - 1) < noRoom * noRoom := by unfold noRoom; omega
  omega
set_option maxRecDepth 100000 in
set_option maxHeartbeats 4000000 in
theorem rproduct_any (m n : Nat) (hm : m < noRoom) (hn : n < noRoom) (vx vy : Value) (M1 M2 : Nat) (w : World) (hx : Row w M1 vx (dgs m 8)) (hy : Row w M2 vy (dgs n 8)) :
    Calls Try.prog 29 #[vx, vy] w fun e w' => (∃ v O, e = .returned v ∧ Row w' w.heap.size v O ∧ O.length = 16 ∧ (∀ x ∈ O, x < 65536) ∧ dv O = m * n) ∧ Below w.heap.size w w' := by
  have e8 : (65536 : Nat) ^ 8 = noRoom := by kernel_rfl
  have HNm : Hid (∀ i, i ≤ 8 → nv (dgs m 8) i ≤ m) := fun i hi => by
    obtain ⟨j, hj⟩ : ∃ j, i + j = 8 := ⟨8 - i, by omega⟩
    have h1 := nv_le (dgs m 8) i j (by rw [dgs_length]; omega)
    have h2 := nv_all (dgs m 8)
    rw [dgs_length, dv_dgs, e8, Nat.mod_eq_of_lt hm] at h2
    rw [hj, h2] at h1
    exact h1
  have HNn : Hid (nv (dgs n 8) 8 = n ∧ nv (dgs m 8) 8 = m) := by
    have h1 := nv_all (dgs n 8)
    rw [dgs_length, dv_dgs, e8, Nat.mod_eq_of_lt hn] at h1
    have h2 := nv_all (dgs m 8)
    rw [dgs_length, dv_dgs, e8, Nat.mod_eq_of_lt hm] at h2
    exact ⟨h1, h2⟩
  clear e8
  obtain ⟨ax, cx, hvx⟩ := hx.form
  obtain ⟨ay, cy, hvy⟩ := hy.form
  rw [dgs_length] at hvx hvy
  subst hvx hvy
  have HX := Hid.mk' hx
  have HY := Hid.mk' hy
  clear hx hy
  have hmk := run_make16
  go_enter Try.func29, Try.ntmps29
  go_wp2_with fail
  have HO := Hid.mk' (row_zeros w)
  have HB := Hid.mk' (Below.one (Below.refl _ w) (.cells zer16 22))
  generalize w.alloc (.cells zer16 22) = W0 at *
  go_loopw [5, 6] (fun t5 t6 wr => ∃ (i : Nat) (vo : Value) (O : List Nat), i ≤ 8 ∧ t6 = .int .i64 i ∧ t5 = vo ∧ Row wr w.heap.size vo O ∧ O.length = 16 ∧ (∀ x ∈ O, x < 65536) ∧ dv O = nv (dgs m 8) i * n ∧ Below w.heap.size w wr) (fun _ t6 _ => 8 - (intOf t6).toNat)
  case atStart => exact ⟨0, _, _, by omega, rfl, rfl, HO.out, by simp, fun x hx => by have := (List.mem_replicate.1 hx).2; omega, by rw [dv_zeros]; simp [nv, dv], HB.out⟩
  case round =>
    obtain ⟨Wo, hWo⟩ : ∃ Wo, Wo = wr := ⟨_, rfl⟩
    subst hWo
    obtain ⟨i, vo, O, hi, rfl, rfl, o1, o2, o3, o4, a1⟩ := hrel
    by_cases hlt : i < 8
    · have hli : (i : Int) < 8 := by omega
      obtain ⟨go, co, hvo, hco, -, -⟩ := o1.cell (j := 0) (by omega)
      rw [o2] at hvo hco
      subst hvo
      have hgo := o1.low go (by rw [ob_slice]; simp)
      obtain ⟨gx, cx', hv, hcx, px, -⟩ := (HX.out.stay a1).cell (j := i) (by rw [dgs_length]; exact hlt)
      rw [dgs_at] at px
      rw [dgs_length] at hv hcx
      injection hv with e1 _ e3
      subst e1 e3
      have hxd := dg_lt m i
      have HXS := Hid.mk' (nv_succ (dgs m 8) i (by rw [dgs_length]; exact hlt))
      rw [dgs_at] at HXS
      have HOO := Hid.mk' (And.intro o1 (And.intro o2 (And.intro o3 (And.intro o4 a1))))
      have hsw := a1.size
      clear o1 o2 o3 o4 a1
      generalize dg m i = d at *
      have HR0 := Hid.mk' (row_zeros Wo)
      have HB0 := Hid.mk' (Below.one (Below.refl _ Wo) (.cells zer16 22))
      go_upto_region 7 with fail
      generalize Wo.alloc (.cells zer16 22) = W1 at *
      go_loopw [8] (fun t8 wr2 => ∃ (k : Nat) (R : List Nat), k ≤ 8 ∧ t8 = .int .i64 k ∧ Row wr2 Wo.heap.size (.slice (some ⟨Wo.heap.size, 0, none⟩) 16 16) R ∧ PR R i k d (dgs n 8) ∧ Below Wo.heap.size Wo wr2) (fun t8 _ => 8 - (intOf t8).toNat)
      case atStart => exact ⟨0, _, by omega, rfl, HR0.out, PR.zero i d _, HB0.out⟩
      case round =>
        obtain ⟨k, R, hk, rfl, q1, q2, q3⟩ := hrel
        by_cases hlk : k < 8
        · have hlk' : (k : Int) < 8 := by omega
          obtain ⟨gy, cy', hv, hcy, py, -⟩ := ((HY.out.stay HOO.out.2.2.2.2).stay q3).cell (j := k) (by rw [dgs_length]; exact hlk)
          rw [dgs_at] at py
          rw [dgs_length] at hv hcy
          injection hv with e1 _ e3
          subst e1 e3
          have hRl : i + k < R.length := by rw [q2.len]; omega
          obtain ⟨gr, cr, hv, -, pr, fr⟩ := q1.cell (j := i + k) hRl
          injection hv with e1 e2 e3
          injection e1 with e1
          injection e1 with e1 _ _
          clear e2 e3
          subst e1
          have hyd := dg_lt n k
          have HQ := Hid.mk' (And.intro q1 (And.intro q2 q3))
          have px2 := (q3.cell (p := ⟨gx, i, none⟩) (lt_of_cell px)).trans px
          have hYk : Hid ((dgs n 8)[k]? = some (dg n k)) := dgs_get n 8 k hlk
          generalize R[i + k] = ol at *
          clear q1 q2 q3 hRl
          generalize dg n k = y at *
          have hbd := Nat.mul_le_mul (show d ≤ 65535 by omega) (show y ≤ 65535 by omega)
          obtain ⟨z, hz⟩ : ∃ z, z = d * y := ⟨_, rfl⟩
          have hwz : IntKind.u64.wrap ((d : Int) * (y : Int)) = (z : Int) := by rw [hz, mulN]; exact wrapN _ (by omega)
          have HZ := Hid.mk' hz
          clear hz hbd
          go_wp2_with fail
          go_region
          all_goals go_wp2_with fail
          all_goals go_roundw
          case rel =>
            obtain ⟨q1, q2, q3⟩ := HQ.out
            refine ⟨k + 1, R.set (i + k) z, by omega, by go_num, ?_, ?_, ?_⟩
            · exact q1.set (i + k) z (by rw [q2.len]; omega)
            · rw [HZ.out]; exact q2.step hlt hlk hYk.out hxd hyd
            · exact (q3.setCell (Nat.le_refl _) _).drew
          case measure => simp [intOf]; omega
        · have hke : k = 8 := by omega
          rw [hke] at q2
          have HQ := Hid.mk' (And.intro q1 (And.intro q2 q3))
          have hlk' : ¬ (k : Int) < 8 := by omega
          clear q1 q2 q3 hke hlk hk
          generalize (k : Int) = k8 at *
          obtain ⟨Wi, hWi⟩ : ∃ Wi, Wi = wr := ⟨_, rfl⟩
          subst hWi
          go_upto_region 11 with fail
          go_loopw [9] (fun t9 wr => ∃ (k : Nat) (O' : List Nat), k ≤ 16 ∧ t9 = .int .i64 k ∧ Row wr w.heap.size (.slice (some ⟨go, 0, none⟩) 16 co) O' ∧ PO O O' R k ∧ Row wr Wo.heap.size (.slice (some ⟨Wo.heap.size, 0, none⟩) 16 16) R ∧ Below w.heap.size w wr) (fun t9 _ => 16 - (intOf t9).toNat)
          case atStart =>
            obtain ⟨q1, q2, q3⟩ := HQ.out
            obtain ⟨o1, o2, o3, o4, a1⟩ := HOO.out
            exact ⟨0, O, by omega, rfl, o1.stay q3, ⟨o2, fun _ _ => rfl, fun x hx => Nat.lt_trans (o3 x hx) (by decide), by simp [nv, dv]⟩, q1, Below.on a1 q3⟩
          case round =>
            obtain ⟨k, O', hk, rfl, s1, s2, s3, s4⟩ := hrel
            by_cases hlk : k < 16
            · have hlk' : (k : Int) < 16 := by omega
              obtain ⟨q1, q2, q3⟩ := HQ.out
              obtain ⟨o1, o2, o3, o4, a1⟩ := HOO.out
              have hOl : k < O'.length := by rw [s2.len]; exact hlk
              have hRl : k < R.length := by rw [q2.len]; exact hlk
              have hO : k < O.length := by rw [o2]; exact hlk
              obtain ⟨g1, c1, hv, -, po, fo⟩ := s1.cell (j := k) hOl
              injection hv with e1 e2 e3
              injection e1 with e1
              injection e1 with e1 _ _
              clear e2 e3
              subst e1
              obtain ⟨g2, c2, hv, -, pr, -⟩ := s3.cell (j := k) hRl
              injection hv with e1 e2 e3
              injection e1 with e1
              injection e1 with e1 _ _
              clear e2 e3
              subst e1
              have hE : Hid (O[k]? = some O[k] ∧ R[k]? = some R[k]) := ⟨List.getElem?_eq_getElem hO, List.getElem?_eq_getElem hRl⟩
              have hb1 := o3 O[k] (List.getElem_mem hO)
              have hb2 := q2.low R[k] (List.getElem_mem hRl)
              have heq : O'[k] = O[k] := by
                have := s2.hi k (Nat.le_refl _)
                rw [List.getElem?_eq_getElem hOl, List.getElem?_eq_getElem hO] at this
                exact Option.some.inj this
              rw [heq] at po
              have HS := Hid.mk' (And.intro s1 (And.intro s2 (And.intro s3 s4)))
              generalize O[k] = x at *
              generalize R[k] = y at *
              have HL := Hid.mk' (And.intro hOl (And.intro hb1 hb2))
              obtain ⟨z, hz⟩ : ∃ z, z = x + y := ⟨_, rfl⟩
              have hwz : IntKind.u64.wrap ((x : Int) + (y : Int)) = (z : Int) := by rw [IntKind.wrap_u64]; omega
              have HZ := Hid.mk' hz
              clear q1 q2 q3 o1 o2 o3 o4 a1 s1 s2 s3 s4 hOl hRl hO heq hb1 hb2 hz
              go_wp2_with fail
              go_region
              all_goals go_wp2_with fail
              all_goals go_roundw
              case rel =>
                obtain ⟨s1, s2, s3, s4⟩ := HS.out
                refine ⟨k + 1, O'.set k z, by omega, by go_num, ?_, ?_, ?_, ?_⟩
                · exact s1.set k z HL.out.1
                · rw [HZ.out]; exact s2.step hlk hE.out.1 hE.out.2 HL.out.2.1 HL.out.2.2
                · exact s3.other _ k _ (by rw [ob_slice]; simp; omega)
                · exact (s4.setCell hgo.1 _).drew
              case measure => simp [intOf]; omega
            · have hke : k = 16 := by omega
              rw [hke] at s2
              obtain ⟨q1, q2, q3⟩ := HQ.out
              obtain ⟨o1, o2, o3, o4, a1⟩ := HOO.out
              have hdvR : nv R 16 = d * 65536 ^ i * n := by
                have h1 := nv_all R
                rw [q2.len] at h1
                rw [h1, q2.sum, HNn.out.1]
              have hdv : dv O' = nv (dgs m 8) (i + 1) * n := by
                rw [s2.sum, o4, hdvR, HXS.out, Nat.add_mul]
                congr 1
                simp only [Nat.mul_comm]
              have hlt16 : dv O' < 65536 ^ O'.length := by
                rw [s2.len, hdv]
                have h1 := HNm.out (i + 1) (by omega)
                exact Nat.lt_of_le_of_lt (Nat.mul_le_mul_right n h1) (prod_room hm hn)
              have HC := Hid.mk' (rcarried_any O' _ wr ⟨by rw [s2.len]; omega, s2.low, _, s1⟩)
              have HE : Hid ((car O' 0).length = 16 ∧ (∀ x ∈ car O' 0, x < 65536) ∧ dv (car O' 0) = nv (dgs m 8) (i + 1) * n) := ⟨by rw [car_same O' hlt16]; exact s2.len, car_lt O' 0, by rw [car_dv, hdv]; omega⟩
              have hlk' : ¬ (k : Int) < 16 := by omega
              have HS4 := Hid.mk' s4
              clear q1 q2 q3 o1 o2 o3 o4 a1 s1 s2 s3 s4 hdvR hdv hlt16 hke hlk hk
              go_wp2_with (go_at_call 28; refine HC.out.mono ?_; rintro e w5 ⟨⟨v5, rfl, r5⟩, hb5⟩)
              go_roundw
              case rel => exact ⟨i + 1, v5, car O' 0, by omega, by go_num, rfl, r5.mono HS4.out.size, HE.out.1, HE.out.2.1, HE.out.2.2, Below.on HS4.out hb5⟩
              case measure => simp [intOf]; omega
    · have hie : i = 8 := by omega
      have hli : ¬ (i : Int) < 8 := by omega
      rw [hie, HNn.out.2] at o4
      have HV := Hid.mk' (And.intro o1 (And.intro o2 (And.intro o3 (And.intro o4 a1))))
      clear o1 o2 o3 o4 a1 hie
      go_wp2_with fail
      go_ret
      exact ⟨⟨_, rfl, O, HV.out.1, HV.out.2.1, HV.out.2.2.1, HV.out.2.2.2.1⟩, HV.out.2.2.2.2⟩
end Go.Proofs.Ytajkfopeomfacaa

/- Sums, and which of two is less. -/
namespace Go.Proofs.Ytajkfopeomfacaa
open Go.RowKit Go.Sort

theorem of_low (n : Nat) (hn : n < 18446744073709551616) (w : World) : Calls Try.prog 14 #[.int .u64 n] w fun e w' => e = .returned (.agg #[.int .u64 0, .int .u64 n]) ∧ Below w.heap.size w w' := by
  have h := of_any n hn w
  have e := wd_of (h := 0) hn
  simp only [Nat.zero_mul, Nat.zero_add] at e
  rw [← e] at h
  exact h
theorem hi_lt {a : Nat} (h : a < noRoom) : hiN a < 18446744073709551616 := (halves h).1
set_option maxRecDepth 100000 in
set_option maxHeartbeats 2000000 in
theorem adds_any (a b : Nat) (ha : a < noRoom) (hb : b < noRoom) (w : World) : Calls Try.prog 3 #[wd a, wd b] w fun e w' => e = .returned (.bool true) ∧ Below w.heap.size w w' := by
  have HF := Hid.mk' fixed_any
  have HA1 := Hid.mk' (addV a b ha hb)
  have h2 := radd_any a b ha hb
  rw [wd_v, wd_v, wd_v] at h2
  have HA2 := Hid.mk' h2
  have HC1 := Hid.mk' (compareV a b ha hb)
  have h3 := rcompare_any a b ha hb
  rw [wd_v, wd_v] at h3
  have HC2 := Hid.mk' h3
  have HO := Hid.mk' (of_low (hiN a) (hi_lt ha))
  clear h2 h3
  have g1 := eqGuard_w
  have q1 := fun w => eqV (sumN a b) (sumN a b) w
  have q2 := fun w => equalIn_w 0 (hiN a) 0 (hiN a) w
  simp only [decide_true, beq_self_eq_true, Bool.and_self] at q1 q2
  rw [wd_v, wd_v]
  generalize decide (a + b < noRoom) = D at *
  generalize cmpN a b = c at *
  go_enter Try.func3, Try.ntmps3
  go_upto_region 1 with fail
  obtain ⟨A1, A2, B0⟩ := at_two w a b _ rfl
  generalize (w.alloc (.cells #[.int .u64 (hiN a), .int .u64 (loN a)] 24)).alloc (.cells #[.int .u64 (hiN b), .int .u64 (loN b)] 24) = W0 at *
  have z10 := A1.c0; have z11 := A1.c1; have z20 := A2.c0; have z21 := A2.c1
  go_upto_region 2 with (go_at_call 9; refine (HA1.out _).mono ?_; rintro e w1 ⟨rfl, hb1⟩)
  clear z10 z11 z20 z21
  replace A1 := A1.on (.cells #[.int .u64 (hiN (sumN a b)), .int .u64 (loN (sumN a b))] 24) hb1
  replace A2 := A2.on (.cells #[.int .u64 (hiN (sumN a b)), .int .u64 (loN (sumN a b))] 24) hb1
  have A3 := At.new w1 (sumN a b)
  have B1 := Below.one (Below.on B0 hb1) (.cells #[.int .u64 (hiN (sumN a b)), .int .u64 (loN (sumN a b))] 24)
  clear hb1 B0
  generalize w1.alloc (.cells #[.int .u64 (hiN (sumN a b)), .int .u64 (loN (sumN a b))] 24) = W1 at *
  generalize w1.heap.size = g3 at *
  have z10 := A1.c0; have z11 := A1.c1; have z20 := A2.c0; have z21 := A2.c1; have z30 := A3.c0; have z31 := A3.c1
  go_upto_region 3 with (go_at_call 10; refine (HA2.out _).mono ?_; rintro e w2 ⟨rfl, hb2⟩)
  clear z10 z11 z20 z21 z30 z31
  replace A1 := A1.on (.cells #[.int .u64 (hiN (sumN a b)), .int .u64 (loN (sumN a b))] 24) hb2
  replace A2 := A2.on (.cells #[.int .u64 (hiN (sumN a b)), .int .u64 (loN (sumN a b))] 24) hb2
  replace A3 := A3.on (.cells #[.int .u64 (hiN (sumN a b)), .int .u64 (loN (sumN a b))] 24) hb2
  have A4 := At.new w2 (sumN a b)
  have B2 := Below.one (Below.on B1 hb2) (.cells #[.int .u64 (hiN (sumN a b)), .int .u64 (loN (sumN a b))] 24)
  clear hb2 B1
  generalize w2.alloc (.cells #[.int .u64 (hiN (sumN a b)), .int .u64 (loN (sumN a b))] 24) = W2 at *
  generalize w2.heap.size = g4 at *
  have y10 := A1.r0; have y11 := A1.r1; have y20 := A2.r0; have y21 := A2.r1; have y30 := A3.r0; have y31 := A3.r1; have y40 := A4.r0; have y41 := A4.r1
  have HS : Hid (∀ d os, Below w.heap.size w (grow (redrawn W2 d) os)) := fun d os => Below.on B2 (below_regrown _ d os)
  clear B2 A1 A2 A3 A4
  have hcc : (c == c) = true := beq_self_eq_true c
  cases D
  all_goals
    refine wp_region_quiet_below (by kernel_rfl) (by kernel_rfl) ?_
    repeat (go_big_quiet_step (first | (go_at_call 11; with_reducible exact Calls.regrown_of (HF.out _)) | (go_at_call 12; with_reducible exact Calls.regrown_of (HC1.out _)) | (go_at_call 13; with_reducible exact Calls.regrown_of (HC2.out _)) | (go_at_call 14; with_reducible exact Calls.regrown_of (HO.out _))))
    refine wpQuiet_nil ?_
    intro _ hw'
    obtain ⟨⟨dq, osq⟩, hw''⟩ := hw'
    subst hw''
    have B3 := HS.out dq osq
    clear y10 y11 y20 y21 y30 y31 y40 y41
    go_wp2_with fail
    go_ret
    exact ⟨rfl, B3⟩
end Go.Proofs.Ytajkfopeomfacaa

/- The document's own products. -/
namespace Go.Proofs.Ytajkfopeomfacaa
open Go.RowKit Go.Sort

/-- A number of one word, as the walk writes it. -/
theorem at_word (b : Nat) (hb : b < 18446744073709551616) : hiN b = 0 ∧ loN b = b := by unfold hiN loN; omega
theorem word_room {b : Nat} (hb : b < 18446744073709551616) : b < noRoom := by unfold noRoom; omega
set_option maxRecDepth 100000 in
set_option maxHeartbeats 2000000 in
theorem rtimes_any (n b : Nat) (hn : n < noRoom) (hb : b < 18446744073709551616) (w : World) : Calls Try.prog 16 #[wd n, .int .u64 b] w fun e w' => e = .returned (.tuple #[wd (timesN n b), .bool (decide (n * b < noRoom))]) ∧ Below w.heap.size w w' := by
  have hd1 := rdig_any n hn
  have hd2 := rdig_any b (word_room hb)
  rw [wd_v] at hd1 hd2
  rw [(at_word b hb).1, (at_word b hb).2] at hd2
  have HD1 := Hid.mk' hd1
  have HD2 : Hid (∀ w, Calls Try.prog 26 #[.agg #[.int .u64 0, .int .u64 b]] w fun e w' => (∃ v, e = .returned v ∧ Row w' w.heap.size v (dgs b 8)) ∧ Below w.heap.size w w') := hd2
  have HP : Hid (∀ vx vy M1 M2 w, Row w M1 vx (dgs n 8) → Row w M2 vy (dgs b 8) → Calls Try.prog 29 #[vx, vy] w fun e w' => (∃ v O, e = .returned v ∧ Row w' w.heap.size v O ∧ O.length = 16 ∧ (∀ x ∈ O, x < 65536) ∧ dv O = n * b) ∧ Below w.heap.size w w') := fun vx vy M1 M2 w h1 h2 => rproduct_any n b hn (word_room hb) vx vy M1 M2 w h1 h2
  have HN : Hid (∀ v O w, (∀ x ∈ O, x < 65536) → dv O = n * b → Reads w v O → Calls Try.prog 27 #[v] w fun e w' => e = .returned (.tuple #[.agg #[.int .u64 (hiN (timesN n b)), .int .u64 (loN (timesN n b))], .bool (decide (n * b < noRoom))]) ∧ Below w.heap.size w w') := fun v O w h1 h2 h3 => by
    have := rnumber_any O h1 v w h3
    rw [show numN O = timesN n b by unfold numN timesN; rw [h2], h2] at this
    exact this
  clear hd1 hd2
  rw [wd_v, wd_v]
  generalize timesN n b = T at *
  generalize decide (n * b < noRoom) = D at *
  go_enter Try.func16, Try.ntmps16
  go_upto_region 1 with fail
  obtain ⟨A1, A2, B0⟩ := at_two w n 0 _ rfl
  have e0 : (w.alloc (.cells #[.int .u64 (hiN n), .int .u64 (loN n)] 24)).alloc (.cells #[.int .u64 (hiN 0), .int .u64 (loN 0)] 24) = (w.alloc (.cells #[.int .u64 (hiN n), .int .u64 (loN n)] 24)).alloc (.cells #[.int .u64 0, .int .u64 0] 24) := rfl
  rw [e0] at A1 A2 B0
  clear e0
  generalize (w.alloc (.cells #[.int .u64 (hiN n), .int .u64 (loN n)] 24)).alloc (.cells #[.int .u64 0, .int .u64 0] 24) = W0 at *
  have z10 := A1.c0; have z11 := A1.c1
  go_wp2_with (first | (go_at_call_of 26 (Value.agg #[Value.int .u64 ((hiN n : Nat) : Int), Value.int .u64 ((loN n : Nat) : Int)]); refine (HD1.out _).mono ?_; rintro e w1 ⟨⟨v1, rfl, r1⟩, hb1⟩) | (go_at_call 26; refine (HD2.out _).mono ?_; rintro e w2 ⟨⟨v2, rfl, r2⟩, hb2⟩) | (go_at_call 29; refine (HP.out _ _ _ _ _ (r1.stay hb2) r2).mono ?_; rintro e w3 ⟨⟨v3, O, rfl, r3, r4, r5, r6⟩, hb3⟩) | (go_at_call 27; refine (HN.out _ O _ r5 r6 ⟨by rw [r4]; omega, fun x hx => Nat.lt_trans (r5 x hx) (by decide), _, r3⟩).mono ?_; rintro e w4 ⟨rfl, hb4⟩; have A6 := (((A2.stay hb1).stay hb2).stay hb3).stay hb4; have y0 := A6.c0; have y1 := A6.c1; have y2 := Lib.frozen_of_heap A6 0; have y3 := Lib.frozen_of_heap A6 1))
  refine bodyPost_ret (v := .tuple #[.agg #[.int .u64 (hiN T), .int .u64 (loN T)], .bool D]) (by simp [results, Try.results16, go_sem, *]) rfl ⟨rfl, ?_⟩
  exact ((Below.on (Below.on (Below.on (Below.on B0 hb1) hb2) hb3) hb4).setCell (by simp) _).setCell (by simp) _
set_option maxRecDepth 100000 in
set_option maxHeartbeats 2000000 in
theorem rmul_any (x y : Nat) (hx : x < 18446744073709551616) (hy : y < 18446744073709551616) (w : World) : Calls Try.prog 18 #[.int .u64 x, .int .u64 y] w fun e w' => e = .returned (wd (x * y)) ∧ Below w.heap.size w w' := by
  have h1 := rtimes_any x y (word_room hx) hy
  have hp := prod_lt hx hy
  rw [wd_v, wd_v, show timesN x y = x * y from if_pos hp, decide_eq_true hp, (at_word x hx).1, (at_word x hx).2] at h1
  have HT : Hid (∀ w, Calls Try.prog 16 #[.agg #[.int .u64 0, .int .u64 x], .int .u64 y] w fun e w' => e = .returned (.tuple #[.agg #[.int .u64 (hiN (x * y)), .int .u64 (loN (x * y))], .bool true]) ∧ Below w.heap.size w w') := h1
  clear h1 hp
  rw [wd_v]
  generalize x * y = T at *
  have HF : Hid (∀ w1, Below (w.heap.size + 1) (w.alloc (.cells #[.int .u64 0, .int .u64 0] 24)) w1 → ∀ o, (w1.alloc o).cell? ⟨w.heap.size, 0, none⟩ = some (.int .u64 0) ∧ (w1.alloc o).cell? ⟨w.heap.size, 1, none⟩ = some (.int .u64 0) ∧ (w1.alloc o).frozen? ⟨w.heap.size, 0, none⟩ = false ∧ (w1.alloc o).frozen? ⟨w.heap.size, 1, none⟩ = false ∧ Below w.heap.size w (w1.alloc o)) := fun w1 hb1 o => by
    have hz := hb1.size
    simp only [World.size_alloc] at hz
    have k : (w1.alloc o).heap[w.heap.size]? = some (.cells #[.int .u64 0, .int .u64 0] 24) := by
      rw [Below.heap_alloc _ _ _ (by omega), hb1.block _ (by omega)]; exact heap_alloc_new _ _
    refine ⟨by rw [Lib.cell_of_heap k]; rfl, by rw [Lib.cell_of_heap k]; rfl, Lib.frozen_of_heap k _, Lib.frozen_of_heap k _, ?_⟩
    exact Below.one (Below.trans (Below.one (Below.refl _ w) _) (hb1.mono (by omega))) _
  go_enter Try.func18, Try.ntmps18
  go_wp2_with (go_at_call 16; refine (HT.out _).mono ?_; rintro e w1 ⟨rfl, hb1⟩; have g0 := HF.out w1 (hb1.mono (by simp)); have g1 := fun o => (g0 o).1; have g2 := fun o => (g0 o).2.1; have g3 := fun o => (g0 o).2.2.1; have g4 := fun o => (g0 o).2.2.2.1; have g5 := fun o => (g0 o).2.2.2.2; clear g0)
  refine bodyPost_ret (v := .agg #[.int .u64 (hiN T), .int .u64 (loN T)]) (by simp [results, Try.results18, go_sem, *]) rfl ⟨rfl, ?_⟩
  exact ((Below.setCell (by apply_assumption) (by simp) _).setCell (by simp) _)
end Go.Proofs.Ytajkfopeomfacaa

/- The document's own text of a number. -/
namespace Go.Proofs.Ytajkfopeomfacaa
open Go.RowKit Go.Sort

/-- Digits while a tenth is taken: those from k on are the tenth's. -/
def mix (n k : Nat) : List Nat := (List.range 8).map fun p => if p < k then dg n p else dg (n / 10) p
theorem mix_len (n k : Nat) : (mix n k).length = 8 := by simp [mix]
theorem mix_top (n : Nat) : mix n 8 = dgs n 8 := by
  unfold mix dgs
  exact List.map_congr_left fun p hp => if_pos (by simpa using hp)
theorem mix_end (n : Nat) : mix n 0 = dgs (n / 10) 8 := by
  unfold mix dgs
  exact List.map_congr_left fun p _ => if_neg (by omega)
theorem mix_set (n j : Nat) (hj : j < 8) : (mix n (j + 1)).set j (dg (n / 10) j) = mix n j := by
  apply List.ext_getElem?
  intro p
  rw [List.getElem?_set]
  by_cases h : j = p
  · subst h
    rw [if_pos rfl, if_pos (by rw [mix_len]; exact hj)]
    simp [mix, hj]
  · rw [if_neg h]
    by_cases hp : p < 8
    · simp only [mix, List.getElem?_map, List.getElem?_range hp, Option.map_some]
      by_cases hq : p < j
      · rw [if_pos (by omega), if_pos hq]
      · rw [if_neg (by omega), if_neg hq]
    · simp [mix, hp]
theorem mix_at (n j : Nat) (h : j < (mix n (j + 1)).length) : (mix n (j + 1))[j] = dg n j := by simp [mix]
theorem tenth_step (n j : Nat) : (n / 65536 ^ (j + 1) % 10 * 65536 + dg n j) / 10 = dg (n / 10) j ∧ (n / 65536 ^ (j + 1) % 10 * 65536 + dg n j) % 10 = n / 65536 ^ j % 10 := by
  have h1 := top_step n j
  have h2 := dg_lt n j
  have h3 : n / 10 / 65536 ^ j = n / 65536 ^ j / 10 := by rw [Nat.div_div_eq_div_mul, Nat.mul_comm, ← Nat.div_div_eq_div_mul]
  have h4 : dg (n / 10) j = n / 65536 ^ j / 10 % 65536 := by rw [← h3]; rfl
  rw [h4, h1]
  generalize n / 65536 ^ (j + 1) = q at *
  generalize dg n j = d at *
  omega
theorem some_step (n j : Nat) : (decide (0 < n / 10 / 65536 ^ (j + 1)) || decide (0 < dg (n / 10) j)) = decide (0 < n / 10 / 65536 ^ j) := by
  have h1 := top_step (n / 10) j
  apply Bool.eq_iff_iff.2
  rw [Bool.or_eq_true, decide_eq_true_eq, decide_eq_true_eq, decide_eq_true_eq]
  omega
theorem run_byte (r : Nat) (hr : r < 10) (W : World) (g : Nat) (hc : W.cell? ⟨g, 0, none⟩ = some (.int .u8 (48 + (r : Int)))) :
    (convert 54 9 (.slice (some ⟨g, 0, none⟩) 1 1)).run Try.prog W = .ok (.string (tb [UInt8.ofNat (48 + r)])) W :=
  run_convert_bytes_back W 54 9 5 ⟨g, 0, none⟩ 1 [UInt8.ofNat (48 + r)] Try.underlying54 Try.underlying5 Try.underlying9 fun j hj => by
    obtain rfl : j = 0 := by simpa using hj
    show W.cell? ⟨g, 0, none⟩ = _
    rw [hc, List.getElem_cons_zero, u8_digit hr]
    congr 2
theorem tb_app (l t : List UInt8) : tb l ++ tb t = tb (l ++ t) := by
  apply ByteArray.ext
  simp [ByteArray.data_append]
end Go.Proofs.Ytajkfopeomfacaa

/- The document's own text of a number, walked. -/
namespace Go.Proofs.Ytajkfopeomfacaa
open Go.RowKit Go.Sort

def strLen : Value → Nat
  | .string s => s.size
  | _ => 0
set_option maxRecDepth 100000 in
set_option maxHeartbeats 4000000 in
theorem rtext_any (n0 : Nat) (hn0 : n0 < noRoom) (w : World) : Calls Try.prog 22 #[wd n0] w fun e w' => e = .returned (.string (tb (Lib.decDigits n0))) ∧ Below w.heap.size w w' := by
  have hd1 := rdig_any n0 hn0
  rw [wd_v] at hd1
  have HD1 := Hid.mk' hd1
  clear hd1
  rw [wd_v]
  go_enter Try.func22, Try.ntmps22
  go_upto_region 1 with fail
  have A1 := At.new w n0
  have B0 := Below.one (Below.refl _ w) (.cells #[.int .u64 (hiN n0), .int .u64 (loN n0)] 24)
  generalize w.alloc (.cells #[.int .u64 (hiN n0), .int .u64 (loN n0)] 24) = W0 at *
  have z10 := A1.c0; have z11 := A1.c1
  go_upto_region 2 with (go_at_call 26; refine (HD1.out _).mono ?_; rintro e w1 ⟨⟨v1, rfl, r1⟩, hb1⟩)
  clear z10 z11
  have B1 := Below.on B0 hb1
  obtain ⟨gx, cx, hvx, hcx, -, -⟩ := r1.cell (j := 0) (by rw [dgs_length]; omega)
  rw [dgs_length] at hvx hcx
  subst hvx
  have hgx := r1.low gx (by rw [ob_slice]; simp)
  have hgx1 : w.heap.size ≤ gx := Nat.le_trans B0.size hgx.1
  have HR := Hid.mk' (And.intro (r1.mono B0.size) B1)
  clear r1 hb1 B0 B1 A1 hgx
  go_wp2_with fail
  go_loopw [4] (fun t4 wr => ∃ (n a : Nat) (S : ByteArray), t4 = .string S ∧ n < noRoom ∧ 1 ≤ a ∧ n < 10 ^ a ∧ S.size + a ≤ 40 ∧ tb (Lib.decDigits n0) = tb (Lib.decDigits n) ++ S ∧ Row wr w.heap.size (.slice (some ⟨gx, 0, none⟩) 8 cx) (dgs n 8) ∧ Below w.heap.size w wr) (fun t4 _ => 50 - strLen t4)
  case atStart => exact ⟨n0, 39, ⟨#[]⟩, rfl, hn0, by omega, by unfold noRoom at hn0; omega, by decide, by rw [show (⟨#[]⟩ : ByteArray) = tb [] from rfl, tb_app, List.append_nil], HR.out.1, HR.out.2⟩
  case round =>
    obtain ⟨Wo, hWo⟩ : ∃ Wo, Wo = wr := ⟨_, rfl⟩
    subst hWo
    obtain ⟨n, a, S, rfl, h1, h2, h3, h4, h5, o1, o2⟩ := hrel
    have HO := Hid.mk' (And.intro h1 (And.intro h2 (And.intro h3 (And.intro h4 (And.intro h5 (And.intro o1 o2))))))
    have hSs : S.size ≤ 40 := by omega
    clear h2 h3 h4 h5 o1 o2
    go_upto_region 6 with fail
    go_loopw [5, 6, 7] (fun t5 t6 t7 wr => ∃ k : Nat, k ≤ 8 ∧ t7 = .int .i64 ((k : Int) - 1) ∧ t5 = .int .u64 ((n / 65536 ^ k % 10 : Nat) : Int) ∧ t6 = .bool (decide (0 < n / 10 / 65536 ^ k)) ∧ Row wr w.heap.size (.slice (some ⟨gx, 0, none⟩) 8 cx) (mix n k) ∧ Below w.heap.size w wr) (fun _ _ t7 _ => (intOf t7 + 1).toNat)
    case atStart =>
      have e : (65536 : Nat) ^ 8 = noRoom := by kernel_rfl
      refine ⟨8, by omega, rfl, ?_, ?_, by rw [mix_top]; exact HO.out.2.2.2.2.2.1, HO.out.2.2.2.2.2.2⟩
      · rw [e, Nat.div_eq_of_lt h1]; rfl
      · rw [e, Nat.div_eq_of_lt (show n / 10 < noRoom by omega)]; rfl
    case round =>
      obtain ⟨k, hk, rfl, rfl, rfl, s1, s2⟩ := hrel
      cases k with
      | zero =>
        have e1 : n / 65536 ^ 0 % 10 = n % 10 := by rw [Nat.pow_zero, Nat.div_one]
        have e2 : n / 10 / 65536 ^ 0 = n / 10 := by rw [Nat.pow_zero, Nat.div_one]
        rw [e1, e2]
        rw [mix_end] at s1
        clear e1 e2
        have hr10 : n % 10 < 10 := Nat.mod_lt _ (by omega)
        have HS := Hid.mk' (And.intro s1 s2)
        clear s1 s2
        have hcb : (wr.alloc (.cells #[.int .u8 (48 + ((n % 10 : Nat) : Int))] 5)).cell? ⟨wr.heap.size, 0, none⟩ = some (.int .u8 (48 + ((n % 10 : Nat) : Int))) := by rw [World.cell?_alloc_at _ _ _ _ rfl]; rfl
        have hcv := run_byte (n % 10) hr10 _ _ hcb
        have hw8 : IntKind.u8.wrap (48 + ((n % 10 : Nat) : Int)) = 48 + ((n % 10 : Nat) : Int) := by rw [IntKind.wrap_u8]; omega
        have hZs : (tb [UInt8.ofNat (48 + n % 10)]).size = 1 := by rw [← ba_len]; rfl
        have HBB := Hid.mk' (Below.one HS.out.2 (.cells #[.int .u8 (48 + ((n % 10 : Nat) : Int))] 5))
        have HRR := Hid.mk' (HS.out.1.stay (Below.one (Below.refl _ wr) (.cells #[.int .u8 (48 + ((n % 10 : Nat) : Int))] 5)))
        clear hcb
        by_cases h10 : n < 10
        · have hdc : decide (0 < n / 10) = false := decide_eq_false (by omega)
          rw [hdc]
          have HV : Hid (tb (Lib.decDigits n0) = tb [UInt8.ofNat (48 + n % 10)] ++ S) := by
            show _ = _
            rw [HO.out.2.2.2.2.1, Lib.decDigits_one h10, Nat.mod_eq_of_lt h10]
          generalize tb [UInt8.ofNat (48 + n % 10)] = Z at *
          generalize n % 10 = r at *
          clear h1 h10 hdc
          go_wp2_with fail
          go_ret
          exact ⟨by rw [HV.out]; rfl, HBB.out⟩
        · have hdc : decide (0 < n / 10) = true := decide_eq_true (by omega)
          rw [hdc]
          have HV : Hid (tb (Lib.decDigits n0) = tb (Lib.decDigits (n / 10)) ++ (tb [UInt8.ofNat (48 + n % 10)] ++ S)) := by
            show _ = _
            rw [HO.out.2.2.2.2.1, dec_step h10, ← tb_app, ByteArray.append_assoc]
          have HA : Hid (∃ b, a = b + 1 ∧ 1 ≤ b ∧ n / 10 < 10 ^ b) := by
            obtain ⟨_, g2, g3, _⟩ := HO.out
            obtain ⟨b, rfl⟩ : ∃ b, a = b + 1 := ⟨a - 1, by omega⟩
            rw [Nat.pow_succ] at g3
            refine ⟨b, rfl, ?_, by omega⟩
            rcases Nat.eq_zero_or_pos b with h | h
            · subst h; simp at g3; omega
            · exact h
          generalize tb [UInt8.ofNat (48 + n % 10)] = Z at *
          generalize n % 10 = r at *
          clear h10 hdc
          go_wp2_with fail
          go_roundw
          case rel =>
            obtain ⟨b, rfl, hb1, hb2⟩ := HA.out
            have h40 := HO.out.2.2.2.1
            exact ⟨n / 10, b, Z ++ S, rfl, by omega, hb1, hb2, by rw [ByteArray.size_append, hZs]; omega, HV.out, HRR.out, HBB.out⟩
          case measure => simp [strLen, ByteArray.size_append, hZs]; omega
      | succ j =>
        have hj : j < 8 := by omega
        have hml : j < (mix n (j + 1)).length := by rw [mix_len]; exact hj
        obtain ⟨g1, c1, hv, -, po, fo⟩ := s1.cell (j := j) hml
        injection hv with e1 e2 e3
        injection e1 with e1
        injection e1 with e1 _ _
        clear e2 e3
        subst e1
        rw [mix_at] at po
        have ej : ((j + 1 : Nat) : Int) - 1 = (j : Int) := by omega
        rw [ej]
        obtain ⟨t1, t2⟩ := tenth_step n j
        have t3 := some_step n j
        have HM := Hid.mk' (mix_set n j hj)
        have HS := Hid.mk' (And.intro s1 s2)
        have hd := dg_lt n j
        have hr10 : n / 65536 ^ (j + 1) % 10 < 10 := Nat.mod_lt _ (by omega)
        have HT := Hid.mk' t2
        have hq : ((n / 65536 ^ (j + 1) % 10 : Nat) : Int) * 65536 + (dg n j : Int) = ((n / 65536 ^ (j + 1) % 10 * 65536 + dg n j : Nat) : Int) := by omega
        have hq2 : (((n / 65536 ^ (j + 1) % 10 * 65536 + dg n j : Nat) : Int)) / 10 = ((dg (n / 10) j : Nat) : Int) := by omega
        have hq3 : (((n / 65536 ^ (j + 1) % 10 * 65536 + dg n j : Nat) : Int)) % 10 = ((n / 65536 ^ j % 10 : Nat) : Int) := by omega
        clear s1 s2 hml ej t1 t2
        generalize n / 65536 ^ (j + 1) % 10 = r at *
        generalize dg n j = d at *
        generalize dg (n / 10) j = q at *
        generalize r * 65536 + d = y at *
        have t4 : Hid ((decide (0 < n / 10 / 65536 ^ (j + 1)) || decide (0 < q)) = decide (0 < n / 10 / 65536 ^ j)) := t3
        clear t3
        generalize decide (0 < n / 10 / 65536 ^ (j + 1)) = sm at *
        have HQ3 := Hid.mk' hq3
        clear hq3
        cases sm
        · go_wp2_with fail
          go_roundw
          case rel => exact ⟨j, by omega, by go_num, by rw [← HQ3.out], by rw [← t4.out]; rfl, by rw [← HM.out]; exact HS.out.1.set j q (by rw [mix_len]; exact hj), HS.out.2.setCell hgx1 _⟩
          case measure => simp [intOf]
        · go_wp2_with fail
          go_roundw
          case rel => exact ⟨j, by omega, by go_num, by rw [← HQ3.out], by rw [← t4.out]; rfl, by rw [← HM.out]; exact HS.out.1.set j q (by rw [mix_len]; exact hj), HS.out.2.setCell hgx1 _⟩
          case measure => simp [intOf]
end Go.Proofs.Ytajkfopeomfacaa

/- The document's own number of a text. -/
namespace Go.Proofs.Ytajkfopeomfacaa
open Go.RowKit Go.Sort

theorem pv_low {s : ByteArray} (h : Frm s) (h1 : 1 < s.size) : ∀ k, k < s.size → 10 ^ k ≤ pv s (k + 1)
  | 0, hk => by
    have h2 := h.2.1 hk
    have h3 := h.2.2 0 hk
    rw [pv_step hk, pv]
    have : s[0].toNat ≠ 48 := fun e => by have := h2 e; omega
    omega
  | k + 1, hk => by
    have := pv_low h h1 k (by omega)
    rw [pv_step hk, Nat.pow_succ]
    omega
theorem pv_long {s : ByteArray} (h : Frm s) (h1 : 39 < s.size) : ¬ pv s s.size < noRoom := by
  have h2 := pv_low h (by omega) (s.size - 1) (by omega)
  rw [show s.size - 1 + 1 = s.size by omega] at h2
  have h3 : (10 : Nat) ^ 39 ≤ 10 ^ (s.size - 1) := Nat.pow_le_pow_right (by omega) (by omega)
  have h4 : noRoom ≤ 10 ^ 39 := by decide
  omega
set_option maxRecDepth 100000 in
set_option maxHeartbeats 8000000 in
theorem rparse_walk (s : ByteArray) (N : Nat) (E : Int) (w : World) (hs : s.size ≤ 9223372036854775807) (hbad : ¬ Frm s → N = 0 ∧ E = 5) (hgood : Frm s → N = parN s ∧ E = parE s) : Calls Try.prog 24 #[.string s] w fun e w' => e = .returned (.tuple #[wd N, .int .i64 E]) ∧ Below w.heap.size w w' := by
  have HBAD := Hid.mk' hbad
  have HGOOD := Hid.mk' hgood
  have HT : Hid (∀ n, n < noRoom → ∀ w, Calls Try.prog 16 #[.agg #[.int .u64 (hiN n), .int .u64 (loN n)], .int .u64 10] w fun e w' => e = .returned (.tuple #[.agg #[.int .u64 (hiN (timesN n 10)), .int .u64 (loN (timesN n 10))], .bool (decide (n * 10 < noRoom))]) ∧ Below w.heap.size w w') := fun n hn w => rtimes_any n 10 hn (by omega) w
  have HA : Hid (∀ n d, n < noRoom → d < 10 → ∀ w, Calls Try.prog 10 #[.agg #[.int .u64 (hiN n), .int .u64 (loN n)], .agg #[.int .u64 0, .int .u64 (d : Nat)]] w fun e w' => e = .returned (.tuple #[.agg #[.int .u64 (hiN (sumN n d)), .int .u64 (loN (sumN n d))], .bool (decide (n + d < noRoom))]) ∧ Below w.heap.size w w') := fun n d hn hd w => by
    have h := radd_any n d hn (word_room (by omega)) w
    rw [wd_v, wd_v, wd_v, (at_word d (by omega)).1, (at_word d (by omega)).2] at h
    exact h
  have hb := fun (o : Obj) => Below.one (Below.refl _ w) o
  clear hbad hgood
  go_enter Try.func24, Try.ntmps24
  go_wp2_with fail
  have hsz0 : (w.alloc (.cells #[.int .u64 0, .int .u64 0] 24)).heap.size = w.heap.size + 1 := by simp
  have k0 := heap_alloc_new w (.cells #[.int .u64 0, .int .u64 0] 24)
  have B0 := hb (.cells #[.int .u64 0, .int .u64 0] 24)
  clear hb
  generalize w.alloc (.cells #[.int .u64 0, .int .u64 0] 24) = W0 at *
  have c0 : W0.cell? ⟨w.heap.size, 0, none⟩ = some (.int .u64 0) := by rw [Lib.cell_of_heap k0]; rfl
  have c1 : W0.cell? ⟨w.heap.size, 1, none⟩ = some (.int .u64 0) := by rw [Lib.cell_of_heap k0]; rfl
  have c2 := Lib.frozen_of_heap k0 0
  have c3 := Lib.frozen_of_heap k0 1
  have HK := Hid.mk' (And.intro k0 B0)
  have HSZ : Hid (W0.heap.size = w.heap.size + 1) := hsz0
  clear k0 B0 hsz0
  go_loopw [4] (fun t4 wr => ∃ k : Nat, k ≤ s.size ∧ t4 = .int .i64 k ∧ wr = W0 ∧ ∀ j (h : j < s.size), j < k → 48 ≤ s[j].toNat ∧ s[j].toNat ≤ 57) (fun t4 _ => s.size - (intOf t4).toNat)
  case atStart => exact ⟨0, Nat.zero_le _, rfl, rfl, fun j _ h => by omega⟩
  case round =>
    obtain ⟨k, hk, rfl, hwr, hall⟩ := hrel
    subst hwr
    obtain ⟨W0, hW0⟩ : ∃ W0, W0 = wr := ⟨_, rfl⟩
    subst hW0
    have HAL := Hid.mk' hall
    clear hall
    have HEB : Hid (¬ Frm s → wd N = .agg #[.int .u64 0, .int .u64 0] ∧ E = 5) := fun h => by
      obtain ⟨e1, e2⟩ := HBAD.out h
      exact ⟨by rw [e1]; rfl, e2⟩
    by_cases hlt : k < s.size
    · by_cases hp : (s[k].toNat : Int) < 48
      · have HV := Hid.mk' (HEB.out fun h => by have := (h.2.2 k hlt).1; omega)
        go_wp2_with fail
        refine bodyPost_ret (v := .tuple #[.agg #[.int .u64 0, .int .u64 0], .int .i64 5]) (by simp [results, Try.results24, go_sem, *]) rfl ⟨by rw [HV.out.1, HV.out.2], ?_⟩
        exact (HK.out.2.setCell (by simp) _).setCell (by simp) _
      · by_cases hq : (57 : Int) < (s[k].toNat : Int)
        · have HV := Hid.mk' (HEB.out fun h => by have := (h.2.2 k hlt).2; omega)
          go_wp2_with fail
          refine bodyPost_ret (v := .tuple #[.agg #[.int .u64 0, .int .u64 0], .int .i64 5]) (by simp [results, Try.results24, go_sem, *]) rfl ⟨by rw [HV.out.1, HV.out.2], ?_⟩
          exact (HK.out.2.setCell (by simp) _).setCell (by simp) _
        · go_wp2_with fail
          go_roundw
          case rel => exact ⟨k + 1, by omega, by go_num, by first | rfl | trivial, fun j hj hjk => by
            by_cases e : j = k
            · subst e; omega
            · exact HAL.out j hj (by omega)⟩
          case measure => simp [intOf]; omega
    · have hli : ¬ (k : Int) < (s.size : Int) := by omega
      have HALL : Hid (∀ j (h : j < s.size), 48 ≤ s[j].toNat ∧ s[j].toNat ≤ 57) := fun j h => HAL.out j h (by omega)
      clear hk hlt HAL
      generalize (k : Int) = k4 at *
      by_cases h0 : 0 < s.size
      · have hs0 : ((s.size : Int) == 0) = false := beq_no (by omega)
        by_cases hz : (s[0].toNat : Int) = 48
        · have hz1 : ((s[0].toNat : Int) == 48) = true := beq_iff_eq.2 hz
          by_cases hz2 : 1 < s.size
          · have hz3 : decide ((1 : Int) < (s.size : Int)) = true := decide_eq_true (by omega)
            have HV := Hid.mk' (HEB.out fun h => by have := h.2.1 h0 (by omega); omega)
            clear hz
            go_wp2_with fail
            refine bodyPost_ret (v := .tuple #[.agg #[.int .u64 0, .int .u64 0], .int .i64 5]) (by simp [results, Try.results24, go_sem, *]) rfl ⟨by rw [HV.out.1, HV.out.2], ?_⟩
            exact (HK.out.2.setCell (by simp) _).setCell (by simp) _
          · have hz3 : decide ((1 : Int) < (s.size : Int)) = false := decide_eq_false (by omega)
            have hfr : Frm s := ⟨h0, fun _ _ => by omega, HALL.out⟩
            have HZ0 := Hid.mk' hz
            clear hz
            have HFr : Hid (Frm s) := hfr
            have HG := Hid.mk' (HGOOD.out hfr)
            clear hfr
            by_cases h39 : (39 : Int) < (s.size : Int)
            · exfalso; omega
            · have H0 : Hid (w.heap.size + 1 = W0.heap.size → PaI w (W0.alloc (.cells #[.int .u64 0, .int .u64 0] 24)) 0) := fun e => by
                refine ⟨?_, ?_, Below.one HK.out.2 _⟩
                · rw [Below.heap_alloc _ _ _ (by omega)]; exact HK.out.1
                · rw [e]; exact heap_alloc_new _ _
              go_upto_region 12 with fail
              have H0' := Hid.mk' (H0.out HSZ.out.symm)
              rw [HSZ.out]
              generalize W0.alloc (.cells #[.int .u64 0, .int .u64 0] 24) = W1 at *
              clear c0 c1 c2 c3 H0
              go_loopw [6] (fun t6 wr => ∃ k : Nat, t6 = .int .i64 k ∧ k ≤ s.size ∧ pv s k < noRoom ∧ PaI w wr (pv s k)) (fun t6 _ => s.size - (intOf t6).toNat)
              case atStart => exact ⟨0, rfl, Nat.zero_le _, by unfold noRoom pv; omega, H0'.out⟩
              case round =>
                obtain ⟨k, rfl, hk, hn, hI⟩ := hrel
                obtain ⟨c0, c1, c2, c3, c4, c5, c6, c7⟩ := (show wr.cell? ⟨w.heap.size + 1, 0, none⟩ = some (.int .u64 (hiN (pv s k))) ∧ wr.cell? ⟨w.heap.size + 1, 1, none⟩ = some (.int .u64 (loN (pv s k))) ∧ wr.frozen? ⟨w.heap.size + 1, 0, none⟩ = false ∧ wr.frozen? ⟨w.heap.size + 1, 1, none⟩ = false ∧
                  wr.cell? ⟨w.heap.size, 0, none⟩ = some (.int .u64 0) ∧ wr.cell? ⟨w.heap.size, 1, none⟩ = some (.int .u64 0) ∧ wr.frozen? ⟨w.heap.size, 0, none⟩ = false ∧ wr.frozen? ⟨w.heap.size, 1, none⟩ = false from hI.cells)
                have HI := Hid.mk' hI
                by_cases hlt : k < s.size
                · have hli : (k : Int) < (s.size : Int) := by omega
                  obtain ⟨f1, f2⟩ := HFr.out.2.2 k hlt
                  have hw : IntKind.u8.wrap ((s[k].toNat : Int) - 48) = ((s[k].toNat - 48 : Nat) : Int) := by rw [IntKind.wrap_u8]; omega
                  have hwu : IntKind.u64.wrap ((s[k].toNat - 48 : Nat) : Int) = ((s[k].toNat - 48 : Nat) : Int) := wrapN _ (by omega)
                  have HTn := Hid.mk' (HT.out (pv s k) hn)
                  have HS := Hid.mk' (pv_step hlt)
                  have HBIG : Hid (¬ pv s k * 10 + (s[k].toNat - 48) < noRoom → wd N = .agg #[.int .u64 0, .int .u64 0] ∧ E = 2) := fun h => by
                    have h1 := pv_le s (k + 1) (s.size - (k + 1))
                    rw [show k + 1 + (s.size - (k + 1)) = s.size by omega, pv_step hlt] at h1
                    have h2 : ¬ pv s s.size < noRoom := by omega
                    refine ⟨?_, HG.out.2.trans (if_neg h2)⟩
                    rw [HG.out.1, parN, if_neg h2]; rfl
                  have HN := Hid.mk' hn
                  have hd10 : s[k].toNat - 48 < 10 := by omega
                  generalize s[k].toNat - 48 = d at *
                  clear hn f1 f2
                  by_cases hten : pv s k * 10 < noRoom
                  · rw [decide_eq_true hten, show timesN (pv s k) 10 = pv s k * 10 from if_pos hten] at HTn
                    have HAn := Hid.mk' (HA.out (pv s k * 10) d hten hd10)
                    obtain ⟨D, hD⟩ : ∃ D, D = decide (pv s k * 10 + d < noRoom) := ⟨_, rfl⟩
                    rw [← hD] at HAn
                    have HD := Hid.mk' hD
                    clear hD hten hd10
                    have HLF : Hid (∀ {W m}, PaI w W m → ∀ r, PaI w ((W.setCell ⟨w.heap.size + 1, 0, none⟩ (.int .u64 (hiN r))).setCell ⟨w.heap.size + 1, 1, none⟩ (.int .u64 (loN r))) r) := fun h r => h.left r
                    generalize pv s k * 10 = n10 at *
                    generalize hsu : sumN n10 d = su at *
                    have HSU := Hid.mk' hsu
                    clear hsu
                    go_upto_region 15 with (go_at_call 16; refine (HTn.out _).mono ?_; rintro e w1 ⟨rfl, hb1⟩)
                    have HI1 := Hid.mk' (HI.out.stay (Below.one hb1 (.cells #[.int .u64 (hiN n10), .int .u64 (loN n10)] 24)))
                    have A7 := At.new w1 n10
                    clear hb1 c0 c1 c2 c3 c4 c5 c6 c7 hI HTn
                    generalize w1.alloc (.cells #[.int .u64 (hiN n10), .int .u64 (loN n10)] 24) = W2 at *
                    generalize w1.heap.size = g7 at *
                    have hsz : g7 < W2.heap.size := (Array.getElem?_eq_some_iff.1 A7).1
                    have p0 := A7.c0
                    have p1 := A7.c1
                    have p0' := fun (o : Obj) => (World.cell?_alloc_past (w := W2) o g7 0 hsz).trans p0
                    have p1' := fun (o : Obj) => (World.cell?_alloc_past (w := W2) o g7 1 hsz).trans p1
                    go_upto_region 17 with fail
                    go_region_with (go_at_call 10; refine (HAn.out _).mono ?_; rintro e w3 ⟨rfl, hb3⟩; first | (have S4 := new_after hb3; obtain ⟨S3, q0, q1, q2, q3⟩ := S4) | (have S3 := old_after (wr := W2) hb3))
                    all_goals first | (have fin := finB hb3 HI1.out (a := .int .u64 (hiN su : Int)) (b := .int .u64 (loN su : Int)); generalize (w3.setCell ⟨W2.heap.size, 0, none⟩ (.int .u64 (hiN su : Int))).setCell ⟨W2.heap.size, 1, none⟩ (.int .u64 (loN su : Int)) = W at *) | (have fin := finA S3 HI1.out (a := .int .u64 (hiN su : Int)) (b := .int .u64 (loN su : Int)) (t := 24); generalize w3.alloc (.cells #[.int .u64 (hiN su : Int), .int .u64 (loN su : Int)] 24) = W at *)
                    all_goals
                      obtain ⟨fI, f0, f1⟩ := fin
                      have HFI := Hid.mk' fI
                      have HRW := Hid.mk' (HLF.out fI su)
                      obtain ⟨x0, x1, x2, x3, x4, x5, x6, x7⟩ := fI.cells
                      clear fI p0 p1 p0' p1' hb3 S3 HAn
                    all_goals
                      cases D
                      · have hbig : ¬ n10 + d < noRoom := of_decide_eq_false HD.out.symm
                        have HZ := Hid.mk' (HBIG.out hbig)
                        clear hbig
                        go_wp2_with fail
                        refine bodyPost_ret (v := .tuple #[.agg #[.int .u64 0, .int .u64 0], .int .i64 2]) (by simp [results, Try.results24, go_sem, *]) rfl ⟨by rw [HZ.out.1, HZ.out.2], ?_⟩
                        exact (HFI.out.2.2.setCell (by simp) _).setCell (by simp) _
                      · have hroom : n10 + d < noRoom := of_decide_eq_true HD.out.symm
                        have HV : Hid (su = pv s (k + 1) ∧ pv s (k + 1) < noRoom) := by
                          rw [HS.out]
                          exact ⟨by rw [← HSU.out]; exact if_pos hroom, hroom⟩
                        clear hroom
                        go_wp2_with fail
                        go_roundw
                        case rel => exact ⟨k + 1, by go_num, by omega, HV.out.2, by rw [← HV.out.1]; exact HRW.out⟩
                        case measure => simp [intOf]; omega
                  · rw [decide_eq_false hten, show timesN (pv s k) 10 = 0 from if_neg hten] at HTn
                    have HZ := Hid.mk' (HBIG.out (by omega))
                    have HG4 : Hid (∀ w1 o, Below wr.heap.size wr w1 → PaI w (w1.alloc o) (pv s k)) := fun w1 o hb => HI.out.stay (Below.one hb o)
                    clear hten hI hd10
                    go_upto_region 15 with (go_at_call 16; refine (HTn.out _).mono ?_; rintro e w1 ⟨rfl, hb1⟩)
                    have HI1 := HG4.out w1 (.cells #[.int .u64 (hiN 0), .int .u64 (loN 0)] 24) hb1
                    generalize w1.alloc (.cells #[.int .u64 (hiN 0), .int .u64 (loN 0)] 24) = W2 at *
                    obtain ⟨x0, x1, x2, x3, x4, x5, x6, x7⟩ := HI1.cells
                    have HFI := Hid.mk' HI1
                    clear HI1 hb1 c0 c1 c2 c3 c4 c5 c6 c7
                    go_wp2_with fail
                    refine bodyPost_ret (v := .tuple #[.agg #[.int .u64 0, .int .u64 0], .int .i64 2]) (by simp [results, Try.results24, go_sem, *]) rfl ⟨by rw [HZ.out.1, HZ.out.2], ?_⟩
                    exact (HFI.out.2.2.setCell (by simp) _).setCell (by simp) _
                · have hke : k = s.size := by omega
                  have HZ : Hid (wd N = .agg #[.int .u64 (hiN (pv s k)), .int .u64 (loN (pv s k))] ∧ E = 0) := by
                    rw [hke] at hn
                    refine ⟨?_, HG.out.2.trans (if_pos hn)⟩
                    rw [HG.out.1, parN, if_pos hn, hke]; rfl
                  have hB := hI.2.2
                  have hli : ¬ (k : Int) < (s.size : Int) := by omega
                  clear hke hI hn
                  go_wp2_with fail
                  refine bodyPost_ret (v := .tuple #[.agg #[.int .u64 (hiN (pv s k)), .int .u64 (loN (pv s k))], .int .i64 0]) (by simp [results, Try.results24, go_sem, *]) rfl ⟨by rw [HZ.out.1, HZ.out.2], ?_⟩
                  exact (hB.setCell (by simp) _).setCell (by simp) _
        · have hz1 := beq_no hz
          have hfr : Frm s := ⟨h0, fun _ e => absurd (by omega) hz, HALL.out⟩
          clear hz
          have HFr : Hid (Frm s) := hfr
          have HG := Hid.mk' (HGOOD.out hfr)
          clear hfr
          by_cases h39 : (39 : Int) < (s.size : Int)
          · have HV : Hid (wd N = .agg #[.int .u64 0, .int .u64 0] ∧ E = 2) := by
              have h2 := pv_long HFr.out (by omega)
              refine ⟨?_, HG.out.2.trans (if_neg h2)⟩
              rw [HG.out.1, parN, if_neg h2]; rfl
            go_wp2_with fail
            refine bodyPost_ret (v := .tuple #[.agg #[.int .u64 0, .int .u64 0], .int .i64 2]) (by simp [results, Try.results24, go_sem, *]) rfl ⟨by rw [HV.out.1, HV.out.2], ?_⟩
            exact (HK.out.2.setCell (by simp) _).setCell (by simp) _
          · have H0 : Hid (w.heap.size + 1 = W0.heap.size → PaI w (W0.alloc (.cells #[.int .u64 0, .int .u64 0] 24)) 0) := fun e => by
              refine ⟨?_, ?_, Below.one HK.out.2 _⟩
              · rw [Below.heap_alloc _ _ _ (by omega)]; exact HK.out.1
              · rw [e]; exact heap_alloc_new _ _
            go_upto_region 12 with fail
            have H0' := Hid.mk' (H0.out HSZ.out.symm)
            rw [HSZ.out]
            generalize W0.alloc (.cells #[.int .u64 0, .int .u64 0] 24) = W1 at *
            clear c0 c1 c2 c3 H0
            go_loopw [6] (fun t6 wr => ∃ k : Nat, t6 = .int .i64 k ∧ k ≤ s.size ∧ pv s k < noRoom ∧ PaI w wr (pv s k)) (fun t6 _ => s.size - (intOf t6).toNat)
            case atStart => exact ⟨0, rfl, Nat.zero_le _, by unfold noRoom pv; omega, H0'.out⟩
            case round =>
              obtain ⟨k, rfl, hk, hn, hI⟩ := hrel
              obtain ⟨c0, c1, c2, c3, c4, c5, c6, c7⟩ := (show wr.cell? ⟨w.heap.size + 1, 0, none⟩ = some (.int .u64 (hiN (pv s k))) ∧ wr.cell? ⟨w.heap.size + 1, 1, none⟩ = some (.int .u64 (loN (pv s k))) ∧ wr.frozen? ⟨w.heap.size + 1, 0, none⟩ = false ∧ wr.frozen? ⟨w.heap.size + 1, 1, none⟩ = false ∧
                wr.cell? ⟨w.heap.size, 0, none⟩ = some (.int .u64 0) ∧ wr.cell? ⟨w.heap.size, 1, none⟩ = some (.int .u64 0) ∧ wr.frozen? ⟨w.heap.size, 0, none⟩ = false ∧ wr.frozen? ⟨w.heap.size, 1, none⟩ = false from hI.cells)
              have HI := Hid.mk' hI
              by_cases hlt : k < s.size
              · have hli : (k : Int) < (s.size : Int) := by omega
                obtain ⟨f1, f2⟩ := HFr.out.2.2 k hlt
                have hw : IntKind.u8.wrap ((s[k].toNat : Int) - 48) = ((s[k].toNat - 48 : Nat) : Int) := by rw [IntKind.wrap_u8]; omega
                have hwu : IntKind.u64.wrap ((s[k].toNat - 48 : Nat) : Int) = ((s[k].toNat - 48 : Nat) : Int) := wrapN _ (by omega)
                have HTn := Hid.mk' (HT.out (pv s k) hn)
                have HS := Hid.mk' (pv_step hlt)
                have HBIG : Hid (¬ pv s k * 10 + (s[k].toNat - 48) < noRoom → wd N = .agg #[.int .u64 0, .int .u64 0] ∧ E = 2) := fun h => by
                  have h1 := pv_le s (k + 1) (s.size - (k + 1))
                  rw [show k + 1 + (s.size - (k + 1)) = s.size by omega, pv_step hlt] at h1
                  have h2 : ¬ pv s s.size < noRoom := by omega
                  refine ⟨?_, HG.out.2.trans (if_neg h2)⟩
                  rw [HG.out.1, parN, if_neg h2]; rfl
                have HN := Hid.mk' hn
                have hd10 : s[k].toNat - 48 < 10 := by omega
                generalize s[k].toNat - 48 = d at *
                clear hn f1 f2
                by_cases hten : pv s k * 10 < noRoom
                · rw [decide_eq_true hten, show timesN (pv s k) 10 = pv s k * 10 from if_pos hten] at HTn
                  have HAn := Hid.mk' (HA.out (pv s k * 10) d hten hd10)
                  obtain ⟨D, hD⟩ : ∃ D, D = decide (pv s k * 10 + d < noRoom) := ⟨_, rfl⟩
                  rw [← hD] at HAn
                  have HD := Hid.mk' hD
                  clear hD hten hd10
                  have HLF : Hid (∀ {W m}, PaI w W m → ∀ r, PaI w ((W.setCell ⟨w.heap.size + 1, 0, none⟩ (.int .u64 (hiN r))).setCell ⟨w.heap.size + 1, 1, none⟩ (.int .u64 (loN r))) r) := fun h r => h.left r
                  generalize pv s k * 10 = n10 at *
                  generalize hsu : sumN n10 d = su at *
                  have HSU := Hid.mk' hsu
                  clear hsu
                  go_upto_region 15 with (go_at_call 16; refine (HTn.out _).mono ?_; rintro e w1 ⟨rfl, hb1⟩)
                  have HI1 := Hid.mk' (HI.out.stay (Below.one hb1 (.cells #[.int .u64 (hiN n10), .int .u64 (loN n10)] 24)))
                  have A7 := At.new w1 n10
                  clear hb1 c0 c1 c2 c3 c4 c5 c6 c7 hI HTn
                  generalize w1.alloc (.cells #[.int .u64 (hiN n10), .int .u64 (loN n10)] 24) = W2 at *
                  generalize w1.heap.size = g7 at *
                  have hsz : g7 < W2.heap.size := (Array.getElem?_eq_some_iff.1 A7).1
                  have p0 := A7.c0
                  have p1 := A7.c1
                  have p0' := fun (o : Obj) => (World.cell?_alloc_past (w := W2) o g7 0 hsz).trans p0
                  have p1' := fun (o : Obj) => (World.cell?_alloc_past (w := W2) o g7 1 hsz).trans p1
                  go_upto_region 17 with fail
                  go_region_with (go_at_call 10; refine (HAn.out _).mono ?_; rintro e w3 ⟨rfl, hb3⟩; first | (have S4 := new_after hb3; obtain ⟨S3, q0, q1, q2, q3⟩ := S4) | (have S3 := old_after (wr := W2) hb3))
                  all_goals first | (have fin := finB hb3 HI1.out (a := .int .u64 (hiN su : Int)) (b := .int .u64 (loN su : Int)); generalize (w3.setCell ⟨W2.heap.size, 0, none⟩ (.int .u64 (hiN su : Int))).setCell ⟨W2.heap.size, 1, none⟩ (.int .u64 (loN su : Int)) = W at *) | (have fin := finA S3 HI1.out (a := .int .u64 (hiN su : Int)) (b := .int .u64 (loN su : Int)) (t := 24); generalize w3.alloc (.cells #[.int .u64 (hiN su : Int), .int .u64 (loN su : Int)] 24) = W at *)
                  all_goals
                    obtain ⟨fI, f0, f1⟩ := fin
                    have HFI := Hid.mk' fI
                    have HRW := Hid.mk' (HLF.out fI su)
                    obtain ⟨x0, x1, x2, x3, x4, x5, x6, x7⟩ := fI.cells
                    clear fI p0 p1 p0' p1' hb3 S3 HAn
                  all_goals
                    cases D
                    · have hbig : ¬ n10 + d < noRoom := of_decide_eq_false HD.out.symm
                      have HZ := Hid.mk' (HBIG.out hbig)
                      clear hbig
                      go_wp2_with fail
                      refine bodyPost_ret (v := .tuple #[.agg #[.int .u64 0, .int .u64 0], .int .i64 2]) (by simp [results, Try.results24, go_sem, *]) rfl ⟨by rw [HZ.out.1, HZ.out.2], ?_⟩
                      exact (HFI.out.2.2.setCell (by simp) _).setCell (by simp) _
                    · have hroom : n10 + d < noRoom := of_decide_eq_true HD.out.symm
                      have HV : Hid (su = pv s (k + 1) ∧ pv s (k + 1) < noRoom) := by
                        rw [HS.out]
                        exact ⟨by rw [← HSU.out]; exact if_pos hroom, hroom⟩
                      clear hroom
                      go_wp2_with fail
                      go_roundw
                      case rel => exact ⟨k + 1, by go_num, by omega, HV.out.2, by rw [← HV.out.1]; exact HRW.out⟩
                      case measure => simp [intOf]; omega
                · rw [decide_eq_false hten, show timesN (pv s k) 10 = 0 from if_neg hten] at HTn
                  have HZ := Hid.mk' (HBIG.out (by omega))
                  have HG4 : Hid (∀ w1 o, Below wr.heap.size wr w1 → PaI w (w1.alloc o) (pv s k)) := fun w1 o hb => HI.out.stay (Below.one hb o)
                  clear hten hI hd10
                  go_upto_region 15 with (go_at_call 16; refine (HTn.out _).mono ?_; rintro e w1 ⟨rfl, hb1⟩)
                  have HI1 := HG4.out w1 (.cells #[.int .u64 (hiN 0), .int .u64 (loN 0)] 24) hb1
                  generalize w1.alloc (.cells #[.int .u64 (hiN 0), .int .u64 (loN 0)] 24) = W2 at *
                  obtain ⟨x0, x1, x2, x3, x4, x5, x6, x7⟩ := HI1.cells
                  have HFI := Hid.mk' HI1
                  clear HI1 hb1 c0 c1 c2 c3 c4 c5 c6 c7
                  go_wp2_with fail
                  refine bodyPost_ret (v := .tuple #[.agg #[.int .u64 0, .int .u64 0], .int .i64 2]) (by simp [results, Try.results24, go_sem, *]) rfl ⟨by rw [HZ.out.1, HZ.out.2], ?_⟩
                  exact (HFI.out.2.2.setCell (by simp) _).setCell (by simp) _
              · have hke : k = s.size := by omega
                have HZ : Hid (wd N = .agg #[.int .u64 (hiN (pv s k)), .int .u64 (loN (pv s k))] ∧ E = 0) := by
                  rw [hke] at hn
                  refine ⟨?_, HG.out.2.trans (if_pos hn)⟩
                  rw [HG.out.1, parN, if_pos hn, hke]; rfl
                have hB := hI.2.2
                have hli : ¬ (k : Int) < (s.size : Int) := by omega
                clear hke hI hn
                go_wp2_with fail
                refine bodyPost_ret (v := .tuple #[.agg #[.int .u64 (hiN (pv s k)), .int .u64 (loN (pv s k))], .int .i64 0]) (by simp [results, Try.results24, go_sem, *]) rfl ⟨by rw [HZ.out.1, HZ.out.2], ?_⟩
                exact (hB.setCell (by simp) _).setCell (by simp) _
      · have hs0 : ((s.size : Int) == 0) = true := beq_iff_eq.2 (by omega)
        have HV := Hid.mk' (HEB.out fun h => h0 h.1)
        clear h0
        go_wp2_with fail
        refine bodyPost_ret (v := .tuple #[.agg #[.int .u64 0, .int .u64 0], .int .i64 5]) (by simp [results, Try.results24, go_sem, *]) rfl ⟨by rw [HV.out.1, HV.out.2], ?_⟩
        exact (HK.out.2.setCell (by simp) _).setCell (by simp) _
end Go.Proofs.Ytajkfopeomfacaa

/- The number of every text, or what is wrong. -/
namespace Go.Proofs.Ytajkfopeomfacaa
open Go.RowKit Go.Sort

set_option maxRecDepth 100000 in
set_option maxHeartbeats 2000000 in
theorem parses_eq (s : ByteArray) (N : Nat) (E : Int) (w : World)
    (hp1 : ∀ w, Calls Try.prog 23 #[.string s] w fun e w' => e = .returned (.tuple #[.agg #[.int .u64 (hiN N), .int .u64 (loN N)], .int .i64 E]) ∧ Below w.heap.size w w')
    (hp2 : ∀ w, Calls Try.prog 24 #[.string s] w fun e w' => e = .returned (.tuple #[.agg #[.int .u64 (hiN N), .int .u64 (loN N)], .int .i64 E]) ∧ Below w.heap.size w w') :
    Calls Try.prog 7 #[.string s] w fun e w' => e = .returned (.bool true) ∧ Below w.heap.size w w' := by
  have HF := Hid.mk' fixed_any
  have HP1 := Hid.mk' hp1
  have HP2 := Hid.mk' hp2
  have g1 := eqGuard_w
  have q1 := fun w => eqV N N w
  simp only [decide_true] at q1
  clear hp1 hp2
  have B0 := Below.refl w.heap.size w
  go_enter Try.func7, Try.ntmps7
  go_upto_region 2 with (go_at_call 23; refine (HP1.out _).mono ?_; rintro e w1 ⟨rfl, hb1⟩)
  have A1 := At.new w1 N
  have B1 := Below.one (Below.on B0 hb1) (.cells #[.int .u64 (hiN N), .int .u64 (loN N)] 24)
  clear hb1 B0
  generalize w1.alloc (.cells #[.int .u64 (hiN N), .int .u64 (loN N)] 24) = W1 at *
  generalize w1.heap.size = g1' at *
  have z10 := A1.c0; have z11 := A1.c1
  go_upto_region 3 with (go_at_call 24; refine (HP2.out _).mono ?_; rintro e w2 ⟨rfl, hb2⟩)
  clear z10 z11
  replace A1 := A1.on (.cells #[.int .u64 (hiN N), .int .u64 (loN N)] 24) hb2
  have A2 := At.new w2 N
  have B2 := Below.one (Below.on B1 hb2) (.cells #[.int .u64 (hiN N), .int .u64 (loN N)] 24)
  clear hb2 B1
  generalize w2.alloc (.cells #[.int .u64 (hiN N), .int .u64 (loN N)] 24) = W2 at *
  generalize w2.heap.size = g2 at *
  go_wp2_with (go_at_call 11; refine (HF.out _).mono ?_; rintro e w4 ⟨rfl, hb4⟩; have X1 := A1.stay hb4; have X10 := X1.c0; have X11 := X1.c1; have X2 := A2.stay hb4; have X20 := X2.c0; have X21 := X2.c1)
  go_ret
  exact ⟨by simp, Below.on B2 hb4⟩
theorem parses_any (s : ByteArray) (hs : s.size ≤ 9223372036854775807) (w : World) : Calls Try.prog 7 #[.string s] w fun e w' => e = .returned (.bool true) ∧ Below w.heap.size w w' := by
  by_cases hf : Frm s
  · exact parses_eq s (parN s) (parE s) w (fun w => parse_yes s w hs hf) (fun w => rparse_walk s _ _ w hs (fun h => absurd hf h) (fun _ => ⟨rfl, rfl⟩))
  · exact parses_eq s 0 5 w (fun w => parse_not s w hs hf) (fun w => rparse_walk s _ _ w hs (fun _ => ⟨rfl, rfl⟩) (fun h => absurd h hf))
end Go.Proofs.Ytajkfopeomfacaa
