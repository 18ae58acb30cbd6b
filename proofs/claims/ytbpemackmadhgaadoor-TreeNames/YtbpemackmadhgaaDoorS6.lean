/- slices.Equal at thresholds and at parameters; sameFn. -/
import Derived.Test.YtbpemackmadhgaaDoorS5
import Derived.Laws.StructEq
namespace Go.Proofs.YtbpemackmadhgaaDoor
open Go.RowKit

def samI : List Int → List Int → Bool
  | [], [] => true
  | x :: r, y :: t => x == y && samI r t
  | [], _ :: _ => false
  | _ :: _, [] => false
theorem samI_len : ∀ {l t : List Int}, l.length ≠ t.length → samI l t = false
  | [], [], h => by simp at h
  | [], _ :: _, _ => by simp [samI]
  | _ :: _, [], _ => by simp [samI]
  | x :: r, y :: t, h => by simp only [samI]; rw [samI_len (by simpa using h)]; simp
theorem samI_drop {l t : List Int} {j : Nat} (h : j < l.length) (h' : j < t.length) : samI (l.drop j) (t.drop j) = (l[j] == t[j] && samI (l.drop (j + 1)) (t.drop (j + 1))) := by
  rw [List.drop_eq_getElem_cons h, List.drop_eq_getElem_cons h', samI]
def samP (x y : Pa) : Bool := x.name.toList == y.name.toList && (x.lo == y.lo && x.hi == y.hi)
def samPs : List Pa → List Pa → Bool
  | [], [] => true
  | x :: r, y :: t => samP x y && samPs r t
  | [], _ :: _ => false
  | _ :: _, [] => false
theorem samPs_len : ∀ {l t : List Pa}, l.length ≠ t.length → samPs l t = false
  | [], [], h => by simp at h
  | [], _ :: _, _ => by simp [samPs]
  | _ :: _, [], _ => by simp [samPs]
  | x :: r, y :: t, h => by simp only [samPs]; rw [samPs_len (by simpa using h)]; simp
theorem samPs_drop {l t : List Pa} {j : Nat} (h : j < l.length) (h' : j < t.length) : samPs (l.drop j) (t.drop j) = (samP l[j] t[j] && samPs (l.drop (j + 1)) (t.drop (j + 1))) := by
  rw [List.drop_eq_getElem_cons h, List.drop_eq_getElem_cons h', samPs]

set_option maxRecDepth 100000 in
set_option maxHeartbeats 4000000 in
theorem equalI_any (l t : List Int) (a a' : Option Addr) (c c' : Nat) (w : World) (hin : Thr w a c l) (hin' : Thr w a' c' t) :
    Calls Tryd.prog 19 #[.slice a l.length c, .slice a' t.length c'] w fun e w' => e = .returned (.bool (samI l t)) ∧ Below w.heap.size w w' := by
  have HA : Hid (Thr w a c l) := hin
  have HB : Hid (Thr w a' c' t) := hin'
  have hl := hin.1
  have hc := hin.2.1
  have hl' := hin'.1
  have hc' := hin'.2.1
  clear hin hin'
  by_cases hle : l.length = t.length
  · have HL : Hid (l.length = t.length) := hle
    rw [← hle] at hl' ⊢
    clear hle
    go_enter Tryd.func19, Tryd.ntmps19
    go_wp2_with fail
    go_loopw [13] (fun t13 wr => ∃ (j nq : Nat), j ≤ l.length ∧ t13 = .int .i64 j ∧ samI (l.drop j) (t.drop j) = samI l t ∧ wr = w.drewN nq) (fun t13 _ => l.length - (intOf t13).toNat)
    case atStart => exact ⟨0, 0, Nat.zero_le _, rfl, rfl, rfl⟩
    case round =>
      obtain ⟨j, nq, hj, rfl, hcnt, rfl⟩ := hrel
      have HC : Hid (samI (l.drop j) (t.drop j) = samI l t) := hcnt
      clear hcnt
      by_cases hlt : j < l.length
      · have hlt' : j < t.length := by have := HL.out; omega
        obtain ⟨b, o, rfl, c0⟩ := rowW_at HA.out.2.2 hlt
        obtain ⟨b', o', rfl, d0⟩ := rowW_at HB.out.2.2 hlt'
        have hli : (j : Int) < (l.length : Int) := by omega
        have HD : Hid (samI (l.drop j) (t.drop j) = (l[j] == t[j] && samI (l.drop (j + 1)) (t.drop (j + 1)))) := samI_drop hlt hlt'
        generalize l[j] = x at *
        generalize t[j] = y at *
        clear hlt'
        go_wp2_with fail
        go_quiet (fail)
        cases ev : (x == y)
        · have ev' : (x != y) = true := by simp [bne, ev]
          rw [ev] at HD
          go_wp2_with fail
          go_ret
          exact ⟨ret_bool (by rw [← HC.out, HD.out]; rfl), ((Below.refl _ w).drewN _).drewN _⟩
        · have ev' : (x != y) = false := by simp [bne, ev]
          rw [ev] at HD
          go_wp2_with fail
          go_roundw
          case rel => exact ⟨j + 1, _, by omega, by go_num, by rw [← HC.out, HD.out]; rfl, rfl⟩
          case measure => simp [intOf]; omega
      · go_wp2_with fail
        go_ret
        refine ⟨ret_bool ?_, (Below.refl _ w).drewN _⟩
        rw [← HC.out, List.drop_eq_nil_of_le (by omega), List.drop_eq_nil_of_le (by have := HL.out; omega)]; rfl
  · have hne : ((l.length : Int) != (t.length : Int)) = true := by simp only [bne_iff_ne]; omega
    go_enter Tryd.func19, Tryd.ntmps19
    go_wp2_with fail
    go_ret
    exact ⟨ret_bool (by rw [samI_len hle]), Below.refl _ w⟩

theorem equalIn_pa (x y : Pa) (w : World) : (Op.equalIn 10000 41 (.agg #[.string x.name, .int .i64 x.lo, .int .i64 x.hi]) (.agg #[.string y.name, .int .i64 y.lo, .int .i64 y.hi])).run Tryd.prog w = .ok (samP x y) w := by
  have u2 := Tryd.underlying2
  have a2 := Tryd.isAgg2
  have z2 := Tryd.sizeOf2
  have u9 := Tryd.underlying9
  have a9 := Tryd.isAgg9
  have z9 := Tryd.sizeOf9
  have hS : Tryd.prog.underlying 41 = some (.struct (Tryd.prog.fieldsOf 41)) := by kernel_rfl
  have hp : Tryd.prog.stoodInHeld 41 = false := by kernel_rfl
  rw [show (10000 : Nat) = 9999 + 1 from rfl, run_equalIn_agg w 9999 41 _ _ hS hp]
  simp only [Program.fieldsOf, Tryd.underlying41]
  go_simp
  unfold samP
  by_cases h1 : x.name.toList = y.name.toList <;> by_cases h2 : x.lo = y.lo <;> by_cases h3 : x.hi = y.hi <;> simp [h1, h2, h3]

def HaveP (W : World) (a : Option Addr) (c : Nat) (l : List Pa) : Prop := l.length ≤ c ∧ c * 32 ≤ 140737488351232 ∧ RowIn W a 3 (l.map Pa.cells)
set_option maxRecDepth 100000 in
set_option maxHeartbeats 4000000 in
theorem equalP_any (l t : List Pa) (a a' : Option Addr) (c c' : Nat) (w : World) (hin : HaveP w a c l) (hin' : HaveP w a' c' t) :
    Calls Tryd.prog 33 #[.slice a l.length c, .slice a' t.length c'] w fun e w' => e = .returned (.bool (samPs l t)) ∧ Below w.heap.size w w' := by
  have HA : Hid (HaveP w a c l) := hin
  have HB : Hid (HaveP w a' c' t) := hin'
  have hl := hin.1
  have hc := hin.2.1
  have hl' := hin'.1
  have hc' := hin'.2.1
  clear hin hin'
  by_cases hle : l.length = t.length
  · have HL : Hid (l.length = t.length) := hle
    rw [← hle] at hl' ⊢
    clear hle
    go_enter Tryd.func33, Tryd.ntmps33
    go_wp2_with fail
    go_loopw [13] (fun t13 wr => ∃ (j nq : Nat), j ≤ l.length ∧ t13 = .int .i64 j ∧ samPs (l.drop j) (t.drop j) = samPs l t ∧ wr = w.drewN nq) (fun t13 _ => l.length - (intOf t13).toNat)
    case atStart => exact ⟨0, 0, Nat.zero_le _, rfl, rfl, rfl⟩
    case round =>
      obtain ⟨j, nq, hj, rfl, hcnt, rfl⟩ := hrel
      have HC : Hid (samPs (l.drop j) (t.drop j) = samPs l t) := hcnt
      clear hcnt
      by_cases hlt : j < l.length
      · have hlt' : j < t.length := by have := HL.out; omega
        obtain ⟨b, o, rfl, c0, c1, c2⟩ := rowP_at HA.out.2.2 hlt
        obtain ⟨b', o', rfl, d0, d1, d2⟩ := rowP_at HB.out.2.2 hlt'
        have hli : (j : Int) < (l.length : Int) := by omega
        have HD : Hid (samPs (l.drop j) (t.drop j) = (samP l[j] t[j] && samPs (l.drop (j + 1)) (t.drop (j + 1)))) := samPs_drop hlt hlt'
        generalize l[j] = x at *
        generalize t[j] = y at *
        clear hlt'
        go_wp2_with fail
        have hq := fun w => equalIn_pa x y w
        have hg : ∀ (w : World) (op : BinOp) (a b : Operand) (xs ys : Array Value), (eqGuard op 41 a b (.agg xs) (.agg ys)).run Tryd.prog w = .ok () w := fun w op a b xs ys => run_eqGuard_agg w op 41 a b xs ys (by kernel_rfl)
        go_quiet (fail)
        clear hq hg
        cases ev : samP x y
        · rw [ev] at HD
          go_wp2_with fail
          go_ret
          exact ⟨ret_bool (by rw [← HC.out, HD.out]; rfl), ((Below.refl _ w).drewN _).drewN _⟩
        · rw [ev] at HD
          go_wp2_with fail
          go_roundw
          case rel => exact ⟨j + 1, _, by omega, by go_num, by rw [← HC.out, HD.out]; rfl, rfl⟩
          case measure => simp [intOf]; omega
      · go_wp2_with fail
        go_ret
        refine ⟨ret_bool ?_, (Below.refl _ w).drewN _⟩
        rw [← HC.out, List.drop_eq_nil_of_le (by omega), List.drop_eq_nil_of_le (by have := HL.out; omega)]; rfl
  · have hne : ((l.length : Int) != (t.length : Int)) = true := by simp only [bne_iff_ne]; omega
    go_enter Tryd.func33, Tryd.ntmps33
    go_wp2_with fail
    go_ret
    exact ⟨ret_bool (by rw [samPs_len hle]), Below.refl _ w⟩

def samF (x y : Fu) : Bool := x.name.toList == y.name.toList && (samPs x.params y.params && samSs x.body y.body)
def samFs : List Fu → List Fu → Bool
  | [], [] => true
  | x :: r, y :: t => samF x y && samFs r t
  | [], _ :: _ => false
  | _ :: _, [] => false
theorem samFs_len : ∀ {l t : List Fu}, l.length ≠ t.length → samFs l t = false
  | [], [], h => by simp at h
  | [], _ :: _, _ => by simp [samFs]
  | _ :: _, [], _ => by simp [samFs]
  | x :: r, y :: t, h => by simp only [samFs]; rw [samFs_len (by simpa using h)]; simp
theorem samFs_drop {l t : List Fu} {j : Nat} (h : j < l.length) (h' : j < t.length) : samFs (l.drop j) (t.drop j) = (samF l[j] t[j] && samFs (l.drop (j + 1)) (t.drop (j + 1))) := by
  rw [List.drop_eq_getElem_cons h, List.drop_eq_getElem_cons h', samFs]

set_option maxRecDepth 100000 in
set_option maxHeartbeats 4000000 in
theorem sameFn_any (x y : Fu) (w : World) (hx : x.In w) (hy : y.In w) : Calls Tryd.prog 21 #[x.val, y.val] w fun e w' => e = .returned (.bool (samF x y)) ∧ Below w.heap.size w w' := by
  have hb1 := ((Below.refl _ w).alloc (Nat.le_refl _) (.cells #[.string x.name, .slice x.pa x.params.length x.pc, .slice x.ba x.body.length x.bc] 48)).alloc (by simp) (.cells #[.string y.name, .slice y.pa y.params.length y.pc, .slice y.ba y.body.length y.bc] 48)
  have HP : Hid (∀ w', Below w.heap.size w w' → Calls Tryd.prog 33 #[.slice x.pa x.params.length x.pc, .slice y.pa y.params.length y.pc] w' fun e w'' => e = .returned (.bool (samPs x.params y.params)) ∧ Below w'.heap.size w' w'') := fun w' hb => equalP_any _ _ _ _ _ _ w' ⟨hx.2.1, hx.2.2.1, hx.2.2.2.2.1.below hb⟩ ⟨hy.2.1, hy.2.2.1, hy.2.2.2.2.1.below hb⟩
  have HS : Hid (∀ w', Below w.heap.size w w' → Calls Tryd.prog 34 #[.slice x.ba x.body.length x.bc, .slice y.ba y.body.length y.bc] w' fun e w'' => e = .returned (.bool (samSs x.body y.body)) ∧ Below w'.heap.size w' w'') := fun w' hb => sameStmts_any _ _ _ _ _ _ w' (hx.2.2.2.2.2.2.stay hb) (hy.2.2.2.2.2.2.stay hb)
  have HE : Hid (samF x y = (x.name.toList == y.name.toList && (samPs x.params y.params && samSs x.body y.body))) := (rfl : samF x y = _)
  clear hx hy
  generalize samF x y = res at HE ⊢
  generalize samPs x.params y.params = rp at HE HP
  generalize samSs x.body y.body = rs at HE HS
  unfold Fu.val
  cases e1 : (x.name.toList == y.name.toList)
  · go_enter Tryd.func21, Tryd.ntmps21
    go_wp2_with fail
    go_ret
    exact ⟨ret_bool (by rw [HE.out, e1]; rfl), hb1⟩
  · go_enter Tryd.func21, Tryd.ntmps21
    go_wp2_with fail
    refine (HP.out _ hb1).mono ?_
    rintro e w1 ⟨rfl, k0⟩
    obtain ⟨hX, hY, _⟩ := two_cells k0
    have c2 := hX 2 _ rfl
    have d2 := hY 2 _ rfl
    have hb2 : Below w.heap.size w w1 := hb1.trans (k0.mono hb1.size)
    clear hX hY k0 hb1
    cases rp
    · go_wp2_with fail
      go_ret
      exact ⟨ret_bool (by rw [HE.out, e1]; rfl), hb2⟩
    · go_wp2_with fail
      refine (HS.out _ hb2).mono ?_
      rintro e w2 ⟨rfl, k1⟩
      go_wp2_with fail
      go_ret
      exact ⟨ret_bool (by rw [HE.out, e1]; rfl), hb2.trans (k1.mono hb2.size)⟩
end Go.Proofs.YtbpemackmadhgaaDoor
