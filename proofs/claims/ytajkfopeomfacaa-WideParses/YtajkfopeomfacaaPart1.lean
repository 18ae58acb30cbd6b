/- Plain: numbers of two words, their digits to the base 65536. -/
import Derived.WalkKit
import Derived.Lib.ItoaMem
import Derived.Lib.ItoaLen
import Derived.Test.YtajkfopeomfacaaRows
import Derived.WalkSpells
import Derived.WalkLawsBesides
import Derived.ProofKit
import Derived.Laws.Externs
import Derived.Lib.Mul64
import Derived.Laws.Bits64b
import Derived.Laws.StructEq
import Derived.Deep.RegionHeld3
import Derived.BigQuiet
import Derived.Lib.QuietBelow
import Derived.Deep.Cut
import Derived.Deep.CutRange
import Derived.Maps.AppendAt
import Derived.Deep.DeepAppendRoom
import Derived.Lib.Walk
import Derived.ChangeMaps5
import Derived.OpenShut
import Derived.Lib.SmallJoins
import Derived.Deep.DeepHandedRow
namespace Go.Proofs.Ytajkfopeomfacaa
open Go.RowKit

/-- A number of two words. -/
def wd (n : Nat) : Value := .agg #[.int .u64 ((n / 18446744073709551616 : Nat) : Int), .int .u64 ((n % 18446744073709551616 : Nat) : Int)]
theorem wd_of {h l : Nat} (hl : l < 18446744073709551616) : Value.agg #[.int .u64 (h : Int), .int .u64 (l : Int)] = wd (h * 18446744073709551616 + l) := by
  unfold wd
  have e1 : (h * 18446744073709551616 + l) / 18446744073709551616 = h := by omega
  have e2 : (h * 18446744073709551616 + l) % 18446744073709551616 = l := by omega
  rw [e1, e2]

/-- The number of a row of digits, the lowest first. -/
def dv : List Nat → Nat
  | [] => 0
  | x :: l => x + 65536 * dv l
theorem dv_append : ∀ (l m : List Nat), dv (l ++ m) = dv l + 65536 ^ l.length * dv m
  | [], m => by simp [dv]
  | x :: l, m => by
    rw [List.cons_append, dv, dv, dv_append l m, List.length_cons, Nat.pow_succ, Nat.mul_add, Nat.mul_comm (65536 ^ l.length) 65536, Nat.mul_assoc]
    omega
theorem dv_lt : ∀ (l : List Nat), (∀ x ∈ l, x < 65536) → dv l < 65536 ^ l.length
  | [], _ => by simp [dv]
  | x :: l, h => by
    have h1 := dv_lt l fun y hy => h y (by simp [hy])
    have h2 := h x (by simp)
    rw [dv, List.length_cons, Nat.pow_succ]
    omega
/-- A digit of a number. -/
def dg (n i : Nat) : Nat := n / 65536 ^ i % 65536
def dgs (n k : Nat) : List Nat := (List.range k).map (dg n)
theorem dg_lt (n i : Nat) : dg n i < 65536 := Nat.mod_lt _ (by decide)
theorem dgs_length (n k : Nat) : (dgs n k).length = k := by simp [dgs]
theorem dgs_lt (n k : Nat) : ∀ x ∈ dgs n k, x < 65536 := fun x hx => by
  obtain ⟨i, _, rfl⟩ := List.mem_map.1 hx
  exact dg_lt n i
theorem dgs_succ (n k : Nat) : dgs n (k + 1) = dgs n k ++ [dg n k] := by simp [dgs, List.range_succ]
theorem dv_dgs (n : Nat) : ∀ k, dv (dgs n k) = n % 65536 ^ k
  | 0 => by simp [dgs, dv, Nat.mod_one]
  | k + 1 => by
    rw [dgs_succ, dv_append, dv_dgs n k, dgs_length, dv, dv, dg, Nat.pow_succ, Nat.mod_mul]
    simp
theorem dgs_get (n k i : Nat) (h : i < k) : (dgs n k)[i]? = some (dg n i) := by simp [dgs, h]

/-- What is left of a carry. -/
def ctl (o : Nat) : List Nat := if o = 0 then [] else o % 65536 :: ctl (o / 65536)
termination_by o
decreasing_by omega
theorem ctl_zero : ctl 0 = [] := by rw [ctl]; simp
theorem ctl_pos {o : Nat} (h : 0 < o) : ctl o = o % 65536 :: ctl (o / 65536) := by rw [ctl, if_neg (by omega)]
theorem ctl_dv (o : Nat) : dv (ctl o) = o := by
  induction o using Nat.strongRecOn with
  | _ o ih =>
    by_cases h : o = 0
    · subst h; rw [ctl_zero]; rfl
    · rw [ctl_pos (by omega), dv, ih _ (by omega)]; omega
theorem ctl_lt (o : Nat) : ∀ x ∈ ctl o, x < 65536 := by
  induction o using Nat.strongRecOn with
  | _ o ih =>
    by_cases h : o = 0
    · subst h; rw [ctl_zero]; intro x hx; cases hx
    · rw [ctl_pos (by omega)]
      intro x hx
      rcases List.mem_cons.1 hx with rfl | hx
      · omega
      · exact ih _ (by omega) x hx
theorem ctl_len (o k : Nat) (h : o < 65536 ^ k) : (ctl o).length ≤ k := by
  induction k generalizing o with
  | zero => have : o = 0 := by simpa using h
            subst this; rw [ctl_zero]; simp
  | succ k ih =>
    by_cases h0 : o = 0
    · subst h0; rw [ctl_zero]; simp
    · rw [ctl_pos (by omega), List.length_cons]
      have := ih (o / 65536) (by rw [Nat.pow_succ] at h; exact Nat.div_lt_of_lt_mul (by rw [Nat.mul_comm]; exact h))
      omega
/-- Digits, each below the base: with a carry that comes in. -/
def car : List Nat → Nat → List Nat
  | [], o => ctl o
  | x :: l, o => (x + o) % 65536 :: car l ((x + o) / 65536)
theorem car_dv : ∀ (l : List Nat) (o : Nat), dv (car l o) = dv l + o
  | [], o => by rw [car, ctl_dv, dv]; omega
  | x :: l, o => by rw [car, dv, dv, car_dv l]; omega
theorem car_lt : ∀ (l : List Nat) (o : Nat), ∀ x ∈ car l o, x < 65536
  | [], o => ctl_lt o
  | x :: l, o => by
    rw [car]
    intro y hy
    rcases List.mem_cons.1 hy with rfl | hy
    · omega
    · exact car_lt l _ y hy
theorem car_len : ∀ (l : List Nat) (o : Nat), l.length ≤ (car l o).length
  | [], o => by simp
  | x :: l, o => by rw [car, List.length_cons, List.length_cons]; have := car_len l ((x + o) / 65536); omega
/-- The carry behind the first i digits, and what they have come to. -/
def ovr : List Nat → Nat → Nat → Nat
  | _, 0, o => o
  | [], _, o => o
  | x :: l, i + 1, o => ovr l i ((x + o) / 65536)
def hea : List Nat → Nat → Nat → List Nat
  | _, 0, _ => []
  | [], _, _ => []
  | x :: l, i + 1, o => (x + o) % 65536 :: hea l i ((x + o) / 65536)
theorem ovr_succ : ∀ (l : List Nat) (i o : Nat) (h : i < l.length), ovr l (i + 1) o = (l[i] + ovr l i o) / 65536
  | x :: l, 0, o, _ => by simp [ovr]
  | x :: l, i + 1, o, h => by
    show ovr l (i + 1) ((x + o) / 65536) = _
    rw [ovr_succ l i _ (by simpa using h)]
    simp [ovr]
theorem hea_succ : ∀ (l : List Nat) (i o : Nat) (h : i < l.length), hea l (i + 1) o = hea l i o ++ [(l[i] + ovr l i o) % 65536]
  | x :: l, 0, o, _ => by simp [ovr, hea]
  | x :: l, i + 1, o, h => by
    show _ :: hea l (i + 1) ((x + o) / 65536) = _
    rw [hea_succ l i _ (by simpa using h)]
    simp [ovr, hea]
theorem car_hea : ∀ (l : List Nat) (o : Nat), car l o = hea l l.length o ++ ctl (ovr l l.length o)
  | [], o => by simp [car, hea, ovr]
  | x :: l, o => by
    rw [car, car_hea l, List.length_cons]
    simp [hea, ovr]
theorem hea_len : ∀ (l : List Nat) (i o : Nat), i ≤ l.length → (hea l i o).length = i
  | _, 0, _, _ => by simp [hea]
  | [], i + 1, _, h => by simp at h
  | x :: l, i + 1, o, h => by simp [hea, hea_len l i _ (by simpa using h)]
theorem ovr_lt (l : List Nat) (hl : ∀ x ∈ l, x < 1099511627776) : ∀ (i : Nat) (o : Nat), o < 1099511627776 → ovr l i o < 1099511627776 := by
  induction l with
  | nil => intro i o h; cases i <;> exact h
  | cons x l ih =>
    intro i o h
    cases i with
    | zero => exact h
    | succ i =>
      have := hl x (by simp)
      exact ih (fun y hy => hl y (by simp [hy])) i _ (by omega)
end Go.Proofs.Ytajkfopeomfacaa

/- Words of 64 bits: sums with a carry, products; numbers of two words: Of, Add, Mul. -/
namespace Go.Proofs.Ytajkfopeomfacaa
open Go.RowKit Go.Lib

theorem Hid.mk' {p : Prop} (h : p) : Hid p := h
theorem beq_no {a b : Int} (h : a ≠ b) : (a == b) = false := by rw [beq_eq_false_iff_ne]; exact h
theorem Below.on {A B C : World} (h : Below A.heap.size A B) (k : Below B.heap.size B C) : Below A.heap.size A C := h.trans (k.mono h.size)
theorem Below.one {A B : World} (h : Below A.heap.size A B) (o : Obj) : Below A.heap.size A (B.alloc o) := h.alloc h.size o

theorem run_add (x y c : Nat) (hc : c ≤ 1) (w : World) :
    (callFunc 25 #[.int .u64 x, .int .u64 y, .int .u64 c]).run Try.prog w =
      .ok (.value (.tuple #[.int .u64 (((x + y + c) % 18446744073709551616 : Nat) : Int), .int .u64 (((x + y + c) / 18446744073709551616 : Nat) : Int)])) w := by
  rw [run_callFunc_extern Try.func25 (by kernel_rfl) (by kernel_rfl) (by kernel_rfl) (e := add64Entry) (by kernel_rfl), run_add64 x y c (by omega) (by omega) (by omega) (by omega)]
  simp only [Result.andThen]
  congr 5 <;> omega

theorem maskN (a : Nat) (ha : a < 18446744073709551616) : bits .and .u64 (a : Int) 4294967295 = ((a % 4294967296 : Nat) : Int) := by
  have h := bits_and_u64_nat a 4294967295 ha (by omega)
  have e : a &&& 4294967295 = a % 4294967296 := Nat.and_two_pow_sub_one_eq_mod a 32
  rw [e] at h
  exact h
theorem divN (a : Nat) : (a : Int) / 4294967296 = ((a / 4294967296 : Nat) : Int) := by omega
theorem mulN (a b : Nat) : (a : Int) * (b : Int) = ((a * b : Nat) : Int) := (Int.natCast_mul a b).symm
theorem addN (a b : Nat) : (a : Int) + (b : Int) = ((a + b : Nat) : Int) := (Int.natCast_add a b).symm
theorem wrapN (a : Nat) (ha : a < 18446744073709551616) : IntKind.u64.wrap (a : Int) = (a : Int) := by rw [IntKind.wrap_u64]; omega
theorem wrapM (a : Nat) : IntKind.u64.wrap (a : Int) = ((a % 18446744073709551616 : Nat) : Int) := by rw [IntKind.wrap_u64]; omega

set_option maxHeartbeats 1000000 in
theorem mul64_any (x y : Nat) (hx : x < 18446744073709551616) (hy : y < 18446744073709551616) (w : World) :
    Calls Try.prog 30 #[.int .u64 x, .int .u64 y] w fun e w' => e = .returned (.tuple #[.int .u64 ((x * y / 18446744073709551616 : Nat) : Int), .int .u64 ((x * y % 18446744073709551616 : Nat) : Int)]) ∧ w' = w := by
  obtain ⟨bd, bt, bw, hhi⟩ := Lib.mul64_hi x y hx hy
  have ba := Lib.half_mul_le (a := x / 4294967296) (b := y / 4294967296) (by omega) (by omega)
  have bb := Lib.half_mul_le (a := x / 4294967296) (b := y % 4294967296) (by omega) (by omega)
  have bc := Lib.half_mul_le (a := x % 4294967296) (b := y / 4294967296) (by omega) (by omega)
  have ba' : x / 4294967296 * (y / 4294967296) < 18446744073709551616 := by omega
  have bb' : x / 4294967296 * (y % 4294967296) < 18446744073709551616 := by omega
  have bc' : x % 4294967296 * (y / 4294967296) < 18446744073709551616 := by omega
  have bh1 : x / 4294967296 * (y / 4294967296) + (x / 4294967296 * (y % 4294967296) + x % 4294967296 * (y % 4294967296) / 4294967296) / 4294967296 < 18446744073709551616 := by omega
  have bh : x / 4294967296 * (y / 4294967296) + (x / 4294967296 * (y % 4294967296) + x % 4294967296 * (y % 4294967296) / 4294967296) / 4294967296 + ((x / 4294967296 * (y % 4294967296) + x % 4294967296 * (y % 4294967296) / 4294967296) % 4294967296 + x % 4294967296 * (y / 4294967296)) / 4294967296 < 18446744073709551616 := by omega
  go_enter Try.func30, Try.ntmps30
  go_wp2
  simp only [maskN x hx, maskN y hy, divN, mulN, addN, wrapN _ bd, wrapN _ bb', wrapN _ bt, maskN _ bt, wrapN _ bc', wrapN _ bw, wrapN _ ba', wrapN _ bh1, wrapN _ bh, wrapM (x * y)]
  rw [hhi]
  go_ret2
  exact ⟨rfl, rfl⟩
end Go.Proofs.Ytajkfopeomfacaa

/- Numbers of two words: Of, Add, Mul, Compare. -/
namespace Go.Proofs.Ytajkfopeomfacaa
open Go.RowKit Go.Lib

/-- 2^128: the first number without room. -/
def noRoom : Nat := 340282366920938463463374607431768211456
def sumN (m n : Nat) : Nat := if m + n < noRoom then m + n else 0

set_option maxHeartbeats 400000 in
theorem of_any (n : Nat) (hn : n < 18446744073709551616) (w : World) : Calls Try.prog 14 #[.int .u64 n] w fun e w' => e = .returned (wd n) ∧ Below w.heap.size w w' := by
  have hb := fun o => (Below.refl _ w).alloc (Nat.le_refl _) o
  go_enter Try.func14, Try.ntmps14
  go_wp2
  refine bodyPost_ret (v := .agg #[.int .u64 0, .int .u64 n]) (by simp [results, Try.results14, go_sem]) rfl ⟨?_, hb _⟩
  have := wd_of (h := 0) hn
  simp at this
  rw [← this]

set_option maxHeartbeats 1000000 in
theorem mul_any (x y : Nat) (hx : x < 18446744073709551616) (hy : y < 18446744073709551616) (w : World) : Calls Try.prog 17 #[.int .u64 x, .int .u64 y] w fun e w' => e = .returned (wd (x * y)) ∧ Below w.heap.size w w' := by
  have hb := fun o => (Below.refl _ w).alloc (Nat.le_refl _) o
  have HM : Hid (∀ w, Calls Try.prog 30 #[.int .u64 x, .int .u64 y] w fun e w' => e = .returned (.tuple #[.int .u64 ((x * y / 18446744073709551616 : Nat) : Int), .int .u64 ((x * y % 18446744073709551616 : Nat) : Int)]) ∧ w' = w) := mul64_any x y hx hy
  unfold wd
  generalize x * y / 18446744073709551616 = h at *
  generalize x * y % 18446744073709551616 = l at *
  go_enter Try.func17, Try.ntmps17
  go_wp2_with (go_at_call 30; refine (HM.out _).mono ?_; rintro e w' ⟨rfl, hw⟩; rw [hw])
  refine bodyPost_ret (v := .agg #[.int .u64 h, .int .u64 l]) (by simp [results, Try.results17, go_sem]) rfl ⟨rfl, hb _⟩

set_option maxHeartbeats 1000000 in
theorem add_core (h1 l1 h2 l2 : Nat) (b1 : h1 < 18446744073709551616) (b2 : l1 < 18446744073709551616) (b3 : h2 < 18446744073709551616) (b4 : l2 < 18446744073709551616) (w : World) :
    Calls Try.prog 9 #[.agg #[.int .u64 h1, .int .u64 l1], .agg #[.int .u64 h2, .int .u64 l2]] w fun e w' => e = .returned (.tuple #[wd (sumN (h1 * 18446744073709551616 + l1) (h2 * 18446744073709551616 + l2)), .bool (decide (h1 * 18446744073709551616 + l1 + (h2 * 18446744073709551616 + l2) < noRoom))]) ∧ Below w.heap.size w w' := by
  have a1 : ∀ w, (callFunc 25 #[.int .u64 l1, .int .u64 l2, .int .u64 0]).run Try.prog w = .ok (.value (.tuple #[.int .u64 (((l1 + l2) % 18446744073709551616 : Nat) : Int), .int .u64 (((l1 + l2) / 18446744073709551616 : Nat) : Int)])) w := fun w => run_add l1 l2 0 (by omega) w
  have a2 : ∀ w, (callFunc 25 #[.int .u64 h1, .int .u64 h2, .int .u64 ((l1 + l2) / 18446744073709551616 : Nat)]).run Try.prog w = .ok (.value (.tuple #[.int .u64 (((h1 + h2 + (l1 + l2) / 18446744073709551616) % 18446744073709551616 : Nat) : Int), .int .u64 (((h1 + h2 + (l1 + l2) / 18446744073709551616) / 18446744073709551616 : Nat) : Int)])) w := fun w => run_add h1 h2 _ (by omega) w
  have hb := fun (o1 o2 o3 : Obj) => (Below.one (Below.one (Below.one (Below.refl _ w) o1) o2) o3 : Below w.heap.size w _)
  by_cases hlt : h1 * 18446744073709551616 + l1 + (h2 * 18446744073709551616 + l2) < noRoom
  · have HE : Hid (wd (sumN (h1 * 18446744073709551616 + l1) (h2 * 18446744073709551616 + l2)) = .agg #[.int .u64 (((h1 + h2 + (l1 + l2) / 18446744073709551616) % 18446744073709551616 : Nat) : Int), .int .u64 (((l1 + l2) % 18446744073709551616 : Nat) : Int)]) := by
      show _ = _
      rw [sumN, if_pos hlt, wd_of (by omega)]
      unfold noRoom at hlt
      exact congrArg wd (by omega)
    have HD : Hid (decide (h1 * 18446744073709551616 + l1 + (h2 * 18446744073709551616 + l2) < noRoom) = true) := decide_eq_true hlt
    have hz : (h1 + h2 + (l1 + l2) / 18446744073709551616) / 18446744073709551616 = 0 := by unfold noRoom at hlt; omega
    rw [hz] at a2
    clear hlt hz
    generalize (h1 + h2 + (l1 + l2) / 18446744073709551616) % 18446744073709551616 = H at *
    generalize (l1 + l2) % 18446744073709551616 = L at *
    generalize (l1 + l2) / 18446744073709551616 = C at *
    go_enter Try.func9, Try.ntmps9
    go_wp2
    refine bodyPost_ret (v := .tuple #[.agg #[.int .u64 H, .int .u64 L], .bool true]) (by simp [results, Try.results9, go_sem]) rfl ⟨by rw [HE.out, HD.out], hb _ _ _⟩
  · have HE : Hid (wd (sumN (h1 * 18446744073709551616 + l1) (h2 * 18446744073709551616 + l2)) = .agg #[.int .u64 0, .int .u64 0]) := by
      show _ = _
      rw [sumN, if_neg hlt]
      rfl
    have HD : Hid (decide (h1 * 18446744073709551616 + l1 + (h2 * 18446744073709551616 + l2) < noRoom) = false) := decide_eq_false hlt
    have hz : (h1 + h2 + (l1 + l2) / 18446744073709551616) / 18446744073709551616 = 1 := by unfold noRoom at hlt; omega
    rw [hz] at a2
    clear hlt hz
    generalize (h1 + h2 + (l1 + l2) / 18446744073709551616) % 18446744073709551616 = H at *
    generalize (l1 + l2) % 18446744073709551616 = L at *
    generalize (l1 + l2) / 18446744073709551616 = C at *
    go_enter Try.func9, Try.ntmps9
    go_wp2
    refine bodyPost_ret (v := .tuple #[.agg #[.int .u64 0, .int .u64 0], .bool false]) (by simp [results, Try.results9, go_sem]) rfl ⟨by rw [HE.out, HD.out], hb _ _ _⟩
theorem halves {n : Nat} (h : n < noRoom) : n / 18446744073709551616 < 18446744073709551616 ∧ n % 18446744073709551616 < 18446744073709551616 ∧ n / 18446744073709551616 * 18446744073709551616 + n % 18446744073709551616 = n := by
  unfold noRoom at h
  omega
theorem add_any (m n : Nat) (hm : m < noRoom) (hn : n < noRoom) (w : World) : Calls Try.prog 9 #[wd m, wd n] w fun e w' => e = .returned (.tuple #[wd (sumN m n), .bool (decide (m + n < noRoom))]) ∧ Below w.heap.size w w' := by
  obtain ⟨a1, a2, a3⟩ := halves hm
  obtain ⟨b1, b2, b3⟩ := halves hn
  have := add_core _ _ _ _ a1 a2 b1 b2 w
  rw [a3, b3] at this
  exact this

theorem eqGuard_w (w : World) (op : BinOp) (a b : Operand) (xs ys : Array Value) : (eqGuard op 24 a b (.agg xs) (.agg ys)).run Try.prog w = .ok () w := run_eqGuard_agg w op 24 a b xs ys (by kernel_rfl)
theorem equalIn_w (a b a' b' : Int) (w : World) : (Op.equalIn 10000 24 (.agg #[.int .u64 a, .int .u64 b]) (.agg #[.int .u64 a', .int .u64 b'])).run Try.prog w = .ok (a == a' && b == b') w := by
  have u3 := Try.underlying22
  have a3 := Try.isAgg22
  have z3 := Try.sizeOf22
  have hS : Try.prog.underlying 24 = some (.struct (Try.prog.fieldsOf 24)) := by kernel_rfl
  have hp : Try.prog.stoodInHeld 24 = false := by kernel_rfl
  rw [show (10000 : Nat) = 9999 + 1 from rfl, run_equalIn_agg w 9999 24 _ _ hS hp]
  simp only [Program.fieldsOf, Try.underlying24]
  go_simp
  by_cases h1 : a = a' <;> by_cases h2 : b = b' <;> simp [h1, h2]
end Go.Proofs.Ytajkfopeomfacaa

/- Tools: cells of new blocks, rows that the call owns. -/
namespace Go.Proofs.Ytajkfopeomfacaa
open Go.RowKit Go.Lib Go.Sort

theorem retI {k : IntKind} {a b : Int} (h : a = b) : Ending.returned (.int k a) = .returned (.int k b) := by rw [h]
theorem lt_of_cell {W : World} {p : Addr} {v : Value} (h : W.cell? p = some v) : p.block < W.heap.size := by
  by_cases hlt : p.block < W.heap.size
  · exact hlt
  · unfold World.cell? at h
    rw [Array.getElem?_eq_none (by omega)] at h
    cases h
theorem cell_new (w : World) (cs : Array Value) (t : TypeId) (j : Nat) (v : Value) (h : cs[j]? = some v) : ∀ d os, (grow (redrawn (w.alloc (.cells cs t)) d) os).cell? ⟨w.heap.size, j, none⟩ = some v :=
  fun d os => cell_regrown ((World.cell?_alloc_at cs t _ _ rfl).trans h) d os
theorem new_cell (W : World) (v : Value) (t : TypeId) : ∀ j u, [v][j]? = some u → (W.alloc (.cells #[v] t)).cell? ((⟨W.heap.size, 0, none⟩ : Addr).add j) = some u := by
  intro j u hj
  match j, hj with
  | 0, hj => simp at hj; subst hj; simp [Addr.add]
def ob (v : Value) : List Nat := v.ownBlock.toList
theorem gown_keep {W W' : World} {N n sz : Nat} {T : TypeId} {v : Value} {xs : List Value} (h : W.ownsRow N T sz v n xs) (hk : ∀ g ∈ ob v, W'.heap[g]? = W.heap[g]?) : W'.ownsRow N T sz v n xs := by
  refine ⟨h.1, ?_⟩
  rcases h.2 with h0 | ⟨g', cap, cur, rfl, h1, h2, h3⟩
  · exact .inl h0
  · exact .inr ⟨g', cap, cur, rfl, h1, (hk g' (by simp [ob, Value.ownBlock])).trans h2, h3⟩
theorem gown_form {W : World} {N n sz : Nat} {T : TypeId} {v : Value} {xs : List Value} (h : W.ownsRow N T sz v n xs) : ∃ ao cap, v = .slice ao n cap := by
  rcases h.2 with ⟨rfl, rfl⟩ | ⟨g', cap, cur, rfl, _⟩
  · exact ⟨_, _, rfl⟩
  · exact ⟨_, _, rfl⟩
/-- What a row holds, cell by cell. -/
theorem gown_cell {W : World} {N n sz : Nat} {T : TypeId} {v : Value} {xs : List Value} (h : W.ownsRow N T sz v n xs) {j : Nat} {u : Value} (hj : xs[j]? = some u) : ∃ g cap, v = .slice (some ⟨g, 0, none⟩) n cap ∧ n ≤ cap ∧ W.cell? ⟨g, j, none⟩ = some u ∧ W.frozen? ⟨g, j, none⟩ = false := by
  rcases h.2 with ⟨rfl, rfl⟩ | ⟨g', cap, cur, rfl, h1, h2, h3, h4, h5, h6⟩
  · have := (List.getElem?_eq_some_iff.1 hj).1; have h1 := h.1; omega
  · refine ⟨g', cap, rfl, h3, ?_, Lib.frozen_of_heap h2 _⟩
    rw [Lib.cell_of_heap h2, ← Array.getElem?_toList]
    rw [← h6, List.getElem?_take] at hj
    split at hj
    · exact hj
    · cases hj
end Go.Proofs.Ytajkfopeomfacaa

/- Numbers of two words: Compare, Fits, Times. -/
namespace Go.Proofs.Ytajkfopeomfacaa
open Go.RowKit Go.Lib Go.Sort

/-- -1, 0 or 1. -/
def cmpN (m n : Nat) : Int := if m = n then 0 else if m < n then -1 else 1

set_option maxHeartbeats 1000000 in
theorem compare_core (h1 l1 h2 l2 : Nat) (w : World) (b2 : l1 < 18446744073709551616) (b4 : l2 < 18446744073709551616) :
    Calls Try.prog 12 #[.agg #[.int .u64 h1, .int .u64 l1], .agg #[.int .u64 h2, .int .u64 l2]] w fun e w' => e = .returned (.int .i64 (cmpN (h1 * 18446744073709551616 + l1) (h2 * 18446744073709551616 + l2))) ∧ Below w.heap.size w w' := by
  have hb := fun (o1 o2 : Obj) => (Below.one (Below.one (Below.refl _ w) o1) o2 : Below w.heap.size w _)
  have g1 := eqGuard_w
  have q1 := fun w => equalIn_w h1 l1 h2 l2 w
  by_cases e1 : h1 = h2
  · subst e1
    by_cases e2 : l1 = l2
    · subst e2
      have HC : Hid (cmpN (h1 * 18446744073709551616 + l1) (h1 * 18446744073709551616 + l1) = 0) := by show _ = _; simp [cmpN]
      simp only [beq_self_eq_true, Bool.and_self] at q1
      go_enter Try.func12, Try.ntmps12
      go_wp2
      go_ret
      exact ⟨retI HC.out.symm, hb _ _⟩
    · have e3 := beq_no (show (l1 : Int) ≠ l2 by omega)
      simp only [beq_self_eq_true, e3, Bool.and_false] at q1
      by_cases e4 : l1 < l2
      · have HC : Hid (cmpN (h1 * 18446744073709551616 + l1) (h1 * 18446744073709551616 + l2) = -1) := by show _ = _; rw [cmpN, if_neg (by omega), if_pos (by omega)]
        have e5 : (l1 : Int) < l2 := by omega
        clear e2
        go_enter Try.func12, Try.ntmps12
        go_wp2
        go_ret
        exact ⟨retI HC.out.symm, hb _ _⟩
      · have HC : Hid (cmpN (h1 * 18446744073709551616 + l1) (h1 * 18446744073709551616 + l2) = 1) := by show _ = _; rw [cmpN, if_neg (by omega), if_neg (by omega)]
        have e5 : ¬ (l1 : Int) < l2 := by omega
        clear e2
        go_enter Try.func12, Try.ntmps12
        go_wp2
        go_ret
        exact ⟨retI HC.out.symm, hb _ _⟩
  · have e3 := beq_no (show (h1 : Int) ≠ h2 by omega)
    simp only [e3, Bool.false_and] at q1
    by_cases e4 : h1 < h2
    · have HC : Hid (cmpN (h1 * 18446744073709551616 + l1) (h2 * 18446744073709551616 + l2) = -1) := by show _ = _; rw [cmpN, if_neg (by omega), if_pos (by omega)]
      have e5 : (h1 : Int) < h2 := by omega
      go_enter Try.func12, Try.ntmps12
      go_wp2
      go_ret
      exact ⟨retI HC.out.symm, hb _ _⟩
    · have HC : Hid (cmpN (h1 * 18446744073709551616 + l1) (h2 * 18446744073709551616 + l2) = 1) := by show _ = _; rw [cmpN, if_neg (by omega), if_neg (by omega)]
      have e5 : ¬ (h1 : Int) < h2 := by omega
      go_enter Try.func12, Try.ntmps12
      go_wp2
      go_ret
      exact ⟨retI HC.out.symm, hb _ _⟩
theorem compare_any (m n : Nat) (hm : m < noRoom) (hn : n < noRoom) (w : World) : Calls Try.prog 12 #[wd m, wd n] w fun e w' => e = .returned (.int .i64 (cmpN m n)) ∧ Below w.heap.size w w' := by
  obtain ⟨a1, a2, a3⟩ := halves hm
  obtain ⟨b1, b2, b3⟩ := halves hn
  have := compare_core (m / 18446744073709551616) _ (n / 18446744073709551616) _ w a2 b2
  rw [a3, b3] at this
  exact this

def fitN (n : Nat) : Nat := if n ≤ 9223372036854775807 then n else 0
set_option maxHeartbeats 1000000 in
theorem fits_any (n : Nat) (hn : n < noRoom) (w : World) : Calls Try.prog 19 #[wd n] w fun e w' => e = .returned (.tuple #[.int .i64 (fitN n), .bool (decide (n ≤ 9223372036854775807))]) ∧ Below w.heap.size w w' := by
  obtain ⟨a1, a2, a3⟩ := halves hn
  have HO : Hid (∀ w, Calls Try.prog 14 #[.int .u64 9223372036854775807] w fun e w' => e = .returned (wd 9223372036854775807) ∧ Below w.heap.size w w') := fun w => of_any 9223372036854775807 (by omega) w
  have HC : Hid (∀ w, Calls Try.prog 12 #[.agg #[.int .u64 ((n / 18446744073709551616 : Nat) : Int), .int .u64 ((n % 18446744073709551616 : Nat) : Int)], wd 9223372036854775807] w fun e w' => e = .returned (.int .i64 (cmpN n 9223372036854775807)) ∧ Below w.heap.size w w') := fun w => compare_any n 9223372036854775807 hn (by unfold noRoom; omega) w
  unfold wd
  by_cases hle : n ≤ 9223372036854775807
  · have hc : cmpN n 9223372036854775807 ≤ 0 := by rw [cmpN]; split; omega; rw [if_pos (by omega)]; omega
    have e1 : n / 18446744073709551616 = 0 := by omega
    have e2 : n % 18446744073709551616 = n := by omega
    have HF : Hid (fitN n = n) := by show _ = _; rw [fitN, if_pos hle]
    have HD : Hid (decide (n ≤ 9223372036854775807) = true) := decide_eq_true hle
    have w1 : IntKind.i64.wrap (n : Int) = n := by rw [IntKind.wrap_i64]; omega
    rw [e1, e2] at HC ⊢
    clear e1 e2 a1 a2 a3
    generalize cmpN n 9223372036854775807 = c at *
    generalize wd 9223372036854775807 = M at *
    have x := cell_new w #[.int .u64 0, .int .u64 n] 24
    have x0 := x 0 _ rfl
    have x1 := x 1 _ rfl
    clear x
    have HB : Hid (∀ d os, Below w.heap.size w (grow (redrawn (w.alloc (.cells #[.int .u64 0, .int .u64 n] 24)) d) os)) := fun d os => ((Below.refl _ w).alloc (Nat.le_refl _) _).trans ((below_regrown _ d os).mono (by simp))
    go_enter Try.func19, Try.ntmps19
    go_wp2_with fail
    refine wp_region_quiet_below (by kernel_rfl) (by kernel_rfl) ?_
    repeat (go_big_quiet_step (first | (go_at_call 14; with_reducible exact Calls.regrown_of (HO.out _)) | (go_at_call 12; with_reducible exact Calls.regrown_of (HC.out _))))
    refine wpQuiet_nil ?_
    intro _ hw'
    obtain ⟨⟨dq, osq⟩, hw''⟩ := hw'
    subst hw''
    have x2 := x1 dq osq
    clear x0 x1
    go_wp2_with fail
    go_ret2
    exact ⟨by rw [HF.out, HD.out]; rfl, HB.out _ _⟩
  · have hc : cmpN n 9223372036854775807 = 1 := by rw [cmpN, if_neg (by omega), if_neg (by omega)]
    have HF : Hid (fitN n = 0) := by show _ = _; rw [fitN, if_neg hle]
    have HD : Hid (decide (n ≤ 9223372036854775807) = false) := decide_eq_false hle
    rw [hc] at HC
    clear hc a3 hle
    generalize n / 18446744073709551616 = h at *
    generalize n % 18446744073709551616 = l at *
    generalize wd 9223372036854775807 = M at *
    have x := cell_new w #[.int .u64 h, .int .u64 l] 24
    have x0 := x 0 _ rfl
    have x1 := x 1 _ rfl
    clear x
    have HB : Hid (∀ d os, Below w.heap.size w (grow (redrawn (w.alloc (.cells #[.int .u64 h, .int .u64 l] 24)) d) os)) := fun d os => ((Below.refl _ w).alloc (Nat.le_refl _) _).trans ((below_regrown _ d os).mono (by simp))
    go_enter Try.func19, Try.ntmps19
    go_wp2_with fail
    refine wp_region_quiet_below (by kernel_rfl) (by kernel_rfl) ?_
    repeat (go_big_quiet_step (first | (go_at_call 14; with_reducible exact Calls.regrown_of (HO.out _)) | (go_at_call 12; with_reducible exact Calls.regrown_of (HC.out _))))
    refine wpQuiet_nil ?_
    intro _ hw'
    obtain ⟨⟨dq, osq⟩, hw''⟩ := hw'
    subst hw''
    have x2 := x1 dq osq
    clear x0 x1
    go_wp2_with fail
    go_ret2
    exact ⟨by rw [HF.out, HD.out]; rfl, HB.out _ _⟩

def timesN (n b : Nat) : Nat := if n * b < noRoom then n * b else 0
theorem prod_lt {a b : Nat} (ha : a < 18446744073709551616) (hb : b < 18446744073709551616) : a * b < noRoom := by
  have := Nat.mul_le_mul (show a ≤ 18446744073709551615 by omega) (show b ≤ 18446744073709551615 by omega)
  unfold noRoom
  omega
set_option maxRecDepth 100000 in
set_option maxHeartbeats 1000000 in
theorem times_core (h l b : Nat) (b1 : h < 18446744073709551616) (b2 : l < 18446744073709551616) (b3 : b < 18446744073709551616) (w : World) :
    Calls Try.prog 15 #[.agg #[.int .u64 h, .int .u64 l], .int .u64 b] w fun e w' => e = .returned (.tuple #[wd (timesN (h * 18446744073709551616 + l) b), .bool (decide ((h * 18446744073709551616 + l) * b < noRoom))]) ∧ Below w.heap.size w w' := by
  have HM1 : Hid (∀ w, Calls Try.prog 17 #[.int .u64 h, .int .u64 b] w fun e w' => e = .returned (.agg #[.int .u64 ((h * b / 18446744073709551616 : Nat) : Int), .int .u64 ((h * b % 18446744073709551616 : Nat) : Int)]) ∧ Below w.heap.size w w') := fun w => mul_any h b b1 b3 w
  have HM2 : Hid (∀ w, Calls Try.prog 17 #[.int .u64 l, .int .u64 b] w fun e w' => e = .returned (wd (l * b)) ∧ Below w.heap.size w w') := fun w => mul_any l b b2 b3 w
  have hb := fun (o1 o2 : Obj) => (Below.one (Below.one (Below.refl _ w) o1) o2 : Below w.heap.size w _)
  have hd : (h * 18446744073709551616 + l) * b = h * b * 18446744073709551616 + l * b := by rw [Nat.add_mul, Nat.mul_right_comm]
  by_cases hz : h * b / 18446744073709551616 = 0
  · have hs := (add_core (h * b % 18446744073709551616) 0 (l * b / 18446744073709551616) (l * b % 18446744073709551616) (by omega) (by omega) (by have := prod_lt b2 b3; unfold noRoom at this; omega) (by omega))
    have e1 : h * b % 18446744073709551616 * 18446744073709551616 + 0 = h * b * 18446744073709551616 := by rw [Nat.mod_eq_of_lt (by omega)]; omega
    have e2 : l * b / 18446744073709551616 * 18446744073709551616 + l * b % 18446744073709551616 = l * b := Nat.div_add_mod' (l * b) _
    rw [e1, e2, ← hd] at hs
    have e3 : sumN (h * b * 18446744073709551616) (l * b) = timesN (h * 18446744073709551616 + l) b := by unfold sumN timesN; rw [hd]
    rw [e3] at hs
    have HA : Hid (∀ w, Calls Try.prog 9 #[.agg #[.int .u64 ((h * b % 18446744073709551616 : Nat) : Int), .int .u64 0], wd (l * b)] w fun e w' => e = .returned (.tuple #[wd (timesN (h * 18446744073709551616 + l) b), .bool (decide ((h * 18446744073709551616 + l) * b < noRoom))]) ∧ Below w.heap.size w w') := hs
    rw [hz] at HM1
    clear hs e1 e2 e3 hd hz
    generalize wd (l * b) = Q at *
    unfold wd at HA ⊢
    generalize decide ((h * 18446744073709551616 + l) * b < noRoom) = D at *
    generalize timesN (h * 18446744073709551616 + l) b / 18446744073709551616 = R1 at *
    generalize timesN (h * 18446744073709551616 + l) b % 18446744073709551616 = R2 at *
    generalize h * b % 18446744073709551616 = P2 at *
    go_enter Try.func15, Try.ntmps15
    go_wp2_with (go_at_call 17; refine (HM1.out _).mono ?_; rintro e w1 ⟨rfl, hb1⟩)
    clear hb
    have HF : Hid (∀ w', Below (w1.alloc (.cells #[.int .u64 0, .int .u64 P2] 24)).heap.size (w1.alloc (.cells #[.int .u64 0, .int .u64 P2] 24)) w' → w'.cell? ⟨w1.heap.size, 1, none⟩ = some (.int .u64 P2) ∧ w'.cell? ⟨w.heap.size, 1, none⟩ = some (.int .u64 l) ∧
        w'.cell? ⟨w.heap.size + 1, 0, none⟩ = some (.int .u64 0) ∧ w'.cell? ⟨w.heap.size + 1, 1, none⟩ = some (.int .u64 0) ∧ w'.frozen? ⟨w.heap.size + 1, 0, none⟩ = false ∧ w'.frozen? ⟨w.heap.size + 1, 1, none⟩ = false ∧ Below w.heap.size w w') := fun w' hb => by
      have hz := hb1.size
      simp only [World.size_alloc] at hz
      have k0 : w'.heap[w1.heap.size]? = some (.cells #[.int .u64 0, .int .u64 P2] 24) := by
        rw [hb.block _ (by simp)]; exact heap_alloc_new _ _
      have k1 : w'.heap[w.heap.size]? = some (.cells #[.int .u64 h, .int .u64 l] 24) := by
        rw [hb.block _ (by simp; omega), Below.heap_alloc _ _ _ (by omega), hb1.block _ (by simp; omega), Below.heap_alloc _ _ _ (by simp)]; exact heap_alloc_new _ _
      have k2 : w'.heap[w.heap.size + 1]? = some (.cells #[.int .u64 0, .int .u64 0] 24) := by
        rw [hb.block _ (by simp; omega), Below.heap_alloc _ _ _ (by omega), hb1.block _ (by simp)]; exact (by simp : w.heap.size + 1 = (w.alloc (.cells #[.int .u64 h, .int .u64 l] 24)).heap.size) ▸ heap_alloc_new (w.alloc (.cells #[.int .u64 h, .int .u64 l] 24)) _
      refine ⟨by rw [Lib.cell_of_heap k0]; rfl, by rw [Lib.cell_of_heap k1]; rfl, by rw [Lib.cell_of_heap k2]; rfl, by rw [Lib.cell_of_heap k2]; rfl, Lib.frozen_of_heap k2 _, Lib.frozen_of_heap k2 _, ?_⟩
      refine Below.trans (Below.trans (Below.one (Below.one (Below.refl _ w) _) _) (hb1.mono (by simp; omega))) ?_
      exact (Below.one (Below.refl _ w1) _).mono (by omega) |>.trans (hb.mono (by simp; omega))
    generalize w1.alloc (.cells #[.int .u64 0, .int .u64 P2] 24) = W1 at *
    obtain ⟨f1, f2, f3, f4, f5, f6, f7⟩ := HF.out _ (Below.refl _ W1)
    clear hb1
    go_region_with (first | (go_at_call 17; refine (HM2.out _).mono ?_; rintro e w3 ⟨rfl, hb3⟩; have S3 := Below.trans (Below.drew (Below.refl _ W1)) hb3; obtain ⟨f1, f2, f3, f4, f5, f6, f7⟩ := HF.out _ S3) | (go_at_call 9; refine (HA.out _).mono ?_; rintro e w4 ⟨rfl, hb4⟩; have S4 := Below.on (A := W1) (by assumption) hb4; obtain ⟨g1, g2, g3, g4, g5, g6, g7⟩ := HF.out _ S4))
    all_goals go_wp2_with fail
    all_goals refine bodyPost_ret (v := .tuple #[.agg #[.int .u64 R1, .int .u64 R2], .bool D]) (by simp [results, Try.results15, go_sem, *]) rfl ⟨rfl, ?_⟩
    all_goals first | exact ((Below.setCell (by assumption) (by simp) _).setCell (by simp) _) | exact ((Below.setCell (by assumption) (by simp) _).setCell (by simp) _).drew
  · have HE : Hid (wd (timesN (h * 18446744073709551616 + l) b) = .agg #[.int .u64 0, .int .u64 0]) := by
      show _ = _
      rw [timesN, if_neg (by rw [hd]; unfold noRoom; omega)]
      rfl
    have HD : Hid (decide ((h * 18446744073709551616 + l) * b < noRoom) = false) := decide_eq_false (by rw [hd]; unfold noRoom; omega)
    have hz' := beq_no (show ((h * b / 18446744073709551616 : Nat) : Int) ≠ 0 by omega)
    clear hz hd HM2
    generalize h * b / 18446744073709551616 = P1 at *
    generalize h * b % 18446744073709551616 = P2 at *
    have HF : Hid (∀ w1, Below (w.heap.size + 2) ((w.alloc (.cells #[.int .u64 h, .int .u64 l] 24)).alloc (.cells #[.int .u64 0, .int .u64 0] 24)) w1 → (∀ o, (w1.alloc o).cell? ⟨w.heap.size + 1, 0, none⟩ = some (.int .u64 0) ∧ (w1.alloc o).cell? ⟨w.heap.size + 1, 1, none⟩ = some (.int .u64 0) ∧ (w1.alloc o).frozen? ⟨w.heap.size + 1, 0, none⟩ = false ∧ (w1.alloc o).frozen? ⟨w.heap.size + 1, 1, none⟩ = false ∧ Below w.heap.size w (w1.alloc o))) := fun w1 hb1 o => by
      have hz := hb1.size
      simp only [World.size_alloc] at hz
      have k2 : (w1.alloc o).heap[w.heap.size + 1]? = some (.cells #[.int .u64 0, .int .u64 0] 24) := by
        rw [Below.heap_alloc _ _ _ (by omega), hb1.block _ (by omega)]; exact (by simp : w.heap.size + 1 = (w.alloc (.cells #[.int .u64 h, .int .u64 l] 24)).heap.size) ▸ heap_alloc_new (w.alloc (.cells #[.int .u64 h, .int .u64 l] 24)) _
      refine ⟨by rw [Lib.cell_of_heap k2]; rfl, by rw [Lib.cell_of_heap k2]; rfl, Lib.frozen_of_heap k2 _, Lib.frozen_of_heap k2 _, ?_⟩
      exact Below.one (Below.trans (Below.one (Below.one (Below.refl _ w) _) _) (hb1.mono (by omega))) _
    go_enter Try.func15, Try.ntmps15
    go_wp2_with (go_at_call 17; refine (HM1.out _).mono ?_; rintro e w1 ⟨rfl, hb1⟩; have g0 := HF.out w1 (hb1.mono (by simp)); have g1 := fun o => (g0 o).1; have g2 := fun o => (g0 o).2.1; have g3 := fun o => (g0 o).2.2.1; have g4 := fun o => (g0 o).2.2.2.1; have g5 := fun o => (g0 o).2.2.2.2; clear g0)
    refine bodyPost_ret (v := .tuple #[.agg #[.int .u64 0, .int .u64 0], .bool false]) (by simp [results, Try.results15, go_sem, *]) rfl ⟨by rw [HE.out, HD.out], ?_⟩
    exact ((Below.setCell (by apply_assumption) (by simp) _).setCell (by simp) _)
theorem times_any (n b : Nat) (hn : n < noRoom) (hb : b < 18446744073709551616) (w : World) : Calls Try.prog 15 #[wd n, .int .u64 b] w fun e w' => e = .returned (.tuple #[wd (timesN n b), .bool (decide (n * b < noRoom))]) ∧ Below w.heap.size w w' := by
  obtain ⟨a1, a2, a3⟩ := halves hn
  have := times_core _ _ b a1 a2 hb w
  rw [a3] at this
  exact this
end Go.Proofs.Ytajkfopeomfacaa

/- Arithmetic under a division by ten. -/
namespace Go.Proofs.Ytajkfopeomfacaa
open Go.RowKit Go.Lib Go.Sort
theorem wrap_sum (x n y : Int) : IntKind.u64.wrap (IntKind.u64.wrap (IntKind.u64.wrap x + n) - IntKind.u64.wrap y) = (x + n - y) % 18446744073709551616 := by
  simp only [IntKind.wrap_u64]
  rw [Int.emod_add_emod, Int.emod_sub_emod, Int.sub_emod_emod]
theorem wrap_dif (x y : Int) : IntKind.u64.wrap (x - IntKind.u64.wrap y) = (x - y) % 18446744073709551616 := by
  simp only [IntKind.wrap_u64]
  rw [Int.sub_emod_emod]
theorem div_d1 (U n q r V : Nat) (h1 : U = q * 2684354560 + r) (hV : V = 4294967296 * r + n) (br : r < 2684354560) (bn : n < 4294967296) : IntKind.u64.wrap (IntKind.u64.wrap (IntKind.u64.wrap ((U : Int) * 4294967296) + (n : Int)) - IntKind.u64.wrap ((q : Int) * 11529215046068469760)) = (V : Int) := by
  rw [wrap_sum]
  have : (U : Int) * 4294967296 + n - q * 11529215046068469760 = V := by omega
  rw [this]
  omega
theorem div_d5 (V q r : Nat) (h1 : V = q * 2684354560 + r) (br : r < 2684354560) : IntKind.u64.wrap ((V : Int) - IntKind.u64.wrap ((q : Int) * 2684354560)) = (r : Int) := by
  rw [wrap_dif]
  have : (V : Int) - q * 2684354560 = r := by omega
  rw [this]
  omega
/-- What is left at the end. -/
theorem div_d6 (V q r : Nat) (h1 : V = q * 2684354560 + r) (br : r < 2684354560) : IntKind.u64.wrap (IntKind.u64.wrap (IntKind.u64.wrap ((V : Int) * 4294967296)) - IntKind.u64.wrap ((q : Int) * 11529215046068469760)) = ((r * 4294967296 : Nat) : Int) := by
  simp only [IntKind.wrap_u64]
  rw [Int.emod_emod, Int.emod_sub_emod, Int.sub_emod_emod]
  have : (V : Int) * 4294967296 - q * 11529215046068469760 = ((r * 4294967296 : Nat) : Int) := by omega
  rw [this]
  omega
theorem div_quo (h l U q r m n V q' r' : Nat) (hU : U = h * 1152921504606846976 + l / 16) (hm : m = l % 16) (h1 : U = q * 2684354560 + r) (hn : n = m * 268435456) (hV : V = 4294967296 * r + n) (h2 : V = q' * 2684354560 + r') (br' : r' < 2684354560) :
    q * 4294967296 + q' = (h * 18446744073709551616 + l) / 10 ∧ r' / 268435456 = (h * 18446744073709551616 + l) % 10 := by
  have e1 : 16 * r + m = q' * 10 + r' / 268435456 := by omega
  have e2 : h * 18446744073709551616 + l = 10 * (q * 4294967296 + q') + r' / 268435456 := by omega
  have e3 : r' / 268435456 < 10 := by omega
  omega
theorem div_z4 (r : Nat) : ((r * 4294967296 : Nat) : Int) / 1152921504606846976 = ((r / 268435456 : Nat) : Int) := by omega
theorem div_z3 (q q' : Nat) (h : q < 4294967296) (h' : q' < 4294967296) : IntKind.u64.wrap (IntKind.u64.wrap ((q : Int) * 4294967296) + (q' : Int)) = ((q * 4294967296 + q' : Nat) : Int) := by simp only [IntKind.wrap_u64]; omega
/-- Each step of the division, for two words whose upper one is below ten. -/
theorem div_low (V : Nat) (bV : V < 11529215046068469760) : ∃ q r : Nat, V = q * 2684354560 + r ∧ r < 2684354560 ∧ q < 4294967296 ∧ (V : Int) / 2684354560 = (q : Int) ∧ (V : Int).tdiv 2684354560 = (q : Int) ∧ (V : Int) - (q : Int) * 2684354560 = (r : Int) ∧ IntKind.u64.wrap (q : Int) = (q : Int) ∧ decide ((4294967296 : Int) ≤ (q : Int)) = false ∧
    IntKind.u64.wrap ((4294967296 : Int) * (r : Int)) = 4294967296 * (r : Int) ∧ decide ((4294967296 : Int) * (r : Int) < 0) = false ∧
    ∀ n : Nat, n < 4294967296 → IntKind.u64.wrap ((4294967296 : Int) * (r : Int) + (n : Int)) = 4294967296 * (r : Int) + (n : Int) ∧ decide ((4294967296 : Int) * (r : Int) + (n : Int) < 0) = false := by
  refine ⟨V / 2684354560, V % 2684354560, by omega, by omega, by omega, by omega, by rw [Int.tdiv_eq_ediv_of_nonneg (by omega)]; omega, by omega, wrapN _ (by omega), decide_eq_false (by omega), by rw [IntKind.wrap_u64]; omega, decide_eq_false (by omega), fun n hn => ⟨by rw [IntKind.wrap_u64]; omega, decide_eq_false (by omega)⟩⟩
theorem div_top (h l : Nat) (h9 : h < 10) (hl : l < 18446744073709551616) (or_top : ∀ (h m : Nat), h < 16 → m < 1152921504606846976 → bits .or .u64 ((h : Int) * 1152921504606846976) (m : Int) = ((h * 1152921504606846976 + m : Nat) : Int)) :
    ∃ U m n : Nat, U = h * 1152921504606846976 + l / 16 ∧ m = l % 16 ∧ n = m * 268435456 ∧ U < 11529215046068469760 ∧ n < 4294967296 ∧ bits .or .u64 ((h : Int) * 1152921504606846976) ((l : Int) / 16) = (U : Int) ∧ IntKind.u64.wrap ((l : Int) * 1152921504606846976) = (m : Int) * 1152921504606846976 ∧
      bits .and .u64 ((m : Int) * 1152921504606846976) 4294967295 = 0 ∧ (m : Int) * 1152921504606846976 / 4294967296 = (n : Int) ∧ m < 16 := by
  refine ⟨_, _, _, rfl, rfl, rfl, by omega, by omega, ?_, by rw [IntKind.wrap_u64]; omega, ?_, by omega, by omega⟩
  · rw [← or_top h (l / 16) (by omega) (by omega)]; congr 1
  · have h := maskN (l % 16 * 1152921504606846976) (by omega)
    rw [show l % 16 * 1152921504606846976 % 4294967296 = 0 by omega] at h
    have e : ((l % 16 * 1152921504606846976 : Nat) : Int) = ((l % 16 : Nat) : Int) * 1152921504606846976 := by omega
    rw [e] at h
    exact h
end Go.Proofs.Ytajkfopeomfacaa

/- A division of two words by ten. -/
namespace Go.Proofs.Ytajkfopeomfacaa
open Go.RowKit Go.Lib Go.Sort

set_option maxRecDepth 100000 in
set_option maxHeartbeats 400000 in
theorem len64_ten (w : World) : Calls Try.prog 36 #[.int .u64 10] w fun e w' => e = .returned (.int .i64 4) ∧ w' = w := by
  go_enter Try.func36, Try.ntmps36
  go_wp2
  go_ret
  exact ⟨retI (by kernel_rfl), rfl⟩
set_option maxRecDepth 100000 in
set_option maxHeartbeats 400000 in
theorem lz64_ten (w : World) : Calls Try.prog 35 #[.int .u64 10] w fun e w' => e = .returned (.int .i64 60) ∧ w' = w := by
  have H := len64_ten
  go_enter Try.func35, Try.ntmps35
  go_wp2_with (go_at_call 36; refine (H _).mono ?_; rintro e w' ⟨rfl, hw⟩; rw [hw])
  go_ret
  exact ⟨rfl, rfl⟩

set_option maxRecDepth 100000 in
set_option maxHeartbeats 1000000 in
theorem div64_zero (l : Nat) (hl : l < 18446744073709551616) (w : World) : Calls Try.prog 34 #[.int .u64 0, .int .u64 l, .int .u64 10] w fun e w' => e = .returned (.tuple #[.int .u64 ((l / 10 : Nat) : Int), .int .u64 ((l % 10 : Nat) : Int)]) ∧ Below w.heap.size w w' := by
  have hb := (Below.refl w.heap.size w).drew
  go_enter Try.func34, Try.ntmps34
  go_wp2
  go_region
  go_wp2
  go_ret2
  exact ⟨by simp, by first | exact hb | exact Below.refl _ _⟩

theorem or_top (h m : Nat) (hh : h < 16) (hm : m < 1152921504606846976) : bits .or .u64 ((h : Int) * 1152921504606846976) (m : Int) = ((h * 1152921504606846976 + m : Nat) : Int) := by
  have e := bits_or_u64_nat (h * 1152921504606846976) m (by omega) (by omega)
  have e2 := Nat.two_pow_add_eq_or_of_lt (i := 60) (b := m) (by simpa using hm) h
  rw [Nat.mul_comm] at e2
  have e3 : h * 1152921504606846976 ||| m = h * 1152921504606846976 + m := by simpa using e2.symm
  rw [e3] at e
  rw [← e]
  congr 1
set_option maxRecDepth 100000 in
set_option maxHeartbeats 1000000 in
theorem div64_some (h l : Nat) (h0 : 0 < h) (h9 : h < 10) (hl : l < 18446744073709551616) (w : World) : Calls Try.prog 34 #[.int .u64 h, .int .u64 l, .int .u64 10] w fun e w' => e = .returned (.tuple #[.int .u64 (((h * 18446744073709551616 + l) / 10 : Nat) : Int), .int .u64 (((h * 18446744073709551616 + l) % 10 : Nat) : Int)]) ∧ Below w.heap.size w w' := by
  have H : Hid (∀ w, Calls Try.prog 35 #[.int .u64 10] w fun e w' => e = .returned (.int .i64 60) ∧ w' = w) := lz64_ten
  have a1 : bits .and .u64 11529215046068469760 4294967295 = 0 := by kernel_rfl
  obtain ⟨U, m, n, hU, hm, hn, bU, bn, a2, a3, a4, a5, bm⟩ := div_top h l h9 hl or_top
  obtain ⟨q, r, e1, br, bq, b1, _, b2, _, c1, c2, _, c34⟩ := div_low U bU
  obtain ⟨c3, c4⟩ := c34 n bn
  have bV : 4294967296 * r + n < 11529215046068469760 := by omega
  obtain ⟨q', r', e2, br', bq', d1, d2, d3, d4, c5, c6, c7, _⟩ := div_low _ bV
  have d0 := div_d1 U n q r _ e1 rfl br bn
  have d5 := div_d5 _ q' r' e2 br'
  have c0 := div_d5 _ q r e1 br
  have d6 := div_d6 _ q' r' e2 br'
  obtain ⟨z1, z2⟩ := div_quo h l U q r m n _ q' r' hU hm e1 hn rfl e2 br'
  have z3 : IntKind.u64.wrap (IntKind.u64.wrap ((q : Int) * 4294967296) + (q' : Int)) = ((q * 4294967296 + q' : Nat) : Int) := div_z3 q q' bq bq'
  have z4 : ((r' * 4294967296 : Nat) : Int) / 1152921504606846976 = ((r' / 268435456 : Nat) : Int) := div_z4 r'
  have HX := Hid.mk' (And.intro z1 (And.intro z2 (And.intro z3 z4)))
  generalize 4294967296 * r + n = V at *
  clear e1 br bq bV e2 br' bq' z1 z2 z3 z4 hU hm hn bU bn c34 bm
  go_enter Try.func34, Try.ntmps34
  go_upto_region 15 with (go_at_call 35; refine (H.out _).mono ?_; rintro e w' ⟨rfl, hw⟩; rw [hw])
  go_wp2
  clear a1 a2 a3 a4 a5 b1 b2 H
  go_loopw [15, 16] (fun t15 t16 wr => t15 = .int .u64 q ∧ t16 = .int .u64 r ∧ wr = w) (fun _ _ _ => 0)
  case atStart => exact ⟨rfl, rfl, rfl⟩
  case round =>
    obtain ⟨rfl, rfl, hw⟩ := hrel
    go_wp2_with fail
    go_loopw [18, 16] (fun t18 t16 wr => t18 = .int .u64 q' ∧ t16 = .int .u64 r' ∧ wr = w) (fun _ _ _ => 0)
    case atStart => exact ⟨rfl, rfl, rfl⟩
    case round =>
      obtain ⟨rfl, rfl, hw⟩ := hrel
      go_wp2_with fail
      go_ret2
      obtain ⟨z1, z2, z3, z4⟩ := HX.out
      refine ⟨?_, ?_⟩
      · show Ending.returned (.tuple #[.int .u64 (IntKind.u64.wrap (IntKind.u64.wrap ((q : Int) * 4294967296) + (q' : Int))), .int .u64 (((r' * 4294967296 : Nat) : Int) / 1152921504606846976)]) = _
        rw [z4, z3, z1, z2]
      · exact Below.refl _ _
/-- A division of two words by ten, whose upper one is below ten. -/
theorem div64_any (h l : Nat) (h9 : h < 10) (hl : l < 18446744073709551616) (w : World) : Calls Try.prog 34 #[.int .u64 h, .int .u64 l, .int .u64 10] w fun e w' => e = .returned (.tuple #[.int .u64 (((h * 18446744073709551616 + l) / 10 : Nat) : Int), .int .u64 (((h * 18446744073709551616 + l) % 10 : Nat) : Int)]) ∧ Below w.heap.size w w' := by
  by_cases h0 : h = 0
  · subst h0
    have := div64_zero l hl w
    simpa using this
  · exact div64_some h l (by omega) h9 hl w

set_option maxRecDepth 100000 in
set_option maxHeartbeats 1000000 in
theorem divide_walk (h l Q R L D : Nat) (w : World) (w8 : IntKind.u8.wrap (D : Int) = (D : Int))
    (h1 : ∀ w, Calls Try.prog 34 #[.int .u64 0, .int .u64 h, .int .u64 10] w fun e w' => e = .returned (.tuple #[.int .u64 (Q : Int), .int .u64 (R : Int)]) ∧ Below w.heap.size w w')
    (h2 : ∀ w, Calls Try.prog 34 #[.int .u64 (R : Int), .int .u64 l, .int .u64 10] w fun e w' => e = .returned (.tuple #[.int .u64 (L : Int), .int .u64 (D : Int)]) ∧ Below w.heap.size w w') :
    Calls Try.prog 31 #[.agg #[.int .u64 h, .int .u64 l]] w fun e w' => e = .returned (.tuple #[.agg #[.int .u64 Q, .int .u64 L], .int .u8 D]) ∧ Below w.heap.size w w' := by
  have H1 := Hid.mk' h1
  have H2 := Hid.mk' h2
  clear h1 h2
  have HF : Hid (∀ w1, Below (w.heap.size + 2) ((w.alloc (.cells #[.int .u64 h, .int .u64 l] 24)).alloc (.cells #[.int .u64 0, .int .u64 0] 24)) w1 → (w1.cell? ⟨w.heap.size, 1, none⟩ = some (.int .u64 l) ∧ w1.cell? ⟨w.heap.size + 1, 0, none⟩ = some (.int .u64 0) ∧ w1.cell? ⟨w.heap.size + 1, 1, none⟩ = some (.int .u64 0) ∧ w1.frozen? ⟨w.heap.size + 1, 0, none⟩ = false ∧ w1.frozen? ⟨w.heap.size + 1, 1, none⟩ = false ∧ Below w.heap.size w w1)) := fun w1 hb1 => by
    have hz := hb1.size
    simp only [World.size_alloc] at hz
    have k1 : w1.heap[w.heap.size]? = some (.cells #[.int .u64 h, .int .u64 l] 24) := by
      rw [hb1.block _ (by omega), Below.heap_alloc _ _ _ (by simp)]; exact heap_alloc_new _ _
    have k2 : w1.heap[w.heap.size + 1]? = some (.cells #[.int .u64 0, .int .u64 0] 24) := by
      rw [hb1.block _ (by omega)]; exact (by simp : w.heap.size + 1 = (w.alloc (.cells #[.int .u64 h, .int .u64 l] 24)).heap.size) ▸ heap_alloc_new (w.alloc (.cells #[.int .u64 h, .int .u64 l] 24)) _
    refine ⟨by rw [Lib.cell_of_heap k1]; rfl, by rw [Lib.cell_of_heap k2]; rfl, by rw [Lib.cell_of_heap k2]; rfl, Lib.frozen_of_heap k2 _, Lib.frozen_of_heap k2 _, ?_⟩
    exact Below.trans (Below.one (Below.one (Below.refl _ w) _) _) (hb1.mono (by omega))
  go_enter Try.func31, Try.ntmps31
  go_upto_region 2 with (go_at_call 34; refine (H1.out _).mono ?_; rintro e w1 ⟨rfl, hb1⟩)
  have S1 := hb1.mono (show w.heap.size + 2 ≤ _ by simp)
  clear hb1
  obtain ⟨f1, f2, f3, f4, f5, f6⟩ := HF.out w1 S1
  go_wp2_with (go_at_call 34; refine (H2.out _).mono ?_; rintro e w2 ⟨rfl, hb2⟩; obtain ⟨g1, g2, g3, g4, g5, g6⟩ := HF.out w2 (S1.trans (hb2.mono (by have := S1.size; simp at this; omega))))
  refine bodyPost_ret (v := .tuple #[.agg #[.int .u64 Q, .int .u64 L], .int .u8 D]) (by simp [results, Try.results31, go_sem, *]) rfl ⟨rfl, ?_⟩
  exact ((Below.setCell (by assumption) (by simp) _).setCell (by simp) _)
theorem divide_core (h l : Nat) (b1 : h < 18446744073709551616) (b2 : l < 18446744073709551616) (w : World) :
    Calls Try.prog 31 #[.agg #[.int .u64 h, .int .u64 l]] w fun e w' => e = .returned (.tuple #[wd ((h * 18446744073709551616 + l) / 10), .int .u8 (((h * 18446744073709551616 + l) % 10 : Nat) : Int)]) ∧ Below w.heap.size w w' := by
  have e1 : wd ((h * 18446744073709551616 + l) / 10) = .agg #[.int .u64 ((h / 10 : Nat) : Int), .int .u64 (((h % 10 * 18446744073709551616 + l) / 10 : Nat) : Int)] := by
    rw [wd_of (by omega)]
    exact congrArg wd (by omega)
  have e2 : (h * 18446744073709551616 + l) % 10 = (h % 10 * 18446744073709551616 + l) % 10 := by omega
  have := divide_walk h l (h / 10) (h % 10) _ _ w (by rw [IntKind.wrap_u8]; omega) (div64_zero h b1) (div64_any (h % 10) l (by omega) b2)
  rw [← e1, ← e2] at this
  exact this
theorem divide_any (n : Nat) (hn : n < noRoom) (w : World) : Calls Try.prog 31 #[wd n] w fun e w' => e = .returned (.tuple #[wd (n / 10), .int .u8 ((n % 10 : Nat) : Int)]) ∧ Below w.heap.size w w' := by
  obtain ⟨a1, a2, a3⟩ := halves hn
  have := divide_core _ _ a1 a2 w
  rw [a3] at this
  exact this
end Go.Proofs.Ytajkfopeomfacaa

/- A number's text. -/
namespace Go.Proofs.Ytajkfopeomfacaa
open Go.RowKit Go.Lib Go.Sort

abbrev tb (l : List UInt8) : ByteArray := ⟨l.toArray⟩
theorem set_list {W : World} {b : Nat} {l : List Value} {T : TypeId} (h : W.heap[b]? = some (.cells ⟨l⟩ T)) (i : Nat) (v : Value) : (W.setCell ⟨b, i, none⟩ v).heap[b]? = some (.cells ⟨l.set i v⟩ T) := by
  rw [heap_setCell_same _ _ _ _ _ _ h]; simp
theorem size_set (W : World) (a : Addr) (v : Value) : (W.setCell a v).heap.size = W.heap.size := by simp [World.setCell]

/-- What lies in memory while the text is written: the number that is left, the digits that stand. -/
def TxI (w wr : World) (n at' : Nat) (tl : List UInt8) : Prop :=
  wr.heap[w.heap.size]? = some (.cells #[.int .u64 ((n / 18446744073709551616 : Nat) : Int), .int .u64 ((n % 18446744073709551616 : Nat) : Int)] 24) ∧
  (∃ cs : List Value, cs.length = 39 ∧ wr.heap[w.heap.size + 1]? = some (.cells ⟨cs⟩ 51) ∧ ∀ i (h : i < tl.length), cs[at' + i]? = some (.int .u8 (tl[i].toNat : Int))) ∧ Below w.heap.size w wr

theorem dec_step {n : Nat} (h : ¬ n < 10) : Lib.decDigits n = Lib.decDigits (n / 10) ++ [UInt8.ofNat (48 + n % 10)] := by rw [Lib.decDigits, dif_neg h]
theorem zero_test (n : Nat) : (((n / 10 / 18446744073709551616 : Nat) : Int) == 0 && ((n / 10 % 18446744073709551616 : Nat) : Int) == 0) = decide (n < 10) := by
  apply Bool.eq_iff_iff.2
  rw [Bool.and_eq_true, beq_iff_eq, beq_iff_eq, decide_eq_true_eq]
  omega
/-- A digit more. -/
theorem TxI.more {w wr w1 : World} {n a : Nat} {tl : List UInt8} (h : TxI w wr n (a + 1) tl) (ha : a < 39) (hb : Below wr.heap.size wr w1) (o : Obj) (d : UInt8) :
    TxI w ((w1.setCell ⟨w.heap.size + 1, a, none⟩ (.int .u8 (d.toNat : Int))).alloc o) n a (d :: tl) := by
  obtain ⟨k1, ⟨cs, k2, k3, k4⟩, k5⟩ := h
  have b1 := (Array.getElem?_eq_some_iff.1 k1).1
  have b2 := (Array.getElem?_eq_some_iff.1 k3).1
  have b3 := hb.size
  refine ⟨?_, ⟨cs.set a (.int .u8 (d.toNat : Int)), by simp [k2], ?_, fun i hi => ?_⟩, ?_⟩
  · rw [Below.heap_alloc _ _ _ (by rw [size_set]; omega), Below.heap_setCell _ _ _ _ (by simp), hb.block _ b1]; exact k1
  · rw [Below.heap_alloc _ _ _ (by rw [size_set]; omega)]
    refine set_list ?_ _ _
    rw [hb.block _ b2]; exact k3
  · cases i with
    | zero => simp [k2, ha]
    | succ i =>
      rw [List.getElem?_set_ne (by omega)]
      have := k4 i (by simpa using hi)
      rw [show a + (i + 1) = a + 1 + i by omega, this]
      simp
  · exact Below.one ((k5.trans (hb.mono (by omega))).setCell (by simp) _) o
theorem TxI.cells {w wr : World} {n a : Nat} {tl : List UInt8} (h : TxI w wr n a tl) : wr.cell? ⟨w.heap.size, 0, none⟩ = some (.int .u64 ((n / 18446744073709551616 : Nat) : Int)) ∧ wr.cell? ⟨w.heap.size, 1, none⟩ = some (.int .u64 ((n % 18446744073709551616 : Nat) : Int)) ∧ wr.frozen? ⟨w.heap.size, 0, none⟩ = false ∧ wr.frozen? ⟨w.heap.size, 1, none⟩ = false :=
  ⟨by rw [Lib.cell_of_heap h.1]; rfl, by rw [Lib.cell_of_heap h.1]; rfl, Lib.frozen_of_heap h.1 _, Lib.frozen_of_heap h.1 _⟩
/-- The text that stands. -/
theorem TxI.conv {w wr : World} {n a : Nat} {tl : List UInt8} (h : TxI w wr n a tl) (hl : tl.length = 39 - a) : (convert 54 9 (.slice (some ⟨w.heap.size + 1, a, none⟩) (39 - a) (39 - a))).run Try.prog wr = .ok (.string (tb tl)) wr := by
  obtain ⟨_, ⟨cs, k2, k3, k4⟩, _⟩ := h
  rw [← hl]
  refine run_convert_bytes_back wr 54 9 5 ⟨w.heap.size + 1, a, none⟩ tl.length tl Try.underlying54 Try.underlying5 Try.underlying9 fun j hj => ?_
  rw [show (⟨w.heap.size + 1, a, none⟩ : Addr).add j = ⟨w.heap.size + 1, a + j, none⟩ by simp [Addr.add], Lib.cell_of_heap k3]
  simpa using k4 j hj
theorem run_tail (W : World) (g a : Nat) (ha : a < 39) : (Instr.sliceAt 51 (.pointer (some ⟨g, 0, none⟩)) (some (.int .i64 a)) none none).run Try.prog W = .ok (.slice (some ⟨g, a, none⟩) (39 - a) (39 - a)) W := by
  have h39 : Try.prog.arrayLen 51 = 39 := by kernel_rfl
  have hel : Try.prog.elem 51 = 5 := by kernel_rfl
  rw [run_sliceAt_array_l W 51 ⟨g, 0, none⟩ (by kernel_rfl) .i64 a (by omega) (by rw [h39]; omega), h39, hel]
  have z := Try.sizeOf5
  simp [slicedAt, Addr.add, go_sem, z, show ¬ 39 = a by omega]
  exact Eq.symm
/-- Another number is left. -/
theorem TxI.left {w wr : World} {n a : Nat} {tl : List UInt8} (h : TxI w wr n a tl) (m : Nat) : TxI w ((wr.setCell ⟨w.heap.size, 0, none⟩ (.int .u64 ((m / 18446744073709551616 : Nat) : Int))).setCell ⟨w.heap.size, 1, none⟩ (.int .u64 ((m % 18446744073709551616 : Nat) : Int))) m a tl := by
  obtain ⟨k1, ⟨cs, k2, k3, k4⟩, k5⟩ := h
  refine ⟨?_, ⟨cs, k2, ?_, k4⟩, (k5.setCell (by simp) _).setCell (by simp) _⟩
  · exact set_list (set_list k1 0 _) 1 _
  · rw [Below.heap_setCell _ _ _ _ (by simp), Below.heap_setCell _ _ _ _ (by simp)]; exact k3
set_option maxRecDepth 100000 in
set_option maxHeartbeats 1000000 in
theorem text_any (n0 : Nat) (hn0 : n0 < noRoom) (w : World) : Calls Try.prog 21 #[wd n0] w fun e w' => e = .returned (.string (tb (Lib.decDigits n0))) ∧ Below w.heap.size w w' := by
  have HD : Hid (∀ n, n < noRoom → ∀ w, Calls Try.prog 31 #[.agg #[.int .u64 ((n / 18446744073709551616 : Nat) : Int), .int .u64 ((n % 18446744073709551616 : Nat) : Int)]] w fun e w' => e = .returned (.tuple #[.agg #[.int .u64 ((n / 10 / 18446744073709551616 : Nat) : Int), .int .u64 ((n / 10 % 18446744073709551616 : Nat) : Int)], .int .u8 ((n % 10 : Nat) : Int)]) ∧ Below w.heap.size w w') := fun n hn w => divide_any n hn w
  have H0 : Hid (TxI w ((w.alloc (.cells #[.int .u64 ((n0 / 18446744073709551616 : Nat) : Int), .int .u64 ((n0 % 18446744073709551616 : Nat) : Int)] 24)).alloc (.cells ⟨List.replicate 39 (.int .u8 0)⟩ 51)) n0 39 []) := by
    refine ⟨?_, ⟨List.replicate 39 (.int .u8 0), rfl, ?_, fun i h => by simp at h⟩, Below.one (Below.one (Below.refl _ w) _) _⟩
    · rw [Below.heap_alloc _ _ _ (by simp)]; exact heap_alloc_new _ _
    · exact (by simp : w.heap.size + 1 = (w.alloc (.cells #[.int .u64 ((n0 / 18446744073709551616 : Nat) : Int), .int .u64 ((n0 % 18446744073709551616 : Nat) : Int)] 24)).heap.size) ▸ heap_alloc_new (w.alloc (.cells #[.int .u64 ((n0 / 18446744073709551616 : Nat) : Int), .int .u64 ((n0 % 18446744073709551616 : Nat) : Int)] 24)) _
  have g1 := eqGuard_w
  unfold wd
  generalize n0 / 18446744073709551616 = h0 at *
  generalize n0 % 18446744073709551616 = l0 at *
  go_enter Try.func21, Try.ntmps21
  go_wp2_with fail
  go_loopw [4] (fun t4 wr => ∃ (n at' : Nat) (tl : List UInt8), t4 = .int .i64 at' ∧ at' ≤ 39 ∧ 1 ≤ at' ∧ n < noRoom ∧ n < 10 ^ at' ∧ Lib.decDigits n0 = Lib.decDigits n ++ tl ∧ tl.length = 39 - at' ∧ TxI w wr n at' tl) (fun t4 _ => (RowKit.intOf t4).toNat)
  case atStart => exact ⟨n0, 39, [], rfl, by omega, by omega, hn0, by unfold noRoom at hn0; omega, by simp, rfl, H0.out⟩
  case round =>
    obtain ⟨n, at', tl, rfl, h1, h2, h3, h4, h5, h6, h7⟩ := hrel
    obtain ⟨a, rfl⟩ : ∃ a, at' = a + 1 := ⟨at' - 1, by omega⟩
    have HDn := Hid.mk' (HD.out n h3)
    have HT := Hid.mk' h7
    obtain ⟨k1, ⟨cs, k2, k3, k4⟩, k5⟩ := h7
    have ed : IntKind.u8.wrap (48 + ((n % 10 : Nat) : Int)) = 48 + ((n % 10 : Nat) : Int) := by rw [IntKind.wrap_u8]; omega
    have eu : ((UInt8.ofNat (48 + n % 10)).toNat : Int) = 48 + ((n % 10 : Nat) : Int) := by
      have : (48 + n % 10) % 256 = 48 + n % 10 := Nat.mod_eq_of_lt (by omega)
      rw [UInt8.toNat_ofNat', this]; omega
    have eqq := fun w => equalIn_w ((n / 10 / 18446744073709551616 : Nat) : Int) ((n / 10 % 18446744073709551616 : Nat) : Int) 0 0 w
    simp only [zero_test] at eqq
    have b1 := (Array.getElem?_eq_some_iff.1 k1).1
    have b2 := (Array.getElem?_eq_some_iff.1 k3).1
    obtain ⟨old, hold⟩ : ∃ old, cs[a]? = some old := ⟨cs[a], List.getElem?_eq_getElem (by omega)⟩
    have HR : Hid (∀ w1 : World, Below wr.heap.size wr w1 → (∀ o, (w1.alloc o).cell? ⟨w.heap.size + 1, a, none⟩ = some old) ∧ (∀ o, (w1.alloc o).frozen? ⟨w.heap.size + 1, a, none⟩ = false) ∧ w.heap.size + 1 < w1.heap.size) := fun w1 hb => by
      have hs := hb.size
      have hh : ∀ o, (w1.alloc o).heap[w.heap.size + 1]? = some (.cells ⟨cs⟩ 51) := fun o => by rw [Below.heap_alloc _ _ _ (by omega), hb.block _ b2]; exact k3
      exact ⟨fun o => by rw [Lib.cell_of_heap (hh o)]; simpa using hold, fun o => Lib.frozen_of_heap (hh o) _, by omega⟩
    have HM : Hid (∀ w1 o, Below wr.heap.size wr w1 → TxI w ((w1.setCell ⟨w.heap.size + 1, a, none⟩ (.int .u8 (48 + ((n % 10 : Nat) : Int)))).alloc o) n a (UInt8.ofNat (48 + n % 10) :: tl)) := fun w1 o hb => by rw [← eu]; exact HT.out.more (by omega) hb o _
    have c0 : wr.cell? ⟨w.heap.size, 0, none⟩ = some (.int .u64 ((n / 18446744073709551616 : Nat) : Int)) := by rw [Lib.cell_of_heap k1]; rfl
    have c1 : wr.cell? ⟨w.heap.size, 1, none⟩ = some (.int .u64 ((n % 18446744073709551616 : Nat) : Int)) := by rw [Lib.cell_of_heap k1]; rfl
    have HL : Hid (∀ {W a tl}, TxI w W n a tl → TxI w ((W.setCell ⟨w.heap.size, 0, none⟩ (.int .u64 ((n / 10 / 18446744073709551616 : Nat) : Int))).setCell ⟨w.heap.size, 1, none⟩ (.int .u64 ((n / 10 % 18446744073709551616 : Nat) : Int))) (n / 10) a tl) := fun h => h.left _
    have HN := Hid.mk' (And.intro h3 (And.intro h4 (And.intro h5 h6)))
    generalize n / 10 / 18446744073709551616 = hq at *
    generalize n / 10 % 18446744073709551616 = lq at *
    generalize n / 18446744073709551616 = hn at *
    generalize n % 18446744073709551616 = ln at *
    generalize hdd : n % 10 = d at *
    have HDD := Hid.mk' hdd
    have ha : a < 39 := by omega
    clear HT k1 k2 k3 k4 k5 eu hold b1 b2 h3 h4 h5 h6 hdd h2 h1
    go_upto_region 6 with (go_at_call 31; refine (HDn.out _).mono ?_; rintro e w1 ⟨rfl, hb1⟩; obtain ⟨r1, r2, r3⟩ := HR.out w1 hb1)
    have t0 : ((w1.setCell ⟨w.heap.size + 1, a, none⟩ (.int .u8 (48 + (d : Int)))).alloc (.cells #[.int .u64 (hq : Int), .int .u64 (lq : Int)] 24)).cell? ⟨w1.heap.size, 0, none⟩ = some (.int .u64 (hq : Int)) := by rw [World.cell?_alloc_at _ _ _ _ (by simp)]; rfl
    have t1 : ((w1.setCell ⟨w.heap.size + 1, a, none⟩ (.int .u8 (48 + (d : Int)))).alloc (.cells #[.int .u64 (hq : Int), .int .u64 (lq : Int)] 24)).cell? ⟨w1.heap.size, 1, none⟩ = some (.int .u64 (lq : Int)) := by rw [World.cell?_alloc_at _ _ _ _ (by simp)]; rfl
    have HT := Hid.mk' (HM.out w1 (.cells #[.int .u64 (hq : Int), .int .u64 (lq : Int)] 24) hb1)
    generalize (w1.setCell ⟨w.heap.size + 1, a, none⟩ (.int .u8 (48 + (d : Int)))).alloc (.cells #[.int .u64 (hq : Int), .int .u64 (lq : Int)] 24) = W3 at *
    obtain ⟨x0, x1, x2, x3⟩ := HT.out.cells
    have HC := HT.out.conv (by have := HN.out.2.2.2; simp; omega)
    clear r1 r2 hb1 c0 c1 HR HM ed
    by_cases hlt : n < 10
    · simp only [decide_eq_true hlt] at eqq
      have HF : Hid (UInt8.ofNat (48 + d) :: tl = Lib.decDigits n0) := by
        have := HN.out.2.2.1
        rw [Lib.decDigits_one hlt] at this
        show _ = _
        rw [this, ← HDD.out, Nat.mod_eq_of_lt hlt]; rfl
      rw [HF.out] at HC
      have hsl := run_tail W3 (w.heap.size + 1) a ha
      go_wp2_with fail
      go_ret
      exact ⟨rfl, HT.out.2.2⟩
    · simp only [decide_eq_false hlt] at eqq
      have HV : Hid (Lib.decDigits n0 = Lib.decDigits (n / 10) ++ UInt8.ofNat (48 + d) :: tl) := by
        show _ = _
        rw [HN.out.2.2.1, dec_step hlt, HDD.out]; simp
      have HH := Hid.mk' (HL.out HT.out)
      clear HC
      go_wp2_with fail
      go_roundw
      case rel =>
        have hn := HN.out
        have hp := hn.2.1
        rw [Nat.pow_succ] at hp
        have ha1 : 1 ≤ a := by
          rcases Nat.eq_zero_or_pos a with h | h
          · subst h; simp at hp; omega
          · exact h
        exact ⟨n / 10, a, _, rfl, by omega, ha1, by have := hn.1; omega, by omega, HV.out, by have := hn.2.2.2; simp; omega, HH.out⟩
      case measure => simp [RowKit.intOf]
end Go.Proofs.Ytajkfopeomfacaa

/- The number of a text: one more digit; the form. -/
namespace Go.Proofs.Ytajkfopeomfacaa
open Go.RowKit Go.Lib Go.Sort

/-- A number with one more digit. -/
def putN (n d : Nat) : Nat := if n * 10 + d < noRoom then n * 10 + d else 0
set_option maxRecDepth 100000 in
set_option maxHeartbeats 1000000 in
theorem put_any (n d : Nat) (hn : n < noRoom) (hd : d < 10) (w : World) : Calls Try.prog 33 #[wd n, .int .u8 d] w fun e w' => e = .returned (.tuple #[wd (putN n d), .bool (decide (n * 10 + d < noRoom))]) ∧ Below w.heap.size w w' := by
  have HT : Hid (∀ w, Calls Try.prog 15 #[wd n, .int .u64 10] w fun e w' => e = .returned (.tuple #[wd (timesN n 10), .bool (decide (n * 10 < noRoom))]) ∧ Below w.heap.size w w') := times_any n 10 hn (by omega)
  have HO : Hid (∀ w, Calls Try.prog 14 #[.int .u64 d] w fun e w' => e = .returned (wd d) ∧ Below w.heap.size w w') := of_any d (by omega)
  by_cases hlt : n * 10 < noRoom
  · have ht : timesN n 10 = n * 10 := if_pos hlt
    have HA : Hid (∀ w, Calls Try.prog 9 #[wd (n * 10), wd d] w fun e w' => e = .returned (.tuple #[wd (putN n d), .bool (decide (n * 10 + d < noRoom))]) ∧ Below w.heap.size w w') := add_any (n * 10) d hlt (by unfold noRoom; omega)
    rw [ht, decide_eq_true hlt] at HT
    clear ht hlt
    generalize decide (n * 10 + d < noRoom) = D at *
    generalize wd d = O at *
    unfold wd at HT HA ⊢
    have w1 : IntKind.u64.wrap (d : Int) = d := wrapN d (by omega)
    generalize n / 18446744073709551616 = h at *
    generalize n % 18446744073709551616 = l at *
    generalize n * 10 / 18446744073709551616 = h1 at *
    generalize n * 10 % 18446744073709551616 = l1 at *
    generalize putN n d / 18446744073709551616 = R1 at *
    generalize putN n d % 18446744073709551616 = R2 at *
    have HF : Hid (∀ w1, Below (w.heap.size + 2) ((w.alloc (.cells #[.int .u64 h, .int .u64 l] 24)).alloc (.cells #[.int .u64 0, .int .u64 0] 24)) w1 → (w1.cell? ⟨w.heap.size + 1, 0, none⟩ = some (.int .u64 0) ∧ w1.cell? ⟨w.heap.size + 1, 1, none⟩ = some (.int .u64 0) ∧ w1.frozen? ⟨w.heap.size + 1, 0, none⟩ = false ∧ w1.frozen? ⟨w.heap.size + 1, 1, none⟩ = false ∧ Below w.heap.size w w1)) := fun w1 hb1 => by
      have hz := hb1.size
      simp only [World.size_alloc] at hz
      have k2 : w1.heap[w.heap.size + 1]? = some (.cells #[.int .u64 0, .int .u64 0] 24) := by
        rw [hb1.block _ (by omega)]; exact (by simp : w.heap.size + 1 = (w.alloc (.cells #[.int .u64 h, .int .u64 l] 24)).heap.size) ▸ heap_alloc_new (w.alloc (.cells #[.int .u64 h, .int .u64 l] 24)) _
      refine ⟨by rw [Lib.cell_of_heap k2]; rfl, by rw [Lib.cell_of_heap k2]; rfl, Lib.frozen_of_heap k2 _, Lib.frozen_of_heap k2 _, ?_⟩
      exact Below.trans (Below.one (Below.one (Below.refl _ w) _) _) (hb1.mono (by omega))
    go_enter Try.func33, Try.ntmps33
    go_wp2_with (go_at_call 15; refine (HT.out _).mono ?_; rintro e w1 ⟨rfl, hb1⟩)
    have S1 := Below.one (Below.refl _ w1) (.cells #[.int .u64 (h1 : Int), .int .u64 (l1 : Int)] 24)
    have HS : Hid (∀ w', Below (w1.alloc (.cells #[.int .u64 (h1 : Int), .int .u64 (l1 : Int)] 24)).heap.size (w1.alloc (.cells #[.int .u64 (h1 : Int), .int .u64 (l1 : Int)] 24)) w' → w'.cell? ⟨w1.heap.size, 0, none⟩ = some (.int .u64 (h1 : Int)) ∧ w'.cell? ⟨w1.heap.size, 1, none⟩ = some (.int .u64 (l1 : Int)) ∧ (w'.cell? ⟨w.heap.size + 1, 0, none⟩ = some (.int .u64 0) ∧ w'.cell? ⟨w.heap.size + 1, 1, none⟩ = some (.int .u64 0) ∧ w'.frozen? ⟨w.heap.size + 1, 0, none⟩ = false ∧ w'.frozen? ⟨w.heap.size + 1, 1, none⟩ = false ∧ Below w.heap.size w w')) := fun w' hb => by
      have hz := hb1.size
      simp only [World.size_alloc] at hz
      have k0 : w'.heap[w1.heap.size]? = some (.cells #[.int .u64 (h1 : Int), .int .u64 (l1 : Int)] 24) := by
        rw [hb.block _ (by simp)]; exact heap_alloc_new _ _
      refine ⟨by rw [Lib.cell_of_heap k0]; rfl, by rw [Lib.cell_of_heap k0]; rfl, HF.out w' ?_⟩
      exact (hb1.mono (by simp)).trans ((S1.mono (by omega)).trans (hb.mono (by simp; omega)))
    generalize w1.alloc (.cells #[.int .u64 (h1 : Int), .int .u64 (l1 : Int)] 24) = W1 at *
    obtain ⟨f1, f2, f3, f4, f5, f6, f7⟩ := HS.out _ (Below.refl _ W1)
    clear hb1 S1
    go_region_with (first | (go_at_call 14; refine (HO.out _).mono ?_; rintro e w3 ⟨rfl, hb3⟩; have S3 := Below.trans (Below.drew (Below.refl _ W1)) hb3; obtain ⟨f1, f2, f3, f4, f5, f6, f7⟩ := HS.out _ S3) | (go_at_call 9; refine (HA.out _).mono ?_; rintro e w4 ⟨rfl, hb4⟩; have S4 := Below.on (A := W1) (by assumption) hb4; obtain ⟨g1, g2, g3, g4, g5, g6, g7⟩ := HS.out _ S4))
    all_goals go_wp2_with fail
    all_goals refine bodyPost_ret (v := .tuple #[.agg #[.int .u64 R1, .int .u64 R2], .bool D]) (by simp [results, Try.results33, go_sem, *]) rfl ⟨rfl, ?_⟩
    all_goals first | exact ((Below.setCell (by assumption) (by simp) _).setCell (by simp) _) | exact ((Below.setCell (by assumption) (by simp) _).setCell (by simp) _).drew
  · have HE : Hid (wd (putN n d) = .agg #[.int .u64 0, .int .u64 0] ∧ decide (n * 10 + d < noRoom) = false) := by
      refine ⟨?_, decide_eq_false (by omega)⟩
      rw [putN, if_neg (by omega)]
      rfl
    have ht : timesN n 10 = 0 := if_neg hlt
    rw [ht, decide_eq_false hlt] at HT
    have HT' : Hid (∀ w, Calls Try.prog 15 #[wd n, .int .u64 10] w fun e w' => e = .returned (.tuple #[.agg #[.int .u64 0, .int .u64 0], .bool false]) ∧ Below w.heap.size w w') := HT
    rw [HE.out.1, HE.out.2]
    clear ht hlt HE HT
    unfold wd at HT' ⊢
    generalize n / 18446744073709551616 = h at *
    generalize n % 18446744073709551616 = l at *
    have HF : Hid (∀ w1, Below (w.heap.size + 2) ((w.alloc (.cells #[.int .u64 h, .int .u64 l] 24)).alloc (.cells #[.int .u64 0, .int .u64 0] 24)) w1 → (∀ o, (w1.alloc o).cell? ⟨w.heap.size + 1, 0, none⟩ = some (.int .u64 0) ∧ (w1.alloc o).cell? ⟨w.heap.size + 1, 1, none⟩ = some (.int .u64 0) ∧ (w1.alloc o).frozen? ⟨w.heap.size + 1, 0, none⟩ = false ∧ (w1.alloc o).frozen? ⟨w.heap.size + 1, 1, none⟩ = false ∧ Below w.heap.size w (w1.alloc o))) := fun w1 hb1 o => by
      have hz := hb1.size
      simp only [World.size_alloc] at hz
      have k2 : (w1.alloc o).heap[w.heap.size + 1]? = some (.cells #[.int .u64 0, .int .u64 0] 24) := by
        rw [Below.heap_alloc _ _ _ (by omega), hb1.block _ (by omega)]; exact (by simp : w.heap.size + 1 = (w.alloc (.cells #[.int .u64 h, .int .u64 l] 24)).heap.size) ▸ heap_alloc_new (w.alloc (.cells #[.int .u64 h, .int .u64 l] 24)) _
      refine ⟨by rw [Lib.cell_of_heap k2]; rfl, by rw [Lib.cell_of_heap k2]; rfl, Lib.frozen_of_heap k2 _, Lib.frozen_of_heap k2 _, ?_⟩
      exact Below.one (Below.trans (Below.one (Below.one (Below.refl _ w) _) _) (hb1.mono (by omega))) _
    go_enter Try.func33, Try.ntmps33
    go_wp2_with (go_at_call 15; refine (HT'.out _).mono ?_; rintro e w1 ⟨rfl, hb1⟩; have g0 := HF.out w1 (hb1.mono (by simp)); have g1 := fun o => (g0 o).1; have g2 := fun o => (g0 o).2.1; have g3 := fun o => (g0 o).2.2.1; have g4 := fun o => (g0 o).2.2.2.1; have g5 := fun o => (g0 o).2.2.2.2; clear g0)
    refine bodyPost_ret (v := .tuple #[.agg #[.int .u64 0, .int .u64 0], .bool false]) (by simp [results, Try.results33, go_sem, *]) rfl ⟨rfl, ?_⟩
    exact ((Below.setCell (by apply_assumption) (by simp) _).setCell (by simp) _)
end Go.Proofs.Ytajkfopeomfacaa

/- The number of a text: its form; Parse. -/
namespace Go.Proofs.Ytajkfopeomfacaa
open Go.RowKit Go.Sort

/-- A text of a number: digits, without a 0 ahead but for 0 itself. -/
def Frm (s : ByteArray) : Prop := 0 < s.size ∧ (∀ h : 0 < s.size, s[0].toNat = 48 → s.size ≤ 1) ∧ ∀ k (h : k < s.size), 48 ≤ s[k].toNat ∧ s[k].toNat ≤ 57
/-- The number of the first k digits. -/
def pv (s : ByteArray) : Nat → Nat
  | 0 => 0
  | k + 1 => pv s k * 10 + ((s.data.toList.getD k 0).toNat - 48)
theorem pv_step {s : ByteArray} {k : Nat} (h : k < s.size) : pv s (k + 1) = pv s k * 10 + (s[k].toNat - 48) := by
  rw [pv]
  congr 3
  have : k < s.data.toList.length := by simpa using h
  rw [List.getD_eq_getElem?_getD, List.getElem?_eq_getElem this]
  rfl
theorem pv_le (s : ByteArray) (k : Nat) : ∀ j, pv s k ≤ pv s (k + j)
  | 0 => Nat.le_refl _
  | j + 1 => by have := pv_le s k j; rw [← Nat.add_assoc, pv]; omega

theorem retB {a b : Bool} (h : a = b) : Ending.returned (.bool a) = .returned (.bool b) := by rw [h]
theorem ba_len (s : ByteArray) : s.data.toList.length = s.size := Array.length_toList
theorem isEmpty_of (s : ByteArray) (h : 0 < s.size) : s.toList.isEmpty = false := by
  rw [ByteArray.toList_eq]
  cases e : s.data.toList with
  | nil => have := ba_len s; rw [e] at this; simp at this; omega
  | cons a l => rfl
theorem isEmpty_not (s : ByteArray) (h : ¬ 0 < s.size) : s.toList.isEmpty = true := by
  rw [ByteArray.toList_eq]
  cases e : s.data.toList with
  | nil => rfl
  | cons a l => have := ba_len s; rw [e] at this; simp at this; omega
set_option maxRecDepth 100000 in
set_option maxHeartbeats 1000000 in
theorem formed_loop (s : ByteArray) (w : World) (hs : s.size ≤ 9223372036854775807) (r : Bool) (hr : (∀ k (h : k < s.size), 48 ≤ s[k].toNat ∧ s[k].toNat ≤ 57) ↔ r = true) (h0 : 0 < s.size) (hz : s[0].toNat = 48 → s.size ≤ 1) :
    Calls Try.prog 32 #[.string s] w fun e w' => e = .returned (.bool r) ∧ w' = w := by
  have HR := Hid.mk' hr
  have hne := isEmpty_of s h0
  have HZ := Hid.mk' hz
  clear hr hz
  by_cases hz : (s[0].toNat : Int) = 48
  · have hz1 : ((s[0].toNat : Int) == 48) = true := beq_iff_eq.2 hz
    have hz2 := HZ.out (by omega)
    have hz3 : decide ((1 : Int) < (s.size : Int)) = false := decide_eq_false (by omega)
    have HZ0 := Hid.mk' hz
    clear hz
    go_enter Try.func32, Try.ntmps32
    go_wp2_with fail
    go_loop [18] (fun i => ∃ k : Nat, k ≤ s.size ∧ i = .int .i64 k ∧ ∀ j (h : j < s.size), j < k → 48 ≤ s[j].toNat ∧ s[j].toNat ≤ 57) (fun i => s.size - (intOf i).toNat)
    case atStart => exact ⟨0, Nat.zero_le _, rfl, fun j _ h => by omega⟩
    case round =>
      obtain ⟨k, hk, rfl, hall⟩ := hrel
      have HA := Hid.mk' hall
      clear hall
      by_cases hlt : k < s.size
      · by_cases hp : (s[k].toNat : Int) < 48
        · have HV : Hid (r = false) := by
            show _ = _
            cases r
            · rfl
            · have := (HR.out.2 rfl k hlt).1; omega
          go_wp2_with fail
          go_ret
          exact ⟨retB HV.out.symm, rfl⟩
        · by_cases hq : (57 : Int) < (s[k].toNat : Int)
          · have HV : Hid (r = false) := by
              show _ = _
              cases r
              · rfl
              · have := (HR.out.2 rfl k hlt).2; omega
            go_wp2_with fail
            go_ret
            exact ⟨retB HV.out.symm, rfl⟩
          · go_wp2_with fail
            go_round
            case rel => exact ⟨k + 1, by omega, by go_num, fun j hj hjk => by
              by_cases e : j = k
              · subst e; omega
              · exact HA.out j hj (by omega)⟩
            case measure => simp [intOf]; omega
      · have HV : Hid (r = true) := HR.out.1 fun j hj => HA.out j hj (by omega)
        go_wp2_with fail
        go_ret
        exact ⟨retB HV.out.symm, rfl⟩
  · have hz1 := beq_no hz
    clear hz
    go_enter Try.func32, Try.ntmps32
    go_wp2_with fail
    go_loop [18] (fun i => ∃ k : Nat, k ≤ s.size ∧ i = .int .i64 k ∧ ∀ j (h : j < s.size), j < k → 48 ≤ s[j].toNat ∧ s[j].toNat ≤ 57) (fun i => s.size - (intOf i).toNat)
    case atStart => exact ⟨0, Nat.zero_le _, rfl, fun j _ h => by omega⟩
    case round =>
      obtain ⟨k, hk, rfl, hall⟩ := hrel
      have HA := Hid.mk' hall
      clear hall
      by_cases hlt : k < s.size
      · by_cases hp : (s[k].toNat : Int) < 48
        · have HV : Hid (r = false) := by
            show _ = _
            cases r
            · rfl
            · have := (HR.out.2 rfl k hlt).1; omega
          go_wp2_with fail
          go_ret
          exact ⟨retB HV.out.symm, rfl⟩
        · by_cases hq : (57 : Int) < (s[k].toNat : Int)
          · have HV : Hid (r = false) := by
              show _ = _
              cases r
              · rfl
              · have := (HR.out.2 rfl k hlt).2; omega
            go_wp2_with fail
            go_ret
            exact ⟨retB HV.out.symm, rfl⟩
          · go_wp2_with fail
            go_round
            case rel => exact ⟨k + 1, by omega, by go_num, fun j hj hjk => by
              by_cases e : j = k
              · subst e; omega
              · exact HA.out j hj (by omega)⟩
            case measure => simp [intOf]; omega
      · have HV : Hid (r = true) := HR.out.1 fun j hj => HA.out j hj (by omega)
        go_wp2_with fail
        go_ret
        exact ⟨retB HV.out.symm, rfl⟩
set_option maxRecDepth 100000 in
set_option maxHeartbeats 1000000 in
theorem formed_no (s : ByteArray) (w : World) (h : ¬ 0 < s.size ∨ ∃ h : 0 < s.size, s[0].toNat = 48 ∧ 1 < s.size) : Calls Try.prog 32 #[.string s] w fun e w' => e = .returned (.bool false) ∧ w' = w := by
  rcases h with h | ⟨h0, h1, h2⟩
  · have hne := isEmpty_not s h
    clear h
    go_enter Try.func32, Try.ntmps32
    go_wp2_with fail
    go_ret
    exact ⟨rfl, rfl⟩
  · have hne := isEmpty_of s h0
    have hz1 : ((s[0].toNat : Int) == 48) = true := beq_iff_eq.2 (by omega)
    have hz3 : decide ((1 : Int) < (s.size : Int)) = true := decide_eq_true (by omega)
    clear h1 h2
    go_enter Try.func32, Try.ntmps32
    go_wp2_with fail
    go_ret
    exact ⟨rfl, rfl⟩
theorem formed_yes (s : ByteArray) (w : World) (hs : s.size ≤ 9223372036854775807) (h : Frm s) : Calls Try.prog 32 #[.string s] w fun e w' => e = .returned (.bool true) ∧ w' = w :=
  formed_loop s w hs true ⟨fun _ => rfl, fun _ => h.2.2⟩ h.1 (h.2.1 h.1)
theorem formed_not (s : ByteArray) (w : World) (hs : s.size ≤ 9223372036854775807) (h : ¬ Frm s) : Calls Try.prog 32 #[.string s] w fun e w' => e = .returned (.bool false) ∧ w' = w := by
  by_cases h0 : 0 < s.size
  · by_cases h1 : s[0].toNat = 48 ∧ 1 < s.size
    · exact formed_no s w (.inr ⟨h0, h1⟩)
    · have hz : s[0].toNat = 48 → s.size ≤ 1 := fun e => by
        by_cases h2 : 1 < s.size
        · exact absurd ⟨e, h2⟩ h1
        · omega
      exact formed_loop s w hs false ⟨fun ha => absurd ⟨h0, fun _ => hz, ha⟩ h, fun e => by cases e⟩ h0 hz
  · exact formed_no s w (.inl h0)
end Go.Proofs.Ytajkfopeomfacaa

/- The number of a text: Parse. -/
namespace Go.Proofs.Ytajkfopeomfacaa
open Go.RowKit Go.Sort

set_option maxRecDepth 100000 in
set_option maxHeartbeats 1000000 in
theorem parse_not (s : ByteArray) (w : World) (hs : s.size ≤ 9223372036854775807) (h : ¬ Frm s) : Calls Try.prog 23 #[.string s] w fun e w' => e = .returned (.tuple #[wd 0, .int .i64 5]) ∧ Below w.heap.size w w' := by
  have HF : Hid (∀ w, Calls Try.prog 32 #[.string s] w fun e w' => e = .returned (.bool false) ∧ w' = w) := fun w => formed_not s w hs h
  have hb := fun (o : Obj) => Below.one (Below.refl _ w) o
  show Calls Try.prog 23 #[.string s] w fun e w' => e = .returned (.tuple #[.agg #[.int .u64 0, .int .u64 0], .int .i64 5]) ∧ Below w.heap.size w w'
  go_enter Try.func23, Try.ntmps23
  go_wp2_with (go_at_call 32; refine (HF.out _).mono ?_; rintro e w' ⟨rfl, hw⟩; rw [hw])
  refine bodyPost_ret (v := .tuple #[.agg #[.int .u64 0, .int .u64 0], .int .i64 5]) (by simp [results, Try.results23, go_sem]) rfl ⟨rfl, hb _⟩

/-- What Parse answers for a text of the right form. -/
def parN (s : ByteArray) : Nat := if pv s s.size < noRoom then pv s s.size else 0
def parE (s : ByteArray) : Int := if pv s s.size < noRoom then 0 else 2
/-- What lies in memory meanwhile. -/
def PaI (w wr : World) (n : Nat) : Prop :=
  wr.heap[w.heap.size]? = some (.cells #[.int .u64 0, .int .u64 0] 24) ∧ wr.heap[w.heap.size + 1]? = some (.cells #[.int .u64 ((n / 18446744073709551616 : Nat) : Int), .int .u64 ((n % 18446744073709551616 : Nat) : Int)] 24) ∧ Below w.heap.size w wr
theorem PaI.stay {w wr w' : World} {n : Nat} (h : PaI w wr n) (hb : Below wr.heap.size wr w') : PaI w w' n :=
  ⟨(hb.block _ (Array.getElem?_eq_some_iff.1 h.1).1).trans h.1, (hb.block _ (Array.getElem?_eq_some_iff.1 h.2.1).1).trans h.2.1, h.2.2.trans (hb.mono h.2.2.size)⟩
theorem PaI.cells {w wr : World} {n : Nat} (h : PaI w wr n) : wr.cell? ⟨w.heap.size + 1, 0, none⟩ = some (.int .u64 ((n / 18446744073709551616 : Nat) : Int)) ∧ wr.cell? ⟨w.heap.size + 1, 1, none⟩ = some (.int .u64 ((n % 18446744073709551616 : Nat) : Int)) ∧ wr.frozen? ⟨w.heap.size + 1, 0, none⟩ = false ∧ wr.frozen? ⟨w.heap.size + 1, 1, none⟩ = false ∧
    wr.cell? ⟨w.heap.size, 0, none⟩ = some (.int .u64 0) ∧ wr.cell? ⟨w.heap.size, 1, none⟩ = some (.int .u64 0) ∧ wr.frozen? ⟨w.heap.size, 0, none⟩ = false ∧ wr.frozen? ⟨w.heap.size, 1, none⟩ = false :=
  ⟨by rw [Lib.cell_of_heap h.2.1]; rfl, by rw [Lib.cell_of_heap h.2.1]; rfl, Lib.frozen_of_heap h.2.1 _, Lib.frozen_of_heap h.2.1 _, by rw [Lib.cell_of_heap h.1]; rfl, by rw [Lib.cell_of_heap h.1]; rfl, Lib.frozen_of_heap h.1 _, Lib.frozen_of_heap h.1 _⟩
theorem PaI.left {w wr : World} {n : Nat} (h : PaI w wr n) (m : Nat) : PaI w ((wr.setCell ⟨w.heap.size + 1, 0, none⟩ (.int .u64 ((m / 18446744073709551616 : Nat) : Int))).setCell ⟨w.heap.size + 1, 1, none⟩ (.int .u64 ((m % 18446744073709551616 : Nat) : Int))) m := by
  refine ⟨?_, set_list (set_list h.2.1 0 _) 1 _, (h.2.2.setCell (by simp) _).setCell (by simp) _⟩
  rw [Below.heap_setCell _ _ _ _ (by simp), Below.heap_setCell _ _ _ _ (by simp)]; exact h.1
theorem PaI.drew {w wr : World} {n : Nat} (h : PaI w wr n) : PaI w wr.drew n := ⟨h.1, h.2.1, h.2.2.drew⟩
/-- A block that was laid ahead of a call lies there behind it. -/
theorem new_after {wr w3 : World} {a b : Value} {t : TypeId} (hb : Below ((wr.alloc (.cells #[a, b] t)).drew).heap.size ((wr.alloc (.cells #[a, b] t)).drew) w3) :
    Below wr.heap.size wr w3 ∧ w3.cell? ⟨wr.heap.size, 0, none⟩ = some a ∧ w3.cell? ⟨wr.heap.size, 1, none⟩ = some b ∧ w3.frozen? ⟨wr.heap.size, 0, none⟩ = false ∧ w3.frozen? ⟨wr.heap.size, 1, none⟩ = false := by
  have k : w3.heap[wr.heap.size]? = some (.cells #[a, b] t) := by
    rw [hb.block _ (by show _ < (wr.alloc _).heap.size; simp)]; exact heap_alloc_new _ _
  refine ⟨Below.trans (Below.drew (Below.one (Below.refl _ wr) _)) (hb.mono (by show _ ≤ (wr.alloc _).heap.size; simp)), by rw [Lib.cell_of_heap k]; rfl, by rw [Lib.cell_of_heap k]; rfl, Lib.frozen_of_heap k _, Lib.frozen_of_heap k _⟩
theorem old_after {wr w3 : World} (hb : Below wr.drew.heap.size wr.drew w3) : Below wr.heap.size wr w3 := Below.trans (Below.drew (Below.refl _ wr)) hb
theorem finA {w wr w3 : World} {n : Nat} {a b : Value} {t : TypeId} (S : Below wr.heap.size wr w3) (h : PaI w wr n) : PaI w (w3.alloc (.cells #[a, b] t)) n ∧ (w3.alloc (.cells #[a, b] t)).cell? ⟨w3.heap.size, 0, none⟩ = some a ∧ (w3.alloc (.cells #[a, b] t)).cell? ⟨w3.heap.size, 1, none⟩ = some b :=
  ⟨h.stay (Below.one S _), by rw [World.cell?_alloc_at _ _ _ _ rfl]; rfl, by rw [World.cell?_alloc_at _ _ _ _ rfl]; rfl⟩
theorem finB {w wr w3 : World} {n : Nat} {a b a0 b0 : Value} {t : TypeId} (hb : Below ((wr.alloc (.cells #[a0, b0] t)).drew).heap.size ((wr.alloc (.cells #[a0, b0] t)).drew) w3) (h : PaI w wr n) : PaI w ((w3.setCell ⟨wr.heap.size, 0, none⟩ a).setCell ⟨wr.heap.size, 1, none⟩ b) n ∧ ((w3.setCell ⟨wr.heap.size, 0, none⟩ a).setCell ⟨wr.heap.size, 1, none⟩ b).cell? ⟨wr.heap.size, 0, none⟩ = some a ∧ ((w3.setCell ⟨wr.heap.size, 0, none⟩ a).setCell ⟨wr.heap.size, 1, none⟩ b).cell? ⟨wr.heap.size, 1, none⟩ = some b := by
  have k : w3.heap[wr.heap.size]? = some (.cells #[a0, b0] t) := by
    rw [hb.block _ (by show _ < (wr.alloc _).heap.size; simp)]; exact heap_alloc_new _ _
  have k2 := set_list (set_list k 0 a) 1 b
  exact ⟨h.stay (((new_after hb).1.setCell (Nat.le_refl _) _).setCell (Nat.le_refl _) _), by rw [Lib.cell_of_heap k2]; rfl, by rw [Lib.cell_of_heap k2]; rfl⟩
set_option maxRecDepth 100000 in
set_option maxHeartbeats 4000000 in
theorem parse_yes (s : ByteArray) (w : World) (hs : s.size ≤ 9223372036854775807) (h : Frm s) : Calls Try.prog 23 #[.string s] w fun e w' => e = .returned (.tuple #[wd (parN s), .int .i64 (parE s)]) ∧ Below w.heap.size w w' := by
  have HF : Hid (∀ w, Calls Try.prog 32 #[.string s] w fun e w' => e = .returned (.bool true) ∧ w' = w) := fun w => formed_yes s w hs h
  have H0 : Hid (PaI w ((w.alloc (.cells #[.int .u64 0, .int .u64 0] 24)).alloc (.cells #[.int .u64 0, .int .u64 0] 24)) 0) := by
    refine ⟨?_, ?_, Below.one (Below.one (Below.refl _ w) _) _⟩
    · rw [Below.heap_alloc _ _ _ (by simp)]; exact heap_alloc_new _ _
    · exact (by simp : w.heap.size + 1 = (w.alloc (.cells #[.int .u64 0, .int .u64 0] 24)).heap.size) ▸ heap_alloc_new (w.alloc (.cells #[.int .u64 0, .int .u64 0] 24)) _
  have HFr := Hid.mk' h
  have HP : Hid (∀ n d, n < noRoom → d < 10 → ∀ w, Calls Try.prog 33 #[.agg #[.int .u64 ((n / 18446744073709551616 : Nat) : Int), .int .u64 ((n % 18446744073709551616 : Nat) : Int)], .int .u8 (d : Nat)] w fun e w' => e = .returned (.tuple #[.agg #[.int .u64 ((putN n d / 18446744073709551616 : Nat) : Int), .int .u64 ((putN n d % 18446744073709551616 : Nat) : Int)], .bool (decide (n * 10 + d < noRoom))]) ∧ Below w.heap.size w w') := fun n d hn hd w => put_any n d hn hd w
  clear h
  go_enter Try.func23, Try.ntmps23
  go_wp2_with (go_at_call 32; refine (HF.out _).mono ?_; rintro e w' ⟨rfl, hw⟩; rw [hw])
  go_loopw [14] (fun t14 wr => ∃ k : Nat, t14 = .int .i64 k ∧ k ≤ s.size ∧ pv s k < noRoom ∧ PaI w wr (pv s k)) (fun t14 _ => s.size - (intOf t14).toNat)
  case atStart => exact ⟨0, rfl, Nat.zero_le _, by unfold noRoom pv; omega, H0.out⟩
  case round =>
    obtain ⟨k, rfl, hk, hn, hI⟩ := hrel
    obtain ⟨c0, c1, c2, c3, c4, c5, c6, c7⟩ := hI.cells
    have HI := Hid.mk' hI
    by_cases hlt : k < s.size
    · obtain ⟨f1, f2⟩ := HFr.out.2.2 k hlt
      have hw : IntKind.u8.wrap ((s[k].toNat : Int) - 48) = ((s[k].toNat - 48 : Nat) : Int) := by rw [IntKind.wrap_u8]; omega
      have HPn := Hid.mk' (HP.out (pv s k) (s[k].toNat - 48) hn (by omega))
      have HS := Hid.mk' (pv_step hlt)
      have HN := Hid.mk' hn
      generalize s[k].toNat - 48 = d at *
      have HR : Hid (∀ {W}, PaI w W (pv s k) → PaI w ((W.setCell ⟨w.heap.size + 1, 0, none⟩ (.int .u64 ((putN (pv s k) d / 18446744073709551616 : Nat) : Int))).setCell ⟨w.heap.size + 1, 1, none⟩ (.int .u64 ((putN (pv s k) d % 18446744073709551616 : Nat) : Int))) (putN (pv s k) d)) := fun h => h.left _
      generalize pv s k / 18446744073709551616 = h1 at *
      generalize pv s k % 18446744073709551616 = l1 at *
      generalize putN (pv s k) d / 18446744073709551616 = h2 at *
      generalize putN (pv s k) d % 18446744073709551616 = l2 at *
      have hli : (k : Int) < (s.size : Int) := by omega
      obtain ⟨D, hD⟩ : ∃ D, D = decide (pv s k * 10 + d < noRoom) := ⟨_, rfl⟩
      rw [← hD] at HPn
      have HD := Hid.mk' hD
      clear hD
      have hsz : w.heap.size + 1 < wr.heap.size := (Array.getElem?_eq_some_iff.1 hI.2.1).1
      have c0' := fun (o : Obj) => (World.cell?_alloc_past (w := wr) o (w.heap.size + 1) 0 hsz).trans c0
      have c1' := fun (o : Obj) => (World.cell?_alloc_past (w := wr) o (w.heap.size + 1) 1 hsz).trans c1
      clear hI hn f1 f2
      go_upto_region 7 with fail
      go_region_with (go_at_call 33; refine (HPn.out _).mono ?_; rintro e w3 ⟨rfl, hb3⟩; first | (have S4 := new_after hb3; obtain ⟨S3, q0, q1, q2, q3⟩ := S4) | (have S3 := old_after (wr := wr) hb3))
      all_goals first | (have fin := finB hb3 HI.out (a := .int .u64 (h2 : Int)) (b := .int .u64 (l2 : Int)); generalize (w3.setCell ⟨wr.heap.size, 0, none⟩ (.int .u64 (h2 : Int))).setCell ⟨wr.heap.size, 1, none⟩ (.int .u64 (l2 : Int)) = W at *) | (have fin := finA S3 HI.out (a := .int .u64 (h2 : Int)) (b := .int .u64 (l2 : Int)) (t := 24); generalize w3.alloc (.cells #[.int .u64 (h2 : Int), .int .u64 (l2 : Int)] 24) = W at *)
      all_goals
        obtain ⟨fI, f0, f1⟩ := fin
        have HFI := Hid.mk' fI
        have HRW := Hid.mk' (HR.out fI)
        obtain ⟨x0, x1, x2, x3, x4, x5, x6, x7⟩ := fI.cells
        clear fI c0 c1 c2 c3 c4 c5 c6 c7 c0' c1' hb3 S3 HPn HP HR
      all_goals
        cases D
        · have hbig : ¬ pv s k * 10 + d < noRoom := of_decide_eq_false HD.out.symm
          have HZ : Hid (wd (parN s) = .agg #[.int .u64 0, .int .u64 0] ∧ parE s = 2) := by
            have h1 := pv_le s (k + 1) (s.size - (k + 1))
            rw [show k + 1 + (s.size - (k + 1)) = s.size by omega, HS.out] at h1
            have h2 : ¬ pv s s.size < noRoom := by omega
            refine ⟨?_, if_neg h2⟩
            rw [parN, if_neg h2]; rfl
          clear hbig
          go_wp2_with fail
          refine bodyPost_ret (v := .tuple #[.agg #[.int .u64 0, .int .u64 0], .int .i64 2]) (by simp [results, Try.results23, go_sem, *]) rfl ⟨by rw [HZ.out.1, HZ.out.2], ?_⟩
          exact (HFI.out.2.2.setCell (by simp) _).setCell (by simp) _
        · have hroom : pv s k * 10 + d < noRoom := of_decide_eq_true HD.out.symm
          have HV : Hid (putN (pv s k) d = pv s (k + 1) ∧ pv s (k + 1) < noRoom) := by rw [HS.out]; exact ⟨if_pos hroom, hroom⟩
          clear hroom
          go_wp2_with fail
          go_roundw
          case rel => exact ⟨k + 1, by go_num, by omega, HV.out.2, by rw [← HV.out.1]; exact HRW.out⟩
          case measure => simp [intOf]; omega
    · have hke : k = s.size := by omega
      have HZ : Hid (wd (parN s) = .agg #[.int .u64 ((pv s k / 18446744073709551616 : Nat) : Int), .int .u64 ((pv s k % 18446744073709551616 : Nat) : Int)] ∧ parE s = 0) := by
        rw [hke] at hn
        refine ⟨?_, if_pos hn⟩
        rw [parN, if_pos hn, hke]; rfl
      have hB := hI.2.2
      generalize pv s k / 18446744073709551616 = h1 at *
      generalize pv s k % 18446744073709551616 = l1 at *
      have hli : ¬ (k : Int) < (s.size : Int) := by omega
      clear hke hI hn
      go_wp2_with fail
      refine bodyPost_ret (v := .tuple #[.agg #[.int .u64 h1, .int .u64 l1], .int .i64 0]) (by simp [results, Try.results23, go_sem, *]) rfl ⟨by rw [HZ.out.1, HZ.out.2], ?_⟩
      exact (hB.setCell (by simp) _).setCell (by simp) _
end Go.Proofs.Ytajkfopeomfacaa

/- Plain: texts of numbers, there and back. -/
namespace Go.Proofs.Ytajkfopeomfacaa
open Go.RowKit Go.Sort

def pvL (l : List UInt8) : Nat := l.foldl (fun a c => a * 10 + (c.toNat - 48)) 0
theorem pvL_app (l : List UInt8) (c : UInt8) : pvL (l ++ [c]) = pvL l * 10 + (c.toNat - 48) := by simp [pvL]
theorem pv_take (s : ByteArray) : ∀ k, k ≤ s.size → pv s k = pvL (s.data.toList.take k)
  | 0, _ => rfl
  | k + 1, h => by
    have hk : k < s.data.toList.length := by rw [ba_len]; omega
    rw [pv, pv_take s k (by omega), List.take_add_one, List.getElem?_eq_getElem hk]
    show _ = pvL (_ ++ [_])
    rw [pvL_app, List.getD_eq_getElem?_getD, List.getElem?_eq_getElem hk]
    rfl
theorem pv_all (s : ByteArray) : pv s s.size = pvL s.data.toList := by
  rw [pv_take s _ (Nat.le_refl _), ← ba_len, List.take_length]
theorem get_list (s : ByteArray) (k : Nat) (h : k < s.size) : s.data.toList[k]? = some s[k] := by
  rw [List.getElem?_eq_getElem (by rw [ba_len]; exact h)]; rfl
theorem u8_digit {d : Nat} (h : d < 10) : (UInt8.ofNat (48 + d)).toNat = 48 + d := by
  rw [UInt8.toNat_ofNat', Nat.mod_eq_of_lt (by omega)]
theorem digit_u8 {c : UInt8} (h1 : 48 ≤ c.toNat) : UInt8.ofNat (48 + (c.toNat - 48)) = c := by
  apply UInt8.toNat_inj.1
  rw [UInt8.toNat_ofNat', Nat.mod_eq_of_lt (by have := c.toNat_lt; omega)]
  omega
/-- What is read has just that text. -/
theorem dec_pv {s : ByteArray} (h : Frm s) : Lib.decDigits (pv s s.size) = s.data.toList := by
  obtain ⟨h0, hz, hd⟩ := h
  have key : s[0].toNat ≠ 48 → ∀ k, k < s.size → Lib.decDigits (pv s (k + 1)) = s.data.toList.take (k + 1) ∧ 1 ≤ pv s (k + 1) := by
    intro hne k
    induction k with
    | zero =>
      intro hk
      have := hd 0 hk
      rw [pv_step hk, pv]
      refine ⟨?_, by omega⟩
      rw [Nat.zero_mul, Nat.zero_add, Lib.decDigits_one (by omega), digit_u8 this.1, List.take_add_one, get_list s 0 hk]
      rfl
    | succ k ih =>
      intro hk
      obtain ⟨i1, i2⟩ := ih (by omega)
      have := hd (k + 1) hk
      rw [pv_step hk]
      refine ⟨?_, by omega⟩
      rw [dec_step (by omega), show (pv s (k + 1) * 10 + (s[k + 1].toNat - 48)) / 10 = pv s (k + 1) by omega, show (pv s (k + 1) * 10 + (s[k + 1].toNat - 48)) % 10 = s[k + 1].toNat - 48 by omega, i1, digit_u8 this.1, List.take_add_one (i := k + 1), get_list s (k + 1) hk]
      rfl
  by_cases hne : s[0].toNat = 48
  · have h1 := hz h0 hne
    have e : s.size = 1 := by omega
    have := hd 0 h0
    rw [e, pv_step h0, pv, hne, Nat.zero_mul, Nat.sub_self, Nat.zero_add, Lib.decDigits_one (by omega)]
    have hl : s.data.toList = s.data.toList.take (0 + 1) := (List.take_of_length_le (by rw [ba_len]; omega)).symm
    rw [hl, List.take_add_one, get_list s 0 h0, ← digit_u8 this.1, hne]
    rfl
  · have := (key hne (s.size - 1) (by omega)).1
    rw [show s.size - 1 + 1 = s.size by omega] at this
    rw [this, ← ba_len, List.take_length]
theorem dec_parts (n : Nat) : (∀ c ∈ Lib.decDigits n, 48 ≤ c.toNat ∧ c.toNat ≤ 57) ∧ pvL (Lib.decDigits n) = n ∧ ∃ c l, Lib.decDigits n = c :: l ∧ (c.toNat = 48 → n = 0) := by
  induction n using Nat.strongRecOn with
  | _ n ih =>
    by_cases h : n < 10
    · rw [Lib.decDigits_one h]
      refine ⟨fun c hc => ?_, ?_, _, _, rfl, ?_⟩
      · rw [List.mem_singleton] at hc; subst hc; rw [u8_digit h]; omega
      · simp [pvL]
        have : (48 + n) % 256 = 48 + n := Nat.mod_eq_of_lt (by omega)
        omega
      · rw [u8_digit h]; omega
    · obtain ⟨i1, i2, c, l, i3, i4⟩ := ih (n / 10) (by omega)
      rw [dec_step h]
      refine ⟨fun c hc => ?_, ?_, c, l ++ [UInt8.ofNat (48 + n % 10)], by rw [i3]; rfl, fun e => by have := i4 e; omega⟩
      · rcases List.mem_append.1 hc with hc | hc
        · exact i1 c hc
        · rw [List.mem_singleton] at hc; subst hc; rw [u8_digit (by omega)]; omega
      · rw [pvL_app, i2, u8_digit (by omega)]; omega
/-- A text is of the right form, and is read as its number. -/
theorem frm_dec (n : Nat) : Frm (tb (Lib.decDigits n)) ∧ pv (tb (Lib.decDigits n)) (tb (Lib.decDigits n)).size = n := by
  obtain ⟨h1, h2, c, l, h3, h4⟩ := dec_parts n
  have hl : (tb (Lib.decDigits n)).data.toList = Lib.decDigits n := rfl
  have hs : (tb (Lib.decDigits n)).size = (Lib.decDigits n).length := by rw [← ba_len]
  have hg : ∀ k (h : k < (tb (Lib.decDigits n)).size), (Lib.decDigits n)[k]? = some (tb (Lib.decDigits n))[k] := fun k h => by rw [← get_list _ k h]
  refine ⟨⟨by rw [hs, h3]; simp, fun h0 he => ?_, fun k hk => h1 _ (List.mem_of_getElem? (hg k hk))⟩, by rw [pv_all, hl, h2]⟩
  have e := hg 0 h0
  have e' : (Lib.decDigits n)[0]? = some c := by rw [h3]; rfl
  have ec : c = (tb (Lib.decDigits n))[0] := Option.some.inj (e'.symm.trans e)
  have := h4 (by rw [ec]; exact he)
  rw [hs, this, Lib.decDigits_one (by omega)]
  simp
theorem dec_len (n : Nat) (h : n < noRoom) : (tb (Lib.decDigits n)).size ≤ 9223372036854775807 := by
  have key : ∀ k n, n < 10 ^ (k + 1) → (Lib.decDigits n).length ≤ k + 1 := by
    intro k
    induction k with
    | zero => intro n h; rw [Lib.decDigits_one (by simpa using h)]; simp
    | succ k ih =>
      intro n h
      by_cases h' : n < 10
      · rw [Lib.decDigits_one h']; simp
      · rw [dec_step h', List.length_append]
        have := ih (n / 10) (by rw [Nat.pow_succ] at h; omega)
        simp; omega
  have h1 := key 38 n (by unfold noRoom at h; omega)
  rw [← ba_len]
  show (Lib.decDigits n).length ≤ _
  omega
end Go.Proofs.Ytajkfopeomfacaa

/- The law's own question that is asked first: it is answered yes. -/
namespace Go.Proofs.Ytajkfopeomfacaa
open Go.RowKit Go.Sort

def fxS : ByteArray := ⟨#[49, 56, 52, 52, 54, 55, 52, 52, 48, 55, 51, 55, 48, 57, 53, 53, 49, 54, 49, 54]⟩
theorem fx_frm : Frm fxS := by
  refine ⟨by decide, fun _ h => absurd (show (49 : UInt8).toNat = 48 from h) (by decide), fun k hk => ?_⟩
  have hk' : k < 20 := hk
  have key : ∀ j : Fin 20, 48 ≤ (fxS.data.toList.getD j 0).toNat ∧ (fxS.data.toList.getD j 0).toNat ≤ 57 := by decide
  have := key ⟨k, hk'⟩
  rw [List.getD_eq_getElem?_getD, get_list fxS k hk] at this
  exact this
theorem fx_pv : pv fxS fxS.size = 18446744073709551616 := by kernel_rfl
theorem fx_dec : tb (Lib.decDigits 18446744073709551616) = fxS := by
  have := dec_pv fx_frm
  rw [fx_pv] at this
  unfold tb
  rw [this]
theorem K1 (w : World) : Calls Try.prog 14 #[.int .u64 1] w fun e w' => e = .returned (.agg #[.int .u64 0, .int .u64 1]) ∧ Below w.heap.size w w' := of_any 1 (by omega) w
theorem K2 (w : World) : Calls Try.prog 14 #[.int .u64 7] w fun e w' => e = .returned (.agg #[.int .u64 0, .int .u64 7]) ∧ Below w.heap.size w w' := of_any 7 (by omega) w
theorem K3 (w : World) : Calls Try.prog 9 #[.agg #[.int .u64 0, .int .u64 18446744073709551615], .agg #[.int .u64 0, .int .u64 1]] w fun e w' => e = .returned (.tuple #[.agg #[.int .u64 1, .int .u64 0], .bool true]) ∧ Below w.heap.size w w' :=
  add_any 18446744073709551615 1 (by unfold noRoom; omega) (by unfold noRoom; omega) w
theorem K4 (w : World) : Calls Try.prog 15 #[.agg #[.int .u64 1, .int .u64 0], .int .u64 18446744073709551615] w fun e w' => e = .returned (.tuple #[.agg #[.int .u64 18446744073709551615, .int .u64 0], .bool true]) ∧ Below w.heap.size w w' :=
  times_any 18446744073709551616 18446744073709551615 (by unfold noRoom; omega) (by omega) w
theorem K5 (w : World) : Calls Try.prog 19 #[.agg #[.int .u64 0, .int .u64 9223372036854775807]] w fun e w' => e = .returned (.tuple #[.int .i64 9223372036854775807, .bool true]) ∧ Below w.heap.size w w' :=
  fits_any 9223372036854775807 (by unfold noRoom; omega) w
theorem K6 (w : World) : Calls Try.prog 23 #[.string fxS] w fun e w' => e = .returned (.tuple #[.agg #[.int .u64 1, .int .u64 0], .int .i64 0]) ∧ Below w.heap.size w w' := by
  have := parse_yes fxS w (by decide) fx_frm
  rw [parN, parE, fx_pv] at this
  exact this
theorem K7 (w : World) : Calls Try.prog 21 #[.agg #[.int .u64 1, .int .u64 0]] w fun e w' => e = .returned (.string fxS) ∧ Below w.heap.size w w' := by
  have := text_any 18446744073709551616 (by unfold noRoom; omega) w
  rw [fx_dec] at this
  exact this
theorem K8 (w : World) : Calls Try.prog 12 #[.agg #[.int .u64 1, .int .u64 0], .agg #[.int .u64 0, .int .u64 7]] w fun e w' => e = .returned (.int .i64 1) ∧ Below w.heap.size w w' :=
  compare_any 18446744073709551616 7 (by unfold noRoom; omega) (by unfold noRoom; omega) w
theorem K9 (w : World) : Calls Try.prog 17 #[.int .u64 9223372036854775808, .int .u64 6] w fun e w' => e = .returned (.agg #[.int .u64 3, .int .u64 0]) ∧ Below w.heap.size w w' :=
  mul_any 9223372036854775808 6 (by omega) (by omega) w

set_option maxRecDepth 100000 in
set_option maxHeartbeats 4000000 in
theorem fixed_any (w : World) : Calls Try.prog 11 #[] w fun e w' => e = .returned (.bool true) ∧ Below w.heap.size w w' := by
  have H1 := Hid.mk' K1; have H2 := Hid.mk' K2; have H3 := Hid.mk' K3; have H4 := Hid.mk' K4; have H5 := Hid.mk' K5; have H6 := Hid.mk' K6; have H7 := Hid.mk' K7; have H8 := Hid.mk' K8; have H9 := Hid.mk' K9
  unfold fxS at H6 H7
  have g1 := eqGuard_w
  have q1 := fun w => equalIn_w 1 0 1 0 w
  have q2 := fun w => equalIn_w 18446744073709551615 0 18446744073709551615 0 w
  have q3 := fun w => equalIn_w 3 0 3 0 w
  simp only [beq_self_eq_true, Bool.and_self] at q1 q2 q3
  go_enter Try.func11, Try.ntmps11
  go_upto_region 5 with (first | (go_at_call 14; refine (H1.out _).mono ?_; rintro e w1 ⟨rfl, hb1⟩) | (go_at_call 9; refine (H3.out _).mono ?_; rintro e w2 ⟨rfl, hb2⟩) | (go_at_call 15; refine (H4.out _).mono ?_; rintro e w3 ⟨rfl, hb3⟩) | (go_at_call 19; refine (H5.out _).mono ?_; rintro e w4 ⟨rfl, hb4⟩) | (go_at_call 23; refine (H6.out _).mono ?_; rintro e w5 ⟨rfl, hb5⟩))
  have s3 := hb3.size
  have s4 := hb4.size
  have s5 := hb5.size
  simp only [World.size_alloc] at s3 s4
  have k1 : (w5.alloc (.cells #[.int .u64 1, .int .u64 0] 24)).heap[w2.heap.size]? = some (.cells #[.int .u64 1, .int .u64 0] 24) := by
    rw [Below.heap_alloc _ _ _ (by omega), hb5.block _ (by omega), hb4.block _ (by simp; omega), Below.heap_alloc _ _ _ (by omega), hb3.block _ (by simp)]; exact heap_alloc_new _ _
  have k2 : (w5.alloc (.cells #[.int .u64 1, .int .u64 0] 24)).heap[w3.heap.size]? = some (.cells #[.int .u64 18446744073709551615, .int .u64 0] 24) := by
    rw [Below.heap_alloc _ _ _ (by omega), hb5.block _ (by omega), hb4.block _ (by simp)]; exact heap_alloc_new _ _
  have k3 := heap_alloc_new w5 (.cells #[.int .u64 1, .int .u64 0] 24)
  have hB : Below w.heap.size w (w5.alloc (.cells #[.int .u64 1, .int .u64 0] 24)) := by
    refine Below.one ?_ _
    exact Below.on (Below.on (Below.on (Below.on hb1 hb2) (Below.trans (Below.one (Below.refl _ w2) _) (hb3.mono (by simp)))) (Below.trans (Below.one (Below.refl _ w3) _) (hb4.mono (by simp)))) hb5
  generalize w5.alloc (.cells #[.int .u64 1, .int .u64 0] 24) = W at *
  have m1 : ∀ d os, (grow (redrawn W d) os).cell? ⟨w2.heap.size, 0, none⟩ = some (.int .u64 1) := fun d os => cell_regrown (by rw [Lib.cell_of_heap k1]; rfl) d os
  have m2 : ∀ d os, (grow (redrawn W d) os).cell? ⟨w2.heap.size, 1, none⟩ = some (.int .u64 0) := fun d os => cell_regrown (by rw [Lib.cell_of_heap k1]; rfl) d os
  have m3 : ∀ d os, (grow (redrawn W d) os).cell? ⟨w3.heap.size, 0, none⟩ = some (.int .u64 18446744073709551615) := fun d os => cell_regrown (by rw [Lib.cell_of_heap k2]; rfl) d os
  have m4 : ∀ d os, (grow (redrawn W d) os).cell? ⟨w3.heap.size, 1, none⟩ = some (.int .u64 0) := fun d os => cell_regrown (by rw [Lib.cell_of_heap k2]; rfl) d os
  have m5 : ∀ d os, (grow (redrawn W d) os).cell? ⟨w5.heap.size, 0, none⟩ = some (.int .u64 1) := fun d os => cell_regrown (by rw [Lib.cell_of_heap k3]; rfl) d os
  have m6 : ∀ d os, (grow (redrawn W d) os).cell? ⟨w5.heap.size, 1, none⟩ = some (.int .u64 0) := fun d os => cell_regrown (by rw [Lib.cell_of_heap k3]; rfl) d os
  have HB : Hid (∀ d os, Below w.heap.size w (grow (redrawn W d) os)) := fun d os => hB.trans ((below_regrown _ d os).mono hB.size)
  clear k1 k2 k3 hB s3 s4 s5 hb1 hb2 hb3 hb4 hb5 H1 H3 H4 H5 H6
  try simp only [List.append]
  refine wp_region_quiet_below (by kernel_rfl) (by kernel_rfl) ?_
  repeat (go_big_quiet_step (first | (go_at_call 14; with_reducible exact Calls.regrown_of (H2.out _)) | (go_at_call 12; with_reducible exact Calls.regrown_of (H8.out _)) | (go_at_call 21; with_reducible exact Calls.regrown_of (H7.out _)) | (go_at_call 17; with_reducible exact Calls.regrown_of (H9.out _))))
  refine wpQuiet_nil ?_
  intro _ hw'
  obtain ⟨⟨dq, osq⟩, hw''⟩ := hw'
  subst hw''
  clear m1 m2 m3 m4 m5 m6
  go_wp2_with fail
  go_ret
  exact ⟨rfl, HB.out _ _⟩
end Go.Proofs.Ytajkfopeomfacaa

/- Numbers that lie in memory; the calls' contracts over them. -/
namespace Go.Proofs.Ytajkfopeomfacaa
open Go.RowKit Go.Sort

def hiN (n : Nat) : Nat := n / 18446744073709551616
def loN (n : Nat) : Nat := n % 18446744073709551616
theorem wd_v (n : Nat) : wd n = .agg #[.int .u64 (hiN n), .int .u64 (loN n)] := rfl
/-- A block holds a number. -/
def At (W : World) (g n : Nat) : Prop := W.heap[g]? = some (.cells #[.int .u64 (hiN n), .int .u64 (loN n)] 24)
theorem At.stay {W W' : World} {g n : Nat} (h : At W g n) (hb : Below W.heap.size W W') : At W' g n := (hb.block _ (Array.getElem?_eq_some_iff.1 h).1).trans h
theorem At.on {W W' : World} {g n : Nat} (h : At W g n) (o : Obj) (hb : Below W.heap.size W W') : At (W'.alloc o) g n := h.stay (Below.one hb o)
theorem At.c0 {W : World} {g n : Nat} (h : At W g n) : W.cell? ⟨g, 0, none⟩ = some (.int .u64 (hiN n)) := by rw [Lib.cell_of_heap h]; rfl
theorem At.c1 {W : World} {g n : Nat} (h : At W g n) : W.cell? ⟨g, 1, none⟩ = some (.int .u64 (loN n)) := by rw [Lib.cell_of_heap h]; rfl
theorem At.new (W : World) (n : Nat) : At (W.alloc (.cells #[.int .u64 (hiN n), .int .u64 (loN n)] 24)) W.heap.size n := heap_alloc_new _ _
theorem At.r0 {W : World} {g n : Nat} (h : At W g n) : ∀ d os, (grow (redrawn W d) os).cell? ⟨g, 0, none⟩ = some (.int .u64 (hiN n)) := fun d os => cell_regrown h.c0 d os
theorem At.r1 {W : World} {g n : Nat} (h : At W g n) : ∀ d os, (grow (redrawn W d) os).cell? ⟨g, 1, none⟩ = some (.int .u64 (loN n)) := fun d os => cell_regrown h.c1 d os
theorem at_two (w : World) (a b : Nat) (W0 : World) (h : W0 = (w.alloc (.cells #[.int .u64 (hiN a), .int .u64 (loN a)] 24)).alloc (.cells #[.int .u64 (hiN b), .int .u64 (loN b)] 24)) : At W0 w.heap.size a ∧ At W0 (w.heap.size + 1) b ∧ Below w.heap.size w W0 := by
  subst h
  refine ⟨(At.new w a).stay (Below.one (Below.refl _ _) _), ?_, Below.one (Below.one (Below.refl _ _) _) _⟩
  have := At.new (w.alloc (.cells #[.int .u64 (hiN a), .int .u64 (loN a)] 24)) b
  rwa [World.size_alloc] at this
theorem at_three (w : World) (a b c : Nat) (W0 : World) (h : W0 = ((w.alloc (.cells #[.int .u64 (hiN a), .int .u64 (loN a)] 24)).alloc (.cells #[.int .u64 (hiN b), .int .u64 (loN b)] 24)).alloc (.cells #[.int .u64 (hiN c), .int .u64 (loN c)] 24)) : At W0 w.heap.size a ∧ At W0 (w.heap.size + 1) b ∧ At W0 (w.heap.size + 1 + 1) c ∧ Below w.heap.size w W0 := by
  subst h
  obtain ⟨h1, h2, h3⟩ := at_two w a b _ rfl
  refine ⟨h1.stay (Below.one (Below.refl _ _) _), h2.stay (Below.one (Below.refl _ _) _), ?_, Below.one h3 _⟩
  have := At.new ((w.alloc (.cells #[.int .u64 (hiN a), .int .u64 (loN a)] 24)).alloc (.cells #[.int .u64 (hiN b), .int .u64 (loN b)] 24)) c
  rwa [World.size_alloc, World.size_alloc] at this

theorem addV (m n : Nat) (hm : m < noRoom) (hn : n < noRoom) (w : World) : Calls Try.prog 9 #[.agg #[.int .u64 (hiN m), .int .u64 (loN m)], .agg #[.int .u64 (hiN n), .int .u64 (loN n)]] w fun e w' => e = .returned (.tuple #[.agg #[.int .u64 (hiN (sumN m n)), .int .u64 (loN (sumN m n))], .bool (decide (m + n < noRoom))]) ∧ Below w.heap.size w w' := add_any m n hm hn w
theorem timesV (n b : Nat) (hn : n < noRoom) (hb : b < 18446744073709551616) (w : World) : Calls Try.prog 15 #[.agg #[.int .u64 (hiN n), .int .u64 (loN n)], .int .u64 b] w fun e w' => e = .returned (.tuple #[.agg #[.int .u64 (hiN (timesN n b)), .int .u64 (loN (timesN n b))], .bool (decide (n * b < noRoom))]) ∧ Below w.heap.size w w' := times_any n b hn hb w
theorem compareV (m n : Nat) (hm : m < noRoom) (hn : n < noRoom) (w : World) : Calls Try.prog 12 #[.agg #[.int .u64 (hiN m), .int .u64 (loN m)], .agg #[.int .u64 (hiN n), .int .u64 (loN n)]] w fun e w' => e = .returned (.int .i64 (cmpN m n)) ∧ Below w.heap.size w w' := compare_any m n hm hn w
theorem mulV (x y : Nat) (hx : x < 18446744073709551616) (hy : y < 18446744073709551616) (w : World) : Calls Try.prog 17 #[.int .u64 x, .int .u64 y] w fun e w' => e = .returned (.agg #[.int .u64 (hiN (x * y)), .int .u64 (loN (x * y))]) ∧ Below w.heap.size w w' := mul_any x y hx hy w
theorem ofV (n : Nat) (hn : n < 18446744073709551616) (w : World) : Calls Try.prog 14 #[.int .u64 n] w fun e w' => e = .returned (.agg #[.int .u64 (hiN n), .int .u64 (loN n)]) ∧ Below w.heap.size w w' := of_any n hn w
theorem eqV (m n : Nat) (w : World) : (Op.equalIn 10000 24 (.agg #[.int .u64 (hiN m), .int .u64 (loN m)]) (.agg #[.int .u64 (hiN n), .int .u64 (loN n)])).run Try.prog w = .ok (decide (m = n)) w := by
  have := equalIn_w ((m / 18446744073709551616 : Nat) : Int) ((m % 18446744073709551616 : Nat) : Int) ((n / 18446744073709551616 : Nat) : Int) ((n % 18446744073709551616 : Nat) : Int) w
  have e : (((m / 18446744073709551616 : Nat) : Int) == ((n / 18446744073709551616 : Nat) : Int) && ((m % 18446744073709551616 : Nat) : Int) == ((n % 18446744073709551616 : Nat) : Int)) = decide (m = n) := by
    apply Bool.eq_iff_iff.2
    rw [Bool.and_eq_true, beq_iff_eq, beq_iff_eq, decide_eq_true_eq]
    omega
  rw [e] at this
  exact this
end Go.Proofs.Ytajkfopeomfacaa

/- What every row of this seat shares: numbers of two words opened and shut. -/
namespace Go.Proofs.Ytajkfopeomfacaa
open Go.ChangeShapes Go.WideShapes Go.ChangeAt Go.RowKit

theorem ownK : ownKnob Try.prog.godebug = none := by kernel_rfl
theorem laidOutT : laidOutB Try.prog = true := by kernel_rfl
theorem cellsW : Try.prog.cellsOf 24 = 2 := by kernel_rfl
theorem u64_of {n : Int} (h : (Lit.int .u64 n).wf = true) : ∃ m : Nat, n = (m : Int) ∧ m < 18446744073709551616 := by
  have h1 : IntKind.u64.min ≤ n ∧ n ≤ IntKind.u64.max := by simpa [Lit.wf] using h
  have h2 : IntKind.u64.min = 0 := by kernel_rfl
  have h3 : IntKind.u64.max = 18446744073709551615 := by kernel_rfl
  rw [h2, h3] at h1
  exact ⟨n.toNat, by omega, by omega⟩
theorem open_wide {H : Type} {enc : TypeId × Value → H} {W : World} {base : Nat} {sp : Nat → Bool} {held : Bool} {r : Reach} {b0 : Nat} {v : Value} {d : DataW H} {ps : List MemPlace}
    (hv : Value.okWide Try.prog W r b0 24 v) (h : DataW.Trod enc Try.prog W base sp held 24 v d ps) :
    ∃ n : Nat, n < noRoom ∧ v = wd n ∧ ps = [] ∧ ∀ W' base' sp' held', DataW.Trod enc Try.prog W' base' sp' held' 24 (wd n) d [] := by
  obtain ⟨c0, c1, y0, y1, m, rfl, rfl, rfl, hy0, hy1⟩ := Joins.open_agg2 Try.underlying24 (by kernel_rfl) cellsW hv h
  obtain ⟨n0, e0, rfl, w0⟩ := DataW.trod_int Try.underlying22 hy0
  obtain ⟨n1, e1, rfl, w1⟩ := DataW.trod_int Try.underlying22 hy1
  simp at e0 e1
  subst e0 e1
  obtain ⟨h0, rfl, b1⟩ := u64_of w0
  obtain ⟨l0, rfl, b2⟩ := u64_of w1
  refine ⟨h0 * 18446744073709551616 + l0, by unfold noRoom; omega, wd_of b2, rfl, fun W' base' sp' held' => ?_⟩
  rw [← wd_of b2]
  exact Joins.shut_agg2 (y0 := (.lit (.int .u64 h0), [])) (y1 := (.lit (.int .u64 l0), [])) Try.underlying24 (by kernel_rfl) cellsW ⟨1, by simp [DataW.trod, Try.underlying22, w0]⟩ ⟨1, by simp [DataW.trod, Try.underlying22, w1]⟩
end Go.Proofs.Ytajkfopeomfacaa

/- The document's own digits. -/
namespace Go.Proofs.Ytajkfopeomfacaa
open Go.RowKit Go.Sort

def uV (x : Nat) : Value := .int .u64 ((x : Nat) : Int)
theorem Try.infoU : (Try.prog.info? 22).map (fun i => (i.zero, i.size, i.bytes)) = some (some (.int .u64 0), 1, 8) := by kernel_rfl

/-- A row of numbers that lies in memory of the call's own, at N and above. -/
def Row (W : World) (N : Nat) (v : Value) (l : List Nat) : Prop := W.ownsRow N 22 1 v l.length (l.map uV)
theorem Row.form {W : World} {N : Nat} {v : Value} {l : List Nat} (h : Row W N v l) : ∃ ao cap, v = .slice ao l.length cap := gown_form h
theorem Row.low {W : World} {N : Nat} {v : Value} {l : List Nat} (h : Row W N v l) : ∀ g ∈ ob v, N ≤ g ∧ g < W.heap.size := fun g hg => by
  rcases h.2 with ⟨rfl, _⟩ | ⟨g', cap, cur, rfl, h1, h2, _⟩
  · simp [ob, Value.ownBlock] at hg
  · have : g = g' := by simpa [ob, Value.ownBlock] using hg
    subst this
    exact ⟨h1, (Array.getElem?_eq_some_iff.1 h2).1⟩
theorem Row.stay {W W' : World} {N : Nat} {v : Value} {l : List Nat} (h : Row W N v l) (hb : Below W.heap.size W W') : Row W' N v l :=
  gown_keep h fun g hg => hb.block _ (h.low g hg).2
theorem Row.keep {W W' : World} {N M : Nat} {v : Value} {l : List Nat} (h : Row W N v l) (hb : Below M W W') (hM : ∀ g ∈ ob v, g < M) : Row W' N v l :=
  gown_keep h fun g hg => hb.block _ (hM g hg)
theorem Row.mono {W : World} {N M : Nat} {v : Value} {l : List Nat} (h : Row W N v l) (hM : M ≤ N) : Row W M v l := by
  refine ⟨h.1, ?_⟩
  rcases h.2 with h0 | ⟨g', cap, cur, e, h1, h2⟩
  · exact .inl h0
  · exact .inr ⟨g', cap, cur, e, by omega, h2⟩
theorem Row.cell {W : World} {N : Nat} {v : Value} {l : List Nat} (h : Row W N v l) {j : Nat} (hj : j < l.length) : ∃ g cap, v = .slice (some ⟨g, 0, none⟩) l.length cap ∧ l.length ≤ cap ∧ W.cell? ⟨g, j, none⟩ = some (.int .u64 (l[j] : Int)) ∧ W.frozen? ⟨g, j, none⟩ = false :=
  gown_cell h (by simp [hj, uV])
theorem Row.push {wr w2 : World} {N k : Nat} {v v0 v' : Value} {l : List Nat} {x : Nat} (h : Row wr N v l) (hN : N ≤ wr.heap.size) (hk : l.length = k) (o1 : w2.ownsRow N 22 1 v' (k + 1) (l.map uV ++ [.int .u64 (x : Int)])) (o2 : (wr.alloc (.cells #[.int .u64 (x : Int)] 22)).grownBy w2 v0.ownBlock) (hv : v0.ownBlock = v.ownBlock) : Row w2 N v' (l ++ [x]) ∧ Below N wr w2 := by
  subst hk
  rw [hv] at o2
  refine ⟨?_, ?_⟩
  · unfold Row
    rw [List.length_append, List.map_append]
    exact o1
  · have hb : Below N wr (wr.alloc (.cells #[.int .u64 (x : Int)] 22)) := (Below.refl _ wr).alloc hN _
    exact hb.grown o2 (by simp; omega) (fun k hk => (h.low k (by simp [ob, hk])).1)
theorem row_new (W : World) : Row (W.alloc (.cells #[] 22)) W.heap.size (.slice (some ⟨W.heap.size, 0, none⟩) 0 0) [] :=
  ⟨rfl, .inr ⟨W.heap.size, 0, #[], rfl, Nat.le_refl _, heap_alloc_new _ _, Nat.le_refl _, by unfold maxLen; omega, rfl, rfl⟩⟩
theorem At.low {W W' : World} {g n N : Nat} (h : At W g n) (hb : Below N W W') (hg : g < N) : At W' g n := (hb.block _ hg).trans h
theorem dg_lo (n k : Nat) (h : k < 4) : n % 18446744073709551616 / 65536 ^ k % 65536 = dg n k := by
  unfold dg
  match k, h with
  | 0, _ => omega
  | 1, _ => omega
  | 2, _ => omega
  | 3, _ => omega
theorem dg_hi (n k : Nat) : n / 18446744073709551616 / 65536 ^ k % 65536 = dg n (4 + k) := by
  unfold dg
  rw [Nat.div_div_eq_div_mul, show (18446744073709551616 : Nat) = 65536 ^ 4 by decide, ← Nat.pow_add]
theorem and_16 (a : Nat) (ha : a < 18446744073709551616) : bits .and .u64 (a : Int) 65535 = ((a % 65536 : Nat) : Int) := by
  have h := bits_and_u64_nat a 65535 ha (by omega)
  have e : a &&& 65535 = a % 65536 := Nat.and_two_pow_sub_one_eq_mod a 16
  rw [e] at h
  exact h
theorem pow_16 (k : Nat) : (2 : Nat) ^ (16 * k) = 65536 ^ k := by rw [Nat.pow_mul]
theorem and_shift (x k : Nat) (hx : x < 18446744073709551616) : bits .and .u64 ((x : Int) / 2 ^ (16 * k)) 65535 = ((x / 65536 ^ k % 65536 : Nat) : Int) := by
  have e : (x : Int) / 2 ^ (16 * k) = ((x / 65536 ^ k : Nat) : Int) := by
    rw [← pow_16]
    simp
  rw [e]
  exact and_16 _ (Nat.lt_of_le_of_lt (Nat.div_le_self _ _) hx)
end Go.Proofs.Ytajkfopeomfacaa

/- The document's own digits, walked. -/
namespace Go.Proofs.Ytajkfopeomfacaa
open Go.RowKit Go.Sort

set_option maxRecDepth 100000 in
set_option maxHeartbeats 2000000 in
theorem rdig_any (n : Nat) (hn : n < noRoom) (w : World) : Calls Try.prog 26 #[wd n] w fun e w' => (∃ v, e = .returned v ∧ Row w' w.heap.size v (dgs n 8)) ∧ Below w.heap.size w w' := by
  obtain ⟨b1, b2, _⟩ := halves hn
  rw [wd_v]
  have hh : hiN n < 18446744073709551616 := b1
  have hl : loN n < 18446744073709551616 := b2
  clear b1 b2
  obtain ⟨i0, hi, hz0, hz1, hz2⟩ := info_parts Try.infoU
  go_enter Try.func26, Try.ntmps26
  go_wp2_with fail
  have A1 : At ((w.alloc (.cells #[.int .u64 (hiN n), .int .u64 (loN n)] 24)).alloc (.cells #[] 22)) w.heap.size n := (At.new w n).stay (Below.one (Below.refl _ _) _)
  have HO : Hid (Row ((w.alloc (.cells #[.int .u64 (hiN n), .int .u64 (loN n)] 24)).alloc (.cells #[] 22)) (w.heap.size + 1) (.slice (some ⟨w.heap.size + 1, 0, none⟩) 0 0) []) := by
    have := row_new (w.alloc (.cells #[.int .u64 (hiN n), .int .u64 (loN n)] 24))
    rwa [World.size_alloc] at this
  have HB : Hid (Below w.heap.size w ((w.alloc (.cells #[.int .u64 (hiN n), .int .u64 (loN n)] 24)).alloc (.cells #[] 22))) := Below.one (Below.one (Below.refl _ w) _) _
  generalize (w.alloc (.cells #[.int .u64 (hiN n), .int .u64 (loN n)] 24)).alloc (.cells #[] 22) = W0 at *
  go_loopw [3, 4] (fun t3 t4 wr => ∃ (k : Nat) (vo : Value), k ≤ 4 ∧ t4 = .int .i64 k ∧ t3 = vo ∧ Row wr (w.heap.size + 1) vo (dgs n k) ∧ At wr w.heap.size n ∧ Below w.heap.size w wr) (fun _ t4 _ => 4 - (intOf t4).toNat)
  case atStart => exact ⟨0, _, by omega, rfl, rfl, HO.out, A1, HB.out⟩
  case round =>
    obtain ⟨k, vo, hk, rfl, rfl, a1, a3, a4⟩ := hrel
    have z0 := a3.c0
    have z1 := a3.c1
    by_cases hlt : k < 4
    · have hli : (k : Int) < 4 := by omega
      obtain ⟨va, vc, hvo⟩ := a1.form
      subst hvo
      have hov : wr.ownsRow (w.heap.size + 1) 22 1 _ _ _ := a1
      have hsw := (Array.getElem?_eq_some_iff.1 a3).1
      have HA := Hid.mk' (And.intro a1 (And.intro a3 a4))
      have hdl := dgs_length n k
      clear a1 a3 a4
      have hand : bits .and .u64 ((loN n : Int) / 2 ^ (16 * k)) 65535 = ((dg n k : Nat) : Int) := by rw [and_shift _ _ hl]; exact congrArg _ (dg_lo n k hlt)
      generalize hdd : dg n k = d at *
      have HDD := Hid.mk' hdd
      clear hdd
      have hnew : ∀ j2 u, ([.int .u64 (d : Int)] : List Value)[j2]? = some u → (wr.alloc (.cells #[.int .u64 (d : Int)] 22)).cell? ((⟨wr.heap.size, 0, none⟩ : Addr).add j2) = some u := new_cell _ _ _
      go_wp2_with (at_builtin; refine wpList_append_own _ rfl _ _ 45 rfl (w.heap.size + 1) 22 i0 (.int .u64 0) 1 8 Try.underlying45 hi hz0 hz1 hz2 rfl (by decide) _ _ _ rfl (hov.alloc _) ⟨wr.heap.size, 0, none⟩ 1 1 [.int .u64 ((d : Nat) : Int)] rfl rfl hnew ?c2 ?c3 ?c4 ?c5 ?_)
      case c2 => first | rfl | (intro u hu; simp at hu; subst hu; rfl)
      case c3 => unfold maxLen; omega
      case c4 => omega
      case c5 => first | omega | (simp; omega)
      intro v' w2 hown' hgrow _
      have HW2 := Hid.mk' (And.intro hown' hgrow)
      clear hown' hgrow hov hnew z0 z1 hand
      go_wp2_with fail
      go_roundw
      case rel =>
        obtain ⟨a1, a3, a4⟩ := HA.out
        obtain ⟨o1, o2⟩ := HW2.out
        obtain ⟨r1, r2⟩ := a1.push (by omega) hdl o1 o2 (by rw [hdl])
        refine ⟨k + 1, v', by omega, by go_num, rfl, ?_, a3.low r2 (by omega), a4.trans (r2.mono (by omega))⟩
        rw [dgs_succ, HDD.out]
        exact r1
      case measure => simp [intOf]; omega
    · have hk4 : k = 4 := by omega
      rw [hk4] at a1
      have HA := Hid.mk' (And.intro a1 (And.intro a3 a4))
      have hli : ¬ (k : Int) < 4 := by omega
      clear a1 a3 a4 hk4 hlt
      go_wp2_with fail
      clear hli hk
      generalize (k : Int) = k4 at *
      go_loopw [3, 5] (fun t3 t4 wr => ∃ (k : Nat) (vo : Value), k ≤ 4 ∧ t4 = .int .i64 k ∧ t3 = vo ∧ Row wr (w.heap.size + 1) vo (dgs n (4 + k)) ∧ At wr w.heap.size n ∧ Below w.heap.size w wr) (fun _ t4 _ => 4 - (intOf t4).toNat)
      case atStart => exact ⟨0, _, by omega, rfl, rfl, HA.out.1, HA.out.2.1, HA.out.2.2⟩
      case round =>
        obtain ⟨k, vo, hk, rfl, rfl, a1, a3, a4⟩ := hrel
        have z0 := a3.c0
        have z1 := a3.c1
        by_cases hlt : k < 4
        · have hli : (k : Int) < 4 := by omega
          obtain ⟨va, vc, hvo⟩ := a1.form
          subst hvo
          have hov : wr.ownsRow (w.heap.size + 1) 22 1 _ _ _ := a1
          have hsw := (Array.getElem?_eq_some_iff.1 a3).1
          have HA := Hid.mk' (And.intro a1 (And.intro a3 a4))
          have hdl := dgs_length n (4 + k)
          clear a1 a3 a4
          have hand : bits .and .u64 ((hiN n : Int) / 2 ^ (16 * k)) 65535 = ((dg n (4 + k) : Nat) : Int) := by rw [and_shift _ _ hh]; exact congrArg _ (dg_hi n k)
          generalize hdd : dg n (4 + k) = d at *
          have HDD := Hid.mk' hdd
          clear hdd
          have hnew : ∀ j2 u, ([.int .u64 (d : Int)] : List Value)[j2]? = some u → (wr.alloc (.cells #[.int .u64 (d : Int)] 22)).cell? ((⟨wr.heap.size, 0, none⟩ : Addr).add j2) = some u := new_cell _ _ _
          go_wp2_with (at_builtin; refine wpList_append_own _ rfl _ _ 45 rfl (w.heap.size + 1) 22 i0 (.int .u64 0) 1 8 Try.underlying45 hi hz0 hz1 hz2 rfl (by decide) _ _ _ rfl (hov.alloc _) ⟨wr.heap.size, 0, none⟩ 1 1 [.int .u64 ((d : Nat) : Int)] rfl rfl hnew ?c2 ?c3 ?c4 ?c5 ?_)
          case c2 => first | rfl | (intro u hu; simp at hu; subst hu; rfl)
          case c3 => unfold maxLen; omega
          case c4 => omega
          case c5 => first | omega | (simp; omega)
          intro v' w2 hown' hgrow _
          have HW2 := Hid.mk' (And.intro hown' hgrow)
          clear hown' hgrow hov hnew z0 z1 hand
          go_wp2_with fail
          go_roundw
          case rel =>
            obtain ⟨a1, a3, a4⟩ := HA.out
            obtain ⟨o1, o2⟩ := HW2.out
            obtain ⟨r1, r2⟩ := a1.push (by omega) hdl o1 o2 (by rw [hdl])
            refine ⟨k + 1, v', by omega, by go_num, rfl, ?_, a3.low r2 (by omega), a4.trans (r2.mono (by omega))⟩
            rw [← Nat.add_assoc, dgs_succ, HDD.out]
            exact r1
          case measure => simp [intOf]; omega
        · obtain rfl : k = 4 := by omega
          have HA := Hid.mk' (And.intro a1 (And.intro a3 a4))
          clear a1 a3 a4
          go_wp2_with fail
          go_ret
          exact ⟨⟨_, rfl, HA.out.1.mono (by omega)⟩, HA.out.2.2⟩
end Go.Proofs.Ytajkfopeomfacaa
