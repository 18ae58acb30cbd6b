/- Plain: spans of numbers, and what operations make of them. -/
import Derived.WalkKit
import Derived.Laws.BitsLemmas
import Derived.Test.YtbepapbfohfdkaaRows
import Derived.WalkSpells
import Derived.WalkLawsBesides
import Derived.ProofKit
import Derived.Laws.StructEq
import Derived.Deep.RegionHeld3
import Derived.BigQuiet
import Derived.Lib.QuietBelow
import Derived.Deep.Cut
import Derived.Deep.CutRange
import Derived.OpenShut
import Derived.Deep.Slices
import Derived.ChangeMaps5
import Derived.Lib.SmallJoins
import Derived.Deep.DeepHandedRow
import Derived.Carry
import Derived.StillTail
import Derived.Lib.Mul64
import Derived.Laws.Bits64b
namespace Go.Proofs.Ytbepapbfohfdkaa
open Go.RowKit

/-- A span: its least number and its greatest one. -/
abbrev Sp := Int × Int
def Nm (n : Int) : Prop := -9223372036854775808 ≤ n ∧ n ≤ 9223372036854775807
instance (n : Int) : Decidable (Nm n) := by unfold Nm; infer_instance
def Sp.Ok (a : Sp) : Prop := Nm a.1 ∧ Nm a.2
/-- Brought round. -/
abbrev wr (n : Int) : Int := wrap64 n
theorem wr_eq (n : Int) : wr n = (n + 9223372036854775808) % 18446744073709551616 - 9223372036854775808 := by unfold wr wrap64; rfl
theorem wr_nm (n : Int) : Nm (wr n) := by rw [wr_eq]; unfold Nm; omega
theorem wr_id {n : Int} (h : Nm n) : wr n = n := by rw [wr_eq]; unfold Nm at h; omega
theorem wr_off (n : Int) : ∃ k : Int, wr n = n + k * 18446744073709551616 := ⟨-((n + 9223372036854775808) / 18446744073709551616), by rw [wr_eq]; omega⟩

def allS : Sp := (-9223372036854775808, 9223372036854775807)
def emB (a : Sp) : Bool := decide (a.2 < a.1)
def sgB (a : Sp) : Bool := decide (a.1 = a.2)
def hasB (a : Sp) (n : Int) : Bool := decide (a.1 ≤ n ∧ n ≤ a.2)
def joinS (a b : Sp) : Sp := if a.2 < a.1 then b else if b.2 < b.1 then a else (min a.1 b.1, max a.2 b.2)
def meetB (a b : Sp) : Bool := decide (max a.1 b.1 ≤ min a.2 b.2)
def meetS (a b : Sp) : Sp := if max a.1 b.1 ≤ min a.2 b.2 then (max a.1 b.1, min a.2 b.2) else (0, 0)
def belB (a b : Sp) : Bool := decide (a.1 ≤ a.2 ∧ b.1 ≤ b.2 ∧ a.1 < b.2)
def belA (a b : Sp) : Sp := if a.1 ≤ a.2 ∧ b.1 ≤ b.2 ∧ a.1 < b.2 then (a.1, min a.2 (b.2 - 1)) else (0, 0)
def belC (a b : Sp) : Sp := if a.1 ≤ a.2 ∧ b.1 ≤ b.2 ∧ a.1 < b.2 then (max b.1 (a.1 + 1), b.2) else (0, 0)
def lenN (a b : Sp) : Int := if b.2 ≤ a.1 then 0 else b.2 - a.1
def flo (n : Int) : List Int → Int → Int := fun ts o => ts.foldl (fun o t => if t ≤ n then max o t else o) o
def roo (n : Int) : List Int → Int → Int := fun ts o => ts.foldl (fun o t => if n ≤ t then min o t else o) o
def floorN (ts : List Int) (n : Int) : Int := flo n ts (-9223372036854775808)
def roofN (ts : List Int) (n : Int) : Int := roo n ts 9223372036854775807
def widS (o n : Sp) (ts : List Int) : Sp :=
  if o.2 < o.1 then n else (if (joinS o n).1 = o.1 then (joinS o n).1 else floorN ts (joinS o n).1, if (joinS o n).2 = o.2 then (joinS o n).2 else roofN ts (joinS o n).2)

/-- The least span that has a list's numbers. -/
def hull (l : List Int) : Sp := l.foldl (fun o v => joinS o (v, v)) (1, 0)
def tru (yes no : Bool) : Sp := if yes then (1, 1) else if no then (0, 0) else (0, 1)
def setS (a b o : Sp) (fits : Bool) : Sp := if fits || (sgB a && sgB b) then o else allS
def fitB (n : Int) : Bool := decide (Nm n)
def sumS (a b : Sp) : Sp := setS a b (wr (a.1 + b.1), wr (a.2 + b.2)) (fitB (a.1 + b.1) && fitB (a.2 + b.2))
def difS (a b : Sp) : Sp := setS a b (wr (a.1 - b.2), wr (a.2 - b.1)) (fitB (a.1 - b.2) && fitB (a.2 - b.1))
def corners (a b : Sp) : List Int := [a.1 * b.1, a.1 * b.2, a.2 * b.1, a.2 * b.2]
def proS (a b : Sp) : Sp := setS a b (hull ((corners a b).map wr)) ((corners a b).all fitB)
/-- The divisors that may be farthest. -/
def cand (b : Sp) : List Int := [b.1, -1, 1, b.2].filter fun d => d ≠ 0 ∧ b.1 ≤ d ∧ d ≤ b.2
def quoL (a : Sp) (l : List Int) : List Int := l.flatMap fun d => [a.1.tdiv d, a.2.tdiv d]
def quoS (a b : Sp) : Sp := if hasB a (-9223372036854775808) && hasB b (-1) then allS else hull (quoL a (cand b))
def dis (n : Int) : Int := if n < 0 then -n else n
def most (b : Sp) : Int := max (dis b.1) (dis b.2) - 1
def remS (a b : Sp) : Sp := (min 0 (max a.1 (-most b)), max 0 (min a.2 (most b)))
/-- Where the value of an operation is. -/
def doS (op : Int) (a b : Sp) : Option Sp :=
  if emB a || (emB b && !decide (op = 10)) then none
  else if op = 3 then some (sumS a b)
  else if op = 4 then some (difS a b)
  else if op = 5 then some (proS a b)
  else if op = 6 then (if b = (0, 0) then none else some (quoS a b))
  else if op = 7 then (if b = (0, 0) then none else some (remS a b))
  else if op = 8 then some (tru (decide (a.2 < b.1)) (decide (b.2 ≤ a.1)))
  else if op = 9 then some (tru (sgB a && decide (a = b)) (!meetB a b))
  else if op = 10 then some (tru (decide (a = (0, 0))) (!hasB a 0))
  else none
/-- What the machine makes of two numbers. -/
def opN (op x y : Int) : Option Int :=
  if op = 3 then some (wr (x + y)) else if op = 4 then some (wr (x - y)) else if op = 5 then some (wr (x * y))
  else if op = 6 then (if y = 0 then none else some (wr (x.tdiv y))) else if op = 7 then (if y = 0 then none else some (x.tmod y))
  else if op = 8 then some (if x < y then 1 else 0) else if op = 9 then some (if x = y then 1 else 0) else if op = 10 then some (if x = 0 then 1 else 0) else none

theorem join_pt (a : Sp) (v : Int) (h : a.1 ≤ a.2) : joinS a (v, v) = (min a.1 v, max a.2 v) := by
  unfold joinS; rw [if_neg (by omega), if_neg (by simp)]
theorem join_none (v : Int) : joinS (1, 0) (v, v) = (v, v) := by unfold joinS; rw [if_pos (by decide)]
theorem hullF : ∀ (l : List Int) (s : Sp), s.1 ≤ s.2 → let r := l.foldl (fun o v => joinS o (v, v)) s
    r.1 ≤ s.1 ∧ s.2 ≤ r.2 ∧ (r.1 = s.1 ∨ r.1 ∈ l) ∧ (r.2 = s.2 ∨ r.2 ∈ l) ∧ ∀ v ∈ l, r.1 ≤ v ∧ v ≤ r.2
  | [], s, h => by simp
  | x :: l, s, h => by
    have e := join_pt s x h
    obtain ⟨h1, h2, h3, h4, h5⟩ := hullF l (min s.1 x, max s.2 x) (by simp; omega)
    simp only [List.foldl_cons, e] at *
    refine ⟨by omega, by omega, ?_, ?_, fun v hv => ?_⟩
    · rcases h3 with h3 | h3
      · rcases (show min s.1 x = s.1 ∨ min s.1 x = x by omega) with q | q
        · exact .inl (by rw [h3, q])
        · exact .inr (by rw [h3, q]; simp)
      · exact .inr (by simp [h3])
    · rcases h4 with h4 | h4
      · rcases (show max s.2 x = s.2 ∨ max s.2 x = x by omega) with q | q
        · exact .inl (by rw [h4, q])
        · exact .inr (by rw [h4, q]; simp)
      · exact .inr (by simp [h4])
    · rcases List.mem_cons.1 hv with rfl | hv
      · omega
      · exact h5 v hv
theorem hull_has (l : List Int) (hl : l ≠ []) : (hull l).1 ∈ l ∧ (hull l).2 ∈ l ∧ ∀ v ∈ l, (hull l).1 ≤ v ∧ v ≤ (hull l).2 := by
  cases l with
  | nil => exact absurd rfl hl
  | cons x l =>
    obtain ⟨h1, h2, h3, h4, h5⟩ := hullF l (x, x) (Int.le_refl _)
    unfold hull
    rw [List.foldl_cons, join_none]
    refine ⟨?_, ?_, fun v hv => ?_⟩
    · rcases h3 with h3 | h3
      · rw [h3]; simp
      · simp [h3]
    · rcases h4 with h4 | h4
      · rw [h4]; simp
      · simp [h4]
    · rcases List.mem_cons.1 hv with rfl | hv
      · exact ⟨h1, h2⟩
      · exact h5 v hv
theorem hull_one {l : List Int} {s : Sp} (h1 : s.1 ∈ l) (h2 : s.2 ∈ l) (h3 : ∀ v ∈ l, s.1 ≤ v ∧ v ≤ s.2) : hull l = s := by
  obtain ⟨g1, g2, g3⟩ := hull_has l (List.ne_nil_of_mem h1)
  have a1 := g3 _ h1; have a2 := g3 _ h2; have a3 := h3 _ g1; have a4 := h3 _ g2
  exact Prod.ext (by omega) (by omega)
theorem hull_le (l : List Int) (hl : l ≠ []) : (hull l).1 ≤ (hull l).2 := by
  obtain ⟨g1, g2, g3⟩ := hull_has l hl
  exact (g3 _ g1).2
theorem hull_snoc (l : List Int) (v : Int) : joinS (hull l) (v, v) = hull (l ++ [v]) := by unfold hull; rw [List.foldl_append]; rfl
theorem hull_two (l : List Int) (x y : Int) : joinS (hull l) (joinS (x, x) (y, y)) = hull (l ++ [x, y]) := by
  have e : hull (l ++ [x, y]) = joinS (joinS (hull l) (x, x)) (y, y) := by unfold hull; rw [List.foldl_append]; rfl
  rw [e]
  cases l with
  | nil => show joinS (1, 0) _ = joinS (joinS (1, 0) _) _; rw [join_none]; unfold joinS; rw [if_pos (by decide)]
  | cons z l =>
    have h := hull_le (z :: l) (by simp)
    rw [join_pt _ x h, join_pt (x, x) y (Int.le_refl _), join_pt _ y (by simp; omega)]
    unfold joinS
    rw [if_neg (by omega), if_neg (by simp; omega)]
    exact Prod.ext (by simp <;> omega) (by simp <;> omega)
theorem hull_same {l m : List Int} (h : ∀ v, v ∈ l ↔ v ∈ m) : hull l = hull m := by
  cases m with
  | nil =>
    cases l with
    | nil => rfl
    | cons x l => have := (h x).1 (by simp); cases this
  | cons x m =>
    obtain ⟨g1, g2, g3⟩ := hull_has (x :: m) (by simp)
    exact hull_one ((h _).2 g1) ((h _).2 g2) fun v hv => g3 v ((h v).1 hv)
theorem hull_pair {x y : Int} (h : x ≤ y) : hull [x, y] = (x, y) := hull_one (by simp) (by simp) (fun v hv => by simp at hv ⊢; omega)
theorem hull_flat (x : Int) : hull [x, x, x, x] = (x, x) := hull_one (by simp) (by simp) (fun v hv => by simp at hv ⊢; omega)
end Go.Proofs.Ytbepapbfohfdkaa

/- Plain: products, quotients and rests lie where the corners say. -/
namespace Go.Proofs.Ytbepapbfohfdkaa
open Go.RowKit

theorem lin {a1 a2 x : Int} (y : Int) (h1 : a1 ≤ x) (h2 : x ≤ a2) : (a1 * y ≤ x * y ∧ x * y ≤ a2 * y) ∨ (a2 * y ≤ x * y ∧ x * y ≤ a1 * y) := by
  rcases Int.le_total 0 y with h | h
  · exact .inl ⟨Int.mul_le_mul_of_nonneg_right h1 h, Int.mul_le_mul_of_nonneg_right h2 h⟩
  · exact .inr ⟨Int.mul_le_mul_of_nonpos_right h2 h, Int.mul_le_mul_of_nonpos_right h1 h⟩
theorem mul_in {a b : Sp} {x y : Int} (h1 : a.1 ≤ x) (h2 : x ≤ a.2) (h3 : b.1 ≤ y) (h4 : y ≤ b.2) : (hull (corners a b)).1 ≤ x * y ∧ x * y ≤ (hull (corners a b)).2 := by
  obtain ⟨-, -, h⟩ := hull_has (corners a b) (by simp [corners])
  have c1 := h (a.1 * b.1) (by simp [corners])
  have c2 := h (a.1 * b.2) (by simp [corners])
  have c3 := h (a.2 * b.1) (by simp [corners])
  have c4 := h (a.2 * b.2) (by simp [corners])
  have e := lin y h1 h2
  have e1 := lin a.1 h3 h4
  have e2 := lin a.2 h3 h4
  rw [Int.mul_comm b.1, Int.mul_comm b.2, Int.mul_comm y] at e1 e2
  omega

theorem td_pos {x c1 d c2 : Int} (h0 : 0 < c1) (h1 : c1 ≤ d) (h2 : d ≤ c2) : (x.tdiv c1 ≤ x.tdiv d ∧ x.tdiv d ≤ x.tdiv c2) ∨ (x.tdiv c2 ≤ x.tdiv d ∧ x.tdiv d ≤ x.tdiv c1) := by
  obtain ⟨p, rfl⟩ := Int.eq_ofNat_of_zero_le (show 0 ≤ c1 by omega)
  obtain ⟨q, rfl⟩ := Int.eq_ofNat_of_zero_le (show 0 ≤ d by omega)
  obtain ⟨r, rfl⟩ := Int.eq_ofNat_of_zero_le (show 0 ≤ c2 by omega)
  have key : ∀ n : Nat, ((n : Int).tdiv r ≤ (n : Int).tdiv q ∧ (n : Int).tdiv q ≤ (n : Int).tdiv p) := fun n => by
    have := Nat.div_le_div_left (a := n) (show q ≤ r by omega) (by omega)
    have := Nat.div_le_div_left (a := n) (show p ≤ q by omega) (by omega)
    rw [← Int.ofNat_tdiv, ← Int.ofNat_tdiv, ← Int.ofNat_tdiv]
    omega
  rcases Int.le_total 0 x with h | h
  · obtain ⟨n, rfl⟩ := Int.eq_ofNat_of_zero_le h
    exact .inr (key n)
  · obtain ⟨n, hn⟩ := Int.eq_ofNat_of_zero_le (show 0 ≤ -x by omega)
    obtain rfl : x = -(n : Int) := by omega
    have := key n
    rw [Int.neg_tdiv, Int.neg_tdiv, Int.neg_tdiv]
    exact .inl (by omega)
theorem td_neg {x c1 d c2 : Int} (h0 : c2 < 0) (h1 : c1 ≤ d) (h2 : d ≤ c2) : (x.tdiv c1 ≤ x.tdiv d ∧ x.tdiv d ≤ x.tdiv c2) ∨ (x.tdiv c2 ≤ x.tdiv d ∧ x.tdiv d ≤ x.tdiv c1) := by
  have := td_pos (x := x) (c1 := -c2) (d := -d) (c2 := -c1) (by omega) (by omega) (by omega)
  rw [Int.tdiv_neg, Int.tdiv_neg, Int.tdiv_neg] at this
  omega
theorem td_mono {a1 x a2 c : Int} (hc : c ≠ 0) (h1 : a1 ≤ x) (h2 : x ≤ a2) : (a1.tdiv c ≤ x.tdiv c ∧ x.tdiv c ≤ a2.tdiv c) ∨ (a2.tdiv c ≤ x.tdiv c ∧ x.tdiv c ≤ a1.tdiv c) := by
  rcases Int.lt_or_gt_of_ne hc with h | h
  · have e1 := Int.tdiv_le_tdiv (show 0 < -c by omega) h1
    have e2 := Int.tdiv_le_tdiv (show 0 < -c by omega) h2
    rw [Int.tdiv_neg, Int.tdiv_neg] at e1 e2
    omega
  · exact .inl ⟨Int.tdiv_le_tdiv h h1, Int.tdiv_le_tdiv h h2⟩
theorem mem_cand {b : Sp} {d : Int} : d ∈ cand b ↔ (d = b.1 ∨ d = -1 ∨ d = 1 ∨ d = b.2) ∧ d ≠ 0 ∧ b.1 ≤ d ∧ d ≤ b.2 := by
  unfold cand
  rw [List.mem_filter]
  simp
theorem cand_two {b : Sp} {d : Int} (h0 : d ≠ 0) (h1 : b.1 ≤ d) (h2 : d ≤ b.2) : ∃ c1 c2, c1 ∈ cand b ∧ c2 ∈ cand b ∧ ∀ x : Int, (x.tdiv c1 ≤ x.tdiv d ∧ x.tdiv d ≤ x.tdiv c2) ∨ (x.tdiv c2 ≤ x.tdiv d ∧ x.tdiv d ≤ x.tdiv c1) := by
  rcases Int.lt_or_gt_of_ne h0 with h | h
  · by_cases hb : b.2 < 0
    · exact ⟨b.1, b.2, mem_cand.2 (by omega), mem_cand.2 (by omega), fun x => td_neg hb h1 h2⟩
    · exact ⟨b.1, -1, mem_cand.2 (by omega), mem_cand.2 (by omega), fun x => td_neg (by omega) h1 (by omega)⟩
  · by_cases hb : 0 < b.1
    · exact ⟨b.1, b.2, mem_cand.2 (by omega), mem_cand.2 (by omega), fun x => td_pos hb h1 h2⟩
    · exact ⟨1, b.2, mem_cand.2 (by omega), mem_cand.2 (by omega), fun x => td_pos (by omega) (by omega) h2⟩
theorem mem_quo {a : Sp} {l : List Int} {v : Int} : v ∈ quoL a l ↔ ∃ d ∈ l, v = a.1.tdiv d ∨ v = a.2.tdiv d := by
  unfold quoL
  rw [List.mem_flatMap]
  simp
theorem quo_in {a b : Sp} {x d : Int} (h1 : a.1 ≤ x) (h2 : x ≤ a.2) (h0 : d ≠ 0) (h3 : b.1 ≤ d) (h4 : d ≤ b.2) : (hull (quoL a (cand b))).1 ≤ x.tdiv d ∧ x.tdiv d ≤ (hull (quoL a (cand b))).2 := by
  obtain ⟨c1, c2, m1, m2, hx⟩ := cand_two h0 h3 h4
  have n1 := (mem_cand.1 m1).2.1
  have n2 := (mem_cand.1 m2).2.1
  have q1 := (mem_quo (a := a)).2 ⟨c1, m1, .inl rfl⟩
  have q2 := (mem_quo (a := a)).2 ⟨c1, m1, .inr rfl⟩
  have q3 := (mem_quo (a := a)).2 ⟨c2, m2, .inl rfl⟩
  have q4 := (mem_quo (a := a)).2 ⟨c2, m2, .inr rfl⟩
  obtain ⟨-, -, h⟩ := hull_has _ (List.ne_nil_of_mem q1)
  have r1 := h _ q1; have r2 := h _ q2; have r3 := h _ q3; have r4 := h _ q4
  have t1 := td_mono n1 h1 h2
  have t2 := td_mono n2 h1 h2
  have := hx x
  omega
theorem cand_some {b : Sp} (h : b.1 ≤ b.2) (h0 : b ≠ (0, 0)) : ∃ d, d ∈ cand b := by
  by_cases e : b.1 = 0
  · by_cases e2 : b.2 = 0
    · exact absurd (Prod.ext e e2) h0
    · exact ⟨b.2, mem_cand.2 (by omega)⟩
  · exact ⟨b.1, mem_cand.2 (by omega)⟩
theorem quo_some {a b : Sp} (h : b.1 ≤ b.2) (h0 : b ≠ (0, 0)) : quoL a (cand b) ≠ [] := by
  obtain ⟨d, hd⟩ := cand_some h h0
  exact List.ne_nil_of_mem (mem_quo.2 ⟨d, hd, .inl rfl⟩)
theorem td_nm {x d : Int} (hx : Nm x) (h0 : d ≠ 0) (h : ¬ (x = -9223372036854775808 ∧ d = -1)) : Nm (x.tdiv d) := by
  unfold Nm at *
  have e : (x.tdiv d).natAbs = x.natAbs / d.natAbs := Int.natAbs_tdiv x d
  rcases (show d = 1 ∨ d = -1 ∨ 2 ≤ d.natAbs by omega) with rfl | rfl | h2
  · rw [Int.tdiv_one]; exact hx
  · rw [Int.tdiv_neg, Int.tdiv_one]; omega
  · have : x.natAbs / d.natAbs ≤ x.natAbs / 2 := Nat.div_le_div_left h2 (by omega)
    omega
theorem tm_in {x d : Int} (h0 : d ≠ 0) : (0 ≤ x → 0 ≤ x.tmod d ∧ x.tmod d ≤ x ∧ x.tmod d ≤ dis d - 1) ∧ (x ≤ 0 → x ≤ x.tmod d ∧ x.tmod d ≤ 0 ∧ -(dis d - 1) ≤ x.tmod d) := by
  have hd : dis d = (d.natAbs : Int) := by unfold dis; split <;> omega
  rw [hd]
  have key : ∀ n m : Nat, 0 < m → (0 : Int) ≤ (n : Int).tmod m ∧ (n : Int).tmod m ≤ n ∧ (n : Int).tmod m ≤ (m : Int) - 1 := fun n m hm => by
    rw [← Int.ofNat_tmod]
    have := Nat.mod_lt n hm
    have := Nat.mod_le n m
    omega
  have k2 : ∀ y : Int, y.tmod d = y.tmod (d.natAbs : Int) := fun y => by
    rcases Int.le_total 0 d with h | h
    · rw [show (d.natAbs : Int) = d by omega]
    · rw [show (d.natAbs : Int) = -d by omega, Int.tmod_neg]
  rw [k2]
  have hm : 0 < d.natAbs := by omega
  generalize d.natAbs = m at *
  refine ⟨fun h => ?_, fun h => ?_⟩
  · obtain ⟨n, rfl⟩ := Int.eq_ofNat_of_zero_le h
    exact key n m hm
  · obtain ⟨n, hn⟩ := Int.eq_ofNat_of_zero_le (show 0 ≤ -x by omega)
    obtain rfl : x = -(n : Int) := by omega
    have := key n m hm
    rw [Int.neg_tmod]
    omega
theorem dis_le {b : Sp} {d : Int} (h1 : b.1 ≤ d) (h2 : d ≤ b.2) : dis d - 1 ≤ most b := by
  unfold most dis
  split <;> split <;> split <;> omega
theorem rem_in {a b : Sp} {x d : Int} (h1 : a.1 ≤ x) (h2 : x ≤ a.2) (h0 : d ≠ 0) (h3 : b.1 ≤ d) (h4 : d ≤ b.2) : (remS a b).1 ≤ x.tmod d ∧ x.tmod d ≤ (remS a b).2 := by
  obtain ⟨p, q⟩ := tm_in (x := x) h0
  have e := dis_le h3 h4
  have e0 : 0 ≤ dis d - 1 := by unfold dis; split <;> omega
  unfold remS
  simp only
  rcases Int.le_total 0 x with h | h
  · have := p h; omega
  · have := q h; omega

theorem set_has {a b o : Sp} {f : Bool} {n : Int} (hn : Nm n) (h : (f = true ∨ (a.1 = a.2 ∧ b.1 = b.2)) → o.1 ≤ n ∧ n ≤ o.2) : (setS a b o f).1 ≤ n ∧ n ≤ (setS a b o f).2 := by
  unfold setS
  split
  · next e =>
    refine h ?_
    simp [sgB] at e
    exact e
  · exact hn
theorem no_em {a : Sp} (h : a.1 ≤ a.2) : emB a = false := decide_eq_false (by omega)
theorem pro_nm {a b : Sp} (hf : (corners a b).all fitB = true) : hull ((corners a b).map wr) = hull (corners a b) ∧ ∀ v ∈ corners a b, Nm v := by
  have h : ∀ v ∈ corners a b, Nm v := fun v hv => of_decide_eq_true (List.all_eq_true.1 hf v hv)
  refine ⟨?_, h⟩
  rw [show (corners a b).map wr = (corners a b).map id from List.map_congr_left fun v hv => wr_id (h v hv), List.map_id]
theorem hull_sg {a b : Sp} (h1 : a.1 = a.2) (h2 : b.1 = b.2) (f : Int → Int) : hull ((corners a b).map f) = (f (a.1 * b.1), f (a.1 * b.1)) := by
  unfold corners
  rw [← h1, ← h2]
  exact hull_flat _
/-- What the machine makes of a number of the one span and one of the other is in the span that is told. -/
theorem do_true {op : Int} {a b : Sp} {x y n : Int} (ha : a.Ok) (h1 : a.1 ≤ x) (h2 : x ≤ a.2) (hb : op ≠ 10 → b.1 ≤ y ∧ y ≤ b.2) (hn : opN op x y = some n) : ∃ s, doS op a b = some s ∧ s.1 ≤ n ∧ n ≤ s.2 := by
  have ea : emB a = false := no_em (by omega)
  unfold opN at hn
  unfold doS
  by_cases o10 : op = 10
  · subst o10
    simp [ea] at hn ⊢
    subst hn
    unfold tru hasB
    by_cases e : a = (0, 0)
    · subst e; simp at h1 h2 ⊢; omega
    · rw [if_neg (by simpa using e)]
      split <;> split <;> simp at * <;> omega
  · obtain ⟨h3, h4⟩ := hb o10
    have eb : emB b = false := no_em (by omega)
    rw [ea, eb]
    simp only [Bool.false_and, Bool.or_false, Bool.false_eq_true, if_false]
    by_cases o3 : op = 3
    · subst o3
      simp at hn ⊢
      subst hn
      refine set_has (wr_nm _) ?_
      rintro (h | ⟨e1, e2⟩)
      · simp [fitB] at h
        obtain ⟨f1, f2⟩ := h
        rw [wr_id f1, wr_id f2, wr_id (by unfold Nm at *; omega)]
        simp; omega
      · rw [show x = a.1 by omega, show y = b.1 by omega, ← e1, ← e2]; simp
    by_cases o4 : op = 4
    · subst o4
      simp at hn ⊢
      subst hn
      refine set_has (wr_nm _) ?_
      rintro (h | ⟨e1, e2⟩)
      · simp [fitB] at h
        obtain ⟨f1, f2⟩ := h
        rw [wr_id f1, wr_id f2, wr_id (by unfold Nm at *; omega)]
        simp; omega
      · rw [show x = a.1 by omega, show y = b.1 by omega, ← e1, ← e2]; simp
    by_cases o5 : op = 5
    · subst o5
      simp at hn ⊢
      subst hn
      refine set_has (wr_nm _) ?_
      rintro (h | ⟨e1, e2⟩)
      · obtain ⟨e, hv⟩ := pro_nm h
        have i := mul_in h1 h2 h3 h4
        obtain ⟨g1, g2, -⟩ := hull_has (corners a b) (by simp [corners])
        have n1 := hv _ g1
        have n2 := hv _ g2
        rw [e, wr_id (by unfold Nm at *; omega)]
        exact i
      · rw [hull_sg e1 e2, show x = a.1 by omega, show y = b.1 by omega]; simp
    by_cases o6 : op = 6
    · subst o6
      by_cases hy : y = 0
      · simp [hy] at hn
      simp [hy] at hn
      subst hn
      have hb0 : b ≠ (0, 0) := by rintro rfl; simp at h3 h4; omega
      refine ⟨quoS a b, by simp [hb0], ?_⟩
      unfold quoS hasB
      split
      · exact wr_nm _
      · next e =>
        simp at e
        unfold Sp.Ok Nm at ha
        rw [wr_id (td_nm (by unfold Nm; omega) hy (by rintro ⟨rfl, rfl⟩; omega))]
        exact quo_in h1 h2 hy h3 h4
    by_cases o7 : op = 7
    · subst o7
      by_cases hy : y = 0
      · simp [hy] at hn
      simp [hy] at hn
      subst hn
      have hb0 : b ≠ (0, 0) := by rintro rfl; simp at h3 h4; omega
      exact ⟨remS a b, by simp [hb0], rem_in h1 h2 hy h3 h4⟩
    by_cases o8 : op = 8
    · subst o8
      simp at hn ⊢
      subst hn
      unfold tru
      split
      · next e => simp at e; rw [if_pos (by omega)]; simp
      · split
        · next e => simp at e; rw [if_neg (by omega)]; simp
        · split <;> simp
    by_cases o9 : op = 9
    · subst o9
      simp at hn ⊢
      subst hn
      unfold tru meetB sgB
      split
      · next e => simp at e; obtain ⟨e1, rfl⟩ := e; rw [if_pos (by omega)]; simp
      · split
        · next e => simp at e; rw [if_neg (by omega)]; simp
        · split <;> simp
    simp [o3, o4, o5, o6, o7, o8, o9, o10] at hn
end Go.Proofs.Ytbepapbfohfdkaa

/- Plain: of spans that have more no less is told. -/
namespace Go.Proofs.Ytbepapbfohfdkaa
open Go.RowKit

/-- Has the second one all that the first one has? -/
def wiB (a b : Sp) : Bool := decide (a.2 < a.1 ∨ (b.1 ≤ a.1 ∧ a.2 ≤ b.2))
theorem wiB_of {a b : Sp} (h1 : b.1 ≤ a.1) (h2 : a.2 ≤ b.2) : wiB a b = true := decide_eq_true (.inr ⟨h1, h2⟩)
theorem wiB_all {a : Sp} (h : a.Ok) : wiB a allS = true := by unfold Sp.Ok Nm at h; exact wiB_of (by simp [allS]; omega) (by simp [allS]; omega)
theorem wiB_refl (a : Sp) : wiB a a = true := wiB_of (Int.le_refl _) (Int.le_refl _)
theorem join_ok {a b : Sp} (ha : a.Ok) (hb : b.Ok) : (joinS a b).Ok := by
  unfold joinS Sp.Ok Nm at *
  split
  · exact hb
  · split
    · exact ha
    · simp; omega
theorem join_in {a b : Sp} (h : a.1 ≤ a.2) : (joinS a b).1 ≤ a.1 ∧ a.2 ≤ (joinS a b).2 := by
  unfold joinS
  rw [if_neg (by omega)]
  split
  · simp
  · simp; omega
theorem join_in2 {a b : Sp} (h : b.1 ≤ b.2) : (joinS a b).1 ≤ b.1 ∧ b.2 ≤ (joinS a b).2 := by
  unfold joinS
  split
  · simp
  · rw [if_neg (by omega)]; simp; omega
theorem all_ok : allS.Ok := by unfold Sp.Ok Nm allS; simp
theorem set_ok {a b o : Sp} {f : Bool} (h : o.Ok) : (setS a b o f).Ok := by unfold setS; split; exact h; exact all_ok
theorem hull_ok {l : List Int} (hl : l ≠ []) (h : ∀ v ∈ l, Nm v) : (hull l).Ok := by
  obtain ⟨h1, h2, -⟩ := hull_has l hl
  exact ⟨h _ h1, h _ h2⟩
theorem sum_ok (a b : Sp) : (sumS a b).Ok := set_ok ⟨wr_nm _, wr_nm _⟩
theorem dif_ok (a b : Sp) : (difS a b).Ok := set_ok ⟨wr_nm _, wr_nm _⟩
theorem pro_ok (a b : Sp) : (proS a b).Ok := set_ok (hull_ok (by simp [corners]) fun v hv => by obtain ⟨u, _, rfl⟩ := List.mem_map.1 hv; exact wr_nm _)
theorem quo_nm {a b : Sp} (ha : a.Ok) (hh : (hasB a (-9223372036854775808) && hasB b (-1)) = false) (hle : a.1 ≤ a.2) : ∀ v ∈ quoL a (cand b), Nm v := by
  intro v hv
  obtain ⟨d, hd, e⟩ := mem_quo.1 hv
  have hd' := (mem_cand.1 hd).2
  unfold hasB at hh
  simp at hh
  unfold Sp.Ok at ha
  have := ha.1; have := ha.2
  rcases e with rfl | rfl
  · exact td_nm ha.1 hd'.1 (by unfold Nm at *; rintro ⟨e1, e2⟩; omega)
  · exact td_nm ha.2 hd'.1 (by unfold Nm at *; rintro ⟨e1, e2⟩; omega)
theorem quo_ok {a b : Sp} (ha : a.Ok) (h1 : a.1 ≤ a.2) (h : b.1 ≤ b.2) (h0 : b ≠ (0, 0)) : (quoS a b).Ok := by
  unfold quoS
  split
  · exact all_ok
  · next e => exact hull_ok (quo_some h h0) (quo_nm ha (by simpa using e) h1)
theorem rem_ok {a b : Sp} (ha : a.Ok) : (remS a b).Ok := by
  unfold remS Sp.Ok Nm at *
  simp only
  omega
theorem tru_ok (y n : Bool) : (tru y n).Ok := by cases y <;> cases n <;> simp [tru, Sp.Ok, Nm]
theorem set_grow {a b c d o o' : Sp} {f f' : Bool} (ho : o.Ok) (ha : a.1 ≤ a.2) (hb : b.1 ≤ b.2) (hac : c.1 ≤ a.1 ∧ a.2 ≤ c.2) (hbd : d.1 ≤ b.1 ∧ b.2 ≤ d.2) (hf : f' = true → f = true ∧ o'.1 ≤ o.1 ∧ o.2 ≤ o'.2) (hs : a = c → b = d → o = o' ∧ f = f') : wiB (setS a b o f) (setS c d o' f') = true := by
  by_cases e : f' = true
  · obtain ⟨rfl, h1, h2⟩ := hf e
    subst e
    unfold setS
    simp
    exact wiB_of h1 h2
  · by_cases e2 : c.1 = c.2 ∧ d.1 = d.2
    · have e3 : a = c := Prod.ext (by omega) (by omega)
      have e4 : b = d := Prod.ext (by omega) (by omega)
      obtain ⟨rfl, rfl⟩ := hs e3 e4
      subst e3 e4
      exact wiB_refl _
    · have : setS c d o' f' = allS := by unfold setS; rw [if_neg]; simp [sgB]; exact ⟨by simpa using e, fun h => by omega⟩
      rw [this]
      exact wiB_all (set_ok ho)
theorem dis_grow {b d : Sp} (hb : b.1 ≤ b.2) (h : d.1 ≤ b.1 ∧ b.2 ≤ d.2) : most b ≤ most d := by
  have h1 := dis_le (b := d) (d := b.1) (by omega) (by omega)
  have h2 := dis_le (b := d) (d := b.2) (by omega) (by omega)
  unfold most at *
  omega
theorem do_grows {op : Int} {a b c d x : Sp} (ha : a.Ok) (hc : a.1 ≤ a.2 → c.1 ≤ a.1 ∧ a.2 ≤ c.2) (hd : b.1 ≤ b.2 → d.1 ≤ b.1 ∧ b.2 ≤ d.2) (hx : doS op a b = some x) : ∃ y, doS op c d = some y ∧ wiB x y = true := by
  have ea : emB a = false := by
    cases h : emB a
    · rfl
    · simp [doS, h] at hx
  have la : a.1 ≤ a.2 := by unfold emB at ea; simp at ea; omega
  have hac := hc la
  have ec : emB c = false := no_em (by omega)
  unfold doS at hx ⊢
  rw [ea] at hx
  rw [ec]
  by_cases o10 : op = 10
  · subst o10
    simp at hx
    subst hx
    refine ⟨tru (decide (c = (0, 0))) (!hasB c 0), by simp, ?_⟩
    unfold tru hasB wiB
    by_cases e1 : a = (0, 0) <;> by_cases e2 : c = (0, 0)
    · simp [e1, e2]
    · subst e1; simp [e2]; simp at hac; rw [if_neg (by omega)]; simp
    · subst e2; simp at hac; exact absurd (Prod.ext (by simp; omega) (by simp; omega)) e1
    · simp [e1, e2]; split <;> split <;> simp <;> omega
  · have eb : emB b = false := by
      cases h : emB b
      · rfl
      · simp [h, o10] at hx
    have lb : b.1 ≤ b.2 := by unfold emB at eb; simp at eb; omega
    have hbd := hd lb
    have ed : emB d = false := no_em (by omega)
    rw [eb] at hx
    rw [ed]
    simp only [Bool.false_and, Bool.or_false, Bool.false_eq_true, if_false] at hx ⊢
    by_cases o3 : op = 3
    · subst o3
      simp only [if_true, Option.some.injEq] at hx ⊢
      subst hx
      refine ⟨_, rfl, ?_⟩
      refine set_grow ⟨wr_nm _, wr_nm _⟩ la lb hac hbd (fun h => ?_) (fun e1 e2 => by subst e1 e2; exact ⟨rfl, rfl⟩)
      simp [fitB] at h ⊢
      obtain ⟨f1, f2⟩ := h
      have g1 : Nm (a.1 + b.1) := by unfold Nm at *; omega
      have g2 : Nm (a.2 + b.2) := by unfold Nm at *; omega
      rw [wr_id f1, wr_id f2, wr_id g1, wr_id g2]
      exact ⟨⟨g1, g2⟩, by omega, by omega⟩
    by_cases o4 : op = 4
    · subst o4
      simp at hx
      simp only [show ¬ (4 : Int) = 3 by omega, if_false, if_true, Option.some.injEq]
      subst hx
      refine ⟨_, rfl, ?_⟩
      refine set_grow ⟨wr_nm _, wr_nm _⟩ la lb hac hbd (fun h => ?_) (fun e1 e2 => by subst e1 e2; exact ⟨rfl, rfl⟩)
      simp [fitB] at h ⊢
      obtain ⟨f1, f2⟩ := h
      have g1 : Nm (a.1 - b.2) := by unfold Nm at *; omega
      have g2 : Nm (a.2 - b.1) := by unfold Nm at *; omega
      rw [wr_id f1, wr_id f2, wr_id g1, wr_id g2]
      exact ⟨⟨g1, g2⟩, by omega, by omega⟩
    by_cases o5 : op = 5
    · subst o5
      simp at hx
      simp only [show ¬ (5 : Int) = 3 by omega, show ¬ (5 : Int) = 4 by omega, if_false, if_true, Option.some.injEq]
      subst hx
      refine ⟨_, rfl, ?_⟩
      refine set_grow (hull_ok (by simp [corners]) fun v hv => by obtain ⟨u, _, rfl⟩ := List.mem_map.1 hv; exact wr_nm _) la lb hac hbd (fun h => ?_) (fun e1 e2 => by subst e1 e2; exact ⟨rfl, rfl⟩)
      obtain ⟨e, hv⟩ := pro_nm h
      obtain ⟨g1, g2, -⟩ := hull_has (corners c d) (by simp [corners])
      have n1 := hv _ g1
      have n2 := hv _ g2
      have key : ∀ v ∈ corners a b, (hull (corners c d)).1 ≤ v ∧ v ≤ (hull (corners c d)).2 := by
        intro v hv
        simp [corners] at hv
        rcases hv with rfl | rfl | rfl | rfl
        all_goals exact mul_in (by omega) (by omega) (by omega) (by omega)
      have hf : (corners a b).all fitB = true := List.all_eq_true.2 fun v hv => decide_eq_true (by have := key v hv; unfold Nm at *; omega)
      refine ⟨hf, ?_⟩
      rw [e, (pro_nm hf).1]
      obtain ⟨m1, m2, -⟩ := hull_has (corners a b) (by simp [corners])
      exact ⟨(key _ m1).1, (key _ m2).2⟩
    by_cases o6 : op = 6
    · subst o6
      have hb0 : b ≠ (0, 0) := by rintro rfl; simp at hx
      have hd0 : d ≠ (0, 0) := by rintro rfl; simp at hbd; exact hb0 (Prod.ext (by simp; omega) (by simp; omega))
      simp [hb0] at hx
      refine ⟨quoS c d, by simp [hd0], ?_⟩
      subst hx
      by_cases e : (hasB c (-9223372036854775808) && hasB d (-1)) = true
      · rw [show quoS c d = allS by unfold quoS; rw [if_pos e]]
        exact wiB_all (quo_ok ha la lb hb0)
      · have e' : ¬ (hasB a (-9223372036854775808) && hasB b (-1)) = true := by unfold hasB at *; simp at e ⊢; omega
        unfold quoS
        rw [if_neg e, if_neg e']
        obtain ⟨m1, m2, -⟩ := hull_has _ (quo_some (a := a) lb hb0)
        have key : ∀ v ∈ quoL a (cand b), (hull (quoL c (cand d))).1 ≤ v ∧ v ≤ (hull (quoL c (cand d))).2 := by
          intro v hv
          obtain ⟨k, hk, e⟩ := mem_quo.1 hv
          have hk' := (mem_cand.1 hk).2
          rcases e with rfl | rfl
          all_goals exact quo_in (by omega) (by omega) hk'.1 (by omega) (by omega)
        exact wiB_of (key _ m1).1 (key _ m2).2
    by_cases o7 : op = 7
    · subst o7
      have hb0 : b ≠ (0, 0) := by rintro rfl; simp at hx
      have hd0 : d ≠ (0, 0) := by rintro rfl; simp at hbd; exact hb0 (Prod.ext (by simp; omega) (by simp; omega))
      simp [hb0] at hx
      refine ⟨remS c d, by simp [hd0], ?_⟩
      subst hx
      have := dis_grow lb hbd
      refine wiB_of ?_ ?_
      · unfold remS; simp only; omega
      · unfold remS; simp only; omega
    by_cases o8 : op = 8
    · subst o8
      simp at hx
      subst hx
      refine ⟨tru (decide (c.2 < d.1)) (decide (d.2 ≤ c.1)), by simp, ?_⟩
      unfold tru wiB
      split <;> split <;> (try split) <;> (try split) <;> simp at * <;> omega
    by_cases o9 : op = 9
    · subst o9
      simp at hx
      subst hx
      refine ⟨tru (sgB c && decide (c = d)) (!meetB c d), by simp, ?_⟩
      unfold tru meetB sgB wiB
      by_cases e1 : c.1 = c.2 ∧ c = d
      · have e3 : a = c := Prod.ext (by omega) (by omega)
        have e4 : b = d := by obtain ⟨_, rfl⟩ := e1; exact Prod.ext (by omega) (by omega)
        subst e3 e4
        simp [e1]
      · rw [show (decide (c.1 = c.2) && decide (c = d)) = false by simpa using e1]
        by_cases hm : max c.1 d.1 ≤ min c.2 d.2
        · rw [decide_eq_true hm]
          split <;> (try split) <;> simp
        · have hm' : ¬ max a.1 b.1 ≤ min a.2 b.2 := by omega
          have hn : ¬ (a.1 = a.2 ∧ a = b) := by rintro ⟨_, rfl⟩; omega
          rw [decide_eq_false hm, decide_eq_false hm', show (decide (a.1 = a.2) && decide (a = b)) = false by simpa using hn]
          simp
    simp [o3, o4, o5, o6, o7, o8, o9, o10] at hx
theorem meet_grows {a b c d : Sp} (hc : a.1 ≤ a.2 → c.1 ≤ a.1 ∧ a.2 ≤ c.2) (hd : b.1 ≤ b.2 → d.1 ≤ b.1 ∧ b.2 ≤ d.2) (h : meetB a b = true) : meetB c d = true ∧ wiB (meetS a b) (meetS c d) = true := by
  unfold meetB at *
  simp only [decide_eq_true_eq] at *
  have := hc (by omega); have := hd (by omega)
  refine ⟨by omega, ?_⟩
  unfold meetS
  rw [if_pos h, if_pos (by omega)]
  exact wiB_of (by simp only; omega) (by simp only; omega)
theorem join_grows {a b c d : Sp} (hc : a.1 ≤ a.2 → c.1 ≤ a.1 ∧ a.2 ≤ c.2) (hd : b.1 ≤ b.2 → d.1 ≤ b.1 ∧ b.2 ≤ d.2) : wiB (joinS a b) (joinS c d) = true := by
  by_cases h1 : a.1 ≤ a.2
  · have := hc h1
    by_cases h2 : b.1 ≤ b.2
    · have := hd h2
      unfold joinS
      rw [if_neg (by omega), if_neg (by omega), if_neg (by omega), if_neg (by omega)]
      exact wiB_of (by simp only; omega) (by simp only; omega)
    · rw [show joinS a b = a by unfold joinS; rw [if_neg (by omega), if_pos (by omega)]]
      have := join_in (a := c) (b := d) (by omega)
      exact wiB_of (by omega) (by omega)
  · rw [show joinS a b = b by unfold joinS; rw [if_pos (by omega)]]
    by_cases h2 : b.1 ≤ b.2
    · have := hd h2
      have := join_in2 (a := c) (b := d) (by omega)
      exact wiB_of (by omega) (by omega)
    · exact decide_eq_true (.inl (by omega))
theorem join_wi (a b : Sp) : wiB a (joinS a b) = true := by
  by_cases h : a.1 ≤ a.2
  · exact wiB_of (join_in h).1 (join_in h).2
  · exact decide_eq_true (.inl (by omega))
theorem join_wi2 (a b : Sp) : wiB b (joinS a b) = true := by
  by_cases h : b.1 ≤ b.2
  · exact wiB_of (join_in2 h).1 (join_in2 h).2
  · exact decide_eq_true (.inl (by omega))
end Go.Proofs.Ytbepapbfohfdkaa

/- Spans: the small functions. -/
namespace Go.Proofs.Ytbepapbfohfdkaa
open Go.RowKit Go.Lib Go.Sort

theorem Hid.mk' {p : Prop} (h : p) : Hid p := h
theorem beq_no {a b : Int} (h : a ≠ b) : (a == b) = false := by rw [beq_eq_false_iff_ne]; exact h
theorem Below.on {A B C : World} (h : Below A.heap.size A B) (k : Below B.heap.size B C) : Below A.heap.size A C := h.trans (k.mono h.size)
theorem Below.one {A B : World} (h : Below A.heap.size A B) (o : Obj) : Below A.heap.size A (B.alloc o) := h.alloc h.size o
/-- A span as a value. -/
abbrev sv (a : Sp) : Value := .agg #[.int .i64 a.1, .int .i64 a.2]

/-- A block holds a span. -/
def At (W : World) (g : Nat) (a : Sp) : Prop := W.heap[g]? = some (.cells #[.int .i64 a.1, .int .i64 a.2] 23)
theorem At.lt {W : World} {g : Nat} {a : Sp} (h : At W g a) : g < W.heap.size := (Array.getElem?_eq_some_iff.1 h).1
theorem At.stay {W W' : World} {g : Nat} {a : Sp} (h : At W g a) (hb : Below W.heap.size W W') : At W' g a := (hb.block _ h.lt).trans h
theorem At.on {W W' : World} {g : Nat} {a : Sp} (h : At W g a) (o : Obj) (hb : Below W.heap.size W W') : At (W'.alloc o) g a := h.stay (Below.one hb o)
theorem At.more {W : World} {g : Nat} {a : Sp} (h : At W g a) (o : Obj) : At (W.alloc o) g a := h.stay (Below.one (Below.refl _ _) o)
theorem At.c0 {W : World} {g : Nat} {a : Sp} (h : At W g a) : W.cell? ⟨g, 0, none⟩ = some (.int .i64 a.1) := by rw [Lib.cell_of_heap h]; rfl
theorem At.c1 {W : World} {g : Nat} {a : Sp} (h : At W g a) : W.cell? ⟨g, 1, none⟩ = some (.int .i64 a.2) := by rw [Lib.cell_of_heap h]; rfl
theorem At.f0 {W : World} {g : Nat} {a : Sp} (h : At W g a) : W.frozen? ⟨g, 0, none⟩ = false := Lib.frozen_of_heap h _
theorem At.f1 {W : World} {g : Nat} {a : Sp} (h : At W g a) : W.frozen? ⟨g, 1, none⟩ = false := Lib.frozen_of_heap h _
theorem At.new (W : World) (a : Sp) : At (W.alloc (.cells #[.int .i64 a.1, .int .i64 a.2] 23)) W.heap.size a := heap_alloc_new _ _
theorem At.r0 {W : World} {g : Nat} {a : Sp} (h : At W g a) : ∀ d os, (grow (redrawn W d) os).cell? ⟨g, 0, none⟩ = some (.int .i64 a.1) := fun d os => cell_regrown h.c0 d os
theorem At.r1 {W : World} {g : Nat} {a : Sp} (h : At W g a) : ∀ d os, (grow (redrawn W d) os).cell? ⟨g, 1, none⟩ = some (.int .i64 a.2) := fun d os => cell_regrown h.c1 d os
theorem At.new1 (W : World) (a : Sp) (o : Obj) : At ((W.alloc o).alloc (.cells #[.int .i64 a.1, .int .i64 a.2] 23)) (W.heap.size + 1) a := by
  have := At.new (W.alloc o) a
  rwa [World.size_alloc] at this
theorem At.new2 (W : World) (a : Sp) (o p : Obj) : At (((W.alloc o).alloc p).alloc (.cells #[.int .i64 a.1, .int .i64 a.2] 23)) (W.heap.size + 1 + 1) a := by
  have := At.new ((W.alloc o).alloc p) a
  rwa [World.size_alloc, World.size_alloc] at this
theorem At.new3 (W : World) (a : Sp) (o p q : Obj) : At ((((W.alloc o).alloc p).alloc q).alloc (.cells #[.int .i64 a.1, .int .i64 a.2] 23)) (W.heap.size + 1 + 1 + 1) a := by
  have := At.new (((W.alloc o).alloc p).alloc q) a
  rwa [World.size_alloc, World.size_alloc, World.size_alloc] at this

theorem At.put0 {W : World} {g : Nat} {a : Sp} (h : At W g a) (x : Int) : At (W.setCell ⟨g, 0, none⟩ (.int .i64 x)) g (x, a.2) := by
  have := heap_setCell_same W g 0 _ _ (.int .i64 x) h
  simpa [At] using this
theorem At.put1 {W : World} {g : Nat} {a : Sp} (h : At W g a) (x : Int) : At (W.setCell ⟨g, 1, none⟩ (.int .i64 x)) g (a.1, x) := by
  have := heap_setCell_same W g 1 _ _ (.int .i64 x) h
  simpa [At] using this
theorem At.put {W : World} {g : Nat} {a : Sp} (h : At W g a) (b : Sp) : At ((W.setCell ⟨g, 0, none⟩ (.int .i64 b.1)).setCell ⟨g, 1, none⟩ (.int .i64 b.2)) g b := (h.put0 b.1).put1 b.2
theorem At.ne1 {W : World} {g k : Nat} {a : Sp} (h : At W g a) (hk : g ≠ k) (i : Nat) (x : Value) : At (W.setCell ⟨k, i, none⟩ x) g a := (heap_setCell_other W ⟨k, i, none⟩ g x hk).trans h
theorem At.ne {W : World} {g k : Nat} {a : Sp} (h : At W g a) (hk : g ≠ k) (x y : Value) : At ((W.setCell ⟨k, 0, none⟩ x).setCell ⟨k, 1, none⟩ y) g a := (h.ne1 hk 0 x).ne1 hk 1 y
theorem Below.put {N : Nat} {A B : World} (h : Below N A B) {k : Nat} (hk : N ≤ k) (x y : Value) : Below N A ((B.setCell ⟨k, 0, none⟩ x).setCell ⟨k, 1, none⟩ y) := (h.setCell hk x).setCell hk y
theorem empty_any (a : Sp) (w : World) : Calls Try.prog 27 #[sv a] w fun e w' => e = .returned (.bool (emB a)) ∧ Below w.heap.size w w' := by
  have hb := fun (o1 : Obj) => (Below.one (Below.refl _ w) o1 : Below w.heap.size w _)
  obtain ⟨l, h⟩ := a
  have he : emB (l, h) = decide (l > h) := rfl
  rw [he]
  go_enter Try.func27, Try.ntmps27
  go_wp2
  go_ret
  exact ⟨rfl, hb _⟩
theorem single_any (a : Sp) (w : World) : Calls Try.prog 38 #[sv a] w fun e w' => e = .returned (.bool (sgB a)) ∧ Below w.heap.size w w' := by
  have hb := fun (o1 : Obj) => (Below.one (Below.refl _ w) o1 : Below w.heap.size w _)
  obtain ⟨l, h⟩ := a
  have he : sgB (l, h) = (l == h) := rfl
  rw [he]
  go_enter Try.func38, Try.ntmps38
  go_wp2
  go_ret
  exact ⟨rfl, hb _⟩
theorem point_any (n : Int) (w : World) : Calls Try.prog 36 #[.int .i64 n] w fun e w' => e = .returned (sv (n, n)) ∧ Below w.heap.size w w' := by
  have hb := fun (o1 : Obj) => (Below.one (Below.refl _ w) o1 : Below w.heap.size w _)
  go_enter Try.func36, Try.ntmps36
  go_wp2
  exact bodyPost_ret (v := sv (n, n)) (by simp [results, Try.results36, go_sem]) rfl ⟨rfl, hb _⟩
theorem nothing_any (w : World) : Calls Try.prog 48 #[] w fun e w' => e = .returned (sv (1, 0)) ∧ Below w.heap.size w w' := by
  have hb := fun (o1 : Obj) => (Below.one (Below.refl _ w) o1 : Below w.heap.size w _)
  go_enter Try.func48, Try.ntmps48
  go_wp2
  exact bodyPost_ret (v := sv (1, 0)) (by simp [results, Try.results48, go_sem]) rfl ⟨rfl, hb _⟩
theorem all_any (w : World) : Calls Try.prog 12 #[] w fun e w' => e = .returned (sv allS) ∧ Below w.heap.size w w' := by
  have hb := fun (o1 : Obj) => (Below.one (Below.refl _ w) o1 : Below w.heap.size w _)
  go_enter Try.func12, Try.ntmps12
  go_wp2
  exact bodyPost_ret (v := sv allS) (by simp [results, Try.results12, go_sem, allS]) rfl ⟨rfl, hb _⟩
theorem has_any (a : Sp) (n : Int) (w : World) : Calls Try.prog 14 #[sv a, .int .i64 n] w fun e w' => e = .returned (.bool (hasB a n)) ∧ Below w.heap.size w w' := by
  have hb := fun (o1 : Obj) => (Below.one (Below.refl _ w) o1 : Below w.heap.size w _)
  obtain ⟨l, h⟩ := a
  by_cases h1 : l ≤ n
  · have he : hasB (l, h) n = decide (n ≤ h) := by unfold hasB; simp [h1]
    rw [he]
    go_enter Try.func14, Try.ntmps14
    go_wp2
    go_ret
    exact ⟨rfl, hb _⟩
  · have he : hasB (l, h) n = false := by unfold hasB; simp [h1]
    rw [he]
    go_enter Try.func14, Try.ntmps14
    go_wp2
    go_ret
    exact ⟨rfl, hb _⟩
theorem truth_any (y n : Bool) (w : World) : Calls Try.prog 37 #[.bool y, .bool n] w fun e w' => e = .returned (sv (tru y n)) ∧ Below w.heap.size w w' := by
  have hb := fun (o1 : Obj) => (Below.one (Below.refl _ w) o1 : Below w.heap.size w _)
  have HP : Hid (∀ n w, Calls Try.prog 36 #[.int .i64 n] w fun e w' => e = .returned (sv (n, n)) ∧ Below w.heap.size w w') := point_any
  cases y
  · cases n
    · go_enter Try.func37, Try.ntmps37
      go_wp2
      exact bodyPost_ret (v := sv (0, 1)) (by simp [results, Try.results37, go_sem]) rfl ⟨rfl, hb _⟩
    · go_enter Try.func37, Try.ntmps37
      go_wp2_with (go_at_call 36; refine (HP.out _ _).mono ?_; rintro e w1 ⟨rfl, hb1⟩; have A := At.stay (At.new w (0, 0)) hb1; have z0 := A.c0; have z1 := A.c1; have z2 := A.f0; have z3 := A.f1)
      exact bodyPost_ret (v := sv (0, 0)) (by simp [results, Try.results37, go_sem, *]) rfl ⟨rfl, ((Below.on (hb _) hb1).setCell (by simp) _).setCell (by simp) _⟩
  · go_enter Try.func37, Try.ntmps37
    go_wp2_with (go_at_call 36; refine (HP.out _ _).mono ?_; rintro e w1 ⟨rfl, hb1⟩; have A := At.stay (At.new w (0, 0)) hb1; have z0 := A.c0; have z1 := A.c1; have z2 := A.f0; have z3 := A.f1)
    exact bodyPost_ret (v := sv (1, 1)) (by simp [results, Try.results37, go_sem, *]) rfl ⟨rfl, ((Below.on (hb _) hb1).setCell (by simp) _).setCell (by simp) _⟩
end Go.Proofs.Ytbepapbfohfdkaa

/- Lists that lie in memory; raw data read at their types. -/
namespace Go.Proofs.Ytbepapbfohfdkaa
open Go.ChangeShapes Go.WideShapes Go.RowKit

/-- A list's elements, of so many cells each, lie at an address. -/
def RowIn (W : World) (a : Option Addr) (sz : Nat) (rows : List (List Value)) : Prop :=
  ∀ i cs, rows[i]? = some cs → ∃ b o, a = some ⟨b, o, none⟩ ∧ ∀ j v, cs[j]? = some v → W.cell? ⟨b, o + (i * sz + j), none⟩ = some v
theorem lt_of_cell {W : World} {p : Addr} {v : Value} (h : W.cell? p = some v) : p.block < W.heap.size := by
  by_cases hlt : p.block < W.heap.size
  · exact hlt
  · unfold World.cell? at h
    rw [Array.getElem?_eq_none (by omega)] at h
    cases h
theorem RowIn.stay {W W' : World} {a : Option Addr} {sz : Nat} {rows : List (List Value)} (h : RowIn W a sz rows) (hb : Below W.heap.size W W') : RowIn W' a sz rows := fun i cs hi => by
  obtain ⟨b, o, e, hc⟩ := h i cs hi
  exact ⟨b, o, e, fun j v hj => by have := hc j v hj; rw [hb.cell (lt_of_cell this)]; exact this⟩
/-- A list of numbers lies at an address. -/
def Ths (W : World) (a : Option Addr) (ts : List Int) : Prop := RowIn W a 1 (ts.map fun t => [.int .i64 t])
theorem Ths.stay {W W' : World} {a : Option Addr} {ts : List Int} (h : Ths W a ts) (hb : Below W.heap.size W W') : Ths W' a ts := RowIn.stay h hb
theorem Ths.cell {W : World} {a : Option Addr} {ts : List Int} (h : Ths W a ts) {k : Nat} {t : Int} (hk : ts[k]? = some t) : ∃ b o, a = some ⟨b, o, none⟩ ∧ W.cell? ⟨b, o + k, none⟩ = some (.int .i64 t) := by
  obtain ⟨b, o, e, hc⟩ := h k [.int .i64 t] (by simp [hk])
  exact ⟨b, o, e, by simpa using hc 0 _ rfl⟩

theorem spot_none {w : World} {a : Addr} {v : Value} (h : w.cell? a = some v) : a = ⟨a.block, a.off, none⟩ := by
  obtain ⟨b, o, s⟩ := a
  cases s with
  | none => rfl
  | some s =>
    unfold World.cell? at h
    split at h <;> simp at h

theorem add_spot {a : Addr} {n j : Nat} {w : World} {v : Value} (h : w.cell? ((a.add n).add j) = some v) (h0 : a.spot = none) : w.cell? ⟨a.block, a.off + (n + j), none⟩ = some v := by
  have e : (a.add n).add j = ⟨a.block, a.off + (n + j), none⟩ := by
    rw [Go.Deep.add_add]
    unfold Addr.add
    obtain ⟨b, o, s⟩ := a
    simp only at h0
    subst h0
    split
    · rename_i h; simp [h]
    · rfl
  rw [← e]; exact h

def Small {H : Type} (P : Program) (t : TypeId) (d : DataW H) : Prop := ∀ z ∈ d.weights P t, z ≤ 140737488351232

theorem weightsAll_mem {H : Type} {P : Program} {e : TypeId} {l : List (DataW H)} {d : DataW H} (h : d ∈ l) {z : Nat} (hz : z ∈ d.weights P e) : z ∈ DataW.weightsAll P e l := by
  induction l with
  | nil => cases h
  | cons y r ih =>
    rw [DataW.weightsAll, List.mem_append]
    rcases List.mem_cons.1 h with rfl | h
    · exact Or.inl hz
    · exact Or.inr (ih h)
theorem weightsEach_mem {H : Type} {P : Program} : ∀ {ts : List TypeId} {ds : List (DataW H)} {i : Nat} {t : TypeId} {d : DataW H}, ts[i]? = some t → ds[i]? = some d → ∀ {z : Nat}, z ∈ d.weights P t → z ∈ DataW.weightsEach P ts ds
  | [], _, _, _, _, h, _, _, _ => by simp at h
  | _ :: _, [], _, _, _, _, h, _, _ => by simp at h
  | t :: ts, d :: ds, 0, _, _, h1, h2, z, hz => by
    simp at h1 h2; subst h1 h2
    rw [DataW.weightsEach, List.mem_append]; exact Or.inl hz
  | t :: ts, d :: ds, i + 1, _, _, h1, h2, z, hz => by
    rw [DataW.weightsEach, List.mem_append]
    exact Or.inr (weightsEach_mem (ts := ts) (ds := ds) (i := i) (by simpa using h1) (by simpa using h2) hz)

/-- A field of a struct: what it reads as, and that it is small. -/
theorem open_field {H : Type} {enc : TypeId × Value → H} {P : Program} {w : World} {held : Bool} {t : TypeId} {fs : Array Field} {fuel : Nat} {cs : List Value} {x : DataW H × List MemPlace}
    (ht : P.underlying t = some (.struct fs)) (h : DataW.trod enc P w 0 (fun _ => true) held fuel t cs = some x) (hs : Small P t x.1) :
    ∃ n, fuel = n + 1 ∧ cs.length = P.cellsOf t ∧ ∀ (i : Nat) (f : Field), fs[i]? = some f → ∃ y, DataW.trod enc P w 0 (fun _ => true) held n f.type ((cs.drop f.offset).take (P.cellsOf f.type)) = some y ∧ Small P f.type y.1 := by
  obtain ⟨xs, n, hn, rfl, hl, hlen, hf⟩ := DataW.trod_struct ht h
  refine ⟨n, hn, hl, fun i f hi => ?_⟩
  have hlt : i < xs.length := by rw [hlen]; exact (Array.getElem?_eq_some_iff.1 hi).1
  refine ⟨xs[i], ?_, fun z hz => hs z ?_⟩
  · rw [hf i f hi, List.getElem?_eq_getElem hlt]
  · rw [DataW.weights]; simp only [ht]
    refine weightsEach_mem (i := i) (t := f.type) (d := xs[i].1) ?_ ?_ hz
    · simp [hi]
    · simp [List.getElem?_eq_getElem hlt]

/-- A list of whatever elements. -/
theorem open_rows {H : Type} {enc : TypeId × Value → H} {P : Program} {w : World} {held : Bool} {t e : TypeId} {k B fuel : Nat} {cs : List Value} {x : DataW H × List MemPlace} {α : Type} [Inhabited α] {cells : α → List Value} {In : α → Prop}
    (ht : P.underlying t = some (.slice e)) (hk : P.cellsOf e = k) (hk0 : 0 < k) (hB : P.bytesOf e = B)
    (el : ∀ m cs y, m < fuel → DataW.trod enc P w 0 (fun _ => true) held m e cs = some y → Small P e y.1 → ∃ z : α, cs = cells z ∧ In z)
    (h : DataW.trod enc P w 0 (fun _ => true) held fuel t cs = some x) (hs : Small P t x.1) :
    ∃ (a : Option Addr) (c : Nat) (l : List α), cs = [.slice a l.length c] ∧ l.length ≤ c ∧ c * B ≤ 140737488351232 ∧ (a = none → c = 0) ∧ RowIn w a k (l.map cells) ∧ ∀ y ∈ l, In y := by
  rcases DataW.trod_slice ht h with ⟨rfl, rfl⟩ | ⟨a, len, cap, elems, rest, n, hn, rfl, rfl, _, hl, _, hlen, hel, hsp, _⟩
  · exact ⟨none, 0, [], rfl, Nat.le_refl _, by simp, fun _ => rfl, fun i cs h => by simp at h, by simp⟩
  · have hw : ∀ z, z ∈ ((elems.map (·.1)).length + (rest.map (·.1)).length) * P.bytesOf e :: (DataW.weightsAll P e (elems.map (·.1)) ++ DataW.weightsAll P e (rest.map (·.1))) → z ≤ 140737488351232 := fun z hz => hs z (by rw [DataW.weights]; simp only [ht]; exact hz)
    obtain ⟨hr, _⟩ := hsp rfl
    have hcap := hw _ (List.mem_cons_self ..)
    rw [List.length_map, List.length_map, hlen, hr, show len + (cap - len) = cap by omega, hB] at hcap
    have hone : ∀ i, i < len → ∃ z : α, w.cells? 0 (a.add (i * k)) k = some (cells z) ∧ In z := fun i hi => by
      have h1 := hel i hi
      rw [hk, List.getElem?_eq_getElem (by omega)] at h1
      obtain ⟨cs', h2, h3⟩ := Option.bind_eq_some_iff.1 h1
      obtain ⟨z, rfl, hz⟩ := el n cs' _ (by omega) h3 (fun z hz => hw z (List.mem_cons_of_mem _ (List.mem_append_left _ (weightsAll_mem (List.mem_map_of_mem (List.getElem_mem _)) hz))))
      exact ⟨z, h2, hz⟩
    obtain ⟨f, hf⟩ := Go.Deep.choose_lt hone
    refine ⟨some a, cap, (List.range len).map f, by simp, by simpa using hl, hcap, fun h => by simp at h, fun i cs hi => ?_, fun y hy => ?_⟩
    · rw [List.getElem?_map, List.getElem?_map, Option.map_map, Option.map_eq_some_iff] at hi
      obtain ⟨i', hi', rfl⟩ := hi
      obtain ⟨hlt, rfl⟩ := List.getElem?_eq_some_iff.1 hi'
      simp only [List.length_range] at hlt
      obtain ⟨h1, _⟩ := hf i hlt
      obtain ⟨_, hcl, hc⟩ := World.cells?_some h1
      obtain ⟨h01, _⟩ := hf 0 (by omega)
      obtain ⟨_, hcl0, hc0⟩ := World.cells?_some h01
      have hsp : a.spot = none := by
        have := hc0 0 hk0
        rw [List.getElem?_eq_getElem (by omega)] at this
        have := spot_none this
        simp [Addr.add] at this
        rw [this]
      refine ⟨a.block, a.off, by rw [show (⟨a.block, a.off, none⟩ : Addr) = a by obtain ⟨b, o, s⟩ := a; simp_all], fun j v hj => ?_⟩
      simp only [List.getElem_range, Function.comp] at hj ⊢
      have hjl := (List.getElem?_eq_some_iff.1 hj).1
      exact add_spot ((hc j (by omega)).trans hj) hsp
    · obtain ⟨i, hi, rfl⟩ := List.mem_map.1 hy
      exact (hf i (by simpa using hi)).2

theorem i64_of {n : Int} (h : (Lit.int .i64 n).wf = true) : Nm n := by
  simpa [Lit.wf, Nm, IntKind.min, IntKind.max, IntKind.signed, IntKind.bits] using h
end Go.Proofs.Ytbepapbfohfdkaa

/- What every row of this seat shares: spans, numbers and lists of numbers opened and shut. -/
namespace Go.Proofs.Ytbepapbfohfdkaa
open Go.ChangeShapes Go.WideShapes Go.ChangeAt Go.RowKit

theorem ownK : ownKnob Try.prog.godebug = none := by kernel_rfl
theorem laidOutT : laidOutB Try.prog = true := by kernel_rfl
theorem cellsS : Try.prog.cellsOf 23 = 2 := by kernel_rfl
theorem open_span {H : Type} {enc : TypeId × Value → H} {W : World} {base : Nat} {sp : Nat → Bool} {held : Bool} {r : Reach} {b0 : Nat} {v : Value} {d : DataW H} {ps : List MemPlace}
    (hv : Value.okWide Try.prog W r b0 23 v) (h : DataW.Trod enc Try.prog W base sp held 23 v d ps) :
    ∃ a : Sp, a.Ok ∧ v = sv a ∧ ps = [] ∧ ∀ W' base' sp' held', DataW.Trod enc Try.prog W' base' sp' held' 23 (sv a) d [] := by
  obtain ⟨c0, c1, y0, y1, m, rfl, rfl, rfl, hy0, hy1⟩ := Joins.open_agg2 Try.underlying23 (by kernel_rfl) cellsS hv h
  obtain ⟨n0, e0, rfl, w0⟩ := DataW.trod_int Try.underlying2 hy0
  obtain ⟨n1, e1, rfl, w1⟩ := DataW.trod_int Try.underlying2 hy1
  simp at e0 e1
  subst e0 e1
  refine ⟨(n0, n1), ⟨i64_of w0, i64_of w1⟩, rfl, rfl, fun W' base' sp' held' => ?_⟩
  exact Joins.shut_agg2 (y0 := (.lit (.int .i64 n0), [])) (y1 := (.lit (.int .i64 n1), [])) Try.underlying23 (by kernel_rfl) cellsS ⟨1, by simp [DataW.trod, Try.underlying2, w0]⟩ ⟨1, by simp [DataW.trod, Try.underlying2, w1]⟩
theorem trodAll_five {H : Type} {enc : TypeId × Value → H} {P : Program} {w : World} {base : Nat} {spare : Nat → Bool} {held : Bool} {t t1 t2 t3 t4 : TypeId} {v v1 v2 v3 v4 : Value} {d d1 d2 d3 d4 : DataW H} {p p1 p2 p3 p4 : List MemPlace} (h : DataW.Trod enc P w base spare held t v d p) (h1 : DataW.Trod enc P w base spare held t1 v1 d1 p1)
    (h2 : DataW.Trod enc P w base spare held t2 v2 d2 p2) (h3 : DataW.Trod enc P w base spare held t3 v3 d3 p3) (h4 : DataW.Trod enc P w base spare held t4 v4 d4 p4) : DataW.TrodAll enc P w base spare held [t, t1, t2, t3, t4] [v, v1, v2, v3, v4] [d, d1, d2, d3, d4] (p ++ (p1 ++ (p2 ++ (p3 ++ p4)))) := ⟨p, _, h, trodAll_mk4 h1 h2 h3 h4, rfl⟩
/-- A list of numbers. -/
theorem open_nums {H : Type} {enc : TypeId × Value → H} {W : World} {held : Bool} {v : Value} {d : DataW H} {ps : List MemPlace}
    {r : Reach} {b0 : Nat} (hv : Value.okWide Try.prog W r b0 38 v) (h : DataW.Trod enc Try.prog W 0 (fun _ => true) held 38 v d ps) (hs : Small Try.prog 38 d) :
    ∃ (a : Option Addr) (c : Nat) (ts : List Int), v = .slice a ts.length c ∧ ts.length < 4611686018427387904 ∧ Ths W a ts ∧ ∀ t ∈ ts, Nm t := by
  obtain ⟨a0, l0, c0, rfl⟩ := okWide_slice Try.underlying38 hv
  obtain ⟨fuel, h⟩ := h
  obtain ⟨a, c, l, e, h1, h2, _, hr, hq⟩ := open_rows (α := Int) (cells := fun t => [.int .i64 t]) (In := Nm) (k := 1) (B := 8) Try.underlying38 (by kernel_rfl) (by omega) (by kernel_rfl) (fun m cs y _ hy _ => by
    obtain ⟨n, e0, _, e1⟩ := DataW.trod_int Try.underlying2 hy
    exact ⟨n, e0, i64_of e1⟩) h hs
  exact ⟨a, c, l, by simpa [Value.cells] using e, by omega, hr, hq⟩
/-- A list of numbers, with the room that it takes. -/
theorem open_numsB {H : Type} {enc : TypeId × Value → H} {W : World} {held : Bool} {v : Value} {d : DataW H} {ps : List MemPlace}
    {r : Reach} {b0 : Nat} (hv : Value.okWide Try.prog W r b0 38 v) (h : DataW.Trod enc Try.prog W 0 (fun _ => true) held 38 v d ps) (hs : Small Try.prog 38 d) :
    ∃ (a : Option Addr) (c : Nat) (ts : List Int), v = .slice a ts.length c ∧ ts.length * 8 ≤ 140737488351232 ∧ Ths W a ts ∧ ∀ t ∈ ts, Nm t := by
  obtain ⟨a0, l0, c0, rfl⟩ := okWide_slice Try.underlying38 hv
  obtain ⟨fuel, h⟩ := h
  obtain ⟨a, c, l, e, h1, h2, _, hr, hq⟩ := open_rows (α := Int) (cells := fun t => [.int .i64 t]) (In := Nm) (k := 1) (B := 8) Try.underlying38 (by kernel_rfl) (by omega) (by kernel_rfl) (fun m cs y _ hy _ => by
    obtain ⟨n, e0, _, e1⟩ := DataW.trod_int Try.underlying2 hy
    exact ⟨n, e0, i64_of e1⟩) h hs
  exact ⟨a, c, l, by simpa [Value.cells] using e, by omega, hr, hq⟩
end Go.Proofs.Ytbepapbfohfdkaa

/- Spans: Join, Meet, Below, Length; sums and differences of two numbers. -/
namespace Go.Proofs.Ytbepapbfohfdkaa
open Go.RowKit Go.Lib Go.Sort

theorem sum_any (x y : Int) (hx : Nm x) (hy : Nm y) (w : World) : Calls Try.prog 49 #[.int .i64 x, .int .i64 y] w fun e w' => e = .returned (.tuple #[.int .i64 (wr (x + y)), .bool (fitB (x + y))]) ∧ w' = w := by
  have HE : Hid (fitB (x + y) = (decide (wrap64 (x + y) < x) == decide (y < 0))) := by
    show _ = _
    apply Bool.eq_iff_iff.2
    unfold fitB wrap64
    rw [beq_iff_eq, decide_eq_decide, decide_eq_true_iff]
    unfold Nm at *
    omega
  go_enter Try.func49, Try.ntmps49
  go_wp2
  go_ret2
  exact ⟨by rw [HE.out]; rfl, rfl⟩
theorem difference_any (x y : Int) (hx : Nm x) (hy : Nm y) (w : World) : Calls Try.prog 51 #[.int .i64 x, .int .i64 y] w fun e w' => e = .returned (.tuple #[.int .i64 (wr (x - y)), .bool (fitB (x - y))]) ∧ w' = w := by
  have HE : Hid (fitB (x - y) = (decide (x < wrap64 (x - y)) == decide (y < 0))) := by
    show _ = _
    apply Bool.eq_iff_iff.2
    unfold fitB wrap64
    rw [beq_iff_eq, decide_eq_decide, decide_eq_true_iff]
    unfold Nm at *
    omega
  go_enter Try.func51, Try.ntmps51
  go_wp2
  go_ret2
  exact ⟨by rw [HE.out]; rfl, rfl⟩
theorem distance_any (n : Int) (hn : Nm n) (w : World) : Calls Try.prog 53 #[.int .i64 n] w fun e w' => e = .returned (.int .u64 (dis n)) ∧ w' = w := by
  by_cases h : n < 0
  · have HE : Hid (dis n = IntKind.u64.wrap (-(IntKind.u64.wrap n))) := by
      show _ = _
      rw [IntKind.wrap_u64, IntKind.wrap_u64]
      unfold dis Nm at *
      rw [if_pos h]
      omega
    go_enter Try.func53, Try.ntmps53
    go_wp2
    go_ret
    exact ⟨by rw [HE.out]; rfl, rfl⟩
  · have HE : Hid (dis n = IntKind.u64.wrap n) := by
      show _ = _
      rw [IntKind.wrap_u64]
      unfold dis Nm at *
      rw [if_neg h]
      omega
    go_enter Try.func53, Try.ntmps53
    go_wp2
    go_ret
    exact ⟨by rw [HE.out]; rfl, rfl⟩
theorem length_any (a b : Sp) (ha : a.Ok) (hb' : b.Ok) (w : World) : Calls Try.prog 18 #[sv a, sv b] w fun e w' => e = .returned (.int .u64 (lenN a b)) ∧ Below w.heap.size w w' := by
  have hb := fun (o1 o2 : Obj) => (Below.one (Below.one (Below.refl _ w) o1) o2 : Below w.heap.size w _)
  obtain ⟨l, h⟩ := a
  obtain ⟨l2, h2⟩ := b
  by_cases hh : h2 ≤ l
  · have HE : Hid (lenN (l, h) (l2, h2) = 0) := by show _ = _; unfold lenN; rw [if_pos hh]
    go_enter Try.func18, Try.ntmps18
    go_wp2
    go_ret
    exact ⟨by rw [HE.out]; rfl, hb _ _⟩
  · have HE : Hid (lenN (l, h) (l2, h2) = IntKind.u64.wrap (IntKind.u64.wrap h2 - IntKind.u64.wrap l)) := by
      show _ = _
      rw [IntKind.wrap_u64, IntKind.wrap_u64, IntKind.wrap_u64]
      unfold lenN Sp.Ok Nm at *
      rw [if_neg hh]
      omega
    go_enter Try.func18, Try.ntmps18
    go_wp2
    go_ret
    exact ⟨by rw [HE.out]; rfl, hb _ _⟩
theorem empV (l h : Int) (w : World) : Calls Try.prog 27 #[.agg #[.int .i64 l, .int .i64 h]] w fun e w' => e = .returned (.bool (decide (h < l))) ∧ Below w.heap.size w w' := empty_any (l, h) w

set_option maxHeartbeats 1000000 in
theorem join_any (a b : Sp) (w : World) : Calls Try.prog 16 #[sv a, sv b] w fun e w' => e = .returned (sv (joinS a b)) ∧ Below w.heap.size w w' := by
  obtain ⟨al, ah⟩ := a
  obtain ⟨bl, bh⟩ := b
  have HE := Hid.mk' empV
  have hb := fun (o1 o2 o3 : Obj) => (Below.one (Below.one (Below.one (Below.refl _ w) o1) o2) o3 : Below w.heap.size w _)
  by_cases h1 : ah < al
  · have hj : joinS (al, ah) (bl, bh) = (bl, bh) := by unfold joinS; rw [if_pos h1]
    rw [hj]
    go_enter Try.func16, Try.ntmps16
    go_wp2_with (go_at_call_of 27 (Value.agg #[Value.int .i64 al, Value.int .i64 ah]); refine (HE.out _ _ _).mono ?_; rintro e w1 ⟨rfl, hb1⟩; have A0 := At.stay (At.more (At.more (At.new w (al, ah)) _) _) hb1; have A1 := At.stay (At.more (At.new1 w (bl, bh) _) _) hb1; have A2 := At.stay (At.new2 w (0, 0) _ _) hb1; have x0 := A0.c0; have x1 := A0.c1; have y0 := A1.c0; have y1 := A1.c1; have z0 := A2.c0; have z1 := A2.c1; have z2 := A2.f0; have z3 := A2.f1)
    exact bodyPost_ret (v := sv (bl, bh)) (by simp [results, Try.results16, go_sem, *]) rfl ⟨rfl, ((Below.on (hb _ _ _) hb1).setCell (by simp; omega) _).setCell (by simp; omega) _⟩
  · by_cases h2 : bh < bl
    · have hj : joinS (al, ah) (bl, bh) = (al, ah) := by unfold joinS; rw [if_neg h1, if_pos h2]
      rw [hj]
      go_enter Try.func16, Try.ntmps16
      go_wp2_with (first | (go_at_call_of 27 (Value.agg #[Value.int .i64 al, Value.int .i64 ah]); refine (HE.out _ _ _).mono ?_; rintro e w1 ⟨rfl, hb1⟩; have A0 := At.stay (At.more (At.more (At.new w (al, ah)) _) _) hb1; have A1 := At.stay (At.more (At.new1 w (bl, bh) _) _) hb1; have A2 := At.stay (At.new2 w (0, 0) _ _) hb1; have x0 := A0.c0; have x1 := A0.c1; have y0 := A1.c0; have y1 := A1.c1; have z0 := A2.c0; have z1 := A2.c1; have z2 := A2.f0; have z3 := A2.f1) | (go_at_call_of 27 (Value.agg #[Value.int .i64 bl, Value.int .i64 bh]); refine (HE.out _ _ _).mono ?_; rintro e w2 ⟨rfl, hb2⟩; have D0 := A0.stay hb2; have D1 := A1.stay hb2; have D2 := A2.stay hb2; have u0 := D0.c0; have u1 := D0.c1; have v0 := D1.c0; have v1 := D1.c1; have t0 := D2.c0; have t1 := D2.c1; have t2 := D2.f0; have t3 := D2.f1))
      exact bodyPost_ret (v := sv (al, ah)) (by simp [results, Try.results16, go_sem, *]) rfl ⟨rfl, ((Below.on (Below.on (hb _ _ _) hb1) hb2).setCell (by simp; omega) _).setCell (by simp; omega) _⟩
    · have hj : joinS (al, ah) (bl, bh) = (min al bl, max ah bh) := by unfold joinS; rw [if_neg h1, if_neg h2]
      rw [hj]
      go_enter Try.func16, Try.ntmps16
      go_wp2_with (first | (go_at_call_of 27 (Value.agg #[Value.int .i64 al, Value.int .i64 ah]); refine (HE.out _ _ _).mono ?_; rintro e w1 ⟨rfl, hb1⟩; have A0 := At.stay (At.more (At.more (At.new w (al, ah)) _) _) hb1; have A1 := At.stay (At.more (At.new1 w (bl, bh) _) _) hb1; have A2 := At.stay (At.new2 w (0, 0) _ _) hb1; have x0 := A0.c0; have x1 := A0.c1; have y0 := A1.c0; have y1 := A1.c1; have z0 := A2.c0; have z1 := A2.c1; have z2 := A2.f0; have z3 := A2.f1) | (go_at_call_of 27 (Value.agg #[Value.int .i64 bl, Value.int .i64 bh]); refine (HE.out _ _ _).mono ?_; rintro e w2 ⟨rfl, hb2⟩; have D0 := A0.stay hb2; have D1 := A1.stay hb2; have D2 := A2.stay hb2; have u0 := D0.c0; have u1 := D0.c1; have v0 := D1.c0; have v1 := D1.c1; have t0 := D2.c0; have t1 := D2.c1; have t2 := D2.f0; have t3 := D2.f1))
      all_goals exact bodyPost_ret (v := sv (min al bl, max ah bh)) (by simp [results, Try.results16, go_sem, *] <;> omega) rfl ⟨rfl, ((Below.on (Below.on (hb _ _ _) hb1) hb2).setCell (by simp; omega) _).setCell (by simp; omega) _⟩
set_option maxHeartbeats 1000000 in
theorem meet_any (a b : Sp) (w : World) : Calls Try.prog 9 #[sv a, sv b] w fun e w' => e = .returned (.tuple #[sv (meetS a b), .bool (meetB a b)]) ∧ Below w.heap.size w w' := by
  obtain ⟨al, ah⟩ := a
  obtain ⟨bl, bh⟩ := b
  have HE := Hid.mk' empV
  have hb := fun (o1 o2 o3 o4 : Obj) => (Below.one (Below.one (Below.one (Below.one (Below.refl _ w) o1) o2) o3) o4 : Below w.heap.size w _)
  by_cases c1 : al < bl
  · by_cases c2 : bh < ah
    · by_cases c3 : bh < bl
      · have hS : meetS (al, ah) (bl, bh) = (0, 0) := by unfold meetS; rw [if_neg (by simp only; omega)]
        have hB : meetB (al, ah) (bl, bh) = false := decide_eq_false (by simp only; omega)
        rw [hS, hB]
        clear hS hB
        go_enter Try.func9, Try.ntmps9
        go_wp2_with (go_at_call 27; refine (HE.out _ _ _).mono ?_; rintro e w1 ⟨rfl, hb1⟩; have A2 := At.stay (At.more (At.new2 w (0, 0) _ _) _) hb1; have A3 := At.stay (At.new3 w (bl, bh) _ _ _) hb1; have z0 := A2.c0; have z1 := A2.c1; have z2 := A2.f0; have z3 := A2.f1; have x0 := A3.c0; have x1 := A3.c1)
        exact bodyPost_ret (v := .tuple #[sv (0, 0), .bool false]) (by simp [results, Try.results9, go_sem, *]) rfl ⟨rfl, ((Below.on (hb _ _ _ _) hb1).setCell (by simp; omega) _).setCell (by simp; omega) _⟩
      · have hS : meetS (al, ah) (bl, bh) = (bl, bh) := by unfold meetS; rw [if_pos (by simp only; omega)]; exact Prod.ext (by simp only; omega) (by simp only; omega)
        have hB : meetB (al, ah) (bl, bh) = true := decide_eq_true (by simp only; omega)
        rw [hS, hB]
        clear hS hB
        go_enter Try.func9, Try.ntmps9
        go_wp2_with (go_at_call 27; refine (HE.out _ _ _).mono ?_; rintro e w1 ⟨rfl, hb1⟩; have A2 := At.stay (At.more (At.new2 w (0, 0) _ _) _) hb1; have A3 := At.stay (At.new3 w (bl, bh) _ _ _) hb1; have z0 := A2.c0; have z1 := A2.c1; have z2 := A2.f0; have z3 := A2.f1; have x0 := A3.c0; have x1 := A3.c1)
        exact bodyPost_ret (v := .tuple #[sv (bl, bh), .bool true]) (by simp [results, Try.results9, go_sem, *]) rfl ⟨rfl, ((Below.on (hb _ _ _ _) hb1).setCell (by simp; omega) _).setCell (by simp; omega) _⟩
    · by_cases c3 : ah < bl
      · have hS : meetS (al, ah) (bl, bh) = (0, 0) := by unfold meetS; rw [if_neg (by simp only; omega)]
        have hB : meetB (al, ah) (bl, bh) = false := decide_eq_false (by simp only; omega)
        rw [hS, hB]
        clear hS hB
        go_enter Try.func9, Try.ntmps9
        go_wp2_with (go_at_call 27; refine (HE.out _ _ _).mono ?_; rintro e w1 ⟨rfl, hb1⟩; have A2 := At.stay (At.more (At.new2 w (0, 0) _ _) _) hb1; have A3 := At.stay (At.new3 w (bl, ah) _ _ _) hb1; have z0 := A2.c0; have z1 := A2.c1; have z2 := A2.f0; have z3 := A2.f1; have x0 := A3.c0; have x1 := A3.c1)
        exact bodyPost_ret (v := .tuple #[sv (0, 0), .bool false]) (by simp [results, Try.results9, go_sem, *]) rfl ⟨rfl, ((Below.on (hb _ _ _ _) hb1).setCell (by simp; omega) _).setCell (by simp; omega) _⟩
      · have hS : meetS (al, ah) (bl, bh) = (bl, ah) := by unfold meetS; rw [if_pos (by simp only; omega)]; exact Prod.ext (by simp only; omega) (by simp only; omega)
        have hB : meetB (al, ah) (bl, bh) = true := decide_eq_true (by simp only; omega)
        rw [hS, hB]
        clear hS hB
        go_enter Try.func9, Try.ntmps9
        go_wp2_with (go_at_call 27; refine (HE.out _ _ _).mono ?_; rintro e w1 ⟨rfl, hb1⟩; have A2 := At.stay (At.more (At.new2 w (0, 0) _ _) _) hb1; have A3 := At.stay (At.new3 w (bl, ah) _ _ _) hb1; have z0 := A2.c0; have z1 := A2.c1; have z2 := A2.f0; have z3 := A2.f1; have x0 := A3.c0; have x1 := A3.c1)
        exact bodyPost_ret (v := .tuple #[sv (bl, ah), .bool true]) (by simp [results, Try.results9, go_sem, *]) rfl ⟨rfl, ((Below.on (hb _ _ _ _) hb1).setCell (by simp; omega) _).setCell (by simp; omega) _⟩
  · by_cases c2 : bh < ah
    · by_cases c3 : bh < al
      · have hS : meetS (al, ah) (bl, bh) = (0, 0) := by unfold meetS; rw [if_neg (by simp only; omega)]
        have hB : meetB (al, ah) (bl, bh) = false := decide_eq_false (by simp only; omega)
        rw [hS, hB]
        clear hS hB
        go_enter Try.func9, Try.ntmps9
        go_wp2_with (go_at_call 27; refine (HE.out _ _ _).mono ?_; rintro e w1 ⟨rfl, hb1⟩; have A2 := At.stay (At.more (At.new2 w (0, 0) _ _) _) hb1; have A3 := At.stay (At.new3 w (al, bh) _ _ _) hb1; have z0 := A2.c0; have z1 := A2.c1; have z2 := A2.f0; have z3 := A2.f1; have x0 := A3.c0; have x1 := A3.c1)
        exact bodyPost_ret (v := .tuple #[sv (0, 0), .bool false]) (by simp [results, Try.results9, go_sem, *]) rfl ⟨rfl, ((Below.on (hb _ _ _ _) hb1).setCell (by simp; omega) _).setCell (by simp; omega) _⟩
      · have hS : meetS (al, ah) (bl, bh) = (al, bh) := by unfold meetS; rw [if_pos (by simp only; omega)]; exact Prod.ext (by simp only; omega) (by simp only; omega)
        have hB : meetB (al, ah) (bl, bh) = true := decide_eq_true (by simp only; omega)
        rw [hS, hB]
        clear hS hB
        go_enter Try.func9, Try.ntmps9
        go_wp2_with (go_at_call 27; refine (HE.out _ _ _).mono ?_; rintro e w1 ⟨rfl, hb1⟩; have A2 := At.stay (At.more (At.new2 w (0, 0) _ _) _) hb1; have A3 := At.stay (At.new3 w (al, bh) _ _ _) hb1; have z0 := A2.c0; have z1 := A2.c1; have z2 := A2.f0; have z3 := A2.f1; have x0 := A3.c0; have x1 := A3.c1)
        exact bodyPost_ret (v := .tuple #[sv (al, bh), .bool true]) (by simp [results, Try.results9, go_sem, *]) rfl ⟨rfl, ((Below.on (hb _ _ _ _) hb1).setCell (by simp; omega) _).setCell (by simp; omega) _⟩
    · by_cases c3 : ah < al
      · have hS : meetS (al, ah) (bl, bh) = (0, 0) := by unfold meetS; rw [if_neg (by simp only; omega)]
        have hB : meetB (al, ah) (bl, bh) = false := decide_eq_false (by simp only; omega)
        rw [hS, hB]
        clear hS hB
        go_enter Try.func9, Try.ntmps9
        go_wp2_with (go_at_call 27; refine (HE.out _ _ _).mono ?_; rintro e w1 ⟨rfl, hb1⟩; have A2 := At.stay (At.more (At.new2 w (0, 0) _ _) _) hb1; have A3 := At.stay (At.new3 w (al, ah) _ _ _) hb1; have z0 := A2.c0; have z1 := A2.c1; have z2 := A2.f0; have z3 := A2.f1; have x0 := A3.c0; have x1 := A3.c1)
        exact bodyPost_ret (v := .tuple #[sv (0, 0), .bool false]) (by simp [results, Try.results9, go_sem, *]) rfl ⟨rfl, ((Below.on (hb _ _ _ _) hb1).setCell (by simp; omega) _).setCell (by simp; omega) _⟩
      · have hS : meetS (al, ah) (bl, bh) = (al, ah) := by unfold meetS; rw [if_pos (by simp only; omega)]; exact Prod.ext (by simp only; omega) (by simp only; omega)
        have hB : meetB (al, ah) (bl, bh) = true := decide_eq_true (by simp only; omega)
        rw [hS, hB]
        clear hS hB
        go_enter Try.func9, Try.ntmps9
        go_wp2_with (go_at_call 27; refine (HE.out _ _ _).mono ?_; rintro e w1 ⟨rfl, hb1⟩; have A2 := At.stay (At.more (At.new2 w (0, 0) _ _) _) hb1; have A3 := At.stay (At.new3 w (al, ah) _ _ _) hb1; have z0 := A2.c0; have z1 := A2.c1; have z2 := A2.f0; have z3 := A2.f1; have x0 := A3.c0; have x1 := A3.c1)
        exact bodyPost_ret (v := .tuple #[sv (al, ah), .bool true]) (by simp [results, Try.results9, go_sem, *]) rfl ⟨rfl, ((Below.on (hb _ _ _ _) hb1).setCell (by simp; omega) _).setCell (by simp; omega) _⟩
theorem sglV (l h : Int) (w : World) : Calls Try.prog 38 #[.agg #[.int .i64 l, .int .i64 h]] w fun e w' => e = .returned (.bool (l == h)) ∧ Below w.heap.size w w' := single_any (l, h) w
theorem allV (w : World) : Calls Try.prog 12 #[] w fun e w' => e = .returned (.agg #[.int .i64 (-9223372036854775808), .int .i64 9223372036854775807]) ∧ Below w.heap.size w w' := all_any w
set_option maxHeartbeats 1000000 in
theorem settle_any (a b o : Sp) (f : Bool) (w : World) : Calls Try.prog 50 #[sv a, sv b, sv o, .bool f] w fun e w' => e = .returned (sv (setS a b o f)) ∧ Below w.heap.size w w' := by
  obtain ⟨al, ah⟩ := a
  obtain ⟨bl, bh⟩ := b
  obtain ⟨ol, oh⟩ := o
  have HS := Hid.mk' sglV
  have HA := Hid.mk' allV
  have hb := fun (o1 o2 o3 o4 : Obj) => (Below.one (Below.one (Below.one (Below.one (Below.refl _ w) o1) o2) o3) o4 : Below w.heap.size w _)
  cases f
  · by_cases h1 : al = ah
    · by_cases h2 : bl = bh
      · have hS : setS (al, ah) (bl, bh) (ol, oh) false = (ol, oh) := by simp [setS, sgB, h1, h2]
        rw [hS]
        clear hS
        have e1 : (al == ah) = true := by simp [h1]
        have e2 : (bl == bh) = true := by simp [h2]
        clear h1 h2
        go_enter Try.func50, Try.ntmps50
        go_wp2_with (first | (go_at_call_of 38 (Value.agg #[Value.int .i64 al, Value.int .i64 ah]); refine (HS.out _ _ _).mono ?_; rintro e w1 ⟨rfl, hb1⟩; have A0 := At.stay (At.more (At.more (At.more (At.new w (al, ah)) _) _) _) hb1; have A1 := At.stay (At.more (At.more (At.new1 w (bl, bh) _) _) _) hb1; have A2 := At.stay (At.more (At.new2 w (ol, oh) _ _) _) hb1; have A3 := At.stay (At.new3 w (0, 0) _ _ _) hb1; have y0 := A1.c0; have y1 := A1.c1; have x0 := A2.c0; have x1 := A2.c1; have z0 := A3.c0; have z1 := A3.c1; have z2 := A3.f0; have z3 := A3.f1) | (go_at_call_of 38 (Value.agg #[Value.int .i64 bl, Value.int .i64 bh]); refine (HS.out _ _ _).mono ?_; rintro e w2 ⟨rfl, hb2⟩; have D2 := A2.stay hb2; have D3 := A3.stay hb2; have u0 := D2.c0; have u1 := D2.c1; have t0 := D3.c0; have t1 := D3.c1; have t2 := D3.f0; have t3 := D3.f1))
        exact bodyPost_ret (v := sv (ol, oh)) (by simp [results, Try.results50, go_sem, *]) rfl ⟨rfl, ((Below.on (Below.on (hb _ _ _ _) hb1) hb2).setCell (by simp; omega) _).setCell (by simp; omega) _⟩
      · have hS : setS (al, ah) (bl, bh) (ol, oh) false = allS := by simp [setS, sgB, h2]
        rw [hS]
        clear hS
        have e1 : (al == ah) = true := by simp [h1]
        have e2 := beq_no h2
        clear h1 h2
        go_enter Try.func50, Try.ntmps50
        go_wp2_with (first | (go_at_call_of 38 (Value.agg #[Value.int .i64 al, Value.int .i64 ah]); refine (HS.out _ _ _).mono ?_; rintro e w1 ⟨rfl, hb1⟩; have A0 := At.stay (At.more (At.more (At.more (At.new w (al, ah)) _) _) _) hb1; have A1 := At.stay (At.more (At.more (At.new1 w (bl, bh) _) _) _) hb1; have A2 := At.stay (At.more (At.new2 w (ol, oh) _ _) _) hb1; have A3 := At.stay (At.new3 w (0, 0) _ _ _) hb1; have y0 := A1.c0; have y1 := A1.c1; have x0 := A2.c0; have x1 := A2.c1; have z0 := A3.c0; have z1 := A3.c1; have z2 := A3.f0; have z3 := A3.f1) | (go_at_call_of 38 (Value.agg #[Value.int .i64 bl, Value.int .i64 bh]); refine (HS.out _ _ _).mono ?_; rintro e w2 ⟨rfl, hb2⟩; have D2 := A2.stay hb2; have D3 := A3.stay hb2; have u0 := D2.c0; have u1 := D2.c1; have t0 := D3.c0; have t1 := D3.c1; have t2 := D3.f0; have t3 := D3.f1) | (go_at_call 12; refine (HA.out _).mono ?_; rintro e w3 ⟨rfl, hb3⟩; have E3 := D3.stay hb3; have s0 := E3.c0; have s1 := E3.c1; have s2 := E3.f0; have s3 := E3.f1))
        exact bodyPost_ret (v := sv allS) (by simp [results, Try.results50, go_sem, allS, *]) rfl ⟨rfl, ((Below.on (Below.on (Below.on (hb _ _ _ _) hb1) hb2) hb3).setCell (by simp; omega) _).setCell (by simp; omega) _⟩
    · have hS : setS (al, ah) (bl, bh) (ol, oh) false = allS := by simp [setS, sgB, h1]
      rw [hS]
      clear hS
      have e1 := beq_no h1
      clear h1
      have hu : undef = Value.tuple #[] := rfl
      go_enter Try.func50, Try.ntmps50
      go_wp2_with (first | (go_at_call_of 38 (Value.agg #[Value.int .i64 al, Value.int .i64 ah]); refine (HS.out _ _ _).mono ?_; rintro e w1 ⟨rfl, hb1⟩; have A0 := At.stay (At.more (At.more (At.more (At.new w (al, ah)) _) _) _) hb1; have A1 := At.stay (At.more (At.more (At.new1 w (bl, bh) _) _) _) hb1; have A2 := At.stay (At.more (At.new2 w (ol, oh) _ _) _) hb1; have A3 := At.stay (At.new3 w (0, 0) _ _ _) hb1; have y0 := A1.c0; have y1 := A1.c1; have x0 := A2.c0; have x1 := A2.c1; have z0 := A3.c0; have z1 := A3.c1; have z2 := A3.f0; have z3 := A3.f1) | (go_at_call 12; refine (HA.out _).mono ?_; rintro e w3 ⟨rfl, hb3⟩; have E3 := A3.stay hb3; have s0 := E3.c0; have s1 := E3.c1; have s2 := E3.f0; have s3 := E3.f1))
      exact bodyPost_ret (v := sv allS) (by simp [results, Try.results50, go_sem, allS, *]) rfl ⟨rfl, ((Below.on (Below.on (hb _ _ _ _) hb1) hb3).setCell (by simp; omega) _).setCell (by simp; omega) _⟩
  · have hS : setS (al, ah) (bl, bh) (ol, oh) true = (ol, oh) := by simp [setS]
    rw [hS]
    clear hS
    go_enter Try.func50, Try.ntmps50
    go_wp2_with fail
    exact bodyPost_ret (v := sv (ol, oh)) (by simp [results, Try.results50, go_sem, *]) rfl ⟨rfl, hb _ _ _ _⟩
end Go.Proofs.Ytbepapbfohfdkaa

/- A region that draws its order: quiet operations first, and a tail that waits for all of them (a store of what they made). One walk of the quiet ones serves every order; the tail is walked as it stands. -/
namespace Go.Proofs.Ytbepapbfohfdkaa
open Go.Sort

section
variable {P : Program} {ops : Array Oper} {md : Region.Mode} {C : World → Prop}

/-- So many operations of the head come up, in any order; then L. -/
def headQ (P : Program) (md : Region.Mode) (ops : Array Oper) (C : World → Prop) (n : Nat) (L : Array Bool → Act → Prop) : Nat → Array Bool → Act → Prop
  | 0 => L
  | f + 1 => fun done a => Region.ready md ops done ≠ [] ∧ ∀ i ∈ Region.ready md ops done, i < n ∧ qOp P ops C i (headQ P md ops C n L f (done.setIfInBounds i true)) a

theorem any_of_headQ {n g : Nat} {L : Array Bool → Act → Prop} {Q : Exit → Act → World → Prop} (hL : ∀ done a w, C w → L done a → wpAny P md ops Q g done a w) (f : Nat) :
    ∀ (done : Array Bool) (a : Act) (w : World), C w → headQ P md ops C n L f done a → wpAny P md ops Q (f + g) done a w := by
  induction f with
  | zero => intro done a w hw h; rw [Nat.zero_add]; exact hL _ _ _ hw h
  | succ f ih =>
    intro done a w hw h
    rw [Nat.add_right_comm]
    exact ⟨fun h0 => (h.1 h0).elim, fun i hi => wpOp_of_qOp hw (fun a' w' hw' h' => ih _ a' w' hw' h') (h.2 i hi).2⟩

theorem headQ_first {n i : Nat} {oi : Oper} {v : Value} {L : Array Bool → Act → Prop} (hi : ops[i]? = some oi) (hsel : Region.noSelect ops = true)
    (hs : Region.sinkB md ops n = true) (hc : Region.chainB md ops n = true) (hn : n < ops.size) (hin : i < n) (hdone : ∀ done a, L done a → ∀ j ∈ Region.ready md ops done, n ≤ j) (f : Nat) :
    ∀ (done : Array Bool) (a : Act), HeadInv md ops n done →
      (∀ j oj, ops[j]? = some oj → j ≠ i → done.getD j true = false → (∀ e ∈ oj.after, Region.binds md e = true → e.on ≠ i) → oi.apart ops oj = true) →
      i ∈ Region.ready md ops done → YieldsIn P ops C oi v a →
      headQ P md ops C n L f (done.setIfInBounds i true) (a.put oi.dst v) → headQ P md ops C n L (f + 1) done a := by
  have ns := Region.noSelect_spec hsel
  induction f with
  | zero =>
    intro done a inv _ hr hy H
    refine ⟨List.ne_nil_of_mem hr, fun j hj => ?_⟩
    have hjn : j < n := Nat.lt_of_not_le fun h => tail_waits hs hc hn inv _ i rfl hin (mem_ready.1 hr).1 j h hj
    refine ⟨hjn, ?_⟩
    rcases Nat.decEq j i with hji | hji
    · exact absurd (hdone _ _ H j (ready_mono hj hji)) (by omega)
    · subst hji; exact hy.qOp hi H
  | succ f ih =>
    intro done a inv hfree hr hy H
    have hun := (mem_ready.1 hr).1
    refine ⟨List.ne_nil_of_mem hr, fun j hj => ?_⟩
    have hjn : j < n := Nat.lt_of_not_le fun h => tail_waits hs hc hn inv _ i rfl hin hun j h hj
    refine ⟨hjn, ?_⟩
    rcases Nat.decEq j i with hji | hji
    · obtain ⟨hjun, oj, hoj, hall⟩ := mem_ready.1 hj
      have hap := hfree j oj hoj hji hjun fun e he hb heq => by
        have := hall e he hb
        rw [heq, getD_both hun] at this
        exact Bool.noConfusion this
      refine qOp_mono (fun a' h3 => ih _ a' (inv.set hj hjn) (fun k ok hk hki hku hno => hfree k ok hk hki ?_ hno) (ready_mono hr (Ne.symm hji)) h3.1 ?_)
        (qOp_put hoj hap (fun cs b => ns i oi cs b hi) (fun cs b => ns j oj cs b hoj) hy (H.2 j (ready_mono hj hji)).2)
      · rcases Nat.decEq j k with hjk | hjk
        · rwa [getD_set_ne true hjk] at hku
        · exact hjk ▸ hjun
      · rw [Array.setIfInBounds_comm _ _ hji]; exact h3.2
    · subst hji; exact hy.qOp hi H

theorem headQ_lex {n g : Nat} {Lq : Act → Prop} (hsel : Region.noSelect ops = true) (hs : Region.sinkB md ops n = true) (hc : Region.chainB md ops n = true) (hn : n < ops.size) (l : List Oper) :
    ∀ (k : Nat) (done : Array Bool) (a : Act), (∀ j, j < l.length → l[j]? = ops[k + j]?) → k + l.length = n → HeadInv md ops n done → Region.lexHead md ops g l.length k done = true → wpQuiet P ops C Lq l a →
    headQ P md ops C n (fun done' a' => Region.seqB md ops g n done' = true ∧ Lq a') l.length done a := by
  induction l with
  | nil =>
    intro k done a _ hk _ hB h
    obtain rfl : k = n := by simpa using hk
    exact ⟨by simpa [Region.lexHead] using hB, h⟩
  | cons o l ih =>
    intro k done a hl hk inv hB h
    rw [List.length_cons] at hk
    have h0 : ops[k]? = some o := by simpa using (hl 0 (by simp)).symm
    simp only [List.length_cons, Region.lexHead, Bool.and_eq_true] at hB
    have hr : k ∈ Region.ready md ops done := by simpa using hB.1.1
    have hq : qOp P ops C k (wpQuiet P ops C Lq l) a := by unfold qOp; simp only [h0]; exact h
    obtain ⟨v, hy, hK⟩ := yieldsIn_of_qOp h0 hq
    refine headQ_first h0 hsel hs hc hn (by omega) (fun _ _ hL => seqB_ready hL.1) l.length done a inv (Region.free_spec h0 hB.1.2) hr hy ?_
    refine ih (k + 1) _ _ (fun j hj => ?_) (by omega) (inv.set hr (by omega)) hB.2 hK
    have := hl (j + 1) (by simp; omega)
    rwa [List.getElem?_cons_succ, show k + (j + 1) = k + 1 + j by omega] at this

theorem region_quiet_tail {id : Nat} {Q : Exit → Act → World → Prop} {a : Act} {w : World} {l : List Oper} (n : Nat) (hm : P.follows .mixedOrders = true) (hB : Region.lexTailB .any l.toArray n = true) (hC : C { w with drawn := w.drawn + 1 })
    (h : wpQuiet P l.toArray C (fun a' => ∀ w', C w' → wpList P l.toArray Q (l.drop n) a' w') (l.take n) a) : (Code.region id l.toArray true).wp P Q a w := by
  simp only [Region.lexTailB, Bool.and_eq_true, decide_eq_true_eq] at hB
  obtain ⟨⟨⟨⟨hsel, hn⟩, hs⟩, hc⟩, hlex⟩ := hB
  have hn' : n < l.length := by simpa using hn
  have ht : (l.take n).length = n := by simp; omega
  have hd : (l.drop n).length = l.toArray.size - n := by simp
  have inv0 : HeadInv .any l.toArray n (Array.replicate l.toArray.size false) :=
    ⟨by simp, fun j oj _ hj => (by rw [getD_replicate_false] at hj; cases hj), fun t _ ht => getD_in (by simpa using ht) (getD_replicate_false _ _)⟩
  have H := headQ_lex (md := .any) (g := l.toArray.size - n) hsel hs hc hn (l.take n) 0 _ a (fun j hj => by
    have : j < n := by omega
    simp [this]) (by omega) inv0 (by rw [ht]; exact hlex) h
  refine wp_region_any hm ?_
  have := any_of_headQ (Q := Q) (g := l.toArray.size - n) (fun done a' w' hw' hL => by
    have := wpAny_of_seq (md := .any) (Q' := Q) (l.drop n) n done a' w' (fun j => by simp [List.getElem?_drop]) (by rw [hd]; exact hL.1) (hL.2 w' hw')
    rwa [hd] at this) _ _ _ _ hC H
  rwa [ht, show n + (l.toArray.size - n) = l.toArray.size by omega] at this
end
/-- The class: what lay there before lies there still. -/
theorem region_below_tail {P : Program} {id : Nat} {Q : Exit → Act → World → Prop} {a : Act} {w : World} {l : List Oper} (n : Nat) (hm : P.follows .mixedOrders = true) (hB : Region.lexTailB .any l.toArray n = true)
    (h : wpQuiet P l.toArray (fun w' => ∃ p : Regrown, w' = grow (redrawn w p.d) p.os) (fun a' => ∀ w', (∃ p : Regrown, w' = grow (redrawn w p.d) p.os) → wpList P l.toArray Q (l.drop n) a' w') (l.take n) a) : (Code.region id l.toArray true).wp P Q a w :=
  region_quiet_tail (C := fun w' => ∃ p : Regrown, w' = grow (redrawn w p.d) p.os) n hm hB ⟨⟨w.drawn + 1, #[]⟩, by rw [grow_empty]; rfl⟩ h
end Go.Proofs.Ytbepapbfohfdkaa

/- Spans are compared; what Do tells of nothing. -/
namespace Go.Proofs.Ytbepapbfohfdkaa
open Go.RowKit Go.Lib Go.Sort

theorem emF {l h : Int} (H : l ≤ h) (w : World) : Calls Try.prog 27 #[.agg #[.int .i64 l, .int .i64 h]] w fun e w' => e = .returned (.bool false) ∧ Below w.heap.size w w' := by
  have := empV l h w
  rwa [decide_eq_false (by omega)] at this
theorem emT {l h : Int} (H : h < l) (w : World) : Calls Try.prog 27 #[.agg #[.int .i64 l, .int .i64 h]] w fun e w' => e = .returned (.bool true) ∧ Below w.heap.size w w' := by
  have := empV l h w
  rwa [decide_eq_true H] at this
theorem eqGuard_s (w : World) (op : BinOp) (a b : Operand) (xs ys : Array Value) : (eqGuard op 23 a b (.agg xs) (.agg ys)).run Try.prog w = .ok () w := run_eqGuard_agg w op 23 a b xs ys (by kernel_rfl)
theorem equalIn_s (a b a' b' : Int) (w : World) : (Op.equalIn 10000 23 (.agg #[.int .i64 a, .int .i64 b]) (.agg #[.int .i64 a', .int .i64 b'])).run Try.prog w = .ok (a == a' && b == b') w := by
  have u3 := Try.underlying2
  have a3 := Try.isAgg2
  have z3 := Try.sizeOf2
  have hS : Try.prog.underlying 23 = some (.struct (Try.prog.fieldsOf 23)) := by kernel_rfl
  have hp : Try.prog.stoodInHeld 23 = false := by kernel_rfl
  rw [show (10000 : Nat) = 9999 + 1 from rfl, run_equalIn_agg w 9999 23 _ _ hS hp]
  simp only [Program.fieldsOf, Try.underlying23]
  go_simp
  by_cases h1 : a = a' <;> by_cases h2 : b = b' <;> simp [h1, h2]
theorem eq_and {a b a' b' : Int} : (a == a' && b == b') = decide ((a, b) = (a', b')) := by
  by_cases h : (a, b) = (a', b')
  · rw [decide_eq_true h]; injection h with h1 h2; simp [h1, h2]
  · rw [decide_eq_false h]; simp only [Prod.mk.injEq] at h; simpa using h
theorem equalIn_T {a b a' b' : Int} (h : (a, b) = (a', b')) (w : World) : (Op.equalIn 10000 23 (.agg #[.int .i64 a, .int .i64 b]) (.agg #[.int .i64 a', .int .i64 b'])).run Try.prog w = .ok true w := by
  rw [equalIn_s, eq_and, decide_eq_true h]
theorem equalIn_F {a b a' b' : Int} (h : (a, b) ≠ (a', b')) (w : World) : (Op.equalIn 10000 23 (.agg #[.int .i64 a, .int .i64 b]) (.agg #[.int .i64 a', .int .i64 b'])).run Try.prog w = .ok false w := by
  rw [equalIn_s, eq_and, decide_eq_false h]
set_option maxHeartbeats 1000000 in
theorem do_emA (op al ah bl bh : Int) (h1 : ah < al) (w : World) : Calls Try.prog 20 #[.int .i64 op, sv (al, ah), sv (bl, bh)] w fun e w' => e = .returned (.tuple #[sv (0, 0), .bool false]) ∧ Below w.heap.size w w' := by
  have HEa : Hid (∀ w, Calls Try.prog 27 #[.agg #[.int .i64 al, .int .i64 ah]] w fun e w' => e = .returned (.bool true) ∧ Below w.heap.size w w') := emT h1
  have hb := fun (o1 o2 o3 : Obj) => (Below.one (Below.one (Below.one (Below.refl _ w) o1) o2) o3 : Below w.heap.size w _)
  have hu : undef = Value.tuple #[] := rfl
  clear h1
  go_enter Try.func20, Try.ntmps20
  go_wp2_with (go_at_call_of 27 (Value.agg #[Value.int .i64 al, Value.int .i64 ah]); refine (HEa.out _).mono ?_; rintro e w1 ⟨rfl, hb1⟩; have A0 := At.stay (At.more (At.more (At.new w (al, ah)) _) _) hb1; have A1 := At.stay (At.more (At.new1 w (bl, bh) _) _) hb1; have A2 := At.stay (At.new2 w (0, 0) _ _) hb1; have x0 := A0.c0; have x1 := A0.c1; have y0 := A1.c0; have y1 := A1.c1; have z0 := A2.c0; have z1 := A2.c1; have z2 := A2.f0; have z3 := A2.f1)
  exact bodyPost_ret (v := .tuple #[sv (0, 0), .bool false]) (by simp [results, Try.results20, go_sem, *]) rfl ⟨rfl, Below.put (Below.on (hb _ _ _) hb1) (by omega) _ _⟩
set_option maxHeartbeats 1000000 in
theorem do_emB (op al ah bl bh : Int) (h1 : al ≤ ah) (h2 : bh < bl) (h3 : op ≠ 10) (w : World) : Calls Try.prog 20 #[.int .i64 op, sv (al, ah), sv (bl, bh)] w fun e w' => e = .returned (.tuple #[sv (0, 0), .bool false]) ∧ Below w.heap.size w w' := by
  have HEa : Hid (∀ w, Calls Try.prog 27 #[.agg #[.int .i64 al, .int .i64 ah]] w fun e w' => e = .returned (.bool false) ∧ Below w.heap.size w w') := emF h1
  have HEb : Hid (∀ w, Calls Try.prog 27 #[.agg #[.int .i64 bl, .int .i64 bh]] w fun e w' => e = .returned (.bool true) ∧ Below w.heap.size w w') := emT h2
  have hb := fun (o1 o2 o3 : Obj) => (Below.one (Below.one (Below.one (Below.refl _ w) o1) o2) o3 : Below w.heap.size w _)
  have h3' := beq_no h3
  clear h1 h2 h3
  go_enter Try.func20, Try.ntmps20
  go_wp2_with (first | (go_at_call_of 27 (Value.agg #[Value.int .i64 al, Value.int .i64 ah]); refine (HEa.out _).mono ?_; rintro e w1 ⟨rfl, hb1⟩; have A0 := At.stay (At.more (At.more (At.new w (al, ah)) _) _) hb1; have A1 := At.stay (At.more (At.new1 w (bl, bh) _) _) hb1; have A2 := At.stay (At.new2 w (0, 0) _ _) hb1; have x0 := A0.c0; have x1 := A0.c1; have y0 := A1.c0; have y1 := A1.c1; have z0 := A2.c0; have z1 := A2.c1; have z2 := A2.f0; have z3 := A2.f1) | (go_at_call_of 27 (Value.agg #[Value.int .i64 bl, Value.int .i64 bh]); refine (HEb.out _).mono ?_; rintro e w2 ⟨rfl, hb2⟩; have D0 := A0.stay hb2; have D1 := A1.stay hb2; have D2 := A2.stay hb2; have u0 := D0.c0; have u1 := D0.c1; have v0 := D1.c0; have v1 := D1.c1; have t0 := D2.c0; have t1 := D2.c1; have t2 := D2.f0; have t3 := D2.f1))
  exact bodyPost_ret (v := .tuple #[sv (0, 0), .bool false]) (by simp [results, Try.results20, go_sem, *]) rfl ⟨rfl, Below.put (Below.on (Below.on (hb _ _ _) hb1) hb2) (by omega) _ _⟩
set_option maxHeartbeats 1000000 in
theorem do_other (op al ah bl bh : Int) (h1 : al ≤ ah) (h2 : bl ≤ bh) (o3 : op ≠ 3) (o4 : op ≠ 4) (o5 : op ≠ 5) (o6 : op ≠ 6) (o7 : op ≠ 7) (o8 : op ≠ 8) (o9 : op ≠ 9) (o10 : op ≠ 10) (w : World) : Calls Try.prog 20 #[.int .i64 op, sv (al, ah), sv (bl, bh)] w fun e w' => e = .returned (.tuple #[sv (0, 0), .bool false]) ∧ Below w.heap.size w w' := by
  have HEa : Hid (∀ w, Calls Try.prog 27 #[.agg #[.int .i64 al, .int .i64 ah]] w fun e w' => e = .returned (.bool false) ∧ Below w.heap.size w w') := emF h1
  have HEb : Hid (∀ w, Calls Try.prog 27 #[.agg #[.int .i64 bl, .int .i64 bh]] w fun e w' => e = .returned (.bool false) ∧ Below w.heap.size w w') := emF h2
  have hb := fun (o1 o2 o3 : Obj) => (Below.one (Below.one (Below.one (Below.refl _ w) o1) o2) o3 : Below w.heap.size w _)
  have p3 := beq_no o3
  have p4 := beq_no o4
  have p5 := beq_no o5
  have p6 := beq_no o6
  have p7 := beq_no o7
  have p8 := beq_no o8
  have p9 := beq_no o9
  have p10 := beq_no o10
  have hu : undef = Value.tuple #[] := rfl
  clear h1 h2 o3 o4 o5 o6 o7 o8 o9 o10
  go_enter Try.func20, Try.ntmps20
  go_wp2_with (first | (go_at_call_of 27 (Value.agg #[Value.int .i64 al, Value.int .i64 ah]); refine (HEa.out _).mono ?_; rintro e w1 ⟨rfl, hb1⟩; have A0 := At.stay (At.more (At.more (At.new w (al, ah)) _) _) hb1; have A1 := At.stay (At.more (At.new1 w (bl, bh) _) _) hb1; have A2 := At.stay (At.new2 w (0, 0) _ _) hb1; have x0 := A0.c0; have x1 := A0.c1; have y0 := A1.c0; have y1 := A1.c1; have z0 := A2.c0; have z1 := A2.c1; have z2 := A2.f0; have z3 := A2.f1) | (go_at_call_of 27 (Value.agg #[Value.int .i64 bl, Value.int .i64 bh]); refine (HEb.out _).mono ?_; rintro e w2 ⟨rfl, hb2⟩; have D0 := A0.stay hb2; have D1 := A1.stay hb2; have D2 := A2.stay hb2; have u0 := D0.c0; have u1 := D0.c1; have v0 := D1.c0; have v1 := D1.c1; have t0 := D2.c0; have t1 := D2.c1; have t2 := D2.f0; have t3 := D2.f1))
  exact bodyPost_ret (v := .tuple #[sv (0, 0), .bool false]) (by simp [results, Try.results20, go_sem, *]) rfl ⟨rfl, Below.put (Below.on (Below.on (hb _ _ _) hb1) hb2) (by omega) _ _⟩
end Go.Proofs.Ytbepapbfohfdkaa

/- Spans: sums, differences. -/
namespace Go.Proofs.Ytbepapbfohfdkaa
open Go.RowKit Go.Lib Go.Sort

set_option maxHeartbeats 1000000 in
theorem sums_any (a b : Sp) (ha : a.Ok) (hb' : b.Ok) (w : World) : Calls Try.prog 32 #[sv a, sv b] w fun e w' => e = .returned (sv (sumS a b)) ∧ Below w.heap.size w w' := by
  obtain ⟨al, ah⟩ := a
  obtain ⟨bl, bh⟩ := b
  have hb := fun (o1 o2 o3 : Obj) => (Below.one (Below.one (Below.one (Below.refl _ w) o1) o2) o3 : Below w.heap.size w _)
  have H1 : Hid (∀ w, Calls Try.prog 49 #[.int .i64 al, .int .i64 bl] w fun e w' => e = .returned (.tuple #[.int .i64 (wrap64 (al + bl)), .bool (fitB (al + bl))]) ∧ w' = w) := fun w => sum_any _ _ ha.1 hb'.1 w
  have H2 : Hid (∀ w, Calls Try.prog 49 #[.int .i64 ah, .int .i64 bh] w fun e w' => e = .returned (.tuple #[.int .i64 (wrap64 (ah + bh)), .bool (fitB (ah + bh))]) ∧ w' = w) := fun w => sum_any _ _ ha.2 hb'.2 w
  have HS : Hid (∀ w, Calls Try.prog 50 #[.agg #[.int .i64 al, .int .i64 ah], .agg #[.int .i64 bl, .int .i64 bh], .agg #[.int .i64 (wrap64 (al + bl)), .int .i64 (wrap64 (ah + bh))], .bool (fitB (al + bl) && fitB (ah + bh))] w fun e w' => e = .returned (sv (sumS (al, ah) (bl, bh))) ∧ Below w.heap.size w w') := fun w => settle_any (al, ah) (bl, bh) (wrap64 (al + bl), wrap64 (ah + bh)) _ w
  clear ha hb'
  generalize sumS (al, ah) (bl, bh) = R at *
  obtain ⟨r1, r2⟩ := R
  generalize fitB (al + bl) = F1 at *
  generalize fitB (ah + bh) = F2 at *
  generalize wrap64 (al + bl) = S1 at *
  generalize wrap64 (ah + bh) = S2 at *
  cases F1 <;> simp only [Bool.false_and, Bool.true_and] at HS
  all_goals
    go_enter Try.func32, Try.ntmps32
    go_wp2_with (first | (go_at_call_of 49 (Value.int .i64 al); refine (H1.out _).mono ?_; rintro e w1 ⟨rfl, hw⟩; rw [hw]; clear hw) | (go_at_call_of 49 (Value.int .i64 ah); refine (H2.out _).mono ?_; rintro e w1 ⟨rfl, hw⟩; rw [hw]; clear hw) | (go_at_call 50; refine (HS.out _).mono ?_; rintro e w3 ⟨rfl, hb3⟩; have A2 := At.stay (At.new2 w (0, 0) _ _) hb3; have z0 := A2.c0; have z1 := A2.c1; have z2 := A2.f0; have z3 := A2.f1))
    exact bodyPost_ret (v := sv (r1, r2)) (by simp [results, Try.results32, go_sem, *]) rfl ⟨rfl, ((Below.on (hb _ _ _) hb3).setCell (by simp; omega) _).setCell (by simp; omega) _⟩
set_option maxHeartbeats 1000000 in
theorem differences_any (a b : Sp) (ha : a.Ok) (hb' : b.Ok) (w : World) : Calls Try.prog 33 #[sv a, sv b] w fun e w' => e = .returned (sv (difS a b)) ∧ Below w.heap.size w w' := by
  obtain ⟨al, ah⟩ := a
  obtain ⟨bl, bh⟩ := b
  have hb := fun (o1 o2 o3 : Obj) => (Below.one (Below.one (Below.one (Below.refl _ w) o1) o2) o3 : Below w.heap.size w _)
  have H1 : Hid (∀ w, Calls Try.prog 51 #[.int .i64 al, .int .i64 bh] w fun e w' => e = .returned (.tuple #[.int .i64 (wrap64 (al - bh)), .bool (fitB (al - bh))]) ∧ w' = w) := fun w => difference_any _ _ ha.1 hb'.2 w
  have H2 : Hid (∀ w, Calls Try.prog 51 #[.int .i64 ah, .int .i64 bl] w fun e w' => e = .returned (.tuple #[.int .i64 (wrap64 (ah - bl)), .bool (fitB (ah - bl))]) ∧ w' = w) := fun w => difference_any _ _ ha.2 hb'.1 w
  have HS : Hid (∀ w, Calls Try.prog 50 #[.agg #[.int .i64 al, .int .i64 ah], .agg #[.int .i64 bl, .int .i64 bh], .agg #[.int .i64 (wrap64 (al - bh)), .int .i64 (wrap64 (ah - bl))], .bool (fitB (al - bh) && fitB (ah - bl))] w fun e w' => e = .returned (sv (difS (al, ah) (bl, bh))) ∧ Below w.heap.size w w') := fun w => settle_any (al, ah) (bl, bh) (wrap64 (al - bh), wrap64 (ah - bl)) _ w
  clear ha hb'
  generalize difS (al, ah) (bl, bh) = R at *
  obtain ⟨r1, r2⟩ := R
  generalize fitB (al - bh) = F1 at *
  generalize fitB (ah - bl) = F2 at *
  generalize wrap64 (al - bh) = S1 at *
  generalize wrap64 (ah - bl) = S2 at *
  cases F1 <;> simp only [Bool.false_and, Bool.true_and] at HS
  all_goals
    go_enter Try.func33, Try.ntmps33
    go_wp2_with (first | (go_at_call_of 51 (Value.int .i64 al); refine (H1.out _).mono ?_; rintro e w1 ⟨rfl, hw⟩; rw [hw]; clear hw) | (go_at_call_of 51 (Value.int .i64 ah); refine (H2.out _).mono ?_; rintro e w1 ⟨rfl, hw⟩; rw [hw]; clear hw) | (go_at_call 50; refine (HS.out _).mono ?_; rintro e w3 ⟨rfl, hb3⟩; have A2 := At.stay (At.new2 w (0, 0) _ _) hb3; have z0 := A2.c0; have z1 := A2.c1; have z2 := A2.f0; have z3 := A2.f1))
    exact bodyPost_ret (v := sv (r1, r2)) (by simp [results, Try.results33, go_sem, *]) rfl ⟨rfl, ((Below.on (hb _ _ _) hb3).setCell (by simp; omega) _).setCell (by simp; omega) _⟩
end Go.Proofs.Ytbepapbfohfdkaa

/- Spans: products of two numbers, where remainders are. -/
namespace Go.Proofs.Ytbepapbfohfdkaa
open Go.RowKit Go.Lib Go.Sort

theorem maskN (a : Nat) (ha : a < 18446744073709551616) : bits .and .u64 (a : Int) 4294967295 = ((a % 4294967296 : Nat) : Int) := by
  have h := bits_and_u64_nat a 4294967295 ha (by omega)
  have e : a &&& 4294967295 = a % 4294967296 := Nat.and_two_pow_sub_one_eq_mod a 32
  rw [e] at h
  exact h
theorem divN (a : Nat) : (a : Int) / 4294967296 = ((a / 4294967296 : Nat) : Int) := by omega
theorem mulN (a b : Nat) : (a : Int) * (b : Int) = ((a * b : Nat) : Int) := (Int.natCast_mul a b).symm
theorem addN (a b : Nat) : (a : Int) + (b : Int) = ((a + b : Nat) : Int) := (Int.natCast_add a b).symm
theorem wrapN (a : Nat) (ha : a < 18446744073709551616) : IntKind.u64.wrap (a : Int) = (a : Int) := by rw [IntKind.wrap_u64]; omega
theorem wrapM (a : Nat) : IntKind.u64.wrap (a : Int) = ((a % 18446744073709551616 : Nat) : Int) := by rw [IntKind.wrap_u64]; omega

set_option maxHeartbeats 1000000 in
theorem mul64_any (x y : Nat) (hx : x < 18446744073709551616) (hy : y < 18446744073709551616) (w : World) :
    Calls Try.prog 55 #[.int .u64 x, .int .u64 y] w fun e w' => e = .returned (.tuple #[.int .u64 ((x * y / 18446744073709551616 : Nat) : Int), .int .u64 ((x * y % 18446744073709551616 : Nat) : Int)]) ∧ w' = w := by
  obtain ⟨bd, bt, bw, hhi⟩ := Lib.mul64_hi x y hx hy
  have ba := Lib.half_mul_le (a := x / 4294967296) (b := y / 4294967296) (by omega) (by omega)
  have bb := Lib.half_mul_le (a := x / 4294967296) (b := y % 4294967296) (by omega) (by omega)
  have bc := Lib.half_mul_le (a := x % 4294967296) (b := y / 4294967296) (by omega) (by omega)
  have ba' : x / 4294967296 * (y / 4294967296) < 18446744073709551616 := by omega
  have bb' : x / 4294967296 * (y % 4294967296) < 18446744073709551616 := by omega
  have bc' : x % 4294967296 * (y / 4294967296) < 18446744073709551616 := by omega
  have bh1 : x / 4294967296 * (y / 4294967296) + (x / 4294967296 * (y % 4294967296) + x % 4294967296 * (y % 4294967296) / 4294967296) / 4294967296 < 18446744073709551616 := by omega
  have bh : x / 4294967296 * (y / 4294967296) + (x / 4294967296 * (y % 4294967296) + x % 4294967296 * (y % 4294967296) / 4294967296) / 4294967296 + ((x / 4294967296 * (y % 4294967296) + x % 4294967296 * (y % 4294967296) / 4294967296) % 4294967296 + x % 4294967296 * (y / 4294967296)) / 4294967296 < 18446744073709551616 := by omega
  go_enter Try.func55, Try.ntmps55
  go_wp2
  simp only [maskN x hx, maskN y hy, divN, mulN, addN, wrapN _ bd, wrapN _ bb', wrapN _ bt, maskN _ bt, wrapN _ bc', wrapN _ bw, wrapN _ ba', wrapN _ bh1, wrapN _ bh, wrapM (x * y)]
  rw [hhi]
  go_ret2
  exact ⟨rfl, rfl⟩

theorem dis_nm {n : Int} (h : Nm n) : 0 ≤ dis n ∧ dis n ≤ 9223372036854775808 := by unfold dis Nm at *; split <;> omega
theorem dis_mul (x y : Int) : dis x * dis y = dis (x * y) := by
  unfold dis
  rcases Int.le_total 0 x with hx | hx <;> rcases Int.le_total 0 y with hy | hy
  · have := Int.mul_nonneg hx hy
    rw [if_neg (by omega), if_neg (by omega), if_neg (by omega)]
  · have := Int.mul_nonpos_of_nonneg_of_nonpos hx hy
    rw [if_neg (by omega)]
    by_cases h : x * y < 0
    · rw [if_pos h]
      by_cases hy0 : y < 0
      · rw [if_pos hy0, Int.mul_neg]
      · have : y = 0 := by omega
        subst this; simp
    · rw [if_neg h]
      have h0 : x * y = 0 := by omega
      by_cases hy0 : y < 0
      · rw [if_pos hy0, Int.mul_neg, h0]; rfl
      · rw [if_neg hy0]
  · have := Int.mul_nonpos_of_nonpos_of_nonneg hx hy
    rw [if_neg (show ¬ y < 0 by omega)]
    by_cases h : x * y < 0
    · rw [if_pos h]
      by_cases hy0 : x < 0
      · rw [if_pos hy0, Int.neg_mul]
      · have : x = 0 := by omega
        subst this; simp
    · rw [if_neg h]
      have h0 : x * y = 0 := by omega
      by_cases hy0 : x < 0
      · rw [if_pos hy0, Int.neg_mul, h0]; rfl
      · rw [if_neg hy0]
  · have h1 := Int.mul_nonneg (show 0 ≤ -x by omega) (show 0 ≤ -y by omega)
    rw [Int.neg_mul_neg] at h1
    rw [if_neg (show ¬ x * y < 0 by omega)]
    by_cases hx0 : x < 0 <;> by_cases hy0 : y < 0
    · rw [if_pos hx0, if_pos hy0, Int.neg_mul_neg]
    · have : y = 0 := by omega
      subst this; simp
    · have : x = 0 := by omega
      subst this; simp
    · have : x = 0 := by omega
      subst this; simp
theorem mul_sign {x y : Int} : (¬ (x < 0 ↔ y < 0) → x * y ≤ 0) ∧ ((x < 0 ↔ y < 0) → 0 ≤ x * y) := by
  refine ⟨fun h => ?_, fun h => ?_⟩
  · by_cases hx : x < 0
    · exact Int.mul_nonpos_of_nonpos_of_nonneg (by omega) (by omega)
    · exact Int.mul_nonpos_of_nonneg_of_nonpos (by omega) (by omega)
  · by_cases hx : x < 0
    · have := Int.mul_nonneg (show 0 ≤ -x by omega) (show 0 ≤ -y by omega)
      rwa [Int.neg_mul_neg] at this
    · exact Int.mul_nonneg (by omega) (by omega)
/-- Is a product a number? Asked of its words. -/
theorem fit_words (x y : Int) (p q : Nat) (hp : dis x = p) (hq : dis y = q) (room : Int) (hr : room = if (decide (x < 0) != decide (y < 0)) = true then 9223372036854775808 else 9223372036854775807) :
    fitB (x * y) = if p * q / 18446744073709551616 = 0 then decide (((p * q % 18446744073709551616 : Nat) : Int) ≤ room) else false := by
  have hm := dis_mul x y
  rw [hp, hq] at hm
  have hs := mul_sign (x := x) (y := y)
  have e : ((p * q : Nat) : Int) = dis (x * y) := by rw [← hm]; simp
  generalize p * q = n at *
  generalize x * y = m at *
  unfold fitB
  apply Bool.eq_iff_iff.2
  rw [decide_eq_true_iff]
  unfold Nm dis at *
  by_cases hxy : x < 0 ↔ y < 0
  · have hs2 := hs.2 hxy
    rw [if_neg (by omega)] at e
    have : (decide (x < 0) != decide (y < 0)) = false := by simp [hxy]
    rw [this] at hr
    simp at hr
    split
    · rw [decide_eq_true_iff]; omega
    · simp; omega
  · have hs1 := hs.1 hxy
    have : (decide (x < 0) != decide (y < 0)) = true := by
      rw [bne_iff_ne]
      intro h
      exact hxy (decide_eq_decide.1 h)
    rw [this] at hr
    simp at hr
    split
    · rw [decide_eq_true_iff]; split at e <;> omega
    · split at e <;> simp <;> omega
set_option maxHeartbeats 1000000 in
theorem product_any (x y : Int) (hx : Nm x) (hy : Nm y) (w : World) : Calls Try.prog 52 #[.int .i64 x, .int .i64 y] w fun e w' => e = .returned (.tuple #[.int .i64 (wrap64 (x * y)), .bool (fitB (x * y))]) ∧ w' = w := by
  obtain ⟨d1, d2⟩ := dis_nm hx
  obtain ⟨d3, d4⟩ := dis_nm hy
  obtain ⟨p, hp⟩ := Int.eq_ofNat_of_zero_le d1
  obtain ⟨q, hq⟩ := Int.eq_ofNat_of_zero_le d3
  have HD1 : Hid (∀ w, Calls Try.prog 53 #[.int .i64 x] w fun e w' => e = .returned (.int .u64 p) ∧ w' = w) := fun w => by have := distance_any x hx w; rwa [hp] at this
  have HD2 : Hid (∀ w, Calls Try.prog 53 #[.int .i64 y] w fun e w' => e = .returned (.int .u64 q) ∧ w' = w) := fun w => by have := distance_any y hy w; rwa [hq] at this
  have HM : Hid (∀ w, Calls Try.prog 55 #[.int .u64 p, .int .u64 q] w fun e w' => e = .returned (.tuple #[.int .u64 ((p * q / 18446744073709551616 : Nat) : Int), .int .u64 ((p * q % 18446744073709551616 : Nat) : Int)]) ∧ w' = w) := mul64_any p q (by omega) (by omega)
  have HF := fun room hr => fit_words x y p q hp hq room hr
  by_cases cx : x < 0 <;> by_cases cy : y < 0
  · have HF' := HF 9223372036854775807 (by simp [cx, cy])
    by_cases hz : p * q / 18446744073709551616 = 0
    · rw [if_pos hz] at HF'
      rw [HF']
      rw [hz] at HM
      clear HF HF' hz hp hq d1 d2 d3 d4 hx hy
      generalize p * q % 18446744073709551616 = lo at *
      go_enter Try.func52, Try.ntmps52
      go_wp2_with (first | (go_at_call_of 53 (Value.int .i64 x); refine (HD1.out _).mono ?_; rintro e w1 ⟨rfl, hw⟩; rw [hw]; clear hw) | (go_at_call_of 53 (Value.int .i64 y); refine (HD2.out _).mono ?_; rintro e w1 ⟨rfl, hw⟩; rw [hw]; clear hw) | (go_at_call 55; refine (HM.out _).mono ?_; rintro e w1 ⟨rfl, hw⟩; rw [hw]; clear hw))
      go_ret2
      exact ⟨rfl, rfl⟩
    · rw [if_neg hz] at HF'
      rw [HF']
      have hz' := beq_no (show ((p * q / 18446744073709551616 : Nat) : Int) ≠ 0 by omega)
      clear HF HF' hz hp hq d1 d2 d3 d4 hx hy
      generalize p * q / 18446744073709551616 = hi at *
      generalize p * q % 18446744073709551616 = lo at *
      go_enter Try.func52, Try.ntmps52
      go_wp2_with (first | (go_at_call_of 53 (Value.int .i64 x); refine (HD1.out _).mono ?_; rintro e w1 ⟨rfl, hw⟩; rw [hw]; clear hw) | (go_at_call_of 53 (Value.int .i64 y); refine (HD2.out _).mono ?_; rintro e w1 ⟨rfl, hw⟩; rw [hw]; clear hw) | (go_at_call 55; refine (HM.out _).mono ?_; rintro e w1 ⟨rfl, hw⟩; rw [hw]; clear hw))
      go_ret2
      exact ⟨rfl, rfl⟩
  · have HF' := HF 9223372036854775808 (by simp [cx, cy])
    by_cases hz : p * q / 18446744073709551616 = 0
    · rw [if_pos hz] at HF'
      rw [HF']
      rw [hz] at HM
      clear HF HF' hz hp hq d1 d2 d3 d4 hx hy
      generalize p * q % 18446744073709551616 = lo at *
      go_enter Try.func52, Try.ntmps52
      go_wp2_with (first | (go_at_call_of 53 (Value.int .i64 x); refine (HD1.out _).mono ?_; rintro e w1 ⟨rfl, hw⟩; rw [hw]; clear hw) | (go_at_call_of 53 (Value.int .i64 y); refine (HD2.out _).mono ?_; rintro e w1 ⟨rfl, hw⟩; rw [hw]; clear hw) | (go_at_call 55; refine (HM.out _).mono ?_; rintro e w1 ⟨rfl, hw⟩; rw [hw]; clear hw))
      go_ret2
      exact ⟨rfl, rfl⟩
    · rw [if_neg hz] at HF'
      rw [HF']
      have hz' := beq_no (show ((p * q / 18446744073709551616 : Nat) : Int) ≠ 0 by omega)
      clear HF HF' hz hp hq d1 d2 d3 d4 hx hy
      generalize p * q / 18446744073709551616 = hi at *
      generalize p * q % 18446744073709551616 = lo at *
      go_enter Try.func52, Try.ntmps52
      go_wp2_with (first | (go_at_call_of 53 (Value.int .i64 x); refine (HD1.out _).mono ?_; rintro e w1 ⟨rfl, hw⟩; rw [hw]; clear hw) | (go_at_call_of 53 (Value.int .i64 y); refine (HD2.out _).mono ?_; rintro e w1 ⟨rfl, hw⟩; rw [hw]; clear hw) | (go_at_call 55; refine (HM.out _).mono ?_; rintro e w1 ⟨rfl, hw⟩; rw [hw]; clear hw))
      go_ret2
      exact ⟨rfl, rfl⟩
  · have HF' := HF 9223372036854775808 (by simp [cx, cy])
    by_cases hz : p * q / 18446744073709551616 = 0
    · rw [if_pos hz] at HF'
      rw [HF']
      rw [hz] at HM
      clear HF HF' hz hp hq d1 d2 d3 d4 hx hy
      generalize p * q % 18446744073709551616 = lo at *
      go_enter Try.func52, Try.ntmps52
      go_wp2_with (first | (go_at_call_of 53 (Value.int .i64 x); refine (HD1.out _).mono ?_; rintro e w1 ⟨rfl, hw⟩; rw [hw]; clear hw) | (go_at_call_of 53 (Value.int .i64 y); refine (HD2.out _).mono ?_; rintro e w1 ⟨rfl, hw⟩; rw [hw]; clear hw) | (go_at_call 55; refine (HM.out _).mono ?_; rintro e w1 ⟨rfl, hw⟩; rw [hw]; clear hw))
      go_ret2
      exact ⟨rfl, rfl⟩
    · rw [if_neg hz] at HF'
      rw [HF']
      have hz' := beq_no (show ((p * q / 18446744073709551616 : Nat) : Int) ≠ 0 by omega)
      clear HF HF' hz hp hq d1 d2 d3 d4 hx hy
      generalize p * q / 18446744073709551616 = hi at *
      generalize p * q % 18446744073709551616 = lo at *
      go_enter Try.func52, Try.ntmps52
      go_wp2_with (first | (go_at_call_of 53 (Value.int .i64 x); refine (HD1.out _).mono ?_; rintro e w1 ⟨rfl, hw⟩; rw [hw]; clear hw) | (go_at_call_of 53 (Value.int .i64 y); refine (HD2.out _).mono ?_; rintro e w1 ⟨rfl, hw⟩; rw [hw]; clear hw) | (go_at_call 55; refine (HM.out _).mono ?_; rintro e w1 ⟨rfl, hw⟩; rw [hw]; clear hw))
      go_ret2
      exact ⟨rfl, rfl⟩
  · have HF' := HF 9223372036854775807 (by simp [cx, cy])
    by_cases hz : p * q / 18446744073709551616 = 0
    · rw [if_pos hz] at HF'
      rw [HF']
      rw [hz] at HM
      clear HF HF' hz hp hq d1 d2 d3 d4 hx hy
      generalize p * q % 18446744073709551616 = lo at *
      go_enter Try.func52, Try.ntmps52
      go_wp2_with (first | (go_at_call_of 53 (Value.int .i64 x); refine (HD1.out _).mono ?_; rintro e w1 ⟨rfl, hw⟩; rw [hw]; clear hw) | (go_at_call_of 53 (Value.int .i64 y); refine (HD2.out _).mono ?_; rintro e w1 ⟨rfl, hw⟩; rw [hw]; clear hw) | (go_at_call 55; refine (HM.out _).mono ?_; rintro e w1 ⟨rfl, hw⟩; rw [hw]; clear hw))
      go_ret2
      exact ⟨rfl, rfl⟩
    · rw [if_neg hz] at HF'
      rw [HF']
      have hz' := beq_no (show ((p * q / 18446744073709551616 : Nat) : Int) ≠ 0 by omega)
      clear HF HF' hz hp hq d1 d2 d3 d4 hx hy
      generalize p * q / 18446744073709551616 = hi at *
      generalize p * q % 18446744073709551616 = lo at *
      go_enter Try.func52, Try.ntmps52
      go_wp2_with (first | (go_at_call_of 53 (Value.int .i64 x); refine (HD1.out _).mono ?_; rintro e w1 ⟨rfl, hw⟩; rw [hw]; clear hw) | (go_at_call_of 53 (Value.int .i64 y); refine (HD2.out _).mono ?_; rintro e w1 ⟨rfl, hw⟩; rw [hw]; clear hw) | (go_at_call 55; refine (HM.out _).mono ?_; rintro e w1 ⟨rfl, hw⟩; rw [hw]; clear hw))
      go_ret2
      exact ⟨rfl, rfl⟩
end Go.Proofs.Ytbepapbfohfdkaa

/- Spans: where quotients are. -/
namespace Go.Proofs.Ytbepapbfohfdkaa
open Go.RowKit Go.Lib Go.Sort

/-- The divisors that are looked at, in their order; the quotients by the first ones of them. -/
def dvs (b : Sp) : List Int := [b.1, -1, 1, b.2]
def quoK (a b : Sp) (k : Nat) : List Int := quoL a (((dvs b).take k).filter fun d => d ≠ 0 ∧ b.1 ≤ d ∧ d ≤ b.2)
theorem quoK_all (a b : Sp) : quoK a b 4 = quoL a (cand b) := rfl
theorem quoK_succ {a b : Sp} {k : Nat} {d : Int} (h : (dvs b)[k]? = some d) : quoK a b (k + 1) = if d ≠ 0 ∧ b.1 ≤ d ∧ d ≤ b.2 then quoK a b k ++ [a.1.tdiv d, a.2.tdiv d] else quoK a b k := by
  unfold quoK
  rw [List.take_add_one, h]
  simp only [Option.toList_some, List.filter_append]
  by_cases hd : d ≠ 0 ∧ b.1 ≤ d ∧ d ≤ b.2
  · rw [if_pos hd, List.filter_cons, if_pos (by simpa using hd)]
    simp [quoL]
  · rw [if_neg hd, List.filter_cons, if_neg (by simpa using hd)]
    simp
theorem ix4 {bl bh d : Int} {k : Nat} (hlt : k < 4) (hd : (dvs (bl, bh))[k]? = some d) (w : World) : (Instr.index 52 (.agg #[.int .i64 bl, .int .i64 (-1), .int .i64 1, .int .i64 bh]) (.int .i64 k)).run Try.prog w = .ok (.int .i64 d) w := by
  have hz := Try.sizeOf2
  have ha := Try.isAgg2
  match k, hlt, hd with
  | 0, _, hd => simp [dvs] at hd; simp [Instr.index, asIntOf, run_underlying Try.underlying52, go_sem, *]
  | 1, _, hd => simp [dvs] at hd; simp [Instr.index, asIntOf, run_underlying Try.underlying52, go_sem, *]
  | 2, _, hd => simp [dvs] at hd; simp [Instr.index, asIntOf, run_underlying Try.underlying52, go_sem, *]
  | 3, _, hd => simp [dvs] at hd; simp [Instr.index, asIntOf, run_underlying Try.underlying52, go_sem, *]
theorem hasV (l h n : Int) (w : World) : Calls Try.prog 14 #[.agg #[.int .i64 l, .int .i64 h], .int .i64 n] w fun e w' => e = .returned (.bool (decide (l ≤ n ∧ n ≤ h))) ∧ Below w.heap.size w w' := has_any (l, h) n w
theorem nthV (w : World) : Calls Try.prog 48 #[] w fun e w' => e = .returned (.agg #[.int .i64 1, .int .i64 0]) ∧ Below w.heap.size w w' := nothing_any w
theorem hasT {l h n : Int} (H : l ≤ n ∧ n ≤ h) (w : World) : Calls Try.prog 14 #[.agg #[.int .i64 l, .int .i64 h], .int .i64 n] w fun e w' => e = .returned (.bool true) ∧ Below w.heap.size w w' := by
  have := hasV l h n w
  rwa [decide_eq_true H] at this
theorem hasF {l h n : Int} (H : ¬ (l ≤ n ∧ n ≤ h)) (w : World) : Calls Try.prog 14 #[.agg #[.int .i64 l, .int .i64 h], .int .i64 n] w fun e w' => e = .returned (.bool false) ∧ Below w.heap.size w w' := by
  have := hasV l h n w
  rwa [decide_eq_false H] at this
set_option maxHeartbeats 2000000 in
theorem quotients_all (al ah bl bh : Int) (h1 : al ≤ -9223372036854775808 ∧ -9223372036854775808 ≤ ah) (h2 : bl ≤ -1 ∧ -1 ≤ bh) (w : World) : Calls Try.prog 31 #[sv (al, ah), sv (bl, bh)] w fun e w' => e = .returned (sv allS) ∧ Below w.heap.size w w' := by
  have H1 : Hid (∀ w, Calls Try.prog 14 #[.agg #[.int .i64 al, .int .i64 ah], .int .i64 (-9223372036854775808)] w fun e w' => e = .returned (.bool true) ∧ Below w.heap.size w w') := hasT h1
  have H2 : Hid (∀ w, Calls Try.prog 14 #[.agg #[.int .i64 bl, .int .i64 bh], .int .i64 (-1)] w fun e w' => e = .returned (.bool true) ∧ Below w.heap.size w w') := hasT h2
  have HA := Hid.mk' allV
  have hb := fun (o1 o2 o3 : Obj) => (Below.one (Below.one (Below.one (Below.refl _ w) o1) o2) o3 : Below w.heap.size w _)
  clear h1 h2
  go_enter Try.func31, Try.ntmps31
  go_wp2_with (first | (go_at_call_of 14 (Value.agg #[Value.int .i64 al, Value.int .i64 ah]); refine (H1.out _).mono ?_; rintro e w1 ⟨rfl, hb1⟩; have A0 := At.stay (At.more (At.more (At.new w (al, ah)) _) _) hb1; have A1 := At.stay (At.more (At.new1 w (bl, bh) _) _) hb1; have A2 := At.stay (At.new2 w (0, 0) _ _) hb1; have y0 := A1.c0; have y1 := A1.c1) | (go_at_call_of 14 (Value.agg #[Value.int .i64 bl, Value.int .i64 bh]); refine (H2.out _).mono ?_; rintro e w2 ⟨rfl, hb2⟩) | (go_at_call 12; refine (HA.out _).mono ?_; rintro e w3 ⟨rfl, hb3⟩; have D2 := (A2.stay hb2).stay hb3; have z0 := D2.c0; have z1 := D2.c1; have z2 := D2.f0; have z3 := D2.f1))
  exact bodyPost_ret (v := sv allS) (by simp [results, Try.results31, go_sem, allS, *]) rfl ⟨rfl, ((Below.on (Below.on (Below.on (hb _ _ _) hb1) hb2) hb3).setCell (by simp; omega) _).setCell (by simp; omega) _⟩
end Go.Proofs.Ytbepapbfohfdkaa
