/- Plain: spans of numbers, and what operations make of them. Plain: products, quotients and rests lie where the corners say. Plain: of spans that have more no less is told. Plain: how often a span that is widened changes. -/
import Derived.WalkKit
import Derived.Laws.BitsLemmas
namespace Go.Proofs.YtfmkjdfidenfkaaDoor.S8
open Go.RowKit

/-- A span: its least number and its greatest one. -/
abbrev Sp := Int × Int
def Nm (n : Int) : Prop := -9223372036854775808 ≤ n ∧ n ≤ 9223372036854775807
instance (n : Int) : Decidable (Nm n) := by unfold Nm; infer_instance
def Sp.Ok (a : Sp) : Prop := Nm a.1 ∧ Nm a.2
/-- Brought round. -/
abbrev wr (n : Int) : Int := wrap64 n
theorem wr_eq (n : Int) : wr n = (n + 9223372036854775808) % 18446744073709551616 - 9223372036854775808 := by unfold wr wrap64; rfl
theorem wr_nm (n : Int) : Nm (wr n) := by rw [wr_eq]; unfold Nm; omega
theorem wr_id {n : Int} (h : Nm n) : wr n = n := by rw [wr_eq]; unfold Nm at h; omega
theorem wr_off (n : Int) : ∃ k : Int, wr n = n + k * 18446744073709551616 := ⟨-((n + 9223372036854775808) / 18446744073709551616), by rw [wr_eq]; omega⟩

def allS : Sp := (-9223372036854775808, 9223372036854775807)
def emB (a : Sp) : Bool := decide (a.2 < a.1)
def sgB (a : Sp) : Bool := decide (a.1 = a.2)
def hasB (a : Sp) (n : Int) : Bool := decide (a.1 ≤ n ∧ n ≤ a.2)
def joinS (a b : Sp) : Sp := if a.2 < a.1 then b else if b.2 < b.1 then a else (min a.1 b.1, max a.2 b.2)
def meetB (a b : Sp) : Bool := decide (max a.1 b.1 ≤ min a.2 b.2)
def meetS (a b : Sp) : Sp := if max a.1 b.1 ≤ min a.2 b.2 then (max a.1 b.1, min a.2 b.2) else (0, 0)
def belB (a b : Sp) : Bool := decide (a.1 ≤ a.2 ∧ b.1 ≤ b.2 ∧ a.1 < b.2)
def belA (a b : Sp) : Sp := if a.1 ≤ a.2 ∧ b.1 ≤ b.2 ∧ a.1 < b.2 then (a.1, min a.2 (b.2 - 1)) else (0, 0)
def belC (a b : Sp) : Sp := if a.1 ≤ a.2 ∧ b.1 ≤ b.2 ∧ a.1 < b.2 then (max b.1 (a.1 + 1), b.2) else (0, 0)
def lenN (a b : Sp) : Int := if b.2 ≤ a.1 then 0 else b.2 - a.1
def flo (n : Int) : List Int → Int → Int := fun ts o => ts.foldl (fun o t => if t ≤ n then max o t else o) o
def roo (n : Int) : List Int → Int → Int := fun ts o => ts.foldl (fun o t => if n ≤ t then min o t else o) o
def floorN (ts : List Int) (n : Int) : Int := flo n ts (-9223372036854775808)
def roofN (ts : List Int) (n : Int) : Int := roo n ts 9223372036854775807
def widS (o n : Sp) (ts : List Int) : Sp :=
  if o.2 < o.1 then n else (if (joinS o n).1 = o.1 then (joinS o n).1 else floorN ts (joinS o n).1, if (joinS o n).2 = o.2 then (joinS o n).2 else roofN ts (joinS o n).2)

/-- The least span that has a list's numbers. -/
def hull (l : List Int) : Sp := l.foldl (fun o v => joinS o (v, v)) (1, 0)
def tru (yes no : Bool) : Sp := if yes then (1, 1) else if no then (0, 0) else (0, 1)
def setS (a b o : Sp) (fits : Bool) : Sp := if fits || (sgB a && sgB b) then o else allS
def fitB (n : Int) : Bool := decide (Nm n)
def sumS (a b : Sp) : Sp := setS a b (wr (a.1 + b.1), wr (a.2 + b.2)) (fitB (a.1 + b.1) && fitB (a.2 + b.2))
def difS (a b : Sp) : Sp := setS a b (wr (a.1 - b.2), wr (a.2 - b.1)) (fitB (a.1 - b.2) && fitB (a.2 - b.1))
def corners (a b : Sp) : List Int := [a.1 * b.1, a.1 * b.2, a.2 * b.1, a.2 * b.2]
def proS (a b : Sp) : Sp := setS a b (hull ((corners a b).map wr)) ((corners a b).all fitB)
/-- The divisors that may be farthest. -/
def cand (b : Sp) : List Int := [b.1, -1, 1, b.2].filter fun d => d ≠ 0 ∧ b.1 ≤ d ∧ d ≤ b.2
def quoL (a : Sp) (l : List Int) : List Int := l.flatMap fun d => [a.1.tdiv d, a.2.tdiv d]
def quoS (a b : Sp) : Sp := if hasB a (-9223372036854775808) && hasB b (-1) then allS else hull (quoL a (cand b))
def dis (n : Int) : Int := if n < 0 then -n else n
def most (b : Sp) : Int := max (dis b.1) (dis b.2) - 1
def remS (a b : Sp) : Sp := (min 0 (max a.1 (-most b)), max 0 (min a.2 (most b)))
/-- Where the value of an operation is. -/
def doS (op : Int) (a b : Sp) : Option Sp :=
  if emB a || (emB b && !decide (op = 10)) then none
  else if op = 3 then some (sumS a b)
  else if op = 4 then some (difS a b)
  else if op = 5 then some (proS a b)
  else if op = 6 then (if b = (0, 0) then none else some (quoS a b))
  else if op = 7 then (if b = (0, 0) then none else some (remS a b))
  else if op = 8 then some (tru (decide (a.2 < b.1)) (decide (b.2 ≤ a.1)))
  else if op = 9 then some (tru (sgB a && decide (a = b)) (!meetB a b))
  else if op = 10 then some (tru (decide (a = (0, 0))) (!hasB a 0))
  else none
/-- What the machine makes of two numbers. -/
def opN (op x y : Int) : Option Int :=
  if op = 3 then some (wr (x + y)) else if op = 4 then some (wr (x - y)) else if op = 5 then some (wr (x * y))
  else if op = 6 then (if y = 0 then none else some (wr (x.tdiv y))) else if op = 7 then (if y = 0 then none else some (x.tmod y))
  else if op = 8 then some (if x < y then 1 else 0) else if op = 9 then some (if x = y then 1 else 0) else if op = 10 then some (if x = 0 then 1 else 0) else none

theorem join_pt (a : Sp) (v : Int) (h : a.1 ≤ a.2) : joinS a (v, v) = (min a.1 v, max a.2 v) := by
  unfold joinS; rw [if_neg (by omega), if_neg (by simp)]
theorem join_none (v : Int) : joinS (1, 0) (v, v) = (v, v) := by unfold joinS; rw [if_pos (by decide)]
theorem hullF : ∀ (l : List Int) (s : Sp), s.1 ≤ s.2 → let r := l.foldl (fun o v => joinS o (v, v)) s
    r.1 ≤ s.1 ∧ s.2 ≤ r.2 ∧ (r.1 = s.1 ∨ r.1 ∈ l) ∧ (r.2 = s.2 ∨ r.2 ∈ l) ∧ ∀ v ∈ l, r.1 ≤ v ∧ v ≤ r.2
  | [], s, h => by simp
  | x :: l, s, h => by
    have e := join_pt s x h
    obtain ⟨h1, h2, h3, h4, h5⟩ := hullF l (min s.1 x, max s.2 x) (by simp; omega)
    simp only [List.foldl_cons, e] at *
    refine ⟨by omega, by omega, ?_, ?_, fun v hv => ?_⟩
    · rcases h3 with h3 | h3
      · rcases (show min s.1 x = s.1 ∨ min s.1 x = x by omega) with q | q
        · exact .inl (by rw [h3, q])
        · exact .inr (by rw [h3, q]; simp)
      · exact .inr (by simp [h3])
    · rcases h4 with h4 | h4
      · rcases (show max s.2 x = s.2 ∨ max s.2 x = x by omega) with q | q
        · exact .inl (by rw [h4, q])
        · exact .inr (by rw [h4, q]; simp)
      · exact .inr (by simp [h4])
    · rcases List.mem_cons.1 hv with rfl | hv
      · omega
      · exact h5 v hv
theorem hull_has (l : List Int) (hl : l ≠ []) : (hull l).1 ∈ l ∧ (hull l).2 ∈ l ∧ ∀ v ∈ l, (hull l).1 ≤ v ∧ v ≤ (hull l).2 := by
  cases l with
  | nil => exact absurd rfl hl
  | cons x l =>
    obtain ⟨h1, h2, h3, h4, h5⟩ := hullF l (x, x) (Int.le_refl _)
    unfold hull
    rw [List.foldl_cons, join_none]
    refine ⟨?_, ?_, fun v hv => ?_⟩
    · rcases h3 with h3 | h3
      · rw [h3]; simp
      · simp [h3]
    · rcases h4 with h4 | h4
      · rw [h4]; simp
      · simp [h4]
    · rcases List.mem_cons.1 hv with rfl | hv
      · exact ⟨h1, h2⟩
      · exact h5 v hv
theorem hull_one {l : List Int} {s : Sp} (h1 : s.1 ∈ l) (h2 : s.2 ∈ l) (h3 : ∀ v ∈ l, s.1 ≤ v ∧ v ≤ s.2) : hull l = s := by
  obtain ⟨g1, g2, g3⟩ := hull_has l (List.ne_nil_of_mem h1)
  have a1 := g3 _ h1; have a2 := g3 _ h2; have a3 := h3 _ g1; have a4 := h3 _ g2
  exact Prod.ext (by omega) (by omega)
theorem hull_le (l : List Int) (hl : l ≠ []) : (hull l).1 ≤ (hull l).2 := by
  obtain ⟨g1, g2, g3⟩ := hull_has l hl
  exact (g3 _ g1).2
theorem hull_snoc (l : List Int) (v : Int) : joinS (hull l) (v, v) = hull (l ++ [v]) := by unfold hull; rw [List.foldl_append]; rfl
theorem hull_two (l : List Int) (x y : Int) : joinS (hull l) (joinS (x, x) (y, y)) = hull (l ++ [x, y]) := by
  have e : hull (l ++ [x, y]) = joinS (joinS (hull l) (x, x)) (y, y) := by unfold hull; rw [List.foldl_append]; rfl
  rw [e]
  cases l with
  | nil => show joinS (1, 0) _ = joinS (joinS (1, 0) _) _; rw [join_none]; unfold joinS; rw [if_pos (by decide)]
  | cons z l =>
    have h := hull_le (z :: l) (by simp)
    rw [join_pt _ x h, join_pt (x, x) y (Int.le_refl _), join_pt _ y (by simp; omega)]
    unfold joinS
    rw [if_neg (by omega), if_neg (by simp; omega)]
    exact Prod.ext (by simp <;> omega) (by simp <;> omega)
theorem hull_same {l m : List Int} (h : ∀ v, v ∈ l ↔ v ∈ m) : hull l = hull m := by
  cases m with
  | nil =>
    cases l with
    | nil => rfl
    | cons x l => have := (h x).1 (by simp); cases this
  | cons x m =>
    obtain ⟨g1, g2, g3⟩ := hull_has (x :: m) (by simp)
    exact hull_one ((h _).2 g1) ((h _).2 g2) fun v hv => g3 v ((h v).1 hv)
theorem hull_pair {x y : Int} (h : x ≤ y) : hull [x, y] = (x, y) := hull_one (by simp) (by simp) (fun v hv => by simp at hv ⊢; omega)
theorem hull_flat (x : Int) : hull [x, x, x, x] = (x, x) := hull_one (by simp) (by simp) (fun v hv => by simp at hv ⊢; omega)
end Go.Proofs.YtfmkjdfidenfkaaDoor.S8
namespace Go.Proofs.YtfmkjdfidenfkaaDoor.S8
open Go.RowKit

theorem lin {a1 a2 x : Int} (y : Int) (h1 : a1 ≤ x) (h2 : x ≤ a2) : (a1 * y ≤ x * y ∧ x * y ≤ a2 * y) ∨ (a2 * y ≤ x * y ∧ x * y ≤ a1 * y) := by
  rcases Int.le_total 0 y with h | h
  · exact .inl ⟨Int.mul_le_mul_of_nonneg_right h1 h, Int.mul_le_mul_of_nonneg_right h2 h⟩
  · exact .inr ⟨Int.mul_le_mul_of_nonpos_right h2 h, Int.mul_le_mul_of_nonpos_right h1 h⟩
theorem mul_in {a b : Sp} {x y : Int} (h1 : a.1 ≤ x) (h2 : x ≤ a.2) (h3 : b.1 ≤ y) (h4 : y ≤ b.2) : (hull (corners a b)).1 ≤ x * y ∧ x * y ≤ (hull (corners a b)).2 := by
  obtain ⟨-, -, h⟩ := hull_has (corners a b) (by simp [corners])
  have c1 := h (a.1 * b.1) (by simp [corners])
  have c2 := h (a.1 * b.2) (by simp [corners])
  have c3 := h (a.2 * b.1) (by simp [corners])
  have c4 := h (a.2 * b.2) (by simp [corners])
  have e := lin y h1 h2
  have e1 := lin a.1 h3 h4
  have e2 := lin a.2 h3 h4
  rw [Int.mul_comm b.1, Int.mul_comm b.2, Int.mul_comm y] at e1 e2
  omega

theorem td_pos {x c1 d c2 : Int} (h0 : 0 < c1) (h1 : c1 ≤ d) (h2 : d ≤ c2) : (x.tdiv c1 ≤ x.tdiv d ∧ x.tdiv d ≤ x.tdiv c2) ∨ (x.tdiv c2 ≤ x.tdiv d ∧ x.tdiv d ≤ x.tdiv c1) := by
  obtain ⟨p, rfl⟩ := Int.eq_ofNat_of_zero_le (show 0 ≤ c1 by omega)
  obtain ⟨q, rfl⟩ := Int.eq_ofNat_of_zero_le (show 0 ≤ d by omega)
  obtain ⟨r, rfl⟩ := Int.eq_ofNat_of_zero_le (show 0 ≤ c2 by omega)
  have key : ∀ n : Nat, ((n : Int).tdiv r ≤ (n : Int).tdiv q ∧ (n : Int).tdiv q ≤ (n : Int).tdiv p) := fun n => by
    have := Nat.div_le_div_left (a := n) (show q ≤ r by omega) (by omega)
    have := Nat.div_le_div_left (a := n) (show p ≤ q by omega) (by omega)
    rw [← Int.ofNat_tdiv, ← Int.ofNat_tdiv, ← Int.ofNat_tdiv]
    omega
  rcases Int.le_total 0 x with h | h
  · obtain ⟨n, rfl⟩ := Int.eq_ofNat_of_zero_le h
    exact .inr (key n)
  · obtain ⟨n, hn⟩ := Int.eq_ofNat_of_zero_le (show 0 ≤ -x by omega)
    obtain rfl : x = -(n : Int) := by omega
    have := key n
    rw [Int.neg_tdiv, Int.neg_tdiv, Int.neg_tdiv]
    exact .inl (by omega)
theorem td_neg {x c1 d c2 : Int} (h0 : c2 < 0) (h1 : c1 ≤ d) (h2 : d ≤ c2) : (x.tdiv c1 ≤ x.tdiv d ∧ x.tdiv d ≤ x.tdiv c2) ∨ (x.tdiv c2 ≤ x.tdiv d ∧ x.tdiv d ≤ x.tdiv c1) := by
  have := td_pos (x := x) (c1 := -c2) (d := -d) (c2 := -c1) (by omega) (by omega) (by omega)
  rw [Int.tdiv_neg, Int.tdiv_neg, Int.tdiv_neg] at this
  omega
theorem td_mono {a1 x a2 c : Int} (hc : c ≠ 0) (h1 : a1 ≤ x) (h2 : x ≤ a2) : (a1.tdiv c ≤ x.tdiv c ∧ x.tdiv c ≤ a2.tdiv c) ∨ (a2.tdiv c ≤ x.tdiv c ∧ x.tdiv c ≤ a1.tdiv c) := by
  rcases Int.lt_or_gt_of_ne hc with h | h
  · have e1 := Int.tdiv_le_tdiv (show 0 < -c by omega) h1
    have e2 := Int.tdiv_le_tdiv (show 0 < -c by omega) h2
    rw [Int.tdiv_neg, Int.tdiv_neg] at e1 e2
    omega
  · exact .inl ⟨Int.tdiv_le_tdiv h h1, Int.tdiv_le_tdiv h h2⟩
theorem mem_cand {b : Sp} {d : Int} : d ∈ cand b ↔ (d = b.1 ∨ d = -1 ∨ d = 1 ∨ d = b.2) ∧ d ≠ 0 ∧ b.1 ≤ d ∧ d ≤ b.2 := by
  unfold cand
  rw [List.mem_filter]
  simp
theorem cand_two {b : Sp} {d : Int} (h0 : d ≠ 0) (h1 : b.1 ≤ d) (h2 : d ≤ b.2) : ∃ c1 c2, c1 ∈ cand b ∧ c2 ∈ cand b ∧ ∀ x : Int, (x.tdiv c1 ≤ x.tdiv d ∧ x.tdiv d ≤ x.tdiv c2) ∨ (x.tdiv c2 ≤ x.tdiv d ∧ x.tdiv d ≤ x.tdiv c1) := by
  rcases Int.lt_or_gt_of_ne h0 with h | h
  · by_cases hb : b.2 < 0
    · exact ⟨b.1, b.2, mem_cand.2 (by omega), mem_cand.2 (by omega), fun x => td_neg hb h1 h2⟩
    · exact ⟨b.1, -1, mem_cand.2 (by omega), mem_cand.2 (by omega), fun x => td_neg (by omega) h1 (by omega)⟩
  · by_cases hb : 0 < b.1
    · exact ⟨b.1, b.2, mem_cand.2 (by omega), mem_cand.2 (by omega), fun x => td_pos hb h1 h2⟩
    · exact ⟨1, b.2, mem_cand.2 (by omega), mem_cand.2 (by omega), fun x => td_pos (by omega) (by omega) h2⟩
theorem mem_quo {a : Sp} {l : List Int} {v : Int} : v ∈ quoL a l ↔ ∃ d ∈ l, v = a.1.tdiv d ∨ v = a.2.tdiv d := by
  unfold quoL
  rw [List.mem_flatMap]
  simp
theorem quo_in {a b : Sp} {x d : Int} (h1 : a.1 ≤ x) (h2 : x ≤ a.2) (h0 : d ≠ 0) (h3 : b.1 ≤ d) (h4 : d ≤ b.2) : (hull (quoL a (cand b))).1 ≤ x.tdiv d ∧ x.tdiv d ≤ (hull (quoL a (cand b))).2 := by
  obtain ⟨c1, c2, m1, m2, hx⟩ := cand_two h0 h3 h4
  have n1 := (mem_cand.1 m1).2.1
  have n2 := (mem_cand.1 m2).2.1
  have q1 := (mem_quo (a := a)).2 ⟨c1, m1, .inl rfl⟩
  have q2 := (mem_quo (a := a)).2 ⟨c1, m1, .inr rfl⟩
  have q3 := (mem_quo (a := a)).2 ⟨c2, m2, .inl rfl⟩
  have q4 := (mem_quo (a := a)).2 ⟨c2, m2, .inr rfl⟩
  obtain ⟨-, -, h⟩ := hull_has _ (List.ne_nil_of_mem q1)
  have r1 := h _ q1; have r2 := h _ q2; have r3 := h _ q3; have r4 := h _ q4
  have t1 := td_mono n1 h1 h2
  have t2 := td_mono n2 h1 h2
  have := hx x
  omega
theorem cand_some {b : Sp} (h : b.1 ≤ b.2) (h0 : b ≠ (0, 0)) : ∃ d, d ∈ cand b := by
  by_cases e : b.1 = 0
  · by_cases e2 : b.2 = 0
    · exact absurd (Prod.ext e e2) h0
    · exact ⟨b.2, mem_cand.2 (by omega)⟩
  · exact ⟨b.1, mem_cand.2 (by omega)⟩
theorem quo_some {a b : Sp} (h : b.1 ≤ b.2) (h0 : b ≠ (0, 0)) : quoL a (cand b) ≠ [] := by
  obtain ⟨d, hd⟩ := cand_some h h0
  exact List.ne_nil_of_mem (mem_quo.2 ⟨d, hd, .inl rfl⟩)
theorem td_nm {x d : Int} (hx : Nm x) (h0 : d ≠ 0) (h : ¬ (x = -9223372036854775808 ∧ d = -1)) : Nm (x.tdiv d) := by
  unfold Nm at *
  have e : (x.tdiv d).natAbs = x.natAbs / d.natAbs := Int.natAbs_tdiv x d
  rcases (show d = 1 ∨ d = -1 ∨ 2 ≤ d.natAbs by omega) with rfl | rfl | h2
  · rw [Int.tdiv_one]; exact hx
  · rw [Int.tdiv_neg, Int.tdiv_one]; omega
  · have : x.natAbs / d.natAbs ≤ x.natAbs / 2 := Nat.div_le_div_left h2 (by omega)
    omega
theorem tm_in {x d : Int} (h0 : d ≠ 0) : (0 ≤ x → 0 ≤ x.tmod d ∧ x.tmod d ≤ x ∧ x.tmod d ≤ dis d - 1) ∧ (x ≤ 0 → x ≤ x.tmod d ∧ x.tmod d ≤ 0 ∧ -(dis d - 1) ≤ x.tmod d) := by
  have hd : dis d = (d.natAbs : Int) := by unfold dis; split <;> omega
  rw [hd]
  have key : ∀ n m : Nat, 0 < m → (0 : Int) ≤ (n : Int).tmod m ∧ (n : Int).tmod m ≤ n ∧ (n : Int).tmod m ≤ (m : Int) - 1 := fun n m hm => by
    rw [← Int.ofNat_tmod]
    have := Nat.mod_lt n hm
    have := Nat.mod_le n m
    omega
  have k2 : ∀ y : Int, y.tmod d = y.tmod (d.natAbs : Int) := fun y => by
    rcases Int.le_total 0 d with h | h
    · rw [show (d.natAbs : Int) = d by omega]
    · rw [show (d.natAbs : Int) = -d by omega, Int.tmod_neg]
  rw [k2]
  have hm : 0 < d.natAbs := by omega
  generalize d.natAbs = m at *
  refine ⟨fun h => ?_, fun h => ?_⟩
  · obtain ⟨n, rfl⟩ := Int.eq_ofNat_of_zero_le h
    exact key n m hm
  · obtain ⟨n, hn⟩ := Int.eq_ofNat_of_zero_le (show 0 ≤ -x by omega)
    obtain rfl : x = -(n : Int) := by omega
    have := key n m hm
    rw [Int.neg_tmod]
    omega
theorem dis_le {b : Sp} {d : Int} (h1 : b.1 ≤ d) (h2 : d ≤ b.2) : dis d - 1 ≤ most b := by
  unfold most dis
  split <;> split <;> split <;> omega
theorem rem_in {a b : Sp} {x d : Int} (h1 : a.1 ≤ x) (h2 : x ≤ a.2) (h0 : d ≠ 0) (h3 : b.1 ≤ d) (h4 : d ≤ b.2) : (remS a b).1 ≤ x.tmod d ∧ x.tmod d ≤ (remS a b).2 := by
  obtain ⟨p, q⟩ := tm_in (x := x) h0
  have e := dis_le h3 h4
  have e0 : 0 ≤ dis d - 1 := by unfold dis; split <;> omega
  unfold remS
  simp only
  rcases Int.le_total 0 x with h | h
  · have := p h; omega
  · have := q h; omega

theorem set_has {a b o : Sp} {f : Bool} {n : Int} (hn : Nm n) (h : (f = true ∨ (a.1 = a.2 ∧ b.1 = b.2)) → o.1 ≤ n ∧ n ≤ o.2) : (setS a b o f).1 ≤ n ∧ n ≤ (setS a b o f).2 := by
  unfold setS
  split
  · next e =>
    refine h ?_
    simp [sgB] at e
    exact e
  · exact hn
theorem no_em {a : Sp} (h : a.1 ≤ a.2) : emB a = false := decide_eq_false (by omega)
theorem pro_nm {a b : Sp} (hf : (corners a b).all fitB = true) : hull ((corners a b).map wr) = hull (corners a b) ∧ ∀ v ∈ corners a b, Nm v := by
  have h : ∀ v ∈ corners a b, Nm v := fun v hv => of_decide_eq_true (List.all_eq_true.1 hf v hv)
  refine ⟨?_, h⟩
  rw [show (corners a b).map wr = (corners a b).map id from List.map_congr_left fun v hv => wr_id (h v hv), List.map_id]
theorem hull_sg {a b : Sp} (h1 : a.1 = a.2) (h2 : b.1 = b.2) (f : Int → Int) : hull ((corners a b).map f) = (f (a.1 * b.1), f (a.1 * b.1)) := by
  unfold corners
  rw [← h1, ← h2]
  exact hull_flat _
/-- What the machine makes of a number of the one span and one of the other is in the span that is told. -/
theorem do_true {op : Int} {a b : Sp} {x y n : Int} (ha : a.Ok) (h1 : a.1 ≤ x) (h2 : x ≤ a.2) (hb : op ≠ 10 → b.1 ≤ y ∧ y ≤ b.2) (hn : opN op x y = some n) : ∃ s, doS op a b = some s ∧ s.1 ≤ n ∧ n ≤ s.2 := by
  have ea : emB a = false := no_em (by omega)
  unfold opN at hn
  unfold doS
  by_cases o10 : op = 10
  · subst o10
    simp [ea] at hn ⊢
    subst hn
    unfold tru hasB
    by_cases e : a = (0, 0)
    · subst e; simp at h1 h2 ⊢; omega
    · rw [if_neg (by simpa using e)]
      split <;> split <;> simp at * <;> omega
  · obtain ⟨h3, h4⟩ := hb o10
    have eb : emB b = false := no_em (by omega)
    rw [ea, eb]
    simp only [Bool.false_and, Bool.or_false, Bool.false_eq_true, if_false]
    by_cases o3 : op = 3
    · subst o3
      simp at hn ⊢
      subst hn
      refine set_has (wr_nm _) ?_
      rintro (h | ⟨e1, e2⟩)
      · simp [fitB] at h
        obtain ⟨f1, f2⟩ := h
        rw [wr_id f1, wr_id f2, wr_id (by unfold Nm at *; omega)]
        simp; omega
      · rw [show x = a.1 by omega, show y = b.1 by omega, ← e1, ← e2]; simp
    by_cases o4 : op = 4
    · subst o4
      simp at hn ⊢
      subst hn
      refine set_has (wr_nm _) ?_
      rintro (h | ⟨e1, e2⟩)
      · simp [fitB] at h
        obtain ⟨f1, f2⟩ := h
        rw [wr_id f1, wr_id f2, wr_id (by unfold Nm at *; omega)]
        simp; omega
      · rw [show x = a.1 by omega, show y = b.1 by omega, ← e1, ← e2]; simp
    by_cases o5 : op = 5
    · subst o5
      simp at hn ⊢
      subst hn
      refine set_has (wr_nm _) ?_
      rintro (h | ⟨e1, e2⟩)
      · obtain ⟨e, hv⟩ := pro_nm h
        have i := mul_in h1 h2 h3 h4
        obtain ⟨g1, g2, -⟩ := hull_has (corners a b) (by simp [corners])
        have n1 := hv _ g1
        have n2 := hv _ g2
        rw [e, wr_id (by unfold Nm at *; omega)]
        exact i
      · rw [hull_sg e1 e2, show x = a.1 by omega, show y = b.1 by omega]; simp
    by_cases o6 : op = 6
    · subst o6
      by_cases hy : y = 0
      · simp [hy] at hn
      simp [hy] at hn
      subst hn
      have hb0 : b ≠ (0, 0) := by rintro rfl; simp at h3 h4; omega
      refine ⟨quoS a b, by simp [hb0], ?_⟩
      unfold quoS hasB
      split
      · exact wr_nm _
      · next e =>
        simp at e
        unfold Sp.Ok Nm at ha
        rw [wr_id (td_nm (by unfold Nm; omega) hy (by rintro ⟨rfl, rfl⟩; omega))]
        exact quo_in h1 h2 hy h3 h4
    by_cases o7 : op = 7
    · subst o7
      by_cases hy : y = 0
      · simp [hy] at hn
      simp [hy] at hn
      subst hn
      have hb0 : b ≠ (0, 0) := by rintro rfl; simp at h3 h4; omega
      exact ⟨remS a b, by simp [hb0], rem_in h1 h2 hy h3 h4⟩
    by_cases o8 : op = 8
    · subst o8
      simp at hn ⊢
      subst hn
      unfold tru
      split
      · next e => simp at e; rw [if_pos (by omega)]; simp
      · split
        · next e => simp at e; rw [if_neg (by omega)]; simp
        · split <;> simp
    by_cases o9 : op = 9
    · subst o9
      simp at hn ⊢
      subst hn
      unfold tru meetB sgB
      split
      · next e => simp at e; obtain ⟨e1, rfl⟩ := e; rw [if_pos (by omega)]; simp
      · split
        · next e => simp at e; rw [if_neg (by omega)]; simp
        · split <;> simp
    simp [o3, o4, o5, o6, o7, o8, o9, o10] at hn
end Go.Proofs.YtfmkjdfidenfkaaDoor.S8
namespace Go.Proofs.YtfmkjdfidenfkaaDoor.S8
open Go.RowKit

/-- Has the second one all that the first one has? -/
def wiB (a b : Sp) : Bool := decide (a.2 < a.1 ∨ (b.1 ≤ a.1 ∧ a.2 ≤ b.2))
theorem wiB_of {a b : Sp} (h1 : b.1 ≤ a.1) (h2 : a.2 ≤ b.2) : wiB a b = true := decide_eq_true (.inr ⟨h1, h2⟩)
theorem wiB_all {a : Sp} (h : a.Ok) : wiB a allS = true := by unfold Sp.Ok Nm at h; exact wiB_of (by simp [allS]; omega) (by simp [allS]; omega)
theorem wiB_refl (a : Sp) : wiB a a = true := wiB_of (Int.le_refl _) (Int.le_refl _)
theorem join_ok {a b : Sp} (ha : a.Ok) (hb : b.Ok) : (joinS a b).Ok := by
  unfold joinS Sp.Ok Nm at *
  split
  · exact hb
  · split
    · exact ha
    · simp; omega
theorem join_in {a b : Sp} (h : a.1 ≤ a.2) : (joinS a b).1 ≤ a.1 ∧ a.2 ≤ (joinS a b).2 := by
  unfold joinS
  rw [if_neg (by omega)]
  split
  · simp
  · simp; omega
theorem join_in2 {a b : Sp} (h : b.1 ≤ b.2) : (joinS a b).1 ≤ b.1 ∧ b.2 ≤ (joinS a b).2 := by
  unfold joinS
  split
  · simp
  · rw [if_neg (by omega)]; simp; omega
theorem all_ok : allS.Ok := by unfold Sp.Ok Nm allS; simp
theorem set_ok {a b o : Sp} {f : Bool} (h : o.Ok) : (setS a b o f).Ok := by unfold setS; split; exact h; exact all_ok
theorem hull_ok {l : List Int} (hl : l ≠ []) (h : ∀ v ∈ l, Nm v) : (hull l).Ok := by
  obtain ⟨h1, h2, -⟩ := hull_has l hl
  exact ⟨h _ h1, h _ h2⟩
theorem sum_ok (a b : Sp) : (sumS a b).Ok := set_ok ⟨wr_nm _, wr_nm _⟩
theorem dif_ok (a b : Sp) : (difS a b).Ok := set_ok ⟨wr_nm _, wr_nm _⟩
theorem pro_ok (a b : Sp) : (proS a b).Ok := set_ok (hull_ok (by simp [corners]) fun v hv => by obtain ⟨u, _, rfl⟩ := List.mem_map.1 hv; exact wr_nm _)
theorem quo_nm {a b : Sp} (ha : a.Ok) (hh : (hasB a (-9223372036854775808) && hasB b (-1)) = false) (hle : a.1 ≤ a.2) : ∀ v ∈ quoL a (cand b), Nm v := by
  intro v hv
  obtain ⟨d, hd, e⟩ := mem_quo.1 hv
  have hd' := (mem_cand.1 hd).2
  unfold hasB at hh
  simp at hh
  unfold Sp.Ok at ha
  have := ha.1; have := ha.2
  rcases e with rfl | rfl
  · exact td_nm ha.1 hd'.1 (by unfold Nm at *; rintro ⟨e1, e2⟩; omega)
  · exact td_nm ha.2 hd'.1 (by unfold Nm at *; rintro ⟨e1, e2⟩; omega)
theorem quo_ok {a b : Sp} (ha : a.Ok) (h1 : a.1 ≤ a.2) (h : b.1 ≤ b.2) (h0 : b ≠ (0, 0)) : (quoS a b).Ok := by
  unfold quoS
  split
  · exact all_ok
  · next e => exact hull_ok (quo_some h h0) (quo_nm ha (by simpa using e) h1)
theorem rem_ok {a b : Sp} (ha : a.Ok) : (remS a b).Ok := by
  unfold remS Sp.Ok Nm at *
  simp only
  omega
theorem tru_ok (y n : Bool) : (tru y n).Ok := by cases y <;> cases n <;> simp [tru, Sp.Ok, Nm]
theorem set_grow {a b c d o o' : Sp} {f f' : Bool} (ho : o.Ok) (ha : a.1 ≤ a.2) (hb : b.1 ≤ b.2) (hac : c.1 ≤ a.1 ∧ a.2 ≤ c.2) (hbd : d.1 ≤ b.1 ∧ b.2 ≤ d.2) (hf : f' = true → f = true ∧ o'.1 ≤ o.1 ∧ o.2 ≤ o'.2) (hs : a = c → b = d → o = o' ∧ f = f') : wiB (setS a b o f) (setS c d o' f') = true := by
  by_cases e : f' = true
  · obtain ⟨rfl, h1, h2⟩ := hf e
    subst e
    unfold setS
    simp
    exact wiB_of h1 h2
  · by_cases e2 : c.1 = c.2 ∧ d.1 = d.2
    · have e3 : a = c := Prod.ext (by omega) (by omega)
      have e4 : b = d := Prod.ext (by omega) (by omega)
      obtain ⟨rfl, rfl⟩ := hs e3 e4
      subst e3 e4
      exact wiB_refl _
    · have : setS c d o' f' = allS := by unfold setS; rw [if_neg]; simp [sgB]; exact ⟨by simpa using e, fun h => by omega⟩
      rw [this]
      exact wiB_all (set_ok ho)
theorem dis_grow {b d : Sp} (hb : b.1 ≤ b.2) (h : d.1 ≤ b.1 ∧ b.2 ≤ d.2) : most b ≤ most d := by
  have h1 := dis_le (b := d) (d := b.1) (by omega) (by omega)
  have h2 := dis_le (b := d) (d := b.2) (by omega) (by omega)
  unfold most at *
  omega
theorem do_grows {op : Int} {a b c d x : Sp} (ha : a.Ok) (hc : a.1 ≤ a.2 → c.1 ≤ a.1 ∧ a.2 ≤ c.2) (hd : b.1 ≤ b.2 → d.1 ≤ b.1 ∧ b.2 ≤ d.2) (hx : doS op a b = some x) : ∃ y, doS op c d = some y ∧ wiB x y = true := by
  have ea : emB a = false := by
    cases h : emB a
    · rfl
    · simp [doS, h] at hx
  have la : a.1 ≤ a.2 := by unfold emB at ea; simp at ea; omega
  have hac := hc la
  have ec : emB c = false := no_em (by omega)
  unfold doS at hx ⊢
  rw [ea] at hx
  rw [ec]
  by_cases o10 : op = 10
  · subst o10
    simp at hx
    subst hx
    refine ⟨tru (decide (c = (0, 0))) (!hasB c 0), by simp, ?_⟩
    unfold tru hasB wiB
    by_cases e1 : a = (0, 0) <;> by_cases e2 : c = (0, 0)
    · simp [e1, e2]
    · subst e1; simp [e2]; simp at hac; rw [if_neg (by omega)]; simp
    · subst e2; simp at hac; exact absurd (Prod.ext (by simp; omega) (by simp; omega)) e1
    · simp [e1, e2]; split <;> split <;> simp <;> omega
  · have eb : emB b = false := by
      cases h : emB b
      · rfl
      · simp [h, o10] at hx
    have lb : b.1 ≤ b.2 := by unfold emB at eb; simp at eb; omega
    have hbd := hd lb
    have ed : emB d = false := no_em (by omega)
    rw [eb] at hx
    rw [ed]
    simp only [Bool.false_and, Bool.or_false, Bool.false_eq_true, if_false] at hx ⊢
    by_cases o3 : op = 3
    · subst o3
      simp only [if_true, Option.some.injEq] at hx ⊢
      subst hx
      refine ⟨_, rfl, ?_⟩
      refine set_grow ⟨wr_nm _, wr_nm _⟩ la lb hac hbd (fun h => ?_) (fun e1 e2 => by subst e1 e2; exact ⟨rfl, rfl⟩)
      simp [fitB] at h ⊢
      obtain ⟨f1, f2⟩ := h
      have g1 : Nm (a.1 + b.1) := by unfold Nm at *; omega
      have g2 : Nm (a.2 + b.2) := by unfold Nm at *; omega
      rw [wr_id f1, wr_id f2, wr_id g1, wr_id g2]
      exact ⟨⟨g1, g2⟩, by omega, by omega⟩
    by_cases o4 : op = 4
    · subst o4
      simp at hx
      simp only [show ¬ (4 : Int) = 3 by omega, if_false, if_true, Option.some.injEq]
      subst hx
      refine ⟨_, rfl, ?_⟩
      refine set_grow ⟨wr_nm _, wr_nm _⟩ la lb hac hbd (fun h => ?_) (fun e1 e2 => by subst e1 e2; exact ⟨rfl, rfl⟩)
      simp [fitB] at h ⊢
      obtain ⟨f1, f2⟩ := h
      have g1 : Nm (a.1 - b.2) := by unfold Nm at *; omega
      have g2 : Nm (a.2 - b.1) := by unfold Nm at *; omega
      rw [wr_id f1, wr_id f2, wr_id g1, wr_id g2]
      exact ⟨⟨g1, g2⟩, by omega, by omega⟩
    by_cases o5 : op = 5
    · subst o5
      simp at hx
      simp only [show ¬ (5 : Int) = 3 by omega, show ¬ (5 : Int) = 4 by omega, if_false, if_true, Option.some.injEq]
      subst hx
      refine ⟨_, rfl, ?_⟩
      refine set_grow (hull_ok (by simp [corners]) fun v hv => by obtain ⟨u, _, rfl⟩ := List.mem_map.1 hv; exact wr_nm _) la lb hac hbd (fun h => ?_) (fun e1 e2 => by subst e1 e2; exact ⟨rfl, rfl⟩)
      obtain ⟨e, hv⟩ := pro_nm h
      obtain ⟨g1, g2, -⟩ := hull_has (corners c d) (by simp [corners])
      have n1 := hv _ g1
      have n2 := hv _ g2
      have key : ∀ v ∈ corners a b, (hull (corners c d)).1 ≤ v ∧ v ≤ (hull (corners c d)).2 := by
        intro v hv
        simp [corners] at hv
        rcases hv with rfl | rfl | rfl | rfl
        all_goals exact mul_in (by omega) (by omega) (by omega) (by omega)
      have hf : (corners a b).all fitB = true := List.all_eq_true.2 fun v hv => decide_eq_true (by have := key v hv; unfold Nm at *; omega)
      refine ⟨hf, ?_⟩
      rw [e, (pro_nm hf).1]
      obtain ⟨m1, m2, -⟩ := hull_has (corners a b) (by simp [corners])
      exact ⟨(key _ m1).1, (key _ m2).2⟩
    by_cases o6 : op = 6
    · subst o6
      have hb0 : b ≠ (0, 0) := by rintro rfl; simp at hx
      have hd0 : d ≠ (0, 0) := by rintro rfl; simp at hbd; exact hb0 (Prod.ext (by simp; omega) (by simp; omega))
      simp [hb0] at hx
      refine ⟨quoS c d, by simp [hd0], ?_⟩
      subst hx
      by_cases e : (hasB c (-9223372036854775808) && hasB d (-1)) = true
      · rw [show quoS c d = allS by unfold quoS; rw [if_pos e]]
        exact wiB_all (quo_ok ha la lb hb0)
      · have e' : ¬ (hasB a (-9223372036854775808) && hasB b (-1)) = true := by unfold hasB at *; simp at e ⊢; omega
        unfold quoS
        rw [if_neg e, if_neg e']
        obtain ⟨m1, m2, -⟩ := hull_has _ (quo_some (a := a) lb hb0)
        have key : ∀ v ∈ quoL a (cand b), (hull (quoL c (cand d))).1 ≤ v ∧ v ≤ (hull (quoL c (cand d))).2 := by
          intro v hv
          obtain ⟨k, hk, e⟩ := mem_quo.1 hv
          have hk' := (mem_cand.1 hk).2
          rcases e with rfl | rfl
          all_goals exact quo_in (by omega) (by omega) hk'.1 (by omega) (by omega)
        exact wiB_of (key _ m1).1 (key _ m2).2
    by_cases o7 : op = 7
    · subst o7
      have hb0 : b ≠ (0, 0) := by rintro rfl; simp at hx
      have hd0 : d ≠ (0, 0) := by rintro rfl; simp at hbd; exact hb0 (Prod.ext (by simp; omega) (by simp; omega))
      simp [hb0] at hx
      refine ⟨remS c d, by simp [hd0], ?_⟩
      subst hx
      have := dis_grow lb hbd
      refine wiB_of ?_ ?_
      · unfold remS; simp only; omega
      · unfold remS; simp only; omega
    by_cases o8 : op = 8
    · subst o8
      simp at hx
      subst hx
      refine ⟨tru (decide (c.2 < d.1)) (decide (d.2 ≤ c.1)), by simp, ?_⟩
      unfold tru wiB
      split <;> split <;> (try split) <;> (try split) <;> simp at * <;> omega
    by_cases o9 : op = 9
    · subst o9
      simp at hx
      subst hx
      refine ⟨tru (sgB c && decide (c = d)) (!meetB c d), by simp, ?_⟩
      unfold tru meetB sgB wiB
      by_cases e1 : c.1 = c.2 ∧ c = d
      · have e3 : a = c := Prod.ext (by omega) (by omega)
        have e4 : b = d := by obtain ⟨_, rfl⟩ := e1; exact Prod.ext (by omega) (by omega)
        subst e3 e4
        simp [e1]
      · rw [show (decide (c.1 = c.2) && decide (c = d)) = false by simpa using e1]
        by_cases hm : max c.1 d.1 ≤ min c.2 d.2
        · rw [decide_eq_true hm]
          split <;> (try split) <;> simp
        · have hm' : ¬ max a.1 b.1 ≤ min a.2 b.2 := by omega
          have hn : ¬ (a.1 = a.2 ∧ a = b) := by rintro ⟨_, rfl⟩; omega
          rw [decide_eq_false hm, decide_eq_false hm', show (decide (a.1 = a.2) && decide (a = b)) = false by simpa using hn]
          simp
    simp [o3, o4, o5, o6, o7, o8, o9, o10] at hx
theorem meet_grows {a b c d : Sp} (hc : a.1 ≤ a.2 → c.1 ≤ a.1 ∧ a.2 ≤ c.2) (hd : b.1 ≤ b.2 → d.1 ≤ b.1 ∧ b.2 ≤ d.2) (h : meetB a b = true) : meetB c d = true ∧ wiB (meetS a b) (meetS c d) = true := by
  unfold meetB at *
  simp only [decide_eq_true_eq] at *
  have := hc (by omega); have := hd (by omega)
  refine ⟨by omega, ?_⟩
  unfold meetS
  rw [if_pos h, if_pos (by omega)]
  exact wiB_of (by simp only; omega) (by simp only; omega)
theorem join_grows {a b c d : Sp} (hc : a.1 ≤ a.2 → c.1 ≤ a.1 ∧ a.2 ≤ c.2) (hd : b.1 ≤ b.2 → d.1 ≤ b.1 ∧ b.2 ≤ d.2) : wiB (joinS a b) (joinS c d) = true := by
  by_cases h1 : a.1 ≤ a.2
  · have := hc h1
    by_cases h2 : b.1 ≤ b.2
    · have := hd h2
      unfold joinS
      rw [if_neg (by omega), if_neg (by omega), if_neg (by omega), if_neg (by omega)]
      exact wiB_of (by simp only; omega) (by simp only; omega)
    · rw [show joinS a b = a by unfold joinS; rw [if_neg (by omega), if_pos (by omega)]]
      have := join_in (a := c) (b := d) (by omega)
      exact wiB_of (by omega) (by omega)
  · rw [show joinS a b = b by unfold joinS; rw [if_pos (by omega)]]
    by_cases h2 : b.1 ≤ b.2
    · have := hd h2
      have := join_in2 (a := c) (b := d) (by omega)
      exact wiB_of (by omega) (by omega)
    · exact decide_eq_true (.inl (by omega))
theorem join_wi (a b : Sp) : wiB a (joinS a b) = true := by
  by_cases h : a.1 ≤ a.2
  · exact wiB_of (join_in h).1 (join_in h).2
  · exact decide_eq_true (.inl (by omega))
theorem join_wi2 (a b : Sp) : wiB b (joinS a b) = true := by
  by_cases h : b.1 ≤ b.2
  · exact wiB_of (join_in2 h).1 (join_in2 h).2
  · exact decide_eq_true (.inl (by omega))
end Go.Proofs.YtfmkjdfidenfkaaDoor.S8
namespace Go.Proofs.YtfmkjdfidenfkaaDoor.S8
open Go.RowKit

theorem flo_spec (n : Int) : ∀ (ts : List Int) (o : Int), o ≤ n → flo n ts o ≤ n ∧ (flo n ts o = o ∨ flo n ts o ∈ ts)
  | [], o, h => ⟨h, .inl rfl⟩
  | t :: ts, o, h => by
    have e : flo n (t :: ts) o = flo n ts (if t ≤ n then max o t else o) := rfl
    rw [e]
    split
    · next ht =>
      obtain ⟨h1, h2⟩ := flo_spec n ts (max o t) (by omega)
      refine ⟨h1, ?_⟩
      rcases h2 with h2 | h2
      · rcases (show max o t = o ∨ max o t = t by omega) with q | q
        · exact .inl (h2.trans q)
        · exact .inr (by rw [h2, q]; simp)
      · exact .inr (by simp [h2])
    · obtain ⟨h1, h2⟩ := flo_spec n ts o h
      exact ⟨h1, h2.imp id fun h => by simp [h]⟩
theorem roo_spec (n : Int) : ∀ (ts : List Int) (o : Int), n ≤ o → n ≤ roo n ts o ∧ (roo n ts o = o ∨ roo n ts o ∈ ts)
  | [], o, h => ⟨h, .inl rfl⟩
  | t :: ts, o, h => by
    have e : roo n (t :: ts) o = roo n ts (if n ≤ t then min o t else o) := rfl
    rw [e]
    split
    · next ht =>
      obtain ⟨h1, h2⟩ := roo_spec n ts (min o t) (by omega)
      refine ⟨h1, ?_⟩
      rcases h2 with h2 | h2
      · rcases (show min o t = o ∨ min o t = t by omega) with q | q
        · exact .inl (h2.trans q)
        · exact .inr (by rw [h2, q]; simp)
      · exact .inr (by simp [h2])
    · obtain ⟨h1, h2⟩ := roo_spec n ts o h
      exact ⟨h1, h2.imp id fun h => by simp [h]⟩
def cntL : List Int → Int → Nat
  | [], _ => 0
  | t :: ts, x => (if t < x then 1 else 0) + cntL ts x
def cntU : List Int → Int → Nat
  | [], _ => 0
  | t :: ts, x => (if x < t then 1 else 0) + cntU ts x
theorem cntL_mono {x y : Int} (h : y ≤ x) : ∀ ts, cntL ts y ≤ cntL ts x
  | [] => Nat.le_refl _
  | t :: ts => by have := cntL_mono h ts; unfold cntL; split <;> split <;> omega
theorem cntU_mono {x y : Int} (h : x ≤ y) : ∀ ts, cntU ts y ≤ cntU ts x
  | [] => Nat.le_refl _
  | t :: ts => by have := cntU_mono h ts; unfold cntU; split <;> split <;> omega
theorem cntL_lt {x y : Int} (h : y < x) : ∀ ts : List Int, y ∈ ts → cntL ts y + 1 ≤ cntL ts x
  | [], hy => by cases hy
  | t :: ts, hy => by
    have m := cntL_mono (show y ≤ x by omega) ts
    unfold cntL
    rcases List.mem_cons.1 hy with rfl | hy
    · rw [if_neg (by omega), if_pos h]; omega
    · have := cntL_lt h ts hy
      split <;> split <;> omega
theorem cntU_lt {x y : Int} (h : x < y) : ∀ ts : List Int, y ∈ ts → cntU ts y + 1 ≤ cntU ts x
  | [], hy => by cases hy
  | t :: ts, hy => by
    have m := cntU_mono (show x ≤ y by omega) ts
    unfold cntU
    rcases List.mem_cons.1 hy with rfl | hy
    · rw [if_neg (by omega), if_pos h]; omega
    · have := cntU_lt h ts hy
      split <;> split <;> omega
theorem cnt_two {x y : Int} (h : x ≤ y) : ∀ ts : List Int, cntL ts x + cntU ts y ≤ ts.length
  | [] => by simp [cntL, cntU]
  | t :: ts => by
    have := cnt_two h ts
    unfold cntL cntU
    rw [List.length_cons]
    split <;> split <;> omega
theorem cntL_zero : ∀ ts : List Int, (∀ t ∈ ts, Nm t) → cntL ts (-9223372036854775808) = 0
  | [], _ => rfl
  | t :: ts, h => by
    have h1 := h t (by simp)
    have h2 := cntL_zero ts fun u hu => h u (by simp [hu])
    unfold Nm at h1
    unfold cntL
    rw [if_neg (by omega), h2]
theorem cntU_zero : ∀ ts : List Int, (∀ t ∈ ts, Nm t) → cntU ts 9223372036854775807 = 0
  | [], _ => rfl
  | t :: ts, h => by
    have h1 := h t (by simp)
    have h2 := cntU_zero ts fun u hu => h u (by simp [hu])
    unfold Nm at h1
    unfold cntU
    rw [if_neg (by omega), h2]
/-- How often it may change yet. -/
def pot (ts : List Int) (a : Sp) : Nat := (cntL ts a.1 + if -9223372036854775808 < a.1 then 1 else 0) + (cntU ts a.2 + if a.2 < 9223372036854775807 then 1 else 0)
theorem pot_le {ts : List Int} {a : Sp} (h : a.1 ≤ a.2) : pot ts a ≤ ts.length + 2 := by
  have := cnt_two h ts
  unfold pot
  split <;> split <;> omega
theorem low_less {ts : List Int} {x j : Int} (ht : ∀ t ∈ ts, Nm t) (hj : -9223372036854775808 ≤ j) (hx : j < x) : floorN ts j ≤ j ∧ Nm (floorN ts j) ∧ (cntL ts (floorN ts j) + if -9223372036854775808 < floorN ts j then 1 else 0) + 1 ≤ cntL ts x + if -9223372036854775808 < x then 1 else 0 := by
  obtain ⟨h1, h2⟩ := flo_spec j ts (-9223372036854775808) hj
  unfold floorN
  refine ⟨h1, ?_⟩
  rw [if_pos (show -9223372036854775808 < x by omega)]
  rcases h2 with h2 | h2
  · rw [h2, cntL_zero ts ht]
    exact ⟨by unfold Nm; omega, by simp⟩
  · have h3 := ht _ h2
    refine ⟨h3, ?_⟩
    have := cntL_lt (show flo j ts (-9223372036854775808) < x by omega) ts h2
    split <;> omega
theorem high_less {ts : List Int} {x j : Int} (ht : ∀ t ∈ ts, Nm t) (hj : j ≤ 9223372036854775807) (hx : x < j) : j ≤ roofN ts j ∧ Nm (roofN ts j) ∧ (cntU ts (roofN ts j) + if roofN ts j < 9223372036854775807 then 1 else 0) + 1 ≤ cntU ts x + if x < 9223372036854775807 then 1 else 0 := by
  obtain ⟨h1, h2⟩ := roo_spec j ts 9223372036854775807 hj
  unfold roofN
  refine ⟨h1, ?_⟩
  rw [if_pos (show x < 9223372036854775807 by omega)]
  rcases h2 with h2 | h2
  · rw [h2, cntU_zero ts ht]
    exact ⟨by unfold Nm; omega, by simp⟩
  · have h3 := ht _ h2
    refine ⟨h3, ?_⟩
    have := cntU_lt (show x < roo j ts 9223372036854775807 by omega) ts h2
    split <;> omega
/-- A span that is widened has what came, and what it had; where it changes it may change less often from there on. -/
theorem wid_step {ts : List Int} {a s : Sp} (ht : ∀ t ∈ ts, Nm t) (ha : a.Ok) (hs : s.Ok) (hle : a.1 ≤ a.2) :
    (widS a s ts).Ok ∧ (widS a s ts).1 ≤ a.1 ∧ a.2 ≤ (widS a s ts).2 ∧ (s.1 ≤ s.2 → (widS a s ts).1 ≤ s.1 ∧ s.2 ≤ (widS a s ts).2) ∧ (s.2 < s.1 → widS a s ts = a) ∧ (widS a s ts ≠ a → pot ts (widS a s ts) + 1 ≤ pot ts a) := by
  have hj := join_ok ha hs
  have j1 := join_in (a := a) (b := s) hle
  have hjs := join_in2 (a := a) (b := s)
  have hw : widS a s ts = (if (joinS a s).1 = a.1 then (joinS a s).1 else floorN ts (joinS a s).1, if (joinS a s).2 = a.2 then (joinS a s).2 else roofN ts (joinS a s).2) := if_neg (by omega)
  have hem : s.2 < s.1 → joinS a s = a := fun h => by unfold joinS; rw [if_neg (by omega), if_pos h]
  generalize joinS a s = j at *
  have n1 : Nm a.1 := ha.1
  have n2 : Nm a.2 := ha.2
  have m1 : Nm j.1 := hj.1
  have m2 : Nm j.2 := hj.2
  by_cases e1 : j.1 = a.1
  · by_cases e2 : j.2 = a.2
    · have hw' : widS a s ts = a := by rw [hw, if_pos e1, if_pos e2]; exact Prod.ext e1 e2
      rw [hw']
      exact ⟨ha, Int.le_refl _, Int.le_refl _, fun h => by have := hjs h; omega, fun _ => rfl, fun h => absurd rfl h⟩
    · obtain ⟨u1, u2, u3⟩ := high_less (ts := ts) (x := a.2) (j := j.2) ht m2.2 (by omega)
      rw [if_pos e1, if_neg e2] at hw
      rw [hw]
      refine ⟨⟨m1, u2⟩, by simp only; omega, by simp only; omega, fun h => by have := hjs h; simp only; omega, fun h => absurd (congrArg Prod.snd (hem h)) e2, fun _ => ?_⟩
      unfold pot
      simp only [e1]
      omega
  · obtain ⟨l1, l2, l3⟩ := low_less (ts := ts) (x := a.1) (j := j.1) ht m1.1 (by omega)
    by_cases e2 : j.2 = a.2
    · rw [if_neg e1, if_pos e2] at hw
      rw [hw]
      refine ⟨⟨l2, m2⟩, by simp only; omega, by simp only; omega, fun h => by have := hjs h; simp only; omega, fun h => absurd (congrArg Prod.fst (hem h)) e1, fun _ => ?_⟩
      unfold pot
      simp only [e2]
      omega
    · obtain ⟨u1, u2, u3⟩ := high_less (ts := ts) (x := a.2) (j := j.2) ht m2.2 (by omega)
      rw [if_neg e1, if_neg e2] at hw
      rw [hw]
      refine ⟨⟨l2, u2⟩, by simp only; omega, by simp only; omega, fun h => by have := hjs h; simp only; omega, fun h => absurd (congrArg Prod.fst (hem h)) e1, fun _ => ?_⟩
      unfold pot
      simp only
      omega
/-- So many changes so far. -/
def InvE (ts : List Int) (a : Sp) (ch : Nat) : Prop := (a.2 < a.1 → ch = 0) ∧ (a.1 ≤ a.2 → ch + pot ts a ≤ ts.length + 2)
theorem InvE.end {ts : List Int} {a : Sp} {ch : Nat} (h : InvE ts a ch) : ch ≤ ts.length + 2 := by
  rcases Int.lt_or_le a.2 a.1 with h1 | h1
  · have := h.1 h1; omega
  · have := h.2 h1; omega
/-- One more came. -/
theorem inv_step {ts : List Int} {a s : Sp} {ch : Nat} (ht : ∀ t ∈ ts, Nm t) (ha : a.Ok) (hs : s.Ok) (h : InvE ts a ch) :
    (widS a s ts).Ok ∧ wiB a (widS a s ts) = true ∧ (s.1 ≤ s.2 → wiB s (widS a s ts) = true) ∧ InvE ts (widS a s ts) (if s.1 ≤ s.2 ∧ a.1 ≤ a.2 ∧ widS a s ts ≠ a then ch + 1 else ch) := by
  by_cases hle : a.1 ≤ a.2
  · obtain ⟨h1, h2, h3, h4, h5, h6⟩ := wid_step (ts := ts) ht ha hs hle
    refine ⟨h1, wiB_of h2 h3, fun hh => wiB_of (h4 hh).1 (h4 hh).2, fun hh => by omega, fun _ => ?_⟩
    have := h.2 hle
    by_cases e : widS a s ts = a
    · rw [if_neg (fun hh => hh.2.2 e), e]; exact this
    · have := h6 e
      split <;> omega
  · have e : widS a s ts = s := if_pos (by omega)
    rw [e, if_neg (fun hh => hle hh.2.1)]
    refine ⟨hs, decide_eq_true (.inl (by omega)), fun _ => wiB_refl _, fun _ => h.1 (by omega), fun hh => ?_⟩
    have := h.1 (by omega)
    have := pot_le (ts := ts) hh
    omega
end Go.Proofs.YtfmkjdfidenfkaaDoor.S8
