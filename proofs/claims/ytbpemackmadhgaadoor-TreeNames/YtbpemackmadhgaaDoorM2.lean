/- An expression's text. -/
import Derived.Test.YtbpemackmadhgaaDoorP3
import Derived.Test.YtbpemackmadhgaaDoorC3
import Derived.Lib.ItoaLen
import Derived.Lib.ItoaNum
namespace Go.Proofs.YtbpemackmadhgaaDoor
open Go.RowKit

def rkE (k : Int) : Int := (formE k.toNat).rank
def sgE (k : Int) : List UInt8 := (formE k.toNat).sign.data.toList
/-- A text that must have a rank. -/
def wiB (r least : Int) (t : List UInt8) : List UInt8 := if r < least then [40] ++ t ++ [41] else t
/-- An expression's text, of its fields, its arguments' kinds and their texts. -/
def txOf (k n : Int) (s : ByteArray) (ks : List Int) (ts : List (List UInt8)) : List UInt8 :=
  if k = 1 then Lib.itoa n
  else if k = 2 then s.data.toList
  else if k = 3 then s.data.toList ++ [91] ++ ts.getD 0 [] ++ [93]
  else if k = 4 then s.data.toList ++ [40] ++ comB ts ++ [41]
  else if k = 5 ∨ k = 6 then sgE k ++ wiB (rkE (ks.getD 0 0)) (rkE k) (ts.getD 0 [])
  else if k = 20 then wiB (rkE (ks.getD 0 0)) (rkE k + 1) (ts.getD 0 []) ++ [32, 63, 32] ++ ts.getD 1 [] ++ [32, 58, 32] ++ ts.getD 2 []
  else wiB (rkE (ks.getD 0 0)) (rkE k) (ts.getD 0 []) ++ [32] ++ sgE k ++ [32] ++ wiB (rkE (ks.getD 1 0)) (rkE k + 1) (ts.getD 1 [])
mutual
def txE : Ex → List UInt8
  | .mk k n s _ _ l => txOf k n s (l.map Ex.kind) (txL l)
def txL : List Ex → List (List UInt8)
  | [] => []
  | x :: r => txE x :: txL r
end
theorem txL_map (l : List Ex) : txL l = l.map txE := by
  induction l with
  | nil => simp [txL]
  | cons x r ih => simp [txL, ih]
theorem txE_eq (x : Ex) : txE x = txOf x.kind x.n x.name (x.args.map Ex.kind) (x.args.map txE) := by
  cases x; simp only [txE, Ex.kind, Ex.n, Ex.name, Ex.args, txL_map]

/-- An expression that has a form. -/
def OkE (x : Ex) : Prop := ∃ lv, chkE x lv = 0
theorem chkL_mem {l : List Ex} {lv : Int} (h : chkL l lv = 0) : ∀ y ∈ l, chkE y lv = 0 := by
  induction l with
  | nil => intro y hy; cases hy
  | cons x r ih =>
    rw [chkL] at h
    by_cases hx : chkE x lv ≠ 0
    · rw [if_pos hx] at h; exact absurd h hx
    · rw [if_neg hx] at h
      intro y hy
      rcases List.mem_cons.1 hy with rfl | hy
      · simpa using hx
      · exact ih h y hy
theorem OkE.parts {x : Ex} (h : OkE x) : selfE x = 0 ∧ ∀ y ∈ x.args, OkE y := by
  obtain ⟨lv, h⟩ := h
  rw [chkE_eq] at h
  by_cases h1 : 32 < lv
  · rw [if_pos h1] at h; omega
  · rw [if_neg h1] at h
    by_cases h2 : selfE x ≠ 0
    · rw [if_pos h2] at h; exact absurd h h2
    · rw [if_neg h2] at h
      exact ⟨by simpa using h2, fun y hy => ⟨_, chkL_mem h y hy⟩⟩
theorem nameZ_len {s : ByteArray} (h : nameZ s = true) : s.size ≤ 16 := by
  unfold nameZ nameB at h
  rw [← ba_len]
  split at h
  · cases h
  · rename_i c r hl
    simp only [Bool.and_eq_true, decide_eq_true_eq] at h
    exact h.1.1.1
/-- What the tests on its own fields tell. -/
theorem selfE_zero {x : Ex} (h : selfE x = 0) : ∃ kn : Nat, x.kind = kn ∧ 1 ≤ kn ∧ kn ≤ 20 ∧ ((formE kn).args ≠ -1 → (x.args.length : Int) = (formE kn).args) ∧ (bits .and .i64 (formE kn).fields 1 ≠ 0 → nameZ x.name = true) ∧ 0 ≤ x.n := by
  unfold selfE at h
  split at h
  · omega
  rename_i h1
  split at h
  · omega
  split at h
  · omega
  rename_i h3
  split at h
  · omega
  rename_i h4
  split at h
  · omega
  rename_i h5
  have hk : isE x.kind = true := by simpa using h1
  simp only [isE, Bool.and_eq_true, decide_eq_true_eq] at hk
  refine ⟨x.kind.toNat, by omega, by omega, by omega, fun hne => ?_, fun hne => ?_, by omega⟩
  · simp only [Bool.and_eq_true, bne_iff_ne, not_and, Decidable.not_not] at h3
    exact h3 hne
  · simp only [Bool.and_eq_true, bne_iff_ne, Bool.not_eq_true', not_and, Bool.not_eq_false] at h4
    exact h4 hne
theorem comB_len (ts : List (List UInt8)) : (comB ts).length ≤ (ts.map fun t => t.length + 2).sum := by
  induction ts with
  | nil => simp [comB]
  | cons x r ih =>
    cases r with
    | nil => simp [comB]
    | cons y r =>
      rw [comB]
      simp only [List.length_append, List.map_cons, List.sum_cons, List.length_cons, List.length_nil] at ih ⊢
      omega
theorem wiB_len (r least : Int) (t : List UInt8) : (wiB r least t).length ≤ t.length + 2 := by
  unfold wiB; split
  · simp
  · omega
theorem sgE_len (kn : Nat) (h : kn ≤ 20) : (sgE (kn : Int)).length ≤ 2 := by
  have : ∀ k, k < 21 → (formE k).sign.data.toList.length ≤ 2 := by decide
  unfold sgE; rw [Int.toNat_natCast]; exact this kn (by omega)
theorem szL_sum (l : List Ex) : szL l = (l.map Ex.sz).sum := by
  induction l with
  | nil => simp [szL]
  | cons x r ih => rw [szL, ih]; simp
theorem Ex.sz_pos (x : Ex) : 1 ≤ x.sz := by rw [x.sz_args]; omega
theorem args_two (k : Nat) (h : 7 ≤ k) (h' : k ≤ 20) (h2 : k ≠ 20) : (formE k).args = 2 := by
  have : ∀ k, k < 21 → k < 7 ∨ k = 20 ∨ (formE k).args = 2 := by decide
  rcases this k (by omega) with h | h | h
  · omega
  · omega
  · exact h
/-- A text is no longer than this. -/
theorem txE_len {w : World} (k : Nat) : ∀ x : Ex, x.sz ≤ k → x.In w → OkE x → (txE x).length + 4 ≤ 32 * x.sz := by
  induction k with
  | zero => intro x hk; have := x.sz_pos; omega
  | succ k ih =>
    intro x hk hin hok
    obtain ⟨hself, hargs⟩ := hok.parts
    obtain ⟨kn, hkn, hk1, hk2, hlen, hname, hn⟩ := selfE_zero hself
    obtain ⟨_, hI, _, _, _, _, _, hsub⟩ := Ex.in_iff.1 hin
    have hsz := x.sz_args
    have hsub' : ∀ y ∈ x.args, (txE y).length + 4 ≤ 32 * y.sz := fun y hy => ih y (by have := szL_mem hy; omega) (hsub y hy) (hargs y hy)
    have hnm : bits .and .i64 (formE kn).fields 1 ≠ 0 → x.name.data.toList.length ≤ 16 := fun h => by rw [ba_len]; exact nameZ_len (hname h)
    rw [txE_eq, txOf, hkn]
    by_cases e1 : (kn : Int) = 1
    · rw [if_pos e1]; have := Lib.itoa_length_le x.n hI.1 hI.2; omega
    rw [if_neg e1]
    by_cases e2 : (kn : Int) = 2
    · rw [if_pos e2]; obtain rfl : kn = 2 := by omega
      have := hnm (by decide); omega
    rw [if_neg e2]
    by_cases e3 : (kn : Int) = 3
    · rw [if_pos e3]; obtain rfl : kn = 3 := by omega
      have h16 := hnm (by decide)
      have hl := hlen (by decide)
      match hx : x.args, hl with
      | [y], _ =>
        have := hsub' y (by rw [hx]; simp)
        rw [hx, szL, szL] at hsz
        simp only [List.map_cons, List.map_nil, List.getD_cons_zero, List.length_append, List.length_cons, List.length_nil]; omega
      | [], hl => simp [formE] at hl
      | _ :: _ :: _, hl => simp [formE] at hl; omega
    rw [if_neg e3]
    by_cases e4 : (kn : Int) = 4
    · rw [if_pos e4]; obtain rfl : kn = 4 := by omega
      have h16 := hnm (by decide)
      have hc := comB_len (x.args.map txE)
      have hs : ((x.args.map txE).map fun t => t.length + 2).sum ≤ 32 * szL x.args := by
        have : ∀ l : List Ex, (∀ y ∈ l, (txE y).length + 4 ≤ 32 * y.sz) → ((l.map txE).map fun t => t.length + 2).sum ≤ 32 * szL l := by
          intro l
          induction l with
          | nil => intro _; simp
          | cons y r ihr =>
            intro h
            have a1 := h y (by simp)
            have a2 := ihr (fun z hz => h z (by simp [hz]))
            rw [szL]; simp only [List.map_cons, List.sum_cons]; omega
        exact this _ hsub'
      simp only [List.length_append, List.length_cons, List.length_nil]; omega
    rw [if_neg e4]
    by_cases e5 : (kn : Int) = 5 ∨ (kn : Int) = 6
    · rw [if_pos e5]
      have hl := hlen (by rcases e5 with h | h <;> (have h' : kn = _ := Int.ofNat_inj.1 h; rw [h']; decide))
      have hla : (formE kn).args = 1 := by rcases e5 with h | h <;> (have h' : kn = _ := Int.ofNat_inj.1 h; rw [h']; rfl)
      rw [hla] at hl
      match hx : x.args, hl with
      | [y], _ =>
        have := hsub' y (by rw [hx]; simp)
        have hw := wiB_len (rkE y.kind) (rkE kn) (txE y)
        have hg := sgE_len kn hk2
        rw [hx, szL, szL] at hsz
        simp only [List.map_cons, List.map_nil, List.getD_cons_zero, List.length_append]; omega
      | [], hl => simp at hl
      | _ :: _ :: _, hl => simp at hl; omega
    rw [if_neg e5]
    by_cases e6 : (kn : Int) = 20
    · rw [if_pos e6]; obtain rfl : kn = 20 := by omega
      have hl := hlen (by decide)
      match hx : x.args, hl with
      | [y, z, u], _ =>
        have a1 := hsub' y (by rw [hx]; simp)
        have a2 := hsub' z (by rw [hx]; simp)
        have a3 := hsub' u (by rw [hx]; simp)
        have hw := wiB_len (rkE y.kind) (rkE ((20 : Nat) : Int) + 1) (txE y)
        rw [hx, szL, szL, szL, szL] at hsz
        simp only [List.map_cons, List.map_nil, List.getD_cons_zero, List.getD_cons_succ, List.length_append, List.length_cons, List.length_nil]; omega
      | [], hl => simp [formE] at hl
      | [_], hl => simp [formE] at hl
      | [_, _], hl => simp [formE] at hl
      | _ :: _ :: _ :: _ :: _, hl => simp [formE] at hl; omega
    · rw [if_neg e6]
      have hla : (formE kn).args = 2 := by
        exact args_two kn (by omega) (by omega) (by omega)
      have hl := hlen (by rw [hla]; decide)
      rw [hla] at hl
      match hx : x.args, hl with
      | [y, z], _ =>
        have a1 := hsub' y (by rw [hx]; simp)
        have a2 := hsub' z (by rw [hx]; simp)
        have hw := wiB_len (rkE y.kind) (rkE kn) (txE y)
        have hw2 := wiB_len (rkE z.kind) (rkE kn + 1) (txE z)
        have hg := sgE_len kn hk2
        rw [hx, szL, szL, szL] at hsz
        simp only [List.map_cons, List.map_nil, List.getD_cons_zero, List.getD_cons_succ, List.length_append, List.length_cons, List.length_nil]; omega
      | [], hl => simp at hl
      | [_], hl => simp at hl
      | _ :: _ :: _ :: _, hl => simp at hl; omega
end Go.Proofs.YtbpemackmadhgaaDoor
