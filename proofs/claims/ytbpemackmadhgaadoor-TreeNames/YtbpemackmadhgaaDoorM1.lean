/- How many parts statements add, as the program counts them: the limit once passed, nothing more is looked at. -/
import Derived.Test.YtbpemackmadhgaaDoorE2
namespace Go.Proofs.YtbpemackmadhgaaDoor
open Go.RowKit

/-- What an A or B adds. -/
def cntZ (x : Ex) (n : Int) : Int := if zeroE x then n else cntE x n
mutual
def cntS : St → Int → Int
  | .mk _ _ _ a b _ _ l _ _ e _ _ c, n =>
    cntSs e (cntCs c (cntSs l (cntZ b (cntZ a (n + (1 + (c.length : Int)))))))
def cntSs : List St → Int → Int | [], n => n | s :: r, n => if 4096 < n then n else cntSs r (cntS s n)
def cntC : Ca → Int → Int | .mk _ _ _ l, n => cntSs l n
def cntCs : List Ca → Int → Int | [], n => n | c :: r, n => cntCs r (cntC c n)
end
def cntB : List Bd → Int → Int | [], n => n | b :: r, n => cntB r (cntSs b.l n)
theorem cntC_eq (c : Ca) (n : Int) : cntC c n = cntSs c.body n := by cases c; simp [cntC, Ca.body]
theorem cntB_cases (l : List Ca) (r : List Bd) (n : Int) : cntB (l.map Ca.bd ++ r) n = cntB r (cntCs l n) := by
  induction l generalizing n with
  | nil => simp [cntCs]
  | cons c l ih =>
    rw [List.map_cons, List.cons_append, cntB, ih, cntCs, cntC_eq]; rfl
theorem cntS_eq (s : St) (n : Int) : cntS s n = cntB (bods s) (cntZ s.b (cntZ s.a (n + (1 + (s.cases.length : Int))))) := by
  have h : cntS s n = cntSs s.els (cntCs s.cases (cntSs s.body (cntZ s.b (cntZ s.a (n + (1 + (s.cases.length : Int))))))) := by
    cases s; simp only [cntS, St.els, St.cases, St.body, St.a, St.b]
  rw [h, bods, cntB, cntB_cases, cntB, cntB]
theorem cntSs_drop {l : List St} {j : Nat} {n : Int} (h : j < l.length) : cntSs (l.drop j) n = if 4096 < n then n else cntSs (l.drop (j + 1)) (cntS l[j] n) := by
  rw [List.drop_eq_getElem_cons h, cntSs]
theorem cntB_drop {l : List Bd} {j : Nat} {n : Int} (h : j < l.length) : cntB (l.drop j) n = cntB (l.drop (j + 1)) (cntSs l[j].l n) := by
  rw [List.drop_eq_getElem_cons h, cntB]

theorem cnt_le (k : Nat) : (∀ (x : Ex) (n : Int), x.sz ≤ k → cntE x n ≤ max (n + 1) 4097) ∧ (∀ (l : List Ex) (n : Int), szL l ≤ k → cntL l n ≤ max n 4097) := by
  induction k with
  | zero =>
    refine ⟨fun x n hk => by have := x.sz_args; omega, fun l n hk => ?_⟩
    cases l with
    | nil => simp [cntL]; omega
    | cons x r => rw [szL] at hk; have := x.sz_args; omega
  | succ k ih =>
    have h1 : ∀ (x : Ex) (n : Int), x.sz ≤ k + 1 → cntE x n ≤ max (n + 1) 4097 := fun x n hk => by
      rw [cntE_args]; exact ih.2 _ _ (by have := x.sz_args; omega)
    refine ⟨h1, fun l => ?_⟩
    induction l with
    | nil => intro n _; simp [cntL]; omega
    | cons x r ihr =>
      intro n hk
      rw [szL] at hk
      rw [cntL]
      split
      · omega
      · have := h1 x n (by omega)
        have := ihr (cntE x n) (by omega)
        omega
theorem cntZ_le (x : Ex) (n : Int) : cntZ x n ≤ max (n + 1) 4097 := by
  unfold cntZ; split
  · omega
  · exact (cnt_le _).1 x n (Nat.le_refl _)
theorem cntZ_ge (x : Ex) (n : Int) : n ≤ cntZ x n := by
  unfold cntZ; split
  · omega
  · have := cntE_ge x n; omega

/-- Every part of a statement's list of lists is smaller than it. -/
theorem bods_sz {s : St} {b : Bd} (h : b ∈ bods s) : ssz b.l + 1 ≤ s.sz := by
  have := s.sz_eq
  unfold bods at h
  rcases List.mem_cons.1 h with rfl | h
  · show ssz s.body + 1 ≤ _; omega
  · rcases List.mem_append.1 h with h | h
    · obtain ⟨c, hc, rfl⟩ := List.mem_map.1 h
      have := csz_mem hc
      have := c.sz_eq
      show ssz c.body + 1 ≤ _; omega
    · rw [List.mem_singleton.1 h]; show ssz s.els + 1 ≤ _; omega
theorem bods_have {W : World} {s : St} (hs : s.In W) {b : Bd} (h : b ∈ bods s) : Have W b.a b.c b.l := by
  obtain ⟨_, _, _, _, _, h6, h7, _, h9⟩ := St.in_iff.1 hs
  unfold bods at h
  rcases List.mem_cons.1 h with rfl | h
  · exact h6
  · rcases List.mem_append.1 h with h | h
    · obtain ⟨c, hc, rfl⟩ := List.mem_map.1 h
      exact (Ca.in_iff.1 (h9 c hc)).2
    · rw [List.mem_singleton.1 h]; exact h7

theorem cntS_bd {W : World} (k : Nat) : (∀ (s : St) (n : Int), s.sz ≤ k → s.In W → n ≤ cntS s n ∧ (n ≤ 4096 → cntS s n ≤ 8796093022208)) ∧ (∀ (l : List St) (n : Int), ssz l ≤ k → (∀ x ∈ l, x.In W) → n ≤ cntSs l n ∧ cntSs l n ≤ max n 8796093022208) := by
  have step : ∀ k, (∀ (s : St) (n : Int), s.sz ≤ k → s.In W → n ≤ cntS s n ∧ (n ≤ 4096 → cntS s n ≤ 8796093022208)) → ∀ (l : List St) (n : Int), ssz l ≤ k → (∀ x ∈ l, x.In W) → n ≤ cntSs l n ∧ cntSs l n ≤ max n 8796093022208 := by
    intro k h1 l
    induction l with
    | nil => intro n _ _; simp only [cntSs]; omega
    | cons x r ihr =>
      intro n hk hin
      rw [ssz] at hk
      rw [cntSs]
      split
      · omega
      · have a1 := h1 x n (by omega) (hin x (by simp))
        have a2 := ihr (cntS x n) (by omega) (fun y hy => hin y (by simp [hy]))
        omega
  induction k with
  | zero =>
    have h0 : ∀ (s : St) (n : Int), s.sz ≤ 0 → s.In W → n ≤ cntS s n ∧ (n ≤ 4096 → cntS s n ≤ 8796093022208) := fun s n hk => by have := s.sz_eq; omega
    exact ⟨h0, step 0 h0⟩
  | succ k ih =>
    have h1 : ∀ (s : St) (n : Int), s.sz ≤ k + 1 → s.In W → n ≤ cntS s n ∧ (n ≤ 4096 → cntS s n ≤ 8796093022208) := by
      intro s n hk hs
      have hc : (s.cases.length : Int) * 32 ≤ 140737488351232 := by
        obtain ⟨_, _, _, _, _, _, _, h8, _⟩ := St.in_iff.1 hs
        have := h8.1; have := h8.2.1; omega
      have fold : ∀ (l : List Bd) (n : Int), (∀ b ∈ l, b ∈ bods s) → n ≤ cntB l n ∧ cntB l n ≤ max n 8796093022208 := by
        intro l
        induction l with
        | nil => intro n _; simp only [cntB]; omega
        | cons b r ihr =>
          intro n hm
          rw [cntB]
          have hb := hm b (by simp)
          have a1 := ih.2 b.l n (by have := bods_sz hb; omega) (bods_have hs hb).2
          have a2 := ihr (cntSs b.l n) (fun y hy => hm y (by simp [hy]))
          omega
      rw [cntS_eq]
      have a1 := cntZ_ge s.a (n + (1 + (s.cases.length : Int)))
      have a2 := cntZ_ge s.b (cntZ s.a (n + (1 + (s.cases.length : Int))))
      have a3 := cntZ_le s.a (n + (1 + (s.cases.length : Int)))
      have a4 := cntZ_le s.b (cntZ s.a (n + (1 + (s.cases.length : Int))))
      have a5 := fold (bods s) (cntZ s.b (cntZ s.a (n + (1 + (s.cases.length : Int))))) (fun b hb => hb)
      omega
    exact ⟨h1, step (k + 1) h1⟩
theorem cntSs_bd {W : World} {l : List St} (h : ∀ x ∈ l, x.In W) (n : Int) : n ≤ cntSs l n ∧ cntSs l n ≤ max n 8796093022208 := (cntS_bd (W := W) _).2 l n (Nat.le_refl _) h
theorem cntS_bd1 {W : World} {s : St} (h : s.In W) (n : Int) : n ≤ cntS s n ∧ (n ≤ 4096 → cntS s n ≤ 8796093022208) := (cntS_bd (W := W) _).1 s n (Nat.le_refl _) h
end Go.Proofs.YtbpemackmadhgaaDoor
