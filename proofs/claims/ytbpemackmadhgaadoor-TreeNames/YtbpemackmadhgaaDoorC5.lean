/- checkStmts: what is wrong first in statements, and the number of the one where it is. -/
import Derived.Test.YtbpemackmadhgaaDoorC4
import Derived.Test.YtbpemackmadhgaaDoorM1
import Derived.Test.YtbpemackmadhgaaDoorE3
namespace Go.Proofs.YtbpemackmadhgaaDoor
open Go.RowKit Go.Sort

/-- One look behind another one, where nothing was wrong. -/
def thenZ (p : Int × Int) (f : Int → Int × Int) : Int × Int := if p.1 ≠ 0 then p else f p.2
mutual
def chkT : St → Int → Int → Int × Int
  | .mk k s n a b ba bc l ea ec e ca cc c, lv, at_ =>
    if chkS (.mk k s n a b ba bc l ea ec e ca cc c) lv ≠ 0 then (chkS (.mk k s n a b ba bc l ea ec e ca cc c) lv, at_ + 1)
    else thenZ (chkSs l (lv + 1) (at_ + 1)) fun m => thenZ (chkCs c (lv + 1) m) fun m => chkSs e (lv + 1) m
def chkSs : List St → Int → Int → Int × Int
  | [], _, at_ => (0, at_)
  | s :: r, lv, at_ => thenZ (chkT s lv at_) fun m => chkSs r lv m
def chkCa : Ca → Int → Int → Int × Int
  | .mk _ _ _ l, lv, at_ => chkSs l lv at_
def chkCs : List Ca → Int → Int → Int × Int
  | [], _, at_ => (0, at_)
  | c :: r, lv, at_ => thenZ (chkCa c lv at_) fun m => chkCs r lv m
end
def chkBd : List Bd → Int → Int → Int × Int
  | [], _, at_ => (0, at_)
  | b :: r, lv, at_ => thenZ (chkSs b.l lv at_) fun m => chkBd r lv m
theorem thenZ_ret (p : Int × Int) : (thenZ p fun m => (0, m)) = p := by
  unfold thenZ; split
  · rfl
  · rename_i h; have h : p.1 = 0 := by simpa using h
    rw [← h]
theorem thenZ_assoc (p : Int × Int) (f g : Int → Int × Int) : thenZ (thenZ p f) g = thenZ p fun m => thenZ (f m) g := by
  unfold thenZ; split <;> rfl
theorem chkCa_eq (c : Ca) (lv at_ : Int) : chkCa c lv at_ = chkSs c.body lv at_ := by cases c; simp only [chkCa, Ca.body]
theorem chkBd_cases (l : List Ca) (r : List Bd) (lv at_ : Int) : chkBd (l.map Ca.bd ++ r) lv at_ = thenZ (chkCs l lv at_) fun m => chkBd r lv m := by
  induction l generalizing at_ with
  | nil => simp only [List.map_nil, List.nil_append, chkCs, thenZ]; rfl
  | cons c l ih =>
    rw [List.map_cons, List.cons_append, chkBd, chkCs, chkCa_eq, thenZ_assoc]
    congr 1
    funext m
    exact ih m
theorem chkT_eq (s : St) (lv at_ : Int) : chkT s lv at_ = if chkS s lv ≠ 0 then (chkS s lv, at_ + 1) else chkBd (bods s) (lv + 1) (at_ + 1) := by
  have h : chkBd (bods s) (lv + 1) (at_ + 1) = thenZ (chkSs s.body (lv + 1) (at_ + 1)) fun m => thenZ (chkCs s.cases (lv + 1) m) fun m => chkSs s.els (lv + 1) m := by
    rw [bods, chkBd]; congr 1; funext m
    rw [chkBd_cases]; congr 1; funext m
    rw [chkBd]; exact thenZ_ret _
  rw [h]
  cases s; simp only [chkT, St.body, St.cases, St.els]
theorem chkSs_drop {l : List St} {j : Nat} {lv at_ : Int} (h : j < l.length) : chkSs (l.drop j) lv at_ = thenZ (chkT l[j] lv at_) fun m => chkSs (l.drop (j + 1)) lv m := by
  rw [List.drop_eq_getElem_cons h, chkSs]
theorem chkBd_drop {l : List Bd} {j : Nat} {lv at_ : Int} (h : j < l.length) : chkBd (l.drop j) lv at_ = thenZ (chkSs l[j].l lv at_) fun m => chkBd (l.drop (j + 1)) lv m := by
  rw [List.drop_eq_getElem_cons h, chkBd]
theorem ssz_drop {l : List St} {j : Nat} (h : j < l.length) : ssz (l.drop j) = l[j].sz + ssz (l.drop (j + 1)) := by
  rw [List.drop_eq_getElem_cons h, ssz]
def bsz : List Bd → Nat | [] => 0 | b :: r => ssz b.l + bsz r
theorem bsz_drop {l : List Bd} {j : Nat} (h : j < l.length) : bsz (l.drop j) = ssz l[j].l + bsz (l.drop (j + 1)) := by
  rw [List.drop_eq_getElem_cons h, bsz]
theorem bsz_append (l r : List Bd) : bsz (l ++ r) = bsz l + bsz r := by
  induction l with
  | nil => simp [bsz]
  | cons b l ih => rw [List.cons_append, bsz, bsz, ih]; omega
theorem bsz_cases (l : List Ca) : bsz (l.map Ca.bd) ≤ csz l := by
  induction l with
  | nil => simp [bsz]
  | cons c l ih => rw [List.map_cons, bsz, csz, c.sz_eq]; show ssz c.body + _ ≤ _; omega
theorem bsz_bods (s : St) : bsz (bods s) + 1 ≤ s.sz := by
  rw [bods, bsz, bsz_append, bsz, bsz, s.sz_eq]
  have := bsz_cases s.cases
  show ssz s.body + (_ + (ssz s.els + 0)) + 1 ≤ _
  omega

theorem chk_at (k : Nat) : (∀ (s : St) (lv at_ : Int), s.sz ≤ k → (chkT s lv at_).2 ≤ at_ + s.sz ∧ at_ ≤ (chkT s lv at_).2) ∧ (∀ (l : List St) (lv at_ : Int), ssz l ≤ k → (chkSs l lv at_).2 ≤ at_ + ssz l ∧ at_ ≤ (chkSs l lv at_).2) := by
  have step : ∀ k, (∀ (s : St) (lv at_ : Int), s.sz ≤ k → (chkT s lv at_).2 ≤ at_ + s.sz ∧ at_ ≤ (chkT s lv at_).2) → ∀ (l : List St) (lv at_ : Int), ssz l ≤ k → (chkSs l lv at_).2 ≤ at_ + ssz l ∧ at_ ≤ (chkSs l lv at_).2 := by
    intro k h1 l
    induction l with
    | nil => intro lv at_ _; simp only [chkSs, ssz]; omega
    | cons x r ihr =>
      intro lv at_ hk
      rw [ssz] at hk ⊢
      have a1 := h1 x lv at_ (by omega)
      have a2 := ihr lv (chkT x lv at_).2 (by omega)
      rw [chkSs, thenZ]
      split <;> omega
  induction k with
  | zero =>
    have h0 : ∀ (s : St) (lv at_ : Int), s.sz ≤ 0 → (chkT s lv at_).2 ≤ at_ + s.sz ∧ at_ ≤ (chkT s lv at_).2 := fun s _ _ hk => by have := s.sz_eq; omega
    exact ⟨h0, step 0 h0⟩
  | succ k ih =>
    have h1 : ∀ (s : St) (lv at_ : Int), s.sz ≤ k + 1 → (chkT s lv at_).2 ≤ at_ + s.sz ∧ at_ ≤ (chkT s lv at_).2 := by
      intro s lv at_ hk
      have fold : ∀ (l : List Bd) (lv at_ : Int), (∀ b ∈ l, b ∈ bods s) → (chkBd l lv at_).2 ≤ at_ + bsz l ∧ at_ ≤ (chkBd l lv at_).2 := by
        intro l
        induction l with
        | nil => intro lv at_ _; simp only [chkBd, bsz]; omega
        | cons b r ihr =>
          intro lv at_ hm
          have a1 := ih.2 b.l lv at_ (by have := bods_sz (hm b (by simp)); omega)
          have a2 := ihr lv (chkSs b.l lv at_).2 (fun y hy => hm y (by simp [hy]))
          rw [chkBd, thenZ, bsz]
          split <;> omega
      rw [chkT_eq]
      have := s.sz_eq
      split
      · simp only; omega
      · have a := fold (bods s) (lv + 1) (at_ + 1) (fun b hb => hb)
        have := bsz_bods s
        omega
    exact ⟨h1, step (k + 1) h1⟩
theorem chkSs_at (l : List St) (lv at_ : Int) : (chkSs l lv at_).2 ≤ at_ + ssz l ∧ at_ ≤ (chkSs l lv at_).2 := (chk_at _).2 l lv at_ (Nat.le_refl _)
end Go.Proofs.YtbpemackmadhgaaDoor
