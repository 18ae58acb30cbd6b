/- scan.steps: the function value that it hands back gives the items of the source. -/
import Derived.Test.YtdlddloggjckmaaDoorAp
namespace Go.Proofs.YtdlddloggjckmaaDoor
open Go.RowKit Go.Shelf
attribute [local go_sem] Oper.semAt_some

set_option maxHeartbeats 400000 in
theorem steps_any (s : ByteArray) (w : World) :
    Calls Tryd.prog 20 #[.string s] w fun e w' => e = .returned (.func (.func 32) #[] #[.pointer (some ⟨w.heap.size, 0, none⟩)]) ∧ w' = w.alloc (.cells #[.string s] 9) := by
  go_enter Tryd.func20, Tryd.ntmps20
  go_wp2
  go_ret
  exact ⟨rfl, rfl⟩

theorem steps_stops (n Bs : Nat) (hn : 1 ≤ n) (s : ByteArray) (hs : s.size ≤ 281474976710656) (w : World) (hB : w.cell? ⟨Bs, 0, none⟩ = some (.string s)) (hv : VarOk w) :
    SeqStopsK Fence.wide n Tryd.prog 32 #[.pointer (some ⟨Bs, 0, none⟩)] encI (KpT Bs) (fun ys => ys = items s) (fun pre => pre <+: items s) (items s).length w :=
  fun l J Jx W hW hJ _ hY h0 =>
    steps1_in n l Bs hn s hs J Jx W.heap.size hJ hY W ((hW.cell (p := ⟨Bs, 0, none⟩) (Lib.lt_of_cell hB)).trans hB) (hv.below hW) h0

/-- The cells of a token. -/
def tokCells (x : It) : List Value := [.int .i64 x.kind, .int .i64 x.at_, .string x.text, .int .i64 x.n]
def rowCells (xs : List It) : List Value := xs.flatMap tokCells
theorem rowCells_snoc (xs : List It) (x : It) : rowCells (xs ++ [x]) = rowCells xs ++ tokCells x := by simp [rowCells]
theorem rowCells_len (xs : List It) : (rowCells xs).length = xs.length * 4 := by
  induction xs with
  | nil => rfl
  | cons x xs ih => rw [rowCells, List.flatMap_cons, List.length_append, ← rowCells, ih]; simp [tokCells]; omega

theorem itemsFrom_len (s : ByteArray) : ∀ f k : Nat, (itemsFrom s f k).length ≤ f
  | 0, _ => by simp [itemsFrom]
  | f + 1, k => by
    rw [itemsFrom]
    split
    · have := itemsFrom_len s f (nextAt s k)
      simp only [List.length_cons]
      split
      · omega
      · simp
    · simp
theorem items_len (s : ByteArray) : (items s).length ≤ s.size + 1 := itemsFrom_len s _ _

theorem itemsFrom_last (s : ByteArray) : ∀ (f k : Nat) (pre : List It) (x : It) (rest : List It), itemsFrom s f k = pre ++ x :: rest → x.err ≠ 0 → rest = []
  | 0, _, pre, x, rest, h, _ => by simp [itemsFrom] at h
  | f + 1, k, pre, x, rest, h, hx => by
    rw [itemsFrom] at h
    split at h
    · cases pre with
      | nil =>
        rw [List.nil_append, List.cons.injEq] at h
        rw [h.1, if_neg hx] at h
        exact h.2.symm
      | cons y pre =>
        rw [List.cons_append, List.cons.injEq] at h
        obtain ⟨_, h2⟩ := h
        split at h2
        · exact itemsFrom_last s f _ pre x rest h2 hx
        · simp at h2
    · simp at h
theorem items_last {s : ByteArray} {pre : List It} {x : It} (h : (pre ++ [x]) <+: items s) (hx : x.err ≠ 0) : items s = pre ++ [x] := by
  obtain ⟨rest, hr⟩ := h
  have : rest = [] := itemsFrom_last s _ _ pre x rest (by rw [← items]; rw [← hr]; simp) hx
  rw [← hr, this, List.append_nil]

/-- What scan.All answers of a source that is not too long. -/
def AllOut (s : ByteArray) (w : World) (e : Ending) (w' : World) : Prop :=
  Below w.heap.size w w' ∧ ((∃ pre x, items s = pre ++ [x] ∧ (∀ y ∈ pre, y.err = 0) ∧ x.err ≠ 0 ∧ e = .returned (.tuple #[.slice none 0 0, .int .i64 x.err, .int .i64 x.at_])) ∨
    ((∀ y ∈ items s, y.err = 0) ∧ ∃ v, e = .returned (.tuple #[v, .int .i64 0, .int .i64 0]) ∧ w'.ownsRow w.heap.size 33 4 v (items s).length (rowCells (items s))))

set_option maxHeartbeats 400000 in
theorem all_long (s : ByteArray) (w : World) (hs : 65536 < (s.size : Int)) :
    Calls Tryd.prog 10 #[.string s] w fun e w' => e = .returned (.tuple #[.slice none 0 0, .int .i64 4, .int .i64 65536]) ∧ Below w.heap.size w w' := by
  go_enter Tryd.func10, Tryd.ntmps10
  go_wp2
  exact bodyPost_ret (v := .tuple #[.slice none 0 0, .int .i64 4, .int .i64 65536]) (by simp [results, Tryd.results10, go_sem]) rfl ⟨rfl, (((Below.refl _ w).alloc (Nat.le_refl _) _).alloc (by simp) _).alloc (by simp; omega) _⟩

/-- What the loop of scan.All holds between two rounds. -/
def AllI (s : ByteArray) (w : World) (pre : List It) (W : World) : Prop :=
  ((∃ v, Boxed W (w.heap.size + 1 + 1 + 1) 23 v ∧ W.ownsRow w.heap.size 33 4 v pre.length (rowCells pre) ∧ (v = .slice none 0 0 ↔ pre = [])) ∧
    (Boxed W w.heap.size 23 (.slice none 0 0) ∧ Boxed W (w.heap.size + 1) 24 (.int .i64 0) ∧ Boxed W (w.heap.size + 1 + 1) 3 (.int .i64 0)) ∧ (∀ y ∈ pre, y.err = 0) ∧ Boxed W (w.heap.size + 1 + 1 + 1 + 1) 9 (.string s)) ∧ Below w.heap.size w W
/-- What it holds where a round has left by a return. -/
def AllX (w : World) (c : Code) (pre : List It) (W : World) : Prop :=
  (∃ pre' x, pre = pre' ++ [x] ∧ (∀ y ∈ pre', y.err = 0) ∧ x.err ≠ 0 ∧ c = .ret ∧ Boxed W w.heap.size 23 (.slice none 0 0) ∧ Boxed W (w.heap.size + 1) 24 (.int .i64 x.err) ∧ Boxed W (w.heap.size + 1 + 1) 3 (.int .i64 x.at_)) ∧ Below w.heap.size w W

theorem boxed_grown {W W' : World} {B : Nat} {t : TypeId} {v : Value} {row : Option Nat} (h : Boxed W B t v) (hg : W.grownBy W' row) (hr : ∀ r, row = some r → ∃ o : Obj, W.heap[r]? = some o ∧ o.isCells = false) : Boxed W' B t v :=
  h.kept hg (fun e => by
    obtain ⟨o, ho, hc⟩ := hr B e.symm
    rw [show W.heap[B]? = _ from h] at ho; cases ho; cases hc)

theorem allI_own (s : ByteArray) (w : World) (B : Nat) (hB : w.heap.size ≤ B) : OwnFrom B (AllI s w) := by
  refine OwnFrom.and (fun pre W W' row hs hg hr => ?_) (ownFrom_below (Nat.le_refl _) hB)
  obtain ⟨h1, ⟨h2, h3, h4⟩, h5, h6⟩ := hs
  have hr' := fun r e => (hr r e).2
  exact ⟨(holdsRow_own w.heap.size (w.heap.size + 1 + 1 + 1) 23 33 4 (fun pre : List It => pre.length) rowCells (fun pre v => v = .slice none 0 0 ↔ pre = [])) pre W W' row h1 hg hr',
    ⟨boxed_grown h2 hg hr', boxed_grown h3 hg hr', boxed_grown h4 hg hr'⟩, h5, boxed_grown h6 hg hr'⟩
theorem allX_own (w : World) (B : Nat) (hB : w.heap.size ≤ B) (c : Code) : OwnFrom B (AllX w c) := by
  refine OwnFrom.and (fun s W W' row hs hg hr => ?_) (ownFrom_below (Nat.le_refl _) hB)
  obtain ⟨pre', x, h1, h2, h3, h4, h5, h6, h7⟩ := hs
  have hr' := fun r e => (hr r e).2
  exact ⟨pre', x, h1, h2, h3, h4, boxed_grown h5 hg hr', boxed_grown h6 hg hr', boxed_grown h7 hg hr'⟩

end Go.Proofs.YtdlddloggjckmaaDoor
