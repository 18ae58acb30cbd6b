/- asm.textOf: a module's text. -/
import Derived.Test.YtboidkmnkicoeaaDoorYd
namespace Go.Proofs.YtboidkmnkicoeaaDoor
open Go.RowKit Go.Sort

abbrev PgT (B b : Nat) (l : Bt) (w : World) : Prop := Pg B b (Lib.byteCells l) w
theorem write_any (B b : Nat) (l t : Bt) (w : World) (h : PgT B b l w) (hlen : (l ++ t).length ≤ 140737488355328) (hBw : B ≤ w.heap.size) :
    Calls Tryd.prog 29 #[.pointer (some ⟨b, 0, none⟩), .string (tb t)] w fun e w' => e = .returned (.tuple #[.int .i64 (tb t).size, .nilIface]) ∧ PgT B b (l ++ t) w' ∧ Below B w w' ∧ Oth b w w' := by
  have := writeString_any B b (Lib.byteCells l) (tb t) w h (by rw [Lib.byteCells_length, tb_size]; rw [List.length_append] at hlen; exact hlen) hBw
  rwa [Lib.strCells_eq, tb_list, ← Lib.byteCells_append] at this
/-- In a world behind one in which the Builder lies. -/
theorem write_in {B b : Nat} {l : Bt} {t : Bt} {W0 W : World} (h : PgT B b l W0) (hb : Below W0.heap.size W0 W) (hB : B ≤ W0.heap.size) (hlen : (l ++ t).length ≤ 140737488355328) :
    Calls Tryd.prog 29 #[.pointer (some ⟨b, 0, none⟩), .string (tb t)] W fun e w' => e = .returned (.tuple #[.int .i64 (tb t).size, .nilIface]) ∧ Hid (PgT B b (l ++ t) w') ∧ Hid (Below B W0 w') ∧ Oth b W0 w' :=
  (write_any B b l t W (h.stay hb) hlen (by have := hb.size; omega)).mono fun _ _ ⟨he, hp, hb', ho⟩ => ⟨he, hp, (hb.mono hB).trans hb', (oth_below hb).trans ho⟩
theorem oth_cell {b k j : Nat} {W W' : World} {cs : Array Value} {T : TypeId} {fz : Nat × Nat} {v : Value} (h : W.heap[k]? = some (.cells cs T fz)) (hT : T ≠ 5) (hk : k ≠ b) (ho : Oth b W W') (hj : cs[j]? = some v) : W'.cell? ⟨k, j, none⟩ = some v :=
  cell_of_obj (ho k _ h (by simpa using hk) (fun c fz' e => hT (by cases e; rfl))) hj
/-- What is asked of a module that is to be written. -/
def PrF (f : Fn) : Prop := f.name.size ≤ 16 ∧ f.params.length ≤ 8 ∧ f.code.length ≤ 1024 ∧ ∀ x ∈ f.code, 0 ≤ x.op ∧ x.op ≤ 19
def PrOk (m : Mo) : Prop := m.ths.length ≤ 16 ∧ m.funcs.length ≤ 32 ∧ ∀ f ∈ m.funcs, PrF f
theorem line_len (b : Bt) (ns : List Int) (h : ∀ n ∈ ns, I64 n) : (lineT b ns).length ≤ b.length + ns.length * 22 + 1 := by
  have := flat_le h
  unfold lineT; simp only [List.length_append, List.length_cons, List.length_nil]; omega
theorem insL_len (x : Is) : (insL x).length ≤ 4 := by
  unfold insL
  rw [List.length_map]
  unfold hasL
  split <;> split <;> split <;> split <;> simp
theorem insL_ok {x : Is} (h : x.Ok) : ∀ n ∈ insL x, I64 n := by
  intro n hn
  unfold insL at hn
  obtain ⟨q, _, rfl⟩ := List.mem_map.1 hn
  obtain ⟨h0, h1, h2, h3, h4⟩ := h
  match q with
  | 0 => exact h1
  | 1 => exact h2
  | 2 => exact h3
  | q + 3 => exact h4
theorem word_len (op : Int) : (rwOf op).word.data.toList.length ≤ 6 := by
  by_cases h : 0 ≤ op ∧ op ≤ 19
  · refine op_cases (P := fun op => (rwOf op).word.data.toList.length ≤ 6) h.1 h.2 ?_ ?_ ?_ ?_ ?_ ?_ ?_ ?_ ?_ ?_ ?_ ?_ ?_ ?_ ?_ ?_ ?_ ?_ ?_ ?_ <;> decide
  · rw [rwOf_no h]; decide
theorem insT_len {x : Is} (h : x.Ok) : (insT x).length ≤ 95 := by
  have := line_len (rwOf x.op).word.data.toList (insL x) (insL_ok h)
  have := word_len x.op
  have := insL_len x
  unfold insT; omega
theorem flat_bd {α : Type} {g : α → Bt} {k : Nat} : ∀ {l : List α}, (∀ x ∈ l, (g x).length ≤ k) → (l.flatMap g).length ≤ l.length * k
  | [], _ => by simp
  | x :: r, h => by
    have h1 := h x (by simp)
    have h2 := flat_bd (l := r) (fun y hy => h y (by simp [hy]))
    rw [List.flatMap_cons, List.length_append, List.length_cons, Nat.add_mul]; omega
theorem hdN_ok {f : Fn} {w : World} (h : f.In w) : ∀ n ∈ hdN f, I64 n := by
  intro n hn
  unfold hdN at hn
  simp only [List.mem_cons, List.mem_flatMap] at hn
  rcases hn with rfl | rfl | ⟨s, hs, hn⟩
  · exact h.2.1
  · exact h.2.2.1
  · have := h.2.2.2.2.1 s hs
    rcases hn with rfl | rfl | hn
    · exact this.1
    · exact this.2
    · simp at hn
theorem hdN_len {f : Fn} (h : f.params.length ≤ 8) : (hdN f).length ≤ 18 := by
  rw [← hdU_all f, hdU_len f (Nat.le_refl _)]; omega
theorem fnT_len {f : Fn} {w : World} (h : f.In w) (hp : PrF f) : (fnT f).length ≤ 98000 := by
  have h1 := line_len (funcB ++ 32 :: f.name.data.toList) (hdN f) (hdN_ok h)
  have h2 := flat_bd (g := insT) (k := 95) (l := f.code) (fun x hx => insT_len (h.2.2.2.2.2.2 x hx))
  have h3 := hdN_len hp.2.1
  have h4 := hp.1
  have h5 := hp.2.2.1
  have h6 : (funcB ++ 32 :: f.name.data.toList).length ≤ 21 := by rw [List.length_append, List.length_cons, ba_len]; simp [funcB]; omega
  unfold fnT; rw [List.length_append]; omega
theorem moT_len {m : Mo} {w : World} (h : m.In w) (hp : PrOk m) : (moT m).length ≤ 4000000 := by
  have h1 := line_len widenB m.ths h.2.1
  have h2 := flat_bd (g := fnT) (k := 98000) (l := m.funcs) (fun f hf => fnT_len (h.2.2.2 f hf) (hp.2.2 f hf))
  have h3 := hp.1
  have h4 := hp.2.1
  have h6 : widenB.length = 5 := rfl
  unfold moT; rw [List.length_append]; omega
theorem fns_take {α : Type} {g : α → Bt} {l : List α} {j : Nat} (h : j < l.length) : (l.take (j + 1)).flatMap g = (l.take j).flatMap g ++ g l[j] := by
  rw [List.take_add_one, List.getElem?_eq_getElem h]
  show (l.take j ++ [l[j]]).flatMap g = _
  rw [List.flatMap_append]; simp
theorem take_le {α : Type} {g : α → Bt} {l : List α} (j : Nat) : ((l.take j).flatMap g).length ≤ (l.flatMap g).length := by
  have : l.flatMap g = (l.take j).flatMap g ++ (l.drop j).flatMap g := by rw [← List.flatMap_append, List.take_append_drop]
  rw [this, List.length_append]; omega
end Go.Proofs.YtboidkmnkicoeaaDoor
