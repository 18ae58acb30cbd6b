/- The statements' own first question: answers that the document fixes. -/
import Derived.Test.YtbpemackmadhgaaDoorW0
namespace Go.Proofs.YtbpemackmadhgaaDoor
open Go.RowKit Go.Sort

theorem flat_at (sz : Nat) : ∀ (rows : List (List Value)), (∀ r ∈ rows, r.length = sz) → ∀ (i j : Nat) cs v, rows[i]? = some cs → cs[j]? = some v → rows.flatten[i * sz + j]? = some v
  | [], _, i, j, cs, v, hi, _ => by simp at hi
  | r :: rs, h, 0, j, cs, v, hi, hj => by
    simp only [List.getElem?_cons_zero, Option.some.injEq] at hi
    subst hi
    have hlt := (List.getElem?_eq_some_iff.1 hj).1
    rw [List.flatten_cons, Nat.zero_mul, Nat.zero_add, List.getElem?_append_left hlt]; exact hj
  | r :: rs, h, i + 1, j, cs, v, hi, hj => by
    have hr := h r (by simp)
    rw [List.flatten_cons, List.getElem?_append_right (by rw [hr, Nat.succ_mul]; omega), hr, show (i + 1) * sz + j - sz = i * sz + j from by rw [Nat.succ_mul]; omega]
    exact flat_at sz rs (fun x hx => h x (by simp [hx])) i j cs v (by simpa using hi) hj
theorem rowIn_block {W : World} {g sz : Nat} {rows : List (List Value)} {arr : Array Value} {t : TypeId} {fz : Nat × Nat} (h : W.heap[g]? = some (.cells arr t fz)) (hf : arr.toList = rows.flatten ∨ ∃ rest, arr.toList = rows.flatten ++ rest) (hl : ∀ r ∈ rows, r.length = sz) : RowIn W (some ⟨g, 0, none⟩) sz rows := by
  intro i cs hi
  refine ⟨g, 0, rfl, fun j v hj => ?_⟩
  have h1 := flat_at sz rows hl i j cs v hi hj
  rw [Lib.cell_of_heap h, Nat.zero_add, ← Array.getElem?_toList]
  rcases hf with hf | ⟨rest, hf⟩
  · rw [hf]; exact h1
  · rw [hf, List.getElem?_append_left (List.getElem?_eq_some_iff.1 h1).1]; exact h1
theorem rowIn_nil {W : World} {a : Option Addr} {sz : Nat} : RowIn W a sz [] := fun i cs h => by simp at h

/-- The blocks in which the first question's lists lie. -/
structure Lay (W : World) (B : Nat) : Prop where
  l1 : W.heap[B + 1]? = some (.cells #[.int .i64 (-5), .int .i64 0] 2 (0, 0))
  l2 : W.heap[B + 1 + 1]? = some (.cells #[.string ⟨#[110]⟩, .int .i64 0, .int .i64 10] 41 (0, 0))
  l3 : W.heap[B + 1 + 1 + 1]? = some (.cells #[.int .i64 2, .int .i64 0, .string ⟨#[110]⟩, .slice none 0 0] 39 (0, 0))
  l4 : W.heap[B + 1 + 1 + 1 + 1]? = some (.cells #[.int .i64 9, .string ⟨#[]⟩, .int .i64 0, .int .i64 5, .int .i64 0, .string ⟨#[]⟩, .slice (some ⟨B + 1 + 1 + 1, 0, none⟩) 1 1, .int .i64 0, .int .i64 0, .string ⟨#[]⟩, .slice none 0 0, .slice none 0 0, .slice none 0 0, .slice none 0 0, .int .i64 1, .string ⟨#[]⟩, .int .i64 1, .int .i64 0, .int .i64 0, .string ⟨#[]⟩, .slice none 0 0, .int .i64 0, .int .i64 0, .string ⟨#[]⟩, .slice none 0 0, .slice none 0 0, .slice none 0 0, .slice none 0 0] 46 (0, 0))
theorem Lay.stay {W W' : World} {B : Nat} (h : Lay W B) (hb : Below W.heap.size W W') : Lay W' B := by
  have k : ∀ {g : Nat} {o : Obj}, W.heap[g]? = some o → W'.heap[g]? = some o := fun e => (hb.block _ (Array.getElem?_eq_some_iff.1 e).1).trans e
  exact ⟨k h.l1, k h.l2, k h.l3, k h.l4⟩
theorem i0 : I64 0 := ⟨by decide, by decide⟩
theorem i1 : I64 1 := ⟨by decide, by decide⟩
theorem i2 : I64 2 := ⟨by decide, by decide⟩
theorem i5 : I64 5 := ⟨by decide, by decide⟩
theorem i9 : I64 9 := ⟨by decide, by decide⟩
theorem i10 : I64 10 := ⟨by decide, by decide⟩
theorem im5 : I64 (-5) := ⟨by decide, by decide⟩
theorem n0 : (0 : Nat) ≤ 140737488351232 := by decide
theorem n1 : (1 : Nat) ≤ 140737488351232 := by decide
theorem lenE (l : List Ex) : ∀ r ∈ l.map Ex.cells, r.length = 4 := by intro r hr; obtain ⟨x, _, rfl⟩ := List.mem_map.1 hr; rfl
theorem lenS (l : List St) : ∀ r ∈ l.map St.cells, r.length = 14 := by intro r hr; obtain ⟨x, _, rfl⟩ := List.mem_map.1 hr; rfl
theorem lenP (l : List Pa) : ∀ r ∈ l.map Pa.cells, r.length = 3 := by intro r hr; obtain ⟨x, _, rfl⟩ := List.mem_map.1 hr; rfl
theorem lenF (l : List Fu) : ∀ r ∈ l.map Fu.cells, r.length = 3 := by intro r hr; obtain ⟨x, _, rfl⟩ := List.mem_map.1 hr; rfl
theorem lenI (l : List Int) : ∀ r ∈ l.map (fun z => ([.int .i64 z] : List Value)), r.length = 1 := by intro r hr; obtain ⟨x, _, rfl⟩ := List.mem_map.1 hr; rfl
theorem zEx_in (W : World) : zEx.In W := Ex.in_iff.2 ⟨i0, i0, n0, Nat.le_refl _, n0, fun _ => rfl, rowIn_nil, fun y hy => by cases hy⟩
theorem aX_in (W : World) : aX.In W := Ex.in_iff.2 ⟨i2, i0, n1, Nat.le_refl _, n0, fun _ => rfl, rowIn_nil, fun y hy => by cases hy⟩
theorem aNeg_in {W : World} {B : Nat} (h : Lay W B) : (aNeg B).In W :=
  Ex.in_iff.2 ⟨i5, i0, n0, Nat.le_refl _, (by show 1 * 56 ≤ 140737488351232; decide), (fun e => by cases e), rowIn_block (rows := [aX.cells]) h.l3 (.inl rfl) (lenE [aX]), fun y hy => by
    rcases List.mem_singleton.1 (show y ∈ [aX] from hy) with rfl
    exact aX_in W⟩
theorem have_nil (W : World) : Have W none 0 [] := ⟨⟨Nat.le_refl _, n0, fun _ => rfl, rowIn_nil⟩, fun y hy => by cases hy⟩
theorem aRet_in {W : World} {B : Nat} (h : Lay W B) : (aRet B).In W := St.in_iff.2 ⟨i9, n0, i0, aNeg_in h, zEx_in W, have_nil W, have_nil W, ⟨Nat.le_refl _, n0, fun _ => rfl, rowIn_nil⟩, fun y hy => by cases hy⟩
theorem aLet_in (W : World) : aLet.In W := St.in_iff.2 ⟨i1, n0, i1, zEx_in W, zEx_in W, have_nil W, have_nil W, ⟨Nat.le_refl _, n0, fun _ => rfl, rowIn_nil⟩, fun y hy => by cases hy⟩
theorem body_q {W : World} {B : Nat} (h : Lay W B) : Have W (some ⟨B + 1 + 1 + 1 + 1, 0, none⟩) 2 [aRet B] :=
  ⟨⟨by show 1 ≤ 2; decide, by decide, (fun e => by cases e), rowIn_block (rows := [(aRet B).cells]) h.l4 (.inr ⟨aLet.cells, rfl⟩) (lenS [aRet B])⟩, fun s hs => by rcases List.mem_singleton.1 hs with rfl; exact aRet_in h⟩
theorem body_p {W : World} {B : Nat} (h : Lay W B) : Have W (some ⟨B + 1 + 1 + 1 + 1, 0, none⟩) 2 [aRet B, aLet] :=
  ⟨⟨by show 2 ≤ 2; decide, by decide, (fun e => by cases e), rowIn_block (rows := [(aRet B).cells, aLet.cells]) h.l4 (.inl rfl) (lenS [aRet B, aLet])⟩, fun s hs => by
    rcases List.mem_cons.1 hs with rfl | hs
    · exact aRet_in h
    · rcases List.mem_singleton.1 hs with rfl; exact aLet_in W⟩
theorem aFn_in {W : World} {B : Nat} (h : Lay W B) {l : List St} (hl : Have W (some ⟨B + 1 + 1 + 1 + 1, 0, none⟩) 2 l) : (aFn B l).In W :=
  ⟨n1, Nat.le_refl _, (by show 1 * 32 ≤ 140737488351232; decide), (fun e => by cases e), rowIn_block (rows := [aPa.cells]) h.l2 (.inl rfl) (lenP [aPa]), (fun q hq => by rcases List.mem_singleton.1 (show q ∈ [aPa] from hq) with rfl; exact ⟨n1, i0, i10⟩), hl⟩
theorem aPr_in {W : World} {B g : Nat} (h : Lay W B) {l : List St} (hl : Have W (some ⟨B + 1 + 1 + 1 + 1, 0, none⟩) 2 l) (hg : W.heap[g]? = some (.cells #[.string ⟨#[102]⟩, .slice (some ⟨B + 1 + 1, 0, none⟩) 1 1, .slice (some ⟨B + 1 + 1 + 1 + 1, 0, none⟩) l.length 2] 48 (0, 0))) : (aPr B g l).In W :=
  ⟨Nat.le_refl _, (by show 2 * 8 ≤ 140737488351232; decide), (fun e => by cases e), rowIn_block (rows := [[.int .i64 (-5)], [.int .i64 0]]) h.l1 (.inl rfl) (lenI [-5, 0]), (fun z hz => by
    rcases List.mem_cons.1 (show z ∈ [(-5 : Int), 0] from hz) with rfl | hz
    · exact im5
    · rcases List.mem_singleton.1 hz with rfl; exact i0), Nat.le_refl _, (by show 1 * 64 ≤ 140737488351232; decide), (fun e => by cases e), rowIn_block (rows := [(aFn B l).cells]) hg (.inl rfl) (lenF [aFn B l]), (fun f hf => by
    rcases List.mem_singleton.1 (show f ∈ [aFn B l] from hf) with rfl; exact aFn_in h hl)⟩
/-- The first question's text, printed. -/
theorem awPrint (W : World) (B g : Nat) (h : Lay W B) (hg : W.heap[g]? = some (.cells #[.string ⟨#[102]⟩, .slice (some ⟨B + 1 + 1, 0, none⟩) 1 1, .slice (some ⟨B + 1 + 1 + 1 + 1, 0, none⟩) 1 2] 48 (0, 0))) (ht : Tabs W) (hnt : NumT W) :
    Calls Tryd.prog 14 #[(aPr B g [aRet B]).val] W fun e w' => e = .returned (.tuple #[sB awText, fltV 0 0 0]) ∧ Below W.heap.size W w' := by
  have := print_ok (aPr B g [aRet B]) W (aPr_in h (body_q h) hg) ht hnt (check_q B g) (by show 2 ≤ 16; decide) (fun f hf => by
    rcases List.mem_singleton.1 (show f ∈ [aFn B [aRet B]] from hf) with rfl
    refine ⟨fun s hs => ?_, fun q hq => ?_, by show 1 ≤ 8; decide⟩
    · rcases List.mem_singleton.1 (show s ∈ [aRet B] from hs) with rfl
      exact stmt9 W (aRet B) rfl (aRet_in h) ht hnt (ok_neg B) (by show (aNeg B).sz ≤ _; rw [Ex.sz_args]; show szL [aX] + 1 ≤ _; decide)
    · rcases List.mem_singleton.1 (show q ∈ [aPa] from hq) with rfl
      decide +kernel) (by rw [text_q]; decide)
  rwa [text_q] at this
end Go.Proofs.YtbpemackmadhgaaDoor
