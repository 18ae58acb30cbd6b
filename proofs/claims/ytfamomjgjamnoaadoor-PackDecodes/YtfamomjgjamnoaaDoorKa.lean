/- Bytes in memory, and rows of bytes of the call's own; what an append to such a row leaves as it was. -/
import Derived.Test.YtfamomjgjamnoaaDoorEd
import Derived.Deep.RegionLaw
import Derived.Lib.SmallJoins
namespace Go.Proofs.YtfamomjgjamnoaaDoor
open Go.RowKit Go.Sort

abbrev Bt := List UInt8
abbrev tb (l : Bt) : ByteArray := ⟨l.toArray⟩
theorem tb_size (l : Bt) : (tb l).size = l.length := by simp [ByteArray.size]
theorem tb_of (s : ByteArray) : tb s.data.toList = s := by apply ByteArray.ext; simp
theorem cell_of_obj {W : World} {b : Nat} {cs : Array Value} {T : TypeId} {fz : Nat × Nat} (h : W.heap[b]? = some (.cells cs T fz)) {j : Nat} {v : Value} (hj : cs[j]? = some v) : W.cell? ⟨b, j, none⟩ = some v := by
  rw [Lib.cell_of_heap h]; exact hj
def u8V (b : UInt8) : Value := .int .u8 (b.toNat : Int)
def u8C (l : Bt) : List Value := l.map u8V
theorem u8C_str (l : Bt) : Lib.strCells (tb l) = u8C l := rfl
theorem u8C_app (a b : Bt) : u8C (a ++ b) = u8C a ++ u8C b := by simp [u8C]
theorem u8C_len (a : Bt) : (u8C a).length = a.length := by simp [u8C]
theorem blk_stay {W W' : World} {k : Nat} {o : Obj} (h : W.heap[k]? = some o) (hb : Below W.heap.size W W') : W'.heap[k]? = some o := (hb.block _ (Array.getElem?_eq_some_iff.1 h).1).trans h
theorem newsT (w : World) (T : TypeId) (xs : List Value) : ∀ j u, xs[j]? = some u → (w.alloc (.cells xs.toArray T)).cell? ((⟨w.heap.size, 0, none⟩ : Addr).add j) = some u := fun j u hu => by
  rw [Addr.add_lit, Nat.zero_add]
  exact cell_of_obj (heap_alloc_new w _) (by simpa using hu)
theorem one_u8 (l : Bt) : ∀ u ∈ u8C l, u.oneCell' = true := by
  intro u hu
  simp [u8C] at hu
  obtain ⟨x, _, rfl⟩ := hu
  rfl
/-- A row of bytes of the call's own, from N on. -/
abbrev Ob (N : Nat) (acc : Bt) (v : Value) (W : World) : Prop := W.ownsRow N 5 1 v acc.length (u8C acc)
theorem Tryd.infoByte : (Tryd.prog.info? 5).map (fun i => (i.zero, i.size, i.bytes)) = some (some (.int .u8 0), 1, 1) := by kernel_rfl
/-- What an append to bytes leaves as it was. -/
structure Gr (N : Nat) (W W' : World) : Prop where
  b : Below N W W'
  o : ∀ (k : Nat) (cs : Array Value) (T : TypeId) (fz : Nat × Nat), W.heap[k]? = some (.cells cs T fz) → T ≠ 5 → W'.heap[k]? = some (.cells cs T fz)
theorem Gr.refl (N : Nat) (W : World) : Gr N W W := ⟨Below.refl _ _, fun _ _ _ _ h _ => h⟩
theorem Gr.on {N : Nat} {W W' W'' : World} (h : Gr N W W') (k : Gr N W' W'') : Gr N W W'' := ⟨h.b.trans k.b, fun i cs T fz hi hT => k.o i cs T fz (h.o i cs T fz hi hT) hT⟩
theorem Gr.of {N n : Nat} {v : Value} {xs : List Value} {W W' : World} (h : W.ownsRow N 5 1 v n xs) (hN : N ≤ W.heap.size) (hg : W.grownBy W' v.ownBlock) : Gr N W W' :=
  ⟨(Below.refl N W).grown hg hN (fun k e => own_base h k e), fun _ _ _ _ hk hT => grown_other h hg hk hT.symm⟩
theorem Gr.stay {N : Nat} {W W' : World} (hN : N ≤ W.heap.size) (hb : Below W.heap.size W W') : Gr N W W' := ⟨hb.mono hN, fun _ _ _ _ hk _ => blk_stay hk hb⟩
/-- Bytes are put behind a row of bytes. -/
theorem ob_more {N : Nat} {acc l : Bt} {v : Value} {W : World} (h : Ob N acc v W) (hb : acc.length + l.length ≤ 140737488355328) (hN : N ≤ W.heap.size) (ty : TypeId) (ad : Option Addr) (c : Nat) (hnone : ad = none → l.length = 0) (hc : ∀ a, ad = some a → ∀ j u, (u8C l)[j]? = some u → W.cell? (a.add j) = some u) :
    ∃ v' W', (Builtin.append_ #[27, 27] ty #[v, .slice ad l.length c]).run Tryd.prog W = .ok v' W' ∧ Ob N (acc ++ l) v' W' ∧ Gr N W W' := by
  obtain ⟨i0, hi, hz0, hz1, hz2⟩ := info_parts Tryd.infoByte
  obtain ⟨v', W', hr, h2, h3⟩ := run_append_ownS (P := Tryd.prog) W N 27 ty 5 i0 (.int .u8 0) 1 1 Tryd.underlying27 hi hz0 hz1 hz2 rfl (by decide) v _ _ h ad l.length c (u8C l) (by rw [u8C_len, Nat.mul_one]) hnone hc (one_u8 l) (by unfold maxLen; omega) (by omega) hN
  refine ⟨v', W', hr, ?_, Gr.of h hN h3⟩
  unfold Ob
  rw [List.length_append, u8C_app]
  exact h2
theorem ob_str {N : Nat} {acc l : Bt} {v : Value} {W : World} (h : Ob N acc v W) (hb : acc.length + l.length ≤ 140737488355328) (hN : N ≤ W.heap.size) (ty : TypeId) :
    ∃ v' W', (Builtin.append_ #[27, 9] ty #[v, .string (tb l)]).run Tryd.prog W = .ok v' W' ∧ Ob N (acc ++ l) v' W' ∧ Gr N W W' := by
  obtain ⟨i0, hi, hz0, hz1, hz2⟩ := info_parts Tryd.infoByte
  have hs := tb_size l
  obtain ⟨v', W', hr, h2, h3, _⟩ := Lib.run_append_own_string (P := Tryd.prog) W N 27 9 ty 5 i0 Tryd.underlying27 Tryd.underlying9 hi hz0 hz1 hz2 v _ _ h (tb l) (by unfold maxLen; omega) (by omega) hN
  refine ⟨v', W', hr, ?_, Gr.of h hN h3⟩
  unfold Ob
  rw [List.length_append, u8C_app, ← u8C_str, ← hs]
  exact h2
/-- An append, at a place of a list of operations. -/
theorem wpl_app {ops : Array Oper} {rest : List Oper} {o : Oper} {a : Act} {Q : Exit → Act → World → Prop} {W : World} (hgd : o.guard = Option.none) (sl x : Operand) (t u : TypeId) (va vx : Value)
    (ho : o.op = .call { callee := .builtin .append, args := #[sl, x], argTypes := #[t, u] }) (hs : a.eval sl = va) (hx : a.eval x = vx) {R : Value → World → Prop}
    (hr : ∃ v' W', (Builtin.append_ #[t, u] o.type #[va, vx]).run Tryd.prog W = .ok v' W' ∧ R v' W')
    (h : ∀ v' W', R v' W' → wpList Tryd.prog ops Q rest (a.put o.dst v') W') : wpList Tryd.prog ops Q (o :: rest) a W := by
  refine wpList_plain hgd fun K hK => ?_
  obtain ⟨v', W', hr, h2⟩ := hr
  unfold Oper.wp execOp
  simp only [ho, resolve, invoke, builtin, Sem.run_bind, Sem.run_pure, Result.andThen_ok, List.map_toArray, List.map_cons, List.map_nil, hs, hx, hr]
  exact hK _ _ (h v' W' h2)
/-- Numbers as bytes, the lowest first. -/
def leB (k n : Nat) : Bt := (List.range k).map fun j => UInt8.ofNat (n / 256 ^ j)
theorem leB_succ (k n : Nat) : leB (k + 1) n = leB k n ++ [UInt8.ofNat (n / 256 ^ k)] := by simp [leB, List.range_succ]
theorem leB_len (k n : Nat) : (leB k n).length = k := by simp [leB]
/-- A number of 64 bits as one without a sign. -/
def u64N (z : Int) : Nat := (z % 18446744073709551616).toNat
def w8B (z : Int) : Bt := leB 8 (u64N z)
def w1B (n : Int) : Bt := leB 1 (u64N n)
def w2B (n : Int) : Bt := leB 2 (u64N n)
def insB (x : Is) : Bt := w1B x.op ++ w1B x.a ++ w1B x.b ++ w1B x.c ++ w8B x.n
def spB (s : Sp) : Bt := w8B s.1 ++ w8B s.2
def fnB (f : Fn) : Bt := w1B f.name.size ++ f.name.data.toList ++ w1B f.params.length ++ f.params.flatMap spB ++ w1B f.regs ++ w2B f.words ++ w2B f.code.length ++ f.code.flatMap insB
def sigB : Bt := [83, 70, 84, 1]
def moB (m : Mo) : Bt := sigB ++ w1B m.ths.length ++ m.ths.flatMap w8B ++ w1B m.funcs.length ++ m.funcs.flatMap fnB
end Go.Proofs.YtfamomjgjamnoaaDoor
