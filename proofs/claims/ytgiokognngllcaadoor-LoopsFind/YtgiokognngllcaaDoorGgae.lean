/- Rows that are made and written; the search of what can be reached, plain. -/
import Derived.Test.YtgiokognngllcaaDoorGgad
import Derived.Scope
import Derived.WalkMore
namespace Go.Proofs.YtgiokognngllcaaDoor
open Go.RowKit Go.Sort

/-- Rows of a length. -/
def mkB (n : Nat) : Array Value := madeCells #[.bool false] n
def mkN (n : Nat) : Array Value := madeCells #[.int .i64 0] n
theorem run_mkB (W : World) (n : Nat) (hn : n ≤ 1000000) : (Instr.makeSlice 45 (.int .i64 (n : Int)) (.int .i64 (n : Int))).run Tryd.prog W = .ok (.slice (some ⟨W.heap.size, 0, none⟩) n n) (W.alloc (.cells (mkB n) 4)) := by
  obtain ⟨i0, hi, hz0, hz1, hz2⟩ := info_parts Tryd.infoBool
  have := run_make (P := Tryd.prog) W 45 4 i0 (.bool false) Tryd.underlying45 hi hz0 .i64 .i64 n n (by omega) (Int.le_refl _) (by rw [hz2]; omega) (by omega)
  rw [hz1, Int.toNat_natCast, Nat.mul_one] at this
  exact this
theorem run_mkN (W : World) (n : Nat) (hn : n ≤ 1000000) : (Instr.makeSlice 38 (.int .i64 (n : Int)) (.int .i64 (n : Int))).run Tryd.prog W = .ok (.slice (some ⟨W.heap.size, 0, none⟩) n n) (W.alloc (.cells (mkN n) 3)) := by
  obtain ⟨i0, hi, hz0, hz1, hz2⟩ := info_parts Tryd.infoN
  have := run_make (P := Tryd.prog) W 38 3 i0 (.int .i64 0) Tryd.underlying38 hi hz0 .i64 .i64 n n (by omega) (Int.le_refl _) (by rw [hz2]; omega) (by omega)
  rw [hz1, Int.toNat_natCast, Nat.mul_one] at this
  exact this
theorem own_mkB (W : World) (n : Nat) (hn : n ≤ 1000000) : Ob W.heap.size (List.replicate n false) (.slice (some ⟨W.heap.size, 0, none⟩) n n) (W.alloc (.cells (mkB n) 4)) := by
  have := World.ownsRow_lit (base := W.heap.size) (e := 4) (size := 1) W (mkB n) n (Nat.le_refl _) (by unfold maxLen; omega) (by unfold mkB; rw [← Array.length_toList, toList_madeCells_one]; simp)
  unfold Ob
  rw [List.length_replicate, List.map_replicate]
  rw [show (mkB n).toList = List.replicate n (bV false) from toList_madeCells_one _ _] at this
  exact this
theorem own_mkN (W : World) (n : Nat) (hn : n ≤ 1000000) : On W.heap.size (List.replicate n 0) (.slice (some ⟨W.heap.size, 0, none⟩) n n) (W.alloc (.cells (mkN n) 3)) := by
  have := World.ownsRow_lit (base := W.heap.size) (e := 3) (size := 1) W (mkN n) n (Nat.le_refl _) (by unfold maxLen; omega) (by unfold mkN; rw [← Array.length_toList, toList_madeCells_one]; simp)
  unfold On
  rw [List.length_replicate, List.map_replicate]
  rw [show (mkN n).toList = List.replicate n (nV 0) from toList_madeCells_one _ _] at this
  exact this
theorem own_lit (W : World) (k : Nat) : On W.heap.size [k] (.slice (some ⟨W.heap.size, 0, none⟩) 1 1) (W.alloc (.cells #[.int .i64 (k : Int)] 3)) :=
  World.ownsRow_lit (base := W.heap.size) (e := 3) (size := 1) W #[.int .i64 (k : Int)] 1 (Nat.le_refl _) (by unfold maxLen; omega) rfl
theorem ob_put {N : Nat} {rs : List Bool} {g n c : Nat} {W : World} (h : Ob N rs (.slice (some ⟨g, 0, none⟩) n c) W) (i : Nat) (b : Bool) : Ob N (rs.set i b) (.slice (some ⟨g, 0, none⟩) n c) (W.setCell ⟨g, i, none⟩ (.bool b)) := by
  obtain ⟨a, k, e⟩ := gown_form h
  injection e with e1 e2 e3
  subst e2
  have := (World.ownsRow.stored h i (.bool b)).1
  unfold Ob
  rw [List.length_set, List.map_set]
  exact this
theorem on_put {N : Nat} {rs : List Nat} {g n c : Nat} {W : World} (h : On N rs (.slice (some ⟨g, 0, none⟩) n c) W) (i k : Nat) : On N (rs.set i k) (.slice (some ⟨g, 0, none⟩) n c) (W.setCell ⟨g, i, none⟩ (.int .i64 (k : Int))) := by
  obtain ⟨a, k', e⟩ := gown_form h
  injection e with e1 e2 e3
  subst e2
  have := (World.ownsRow.stored h i (.int .i64 (k : Int))).1
  unfold On
  rw [List.length_set, List.map_set]
  exact this
/-- A block of a row. -/
theorem own_blk {N n sz : Nat} {T : TypeId} {g c m : Nat} {xs : List Value} {W : World} (h : W.ownsRow N T sz (.slice (some ⟨g, 0, none⟩) m c) n xs) : ∃ cur, W.heap[g]? = some (.cells cur T (0, 0)) ∧ N ≤ g := by
  rcases h.2 with ⟨e, _⟩ | ⟨g', cap, cur, e, h1, h2, _⟩
  · cases e
  · cases e; exact ⟨cur, h2, h1⟩
/-- Without its last one. -/
theorem on_pop {N : Nat} {l : List Nat} {k : Nat} {a : Option Addr} {m c : Nat} {W : World} (h : On N (l ++ [k]) (.slice a m c) W) : On N l (.slice a l.length c) W := by
  unfold On at h ⊢
  rw [List.map_append, List.length_append] at h
  refine ⟨by simp, ?_⟩
  rcases h.2 with ⟨_, e⟩ | ⟨g, cap, cur, e, h1, h2, h3, h4, h5, h6⟩
  · simp at e
  · cases e
    refine .inr ⟨g, c, cur, rfl, h1, h2, by simp at h3; omega, h4, h5, ?_⟩
    have := congrArg (List.take (l.length * 1)) h6
    rw [List.take_take, Nat.min_eq_left (by simp)] at this
    rw [this, List.take_left' (by simp)]
/-- Of a row of numbers all but the first are put behind another one. -/
theorem on_tail {N N' : Nat} {l t : List Nat} {k : Nat} {v : Value} {g m c : Nat} {W : World} (h : On N l v W) (h' : On N' (k :: t) (.slice (some ⟨g, 0, none⟩) m c) W) (hN : N ≤ W.heap.size) (hl : l.length + t.length ≤ 1000000) (ty : TypeId) :
    ∃ v' W', (Builtin.append_ #[38, 38] ty #[v, sliced (some ⟨g, 0, none⟩) 1 m c 1]).run Tryd.prog W = .ok v' W' ∧ On N (l ++ t) v' W' ∧ W.grownBy W' v.ownBlock := by
  obtain ⟨i0, hi, hz0, hz1, hz2⟩ := info_parts Tryd.infoN
  obtain ⟨a', c', e⟩ := gown_form h'
  injection e with e1 e2 e3
  subst e2
  have hL := own_lst h'
  have hs : sliced (some ⟨g, 0, none⟩) 1 (k :: t).length c 1 = .slice (if c = 1 then some ⟨g, 0, none⟩ else some ⟨g, 1, none⟩) t.length (c - 1) := by
    unfold sliced
    simp [Addr.add_lit]
  rw [hs]
  have hc : c = 1 → t = [] := fun e => by
    rcases h'.2 with ⟨e', _⟩ | ⟨g', cap, cur, e', h1, h2, h3, _⟩
    · cases e'
    · cases e'
      simp at h3
      exact List.eq_nil_of_length_eq_zero (by omega)
  obtain ⟨v', W', hr, h2, h3⟩ := run_append_ownS (P := Tryd.prog) W N 38 ty 3 i0 (.int .i64 0) 1 8 Tryd.underlying38 hi hz0 hz1 hz2 rfl (by decide) v _ _ h (if c = 1 then some ⟨g, 0, none⟩ else some ⟨g, 1, none⟩) t.length (c - 1) (t.map nV) (by simp) (fun e => by split at e <;> cases e) (fun ad e j u hu => by
    have hc1 : c ≠ 1 := fun e1 => by rw [hc e1] at hu; simp at hu
    rw [if_neg hc1] at e
    cases e
    obtain ⟨b, o, e, hx⟩ := hL (j + 1) u (by simpa using hu)
    cases e
    rw [Addr.add_lit]
    rw [Nat.zero_add] at hx
    rwa [Nat.add_comm 1 j]) (by intro u hu; obtain ⟨x, _, rfl⟩ := List.mem_map.1 hu; rfl) (by unfold maxLen; omega) (by omega) hN
  refine ⟨v', W', hr, ?_, h3⟩
  unfold On
  rw [List.length_append, List.map_append]
  exact h2

/-- What the search holds: what is marked, and what waits. -/
structure Se (l : List Is) (rs : List Bool) (wt : List Nat) : Prop where
  len : rs.length = l.length
  r : ∀ v, rs[v]? = some true → Rch l v
  q : ∀ v ∈ wt, v < l.length ∧ Rch l v
  c : ∀ u v, rs[u]? = some true → v ∈ nxt l u → rs[v]? = some true ∨ v ∈ wt
  z : rs[0]? = some true ∨ 0 ∈ wt
theorem rep_no {n v : Nat} : ¬ (List.replicate n false)[v]? = some true := by
  rw [List.getElem?_replicate]
  split <;> simp
theorem Se.start {l : List Is} (h : 0 < l.length) : Se l (List.replicate l.length false) [0] :=
  ⟨by simp, fun v hv => absurd hv rep_no, fun v hv => by rw [List.mem_singleton] at hv; subst hv; exact ⟨h, .zero⟩, fun u v hu => absurd hu rep_no, .inr (by simp)⟩
theorem Se.perm {l : List Is} {rs : List Bool} {wt wt' : List Nat} (h : Se l rs wt) (hp : ∀ v, v ∈ wt' ↔ v ∈ wt) : Se l rs wt' :=
  ⟨h.len, h.r, fun v hv => h.q v ((hp v).1 hv), fun u v hu hv => (h.c u v hu hv).imp id (hp v).2, h.z.imp id (hp 0).2⟩
theorem Se.pop {l : List Is} {rs : List Bool} {wt : List Nat} {k : Nat} (h : Se l rs (wt ++ [k])) : Se l rs (k :: wt) := h.perm fun v => by simp [or_comm]
theorem Se.drop {l : List Is} {rs : List Bool} {wt : List Nat} {k : Nat} (h : Se l rs (k :: wt)) (hk : rs[k]? = some true) : Se l rs wt :=
  ⟨h.len, h.r, fun v hv => h.q v (List.mem_cons_of_mem _ hv), fun u v hu hv => by
    rcases h.c u v hu hv with h1 | h1
    · exact .inl h1
    · rcases List.mem_cons.1 h1 with rfl | h1
      · exact .inl hk
      · exact .inr h1, by
    rcases h.z with h1 | h1
    · exact .inl h1
    · rcases List.mem_cons.1 h1 with rfl | h1
      · exact .inl hk
      · exact .inr h1⟩
theorem set_true {rs : List Bool} {k v : Nat} : (rs.set k true)[v]? = some true ↔ rs[v]? = some true ∨ (v = k ∧ k < rs.length) := by
  rw [List.getElem?_set]
  by_cases h : k = v
  · subst h
    rw [if_pos rfl]
    split
    · simp [*]
    · rename_i h; simp [h]
  · rw [if_neg h]
    constructor
    · exact .inl
    · rintro (h1 | ⟨h1, _⟩)
      · exact h1
      · exact absurd h1.symm h
theorem Se.mark {l : List Is} {rs : List Bool} {wt : List Nat} {k : Nat} (h : Se l rs (k :: wt)) : Se l (rs.set k true) (nxt l k ++ wt) := by
  obtain ⟨hk1, hk2⟩ := h.q k (List.mem_cons_self ..)
  have hl := h.len
  refine ⟨by rw [List.length_set, hl], fun v hv => ?_, fun v hv => ?_, fun u v hu hv => ?_, ?_⟩
  · rcases set_true.1 hv with h1 | ⟨rfl, _⟩
    · exact h.r v h1
    · exact hk2
  · rcases List.mem_append.1 hv with h1 | h1
    · exact ⟨nxt_lt h1, .step hk2 h1⟩
    · exact h.q v (List.mem_cons_of_mem _ h1)
  · rcases set_true.1 hu with h1 | ⟨rfl, _⟩
    · rcases h.c u v h1 hv with h2 | h2
      · exact .inl (set_true.2 (.inl h2))
      · rcases List.mem_cons.1 h2 with rfl | h2
        · exact .inl (set_true.2 (.inr ⟨rfl, by omega⟩))
        · exact .inr (List.mem_append_right _ h2)
    · exact .inr (List.mem_append_left _ hv)
  · rcases h.z with h1 | h1
    · exact .inl (set_true.2 (.inl h1))
    · rcases List.mem_cons.1 h1 with rfl | h1
      · exact .inl (set_true.2 (.inr ⟨rfl, by omega⟩))
      · exact .inr (List.mem_append_right _ h1)
theorem Se.done {l : List Is} {rs : List Bool} (h : Se l rs []) (h0 : 0 < l.length) (h1 : l.length ≤ 1024) : IsR l rs :=
  isR_of h0 h1 h.len (by rcases h.z with h | h; · exact h
                         · cases h) (fun u v hu hv => by rcases h.c u v hu hv with h | h; · exact h
                                                         · cases h) h.r
/-- How many are not marked yet. -/
def unm (rs : List Bool) : Nat := rs.count false
theorem unm_set {rs : List Bool} {k : Nat} (h : rs[k]? = some false) : unm (rs.set k true) + 1 = unm rs := by
  unfold unm
  obtain ⟨hk, e⟩ := List.getElem?_eq_some_iff.1 h
  rw [List.count_set hk, e]
  have : 0 < rs.count false := List.count_pos_iff.2 (List.mem_of_getElem? h)
  simp
  omega
def isF : Value → Bool
  | .bool false => true
  | _ => false
def ctF (W : World) (R : Nat) : Nat :=
  match W.heap[R]? with
  | some (.cells cs _ _) => cs.toList.countP isF
  | _ => 0
def lenV : Value → Nat
  | .slice _ n _ => n
  | _ => 0
theorem countP_bV : ∀ rs : List Bool, (rs.map bV).countP isF = rs.count false
  | [] => rfl
  | true :: r => by rw [List.map_cons, List.countP_cons, countP_bV r]; simp [bV, isF]
  | false :: r => by rw [List.map_cons, List.countP_cons, countP_bV r]; simp [bV, isF]
theorem ct_own {N : Nat} {rs : List Bool} {g n : Nat} {W : World} (h : Ob N rs (.slice (some ⟨g, 0, none⟩) n n) W) : ctF W g = unm rs := by
  rcases h.2 with ⟨e, _⟩ | ⟨g', cap, cur, e, h1, h2, h3, h4, h5, h6⟩
  · cases e
  · injection e with e1 e2 e3
    cases e1
    subst e3
    unfold ctF
    rw [h2]
    simp only
    rw [List.take_of_length_le (by rw [Array.length_toList]; omega)] at h6
    rw [h6, countP_bV]
    rfl
/-- And where it lies. -/
structure RI (w w1 : World) (R : Nat) (rs : List Bool) (wt : List Nat) (vw : Value) (W : World) : Prop where
  r : Ob (w.heap.size + 1) rs (.slice (some ⟨R, 0, none⟩) rs.length rs.length) W
  q : On (w.heap.size + 1) wt vw W
  b : Below (w.heap.size + 1) w1 W
theorem RI.stay {w w1 : World} {R : Nat} {rs : List Bool} {wt : List Nat} {vw : Value} {W W' : World} (h : RI w w1 R rs wt vw W) (hs : w.heap.size + 1 ≤ W.heap.size) (hb : Below W.heap.size W W') : RI w w1 R rs wt vw W' := ⟨own_stay h.r hb, own_stay h.q hb, h.b.trans (hb.mono hs)⟩
theorem RI.put {w w1 : World} {R : Nat} {rs : List Bool} {wt : List Nat} {vw : Value} {W : World} (h : RI w w1 R rs wt vw W) (i : Nat) (b : Bool) : RI w w1 R (rs.set i b) wt vw (W.setCell ⟨R, i, none⟩ (.bool b)) := by
  obtain ⟨cur, hc, hR⟩ := own_blk h.r
  exact ⟨by have := ob_put h.r i b; rwa [List.length_set], own_set h.q hc (by decide) i _, h.b.setCell (by simp only; omega) _⟩
theorem RI.grow {w w1 : World} {R : Nat} {rs : List Bool} {wt wt' : List Nat} {vw vw' : Value} {W W' : World} (h : RI w w1 R rs wt vw W) (hs : w.heap.size + 1 ≤ W.heap.size) (hg : W.grownBy W' vw.ownBlock) (ho : On (w.heap.size + 1) wt' vw' W') : RI w w1 R rs wt' vw' W' :=
  ⟨h.r.kept hg (own_ne h.r h.q (by decide)), ho, h.b.grown hg hs (fun k e => own_base h.q k e)⟩
end Go.Proofs.YtgiokognngllcaaDoor

/- What can be reached: flow.Reach. -/
namespace Go.Proofs.YtgiokognngllcaaDoor
open Go.RowKit Go.Sort

theorem Tryd.elemN : Tryd.prog.elem 38 = 3 := by kernel_rfl
theorem slice_first (W : World) (g len c k : Nat) (h : k ≤ c) : (Instr.slice 38 (.slice (some ⟨g, 0, none⟩) len c) none (some (.int .i64 (k : Int))) none).run Tryd.prog W = .ok (.slice (some ⟨g, 0, none⟩) k c) W := by
  have hu : Tryd.prog.underlying 38 = some (.slice (Tryd.prog.elem 38)) := by rw [Tryd.elemN]; exact Tryd.underlying38
  rw [run_slice_h W 38 _ len c hu .i64 (k : Int) (by omega) (by omega), Tryd.elemN, Int.toNat_natCast]
  obtain ⟨i0, hi, hz0, hz1, hz2⟩ := info_parts Tryd.infoN
  simp [sizeOf, typeInfo, hi, hz1, sliced, Addr.add_lit]
/-- All but the first. -/
theorem tail_of {N N' : Nat} {l t : List Nat} {k : Nat} {v : Value} {g m c : Nat} {W : World} (h : On N l v W) (h' : On N' (k :: t) (.slice (some ⟨g, 0, none⟩) m c) W) (hN : N ≤ W.heap.size) (hl : l.length + t.length ≤ 1000000) (ty : TypeId) :
    ∃ A C, (∀ W, (Instr.slice 38 (.slice (some ⟨g, 0, none⟩) (t.length + 1) c) (some (.int .i64 1)) none none).run Tryd.prog W = .ok (.slice A t.length C) W) ∧ ∃ v' W', (Builtin.append_ #[38, 38] ty #[v, .slice A t.length C]).run Tryd.prog W = .ok v' W' ∧ On N (l ++ t) v' W' ∧ W.grownBy W' v.ownBlock := by
  obtain ⟨a', c', e⟩ := gown_form h'
  injection e with e1 e2 e3
  obtain ⟨v', W', h1, h2, h3⟩ := on_tail h h' hN hl ty
  have hs : sliced (some ⟨g, 0, none⟩) 1 m c 1 = .slice (if c = 1 then some ⟨g, 0, none⟩ else some ⟨g, 1, none⟩) t.length (c - 1) := by
    rw [e2]
    unfold sliced
    simp [Addr.add_lit]
  rw [hs] at h1
  refine ⟨_, _, fun W => ?_, v', W', h1, h2, h3⟩
  have hu : Tryd.prog.underlying 38 = some (.slice (Tryd.prog.elem 38)) := by rw [Tryd.elemN]; exact Tryd.underlying38
  rw [run_slice_l W 38 _ (t.length + 1) c hu .i64 1 (by omega) (by omega), Tryd.elemN]
  obtain ⟨i0, hi, hz0, hz1, hz2⟩ := info_parts Tryd.infoN
  have e2' : t.length + 1 = m := by rw [e2]; simp
  simp [sizeOf, typeInfo, hi, hz1]
  rw [← hs, e2']
theorem own_cell {W : World} {N n : Nat} {T : TypeId} {a : Option Addr} {c : Nat} {xs : List Value} (h : W.ownsRow N T 1 (.slice a n c) n xs) {j : Nat} {u : Value} (hj : xs[j]? = some u) : ∃ g, a = some ⟨g, 0, none⟩ ∧ W.cell? ⟨g, j, none⟩ = some u ∧ n ≤ c := by
  rcases h.2 with ⟨e, h0⟩ | ⟨g, cap, cur, e, _, _, h3, _⟩
  · have := h.1
    have := (List.getElem?_eq_some_iff.1 hj).1
    omega
  · cases e
    refine ⟨g, rfl, ?_, h3⟩
    have := h.cells (g := g) rfl j u hj
    rwa [Addr.add_lit, Nat.zero_add] at this
theorem on_at {W : World} {N : Nat} {a : Option Addr} {c m : Nat} {l : List Nat} (h : On N l (.slice a m c) W) {j k : Nat} (hj : l[j]? = some k) : ∃ g, a = some ⟨g, 0, none⟩ ∧ W.cell? ⟨g, j, none⟩ = some (.int .i64 (k : Int)) ∧ m ≤ c ∧ m = l.length := by
  obtain ⟨a', c', e⟩ := gown_form h
  injection e with e1 e2 e3
  subst e2
  obtain ⟨g, h1, h2, h3⟩ := own_cell h (j := j) (u := nV k) (by rw [List.getElem?_map, hj]; rfl)
  exact ⟨g, h1, h2, h3, rfl⟩
theorem ob_at {W : World} {N : Nat} {a : Option Addr} {c m : Nat} {l : List Bool} (h : Ob N l (.slice a m c) W) {j : Nat} {k : Bool} (hj : l[j]? = some k) : ∃ g, a = some ⟨g, 0, none⟩ ∧ W.cell? ⟨g, j, none⟩ = some (.bool k) ∧ m ≤ c ∧ m = l.length := by
  obtain ⟨a', c', e⟩ := gown_form h
  injection e with e1 e2 e3
  subst e2
  obtain ⟨g, h1, h2, h3⟩ := own_cell h (j := j) (u := bV k) (by rw [List.getElem?_map, hj]; rfl)
  exact ⟨g, h1, h2, h3, rfl⟩
theorem concat_of {l : List Nat} (h : l ≠ []) : ∃ t k, l = t ++ [k] := ⟨l.dropLast, l.getLast h, (List.dropLast_concat_getLast h).symm⟩
def ReP (l : List Is) (w : World) (e : Ending) (w' : World) : Prop := ∃ v rs, e = .returned v ∧ IsR l rs ∧ Ob w.heap.size rs v w' ∧ Below w.heap.size w w'
set_option maxRecDepth 100000 in
set_option maxHeartbeats 4000000 in
theorem reach_any (f : Fn) (w : World) (hi : Iss w f.ca f.code) : Calls Tryd.prog 51 #[f.val] w (ReP f.code w) := by
  have HN : Hid (∀ (k : Nat) w', Below w.heap.size w w' → Calls Tryd.prog 54 #[f.val, .int .i64 (k : Int)] w' (NxP (nxt f.code k) w')) := fun k w' hb => by
    have := next_any f k w' (hi.stay hb)
    rwa [nxZ_nat] at this
  obtain ⟨fn, fpa, fpc, fps, frg, fwd, fca, fcc, fl⟩ := f
  unfold Fn.val at *
  simp only at hi HN ⊢
  have HB := Hid.mk' (Below.one (Below.refl _ w) (.cells #[.string fn, .slice fpa fps.length fpc, .int .i64 frg, .int .i64 fwd, .slice fca fl.length fcc] 25))
  have HX := Hid.mk' (heap_alloc_new w (.cells #[.string fn, .slice fpa fps.length fpc, .int .i64 frg, .int .i64 fwd, .slice fca fl.length fcc] 25))
  have y4 := cell_of_obj HX.out (j := 4) (v := .slice fca fl.length fcc) rfl
  have hc := hi.1
  clear hi
  by_cases h0 : fl.length = 0
  · have hq : ((fl.length : Int) == 0) = true := by simp [h0]
    have HR : Hid (IsR fl []) := .inl ⟨.inl h0, rfl⟩
    clear h0
    go_enter Tryd.func51, Tryd.ntmps51
    go_wp2_with fail
    go_step3
    go_wp2_with fail
    go_ret
    exact ⟨_, [], rfl, HR.out, ob_nil _ _, HB.out⟩
  have hq : ((fl.length : Int) == 0) = false := beq_no (by omega)
  by_cases h1 : 1024 < fl.length
  · have hg : (1024 : Int) < (fl.length : Int) := by omega
    have HR : Hid (IsR fl []) := .inl ⟨.inr h1, rfl⟩
    clear h0 h1
    go_enter Tryd.func51, Tryd.ntmps51
    go_wp2_with fail
    go_step3
    go_wp2_with fail
    go_ret
    exact ⟨_, [], rfl, HR.out, ob_nil _ _, HB.out⟩
  have hg : ¬ (1024 : Int) < (fl.length : Int) := by omega
  have HL : Hid (0 < fl.length ∧ fl.length ≤ 1024) := ⟨by omega, by omega⟩
  have hmk : ∀ W, _ := fun W => run_mkB W fl.length (by omega)
  clear h0 h1
  go_enter Tryd.func51, Tryd.ntmps51
  go_wp2_with fail
  go_step3
  go_wp2_with fail
  have HR0 : Hid (RI w (w.alloc (.cells #[.string fn, .slice fpa fps.length fpc, .int .i64 frg, .int .i64 fwd, .slice fca fl.length fcc] 25)) (w.heap.size + 1) (List.replicate fl.length false) [0] (.slice (some ⟨w.heap.size + 1 + 1, 0, none⟩) 1 1) (((w.alloc (.cells #[.string fn, .slice fpa fps.length fpc, .int .i64 frg, .int .i64 fwd, .slice fca fl.length fcc] 25)).alloc (.cells (mkB fl.length) 4)).alloc (.cells #[.int .i64 0] 3))) := by
    generalize hw1 : w.alloc (.cells #[.string fn, .slice fpa fps.length fpc, .int .i64 frg, .int .i64 fwd, .slice fca fl.length fcc] 25) = w1
    have hs : w1.heap.size = w.heap.size + 1 := by rw [← hw1]; simp
    have h1 := own_mkB w1 fl.length (by have := HL.out; omega)
    have h2 := own_lit (w1.alloc (.cells (mkB fl.length) 4)) 0
    have b1 := Below.one (Below.refl _ w1) (.cells (mkB fl.length) 4)
    have b2 := Below.one (Below.refl _ (w1.alloc (.cells (mkB fl.length) 4))) (.cells #[.int .i64 0] 3)
    rw [World.size_alloc] at h2
    rw [hs] at h1 h2 b1
    refine ⟨?_, own_mono h2 (Nat.le_succ _), ?_⟩
    · rw [List.length_replicate]; exact own_stay h1 b2
    · exact b1.trans (b2.mono (by rw [World.size_alloc, hs]; omega))
  have HZ : Hid (Se fl (List.replicate fl.length false) [0]) := Se.start HL.out.1
  have HU : Hid (2 * unm (List.replicate fl.length false) + ([0] : List Nat).length ≤ 3000) := by
    have := HL.out.2
    have h2 : unm (List.replicate fl.length false) ≤ fl.length := by unfold unm; exact Nat.le_trans List.count_le_length (by simp)
    show _ ≤ _
    simp only [List.length_cons, List.length_nil]
    omega
  go_step3
  go_wp2_with fail
  have HW1 : Hid (∀ W : World, Below (w.heap.size + 1) (w.alloc (.cells #[.string fn, .slice fpa fps.length fpc, .int .i64 frg, .int .i64 fwd, .slice fca fl.length fcc] 25)) W → W.heap[w.heap.size]? = some (.cells #[.string fn, .slice fpa fps.length fpc, .int .i64 frg, .int .i64 fwd, .slice fca fl.length fcc] 25) ∧ Below w.heap.size w W ∧ w.heap.size + 1 ≤ W.heap.size) := by
    intro W hb
    have h1 := (hb.block _ (Nat.lt_succ_self _)).trans HX.out
    exact ⟨h1, HB.out.trans (hb.mono (Nat.le_succ _)), (Array.getElem?_eq_some_iff.1 h1).1⟩
  clear HX y4 HB hmk
  generalize w.alloc (.cells #[.string fn, .slice fpa fps.length fpc, .int .i64 frg, .int .i64 fwd, .slice fca fl.length fcc] 25) = w1 at *
  generalize (w1.alloc (.cells (mkB fl.length) 4)).alloc (.cells #[.int .i64 0] 3) = W0 at *
  go_loopw [4] (fun t4 wr => ∃ (rs : List Bool) (wt : List Nat) (vw : Value), t4 = vw ∧ Se fl rs wt ∧ RI w w1 (w.heap.size + 1) rs wt vw wr ∧ 2 * unm rs + wt.length ≤ 3000) (fun t4 wr => 2 * ctF wr (w.heap.size + 1) + lenV t4)
  case atStart => exact ⟨_, _, _, rfl, HZ.out, HR0.out, HU.out⟩
  case round =>
    obtain ⟨rs, wt, vw, rfl, hse, hri, hun⟩ := hrel
    have HSE := Hid.mk' hse
    have HRI := Hid.mk' hri
    have HUN := Hid.mk' hun
    obtain ⟨aw, cw, rfl⟩ := gown_form hri.q
    clear hse hri hun HZ HR0 HU
    by_cases hwt : wt = []
    · subst hwt
      go_wp2_with fail
      go_ret
      refine ⟨_, rs, rfl, HSE.out.done HL.out.1 HL.out.2, ?_, (HW1.out _ HRI.out.b).2.1⟩
      have := HRI.out.r
      rw [HSE.out.len] at this
      exact own_mono this (Nat.le_succ _)
    · obtain ⟨wt, k0, rfl⟩ := concat_of hwt
      obtain ⟨gw, rfl, d0, hcw, _⟩ := on_at HRI.out.q (j := wt.length) (k := k0) (by simp)
      have hlw : (wt ++ [k0]).length = wt.length + 1 := by simp
      have hun := HUN.out
      rw [hlw] at hcw hun ⊢
      obtain ⟨M, hM⟩ : ∃ M, M = 2 * unm rs + wt.length + 1 := ⟨_, rfl⟩
      have HMM : Hid (2 * unm rs + wt.length + 1 ≤ M) := Nat.le_of_eq hM.symm
      have HM0 : Hid (2 * ctF wr (w.heap.size + 1) + lenV (.slice (some ⟨gw, 0, none⟩) (wt.length + 1) cw) = M) := by
        show _ = _
        rw [ct_own HRI.out.r, hM]; rfl
      have hw3 : wt.length ≤ 3000 := by omega
      have HM3 : Hid (M ≤ 3000) := (by omega : M ≤ 3000)
      clear hM
      have hsl : ∀ W, _ := fun W => slice_first W gw (wt.length + 1) cw wt.length (by omega)
      have HRI2 : Hid (RI w w1 (w.heap.size + 1) rs wt (.slice (some ⟨gw, 0, none⟩) wt.length cw) wr) := ⟨HRI.out.r, on_pop HRI.out.q, HRI.out.b⟩
      have HSE2 := Hid.mk' HSE.out.pop
      clear HRI HSE HUN hun hlw hwt hcw
      go_wp2_with fail
      obtain ⟨Wo, hWo⟩ : ∃ Wo, Wo = wr := ⟨_, rfl⟩
      subst hWo
      go_loopw [4, 6] (fun t4 t6 wr => ∃ (rs : List Bool) (wt : List Nat) (vw : Value) (k : Nat), t4 = vw ∧ t6 = .int .i64 (k : Int) ∧ Se fl rs (k :: wt) ∧ RI w w1 (w.heap.size + 1) rs wt vw wr ∧ 2 * unm rs + wt.length + 1 ≤ M) (fun t4 _ wr => 2 * ctF wr (w.heap.size + 1) + lenV t4)
      case atStart => exact ⟨_, _, _, _, rfl, rfl, HSE2.out, HRI2.out, HMM.out⟩
      case round =>
        clear HRI2 HSE2 HMM hsl d0 hw3
        obtain ⟨rs, wt, vw, k, rfl, rfl, hse, hri, hun⟩ := hrel
        obtain ⟨aw, cw, rfl⟩ := gown_form hri.q
        have hkl := (hse.q k (List.mem_cons_self ..)).1
        have hrl := hse.len
        obtain ⟨bk, hbk⟩ : ∃ b, rs[k]? = some b := ⟨_, List.getElem?_eq_getElem (by omega)⟩
        obtain ⟨g', e', d0, _, _⟩ := ob_at hri.r hbk
        cases e'
        have f0 := World.ownsRow.frozenAt hri.r k
        have hki : (k : Int) < (fl.length : Int) := by omega
        have HSE := Hid.mk' hse
        have HRI := Hid.mk' hri
        have HUN := Hid.mk' hun
        have HBK := Hid.mk' hbk
        clear hse hri hun hbk hrl hkl
        cases bk
        · have HRI1 := Hid.mk' (HRI.out.put k true)
          have HC1 : Hid (2 * ctF wr (w.heap.size + 1) + wt.length = 2 * unm rs + wt.length) := (by rw [ct_own HRI.out.r] : _ = _)
          obtain ⟨hx, hbw, hsz⟩ := HW1.out _ HRI1.out.b
          have HBW := Hid.mk' hbw
          have HSZ := Hid.mk' hsz
          have z0 := cell_of_obj hx (j := 0) (v := .string fn) rfl
          have z1 := cell_of_obj hx (j := 1) (v := .slice fpa fps.length fpc) rfl
          have z2 := cell_of_obj hx (j := 2) (v := .int .i64 frg) rfl
          have z3 := cell_of_obj hx (j := 3) (v := .int .i64 fwd) rfl
          have z4 := cell_of_obj hx (j := 4) (v := .slice fca fl.length fcc) rfl
          clear hx hbw hsz
          go_upto_region 11 with fail
          generalize wr.setCell ⟨w.heap.size + 1, k, none⟩ (.bool true) = W1 at *
          clear d0 f0
          go_wp2_with fail
          refine (HN.out k _ HBW.out).mono ?_
          rintro e W2 ⟨v2, rfl, on2, bb2⟩
          replace HRI1 := Hid.mk' (HRI1.out.stay HSZ.out bb2)
          have HSZ2 : Hid (w.heap.size + 1 ≤ W2.heap.size) := Nat.le_trans HSZ.out bb2.size
          have HMK := Hid.mk' HSE.out.mark
          have HUM := Hid.mk' (unm_set HBK.out)
          have hl2 := nxt_len fl k
          obtain ⟨a2, c2, rfl⟩ := gown_form on2
          clear z0 z1 z2 z3 z4 bb2
          generalize nxt fl k = nx at *
          cases nx with
          | nil =>
            go_wp2_with fail
            go_roundw
            case rel => exact ⟨_, wt, _, rfl, HMK.out, HRI1.out, by have := HUM.out; have := HUN.out; have := HM3.out; omega⟩
            case measure =>
              show 2 * ctF W2 _ + wt.length < _
              rw [HM0.out, ct_own HRI1.out.r]
              have := HUM.out; have := HUN.out; omega
          | cons k2 t =>
            have HON := Hid.mk' on2
            obtain ⟨g2, rfl, e0, hc2, _⟩ := on_at on2 (j := 0) (k := k2) rfl
            have HT1 : Hid (t.length ≤ 1) := (by simp at hl2; omega : t.length ≤ 1)
            have ht1 := HT1.out
            have hwl : wt.length ≤ 3000 := by have := HUN.out; have := HM3.out; omega
            rw [show (k2 :: t).length = t.length + 1 from rfl] at HON hc2 ⊢
            obtain ⟨A, C, hsl, hap⟩ := tail_of HRI1.out.q HON.out HSZ2.out (by omega) 38
            have HAP := Hid.mk' hap
            clear hap on2 hl2 hc2
            go_wp2_with (at_builtin; refine wpl_app rfl _ _ 38 38 _ _ rfl rfl rfl HAP.out ?_; rintro v3 W3 ⟨on3, gr3⟩)
            obtain ⟨a3, c3, rfl⟩ := gown_form on3
            have HR3 := Hid.mk' (HRI1.out.grow HSZ2.out gr3 on3)
            go_roundw
            case rel => exact ⟨_, _, _, k2, rfl, rfl, HMK.out.perm (fun v => by simp [or_comm]), HR3.out, by rw [List.length_append]; have := HUM.out; have := HUN.out; omega⟩
            case measure =>
              show 2 * ctF W3 _ + (wt ++ t).length < 2 * ctF wr _ + wt.length
              rw [ct_own HR3.out.r, HC1.out, List.length_append]
              have := HUM.out; omega
        · have HC1 := Hid.mk' (ct_own HRI.out.r)
          go_wp2_with fail
          go_roundw
          case rel => exact ⟨_, _, _, rfl, HSE.out.drop HBK.out, HRI.out, by have := HUN.out; have := HM3.out; omega⟩
          case measure =>
            show 2 * ctF wr _ + wt.length < _
            rw [HM0.out, HC1.out]
            have := HUN.out; omega
end Go.Proofs.YtgiokognngllcaaDoor

/- What can be reached without one instruction: the document's own search. -/
namespace Go.Proofs.YtgiokognngllcaaDoor
open Go.RowKit Go.Sort

/-- By ways without g. -/
inductive RchW (l : List Is) (g : Int) : Nat → Prop
  | zero : g ≠ 0 → RchW l g 0
  | step {u v : Nat} : RchW l g u → v ∈ nxt l u → (v : Int) ≠ g → RchW l g v
theorem rchW_all {l : List Is} {v : Nat} : RchW l (-1) v ↔ Rch l v := by
  constructor
  · intro h
    induction h with
    | zero => exact .zero
    | step _ h _ ih => exact .step ih h
  · intro h
    induction h with
    | zero => exact .zero (by omega)
    | step _ h ih => exact .step ih h (by omega)
def IsW (l : List Is) (g : Int) (rs : List Bool) : Prop := ((l.length = 0 ∨ 1024 < l.length) ∧ rs = []) ∨ (0 < l.length ∧ l.length ≤ 1024 ∧ rs.length = l.length ∧ ∀ v, rs[v]? = some true ↔ RchW l g v)
theorem isW_all {l : List Is} {rs : List Bool} (h : IsW l (-1) rs) : IsR l rs := by
  rcases h with h | ⟨h1, h2, h3, h4⟩
  · exact .inl h
  · exact .inr ⟨h1, h2, h3, fun v => (h4 v).trans rchW_all⟩
/-- What the search holds. -/
structure Sb (l : List Is) (g : Int) (rs : List Bool) (td : List Nat) (i : Nat) : Prop where
  len : rs.length = l.length
  q : ∀ v ∈ td, RchW l g v ∧ v < l.length
  m : ∀ v, rs[v]? = some true ↔ v ∈ td
  n : unm rs + td.length = l.length
  c : ∀ u v, u ∈ td.take i → v ∈ nxt l u → (v : Int) ≠ g → v ∈ td
  z : 0 ∈ td
  il : i ≤ td.length
theorem unm_rep (n : Nat) : unm (List.replicate n false) = n := by unfold unm; simp
theorem Sb.start {l : List Is} {g : Int} (h : 0 < l.length) (hg : g ≠ 0) : Sb l g ((List.replicate l.length false).set 0 true) [0] 0 := by
  have h0 : (List.replicate l.length false)[0]? = some false := by rw [List.getElem?_replicate, if_pos h]
  have := unm_set h0
  rw [unm_rep] at this
  refine ⟨by simp, fun v hv => ?_, fun v => ?_, by simpa using this, fun u v hu => by simp at hu, by simp, by simp⟩
  · rw [List.mem_singleton] at hv; subst hv; exact ⟨.zero hg, h⟩
  · rw [set_true, List.mem_singleton, List.length_replicate]
    constructor
    · rintro (h1 | h1)
      · exact absurd h1 rep_no
      · exact h1.1
    · exact fun e => .inr ⟨e, h⟩
theorem Sb.add {l : List Is} {g : Int} {rs : List Bool} {td : List Nat} {i v : Nat} (h : Sb l g rs td i) (hv : v < l.length) (hr : RchW l g v) (hn : v ∉ td) : Sb l g (rs.set v true) (td ++ [v]) i := by
  have hl := h.len
  have hvf : rs[v]? = some false := by
    cases e : rs[v]? with
    | none => rw [List.getElem?_eq_none_iff] at e; omega
    | some b => cases b
                · rfl
                · exact absurd ((h.m v).1 e) hn
  have hu := unm_set hvf
  have hc := h.n
  refine ⟨by rw [List.length_set, hl], fun x hx => ?_, fun x => ?_, by rw [List.length_append]; simp only [List.length_cons, List.length_nil]; omega, fun x y hx hy hg => ?_, List.mem_append_left _ h.z, by rw [List.length_append]; have := h.il; omega⟩
  · rcases List.mem_append.1 hx with hx | hx
    · exact h.q x hx
    · rw [List.mem_singleton] at hx; subst hx; exact ⟨hr, hv⟩
  · rw [set_true, h.m x, List.mem_append, List.mem_singleton]
    constructor
    · rintro (h1 | h1)
      · exact .inl h1
      · exact .inr h1.1
    · rintro (h1 | h1)
      · exact .inl h1
      · exact .inr ⟨h1, by omega⟩
  · rw [List.take_append_of_le_length h.il] at hx
    exact List.mem_append_left _ (h.c x y hx hy hg)
theorem Sb.next {l : List Is} {g : Int} {rs : List Bool} {td : List Nat} {i u : Nat} (h : Sb l g rs td i) (hu : td[i]? = some u) (ha : ∀ v ∈ nxt l u, (v : Int) ≠ g → v ∈ td) : Sb l g rs td (i + 1) := by
  obtain ⟨hi, e⟩ := List.getElem?_eq_some_iff.1 hu
  refine ⟨h.len, h.q, h.m, h.n, fun x y hx hy hg => ?_, h.z, hi⟩
  rw [List.take_succ_eq_append_getElem hi, List.mem_append, List.mem_singleton] at hx
  rcases hx with hx | rfl
  · exact h.c x y hx hy hg
  · rw [e] at hy; exact ha y hy hg
theorem Sb.done {l : List Is} {g : Int} {rs : List Bool} {td : List Nat} {i : Nat} (h : Sb l g rs td i) (hi : ¬ i < td.length) (h0 : 0 < l.length) (h1 : l.length ≤ 1024) : IsW l g rs := by
  refine .inr ⟨h0, h1, h.len, fun v => ⟨fun hv => (h.q v ((h.m v).1 hv)).1, fun hv => (h.m v).2 ?_⟩⟩
  induction hv with
  | zero => exact h.z
  | step _ hv hg ih => exact h.c _ _ (by rw [List.take_of_length_le (by omega)]; exact ih) hv hg
theorem isW_none {l : List Is} (h0 : 0 < l.length) (h1 : l.length ≤ 1024) : IsW l 0 (List.replicate l.length false) := by
  refine .inr ⟨h0, h1, by simp, fun v => ⟨fun h => absurd h rep_no, fun h => ?_⟩⟩
  exfalso
  induction h with
  | zero h => exact h rfl
  | step _ _ _ ih => exact ih

set_option maxHeartbeats 1000000 in
theorem has_any (f : Fn) (w : World) : Calls Tryd.prog 47 #[f.val] w fun e w' => e = .returned (.bool (decide (0 < f.code.length ∧ f.code.length ≤ 1024))) ∧ Below w.heap.size w w' := by
  obtain ⟨fn, fpa, fpc, fps, frg, fwd, fca, fcc, fl⟩ := f
  unfold Fn.val
  simp only
  have HB := Hid.mk' (Below.one (Below.refl _ w) (.cells #[.string fn, .slice fpa fps.length fpc, .int .i64 frg, .int .i64 fwd, .slice fca fl.length fcc] 25))
  by_cases h : 0 < fl.length
  · have hq : (0 : Int) < (fl.length : Int) := by omega
    go_enter Tryd.func47, Tryd.ntmps47
    go_wp2_with fail
    go_ret
    exact ⟨ret_bool (by rw [Bool.eq_iff_iff]; simp; omega), HB.out⟩
  · have hq : ¬ (0 : Int) < (fl.length : Int) := by omega
    go_enter Tryd.func47, Tryd.ntmps47
    go_wp2_with fail
    go_ret
    exact ⟨ret_bool rfl, HB.out⟩
end Go.Proofs.YtgiokognngllcaaDoor
