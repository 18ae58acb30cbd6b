/- Rows that are made and written; the search of what can be reached, plain. -/
import Derived.Test.YtfmkjdfidenfkaaDoorZaf
namespace Go.Proofs.YtfmkjdfidenfkaaDoor
open Go.RowKit Go.Sort

/-- Rows of a length. -/
def mkB (n : Nat) : Array Value := madeCells #[.bool false] n
def mkN (n : Nat) : Array Value := madeCells #[.int .i64 0] n
theorem run_mkB (W : World) (n : Nat) (hn : n ≤ 1000000) : (Instr.makeSlice 62 (.int .i64 (n : Int)) (.int .i64 (n : Int))).run Tryd.prog W = .ok (.slice (some ⟨W.heap.size, 0, none⟩) n n) (W.alloc (.cells (mkB n) 4)) := by
  obtain ⟨i0, hi, hz0, hz1, hz2⟩ := info_parts Tryd.infoBool
  have := run_make (P := Tryd.prog) W 62 4 i0 (.bool false) Tryd.underlying62 hi hz0 .i64 .i64 n n (by omega) (Int.le_refl _) (by rw [hz2]; omega) (by omega)
  rw [hz1, Int.toNat_natCast, Nat.mul_one] at this
  exact this
theorem run_mkN (W : World) (n : Nat) (hn : n ≤ 1000000) : (Instr.makeSlice 38 (.int .i64 (n : Int)) (.int .i64 (n : Int))).run Tryd.prog W = .ok (.slice (some ⟨W.heap.size, 0, none⟩) n n) (W.alloc (.cells (mkN n) 3)) := by
  obtain ⟨i0, hi, hz0, hz1, hz2⟩ := info_parts Tryd.infoN
  have := run_make (P := Tryd.prog) W 38 3 i0 (.int .i64 0) Tryd.underlying38 hi hz0 .i64 .i64 n n (by omega) (Int.le_refl _) (by rw [hz2]; omega) (by omega)
  rw [hz1, Int.toNat_natCast, Nat.mul_one] at this
  exact this
theorem own_mkB (W : World) (n : Nat) (hn : n ≤ 1000000) : Ob W.heap.size (List.replicate n false) (.slice (some ⟨W.heap.size, 0, none⟩) n n) (W.alloc (.cells (mkB n) 4)) := by
  have := World.ownsRow_lit (base := W.heap.size) (e := 4) (size := 1) W (mkB n) n (Nat.le_refl _) (by unfold maxLen; omega) (by unfold mkB; rw [← Array.length_toList, toList_madeCells_one]; simp)
  unfold Ob
  rw [List.length_replicate, List.map_replicate]
  rw [show (mkB n).toList = List.replicate n (bV false) from toList_madeCells_one _ _] at this
  exact this
theorem own_mkN (W : World) (n : Nat) (hn : n ≤ 1000000) : On W.heap.size (List.replicate n 0) (.slice (some ⟨W.heap.size, 0, none⟩) n n) (W.alloc (.cells (mkN n) 3)) := by
  have := World.ownsRow_lit (base := W.heap.size) (e := 3) (size := 1) W (mkN n) n (Nat.le_refl _) (by unfold maxLen; omega) (by unfold mkN; rw [← Array.length_toList, toList_madeCells_one]; simp)
  unfold On
  rw [List.length_replicate, List.map_replicate]
  rw [show (mkN n).toList = List.replicate n (nV 0) from toList_madeCells_one _ _] at this
  exact this
theorem own_lit (W : World) (k : Nat) : On W.heap.size [k] (.slice (some ⟨W.heap.size, 0, none⟩) 1 1) (W.alloc (.cells #[.int .i64 (k : Int)] 3)) :=
  World.ownsRow_lit (base := W.heap.size) (e := 3) (size := 1) W #[.int .i64 (k : Int)] 1 (Nat.le_refl _) (by unfold maxLen; omega) rfl
theorem ob_put {N : Nat} {rs : List Bool} {g n c : Nat} {W : World} (h : Ob N rs (.slice (some ⟨g, 0, none⟩) n c) W) (i : Nat) (b : Bool) : Ob N (rs.set i b) (.slice (some ⟨g, 0, none⟩) n c) (W.setCell ⟨g, i, none⟩ (.bool b)) := by
  obtain ⟨a, k, e⟩ := gown_form h
  injection e with e1 e2 e3
  subst e2
  have := (World.ownsRow.stored h i (.bool b)).1
  unfold Ob
  rw [List.length_set, List.map_set]
  exact this
theorem on_put {N : Nat} {rs : List Nat} {g n c : Nat} {W : World} (h : On N rs (.slice (some ⟨g, 0, none⟩) n c) W) (i k : Nat) : On N (rs.set i k) (.slice (some ⟨g, 0, none⟩) n c) (W.setCell ⟨g, i, none⟩ (.int .i64 (k : Int))) := by
  obtain ⟨a, k', e⟩ := gown_form h
  injection e with e1 e2 e3
  subst e2
  have := (World.ownsRow.stored h i (.int .i64 (k : Int))).1
  unfold On
  rw [List.length_set, List.map_set]
  exact this
/-- A block of a row. -/
theorem own_blk {N n sz : Nat} {T : TypeId} {g c m : Nat} {xs : List Value} {W : World} (h : W.ownsRow N T sz (.slice (some ⟨g, 0, none⟩) m c) n xs) : ∃ cur, W.heap[g]? = some (.cells cur T (0, 0)) ∧ N ≤ g := by
  rcases h.2 with ⟨e, _⟩ | ⟨g', cap, cur, e, h1, h2, _⟩
  · cases e
  · cases e; exact ⟨cur, h2, h1⟩
/-- Without its last one. -/
theorem on_pop {N : Nat} {l : List Nat} {k : Nat} {a : Option Addr} {m c : Nat} {W : World} (h : On N (l ++ [k]) (.slice a m c) W) : On N l (.slice a l.length c) W := by
  unfold On at h ⊢
  rw [List.map_append, List.length_append] at h
  refine ⟨by simp, ?_⟩
  rcases h.2 with ⟨_, e⟩ | ⟨g, cap, cur, e, h1, h2, h3, h4, h5, h6⟩
  · simp at e
  · cases e
    refine .inr ⟨g, c, cur, rfl, h1, h2, by simp at h3; omega, h4, h5, ?_⟩
    have := congrArg (List.take (l.length * 1)) h6
    rw [List.take_take, Nat.min_eq_left (by simp)] at this
    rw [this, List.take_left' (by simp)]
/-- Of a row of numbers all but the first are put behind another one. -/
theorem on_tail {N N' : Nat} {l t : List Nat} {k : Nat} {v : Value} {g m c : Nat} {W : World} (h : On N l v W) (h' : On N' (k :: t) (.slice (some ⟨g, 0, none⟩) m c) W) (hN : N ≤ W.heap.size) (hl : l.length + t.length ≤ 1000000) (ty : TypeId) :
    ∃ v' W', (Builtin.append_ #[38, 38] ty #[v, sliced (some ⟨g, 0, none⟩) 1 m c 1]).run Tryd.prog W = .ok v' W' ∧ On N (l ++ t) v' W' ∧ W.grownBy W' v.ownBlock := by
  obtain ⟨i0, hi, hz0, hz1, hz2⟩ := info_parts Tryd.infoN
  obtain ⟨a', c', e⟩ := gown_form h'
  injection e with e1 e2 e3
  subst e2
  have hL := own_lst h'
  have hs : sliced (some ⟨g, 0, none⟩) 1 (k :: t).length c 1 = .slice (if c = 1 then some ⟨g, 0, none⟩ else some ⟨g, 1, none⟩) t.length (c - 1) := by
    unfold sliced
    simp [Addr.add_lit]
  rw [hs]
  have hc : c = 1 → t = [] := fun e => by
    rcases h'.2 with ⟨e', _⟩ | ⟨g', cap, cur, e', h1, h2, h3, _⟩
    · cases e'
    · cases e'
      simp at h3
      exact List.eq_nil_of_length_eq_zero (by omega)
  obtain ⟨v', W', hr, h2, h3⟩ := run_append_ownS (P := Tryd.prog) W N 38 ty 3 i0 (.int .i64 0) 1 8 Tryd.underlying38 hi hz0 hz1 hz2 rfl (by decide) v _ _ h (if c = 1 then some ⟨g, 0, none⟩ else some ⟨g, 1, none⟩) t.length (c - 1) (t.map nV) (by simp) (fun e => by split at e <;> cases e) (fun ad e j u hu => by
    have hc1 : c ≠ 1 := fun e1 => by rw [hc e1] at hu; simp at hu
    rw [if_neg hc1] at e
    cases e
    obtain ⟨b, o, e, hx⟩ := hL (j + 1) u (by simpa using hu)
    cases e
    rw [Addr.add_lit]
    rw [Nat.zero_add] at hx
    rwa [Nat.add_comm 1 j]) (by intro u hu; obtain ⟨x, _, rfl⟩ := List.mem_map.1 hu; rfl) (by unfold maxLen; omega) (by omega) hN
  refine ⟨v', W', hr, ?_, h3⟩
  unfold On
  rw [List.length_append, List.map_append]
  exact h2

/-- What the search holds: what is marked, and what waits. -/
structure Se (l : List Is) (rs : List Bool) (wt : List Nat) : Prop where
  len : rs.length = l.length
  r : ∀ v, rs[v]? = some true → Rch l v
  q : ∀ v ∈ wt, v < l.length ∧ Rch l v
  c : ∀ u v, rs[u]? = some true → v ∈ nxt l u → rs[v]? = some true ∨ v ∈ wt
  z : rs[0]? = some true ∨ 0 ∈ wt
theorem rep_no {n v : Nat} : ¬ (List.replicate n false)[v]? = some true := by
  rw [List.getElem?_replicate]
  split <;> simp
theorem Se.start {l : List Is} (h : 0 < l.length) : Se l (List.replicate l.length false) [0] :=
  ⟨by simp, fun v hv => absurd hv rep_no, fun v hv => by rw [List.mem_singleton] at hv; subst hv; exact ⟨h, .zero⟩, fun u v hu => absurd hu rep_no, .inr (by simp)⟩
theorem Se.perm {l : List Is} {rs : List Bool} {wt wt' : List Nat} (h : Se l rs wt) (hp : ∀ v, v ∈ wt' ↔ v ∈ wt) : Se l rs wt' :=
  ⟨h.len, h.r, fun v hv => h.q v ((hp v).1 hv), fun u v hu hv => (h.c u v hu hv).imp id (hp v).2, h.z.imp id (hp 0).2⟩
theorem Se.pop {l : List Is} {rs : List Bool} {wt : List Nat} {k : Nat} (h : Se l rs (wt ++ [k])) : Se l rs (k :: wt) := h.perm fun v => by simp [or_comm]
theorem Se.drop {l : List Is} {rs : List Bool} {wt : List Nat} {k : Nat} (h : Se l rs (k :: wt)) (hk : rs[k]? = some true) : Se l rs wt :=
  ⟨h.len, h.r, fun v hv => h.q v (List.mem_cons_of_mem _ hv), fun u v hu hv => by
    rcases h.c u v hu hv with h1 | h1
    · exact .inl h1
    · rcases List.mem_cons.1 h1 with rfl | h1
      · exact .inl hk
      · exact .inr h1, by
    rcases h.z with h1 | h1
    · exact .inl h1
    · rcases List.mem_cons.1 h1 with rfl | h1
      · exact .inl hk
      · exact .inr h1⟩
theorem set_true {rs : List Bool} {k v : Nat} : (rs.set k true)[v]? = some true ↔ rs[v]? = some true ∨ (v = k ∧ k < rs.length) := by
  rw [List.getElem?_set]
  by_cases h : k = v
  · subst h
    rw [if_pos rfl]
    split
    · simp [*]
    · rename_i h; simp [h]
  · rw [if_neg h]
    constructor
    · exact .inl
    · rintro (h1 | ⟨h1, _⟩)
      · exact h1
      · exact absurd h1.symm h
theorem Se.mark {l : List Is} {rs : List Bool} {wt : List Nat} {k : Nat} (h : Se l rs (k :: wt)) : Se l (rs.set k true) (nxt l k ++ wt) := by
  obtain ⟨hk1, hk2⟩ := h.q k (List.mem_cons_self ..)
  have hl := h.len
  refine ⟨by rw [List.length_set, hl], fun v hv => ?_, fun v hv => ?_, fun u v hu hv => ?_, ?_⟩
  · rcases set_true.1 hv with h1 | ⟨rfl, _⟩
    · exact h.r v h1
    · exact hk2
  · rcases List.mem_append.1 hv with h1 | h1
    · exact ⟨nxt_lt h1, .step hk2 h1⟩
    · exact h.q v (List.mem_cons_of_mem _ h1)
  · rcases set_true.1 hu with h1 | ⟨rfl, _⟩
    · rcases h.c u v h1 hv with h2 | h2
      · exact .inl (set_true.2 (.inl h2))
      · rcases List.mem_cons.1 h2 with rfl | h2
        · exact .inl (set_true.2 (.inr ⟨rfl, by omega⟩))
        · exact .inr (List.mem_append_right _ h2)
    · exact .inr (List.mem_append_left _ hv)
  · rcases h.z with h1 | h1
    · exact .inl (set_true.2 (.inl h1))
    · rcases List.mem_cons.1 h1 with rfl | h1
      · exact .inl (set_true.2 (.inr ⟨rfl, by omega⟩))
      · exact .inr (List.mem_append_right _ h1)
theorem Se.done {l : List Is} {rs : List Bool} (h : Se l rs []) (h0 : 0 < l.length) (h1 : l.length ≤ 1024) : IsR l rs :=
  isR_of h0 h1 h.len (by rcases h.z with h | h; · exact h
                         · cases h) (fun u v hu hv => by rcases h.c u v hu hv with h | h; · exact h
                                                         · cases h) h.r
/-- How many are not marked yet. -/
def unm (rs : List Bool) : Nat := rs.count false
theorem unm_set {rs : List Bool} {k : Nat} (h : rs[k]? = some false) : unm (rs.set k true) + 1 = unm rs := by
  unfold unm
  obtain ⟨hk, e⟩ := List.getElem?_eq_some_iff.1 h
  rw [List.count_set hk, e]
  have : 0 < rs.count false := List.count_pos_iff.2 (List.mem_of_getElem? h)
  simp
  omega
def isF : Value → Bool
  | .bool false => true
  | _ => false
def ctF (W : World) (R : Nat) : Nat :=
  match W.heap[R]? with
  | some (.cells cs _ _) => cs.toList.countP isF
  | _ => 0
def lenV : Value → Nat
  | .slice _ n _ => n
  | _ => 0
theorem countP_bV : ∀ rs : List Bool, (rs.map bV).countP isF = rs.count false
  | [] => rfl
  | true :: r => by rw [List.map_cons, List.countP_cons, countP_bV r]; simp [bV, isF]
  | false :: r => by rw [List.map_cons, List.countP_cons, countP_bV r]; simp [bV, isF]
theorem ct_own {N : Nat} {rs : List Bool} {g n : Nat} {W : World} (h : Ob N rs (.slice (some ⟨g, 0, none⟩) n n) W) : ctF W g = unm rs := by
  rcases h.2 with ⟨e, _⟩ | ⟨g', cap, cur, e, h1, h2, h3, h4, h5, h6⟩
  · cases e
  · injection e with e1 e2 e3
    cases e1
    subst e3
    unfold ctF
    rw [h2]
    simp only
    rw [List.take_of_length_le (by rw [Array.length_toList]; omega)] at h6
    rw [h6, countP_bV]
    rfl
/-- And where it lies. -/
structure RI (w w1 : World) (R : Nat) (rs : List Bool) (wt : List Nat) (vw : Value) (W : World) : Prop where
  r : Ob (w.heap.size + 1) rs (.slice (some ⟨R, 0, none⟩) rs.length rs.length) W
  q : On (w.heap.size + 1) wt vw W
  b : Below (w.heap.size + 1) w1 W
theorem RI.stay {w w1 : World} {R : Nat} {rs : List Bool} {wt : List Nat} {vw : Value} {W W' : World} (h : RI w w1 R rs wt vw W) (hs : w.heap.size + 1 ≤ W.heap.size) (hb : Below W.heap.size W W') : RI w w1 R rs wt vw W' := ⟨own_stay h.r hb, own_stay h.q hb, h.b.trans (hb.mono hs)⟩
theorem RI.put {w w1 : World} {R : Nat} {rs : List Bool} {wt : List Nat} {vw : Value} {W : World} (h : RI w w1 R rs wt vw W) (i : Nat) (b : Bool) : RI w w1 R (rs.set i b) wt vw (W.setCell ⟨R, i, none⟩ (.bool b)) := by
  obtain ⟨cur, hc, hR⟩ := own_blk h.r
  exact ⟨by have := ob_put h.r i b; rwa [List.length_set], own_set h.q hc (by decide) i _, h.b.setCell (by simp only; omega) _⟩
theorem RI.grow {w w1 : World} {R : Nat} {rs : List Bool} {wt wt' : List Nat} {vw vw' : Value} {W W' : World} (h : RI w w1 R rs wt vw W) (hs : w.heap.size + 1 ≤ W.heap.size) (hg : W.grownBy W' vw.ownBlock) (ho : On (w.heap.size + 1) wt' vw' W') : RI w w1 R rs wt' vw' W' :=
  ⟨h.r.kept hg (own_ne h.r h.q (by decide)), ho, h.b.grown hg hs (fun k e => own_base h.q k e)⟩
end Go.Proofs.YtfmkjdfidenfkaaDoor
