/- Where instructions lead, what can be reached, edges and blocks: plain. -/
import Derived.Test.YtdnilonfgbinaaaMa
namespace Go.Proofs.Ytdnilonfgbinaaa

/-- A number that is an instruction's. -/
def tgt (n : Nat) (z : Int) : List Nat := if 0 ≤ z ∧ z < n then [z.toNat] else []
def nxL (n : Nat) (x : Is) (u : Nat) : List Nat :=
  if x.op = 14 ∨ x.op = 18 then tgt n x.n
  else if x.op = 15 ∨ x.op = 16 ∨ x.op = 17 then tgt n ((u : Int) + 1) ++ (if x.n = (u : Int) + 1 then [] else tgt n x.n)
  else if 1 ≤ x.op ∧ x.op ≤ 19 then tgt n ((u : Int) + 1) else []
def nxt (l : List Is) (u : Nat) : List Nat :=
  match l[u]? with
  | some x => nxL l.length x u
  | none => []
/-- By any number. -/
def nxZ (l : List Is) (z : Int) : List Nat := if z < 0 then [] else nxt l z.toNat
theorem nxZ_nat (l : List Is) (u : Nat) : nxZ l (u : Int) = nxt l u := by unfold nxZ; rw [if_neg (by omega)]; rfl
theorem nxt_at {l : List Is} {u : Nat} (h : u < l.length) : nxt l u = nxL l.length l[u] u := by unfold nxt; rw [List.getElem?_eq_getElem h]
theorem nxt_none {l : List Is} {u : Nat} (h : l.length ≤ u) : nxt l u = [] := by unfold nxt; rw [List.getElem?_eq_none h]
theorem nxZ_none {l : List Is} {z : Int} (h : z < 0 ∨ (l.length : Int) ≤ z) : nxZ l z = [] := by
  unfold nxZ
  split
  · rfl
  · exact nxt_none (by omega)
theorem tgt_lt {n v : Nat} {z : Int} (h : v ∈ tgt n z) : v < n ∧ (v : Int) = z := by
  unfold tgt at h
  split at h
  · rw [List.mem_singleton] at h; omega
  · cases h
theorem tgt_len (n : Nat) (z : Int) : (tgt n z).length ≤ 1 := by unfold tgt; split <;> simp
theorem tgt_nd (n : Nat) (z : Int) : (tgt n z).Nodup := by unfold tgt; split <;> simp
theorem nxL_lt {n u v : Nat} {x : Is} (h : v ∈ nxL n x u) : v < n := by
  unfold nxL at h
  split at h
  · exact (tgt_lt h).1
  · split at h
    · rcases List.mem_append.1 h with h | h
      · exact (tgt_lt h).1
      · split at h
        · cases h
        · exact (tgt_lt h).1
    · split at h
      · exact (tgt_lt h).1
      · cases h
theorem nxt_lt {l : List Is} {u v : Nat} (h : v ∈ nxt l u) : v < l.length := by
  unfold nxt at h
  split at h
  · exact nxL_lt h
  · cases h
theorem nxL_len (n u : Nat) (x : Is) : (nxL n x u).length ≤ 2 := by
  unfold nxL
  have h1 := tgt_len n x.n
  have h2 := tgt_len n ((u : Int) + 1)
  split
  · omega
  · split
    · rw [List.length_append]; split <;> simp <;> omega
    · split
      · omega
      · simp
theorem nxt_len (l : List Is) (u : Nat) : (nxt l u).length ≤ 2 := by
  unfold nxt
  split
  · exact nxL_len _ _ _
  · simp
theorem nxZ_len (l : List Is) (z : Int) : (nxZ l z).length ≤ 2 := by
  unfold nxZ
  split
  · simp
  · exact nxt_len _ _
theorem nxZ_lt {l : List Is} {z : Int} {v : Nat} (h : v ∈ nxZ l z) : v < l.length := by
  unfold nxZ at h
  split at h
  · cases h
  · exact nxt_lt h
theorem nxL_nd (n u : Nat) (x : Is) : (nxL n x u).Nodup := by
  unfold nxL
  split
  · exact tgt_nd _ _
  · split
    · split
      · rw [List.append_nil]; exact tgt_nd _ _
      · rename_i h
        refine List.nodup_append.2 ⟨tgt_nd _ _, tgt_nd _ _, fun a ha b hb e => h ?_⟩
        have := (tgt_lt ha).2
        have := (tgt_lt hb).2
        omega
    · split
      · exact tgt_nd _ _
      · exact List.nodup_nil
theorem nxt_nd (l : List Is) (u : Nat) : (nxt l u).Nodup := by
  unfold nxt
  split
  · exact nxL_nd _ _ _
  · exact List.nodup_nil

/-- What can be reached. -/
inductive Rch (l : List Is) : Nat → Prop
  | zero : Rch l 0
  | step {u v : Nat} : Rch l u → v ∈ nxt l u → Rch l v
theorem Rch.lt {l : List Is} (h0 : 0 < l.length) {v : Nat} (h : Rch l v) : v < l.length := by
  cases h with
  | zero => exact h0
  | step _ h => exact nxt_lt h
/-- A list that says of each one whether it can be reached. -/
def IsR (l : List Is) (rs : List Bool) : Prop := ((l.length = 0 ∨ 1024 < l.length) ∧ rs = []) ∨ (0 < l.length ∧ l.length ≤ 1024 ∧ rs.length = l.length ∧ ∀ v, rs[v]? = some true ↔ Rch l v)
theorem IsR.one {l : List Is} {a b : List Bool} (ha : IsR l a) (hb : IsR l b) : a = b := by
  rcases ha with ⟨h1, rfl⟩ | ⟨h1, h2, h3, h4⟩
  · rcases hb with ⟨_, rfl⟩ | ⟨g1, g2, _⟩
    · rfl
    · omega
  · rcases hb with ⟨g1, rfl⟩ | ⟨g1, g2, g3, g4⟩
    · omega
    · refine List.ext_getElem (by omega) fun i hi hj => ?_
      have e : a[i]? = some true ↔ b[i]? = some true := (h4 i).trans (g4 i).symm
      rw [List.getElem?_eq_getElem hi, List.getElem?_eq_getElem hj] at e
      cases ha : a[i] <;> cases hb : b[i] <;> simp_all
theorem IsR.len {l : List Is} {rs : List Bool} (h : IsR l rs) : rs.length ≤ 1024 := by
  rcases h with ⟨_, rfl⟩ | ⟨h1, h2, h3, _⟩
  · simp
  · omega
theorem IsR.le {l : List Is} {rs : List Bool} (h : IsR l rs) : rs.length ≤ l.length := by
  rcases h with ⟨_, rfl⟩ | ⟨h1, h2, h3, _⟩
  · simp
  · omega
/-- What is closed and holds nothing that can't be reached is what can be reached. -/
theorem isR_of {l : List Is} {rs : List Bool} (h0 : 0 < l.length) (h1 : l.length ≤ 1024) (hl : rs.length = l.length) (hz : rs[0]? = some true) (hc : ∀ u v, rs[u]? = some true → v ∈ nxt l u → rs[v]? = some true) (hr : ∀ v, rs[v]? = some true → Rch l v) : IsR l rs := by
  refine .inr ⟨h0, h1, hl, fun v => ⟨hr v, fun h => ?_⟩⟩
  induction h with
  | zero => exact hz
  | step _ hv ih => exact hc _ _ ih hv

/-- Edges; of those ahead of u; of one u the first so many. -/
def edB (l : List Is) (rs : List Bool) (u : Nat) : List (Nat × Nat) := if rs[u]? = some true then (nxt l u).map fun v => (u, v) else []
def edU (l : List Is) (rs : List Bool) (u : Nat) : List (Nat × Nat) := (List.range u).flatMap (edB l rs)
def edg (l : List Is) (rs : List Bool) : List (Nat × Nat) := edU l rs rs.length
theorem edU_succ (l : List Is) (rs : List Bool) (u : Nat) : edU l rs (u + 1) = edU l rs u ++ edB l rs u := by
  unfold edU; rw [List.range_succ, List.flatMap_append]; simp
theorem edB_no {l : List Is} {rs : List Bool} {u : Nat} (h : rs[u]? = some false) : edB l rs u = [] := by unfold edB; rw [if_neg (by rw [h]; simp)]
theorem edB_yes {l : List Is} {rs : List Bool} {u : Nat} (h : rs[u]? = some true) : edB l rs u = (nxt l u).map fun v => (u, v) := by unfold edB; rw [if_pos h]
theorem edU_pre (l : List Is) (rs : List Bool) {u n : Nat} (h : u ≤ n) : edU l rs u <+: edU l rs n := by
  induction n with
  | zero => obtain rfl : u = 0 := by omega
            exact List.prefix_refl _
  | succ n ih =>
    rcases Nat.lt_or_ge u (n + 1) with hlt | hge
    · rw [edU_succ]
      exact (ih (by omega)).trans (List.prefix_append _ _)
    · obtain rfl : u = n + 1 := by omega
      exact List.prefix_refl _
theorem mem_edU {l : List Is} {rs : List Bool} {n u v : Nat} : (u, v) ∈ edU l rs n ↔ u < n ∧ rs[u]? = some true ∧ v ∈ nxt l u := by
  unfold edU
  rw [List.mem_flatMap]
  constructor
  · rintro ⟨k, hk, h⟩
    unfold edB at h
    split at h
    · rename_i hr
      obtain ⟨y, hy, e⟩ := List.mem_map.1 h
      injection e with e1 e2
      subst e1 e2
      exact ⟨List.mem_range.1 hk, hr, hy⟩
    · cases h
  · rintro ⟨h1, h2, h3⟩
    exact ⟨u, List.mem_range.2 h1, by rw [edB_yes h2]; exact List.mem_map.2 ⟨v, h3, rfl⟩⟩
theorem mem_edg {l : List Is} {rs : List Bool} {u v : Nat} : (u, v) ∈ edg l rs ↔ rs[u]? = some true ∧ v ∈ nxt l u := by
  unfold edg
  rw [mem_edU]
  constructor
  · exact fun h => h.2
  · exact fun h => ⟨(List.getElem?_eq_some_iff.1 h.1).1, h⟩
end Go.Proofs.Ytdnilonfgbinaaa
