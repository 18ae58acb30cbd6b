/- What Find tells, as a function: plain. -/
import Derived.Test.YtgiokognngllcaaDoorTb
namespace Go.Proofs.YtgiokognngllcaaDoor

/-- From where a head's back edges go; its members. -/
noncomputable def bks (l : List Is) (h : Nat) : List Nat := (List.range l.length).filter fun u => pD (Ba l u h)
noncomputable def mbs (l : List Is) (h : Nat) : List Nat := (List.range l.length).filter fun v => pD (Mbr l h v)
theorem mem_bks {l : List Is} (h0 : 0 < l.length) {u h : Nat} : u ∈ bks l h ↔ Ba l u h := by
  unfold bks
  rw [List.mem_filter, List.mem_range, pD_t]
  exact ⟨fun h => h.2, fun h => ⟨h.rch.lt h0, h⟩⟩
theorem mem_bks' {l : List Is} {u h : Nat} (hm : u ∈ bks l h) : Ba l u h ∧ u < l.length := by
  unfold bks at hm
  rw [List.mem_filter, List.mem_range, pD_t] at hm
  exact ⟨hm.2, hm.1⟩
theorem mem_mbs' {l : List Is} {v h : Nat} (hm : v ∈ mbs l h) : Mbr l h v ∧ v < l.length := by
  unfold mbs at hm
  rw [List.mem_filter, List.mem_range, pD_t] at hm
  exact ⟨hm.2, hm.1⟩
theorem mem_mbs {l : List Is} {v h : Nat} : v ∈ mbs l h ↔ Mbr l h v ∧ v < l.length := by
  unfold mbs
  rw [List.mem_filter, List.mem_range, pD_t]
  exact And.comm
theorem bks_nd (l : List Is) (h : Nat) : (bks l h).Nodup := List.nodup_range.filter _
theorem mbs_nd (l : List Is) (h : Nat) : (mbs l h).Nodup := List.nodup_range.filter _
theorem bks_len (l : List Is) (h : Nat) : (bks l h).length ≤ l.length := by
  have := List.length_filter_le (fun u => pD (Ba l u h)) (List.range l.length)
  rwa [List.length_range] at this
theorem mbs_len (l : List Is) (h : Nat) : (mbs l h).length ≤ l.length := by
  have := List.length_filter_le (fun u => pD (Mbr l h u)) (List.range l.length)
  rwa [List.length_range] at this
theorem int_one {l : List Is} {u h : Nat} (L : List Nat) (hn : L.Nodup) : intL (bacE l (L.map fun v => (u, v))) h = if pD (h ∈ L ∧ Dm l h u) = true then [u] else [] := by
  induction L with
  | nil =>
    rw [if_neg (fun g => by have := (pD_t.1 g).1; cases this)]
    simp [bacE, intL]
  | cons x L ih =>
    obtain ⟨h1, h2⟩ := List.nodup_cons.1 hn
    have ih := ih h2
    have e : bacE l ((x :: L).map fun v => (u, v)) = (if pD (Dm l x u) = true then [(u, x)] else []) ++ bacE l (L.map fun v => (u, v)) := by
      unfold bacE
      rw [List.map_cons, List.filter_cons]
      unfold bkB
      split <;> simp
    rw [e, intL_app, ih]
    by_cases hx : x = h
    · subst hx
      have hno : ¬ pD (x ∈ L ∧ Dm l x u) = true := fun g => h1 (pD_t.1 g).1
      rw [if_neg hno]
      by_cases hd : Dm l x u
      · rw [if_pos (pD_t.2 hd), if_pos (pD_t.2 ⟨List.mem_cons_self .., hd⟩)]
        simp [intL]
      · rw [if_neg (fun h => hd (pD_t.1 h)), if_neg (fun h => hd (pD_t.1 h).2)]
        rfl
    · have e2 : intL (if pD (Dm l x u) = true then [(u, x)] else []) h = [] := by
        split <;> simp [intL, hx]
      rw [e2, List.nil_append]
      have : (h ∈ L ∧ Dm l h u) ↔ (h ∈ x :: L ∧ Dm l h u) := by
        rw [List.mem_cons]
        exact ⟨fun g => ⟨.inr g.1, g.2⟩, fun g => ⟨g.1.resolve_left (Ne.symm hx), g.2⟩⟩
      rw [pD_of this]
theorem bacE_app (l : List Is) (a b : List (Nat × Nat)) : bacE l (a ++ b) = bacE l a ++ bacE l b := List.filter_append ..
theorem bks_edU {l : List Is} {rs : List Bool} (hr : ∀ v, rs[v]? = some true ↔ Rch l v) (h : Nat) : ∀ u, intL (bacE l (edU l rs u)) h = (List.range u).filter fun u => pD (Ba l u h)
  | 0 => by simp [edU, bacE, intL]
  | u + 1 => by
    rw [edU_succ, bacE_app, intL_app, bks_edU hr h u, List.range_succ, List.filter_append]
    congr 1
    unfold edB
    by_cases hu : rs[u]? = some true
    · rw [if_pos hu, int_one _ (nxt_nd l u), List.filter_cons, List.filter_nil]
      rfl
    · rw [if_neg hu]
      have : ¬ Ba l u h := fun g => hu ((hr u).2 g.rch)
      simp [bacE, intL, pD_f.2 this]
/-- Of all edges: those back to h. -/
theorem bks_edg {l : List Is} {rs : List Bool} (hr : IsR l rs) (hn : l.length ≤ 1024) (h : Nat) : intL (bacE l (edg l rs)) h = bks l h := by
  rcases hr with ⟨h1, rfl⟩ | ⟨h1, h2, h3, h4⟩
  · have : l = [] := List.eq_nil_of_length_eq_zero (by omega)
    subst this
    simp [edg, edU, bacE, intL, bks]
  · unfold edg bks
    rw [bks_edU h4 h, h3]
theorem mem_edg' {l : List Is} {rs : List Bool} (hr : IsR l rs) {u v : Nat} (hm : (u, v) ∈ edg l rs) : Rch l u ∧ v ∈ nxt l u ∧ u < l.length ∧ v < l.length ∧ 0 < l.length ∧ l.length ≤ 1024 := by
  obtain ⟨h1, h2⟩ := mem_edg.1 hm
  rcases hr with ⟨_, rfl⟩ | ⟨g1, g2, g3, g4⟩
  · simp at h1
  · have := (g4 u).1 h1
    exact ⟨this, h2, this.lt g1, nxt_lt h2, g1, g2⟩
theorem edg_mem {l : List Is} {rs : List Bool} (hr : IsR l rs) (h0 : 0 < l.length) (h1 : l.length ≤ 1024) {u v : Nat} (hu : Rch l u) (hv : v ∈ nxt l u) : (u, v) ∈ edg l rs := by
  rcases hr with ⟨_, rfl⟩ | ⟨g1, g2, g3, g4⟩
  · omega
  · exact mem_edg.2 ⟨(g4 u).2 hu, hv⟩
theorem mem_ahd {l : List Is} {rs : List Bool} (hr : IsR l rs) (h1 : l.length ≤ 1024) {u v : Nat} : (u, v) ∈ ahdE l (edg l rs) ↔ 0 < l.length ∧ Ah l u v := by
  unfold ahdE bkB
  rw [List.mem_filter]
  constructor
  · rintro ⟨hm, hb⟩
    obtain ⟨a1, a2, _, _, a3, _⟩ := mem_edg' hr hm
    refine ⟨a3, a1, a2, ?_⟩
    simpa [pD_f] using hb
  · rintro ⟨h0, h⟩
    exact ⟨edg_mem hr h0 h1 h.1 h.2.1, by simpa [pD_f] using h.2.2⟩
theorem mem_bac {l : List Is} {rs : List Bool} (hr : IsR l rs) (h1 : l.length ≤ 1024) {u v : Nat} : (u, v) ∈ bacE l (edg l rs) ↔ 0 < l.length ∧ Ba l u v := by
  unfold bacE bkB
  rw [List.mem_filter]
  constructor
  · rintro ⟨hm, hb⟩
    obtain ⟨a1, a2, _, _, a3, _⟩ := mem_edg' hr hm
    exact ⟨a3, a2, pD_t.1 hb⟩
  · rintro ⟨h0, h⟩
    exact ⟨edg_mem hr h0 h1 h.rch h.1, pD_t.2 h.2⟩

/-- What a loop is. -/
structure Lo where
  head : Nat
  par : Int
  ms : List Nat
  bs : List Nat
/-- For what a loop does not count. -/
def opA (l : List Is) (v : Nat) : Is := l.getD v ⟨0, 0, 0, 0, 0⟩
def drvB (l : List Is) (h : Nat) (bs : List Nat) (v : Nat) : Bool := decide (0 ≤ wrN (opA l v)) && (decide (wrN (opA l v) = (opA l h).b) || decide (wrN (opA l v) = (opA l h).a) && !decide (v ∈ bs))
def cntZ (l : List Is) (h : Nat) (bs ms : List Nat) : Option (Nat × Nat) :=
  if (opA l h).op ≠ 17 then some (71, h)
  else match bs.find? (fun u => decide ((opA l u).op ≠ 18 ∨ (opA l u).a ≠ (opA l h).a)) with
    | some u => some (72, u)
    | none => match ms.find? (drvB l h bs) with
      | some v => some (73, v)
      | none => if ms.any (fun v => decide ((v : Int) = (opA l h).n)) then some (74, h) else none
/-- The place of the loop around i: of the first k. -/
def parK (hs : List Nat) (ms : List (List Nat)) (i : Nat) : Nat → Int
  | 0 => -1
  | k + 1 => if k ≠ i ∧ hs.getD i 0 ∈ ms.getD k [] ∧ (parK hs ms i k < 0 ∨ (ms.getD k []).length < (ms.getD (parK hs ms i k).toNat []).length) then (k : Int) else parK hs ms i k
noncomputable def hds (l : List Is) : List Nat := (List.range l.length).filter fun h => !(bks l h).isEmpty
noncomputable def lopsZ (l : List Is) : List Lo := (List.range (hds l).length).map fun i => ⟨(hds l).getD i 0, parK (hds l) ((hds l).map (mbs l)) i (hds l).length, mbs l ((hds l).getD i 0), bks l ((hds l).getD i 0)⟩
noncomputable def errH (l : List Is) : List Nat → Option (Nat × Nat)
  | [] => none
  | h :: r => if bks l h = [] then errH l r else match cntZ l h (bks l h) (mbs l h) with
    | some e => some e
    | none => errH l r
structure Fd where
  ls : List Lo
  e : Nat
  at' : Nat
noncomputable def fndZ (l : List Is) : Fd :=
  if 1024 < l.length then ⟨[], 97, 1024⟩
  else match kntZ l with
    | some v => ⟨[], 70, v⟩
    | none => match errH l (List.range l.length) with
      | some e => ⟨[], e.1, e.2⟩
      | none => ⟨lopsZ l, 0, 0⟩
end Go.Proofs.YtgiokognngllcaaDoor
