/- Where instructions lead, what can be reached, edges and blocks: plain. Lists of numbers and of yes and no in memory; are they the same? Where an instruction leads: flow.named, flow.Next. Appends to rows of the call's own; flow.Next. -/
import Derived.Test.YtfmkjdfidenfkaaDoorZaa
import Derived.Test.YtfmkjdfidenfkaaDoorZae
import Derived.Deep.RegionLaw
import Derived.Lib.SmallJoins
namespace Go.Proofs.YtfmkjdfidenfkaaDoor

/-- A number that is an instruction's. -/
def tgt (n : Nat) (z : Int) : List Nat := if 0 ≤ z ∧ z < n then [z.toNat] else []
def nxL (n : Nat) (x : Is) (u : Nat) : List Nat :=
  if x.op = 14 ∨ x.op = 18 then tgt n x.n
  else if x.op = 15 ∨ x.op = 16 ∨ x.op = 17 then tgt n ((u : Int) + 1) ++ (if x.n = (u : Int) + 1 then [] else tgt n x.n)
  else if 1 ≤ x.op ∧ x.op ≤ 19 then tgt n ((u : Int) + 1) else []
def nxt (l : List Is) (u : Nat) : List Nat :=
  match l[u]? with
  | some x => nxL l.length x u
  | none => []
/-- By any number. -/
def nxZ (l : List Is) (z : Int) : List Nat := if z < 0 then [] else nxt l z.toNat
theorem nxZ_nat (l : List Is) (u : Nat) : nxZ l (u : Int) = nxt l u := by unfold nxZ; rw [if_neg (by omega)]; rfl
theorem nxt_at {l : List Is} {u : Nat} (h : u < l.length) : nxt l u = nxL l.length l[u] u := by unfold nxt; rw [List.getElem?_eq_getElem h]
theorem nxt_none {l : List Is} {u : Nat} (h : l.length ≤ u) : nxt l u = [] := by unfold nxt; rw [List.getElem?_eq_none h]
theorem nxZ_none {l : List Is} {z : Int} (h : z < 0 ∨ (l.length : Int) ≤ z) : nxZ l z = [] := by
  unfold nxZ
  split
  · rfl
  · exact nxt_none (by omega)
theorem tgt_lt {n v : Nat} {z : Int} (h : v ∈ tgt n z) : v < n ∧ (v : Int) = z := by
  unfold tgt at h
  split at h
  · rw [List.mem_singleton] at h; omega
  · cases h
theorem tgt_len (n : Nat) (z : Int) : (tgt n z).length ≤ 1 := by unfold tgt; split <;> simp
theorem tgt_nd (n : Nat) (z : Int) : (tgt n z).Nodup := by unfold tgt; split <;> simp
theorem nxL_lt {n u v : Nat} {x : Is} (h : v ∈ nxL n x u) : v < n := by
  unfold nxL at h
  split at h
  · exact (tgt_lt h).1
  · split at h
    · rcases List.mem_append.1 h with h | h
      · exact (tgt_lt h).1
      · split at h
        · cases h
        · exact (tgt_lt h).1
    · split at h
      · exact (tgt_lt h).1
      · cases h
theorem nxt_lt {l : List Is} {u v : Nat} (h : v ∈ nxt l u) : v < l.length := by
  unfold nxt at h
  split at h
  · exact nxL_lt h
  · cases h
theorem nxL_len (n u : Nat) (x : Is) : (nxL n x u).length ≤ 2 := by
  unfold nxL
  have h1 := tgt_len n x.n
  have h2 := tgt_len n ((u : Int) + 1)
  split
  · omega
  · split
    · rw [List.length_append]; split <;> simp <;> omega
    · split
      · omega
      · simp
theorem nxt_len (l : List Is) (u : Nat) : (nxt l u).length ≤ 2 := by
  unfold nxt
  split
  · exact nxL_len _ _ _
  · simp
theorem nxZ_len (l : List Is) (z : Int) : (nxZ l z).length ≤ 2 := by
  unfold nxZ
  split
  · simp
  · exact nxt_len _ _
theorem nxZ_lt {l : List Is} {z : Int} {v : Nat} (h : v ∈ nxZ l z) : v < l.length := by
  unfold nxZ at h
  split at h
  · cases h
  · exact nxt_lt h
theorem nxL_nd (n u : Nat) (x : Is) : (nxL n x u).Nodup := by
  unfold nxL
  split
  · exact tgt_nd _ _
  · split
    · split
      · rw [List.append_nil]; exact tgt_nd _ _
      · rename_i h
        refine List.nodup_append.2 ⟨tgt_nd _ _, tgt_nd _ _, fun a ha b hb e => h ?_⟩
        have := (tgt_lt ha).2
        have := (tgt_lt hb).2
        omega
    · split
      · exact tgt_nd _ _
      · exact List.nodup_nil
theorem nxt_nd (l : List Is) (u : Nat) : (nxt l u).Nodup := by
  unfold nxt
  split
  · exact nxL_nd _ _ _
  · exact List.nodup_nil

/-- What can be reached. -/
inductive Rch (l : List Is) : Nat → Prop
  | zero : Rch l 0
  | step {u v : Nat} : Rch l u → v ∈ nxt l u → Rch l v
theorem Rch.lt {l : List Is} (h0 : 0 < l.length) {v : Nat} (h : Rch l v) : v < l.length := by
  cases h with
  | zero => exact h0
  | step _ h => exact nxt_lt h
/-- A list that says of each one whether it can be reached. -/
def IsR (l : List Is) (rs : List Bool) : Prop := ((l.length = 0 ∨ 1024 < l.length) ∧ rs = []) ∨ (0 < l.length ∧ l.length ≤ 1024 ∧ rs.length = l.length ∧ ∀ v, rs[v]? = some true ↔ Rch l v)
theorem IsR.one {l : List Is} {a b : List Bool} (ha : IsR l a) (hb : IsR l b) : a = b := by
  rcases ha with ⟨h1, rfl⟩ | ⟨h1, h2, h3, h4⟩
  · rcases hb with ⟨_, rfl⟩ | ⟨g1, g2, _⟩
    · rfl
    · omega
  · rcases hb with ⟨g1, rfl⟩ | ⟨g1, g2, g3, g4⟩
    · omega
    · refine List.ext_getElem (by omega) fun i hi hj => ?_
      have e : a[i]? = some true ↔ b[i]? = some true := (h4 i).trans (g4 i).symm
      rw [List.getElem?_eq_getElem hi, List.getElem?_eq_getElem hj] at e
      cases ha : a[i] <;> cases hb : b[i] <;> simp_all
theorem IsR.len {l : List Is} {rs : List Bool} (h : IsR l rs) : rs.length ≤ 1024 := by
  rcases h with ⟨_, rfl⟩ | ⟨h1, h2, h3, _⟩
  · simp
  · omega
theorem IsR.le {l : List Is} {rs : List Bool} (h : IsR l rs) : rs.length ≤ l.length := by
  rcases h with ⟨_, rfl⟩ | ⟨h1, h2, h3, _⟩
  · simp
  · omega
/-- What is closed and holds nothing that can't be reached is what can be reached. -/
theorem isR_of {l : List Is} {rs : List Bool} (h0 : 0 < l.length) (h1 : l.length ≤ 1024) (hl : rs.length = l.length) (hz : rs[0]? = some true) (hc : ∀ u v, rs[u]? = some true → v ∈ nxt l u → rs[v]? = some true) (hr : ∀ v, rs[v]? = some true → Rch l v) : IsR l rs := by
  refine .inr ⟨h0, h1, hl, fun v => ⟨hr v, fun h => ?_⟩⟩
  induction h with
  | zero => exact hz
  | step _ hv ih => exact hc _ _ ih hv

/-- Edges; of those ahead of u; of one u the first so many. -/
def edB (l : List Is) (rs : List Bool) (u : Nat) : List (Nat × Nat) := if rs[u]? = some true then (nxt l u).map fun v => (u, v) else []
def edU (l : List Is) (rs : List Bool) (u : Nat) : List (Nat × Nat) := (List.range u).flatMap (edB l rs)
def edg (l : List Is) (rs : List Bool) : List (Nat × Nat) := edU l rs rs.length
theorem edU_succ (l : List Is) (rs : List Bool) (u : Nat) : edU l rs (u + 1) = edU l rs u ++ edB l rs u := by
  unfold edU; rw [List.range_succ, List.flatMap_append]; simp
theorem edB_no {l : List Is} {rs : List Bool} {u : Nat} (h : rs[u]? = some false) : edB l rs u = [] := by unfold edB; rw [if_neg (by rw [h]; simp)]
theorem edB_yes {l : List Is} {rs : List Bool} {u : Nat} (h : rs[u]? = some true) : edB l rs u = (nxt l u).map fun v => (u, v) := by unfold edB; rw [if_pos h]
theorem edU_pre (l : List Is) (rs : List Bool) {u n : Nat} (h : u ≤ n) : edU l rs u <+: edU l rs n := by
  induction n with
  | zero => obtain rfl : u = 0 := by omega
            exact List.prefix_refl _
  | succ n ih =>
    rcases Nat.lt_or_ge u (n + 1) with hlt | hge
    · rw [edU_succ]
      exact (ih (by omega)).trans (List.prefix_append _ _)
    · obtain rfl : u = n + 1 := by omega
      exact List.prefix_refl _
theorem mem_edU {l : List Is} {rs : List Bool} {n u v : Nat} : (u, v) ∈ edU l rs n ↔ u < n ∧ rs[u]? = some true ∧ v ∈ nxt l u := by
  unfold edU
  rw [List.mem_flatMap]
  constructor
  · rintro ⟨k, hk, h⟩
    unfold edB at h
    split at h
    · rename_i hr
      obtain ⟨y, hy, e⟩ := List.mem_map.1 h
      injection e with e1 e2
      subst e1 e2
      exact ⟨List.mem_range.1 hk, hr, hy⟩
    · cases h
  · rintro ⟨h1, h2, h3⟩
    exact ⟨u, List.mem_range.2 h1, by rw [edB_yes h2]; exact List.mem_map.2 ⟨v, h3, rfl⟩⟩
theorem mem_edg {l : List Is} {rs : List Bool} {u v : Nat} : (u, v) ∈ edg l rs ↔ rs[u]? = some true ∧ v ∈ nxt l u := by
  unfold edg
  rw [mem_edU]
  constructor
  · exact fun h => h.2
  · exact fun h => ⟨(List.getElem?_eq_some_iff.1 h.1).1, h⟩
end Go.Proofs.YtfmkjdfidenfkaaDoor
namespace Go.Proofs.YtfmkjdfidenfkaaDoor
open Go.RowKit Go.Sort

theorem cell_of_obj {W : World} {b : Nat} {cs : Array Value} {T : TypeId} {fz : Nat × Nat} (h : W.heap[b]? = some (.cells cs T fz)) {j : Nat} {v : Value} (hj : cs[j]? = some v) : W.cell? ⟨b, j, none⟩ = some v := by
  rw [Lib.cell_of_heap h]; exact hj
theorem blk_stay {W W' : World} {k : Nat} {o : Obj} (h : W.heap[k]? = some o) (hb : Below W.heap.size W W') : W'.heap[k]? = some o := (hb.block _ (Array.getElem?_eq_some_iff.1 h).1).trans h
def nV (k : Nat) : Value := .int .i64 (k : Int)
def bV (b : Bool) : Value := .bool b
/-- A list lies at an address, a cell each. -/
def Lst (W : World) (a : Option Addr) (xs : List Value) : Prop := ∀ j u, xs[j]? = some u → ∃ b o, a = some ⟨b, o, none⟩ ∧ W.cell? ⟨b, o + j, none⟩ = some u
theorem Lst.stay {W W' : World} {a : Option Addr} {xs : List Value} (h : Lst W a xs) (hb : Below W.heap.size W W') : Lst W' a xs := by
  intro j u hj
  obtain ⟨b, o, e, hc⟩ := h j u hj
  exact ⟨b, o, e, cell_kept_below hc hb⟩
theorem own_lst {W : World} {N n : Nat} {T : TypeId} {a : Option Addr} {c : Nat} {xs : List Value} (h : W.ownsRow N T 1 (.slice a n c) n xs) : Lst W a xs := by
  intro j u hj
  rcases h.2 with ⟨e, h0⟩ | ⟨g, cap, cur, e, _, _⟩
  · have := h.1
    have := (List.getElem?_eq_some_iff.1 hj).1
    omega
  · cases e
    refine ⟨g, 0, rfl, ?_⟩
    have := h.cells (g := g) rfl j u hj
    rwa [Addr.add_lit] at this
theorem lst_n {W : World} {a : Option Addr} {l : List Nat} (h : Lst W a (l.map nV)) {j : Nat} (hj : j < l.length) : ∃ b o, a = some ⟨b, o, none⟩ ∧ W.cell? ⟨b, o + j, none⟩ = some (.int .i64 (l[j] : Nat)) := h j (nV l[j]) (by rw [List.getElem?_map, List.getElem?_eq_getElem hj]; rfl)
theorem lst_b {W : World} {a : Option Addr} {l : List Bool} (h : Lst W a (l.map bV)) {j : Nat} (hj : j < l.length) : ∃ b o, a = some ⟨b, o, none⟩ ∧ W.cell? ⟨b, o + j, none⟩ = some (.bool l[j]) := h j (bV l[j]) (by rw [List.getElem?_map, List.getElem?_eq_getElem hj]; rfl)
theorem lst_i {W : World} {a : Option Addr} {l : List Int} (h : Lst W a (l.map (Value.int .i64))) {j : Nat} (hj : j < l.length) : ∃ b o, a = some ⟨b, o, none⟩ ∧ W.cell? ⟨b, o + j, none⟩ = some (.int .i64 l[j]) := h j (.int .i64 l[j]) (by rw [List.getElem?_map, List.getElem?_eq_getElem hj]; rfl)
theorem lst_new (W : World) (cs : Array Value) (T : TypeId) (xs : List Value) (h : cs.toList = xs) : Lst (W.alloc (.cells cs T)) (some ⟨W.heap.size, 0, none⟩) xs := by
  intro j u hj
  refine ⟨_, 0, rfl, ?_⟩
  rw [Nat.zero_add]
  exact new_cell _ _ _ _ _ (by rw [← hj, ← h, Array.getElem?_toList])

set_option maxRecDepth 100000 in
set_option maxHeartbeats 2000000 in
theorem index_any (l : List Nat) (z : Int) (a : Option Addr) (c : Nat) (w : World) (h : Lst w a (l.map nV)) (hl : l.length ≤ 1000000) : Calls Tryd.prog 63 #[.slice a l.length c, .int .i64 z] w fun e w' => ∃ r : Int, e = .returned (.int .i64 r) ∧ (0 ≤ r ↔ ∃ k ∈ l, (k : Int) = z) ∧ w' = w := by
  have HH := Hid.mk' h
  clear h
  go_enter Tryd.func63, Tryd.ntmps63
  go_wp2_with fail
  go_loop [8] (fun t => ∃ (j : Nat), j ≤ l.length ∧ t = .int .i64 j ∧ ∀ k ∈ l.take j, (k : Int) ≠ z) (fun t => l.length - (intOf t).toNat)
  case atStart => exact ⟨0, Nat.zero_le _, rfl, by simp⟩
  case round =>
    obtain ⟨j, hj, rfl, hn⟩ := hrel
    have HN := Hid.mk' hn
    clear hn
    by_cases hlt : j < l.length
    · obtain ⟨b, o, rfl, c0⟩ := lst_n HH.out hlt
      have hli : (j : Int) < (l.length : Int) := by omega
      have HT := Hid.mk' (List.take_succ_eq_append_getElem hlt)
      have HM : Hid (l[j] ∈ l) := List.getElem_mem hlt
      generalize l[j] = x at *
      cases ev : (z == (x : Int))
      · go_wp2_with fail
        go_round
        case rel => exact ⟨j + 1, by omega, by go_num, by
          intro k hk
          rw [HT.out, List.mem_append, List.mem_singleton] at hk
          rcases hk with hk | rfl
          · exact HN.out k hk
          · intro e; rw [e] at ev; simp at ev⟩
        case measure => simp [intOf]; omega
      · go_wp2_with fail
        go_ret
        exact ⟨_, rfl, ⟨fun _ => ⟨x, HM.out, (beq_iff_eq.1 ev).symm⟩, fun _ => by omega⟩, rfl⟩
    · go_wp2_with fail
      go_ret
      refine ⟨_, rfl, ⟨fun h => by omega, fun ⟨k, hk, e⟩ => ?_⟩, rfl⟩
      exact absurd e (HN.out k (by rw [List.take_of_length_le (by omega)]; exact hk))
theorem contains_any (l : List Nat) (k : Nat) (a : Option Addr) (c : Nat) (w : World) (h : Lst w a (l.map nV)) (hl : l.length ≤ 1000000) : Calls Tryd.prog 37 #[.slice a l.length c, .int .i64 (k : Int)] w fun e w' => e = .returned (.bool (decide (k ∈ l))) ∧ w' = w := by
  have HI := Hid.mk' (index_any l k a c w h hl)
  have HE : Hid ((∃ x ∈ l, (x : Int) = (k : Int)) ↔ k ∈ l) := by
    constructor
    · rintro ⟨x, hx, e⟩
      obtain rfl : x = k := by omega
      exact hx
    · exact fun h => ⟨k, h, rfl⟩
  clear h
  go_enter Tryd.func37, Tryd.ntmps37
  go_wp2_with (go_at_call 63; refine HI.out.mono ?_; rintro e w1 ⟨r, rfl, hr0, rfl⟩; have HR := Hid.mk' hr0; clear hr0)
  go_ret
  refine ⟨ret_bool ?_, rfl⟩
  have hr := HR.out
  rw [HE.out] at hr
  exact decide_eq_decide.2 hr

theorem done_eq {α : Type} {xs ys : List α} {j : Nat} (hl : xs.length = ys.length) (h : xs.take j = ys.take j) (hj : ¬ j < xs.length) : xs = ys := by
  rw [List.take_of_length_le (by omega), List.take_of_length_le (by omega)] at h
  exact h
theorem next_eq {α : Type} {xs ys : List α} {j : Nat} (h : xs.take j = ys.take j) (h1 : j < xs.length) (h2 : j < ys.length) (e : xs[j] = ys[j]) : xs.take (j + 1) = ys.take (j + 1) := by
  rw [List.take_succ_eq_append_getElem h1, List.take_succ_eq_append_getElem h2, h, e]
theorem part_ne {α : Type} {xs ys : List α} {j : Nat} (h1 : j < xs.length) (h2 : j < ys.length) (e : xs[j] ≠ ys[j]) : xs ≠ ys := fun h => e (by subst h; rfl)
end Go.Proofs.YtfmkjdfidenfkaaDoor
namespace Go.Proofs.YtfmkjdfidenfkaaDoor
open Go.RowKit Go.Sort

def nmL (x : Is) (b : Int) : List Int :=
  if x.op = 14 ∨ x.op = 18 then [x.n] else if x.op = 15 ∨ x.op = 16 ∨ x.op = 17 then [b, x.n] else if 1 ≤ x.op ∧ x.op ≤ 19 then [b] else []
/-- One number more, if it is an instruction's and not told yet. -/
def pk (n : Nat) (acc : List Nat) (z : Int) : List Nat := if 0 ≤ z ∧ z < n ∧ z.toNat ∉ acc then acc ++ [z.toNat] else acc
theorem pk_nil (n : Nat) (z : Int) : pk n [] z = tgt n z := by
  unfold pk tgt
  by_cases h : 0 ≤ z ∧ z < n
  · rw [if_pos ⟨h.1, h.2, by simp⟩, if_pos h]; rfl
  · rw [if_neg (fun g => h ⟨g.1, g.2.1⟩), if_neg h]
theorem nm_nx (n u : Nat) (x : Is) : (nmL x ((u : Int) + 1)).foldl (pk n) [] = nxL n x u := by
  unfold nmL nxL
  split
  · simp [pk_nil]
  · split
    · simp only [List.foldl, pk_nil]
      unfold pk
      by_cases h : x.n = (u : Int) + 1
      · rw [if_pos h, h, List.append_nil, if_neg]
        rintro ⟨h1, h2, h3⟩
        exact h3 (by unfold tgt; rw [if_pos ⟨h1, h2⟩]; simp)
      · rw [if_neg h]
        unfold tgt
        by_cases h2 : 0 ≤ x.n ∧ x.n < n
        · rw [if_pos h2, if_pos]
          refine ⟨h2.1, h2.2, ?_⟩
          split
          · rw [List.mem_singleton]; omega
          · simp
        · rw [if_neg h2, if_neg (fun g => h2 ⟨g.1, g.2.1⟩), List.append_nil]
    · split
      · simp [pk_nil]
      · rfl
theorem nmL_len (x : Is) (b : Int) : (nmL x b).length ≤ 2 := by unfold nmL; split <;> (try split) <;> (try split) <;> simp

def NmP (L : List Int) (w : World) (e : Ending) (w' : World) : Prop := ∃ a c, e = .returned (.slice a L.length c) ∧ Lst w' a (L.map (Value.int .i64)) ∧ Below w.heap.size w w'
theorem lst_nil (W : World) (a : Option Addr) : Lst W a [] := fun j u h => by simp at h
set_option maxRecDepth 100000 in
set_option maxHeartbeats 2000000 in
theorem named_any (x : Is) (b : Int) (w : World) : Calls Tryd.prog 64 #[x.val, .int .i64 b] w (NmP (nmL x b) w) := by
  have x0 := new_cell w #[.int .i64 x.op, .int .i64 x.a, .int .i64 x.b, .int .i64 x.c, .int .i64 x.n] 57 0 (.int .i64 x.op) rfl
  have x4 := new_cell w #[.int .i64 x.op, .int .i64 x.a, .int .i64 x.b, .int .i64 x.c, .int .i64 x.n] 57 4 (.int .i64 x.n) rfl
  have HB := Hid.mk' (Below.one (Below.refl _ w) (oX x))
  have HZ : Hid (∀ (W : World) (k : Nat) (cs : Array Value) xs, W.heap.size = k → cs.toList = xs → Lst (W.alloc (.cells cs 2)) (some ⟨k, 0, none⟩) xs) := fun W k cs xs e h => by subst e; exact lst_new W cs _ xs h
  have HQ : Hid ((x.op = 14 → nmL x b = [x.n]) ∧ (x.op = 18 → nmL x b = [x.n]) ∧ (x.op = 15 → nmL x b = [b, x.n]) ∧ (x.op = 16 → nmL x b = [b, x.n]) ∧ (x.op = 17 → nmL x b = [b, x.n]) ∧ (¬ (0 ≤ x.op ∧ x.op ≤ 19) → nmL x b = []) ∧ (x.op = 0 → nmL x b = []) ∧
      ((1 ≤ x.op ∧ x.op ≤ 19) → x.op ≠ 14 → x.op ≠ 18 → x.op ≠ 15 → x.op ≠ 16 → x.op ≠ 17 → nmL x b = [b])) := by
    refine ⟨?_, ?_, ?_, ?_, ?_, ?_, ?_, ?_⟩
    · intro h; unfold nmL; rw [if_pos (by omega)]
    · intro h; unfold nmL; rw [if_pos (by omega)]
    · intro h; unfold nmL; rw [if_neg (by omega), if_pos (by omega)]
    · intro h; unfold nmL; rw [if_neg (by omega), if_pos (by omega)]
    · intro h; unfold nmL; rw [if_neg (by omega), if_pos (by omega)]
    · intro h; unfold nmL; rw [if_neg (by omega), if_neg (by omega), if_neg (by omega)]
    · intro h; unfold nmL; rw [if_neg (by omega), if_neg (by omega), if_neg (by omega)]
    · intro h h1 h2 h3 h4 h5; unfold nmL; rw [if_neg (by omega), if_neg (by omega), if_pos h]
  obtain ⟨r14, r18, r15, r16, r17, rn, r0, ro⟩ := HQ.out
  have HK := Hid.mk' (known_any x.op)
  unfold Is.val
  unfold oX at HB
  generalize nmL x b = L at *
  clear HQ
  have HW := Hid.mk' (And.intro rn ro)
  clear rn ro
  by_cases h0 : x.op = 0
  · have hL := r0 h0
    subst hL
    have q0 : (x.op == 0) = true := by simp [h0]
    clear h0 r14 r18 r15 r16 r17 r0
    go_enter Tryd.func64, Tryd.ntmps64
    go_wp2_with fail
    go_ret
    exact ⟨_, _, rfl, lst_nil _ _, HB.out⟩
  have q0 : (x.op == 0) = false := beq_no h0
  have h0 := Hid.mk' h0
  clear r0
  by_cases h1 : x.op = 14
  · have hL := r14 h1
    subst hL
    have q1 : (x.op == 14) = true := by simp [h1]
    clear h1 r14 r18 r15 r16 r17
    go_enter Tryd.func64, Tryd.ntmps64
    go_wp2_with fail
    go_ret
    exact ⟨_, _, rfl, HZ.out _ _ _ _ (by simp) rfl, Below.one HB.out _⟩
  have q1 : (x.op == 14) = false := beq_no h1
  have h1 := Hid.mk' h1
  clear r14
  by_cases h2 : x.op = 18
  · have hL := r18 h2
    subst hL
    have q2 : (x.op == 18) = true := by simp [h2]
    clear h2 r18 r15 r16 r17
    go_enter Tryd.func64, Tryd.ntmps64
    go_wp2_with fail
    go_ret
    exact ⟨_, _, rfl, HZ.out _ _ _ _ (by simp) rfl, Below.one HB.out _⟩
  have q2 : (x.op == 18) = false := beq_no h2
  have h2 := Hid.mk' h2
  clear r18
  by_cases h3 : x.op = 15
  · have hL := r15 h3
    subst hL
    have q3 : (x.op == 15) = true := by simp [h3]
    clear h3 r15 r16 r17
    go_enter Tryd.func64, Tryd.ntmps64
    go_wp2_with fail
    go_ret
    exact ⟨_, _, rfl, HZ.out _ _ _ _ (by simp) rfl, Below.one HB.out _⟩
  have q3 : (x.op == 15) = false := beq_no h3
  have h3 := Hid.mk' h3
  clear r15
  by_cases h4 : x.op = 16
  · have hL := r16 h4
    subst hL
    have q4 : (x.op == 16) = true := by simp [h4]
    clear h4 r16 r17
    go_enter Tryd.func64, Tryd.ntmps64
    go_wp2_with fail
    go_ret
    exact ⟨_, _, rfl, HZ.out _ _ _ _ (by simp) rfl, Below.one HB.out _⟩
  have q4 : (x.op == 16) = false := beq_no h4
  have h4 := Hid.mk' h4
  clear r16
  by_cases h5 : x.op = 17
  · have hL := r17 h5
    subst hL
    have q5 : (x.op == 17) = true := by simp [h5]
    clear h5 r17
    go_enter Tryd.func64, Tryd.ntmps64
    go_wp2_with fail
    go_ret
    exact ⟨_, _, rfl, HZ.out _ _ _ _ (by simp) rfl, Below.one HB.out _⟩
  have q5 : (x.op == 17) = false := beq_no h5
  have h5 := Hid.mk' h5
  clear r17
  by_cases h6 : 0 ≤ x.op ∧ x.op ≤ 19
  · have hL := HW.out.2 (by have := h0.out; omega) h1.out h2.out h3.out h4.out h5.out
    subst hL
    have hk : knB x.op = true := by simp [knB]; omega
    rw [hk] at HK
    clear h6 hk
    go_enter Tryd.func64, Tryd.ntmps64
    go_wp2_with (go_at_call 79; refine (HK.out _).mono ?_; rintro e w1 ⟨rfl, rfl⟩)
    go_ret
    exact ⟨_, _, rfl, HZ.out _ _ _ _ (by simp) rfl, Below.one HB.out _⟩
  · have hL := HW.out.1 h6
    subst hL
    have hk : knB x.op = false := by simp [knB]; omega
    rw [hk] at HK
    clear h6 hk
    go_enter Tryd.func64, Tryd.ntmps64
    go_wp2_with (go_at_call 79; refine (HK.out _).mono ?_; rintro e w1 ⟨rfl, rfl⟩)
    go_ret
    exact ⟨_, _, rfl, lst_nil _ _, HB.out⟩
end Go.Proofs.YtfmkjdfidenfkaaDoor
namespace Go.Proofs.YtfmkjdfidenfkaaDoor
open Go.RowKit Go.Sort

/-- An append, at a place of a list of operations. -/
theorem wpl_app {ops : Array Oper} {rest : List Oper} {o : Oper} {a : Act} {Q : Exit → Act → World → Prop} {W : World} (hgd : o.guard = Option.none) (sl x : Operand) (t u : TypeId) (va vx : Value)
    (ho : o.op = .call { callee := .builtin .append, args := #[sl, x], argTypes := #[t, u] }) (hs : a.eval sl = va) (hx : a.eval x = vx) {R : Value → World → Prop}
    (hr : ∃ v' W', (Builtin.append_ #[t, u] o.type #[va, vx]).run Tryd.prog W = .ok v' W' ∧ R v' W')
    (h : ∀ v' W', R v' W' → wpList Tryd.prog ops Q rest (a.put o.dst v') W') : wpList Tryd.prog ops Q (o :: rest) a W := by
  refine wpList_plain hgd fun K hK => ?_
  obtain ⟨v', W', hr, h2⟩ := hr
  unfold Oper.wp execOp
  simp only [ho, resolve, invoke, builtin, Sem.run_bind, Sem.run_pure, Result.andThen_ok, List.map_toArray, List.map_cons, List.map_nil, hs, hx, hr]
  exact hK _ _ (h v' W' h2)
theorem step_app {ops : Array Oper} {o : Oper} {a : Act} {K : Act → World → Prop} {Q : Exit → Act → World → Prop} {E : Prop} {W : World} (hgd : o.guard = Option.none) (sl x : Operand) (t u : TypeId) (va vx : Value)
    (ho : o.op = .call { callee := .builtin .append, args := #[sl, x], argTypes := #[t, u] }) (hs : a.eval sl = va) (hx : a.eval x = vx) {R : Value → World → Prop}
    (hr : ∃ v' W', (Builtin.append_ #[t, u] o.type #[va, vx]).run Tryd.prog W = .ok v' W' ∧ R v' W')
    (h : ∀ v' W', R v' W' → K (a.put o.dst v') W') :
    if Region.wanted o (yielded ops a.tmps) = true then Oper.wp Tryd.prog o a W K Q else E := by
  have hw : Region.wanted o (yielded ops a.tmps) = true := by simp [Region.wanted, hgd]
  rw [if_pos hw]
  obtain ⟨v', W', hr, h2⟩ := hr
  unfold Oper.wp execOp
  simp only [ho, resolve, invoke, builtin, Sem.run_bind, Sem.run_pure, Result.andThen_ok, List.map_toArray, List.map_cons, List.map_nil, hs, hx, hr]
  exact h v' W' h2
theorem grown_of_alloc {W W' : World} {o : Obj} {row : Option Nat} (h : (W.alloc o).grownBy W' row) : W.grownBy W' row :=
  ⟨h.os, h.tape, h.output, Nat.le_trans (by simp) h.size, fun k hk hr => (h.block k (by simp; omega) hr).trans (Below.heap_alloc W o k hk)⟩
/-- One element more. -/
theorem app_one {t e : TypeId} {z : Value} {sz bytes : Nat} (ht : Tryd.prog.underlying t = some (.slice e)) (hi : (Tryd.prog.info? e).map (fun i => (i.zero, i.size, i.bytes)) = some (some z, sz, bytes)) (hzs : z.cells.size = sz) (hsz : 0 < sz)
    {N n : Nat} {v : Value} {xs : List Value} {W : World} (h : W.ownsRow N e sz v n xs) (hN : N ≤ W.heap.size) (h63 : n + 1 ≤ maxLen) (hb : (n + 1) * bytes ≤ 140737488355328) (cs : Array Value) (hc : cs.size = sz) (h1 : ∀ u ∈ cs.toList, u.oneCell' = true) (ty : TypeId) :
    ∃ v' W', (Builtin.append_ #[t, t] ty #[v, .slice (some ⟨W.heap.size, 0, none⟩) 1 1]).run Tryd.prog (W.alloc (.cells cs e)) = .ok v' W' ∧ W'.ownsRow N e sz v' (n + 1) (xs ++ cs.toList) ∧ W.grownBy W' v.ownBlock := by
  obtain ⟨i0, hi, hz0, hz1, hz2⟩ := info_parts hi
  obtain ⟨v', W', hr, h2, h3⟩ := run_append_ownS (P := Tryd.prog) (W.alloc (.cells cs e)) N t ty e i0 z sz bytes ht hi hz0 hz1 hz2 hzs hsz v n xs (h.alloc _) (some ⟨W.heap.size, 0, none⟩) 1 1 cs.toList (by simp [hc]) (fun e => by cases e) (fun ad e j u hu => by
    cases e
    rw [Addr.add_lit, Nat.zero_add]
    exact new_cell _ _ _ _ _ (by rw [← hu, Array.getElem?_toList])) h1 h63 hb (by simp; omega)
  exact ⟨v', W', hr, h2, grown_of_alloc h3⟩
/-- Numbers of the call's own, from N on; yes and no. -/
abbrev On (N : Nat) (l : List Nat) (v : Value) (W : World) : Prop := W.ownsRow N 3 1 v l.length (l.map nV)
abbrev Ob (N : Nat) (l : List Bool) (v : Value) (W : World) : Prop := W.ownsRow N 4 1 v l.length (l.map bV)
theorem Tryd.infoBool : (Tryd.prog.info? 4).map (fun i => (i.zero, i.size, i.bytes)) = some (some (.bool false), 1, 1) := by kernel_rfl
theorem on_app {N : Nat} {l : List Nat} {v : Value} {W : World} (h : On N l v W) (hN : N ≤ W.heap.size) (hl : l.length ≤ 1000000) (k : Nat) (ty : TypeId) :
    ∃ v' W', (Builtin.append_ #[38, 38] ty #[v, .slice (some ⟨W.heap.size, 0, none⟩) 1 1]).run Tryd.prog (W.alloc (.cells #[.int .i64 (k : Int)] 3)) = .ok v' W' ∧ On N (l ++ [k]) v' W' ∧ W.grownBy W' v.ownBlock := by
  obtain ⟨v', W', h1, h2, h3⟩ := app_one (t := 38) Tryd.underlying38 Tryd.infoN rfl (by decide) h hN (by unfold maxLen; omega) (by omega) #[.int .i64 (k : Int)] rfl (by simp [Value.oneCell']) ty
  refine ⟨v', W', h1, ?_, h3⟩
  unfold On
  rw [List.length_append, List.map_append]
  exact h2
theorem on_nil (N : Nat) (W : World) : On N [] (.slice none 0 0) W := World.ownsRow_nil _ _ _ _
theorem ob_nil (N : Nat) (W : World) : Ob N [] (.slice none 0 0) W := World.ownsRow_nil _ _ _ _
/-- What is kept by an append: what lies ahead of the row's own block. -/
theorem own_keeps {N n sz : Nat} {T : TypeId} {v : Value} {xs : List Value} {W W' : World} (h : W.ownsRow N T sz v n xs) (hN : N ≤ W.heap.size) (hg : W.grownBy W' v.ownBlock) : Below N W W' := (Below.refl N W).grown hg hN (fun k e => own_base h k e)

def NxP (l : List Nat) (w : World) (e : Ending) (w' : World) : Prop := ∃ v, e = .returned v ∧ On w.heap.size l v w' ∧ Below w.heap.size w w'
theorem take_pk (n : Nat) (L : List Int) {j : Nat} (h : j < L.length) : (L.take (j + 1)).foldl (pk n) [] = pk n ((L.take j).foldl (pk n) []) L[j] := by
  rw [List.take_succ_eq_append_getElem h, List.foldl_append]; rfl
theorem pk_yes {n : Nat} {acc : List Nat} {k : Nat} (h : k < n) (h2 : k ∉ acc) : pk n acc (k : Int) = acc ++ [k] := by unfold pk; rw [if_pos ⟨by omega, by omega, by simpa using h2⟩]; simp
theorem pk_no {n : Nat} {acc : List Nat} {z : Int} (h : z < 0 ∨ (n : Int) ≤ z) : pk n acc z = acc := by unfold pk; rw [if_neg (by omega)]
theorem pk_has {n : Nat} {acc : List Nat} {k : Nat} (h2 : k ∈ acc) : pk n acc (k : Int) = acc := by unfold pk; rw [if_neg (fun h => h.2.2 (by simpa using h2))]
set_option maxRecDepth 100000 in
set_option maxHeartbeats 4000000 in
theorem next_any (f : Fn) (z : Int) (w : World) (hi : Iss w f.ca f.code) : Calls Tryd.prog 38 #[f.val, .int .i64 z] w (NxP (nxZ f.code z) w) := by
  obtain ⟨fn, fpa, fpc, fps, frg, fwd, fca, fcc, fl⟩ := f
  unfold Fn.val
  simp only at hi ⊢
  have HB := Hid.mk' (Below.one (Below.refl _ w) (.cells #[.string fn, .slice fpa fps.length fpc, .int .i64 frg, .int .i64 fwd, .slice fca fl.length fcc] 37))
  have hb := HB.out
  have HI := Hid.mk' (hi.stay hb)
  have y4 := new_cell w #[.string fn, .slice fpa fps.length fpc, .int .i64 frg, .int .i64 fwd, .slice fca fl.length fcc] 37 4 (.slice fca fl.length fcc) rfl
  have hc := hi.1
  clear hi hb
  by_cases hneg : z < 0
  · rw [nxZ_none (.inl hneg)]
    go_enter Tryd.func38, Tryd.ntmps38
    go_wp2_with fail
    go_ret
    exact ⟨_, rfl, on_nil _ _, HB.out⟩
  obtain ⟨i, rfl⟩ : ∃ i : Nat, z = i := ⟨z.toNat, by omega⟩
  by_cases hge : fl.length ≤ i
  · rw [nxZ_none (.inr (by omega))]
    have hgi : (fl.length : Int) ≤ (i : Int) := by omega
    clear hge
    go_enter Tryd.func38, Tryd.ntmps38
    go_wp2_with fail
    go_ret
    exact ⟨_, rfl, on_nil _ _, HB.out⟩
  have hlt : i < fl.length := by omega
  have hli : (i : Int) < (fl.length : Int) := by omega
  rw [nxZ_nat, nxt_at hlt, ← nm_nx]
  obtain ⟨b, o, rfl, c0, c1, c2, c3, c4⟩ := iss_at HI.out hlt
  clear HI hge hneg
  have HN := Hid.mk' (named_any fl[i] ((i : Int) + 1))
  have HL := Hid.mk' (nmL_len fl[i] ((i : Int) + 1))
  unfold Is.val at HN
  generalize nmL fl[i] ((i : Int) + 1) = L at *
  generalize fl[i] = x at *
  go_enter Tryd.func38, Tryd.ntmps38
  go_wp2_with fail
  refine (HN.out _).mono ?_
  rintro e w1 ⟨a1, k1, rfl, hl1, bb1⟩
  have y5 := cell_kept_below y4 bb1
  replace HB := Hid.mk' (Below.on HB.out bb1)
  have HL1 := Hid.mk' hl1
  have HS : Hid (w.heap.size ≤ w1.heap.size) := HB.out.size
  clear c0 c1 c2 c3 c4 y4 HN hl1 bb1
  go_wp2_with fail
  go_loopw [5, 26] (fun t5 t26 wr => ∃ (j : Nat) (acc : List Nat) (v : Value), j ≤ L.length ∧ t26 = .int .i64 j ∧ t5 = v ∧ acc = (L.take j).foldl (pk fl.length) [] ∧ acc.length ≤ j ∧ On w1.heap.size acc v wr ∧ Below w1.heap.size w1 wr) (fun _ t26 _ => L.length - (intOf t26).toNat)
  case atStart => exact ⟨0, [], _, Nat.zero_le _, rfl, rfl, rfl, Nat.le_refl _, on_nil _ _, Below.refl _ _⟩
  case round =>
    obtain ⟨j, acc, v, hj, rfl, rfl, hacc, hal, hown, hb⟩ := hrel
    have HA := Hid.mk' hacc
    have HO := Hid.mk' hown
    have HBR := Hid.mk' hb
    have y6 := cell_kept_below y5 hb
    have hj2 : j ≤ 2 := by have := HL.out; omega
    obtain ⟨av, cv, rfl⟩ := gown_form hown
    clear hacc hown hb
    by_cases hjl : j < L.length
    · obtain ⟨b2, o2, rfl, d0⟩ := lst_i (HL1.out.stay HBR.out) hjl
      have hjli : (j : Int) < (L.length : Int) := by omega
      have HT := Hid.mk' (take_pk fl.length L hjl)
      rw [← HA.out] at HT
      have HNX : Hid (acc.length ≤ j + 1) := Nat.le_succ_of_le hal
      have HD : Hid (Nat.succ j ≤ L.length) := hjl
      generalize L[j] = y at *
      by_cases h1 : y < 0
      · have HP := Hid.mk' (pk_no (n := fl.length) (acc := acc) (.inl h1))
        go_wp2_with fail
        go_roundw
        case rel => exact ⟨j + 1, acc, _, HD.out, by go_num, rfl, by rw [HT.out, HP.out], HNX.out, HO.out, HBR.out⟩
        case measure => simp [intOf]; omega
      obtain ⟨k, rfl⟩ : ∃ k : Nat, y = k := ⟨y.toNat, by omega⟩
      clear h1
      by_cases h2 : fl.length ≤ k
      · have HP := Hid.mk' (pk_no (n := fl.length) (acc := acc) (z := (k : Int)) (.inr (by omega)))
        have h2i : ¬ (k : Int) < (fl.length : Int) := by omega
        clear h2
        go_wp2_with fail
        go_roundw
        case rel => exact ⟨j + 1, acc, _, HD.out, by go_num, rfl, by rw [HT.out, HP.out], HNX.out, HO.out, HBR.out⟩
        case measure => simp [intOf]; omega
      have h2i : (k : Int) < (fl.length : Int) := by omega
      have HCT := Hid.mk' (contains_any acc k av cv wr (own_lst HO.out) (by omega))
      by_cases h3 : k ∈ acc
      · have HP := Hid.mk' (pk_has (n := fl.length) h3)
        rw [decide_eq_true h3] at HCT
        clear h2 h3
        go_wp2_with (go_at_call 37; refine HCT.out.mono ?_; rintro e w2 ⟨rfl, rfl⟩)
        go_roundw
        case rel => exact ⟨j + 1, acc, _, HD.out, by go_num, rfl, by rw [HT.out, HP.out], HNX.out, HO.out, HBR.out⟩
        case measure => simp [intOf]; omega
      · have HP := Hid.mk' (pk_yes (n := fl.length) (by omega) h3)
        rw [decide_eq_false h3] at HCT
        have HAP := Hid.mk' (on_app HO.out HBR.out.size (by omega) k 38)
        clear h2 h3
        go_wp2_with (first
          | (go_at_call 37; refine HCT.out.mono ?_; rintro e w2 ⟨rfl, rfl⟩)
          | (at_builtin; refine wpl_app rfl _ _ 38 38 _ _ rfl rfl rfl HAP.out ?_; rintro v2 w2 ⟨on2, gr2⟩))
        obtain ⟨a2, k2, rfl⟩ := gown_form on2
        go_roundw
        case rel => exact ⟨j + 1, acc ++ [k], _, HD.out, by go_num, rfl, by rw [HT.out, HP.out], by rw [List.length_append]; exact Nat.succ_le_succ hal, on2, HBR.out.trans (own_keeps HO.out HBR.out.size gr2)⟩
        case measure => simp [intOf]; omega
    · go_wp2_with fail
      go_ret
      refine ⟨_, rfl, ?_, HB.out.trans (HBR.out.mono HB.out.size)⟩
      have e := HA.out
      rw [List.take_of_length_le (by omega)] at e
      rw [← e]
      exact own_mono HO.out HS.out
end Go.Proofs.YtfmkjdfidenfkaaDoor
