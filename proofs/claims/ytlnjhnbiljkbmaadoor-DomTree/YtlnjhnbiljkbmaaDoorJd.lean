/- Where blocks begin: plain. -/
import Derived.Test.YtlnjhnbiljkbmaaDoorNb
import Derived.Test.YtlnjhnbiljkbmaaDoorNp
namespace Go.Proofs.YtlnjhnbiljkbmaaDoor

/-- How many there are of each. -/
def cnt (π : Nat × Nat → Nat) (n : Nat) (pre : List (Nat × Nat)) : List Nat := (List.range n).map fun u => pre.countP fun e => π e == u
theorem cnt_len (π : Nat × Nat → Nat) (n : Nat) (pre : List (Nat × Nat)) : (cnt π n pre).length = n := by simp [cnt]
theorem cnt_nil (π : Nat × Nat → Nat) (n : Nat) : cnt π n [] = List.replicate n 0 := by simp [cnt, List.map_const']
theorem cnt_at (π : Nat × Nat → Nat) {n u : Nat} (pre : List (Nat × Nat)) (h : u < n) : (cnt π n pre)[u]? = some (pre.countP fun e => π e == u) := by simp [cnt, h]
theorem cnt_snoc (π : Nat × Nat → Nat) {n : Nat} (pre : List (Nat × Nat)) {x : Nat × Nat} : cnt π n (pre ++ [x]) = (cnt π n pre).set (π x) ((pre.countP fun e => π e == π x) + 1) := by
  refine List.ext_getElem? fun i => ?_
  rw [List.getElem?_set, cnt_len]
  by_cases hi : i < n
  · rw [cnt_at π _ hi, cnt_at π _ hi, List.countP_append]
    by_cases e : π x = i
    · subst e; rw [if_pos rfl, if_pos hi]; simp
    · rw [if_neg e]; simp [e]
  · rw [List.getElem?_eq_none (by rw [cnt_len]; omega), List.getElem?_eq_none (l := cnt π n pre) (by rw [cnt_len]; omega)]
    split
    · rw [if_neg (by omega)]
    · rfl
/-- What still begins a block. -/
def bgn (rs : List Bool) (p : Nat × Nat → Bool) (pre : List (Nat × Nat)) : List Bool := (List.range rs.length).map fun v => (rs[v]? == some true) && !(pre.any fun e => e.2 == v && p e)
theorem bgn_len (rs : List Bool) (p : Nat × Nat → Bool) (pre : List (Nat × Nat)) : (bgn rs p pre).length = rs.length := by simp [bgn]
theorem bgn_at (rs : List Bool) (p : Nat × Nat → Bool) (pre : List (Nat × Nat)) {v : Nat} (h : v < rs.length) : (bgn rs p pre)[v]? = some ((rs[v]? == some true) && !(pre.any fun e => e.2 == v && p e)) := by simp [bgn, h]
theorem bgn_nil (rs : List Bool) (p : Nat × Nat → Bool) : bgn rs p [] = rs := by
  refine List.ext_getElem (bgn_len _ _ _) fun i h1 h2 => ?_
  have := bgn_at rs p [] h2
  rw [List.getElem?_eq_getElem h1, List.getElem?_eq_getElem h2] at this
  injection this with this
  rw [this]
  cases rs[i] <;> simp
theorem bgn_yes {rs : List Bool} {p : Nat × Nat → Bool} {pre : List (Nat × Nat)} {x : Nat × Nat} (hp : p x = true) : bgn rs p (pre ++ [x]) = (bgn rs p pre).set x.2 false := by
  refine List.ext_getElem? fun i => ?_
  rw [List.getElem?_set, bgn_len]
  by_cases hi : i < rs.length
  · rw [bgn_at _ _ _ hi, bgn_at _ _ _ hi, List.any_append]
    by_cases e : x.2 = i
    · subst e; rw [if_pos rfl, if_pos hi]; simp [hp]
    · rw [if_neg e]
      have e' : (x.2 == i) = false := by simp [e]
      simp [e']
  · rw [List.getElem?_eq_none (by rw [bgn_len]; omega), List.getElem?_eq_none (l := bgn rs p pre) (by rw [bgn_len]; omega)]
    split
    · rw [if_neg (by omega)]
    · rfl
theorem bgn_no {rs : List Bool} {p : Nat × Nat → Bool} {pre : List (Nat × Nat)} {x : Nat × Nat} (hp : p x = false) : bgn rs p (pre ++ [x]) = bgn rs p pre := by
  unfold bgn
  simp [List.any_append, hp]
/-- Those that are marked, ahead of k. -/
def bls (bs : List Bool) (k : Nat) : List Nat := (List.range k).filter fun v => bs[v]? == some true
theorem bls_yes {bs : List Bool} {k : Nat} (h : bs[k]? = some true) : bls bs (k + 1) = bls bs k ++ [k] := by unfold bls; rw [List.range_succ, List.filter_append]; simp [h]
theorem bls_no {bs : List Bool} {k : Nat} (h : bs[k]? = some false) : bls bs (k + 1) = bls bs k := by unfold bls; rw [List.range_succ, List.filter_append]; simp [h]
theorem bls_len (bs : List Bool) (k : Nat) : (bls bs k).length ≤ k := by unfold bls; exact Nat.le_trans (List.length_filter_le _ _) (by simp)
/-- A step within a block. -/
def inB (es : List (Nat × Nat)) (e : Nat × Nat) : Bool := (e.1 + 1 == e.2) && ((es.countP fun x => x.1 == e.1) == 1) && ((es.countP fun x => x.2 == e.2) == 1)
def blk (l : List Is) (rs : List Bool) : List Nat := bls (bgn rs (inB (edg l rs)) (edg l rs)) rs.length
theorem countP_edU (l : List Is) (rs : List Bool) (u : Nat) : ∀ n, (edU l rs n).countP (fun e => e.1 == u) = if u < n ∧ rs[u]? = some true then (nxt l u).length else 0
  | 0 => by simp [edU]
  | n + 1 => by
    rw [edU_succ, List.countP_append, countP_edU l rs u n]
    unfold edB
    by_cases hn : u = n
    · subst hn
      rw [if_neg (by omega)]
      by_cases hr : rs[u]? = some true
      · rw [if_pos hr, if_pos ⟨by omega, hr⟩, List.countP_map, List.countP_eq_length.2 (by simp)]; simp
      · rw [if_neg hr, if_neg (fun h => hr h.2)]; rfl
    · have h0 : List.countP (fun e => e.1 == u) (if rs[n]? = some true then (nxt l n).map fun v => (n, v) else []) = 0 := by
        split
        · rw [List.countP_map, List.countP_eq_zero]; intro a _; simp; omega
        · rfl
      rw [h0, Nat.add_zero]
      by_cases h : u < n ∧ rs[u]? = some true
      · rw [if_pos h, if_pos ⟨by omega, h.2⟩]
      · rw [if_neg h, if_neg (fun g => h ⟨by omega, g.2⟩)]
theorem countP_edg {l : List Is} {rs : List Bool} {u : Nat} (h : rs[u]? = some true) : (edg l rs).countP (fun e => e.1 == u) = (nxt l u).length := by
  unfold edg
  rw [countP_edU, if_pos ⟨(List.getElem?_eq_some_iff.1 h).1, h⟩]
theorem countP_le (l : List Is) (rs : List Bool) (p : Nat × Nat → Bool) {pre : List (Nat × Nat)} (h : pre <+: edg l rs) : pre.countP p ≤ (edg l rs).length := Nat.le_trans (List.countP_le_length) h.length_le
theorem two_one {α : Type} {p : α → Bool} {l : List α} (h : l.countP p = 1) {a b : α} (ha : a ∈ l) (hb : b ∈ l) (pa : p a = true) (pb : p b = true) : a = b := by
  rw [List.countP_eq_length_filter] at h
  obtain ⟨x, hx⟩ := List.length_eq_one_iff.1 h
  have h1 : a ∈ l.filter p := List.mem_filter.2 ⟨ha, pa⟩
  have h2 : b ∈ l.filter p := List.mem_filter.2 ⟨hb, pb⟩
  rw [hx, List.mem_singleton] at h1 h2
  rw [h1, h2]
/-- From where the last one came that leads to v. -/
def lastU (pre : List (Nat × Nat)) (v : Nat) : Nat := pre.foldl (fun a e => if e.2 = v then e.1 else a) 0
theorem lastU_snoc (pre : List (Nat × Nat)) (x : Nat × Nat) (v : Nat) : lastU (pre ++ [x]) v = if x.2 = v then x.1 else lastU pre v := by unfold lastU; rw [List.foldl_append]; rfl
def lst (n : Nat) (pre : List (Nat × Nat)) : List Nat := (List.range n).map (lastU pre)
theorem lst_len (n : Nat) (pre : List (Nat × Nat)) : (lst n pre).length = n := by simp [lst]
theorem lst_nil0 (n : Nat) : lst n [] = List.replicate n 0 := by
  unfold lst
  rw [show lastU [] = fun _ => 0 from rfl, List.map_const', List.length_range]
theorem lst_at {n v : Nat} (pre : List (Nat × Nat)) (h : v < n) : (lst n pre)[v]? = some (lastU pre v) := by simp [lst, h]
theorem lst_snoc {n : Nat} (pre : List (Nat × Nat)) (x : Nat × Nat) : lst n (pre ++ [x]) = (lst n pre).set x.2 x.1 := by
  refine List.ext_getElem? fun i => ?_
  rw [List.getElem?_set, lst_len]
  by_cases hi : i < n
  · rw [lst_at _ hi, lst_at _ hi, lastU_snoc]
    by_cases e : x.2 = i
    · subst e; rw [if_pos rfl, if_pos rfl, if_pos hi]
    · rw [if_neg e, if_neg e]
  · rw [List.getElem?_eq_none (by rw [lst_len]; omega), List.getElem?_eq_none (l := lst n pre) (by rw [lst_len]; omega)]
    split
    · rw [if_neg (by omega)]
    · rfl
theorem lastU_gen {v : Nat} : ∀ (pre : List (Nat × Nat)) (a : Nat), (0 < pre.countP fun e => e.2 == v) → (pre.foldl (fun a e => if e.2 = v then e.1 else a) a, v) ∈ pre
  | [], a, h => by simp at h
  | x :: r, a, h => by
    rw [List.foldl_cons]
    by_cases hr : 0 < r.countP fun e => e.2 == v
    · exact List.mem_cons_of_mem _ (lastU_gen r _ hr)
    · have h0 : (r.countP fun e => e.2 == v) = 0 := by omega
      rw [List.countP_cons, h0] at h
      have e : x.2 = v := by
        by_cases e : x.2 = v
        · exact e
        · simp [e] at h
      have hn : ∀ (l : List (Nat × Nat)) (b : Nat), (l.countP fun e => e.2 == v) = 0 → l.foldl (fun a e => if e.2 = v then e.1 else a) b = b := by
        intro l
        induction l with
        | nil => intro b _; rfl
        | cons y t ih =>
          intro b hb
          rw [List.countP_cons] at hb
          have hy : ¬ y.2 = v := fun e => by simp [e] at hb
          rw [List.foldl_cons, if_neg hy]
          exact ih b (by omega)
      rw [hn r _ h0, if_pos e]
      subst e
      exact List.mem_cons_self ..
theorem lastU_mem {v : Nat} (pre : List (Nat × Nat)) (h : 0 < pre.countP fun e => e.2 == v) : (lastU pre v, v) ∈ pre := lastU_gen pre 0 h
/-- The document's own question. -/
def rin (l : List Is) (rs : List Bool) (v : Nat) : Bool := decide (0 < v) && ((edg l rs).countP (fun e => e.2 == v) == 1) && (lastU (edg l rs) v + 1 == v) && ((nxt l (v - 1)).length == 1)
theorem rin_eq (l : List Is) (rs : List Bool) (v : Nat) : rin l rs v = (edg l rs).any fun e => e.2 == v && inB (edg l rs) e := by
  rw [Bool.eq_iff_iff]
  unfold rin inB
  simp only [Bool.and_eq_true, decide_eq_true_eq, beq_iff_eq, List.any_eq_true]
  constructor
  · rintro ⟨⟨⟨h1, h2⟩, h3⟩, h4⟩
    have hm := lastU_mem (v := v) (edg l rs) (by omega)
    have hr := (mem_edg.1 hm).1
    refine ⟨_, hm, rfl, ⟨h3, ?_⟩, h2⟩
    simp only
    rw [countP_edg hr]
    rw [show v - 1 = lastU (edg l rs) v by omega] at h4
    exact h4
  · rintro ⟨⟨a, b⟩, hm, rfl, ⟨h1, h2⟩, h3⟩
    simp only at h1 h2 h3
    have hm2 := lastU_mem (v := b) (edg l rs) (by omega)
    have e := two_one h3 hm hm2 (by simp) (by simp)
    injection e with e _
    have hr := (mem_edg.1 hm).1
    rw [countP_edg hr] at h2
    refine ⟨⟨⟨by simp only; omega, h3⟩, by simp only; omega⟩, ?_⟩
    simp only
    rw [show b - 1 = a by omega]
    exact h2
theorem blk_rin (l : List Is) (rs : List Bool) : blk l rs = (List.range rs.length).filter fun v => (rs[v]? == some true) && !rin l rs v := by
  unfold blk bls
  refine List.filter_congr fun v hv => ?_
  rw [bgn_at _ _ _ (List.mem_range.1 hv), rin_eq]
  simp
end Go.Proofs.YtlnjhnbiljkbmaaDoor

/- Where blocks begin: what lies in memory. -/
namespace Go.Proofs.YtlnjhnbiljkbmaaDoor
open Go.RowKit Go.Shelf

def mkD (d : Nat) : Deferred := { target := .collected d, args := #[] }
theorem leaves_any {n N : Nat} {fn : Func} {tmps : Array Value} {R : Ending → World → Prop} (Φ : World → Prop) (hΦ : ∀ W d, N ≤ d → W.heap[d]? = some (.deferred (some [])) → Φ W → Φ (W.putObj d (.deferred none))) (hend : ∀ W', Φ W' → LeavesIn Fence.wide n Tryd.prog fn tmps R [] .returning W') : ∀ (ds : List Nat) (W : World), ds.Nodup → (∀ d ∈ ds, N ≤ d ∧ W.heap[d]? = some (.deferred (some []))) → Φ W → LeavesInM Fence.wide n Tryd.prog fn tmps R (ds.map mkD) .returning W
  | [], W, _, _, h => hend W h
  | d :: ds, W, hn, hs, h => by
    obtain ⟨hd, hK⟩ := hs d (by simp)
    obtain ⟨hn1, hn2⟩ := List.nodup_cons.1 hn
    have hne : ∀ x ∈ ds, x ≠ d := fun x hx e => hn1 (e ▸ hx)
    refine ⟨by simp, .inl ⟨d, _, rfl, run_takeDeferred hK, leaves_any Φ hΦ hend ds _ hn2 (fun x hx => ⟨(hs x (by simp [hx])).1, ?_⟩) (hΦ W d hd hK h)⟩⟩
    exact (World.putObj_heap_other (hne x hx)).trans (hs x (by simp [hx])).2
/-- A box stays where a block of another type is written. -/
theorem boxed_set {W : World} {x g : Nat} {t T : TypeId} {v : Value} {cur : Array Value} {fz : Nat × Nat} (h : Boxed W x t v) (hg : W.heap[g]? = some (.cells cur T fz)) (hT : t ≠ T) (i : Nat) (u : Value) : Boxed (W.setCell ⟨g, i, none⟩ u) x t v := by
  refine (Below.heap_setCell _ _ _ _ ?_).trans h
  intro e
  simp only at e
  subst e
  rw [show W.heap[x]? = _ from h] at hg
  cases hg
  exact hT rfl
/-- A row stays where another block is written. -/
theorem own_off {W : World} {N n sz g : Nat} {T : TypeId} {v : Value} {xs : List Value} (h : W.ownsRow N T sz v n xs) (hne : v.ownBlock ≠ some g) (i : Nat) (u : Value) : (W.setCell ⟨g, i, none⟩ u).ownsRow N T sz v n xs := by
  refine ⟨h.1, ?_⟩
  rcases h.2 with h0 | ⟨k, cap, cur, rfl, h1, h2, h3⟩
  · exact .inl h0
  · exact .inr ⟨k, cap, cur, rfl, h1, (Below.heap_setCell _ _ _ _ (fun e => hne (by simp [Value.ownBlock, e]))).trans h2, h3⟩
/-- What lies where. -/
structure BI (w : World) (n x3 xf xi gf gi : Nat) (vb : Value) (bs : List Bool) (fr it : List Nat) (W : World) : Prop where
  b3 : Boxed W x3 38 vb
  bf : Boxed W xf 34 (.slice (some ⟨gf, 0, none⟩) n n)
  bi : Boxed W xi 34 (.slice (some ⟨gi, 0, none⟩) n n)
  r : Ob w.heap.size bs vb W
  f : On w.heap.size fr (.slice (some ⟨gf, 0, none⟩) n n) W
  i : On w.heap.size it (.slice (some ⟨gi, 0, none⟩) n n) W
  ne : gf ≠ gi
  b : Below w.heap.size w W
section
variable {w : World} {n x3 xf xi gf gi : Nat} {vb : Value} {bs : List Bool} {fr it : List Nat} {W W' : World}
theorem BI.grown (h : BI w n x3 xf xi gf gi vb bs fr it W) {row : Option Nat} {B : Nat} (hB : w.heap.size ≤ B) (hg : W.grownBy W' row) (hr : ∀ r, row = some r → B ≤ r ∧ ∃ o : Obj, W.heap[r]? = some o ∧ o.isCells = false) : BI w n x3 xf xi gf gi vb bs fr it W' :=
  ⟨boxed_grown h.b3 hg (fun r e => (hr r e).2), boxed_grown h.bf hg (fun r e => (hr r e).2), boxed_grown h.bi hg (fun r e => (hr r e).2), own_grown h.r hg (fun r e => (hr r e).2), own_grown h.f hg (fun r e => (hr r e).2), own_grown h.i hg (fun r e => (hr r e).2), h.ne, h.b.grown hg h.b.size (fun k e => Nat.le_trans hB (hr k e).1)⟩
theorem BI.stay (h : BI w n x3 xf xi gf gi vb bs fr it W) (hb : Below W.heap.size W W') : BI w n x3 xf xi gf gi vb bs fr it W' :=
  ⟨boxed_stay h.b3 hb, boxed_stay h.bf hb, boxed_stay h.bi hb, own_stay h.r hb, own_stay h.f hb, own_stay h.i hb, h.ne, Below.on h.b hb⟩
theorem BI.putF (h : BI w n x3 xf xi gf gi vb bs fr it W) (u k : Nat) : BI w n x3 xf xi gf gi vb bs (fr.set u k) it (W.setCell ⟨gf, u, none⟩ (.int .i64 (k : Int))) := by
  obtain ⟨cur, hc, hN⟩ := own_blk h.f
  exact ⟨boxed_set h.b3 hc (by decide) _ _, boxed_set h.bf hc (by decide) _ _, boxed_set h.bi hc (by decide) _ _, own_set h.r hc (by decide) _ _, on_put h.f u k, own_off h.i (fun e => h.ne (by simpa [Value.ownBlock] using e.symm)) _ _, h.ne, h.b.setCell (by simp only; omega) _⟩
theorem BI.putI (h : BI w n x3 xf xi gf gi vb bs fr it W) (u k : Nat) : BI w n x3 xf xi gf gi vb bs fr (it.set u k) (W.setCell ⟨gi, u, none⟩ (.int .i64 (k : Int))) := by
  obtain ⟨cur, hc, hN⟩ := own_blk h.i
  exact ⟨boxed_set h.b3 hc (by decide) _ _, boxed_set h.bf hc (by decide) _ _, boxed_set h.bi hc (by decide) _ _, own_set h.r hc (by decide) _ _, own_off h.f (fun e => h.ne (by simpa [Value.ownBlock] using e)) _ _, on_put h.i u k, h.ne, h.b.setCell (by simp only; omega) _⟩
theorem BI.putB {gb m c : Nat} (h : BI w n x3 xf xi gf gi (.slice (some ⟨gb, 0, none⟩) m c) bs fr it W) (v : Nat) (b : Bool) : BI w n x3 xf xi gf gi (.slice (some ⟨gb, 0, none⟩) m c) (bs.set v b) fr it (W.setCell ⟨gb, v, none⟩ (.bool b)) := by
  obtain ⟨cur, hc, hN⟩ := own_blk h.r
  exact ⟨boxed_set h.b3 hc (by decide) _ _, boxed_set h.bf hc (by decide) _ _, boxed_set h.bi hc (by decide) _ _, ob_put h.r v b, own_set h.f hc (by decide) _ _, own_set h.i hc (by decide) _ _, h.ne, h.b.setCell (by simp only; omega) _⟩
end
theorem BI.own (w : World) (n x3 xf xi gf gi : Nat) (vb : Value) {α : Type} (bs : α → List Bool) (fr it : α → List Nat) {B : Nat} (hB : w.heap.size ≤ B) : OwnFrom B (fun (p : α) W => BI w n x3 xf xi gf gi vb (bs p) (fr p) (it p) W) := fun _ _ _ _ h hg hr => h.grown hB hg hr
def BkX (_ : Code) (_ : List (Nat × Nat)) (_ : World) : Prop := False
theorem BkX.own (B : Nat) (c : Code) : OwnFrom B (BkX c) := fun _ _ _ _ h _ _ => h.elim
def BlP (l : List Is) (w : World) (e : Ending) (w' : World) : Prop := ∃ v rs, e = .returned v ∧ IsR l rs ∧ On w.heap.size (blk l rs) v w' ∧ Below w.heap.size w w'
end Go.Proofs.YtlnjhnbiljkbmaaDoor
