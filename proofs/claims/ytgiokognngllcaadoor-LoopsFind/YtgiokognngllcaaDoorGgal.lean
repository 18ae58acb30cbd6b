/- Where blocks begin: plain. -/
import Derived.Test.YtgiokognngllcaaDoorGgac
import Derived.Test.YtgiokognngllcaaDoorGgag
import Derived.Test.YtgiokognngllcaaDoorGgak
import Derived.Test.YtgiokognngllcaaDoorGgaj
namespace Go.Proofs.YtgiokognngllcaaDoor

/-- How many there are of each. -/
def cnt (π : Nat × Nat → Nat) (n : Nat) (pre : List (Nat × Nat)) : List Nat := (List.range n).map fun u => pre.countP fun e => π e == u
theorem cnt_len (π : Nat × Nat → Nat) (n : Nat) (pre : List (Nat × Nat)) : (cnt π n pre).length = n := by simp [cnt]
theorem cnt_nil (π : Nat × Nat → Nat) (n : Nat) : cnt π n [] = List.replicate n 0 := by simp [cnt, List.map_const']
theorem cnt_at (π : Nat × Nat → Nat) {n u : Nat} (pre : List (Nat × Nat)) (h : u < n) : (cnt π n pre)[u]? = some (pre.countP fun e => π e == u) := by simp [cnt, h]
theorem cnt_snoc (π : Nat × Nat → Nat) {n : Nat} (pre : List (Nat × Nat)) {x : Nat × Nat} : cnt π n (pre ++ [x]) = (cnt π n pre).set (π x) ((pre.countP fun e => π e == π x) + 1) := by
  refine List.ext_getElem? fun i => ?_
  rw [List.getElem?_set, cnt_len]
  by_cases hi : i < n
  · rw [cnt_at π _ hi, cnt_at π _ hi, List.countP_append]
    by_cases e : π x = i
    · subst e; rw [if_pos rfl, if_pos hi]; simp
    · rw [if_neg e]; simp [e]
  · rw [List.getElem?_eq_none (by rw [cnt_len]; omega), List.getElem?_eq_none (l := cnt π n pre) (by rw [cnt_len]; omega)]
    split
    · rw [if_neg (by omega)]
    · rfl
/-- What still begins a block. -/
def bgn (rs : List Bool) (p : Nat × Nat → Bool) (pre : List (Nat × Nat)) : List Bool := (List.range rs.length).map fun v => (rs[v]? == some true) && !(pre.any fun e => e.2 == v && p e)
theorem bgn_len (rs : List Bool) (p : Nat × Nat → Bool) (pre : List (Nat × Nat)) : (bgn rs p pre).length = rs.length := by simp [bgn]
theorem bgn_at (rs : List Bool) (p : Nat × Nat → Bool) (pre : List (Nat × Nat)) {v : Nat} (h : v < rs.length) : (bgn rs p pre)[v]? = some ((rs[v]? == some true) && !(pre.any fun e => e.2 == v && p e)) := by simp [bgn, h]
theorem bgn_nil (rs : List Bool) (p : Nat × Nat → Bool) : bgn rs p [] = rs := by
  refine List.ext_getElem (bgn_len _ _ _) fun i h1 h2 => ?_
  have := bgn_at rs p [] h2
  rw [List.getElem?_eq_getElem h1, List.getElem?_eq_getElem h2] at this
  injection this with this
  rw [this]
  cases rs[i] <;> simp
theorem bgn_yes {rs : List Bool} {p : Nat × Nat → Bool} {pre : List (Nat × Nat)} {x : Nat × Nat} (hp : p x = true) : bgn rs p (pre ++ [x]) = (bgn rs p pre).set x.2 false := by
  refine List.ext_getElem? fun i => ?_
  rw [List.getElem?_set, bgn_len]
  by_cases hi : i < rs.length
  · rw [bgn_at _ _ _ hi, bgn_at _ _ _ hi, List.any_append]
    by_cases e : x.2 = i
    · subst e; rw [if_pos rfl, if_pos hi]; simp [hp]
    · rw [if_neg e]
      have e' : (x.2 == i) = false := by simp [e]
      simp [e']
  · rw [List.getElem?_eq_none (by rw [bgn_len]; omega), List.getElem?_eq_none (l := bgn rs p pre) (by rw [bgn_len]; omega)]
    split
    · rw [if_neg (by omega)]
    · rfl
theorem bgn_no {rs : List Bool} {p : Nat × Nat → Bool} {pre : List (Nat × Nat)} {x : Nat × Nat} (hp : p x = false) : bgn rs p (pre ++ [x]) = bgn rs p pre := by
  unfold bgn
  simp [List.any_append, hp]
/-- Those that are marked, ahead of k. -/
def bls (bs : List Bool) (k : Nat) : List Nat := (List.range k).filter fun v => bs[v]? == some true
theorem bls_yes {bs : List Bool} {k : Nat} (h : bs[k]? = some true) : bls bs (k + 1) = bls bs k ++ [k] := by unfold bls; rw [List.range_succ, List.filter_append]; simp [h]
theorem bls_no {bs : List Bool} {k : Nat} (h : bs[k]? = some false) : bls bs (k + 1) = bls bs k := by unfold bls; rw [List.range_succ, List.filter_append]; simp [h]
theorem bls_len (bs : List Bool) (k : Nat) : (bls bs k).length ≤ k := by unfold bls; exact Nat.le_trans (List.length_filter_le _ _) (by simp)
/-- A step within a block. -/
def inB (es : List (Nat × Nat)) (e : Nat × Nat) : Bool := (e.1 + 1 == e.2) && ((es.countP fun x => x.1 == e.1) == 1) && ((es.countP fun x => x.2 == e.2) == 1)
def blk (l : List Is) (rs : List Bool) : List Nat := bls (bgn rs (inB (edg l rs)) (edg l rs)) rs.length
theorem countP_edU (l : List Is) (rs : List Bool) (u : Nat) : ∀ n, (edU l rs n).countP (fun e => e.1 == u) = if u < n ∧ rs[u]? = some true then (nxt l u).length else 0
  | 0 => by simp [edU]
  | n + 1 => by
    rw [edU_succ, List.countP_append, countP_edU l rs u n]
    unfold edB
    by_cases hn : u = n
    · subst hn
      rw [if_neg (by omega)]
      by_cases hr : rs[u]? = some true
      · rw [if_pos hr, if_pos ⟨by omega, hr⟩, List.countP_map, List.countP_eq_length.2 (by simp)]; simp
      · rw [if_neg hr, if_neg (fun h => hr h.2)]; rfl
    · have h0 : List.countP (fun e => e.1 == u) (if rs[n]? = some true then (nxt l n).map fun v => (n, v) else []) = 0 := by
        split
        · rw [List.countP_map, List.countP_eq_zero]; intro a _; simp; omega
        · rfl
      rw [h0, Nat.add_zero]
      by_cases h : u < n ∧ rs[u]? = some true
      · rw [if_pos h, if_pos ⟨by omega, h.2⟩]
      · rw [if_neg h, if_neg (fun g => h ⟨by omega, g.2⟩)]
theorem countP_edg {l : List Is} {rs : List Bool} {u : Nat} (h : rs[u]? = some true) : (edg l rs).countP (fun e => e.1 == u) = (nxt l u).length := by
  unfold edg
  rw [countP_edU, if_pos ⟨(List.getElem?_eq_some_iff.1 h).1, h⟩]
theorem countP_le (l : List Is) (rs : List Bool) (p : Nat × Nat → Bool) {pre : List (Nat × Nat)} (h : pre <+: edg l rs) : pre.countP p ≤ (edg l rs).length := Nat.le_trans (List.countP_le_length) h.length_le
theorem two_one {α : Type} {p : α → Bool} {l : List α} (h : l.countP p = 1) {a b : α} (ha : a ∈ l) (hb : b ∈ l) (pa : p a = true) (pb : p b = true) : a = b := by
  rw [List.countP_eq_length_filter] at h
  obtain ⟨x, hx⟩ := List.length_eq_one_iff.1 h
  have h1 : a ∈ l.filter p := List.mem_filter.2 ⟨ha, pa⟩
  have h2 : b ∈ l.filter p := List.mem_filter.2 ⟨hb, pb⟩
  rw [hx, List.mem_singleton] at h1 h2
  rw [h1, h2]
/-- From where the last one came that leads to v. -/
def lastU (pre : List (Nat × Nat)) (v : Nat) : Nat := pre.foldl (fun a e => if e.2 = v then e.1 else a) 0
theorem lastU_snoc (pre : List (Nat × Nat)) (x : Nat × Nat) (v : Nat) : lastU (pre ++ [x]) v = if x.2 = v then x.1 else lastU pre v := by unfold lastU; rw [List.foldl_append]; rfl
def lst (n : Nat) (pre : List (Nat × Nat)) : List Nat := (List.range n).map (lastU pre)
theorem lst_len (n : Nat) (pre : List (Nat × Nat)) : (lst n pre).length = n := by simp [lst]
theorem lst_nil0 (n : Nat) : lst n [] = List.replicate n 0 := by
  unfold lst
  rw [show lastU [] = fun _ => 0 from rfl, List.map_const', List.length_range]
theorem lst_at {n v : Nat} (pre : List (Nat × Nat)) (h : v < n) : (lst n pre)[v]? = some (lastU pre v) := by simp [lst, h]
theorem lst_snoc {n : Nat} (pre : List (Nat × Nat)) (x : Nat × Nat) : lst n (pre ++ [x]) = (lst n pre).set x.2 x.1 := by
  refine List.ext_getElem? fun i => ?_
  rw [List.getElem?_set, lst_len]
  by_cases hi : i < n
  · rw [lst_at _ hi, lst_at _ hi, lastU_snoc]
    by_cases e : x.2 = i
    · subst e; rw [if_pos rfl, if_pos rfl, if_pos hi]
    · rw [if_neg e, if_neg e]
  · rw [List.getElem?_eq_none (by rw [lst_len]; omega), List.getElem?_eq_none (l := lst n pre) (by rw [lst_len]; omega)]
    split
    · rw [if_neg (by omega)]
    · rfl
theorem lastU_gen {v : Nat} : ∀ (pre : List (Nat × Nat)) (a : Nat), (0 < pre.countP fun e => e.2 == v) → (pre.foldl (fun a e => if e.2 = v then e.1 else a) a, v) ∈ pre
  | [], a, h => by simp at h
  | x :: r, a, h => by
    rw [List.foldl_cons]
    by_cases hr : 0 < r.countP fun e => e.2 == v
    · exact List.mem_cons_of_mem _ (lastU_gen r _ hr)
    · have h0 : (r.countP fun e => e.2 == v) = 0 := by omega
      rw [List.countP_cons, h0] at h
      have e : x.2 = v := by
        by_cases e : x.2 = v
        · exact e
        · simp [e] at h
      have hn : ∀ (l : List (Nat × Nat)) (b : Nat), (l.countP fun e => e.2 == v) = 0 → l.foldl (fun a e => if e.2 = v then e.1 else a) b = b := by
        intro l
        induction l with
        | nil => intro b _; rfl
        | cons y t ih =>
          intro b hb
          rw [List.countP_cons] at hb
          have hy : ¬ y.2 = v := fun e => by simp [e] at hb
          rw [List.foldl_cons, if_neg hy]
          exact ih b (by omega)
      rw [hn r _ h0, if_pos e]
      subst e
      exact List.mem_cons_self ..
theorem lastU_mem {v : Nat} (pre : List (Nat × Nat)) (h : 0 < pre.countP fun e => e.2 == v) : (lastU pre v, v) ∈ pre := lastU_gen pre 0 h
/-- The document's own question. -/
def rin (l : List Is) (rs : List Bool) (v : Nat) : Bool := decide (0 < v) && ((edg l rs).countP (fun e => e.2 == v) == 1) && (lastU (edg l rs) v + 1 == v) && ((nxt l (v - 1)).length == 1)
theorem rin_eq (l : List Is) (rs : List Bool) (v : Nat) : rin l rs v = (edg l rs).any fun e => e.2 == v && inB (edg l rs) e := by
  rw [Bool.eq_iff_iff]
  unfold rin inB
  simp only [Bool.and_eq_true, decide_eq_true_eq, beq_iff_eq, List.any_eq_true]
  constructor
  · rintro ⟨⟨⟨h1, h2⟩, h3⟩, h4⟩
    have hm := lastU_mem (v := v) (edg l rs) (by omega)
    have hr := (mem_edg.1 hm).1
    refine ⟨_, hm, rfl, ⟨h3, ?_⟩, h2⟩
    simp only
    rw [countP_edg hr]
    rw [show v - 1 = lastU (edg l rs) v by omega] at h4
    exact h4
  · rintro ⟨⟨a, b⟩, hm, rfl, ⟨h1, h2⟩, h3⟩
    simp only at h1 h2 h3
    have hm2 := lastU_mem (v := b) (edg l rs) (by omega)
    have e := two_one h3 hm hm2 (by simp) (by simp)
    injection e with e _
    have hr := (mem_edg.1 hm).1
    rw [countP_edg hr] at h2
    refine ⟨⟨⟨by simp only; omega, h3⟩, by simp only; omega⟩, ?_⟩
    simp only
    rw [show b - 1 = a by omega]
    exact h2
theorem blk_rin (l : List Is) (rs : List Bool) : blk l rs = (List.range rs.length).filter fun v => (rs[v]? == some true) && !rin l rs v := by
  unfold blk bls
  refine List.filter_congr fun v hv => ?_
  rw [bgn_at _ _ _ (List.mem_range.1 hv), rin_eq]
  simp
end Go.Proofs.YtgiokognngllcaaDoor

/- Where blocks begin: what lies in memory. -/
namespace Go.Proofs.YtgiokognngllcaaDoor
open Go.RowKit Go.Shelf

def mkD (d : Nat) : Deferred := { target := .collected d, args := #[] }
theorem leaves_any {n N : Nat} {fn : Func} {tmps : Array Value} {R : Ending → World → Prop} (Φ : World → Prop) (hΦ : ∀ W d, N ≤ d → W.heap[d]? = some (.deferred (some [])) → Φ W → Φ (W.putObj d (.deferred none))) (hend : ∀ W', Φ W' → LeavesIn Fence.wide n Tryd.prog fn tmps R [] .returning W') : ∀ (ds : List Nat) (W : World), ds.Nodup → (∀ d ∈ ds, N ≤ d ∧ W.heap[d]? = some (.deferred (some []))) → Φ W → LeavesInM Fence.wide n Tryd.prog fn tmps R (ds.map mkD) .returning W
  | [], W, _, _, h => hend W h
  | d :: ds, W, hn, hs, h => by
    obtain ⟨hd, hK⟩ := hs d (by simp)
    obtain ⟨hn1, hn2⟩ := List.nodup_cons.1 hn
    have hne : ∀ x ∈ ds, x ≠ d := fun x hx e => hn1 (e ▸ hx)
    refine ⟨by simp, .inl ⟨d, _, rfl, run_takeDeferred hK, leaves_any Φ hΦ hend ds _ hn2 (fun x hx => ⟨(hs x (by simp [hx])).1, ?_⟩) (hΦ W d hd hK h)⟩⟩
    exact (World.putObj_heap_other (hne x hx)).trans (hs x (by simp [hx])).2
/-- A box stays where a block of another type is written. -/
theorem boxed_set {W : World} {x g : Nat} {t T : TypeId} {v : Value} {cur : Array Value} {fz : Nat × Nat} (h : Boxed W x t v) (hg : W.heap[g]? = some (.cells cur T fz)) (hT : t ≠ T) (i : Nat) (u : Value) : Boxed (W.setCell ⟨g, i, none⟩ u) x t v := by
  refine (Below.heap_setCell _ _ _ _ ?_).trans h
  intro e
  simp only at e
  subst e
  rw [show W.heap[x]? = _ from h] at hg
  cases hg
  exact hT rfl
/-- A row stays where another block is written. -/
theorem own_off {W : World} {N n sz g : Nat} {T : TypeId} {v : Value} {xs : List Value} (h : W.ownsRow N T sz v n xs) (hne : v.ownBlock ≠ some g) (i : Nat) (u : Value) : (W.setCell ⟨g, i, none⟩ u).ownsRow N T sz v n xs := by
  refine ⟨h.1, ?_⟩
  rcases h.2 with h0 | ⟨k, cap, cur, rfl, h1, h2, h3⟩
  · exact .inl h0
  · exact .inr ⟨k, cap, cur, rfl, h1, (Below.heap_setCell _ _ _ _ (fun e => hne (by simp [Value.ownBlock, e]))).trans h2, h3⟩
/-- What lies where. -/
structure BI (w : World) (n x3 xf xi gf gi : Nat) (vb : Value) (bs : List Bool) (fr it : List Nat) (W : World) : Prop where
  b3 : Boxed W x3 45 vb
  bf : Boxed W xf 38 (.slice (some ⟨gf, 0, none⟩) n n)
  bi : Boxed W xi 38 (.slice (some ⟨gi, 0, none⟩) n n)
  r : Ob w.heap.size bs vb W
  f : On w.heap.size fr (.slice (some ⟨gf, 0, none⟩) n n) W
  i : On w.heap.size it (.slice (some ⟨gi, 0, none⟩) n n) W
  ne : gf ≠ gi
  b : Below w.heap.size w W
section
variable {w : World} {n x3 xf xi gf gi : Nat} {vb : Value} {bs : List Bool} {fr it : List Nat} {W W' : World}
theorem BI.grown (h : BI w n x3 xf xi gf gi vb bs fr it W) {row : Option Nat} {B : Nat} (hB : w.heap.size ≤ B) (hg : W.grownBy W' row) (hr : ∀ r, row = some r → B ≤ r ∧ ∃ o : Obj, W.heap[r]? = some o ∧ o.isCells = false) : BI w n x3 xf xi gf gi vb bs fr it W' :=
  ⟨boxed_grown h.b3 hg (fun r e => (hr r e).2), boxed_grown h.bf hg (fun r e => (hr r e).2), boxed_grown h.bi hg (fun r e => (hr r e).2), own_grown h.r hg (fun r e => (hr r e).2), own_grown h.f hg (fun r e => (hr r e).2), own_grown h.i hg (fun r e => (hr r e).2), h.ne, h.b.grown hg h.b.size (fun k e => Nat.le_trans hB (hr k e).1)⟩
theorem BI.stay (h : BI w n x3 xf xi gf gi vb bs fr it W) (hb : Below W.heap.size W W') : BI w n x3 xf xi gf gi vb bs fr it W' :=
  ⟨boxed_stay h.b3 hb, boxed_stay h.bf hb, boxed_stay h.bi hb, own_stay h.r hb, own_stay h.f hb, own_stay h.i hb, h.ne, Below.on h.b hb⟩
theorem BI.putF (h : BI w n x3 xf xi gf gi vb bs fr it W) (u k : Nat) : BI w n x3 xf xi gf gi vb bs (fr.set u k) it (W.setCell ⟨gf, u, none⟩ (.int .i64 (k : Int))) := by
  obtain ⟨cur, hc, hN⟩ := own_blk h.f
  exact ⟨boxed_set h.b3 hc (by decide) _ _, boxed_set h.bf hc (by decide) _ _, boxed_set h.bi hc (by decide) _ _, own_set h.r hc (by decide) _ _, on_put h.f u k, own_off h.i (fun e => h.ne (by simpa [Value.ownBlock] using e.symm)) _ _, h.ne, h.b.setCell (by simp only; omega) _⟩
theorem BI.putI (h : BI w n x3 xf xi gf gi vb bs fr it W) (u k : Nat) : BI w n x3 xf xi gf gi vb bs fr (it.set u k) (W.setCell ⟨gi, u, none⟩ (.int .i64 (k : Int))) := by
  obtain ⟨cur, hc, hN⟩ := own_blk h.i
  exact ⟨boxed_set h.b3 hc (by decide) _ _, boxed_set h.bf hc (by decide) _ _, boxed_set h.bi hc (by decide) _ _, own_set h.r hc (by decide) _ _, own_off h.f (fun e => h.ne (by simpa [Value.ownBlock] using e)) _ _, on_put h.i u k, h.ne, h.b.setCell (by simp only; omega) _⟩
theorem BI.putB {gb m c : Nat} (h : BI w n x3 xf xi gf gi (.slice (some ⟨gb, 0, none⟩) m c) bs fr it W) (v : Nat) (b : Bool) : BI w n x3 xf xi gf gi (.slice (some ⟨gb, 0, none⟩) m c) (bs.set v b) fr it (W.setCell ⟨gb, v, none⟩ (.bool b)) := by
  obtain ⟨cur, hc, hN⟩ := own_blk h.r
  exact ⟨boxed_set h.b3 hc (by decide) _ _, boxed_set h.bf hc (by decide) _ _, boxed_set h.bi hc (by decide) _ _, ob_put h.r v b, own_set h.f hc (by decide) _ _, own_set h.i hc (by decide) _ _, h.ne, h.b.setCell (by simp only; omega) _⟩
end
theorem BI.own (w : World) (n x3 xf xi gf gi : Nat) (vb : Value) {α : Type} (bs : α → List Bool) (fr it : α → List Nat) {B : Nat} (hB : w.heap.size ≤ B) : OwnFrom B (fun (p : α) W => BI w n x3 xf xi gf gi vb (bs p) (fr p) (it p) W) := fun _ _ _ _ h hg hr => h.grown hB hg hr
def BkX (_ : Code) (_ : List (Nat × Nat)) (_ : World) : Prop := False
theorem BkX.own (B : Nat) (c : Code) : OwnFrom B (BkX c) := fun _ _ _ _ h _ _ => h.elim
def BlP (l : List Is) (w : World) (e : Ending) (w' : World) : Prop := ∃ v rs, e = .returned v ∧ IsR l rs ∧ On w.heap.size (blk l rs) v w' ∧ Below w.heap.size w w'
end Go.Proofs.YtgiokognngllcaaDoor

/- dom.leaders. -/
namespace Go.Proofs.YtgiokognngllcaaDoor
open Go.RowKit Go.Shelf
attribute [local go_sem] Oper.semAt_some

/-- Rows told: F holds them. -/
structure Rws (N F n : Nat) (fr : Nat → List Nat) (vs : List Value) (W : World) : Prop where
  f : W.heap[F]? = some (.cells vs.toArray 38 (0, 0))
  len : vs.length = n
  rows : ∀ j, j < n → On N (fr j) (vs.getD j undef) W
  hF : N ≤ F
def LeP (l : List Is) (w : World) (e : Ending) (w' : World) : Prop := ∃ F rs vs, e = .returned (.slice (some ⟨F, 0, none⟩) rs.length rs.length) ∧ IsR l rs ∧ Rws w.heap.size F rs.length (frE (edg l rs)) vs w' ∧ Below w.heap.size w w'
set_option maxRecDepth 100000 in
set_option maxHeartbeats 4000000 in
theorem leaders_in (f : Fn) (w : World) (hi : Iss w f.ca f.code) (hc : f.code.length ≤ f.cc) : CallsIn Fence.wide 6 Tryd.prog 58 #[f.val] w (LeP f.code w) := by
  have HED : Hid (∀ F w', Below w.heap.size w w' → F < w'.heap.size → DOk F w' → Calls Tryd.prog 36 #[f.val] w' (EdPF F f.code w')) := fun F w' hb hF hD => edges_anyF f F w' (hi.stay hb) hc hF hD
  have HR : Hid (∀ w', Below w.heap.size w w' → Calls Tryd.prog 51 #[f.val] w' (ReP f.code w')) := fun w' hb => reach_any f w' (hi.stay hb)
  clear hi hc
  obtain ⟨fn, fpa, fpc, fps, frg, fwd, fca, fcc, fl⟩ := f
  unfold Fn.val at *
  simp only at HED HR ⊢
  have HB := Hid.mk' (Below.one (Below.refl _ w) (.cells #[.string fn, .slice fpa fps.length fpc, .int .i64 frg, .int .i64 fwd, .slice fca fl.length fcc] 25))
  have HX := Hid.mk' (heap_alloc_new w (.cells #[.string fn, .slice fpa fps.length fpc, .int .i64 frg, .int .i64 fwd, .slice fca fl.length fcc] 25))
  refine callsIn_of_wp_marks Tryd.func58 rfl trivial ?_ rfl
  simp only [Tryd.ntmps58, List.size_toArray, List.length_cons, List.length_nil, Nat.reduceAdd, Nat.reduceSub, Array.replicate_succ, Array.replicate_zero, List.push_toArray, List.append_toArray, List.nil_append, List.cons_append]
  gi_wp2_with fail
  refine ⟨trivial, ?_⟩
  refine (callsIn_wide.2 (HR.out _ HB.out)).mono ?_
  rintro e W1 ⟨vb, rs, rfl, hir, ho, bb1⟩
  obtain ⟨ra, rc, rfl⟩ := gown_form ho
  have hrl := hir.len
  have hmk : ∀ W, _ := fun W => run_mkR W rs.length (by omega)
  have HIR := Hid.mk' hir
  have HB1 := Hid.mk' (Below.on HB.out bb1)
  have hx1 := blk_stay HX.out bb1
  have hws1 : w.heap.size < W1.heap.size := (Array.getElem?_eq_some_iff.1 hx1).1
  obtain ⟨WA, hWA⟩ : ∃ X, X = (W1.alloc (.cells (mkR rs.length) 38)).alloc (.cells #[.slice (some ⟨W1.heap.size, 0, none⟩) rs.length rs.length] 50) := ⟨_, rfl⟩
  have hb3 : Boxed WA (W1.heap.size + 1) 50 (.slice (some ⟨W1.heap.size, 0, none⟩) rs.length rs.length) := by
    have := Boxed.new (W1.alloc (.cells (mkR rs.length) 38)) 50 (.slice (some ⟨W1.heap.size, 0, none⟩) rs.length rs.length)
    rw [World.size_alloc] at this
    rw [hWA]; exact this
  have hbA : Below W1.heap.size W1 WA := by
    rw [hWA]
    exact Below.one (Below.one (Below.refl _ W1) _) _
  have hfA : WA.heap[W1.heap.size]? = some (.cells (mkR rs.length) 38 (0, 0)) := by
    rw [hWA]
    exact (Below.heap_alloc _ _ _ (by simp)).trans (heap_alloc_new W1 _)
  have hsA : WA.heap.size = W1.heap.size + 1 + 1 := by rw [hWA]; simp
  have HLA : Hid (LD w rs.length (W1.heap.size + 1) W1.heap.size 0 (frE []) (List.replicate rs.length (.slice none 0 0)) WA) := LD.start hb3 hfA (HB1.out.trans (hbA.mono HB1.out.size)) (Nat.zero_le _)
  have hxA := blk_stay hx1 hbA
  have z0 := cell_of_obj hxA (j := 0) (v := .string fn) rfl
  have z1 := cell_of_obj hxA (j := 1) (v := .slice fpa fps.length fpc) rfl
  have z2 := cell_of_obj hxA (j := 2) (v := .int .i64 frg) rfl
  have z3 := cell_of_obj hxA (j := 3) (v := .int .i64 fwd) rfl
  have z4 := cell_of_obj hxA (j := 4) (v := .slice fca fl.length fcc) rfl
  have HWA := Hid.mk' hWA
  clear hir ho bb1 hx1 HX HB HR hbA hb3 hfA hxA hWA
  rw [HWA.out] at z0 z1 z2 z3 z4
  gi_wp2_with fail
  refine ⟨trivial, ?_⟩
  rw [← HWA.out] at z0 z1 z2 z3 z4 ⊢
  have HFA : Hid (W1.heap.size < WA.heap.size) := (by omega : W1.heap.size < WA.heap.size)
  refine (callsIn_wide.2 (HED.out W1.heap.size _ HLA.out.b HFA.out HLA.out.dok)).mono ?_
  rintro e W2 ⟨B1, B2, rs', rfl, hir', hseq, bb2⟩
  obtain rfl := hir'.one HIR.out
  have hs2 := bb2.size
  have HSQ := Hid.mk' hseq
  have HL2 : Hid (LD w rs'.length (W1.heap.size + 1) W1.heap.size W2.heap.size (frE []) (List.replicate rs'.length (.slice none 0 0)) W2) :=
    LD.start (boxed_stay HLA.out.b3 bb2) (by rw [mkR_eq]; exact blk_stay HLA.out.f bb2) (Below.on HLA.out.b bb2) (Nat.le_refl _)
  have HBW : Hid (w.heap.size ≤ W1.heap.size) := (by omega : w.heap.size ≤ W1.heap.size)
  have HME : Hid (∀ pre x, pre ++ [x] <+: edg fl rs' → x.2 < rs'.length) := by
    intro pre x hp
    have hm : x ∈ edg fl rs' := hp.subset (by simp)
    obtain ⟨k1, k2⟩ := mem_edg.1 (show (x.1, x.2) ∈ edg fl rs' from hm)
    have hn := nxt_lt k2
    have hl := (List.getElem?_eq_some_iff.1 k1).1
    rcases HIR.out with ⟨_, e⟩ | ⟨_, _, e, _⟩
    · rw [e] at hl; simp at hl
    · omega
  have HLN : Hid ((edg fl rs').length ≤ 3000) := by
    have := edU_len fl rs' rs'.length
    show _ ≤ _
    unfold edg
    omega
  clear z0 z1 z2 z3 z4 hir' hseq bb2 HED HLA HWA hmk
  gi_wp2_with fail
  refine range_o (m := 4) (gf := 53) (lb := #[.pointer (some ⟨B1, 0, none⟩), .pointer (some ⟨B2, 0, none⟩)]) rfl (enters_of Tryd.func53 (by kernel_rfl) rfl) HSQ.out (Below.refl _ _) (fun _ => rfl) (fun h k => KpF.trans h k) (fun W o' _ => KpF.put (by omega) (by omega) (by omega) W o')
    (fun pre W => ∃ vs, LD w rs'.length (W1.heap.size + 1) W1.heap.size W2.heap.size (frE pre) vs W) BkX (LD.own w frE (by omega)) (fun c => BkX.own _ c) ⟨_, HL2.out⟩ (fun x a' _ => a' = { tmps := #[.agg #[.string fn, .slice fpa fps.length fpc, .int .i64 frg, .int .i64 fwd, .slice fca fl.length fcc], .pointer (some ⟨w.heap.size, 0, none⟩), .slice none 0 0, .pointer (some ⟨W1.heap.size + 1, 0, none⟩), .int .i64 (x.1 : Int), .int .i64 (x.2 : Int), .agg #[.string fn, .slice fpa fps.length fpc, .int .i64 frg, .int .i64 fwd, .slice fca fl.length fcc], .slice ra rs'.length rc, .int .i64 (rs'.length : Int), .slice (some ⟨W1.heap.size, 0, none⟩) rs'.length rs'.length, .agg #[.string fn, .slice fpa fps.length fpc, .int .i64 frg, .int .i64 fwd, .slice fca fl.length fcc], .func (.func 53) #[] #[.pointer (some ⟨B1, 0, none⟩), .pointer (some ⟨B2, 0, none⟩)], .int .i64 (x.1 : Int), .int .i64 (x.2 : Int), undef, undef, undef, undef, undef, undef, undef, undef, undef, undef, undef, undef, undef], defers := [] }) (fun x a' _ W W' row h _ _ => h) ?assign ?body ?done ?stop
  case assign =>
    intro l pre x W hi _
    gi_wp2
    exact ⟨keepsFrom_refl' _ _, KpF.refl _ _ _ _ _, hi, trivial⟩
  case stop =>
    rintro c pre W _ h _
    exact h.elim
  case done =>
    rintro W4 ⟨vs, hi4⟩ hK4
    have e3 := hi4.b3.cell
    have HI := Hid.mk' hi4
    clear hi4
    gi_wp2
    refine ⟨by simp, .inl ⟨_, _, rfl, run_takeDeferred hK4, ?_⟩⟩
    have hg := grownBy_putObj' W4 W2.heap.size (.deferred none)
    have hr : ∀ r, some W2.heap.size = some r → ∃ o : Obj, W4.heap[r]? = some o ∧ o.isCells = false := fun r e => by cases e; exact ⟨_, hK4, rfl⟩
    refine ⟨.slice (some ⟨W1.heap.size, 0, none⟩) rs'.length rs'.length, by simp [results, Tryd.results58, go_sem], _, rs', vs, rfl, HIR.out, ⟨cells_grown HI.out.f hg hr, HI.out.len, fun j hj => own_mono (own_grown (HI.out.rows j hj) hg hr) (by omega), by omega⟩, ?_⟩
    exact HI.out.b.trans (belowK_b (w := w) (Nat.le_refl _) _ _ _ _ (by omega) hK4 rfl rfl)
  case body =>
    rintro l pre x a' W ⟨vs, hi⟩ rfl hpx
    have hx2 := HME.out pre x hpx
    have HI := Hid.mk' hi
    obtain ⟨x1, x2⟩ := x
    simp only at hx2 ⊢
    by_cases hz : x2 = 0
    · have hq : ((x2 : Int) != 0) = false := bne_no (by omega)
      have HE : Hid (∀ j, frE (pre ++ [(x1, x2)]) j = frE pre j) := fun j => by rw [frE_snoc, if_neg (by omega)]
      clear hz
      gi_wp2
      refine ⟨keepsFrom_refl' _ _, KpF.refl _ _ _ _ _, vs, ?_⟩
      have h := HI.out
      exact ⟨h.b3, h.f, h.len, fun j hj => by rw [HE.out]; exact h.rows j hj, h.ap, h.b, h.sz⟩
    · have hq : ((x2 : Int) != 0) = true := bne_of (by omega)
      have hx2i : (x2 : Int) < (rs'.length : Int) := by omega
      have HE1 : Hid (frE (pre ++ [(x1, x2)]) x2 = frE pre x2 ++ [x1]) := (by rw [frE_snoc, if_pos ⟨rfl, hz⟩] : _ = _)
      have HE2 : Hid (∀ j, j ≠ x2 → frE (pre ++ [(x1, x2)]) j = frE pre j) := fun j hj => by rw [frE_snoc, if_neg (by omega)]
      have hle : (frE pre x2).length ≤ 3000 := by
        have h1 := frE_len pre x2
        have h2 := (List.IsPrefix.trans (List.prefix_append _ _) hpx).length_le
        have := HLN.out
        omega
      have HLD := Hid.mk' HI.out.drew
      have hvl : x2 < vs.length := by have := HI.out.len; omega
      have HOA := Hid.mk' (on_app_at (HLD.out.rows x2 hx2) HLD.out.sz (by omega) x1 38)
      have HS0 : Hid (W.drew.cell? ⟨W1.heap.size + 1, 0, none⟩ = some (.slice (some ⟨W1.heap.size, 0, none⟩) rs'.length rs'.length) ∧ W.drew.cell? ⟨W1.heap.size, x2, none⟩ = some (vs.getD x2 undef)) :=
        ⟨HLD.out.b3.cell, cell_of_obj HLD.out.f (by rw [List.getElem?_toArray]; exact vs_at hvl)⟩
      have HS1 : Hid (∀ W3 : World, W.drew.grownBy W3 (vs.getD x2 undef).ownBlock → (W3.cell? ⟨W1.heap.size + 1, 0, none⟩ = some (.slice (some ⟨W1.heap.size, 0, none⟩) rs'.length rs'.length) ∧ W3.cell? ⟨W1.heap.size, x2, none⟩ = some (vs.getD x2 undef)) ∧ W3.frozen? ⟨W1.heap.size, x2, none⟩ = false) := fun W3 hg => by
        have hF := (hg.block W1.heap.size (Array.getElem?_eq_some_iff.1 HLD.out.f).1 (Ne.symm (row_ne HLD.out.f (HLD.out.rows x2 hx2)))).trans HLD.out.f
        have hB := HLD.out.b3.kept hg fun e => by have := own_base (HLD.out.rows x2 hx2) _ e.symm; omega
        exact ⟨⟨hB.cell, cell_of_obj hF (by rw [List.getElem?_toArray]; exact vs_at hvl)⟩, Lib.frozen_of_heap hF x2⟩
      have HNX : Hid (∀ (W3 : World) (v3 : Value), On W2.heap.size (frE pre x2 ++ [x1]) v3 W3 → W.drew.grownBy W3 (vs.getD x2 undef).ownBlock → (v3.ownBlock = (vs.getD x2 undef).ownBlock ∨ v3.ownBlock = some (W.drew.heap.size + 1)) →
          KeepsFrom W2.heap.size W (W3.setCell ⟨W1.heap.size, x2, none⟩ v3) ∧ KpF WA.heap.size W2.heap.size W1.heap.size (W2.heap.size + 1 + 1) W (W3.setCell ⟨W1.heap.size, x2, none⟩ v3) ∧ ∃ vs', LD w rs'.length (W1.heap.size + 1) W1.heap.size W2.heap.size (frE (pre ++ [(x1, x2)])) vs' (W3.setCell ⟨W1.heap.size, x2, none⟩ v3)) := fun W3 v3 h1 h2 h3 =>
        ⟨(KeepsOthers.undrew (HLD.out.others hx2 h2)).from _, (HLD.out.kp hx2 (by omega) (by omega) (by omega) h1 h2 h3).undrew, _, HLD.out.next hx2 (by omega) (by omega) (by omega) (by omega) h1 h2 h3 HE1.out HE2.out⟩
      generalize vs.getD x2 undef = q at *
      clear hz hle hi hpx
      gi_wp2_with fail
      refine region_inK (fun w' => w'.cell? ⟨W1.heap.size + 1, 0, none⟩ = some (.slice (some ⟨W1.heap.size, 0, none⟩) rs'.length rs'.length) ∧ w'.cell? ⟨W1.heap.size, x2, none⟩ = some q) 10 (by kernel_rfl) ?hq (simple_list ?hs) ?_
      case hq =>
        rintro ⟨a, w', h⟩
        exact h.2.2
      case hs =>
        intro o ho
        simp only [List.mem_cons, List.not_mem_nil, or_false] at ho
        rcases ho with rfl | rfl | rfl | rfl | rfl | rfl | rfl | rfl | rfl | rfl | rfl
        all_goals first
          | exact simple_load _ _ rfl
          | exact simple_move _ rfl
          | exact simple_index _ _ _ rfl
          | exact simple_build _ _ _ rfl
          | exact simple_append _ _ _ _ rfl
          | exact simple_store _ _ _ rfl
      simp only [List.size_toArray, List.length_cons, List.length_nil, Nat.reduceAdd]
      refine wpAnyK_takeL (i := 0) (v := ?tv0) rfl (by kernel_rfl) (by kernel_rfl) (by kernel_rfl) (by kernel_rfl) (fun _ _ _ h => h) (by rfl) ?ty0 HS0.out ?tr0
      case ty0 => (intro w' hSw; obtain ⟨hs1, hs2⟩ := hSw; go_simp; try with_reducible rfl)
      simp only [Act.put, List.setIfInBounds_toArray, List.set_cons_zero, List.set_cons_succ]
      refine wpAnyK_takeL (i := 1) (v := ?tv1) rfl (by kernel_rfl) (by kernel_rfl) (by kernel_rfl) (by kernel_rfl) (fun _ _ _ h => h) (by rfl) ?ty1 HS0.out ?tr1
      case ty1 => (intro w' hSw; obtain ⟨hs1, hs2⟩ := hSw; go_simp; try with_reducible rfl)
      simp only [Act.put, List.setIfInBounds_toArray, List.set_cons_zero, List.set_cons_succ]
      refine wpAnyK_takeL (i := 2) (v := ?tv2) rfl (by kernel_rfl) (by kernel_rfl) (by kernel_rfl) (by kernel_rfl) (fun _ _ _ h => h) (by rfl) ?ty2 HS0.out ?tr2
      case ty2 => (intro w' hSw; obtain ⟨hs1, hs2⟩ := hSw; go_simp; try with_reducible rfl)
      simp only [Act.put, List.setIfInBounds_toArray, List.set_cons_zero, List.set_cons_succ]
      refine wpAnyK_takeL (i := 3) (v := ?tv3) rfl (by kernel_rfl) (by kernel_rfl) (by kernel_rfl) (by kernel_rfl) (fun _ _ _ h => h) (by rfl) ?ty3 HS0.out ?tr3
      case ty3 => (intro w' hSw; obtain ⟨hs1, hs2⟩ := hSw; go_simp; try with_reducible rfl)
      simp only [Act.put, List.setIfInBounds_toArray, List.set_cons_zero, List.set_cons_succ]
      refine wpAnyK_takeL (i := 4) (v := ?tv4) rfl (by kernel_rfl) (by kernel_rfl) (by kernel_rfl) (by kernel_rfl) (fun _ _ _ h => h) (by rfl) ?ty4 HS0.out ?tr4
      case ty4 => (intro w' hSw; obtain ⟨hs1, hs2⟩ := hSw; go_simp; try with_reducible rfl)
      simp only [Act.put, List.setIfInBounds_toArray, List.set_cons_zero, List.set_cons_succ]
      refine wpAnyK_takeL (i := 5) (v := ?tv5) rfl (by kernel_rfl) (by kernel_rfl) (by kernel_rfl) (by kernel_rfl) (fun _ _ _ h => h) (by rfl) ?ty5 HS0.out ?tr5
      case ty5 => (intro w' hSw; obtain ⟨hs1, hs2⟩ := hSw; go_simp; try with_reducible rfl)
      simp only [Act.put, List.setIfInBounds_toArray, List.set_cons_zero, List.set_cons_succ]
      refine wpAnyK_takeL (i := 6) (v := ?tv6) rfl (by kernel_rfl) (by kernel_rfl) (by kernel_rfl) (by kernel_rfl) (fun _ _ _ h => h) (by rfl) ?ty6 HS0.out ?tr6
      case ty6 => (intro w' hSw; obtain ⟨hs1, hs2⟩ := hSw; go_simp; try with_reducible rfl)
      simp only [Act.put, List.setIfInBounds_toArray, List.set_cons_zero, List.set_cons_succ]
      refine wpAnyK_one (i := 7) (by kernel_rfl) rfl (fun K hK => ?_)
      go_simp
      refine hK.out _ _ (fun _ => (HS1.out _ (World.grownBy_alloc _ _ _)).1) ?_
      clear hK K
      refine wpAnyK_one (i := 8) (by kernel_rfl) rfl (fun K hK => ?_)
      refine step_app rfl _ _ 38 38 _ _ rfl rfl rfl HOA.out ?_
      rintro v3 W3 ⟨on3, gr3, ow3⟩
      obtain ⟨a3, c3, rfl⟩ := gown_form on3
      obtain ⟨⟨s1, s2⟩, s3⟩ := HS1.out W3 gr3
      refine hK.out _ _ (fun _ => ⟨s1, s2⟩) ?_
      clear hK K
      refine wpAnyK_one (i := 9) (by kernel_rfl) rfl (fun K hK => ?_)
      go_simp
      refine hK.out _ _ (fun _ => ⟨s1, s2⟩) ?_
      clear hK K
      refine wpAnyK_one (i := 10) (by kernel_rfl) rfl (fun K hK => ?_)
      go_simp
      refine hK.out _ _ (fun h => absurd rfl h) ?_
      refine wpAnyK_done (by kernel_rfl) ?_ _
      have hfin := HNX.out W3 _ on3 gr3 ow3
      rw [show (frE pre x2 ++ [x1]).length = (frE pre x2).length + 1 by simp] at hfin
      exact hfin
theorem leaders_any (f : Fn) (w : World) (hi : Iss w f.ca f.code) (hc : f.code.length ≤ f.cc) : Calls Tryd.prog 58 #[f.val] w (LeP f.code w) := callsIn_wide.1 (leaders_in f w hi hc)
end Go.Proofs.YtgiokognngllcaaDoor

/- dom.begun. -/
namespace Go.Proofs.YtgiokognngllcaaDoor
open Go.RowKit Go.Shelf

def parS (n : Nat) (fr : Nat → List Nat) (j : Nat) : List (List Nat) := (List.range n).map fun v => if v < j ∧ fr v ≠ [] then fullW else zeroW
theorem parS_len (n : Nat) (fr : Nat → List Nat) (j : Nat) : (parS n fr j).length = n := by simp [parS]
theorem parS_16 (n : Nat) (fr : Nat → List Nat) (j : Nat) : ∀ ws ∈ parS n fr j, ws.length = 16 := fun ws hw => by
  unfold parS at hw
  obtain ⟨v, _, rfl⟩ := List.mem_map.1 hw
  split
  · simp [fullW]
  · simp [zeroW]
theorem parS_at {n : Nat} {fr : Nat → List Nat} {j v : Nat} (h : v < n) : (parS n fr j)[v]? = some (if v < j ∧ fr v ≠ [] then fullW else zeroW) := by
  unfold parS
  rw [List.getElem?_map, List.getElem?_range h]
  rfl
theorem parS_zero (n : Nat) (fr : Nat → List Nat) : parS n fr 0 = List.replicate n zeroW := by
  refine List.ext_getElem? fun v => ?_
  by_cases h : v < n
  · rw [parS_at h, if_neg (by omega), List.getElem?_replicate, if_pos h]
  · rw [List.getElem?_eq_none (by rw [parS_len]; omega), List.getElem?_eq_none (by simp; omega)]
theorem parS_yes {n : Nat} {fr : Nat → List Nat} {j : Nat} (hj : j < n) (h : fr j ≠ []) : (parS n fr j).set j fullW = parS n fr (j + 1) := by
  refine List.ext_getElem? fun v => ?_
  by_cases hv : v < n
  · rw [parS_at hv, List.getElem?_set, parS_len, parS_at hv]
    by_cases e : j = v
    · subst e; rw [if_pos rfl, if_pos hj, if_pos ⟨Nat.lt_succ_self _, h⟩]
    · rw [if_neg e]
      congr 1
      by_cases h2 : v < j ∧ fr v ≠ []
      · rw [if_pos h2, if_pos ⟨by omega, h2.2⟩]
      · rw [if_neg h2, if_neg (fun h3 => h2 ⟨by omega, h3.2⟩)]
  · rw [List.getElem?_eq_none (by rw [List.length_set, parS_len]; omega), List.getElem?_eq_none (by rw [parS_len]; omega)]
theorem parS_no {n : Nat} {fr : Nat → List Nat} {j : Nat} (h : fr j = []) : parS n fr (j + 1) = parS n fr j := by
  unfold parS
  refine List.map_congr_left fun v _ => ?_
  by_cases h2 : v < j ∧ fr v ≠ []
  · rw [if_pos h2, if_pos ⟨by omega, h2.2⟩]
  · rw [if_neg h2, if_neg (fun h3 => h2 ⟨by
      have := h3.1
      have : v ≠ j := by rintro rfl; exact h3.2 h
      omega, h3.2⟩)]
theorem parS_all {n : Nat} {fr : Nat → List Nat} : (parS n fr n).set 0 (addW zeroW 0) = begS n fr := by
  refine List.ext_getElem? fun v => ?_
  unfold begS
  rw [List.getElem?_map]
  by_cases hv : v < n
  · rw [List.getElem?_range hv, List.getElem?_set, parS_len, parS_at hv]
    by_cases e : 0 = v
    · subst e; rw [if_pos rfl, if_pos hv]; rfl
    · rw [if_neg e]
      show _ = some (if v = 0 then addW zeroW 0 else if fr v = [] then zeroW else fullW)
      rw [if_neg (Ne.symm e)]
      by_cases h2 : fr v = []
      · rw [if_pos h2, if_neg (fun h3 => h3.2 h2)]
      · rw [if_neg h2, if_pos ⟨hv, h2⟩]
  · rw [List.getElem?_eq_none (by rw [List.length_set, parS_len]; omega), List.getElem?_eq_none (by simp; omega)]
    rfl
def mkS (n : Nat) : Array Value := madeCells (zeroW.map uV).toArray (n * 16)
theorem run_mkS (W : World) (n : Nat) (hn : n ≤ 1000000) : (Instr.makeSlice 91 (.int .i64 (n : Int)) (.int .i64 (n : Int))).run Tryd.prog W = .ok (.slice (some ⟨W.heap.size, 0, none⟩) n n) (W.alloc (.cells (mkS n) 95)) := by
  obtain ⟨i0, hi, hz0, hz1, hz2⟩ := info_parts Tryd.infoSet
  have := run_make (P := Tryd.prog) W 91 95 i0 (.agg (zeroW.map uV).toArray) Tryd.underlying91 hi hz0 .i64 .i64 n n (by omega) (Int.le_refl _) (by rw [hz2]; omega) (by omega)
  rw [hz1, Int.toNat_natCast] at this
  exact this
theorem flat_zero : ∀ n : Nat, flatS (List.replicate n zeroW) = List.replicate (n * 16) (uV 0)
  | 0 => by simp [flatS]
  | n + 1 => by
    have ih := flat_zero n
    unfold flatS at *
    rw [List.replicate_succ, List.flatMap_cons, ih, show (n + 1) * 16 = 16 + n * 16 by omega, ← List.replicate_append_replicate]
    congr 1
theorem mkS_eq {fr0 : Nat → List Nat} (n : Nat) : mkS n = (flatS (parS n fr0 0)).toArray := by
  rw [parS_zero, flat_zero]
  have hz : (zeroW.map uV).toArray = Array.replicate 16 (uV 0) := by unfold zeroW; rw [List.map_replicate, List.toArray_replicate]
  have h : (mkS n).toList = List.replicate (n * 16) (uV 0) := by
    refine List.eq_replicate_iff.2 ⟨by rw [Array.length_toList]; unfold mkS; exact size_madeCells _ _, fun b hb => ?_⟩
    unfold mkS madeCells at hb
    rw [Array.toList_map] at hb
    obtain ⟨k, _, rfl⟩ := List.mem_map.1 hb
    rw [hz]
    have hk : k % 16 < 16 := Nat.mod_lt _ (by decide)
    rw [Array.size_replicate, getElem!_pos _ _ (by rw [Array.size_replicate]; exact hk), Array.getElem_replicate]
  rw [← h]
theorem wpl_put_set {ops : Array Oper} {rest : List Oper} {op : Oper} {a : Act} {w : World} {Q : Exit → Act → World → Prop} (hgd : op.guard = Option.none) (x y : Operand) (ho : op.op = .store 95 x y) {R v : Nat} {S : List (List Nat)} (ws : List Nat) (hb : Bk w R 95 (flatS S)) (h16 : ∀ ws ∈ S, ws.length = 16) (hv : v < S.length) (hx : a.eval x = .pointer (some ⟨R, v * 16, Option.none⟩)) (hy : a.eval y = .agg (ws.map uV).toArray) (hw : ws.length = 16)
    (h : ∀ W1, Bk W1 R 95 (flatS (S.set v ws)) → Wr R w W1 → wpList Tryd.prog ops Q rest (a.put op.dst undef) W1) : wpList Tryd.prog ops Q (op :: rest) a w :=
  wpList_store_mid hgd 95 x y ho R (v * 16) (ws.map uV).toArray hx hy (by rw [List.size_toArray, List.length_map, hw]; exact flat_there hb h16 hv) (by rw [Tryd.sizeSet]; simp [hw]) (uV_one ws) (h _ (flat_put hb h16 hv hw) (Wr.puts R _ _ w))
def BeP (n : Nat) (fr : Nat → List Nat) (w : World) (e : Ending) (w' : World) : Prop := ∃ R, e = .returned (.slice (some ⟨R, 0, none⟩) n n) ∧ w.heap.size ≤ R ∧ Bk w' R 95 (flatS (begS n fr)) ∧ Below w.heap.size w w'
set_option maxRecDepth 100000 in
set_option maxHeartbeats 4000000 in
theorem begun_any (N F n : Nat) (fr : Nat → List Nat) (vs : List Value) (w : World) (hr : Rws N F n fr vs w) (hn : n ≤ 1024) (hz : fr 0 = []) (hl : ∀ j, (fr j).length ≤ 1000000) : Calls Tryd.prog 59 #[.slice (some ⟨F, 0, none⟩) n n] w (BeP n fr w) := by
  have HR := Hid.mk' hr
  have hmk : ∀ W, _ := fun W => run_mkS W n (by omega)
  have HB0 : Hid (Bk (w.alloc (.cells (mkS n) 95)) w.heap.size 95 (flatS (parS n fr 0))) := by
    have := heap_alloc_new w (.cells (mkS n) 95)
    rw [mkS_eq (fr0 := fr)] at this
    rw [mkS_eq (fr0 := fr)]
    exact this
  have HW0 := Hid.mk' (Below.one (Below.refl _ w) (.cells (mkS n) 95))
  have HFL : Hid (F < w.heap.size) := (Array.getElem?_eq_some_iff.1 hr.f).1
  have HZ := Hid.mk' hz
  have HL := Hid.mk' hl
  clear hr hz hl
  go_enter Tryd.func59, Tryd.ntmps59
  go_wp2_with fail
  clear hmk
  go_loopw [10] (fun t10 wr => ∃ j : Nat, j ≤ n ∧ t10 = .int .i64 (j : Int) ∧ Bk wr w.heap.size 95 (flatS (parS n fr j)) ∧ Below w.heap.size w wr) (fun t10 _ => n - (intOf t10).toNat)
  case atStart => exact ⟨0, Nat.zero_le _, rfl, HB0.out, HW0.out⟩
  case round =>
    clear HB0 HW0
    obtain ⟨j, hj, rfl, hb, hw⟩ := hrel
    have HB := Hid.mk' hb
    have HW := Hid.mk' hw
    clear hb hw
    by_cases hlt : j < n
    · have hli : (j : Int) < (n : Int) := by omega
      have hvl : j < vs.length := by have := HR.out.len; omega
      have hfb := (HW.out.block _ HFL.out).trans HR.out.f
      have c0 := cell_of_obj hfb (j := j) (by rw [List.getElem?_toArray]; exact vs_at hvl)
      obtain ⟨a1, c1, e1⟩ := gown_form (HR.out.rows j hlt)
      rw [e1] at c0
      have hlj := HL.out j
      clear hfb e1
      by_cases hq0 : fr j = []
      · have hq : decide ((0 : Int) < ((fr j).length : Int)) = false := by rw [hq0]; rfl
        have hq2 : ¬ (0 : Int) < ((fr j).length : Int) := by rw [hq0]; decide
        have HE := Hid.mk' (parS_no (n := n) hq0)
        clear hq0
        go_wp2_with fail
        go_roundw
        case rel => exact ⟨j + 1, hlt, by go_num, by rw [HE.out]; exact HB.out, HW.out⟩
        case measure => simp [intOf]; omega
      · have hp : 0 < (fr j).length := List.length_pos_iff.2 hq0
        have hq2 : (0 : Int) < ((fr j).length : Int) := by omega
        have HE := Hid.mk' (parS_yes hlt hq0)
        have HF := Hid.mk' (full_any wr)
        have hjl : j < (parS n fr j).length := by rw [parS_len]; exact hlt
        have HJ := Hid.mk' hjl
        clear hjl
        clear hq0
        go_wp2_with (first
          | (go_at_call 76; refine HF.out.mono ?_; rintro e w2 ⟨rfl, bb2⟩; have HB2 := Hid.mk' bb2; clear bb2)
          | (refine wpl_put_set rfl _ _ rfl fullW (blk_stay HB.out HB2.out) (parS_16 _ _ _) HJ.out rfl rfl okW_full.len ?_; rintro W3 b3 wr3; have HB3 := Hid.mk' b3; have HW3 := Hid.mk' wr3; clear b3 wr3))
        go_roundw
        case rel => exact ⟨j + 1, hlt, by go_num, by rw [← HE.out]; exact HB3.out, (Below.on HW.out HB2.out).trans (HW3.out.below (Nat.le_refl _))⟩
        case measure => simp [intOf]; omega
    · have e : j = n := by omega
      rw [e] at HB
      clear e
      by_cases hn0 : n = 0
      · have hq2 : ¬ (0 : Int) < (n : Int) := by omega
        have HN : Hid (flatS (parS n fr n) = flatS (begS n fr)) := by
          show _ = _
          rw [hn0]; rfl
        clear hn0
        go_wp2_with fail
        go_ret
        exact ⟨_, rfl, Nat.le_refl _, by rw [← HN.out]; exact HB.out, HW.out⟩
      · have hq2 : (0 : Int) < (n : Int) := by omega
        have h0 : 0 < (parS n fr n).length := by rw [parS_len]; omega
        have ez : (parS n fr n)[0] = zeroW := by
          have h1 := parS_at (n := n) (fr := fr) (j := n) (v := 0) (by omega)
          rw [if_neg (fun h => h.2 HZ.out), List.getElem?_eq_getElem h0] at h1
          exact Option.some.inj h1
        have HA : Hid (Calls Tryd.prog 77 #[.pointer (some ⟨w.heap.size, 0, none⟩), .int .i64 0] wr fun e w' => (∃ r, e = .returned r) ∧ Bk w' w.heap.size 95 (flatS (begS n fr)) ∧ Wr w.heap.size wr w') := by
          have hb := HB.out
          rw [flatS_split h0, ez] at hb
          have := sadd_set w.heap.size 0 95 zeroW (flatS ((parS n fr n).drop (0 + 1))) wr (by decide) okW_zero hb
          rw [← parS_all, flatS_set h0]
          exact this
        clear hn0 h0 ez
        go_wp2_with (go_at_call 77; refine HA.out.mono ?_; rintro e w3 ⟨⟨r3, rfl⟩, b3, wr3⟩)
        go_ret
        exact ⟨_, rfl, Nat.le_refl _, b3, HW.out.trans (wr3.below (Nat.le_refl _))⟩
end Go.Proofs.YtgiokognngllcaaDoor
