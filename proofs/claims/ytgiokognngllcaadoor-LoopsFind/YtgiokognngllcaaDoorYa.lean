/- LoopsFind: what is told is written over. -/
import Derived.Test.YtgiokognngllcaaDoorXc
import Derived.Test.YtgiokognngllcaaDoorGgab
import Derived.Test.YtgiokognngllcaaDoorGgac
import Derived.Test.YtgiokognngllcaaDoorWb
import Derived.Deep.QuietTactic
import Derived.BigQuiet
namespace Go.Proofs.YtgiokognngllcaaDoor
open Go.RowKit Go.Sort

theorem samF_cpd {W : World} {N : Nat} {g f : Fn} (h : Cpd W N g f) : samF g f = true := by
  obtain ⟨h1, h2, h3, h4, h5, _⟩ := h
  simp [samF, h1, h2, h3, h4, h5, samPs_refl, samXs_refl]
/-- A module of one function, in a block of its own (as stage 12's law has it). -/
theorem mo_in {W' : World} (g : Fn) (hg : g.In W') (k : Nat) (hk : W'.heap[k]? = some (.cells #[.string g.name, .slice g.pa g.params.length g.pc, .int .i64 g.regs, .int .i64 g.words, .slice g.ca g.code.length g.cc] 25)) : (Mo.mk none 0 [] (some ⟨k, 0, none⟩) 1 [g]).In W' := by
  refine ⟨⟨by simp, fun i cs h => by simp at h⟩, by simp, ⟨by simp, fun i cs h => ?_⟩, fun f hf => by simp at hf; subst hf; exact hg⟩
  match i, h with
  | 0, h =>
    simp at h
    subst h
    refine ⟨k, 0, rfl, fun j v hj => ?_⟩
    refine cell_of_obj hk ?_
    rw [← Array.getElem?_toList, show 0 + (0 * 5 + j) = j by omega]
    exact (show (g.cells)[j]? = some v from by simpa using hj)
  | i + 1, h => simp at h
theorem cpd_cc {W : World} {N : Nat} {g f : Fn} (h : Cpd W N g f) : g.code.length ≤ g.cc := by
  rcases h.2.2.2.2.2.2.2 with ⟨_, e⟩ | ⟨_, _, _, e, _, _, h2, _⟩
  · omega
  · have := (Value.slice.inj e).2.2
    omega
/-- One number is put behind a row, in what room there is: the row stays. -/
theorem oi_app_keep {N : Nat} {l : List Int} {v : Value} {W : World} (h : Oi N l v W) (hN : N ≤ W.heap.size) (hl : l.length ≤ 1000000) (z : Int) (ty : TypeId) :
    ∃ a' c' W', (Builtin.append_ #[38, 38] ty #[v, .slice (some ⟨W.heap.size, 0, none⟩) 1 1]).run Tryd.prog (W.alloc (.cells #[.int .i64 z] 3)) = .ok (.slice a' (l.length + 1) c') W' ∧ Oi N l v W' ∧ W.grownBy W' v.ownBlock := by
  obtain ⟨i0, hi, hz0, hz1, hz2⟩ := info_parts Tryd.infoN
  have hb := Below.one (Below.refl W.heap.size W) (.cells #[.int .i64 z] 3)
  have h' := own_stay h hb
  have hnews : ∀ (j : Nat) (u : Value), [Value.int .i64 z][j]? = some u → (W.alloc (.cells #[.int .i64 z] 3)).cell? ((⟨W.heap.size, 0, none⟩ : Addr).add j) = some u := fun j u hu => by
    rw [Addr.add_lit, Nat.zero_add]
    exact new_cell _ _ _ _ _ (by rw [← hu, ← Array.getElem?_toList])
  obtain ⟨v', W', hr, h2, h3, _⟩ := run_append_own (P := Tryd.prog) (W.alloc (.cells #[.int .i64 z] 3)) N 38 ty 3 i0 (.int .i64 0) 1 8 Tryd.underlying38 hi hz0 hz1 hz2 rfl (by decide) v _ _ h' ⟨W.heap.size, 0, none⟩ 1 1 [.int .i64 z] rfl hnews (by simp [Value.oneCell']) (by unfold maxLen; omega) (by omega) (by simp; omega)
  obtain ⟨a', c', rfl⟩ := gown_form h2
  have h4 := grown_of_alloc h3
  refine ⟨a', c', W', hr, ?_, h4⟩
  rcases h'.2 with ⟨rfl, e0⟩ | ⟨g, cap, cur, rfl, hbg, hg, hnc, hcm, hcs, htake⟩
  · have : l = [] := List.eq_nil_of_length_eq_zero e0
    subst this
    exact World.ownsRow_nil _ _ _ _
  · by_cases hroom : l.length + 1 ≤ cap
    · have hfit : l.length * i0.size + [Value.int .i64 z].length ≤ cur.size := by rw [hz1, hcs]; simp; omega
      have hr2 := run_append_room (P := Tryd.prog) (W.alloc (.cells #[.int .i64 z] 3)) 38 ty 3 i0 Tryd.underlying38 hi g l.length cap cur hg ⟨W.heap.size, 0, none⟩ 1 1 [.int .i64 z] (by rw [hz1]; rfl) hnews (by simp [Value.oneCell']) hroom hfit
      rw [hr2] at hr
      injection hr with _ hw
      subst hw
      refine ⟨by simp, .inr ⟨g, cap, _, rfl, hbg, setRow_heap _ g cur _ _ _ hg, hnc, hcm, ?_, ?_⟩⟩
      · simp only [List.size_toArray, List.length_append, List.length_take, List.length_drop, Array.length_toList, hz1, List.length_singleton]
        omega
      · rw [hz1, List.append_assoc, List.take_append_of_le_length (by simp only [List.length_take, Array.length_toList]; omega), List.take_take, Nat.min_self]
        exact htake
    · have hr2 := run_append_grow (P := Tryd.prog) (W.alloc (.cells #[.int .i64 z] 3)) 38 ty 3 i0 (.int .i64 0) Tryd.underlying38 hi hz0 ⟨g, 0, none⟩ l.length cap (l.map iV) (by rw [hz1]; simp) (h'.cells (g := g) rfl) ⟨W.heap.size, 0, none⟩ 1 1 [.int .i64 z] (by rw [hz1]; rfl) hnews (by omega) (by omega) (growslice_fits (by omega) (by rw [hz2]; omega))
      rw [hr2] at hr
      injection hr with _ hw
      subst hw
      refine ⟨by simp, .inr ⟨g, cap, cur, rfl, hbg, ?_, hnc, hcm, hcs, htake⟩⟩
      exact (heap_alloc_old _ _ (Array.getElem?_eq_some_iff.1 hg).1).trans hg
/-- One of a loop's two lists. -/
noncomputable def Lr.vv (l : List Is) (x : Lr) (s : Bool) : Value := if s = true then x.mv l else x.bv l
noncomputable def Lr.ll (l : List Is) (x : Lr) (s : Bool) : Nat := if s = true then (mbs l x.h).length else (bks l x.h).length
def FnC (g : Fn) : Array Value := #[.string g.name, .slice g.pa g.params.length g.pc, .int .i64 g.regs, .int .i64 g.words, .slice g.ca g.code.length g.cc]
structure LW (fl : List Is) (N N2 : Nat) (xs : List Lr) (va : Value) (w w9 : World) (g : Fn) (Ng B3 : Nat) (cs : Nat → Bool → List Int) (W : World) : Prop where
  list : W.ownsRow N 40 4 va xs.length (xs.flatMap (Lr.cells fl))
  rows : ∀ (i : Nat) (x : Lr) (s : Bool), xs[i]? = some x → Oi N (cs i s) (x.vv fl s) W ∧ (cs i s).length = x.ll fl s
  lt : ∀ (i : Nat) (x : Lr) (s : Bool) (k : Nat), xs[i]? = some x → (x.vv fl s).ownBlock = some k → k < N2
  ap : ∀ (i j : Nat) (x y : Lr) (s t : Bool), xs[i]? = some x → xs[j]? = some y → (i ≠ j ∨ s ≠ t) → Apart (x.vv fl s) (y.vv fl t)
  bx : W.heap[B3]? = some (.cells (FnC g) 25)
  oc : W.ownsRow Ng 52 5 (.slice g.ca g.code.length g.cc) g.code.length (g.code.flatMap Is.cells)
  kx : ∀ k, N2 ≤ k → k < w9.heap.size → W.heap[k]? = w9.heap[k]?
  b : Below w.heap.size w W
  s : w9.heap.size ≤ W.heap.size
  n : w.heap.size ≤ N ∧ N ≤ w9.heap.size
section
variable {fl : List Is} {N N2 : Nat} {xs : List Lr} {va : Value} {w w9 : World} {g : Fn} {Ng B3 : Nat} {cs : Nat → Bool → List Int} {W W' : World}
theorem LW.stay (h : LW fl N N2 xs va w w9 g Ng B3 cs W) (hb : Below W.heap.size W W') : LW fl N N2 xs va w w9 g Ng B3 cs W' :=
  ⟨own_stay h.list hb, fun i x s hx => ⟨own_stay (h.rows i x s hx).1 hb, (h.rows i x s hx).2⟩, h.lt, h.ap, blk_stay h.bx hb, own_stay h.oc hb, fun k h1 h2 => (hb.block k (Nat.lt_of_lt_of_le h2 h.s)).trans (h.kx k h1 h2), Below.on h.b hb, Nat.le_trans h.s hb.size, h.n⟩
theorem LW.step (h : LW fl N N2 xs va w w9 g Ng B3 cs W) {i : Nat} {x : Lr} {s : Bool} (hx : xs[i]? = some x) (hg : W.grownBy W' (x.vv fl s).ownBlock) {l' : List Int} (ho : Oi N l' (x.vv fl s) W') (hl : l'.length = x.ll fl s) : LW fl N N2 xs va w w9 g Ng B3 (fun k t => if k = i ∧ t = s then l' else cs k t) W' := by
  have hr := (h.rows i x s hx).1
  have hT := fun {T : TypeId} (hT : T ≠ 3) => grown_keepT (T := T) hr hg hT
  refine ⟨own_keepT h.list (hT (by decide)), fun j y t hy => ?_, h.lt, h.ap, hT (by decide) _ _ _ h.bx, own_keepT h.oc (hT (by decide)), fun k h1 h2 => ?_, h.b.grown hg h.b.size (fun k e => by have := own_base hr k e; have := h.n.1; omega), Nat.le_trans h.s hg.size, h.n⟩
  · by_cases e : j = i ∧ t = s
    · simp only [if_pos e]
      obtain ⟨rfl, rfl⟩ := e
      rw [hx] at hy
      cases hy
      exact ⟨ho, hl⟩
    · simp only [if_neg e]
      refine ⟨(h.rows j y t hy).1.kept hg (h.ap j i y x t s hy hx ?_), (h.rows j y t hy).2⟩
      by_cases e1 : j = i
      · exact .inr fun e2 => e ⟨e1, e2⟩
      · exact .inl e1
  · refine (hg.block k (Nat.lt_of_lt_of_le h2 h.s) fun e => ?_).trans (h.kx k h1 h2)
    have := h.lt i x s k hx e.symm
    omega
theorem LW.put (h : LW fl N N2 xs va w w9 g Ng B3 cs W) {i : Nat} {x : Lr} {s : Bool} (hx : xs[i]? = some x) {gb n c : Nat} (hv : x.vv fl s = .slice (some ⟨gb, 0, none⟩) n c) (j : Nat) (z : Int) : LW fl N N2 xs va w w9 g Ng B3 (fun k t => if k = i ∧ t = s then (cs i s).set j z else cs k t) (W.setCell ⟨gb, j, none⟩ (.int .i64 z)) := by
  have hr := (h.rows i x s hx).1
  refine h.step hx ?_ ?_ (by rw [List.length_set]; exact (h.rows i x s hx).2)
  · rw [hv]
    exact ⟨rfl, rfl, rfl, by simp, fun k _ hk => heap_setCell_other W ⟨gb, j, none⟩ k _ fun e => hk (by rw [e]; rfl)⟩
  · rw [hv] at hr ⊢
    exact oi_put hr j z
theorem LW.same (h : LW fl N N2 xs va w w9 g Ng B3 cs W) {i : Nat} {x : Lr} {s : Bool} (hx : xs[i]? = some x) (hg : W.grownBy W' (x.vv fl s).ownBlock) (ho : Oi N (cs i s) (x.vv fl s) W') : LW fl N N2 xs va w w9 g Ng B3 cs W' := by
  have := h.step hx hg ho (h.rows i x s hx).2
  have e : (fun k t => if k = i ∧ t = s then cs i s else cs k t) = cs := by
    funext k t
    split
    · rename_i e; rw [e.1, e.2]
    · rfl
  rwa [e] at this
/-- Read. -/
theorem LW.at' {a : Option Addr} {m c : Nat} (h : LW fl N N2 xs (.slice a m c) w w9 g Ng B3 cs W) {i : Nat} {x : Lr} (hx : xs[i]? = some x) : ∃ gl, a = some ⟨gl, 0, none⟩ ∧ W.cell? ⟨gl, i * 4 + 2, none⟩ = some (.slice x.ma (mbs fl x.h).length x.mc) ∧ W.cell? ⟨gl, i * 4 + 3, none⟩ = some (.slice x.ba (bks fl x.h).length x.bc) := by
  rcases h.list.2 with ⟨e, e0⟩ | ⟨gl, cap, cur, e, hN, hcu, _⟩
  · have h1 := h.list.1
    have := (List.getElem?_eq_some_iff.1 hx).1
    omega
  · have e1 := (Value.slice.inj e).1
    subst e1
    have e2 := (Value.slice.inj e).2.1
    subst e2
    have hc : ∀ j v, (x.cells fl)[j]? = some v → W.cell? ⟨gl, i * 4 + j, none⟩ = some v := fun j v hj => by
      have hl := h.list
      have := hl.cells (g := gl) rfl _ _ (flat_at (Lr.cells_len fl) xs i j x v hx hj)
      rw [Addr.add_lit, Nat.zero_add] at this
      exact this
    exact ⟨gl, rfl, hc 2 _ rfl, hc 3 _ rfl⟩
theorem LW.el (h : LW fl N N2 xs va w w9 g Ng B3 cs W) {i : Nat} {x : Lr} {s : Bool} (hx : xs[i]? = some x) {a : Option Addr} {n c j : Nat} (hv : x.vv fl s = .slice a n c) (hj : j < x.ll fl s) : ∃ gb z, a = some ⟨gb, 0, none⟩ ∧ (cs i s)[j]? = some z ∧ W.cell? ⟨gb, j, none⟩ = some (.int .i64 z) ∧ W.frozen? ⟨gb, j, none⟩ = false := by
  obtain ⟨hr, hl⟩ := h.rows i x s hx
  rw [hv] at hr
  have hjl : j < (cs i s).length := by omega
  rcases hr.2 with ⟨e, e0⟩ | ⟨gb, cap, cur, e, hN, hcu, _⟩
  · omega
  · have e1 := (Value.slice.inj e).1
    subst e1
    exact ⟨gb, (cs i s)[j], rfl, List.getElem?_eq_getElem hjl, oi_at hr hjl, Lib.frozen_of_heap hcu _⟩
end
theorem OwnL.lw {fl : List Is} {N N2 : Nat} {xs : List Lr} {va : Value} {w w9 : World} {g : Fn} {Ng B3 : Nat} {W3 : World} (h : OwnL fl N xs va W3) (h2 : N2 = W3.heap.size) (h9 : Below W3.heap.size W3 w9) (hb : Below w.heap.size w w9) (hw : w.heap.size ≤ N) (hN : N ≤ w9.heap.size)
    (hx : w9.heap[B3]? = some (.cells (FnC g) 25)) (hc : w9.ownsRow Ng 52 5 (.slice g.ca g.code.length g.cc) g.code.length (g.code.flatMap Is.cells)) :
    LW fl N N2 xs va w w9 g Ng B3 (fun i s => ((if s = true then mbs fl (xs.getD i ⟨0, 0, none, 0, none, 0, 0⟩).h else bks fl (xs.getD i ⟨0, 0, none, 0, none, 0, 0⟩).h).map fun (n : Nat) => (n : Int))) w9 := by
  have hr : ∀ (i : Nat) (x : Lr) (s : Bool), xs[i]? = some x → On N (if s = true then mbs fl x.h else bks fl x.h) (x.vv fl s) W3 := fun i x s hx => by
    unfold Lr.vv
    cases s
    · exact h.bac x (List.mem_of_getElem? hx)
    · exact h.mem x (List.mem_of_getElem? hx)
  have hap := List.pairwise_flatMap.1 h.ap
  refine ⟨own_stay h.list h9, fun i x s hx => ?_, fun i x s k hx hk => by rw [h2]; exact ((hr i x s hx).lt k hk).2, fun i j x y s t hx hy hne => ?_, hx, hc, fun _ _ _ => rfl, hb, Nat.le_refl _, hw, hN⟩
  · have hd : xs.getD i ⟨0, 0, none, 0, none, 0, 0⟩ = x := by rw [List.getD_eq_getElem?_getD, hx]; rfl
    simp only [hd]
    refine ⟨?_, ?_⟩
    · have := own_stay (hr i x s hx) h9
      unfold Oi
      rw [List.length_map, map_nV]
      exact this
    · unfold Lr.ll
      rw [List.length_map]
      cases s <;> rfl
  · have hin : ∀ (z : Lr) (u : Bool), z.vv fl u ∈ [z.mv fl, z.bv fl] := fun z u => by unfold Lr.vv; cases u <;> simp
    by_cases e : i = j
    · subst e
      rw [hx] at hy
      cases hy
      have h1 := hap.1 x (List.mem_of_getElem? hx)
      have h2 : Apart (x.mv fl) (x.bv fl) := (List.pairwise_cons.1 h1).1 _ (by simp)
      unfold Lr.vv
      cases s <;> cases t
      · exact absurd rfl (hne.resolve_left (fun h => h rfl))
      · exact h2.symm
      · exact h2
      · exact absurd rfl (hne.resolve_left (fun h => h rfl))
    · obtain ⟨h1, e1⟩ := List.getElem?_eq_some_iff.1 hx
      obtain ⟨h2, e2⟩ := List.getElem?_eq_some_iff.1 hy
      have hp := List.pairwise_iff_getElem.1 hap.2
      rcases Nat.lt_or_gt_of_ne e with hlt | hgt
      · have := hp i j h1 h2 hlt
        rw [e1, e2] at this
        exact this _ (hin x s) _ (hin y t)
      · have := hp j i h2 h1 hgt
        rw [e1, e2] at this
        exact (this _ (hin y t) _ (hin x s)).symm
/-- All are written over, of the first i; of the next one the first j of a list. -/
def Fl1 (cs : Nat → Bool → List Int) (k : Nat) (s : Bool) : Prop := ∀ v ∈ cs k s, v = (if s = true then 1000 else 2000) + (k : Int)
theorem take_set {l : List Int} {j : Nat} (hj : j < l.length) (z v : Int) (h : v ∈ (l.set j z).take (j + 1)) : v ∈ l.take j ∨ v = z := by
  rw [List.take_succ_eq_append_getElem (by rw [List.length_set]; exact hj), List.getElem_set_self, List.mem_append, List.mem_singleton, List.take_set_of_le (Nat.le_refl _)] at h
  exact h
end Go.Proofs.YtgiokognngllcaaDoor
namespace Go.Proofs.YtgiokognngllcaaDoor
open Go.RowKit Go.Sort

noncomputable def lfR : Code → Code | .seq _ b => b | c => c
noncomputable def lfL : Code → Code | .seq a _ => a | c => c
noncomputable def lfC : Code := lfR (lfR (lfR (lfR (lfR (lfR (lfR (lfR (lfR (lfR (lfR ((Tryd.f3.body.getD .skip))))))))))))
noncomputable def lfB : Code := lfR (lfR (lfR (lfR (lfR (lfR (lfR (lfR ((Tryd.f3.body.getD .skip)))))))))
noncomputable def lfA : Code := lfR (lfR (lfR (lfR (lfR (lfR (lfR ((Tryd.f3.body.getD .skip))))))))
set_option maxRecDepth 100000 in
set_option maxHeartbeats 8000000 in
theorem lf_check (w w9 : World) (g : Fn) (Ng B3 N N2 : Nat) (fl : List Is) (xs ys : List Lr) (la qa : Option Addr) (lc qc : Nat) (cs : Nat → Bool → List Int) (W0 : World)
    (HFI : Hid (∀ W, W.ownsRow Ng 52 5 (.slice g.ca g.code.length g.cc) g.code.length (g.code.flatMap Is.cells) → Below w.heap.size w W → Calls Tryd.prog 8 #[.agg #[.string g.name, .slice g.pa g.params.length g.pc, .int .i64 g.regs, .int .i64 g.words, .slice g.ca g.code.length g.cc]] W (FdP fl W)))
    (HEQ : Hid (xs.map (Lr.lo fl) = (fndZ fl).ls ∧ ys.map (Lr.lo fl) = (fndZ fl).ls)) (HWT : Hid (OwnR fl N2 ys (.slice qa ys.length qc) w9)) (HML : Hid (xs.length ≤ 1024 ∧ ∀ (i : Nat) (x : Lr) (s : Bool), xs[i]? = some x → x.ll fl s ≤ 1024))
    (HLW : Hid (LW fl N N2 xs (.slice la xs.length lc) w w9 g Ng B3 cs W0))
    (HFL : Hid (∀ k, k < xs.length → Fl1 cs k true ∧ Fl1 cs k false))
    (K1 K2 : Act → World → Prop) (hK1 : ∀ a W, (lfR (lfL lfC)).wp Tryd.prog (Exit.then K2 (bodyPost Tryd.prog Tryd.f3 fun e w' => e = .returned (.bool true) ∧ Below w.heap.size w w')) a W → K1 a W) (hK2 : ∀ a W, (lfR lfC).wp Tryd.prog (bodyPost Tryd.prog Tryd.f3 fun e w' => e = .returned (.bool true) ∧ Below w.heap.size w w') a W → K2 a W) (u0 u1 u2 u5 u6 u8 u9 u10 u11 u12 u13 u14 u15 u16 u17 u18 u19 u20 u21 u22 u23 u24 u25 u26 u27 u28 u29 u30 u31 u32 u33 u34 u35 u36 u37 u38 u39 u40 u41 u42 u43 u44 u45 u46 u47 u48 u49 u50 u51 u52 u53 u54 u55 u56 u57 u58 u59 u60 u61 u62 u63 u64 u65 u66 u67 u68 u69 u70 u71 u72 u73 u74 u75 u76 u77 u78 u79 u80 u81 u82 u83 u84 u85 u86 u87 u88 u89 u90 u91 u92 u93 u94 u95 u96 u97 u98 u99 u100 u101 u102 u103 u104 u105 u106 u107 u108 u109 u110 u111 u112 u113 u114 u115 u116 u117 u118 u119 u120 u121 u122 u123 u124 u125 u126 u127 u128 u129 u130 u131 u132 u133 u134 u135 u136 u137 u138 u139 u140 u141 u142 u143 u144 u145 u146 u147 u148 u149 u150 u151 u152 u153 u154 u155 u156 u157 u158 u159 u160 u161 u162 u163 u164 u165 u166 u167 u168 u169 u170 u171 u172 u173 u174 u175 u176 u177 u178 u179 u180 u181 u182 u183 u184 u185 u186 u187 u188 u189 u190 u191 u192 u193 u194 u195 u196 u197 : Value) :
    (lfL (lfL lfC)).wp Tryd.prog (Exit.then K1 (Exit.then K2 (bodyPost Tryd.prog Tryd.f3 fun e w' => e = .returned (.bool true) ∧ Below w.heap.size w w'))) { tmps := #[u0, u1, u2, .pointer (some ⟨B3, 0, none⟩), .slice la xs.length lc, u5, u6, .slice qa ys.length qc, u8, u9, u10, u11, u12, u13, u14, u15, u16, u17, u18, u19, u20, u21, u22, u23, u24, u25, u26, u27, u28, u29, u30, u31, u32, u33, u34, u35, u36, u37, u38, u39, u40, u41, u42, u43, u44, u45, u46, u47, u48, u49, u50, u51, u52, u53, u54, u55, u56, u57, u58, u59, u60, u61, u62, u63, u64, u65, u66, u67, u68, u69, u70, u71, u72, u73, u74, u75, u76, u77, u78, u79, u80, u81, u82, u83, u84, u85, u86, u87, u88, u89, u90, u91, u92, u93, u94, u95, u96, u97, u98, u99, u100, u101, u102, u103, u104, u105, u106, u107, u108, u109, u110, u111, u112, u113, u114, u115, u116, u117, u118, u119, u120, u121, u122, u123, u124, u125, u126, u127, u128, u129, u130, u131, u132, u133, u134, u135, u136, u137, u138, u139, u140, u141, u142, u143, u144, u145, u146, u147, u148, u149, u150, u151, u152, u153, u154, u155, u156, u157, u158, u159, u160, u161, u162, u163, u164, u165, u166, u167, u168, u169, u170, u171, u172, u173, u174, u175, u176, u177, u178, u179, u180, u181, u182, u183, u184, u185, u186, u187, u188, u189, u190, u191, u192, u193, u194, u195, u196, u197], defers := [] } W0 := by
  generalize hq : (bodyPost Tryd.prog Tryd.f3 fun e w' => e = .returned (.bool true) ∧ Below w.heap.size w w') = Q at hK1 hK2 ⊢
  simp only [lfC, Tryd.f3, Option.getD_some, lfR, lfL] at hK1 hK2 ⊢
  subst hq
  go_wp2_with fail
  go_loopw [17] (fun t17 wr => ∃ i : Nat, t17 = .int .i64 (i : Int) ∧ i ≤ xs.length ∧ wr = W0) (fun t17 _ => xs.length - (intOf t17).toNat)
  case atStart => exact ⟨0, rfl, Nat.zero_le _, rfl⟩
  case round =>
    obtain ⟨i, rfl, hi, hw⟩ := hrel
    have hw2 := hw.symm
    subst hw2
    clear hw
    have hmm := HML.out.1
    by_cases hlt : i < xs.length
    · have hii : (i : Int) < (xs.length : Int) := by omega
      obtain ⟨x, hx⟩ : ∃ x, xs[i]? = some x := ⟨_, List.getElem?_eq_getElem hlt⟩
      have HX := Hid.mk' hx
      have HIL := Hid.mk' hlt
      obtain ⟨gl, rfl, c2, c3⟩ := HLW.out.at' hx
      have HC := Hid.mk' (And.intro c2 c3)
      clear hx hlt
      go_wp2_with fail
      clear c2 c3
      go_loopw [18] (fun t18 wr => ∃ k : Nat, t18 = .int .i64 (k : Int) ∧ k ≤ (mbs fl x.h).length ∧ wr = W0) (fun t18 _ => (mbs fl x.h).length - (intOf t18).toNat)
      case atStart => exact ⟨0, rfl, Nat.zero_le _, rfl⟩
      case round =>
        obtain ⟨k, rfl, hk, hw⟩ := hrel
        have hw2 := hw.symm
        subst hw2
        clear hw
        have hnn : (mbs fl x.h).length ≤ 1024 := by
          have h := HML.out.2 i x true HX.out
          unfold Lr.ll at h
          simpa using h
        have hmm := HML.out.1
        have hil := HIL.out
        have c2 := HC.out.1
        have c3 := HC.out.2
        by_cases hkl : k < (mbs fl x.h).length
        · have hki : (k : Int) < ((mbs fl x.h).length : Int) := by omega
          obtain ⟨gb, z, hma, hz, d0, f0⟩ := HLW.out.el (s := true) HX.out (a := x.ma) (n := (mbs fl x.h).length) (c := x.mc) rfl (show k < (mbs fl x.h).length from hkl)
          rw [hma] at c2
          have hzv := (HFL.out i HIL.out).1 z (List.mem_of_getElem? hz)
          simp only [if_true] at hzv
          obtain ⟨V, hV⟩ : ∃ V : Int, V = 1000 + (i : Int) := ⟨_, rfl⟩
          rw [hzv, ← hV] at d0
          have q1 : wrap64 (1000 + (i : Int)) = V := by unfold wrap64; omega
          have q2 : 1000 + (i : Int) = V := hV.symm
          have q3 : (V != V) = false := by simp
          clear hzv hz hV hma f0
          go_wp2_with fail
          go_roundw
          case rel => exact ⟨k + 1, by go_num, hkl, trivial⟩
          case measure => simp [intOf]; omega
        · have hki : ¬ (k : Int) < ((mbs fl x.h).length : Int) := by omega
          clear hnn
          go_wp2_with fail
          clear c2 c3 hkl hk hki
          go_loopw [19] (fun t19 wr => ∃ k : Nat, t19 = .int .i64 (k : Int) ∧ k ≤ (bks fl x.h).length ∧ wr = W0) (fun t19 _ => (bks fl x.h).length - (intOf t19).toNat)
          case atStart => exact ⟨0, rfl, Nat.zero_le _, rfl⟩
          case round =>
            obtain ⟨k, rfl, hk, hw⟩ := hrel
            have hw2 := hw.symm
            subst hw2
            clear hw
            have hnn : (bks fl x.h).length ≤ 1024 := by
              have h := HML.out.2 i x false HX.out
              unfold Lr.ll at h
              simpa using h
            have hmm := HML.out.1
            have hil := HIL.out
            have c2 := HC.out.1
            have c3 := HC.out.2
            by_cases hkl : k < (bks fl x.h).length
            · have hki : (k : Int) < ((bks fl x.h).length : Int) := by omega
              obtain ⟨gb, z, hma, hz, d0, f0⟩ := HLW.out.el (s := false) HX.out (a := x.ba) (n := (bks fl x.h).length) (c := x.bc) rfl (show k < (bks fl x.h).length from hkl)
              rw [hma] at c3
              have hzv := (HFL.out i HIL.out).2 z (List.mem_of_getElem? hz)
              simp only [Bool.false_eq_true, if_false] at hzv
              obtain ⟨V, hV⟩ : ∃ V : Int, V = 2000 + (i : Int) := ⟨_, rfl⟩
              rw [hzv, ← hV] at d0
              have q1 : wrap64 (2000 + (i : Int)) = V := by unfold wrap64; omega
              have q2 : 2000 + (i : Int) = V := hV.symm
              have q3 : (V != V) = false := by simp
              clear hzv hz hV hma f0
              go_wp2_with fail
              go_roundw
              case rel => exact ⟨k + 1, by go_num, hkl, trivial⟩
              case measure => simp [intOf]; omega
            · have hki : ¬ (k : Int) < ((bks fl x.h).length : Int) := by omega
              clear hnn
              go_wp2_with fail
              go_roundw
              case rel => exact ⟨i + 1, by go_num, HIL.out, trivial⟩
              case measure => simp [intOf]; omega
    · have hii : ¬ (i : Int) < (xs.length : Int) := by omega
      have hbx := HLW.out.bx
      unfold FnC at hbx
      have z0 := cell_of_obj hbx (j := 0) (v := .string g.name) rfl
      have z1 := cell_of_obj hbx (j := 1) (v := .slice g.pa g.params.length g.pc) rfl
      have z2 := cell_of_obj hbx (j := 2) (v := .int .i64 g.regs) rfl
      have z3 := cell_of_obj hbx (j := 3) (v := .int .i64 g.words) rfl
      have z4 := cell_of_obj hbx (j := 4) (v := .slice g.ca g.code.length g.cc) rfl
      have HC := Hid.mk' (HFI.out _ HLW.out.oc HLW.out.b)
      have HWR := Hid.mk' (HWT.out.high HLW.out.kx)
      have HBW := Hid.mk' HLW.out.b
      clear hlt hbx
      go_wp2_with fail
      refine HC.out.mono ?_
      rintro e W2 ⟨v2, x2, rfl, hx2, ho2, bb2⟩
      obtain ⟨a2, c2, rfl, hl2⟩ := own_lps ho2
      obtain ⟨a3, c3, e3, hl3⟩ := ownR_lps (HWR.out.stay bb2)
      have ea := (Value.slice.inj e3).1
      subst ea
      have hL2 : (x2.map fun x => loI (x.lo fl)) = (fndZ fl).ls.map loI := by rw [← hx2, List.map_map]; rfl
      have hL3 : (ys.map fun x => loI (x.lo fl)) = (fndZ fl).ls.map loI := by rw [← HEQ.out.2, List.map_map]; rfl
      have hLx : (xs.map fun x => loI (x.lo fl)) = (fndZ fl).ls.map loI := by rw [← HEQ.out.1, List.map_map]; rfl
      rw [hL2] at hl2
      rw [hL3] at hl3
      have n2 : ((fndZ fl).ls.map loI).length = x2.length := by rw [← hL2, List.length_map]
      have n3 : ((fndZ fl).ls.map loI).length = ys.length := by rw [← hL3, List.length_map]
      have nx : ((fndZ fl).ls.map loI).length = xs.length := by rw [← hLx, List.length_map]
      have HS := lsame_any ((fndZ fl).ls.map loI) ((fndZ fl).ls.map loI) a2 qa c2 qc W2 hl2 hl3 (by rw [nx]; have := HML.out.1; omega) (fun l hl => by
        rw [← hLx] at hl
        obtain ⟨x, hx, rfl⟩ := List.mem_map.1 hl
        obtain ⟨i, hi⟩ := List.getElem?_of_mem hx
        have h1 := HML.out.2 i x true hi
        have h2 := HML.out.2 i x false hi
        unfold Lr.ll at h1 h2
        simp only [if_true, Bool.false_eq_true, if_false] at h1 h2
        unfold loI Lr.lo
        simp only [List.length_map]
        omega)
      rw [decide_eq_true rfl] at HS
      have HS2 : Hid (Calls Tryd.prog 10 #[.slice a2 x2.length c2, .slice qa ys.length qc] W2 fun e w' => e = .returned (.bool true) ∧ Below W2.heap.size W2 w') := by
        show Calls _ _ _ _ _
        rw [← n2, ← n3]
        exact HS
      have HB2 : Hid (Below w.heap.size w W2) := Below.on HBW.out bb2
      clear HS n2 n3 nx hL2 hL3 hLx hl2 hl3 e3 hx2 ho2 bb2 z0 z1 z2 z3 z4 HC HWR
      go_wp2_with fail
      refine HS2.out.mono ?_
      rintro e W3 ⟨rfl, bb3⟩
      have HB3 : Hid (Below w.heap.size w W3) := Below.on HB2.out bb3
      clear bb3
      go_wp2_with fail
      go_ret
      exact ⟨rfl, HB3.out⟩
end Go.Proofs.YtgiokognngllcaaDoor
namespace Go.Proofs.YtgiokognngllcaaDoor
open Go.RowKit Go.Sort

set_option maxRecDepth 100000 in
set_option maxHeartbeats 8000000 in
theorem lf_room (w w9 : World) (g : Fn) (Ng B3 N N2 : Nat) (fl : List Is) (xs ys : List Lr) (la qa : Option Addr) (lc qc : Nat) (cs : Nat → Bool → List Int) (W0 : World)
    (HFI : Hid (∀ W, W.ownsRow Ng 52 5 (.slice g.ca g.code.length g.cc) g.code.length (g.code.flatMap Is.cells) → Below w.heap.size w W → Calls Tryd.prog 8 #[.agg #[.string g.name, .slice g.pa g.params.length g.pc, .int .i64 g.regs, .int .i64 g.words, .slice g.ca g.code.length g.cc]] W (FdP fl W)))
    (HEQ : Hid (xs.map (Lr.lo fl) = (fndZ fl).ls ∧ ys.map (Lr.lo fl) = (fndZ fl).ls)) (HWT : Hid (OwnR fl N2 ys (.slice qa ys.length qc) w9)) (HML : Hid (xs.length ≤ 1024 ∧ ∀ (i : Nat) (x : Lr) (s : Bool), xs[i]? = some x → x.ll fl s ≤ 1024))
    (HLW : Hid (LW fl N N2 xs (.slice la xs.length lc) w w9 g Ng B3 cs W0))
    (HFL : Hid (∀ k, k < xs.length → Fl1 cs k true ∧ Fl1 cs k false))
    (K : Act → World → Prop) (hK : ∀ a W, (lfR lfB).wp Tryd.prog (bodyPost Tryd.prog Tryd.f3 fun e w' => e = .returned (.bool true) ∧ Below w.heap.size w w') a W → K a W) (u0 u1 u2 u5 u6 u8 u9 u10 u11 u12 u13 u14 u15 u16 u17 u18 u19 u20 u21 u22 u23 u24 u25 u26 u27 u28 u29 u30 u31 u32 u33 u34 u35 u36 u37 u38 u39 u40 u41 u42 u43 u44 u45 u46 u47 u48 u49 u50 u51 u52 u53 u54 u55 u56 u57 u58 u59 u60 u61 u62 u63 u64 u65 u66 u67 u68 u69 u70 u71 u72 u73 u74 u75 u76 u77 u78 u79 u80 u81 u82 u83 u84 u85 u86 u87 u88 u89 u90 u91 u92 u93 u94 u95 u96 u97 u98 u99 u100 u101 u102 u103 u104 u105 u106 u107 u108 u109 u110 u111 u112 u113 u114 u115 u116 u117 u118 u119 u120 u121 u122 u123 u124 u125 u126 u127 u128 u129 u130 u131 u132 u133 u134 u135 u136 u137 u138 u139 u140 u141 u142 u143 u144 u145 u146 u147 u148 u149 u150 u151 u152 u153 u154 u155 u156 u157 u158 u159 u160 u161 u162 u163 u164 u165 u166 u167 u168 u169 u170 u171 u172 u173 u174 u175 u176 u177 u178 u179 u180 u181 u182 u183 u184 u185 u186 u187 u188 u189 u190 u191 u192 u193 u194 u195 u196 u197 : Value) :
    (lfL lfB).wp Tryd.prog (Exit.then K (bodyPost Tryd.prog Tryd.f3 fun e w' => e = .returned (.bool true) ∧ Below w.heap.size w w')) { tmps := #[u0, u1, u2, .pointer (some ⟨B3, 0, none⟩), .slice la xs.length lc, u5, u6, .slice qa ys.length qc, u8, u9, u10, u11, u12, u13, u14, u15, u16, u17, u18, u19, u20, u21, u22, u23, u24, u25, u26, u27, u28, u29, u30, u31, u32, u33, u34, u35, u36, u37, u38, u39, u40, u41, u42, u43, u44, u45, u46, u47, u48, u49, u50, u51, u52, u53, u54, u55, u56, u57, u58, u59, u60, u61, u62, u63, u64, u65, u66, u67, u68, u69, u70, u71, u72, u73, u74, u75, u76, u77, u78, u79, u80, u81, u82, u83, u84, u85, u86, u87, u88, u89, u90, u91, u92, u93, u94, u95, u96, u97, u98, u99, u100, u101, u102, u103, u104, u105, u106, u107, u108, u109, u110, u111, u112, u113, u114, u115, u116, u117, u118, u119, u120, u121, u122, u123, u124, u125, u126, u127, u128, u129, u130, u131, u132, u133, u134, u135, u136, u137, u138, u139, u140, u141, u142, u143, u144, u145, u146, u147, u148, u149, u150, u151, u152, u153, u154, u155, u156, u157, u158, u159, u160, u161, u162, u163, u164, u165, u166, u167, u168, u169, u170, u171, u172, u173, u174, u175, u176, u177, u178, u179, u180, u181, u182, u183, u184, u185, u186, u187, u188, u189, u190, u191, u192, u193, u194, u195, u196, u197], defers := [] } W0 := by
  generalize hq : (bodyPost Tryd.prog Tryd.f3 fun e w' => e = .returned (.bool true) ∧ Below w.heap.size w w') = Q at hK ⊢
  simp only [lfB, Tryd.f3, Option.getD_some, lfR, lfL] at hK ⊢
  subst hq
  go_wp2_with fail
  go_loopw [15, 16] (fun t15 t16 wr => ∃ i r : Nat, t16 = .int .i64 (i : Int) ∧ t15 = .int .i64 (r : Int) ∧ i ≤ xs.length ∧ i ≤ r ∧ r ≤ 4096 * i ∧ LW fl N N2 xs (.slice la xs.length lc) w w9 g Ng B3 cs wr) (fun _ t16 _ => xs.length - (intOf t16).toNat)
  case atStart => exact ⟨0, 0, rfl, rfl, Nat.zero_le _, Nat.le_refl _, Nat.le_refl _, HLW.out⟩
  case round =>
    clear HLW
    obtain ⟨i, r, rfl, rfl, hi, hr1, hr2, hlw⟩ := hrel
    have hmm := HML.out.1
    by_cases hlt : i < xs.length
    · have hii : (i : Int) < (xs.length : Int) := by omega
      obtain ⟨x, hx⟩ : ∃ x, xs[i]? = some x := ⟨_, List.getElem?_eq_getElem hlt⟩
      have h1 : (mbs fl x.h).length ≤ 1024 := by
        have h := HML.out.2 i x true hx
        unfold Lr.ll at h
        simpa using h
      have h2 : (bks fl x.h).length ≤ 1024 := by
        have h := HML.out.2 i x false hx
        unfold Lr.ll at h
        simpa using h
      have l1 := (hlw.rows i x true hx).2
      have l2 := (hlw.rows i x false hx).2
      unfold Lr.ll at l1 l2
      simp only [if_true, Bool.false_eq_true, if_false] at l1 l2
      obtain ⟨gl, rfl, c2, c3⟩ := hlw.at' hx
      have hsz : N ≤ wr.heap.size := Nat.le_trans hlw.n.2 hlw.s
      have HA1 := oi_app_keep (hlw.rows i x true hx).1 hsz (by omega) (-3) 38
      rw [l1] at HA1
      have HA1 : Hid (∃ v' W', (Builtin.append_ #[38, 38] 38 #[x.vv fl true, .slice (some ⟨wr.heap.size, 0, none⟩) 1 1]).run Tryd.prog (wr.alloc (.cells #[.int .i64 (-3)] 3)) = .ok v' W' ∧ ∃ a' c', v' = .slice a' ((mbs fl x.h).length + 1) c' ∧ Oi N (cs i true) (x.vv fl true) W' ∧ wr.grownBy W' (x.vv fl true).ownBlock) := by
        obtain ⟨a', c', W', e1, e2, e3⟩ := HA1
        exact ⟨_, W', e1, a', c', rfl, e2, e3⟩
      have HS1 : Hid (∀ W', wr.grownBy W' (x.vv fl true).ownBlock → Oi N (cs i true) (x.vv fl true) W' → LW fl N N2 xs (.slice (some ⟨gl, 0, none⟩) xs.length lc) w w9 g Ng B3 cs W') := fun W' hg ho => hlw.same hx hg ho
      have HX := Hid.mk' hx
      have HL2 := Hid.mk' l2
      have HIL := Hid.mk' hlt
      have hm1 : x.vv fl true = .slice x.ma (mbs fl x.h).length x.mc := rfl
      rw [hm1] at HA1 HS1
      clear hx l1 l2 hsz hlw hlt hm1
      go_upto_region 24 with (at_builtin; refine wpl_app rfl _ _ 38 38 _ _ rfl rfl rfl HA1.out ?_; rintro v5 W5 ⟨a5, c5, rfl, on5, gr5⟩)
      have hlw5 := HS1.out W5 gr5 on5
      obtain ⟨gl2, el, c2', c3'⟩ := hlw5.at' HX.out
      cases el
      have hsz : N ≤ W5.heap.size := Nat.le_trans hlw5.n.2 hlw5.s
      have HA2 := oi_app_keep (hlw5.rows i x false HX.out).1 hsz (by have := HL2.out; omega) (-4) 38
      rw [HL2.out] at HA2
      have HA2 : Hid (∃ v' W', (Builtin.append_ #[38, 38] 38 #[x.vv fl false, .slice (some ⟨W5.heap.size, 0, none⟩) 1 1]).run Tryd.prog (W5.alloc (.cells #[.int .i64 (-4)] 3)) = .ok v' W' ∧ ∃ a' c', v' = .slice a' ((bks fl x.h).length + 1) c' ∧ Oi N (cs i false) (x.vv fl false) W' ∧ W5.grownBy W' (x.vv fl false).ownBlock) := by
        obtain ⟨a', c', W', e1, e2, e3⟩ := HA2
        exact ⟨_, W', e1, a', c', rfl, e2, e3⟩
      have HS2 : Hid (∀ W', W5.grownBy W' (x.vv fl false).ownBlock → Oi N (cs i false) (x.vv fl false) W' → LW fl N N2 xs (.slice (some ⟨gl, 0, none⟩) xs.length lc) w w9 g Ng B3 cs W') := fun W' hg ho => hlw5.same HX.out hg ho
      have hm2 : x.vv fl false = .slice x.ba (bks fl x.h).length x.bc := rfl
      rw [hm2] at HA2 HS2
      clear hsz hlw5 on5 gr5 c2 c3 HA1 HS1 hm2
      go_wp2_with (at_builtin; refine wpl_app rfl _ _ 38 38 _ _ rfl rfl rfl HA2.out ?_; rintro v6 W6 ⟨a6, c6, rfl, on6, gr6⟩)
      have HLW6 := Hid.mk' (HS2.out W6 gr6 on6)
      have HRI : Hid (i + 1 ≤ r + ((mbs fl x.h).length + 1) + ((bks fl x.h).length + 1) ∧ r + ((mbs fl x.h).length + 1) + ((bks fl x.h).length + 1) ≤ 4096 * (i + 1)) := (by omega : _ ∧ _)
      go_roundw
      case rel => exact ⟨i + 1, r + ((mbs fl x.h).length + 1) + ((bks fl x.h).length + 1), by go_num, by go_num, HIL.out, HRI.out.1, HRI.out.2, HLW6.out⟩
      case measure => have := HIL.out; simp [intOf]; omega
    · have hii : ¬ (i : Int) < (xs.length : Int) := by omega
      have hrm : ¬ (r : Int) < (xs.length : Int) := by omega
      have HLE := Hid.mk' hlw
      clear hlw hlt
      go_upto_region 27 with fail
      exact lf_check w w9 g Ng B3 N N2 fl xs ys la qa lc qc cs _ HFI HEQ HWT HML HLE HFL _ _ (by assumption) (by assumption) _ _ _ _ _ _ _ _ _ _ _ _ _ _ _ _ _ _ _ _ _ _ _ _ _ _ _ _ _ _ _ _ _ _ _ _ _ _ _ _ _ _ _ _ _ _ _ _ _ _ _ _ _ _ _ _ _ _ _ _ _ _ _ _ _ _ _ _ _ _ _ _ _ _ _ _ _ _ _ _ _ _ _ _ _ _ _ _ _ _ _ _ _ _ _ _ _ _ _ _ _ _ _ _ _ _ _ _ _ _ _ _ _ _ _ _ _ _ _ _ _ _ _ _ _ _ _ _ _ _ _ _ _ _ _ _ _ _ _ _ _ _ _ _ _ _ _ _ _ _ _ _ _ _ _ _ _ _ _ _ _ _ _ _ _ _ _ _ _ _ _ _ _ _ _ _ _ _ _ _ _ _ _ _ _ _ _ _ _ _ _ _ _ _ _
end Go.Proofs.YtgiokognngllcaaDoor
namespace Go.Proofs.YtgiokognngllcaaDoor
open Go.RowKit Go.Sort

set_option maxRecDepth 100000 in
set_option maxHeartbeats 8000000 in
theorem lf_write (w w9 : World) (g : Fn) (Ng B3 N N2 : Nat) (fl : List Is) (xs ys : List Lr) (la qa : Option Addr) (lc qc : Nat) (cs : Nat → Bool → List Int) (W0 : World)
    (HFI : Hid (∀ W, W.ownsRow Ng 52 5 (.slice g.ca g.code.length g.cc) g.code.length (g.code.flatMap Is.cells) → Below w.heap.size w W → Calls Tryd.prog 8 #[.agg #[.string g.name, .slice g.pa g.params.length g.pc, .int .i64 g.regs, .int .i64 g.words, .slice g.ca g.code.length g.cc]] W (FdP fl W)))
    (HEQ : Hid (xs.map (Lr.lo fl) = (fndZ fl).ls ∧ ys.map (Lr.lo fl) = (fndZ fl).ls)) (HWT : Hid (OwnR fl N2 ys (.slice qa ys.length qc) w9)) (HML : Hid (xs.length ≤ 1024 ∧ ∀ (i : Nat) (x : Lr) (s : Bool), xs[i]? = some x → x.ll fl s ≤ 1024))
    (HLW : Hid (LW fl N N2 xs (.slice la xs.length lc) w w9 g Ng B3 cs W0))
    (K1 K2 : Act → World → Prop) (hK1 : ∀ a W, (lfR (lfL lfA)).wp Tryd.prog (Exit.then K2 (bodyPost Tryd.prog Tryd.f3 fun e w' => e = .returned (.bool true) ∧ Below w.heap.size w w')) a W → K1 a W) (hK2 : ∀ a W, (lfR lfA).wp Tryd.prog (bodyPost Tryd.prog Tryd.f3 fun e w' => e = .returned (.bool true) ∧ Below w.heap.size w w') a W → K2 a W) (u0 u1 u2 u5 u6 u8 u9 u10 u11 u12 u13 u14 u15 u16 u17 u18 u19 u20 u21 u22 u23 u24 u25 u26 u27 u28 u29 u30 u31 u32 u33 u34 u35 u36 u37 u38 u39 u40 u41 u42 u43 u44 u45 u46 u47 u48 u49 u50 u51 u52 u53 u54 u55 u56 u57 u58 u59 u60 u61 u62 u63 u64 u65 u66 u67 u68 u69 u70 u71 u72 u73 u74 u75 u76 u77 u78 u79 u80 u81 u82 u83 u84 u85 u86 u87 u88 u89 u90 u91 u92 u93 u94 u95 u96 u97 u98 u99 u100 u101 u102 u103 u104 u105 u106 u107 u108 u109 u110 u111 u112 u113 u114 u115 u116 u117 u118 u119 u120 u121 u122 u123 u124 u125 u126 u127 u128 u129 u130 u131 u132 u133 u134 u135 u136 u137 u138 u139 u140 u141 u142 u143 u144 u145 u146 u147 u148 u149 u150 u151 u152 u153 u154 u155 u156 u157 u158 u159 u160 u161 u162 u163 u164 u165 u166 u167 u168 u169 u170 u171 u172 u173 u174 u175 u176 u177 u178 u179 u180 u181 u182 u183 u184 u185 u186 u187 u188 u189 u190 u191 u192 u193 u194 u195 u196 u197 : Value) :
    (lfL (lfL lfA)).wp Tryd.prog (Exit.then K1 (Exit.then K2 (bodyPost Tryd.prog Tryd.f3 fun e w' => e = .returned (.bool true) ∧ Below w.heap.size w w'))) { tmps := #[u0, u1, u2, .pointer (some ⟨B3, 0, none⟩), .slice la xs.length lc, u5, u6, .slice qa ys.length qc, u8, u9, u10, u11, u12, u13, u14, u15, u16, u17, u18, u19, u20, u21, u22, u23, u24, u25, u26, u27, u28, u29, u30, u31, u32, u33, u34, u35, u36, u37, u38, u39, u40, u41, u42, u43, u44, u45, u46, u47, u48, u49, u50, u51, u52, u53, u54, u55, u56, u57, u58, u59, u60, u61, u62, u63, u64, u65, u66, u67, u68, u69, u70, u71, u72, u73, u74, u75, u76, u77, u78, u79, u80, u81, u82, u83, u84, u85, u86, u87, u88, u89, u90, u91, u92, u93, u94, u95, u96, u97, u98, u99, u100, u101, u102, u103, u104, u105, u106, u107, u108, u109, u110, u111, u112, u113, u114, u115, u116, u117, u118, u119, u120, u121, u122, u123, u124, u125, u126, u127, u128, u129, u130, u131, u132, u133, u134, u135, u136, u137, u138, u139, u140, u141, u142, u143, u144, u145, u146, u147, u148, u149, u150, u151, u152, u153, u154, u155, u156, u157, u158, u159, u160, u161, u162, u163, u164, u165, u166, u167, u168, u169, u170, u171, u172, u173, u174, u175, u176, u177, u178, u179, u180, u181, u182, u183, u184, u185, u186, u187, u188, u189, u190, u191, u192, u193, u194, u195, u196, u197], defers := [] } W0 := by
  generalize hq : (bodyPost Tryd.prog Tryd.f3 fun e w' => e = .returned (.bool true) ∧ Below w.heap.size w w') = Q at hK1 hK2 ⊢
  simp only [lfA, Tryd.f3, Option.getD_some, lfR, lfL] at hK1 hK2 ⊢
  subst hq
  go_wp2_with fail
  go_loopw [12] (fun t12 wr => ∃ (i : Nat) (cs : Nat → Bool → List Int), t12 = .int .i64 (i : Int) ∧ i ≤ xs.length ∧ LW fl N N2 xs (.slice la xs.length lc) w w9 g Ng B3 cs wr ∧ ∀ k, k < i → Fl1 cs k true ∧ Fl1 cs k false) (fun t12 _ => xs.length - (intOf t12).toNat)
  case atStart => exact ⟨0, cs, rfl, Nat.zero_le _, HLW.out, fun k h => absurd h (Nat.not_lt_zero _)⟩
  case round =>
    clear HLW
    obtain ⟨i, cs, rfl, hi, hlw, hfk⟩ := hrel
    have hmm := HML.out.1
    by_cases hlt : i < xs.length
    · have hii : (i : Int) < (xs.length : Int) := by omega
      obtain ⟨x, hx⟩ : ∃ x, xs[i]? = some x := ⟨_, List.getElem?_eq_getElem hlt⟩
      have HX := Hid.mk' hx
      have HIL := Hid.mk' hlt
      obtain ⟨gl, rfl, c2, c3⟩ := hlw.at' hx
      have HLW := Hid.mk' hlw
      have HFK := Hid.mk' hfk
      clear hx hlt hlw hfk
      go_wp2_with fail
      clear c2 c3
      go_loopw [13] (fun t13 wr => ∃ (j : Nat) (cs : Nat → Bool → List Int), t13 = .int .i64 (j : Int) ∧ j ≤ (mbs fl x.h).length ∧ LW fl N N2 xs (.slice (some ⟨gl, 0, none⟩) xs.length lc) w w9 g Ng B3 cs wr ∧ (∀ k, k < i → Fl1 cs k true ∧ Fl1 cs k false) ∧ (∀ v ∈ (cs i true).take j, v = 1000 + (i : Int))) (fun t13 _ => (mbs fl x.h).length - (intOf t13).toNat)
      case atStart => exact ⟨0, cs, rfl, Nat.zero_le _, HLW.out, HFK.out, fun v hv => by simp at hv⟩
      case round =>
        clear HLW HFK
        obtain ⟨j, cs, rfl, hj, hlw, hfk, htk⟩ := hrel
        have hnn : (mbs fl x.h).length ≤ 1024 := by
          have h := HML.out.2 i x true HX.out
          unfold Lr.ll at h
          simpa using h
        have hmm := HML.out.1
        have hil := HIL.out
        obtain ⟨gl2, el, c2, c3⟩ := hlw.at' HX.out
        cases el
        have hln := (hlw.rows i x true HX.out).2
        unfold Lr.ll at hln
        simp only [if_true] at hln
        by_cases hjl : j < (mbs fl x.h).length
        · have hji : (j : Int) < ((mbs fl x.h).length : Int) := by omega
          obtain ⟨gb, z, hma, hz, d0, f0⟩ := hlw.el (s := true) HX.out (a := x.ma) (n := (mbs fl x.h).length) (c := x.mc) rfl (show j < (mbs fl x.h).length from hjl)
          have hvv : x.vv fl true = .slice (some ⟨gb, 0, none⟩) (mbs fl x.h).length x.mc := by
            rw [← hma]; rfl
          rw [hma] at c2
          obtain ⟨V, hV⟩ : ∃ V : Int, V = 1000 + (i : Int) := ⟨_, rfl⟩
          have HPU := Hid.mk' (hlw.put HX.out hvv j V)
          have HKK : Hid (∀ k, k < i → Fl1 (fun k t => if k = i ∧ t = true then (cs i true).set j V else cs k t) k true ∧ Fl1 (fun k t => if k = i ∧ t = true then (cs i true).set j V else cs k t) k false) := fun k hk => by
            have h := hfk k hk
            have hne : k ≠ i := by omega
            unfold Fl1 at *
            simpa [hne] using h
          have HNX : Hid (∀ v ∈ ((fun k t => if k = i ∧ t = true then (cs i true).set j V else cs k t) i true).take (j + 1), v = 1000 + (i : Int)) := fun v hv => by
            simp only [and_self, if_true] at hv
            rcases take_set (by omega) V v hv with h | h
            · exact htk v h
            · rw [h]; exact hV
          have q1 : wrap64 (1000 + (i : Int)) = V := by unfold wrap64; omega
          have q2 : 1000 + (i : Int) = V := hV.symm
          have HJL := Hid.mk' hjl
          clear hV hma hvv hz hln hlw hfk htk hjl
          go_wp2_with fail
          go_roundw
          case rel => exact ⟨j + 1, _, by go_num, HJL.out, HPU.out, HKK.out, HNX.out⟩
          case measure => have := HJL.out; simp [intOf]; omega
        · have hji : ¬ (j : Int) < ((mbs fl x.h).length : Int) := by omega
          have HFT : Hid (Fl1 cs i true) := by
            intro v hv
            rw [List.take_of_length_le (by omega)] at htk
            simpa using htk v hv
          have HLW := Hid.mk' hlw
          have HFK := Hid.mk' hfk
          clear hln htk hlw hfk hj hjl
          go_wp2_with fail
          clear c2 c3 hji hnn
          go_loopw [14] (fun t14 wr => ∃ (j : Nat) (cs : Nat → Bool → List Int), t14 = .int .i64 (j : Int) ∧ j ≤ (bks fl x.h).length ∧ LW fl N N2 xs (.slice (some ⟨gl, 0, none⟩) xs.length lc) w w9 g Ng B3 cs wr ∧ (∀ k, k < i → Fl1 cs k true ∧ Fl1 cs k false) ∧ Fl1 cs i true ∧ (∀ v ∈ (cs i false).take j, v = 2000 + (i : Int))) (fun t14 _ => (bks fl x.h).length - (intOf t14).toNat)
          case atStart => exact ⟨0, cs, rfl, Nat.zero_le _, HLW.out, HFK.out, HFT.out, fun v hv => by simp at hv⟩
          case round =>
            clear HLW HFK HFT
            obtain ⟨j, cs, rfl, hj, hlw, hfk, hft, htk⟩ := hrel
            have hnn : (bks fl x.h).length ≤ 1024 := by
              have h := HML.out.2 i x false HX.out
              unfold Lr.ll at h
              simpa using h
            have hmm := HML.out.1
            have hil := HIL.out
            obtain ⟨gl2, el, c2, c3⟩ := hlw.at' HX.out
            cases el
            have hln := (hlw.rows i x false HX.out).2
            unfold Lr.ll at hln
            simp only [Bool.false_eq_true, if_false] at hln
            by_cases hjl : j < (bks fl x.h).length
            · have hji : (j : Int) < ((bks fl x.h).length : Int) := by omega
              obtain ⟨gb, z, hma, hz, d0, f0⟩ := hlw.el (s := false) HX.out (a := x.ba) (n := (bks fl x.h).length) (c := x.bc) rfl (show j < (bks fl x.h).length from hjl)
              have hvv : x.vv fl false = .slice (some ⟨gb, 0, none⟩) (bks fl x.h).length x.bc := by
                rw [← hma]; rfl
              rw [hma] at c3
              obtain ⟨V, hV⟩ : ∃ V : Int, V = 2000 + (i : Int) := ⟨_, rfl⟩
              have HPU := Hid.mk' (hlw.put HX.out hvv j V)
              have HKK : Hid (∀ k, k < i → Fl1 (fun k t => if k = i ∧ t = false then (cs i false).set j V else cs k t) k true ∧ Fl1 (fun k t => if k = i ∧ t = false then (cs i false).set j V else cs k t) k false) := fun k hk => by
                have h := hfk k hk
                have hne : k ≠ i := by omega
                unfold Fl1 at *
                simpa [hne] using h
              have HTT : Hid (Fl1 (fun k t => if k = i ∧ t = false then (cs i false).set j V else cs k t) i true) := by
                refine Hid.mk' ?_
                unfold Fl1 at *
                simpa using hft
              have HNX : Hid (∀ v ∈ ((fun k t => if k = i ∧ t = false then (cs i false).set j V else cs k t) i false).take (j + 1), v = 2000 + (i : Int)) := fun v hv => by
                simp only [and_self, if_true] at hv
                rcases take_set (by omega) V v hv with h | h
                · exact htk v h
                · rw [h]; exact hV
              have q1 : wrap64 (2000 + (i : Int)) = V := by unfold wrap64; omega
              have q2 : 2000 + (i : Int) = V := hV.symm
              have HJL := Hid.mk' hjl
              clear hV hma hvv hz hln hlw hfk htk hjl
              go_wp2_with fail
              go_roundw
              case rel => exact ⟨j + 1, _, by go_num, HJL.out, HPU.out, HKK.out, HTT.out, HNX.out⟩
              case measure => have := HJL.out; simp [intOf]; omega
            · have hji : ¬ (j : Int) < ((bks fl x.h).length : Int) := by omega
              have HFZ : Hid (∀ k, k < i + 1 → Fl1 cs k true ∧ Fl1 cs k false) := fun k hk => by
                by_cases e : k = i
                · subst e
                  refine ⟨hft, fun v hv => ?_⟩
                  rw [List.take_of_length_le (by omega)] at htk
                  simpa using htk v hv
                · exact hfk k (by omega)
              have HLW := Hid.mk' hlw
              clear hln htk hlw hfk hft hj hjl
              go_wp2_with fail
              go_roundw
              case rel => exact ⟨i + 1, cs, by go_num, HIL.out, HLW.out, HFZ.out⟩
              case measure => simp [intOf]; omega
    · have hii : ¬ (i : Int) < (xs.length : Int) := by omega
      have HLE := Hid.mk' hlw
      have HFL : Hid (∀ k, k < xs.length → Fl1 cs k true ∧ Fl1 cs k false) := fun k hk => hfk k (by omega)
      clear hlw hfk hlt
      go_upto_region 19 with fail
      exact lf_room w w9 g Ng B3 N N2 fl xs ys la qa lc qc cs _ HFI HEQ HWT HML HLE HFL _ (by assumption) _ _ _ _ _ _ _ _ _ _ _ _ _ _ _ _ _ _ _ _ _ _ _ _ _ _ _ _ _ _ _ _ _ _ _ _ _ _ _ _ _ _ _ _ _ _ _ _ _ _ _ _ _ _ _ _ _ _ _ _ _ _ _ _ _ _ _ _ _ _ _ _ _ _ _ _ _ _ _ _ _ _ _ _ _ _ _ _ _ _ _ _ _ _ _ _ _ _ _ _ _ _ _ _ _ _ _ _ _ _ _ _ _ _ _ _ _ _ _ _ _ _ _ _ _ _ _ _ _ _ _ _ _ _ _ _ _ _ _ _ _ _ _ _ _ _ _ _ _ _ _ _ _ _ _ _ _ _ _ _ _ _ _ _ _ _ _ _ _ _ _ _ _ _ _ _ _ _ _ _ _ _ _ _ _ _ _ _ _ _ _ _ _ _ _
end Go.Proofs.YtgiokognngllcaaDoor
