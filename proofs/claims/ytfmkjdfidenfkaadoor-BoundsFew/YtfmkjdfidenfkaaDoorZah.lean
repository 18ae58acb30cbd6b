/- Spans: the small functions. Lists that lie in memory; raw data read at their types. Spans: floor and roof among thresholds. -/
import Derived.Test.YtfmkjdfidenfkaaDoorZag
import Derived.Test.YtfmkjdfidenfkaaDoorRows
import Derived.WalkSpells
import Derived.WalkLawsBesides
import Derived.ProofKit
import Derived.Laws.StructEq
import Derived.Deep.RegionHeld3
import Derived.BigQuiet
import Derived.Lib.QuietBelow
import Derived.Deep.Cut
import Derived.Deep.CutRange
import Derived.OpenShut
import Derived.Deep.Slices
namespace Go.Proofs.YtfmkjdfidenfkaaDoor.S8
open Go.RowKit Go.Lib Go.Sort

theorem Hid.mk' {p : Prop} (h : p) : Hid p := h
theorem beq_no {a b : Int} (h : a ≠ b) : (a == b) = false := by rw [beq_eq_false_iff_ne]; exact h
theorem Below.on {A B C : World} (h : Below A.heap.size A B) (k : Below B.heap.size B C) : Below A.heap.size A C := h.trans (k.mono h.size)
theorem Below.one {A B : World} (h : Below A.heap.size A B) (o : Obj) : Below A.heap.size A (B.alloc o) := h.alloc h.size o
/-- A span as a value. -/
abbrev sv (a : Sp) : Value := .agg #[.int .i64 a.1, .int .i64 a.2]

/-- A block holds a span. -/
def At (W : World) (g : Nat) (a : Sp) : Prop := W.heap[g]? = some (.cells #[.int .i64 a.1, .int .i64 a.2] 54)
theorem At.lt {W : World} {g : Nat} {a : Sp} (h : At W g a) : g < W.heap.size := (Array.getElem?_eq_some_iff.1 h).1
theorem At.stay {W W' : World} {g : Nat} {a : Sp} (h : At W g a) (hb : Below W.heap.size W W') : At W' g a := (hb.block _ h.lt).trans h
theorem At.on {W W' : World} {g : Nat} {a : Sp} (h : At W g a) (o : Obj) (hb : Below W.heap.size W W') : At (W'.alloc o) g a := h.stay (Below.one hb o)
theorem At.more {W : World} {g : Nat} {a : Sp} (h : At W g a) (o : Obj) : At (W.alloc o) g a := h.stay (Below.one (Below.refl _ _) o)
theorem At.c0 {W : World} {g : Nat} {a : Sp} (h : At W g a) : W.cell? ⟨g, 0, none⟩ = some (.int .i64 a.1) := by rw [Lib.cell_of_heap h]; rfl
theorem At.c1 {W : World} {g : Nat} {a : Sp} (h : At W g a) : W.cell? ⟨g, 1, none⟩ = some (.int .i64 a.2) := by rw [Lib.cell_of_heap h]; rfl
theorem At.f0 {W : World} {g : Nat} {a : Sp} (h : At W g a) : W.frozen? ⟨g, 0, none⟩ = false := Lib.frozen_of_heap h _
theorem At.f1 {W : World} {g : Nat} {a : Sp} (h : At W g a) : W.frozen? ⟨g, 1, none⟩ = false := Lib.frozen_of_heap h _
theorem At.new (W : World) (a : Sp) : At (W.alloc (.cells #[.int .i64 a.1, .int .i64 a.2] 54)) W.heap.size a := heap_alloc_new _ _
theorem At.r0 {W : World} {g : Nat} {a : Sp} (h : At W g a) : ∀ d os, (grow (redrawn W d) os).cell? ⟨g, 0, none⟩ = some (.int .i64 a.1) := fun d os => cell_regrown h.c0 d os
theorem At.r1 {W : World} {g : Nat} {a : Sp} (h : At W g a) : ∀ d os, (grow (redrawn W d) os).cell? ⟨g, 1, none⟩ = some (.int .i64 a.2) := fun d os => cell_regrown h.c1 d os
theorem At.new1 (W : World) (a : Sp) (o : Obj) : At ((W.alloc o).alloc (.cells #[.int .i64 a.1, .int .i64 a.2] 54)) (W.heap.size + 1) a := by
  have := At.new (W.alloc o) a
  rwa [World.size_alloc] at this
theorem At.new2 (W : World) (a : Sp) (o p : Obj) : At (((W.alloc o).alloc p).alloc (.cells #[.int .i64 a.1, .int .i64 a.2] 54)) (W.heap.size + 1 + 1) a := by
  have := At.new ((W.alloc o).alloc p) a
  rwa [World.size_alloc, World.size_alloc] at this
theorem At.new3 (W : World) (a : Sp) (o p q : Obj) : At ((((W.alloc o).alloc p).alloc q).alloc (.cells #[.int .i64 a.1, .int .i64 a.2] 54)) (W.heap.size + 1 + 1 + 1) a := by
  have := At.new (((W.alloc o).alloc p).alloc q) a
  rwa [World.size_alloc, World.size_alloc, World.size_alloc] at this

theorem At.put0 {W : World} {g : Nat} {a : Sp} (h : At W g a) (x : Int) : At (W.setCell ⟨g, 0, none⟩ (.int .i64 x)) g (x, a.2) := by
  have := heap_setCell_same W g 0 _ _ (.int .i64 x) h
  simpa [At] using this
theorem At.put1 {W : World} {g : Nat} {a : Sp} (h : At W g a) (x : Int) : At (W.setCell ⟨g, 1, none⟩ (.int .i64 x)) g (a.1, x) := by
  have := heap_setCell_same W g 1 _ _ (.int .i64 x) h
  simpa [At] using this
theorem At.put {W : World} {g : Nat} {a : Sp} (h : At W g a) (b : Sp) : At ((W.setCell ⟨g, 0, none⟩ (.int .i64 b.1)).setCell ⟨g, 1, none⟩ (.int .i64 b.2)) g b := (h.put0 b.1).put1 b.2
theorem At.ne1 {W : World} {g k : Nat} {a : Sp} (h : At W g a) (hk : g ≠ k) (i : Nat) (x : Value) : At (W.setCell ⟨k, i, none⟩ x) g a := (heap_setCell_other W ⟨k, i, none⟩ g x hk).trans h
theorem At.ne {W : World} {g k : Nat} {a : Sp} (h : At W g a) (hk : g ≠ k) (x y : Value) : At ((W.setCell ⟨k, 0, none⟩ x).setCell ⟨k, 1, none⟩ y) g a := (h.ne1 hk 0 x).ne1 hk 1 y
theorem Below.put {N : Nat} {A B : World} (h : Below N A B) {k : Nat} (hk : N ≤ k) (x y : Value) : Below N A ((B.setCell ⟨k, 0, none⟩ x).setCell ⟨k, 1, none⟩ y) := (h.setCell hk x).setCell hk y
theorem empty_any (a : Sp) (w : World) : Calls Tryd.prog 91 #[sv a] w fun e w' => e = .returned (.bool (emB a)) ∧ Below w.heap.size w w' := by
  have hb := fun (o1 : Obj) => (Below.one (Below.refl _ w) o1 : Below w.heap.size w _)
  obtain ⟨l, h⟩ := a
  have he : emB (l, h) = decide (l > h) := rfl
  rw [he]
  go_enter Tryd.func91, Tryd.ntmps91
  go_wp2
  go_ret
  exact ⟨rfl, hb _⟩
theorem single_any (a : Sp) (w : World) : Calls Tryd.prog 102 #[sv a] w fun e w' => e = .returned (.bool (sgB a)) ∧ Below w.heap.size w w' := by
  have hb := fun (o1 : Obj) => (Below.one (Below.refl _ w) o1 : Below w.heap.size w _)
  obtain ⟨l, h⟩ := a
  have he : sgB (l, h) = (l == h) := rfl
  rw [he]
  go_enter Tryd.func102, Tryd.ntmps102
  go_wp2
  go_ret
  exact ⟨rfl, hb _⟩
theorem point_any (n : Int) (w : World) : Calls Tryd.prog 100 #[.int .i64 n] w fun e w' => e = .returned (sv (n, n)) ∧ Below w.heap.size w w' := by
  have hb := fun (o1 : Obj) => (Below.one (Below.refl _ w) o1 : Below w.heap.size w _)
  go_enter Tryd.func100, Tryd.ntmps100
  go_wp2
  exact bodyPost_ret (v := sv (n, n)) (by simp [results, Tryd.results100, go_sem]) rfl ⟨rfl, hb _⟩
theorem nothing_any (w : World) : Calls Tryd.prog 107 #[] w fun e w' => e = .returned (sv (1, 0)) ∧ Below w.heap.size w w' := by
  have hb := fun (o1 : Obj) => (Below.one (Below.refl _ w) o1 : Below w.heap.size w _)
  go_enter Tryd.func107, Tryd.ntmps107
  go_wp2
  exact bodyPost_ret (v := sv (1, 0)) (by simp [results, Tryd.results107, go_sem]) rfl ⟨rfl, hb _⟩
theorem all_any (w : World) : Calls Tryd.prog 84 #[] w fun e w' => e = .returned (sv allS) ∧ Below w.heap.size w w' := by
  have hb := fun (o1 : Obj) => (Below.one (Below.refl _ w) o1 : Below w.heap.size w _)
  go_enter Tryd.func84, Tryd.ntmps84
  go_wp2
  exact bodyPost_ret (v := sv allS) (by simp [results, Tryd.results84, go_sem, allS]) rfl ⟨rfl, hb _⟩
theorem has_any (a : Sp) (n : Int) (w : World) : Calls Tryd.prog 103 #[sv a, .int .i64 n] w fun e w' => e = .returned (.bool (hasB a n)) ∧ Below w.heap.size w w' := by
  have hb := fun (o1 : Obj) => (Below.one (Below.refl _ w) o1 : Below w.heap.size w _)
  obtain ⟨l, h⟩ := a
  by_cases h1 : l ≤ n
  · have he : hasB (l, h) n = decide (n ≤ h) := by unfold hasB; simp [h1]
    rw [he]
    go_enter Tryd.func103, Tryd.ntmps103
    go_wp2
    go_ret
    exact ⟨rfl, hb _⟩
  · have he : hasB (l, h) n = false := by unfold hasB; simp [h1]
    rw [he]
    go_enter Tryd.func103, Tryd.ntmps103
    go_wp2
    go_ret
    exact ⟨rfl, hb _⟩
theorem truth_any (y n : Bool) (w : World) : Calls Tryd.prog 101 #[.bool y, .bool n] w fun e w' => e = .returned (sv (tru y n)) ∧ Below w.heap.size w w' := by
  have hb := fun (o1 : Obj) => (Below.one (Below.refl _ w) o1 : Below w.heap.size w _)
  have HP : Hid (∀ n w, Calls Tryd.prog 100 #[.int .i64 n] w fun e w' => e = .returned (sv (n, n)) ∧ Below w.heap.size w w') := point_any
  cases y
  · cases n
    · go_enter Tryd.func101, Tryd.ntmps101
      go_wp2
      exact bodyPost_ret (v := sv (0, 1)) (by simp [results, Tryd.results101, go_sem]) rfl ⟨rfl, hb _⟩
    · go_enter Tryd.func101, Tryd.ntmps101
      go_wp2_with (go_at_call 100; refine (HP.out _ _).mono ?_; rintro e w1 ⟨rfl, hb1⟩; have A := At.stay (At.new w (0, 0)) hb1; have z0 := A.c0; have z1 := A.c1; have z2 := A.f0; have z3 := A.f1)
      exact bodyPost_ret (v := sv (0, 0)) (by simp [results, Tryd.results101, go_sem, *]) rfl ⟨rfl, ((Below.on (hb _) hb1).setCell (by simp) _).setCell (by simp) _⟩
  · go_enter Tryd.func101, Tryd.ntmps101
    go_wp2_with (go_at_call 100; refine (HP.out _ _).mono ?_; rintro e w1 ⟨rfl, hb1⟩; have A := At.stay (At.new w (0, 0)) hb1; have z0 := A.c0; have z1 := A.c1; have z2 := A.f0; have z3 := A.f1)
    exact bodyPost_ret (v := sv (1, 1)) (by simp [results, Tryd.results101, go_sem, *]) rfl ⟨rfl, ((Below.on (hb _) hb1).setCell (by simp) _).setCell (by simp) _⟩
end Go.Proofs.YtfmkjdfidenfkaaDoor.S8
namespace Go.Proofs.YtfmkjdfidenfkaaDoor.S8
open Go.ChangeShapes Go.WideShapes Go.RowKit

/-- A list's elements, of so many cells each, lie at an address. -/
def RowIn (W : World) (a : Option Addr) (sz : Nat) (rows : List (List Value)) : Prop :=
  ∀ i cs, rows[i]? = some cs → ∃ b o, a = some ⟨b, o, none⟩ ∧ ∀ j v, cs[j]? = some v → W.cell? ⟨b, o + (i * sz + j), none⟩ = some v
theorem lt_of_cell {W : World} {p : Addr} {v : Value} (h : W.cell? p = some v) : p.block < W.heap.size := by
  by_cases hlt : p.block < W.heap.size
  · exact hlt
  · unfold World.cell? at h
    rw [Array.getElem?_eq_none (by omega)] at h
    cases h
theorem RowIn.stay {W W' : World} {a : Option Addr} {sz : Nat} {rows : List (List Value)} (h : RowIn W a sz rows) (hb : Below W.heap.size W W') : RowIn W' a sz rows := fun i cs hi => by
  obtain ⟨b, o, e, hc⟩ := h i cs hi
  exact ⟨b, o, e, fun j v hj => by have := hc j v hj; rw [hb.cell (lt_of_cell this)]; exact this⟩
/-- A list of numbers lies at an address. -/
def Ths (W : World) (a : Option Addr) (ts : List Int) : Prop := RowIn W a 1 (ts.map fun t => [.int .i64 t])
theorem Ths.stay {W W' : World} {a : Option Addr} {ts : List Int} (h : Ths W a ts) (hb : Below W.heap.size W W') : Ths W' a ts := RowIn.stay h hb
theorem Ths.cell {W : World} {a : Option Addr} {ts : List Int} (h : Ths W a ts) {k : Nat} {t : Int} (hk : ts[k]? = some t) : ∃ b o, a = some ⟨b, o, none⟩ ∧ W.cell? ⟨b, o + k, none⟩ = some (.int .i64 t) := by
  obtain ⟨b, o, e, hc⟩ := h k [.int .i64 t] (by simp [hk])
  exact ⟨b, o, e, by simpa using hc 0 _ rfl⟩

theorem spot_none {w : World} {a : Addr} {v : Value} (h : w.cell? a = some v) : a = ⟨a.block, a.off, none⟩ := by
  obtain ⟨b, o, s⟩ := a
  cases s with
  | none => rfl
  | some s =>
    unfold World.cell? at h
    split at h <;> simp at h

theorem add_spot {a : Addr} {n j : Nat} {w : World} {v : Value} (h : w.cell? ((a.add n).add j) = some v) (h0 : a.spot = none) : w.cell? ⟨a.block, a.off + (n + j), none⟩ = some v := by
  have e : (a.add n).add j = ⟨a.block, a.off + (n + j), none⟩ := by
    rw [Go.Deep.add_add]
    unfold Addr.add
    obtain ⟨b, o, s⟩ := a
    simp only at h0
    subst h0
    split
    · rename_i h; simp [h]
    · rfl
  rw [← e]; exact h

def Small {H : Type} (P : Program) (t : TypeId) (d : DataW H) : Prop := ∀ z ∈ d.weights P t, z ≤ 140737488351232

theorem weightsAll_mem {H : Type} {P : Program} {e : TypeId} {l : List (DataW H)} {d : DataW H} (h : d ∈ l) {z : Nat} (hz : z ∈ d.weights P e) : z ∈ DataW.weightsAll P e l := by
  induction l with
  | nil => cases h
  | cons y r ih =>
    rw [DataW.weightsAll, List.mem_append]
    rcases List.mem_cons.1 h with rfl | h
    · exact Or.inl hz
    · exact Or.inr (ih h)
theorem weightsEach_mem {H : Type} {P : Program} : ∀ {ts : List TypeId} {ds : List (DataW H)} {i : Nat} {t : TypeId} {d : DataW H}, ts[i]? = some t → ds[i]? = some d → ∀ {z : Nat}, z ∈ d.weights P t → z ∈ DataW.weightsEach P ts ds
  | [], _, _, _, _, h, _, _, _ => by simp at h
  | _ :: _, [], _, _, _, _, h, _, _ => by simp at h
  | t :: ts, d :: ds, 0, _, _, h1, h2, z, hz => by
    simp at h1 h2; subst h1 h2
    rw [DataW.weightsEach, List.mem_append]; exact Or.inl hz
  | t :: ts, d :: ds, i + 1, _, _, h1, h2, z, hz => by
    rw [DataW.weightsEach, List.mem_append]
    exact Or.inr (weightsEach_mem (ts := ts) (ds := ds) (i := i) (by simpa using h1) (by simpa using h2) hz)

/-- A field of a struct: what it reads as, and that it is small. -/
theorem open_field {H : Type} {enc : TypeId × Value → H} {P : Program} {w : World} {held : Bool} {t : TypeId} {fs : Array Field} {fuel : Nat} {cs : List Value} {x : DataW H × List MemPlace}
    (ht : P.underlying t = some (.struct fs)) (h : DataW.trod enc P w 0 (fun _ => true) held fuel t cs = some x) (hs : Small P t x.1) :
    ∃ n, fuel = n + 1 ∧ cs.length = P.cellsOf t ∧ ∀ (i : Nat) (f : Field), fs[i]? = some f → ∃ y, DataW.trod enc P w 0 (fun _ => true) held n f.type ((cs.drop f.offset).take (P.cellsOf f.type)) = some y ∧ Small P f.type y.1 := by
  obtain ⟨xs, n, hn, rfl, hl, hlen, hf⟩ := DataW.trod_struct ht h
  refine ⟨n, hn, hl, fun i f hi => ?_⟩
  have hlt : i < xs.length := by rw [hlen]; exact (Array.getElem?_eq_some_iff.1 hi).1
  refine ⟨xs[i], ?_, fun z hz => hs z ?_⟩
  · rw [hf i f hi, List.getElem?_eq_getElem hlt]
  · rw [DataW.weights]; simp only [ht]
    refine weightsEach_mem (i := i) (t := f.type) (d := xs[i].1) ?_ ?_ hz
    · simp [hi]
    · simp [List.getElem?_eq_getElem hlt]

/-- A list of whatever elements. -/
theorem open_rows {H : Type} {enc : TypeId × Value → H} {P : Program} {w : World} {held : Bool} {t e : TypeId} {k B fuel : Nat} {cs : List Value} {x : DataW H × List MemPlace} {α : Type} [Inhabited α] {cells : α → List Value} {In : α → Prop}
    (ht : P.underlying t = some (.slice e)) (hk : P.cellsOf e = k) (hk0 : 0 < k) (hB : P.bytesOf e = B)
    (el : ∀ m cs y, m < fuel → DataW.trod enc P w 0 (fun _ => true) held m e cs = some y → Small P e y.1 → ∃ z : α, cs = cells z ∧ In z)
    (h : DataW.trod enc P w 0 (fun _ => true) held fuel t cs = some x) (hs : Small P t x.1) :
    ∃ (a : Option Addr) (c : Nat) (l : List α), cs = [.slice a l.length c] ∧ l.length ≤ c ∧ c * B ≤ 140737488351232 ∧ (a = none → c = 0) ∧ RowIn w a k (l.map cells) ∧ ∀ y ∈ l, In y := by
  rcases DataW.trod_slice ht h with ⟨rfl, rfl⟩ | ⟨a, len, cap, elems, rest, n, hn, rfl, rfl, _, hl, _, hlen, hel, hsp, _⟩
  · exact ⟨none, 0, [], rfl, Nat.le_refl _, by simp, fun _ => rfl, fun i cs h => by simp at h, by simp⟩
  · have hw : ∀ z, z ∈ ((elems.map (·.1)).length + (rest.map (·.1)).length) * P.bytesOf e :: (DataW.weightsAll P e (elems.map (·.1)) ++ DataW.weightsAll P e (rest.map (·.1))) → z ≤ 140737488351232 := fun z hz => hs z (by rw [DataW.weights]; simp only [ht]; exact hz)
    obtain ⟨hr, _⟩ := hsp rfl
    have hcap := hw _ (List.mem_cons_self ..)
    rw [List.length_map, List.length_map, hlen, hr, show len + (cap - len) = cap by omega, hB] at hcap
    have hone : ∀ i, i < len → ∃ z : α, w.cells? 0 (a.add (i * k)) k = some (cells z) ∧ In z := fun i hi => by
      have h1 := hel i hi
      rw [hk, List.getElem?_eq_getElem (by omega)] at h1
      obtain ⟨cs', h2, h3⟩ := Option.bind_eq_some_iff.1 h1
      obtain ⟨z, rfl, hz⟩ := el n cs' _ (by omega) h3 (fun z hz => hw z (List.mem_cons_of_mem _ (List.mem_append_left _ (weightsAll_mem (List.mem_map_of_mem (List.getElem_mem _)) hz))))
      exact ⟨z, h2, hz⟩
    obtain ⟨f, hf⟩ := Go.Deep.choose_lt hone
    refine ⟨some a, cap, (List.range len).map f, by simp, by simpa using hl, hcap, fun h => by simp at h, fun i cs hi => ?_, fun y hy => ?_⟩
    · rw [List.getElem?_map, List.getElem?_map, Option.map_map, Option.map_eq_some_iff] at hi
      obtain ⟨i', hi', rfl⟩ := hi
      obtain ⟨hlt, rfl⟩ := List.getElem?_eq_some_iff.1 hi'
      simp only [List.length_range] at hlt
      obtain ⟨h1, _⟩ := hf i hlt
      obtain ⟨_, hcl, hc⟩ := World.cells?_some h1
      obtain ⟨h01, _⟩ := hf 0 (by omega)
      obtain ⟨_, hcl0, hc0⟩ := World.cells?_some h01
      have hsp : a.spot = none := by
        have := hc0 0 hk0
        rw [List.getElem?_eq_getElem (by omega)] at this
        have := spot_none this
        simp [Addr.add] at this
        rw [this]
      refine ⟨a.block, a.off, by rw [show (⟨a.block, a.off, none⟩ : Addr) = a by obtain ⟨b, o, s⟩ := a; simp_all], fun j v hj => ?_⟩
      simp only [List.getElem_range, Function.comp] at hj ⊢
      have hjl := (List.getElem?_eq_some_iff.1 hj).1
      exact add_spot ((hc j (by omega)).trans hj) hsp
    · obtain ⟨i, hi, rfl⟩ := List.mem_map.1 hy
      exact (hf i (by simpa using hi)).2

theorem i64_of {n : Int} (h : (Lit.int .i64 n).wf = true) : Nm n := by
  simpa [Lit.wf, Nm, IntKind.min, IntKind.max, IntKind.signed, IntKind.bits] using h
end Go.Proofs.YtfmkjdfidenfkaaDoor.S8
namespace Go.Proofs.YtfmkjdfidenfkaaDoor.S8
open Go.RowKit Go.Lib Go.Sort

set_option maxHeartbeats 1000000 in
theorem floor_any (ts : List Int) (n : Int) (a : Option Addr) (c : Nat) (hl : ts.length < 4611686018427387904) (w : World) (ht : Ths w a ts) : Calls Tryd.prog 92 #[.slice a ts.length c, .int .i64 n] w fun e w' => e = .returned (.int .i64 (floorN ts n)) ∧ w' = w := by
  have HN : Hid (floorN ts n = flo n (ts.take ts.length) (-9223372036854775808)) := by show _ = _; rw [List.take_length]; rfl
  generalize floorN ts n = R at *
  generalize hL : ts.length = L at *
  go_enter Tryd.func92, Tryd.ntmps92
  go_wp2_with fail
  go_loopw [5, 10] (fun t5 t10 wr => wr = w ∧ ∃ k : Nat, k ≤ L ∧ t10 = .int .i64 k ∧ t5 = .int .i64 (flo n (ts.take k) (-9223372036854775808))) (fun _ t10 _ => L - (intOf t10).toNat)
  case atStart => exact ⟨rfl, 0, by omega, rfl, rfl⟩
  case round =>
    obtain ⟨rfl, k, hk, rfl, rfl⟩ := hrel
    by_cases hlt : k < L
    · have hli : (k : Int) < L := by omega
      obtain ⟨t, hg⟩ : ∃ t, ts[k]? = some t := ⟨_, List.getElem?_eq_getElem (by omega)⟩
      obtain ⟨b, o, rfl, hc⟩ := ht.cell hg
      have HS : Hid (flo n (ts.take (k + 1)) (-9223372036854775808) = if t ≤ n then max (flo n (ts.take k) (-9223372036854775808)) t else flo n (ts.take k) (-9223372036854775808)) := by
        show _ = _
        unfold flo
        rw [List.take_add_one, hg]
        simp only [Option.toList_some, List.foldl_append, List.foldl_cons, List.foldl_nil]
      generalize flo n (ts.take k) (-9223372036854775808) = s at *
      go_wp2_with fail
      all_goals go_roundw
      all_goals first
        | (refine ⟨trivial, k + 1, by omega, by go_num, ?_⟩; rw [HS.out]; refine congrArg (Value.int .i64) ?_; split <;> omega)
        | (simp [intOf]; omega)
    · have hkL : k = L := by omega
      subst hkL
      have hli : ¬ (k : Int) < k := by omega
      rw [← HN.out]
      go_wp2_with fail
      go_ret
      exact ⟨rfl, rfl⟩
set_option maxHeartbeats 1000000 in
theorem roof_any (ts : List Int) (n : Int) (a : Option Addr) (c : Nat) (hl : ts.length < 4611686018427387904) (w : World) (ht : Ths w a ts) : Calls Tryd.prog 93 #[.slice a ts.length c, .int .i64 n] w fun e w' => e = .returned (.int .i64 (roofN ts n)) ∧ w' = w := by
  have HN : Hid (roofN ts n = roo n (ts.take ts.length) (9223372036854775807)) := by show _ = _; rw [List.take_length]; rfl
  generalize roofN ts n = R at *
  generalize hL : ts.length = L at *
  go_enter Tryd.func93, Tryd.ntmps93
  go_wp2_with fail
  go_loopw [5, 10] (fun t5 t10 wr => wr = w ∧ ∃ k : Nat, k ≤ L ∧ t10 = .int .i64 k ∧ t5 = .int .i64 (roo n (ts.take k) (9223372036854775807))) (fun _ t10 _ => L - (intOf t10).toNat)
  case atStart => exact ⟨rfl, 0, by omega, rfl, rfl⟩
  case round =>
    obtain ⟨rfl, k, hk, rfl, rfl⟩ := hrel
    by_cases hlt : k < L
    · have hli : (k : Int) < L := by omega
      obtain ⟨t, hg⟩ : ∃ t, ts[k]? = some t := ⟨_, List.getElem?_eq_getElem (by omega)⟩
      obtain ⟨b, o, rfl, hc⟩ := ht.cell hg
      have HS : Hid (roo n (ts.take (k + 1)) (9223372036854775807) = if n ≤ t then min (roo n (ts.take k) (9223372036854775807)) t else roo n (ts.take k) (9223372036854775807)) := by
        show _ = _
        unfold roo
        rw [List.take_add_one, hg]
        simp only [Option.toList_some, List.foldl_append, List.foldl_cons, List.foldl_nil]
      generalize roo n (ts.take k) (9223372036854775807) = s at *
      go_wp2_with fail
      all_goals go_roundw
      all_goals first
        | (refine ⟨trivial, k + 1, by omega, by go_num, ?_⟩; rw [HS.out]; refine congrArg (Value.int .i64) ?_; split <;> omega)
        | (simp [intOf]; omega)
    · have hkL : k = L := by omega
      subst hkL
      have hli : ¬ (k : Int) < k := by omega
      rw [← HN.out]
      go_wp2_with fail
      go_ret
      exact ⟨rfl, rfl⟩
end Go.Proofs.YtfmkjdfidenfkaaDoor.S8
