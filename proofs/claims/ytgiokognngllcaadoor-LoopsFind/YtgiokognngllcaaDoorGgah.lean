/- What every row of this seat shares: functions opened. -/
import Derived.Test.YtgiokognngllcaaDoorRows
import Derived.Test.YtgiokognngllcaaDoorGgaa
import Derived.WalkKit
import Derived.ProofKit
import Derived.OpenShut
import Derived.ChangeMaps5
import Derived.Deep.Slices
import Derived.Deep.DeepHandedRow
import Derived.Lib.SmallJoins
import Derived.Carry
import Derived.Test.YtgiokognngllcaaDoorGgae
import Derived.Lib.BitFns
import Derived.Lib.TrailingZeros
namespace Go.Proofs.YtgiokognngllcaaDoor
open Go.ChangeShapes Go.WideShapes Go.ChangeAt Go.RowKit

instance : Inhabited Is := ⟨⟨0, 0, 0, 0, 0⟩⟩
instance : Inhabited Fn := ⟨⟨⟨#[]⟩, none, 0, [], 0, 0, none, 0, []⟩⟩
theorem ownK : ownKnob Tryd.prog.godebug = none := by kernel_rfl
theorem laidOutT : laidOutB Tryd.prog = true := by kernel_rfl
theorem spot_none {w : World} {a : Addr} {v : Value} (h : w.cell? a = some v) : a = ⟨a.block, a.off, none⟩ := by
  obtain ⟨b, o, s⟩ := a
  cases s with
  | none => rfl
  | some s =>
    unfold World.cell? at h
    split at h <;> simp at h

theorem add_spot {a : Addr} {n j : Nat} {w : World} {v : Value} (h : w.cell? ((a.add n).add j) = some v) (h0 : a.spot = none) : w.cell? ⟨a.block, a.off + (n + j), none⟩ = some v := by
  have e : (a.add n).add j = ⟨a.block, a.off + (n + j), none⟩ := by
    rw [Go.Deep.add_add]
    unfold Addr.add
    obtain ⟨b, o, s⟩ := a
    simp only at h0
    subst h0
    split
    · rename_i h; simp [h]
    · rfl
  rw [← e]; exact h

def Small {H : Type} (P : Program) (t : TypeId) (d : DataW H) : Prop := ∀ z ∈ d.weights P t, z ≤ 140737488351232

theorem weightsAll_mem {H : Type} {P : Program} {e : TypeId} {l : List (DataW H)} {d : DataW H} (h : d ∈ l) {z : Nat} (hz : z ∈ d.weights P e) : z ∈ DataW.weightsAll P e l := by
  induction l with
  | nil => cases h
  | cons y r ih =>
    rw [DataW.weightsAll, List.mem_append]
    rcases List.mem_cons.1 h with rfl | h
    · exact Or.inl hz
    · exact Or.inr (ih h)
theorem weightsEach_mem {H : Type} {P : Program} : ∀ {ts : List TypeId} {ds : List (DataW H)} {i : Nat} {t : TypeId} {d : DataW H}, ts[i]? = some t → ds[i]? = some d → ∀ {z : Nat}, z ∈ d.weights P t → z ∈ DataW.weightsEach P ts ds
  | [], _, _, _, _, h, _, _, _ => by simp at h
  | _ :: _, [], _, _, _, _, h, _, _ => by simp at h
  | t :: ts, d :: ds, 0, _, _, h1, h2, z, hz => by
    simp at h1 h2; subst h1 h2
    rw [DataW.weightsEach, List.mem_append]; exact Or.inl hz
  | t :: ts, d :: ds, i + 1, _, _, h1, h2, z, hz => by
    rw [DataW.weightsEach, List.mem_append]
    exact Or.inr (weightsEach_mem (ts := ts) (ds := ds) (i := i) (by simpa using h1) (by simpa using h2) hz)

/-- A field of a struct: what it reads as, and that it is small. -/
theorem open_field {H : Type} {enc : TypeId × Value → H} {P : Program} {w : World} {held : Bool} {t : TypeId} {fs : Array Field} {fuel : Nat} {cs : List Value} {x : DataW H × List MemPlace}
    (ht : P.underlying t = some (.struct fs)) (h : DataW.trod enc P w 0 (fun _ => true) held fuel t cs = some x) (hs : Small P t x.1) :
    ∃ n, fuel = n + 1 ∧ cs.length = P.cellsOf t ∧ ∀ (i : Nat) (f : Field), fs[i]? = some f → ∃ y, DataW.trod enc P w 0 (fun _ => true) held n f.type ((cs.drop f.offset).take (P.cellsOf f.type)) = some y ∧ Small P f.type y.1 := by
  obtain ⟨xs, n, hn, rfl, hl, hlen, hf⟩ := DataW.trod_struct ht h
  refine ⟨n, hn, hl, fun i f hi => ?_⟩
  have hlt : i < xs.length := by rw [hlen]; exact (Array.getElem?_eq_some_iff.1 hi).1
  refine ⟨xs[i], ?_, fun z hz => hs z ?_⟩
  · rw [hf i f hi, List.getElem?_eq_getElem hlt]
  · rw [DataW.weights]; simp only [ht]
    refine weightsEach_mem (i := i) (t := f.type) (d := xs[i].1) ?_ ?_ hz
    · simp [hi]
    · simp [List.getElem?_eq_getElem hlt]

/-- A list of whatever elements. -/
theorem open_rows {H : Type} {enc : TypeId × Value → H} {P : Program} {w : World} {held : Bool} {t e : TypeId} {k B fuel : Nat} {cs : List Value} {x : DataW H × List MemPlace} {α : Type} [Inhabited α] {cells : α → List Value} {In : α → Prop}
    (ht : P.underlying t = some (.slice e)) (hk : P.cellsOf e = k) (hk0 : 0 < k) (hB : P.bytesOf e = B)
    (el : ∀ m cs y, m < fuel → DataW.trod enc P w 0 (fun _ => true) held m e cs = some y → Small P e y.1 → ∃ z : α, cs = cells z ∧ In z)
    (h : DataW.trod enc P w 0 (fun _ => true) held fuel t cs = some x) (hs : Small P t x.1) :
    ∃ (a : Option Addr) (c : Nat) (l : List α), cs = [.slice a l.length c] ∧ l.length ≤ c ∧ c * B ≤ 140737488351232 ∧ (a = none → c = 0) ∧ RowIn w a k (l.map cells) ∧ ∀ y ∈ l, In y := by
  rcases DataW.trod_slice ht h with ⟨rfl, rfl⟩ | ⟨a, len, cap, elems, rest, n, hn, rfl, rfl, _, hl, _, hlen, hel, hsp, _⟩
  · exact ⟨none, 0, [], rfl, Nat.le_refl _, by simp, fun _ => rfl, fun i cs h => by simp at h, by simp⟩
  · have hw : ∀ z, z ∈ ((elems.map (·.1)).length + (rest.map (·.1)).length) * P.bytesOf e :: (DataW.weightsAll P e (elems.map (·.1)) ++ DataW.weightsAll P e (rest.map (·.1))) → z ≤ 140737488351232 := fun z hz => hs z (by rw [DataW.weights]; simp only [ht]; exact hz)
    obtain ⟨hr, _⟩ := hsp rfl
    have hcap := hw _ (List.mem_cons_self ..)
    rw [List.length_map, List.length_map, hlen, hr, show len + (cap - len) = cap by omega, hB] at hcap
    have hone : ∀ i, i < len → ∃ z : α, w.cells? 0 (a.add (i * k)) k = some (cells z) ∧ In z := fun i hi => by
      have h1 := hel i hi
      rw [hk, List.getElem?_eq_getElem (by omega)] at h1
      obtain ⟨cs', h2, h3⟩ := Option.bind_eq_some_iff.1 h1
      obtain ⟨z, rfl, hz⟩ := el n cs' _ (by omega) h3 (fun z hz => hw z (List.mem_cons_of_mem _ (List.mem_append_left _ (weightsAll_mem (List.mem_map_of_mem (List.getElem_mem _)) hz))))
      exact ⟨z, h2, hz⟩
    obtain ⟨f, hf⟩ := Go.Deep.choose_lt hone
    refine ⟨some a, cap, (List.range len).map f, by simp, by simpa using hl, hcap, fun h => by simp at h, fun i cs hi => ?_, fun y hy => ?_⟩
    · rw [List.getElem?_map, List.getElem?_map, Option.map_map, Option.map_eq_some_iff] at hi
      obtain ⟨i', hi', rfl⟩ := hi
      obtain ⟨hlt, rfl⟩ := List.getElem?_eq_some_iff.1 hi'
      simp only [List.length_range] at hlt
      obtain ⟨h1, _⟩ := hf i hlt
      obtain ⟨_, hcl, hc⟩ := World.cells?_some h1
      obtain ⟨h01, _⟩ := hf 0 (by omega)
      obtain ⟨_, hcl0, hc0⟩ := World.cells?_some h01
      have hsp : a.spot = none := by
        have := hc0 0 hk0
        rw [List.getElem?_eq_getElem (by omega)] at this
        have := spot_none this
        simp [Addr.add] at this
        rw [this]
      refine ⟨a.block, a.off, by rw [show (⟨a.block, a.off, none⟩ : Addr) = a by obtain ⟨b, o, s⟩ := a; simp_all], fun j v hj => ?_⟩
      simp only [List.getElem_range, Function.comp] at hj ⊢
      have hjl := (List.getElem?_eq_some_iff.1 hj).1
      exact add_spot ((hc j (by omega)).trans hj) hsp
    · obtain ⟨i, hi, rfl⟩ := List.mem_map.1 hy
      exact (hf i (by simpa using hi)).2

theorem i64_of {n : Int} (h : (Lit.int .i64 n).wf = true) : I64 n := by
  simpa [Lit.wf, I64, IntKind.min, IntKind.max, IntKind.signed, IntKind.bits] using h
theorem cInt : Tryd.prog.cellsOf 3 = 1 := by kernel_rfl
theorem cI64 : Tryd.prog.cellsOf 2 = 1 := by kernel_rfl
theorem cStr : Tryd.prog.cellsOf 9 = 1 := by kernel_rfl
theorem cBool : Tryd.prog.cellsOf 4 = 1 := by kernel_rfl
theorem cSpan : Tryd.prog.cellsOf 89 = 2 := by kernel_rfl
theorem cIns : Tryd.prog.cellsOf 52 = 5 := by kernel_rfl
theorem cFunc : Tryd.prog.cellsOf 25 = 5 := by kernel_rfl
theorem cMod : Tryd.prog.cellsOf 36 = 2 := by kernel_rfl
theorem cLi : Tryd.prog.cellsOf 34 = 1 := by kernel_rfl
theorem cLp : Tryd.prog.cellsOf 22 = 1 := by kernel_rfl
theorem cLx : Tryd.prog.cellsOf 23 = 1 := by kernel_rfl
theorem cLf : Tryd.prog.cellsOf 33 = 1 := by kernel_rfl
theorem bI64 : Tryd.prog.bytesOf 2 = 8 := by kernel_rfl
theorem bSpan : Tryd.prog.bytesOf 89 = 16 := by kernel_rfl
theorem bIns : Tryd.prog.bytesOf 52 = 40 := by kernel_rfl
theorem bFunc : Tryd.prog.bytesOf 25 = 80 := by kernel_rfl
theorem len5 : ∀ l : List Value, l.length = 5 → ∃ c0 c1 c2 c3 c4, l = [c0, c1, c2, c3, c4]
  | [c0, c1, c2, c3, c4], _ => ⟨c0, c1, c2, c3, c4, rfl⟩
theorem len2 : ∀ l : List Value, l.length = 2 → ∃ c0 c1, l = [c0, c1]
  | [c0, c1], _ => ⟨c0, c1, rfl⟩
section
variable {H : Type} {enc : TypeId × Value → H} {w : World} {held : Bool}
theorem open_i {t : TypeId} {n : Nat} {c : Value} {y : DataW H × List MemPlace} (ht : Tryd.prog.underlying t = some (.int .i64)) (h : DataW.trod enc Tryd.prog w 0 (fun _ => true) held n t [c] = some y) : ∃ z, c = .int .i64 z ∧ I64 z := by
  obtain ⟨z, e, _, hw⟩ := DataW.trod_int ht h
  exact ⟨z, by simpa using e, i64_of hw⟩
theorem open_s {t : TypeId} {n : Nat} {c : Value} {y : DataW H × List MemPlace} (ht : Tryd.prog.underlying t = some .string) (h : DataW.trod enc Tryd.prog w 0 (fun _ => true) held n t [c] = some y) (hs : Small Tryd.prog t y.1) : ∃ s : ByteArray, c = .string s ∧ s.size ≤ 140737488351232 := by
  obtain ⟨s, e, rfl, _⟩ := DataW.trod_string ht h
  refine ⟨s, by simpa using e, ?_⟩
  have := hs s.data.toList.length (by rw [DataW.weights]; exact List.mem_singleton.2 rfl)
  rw [Array.length_toList] at this
  exact this
theorem fld {fs : Array Field} {n : Nat} {cs : List Value} (hf : ∀ (i : Nat) (f : Field), fs[i]? = some f → ∃ y, DataW.trod enc Tryd.prog w 0 (fun _ => true) held n f.type ((cs.drop f.offset).take (Tryd.prog.cellsOf f.type)) = some y ∧ Small Tryd.prog f.type y.1)
    (i : Nat) {f : Field} (hi : fs[i]? = some f) {t : TypeId} {o k : Nat} {l : List Value} (ht : f.type = t) (ho : f.offset = o) (hk : Tryd.prog.cellsOf t = k) (e : (cs.drop o).take k = l) :
    ∃ y, DataW.trod enc Tryd.prog w 0 (fun _ => true) held n t l = some y ∧ Small Tryd.prog t y.1 := by
  have := hf i f hi
  rw [ht, ho, hk, e] at this
  exact this
theorem open_sp (fuel : Nat) (cs : List Value) (x : DataW H × List MemPlace) (h : DataW.trod enc Tryd.prog w 0 (fun _ => true) held fuel 89 cs = some x) (hs : Small Tryd.prog 89 x.1) : ∃ y : Sp, cs = spC y ∧ spOk y := by
  obtain ⟨n, rfl, hl, hf⟩ := open_field Tryd.underlying89 h hs
  rw [cSpan] at hl
  obtain ⟨c0, c1, rfl⟩ := len2 cs hl
  obtain ⟨y0, f0, s0⟩ := fld hf 0 rfl (t := 2) (o := 0) (l := [c0]) rfl rfl cI64 rfl
  obtain ⟨y1, f1, s1⟩ := fld hf 1 rfl (t := 2) (o := 1) (l := [c1]) rfl rfl cI64 rfl
  obtain ⟨a, rfl, ha⟩ := open_i Tryd.underlying2 f0
  obtain ⟨b, rfl, hb⟩ := open_i Tryd.underlying2 f1
  exact ⟨(a, b), rfl, ha, hb⟩
theorem open_is (fuel : Nat) (cs : List Value) (x : DataW H × List MemPlace) (h : DataW.trod enc Tryd.prog w 0 (fun _ => true) held fuel 52 cs = some x) (hs : Small Tryd.prog 52 x.1) : ∃ y : Is, cs = y.cells ∧ y.Ok := by
  obtain ⟨n, rfl, hl, hf⟩ := open_field Tryd.underlying52 h hs
  rw [cIns] at hl
  obtain ⟨c0, c1, c2, c3, c4, rfl⟩ := len5 cs hl
  obtain ⟨y0, f0, s0⟩ := fld hf 0 rfl (t := 3) (o := 0) (l := [c0]) rfl rfl cInt rfl
  obtain ⟨y1, f1, s1⟩ := fld hf 1 rfl (t := 3) (o := 1) (l := [c1]) rfl rfl cInt rfl
  obtain ⟨y2, f2, s2⟩ := fld hf 2 rfl (t := 3) (o := 2) (l := [c2]) rfl rfl cInt rfl
  obtain ⟨y3, f3, s3⟩ := fld hf 3 rfl (t := 3) (o := 3) (l := [c3]) rfl rfl cInt rfl
  obtain ⟨y4, f4, s4⟩ := fld hf 4 rfl (t := 2) (o := 4) (l := [c4]) rfl rfl cI64 rfl
  obtain ⟨a, rfl, ha⟩ := open_i Tryd.underlying3 f0
  obtain ⟨b, rfl, hb⟩ := open_i Tryd.underlying3 f1
  obtain ⟨c, rfl, hc⟩ := open_i Tryd.underlying3 f2
  obtain ⟨d, rfl, hd⟩ := open_i Tryd.underlying3 f3
  obtain ⟨e, rfl, he⟩ := open_i Tryd.underlying2 f4
  exact ⟨⟨a, b, c, d, e⟩, rfl, ha, hb, hc, hd, he⟩
theorem open_fn (fuel : Nat) (cs : List Value) (x : DataW H × List MemPlace) (h : DataW.trod enc Tryd.prog w 0 (fun _ => true) held fuel 25 cs = some x) (hs : Small Tryd.prog 25 x.1) : ∃ y : Fn, cs = y.cells ∧ y.In w ∧ y.code.length ≤ y.cc := by
  obtain ⟨n, rfl, hl, hf⟩ := open_field Tryd.underlying25 h hs
  rw [cFunc] at hl
  obtain ⟨c0, c1, c2, c3, c4, rfl⟩ := len5 cs hl
  obtain ⟨y0, f0, s0⟩ := fld hf 0 rfl (t := 9) (o := 0) (l := [c0]) rfl rfl cStr rfl
  obtain ⟨y1, f1, s1⟩ := fld hf 1 rfl (t := 22) (o := 1) (l := [c1]) rfl rfl cLp rfl
  obtain ⟨y2, f2, s2⟩ := fld hf 2 rfl (t := 3) (o := 2) (l := [c2]) rfl rfl cInt rfl
  obtain ⟨y3, f3, s3⟩ := fld hf 3 rfl (t := 3) (o := 3) (l := [c3]) rfl rfl cInt rfl
  obtain ⟨y4, f4, s4⟩ := fld hf 4 rfl (t := 23) (o := 4) (l := [c4]) rfl rfl cLx rfl
  obtain ⟨s, rfl, hsz⟩ := open_s Tryd.underlying9 f0 s0
  obtain ⟨r, rfl, hr⟩ := open_i Tryd.underlying3 f2
  obtain ⟨u, rfl, hu⟩ := open_i Tryd.underlying3 f3
  obtain ⟨a1, k1, l1, e1, p1, p2, p3, p4, p5⟩ := open_rows (α := Sp) (cells := spC) (In := spOk) (k := 2) (B := 16) Tryd.underlying22 cSpan (by decide) bSpan (fun m cs y _ => open_sp m cs y) f1 s1
  obtain ⟨a2, k2, l2, e2, q1, q2, q3, q4, q5⟩ := open_rows (α := Is) (cells := Is.cells) (In := Is.Ok) (k := 5) (B := 40) Tryd.underlying23 cIns (by decide) bIns (fun m cs y _ => open_is m cs y) f4 s4
  obtain rfl : c1 = .slice a1 l1.length k1 := by simpa using e1
  obtain rfl : c4 = .slice a2 l2.length k2 := by simpa using e2
  exact ⟨⟨s, a1, k1, l1, r, u, a2, k2, l2⟩, rfl, ⟨hsz, hr, hu, ⟨by simp only; omega, p4⟩, p5, ⟨by simp only; omega, q4⟩, q5⟩, q1⟩
end
set_option maxRecDepth 100000 in
theorem open_func {H : Type} {enc : TypeId × Value → H} {W : World} {base : Nat} {v : Value} {d : DataW H} {p : List MemPlace} (hv : Value.okWide Tryd.prog W .any base 25 v)
    (h : DataW.Trod enc Tryd.prog W 0 (fun _ => true) true 25 v d p) (hs : Small Tryd.prog 25 d) : ∃ y : Fn, v = y.val ∧ y.In W ∧ y.code.length ≤ y.cc := by
  obtain ⟨cs, rfl, hsz⟩ := okWide_struct (P := Tryd.prog) (t := 25) (v := v) (r := .any) (base := base) (w := W) Tryd.underlying25 hv
  obtain ⟨fuel, hf⟩ := h
  obtain ⟨y, e, hy⟩ := open_fn fuel _ (d, p) hf hs
  refine ⟨y, ?_, hy⟩
  rw [Fn.val]
  congr 1
  have e' : cs.toList = y.cells := by simpa [Value.cells] using e
  rw [← Array.toList_inj, e', Fn.cells]
end Go.Proofs.YtgiokognngllcaaDoor

/- Who dominates whom: plain. -/
namespace Go.Proofs.YtgiokognngllcaaDoor

/-- b can be reached, but not by ways without a. -/
def Dm (l : List Is) (a b : Nat) : Prop := Rch l b ∧ ¬ RchW l (a : Int) b
theorem RchW.rch {l : List Is} {g : Int} {v : Nat} (h : RchW l g v) : Rch l v := by
  induction h with
  | zero => exact .zero
  | step _ h _ ih => exact .step ih h
theorem RchW.ne {l : List Is} {a v : Nat} (h : RchW l (a : Int) v) : v ≠ a := by
  cases h with
  | zero h => omega
  | step _ _ h => omega
theorem RchW.next {l : List Is} {a u v : Nat} (h : RchW l (a : Int) u) (hv : v ∈ nxt l u) (hn : v ≠ a) : RchW l (a : Int) v := .step h hv (by omega)
theorem rchW_zero {l : List Is} {a : Nat} (h : a ≠ 0) : RchW l (a : Int) 0 := .zero (by omega)
theorem Dm.refl {l : List Is} {a : Nat} (h : Rch l a) : Dm l a a := ⟨h, fun h => h.ne rfl⟩
theorem Dm.left {l : List Is} {a b : Nat} (h : Dm l a b) : Rch l a := by
  obtain ⟨h1, h2⟩ := h
  refine Classical.byContradiction fun hn => h2 ?_
  induction h1 with
  | zero => exact rchW_zero fun e => hn (by rw [e]; exact .zero)
  | step hu hv ih => exact (ih fun h => h2 (h.next hv fun e => hn (by rw [← e]; exact .step hu hv))).next hv fun e => hn (by rw [← e]; exact .step hu hv)
theorem dm_zero {l : List Is} {b : Nat} (h : Rch l b) : Dm l 0 b := by
  refine ⟨h, fun hw => ?_⟩
  clear h
  generalize hg : ((0 : Nat) : Int) = g at hw
  induction hw with
  | zero hz => exact hz hg.symm
  | step _ _ _ ih => exact ih
theorem dm_at_zero {l : List Is} {a : Nat} : Dm l a 0 ↔ a = 0 := by
  constructor
  · intro h
    refine Classical.byContradiction fun hn => h.2 (rchW_zero hn)
  · rintro rfl
    exact Dm.refl .zero
theorem Dm.trans {l : List Is} {a b c : Nat} (h : Dm l a b) (h' : Dm l b c) : Dm l a c := by
  refine ⟨h'.1, fun hw => ?_⟩
  have key : ∀ v, RchW l (a : Int) v → RchW l (a : Int) b ∨ RchW l (b : Int) v := by
    intro v hv
    generalize hg : (a : Int) = g at hv
    induction hv with
    | zero h0 =>
      by_cases hb : b = 0
      · subst hb; exact .inl (.zero h0)
      · exact .inr (rchW_zero hb)
    | @step u v hu hv hn ih =>
      subst hg
      rcases ih with ih | ih
      · exact .inl ih
      · by_cases hb : v = b
        · subst hb; exact .inl (.step hu hv hn)
        · exact .inr (ih.next hv hb)
  rcases key c hw with h1 | h1
  · exact h.2 h1
  · exact h'.2 h1
theorem Dm.anti {l : List Is} {a b : Nat} (h : Dm l a b) (h' : Dm l b a) : a = b := by
  refine Classical.byContradiction fun hn => ?_
  have key : ∀ v, Rch l v → (RchW l (a : Int) v ∧ RchW l (b : Int) v) ∨ RchW l (b : Int) a ∨ RchW l (a : Int) b := by
    intro v hv
    induction hv with
    | zero =>
      by_cases ha : a = 0
      · exact .inr (.inl (by rw [ha]; exact rchW_zero (by omega)))
      · by_cases hb : b = 0
        · exact .inr (.inr (by rw [hb]; exact rchW_zero (by omega)))
        · exact .inl ⟨rchW_zero ha, rchW_zero hb⟩
    | @step u v _ hv ih =>
      rcases ih with ⟨h1, h2⟩ | ih
      · by_cases ha : v = a
        · subst ha; exact .inr (.inl (h2.next hv hn))
        · by_cases hb : v = b
          · subst hb; exact .inr (.inr (h1.next hv ha))
          · exact .inl ⟨h1.next hv ha, h2.next hv hb⟩
      · exact .inr ih
  rcases key b h.1 with h1 | h1 | h1
  · exact h1.2.ne rfl
  · exact h'.2 h1
  · exact h.2 h1
/-- Of two that dominate one the one dominates the other. -/
theorem Dm.chain {l : List Is} {a a' b : Nat} (h : Dm l a b) (h' : Dm l a' b) : Dm l a a' ∨ Dm l a' a := by
  refine Classical.byContradiction fun hn => ?_
  have hra := h.left
  have hrb := h'.left
  have p : RchW l (a : Int) a' := Classical.byContradiction fun hp => hn (.inl ⟨hrb, hp⟩)
  have q : RchW l (a' : Int) a := Classical.byContradiction fun hp => hn (.inr ⟨hra, hp⟩)
  have hne := p.ne
  have key : ∀ v, Rch l v → RchW l (a : Int) v ∨ RchW l (a' : Int) v := by
    intro v hv
    induction hv with
    | zero =>
      by_cases ha : a = 0
      · exact .inr (rchW_zero (by omega))
      · exact .inl (rchW_zero ha)
    | @step u v _ hv ih =>
      rcases ih with ih | ih
      · by_cases ha : v = a
        · subst ha; exact .inr q
        · exact .inl (ih.next hv ha)
      · by_cases ha : v = a'
        · subst ha; exact .inl p
        · exact .inr (ih.next hv ha)
  rcases key b h.1 with h1 | h1
  · exact h.2 h1
  · exact h'.2 h1
/-- Where u leads to v, whoever dominates v, and isn't v, dominates u. -/
theorem Dm.edge {l : List Is} {a u v : Nat} (h : Dm l a v) (hu : Rch l u) (hv : v ∈ nxt l u) (hn : a ≠ v) : Dm l a u := ⟨hu, fun hw => h.2 (hw.next hv (Ne.symm hn))⟩

/-- How many dominate one. -/
noncomputable def dmL (l : List Is) (v : Nat) : List Nat := (List.range l.length).filter fun a => @decide (Dm l a v) (Classical.propDecidable _)
noncomputable def dmC (l : List Is) (v : Nat) : Nat := (dmL l v).length
theorem mem_dmL {l : List Is} {a v : Nat} (h0 : 0 < l.length) : a ∈ dmL l v ↔ Dm l a v := by
  unfold dmL
  rw [List.mem_filter, List.mem_range, @decide_eq_true_iff _ (Classical.propDecidable _)]
  exact ⟨fun h => h.2, fun h => ⟨h.left.lt h0, h⟩⟩
theorem dmL_nd (l : List Is) (v : Nat) : (dmL l v).Nodup := List.nodup_range.filter _
theorem sub_len {a b : List Nat} (ha : a.Nodup) (h : ∀ x ∈ a, x ∈ b) : a.length ≤ b.length := by
  induction a generalizing b with
  | nil => simp
  | cons x a ih =>
    obtain ⟨h1, h2⟩ := List.nodup_cons.1 ha
    have hx := h x (by simp)
    have := ih (b := b.erase x) h2 fun y hy => (List.mem_erase_of_ne (by rintro rfl; exact h1 hy)).2 (h y (by simp [hy]))
    rw [List.length_erase_of_mem hx] at this
    have := List.length_pos_of_mem hx
    simp only [List.length_cons]
    omega
/-- The nearest one. -/
def Idm (l : List Is) (v r : Nat) : Prop := Dm l r v ∧ r ≠ v ∧ ∀ a, Dm l a v → a ≠ v → Dm l a r
theorem Idm.one {l : List Is} {v r r' : Nat} (h : Idm l v r) (h' : Idm l v r') : r = r' := (h'.2.2 r h.1 h.2.1).anti (h.2.2 r' h'.1 h'.2.1)
theorem Idm.mem {l : List Is} {v r a : Nat} (h : Idm l v r) : Dm l a v ↔ a = v ∨ Dm l a r := by
  constructor
  · intro ha
    by_cases e : a = v
    · exact .inl e
    · exact .inr (h.2.2 a ha e)
  · rintro (rfl | ha)
    · exact Dm.refl h.1.1
    · exact ha.trans h.1
theorem Idm.count {l : List Is} {v r : Nat} (h0 : 0 < l.length) (h : Idm l v r) : dmC l v = dmC l r + 1 := by
  have hv : v ∉ dmL l r := fun hm => h.2.1 (h.1.anti ((mem_dmL h0).1 hm))
  unfold dmC
  refine Nat.le_antisymm ?_ ?_
  · have := sub_len (b := v :: dmL l r) (dmL_nd l v) fun x hx => by
      rw [List.mem_cons, mem_dmL h0]
      exact h.mem.1 ((mem_dmL h0).1 hx)
    simpa using this
  · have := sub_len (a := v :: dmL l r) (b := dmL l v) (List.nodup_cons.2 ⟨hv, dmL_nd l r⟩) fun x hx => by
      rw [List.mem_cons, mem_dmL h0] at hx
      exact (mem_dmL h0).2 (h.mem.2 hx)
    simpa using this
theorem Dm.count {l : List Is} {a v : Nat} (h0 : 0 < l.length) (h : Dm l a v) (hn : a ≠ v) : dmC l a < dmC l v := by
  have hv : v ∉ dmL l a := fun hm => hn (h.anti ((mem_dmL h0).1 hm))
  have := sub_len (a := v :: dmL l a) (b := dmL l v) (List.nodup_cons.2 ⟨hv, dmL_nd l a⟩) fun x hx => by
    rw [List.mem_cons, mem_dmL h0] at hx
    rcases hx with rfl | hx
    · exact (mem_dmL h0).2 (Dm.refl h.1)
    · exact (mem_dmL h0).2 (hx.trans h)
  unfold dmC
  simp only [List.length_cons] at this
  omega
/-- Who has the most of those that dominate one, but itself, is the nearest. -/
theorem idm_most {l : List Is} {v r : Nat} (h0 : 0 < l.length) (h : Dm l r v) (hn : r ≠ v) (hm : ∀ a, Dm l a v → a ≠ v → dmC l a ≤ dmC l r) : Idm l v r := by
  refine ⟨h, hn, fun a ha hna => ?_⟩
  rcases ha.chain h with h1 | h1
  · exact h1
  · by_cases e : a = r
    · subst e; exact h1
    · have := h1.count h0 (Ne.symm e)
      have := hm a ha hna
      omega
theorem idm_ex {l : List Is} {v : Nat} (h0 : 0 < l.length) (h : Rch l v) (hv : v ≠ 0) : ∃ r, Idm l v r := by
  have key : ∀ n, (∃ r, Dm l r v ∧ r ≠ v ∧ dmC l v ≤ dmC l r + n) → ∃ r, Idm l v r := by
    intro n
    induction n with
    | zero =>
      rintro ⟨r, h1, h2, h3⟩
      have := h1.count h0 h2
      omega
    | succ n ih =>
      rintro ⟨r, h1, h2, h3⟩
      by_cases hm : ∀ a, Dm l a v → a ≠ v → dmC l a ≤ dmC l r
      · exact ⟨r, idm_most h0 h1 h2 hm⟩
      · have ⟨a, ha⟩ : ∃ a, ¬ (Dm l a v → a ≠ v → dmC l a ≤ dmC l r) := Classical.byContradiction fun hc => hm fun a => Classical.byContradiction fun h => hc ⟨a, h⟩
        refine ih ⟨a, Classical.byContradiction fun h => ha fun h' => absurd h' h, fun h => ha fun _ h' => absurd h h', ?_⟩
        have : ¬ dmC l a ≤ dmC l r := fun h => ha fun _ _ => h
        omega
  exact key (dmC l v) ⟨0, dm_zero h, Ne.symm hv, by omega⟩
/-- Who dominates, with one fewer, is the nearest. -/
theorem idm_of {l : List Is} {v a : Nat} (h0 : 0 < l.length) (h : Dm l a v) (hc : dmC l a + 1 = dmC l v) : Idm l v a := by
  have hn : a ≠ v := by rintro rfl; omega
  by_cases hv : v = 0
  · subst hv; exact absurd (dm_at_zero.1 h) hn
  obtain ⟨r, hr⟩ := idm_ex h0 h.1 hv
  by_cases e : a = r
  · rw [e]; exact hr
  · have := (hr.2.2 a h hn).count h0 e
    have := hr.count h0
    omega
theorem dmC_zero {l : List Is} (h0 : 0 < l.length) : dmC l 0 = 1 := by
  refine Nat.le_antisymm ?_ ?_
  · have := sub_len (b := [0]) (dmL_nd l 0) fun x hx => by rw [List.mem_singleton]; exact dm_at_zero.1 ((mem_dmL h0).1 hx)
    exact this
  · exact List.length_pos_of_mem ((mem_dmL h0).2 (dm_at_zero.2 rfl))
theorem dmC_le (l : List Is) (v : Nat) : dmC l v ≤ l.length := by
  have := List.length_filter_le (fun a => @decide (Dm l a v) (Classical.propDecidable _)) (List.range l.length)
  rw [List.length_range] at this
  exact this
theorem dmL_no {l : List Is} {v : Nat} (h : ¬ Rch l v) : dmL l v = [] := by
  unfold dmL
  refine List.filter_eq_nil_iff.2 fun a _ ha => h ?_
  exact ((@decide_eq_true_iff _ (Classical.propDecidable _)).1 ha).1

/-- A list that says of each one its nearest. -/
def IsT (l : List Is) (ts : List Int) : Prop := ((l.length = 0 ∨ 1024 < l.length) ∧ ts = []) ∨ (0 < l.length ∧ l.length ≤ 1024 ∧ ts.length = l.length ∧ ∀ v, v < l.length → (ts[v]? = some (-1) ∧ ¬ (Rch l v ∧ v ≠ 0)) ∨ ∃ r : Nat, ts[v]? = some (r : Int) ∧ Idm l v r)
theorem Idm.nz {l : List Is} {v r : Nat} (h : Idm l v r) : Rch l v ∧ v ≠ 0 := ⟨h.1.1, fun e => h.2.1 (by subst e; exact dm_at_zero.1 h.1)⟩
theorem IsT.one {l : List Is} {a b : List Int} (ha : IsT l a) (hb : IsT l b) : a = b := by
  rcases ha with ⟨h1, rfl⟩ | ⟨h1, h2, h3, h4⟩
  · rcases hb with ⟨_, rfl⟩ | ⟨g1, g2, _⟩
    · rfl
    · omega
  · rcases hb with ⟨g1, rfl⟩ | ⟨g1, g2, g3, g4⟩
    · omega
    · refine List.ext_getElem? fun v => ?_
      by_cases hv : v < l.length
      · rcases h4 v hv with ⟨e1, n1⟩ | ⟨r, e1, i1⟩ <;> rcases g4 v hv with ⟨e2, n2⟩ | ⟨r', e2, i2⟩
        · rw [e1, e2]
        · exact absurd i2.nz n1
        · exact absurd i1.nz n2
        · rw [e1, e2, i1.one i2]
      · rw [List.getElem?_eq_none (by omega), List.getElem?_eq_none (by omega)]
end Go.Proofs.YtgiokognngllcaaDoor

/- Sets of instructions, a bit each in sixteen words: plain. -/
namespace Go.Proofs.YtgiokognngllcaaDoor

def hasW (ws : List Nat) (v : Nat) : Bool := (ws.getD (v / 64) 0).testBit (v % 64)
def fullW : List Nat := List.replicate 16 18446744073709551615
def meetW (a b : List Nat) : List Nat := List.zipWith (fun x y => x &&& y) a b
def addW (ws : List Nat) (v : Nat) : List Nat := ws.set (v / 64) (ws.getD (v / 64) 0 ||| 2 ^ (v % 64))
def zeroW : List Nat := List.replicate 16 0
structure OkW (ws : List Nat) : Prop where
  len : ws.length = 16
  lt : ∀ x ∈ ws, x < 18446744073709551616
theorem OkW.at {ws : List Nat} (h : OkW ws) (i : Nat) : ws.getD i 0 < 18446744073709551616 := by
  rw [List.getD_eq_getElem?_getD]
  cases e : ws[i]? with
  | none => simp
  | some x => exact h.lt x (List.mem_of_getElem? e)
theorem okW_full : OkW fullW := ⟨by simp [fullW], fun x hx => by have := List.eq_of_mem_replicate hx; omega⟩
theorem okW_zero : OkW zeroW := ⟨by simp [zeroW], fun x hx => by have := List.eq_of_mem_replicate hx; omega⟩
theorem okW_set {ws : List Nat} (h : OkW ws) (i x : Nat) (hx : x < 18446744073709551616) : OkW (ws.set i x) :=
  ⟨by rw [List.length_set, h.len], fun y hy => by
    rcases List.mem_or_eq_of_mem_set hy with hy | rfl
    · exact h.lt y hy
    · exact hx⟩
theorem or_lt {x v : Nat} (hx : x < 18446744073709551616) (hv : v < 64) : x ||| 2 ^ v < 18446744073709551616 := by
  have : 2 ^ v < 2 ^ 64 := Nat.pow_lt_pow_right (by decide) hv
  exact Nat.or_lt_two_pow (n := 64) hx this
theorem okW_add {ws : List Nat} (h : OkW ws) (v : Nat) : OkW (addW ws v) := okW_set h _ _ (or_lt (h.at _) (Nat.mod_lt _ (by decide)))
theorem okW_meet {a b : List Nat} (ha : OkW a) (hb : OkW b) : OkW (meetW a b) := by
  refine ⟨by simp [meetW, ha.len, hb.len], fun x hx => ?_⟩
  unfold meetW at hx
  obtain ⟨i, hi, rfl⟩ := List.getElem_of_mem hx
  rw [List.getElem_zipWith]
  exact Nat.lt_of_le_of_lt Nat.and_le_left (ha.lt _ (List.getElem_mem _))
theorem has_full {v : Nat} : hasW fullW v = decide (v < 1024) := by
  unfold hasW fullW
  rw [List.getD_eq_getElem?_getD, List.getElem?_replicate]
  by_cases h : v < 1024
  · rw [if_pos (by omega), decide_eq_true h]
    show Nat.testBit (2 ^ 64 - 1) _ = true
    rw [Nat.testBit_two_pow_sub_one]
    exact decide_eq_true (Nat.mod_lt _ (by decide))
  · rw [if_neg (by omega), decide_eq_false h]; simp
theorem has_zero {v : Nat} : hasW zeroW v = false := by
  unfold hasW zeroW
  rw [List.getD_eq_getElem?_getD, List.getElem?_replicate]
  split <;> simp
theorem has_meet {a b : List Nat} (ha : OkW a) (hb : OkW b) (v : Nat) : hasW (meetW a b) v = (hasW a v && hasW b v) := by
  unfold hasW meetW
  simp only [List.getD_eq_getElem?_getD]
  rw [List.getElem?_zipWith]
  by_cases h : v / 64 < 16
  · rw [List.getElem?_eq_getElem (by rw [ha.len]; exact h), List.getElem?_eq_getElem (by rw [hb.len]; exact h)]
    simp only [Option.getD_some]
    exact Nat.testBit_and ..
  · rw [List.getElem?_eq_none (by rw [ha.len]; omega)]
    simp
theorem has_lt {ws : List Nat} (h : OkW ws) {v : Nat} (hv : hasW ws v = true) : v < 1024 := by
  refine Classical.byContradiction fun hn => ?_
  unfold hasW at hv
  rw [List.getD_eq_getElem?_getD, List.getElem?_eq_none (by rw [h.len]; omega)] at hv
  simp at hv
theorem has_add {ws : List Nat} (h : OkW ws) {v : Nat} (hv : v < 1024) (u : Nat) : hasW (addW ws v) u = (hasW ws u || u == v) := by
  unfold hasW addW
  simp only [List.getD_eq_getElem?_getD]
  by_cases e : v / 64 = u / 64
  · rw [← e, List.getElem?_set_self (by rw [h.len]; omega), Option.getD_some, Nat.testBit_or, Nat.testBit_two_pow]
    congr 1
    by_cases e2 : u = v
    · subst e2; simp
    · have : v % 64 ≠ u % 64 := by omega
      simp [e2, this]
  · rw [List.getElem?_set_ne e]
    have : u ≠ v := by rintro rfl; exact e rfl
    simp [this]
theorem ext_W {a b : List Nat} (ha : OkW a) (hb : OkW b) (h : ∀ v, hasW a v = hasW b v) : a = b := by
  refine List.ext_getElem (by rw [ha.len, hb.len]) fun i hi hj => ?_
  refine Nat.eq_of_testBit_eq fun j => ?_
  by_cases hj64 : j < 64
  · have := h (i * 64 + j)
    unfold hasW at this
    rw [show (i * 64 + j) / 64 = i by omega, show (i * 64 + j) % 64 = j by omega, List.getD_eq_getElem?_getD, List.getD_eq_getElem?_getD, List.getElem?_eq_getElem hi, List.getElem?_eq_getElem hj] at this
    exact this
  · rw [Nat.testBit_lt_two_pow, Nat.testBit_lt_two_pow]
    · exact Nat.lt_of_lt_of_le (hb.lt _ (List.getElem_mem hj)) (by rw [show (18446744073709551616 : Nat) = 2 ^ 64 from rfl]; exact Nat.pow_le_pow_right (by decide) (by omega))
    · exact Nat.lt_of_lt_of_le (ha.lt _ (List.getElem_mem hi)) (by rw [show (18446744073709551616 : Nat) = 2 ^ 64 from rfl]; exact Nat.pow_le_pow_right (by decide) (by omega))

/-- The bits of one number that are set; a set's numbers. -/
def bitsN (x : Nat) : List Nat := (List.range 64).filter fun j => x.testBit j
def elW (ws : List Nat) : List Nat := (List.range 1024).filter fun v => hasW ws v
theorem mem_elW {ws : List Nat} (h : OkW ws) {v : Nat} : v ∈ elW ws ↔ hasW ws v = true := by
  unfold elW
  rw [List.mem_filter, List.mem_range]
  exact ⟨fun h => h.2, fun hv => ⟨has_lt h hv, hv⟩⟩
theorem elW_nd (ws : List Nat) : (elW ws).Nodup := List.nodup_range.filter _
theorem popAux_bits : ∀ (f x k : Nat), ((List.range' k f).filter fun j => (x * 2 ^ k).testBit j).length = Lib.popAux f x
  | 0, x, k => by simp [Lib.popAux]
  | f + 1, x, k => by
    have ih := popAux_bits f (x / 2) (k + 1)
    unfold Lib.popAux
    rw [List.range'_succ, List.filter_cons]
    have e : ∀ j, k + 1 ≤ j → (x * 2 ^ k).testBit j = (x / 2 * 2 ^ (k + 1)).testBit j := by
      intro j hj
      rw [Nat.testBit_mul_two_pow, Nat.testBit_mul_two_pow]
      rw [decide_eq_true (by omega : k ≤ j), decide_eq_true (by omega : k + 1 ≤ j)]
      obtain ⟨d, rfl⟩ : ∃ d, j = k + 1 + d := ⟨j - (k + 1), by omega⟩
      rw [show k + 1 + d - k = d + 1 by omega, show k + 1 + d - (k + 1) = d by omega, Nat.testBit_succ]
    have e2 : (List.range' (k + 1) f).filter (fun j => (x * 2 ^ k).testBit j) = (List.range' (k + 1) f).filter (fun j => (x / 2 * 2 ^ (k + 1)).testBit j) := by
      refine List.filter_congr fun j hj => ?_
      rw [List.mem_range'_1] at hj
      exact e j hj.1
    rw [e2]
    have e3 : (x * 2 ^ k).testBit k = decide (x % 2 = 1) := by
      rw [Nat.testBit_mul_two_pow, Nat.sub_self, Nat.testBit_zero]; simp
    rw [e3]
    by_cases h : x % 2 = 1
    · rw [decide_eq_true h]; simp only [if_true, List.length_cons]; omega
    · rw [decide_eq_false h]; simp only [Bool.false_eq_true, if_false]; omega
theorem bitsN_count (x : Nat) : (bitsN x).length = Lib.onesCount x := by
  have := popAux_bits 64 x 0
  rw [Nat.pow_zero, Nat.mul_one] at this
  unfold bitsN Lib.onesCount
  rw [List.range_eq_range']
  exact this
def sizeW (ws : List Nat) : Nat := (ws.map Lib.onesCount).sum
theorem el_key (m : Nat) (hm : 0 < m) : ∀ (n : Nat) (ys : List Nat), ys.length = n → ((List.range (m * n)).filter fun v => (ys.getD (v / m) 0).testBit (v % m)).length = (ys.map fun x => ((List.range m).filter fun j => x.testBit j).length).sum := by
  intro n
  induction n with
  | zero => intro ys hy; rw [List.length_eq_zero_iff] at hy; subst hy; simp
  | succ n ih =>
    intro ys hy
    obtain ⟨zs, x, rfl⟩ : ∃ zs x, ys = zs ++ [x] := by
      rcases List.eq_nil_or_concat ys with rfl | ⟨zs, x, rfl⟩
      · simp at hy
      · exact ⟨zs, x, by simp⟩
    have hz : zs.length = n := by simpa using hy
    rw [Nat.mul_succ, List.range_add, List.filter_append, List.length_append, List.map_append, List.sum_append]
    have e1 : ((List.range (m * n)).filter fun v => ((zs ++ [x]).getD (v / m) 0).testBit (v % m)) = (List.range (m * n)).filter fun v => (zs.getD (v / m) 0).testBit (v % m) := by
      refine List.filter_congr fun v hv => ?_
      rw [List.mem_range] at hv
      have : v / m < zs.length := by rw [hz]; exact Nat.div_lt_of_lt_mul hv
      rw [List.getD_eq_getElem?_getD, List.getD_eq_getElem?_getD, List.getElem?_append_left this]
    have e2 : (((List.range m).map fun x => m * n + x).filter fun v => ((zs ++ [x]).getD (v / m) 0).testBit (v % m)).length = ((List.range m).filter fun j => x.testBit j).length := by
      rw [List.filter_map, List.length_map]
      have : (List.range m).filter ((fun v => ((zs ++ [x]).getD (v / m) 0).testBit (v % m)) ∘ fun x => m * n + x) = (List.range m).filter fun j => x.testBit j := by
        refine List.filter_congr fun v hv => ?_
        rw [List.mem_range] at hv
        simp only [Function.comp]
        rw [Nat.mul_add_div hm, Nat.mul_add_mod, Nat.div_eq_of_lt hv, Nat.mod_eq_of_lt hv, Nat.add_zero, List.getD_eq_getElem?_getD, List.getElem?_append_right (by omega), hz, Nat.sub_self]
        rfl
      rw [this]
    rw [e1, e2, ih zs hz]
    simp
theorem elW_count {ws : List Nat} (h : OkW ws) : (elW ws).length = sizeW ws := by
  have h2 := el_key 64 (by decide) 16 ws h.len
  have e : (ws.map fun x => ((List.range 64).filter fun j => x.testBit j).length) = ws.map Lib.onesCount := List.map_congr_left fun x _ => bitsN_count x
  rw [e, show 64 * 16 = 1024 from rfl] at h2
  unfold elW hasW sizeW
  exact h2
theorem sizeW_le {ws : List Nat} (h : OkW ws) : sizeW ws ≤ 1024 := by
  rw [← elW_count h]
  refine Nat.le_trans (List.length_filter_le _ _) ?_
  rw [List.length_range]
  exact Nat.le_refl _
theorem sizeW_lt {a b : List Nat} (ha : OkW a) (hb : OkW b) (hs : ∀ v, hasW a v = true → hasW b v = true) (hn : a ≠ b) : sizeW a < sizeW b := by
  have ⟨v, hv⟩ : ∃ v, ¬ hasW a v = hasW b v := Classical.byContradiction fun hc => hn (ext_W ha hb fun v => Classical.byContradiction fun h => hc ⟨v, h⟩)
  have h1 : hasW b v = true ∧ hasW a v = false := by
    have := hs v
    cases e1 : hasW a v <;> cases e2 : hasW b v <;> simp_all
  rw [← elW_count ha, ← elW_count hb]
  have := sub_len (a := v :: elW a) (b := elW b) (List.nodup_cons.2 ⟨fun hm => by rw [mem_elW ha, h1.2] at hm; simp at hm, elW_nd a⟩) fun x hx => by
    rcases List.mem_cons.1 hx with rfl | hx
    · exact (mem_elW hb).2 h1.1
    · exact (mem_elW hb).2 (hs x ((mem_elW ha).1 hx))
  rw [List.length_cons] at this
  exact this
end Go.Proofs.YtgiokognngllcaaDoor
