/- What every card of this seat shares: a start at which the listed variable holds what the program's text lays, and what its list says of the table; modules, instructions, texts opened. -/
import Derived.Test.YtfmkjdfidenfkaaDoorCards
import Derived.Test.YtfmkjdfidenfkaaDoorTie
import Derived.Test.YtfmkjdfidenfkaaDoorCa
import Derived.WalkKit
import Derived.ProofKit
import Derived.OpenShut
import Derived.Deep.Slices
import Derived.Deep.DeepHandedRow
import Derived.Lib.LaidTab
import Derived.Lib.SmallJoins
import Derived.Stop.LaidErr
import Derived.Carry
namespace Go.Proofs.YtfmkjdfidenfkaaDoor
open Go.ChangeShapes Go.WideShapes Go.ChangeAt Go.RowKit

instance : Inhabited Is := ⟨⟨0, 0, 0, 0, 0⟩⟩
instance : Inhabited Fn := ⟨⟨⟨#[]⟩, none, 0, [], 0, 0, none, 0, []⟩⟩
theorem ownK : ownKnob Tryd.prog.godebug = none := by kernel_rfl
theorem laidOutT : laidOutB Tryd.prog = true := by kernel_rfl
/-- A block's cells, its tag and its frozen range kept. -/
def putCells (c : Array Value) : Obj → Obj
  | .cells _ t fz => .cells c t fz
  | o => o
def tabC : Array Value := ((List.range 20).flatMap fun k => (rwN k).cells).toArray
def laidOf (w : World) : World := { w with heap := w.heap.modify 0 (putCells tabC) }

theorem spot_none {w : World} {a : Addr} {v : Value} (h : w.cell? a = some v) : a = ⟨a.block, a.off, none⟩ := by
  obtain ⟨b, o, s⟩ := a
  cases s with
  | none => rfl
  | some s =>
    unfold World.cell? at h
    split at h <;> simp at h

theorem add_spot {a : Addr} {n j : Nat} {w : World} {v : Value} (h : w.cell? ((a.add n).add j) = some v) (h0 : a.spot = none) : w.cell? ⟨a.block, a.off + (n + j), none⟩ = some v := by
  have e : (a.add n).add j = ⟨a.block, a.off + (n + j), none⟩ := by
    rw [Go.Deep.add_add]
    unfold Addr.add
    obtain ⟨b, o, s⟩ := a
    simp only at h0
    subst h0
    split
    · rename_i h; simp [h]
    · rfl
  rw [← e]; exact h

def Small {H : Type} (P : Program) (t : TypeId) (d : DataW H) : Prop := ∀ z ∈ d.weights P t, z ≤ 140737488351232

theorem weightsAll_mem {H : Type} {P : Program} {e : TypeId} {l : List (DataW H)} {d : DataW H} (h : d ∈ l) {z : Nat} (hz : z ∈ d.weights P e) : z ∈ DataW.weightsAll P e l := by
  induction l with
  | nil => cases h
  | cons y r ih =>
    rw [DataW.weightsAll, List.mem_append]
    rcases List.mem_cons.1 h with rfl | h
    · exact Or.inl hz
    · exact Or.inr (ih h)
theorem weightsEach_mem {H : Type} {P : Program} : ∀ {ts : List TypeId} {ds : List (DataW H)} {i : Nat} {t : TypeId} {d : DataW H}, ts[i]? = some t → ds[i]? = some d → ∀ {z : Nat}, z ∈ d.weights P t → z ∈ DataW.weightsEach P ts ds
  | [], _, _, _, _, h, _, _, _ => by simp at h
  | _ :: _, [], _, _, _, _, h, _, _ => by simp at h
  | t :: ts, d :: ds, 0, _, _, h1, h2, z, hz => by
    simp at h1 h2; subst h1 h2
    rw [DataW.weightsEach, List.mem_append]; exact Or.inl hz
  | t :: ts, d :: ds, i + 1, _, _, h1, h2, z, hz => by
    rw [DataW.weightsEach, List.mem_append]
    exact Or.inr (weightsEach_mem (ts := ts) (ds := ds) (i := i) (by simpa using h1) (by simpa using h2) hz)

/-- A field of a struct: what it reads as, and that it is small. -/
theorem open_field {H : Type} {enc : TypeId × Value → H} {P : Program} {w : World} {held : Bool} {t : TypeId} {fs : Array Field} {fuel : Nat} {cs : List Value} {x : DataW H × List MemPlace}
    (ht : P.underlying t = some (.struct fs)) (h : DataW.trod enc P w 0 (fun _ => true) held fuel t cs = some x) (hs : Small P t x.1) :
    ∃ n, fuel = n + 1 ∧ cs.length = P.cellsOf t ∧ ∀ (i : Nat) (f : Field), fs[i]? = some f → ∃ y, DataW.trod enc P w 0 (fun _ => true) held n f.type ((cs.drop f.offset).take (P.cellsOf f.type)) = some y ∧ Small P f.type y.1 := by
  obtain ⟨xs, n, hn, rfl, hl, hlen, hf⟩ := DataW.trod_struct ht h
  refine ⟨n, hn, hl, fun i f hi => ?_⟩
  have hlt : i < xs.length := by rw [hlen]; exact (Array.getElem?_eq_some_iff.1 hi).1
  refine ⟨xs[i], ?_, fun z hz => hs z ?_⟩
  · rw [hf i f hi, List.getElem?_eq_getElem hlt]
  · rw [DataW.weights]; simp only [ht]
    refine weightsEach_mem (i := i) (t := f.type) (d := xs[i].1) ?_ ?_ hz
    · simp [hi]
    · simp [List.getElem?_eq_getElem hlt]

/-- A list of whatever elements. -/
theorem open_rows {H : Type} {enc : TypeId × Value → H} {P : Program} {w : World} {held : Bool} {t e : TypeId} {k B fuel : Nat} {cs : List Value} {x : DataW H × List MemPlace} {α : Type} [Inhabited α] {cells : α → List Value} {In : α → Prop}
    (ht : P.underlying t = some (.slice e)) (hk : P.cellsOf e = k) (hk0 : 0 < k) (hB : P.bytesOf e = B)
    (el : ∀ m cs y, m < fuel → DataW.trod enc P w 0 (fun _ => true) held m e cs = some y → Small P e y.1 → ∃ z : α, cs = cells z ∧ In z)
    (h : DataW.trod enc P w 0 (fun _ => true) held fuel t cs = some x) (hs : Small P t x.1) :
    ∃ (a : Option Addr) (c : Nat) (l : List α), cs = [.slice a l.length c] ∧ l.length ≤ c ∧ c * B ≤ 140737488351232 ∧ (a = none → c = 0) ∧ RowIn w a k (l.map cells) ∧ ∀ y ∈ l, In y := by
  rcases DataW.trod_slice ht h with ⟨rfl, rfl⟩ | ⟨a, len, cap, elems, rest, n, hn, rfl, rfl, _, hl, _, hlen, hel, hsp, _⟩
  · exact ⟨none, 0, [], rfl, Nat.le_refl _, by simp, fun _ => rfl, fun i cs h => by simp at h, by simp⟩
  · have hw : ∀ z, z ∈ ((elems.map (·.1)).length + (rest.map (·.1)).length) * P.bytesOf e :: (DataW.weightsAll P e (elems.map (·.1)) ++ DataW.weightsAll P e (rest.map (·.1))) → z ≤ 140737488351232 := fun z hz => hs z (by rw [DataW.weights]; simp only [ht]; exact hz)
    obtain ⟨hr, _⟩ := hsp rfl
    have hcap := hw _ (List.mem_cons_self ..)
    rw [List.length_map, List.length_map, hlen, hr, show len + (cap - len) = cap by omega, hB] at hcap
    have hone : ∀ i, i < len → ∃ z : α, w.cells? 0 (a.add (i * k)) k = some (cells z) ∧ In z := fun i hi => by
      have h1 := hel i hi
      rw [hk, List.getElem?_eq_getElem (by omega)] at h1
      obtain ⟨cs', h2, h3⟩ := Option.bind_eq_some_iff.1 h1
      obtain ⟨z, rfl, hz⟩ := el n cs' _ (by omega) h3 (fun z hz => hw z (List.mem_cons_of_mem _ (List.mem_append_left _ (weightsAll_mem (List.mem_map_of_mem (List.getElem_mem _)) hz))))
      exact ⟨z, h2, hz⟩
    obtain ⟨f, hf⟩ := Go.Deep.choose_lt hone
    refine ⟨some a, cap, (List.range len).map f, by simp, by simpa using hl, hcap, fun h => by simp at h, fun i cs hi => ?_, fun y hy => ?_⟩
    · rw [List.getElem?_map, List.getElem?_map, Option.map_map, Option.map_eq_some_iff] at hi
      obtain ⟨i', hi', rfl⟩ := hi
      obtain ⟨hlt, rfl⟩ := List.getElem?_eq_some_iff.1 hi'
      simp only [List.length_range] at hlt
      obtain ⟨h1, _⟩ := hf i hlt
      obtain ⟨_, hcl, hc⟩ := World.cells?_some h1
      obtain ⟨h01, _⟩ := hf 0 (by omega)
      obtain ⟨_, hcl0, hc0⟩ := World.cells?_some h01
      have hsp : a.spot = none := by
        have := hc0 0 hk0
        rw [List.getElem?_eq_getElem (by omega)] at this
        have := spot_none this
        simp [Addr.add] at this
        rw [this]
      refine ⟨a.block, a.off, by rw [show (⟨a.block, a.off, none⟩ : Addr) = a by obtain ⟨b, o, s⟩ := a; simp_all], fun j v hj => ?_⟩
      simp only [List.getElem_range, Function.comp] at hj ⊢
      have hjl := (List.getElem?_eq_some_iff.1 hj).1
      exact add_spot ((hc j (by omega)).trans hj) hsp
    · obtain ⟨i, hi, rfl⟩ := List.mem_map.1 hy
      exact (hf i (by simpa using hi)).2

theorem i64_of {n : Int} (h : (Lit.int .i64 n).wf = true) : I64 n := by
  simpa [Lit.wf, I64, IntKind.min, IntKind.max, IntKind.signed, IntKind.bits] using h
theorem gTab : Tryd.prog.globalNamed "soffit/code.table" = some 0 := by kernel_rfl
theorem gTabT : (Tryd.prog.globals[0]?).map (·.type) = some 124 := by kernel_rfl
theorem cRow : Tryd.prog.cellsOf 116 = 6 := by kernel_rfl
theorem cInt : Tryd.prog.cellsOf 3 = 1 := by kernel_rfl
theorem cI64 : Tryd.prog.cellsOf 2 = 1 := by kernel_rfl
theorem cStr : Tryd.prog.cellsOf 9 = 1 := by kernel_rfl
theorem cBool : Tryd.prog.cellsOf 4 = 1 := by kernel_rfl
theorem cSpan : Tryd.prog.cellsOf 54 = 2 := by kernel_rfl
theorem cIns : Tryd.prog.cellsOf 57 = 5 := by kernel_rfl
theorem cFunc : Tryd.prog.cellsOf 37 = 5 := by kernel_rfl
theorem cMod : Tryd.prog.cellsOf 25 = 2 := by kernel_rfl
theorem cLi : Tryd.prog.cellsOf 22 = 1 := by kernel_rfl
theorem cLp : Tryd.prog.cellsOf 34 = 1 := by kernel_rfl
theorem cLx : Tryd.prog.cellsOf 35 = 1 := by kernel_rfl
theorem cLf : Tryd.prog.cellsOf 23 = 1 := by kernel_rfl
theorem bI64 : Tryd.prog.bytesOf 2 = 8 := by kernel_rfl
theorem bSpan : Tryd.prog.bytesOf 54 = 16 := by kernel_rfl
theorem bIns : Tryd.prog.bytesOf 57 = 40 := by kernel_rfl
theorem bFunc : Tryd.prog.bytesOf 37 = 80 := by kernel_rfl
/-- A row of the table, as the list has it. -/
def rowD (k : Nat) : DataW Unit := .agg [.lit (.string (rwN k).word.data.toList), .lit (.int .i64 (rwN k).weight), .lit (.int .i64 (rwN k).regs), .lit (.int .i64 (rwN k).reads), .lit (.bool (rwN k).writes), .lit (.int .i64 (rwN k).n)]
theorem tab_laid : (Rows.laid_soffit_code_table : DataW Unit) = .agg ((List.range 20).map rowD) := by kernel_rfl
theorem arr_at {H : Type} {enc : TypeId × Value → H} {P : Program} {w : World} {base : Nat} {sp : Nat → Bool} {held : Bool} {fuel : Nat} {t e : TypeId} {n : Nat} {cs : List Value} {ds : List (DataW H)} {p : List MemPlace}
    (ht : P.underlying t = some (.array n e)) (h : DataW.trod enc P w base sp held fuel t cs = some (.agg ds, p)) :
    ∃ m, ∀ i d, ds[i]? = some d → ∃ q, DataW.trod enc P w base sp held m e ((cs.drop (i * P.cellsOf e)).take (P.cellsOf e)) = some (d, q) := by
  cases fuel with
  | zero => simp [DataW.trod] at h
  | succ fuel =>
    simp only [DataW.trod, ht] at h
    split at h
    · obtain ⟨xs, hm, hx⟩ := Option.map_eq_some_iff.1 h
      have hxs : xs.map (·.1) = ds := by
        have := congrArg Prod.fst hx
        simpa using this
      refine ⟨fuel, fun i d hd => ?_⟩
      rw [← hxs, List.getElem?_map, Option.map_eq_some_iff] at hd
      obtain ⟨y, hy, rfl⟩ := hd
      have hi : i < n := by
        have h1 := (List.getElem?_eq_some_iff.1 hy).1
        have h2 := Lib.mapM_length hm
        simp at h2; omega
      obtain ⟨b, hb, hf⟩ := Lib.mapM_at hm i i (by simp [hi])
      rw [hy] at hb
      cases hb
      exact ⟨_, hf⟩
    · cases h
theorem len6 : ∀ l : List Value, l.length = 6 → ∃ c0 c1 c2 c3 c4 c5, l = [c0, c1, c2, c3, c4, c5]
  | [c0, c1, c2, c3, c4, c5], _ => ⟨c0, c1, c2, c3, c4, c5, rfl⟩
theorem len5 : ∀ l : List Value, l.length = 5 → ∃ c0 c1 c2 c3 c4, l = [c0, c1, c2, c3, c4]
  | [c0, c1, c2, c3, c4], _ => ⟨c0, c1, c2, c3, c4, rfl⟩
theorem len2 : ∀ l : List Value, l.length = 2 → ∃ c0 c1, l = [c0, c1]
  | [c0, c1], _ => ⟨c0, c1, rfl⟩
theorem row_cells {H : Type} {enc : TypeId × Value → H} {w : World} {base : Nat} {sp : Nat → Bool} {held : Bool} {m : Nat} {cs : List Value} {s : List UInt8} {a b c n : Int} {d : Bool} {q : List MemPlace}
    (h : DataW.trod enc Tryd.prog w base sp held m 116 cs = some (.agg [.lit (.string s), .lit (.int .i64 a), .lit (.int .i64 b), .lit (.int .i64 c), .lit (.bool d), .lit (.int .i64 n)], q)) :
    cs = [.string ⟨s.toArray⟩, .int .i64 a, .int .i64 b, .int .i64 c, .bool d, .int .i64 n] := by
  obtain ⟨xs, k, _, hx, hl, hlen, hf⟩ := DataW.trod_struct Tryd.underlying116 h
  rw [cRow] at hl
  match xs, hlen with
  | [y0, y1, y2, y3, y4, y5], _ =>
      have f0 : DataW.trod enc Tryd.prog w base sp held k 9 ((cs.drop 0).take (Tryd.prog.cellsOf 9)) = some y0 := hf 0 _ rfl
      have f1 : DataW.trod enc Tryd.prog w base sp held k 2 ((cs.drop 1).take (Tryd.prog.cellsOf 2)) = some y1 := hf 1 _ rfl
      have f2 : DataW.trod enc Tryd.prog w base sp held k 3 ((cs.drop 2).take (Tryd.prog.cellsOf 3)) = some y2 := hf 2 _ rfl
      have f3 : DataW.trod enc Tryd.prog w base sp held k 3 ((cs.drop 3).take (Tryd.prog.cellsOf 3)) = some y3 := hf 3 _ rfl
      have f4 : DataW.trod enc Tryd.prog w base sp held k 4 ((cs.drop 4).take (Tryd.prog.cellsOf 4)) = some y4 := hf 4 _ rfl
      have f5 : DataW.trod enc Tryd.prog w base sp held k 3 ((cs.drop 5).take (Tryd.prog.cellsOf 3)) = some y5 := hf 5 _ rfl
      clear h hf
      obtain ⟨c0, c1, c2, c3, c4, c5, rfl⟩ := len6 cs hl
      rw [cStr] at f0
      rw [cI64] at f1
      rw [cInt] at f2 f3 f5
      rw [cBool] at f4
      obtain ⟨s0, e0, rfl, _⟩ := DataW.trod_string Tryd.underlying9 f0
      obtain ⟨n1, e1, rfl, _⟩ := DataW.trod_int Tryd.underlying2 f1
      obtain ⟨n2, e2, rfl, _⟩ := DataW.trod_int Tryd.underlying3 f2
      obtain ⟨n3, e3, rfl, _⟩ := DataW.trod_int Tryd.underlying3 f3
      obtain ⟨b4, e4, rfl⟩ := DataW.trod_bool Tryd.underlying4 f4
      obtain ⟨n5, e5, rfl, _⟩ := DataW.trod_int Tryd.underlying3 f5
      simp at e0 e1 e2 e3 e4 e5 hx
      obtain ⟨⟨rfl, rfl, rfl, rfl, rfl, rfl⟩, _⟩ := hx
      subst e0 e1 e2 e3 e4 e5
      rfl
theorem tab_of {W : World} (h : laidMetH Tryd.prog Rows.boundsFewRow.laid W) : Tab W := by
  have h1 : laidMet Tryd.prog Rows.boundsFewRow.laid W := h
  have h3 : laidMet Tryd.prog (("soffit/code.table", Rows.laid_soffit_code_table) :: _) W := h1
  rw [tab_laid] at h3
  intro k hk
  obtain ⟨ps, ⟨g', t', cs, fuel, p, q, hg', ht', hvar, hd, _, _⟩, _⟩ := h3
  obtain rfl := Option.some.inj (gTab.symm.trans hg')
  obtain rfl := Option.some.inj (gTabT.symm.trans ht')
  obtain ⟨m, hm⟩ := arr_at Tryd.underlying124 hd
  obtain ⟨q', hq⟩ := hm k (rowD k) (by simp [hk])
  rw [cRow] at hq
  have hc := row_cells hq
  have hcell : ∀ j v, j < 6 → ((cs.toList.drop (k * 6)).take 6)[j]? = some v → W.cell? ⟨0, k * 6 + j, none⟩ = some v := fun j v hj hv => by
    have := World.var?_cell gTab hvar (k * 6 + j)
    rw [List.getElem?_take, if_pos hj, List.getElem?_drop] at hv
    rw [this]; simpa using hv
  rw [hc] at hcell
  exact ⟨hcell 0 _ (by decide) rfl, hcell 1 _ (by decide) rfl, hcell 2 _ (by decide) rfl, hcell 3 _ (by decide) rfl, hcell 4 _ (by decide) rfl, hcell 5 _ (by decide) rfl⟩

section
variable {H : Type} {enc : TypeId × Value → H} {w : World} {held : Bool}
theorem open_i {t : TypeId} {n : Nat} {c : Value} {y : DataW H × List MemPlace} (ht : Tryd.prog.underlying t = some (.int .i64)) (h : DataW.trod enc Tryd.prog w 0 (fun _ => true) held n t [c] = some y) : ∃ z, c = .int .i64 z ∧ I64 z := by
  obtain ⟨z, e, _, hw⟩ := DataW.trod_int ht h
  exact ⟨z, by simpa using e, i64_of hw⟩
theorem open_s {t : TypeId} {n : Nat} {c : Value} {y : DataW H × List MemPlace} (ht : Tryd.prog.underlying t = some .string) (h : DataW.trod enc Tryd.prog w 0 (fun _ => true) held n t [c] = some y) (hs : Small Tryd.prog t y.1) : ∃ s : ByteArray, c = .string s ∧ s.size ≤ 140737488351232 := by
  obtain ⟨s, e, rfl, _⟩ := DataW.trod_string ht h
  refine ⟨s, by simpa using e, ?_⟩
  have := hs s.data.toList.length (by rw [DataW.weights]; exact List.mem_singleton.2 rfl)
  rw [Array.length_toList] at this
  exact this
theorem fld {fs : Array Field} {n : Nat} {cs : List Value} (hf : ∀ (i : Nat) (f : Field), fs[i]? = some f → ∃ y, DataW.trod enc Tryd.prog w 0 (fun _ => true) held n f.type ((cs.drop f.offset).take (Tryd.prog.cellsOf f.type)) = some y ∧ Small Tryd.prog f.type y.1)
    (i : Nat) {f : Field} (hi : fs[i]? = some f) {t : TypeId} {o k : Nat} {l : List Value} (ht : f.type = t) (ho : f.offset = o) (hk : Tryd.prog.cellsOf t = k) (e : (cs.drop o).take k = l) :
    ∃ y, DataW.trod enc Tryd.prog w 0 (fun _ => true) held n t l = some y ∧ Small Tryd.prog t y.1 := by
  have := hf i f hi
  rw [ht, ho, hk, e] at this
  exact this
theorem open_sp (fuel : Nat) (cs : List Value) (x : DataW H × List MemPlace) (h : DataW.trod enc Tryd.prog w 0 (fun _ => true) held fuel 54 cs = some x) (hs : Small Tryd.prog 54 x.1) : ∃ y : Sp, cs = spC y ∧ spOk y := by
  obtain ⟨n, rfl, hl, hf⟩ := open_field Tryd.underlying54 h hs
  rw [cSpan] at hl
  obtain ⟨c0, c1, rfl⟩ := len2 cs hl
  obtain ⟨y0, f0, s0⟩ := fld hf 0 rfl (t := 2) (o := 0) (l := [c0]) rfl rfl cI64 rfl
  obtain ⟨y1, f1, s1⟩ := fld hf 1 rfl (t := 2) (o := 1) (l := [c1]) rfl rfl cI64 rfl
  obtain ⟨a, rfl, ha⟩ := open_i Tryd.underlying2 f0
  obtain ⟨b, rfl, hb⟩ := open_i Tryd.underlying2 f1
  exact ⟨(a, b), rfl, ha, hb⟩
theorem open_is (fuel : Nat) (cs : List Value) (x : DataW H × List MemPlace) (h : DataW.trod enc Tryd.prog w 0 (fun _ => true) held fuel 57 cs = some x) (hs : Small Tryd.prog 57 x.1) : ∃ y : Is, cs = y.cells ∧ y.Ok := by
  obtain ⟨n, rfl, hl, hf⟩ := open_field Tryd.underlying57 h hs
  rw [cIns] at hl
  obtain ⟨c0, c1, c2, c3, c4, rfl⟩ := len5 cs hl
  obtain ⟨y0, f0, s0⟩ := fld hf 0 rfl (t := 3) (o := 0) (l := [c0]) rfl rfl cInt rfl
  obtain ⟨y1, f1, s1⟩ := fld hf 1 rfl (t := 3) (o := 1) (l := [c1]) rfl rfl cInt rfl
  obtain ⟨y2, f2, s2⟩ := fld hf 2 rfl (t := 3) (o := 2) (l := [c2]) rfl rfl cInt rfl
  obtain ⟨y3, f3, s3⟩ := fld hf 3 rfl (t := 3) (o := 3) (l := [c3]) rfl rfl cInt rfl
  obtain ⟨y4, f4, s4⟩ := fld hf 4 rfl (t := 2) (o := 4) (l := [c4]) rfl rfl cI64 rfl
  obtain ⟨a, rfl, ha⟩ := open_i Tryd.underlying3 f0
  obtain ⟨b, rfl, hb⟩ := open_i Tryd.underlying3 f1
  obtain ⟨c, rfl, hc⟩ := open_i Tryd.underlying3 f2
  obtain ⟨d, rfl, hd⟩ := open_i Tryd.underlying3 f3
  obtain ⟨e, rfl, he⟩ := open_i Tryd.underlying2 f4
  exact ⟨⟨a, b, c, d, e⟩, rfl, ha, hb, hc, hd, he⟩
theorem open_fn (fuel : Nat) (cs : List Value) (x : DataW H × List MemPlace) (h : DataW.trod enc Tryd.prog w 0 (fun _ => true) held fuel 37 cs = some x) (hs : Small Tryd.prog 37 x.1) : ∃ y : Fn, cs = y.cells ∧ y.In w := by
  obtain ⟨n, rfl, hl, hf⟩ := open_field Tryd.underlying37 h hs
  rw [cFunc] at hl
  obtain ⟨c0, c1, c2, c3, c4, rfl⟩ := len5 cs hl
  obtain ⟨y0, f0, s0⟩ := fld hf 0 rfl (t := 9) (o := 0) (l := [c0]) rfl rfl cStr rfl
  obtain ⟨y1, f1, s1⟩ := fld hf 1 rfl (t := 34) (o := 1) (l := [c1]) rfl rfl cLp rfl
  obtain ⟨y2, f2, s2⟩ := fld hf 2 rfl (t := 3) (o := 2) (l := [c2]) rfl rfl cInt rfl
  obtain ⟨y3, f3, s3⟩ := fld hf 3 rfl (t := 3) (o := 3) (l := [c3]) rfl rfl cInt rfl
  obtain ⟨y4, f4, s4⟩ := fld hf 4 rfl (t := 35) (o := 4) (l := [c4]) rfl rfl cLx rfl
  obtain ⟨s, rfl, hsz⟩ := open_s Tryd.underlying9 f0 s0
  obtain ⟨r, rfl, hr⟩ := open_i Tryd.underlying3 f2
  obtain ⟨u, rfl, hu⟩ := open_i Tryd.underlying3 f3
  obtain ⟨a1, k1, l1, e1, p1, p2, p3, p4, p5⟩ := open_rows (α := Sp) (cells := spC) (In := spOk) (k := 2) (B := 16) Tryd.underlying34 cSpan (by decide) bSpan (fun m cs y _ => open_sp m cs y) f1 s1
  obtain ⟨a2, k2, l2, e2, q1, q2, q3, q4, q5⟩ := open_rows (α := Is) (cells := Is.cells) (In := Is.Ok) (k := 5) (B := 40) Tryd.underlying35 cIns (by decide) bIns (fun m cs y _ => open_is m cs y) f4 s4
  obtain rfl : c1 = .slice a1 l1.length k1 := by simpa using e1
  obtain rfl : c4 = .slice a2 l2.length k2 := by simpa using e2
  exact ⟨⟨s, a1, k1, l1, r, u, a2, k2, l2⟩, rfl, hsz, hr, hu, ⟨by simp only; omega, p4⟩, p5, ⟨by simp only; omega, q4⟩, q5⟩
theorem open_mo (fuel : Nat) (cs : List Value) (x : DataW H × List MemPlace) (h : DataW.trod enc Tryd.prog w 0 (fun _ => true) held fuel 25 cs = some x) (hs : Small Tryd.prog 25 x.1) :
    ∃ y : Mo, cs = [.slice y.ta y.ths.length y.tc, .slice y.fa y.funcs.length y.fc] ∧ y.In w := by
  obtain ⟨n, rfl, hl, hf⟩ := open_field Tryd.underlying25 h hs
  rw [cMod] at hl
  obtain ⟨c0, c1, rfl⟩ := len2 cs hl
  obtain ⟨y0, f0, s0⟩ := fld hf 0 rfl (t := 22) (o := 0) (l := [c0]) rfl rfl cLi rfl
  obtain ⟨y1, f1, s1⟩ := fld hf 1 rfl (t := 23) (o := 1) (l := [c1]) rfl rfl cLf rfl
  obtain ⟨a1, k1, l1, e1, p1, p2, p3, p4, p5⟩ := open_rows (α := Int) (cells := thC) (In := I64) (k := 1) (B := 8) Tryd.underlying22 cI64 (by decide) bI64 (fun m cs y _ hy _ => by
    obtain ⟨z, e, _, hw⟩ := DataW.trod_int Tryd.underlying2 hy
    exact ⟨z, e, i64_of hw⟩) f0 s0
  obtain ⟨a2, k2, l2, e2, q1, q2, q3, q4, q5⟩ := open_rows (α := Fn) (cells := Fn.cells) (In := fun y : Fn => y.In w) (k := 5) (B := 80) Tryd.underlying23 cFunc (by decide) bFunc (fun m cs y _ => open_fn m cs y) f1 s1
  obtain rfl : c0 = .slice a1 l1.length k1 := by simpa using e1
  obtain rfl : c1 = .slice a2 l2.length k2 := by simpa using e2
  exact ⟨⟨a1, k1, l1, a2, k2, l2⟩, rfl, ⟨by simp only; omega, p4⟩, p5, ⟨by simp only; omega, q4⟩, q5⟩
end
set_option maxRecDepth 100000 in
/-- An argument that is a module; an instruction; a text. -/
theorem open_module {H : Type} {enc : TypeId × Value → H} {W : World} {base : Nat} {v : Value} {d : DataW H} {p : List MemPlace} (hv : Value.okWide Tryd.prog W .any base 25 v)
    (h : DataW.Trod enc Tryd.prog W 0 (fun _ => true) true 25 v d p) (hs : Small Tryd.prog 25 d) : ∃ y : Mo, v = y.val ∧ y.In W := by
  obtain ⟨cs, rfl, hsz⟩ := okWide_struct (P := Tryd.prog) (t := 25) (v := v) (r := .any) (base := base) (w := W) Tryd.underlying25 hv
  obtain ⟨fuel, hf⟩ := h
  obtain ⟨y, e, hy⟩ := open_mo fuel _ (d, p) hf hs
  refine ⟨y, ?_, hy⟩
  rw [Mo.val]
  congr 1
  have e' : cs.toList = [.slice y.ta y.ths.length y.tc, .slice y.fa y.funcs.length y.fc] := by simpa [Value.cells] using e
  rw [← Array.toList_inj, e']
set_option maxRecDepth 100000 in
theorem open_ins {H : Type} {enc : TypeId × Value → H} {W : World} {base : Nat} {v : Value} {d : DataW H} {p : List MemPlace} (hv : Value.okWide Tryd.prog W .any base 57 v)
    (h : DataW.Trod enc Tryd.prog W 0 (fun _ => true) true 57 v d p) (hs : Small Tryd.prog 57 d) : ∃ y : Is, v = y.val ∧ y.Ok := by
  obtain ⟨cs, rfl, hsz⟩ := okWide_struct (P := Tryd.prog) (t := 57) (v := v) (r := .any) (base := base) (w := W) Tryd.underlying57 hv
  obtain ⟨fuel, hf⟩ := h
  obtain ⟨y, e, hy⟩ := open_is fuel _ (d, p) hf hs
  refine ⟨y, ?_, hy⟩
  rw [Is.val]
  congr 1
  have e' : cs.toList = y.cells := by simpa [Value.cells] using e
  rw [← Array.toList_inj, e']
  rfl
end Go.Proofs.YtfmkjdfidenfkaaDoor
