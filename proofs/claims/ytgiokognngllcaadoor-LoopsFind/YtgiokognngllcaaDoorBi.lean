/- What every card of this seat shares: a start at which the listed variables hold what the program's text lays, and what their lists say; lists of loops opened. -/
import Derived.Test.YtgiokognngllcaaDoorCards
import Derived.Test.YtgiokognngllcaaDoorTie
import Derived.Test.YtgiokognngllcaaDoorGgah
import Derived.Test.YtgiokognngllcaaDoorGgam
import Derived.Test.YtgiokognngllcaaDoorTy
import Derived.Lib.LaidTab
namespace Go.Proofs.YtgiokognngllcaaDoor
open Go.ChangeShapes Go.WideShapes Go.ChangeAt Go.RowKit

/-- A block's cells, its tag and its frozen range kept. -/
def putCells (c : Array Value) : Obj → Obj
  | .cells _ t fz => .cells c t fz
  | o => o
def tabC : Array Value := ((List.range 20).flatMap fun k => (rwN k).cells).toArray
def laidOf (w : World) : World := { w with heap := (w.heap.modify 1 (putCells (Lib.deBruijn64tab.map fun (n : Nat) => Value.int .u8 (n : Int)).toArray)).modify 0 (putCells tabC) }
def dbT : List Int := Lib.deBruijn64tab.map fun (n : Nat) => (n : Int)
theorem db_laid : (Rows.laid_math_bits_deBruijn64tab : DataW Unit) = Lib.tabData .u8 dbT := by kernel_rfl
theorem gDb : Tryd.prog.globalNamed "math/bits.deBruijn64tab" = some 1 := by kernel_rfl
theorem gDbT : (Tryd.prog.globals[1]?).map (·.type) = some 132 := by kernel_rfl
theorem gTab : Tryd.prog.globalNamed "soffit/code.table" = some 0 := by kernel_rfl
theorem gTabT : (Tryd.prog.globals[0]?).map (·.type) = some 131 := by kernel_rfl
theorem cRow : Tryd.prog.cellsOf 121 = 6 := by kernel_rfl
theorem tb_of {W : World} (h : laidMetH Tryd.prog Rows.loopsDepthRow.laid W) : 1 < W.heap.size ∧ Tb W := by
  have h1 : laidMet Tryd.prog (("math/bits.deBruijn64tab", Rows.laid_math_bits_deBruijn64tab) :: ("soffit/code.table", Rows.laid_soffit_code_table) :: []) W := h
  rw [db_laid] at h1
  have ht := Lib.tabIs_of_head gDb gDbT Tryd.underlying132 Tryd.underlying5 (by kernel_rfl) (by kernel_rfl) h1
  have hc : Tb W := fun j hj => by
    have := ht.cell gDb j (by unfold dbT; rw [List.length_map]; exact hj)
    rw [this]
    congr 2
    unfold dbT
    rw [List.getD_eq_getElem?_getD, List.getD_eq_getElem?_getD, List.getElem?_map, List.getElem?_eq_getElem hj]
    rfl
  exact ⟨World.block_lt_of_cell? W _ (hc 0 (by decide)), hc⟩
/-- A row of the table, as the list has it. -/
def rowD (k : Nat) : DataW Unit := .agg [.lit (.string (rwN k).word.data.toList), .lit (.int .i64 (rwN k).weight), .lit (.int .i64 (rwN k).regs), .lit (.int .i64 (rwN k).reads), .lit (.bool (rwN k).writes), .lit (.int .i64 (rwN k).n)]
theorem tab_laid : (Rows.laid_soffit_code_table : DataW Unit) = .agg ((List.range 20).map rowD) := by kernel_rfl
theorem arr_at {H : Type} {enc : TypeId × Value → H} {P : Program} {w : World} {base : Nat} {sp : Nat → Bool} {held : Bool} {fuel : Nat} {t e : TypeId} {n : Nat} {cs : List Value} {ds : List (DataW H)} {p : List MemPlace}
    (ht : P.underlying t = some (.array n e)) (h : DataW.trod enc P w base sp held fuel t cs = some (.agg ds, p)) :
    ∃ m, ∀ i d, ds[i]? = some d → ∃ q, DataW.trod enc P w base sp held m e ((cs.drop (i * P.cellsOf e)).take (P.cellsOf e)) = some (d, q) := by
  cases fuel with
  | zero => simp [DataW.trod] at h
  | succ fuel =>
    simp only [DataW.trod, ht] at h
    split at h
    · obtain ⟨xs, hm, hx⟩ := Option.map_eq_some_iff.1 h
      have hxs : xs.map (·.1) = ds := by
        have := congrArg Prod.fst hx
        simpa using this
      refine ⟨fuel, fun i d hd => ?_⟩
      rw [← hxs, List.getElem?_map, Option.map_eq_some_iff] at hd
      obtain ⟨y, hy, rfl⟩ := hd
      have hi : i < n := by
        have h1 := (List.getElem?_eq_some_iff.1 hy).1
        have h2 := Lib.mapM_length hm
        simp at h2; omega
      obtain ⟨b, hb, hf⟩ := Lib.mapM_at hm i i (by simp [hi])
      rw [hy] at hb
      cases hb
      exact ⟨_, hf⟩
    · cases h
theorem len6 : ∀ l : List Value, l.length = 6 → ∃ c0 c1 c2 c3 c4 c5, l = [c0, c1, c2, c3, c4, c5]
  | [c0, c1, c2, c3, c4, c5], _ => ⟨c0, c1, c2, c3, c4, c5, rfl⟩
theorem row_cells {H : Type} {enc : TypeId × Value → H} {w : World} {base : Nat} {sp : Nat → Bool} {held : Bool} {m : Nat} {cs : List Value} {s : List UInt8} {a b c n : Int} {d : Bool} {q : List MemPlace}
    (h : DataW.trod enc Tryd.prog w base sp held m 121 cs = some (.agg [.lit (.string s), .lit (.int .i64 a), .lit (.int .i64 b), .lit (.int .i64 c), .lit (.bool d), .lit (.int .i64 n)], q)) :
    cs = [.string ⟨s.toArray⟩, .int .i64 a, .int .i64 b, .int .i64 c, .bool d, .int .i64 n] := by
  obtain ⟨xs, k, _, hx, hl, hlen, hf⟩ := DataW.trod_struct Tryd.underlying121 h
  rw [cRow] at hl
  match xs, hlen with
  | [y0, y1, y2, y3, y4, y5], _ =>
      have f0 : DataW.trod enc Tryd.prog w base sp held k 9 ((cs.drop 0).take (Tryd.prog.cellsOf 9)) = some y0 := hf 0 _ rfl
      have f1 : DataW.trod enc Tryd.prog w base sp held k 2 ((cs.drop 1).take (Tryd.prog.cellsOf 2)) = some y1 := hf 1 _ rfl
      have f2 : DataW.trod enc Tryd.prog w base sp held k 3 ((cs.drop 2).take (Tryd.prog.cellsOf 3)) = some y2 := hf 2 _ rfl
      have f3 : DataW.trod enc Tryd.prog w base sp held k 3 ((cs.drop 3).take (Tryd.prog.cellsOf 3)) = some y3 := hf 3 _ rfl
      have f4 : DataW.trod enc Tryd.prog w base sp held k 4 ((cs.drop 4).take (Tryd.prog.cellsOf 4)) = some y4 := hf 4 _ rfl
      have f5 : DataW.trod enc Tryd.prog w base sp held k 3 ((cs.drop 5).take (Tryd.prog.cellsOf 3)) = some y5 := hf 5 _ rfl
      clear h hf
      obtain ⟨c0, c1, c2, c3, c4, c5, rfl⟩ := len6 cs hl
      rw [cStr] at f0
      rw [cI64] at f1
      rw [cInt] at f2 f3 f5
      rw [cBool] at f4
      obtain ⟨s0, e0, rfl, _⟩ := DataW.trod_string Tryd.underlying9 f0
      obtain ⟨n1, e1, rfl, _⟩ := DataW.trod_int Tryd.underlying2 f1
      obtain ⟨n2, e2, rfl, _⟩ := DataW.trod_int Tryd.underlying3 f2
      obtain ⟨n3, e3, rfl, _⟩ := DataW.trod_int Tryd.underlying3 f3
      obtain ⟨b4, e4, rfl⟩ := DataW.trod_bool Tryd.underlying4 f4
      obtain ⟨n5, e5, rfl, _⟩ := DataW.trod_int Tryd.underlying3 f5
      simp at e0 e1 e2 e3 e4 e5 hx
      obtain ⟨⟨rfl, rfl, rfl, rfl, rfl, rfl⟩, _⟩ := hx
      subst e0 e1 e2 e3 e4 e5
      rfl
theorem tab_of {W : World} (h : laidMetH Tryd.prog Rows.loopsDepthRow.laid W) : Tab W := by
  have h1 : laidMet Tryd.prog (("math/bits.deBruijn64tab", Rows.laid_math_bits_deBruijn64tab) :: ("soffit/code.table", Rows.laid_soffit_code_table) :: []) W := h
  rw [tab_laid] at h1
  intro k hk
  obtain ⟨ps, ⟨_, _, _, _, _, _, _, _, _, _, hrest, _⟩, _⟩ := h1
  obtain ⟨g', t', cs, fuel, p, q, hg', ht', hvar, hd, _, _⟩ := hrest
  obtain rfl := Option.some.inj (gTab.symm.trans hg')
  obtain rfl := Option.some.inj (gTabT.symm.trans ht')
  obtain ⟨m, hm⟩ := arr_at Tryd.underlying131 hd
  obtain ⟨q', hq⟩ := hm k (rowD k) (by simp [hk])
  rw [cRow] at hq
  have hc := row_cells hq
  have hcell : ∀ j v, j < 6 → ((cs.toList.drop (k * 6)).take 6)[j]? = some v → W.cell? ⟨0, k * 6 + j, none⟩ = some v := fun j v hj hv => by
    have := World.var?_cell gTab hvar (k * 6 + j)
    rw [List.getElem?_take, if_pos hj, List.getElem?_drop] at hv
    rw [this]; simpa using hv
  rw [hc] at hcell
  exact ⟨hcell 0 _ (by decide) rfl, hcell 1 _ (by decide) rfl, hcell 2 _ (by decide) rfl, hcell 3 _ (by decide) rfl, hcell 4 _ (by decide) rfl, hcell 5 _ (by decide) rfl⟩
/-- A list of loops, opened. -/
theorem cLoop : Tryd.prog.cellsOf 40 = 4 := by kernel_rfl
theorem bLoop : Tryd.prog.bytesOf 40 = 64 := by kernel_rfl
theorem bInt : Tryd.prog.bytesOf 3 = 8 := by kernel_rfl
theorem cLint : Tryd.prog.cellsOf 38 = 1 := by kernel_rfl
theorem len4 : ∀ l : List Value, l.length = 4 → ∃ c0 c1 c2 c3, l = [c0, c1, c2, c3]
  | [c0, c1, c2, c3], _ => ⟨c0, c1, c2, c3, rfl⟩
/-- One of them, with where its lists lie. -/
structure Lq where
  l : Lp
  ma : Option Addr
  mc : Nat
  ba : Option Addr
  bc : Nat
instance : Inhabited Lq := ⟨⟨⟨0, 0, [], []⟩, none, 0, none, 0⟩⟩
def Lq.cells (x : Lq) : List Value := [.int .i64 x.l.h, .int .i64 x.l.p, .slice x.ma x.l.ms.length x.mc, .slice x.ba x.l.bs.length x.bc]
def Lq.In (W : World) (x : Lq) : Prop := Lst W x.ma (x.l.ms.map iV) ∧ Lst W x.ba (x.l.bs.map iV) ∧ x.l.ms.length ≤ 1152921504606846976 ∧ x.l.bs.length ≤ 1152921504606846976
section
variable {H : Type} {enc : TypeId × Value → H} {w : World} {held : Bool}
theorem row_lst {W : World} {a : Option Addr} {l : List Int} (h : RowIn W a 1 (l.map fun z => [iV z])) : Lst W a (l.map iV) := fun j u hj => by
  rw [List.getElem?_map] at hj
  obtain ⟨z, hz, rfl⟩ := Option.map_eq_some_iff.1 hj
  obtain ⟨b, o, e, hc⟩ := h j [iV z] (by rw [List.getElem?_map, hz]; rfl)
  have := hc 0 (iV z) rfl
  exact ⟨b, o, e, by simpa using this⟩
theorem open_ints {t : TypeId} (fuel : Nat) (cs : List Value) (x : DataW H × List MemPlace) (ht : Tryd.prog.underlying t = some (.slice 3)) (h : DataW.trod enc Tryd.prog w 0 (fun _ => true) held fuel t cs = some x) (hs : Small Tryd.prog t x.1) : ∃ a c, ∃ l : List Int, cs = [.slice a l.length c] ∧ l.length ≤ 1152921504606846976 ∧ Lst w a (l.map iV) := by
  obtain ⟨a, c, l, e, p1, p2, _, p4, _⟩ := open_rows (α := Int) (cells := fun z => [iV z]) (In := fun _ => True) (k := 1) (B := 8) ht cInt (by decide) bInt (fun m cs y _ hy _ => by
    obtain ⟨z, e, _, _⟩ := DataW.trod_int Tryd.underlying3 hy
    exact ⟨z, e, trivial⟩) h hs
  exact ⟨a, c, l, e, by omega, row_lst p4⟩
theorem open_lp (fuel : Nat) (cs : List Value) (x : DataW H × List MemPlace) (h : DataW.trod enc Tryd.prog w 0 (fun _ => true) held fuel 40 cs = some x) (hs : Small Tryd.prog 40 x.1) : ∃ y : Lq, cs = y.cells ∧ y.In w := by
  obtain ⟨n, rfl, hl, hf⟩ := open_field Tryd.underlying40 h hs
  rw [cLoop] at hl
  obtain ⟨c0, c1, c2, c3, rfl⟩ := len4 cs hl
  obtain ⟨y0, f0, s0⟩ := fld hf 0 rfl (t := 3) (o := 0) (l := [c0]) rfl rfl cInt rfl
  obtain ⟨y1, f1, s1⟩ := fld hf 1 rfl (t := 3) (o := 1) (l := [c1]) rfl rfl cInt rfl
  obtain ⟨y2, f2, s2⟩ := fld hf 2 rfl (t := 38) (o := 2) (l := [c2]) rfl rfl cLint rfl
  obtain ⟨y3, f3, s3⟩ := fld hf 3 rfl (t := 38) (o := 3) (l := [c3]) rfl rfl cLint rfl
  obtain ⟨a, rfl, _⟩ := open_i Tryd.underlying3 f0
  obtain ⟨b, rfl, _⟩ := open_i Tryd.underlying3 f1
  obtain ⟨a1, k1, l1, e1, p1, p2⟩ := open_ints _ _ _ Tryd.underlying38 f2 s2
  obtain ⟨a2, k2, l2, e2, q1, q2⟩ := open_ints _ _ _ Tryd.underlying38 f3 s3
  obtain rfl : c2 = .slice a1 l1.length k1 := by simpa using e1
  obtain rfl : c3 = .slice a2 l2.length k2 := by simpa using e2
  exact ⟨⟨⟨a, b, l1, l2⟩, a1, k1, a2, k2⟩, rfl, p2, q2, p1, q1⟩
end
set_option maxRecDepth 100000 in
theorem open_loops {H : Type} {enc : TypeId × Value → H} {W : World} {base : Nat} {v : Value} {d : DataW H} {p : List MemPlace} (hv : Value.okWide Tryd.prog W .any base 27 v)
    (h : DataW.Trod enc Tryd.prog W 0 (fun _ => true) true 27 v d p) (hs : Small Tryd.prog 27 d) : ∃ (a : Option Addr) (c : Nat) (ls : List Lp), v = .slice a ls.length c ∧ LpsI W a ls ∧ ls.length ≤ 1152921504606846976 ∧ ∀ l ∈ ls, l.ms.length ≤ 1152921504606846976 ∧ l.bs.length ≤ 1152921504606846976 := by
  obtain ⟨a', n', c', rfl⟩ := okWide_slice (P := Tryd.prog) (t := 27) (v := v) (r := .any) (base := base) (w := W) Tryd.underlying27 hv
  obtain ⟨fuel, hf⟩ := h
  obtain ⟨a, c, l, e, p1, p2, _, p4, p5⟩ := open_rows (α := Lq) (cells := Lq.cells) (In := Lq.In W) (k := 4) (B := 64) Tryd.underlying27 cLoop (by decide) bLoop (fun m cs y _ => open_lp m cs y) hf hs
  have e' : Value.slice a' n' c' = .slice a l.length c := by simpa [Value.cells] using e
  refine ⟨a, c, l.map (·.l), by rw [e', List.length_map], fun i y hy => ?_, by rw [List.length_map]; omega, fun y hy => ?_⟩
  · rw [List.getElem?_map] at hy
    obtain ⟨z, hz, rfl⟩ := Option.map_eq_some_iff.1 hy
    obtain ⟨b, o, e2, hc⟩ := p4 i z.cells (by rw [List.getElem?_map, hz]; rfl)
    obtain ⟨i1, i2, _, _⟩ := p5 z (List.mem_of_getElem? hz)
    exact ⟨b, o, z.ma, z.mc, z.ba, z.bc, e2, hc 0 _ rfl, hc 1 _ rfl, hc 2 _ rfl, hc 3 _ rfl, i1, i2⟩
  · obtain ⟨z, hz, rfl⟩ := List.mem_map.1 hy
    obtain ⟨_, _, i3, i4⟩ := p5 z hz
    exact ⟨i3, i4⟩
end Go.Proofs.YtgiokognngllcaaDoor
