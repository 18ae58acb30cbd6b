/- What every card of this seat shares: a start at which the listed variables hold what the program's text lays, and what their list says of the program's two tables and of the powers of ten. -/
import Derived.Test.YtbpemackmadhgaaDoorCards
import Derived.Test.YtbpemackmadhgaaDoorTie
import Derived.Test.YtbpemackmadhgaaDoorC2
import Derived.Test.YtbpemackmadhgaaDoorP4
import Derived.WalkKit
import Derived.ProofKit
import Derived.OpenShut
import Derived.Deep.DeepHandedRow
import Derived.Lib.LaidTab
import Derived.Stop.LaidErr
namespace Go.Proofs.YtbpemackmadhgaaDoor
open Go.ChangeShapes Go.WideShapes Go.ChangeAt Go.RowKit

theorem ownK : ownKnob Tryd.prog.godebug = none := by kernel_rfl
theorem laidOutT : laidOutB Tryd.prog = true := by kernel_rfl

/-- A block's cells, its tag and its frozen range kept. -/
def putCells (c : Array Value) : Obj → Obj
  | .cells _ t fz => .cells c t fz
  | o => o
/-- The five variables as their initialisers lay them. -/
def laidHeap (h : Array Obj) : Array Obj :=
  ((((h.modify 0 (putCells #[.int .i64 0, .int .i64 5, .int .i64 3, .int .i64 5, .int .i64 13, .int .i64 52, .int .i64 100, .int .i64 29, .int .i64 0, .int .i64 4, .int .i64 4])).modify 1 (putCells #[.int .i64 0, .int .i64 0, .int .i64 0, .string ⟨#[]⟩, .int .i64 2, .int .i64 0, .int .i64 9, .string ⟨#[]⟩, .int .i64 1, .int .i64 0, .int .i64 9, .string ⟨#[]⟩, .int .i64 1, .int .i64 1, .int .i64 9, .string ⟨#[]⟩, .int .i64 1, .int .i64 (-1), .int .i64 9, .string ⟨#[]⟩, .int .i64 0, .int .i64 1, .int .i64 8, .string ⟨#[45]⟩, .int .i64 0, .int .i64 1, .int .i64 8, .string ⟨#[33]⟩, .int .i64 0, .int .i64 2, .int .i64 6, .string ⟨#[43]⟩, .int .i64 0, .int .i64 2, .int .i64 6, .string ⟨#[45]⟩, .int .i64 0, .int .i64 2, .int .i64 7, .string ⟨#[42]⟩, .int .i64 0, .int .i64 2, .int .i64 7, .string ⟨#[47]⟩, .int .i64 0, .int .i64 2, .int .i64 7, .string ⟨#[37]⟩, .int .i64 0, .int .i64 2, .int .i64 4, .string ⟨#[61, 61]⟩, .int .i64 0, .int .i64 2, .int .i64 4, .string ⟨#[33, 61]⟩, .int .i64 0, .int .i64 2, .int .i64 5, .string ⟨#[60]⟩, .int .i64 0, .int .i64 2, .int .i64 5, .string ⟨#[60, 61]⟩, .int .i64 0, .int .i64 2, .int .i64 5, .string ⟨#[62]⟩, .int .i64 0, .int .i64 2, .int .i64 5, .string ⟨#[62, 61]⟩, .int .i64 0, .int .i64 2, .int .i64 3, .string ⟨#[38, 38]⟩, .int .i64 0, .int .i64 2, .int .i64 2, .string ⟨#[124, 124]⟩, .int .i64 0, .int .i64 3, .int .i64 1, .string ⟨#[]⟩])).modify 2 (putCells #[.int .u64 1, .int .u64 10, .int .u64 100, .int .u64 1000, .int .u64 10000, .int .u64 100000, .int .u64 1000000, .int .u64 10000000, .int .u64 100000000, .int .u64 1000000000, .int .u64 10000000000, .int .u64 100000000000, .int .u64 1000000000000, .int .u64 10000000000000, .int .u64 100000000000000, .int .u64 1000000000000000, .int .u64 10000000000000000, .int .u64 100000000000000000, .int .u64 1000000000000000000, .int .u64 10000000000000000000])).modify 4 (putCells #[.int .u8 0, .int .u8 1, .int .u8 28, .int .u8 2, .int .u8 29, .int .u8 14, .int .u8 24, .int .u8 3, .int .u8 30, .int .u8 22, .int .u8 20, .int .u8 15, .int .u8 25, .int .u8 17, .int .u8 4, .int .u8 8, .int .u8 31, .int .u8 27, .int .u8 13, .int .u8 23, .int .u8 21, .int .u8 19, .int .u8 16, .int .u8 7, .int .u8 26, .int .u8 12, .int .u8 18, .int .u8 6, .int .u8 11, .int .u8 5, .int .u8 10, .int .u8 9])).modify 5 (putCells #[.int .u8 0, .int .u8 1, .int .u8 56, .int .u8 2, .int .u8 57, .int .u8 49, .int .u8 28, .int .u8 3, .int .u8 61, .int .u8 58, .int .u8 42, .int .u8 50, .int .u8 38, .int .u8 29, .int .u8 17, .int .u8 4, .int .u8 62, .int .u8 47, .int .u8 59, .int .u8 36, .int .u8 45, .int .u8 43, .int .u8 51, .int .u8 22, .int .u8 53, .int .u8 39, .int .u8 33, .int .u8 30, .int .u8 24, .int .u8 18, .int .u8 12, .int .u8 5, .int .u8 63, .int .u8 55, .int .u8 48, .int .u8 27, .int .u8 60, .int .u8 41, .int .u8 37, .int .u8 16, .int .u8 46, .int .u8 35, .int .u8 44, .int .u8 21, .int .u8 52, .int .u8 32, .int .u8 23, .int .u8 11, .int .u8 54, .int .u8 26, .int .u8 40, .int .u8 15, .int .u8 34, .int .u8 20, .int .u8 31, .int .u8 10, .int .u8 25, .int .u8 14, .int .u8 19, .int .u8 9, .int .u8 13, .int .u8 8, .int .u8 7, .int .u8 6])
def laidOf (w : World) : World := { w with heap := laidHeap w.heap }

theorem gPow : Tryd.prog.globalNamed "internal/strconv.uint64pow10" = some 2 := by kernel_rfl
theorem gPowT : (Tryd.prog.globals[2]?).map (·.type) = some 138 := by kernel_rfl
theorem cU64 : Tryd.prog.cellsOf 125 = 1 := by kernel_rfl
theorem cA20 : Tryd.prog.cellsOf 138 = 20 := by kernel_rfl
theorem pow_laid : (Rows.laid_internal_strconv_uint64pow10 : DataW Unit) = Lib.tabData .u64 Lib.pow10Tab := by kernel_rfl
theorem numT_of {W : World} (h : laidMetH Tryd.prog Rows.treeNamesRow.laid W) : NumT W := by
  have h1 : laidMet Tryd.prog Rows.treeNamesRow.laid W := h
  have h2 : laidMet Tryd.prog (("internal/strconv.uint64pow10", Rows.laid_internal_strconv_uint64pow10) :: _) W := h1.tail.tail
  rw [pow_laid] at h2
  exact Lib.tabIs_of_head gPow gPowT Tryd.underlying138 Tryd.underlying125 cU64 cA20 h2

def fldTab : List Int := [0, 5, 3, 5, 13, 52, 100, 29, 0, 4, 4]
theorem gFld : Tryd.prog.globalNamed "soffit/tree.stmtFields" = some 0 := by kernel_rfl
theorem gFldT : (Tryd.prog.globals[0]?).map (·.type) = some 115 := by kernel_rfl
theorem cInt : Tryd.prog.cellsOf 3 = 1 := by kernel_rfl
theorem cStr : Tryd.prog.cellsOf 9 = 1 := by kernel_rfl
theorem cA11 : Tryd.prog.cellsOf 115 = 11 := by kernel_rfl
theorem fld_laid : (Rows.laid_soffit_tree_stmtFields : DataW Unit) = Lib.tabData .i64 fldTab := by kernel_rfl
theorem fld_at : fldTab = (List.range 11).map fldS := by decide

theorem gFrm : Tryd.prog.globalNamed "soffit/tree.exprForms" = some 1 := by kernel_rfl
theorem gFrmT : (Tryd.prog.globals[1]?).map (·.type) = some 132 := by kernel_rfl
theorem cFrm : Tryd.prog.cellsOf 131 = 4 := by kernel_rfl
/-- A row of the second table, as the list has it. -/
def formD (k : Nat) : DataW Unit := .agg [.lit (.int .i64 (formE k).fields), .lit (.int .i64 (formE k).args), .lit (.int .i64 (formE k).rank), .lit (.string (formE k).sign.data.toList)]
theorem frm_laid : (Rows.laid_soffit_tree_exprForms : DataW Unit) = .agg ((List.range 21).map formD) := by kernel_rfl

theorem arr_at {H : Type} {enc : TypeId × Value → H} {P : Program} {w : World} {base : Nat} {sp : Nat → Bool} {held : Bool} {fuel : Nat} {t e : TypeId} {n : Nat} {cs : List Value} {ds : List (DataW H)} {p : List MemPlace}
    (ht : P.underlying t = some (.array n e)) (h : DataW.trod enc P w base sp held fuel t cs = some (.agg ds, p)) :
    ∃ m, ∀ i d, ds[i]? = some d → ∃ q, DataW.trod enc P w base sp held m e ((cs.drop (i * P.cellsOf e)).take (P.cellsOf e)) = some (d, q) := by
  cases fuel with
  | zero => simp [DataW.trod] at h
  | succ fuel =>
    simp only [DataW.trod, ht] at h
    split at h
    · obtain ⟨xs, hm, hx⟩ := Option.map_eq_some_iff.1 h
      have hxs : xs.map (·.1) = ds := by
        have := congrArg Prod.fst hx
        simpa using this
      refine ⟨fuel, fun i d hd => ?_⟩
      rw [← hxs, List.getElem?_map, Option.map_eq_some_iff] at hd
      obtain ⟨y, hy, rfl⟩ := hd
      have hi : i < n := by
        have h1 := (List.getElem?_eq_some_iff.1 hy).1
        have h2 := Lib.mapM_length hm
        simp at h2; omega
      obtain ⟨b, hb, hf⟩ := Lib.mapM_at hm i i (by simp [hi])
      rw [hy] at hb
      cases hb
      exact ⟨_, hf⟩
    · cases h

theorem four_of : ∀ l : List Value, l.length = 4 → ∃ c0 c1 c2 c3, l = [c0, c1, c2, c3]
  | [c0, c1, c2, c3], _ => ⟨c0, c1, c2, c3, rfl⟩
theorem form_cells {H : Type} {enc : TypeId × Value → H} {w : World} {base : Nat} {sp : Nat → Bool} {held : Bool} {m : Nat} {cs : List Value} {a b c : Int} {s : List UInt8} {q : List MemPlace}
    (h : DataW.trod enc Tryd.prog w base sp held m 131 cs = some (.agg [.lit (.int .i64 a), .lit (.int .i64 b), .lit (.int .i64 c), .lit (.string s)], q)) :
    cs = [.int .i64 a, .int .i64 b, .int .i64 c, .string ⟨s.toArray⟩] := by
  obtain ⟨xs, n, _, hx, hl, hlen, hf⟩ := DataW.trod_struct Tryd.underlying131 h
  rw [cFrm] at hl
  match xs, hlen with
  | [y0, y1, y2, y3], _ =>
      have f0 : DataW.trod enc Tryd.prog w base sp held n 3 ((cs.drop 0).take (Tryd.prog.cellsOf 3)) = some y0 := hf 0 _ rfl
      have f1 : DataW.trod enc Tryd.prog w base sp held n 3 ((cs.drop 1).take (Tryd.prog.cellsOf 3)) = some y1 := hf 1 _ rfl
      have f2 : DataW.trod enc Tryd.prog w base sp held n 3 ((cs.drop 2).take (Tryd.prog.cellsOf 3)) = some y2 := hf 2 _ rfl
      have f3 : DataW.trod enc Tryd.prog w base sp held n 9 ((cs.drop 3).take (Tryd.prog.cellsOf 9)) = some y3 := hf 3 _ rfl
      clear h hf
      obtain ⟨c0, c1, c2, c3, rfl⟩ := four_of cs hl
      rw [cInt] at f0 f1 f2
      rw [cStr] at f3
      obtain ⟨n0, e0, rfl, _⟩ := DataW.trod_int Tryd.underlying3 f0
      obtain ⟨n1, e1, rfl, _⟩ := DataW.trod_int Tryd.underlying3 f1
      obtain ⟨n2, e2, rfl, _⟩ := DataW.trod_int Tryd.underlying3 f2
      obtain ⟨s3, e3, rfl, _⟩ := DataW.trod_string Tryd.underlying9 f3
      simp at e0 e1 e2 e3 hx
      obtain ⟨⟨rfl, rfl, rfl, rfl⟩, _⟩ := hx
      subst e0 e1 e2 e3
      rfl

theorem tabs_of {W : World} (h : laidMetH Tryd.prog Rows.treeNamesRow.laid W) : Tabs W := by
  have h1 : laidMet Tryd.prog Rows.treeNamesRow.laid W := h
  have h2 : laidMet Tryd.prog (("soffit/tree.stmtFields", Rows.laid_soffit_tree_stmtFields) :: _) W := h1.tail.tail.tail
  have h3 : laidMet Tryd.prog (("soffit/tree.exprForms", Rows.laid_soffit_tree_exprForms) :: _) W := h1.tail.tail.tail.tail
  rw [fld_laid] at h2
  rw [frm_laid] at h3
  refine ⟨fun k hk => ?_, fun k hk => ?_⟩
  · have := (Lib.tabIs_of_head gFld gFldT Tryd.underlying115 Tryd.underlying3 cInt cA11 h2).cell gFld k (by simpa [fldTab] using hk)
    rw [this, fld_at]
    simp [List.getD, hk]
  · obtain ⟨ps, ⟨g', t', cs, fuel, p, q, hg', ht', hvar, hd, _, _⟩, _⟩ := h3
    obtain rfl := Option.some.inj (gFrm.symm.trans hg')
    obtain rfl := Option.some.inj (gFrmT.symm.trans ht')
    obtain ⟨m, hm⟩ := arr_at Tryd.underlying132 hd
    obtain ⟨q', hq⟩ := hm k (formD k) (by simp [hk])
    rw [cFrm] at hq
    have hc := form_cells hq
    have hcell : ∀ j v, j < 4 → ((cs.toList.drop (k * 4)).take 4)[j]? = some v → W.cell? ⟨1, k * 4 + j, none⟩ = some v := fun j v hj hv => by
      have := World.var?_cell gFrm hvar (k * 4 + j)
      rw [List.getElem?_take, if_pos hj, List.getElem?_drop] at hv
      rw [this]; simpa using hv
    rw [hc] at hcell
    exact ⟨hcell 0 _ (by decide) rfl, hcell 1 _ (by decide) rfl, hcell 2 _ (by decide) rfl, hcell 3 _ (by decide) rfl⟩

end Go.Proofs.YtbpemackmadhgaaDoor
