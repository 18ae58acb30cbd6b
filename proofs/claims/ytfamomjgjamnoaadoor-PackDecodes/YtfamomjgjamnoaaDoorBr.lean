/- An argument that is a row of bytes, opened. -/
import Derived.Test.YtfamomjgjamnoaaDoorBq
import Derived.Test.YtfamomjgjamnoaaDoorKr
namespace Go.Proofs.YtfamomjgjamnoaaDoor
open Go.ChangeShapes Go.WideShapes Go.ChangeAt Go.RowKit

theorem cByte : Tryd.prog.cellsOf 5 = 1 := by kernel_rfl
theorem bByte : Tryd.prog.bytesOf 5 = 1 := by kernel_rfl
/-- Bytes that came in: they lie in w. -/
structure Bys (w : World) (bs : Bt) (va : Option Addr) (vc : Nat) : Prop where
  r : RowIn w va 1 (bs.map bC)
  b : ∀ a, va = some a → a.block < w.heap.size
  c : bs.length ≤ vc
  l : bs.length ≤ 140737488351232
theorem Bys.stay {w w' : World} {bs : Bt} {va : Option Addr} {vc : Nat} (h : Bys w bs va vc) (hb : Below w.heap.size w w') : Bys w' bs va vc := ⟨h.r.below hb, fun a e => Nat.lt_of_lt_of_le (h.b a e) hb.size, h.c, h.l⟩
theorem open_u8 {H : Type} {enc : TypeId × Value → H} {w : World} {held : Bool} (fuel : Nat) (cs : List Value) (x : DataW H × List MemPlace) (h : DataW.trod enc Tryd.prog w 0 (fun _ => true) held fuel 5 cs = some x) : ∃ y : UInt8, cs = bC y ∧ True := by
  obtain ⟨z, e, _, hw⟩ := DataW.trod_int Tryd.underlying5 h
  have hz : 0 ≤ z ∧ z ≤ 255 := by
    simp [Lit.wf, IntKind.min, IntKind.max] at hw
    simp [IntKind.signed, IntKind.bits] at hw
    omega
  refine ⟨UInt8.ofNat z.toNat, ?_, trivial⟩
  rw [e, bC, u8V]
  congr 2
  simp
  omega
set_option maxRecDepth 100000 in
theorem okWide_sl {W : World} {base : Nat} {a : Addr} {n c : Nat} (h : Value.okWide Tryd.prog W .any base 27 (.slice (some a) n c)) : a.block < W.heap.size := by
  simp only [Value.okWide, Tryd.underlying27, Cell.okWide, Cell.ok] at h
  obtain ⟨_, _, h⟩ := h
  unfold World.has at h
  obtain ⟨_, _, row, cs, h, _⟩ := h
  unfold World.shape? at h
  cases hb : W.heap[a.block]? with
  | none => rw [hb] at h; simp at h
  | some o => exact (Array.getElem?_eq_some_iff.1 hb).1
set_option maxRecDepth 100000 in
theorem open_bytes {H : Type} {enc : TypeId × Value → H} {W : World} {base : Nat} {v : Value} {d : DataW H} {p : List MemPlace} (hv : Value.okWide Tryd.prog W .any base 27 v)
    (h : DataW.Trod enc Tryd.prog W 0 (fun _ => true) true 27 v d p) (hs : Small Tryd.prog 27 d) : ∃ (bs : Bt) (va : Option Addr) (vc : Nat), v = .slice va bs.length vc ∧ Bys W bs va vc := by
  obtain ⟨fuel, hf⟩ := h
  obtain ⟨a, c, l, e, p1, p2, p3, p4, p5⟩ := open_rows (α := UInt8) (cells := bC) (In := fun _ => True) (k := 1) (B := 1) Tryd.underlying27 cByte (by decide) bByte (fun m cs y _ hy _ => open_u8 m cs y hy) hf hs
  have hvv : v = .slice a l.length c := by
    cases v with
    | agg cs => simp only [Value.okWide, Tryd.underlying27, Cell.okWide, Cell.ok] at hv
    | _ => simp [Value.cells] at e ⊢ <;> exact e
  subst hvv
  exact ⟨l, a, c, rfl, p4, fun ad e' => by subst e'; exact okWide_sl hv, p1, by omega⟩
end Go.Proofs.YtfamomjgjamnoaaDoor
