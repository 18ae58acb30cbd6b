/- page.line: one line more. -/
import Derived.Test.YtbpemackmadhgaaDoorP1
namespace Go.Proofs.YtbpemackmadhgaaDoor
open Go.RowKit

theorem strCells_eq (s : ByteArray) : Lib.strCells s = Lib.byteCells s.data.toList := by
  unfold Lib.strCells Lib.byteCells; simp
theorem byteCells_add (l m : List UInt8) : Lib.byteCells l ++ Lib.byteCells m = Lib.byteCells (l ++ m) := by
  unfold Lib.byteCells; simp

/-- A page with a text. -/
abbrev PgT (B b : Nat) (l : List UInt8) (d : Nat) (w : World) : Prop := Pg B b (Lib.byteCells l) d w
theorem write_any (B b : Nat) (l : List UInt8) (d : Nat) (s : ByteArray) (w : World) (h : PgT B b l d w) (hlen : l.length + s.size ≤ 140737488355328) (hBw : B ≤ w.heap.size) :
    Calls Tryd.prog 52 #[.pointer (some ⟨b, 0, none⟩), .string s] w fun e w' => e = .returned (.tuple #[.int .i64 s.size, .nilIface]) ∧ PgT B b (l ++ s.data.toList) d w' ∧ Below B w w' ∧ Oth b w w' := by
  have := writeString_any B b (Lib.byteCells l) d s w h (by rw [Lib.byteCells_length]; exact hlen) hBw
  rwa [strCells_eq, byteCells_add] at this

/-- The pieces' bytes, one behind the other. -/
def cat (xs : List ByteArray) : List UInt8 := xs.flatMap (·.data.toList)
def lineB (d : Nat) (t : List UInt8) : List UInt8 := List.replicate (2 * d) 32 ++ t ++ [10]
/-- A block of pieces. -/
def Pcs (w : World) (g : Nat) (xs : List ByteArray) : Prop := ∃ cs fz, w.heap[g]? = some (.cells cs 9 fz) ∧ ∀ (j : Nat) x, xs[j]? = some x → cs[j]? = some (.string x)
theorem Pcs.oth {w w' : World} {g b : Nat} {xs : List ByteArray} (h : Pcs w g xs) (ho : Oth b w w') (hb : g ≠ b) : Pcs w' g xs := by
  obtain ⟨cs, fz, h1, h2⟩ := h
  exact ⟨cs, fz, ho g _ h1 (by simpa using hb) (fun c fz' e => by cases e), h2⟩
theorem Pcs.cell {w : World} {g : Nat} {xs : List ByteArray} (h : Pcs w g xs) {j : Nat} (hj : j < xs.length) : w.cell? ⟨g, j, none⟩ = some (.string xs[j]) := by
  obtain ⟨cs, fz, h1, h2⟩ := h
  rw [Lib.cell_of_heap h1]; exact h2 j _ (List.getElem?_eq_getElem hj)

theorem repl_two (j : Nat) : List.replicate (2 * j) (32 : UInt8) ++ [32, 32] = List.replicate (2 * (j + 1)) 32 := by
  show _ = List.replicate (2 * j + 1 + 1) 32
  rw [List.replicate_succ', List.replicate_succ', List.append_assoc]; rfl
theorem cat_take (xs : List ByteArray) (j : Nat) (h : j < xs.length) : cat (xs.take (j + 1)) = cat (xs.take j) ++ xs[j].data.toList := by
  unfold cat; rw [List.take_add_one, List.getElem?_eq_getElem h, Option.toList_some, List.flatMap_append]; simp

set_option maxRecDepth 100000 in
set_option maxHeartbeats 4000000 in
theorem line_any (B b : Nat) (l : List UInt8) (d : Nat) (xs : List ByteArray) (g cap : Nat) (w : World) (h : PgT B b l d w) (hBw : B ≤ w.heap.size) (hp : Pcs w g xs) (hgb : g ≠ b) (hn : xs.length ≤ 1000) (hd : d ≤ 100)
    (hlen : (l ++ lineB d (cat xs)).length ≤ 140737488355328) :
    Calls Tryd.prog 36 #[.pointer (some ⟨b, 0, none⟩), .slice (some ⟨g, 0, none⟩) xs.length cap] w fun e w' => e = .returned (.tuple #[]) ∧ PgT B b (l ++ lineB d (cat xs)) d w' ∧ Below B w w' ∧ Oth b w w' := by
  have HLEN : Hid (l.length + (2 * d + (cat xs).length + 1) ≤ 140737488355328) := by
    show _ ≤ _; simp only [lineB, List.length_append, List.length_replicate, List.length_cons, List.length_nil] at hlen; omega
  have HP : Hid (Pcs w g xs) := hp
  have HG : Hid (PgT B b l d w) := h
  have c2 : w.cell? ⟨b, 2, none⟩ = some (.int .i64 d) := by
    obtain ⟨p, h1⟩ := h.some
    obtain ⟨ao, cp, hbk, _⟩ := h1.slice
    rw [Lib.cell_of_heap hbk]; rfl
  clear hlen hp h
  go_enter Tryd.func36, Tryd.ntmps36
  go_wp2_with fail
  go_loopw [10] (fun t10 wr => ∃ (j : Nat), j ≤ d ∧ t10 = .int .i64 j ∧ PgT B b (l ++ List.replicate (2 * j) 32) d wr ∧ Below B w wr ∧ Oth b w wr) (fun t10 _ => d - (intOf t10).toNat)
  case atStart => exact ⟨0, Nat.zero_le _, rfl, by simpa using HG.out, Below.refl _ _, Lib.OthersKept.refl _ _ _⟩
  case round =>
    obtain ⟨j, hj, rfl, hpg, hb, ho⟩ := hrel
    have HPG : Hid (PgT B b (l ++ List.replicate (2 * j) 32) d wr) := hpg
    clear hpg c2
    have hws := hb.size
    by_cases hlt : j < d
    · have hli : (j : Int) < (d : Int) := by omega
      have h2b : (⟨#[32, 32]⟩ : ByteArray).size = 2 := rfl
      go_wp2_with fail
      refine (write_any B b _ d ⟨#[32, 32]⟩ wr HPG.out (by rw [h2b]; have := HLEN.out; simp; omega) (by omega)).mono ?_
      rintro e w1 ⟨rfl, h1, hb1, ho1⟩
      have HPG1 : Hid (PgT B b (l ++ List.replicate (2 * (j + 1)) 32) d w1) := by
        show PgT _ _ _ _ _; rw [← repl_two, ← List.append_assoc]; exact h1
      clear h1 h2b
      go_wp2_with fail
      go_roundw
      case rel => exact ⟨j + 1, by omega, by go_num, HPG1.out, hb.trans hb1, ho.trans ho1⟩
      case measure => simp [intOf]; omega
    · obtain rfl : j = d := by omega
      go_wp2_with fail
      go_loopw [19] (fun t19 wq => ∃ (i : Nat), i ≤ xs.length ∧ t19 = .int .i64 i ∧ PgT B b (l ++ List.replicate (2 * j) 32 ++ cat (xs.take i)) j wq ∧ Below B w wq ∧ Oth b w wq) (fun t19 _ => xs.length - (intOf t19).toNat)
      case atStart => exact ⟨0, Nat.zero_le _, rfl, by simpa [cat] using HPG.out, hb, ho⟩
      case round =>
        obtain ⟨i, hi, rfl, hpg, hb', ho'⟩ := hrel
        have HPG2 : Hid (PgT B b (l ++ List.replicate (2 * j) 32 ++ cat (xs.take i)) j wr) := hpg
        clear hpg hb ho
        have hws' := hb'.size
        by_cases hlt2 : i < xs.length
        · have hli : (i : Int) < (xs.length : Int) := by omega
          have k0 := (HP.out.oth ho' hgb).cell hlt2
          have HT : Hid (cat (xs.take (i + 1)) = cat (xs.take i) ++ xs[i].data.toList) := cat_take xs i hlt2
          have hle : Hid ((cat (xs.take (i + 1))).length ≤ (cat xs).length) := by
            show _ ≤ _
            have : cat xs = cat (xs.take (i + 1)) ++ cat (xs.drop (i + 1)) := by unfold cat; rw [← List.flatMap_append, List.take_append_drop]
            rw [this, List.length_append]; omega
          rw [HT.out] at hle
          generalize xs[i] = x at *
          go_wp2_with fail
          refine (write_any B b _ j x wr HPG2.out (by have := HLEN.out; have := hle.out; simp at this ⊢; omega) (by omega)).mono ?_
          rintro e w1 ⟨rfl, h1, hb1, ho1⟩
          have HPG3 : Hid (PgT B b (l ++ List.replicate (2 * j) 32 ++ cat (xs.take (i + 1))) j w1) := by
            show PgT _ _ _ _ _; rw [HT.out, ← List.append_assoc]; exact h1
          clear h1
          go_wp2_with fail
          go_roundw
          case rel => exact ⟨i + 1, by omega, by go_num, HPG3.out, hb'.trans hb1, ho'.trans ho1⟩
          case measure => simp [intOf]; omega
        · obtain rfl : i = xs.length := by omega
          have HPG4 : Hid (PgT B b (l ++ List.replicate (2 * j) 32 ++ cat xs) j wr) := by
            show PgT _ _ _ _ _; have := HPG2.out; rwa [List.take_length] at this
          clear HPG2
          go_wp2_with fail
          refine (writeByte_any B b _ j 10 wr HPG4.out (by have := HLEN.out; rw [Lib.byteCells_length]; simp; omega) (by omega)).mono ?_
          rintro e w1 ⟨rfl, h1, hb1, ho1⟩
          have HPG5 : Hid (PgT B b (l ++ lineB j (cat xs)) j w1) := by
            show PgT _ _ _ _ _
            have e : Lib.byteCells (l ++ List.replicate (2 * j) 32 ++ cat xs) ++ [.int .u8 10] = Lib.byteCells (l ++ lineB j (cat xs)) := by
              have : ([.int .u8 10] : List Value) = Lib.byteCells [10] := rfl
              rw [this, byteCells_add, lineB]; simp
            have h1' := h1
            rw [e] at h1'
            exact h1'
          clear h1
          go_wp2_with fail
          go_end0
          exact ⟨rfl, HPG5.out, hb'.trans hb1, ho'.trans ho1⟩
end Go.Proofs.YtbpemackmadhgaaDoor
