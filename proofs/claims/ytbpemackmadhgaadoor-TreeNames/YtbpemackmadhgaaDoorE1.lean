/- Which fields of an expression are not zero; is it one of zeros? -/
import Derived.Test.YtbpemackmadhgaaDoorE0
import Derived.Test.YtbpemackmadhgaaDoorD1
import Derived.Deep.QuietTactic
import Derived.BigQuiet
namespace Go.Proofs.YtbpemackmadhgaaDoor
open Go.RowKit

def bitZ (f : Int) (b : Bool) : Int := if b then f else 0

set_option maxHeartbeats 400000 in
theorem bit_any (f : Int) (b : Bool) (w : World) : Calls Tryd.prog 79 #[.int .i64 f, .bool b] w fun e w' => e = .returned (.int .i64 (bitZ f b)) ∧ w' = w := by
  cases b
  · go_enter Tryd.func79, Tryd.ntmps79
    go_wp2
    go_ret
    exact ⟨rfl, rfl⟩
  · go_enter Tryd.func79, Tryd.ntmps79
    go_wp2
    go_ret
    exact ⟨rfl, rfl⟩

theorem _root_.Go.RowKit.Below.drewN {B : Nat} {w w' : World} (h : Below B w w') (n : Nat) : Below B w (w'.drewN n) := h.trans ⟨rfl, rfl, rfl, Nat.le_refl _, fun _ _ => rfl⟩

/-- The fields beside Args that are not zero. -/
def usesE (x : Ex) : Int := bits .or .i64 (bitZ 1 (!x.name.toList.isEmpty)) (bitZ 2 (x.n != 0))

set_option maxRecDepth 100000 in
set_option maxHeartbeats 2000000 in
theorem exprUses_any (x : Ex) (w : World) : Calls Tryd.prog 61 #[x.val] w fun e w' => e = .returned (.int .i64 (usesE x)) ∧ Below w.heap.size w w' := by
  obtain ⟨kd, n, s, a, c, l⟩ := x
  unfold Ex.val usesE
  simp only [Ex.kind, Ex.n, Ex.name, Ex.a, Ex.cap, Ex.args]
  have HB : Hid (∀ (f : Int) (b : Bool) (w : World), Calls Tryd.prog 79 #[.int .i64 f, .bool b] w fun e w' => e = .returned (.int .i64 (bitZ f b)) ∧ w' = w) := bit_any
  go_enter Tryd.func61, Tryd.ntmps61
  go_wp2_with fail
  go_quiet ((go_at_call 79; exact Calls.quiet_of_same (HB.out _ _ _)))
  go_wp2_with fail
  go_ret
  exact ⟨rfl, ((Below.refl _ w).alloc (Nat.le_refl _) _).drewN _⟩

theorem usesE_zero (x : Ex) : (usesE x == 0) = (x.name.toList.isEmpty && (x.n == 0)) := by
  unfold usesE bitZ
  have e : (x.n == 0) = !(x.n != 0) := by simp [bne]
  rw [e]
  cases x.name.toList.isEmpty <;> cases (x.n != 0) <;> decide

theorem own_cell {w w' : World} {cs : Array Value} {t : TypeId} (hb : Below (w.alloc (.cells cs t)).heap.size (w.alloc (.cells cs t)) w') {j : Nat} {v : Value} (h : cs[j]? = some v) : w'.cell? ⟨w.heap.size, j, none⟩ = some v := by
  refine (hb.cell (p := ⟨w.heap.size, j, none⟩) (by simp)).trans ?_
  exact (World.cell?_alloc_at cs t _ _ rfl).trans h

/-- Is an expression one of zeros? -/
def zeroE (x : Ex) : Bool := x.kind == 0 && (x.name.toList.isEmpty && x.n == 0) && x.args.isEmpty

set_option maxRecDepth 100000 in
set_option maxHeartbeats 2000000 in
theorem zero_any (x : Ex) (w : World) : Calls Tryd.prog 47 #[x.val] w fun e w' => e = .returned (.bool (zeroE x)) ∧ Below w.heap.size w w' := by
  have hu := fun w => exprUses_any x w
  have hz := usesE_zero x
  unfold zeroE
  rw [← hz]
  generalize usesE x = u at hu ⊢
  obtain ⟨kd, n, s, a, c, l⟩ := x
  unfold Ex.val at hu ⊢
  simp only [Ex.kind, Ex.n, Ex.name, Ex.a, Ex.cap, Ex.args] at hu ⊢
  clear hz
  have HB : Hid (∀ w, Calls Tryd.prog 61 #[.agg #[.int .i64 kd, .int .i64 n, .string s, .slice a l.length c]] w fun e w' => e = .returned (.int .i64 u) ∧ Below w.heap.size w w') := hu
  clear hu
  by_cases hk : kd = 0
  · subst hk
    cases h2 : (u == 0)
    · go_enter Tryd.func47, Tryd.ntmps47
      go_wp2_with fail
      refine (HB.out _).mono ?_
      rintro e w' ⟨rfl, hb⟩
      have hb' := ((Below.refl _ w).alloc (Nat.le_refl _) _).trans (hb.mono (by simp))
      go_wp2_with fail
      go_ret
      exact ⟨rfl, hb'⟩
    · go_enter Tryd.func47, Tryd.ntmps47
      go_wp2_with fail
      refine (HB.out _).mono ?_
      rintro e w' ⟨rfl, hb⟩
      have c3 := own_cell hb (j := 3) rfl
      have hb' := ((Below.refl _ w).alloc (Nat.le_refl _) _).trans (hb.mono (by simp))
      go_wp2_with fail
      go_ret
      refine ⟨ret_bool ?_, hb'⟩
      cases l <;> simp
      try omega
  · have hk' : (kd == 0) = false := by simpa using hk
    go_enter Tryd.func47, Tryd.ntmps47
    go_wp2_with fail
    go_ret
    exact ⟨ret_bool (by simp [hk]), (Below.refl _ w).alloc (Nat.le_refl _) _⟩
end Go.Proofs.YtbpemackmadhgaaDoor
