/- A number's digits; a parameter; texts of each element. -/
import Derived.Test.YtbpemackmadhgaaDoorP3
import Derived.Test.YtbpemackmadhgaaDoorSf
import Derived.Test.YtbpemackmadhgaaDoorC9
import Derived.Deep.RegionHeld3
import Derived.Lib.AppendIntMem
namespace Go.Proofs.YtbpemackmadhgaaDoor
open Go.RowKit Go.Sort

/-- The table of powers of ten lies as it should. -/
def NumT (w : World) : Prop := Lib.TabIs Tryd.prog w "internal/strconv.uint64pow10" .u64 Lib.pow10Tab
theorem NumT.stay {w w' : World} (hb : Below w.heap.size w w') (h : NumT w) : NumT w' := Lib.tabBelow_of_tabIs h w' hb
theorem below_grow (w : World) (k : Nat) (os : Array Obj) : Below w.heap.size w (grow (w.drewN k) os) :=
  ⟨rfl, rfl, rfl, by simp [grow, World.drewN], fun i hi => by simp [grow, World.drewN, Array.getElem?_append, hi]⟩

set_option maxHeartbeats 400000 in
theorem number_any (n : Int) (w : World) (hn : I64 n) (ht : NumT w) : Calls Tryd.prog 39 #[.int .i64 n] w fun e w' => e = .returned (sB (Lib.itoa n)) ∧ Below w.heap.size w w' := by
  have HJ : Hid (Calls Tryd.prog 55 #[.int .i64 n, .int .i64 10] w fun e w' => e = .returned (sB (Lib.itoa n)) ∧ Below w.heap.size w w') :=
    (Tryd.strconv_FormatInt_10 n hn.1 hn.2 w ht).mono fun e w' ⟨he, k, os, hw⟩ => ⟨he, hw ▸ below_grow w k os⟩
  clear ht
  go_enter Tryd.func39, Tryd.ntmps39
  go_wp2_with fail
  refine HJ.out.mono ?_
  rintro e w' ⟨rfl, hb⟩
  go_wp2_with fail
  go_ret
  exact ⟨rfl, hb⟩

theorem Below.on {A B C : World} (h : Below A.heap.size A B) (k : Below B.heap.size B C) : Below A.heap.size A C := h.trans (k.mono h.size)
theorem Below.one {A B : World} (h : Below A.heap.size A B) (o : Obj) : Below A.heap.size A (B.alloc o) := h.alloc h.size o
/-- Of a world W0 that is behind: what its blocks hold is told in every world behind it. -/
theorem seen {W0 : World} {p : Addr} {v : Value} (h : W0.cell? p = some v) : ∀ w', Below W0.heap.size W0 w' → w'.cell? p = some v := fun _ hb => (hb.cell (lt_of_cell h)).trans h

theorem ret_str {a b : List UInt8} (h : a = b) : Ending.returned (sB a) = .returned (sB b) := by rw [h]
def paB (p : Pa) : List UInt8 := p.name.data.toList ++ [32, 105, 110, 32] ++ Lib.itoa p.lo ++ [46, 46] ++ Lib.itoa p.hi
set_option maxRecDepth 100000 in
set_option maxHeartbeats 4000000 in
theorem param_any (p : Pa) (w : World) (hp : p.Ok) (ht : NumT w) (hl : (paB p).length ≤ 100000) : Calls Tryd.prog 41 #[p.val] w fun e w' => e = .returned (sB (paB p)) ∧ Below w.heap.size w w' := by
  have HN : Hid (∀ n, I64 n → ∀ w', Below w.heap.size w w' → Calls Tryd.prog 39 #[.int .i64 n] w' fun e w'' => e = .returned (sB (Lib.itoa n)) ∧ Below w'.heap.size w' w'') := fun n hn w' hb => number_any n w' hn (ht.stay hb)
  have HC : Hid (cat [p.name, ⟨#[32, 105, 110, 32]⟩, ⟨(Lib.itoa p.lo).toArray⟩, ⟨#[46, 46]⟩, ⟨(Lib.itoa p.hi).toArray⟩] = paB p) := by show _ = _; simp [cat, paB]
  have HLEN : Hid ((cat [p.name, ⟨#[32, 105, 110, 32]⟩, ⟨(Lib.itoa p.lo).toArray⟩, ⟨#[46, 46]⟩, ⟨(Lib.itoa p.hi).toArray⟩]).length ≤ 140737488355328) := by show _ ≤ _; rw [HC.out]; omega
  obtain ⟨_, hlo, hhi⟩ := hp
  have HL : Hid (I64 p.lo) := hlo
  have HH : Hid (I64 p.hi) := hhi
  clear ht hlo hhi
  unfold Pa.val
  go_enter Tryd.func41, Tryd.ntmps41
  go_wp2_with fail
  have hb0 := (Below.refl _ w).alloc (Nat.le_refl _) (.cells #[.string p.name, .int .i64 p.lo, .int .i64 p.hi] 41)
  have c0 := seen (World.cell?_alloc_at (w := w) #[.string p.name, .int .i64 p.lo, .int .i64 p.hi] 41 w.heap.size 0 rfl)
  have c1 := seen (World.cell?_alloc_at (w := w) #[.string p.name, .int .i64 p.lo, .int .i64 p.hi] 41 w.heap.size 1 rfl)
  have c2 := seen (World.cell?_alloc_at (w := w) #[.string p.name, .int .i64 p.lo, .int .i64 p.hi] 41 w.heap.size 2 rfl)
  generalize w.alloc (.cells #[.string p.name, .int .i64 p.lo, .int .i64 p.hi] 41) = W0 at *
  go_region_held3 (fun w' => Below W0.heap.size W0 w') (first | exact Below.drew (Below.refl _ _) | exact Below.on (by assumption) (by assumption) | exact Below.one (by assumption) _)
    (first
      | (go_at_call 39; refine (HN.out _ (by first | exact HL.out | exact HH.out) _ (Below.on hb0 (by assumption))).mono ?_; rintro e w' ⟨rfl, hb⟩)
      | (go_at_call 56; refine (join_new [p.name, ⟨#[32, 105, 110, 32]⟩, ⟨(Lib.itoa p.lo).toArray⟩, ⟨#[46, 46]⟩, ⟨(Lib.itoa p.hi).toArray⟩] _ (Nat.le_of_ble_eq_true rfl) HLEN.out).mono ?_; rintro e w' ⟨rfl, hb⟩))
  all_goals go_wp2_with fail
  all_goals go_ret
  all_goals exact ⟨ret_str HC.out, Below.on hb0 (by assumption)⟩
end Go.Proofs.YtbpemackmadhgaaDoor
