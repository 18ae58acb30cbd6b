/- Which fields of a statement are not zero. -/
import Derived.Test.YtbpemackmadhgaaDoorE1
import Derived.Test.YtbpemackmadhgaaDoorSN
import Derived.Lib.QuietBelow
namespace Go.Proofs.YtbpemackmadhgaaDoor
open Go.RowKit Go.Sort

def orZ (a b : Int) : Int := bits .or .i64 a b
/-- The fields of a statement that are not zero. -/
def usesS (s : St) : Int := orZ (orZ (orZ (orZ (orZ (orZ (bitZ 1 (!s.name.toList.isEmpty)) (bitZ 2 (s.n != 0))) (bitZ 4 (!zeroE s.a))) (bitZ 8 (!zeroE s.b))) (bitZ 16 (decide (0 < s.body.length)))) (bitZ 32 (decide (0 < s.els.length)))) (bitZ 64 (decide (0 < s.cases.length)))

theorem cell_new (w : World) (cs : Array Value) (t : TypeId) (j : Nat) (v : Value) (h : cs[j]? = some v) : ∀ d os, (grow (redrawn (w.alloc (.cells cs t)) d) os).cell? ⟨w.heap.size, j, none⟩ = some v :=
  fun d os => cell_regrown ((World.cell?_alloc_at cs t _ _ rfl).trans h) d os

set_option maxRecDepth 100000 in
set_option maxHeartbeats 4000000 in
theorem stmtUses_any (s : St) (w : World) : Calls Tryd.prog 76 #[s.val] w fun e w' => e = .returned (.int .i64 (usesS s)) ∧ Below w.heap.size w w' := by
  have HB : Hid (∀ (f : Int) (b : Bool) (w : World), Calls Tryd.prog 79 #[.int .i64 f, .bool b] w fun e w' => e = .returned (.int .i64 (bitZ f b)) ∧ Below w.heap.size w w') := fun f b w => (bit_any f b w).mono fun e w' ⟨h1, h2⟩ => ⟨h1, h2 ▸ Below.refl _ _⟩
  have HZ : Hid (∀ (x : Ex) (w : World), Calls Tryd.prog 47 #[.agg #[.int .i64 x.kind, .int .i64 x.n, .string x.name, .slice x.a x.args.length x.cap]] w fun e w' => e = .returned (.bool (zeroE x)) ∧ Below w.heap.size w w') := fun x w => zero_any x w
  unfold St.val
  have c := cell_new w #[.int .i64 s.kind, .string s.name, .int .i64 s.n, .int .i64 s.a.kind, .int .i64 s.a.n, .string s.a.name, .slice s.a.a s.a.args.length s.a.cap, .int .i64 s.b.kind, .int .i64 s.b.n, .string s.b.name, .slice s.b.a s.b.args.length s.b.cap, .slice s.ba s.body.length s.bc, .slice s.ea s.els.length s.ec, .slice s.ca s.cases.length s.cc] 46
  have c1 := c 1 _ rfl
  have c2 := c 2 _ rfl
  have c3 := c 3 _ rfl
  have c4 := c 4 _ rfl
  have c5 := c 5 _ rfl
  have c6 := c 6 _ rfl
  have c7 := c 7 _ rfl
  have c8 := c 8 _ rfl
  have c9 := c 9 _ rfl
  have c10 := c 10 _ rfl
  have c11 := c 11 _ rfl
  have c12 := c 12 _ rfl
  have c13 := c 13 _ rfl
  clear c
  go_enter Tryd.func76, Tryd.ntmps76
  go_wp2_with fail
  refine wp_region_quiet_below (by kernel_rfl) (by kernel_rfl) ?_
  repeat (go_big_quiet_step (first | (go_at_call 79; exact Calls.regrown_of (HB.out _ _ _)) | (go_at_call 47; exact Calls.regrown_of (HZ.out _ _))))
  refine wpQuiet_nil ?_
  intro _ hw'
  obtain ⟨⟨dq, osq⟩, hw''⟩ := hw'
  subst hw''
  clear c1 c2 c3 c4 c5 c6 c7 c8 c9 c10 c11 c12 c13
  go_wp2_with fail
  go_ret
  exact ⟨rfl, ((Below.refl _ w).alloc (Nat.le_refl _) _).trans ((below_regrown _ dq osq).mono (by simp))⟩
end Go.Proofs.YtbpemackmadhgaaDoor
