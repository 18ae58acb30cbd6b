/- The program's two tables; isStmt, isExpr, hasLeast; slices.Contains and rise over thresholds. -/
import Derived.Test.YtbpemackmadhgaaDoorC1
import Derived.Test.YtbpemackmadhgaaDoorE2
import Derived.Test.YtbpemackmadhgaaDoorE5
import Derived.Deep.RegionWith
namespace Go.Proofs.YtbpemackmadhgaaDoor
open Go.RowKit Go.Sort

/-- The fields that count, of each kind of statement. -/
def fldS : Nat → Int
  | 1 => 5 | 2 => 3 | 3 => 5 | 4 => 13 | 5 => 52 | 6 => 100 | 7 => 29 | 8 => 0 | 9 => 4 | 10 => 4 | _ => 0
/-- Fields, arguments, rank and sign, of each kind of expression. -/
structure Form where
  fields : Int
  args : Int
  rank : Int
  sign : ByteArray
def formE : Nat → Form
  | 1 => ⟨2, 0, 9, ⟨#[]⟩⟩ | 2 => ⟨1, 0, 9, ⟨#[]⟩⟩ | 3 => ⟨1, 1, 9, ⟨#[]⟩⟩ | 4 => ⟨1, -1, 9, ⟨#[]⟩⟩
  | 5 => ⟨0, 1, 8, ⟨#[45]⟩⟩ | 6 => ⟨0, 1, 8, ⟨#[33]⟩⟩ | 7 => ⟨0, 2, 6, ⟨#[43]⟩⟩ | 8 => ⟨0, 2, 6, ⟨#[45]⟩⟩
  | 9 => ⟨0, 2, 7, ⟨#[42]⟩⟩ | 10 => ⟨0, 2, 7, ⟨#[47]⟩⟩ | 11 => ⟨0, 2, 7, ⟨#[37]⟩⟩ | 12 => ⟨0, 2, 4, ⟨#[61, 61]⟩⟩
  | 13 => ⟨0, 2, 4, ⟨#[33, 61]⟩⟩ | 14 => ⟨0, 2, 5, ⟨#[60]⟩⟩ | 15 => ⟨0, 2, 5, ⟨#[60, 61]⟩⟩ | 16 => ⟨0, 2, 5, ⟨#[62]⟩⟩
  | 17 => ⟨0, 2, 5, ⟨#[62, 61]⟩⟩ | 18 => ⟨0, 2, 3, ⟨#[38, 38]⟩⟩ | 19 => ⟨0, 2, 2, ⟨#[124, 124]⟩⟩ | 20 => ⟨0, 3, 1, ⟨#[]⟩⟩
  | _ => ⟨0, 0, 0, ⟨#[]⟩⟩
/-- The world holds both tables. -/
def Tabs (w : World) : Prop :=
  (∀ k, k < 11 → w.cell? ⟨0, k, none⟩ = some (.int .i64 (fldS k))) ∧
  (∀ k, k < 21 → w.cell? ⟨1, k * 4, none⟩ = some (.int .i64 (formE k).fields) ∧ w.cell? ⟨1, k * 4 + 1, none⟩ = some (.int .i64 (formE k).args) ∧
    w.cell? ⟨1, k * 4 + 2, none⟩ = some (.int .i64 (formE k).rank) ∧ w.cell? ⟨1, k * 4 + 3, none⟩ = some (.string (formE k).sign))
theorem Tabs.stay {w w' : World} (hb : Below w.heap.size w w') (h : Tabs w) : Tabs w' := by
  have k1 : ∀ {p : Addr} {v : Value}, w.cell? p = some v → w'.cell? p = some v := fun h => (hb.cell (lt_of_cell h)).trans h
  exact ⟨fun k hk => k1 (h.1 k hk), fun k hk => ⟨k1 (h.2 k hk).1, k1 (h.2 k hk).2.1, k1 (h.2 k hk).2.2.1, k1 (h.2 k hk).2.2.2⟩⟩

def isS (k : Int) : Bool := decide (1 ≤ k) && decide (k ≤ 10)
def isE (k : Int) : Bool := decide (1 ≤ k) && decide (k ≤ 20)
set_option maxHeartbeats 400000 in
theorem isStmt_any (k : Int) (w : World) : Calls Tryd.prog 75 #[.int .i64 k] w fun e w' => e = .returned (.bool (isS k)) ∧ w' = w := by
  by_cases h : 1 ≤ k
  all_goals
    go_enter Tryd.func75, Tryd.ntmps75
    go_wp2
    go_ret
    exact ⟨ret_bool (by simp [isS]; try omega), rfl⟩
set_option maxHeartbeats 400000 in
theorem isExpr_any (k : Int) (w : World) : Calls Tryd.prog 90 #[.int .i64 k] w fun e w' => e = .returned (.bool (isE k)) ∧ w' = w := by
  by_cases h : 1 ≤ k
  all_goals
    go_enter Tryd.func90, Tryd.ntmps90
    go_wp2
    go_ret
    exact ⟨ret_bool (by simp [isE]; try omega), rfl⟩

/-- Has a case the least number? -/
def leastC (l : List Ca) : Bool := l.any fun c => c.n == -9223372036854775808
theorem leastC_drop {l : List Ca} {j : Nat} (h : j < l.length) : leastC (l.drop j) = (l[j].n == -9223372036854775808 || leastC (l.drop (j + 1))) := by
  rw [List.drop_eq_getElem_cons h]; rfl
set_option maxRecDepth 100000 in
set_option maxHeartbeats 1000000 in
theorem hasLeast_any (l : List Ca) (a : Option Addr) (c : Nat) (w : World) (hin : LiesC w a c l) : Calls Tryd.prog 77 #[.slice a l.length c] w fun e w' => e = .returned (.bool (leastC l)) ∧ Below w.heap.size w w' := by
  obtain ⟨hl, hc, _, hrow⟩ := hin
  have HR : Hid (RowIn w a 2 (List.map Ca.cells l)) := hrow
  clear hrow
  go_enter Tryd.func77, Tryd.ntmps77
  go_wp2_with fail
  go_loopw [7] (fun t7 wr => ∃ (j : Nat), j ≤ l.length ∧ t7 = .int .i64 j ∧ leastC (l.drop j) = leastC l ∧ Below w.heap.size w wr) (fun t7 _ => l.length - (intOf t7).toNat)
  case atStart => exact ⟨0, Nat.zero_le _, rfl, rfl, Below.refl _ w⟩
  case round =>
    obtain ⟨j, hj, rfl, hcnt, hb⟩ := hrel
    have HC : Hid (leastC (l.drop j) = leastC l) := hcnt
    clear hcnt
    have hws := hb.size
    by_cases hlt : j < l.length
    · obtain ⟨b, o, rfl, c0, c1⟩ := rowC_at (HR.out.below hb) hlt
      have hli : (j : Int) < (l.length : Int) := by omega
      have HD : Hid (leastC (l.drop j) = (l[j].n == -9223372036854775808 || leastC (l.drop (j + 1)))) := leastC_drop hlt
      generalize l[j] = s at *
      cases hm : (s.n == -9223372036854775808)
      · go_wp2_with fail
        go_roundw
        case rel => exact ⟨j + 1, by omega, by go_num, by rw [← HC.out, HD.out, hm]; rfl, hb.alloc hws _⟩
        case measure => simp [intOf]; omega
      · go_wp2_with fail
        go_ret
        exact ⟨ret_bool (by rw [← HC.out, HD.out, hm]; rfl), hb.alloc hws _⟩
    · go_wp2_with fail
      go_ret
      exact ⟨ret_bool (by rw [← HC.out, List.drop_eq_nil_of_le (by omega)]; rfl), hb⟩
end Go.Proofs.YtbpemackmadhgaaDoor
