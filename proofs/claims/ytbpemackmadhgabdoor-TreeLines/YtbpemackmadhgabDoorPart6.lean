/- The statements' own first question answers yes. -/
import Derived.Test.YtbpemackmadhgabDoorPart5
import Derived.Test.YtbpemackmadhgabDoorPart3
import Derived.Deep.DeepAppendRoom
import Derived.Deep.AppendLies
import Derived.Lib.QuietBelow
import Derived.Test.YtbpemackmadhgabDoorPart4
import Derived.Test.YtbpemackmadhgabDoorPart2
import Derived.Deep.RegionHeld3
import Derived.Deep.DrawnRows
import Derived.Deep.CutRange
namespace Go.Proofs.YtbpemackmadhgabDoor
open Go.RowKit Go.Sort

theorem equalIn_flt (a b c a' b' c' : Int) (w : World) : (Op.equalIn 10000 29 (fltV a b c) (fltV a' b' c')).run Tryd.prog w = .ok (a == a' && (b == b' && c == c')) w := by
  have u3 := Tryd.underlying3
  have a3 := Tryd.isAgg3
  have z3 := Tryd.sizeOf3
  have u31 := Tryd.underlying27
  have a31 := Tryd.isAgg27
  have z31 := Tryd.sizeOf27
  have hS : Tryd.prog.underlying 29 = some (.struct (Tryd.prog.fieldsOf 29)) := by kernel_rfl
  have hp : Tryd.prog.stoodInHeld 29 = false := by kernel_rfl
  unfold fltV
  rw [show (10000 : Nat) = 9999 + 1 from rfl, run_equalIn_agg w 9999 29 _ _ hS hp]
  simp only [Program.fieldsOf, Tryd.underlying29]
  go_simp
  by_cases h1 : a = a' <;> by_cases h2 : b = b' <;> by_cases h3 : c = c' <;> simp [h1, h2, h3]

theorem keep_heap {W : World} {k : Nat} {o : Obj} (h : W.heap[k]? = some o) (o' : Obj) : (W.alloc o').heap[k]? = some o := (Lib.alloc_old W o' k (Array.getElem?_eq_some_iff.1 h).1).trans h
theorem new_heap {W : World} {k : Nat} (o : Obj) (h : W.heap.size = k) : (W.alloc o).heap[k]? = some o := by rw [← h]; exact heap_alloc_new W o
theorem set_keep {W : World} {k : Nat} {o : Obj} (a : Addr) (v : Value) (h : W.heap[k]? = some o) (hk : k ≠ a.block) : (W.setCell a v).drew.heap[k]? = some o := (Below.heap_setCell W a v k hk).trans h
theorem set_same {W : World} {b : Nat} {cs : Array Value} {T : TypeId} {fz : Nat × Nat} (h : W.heap[b]? = some (.cells cs T fz)) (i : Nat) (v : Value) : (W.setCell ⟨b, i, none⟩ v).drew.heap[b]? = some (.cells (cs.setIfInBounds i v) T fz) := by
  show (W.setCell ⟨b, i, none⟩ v).heap[b]? = _
  simp [World.setCell, Array.getElem?_modify, h]
/-- The world in which the first question's first program lies. -/
def awW (w : World) : World := ((((((w.alloc (.cells #[.int .i64 2, .int .i64 0, .string ⟨#[110]⟩, .slice none 0 0] 48)).alloc (.cells #[.int .i64 (-5), .int .i64 0] 2)).alloc (.cells #[.string ⟨#[110]⟩, .int .i64 0, .int .i64 10] 50)).alloc (.cells #[.int .i64 2, .int .i64 0, .string ⟨#[110]⟩, .slice none 0 0] 48)).alloc (.cells #[.int .i64 9, .string ⟨#[]⟩, .int .i64 0, .int .i64 5, .int .i64 0, .string ⟨#[]⟩, .slice (some ⟨w.heap.size + 1 + 1 + 1, 0, none⟩) 1 1, .int .i64 0, .int .i64 0, .string ⟨#[]⟩, .slice none 0 0, .slice none 0 0, .slice none 0 0, .slice none 0 0, .int .i64 1, .string ⟨#[]⟩, .int .i64 1, .int .i64 0, .int .i64 0, .string ⟨#[]⟩, .slice none 0 0, .int .i64 0, .int .i64 0, .string ⟨#[]⟩, .slice none 0 0, .slice none 0 0, .slice none 0 0, .slice none 0 0] 53)).alloc (.cells #[.string ⟨#[102]⟩, .slice (some ⟨w.heap.size + 1 + 1, 0, none⟩) 1 1, .slice (some ⟨w.heap.size + 1 + 1 + 1 + 1, 0, none⟩) 2 2] 36)).alloc (.cells #[.slice (some ⟨w.heap.size + 1, 0, none⟩) 2 2, .slice (some ⟨w.heap.size + 1 + 1 + 1 + 1 + 1, 0, none⟩) 1 1] 25)
theorem awW_facts (w : World) : Lay (awW w) w.heap.size ∧ (awW w).heap[w.heap.size + 1 + 1 + 1 + 1 + 1]? = some (.cells #[.string ⟨#[102]⟩, .slice (some ⟨w.heap.size + 1 + 1, 0, none⟩) 1 1, .slice (some ⟨w.heap.size + 1 + 1 + 1 + 1, 0, none⟩) 2 2] 36 (0, 0)) ∧ (awW w).heap[w.heap.size + 1 + 1 + 1 + 1 + 1 + 1]? = some (.cells #[.slice (some ⟨w.heap.size + 1, 0, none⟩) 2 2, .slice (some ⟨w.heap.size + 1 + 1 + 1 + 1 + 1, 0, none⟩) 1 1] 25 (0, 0)) ∧ Below w.heap.size w (awW w) ∧ (awW w).heap.size = w.heap.size + 1 + 1 + 1 + 1 + 1 + 1 + 1 := by
  unfold awW
  refine ⟨⟨?_, ?_, ?_, ?_⟩, ?_, ?_, ?_, by simp⟩
  · exact keep_heap (keep_heap (keep_heap (keep_heap (keep_heap (new_heap _ (by simp)) _) _) _) _) _
  · exact keep_heap (keep_heap (keep_heap (keep_heap (new_heap _ (by simp)) _) _) _) _
  · exact keep_heap (keep_heap (keep_heap (new_heap _ (by simp)) _) _) _
  · exact keep_heap (keep_heap (new_heap _ (by simp)) _) _
  · exact keep_heap (new_heap _ (by simp)) _
  · exact new_heap _ (by simp)
  · exact Below.one (Below.one (Below.one (Below.one (Below.one (Below.one (Below.one (Below.refl _ w) _) _) _) _) _) _) _

set_option maxRecDepth 100000 in
set_option maxHeartbeats 16000000 in
theorem awake_any (w : World) (ht : Tabs w) (hnt : NumT w) : Calls Tryd.prog 6 #[] w fun e w' => e = .returned (.bool true) ∧ Below w.heap.size w w' := by
  obtain ⟨lay, k5, k6, hb0, hs0⟩ := awW_facts w
  have HT : Hid (Tabs w) := ht
  have HN : Hid (NumT w) := hnt
  clear ht hnt
  go_enter Tryd.func6, Tryd.ntmps6
  go_wp2_with fail
  obtain ⟨W7, hW7⟩ : ∃ W7, awW w = W7 := ⟨_, rfl⟩
  rw [hW7] at lay k5 k6 hb0 hs0
  unfold awW at hW7
  rw [hW7]
  clear hW7
  obtain ⟨B, hB⟩ : ∃ B, w.heap.size = B := ⟨_, rfl⟩
  have HB : Hid (w.heap.size = B) := hB
  rw [hB] at lay k5 k6 hs0 ⊢
  have hck := check_any (aPr B (B + 1 + 1 + 1 + 1 + 1) [aRet B, aLet]) W7 (aPr_in lay (body_p lay) k5) (HT.out.stay hb0)
  rw [check_p] at hck
  have HCK : Hid (Calls Tryd.prog 7 #[.agg #[.slice (some ⟨B + 1, 0, none⟩) 2 2, .slice (some ⟨B + 1 + 1 + 1 + 1 + 1, 0, none⟩) 1 1]] W7 fun e w' => e = .returned (fltV 5 0 2) ∧ Below W7.heap.size W7 w') := hck
  clear hck hB
  refine HCK.out.mono ?_
  rintro e w1 ⟨rfl, hb1⟩
  have lay1 := lay.stay hb1
  have K5 := (hb1.block (B + 1 + 1 + 1 + 1 + 1) (by omega)).trans k5
  have K6 := (hb1.block (B + 1 + 1 + 1 + 1 + 1 + 1) (by omega)).trans k6
  have hbw := Below.on hb0 hb1
  have HLAY : Hid (Lay w1 B) := lay1
  have p0 : w1.cell? ⟨B + 1 + 1 + 1 + 1 + 1 + 1, 0, none⟩ = some (.slice (some ⟨B + 1, 0, none⟩) 2 2) := by rw [Lib.cell_of_heap K6]; rfl
  have p1 : w1.cell? ⟨B + 1 + 1 + 1 + 1 + 1 + 1, 1, none⟩ = some (.slice (some ⟨B + 1 + 1 + 1 + 1 + 1, 0, none⟩) 1 1) := by rw [Lib.cell_of_heap K6]; rfl
  have f0 : w1.cell? ⟨B + 1 + 1 + 1 + 1 + 1, 0, none⟩ = some (.string ⟨#[102]⟩) := by rw [Lib.cell_of_heap K5]; rfl
  have f1 : w1.cell? ⟨B + 1 + 1 + 1 + 1 + 1, 1, none⟩ = some (.slice (some ⟨B + 1 + 1, 0, none⟩) 1 1) := by rw [Lib.cell_of_heap K5]; rfl
  have f2 : w1.cell? ⟨B + 1 + 1 + 1 + 1 + 1, 2, none⟩ = some (.slice (some ⟨B + 1 + 1 + 1 + 1, 0, none⟩) 2 2) := by rw [Lib.cell_of_heap K5]; rfl
  have hs1 : B + 1 + 1 + 1 + 1 + 1 + 1 < w1.heap.size := by have := hb1.size; omega
  have hs2 : B + 1 + 1 + 1 + 1 + 1 < w1.heap.size := by omega
  have g0 : ∀ o1 o2, ((w1.alloc o1).alloc o2).cell? ⟨B + 1 + 1 + 1 + 1 + 1, 0, none⟩ = some (.string ⟨#[102]⟩) := fun o1 o2 => by rw [Lib.cell_of_heap (keep_heap (keep_heap K5 o1) o2)]; rfl
  have g1 : ∀ o1 o2, ((w1.alloc o1).alloc o2).cell? ⟨B + 1 + 1 + 1 + 1 + 1, 1, none⟩ = some (.slice (some ⟨B + 1 + 1, 0, none⟩) 1 1) := fun o1 o2 => by rw [Lib.cell_of_heap (keep_heap (keep_heap K5 o1) o2)]; rfl
  have g2 : ∀ o1 o2, ((w1.alloc o1).alloc o2).cell? ⟨B + 1 + 1 + 1 + 1 + 1, 2, none⟩ = some (.slice (some ⟨B + 1 + 1 + 1 + 1, 0, none⟩) 2 2) := fun o1 o2 => by rw [Lib.cell_of_heap (keep_heap (keep_heap K5 o1) o2)]; rfl
  have HK5 : Hid (w1.heap[B + 1 + 1 + 1 + 1 + 1]? = some (.cells #[.string ⟨#[102]⟩, .slice (some ⟨B + 1 + 1, 0, none⟩) 1 1, .slice (some ⟨B + 1 + 1 + 1 + 1, 0, none⟩) 2 2] 36 (0, 0))) := K5
  have HK6 : Hid (w1.heap[B + 1 + 1 + 1 + 1 + 1 + 1]? = some (.cells #[.slice (some ⟨B + 1, 0, none⟩) 2 2, .slice (some ⟨B + 1 + 1 + 1 + 1 + 1, 0, none⟩) 1 1] 25 (0, 0))) := K6
  clear lay lay1 k5 k6 K5 K6 hb0 hb1 HCK hs0
  go_wp2_with fail
  clear f0 f1 f2 g0 g1 g2 p0
  obtain ⟨W3, hW3⟩ : ∃ W3, (((w1.alloc (.cells #[.int .i64 5, .int .i64 0, .int .i64 2] 29)).alloc (.cells #[.slice (some ⟨B + 1, 0, none⟩) 2 2, .slice (some ⟨w1.heap.size + 1 + 1, 0, none⟩) 1 1] 25)).alloc (.cells #[.string ⟨#[102]⟩, .slice (some ⟨B + 1 + 1, 0, none⟩) 1 1, .slice (some ⟨B + 1 + 1 + 1 + 1, 0, none⟩) 2 2] 36)) = W3 := ⟨_, rfl⟩
  have hb3 : Below w1.heap.size w1 W3 := by rw [← hW3]; exact Below.one (Below.one (Below.one (Below.refl _ w1) _) _) _
  obtain ⟨S, hS⟩ : ∃ S, w1.heap.size = S := ⟨_, rfl⟩
  have k7 : W3.heap[S]? = some (.cells #[.int .i64 5, .int .i64 0, .int .i64 2] 29 (0, 0)) := by rw [← hW3]; exact keep_heap (keep_heap (new_heap _ hS) _) _
  have k8 : W3.heap[S + 1]? = some (.cells #[.slice (some ⟨B + 1, 0, none⟩) 2 2, .slice (some ⟨S + 1 + 1, 0, none⟩) 1 1] 25 (0, 0)) := by rw [← hW3, hS]; exact keep_heap (new_heap _ (by simp [hS])) _
  have k9 : W3.heap[S + 1 + 1]? = some (.cells #[.string ⟨#[102]⟩, .slice (some ⟨B + 1 + 1, 0, none⟩) 1 1, .slice (some ⟨B + 1 + 1 + 1 + 1, 0, none⟩) 2 2] 36 (0, 0)) := by rw [← hW3]; exact new_heap _ (by simp [hS])
  have k5 := (hb3.block (B + 1 + 1 + 1 + 1 + 1) (by omega)).trans HK5.out
  have k6 := (hb3.block (B + 1 + 1 + 1 + 1 + 1 + 1) (by omega)).trans HK6.out
  have hS3 : W3.heap.size = S + 1 + 1 + 1 := by rw [← hW3]; simp [hS]
  rw [hW3]
  rw [hS] at hs1 hs2 ⊢
  have e0 : W3.drew.cell? ⟨S + 1, 1, none⟩ = some (.slice (some ⟨S + 1 + 1, 0, none⟩) 1 1) := by
    have : W3.drew.heap[S + 1]? = _ := k8
    rw [Lib.cell_of_heap this]; rfl
  have e1 : W3.drew.cell? ⟨B + 1 + 1 + 1 + 1 + 1 + 1, 1, none⟩ = some (.slice (some ⟨B + 1 + 1 + 1 + 1 + 1, 0, none⟩) 1 1) := by
    have : W3.drew.heap[B + 1 + 1 + 1 + 1 + 1 + 1]? = _ := k6
    rw [Lib.cell_of_heap this]; rfl
  have e2 : W3.drew.cell? ⟨B + 1 + 1 + 1 + 1 + 1, 2, none⟩ = some (.slice (some ⟨B + 1 + 1 + 1 + 1, 0, none⟩) 2 2) := by
    have : W3.drew.heap[B + 1 + 1 + 1 + 1 + 1]? = _ := k5
    rw [Lib.cell_of_heap this]; rfl
  have e3 : W3.drew.cell? ⟨S + 1 + 1, 2, none⟩ = some (.slice (some ⟨B + 1 + 1 + 1 + 1, 0, none⟩) 2 2) := by
    have : W3.drew.heap[S + 1 + 1]? = _ := k9
    rw [Lib.cell_of_heap this]; rfl
  have e4 : W3.frozen? ⟨S + 1 + 1, 2, none⟩ = false := by simp [World.frozen?, k9]
  have HH : Hid (Below w1.heap.size w1 W3 ∧ Lay w1 B ∧ Below w.heap.size w w1 ∧ w1.heap.size = S ∧ W3.heap.size = S + 1 + 1 + 1) := ⟨hb3, HLAY.out, hbw, hS, hS3⟩
  have K5 := show Hid _ from k5
  have K6 := show Hid _ from k6
  have K7 := show Hid _ from k7
  have K8 := show Hid _ from k8
  have K9 := show Hid _ from k9
  clear hb3 hS hS3 hW3 HLAY hbw k5 k6 k7 k8 k9 p1 HK5 HK6
  go_region
  obtain ⟨W4, hW4⟩ : ∃ W4, (W3.setCell ⟨S + 1 + 1, 2, none⟩ (.slice (some ⟨B + 1 + 1 + 1 + 1, 0, none⟩) 1 2)).drew = W4 := ⟨_, rfl⟩
  rw [hW4]
  have k5 := set_keep ⟨S + 1 + 1, 2, none⟩ (.slice (some ⟨B + 1 + 1 + 1 + 1, 0, none⟩) 1 2) K5.out (by show _ ≠ S + 1 + 1; omega)
  have k6 := set_keep ⟨S + 1 + 1, 2, none⟩ (.slice (some ⟨B + 1 + 1 + 1 + 1, 0, none⟩) 1 2) K6.out (by show _ ≠ S + 1 + 1; omega)
  have k7 := set_keep ⟨S + 1 + 1, 2, none⟩ (.slice (some ⟨B + 1 + 1 + 1 + 1, 0, none⟩) 1 2) K7.out (by show _ ≠ S + 1 + 1; omega)
  have k8 := set_keep ⟨S + 1 + 1, 2, none⟩ (.slice (some ⟨B + 1 + 1 + 1 + 1, 0, none⟩) 1 2) K8.out (by show _ ≠ S + 1 + 1; omega)
  rw [hW4] at k5 k6 k7 k8
  have k9 : W4.heap[S + 1 + 1]? = some (.cells #[.string ⟨#[102]⟩, .slice (some ⟨B + 1 + 1, 0, none⟩) 1 1, .slice (some ⟨B + 1 + 1 + 1 + 1, 0, none⟩) 1 2] 36 (0, 0)) := by rw [← hW4]; exact set_same K9.out 2 _
  obtain ⟨hb3, hlay, hbw, hS, hS3⟩ := HH.out
  have hb4 : Below w1.heap.size w1 W4 := by rw [← hW4]; exact Below.drew (Below.setCell hb3 (by show _ ≤ S + 1 + 1; omega) _)
  have hS4 : W4.heap.size = S + 1 + 1 + 1 := by rw [← hW4]; show (W3.setCell _ _).heap.size = _; simp [World.setCell, hS3]
  have hbw4 : Below w.heap.size w W4 := Below.on hbw hb4
  have hlay4 : Lay W4 B := hlay.stay hb4
  have hpr := awPrint W4 B (S + 1 + 1) hlay4 k9 (HT.out.stay hbw4) (HN.out.stay hbw4)
  have HPR : Hid (Calls Tryd.prog 11 #[.agg #[.slice (some ⟨B + 1, 0, none⟩) 2 2, .slice (some ⟨S + 1 + 1, 0, none⟩) 1 1]] W4 fun e w' => e = .returned (.tuple #[.string ⟨#[119, 105, 100, 101, 110, 32, 45, 53, 44, 32, 48, 59, 10, 102, 110, 32, 102, 40, 110, 32, 105, 110, 32, 48, 46, 46, 49, 48, 41, 32, 123, 10, 32, 32, 114, 101, 116, 117, 114, 110, 32, 45, 110, 59, 10, 125, 10]⟩, .agg #[.int .i64 0, .int .i64 0, .int .i64 0]]) ∧ Below W4.heap.size W4 w') := hpr
  have q0 : W4.cell? ⟨S + 1, 0, none⟩ = some (.slice (some ⟨B + 1, 0, none⟩) 2 2) := by rw [Lib.cell_of_heap k8]; rfl
  have q1 : W4.cell? ⟨S + 1, 1, none⟩ = some (.slice (some ⟨S + 1 + 1, 0, none⟩) 1 1) := by rw [Lib.cell_of_heap k8]; rfl
  clear K5 K6 K7 K8 K9 HH e0 e1 e2 e3 e4 hb3 hlay hbw hpr hW4 hS hS3
  have K5 := show Hid _ from k5
  have K6 := show Hid _ from k6
  have K7 := show Hid _ from k7
  have K8 := show Hid _ from k8
  have K9 := show Hid _ from k9
  have HH : Hid (Below w.heap.size w W4 ∧ Lay W4 B ∧ W4.heap.size = S + 1 + 1 + 1) := ⟨hbw4, hlay4, hS4⟩
  clear k5 k6 k7 k8 k9 hbw4 hlay4 hS4 hb4
  go_wp2_with fail
  refine HPR.out.mono ?_
  rintro e w5 ⟨rfl, hb5⟩
  clear q0 q1 HPR
  obtain ⟨hbw4, hlay4, hS4⟩ := HH.out
  have hbw5 := Below.on hbw4 hb5
  have hlay5 := hlay4.stay hb5
  have k5 := (hb5.block (B + 1 + 1 + 1 + 1 + 1) (by omega)).trans K5.out
  have k6 := (hb5.block (B + 1 + 1 + 1 + 1 + 1 + 1) (by omega)).trans K6.out
  have k7 := (hb5.block S (by omega)).trans K7.out
  have k8 := (hb5.block (S + 1) (by omega)).trans K8.out
  have k9 := (hb5.block (S + 1 + 1) (by omega)).trans K9.out
  have hs5 := hb5.size
  rw [hS4] at hs5
  have s5 : S + 1 < w5.heap.size := by omega
  have s6 : S < w5.heap.size := by omega
  have s7 : B + 1 + 1 + 1 + 1 + 1 + 1 < w5.heap.size := by omega
  clear K5 K6 K7 K8 K9 HH hb5 hbw4 hlay4 hS4 hs5 hs1 hs2
  have a0 : w5.cell? ⟨S, 0, none⟩ = some (.int .i64 5) := by rw [Lib.cell_of_heap k7]; rfl
  have a1 : w5.cell? ⟨S, 1, none⟩ = some (.int .i64 0) := by rw [Lib.cell_of_heap k7]; rfl
  have a2 : w5.cell? ⟨S, 2, none⟩ = some (.int .i64 2) := by rw [Lib.cell_of_heap k7]; rfl
  have q0 : w5.cell? ⟨S + 1, 0, none⟩ = some (.slice (some ⟨B + 1, 0, none⟩) 2 2) := by rw [Lib.cell_of_heap k8]; rfl
  have q1 : w5.cell? ⟨S + 1, 1, none⟩ = some (.slice (some ⟨S + 1 + 1, 0, none⟩) 1 1) := by rw [Lib.cell_of_heap k8]; rfl
  have hq := equalIn_flt
  have hg : ∀ (w : World) (op : BinOp) (a b : Operand) (xs ys : Array Value), (eqGuard op 29 a b (.agg xs) (.agg ys)).run Tryd.prog w = .ok () w := fun w op a b xs ys => run_eqGuard_agg w op 29 a b xs ys (by kernel_rfl)
  unfold fltV at hq
  have K5 := show Hid _ from k5
  have K6 := show Hid _ from k6
  have K8 := show Hid _ from k8
  have K9 := show Hid _ from k9
  have HQ : Hid ((aPr B (S + 1 + 1) [aRet B]).In w5) := aPr_in hlay5 (body_q hlay5) k9
  have HP : Hid ((aPr B (B + 1 + 1 + 1 + 1 + 1) [aRet B, aLet]).In w5) := aPr_in hlay5 (body_p hlay5) k5
  have HH : Hid (Below w.heap.size w w5) := hbw5
  have g0 : Hid (w5.cell? ⟨B + 1 + 1 + 1 + 1 + 1 + 1, 0, none⟩ = some (.slice (some ⟨B + 1, 0, none⟩) 2 2)) := by rw [Lib.cell_of_heap k6]; rfl
  have g1 : Hid (w5.cell? ⟨B + 1 + 1 + 1 + 1 + 1 + 1, 1, none⟩ = some (.slice (some ⟨B + 1 + 1 + 1 + 1 + 1, 0, none⟩) 1 1)) := by rw [Lib.cell_of_heap k6]; rfl
  have HN1 : Hid (∀ w', Below w5.heap.size w5 w' → Calls Tryd.prog 13 #[.agg #[.slice (some ⟨B + 1, 0, none⟩) 2 2, .slice (some ⟨S + 1 + 1, 0, none⟩) 1 1]] w' fun e w'' => e = .returned (.int .i64 3) ∧ Below w'.heap.size w' w'') := fun w' hb => by
    have := nodes_any (aPr B (S + 1 + 1) [aRet B]) w' (HQ.out.stay hb)
    rw [nodes_q] at this; exact this
  have HS1 : Hid (∀ w', Below w5.heap.size w5 w' → Calls Tryd.prog 10 #[.agg #[.slice (some ⟨B + 1, 0, none⟩) 2 2, .slice (some ⟨S + 1 + 1, 0, none⟩) 1 1], .agg #[.slice (some ⟨B + 1, 0, none⟩) 2 2, .slice (some ⟨S + 1 + 1, 0, none⟩) 1 1]] w' fun e w'' => e = .returned (.bool true) ∧ Below w'.heap.size w' w'') := fun w' hb => by
    have := same_any (aPr B (S + 1 + 1) [aRet B]) (aPr B (S + 1 + 1) [aRet B]) w' (HQ.out.stay hb) (HQ.out.stay hb)
    rw [same_qq] at this; exact this
  have HS2 : Hid (∀ w', Below w5.heap.size w5 w' → Calls Tryd.prog 10 #[.agg #[.slice (some ⟨B + 1, 0, none⟩) 2 2, .slice (some ⟨B + 1 + 1 + 1 + 1 + 1, 0, none⟩) 1 1], .agg #[.slice (some ⟨B + 1, 0, none⟩) 2 2, .slice (some ⟨S + 1 + 1, 0, none⟩) 1 1]] w' fun e w'' => e = .returned (.bool false) ∧ Below w'.heap.size w' w'') := fun w' hb => by
    have := same_any (aPr B (B + 1 + 1 + 1 + 1 + 1) [aRet B, aLet]) (aPr B (S + 1 + 1) [aRet B]) w' (HP.out.stay hb) (HQ.out.stay hb)
    rw [same_pq] at this; exact this
  have g2 := show Hid _ from q0
  have g3 := show Hid _ from q1
  clear k5 k6 k7 k8 k9 hbw5 hlay5 HQ HP
  go_wp2_with fail
  have hba := Below.one (Below.refl w5.heap.size w5) (.cells #[.int .i64 0, .int .i64 0, .int .i64 0] 29)
  refine (HN1.out _ hba).mono ?_
  rintro e w6 ⟨rfl, hb6⟩
  have hb6' := Below.on hba hb6
  clear q0 q1 a0 a1 a2 hq hg hb6 hba HN1
  have q0 := (hb6'.cell (p := ⟨S + 1, 0, none⟩) s5).trans g2.out
  have q1 := (hb6'.cell (p := ⟨S + 1, 1, none⟩) s5).trans g3.out
  go_wp2_with fail
  refine (HS1.out _ hb6').mono ?_
  rintro e w7 ⟨rfl, hb7⟩
  have hb7' := Below.on hb6' hb7
  clear q0 q1 hb6' hb7 HS1
  have q0 := (hb7'.cell (p := ⟨S + 1, 0, none⟩) s5).trans g2.out
  have q1 := (hb7'.cell (p := ⟨S + 1, 1, none⟩) s5).trans g3.out
  have p0 := (hb7'.cell (p := ⟨B + 1 + 1 + 1 + 1 + 1 + 1, 0, none⟩) s7).trans g0.out
  have p1 := (hb7'.cell (p := ⟨B + 1 + 1 + 1 + 1 + 1 + 1, 1, none⟩) s7).trans g1.out
  go_wp2_with fail
  refine (HS2.out _ hb7').mono ?_
  rintro e w8 ⟨rfl, hb8⟩
  have hb8' := Below.on HH.out (Below.on hb7' hb8)
  clear q0 q1 p0 p1 hb7' hb8 HS2
  go_wp2_with fail
  go_ret
  exact ⟨rfl, hb8'⟩
end Go.Proofs.YtbpemackmadhgabDoor

/- The document's own copies: expressions. -/
namespace Go.Proofs.YtbpemackmadhgabDoor
open Go.RowKit

theorem Tryd.infoEx : (Tryd.prog.info? 48).map (fun i => (i.zero, i.size, i.bytes)) = some (some (.agg #[.int .i64 0, .int .i64 0, .string ⟨#[]⟩, .slice none 0 0]), 4, 56) := by kernel_rfl

/- No list has more than 2^20 elements. -/
mutual
def Ex.Few : Ex → Prop | .mk _ _ _ _ _ l => l.length ≤ 1048576 ∧ FewL l
def FewL : List Ex → Prop | [] => True | x :: r => x.Few ∧ FewL r
end
theorem fewL_mem {l : List Ex} : FewL l ↔ ∀ x ∈ l, x.Few := by induction l <;> simp_all [FewL]
theorem Ex.few_iff {x : Ex} : x.Few ↔ x.args.length ≤ 1048576 ∧ ∀ y ∈ x.args, y.Few := by cases x; simp only [Ex.Few, Ex.args, fewL_mem]

theorem owns_heap {W W' : World} {base : Nat} {e : TypeId} {sz G n cap : Nat} {xs : List Value} (h : W.ownsRow base e sz (.slice (some ⟨G, 0, none⟩) n cap) n xs) (hk : W'.heap[G]? = W.heap[G]?) : W'.ownsRow base e sz (.slice (some ⟨G, 0, none⟩) n cap) n xs := by
  refine ⟨h.1, ?_⟩
  rcases h.2 with h | ⟨g, cap, cur, h1, h2, h3, h4⟩
  · exact .inl h
  · cases h1
    exact .inr ⟨_, _, cur, rfl, h2, hk.trans h3, h4⟩
theorem owns_lt {W : World} {base : Nat} {e : TypeId} {sz G n cap : Nat} {xs : List Value} (h : W.ownsRow base e sz (.slice (some ⟨G, 0, none⟩) n cap) n xs) : G < W.heap.size := by
  rcases h.2 with ⟨h, _⟩ | ⟨g, cap, cur, h1, h2, h3, _⟩
  · cases h
  · cases h1; exact (Array.getElem?_eq_some_iff.1 h3).1
/-- A row that is full is its block. -/
theorem owns_full {W : World} {base : Nat} {e : TypeId} {sz G n : Nat} {xs : List Value} (h : W.ownsRow base e sz (.slice (some ⟨G, 0, none⟩) n n) n xs) : W.heap[G]? = some (.cells ⟨xs⟩ e (0, 0)) := by
  rcases h.2 with ⟨h, _⟩ | ⟨g, cap, cur, h1, h2, h3, h4, h5, h6, h7⟩
  · cases h
  · cases h1
    rw [h3]
    congr 2
    rw [← h7, List.take_of_length_le (by rw [Array.length_toList, h6]; exact Nat.le_refl _)]
theorem set_cell {W : World} {b : Nat} {cs : Array Value} {T : TypeId} {fz : Nat × Nat} (h : W.heap[b]? = some (.cells cs T fz)) (i : Nat) (v : Value) : (W.setCell ⟨b, i, none⟩ v).heap[b]? = some (.cells (cs.setIfInBounds i v) T fz) := by
  simp [World.setCell, Array.getElem?_modify, h]
theorem erL_len {l t : List Ex} (h : erL l = erL t) : l.length = t.length := by
  have := congrArg List.length h
  simpa [erL_map] using this

/-- What comes of a list of expressions. -/
def CpR (w w' : World) (l : List Ex) (e : Ending) : Prop := ∃ (g : Nat) (l' : List Ex), e = .returned (.slice (some ⟨g, 0, none⟩) l.length (l.length + 1)) ∧ RowCp w' (some ⟨g, 0, none⟩) (l.length + 1) l'.length 56 48 (l'.flatMap Ex.cells ++ senE) ∧ (∀ x ∈ l', x.Cp w') ∧ erL l' = erL l ∧ (g :: blL l').Nodup ∧ (∀ b ∈ g :: blL l', w.heap.size ≤ b ∧ b < w'.heap.size)

set_option maxRecDepth 100000 in
set_option maxHeartbeats 8000000 in
theorem exprsOf_step (n : Nat) (ih : ∀ (l : List Ex) (a : Option Addr) (c : Nat) (w : World), szL l < n → HaveE w a c l → l.length ≤ 1048576 → (∀ x ∈ l, x.Few) → Calls Tryd.prog 36 #[.slice a l.length c] w fun e w' => CpR w w' l e ∧ Below w.heap.size w w')
    (l : List Ex) (a : Option Addr) (c : Nat) (w : World) (hk : szL l ≤ n) (hin : HaveE w a c l) (hf0 : l.length ≤ 1048576) (hf : ∀ x ∈ l, x.Few) :
    Calls Tryd.prog 36 #[.slice a l.length c] w fun e w' => CpR w w' l e ∧ Below w.heap.size w w' := by
  obtain ⟨i0, hi, hz0, hz1, hz2⟩ := info_parts Tryd.infoEx
  have HI : Hid (Tryd.prog.info? 48 = some i0) := hi
  have IH : Hid (∀ (l : List Ex) (a : Option Addr) (c : Nat) (w : World), szL l < n → HaveE w a c l → l.length ≤ 1048576 → (∀ x ∈ l, x.Few) → Calls Tryd.prog 36 #[.slice a l.length c] w fun e w' => CpR w w' l e ∧ Below w.heap.size w w') := ih
  have HA : Hid (HaveE w a c l) := hin
  have hl := hin.1
  have hc := hin.2.1
  have HK : Hid (szL l ≤ n) := hk
  have HF : Hid (∀ x ∈ l, x.Few) := hf
  clear ih hin hk hf hi
  go_enter Tryd.func36, Tryd.ntmps36
  go_wp2_with (at_make; refine wpList_make_own _ rfl _ _ 46 rfl w.heap.size 48 i0 _ 4 Tryd.underlying46 HI.out hz0 hz1 _ _ _ (l.length + 1) rfl rfl (by omega) (by rw [hz2]; omega) (by unfold maxLen; omega) (Nat.le_refl _) ?_; intro w0 hown0 hgrow0)
  obtain ⟨G, hG⟩ : ∃ G, w.heap.size = G := ⟨_, rfl⟩
  have hb0 : Below w.heap.size w w0 := (Below.refl _ w).grown hgrow0 (Nat.le_refl _) (fun k hk => by cases hk)
  have HO0 : Hid (w0.ownsRow w.heap.size 48 4 (.slice (some ⟨w.heap.size, 0, none⟩) 0 (l.length + 1)) 0 []) := hown0
  clear hown0 hgrow0
  rw [hG] at hb0 HO0 ⊢
  have HG : Hid (w.heap.size = G) := hG
  clear hG
  go_wp2_with fail
  go_loopw [3, 4] (fun t3 t4 wr => ∃ (l' : List Ex), t4 = .int .i64 l'.length ∧ l'.length ≤ l.length ∧ t3 = .slice (some ⟨G, 0, none⟩) l'.length (l.length + 1) ∧ wr.ownsRow G 48 4 (.slice (some ⟨G, 0, none⟩) l'.length (l.length + 1)) l'.length (l'.flatMap Ex.cells) ∧ (∀ x ∈ l', x.Cp wr) ∧ erL l' = erL (l.take l'.length) ∧ (blL l').Nodup ∧ (∀ b ∈ blL l', G < b ∧ b < wr.heap.size) ∧ Below G w wr) (fun _ t4 _ => l.length - (intOf t4).toNat)
  case atStart => exact ⟨[], rfl, Nat.zero_le _, rfl, HO0.out, by simp, by simp, by simp [blL], by simp [blL], hb0⟩
  case round =>
    clear HO0 hb0
    obtain ⟨l', rfl, hle, rfl, hown, hcp, her, hnd, hbd, hb⟩ := hrel
    obtain ⟨j, hj⟩ : ∃ j, l'.length = j := ⟨_, rfl⟩
    have HJ : Hid (l'.length = j) := hj
    rw [hj] at hown hle her ⊢
    have HO : Hid (wr.ownsRow G 48 4 (.slice (some ⟨G, 0, none⟩) j (l.length + 1)) j (l'.flatMap Ex.cells)) := hown
    have HR : Hid ((∀ x ∈ l', x.Cp wr) ∧ erL l' = erL (l.take j) ∧ (blL l').Nodup ∧ (∀ b ∈ blL l', G < b ∧ b < wr.heap.size)) := ⟨hcp, her, hnd, hbd⟩
    have BW : Hid (Below G w wr) := hb
    clear hown hcp her hnd hbd hb hj
    by_cases hlt : j < l.length
    · have hli : (j : Int) < (l.length : Int) := by omega
      have hbw : Below w.heap.size w wr := HG.out ▸ BW.out
      obtain ⟨b, o, rfl, c0, c1, c2, c3⟩ := row_at (HA.out.2.2.1.below hbw) hlt
      have XI : Hid (∀ w', Below w.heap.size w w' → l[j].In w') := fun w' h => (HA.out.2.2.2 l[j] (List.getElem_mem hlt)).stay h
      have XF : Hid (l[j].Few) := HF.out _ (List.getElem_mem hlt)
      have HZ : Hid (szL l[j].args < n) := by
        have h1 := szL_mem (List.getElem_mem hlt)
        have h2 := (l[j]).sz_args
        have h3 := HK.out
        show _ < _
        omega
      have HT : Hid (erL (l.take (j + 1)) = erL (l.take j) ++ [l[j].er]) := by
        show _ = _
        rw [erL_map, erL_map, List.take_succ_eq_append_getElem hlt, List.map_append]; rfl
      generalize l[j] = x at *
      have HQ : Hid (∀ w', Below wr.heap.size wr w' → Calls Tryd.prog 36 #[.slice x.a x.args.length x.cap] w' fun e w'' => CpR w' w'' x.args e ∧ Below w'.heap.size w' w'') := fun w' h => IH.out x.args x.a x.cap w' HZ.out (XI.out _ (Below.on hbw h)).have (Ex.few_iff.1 XF.out).1 (Ex.few_iff.1 XF.out).2
      go_wp2_with fail
      refine (HQ.out _ (Below.one (Below.refl _ _) _)).mono ?_
      rintro e w2 ⟨⟨g', l'', rfl, hrow, hcp2, her2, hnd2, hbd2⟩, hb2⟩
      clear c0 c1 c2 c3
      obtain ⟨X, hX⟩ : ∃ X, wr.heap.size = X := ⟨_, rfl⟩
      have h2X : w2.heap[X]? = some (.cells #[.int .i64 x.kind, .int .i64 x.n, .string x.name, .slice x.a x.args.length x.cap] 48 (0, 0)) := by
        rw [← hX, hb2.block _ (by simp)]; exact heap_alloc_new _ _
      have k0 : w2.cell? ⟨X, 0, none⟩ = some (.int .i64 x.kind) := by rw [Lib.cell_of_heap h2X]; rfl
      have k1 : w2.cell? ⟨X, 1, none⟩ = some (.int .i64 x.n) := by rw [Lib.cell_of_heap h2X]; rfl
      have k2 : w2.cell? ⟨X, 2, none⟩ = some (.string x.name) := by rw [Lib.cell_of_heap h2X]; rfl
      have k3 : w2.cell? ⟨X, 3, none⟩ = some (.slice x.a x.args.length x.cap) := by rw [Lib.cell_of_heap h2X]; rfl
      have kf : w2.frozen? ⟨X, 3, none⟩ = false := by simp [World.frozen?, h2X]
      have hs2 : X < w2.heap.size := (Array.getElem?_eq_some_iff.1 h2X).1
      rw [hX]
      have HX : Hid (wr.heap.size = X ∧ X < w2.heap.size) := ⟨hX, hs2⟩
      have hsw : ((wr.alloc (.cells #[.int .i64 x.kind, .int .i64 x.n, .string x.name, .slice x.a x.args.length x.cap] 48))).heap.size = X + 1 := by rw [World.size_alloc, hX]
      rw [hsw] at hbd2
      have HB2 : Hid (∀ k, k < X → w2.heap[k]? = wr.heap[k]?) := fun k hk => (hb2.block k (by rw [hsw]; omega)).trans (Below.heap_alloc _ _ _ (by omega))
      have BW2 : Hid (Below G w w2) := by
        have : Below w.heap.size w w2 := Below.on (Below.one hbw _) hb2
        exact HG.out ▸ this
      have hGX : G < X := by
        have := owns_lt HO.out
        omega
      have HGX : Hid (G < X) := hGX
      have H2 : Hid (RowCp w2 (some ⟨g', 0, none⟩) (x.args.length + 1) l''.length 56 48 (l''.flatMap Ex.cells ++ senE) ∧ (∀ x ∈ l'', x.Cp w2) ∧ erL l'' = erL x.args ∧ (g' :: blL l'').Nodup ∧ (∀ b ∈ g' :: blL l'', X + 1 ≤ b ∧ b < w2.heap.size)) := ⟨hrow, hcp2, her2, hnd2, hbd2⟩
      have HO4 : Hid (((w2.setCell ⟨X, 3, none⟩ (.slice (some ⟨g', 0, none⟩) x.args.length (x.args.length + 1))).alloc (.cells #[.int .i64 x.kind, .int .i64 x.n, .string x.name, .slice (some ⟨g', 0, none⟩) x.args.length (x.args.length + 1)] 48)).ownsRow G 48 4 (.slice (some ⟨G, 0, none⟩) j (l.length + 1)) j (l'.flatMap Ex.cells)) :=
        owns_heap HO.out (by rw [Below.heap_alloc _ _ _ (by simp [World.setCell]; omega), Below.heap_setCell _ _ _ _ (by show G ≠ X; omega), HB2.out _ hGX])
      have HN : Hid (∀ i u, ([.int .i64 x.kind, .int .i64 x.n, .string x.name, .slice (some ⟨g', 0, none⟩) x.args.length (x.args.length + 1)] : List Value)[i]? = some u → ((w2.setCell ⟨X, 3, none⟩ (.slice (some ⟨g', 0, none⟩) x.args.length (x.args.length + 1))).alloc (.cells #[.int .i64 x.kind, .int .i64 x.n, .string x.name, .slice (some ⟨g', 0, none⟩) x.args.length (x.args.length + 1)] 48)).cell? ((⟨w2.heap.size, 0, none⟩ : Addr).add i) = some u) := by
        have := heap_alloc_new (w2.setCell ⟨X, 3, none⟩ (.slice (some ⟨g', 0, none⟩) x.args.length (x.args.length + 1))) (.cells #[.int .i64 x.kind, .int .i64 x.n, .string x.name, .slice (some ⟨g', 0, none⟩) x.args.length (x.args.length + 1)] 48)
        rw [show (w2.setCell ⟨X, 3, none⟩ (.slice (some ⟨g', 0, none⟩) x.args.length (x.args.length + 1))).heap.size = w2.heap.size by simp [World.setCell]] at this
        exact World.news_of_block this
      have H1 : Hid (∀ u ∈ ([.int .i64 x.kind, .int .i64 x.n, .string x.name, .slice (some ⟨g', 0, none⟩) x.args.length (x.args.length + 1)] : List Value), u.oneCell' = true) := fun u hu => by
        simp at hu; rcases hu with rfl | rfl | rfl | rfl <;> rfl
      clear hrow hcp2 her2 hnd2 hbd2 hsw hb2 hX hs2 hGX h2X
      go_wp2_with (at_builtin; refine wpList_append_own_spare _ rfl _ _ 46 rfl G 48 i0 4 Tryd.underlying46 HI.out hz1 G j (l.length + 1) (l'.flatMap Ex.cells) rfl HO4.out ⟨w2.heap.size, 0, none⟩ 1 1 [.int .i64 x.kind, .int .i64 x.n, .string x.name, .slice (some ⟨g', 0, none⟩) x.args.length (x.args.length + 1)] rfl rfl HN.out H1.out (by omega) ?_; intro w5 hown5 hgrow5)
      have HO5 : Hid (w5.ownsRow G 48 4 (.slice (some ⟨G, 0, none⟩) (j + 1) (l.length + 1)) (j + 1) (l'.flatMap Ex.cells ++ [.int .i64 x.kind, .int .i64 x.n, .string x.name, .slice (some ⟨g', 0, none⟩) x.args.length (x.args.length + 1)])) := hown5
      have HK5 : Hid (∀ k, k < w2.heap.size → k ≠ X → k ≠ G → w5.heap[k]? = w2.heap[k]?) := fun k h1 h2 h3 => by
        rw [hgrow5.block k (by simp [World.setCell]; omega) (by simpa using h3), Below.heap_alloc _ _ _ (by simpa [World.setCell] using h1), Below.heap_setCell _ _ _ _ h2]
      have HS5 : Hid (w2.heap.size < w5.heap.size) := by
        have := hgrow5.size
        simp [World.setCell] at this
        show _ < _
        omega
      have BW5 : Hid (Below G w w5) := by
        have h1 := HGX.out
        have h2 := HX.out
        exact ((BW2.out.setCell (p := ⟨X, 3, none⟩) (by show G ≤ X; omega) _).alloc (by simp [World.setCell]; omega) _).grown hgrow5 (by simp [World.setCell]; omega) (fun k hk => by simp at hk; omega)
      clear hown5 hgrow5 HO4 HN H1 k0 k1 k2 k3 kf
      go_wp2_with fail
      go_roundw
      case rel =>
        obtain ⟨hrow, hcp2, her2, hnd2, hbd2⟩ := H2.out
        obtain ⟨hcp, her, hnd, hbd⟩ := HR.out
        have hx := HX.out
        have hgx := HGX.out
        have hs5 := HS5.out
        have hlen : l''.length = x.args.length := erL_len her2
        have hbl : blL (l' ++ [.mk x.kind x.n x.name (some ⟨g', 0, none⟩) (x.args.length + 1) l'']) = blL l' ++ (g' :: blL l'') := by
          rw [blL_map, List.flatMap_append, ← blL_map]; simp [Ex.bl, blk]
        have hkeep : ∀ b ∈ g' :: blL l'', w5.heap[b]? = w2.heap[b]? := fun b hb => HK5.out b (hbd2 b hb).2 (by have := (hbd2 b hb).1; omega) (by have := (hbd2 b hb).1; omega)
        have hxin := Ex.in_iff.1 (XI.out _ (Below.refl _ _))
        refine ⟨l' ++ [.mk x.kind x.n x.name (some ⟨g', 0, none⟩) (x.args.length + 1) l''], ?_, ?_, ?_, ?_, ?_, ?_, ?_, ?_, BW5.out⟩
        · have := HJ.out; simp; omega
        · have := HJ.out; simp; omega
        · have := HJ.out; simp; omega
        · have h5 := HO5.out
          rw [show (l' ++ [Ex.mk x.kind x.n x.name (some ⟨g', 0, none⟩) (x.args.length + 1) l'']).length = j + 1 by have := HJ.out; simp; omega, List.flatMap_append]
          simpa [Ex.cells, Ex.kind, Ex.n, Ex.name, Ex.a, Ex.cap, Ex.args, hlen] using h5
        · intro y hy
          rcases List.mem_append.1 hy with hy | hy
          · refine (hcp y hy).kept fun b hb => ?_
            have hb' := hbd b (by rw [blL_map]; exact List.mem_flatMap.2 ⟨y, hy, hb⟩)
            rw [HK5.out b (by omega) (by omega) (by omega), HB2.out b (by omega)]
          · obtain rfl := List.mem_singleton.1 hy
            refine Ex.cp_iff.2 ⟨hxin.1, hxin.2.1, hxin.2.2.1, ?_, fun z hz => (hcp2 z hz).kept fun b hb => hkeep b (List.mem_cons_of_mem _ (by rw [blL_map]; exact List.mem_flatMap.2 ⟨z, hz, hb⟩))⟩
            exact hrow.keep (hkeep _ (List.mem_cons_self ..))
        · have hj := HJ.out
          rw [show (l' ++ [Ex.mk x.kind x.n x.name (some ⟨g', 0, none⟩) (x.args.length + 1) l'']).length = j + 1 by simp; omega, HT.out, ← her, erL_map, erL_map, List.map_append]
          simp only [List.map_cons, List.map_nil, Ex.er]
          rw [x.er_eq, her2]
        · rw [hbl, List.nodup_append]
          refine ⟨hnd, hnd2, fun a ha b hb => ?_⟩
          have := hbd a ha
          have := hbd2 b hb
          omega
        · intro b hb
          rw [hbl] at hb
          rcases List.mem_append.1 hb with hb | hb
          · have := hbd b hb; omega
          · have := hbd2 b hb; omega
      case measure => simp [intOf]; omega
    · obtain rfl : j = l.length := by omega
      have HO4 : Hid ((wr.alloc (.cells #[.int .i64 (-77), .int .i64 0, .string ⟨#[]⟩, .slice none 0 0] 48)).ownsRow G 48 4 (.slice (some ⟨G, 0, none⟩) l.length (l.length + 1)) l.length (l'.flatMap Ex.cells)) := HO.out.alloc _
      have HN : Hid (∀ i u, senE[i]? = some u → (wr.alloc (.cells #[.int .i64 (-77), .int .i64 0, .string ⟨#[]⟩, .slice none 0 0] 48)).cell? ((⟨wr.heap.size, 0, none⟩ : Addr).add i) = some u) := World.news_of_block (heap_alloc_new wr _)
      have H1 : Hid (∀ u ∈ senE, u.oneCell' = true) := fun u hu => by
        simp [senE] at hu; rcases hu with rfl | rfl | rfl | rfl <;> rfl
      go_wp2_with (at_builtin; refine wpList_append_own_spare _ rfl _ _ 46 rfl G 48 i0 4 Tryd.underlying46 HI.out hz1 G l.length (l.length + 1) (l'.flatMap Ex.cells) rfl HO4.out ⟨wr.heap.size, 0, none⟩ 1 1 senE rfl rfl HN.out H1.out (by omega) ?_; intro w5 hown5 hgrow5)
      have HO5 : Hid (w5.ownsRow G 48 4 (.slice (some ⟨G, 0, none⟩) (l.length + 1) (l.length + 1)) (l.length + 1) (l'.flatMap Ex.cells ++ senE)) := hown5
      have hGX : G < wr.heap.size := by
        exact owns_lt HO.out
      have HK5 : Hid (G < wr.heap.size ∧ wr.heap.size < w5.heap.size ∧ ∀ k, k < wr.heap.size → k ≠ G → w5.heap[k]? = wr.heap[k]?) := by
        refine ⟨hGX, by have := hgrow5.size; simp at this; omega, fun k h1 h3 => ?_⟩
        rw [hgrow5.block k (by simp; omega) (by simpa using h3), Below.heap_alloc _ _ _ h1]
      have BW5 : Hid (Below G w w5) := (BW.out.alloc (by omega) _).grown hgrow5 (by simp; omega) (fun k hk => by simp at hk; omega)
      clear hown5 hgrow5 HO4 HN H1 hGX
      go_wp2_with fail
      go_ret
      obtain ⟨hcp, her, hnd, hbd⟩ := HR.out
      obtain ⟨hgx, hs5, hk5⟩ := HK5.out
      have hw : w.heap.size = G := HG.out
      refine ⟨⟨G, l', rfl, ⟨G, rfl, by rw [HJ.out], by omega, owns_full HO5.out⟩, fun y hy => (hcp y hy).kept fun b hb => ?_, by rw [her, List.take_length], ?_, ?_⟩, by rw [hw]; exact BW5.out⟩
      · have := hbd b (by rw [blL_map]; exact List.mem_flatMap.2 ⟨y, hy, hb⟩)
        exact hk5 b this.2 (by omega)
      · refine List.nodup_cons.2 ⟨fun h => ?_, hnd⟩
        have := hbd _ h; omega
      · intro b hb
        rcases List.mem_cons.1 hb with rfl | hb
        · omega
        · have := hbd b hb; omega
theorem exprsOf_k (n : Nat) : ∀ (l : List Ex) (a : Option Addr) (c : Nat) (w : World), szL l < n → HaveE w a c l → l.length ≤ 1048576 → (∀ x ∈ l, x.Few) → Calls Tryd.prog 36 #[.slice a l.length c] w fun e w' => CpR w w' l e ∧ Below w.heap.size w w' := by
  induction n with
  | zero => intro l a c w h; omega
  | succ n ih => exact fun l a c w h => exprsOf_step n ih l a c w (by omega)
theorem exprsOf_any (l : List Ex) (a : Option Addr) (c : Nat) (w : World) (hin : HaveE w a c l) (hf0 : l.length ≤ 1048576) (hf : ∀ x ∈ l, x.Few) : Calls Tryd.prog 36 #[.slice a l.length c] w fun e w' => CpR w w' l e ∧ Below w.heap.size w w' := exprsOf_k (szL l + 1) l a c w (by omega) hin hf0 hf
end Go.Proofs.YtbpemackmadhgabDoor

/- The document's own answer whether two lists of expressions are the same. -/
namespace Go.Proofs.YtbpemackmadhgabDoor
open Go.RowKit Go.Sort

set_option maxRecDepth 100000 in
set_option maxHeartbeats 8000000 in
theorem rsamE_step (k : Nat) (ih : ∀ (l t : List Ex) (a a' : Option Addr) (c c' : Nat) (w : World), szL l ≤ k → HaveE w a c l → HaveE w a' c' t →
      Calls Tryd.prog 49 #[.slice a l.length c, .slice a' t.length c'] w fun e w' => e = .returned (.bool (samEs l t)) ∧ Below w.heap.size w w')
    (l t : List Ex) (a a' : Option Addr) (c c' : Nat) (w : World) (hk : szL l ≤ k + 1) (hin : HaveE w a c l) (hin' : HaveE w a' c' t) :
    Calls Tryd.prog 49 #[.slice a l.length c, .slice a' t.length c'] w fun e w' => e = .returned (.bool (samEs l t)) ∧ Below w.heap.size w w' := by
  have IH : Hid (∀ (l t : List Ex) (a a' : Option Addr) (c c' : Nat) (w : World), szL l ≤ k → HaveE w a c l → HaveE w a' c' t →
      Calls Tryd.prog 49 #[.slice a l.length c, .slice a' t.length c'] w fun e w' => e = .returned (.bool (samEs l t)) ∧ Below w.heap.size w w') := ih
  have HA : Hid (HaveE w a c l) := hin
  have HB : Hid (HaveE w a' c' t) := hin'
  have hl := hin.1
  have hc := hin.2.1
  have hl' := hin'.1
  have hc' := hin'.2.1
  have HK : Hid (szL l ≤ k + 1) := hk
  clear ih hin hin' hk
  by_cases hle : l.length = t.length
  · have HL : Hid (l.length = t.length) := hle
    rw [← hle] at hl' ⊢
    clear hle
    go_enter Tryd.func49, Tryd.ntmps49
    go_wp2_with fail
    go_loopw [5] (fun t5 wr => ∃ (j : Nat), j ≤ l.length ∧ t5 = .int .i64 j ∧ samEs (l.drop j) (t.drop j) = samEs l t ∧ Below w.heap.size w wr) (fun t5 _ => l.length - (intOf t5).toNat)
    case atStart => exact ⟨0, Nat.zero_le _, rfl, rfl, Below.refl _ w⟩
    case round =>
      obtain ⟨j, hj, rfl, hcnt, hb⟩ := hrel
      have HC : Hid (samEs (l.drop j) (t.drop j) = samEs l t) := hcnt
      clear hcnt
      have hws := hb.size
      by_cases hlt : j < l.length
      · have hlt' : j < t.length := by have := HL.out; omega
        obtain ⟨b, o, rfl, k0, k1, k2, k3⟩ := row_at (HA.out.2.2.1.below hb) hlt
        obtain ⟨b', o', rfl, m0, m1, m2, m3⟩ := row_at (HB.out.2.2.1.below hb) hlt'
        have hli : (j : Int) < (l.length : Int) := by omega
        have HQ : Hid (∀ w', Below wr.heap.size wr w' → Calls Tryd.prog 49 #[.slice l[j].a l[j].args.length l[j].cap, .slice t[j].a t[j].args.length t[j].cap] w' fun e w'' => e = .returned (.bool (samEs l[j].args t[j].args)) ∧ Below w'.heap.size w' w'') := fun w' h => by
          have hbw : Below w.heap.size w w' := hb.trans (h.mono hws)
          have h1 := szL_mem (List.getElem_mem hlt)
          have h2 := (l[j]).sz_args
          have h3 := HK.out
          exact IH.out _ _ _ _ _ _ w' (by omega) ((HA.out.2.2.2 l[j] (List.getElem_mem hlt)).stay hbw).have ((HB.out.2.2.2 t[j] (List.getElem_mem hlt')).stay hbw).have
        have HD : Hid (samEs (l.drop j) (t.drop j) = ((l[j].kind == t[j].kind && (l[j].n == t[j].n && (l[j].name.toList == t[j].name.toList && samEs l[j].args t[j].args))) && samEs (l.drop (j + 1)) (t.drop (j + 1)))) := by
          show _ = _; rw [samEs_drop hlt hlt', samE_eq]
        generalize l[j] = x at *
        generalize t[j] = y at *
        generalize samEs x.args y.args = sub at *
        have c0 := cell_regrown k0
        have d0 := cell_regrown m0
        have c1 := cell_regrown k1
        have d1 := cell_regrown m1
        have c2 := cell_regrown k2
        have d2 := cell_regrown m2
        have c3 := cell_regrown k3
        have d3 := cell_regrown m3
        clear k0 k1 k2 k3 m0 m1 m2 m3 hlt'
        have hu : undef = Value.tuple #[] := rfl
        cases e1 : (x.kind == y.kind)
        · have e1' : (x.kind != y.kind) = true := by simp [bne, e1]
          rw [e1] at HD
          go_wp2_with fail
          refine wp_region_quiet_below (by kernel_rfl) (by kernel_rfl) ?_
          repeat (go_big_quiet_step (fail))
          refine wpQuiet_nil ?_
          intro _ hw'
          obtain ⟨⟨dq, osq⟩, hw''⟩ := hw'
          subst hw''
          have hbq := below_regrown wr dq osq
          clear c0 c1 c2 c3 d0 d1 d2 d3
          go_wp2_with fail
          go_ret
          exact ⟨ret_bool (by rw [← HC.out, HD.out]; rfl), hb.trans (hbq.mono hws)⟩
        · have e1' : (x.kind != y.kind) = false := by simp [bne, e1]
          rw [e1] at HD
          cases e2 : (x.n == y.n)
          · have e2' : (x.n != y.n) = true := by simp [bne, e2]
            rw [e2] at HD
            go_wp2_with fail
            refine wp_region_quiet_below (by kernel_rfl) (by kernel_rfl) ?_
            repeat (go_big_quiet_step (fail))
            refine wpQuiet_nil ?_
            intro _ hw'
            obtain ⟨⟨dq, osq⟩, hw''⟩ := hw'
            subst hw''
            have hbq := below_regrown wr dq osq
            clear c0 c1 c2 c3 d0 d1 d2 d3
            go_wp2_with fail
            go_ret
            exact ⟨ret_bool (by rw [← HC.out, HD.out]; rfl), hb.trans (hbq.mono hws)⟩
          · have e2' : (x.n != y.n) = false := by simp [bne, e2]
            rw [e2] at HD
            cases e3 : (x.name.toList == y.name.toList)
            · have e3' : (x.name.toList != y.name.toList) = true := by simp [bne, e3]
              rw [e3] at HD
              go_wp2_with fail
              refine wp_region_quiet_below (by kernel_rfl) (by kernel_rfl) ?_
              repeat (go_big_quiet_step (fail))
              refine wpQuiet_nil ?_
              intro _ hw'
              obtain ⟨⟨dq, osq⟩, hw''⟩ := hw'
              subst hw''
              have hbq := below_regrown wr dq osq
              clear c0 c1 c2 c3 d0 d1 d2 d3
              go_wp2_with fail
              go_ret
              exact ⟨ret_bool (by rw [← HC.out, HD.out]; rfl), hb.trans (hbq.mono hws)⟩
            · have e3' : (x.name.toList != y.name.toList) = false := by simp [bne, e3]
              rw [e3] at HD
              go_wp2_with fail
              refine wp_region_quiet_below (by kernel_rfl) (by kernel_rfl) ?_
              repeat (go_big_quiet_step ((go_at_call 49; exact Calls.regrown_of (HQ.out _ (below_regrown _ _ _)))))
              refine wpQuiet_nil ?_
              intro _ hw'
              obtain ⟨⟨dq, osq⟩, hw''⟩ := hw'
              subst hw''
              have hbq := below_regrown wr dq osq
              clear c0 c1 c2 c3 d0 d1 d2 d3
              generalize grow (redrawn wr dq) osq = W3 at *
              cases sub
              · go_wp2_with fail
                go_ret
                exact ⟨ret_bool (by rw [← HC.out, HD.out]; rfl), hb.trans (hbq.mono hws)⟩
              · go_wp2_with fail
                go_roundw
                case rel => exact ⟨j + 1, by omega, by go_num, by rw [← HC.out, HD.out]; rfl, hb.trans (hbq.mono hws)⟩
                case measure => simp [intOf]; omega
      · go_wp2_with fail
        go_ret
        refine ⟨ret_bool ?_, hb⟩
        rw [← HC.out, List.drop_eq_nil_of_le (by omega), List.drop_eq_nil_of_le (by have := HL.out; omega)]; simp [samEs]
  · have hne : ((l.length : Int) != (t.length : Int)) = true := by simp only [bne_iff_ne]; omega
    go_enter Tryd.func49, Tryd.ntmps49
    go_wp2_with fail
    go_ret
    exact ⟨ret_bool (by rw [samEs_len hle]), Below.refl _ w⟩

set_option maxRecDepth 100000 in
set_option maxHeartbeats 2000000 in
theorem rsamE_nil (t : List Ex) (a a' : Option Addr) (c c' : Nat) (w : World) (hin : HaveE w a c []) (hin' : HaveE w a' c' t) :
    Calls Tryd.prog 49 #[.slice a ([] : List Ex).length c, .slice a' t.length c'] w fun e w' => e = .returned (.bool (samEs [] t)) ∧ Below w.heap.size w w' := by
  have hc := hin.2.1
  have hl' := hin'.1
  have hc' := hin'.2.1
  clear hin hin'
  show Calls Tryd.prog 49 #[.slice a 0 c, .slice a' t.length c'] w _
  cases t with
  | nil =>
    show Calls Tryd.prog 49 #[.slice a 0 c, .slice a' 0 c'] w _
    go_enter Tryd.func49, Tryd.ntmps49
    go_wp2_with fail
    go_loopw [5] (fun t5 wr => t5 = .int .i64 0 ∧ wr = w) (fun _ _ => 0)
    case atStart => exact ⟨rfl, rfl⟩
    case round =>
      obtain ⟨rfl, rfl⟩ := hrel
      go_wp2_with fail
      go_ret
      exact ⟨ret_bool (by simp [samEs]), Below.refl _ _⟩
  | cons y t =>
    have hne : ((0 : Int) != ((y :: t).length : Int)) = true := by simp only [bne_iff_ne, List.length_cons]; omega
    generalize hlen : (y :: t).length = n at *
    clear hlen
    go_enter Tryd.func49, Tryd.ntmps49
    go_wp2_with fail
    go_ret
    exact ⟨ret_bool (by simp [samEs]), Below.refl _ w⟩

theorem rsamE_k (k : Nat) : ∀ (l t : List Ex) (a a' : Option Addr) (c c' : Nat) (w : World), szL l ≤ k → HaveE w a c l → HaveE w a' c' t →
    Calls Tryd.prog 49 #[.slice a l.length c, .slice a' t.length c'] w fun e w' => e = .returned (.bool (samEs l t)) ∧ Below w.heap.size w w' := by
  induction k with
  | zero =>
    intro l t a a' c c' w hk hin hin'
    obtain rfl : l = [] := by
      cases l with
      | nil => rfl
      | cons x r => rw [szL] at hk; have := x.sz_args; omega
    exact rsamE_nil t a a' c c' w hin hin'
  | succ k ih => exact fun l t a a' c c' w hk hin hin' => rsamE_step k ih l t a a' c c' w hk hin hin'
theorem rsamE_any (l t : List Ex) (a a' : Option Addr) (c c' : Nat) (w : World) (hin : HaveE w a c l) (hin' : HaveE w a' c' t) :
    Calls Tryd.prog 49 #[.slice a l.length c, .slice a' t.length c'] w fun e w' => e = .returned (.bool (samEs l t)) ∧ Below w.heap.size w w' := rsamE_k _ l t a a' c c' w (Nat.le_refl _) hin hin'
end Go.Proofs.YtbpemackmadhgabDoor

/- The document's own answer whether two lists of statements are the same. -/
namespace Go.Proofs.YtbpemackmadhgabDoor
open Go.RowKit Go.Sort
attribute [local go_sem ↓] Go.wp_at_zero Go.wp_at_succ

theorem ex_two {w : World} {bz : Nat} {x y : Ex} (h : ∀ (i : Nat) v, (x.cells ++ y.cells)[i]? = some v → w.cell? ⟨bz, i, none⟩ = some v) (hx : x.In w) (hy : y.In w) : HaveE w (some ⟨bz, 0, none⟩) 2 [x, y] := by
  refine ⟨Nat.le_refl _, by decide, fun i cs hi => ⟨bz, 0, rfl, fun j v hj => ?_⟩, by simp [hx, hy]⟩
  match i, hi with
  | 0, hi =>
    obtain rfl : x.cells = cs := by simpa using hi
    have hl := (List.getElem?_eq_some_iff.1 hj).1
    simpa using h j v (by rw [List.getElem?_append_left hl]; exact hj)
  | 1, hi =>
    obtain rfl : y.cells = cs := by simpa using hi
    have := h (4 + j) v (by rw [List.getElem?_append_right (by simp [Ex.cells])]; simpa [Ex.cells] using hj)
    simpa using this
  | n + 2, hi => simp at hi

theorem two_exprs {w : World} {x y : St} (hx : x.In ((w.alloc (.cells (⟨x.a.cells ++ x.b.cells⟩ : Array Value) 48)).alloc (.cells (⟨y.a.cells ++ y.b.cells⟩ : Array Value) 48))) (hy : y.In ((w.alloc (.cells (⟨x.a.cells ++ x.b.cells⟩ : Array Value) 48)).alloc (.cells (⟨y.a.cells ++ y.b.cells⟩ : Array Value) 48))) :
    Calls Tryd.prog 49 #[.slice (some ⟨w.heap.size, 0, none⟩) 2 2, .slice (some ⟨w.heap.size + 1, 0, none⟩) 2 2] ((w.alloc (.cells (⟨x.a.cells ++ x.b.cells⟩ : Array Value) 48)).alloc (.cells (⟨y.a.cells ++ y.b.cells⟩ : Array Value) 48))
      fun e w' => e = .returned (.bool (samE x.a y.a && samE x.b y.b)) ∧ Below ((w.alloc (.cells (⟨x.a.cells ++ x.b.cells⟩ : Array Value) 48)).alloc (.cells (⟨y.a.cells ++ y.b.cells⟩ : Array Value) 48)).heap.size ((w.alloc (.cells (⟨x.a.cells ++ x.b.cells⟩ : Array Value) 48)).alloc (.cells (⟨y.a.cells ++ y.b.cells⟩ : Array Value) 48)) w' := by
  obtain ⟨p1, p2, _⟩ := two_cells (w := w) (Below.refl _ ((w.alloc (.cells (⟨x.a.cells ++ x.b.cells⟩ : Array Value) 48)).alloc (.cells (⟨y.a.cells ++ y.b.cells⟩ : Array Value) 48)))
  have h1 := St.in_iff.1 hx
  have h2 := St.in_iff.1 hy
  refine (rsamE_any [x.a, x.b] [y.a, y.b] _ _ 2 2 _ (ex_two (fun i v e => p1 i v (by simpa using e)) h1.2.2.2.1 h1.2.2.2.2.1) (ex_two (fun i v e => p2 i v (by simpa using e)) h2.2.2.2.1 h2.2.2.2.2.1)).mono ?_
  rintro e w' ⟨rfl, hb⟩
  refine ⟨ret_bool ?_, hb⟩
  simp [samEs]

set_option maxRecDepth 100000 in
set_option maxHeartbeats 8000000 in
theorem rsamS_step (n : Nat) (ih : ∀ (l t : List St) (a a' : Option Addr) (c c' : Nat) (w : World), ssz l < n → Have w a c l → Have w a' c' t →
      Calls Tryd.prog 29 #[.slice a l.length c, .slice a' t.length c'] w fun e w' => e = .returned (.bool (samSs l t)) ∧ Below w.heap.size w w')
    (ihc : ∀ (l t : List Ca) (a a' : Option Addr) (c c' : Nat) (w : World), csz l ≤ n → HaveC w a c l → HaveC w a' c' t →
      Calls Tryd.prog 50 #[.slice a l.length c, .slice a' t.length c'] w fun e w' => e = .returned (.bool (samCs l t)) ∧ Below w.heap.size w w')
    (l t : List St) (a a' : Option Addr) (c c' : Nat) (w : World) (hk : ssz l ≤ n) (hin : Have w a c l) (hin' : Have w a' c' t) :
    Calls Tryd.prog 29 #[.slice a l.length c, .slice a' t.length c'] w fun e w' => e = .returned (.bool (samSs l t)) ∧ Below w.heap.size w w' := by
  have IH : Hid (∀ (l t : List St) (a a' : Option Addr) (c c' : Nat) (w : World), ssz l < n → Have w a c l → Have w a' c' t →
      Calls Tryd.prog 29 #[.slice a l.length c, .slice a' t.length c'] w fun e w' => e = .returned (.bool (samSs l t)) ∧ Below w.heap.size w w') := ih
  have IHC : Hid (∀ (l t : List Ca) (a a' : Option Addr) (c c' : Nat) (w : World), csz l ≤ n → HaveC w a c l → HaveC w a' c' t →
      Calls Tryd.prog 50 #[.slice a l.length c, .slice a' t.length c'] w fun e w' => e = .returned (.bool (samCs l t)) ∧ Below w.heap.size w w') := ihc
  have HA : Hid (Have w a c l) := hin
  have HB : Hid (Have w a' c' t) := hin'
  have hl := hin.1.1
  have hc := hin.1.2.1
  have hl' := hin'.1.1
  have hc' := hin'.1.2.1
  have HK : Hid (ssz l ≤ n) := hk
  clear ih ihc hin hin' hk
  by_cases hle : l.length = t.length
  · have HL : Hid (l.length = t.length) := hle
    rw [← hle] at hl' ⊢
    clear hle
    go_enter Tryd.func29, Tryd.ntmps29
    go_wp2_with fail
    go_loopw [5] (fun t5 wr => ∃ (j : Nat), j ≤ l.length ∧ t5 = .int .i64 j ∧ samSs (l.drop j) (t.drop j) = samSs l t ∧ Below w.heap.size w wr) (fun t5 _ => l.length - (intOf t5).toNat)
    case atStart => exact ⟨0, Nat.zero_le _, rfl, rfl, Below.refl _ w⟩
    case round =>
      obtain ⟨j, hj, rfl, hcnt, hb⟩ := hrel
      have HC : Hid (samSs (l.drop j) (t.drop j) = samSs l t) := hcnt
      clear hcnt
      have hws := hb.size
      by_cases hlt : j < l.length
      · have hlt' : j < t.length := by have := HL.out; omega
        have HRA : Hid (RowIn wr a 14 (l.map St.cells)) := HA.out.1.2.2.2.below hb
        have HRB : Hid (RowIn wr a' 14 (t.map St.cells)) := HB.out.1.2.2.2.below hb
        obtain ⟨b, o, ha, hc1⟩ := rowS_at HRA.out hlt
        obtain ⟨b', o', ha', hc2⟩ := rowS_at HRB.out hlt'
        subst ha ha'
        have hli : (j : Int) < (l.length : Int) := by omega
        have hli0 : (0 : Int) ≤ (j : Int) := by omega
        have XI : Hid (∀ w', Below w.heap.size w w' → l[j].In w') := fun w' h => (HA.out.2 l[j] (List.getElem_mem hlt)).stay h
        have YI : Hid (∀ w', Below w.heap.size w w' → t[j].In w') := fun w' h => (HB.out.2 t[j] (List.getElem_mem hlt')).stay h
        have HZ : Hid (l[j].sz ≤ n) := Nat.le_trans (ssz_mem (List.getElem_mem hlt)) HK.out
        have HD : Hid (samSs (l.drop j) (t.drop j) = ((l[j].kind == t[j].kind && (l[j].name.toList == t[j].name.toList && (l[j].n == t[j].n && (samE l[j].a t[j].a && (samE l[j].b t[j].b && (samSs l[j].body t[j].body && (samSs l[j].els t[j].els && samCs l[j].cases t[j].cases))))))) && samSs (l.drop (j + 1)) (t.drop (j + 1)))) := by
          show _ = _; rw [samSs_drop hlt hlt', samS_eq]
        generalize l[j] = x at *
        generalize t[j] = y at *
        go_upto_region 6 with fail
        go_cut [6, 7] from 13 to 81 (fun t6 t7 wx => ∃ bx bz, t6 = .pointer (some ⟨bx, 0, none⟩) ∧ t7 = .pointer (some ⟨bz, 0, none⟩) ∧ (∀ (j : Nat) v, x.cells[j]? = some v → wx.cell? ⟨bx, j, none⟩ = some v) ∧ (∀ (j : Nat) v, y.cells[j]? = some v → wx.cell? ⟨bz, j, none⟩ = some v) ∧ Below wr.heap.size wr wx)
        case first =>
          have c0 : ∀ w', Below wr.heap.size wr w' → w'.cell? ⟨b, o + j * 14, none⟩ = some (.int .i64 x.kind) := seen (by have := hc1 0 _ rfl; simpa only [← Nat.add_assoc, Nat.add_zero] using this)
          have c1 : ∀ w', Below wr.heap.size wr w' → w'.cell? ⟨b, o + j * 14 + 1, none⟩ = some (.string x.name) := seen (by have := hc1 1 _ rfl; simpa only [← Nat.add_assoc, Nat.add_zero] using this)
          have c2 : ∀ w', Below wr.heap.size wr w' → w'.cell? ⟨b, o + j * 14 + 2, none⟩ = some (.int .i64 x.n) := seen (by have := hc1 2 _ rfl; simpa only [← Nat.add_assoc, Nat.add_zero] using this)
          have c3 : ∀ w', Below wr.heap.size wr w' → w'.cell? ⟨b, o + j * 14 + 3, none⟩ = some (.int .i64 x.a.kind) := seen (by have := hc1 3 _ rfl; simpa only [← Nat.add_assoc, Nat.add_zero] using this)
          have c4 : ∀ w', Below wr.heap.size wr w' → w'.cell? ⟨b, o + j * 14 + 4, none⟩ = some (.int .i64 x.a.n) := seen (by have := hc1 4 _ rfl; simpa only [← Nat.add_assoc, Nat.add_zero] using this)
          have c5 : ∀ w', Below wr.heap.size wr w' → w'.cell? ⟨b, o + j * 14 + 5, none⟩ = some (.string x.a.name) := seen (by have := hc1 5 _ rfl; simpa only [← Nat.add_assoc, Nat.add_zero] using this)
          have c6 : ∀ w', Below wr.heap.size wr w' → w'.cell? ⟨b, o + j * 14 + 6, none⟩ = some (.slice x.a.a x.a.args.length x.a.cap) := seen (by have := hc1 6 _ rfl; simpa only [← Nat.add_assoc, Nat.add_zero] using this)
          have c7 : ∀ w', Below wr.heap.size wr w' → w'.cell? ⟨b, o + j * 14 + 7, none⟩ = some (.int .i64 x.b.kind) := seen (by have := hc1 7 _ rfl; simpa only [← Nat.add_assoc, Nat.add_zero] using this)
          have c8 : ∀ w', Below wr.heap.size wr w' → w'.cell? ⟨b, o + j * 14 + 8, none⟩ = some (.int .i64 x.b.n) := seen (by have := hc1 8 _ rfl; simpa only [← Nat.add_assoc, Nat.add_zero] using this)
          have c9 : ∀ w', Below wr.heap.size wr w' → w'.cell? ⟨b, o + j * 14 + 9, none⟩ = some (.string x.b.name) := seen (by have := hc1 9 _ rfl; simpa only [← Nat.add_assoc, Nat.add_zero] using this)
          have c10 : ∀ w', Below wr.heap.size wr w' → w'.cell? ⟨b, o + j * 14 + 10, none⟩ = some (.slice x.b.a x.b.args.length x.b.cap) := seen (by have := hc1 10 _ rfl; simpa only [← Nat.add_assoc, Nat.add_zero] using this)
          have c11 : ∀ w', Below wr.heap.size wr w' → w'.cell? ⟨b, o + j * 14 + 11, none⟩ = some (.slice x.ba x.body.length x.bc) := seen (by have := hc1 11 _ rfl; simpa only [← Nat.add_assoc, Nat.add_zero] using this)
          have c12 : ∀ w', Below wr.heap.size wr w' → w'.cell? ⟨b, o + j * 14 + 12, none⟩ = some (.slice x.ea x.els.length x.ec) := seen (by have := hc1 12 _ rfl; simpa only [← Nat.add_assoc, Nat.add_zero] using this)
          have c13 : ∀ w', Below wr.heap.size wr w' → w'.cell? ⟨b, o + j * 14 + 13, none⟩ = some (.slice x.ca x.cases.length x.cc) := seen (by have := hc1 13 _ rfl; simpa only [← Nat.add_assoc, Nat.add_zero] using this)
          have d0 : ∀ w', Below wr.heap.size wr w' → w'.cell? ⟨b', o' + j * 14, none⟩ = some (.int .i64 y.kind) := seen (by have := hc2 0 _ rfl; simpa only [← Nat.add_assoc, Nat.add_zero] using this)
          have d1 : ∀ w', Below wr.heap.size wr w' → w'.cell? ⟨b', o' + j * 14 + 1, none⟩ = some (.string y.name) := seen (by have := hc2 1 _ rfl; simpa only [← Nat.add_assoc, Nat.add_zero] using this)
          have d2 : ∀ w', Below wr.heap.size wr w' → w'.cell? ⟨b', o' + j * 14 + 2, none⟩ = some (.int .i64 y.n) := seen (by have := hc2 2 _ rfl; simpa only [← Nat.add_assoc, Nat.add_zero] using this)
          have d3 : ∀ w', Below wr.heap.size wr w' → w'.cell? ⟨b', o' + j * 14 + 3, none⟩ = some (.int .i64 y.a.kind) := seen (by have := hc2 3 _ rfl; simpa only [← Nat.add_assoc, Nat.add_zero] using this)
          have d4 : ∀ w', Below wr.heap.size wr w' → w'.cell? ⟨b', o' + j * 14 + 4, none⟩ = some (.int .i64 y.a.n) := seen (by have := hc2 4 _ rfl; simpa only [← Nat.add_assoc, Nat.add_zero] using this)
          have d5 : ∀ w', Below wr.heap.size wr w' → w'.cell? ⟨b', o' + j * 14 + 5, none⟩ = some (.string y.a.name) := seen (by have := hc2 5 _ rfl; simpa only [← Nat.add_assoc, Nat.add_zero] using this)
          have d6 : ∀ w', Below wr.heap.size wr w' → w'.cell? ⟨b', o' + j * 14 + 6, none⟩ = some (.slice y.a.a y.a.args.length y.a.cap) := seen (by have := hc2 6 _ rfl; simpa only [← Nat.add_assoc, Nat.add_zero] using this)
          have d7 : ∀ w', Below wr.heap.size wr w' → w'.cell? ⟨b', o' + j * 14 + 7, none⟩ = some (.int .i64 y.b.kind) := seen (by have := hc2 7 _ rfl; simpa only [← Nat.add_assoc, Nat.add_zero] using this)
          have d8 : ∀ w', Below wr.heap.size wr w' → w'.cell? ⟨b', o' + j * 14 + 8, none⟩ = some (.int .i64 y.b.n) := seen (by have := hc2 8 _ rfl; simpa only [← Nat.add_assoc, Nat.add_zero] using this)
          have d9 : ∀ w', Below wr.heap.size wr w' → w'.cell? ⟨b', o' + j * 14 + 9, none⟩ = some (.string y.b.name) := seen (by have := hc2 9 _ rfl; simpa only [← Nat.add_assoc, Nat.add_zero] using this)
          have d10 : ∀ w', Below wr.heap.size wr w' → w'.cell? ⟨b', o' + j * 14 + 10, none⟩ = some (.slice y.b.a y.b.args.length y.b.cap) := seen (by have := hc2 10 _ rfl; simpa only [← Nat.add_assoc, Nat.add_zero] using this)
          have d11 : ∀ w', Below wr.heap.size wr w' → w'.cell? ⟨b', o' + j * 14 + 11, none⟩ = some (.slice y.ba y.body.length y.bc) := seen (by have := hc2 11 _ rfl; simpa only [← Nat.add_assoc, Nat.add_zero] using this)
          have d12 : ∀ w', Below wr.heap.size wr w' → w'.cell? ⟨b', o' + j * 14 + 12, none⟩ = some (.slice y.ea y.els.length y.ec) := seen (by have := hc2 12 _ rfl; simpa only [← Nat.add_assoc, Nat.add_zero] using this)
          have d13 : ∀ w', Below wr.heap.size wr w' → w'.cell? ⟨b', o' + j * 14 + 13, none⟩ = some (.slice y.ca y.cases.length y.cc) := seen (by have := hc2 13 _ rfl; simpa only [← Nat.add_assoc, Nat.add_zero] using this)
          clear hc1 hc2
          go_region_held3 (fun w' => Below wr.heap.size wr w') (first | exact Below.drew (Below.refl _ _) | exact Below.drew (Below.one (Below.refl _ _) _) | exact Below.drew (Below.one (Below.one (Below.refl _ _) _) _) | exact Below.on (by assumption) (by assumption) | exact Below.one (by assumption) _) (fail)
          all_goals (go_wp2_with fail; go_meet)
          case rel =>
            obtain ⟨p1, p2, _⟩ := two_cells (w := wr) (Below.drew (Below.refl _ ((wr.alloc (.cells (⟨x.cells⟩ : Array Value) 53)).alloc (.cells (⟨y.cells⟩ : Array Value) 53))))
            exact ⟨_, _, rfl, rfl, fun i v h => p1 i v (by simpa using h), fun i v h => p2 i v (by simpa using h), Below.drew (Below.one (Below.one (Below.refl _ _) _) _)⟩
          case rel =>
            obtain ⟨p1, p2, _⟩ := two_cells (w := wr) (Below.drew (Below.refl _ ((wr.alloc (.cells (⟨y.cells⟩ : Array Value) 53)).alloc (.cells (⟨x.cells⟩ : Array Value) 53))))
            exact ⟨_, _, rfl, rfl, fun i v h => p2 i v (by simpa using h), fun i v h => p1 i v (by simpa using h), Below.drew (Below.one (Below.one (Below.refl _ _) _) _)⟩
        case rest =>
          obtain ⟨bx, bz, rfl, rfl, hx, hy, hbx⟩ := hcut
          have hbw : Below w.heap.size w wc := hb.trans (hbx.mono hws)
          have CX : Hid (∀ w', Below wc.heap.size wc w' → ∀ (i : Nat) v, x.cells[i]? = some v → w'.cell? ⟨bx, i, none⟩ = some v) := fun w' h i v e => seen (hx i v e) w' h
          have CY : Hid (∀ w', Below wc.heap.size wc w' → ∀ (i : Nat) v, y.cells[i]? = some v → w'.cell? ⟨bz, i, none⟩ = some v) := fun w' h i v e => seen (hy i v e) w' h
          have BW : Hid (Below w.heap.size w wc) := hbw
          clear hx hy hc1 hc2 hb hbx hws hbw
          have c0 := CX.out wc (Below.refl _ _) 0 _ rfl
          have d0 := CY.out wc (Below.refl _ _) 0 _ rfl
          have c1 := CX.out wc (Below.refl _ _) 1 _ rfl
          have d1 := CY.out wc (Below.refl _ _) 1 _ rfl
          have c2 := CX.out wc (Below.refl _ _) 2 _ rfl
          have d2 := CY.out wc (Below.refl _ _) 2 _ rfl
          cases e1 : (x.kind == y.kind)
          · have e1' : (x.kind != y.kind) = true := by simp [bne, e1]
            rw [e1] at HD
            go_wp2_with fail
            go_ret
            exact ⟨ret_bool (by rw [← HC.out, HD.out]; rfl), BW.out⟩
          · have e1' : (x.kind != y.kind) = false := by simp [bne, e1]
            rw [e1] at HD
            cases e2 : (x.name.toList == y.name.toList)
            · have e2' : (x.name.toList != y.name.toList) = true := by simp [bne, e2]
              rw [e2] at HD
              go_wp2_with fail
              go_ret
              exact ⟨ret_bool (by rw [← HC.out, HD.out]; rfl), BW.out⟩
            · have e2' : (x.name.toList != y.name.toList) = false := by simp [bne, e2]
              rw [e2] at HD
              cases e3 : (x.n == y.n)
              · have e3' : (x.n != y.n) = true := by simp [bne, e3]
                rw [e3] at HD
                go_wp2_with fail
                go_ret
                exact ⟨ret_bool (by rw [← HC.out, HD.out]; rfl), BW.out⟩
              · have e3' : (x.n != y.n) = false := by simp [bne, e3]
                rw [e3] at HD
                have c3 := CX.out wc (Below.refl _ _) 3 _ rfl
                have d3 := CY.out wc (Below.refl _ _) 3 _ rfl
                have c4 := CX.out wc (Below.refl _ _) 4 _ rfl
                have d4 := CY.out wc (Below.refl _ _) 4 _ rfl
                have c5 := CX.out wc (Below.refl _ _) 5 _ rfl
                have d5 := CY.out wc (Below.refl _ _) 5 _ rfl
                have c6 := CX.out wc (Below.refl _ _) 6 _ rfl
                have d6 := CY.out wc (Below.refl _ _) 6 _ rfl
                have c7 := CX.out wc (Below.refl _ _) 7 _ rfl
                have d7 := CY.out wc (Below.refl _ _) 7 _ rfl
                have c8 := CX.out wc (Below.refl _ _) 8 _ rfl
                have d8 := CY.out wc (Below.refl _ _) 8 _ rfl
                have c9 := CX.out wc (Below.refl _ _) 9 _ rfl
                have d9 := CY.out wc (Below.refl _ _) 9 _ rfl
                have c10 := CX.out wc (Below.refl _ _) 10 _ rfl
                have d10 := CY.out wc (Below.refl _ _) 10 _ rfl
                have g3 := CY.out (wc.alloc (.cells #[.int .i64 x.a.kind, .int .i64 x.a.n, .string x.a.name, .slice x.a.a x.a.args.length x.a.cap, .int .i64 x.b.kind, .int .i64 x.b.n, .string x.b.name, .slice x.b.a x.b.args.length x.b.cap] 48)) (Below.one (Below.refl _ _) _) 3 _ rfl
                have g4 := CY.out (wc.alloc (.cells #[.int .i64 x.a.kind, .int .i64 x.a.n, .string x.a.name, .slice x.a.a x.a.args.length x.a.cap, .int .i64 x.b.kind, .int .i64 x.b.n, .string x.b.name, .slice x.b.a x.b.args.length x.b.cap] 48)) (Below.one (Below.refl _ _) _) 4 _ rfl
                have g5 := CY.out (wc.alloc (.cells #[.int .i64 x.a.kind, .int .i64 x.a.n, .string x.a.name, .slice x.a.a x.a.args.length x.a.cap, .int .i64 x.b.kind, .int .i64 x.b.n, .string x.b.name, .slice x.b.a x.b.args.length x.b.cap] 48)) (Below.one (Below.refl _ _) _) 5 _ rfl
                have g6 := CY.out (wc.alloc (.cells #[.int .i64 x.a.kind, .int .i64 x.a.n, .string x.a.name, .slice x.a.a x.a.args.length x.a.cap, .int .i64 x.b.kind, .int .i64 x.b.n, .string x.b.name, .slice x.b.a x.b.args.length x.b.cap] 48)) (Below.one (Below.refl _ _) _) 6 _ rfl
                have g7 := CY.out (wc.alloc (.cells #[.int .i64 x.a.kind, .int .i64 x.a.n, .string x.a.name, .slice x.a.a x.a.args.length x.a.cap, .int .i64 x.b.kind, .int .i64 x.b.n, .string x.b.name, .slice x.b.a x.b.args.length x.b.cap] 48)) (Below.one (Below.refl _ _) _) 7 _ rfl
                have g8 := CY.out (wc.alloc (.cells #[.int .i64 x.a.kind, .int .i64 x.a.n, .string x.a.name, .slice x.a.a x.a.args.length x.a.cap, .int .i64 x.b.kind, .int .i64 x.b.n, .string x.b.name, .slice x.b.a x.b.args.length x.b.cap] 48)) (Below.one (Below.refl _ _) _) 8 _ rfl
                have g9 := CY.out (wc.alloc (.cells #[.int .i64 x.a.kind, .int .i64 x.a.n, .string x.a.name, .slice x.a.a x.a.args.length x.a.cap, .int .i64 x.b.kind, .int .i64 x.b.n, .string x.b.name, .slice x.b.a x.b.args.length x.b.cap] 48)) (Below.one (Below.refl _ _) _) 9 _ rfl
                have g10 := CY.out (wc.alloc (.cells #[.int .i64 x.a.kind, .int .i64 x.a.n, .string x.a.name, .slice x.a.a x.a.args.length x.a.cap, .int .i64 x.b.kind, .int .i64 x.b.n, .string x.b.name, .slice x.b.a x.b.args.length x.b.cap] 48)) (Below.one (Below.refl _ _) _) 10 _ rfl
                have hbA : Below wc.heap.size wc ((wc.alloc (.cells #[.int .i64 x.a.kind, .int .i64 x.a.n, .string x.a.name, .slice x.a.a x.a.args.length x.a.cap, .int .i64 x.b.kind, .int .i64 x.b.n, .string x.b.name, .slice x.b.a x.b.args.length x.b.cap] 48)).alloc (.cells #[.int .i64 y.a.kind, .int .i64 y.a.n, .string y.a.name, .slice y.a.a y.a.args.length y.a.cap, .int .i64 y.b.kind, .int .i64 y.b.n, .string y.b.name, .slice y.b.a y.b.args.length y.b.cap] 48)) := Below.one (Below.one (Below.refl _ _) _) _
                have HQ : Hid (Calls Tryd.prog 49 #[.slice (some ⟨wc.heap.size, 0, none⟩) 2 2, .slice (some ⟨wc.heap.size + 1, 0, none⟩) 2 2] ((wc.alloc (.cells #[.int .i64 x.a.kind, .int .i64 x.a.n, .string x.a.name, .slice x.a.a x.a.args.length x.a.cap, .int .i64 x.b.kind, .int .i64 x.b.n, .string x.b.name, .slice x.b.a x.b.args.length x.b.cap] 48)).alloc (.cells #[.int .i64 y.a.kind, .int .i64 y.a.n, .string y.a.name, .slice y.a.a y.a.args.length y.a.cap, .int .i64 y.b.kind, .int .i64 y.b.n, .string y.b.name, .slice y.b.a y.b.args.length y.b.cap] 48)) fun e w' => e = .returned (.bool (samE x.a y.a && samE x.b y.b)) ∧ Below ((wc.alloc (.cells #[.int .i64 x.a.kind, .int .i64 x.a.n, .string x.a.name, .slice x.a.a x.a.args.length x.a.cap, .int .i64 x.b.kind, .int .i64 x.b.n, .string x.b.name, .slice x.b.a x.b.args.length x.b.cap] 48)).alloc (.cells #[.int .i64 y.a.kind, .int .i64 y.a.n, .string y.a.name, .slice y.a.a y.a.args.length y.a.cap, .int .i64 y.b.kind, .int .i64 y.b.n, .string y.b.name, .slice y.b.a y.b.args.length y.b.cap] 48)).heap.size ((wc.alloc (.cells #[.int .i64 x.a.kind, .int .i64 x.a.n, .string x.a.name, .slice x.a.a x.a.args.length x.a.cap, .int .i64 x.b.kind, .int .i64 x.b.n, .string x.b.name, .slice x.b.a x.b.args.length x.b.cap] 48)).alloc (.cells #[.int .i64 y.a.kind, .int .i64 y.a.n, .string y.a.name, .slice y.a.a y.a.args.length y.a.cap, .int .i64 y.b.kind, .int .i64 y.b.n, .string y.b.name, .slice y.b.a y.b.args.length y.b.cap] 48)) w') := two_exprs (XI.out _ (Below.on BW.out hbA)) (YI.out _ (Below.on BW.out hbA))
                generalize samE x.a y.a = qa at HQ HD
                generalize samE x.b y.b = qb at HQ HD
                go_wp2_with fail
                refine HQ.out.mono ?_
                rintro e w2 ⟨rfl, hb2⟩
                have hb2' := Below.on hbA hb2
                clear g3 g4 g5 g6 g7 g8 g9 g10 c0 c1 c2 c3 c4 c5 c6 c7 c8 c9 c10 d0 d1 d2 d3 d4 d5 d6 d7 d8 d9 d10 HQ hbA hb2
                have c11 := CX.out w2 hb2' 11 _ rfl
                have d11 := CY.out w2 hb2' 11 _ rfl
                cases eq : (qa && qb)
                · have HF : Hid (samSs l t = false) := by
                    show _ = _
                    rw [← HC.out, HD.out]
                    cases qa <;> cases qb <;> simp_all
                  go_wp2_with fail
                  go_ret
                  exact ⟨ret_bool HF.out.symm, Below.on BW.out hb2'⟩
                · obtain ⟨rfl, rfl⟩ : qa = true ∧ qb = true := by cases qa <;> cases qb <;> simp_all
                  clear eq
                  have HB1 : Hid (∀ w', Below wc.heap.size wc w' → Calls Tryd.prog 29 #[.slice x.ba x.body.length x.bc, .slice y.ba y.body.length y.bc] w' fun e w'' => e = .returned (.bool (samSs x.body y.body)) ∧ Below w'.heap.size w' w'') := fun w' h => IH.out _ _ _ _ _ _ w' (by have := HZ.out; have := x.sz_eq; omega) (St.in_iff.1 (XI.out _ (Below.on BW.out h))).2.2.2.2.2.1 (St.in_iff.1 (YI.out _ (Below.on BW.out h))).2.2.2.2.2.1
                  have HB2 : Hid (∀ w', Below wc.heap.size wc w' → Calls Tryd.prog 29 #[.slice x.ea x.els.length x.ec, .slice y.ea y.els.length y.ec] w' fun e w'' => e = .returned (.bool (samSs x.els y.els)) ∧ Below w'.heap.size w' w'') := fun w' h => IH.out _ _ _ _ _ _ w' (by have := HZ.out; have := x.sz_eq; omega) (St.in_iff.1 (XI.out _ (Below.on BW.out h))).2.2.2.2.2.2.1 (St.in_iff.1 (YI.out _ (Below.on BW.out h))).2.2.2.2.2.2.1
                  have HB3 : Hid (∀ w', Below wc.heap.size wc w' → Calls Tryd.prog 50 #[.slice x.ca x.cases.length x.cc, .slice y.ca y.cases.length y.cc] w' fun e w'' => e = .returned (.bool (samCs x.cases y.cases)) ∧ Below w'.heap.size w' w'') := fun w' h => IHC.out _ _ _ _ _ _ w' (by have := HZ.out; have := x.sz_eq; omega) (St.in_iff.1 (XI.out _ (Below.on BW.out h))).2.2.2.2.2.2.2 (St.in_iff.1 (YI.out _ (Below.on BW.out h))).2.2.2.2.2.2.2
                  clear IH IHC
                  generalize samSs x.body y.body = r1 at HB1 HD
                  generalize samSs x.els y.els = r2 at HB2 HD
                  generalize samCs x.cases y.cases = r3 at HB3 HD
                  go_wp2_with fail
                  refine (HB1.out _ hb2').mono ?_
                  rintro e w3 ⟨rfl, hb3⟩
                  have hb3' := Below.on hb2' hb3
                  clear c11 d11 hb2' hb3
                  cases r1
                  · go_wp2_with fail
                    go_ret
                    exact ⟨ret_bool (by rw [← HC.out, HD.out]; rfl), Below.on BW.out hb3'⟩
                  · skip
                    have c12 := CX.out w3 hb3' 12 _ rfl
                    have d12 := CY.out w3 hb3' 12 _ rfl
                    go_wp2_with fail
                    refine (HB2.out _ hb3').mono ?_
                    rintro e w4 ⟨rfl, hb4⟩
                    have hb4' := Below.on hb3' hb4
                    clear c12 d12 hb3' hb4
                    cases r2
                    · go_wp2_with fail
                      go_ret
                      exact ⟨ret_bool (by rw [← HC.out, HD.out]; rfl), Below.on BW.out hb4'⟩
                    · skip
                      have c13 := CX.out w4 hb4' 13 _ rfl
                      have d13 := CY.out w4 hb4' 13 _ rfl
                      go_wp2_with fail
                      refine (HB3.out _ hb4').mono ?_
                      rintro e w5 ⟨rfl, hb5⟩
                      have hb5' := Below.on hb4' hb5
                      clear c13 d13 hb4' hb5
                      cases r3
                      · go_wp2_with fail
                        go_ret
                        exact ⟨ret_bool (by rw [← HC.out, HD.out]; rfl), Below.on BW.out hb5'⟩
                      · go_wp2_with fail
                        go_roundw
                        case rel => exact ⟨j + 1, by omega, by go_num, by rw [← HC.out, HD.out]; rfl, Below.on BW.out hb5'⟩
                        case measure => simp [intOf]; omega
      · go_wp2_with fail
        go_ret
        refine ⟨ret_bool ?_, hb⟩
        rw [← HC.out, List.drop_eq_nil_of_le (by omega), List.drop_eq_nil_of_le (by have := HL.out; omega)]; simp [samSs]
  · have hne : ((l.length : Int) != (t.length : Int)) = true := by simp only [bne_iff_ne]; omega
    go_enter Tryd.func29, Tryd.ntmps29
    go_wp2_with fail
    go_ret
    exact ⟨ret_bool (by rw [samSs_len hle]), Below.refl _ w⟩
end Go.Proofs.YtbpemackmadhgabDoor

/- The document's own copies: statements, the tools. -/
namespace Go.Proofs.YtbpemackmadhgabDoor
open Go.RowKit

theorem Tryd.infoSt : (Tryd.prog.info? 53).map (fun i => (i.zero, i.size, i.bytes)) = some (some (.agg #[.int .i64 0, .string ⟨#[]⟩, .int .i64 0, .int .i64 0, .int .i64 0, .string ⟨#[]⟩, .slice none 0 0, .int .i64 0, .int .i64 0, .string ⟨#[]⟩, .slice none 0 0, .slice none 0 0, .slice none 0 0, .slice none 0 0]), 14, 216) := by kernel_rfl
theorem Tryd.infoCa : (Tryd.prog.info? 59).map (fun i => (i.zero, i.size, i.bytes)) = some (some (.agg #[.int .i64 0, .slice none 0 0]), 2, 32) := by kernel_rfl

mutual
def St.Few : St → Prop | .mk _ _ _ a b _ _ l _ _ e _ _ c => a.Few ∧ b.Few ∧ l.length ≤ 1048576 ∧ FewS l ∧ e.length ≤ 1048576 ∧ FewS e ∧ c.length ≤ 1048576 ∧ FewC c
def Ca.Few : Ca → Prop | .mk _ _ _ l => l.length ≤ 1048576 ∧ FewS l
def FewS : List St → Prop | [] => True | x :: r => x.Few ∧ FewS r
def FewC : List Ca → Prop | [] => True | x :: r => x.Few ∧ FewC r
end
theorem fewS_mem {l : List St} : FewS l ↔ ∀ x ∈ l, x.Few := by induction l <;> simp_all [FewS]
theorem fewC_mem {l : List Ca} : FewC l ↔ ∀ x ∈ l, x.Few := by induction l <;> simp_all [FewC]
theorem St.few_iff {s : St} : s.Few ↔ s.a.Few ∧ s.b.Few ∧ s.body.length ≤ 1048576 ∧ (∀ x ∈ s.body, x.Few) ∧ s.els.length ≤ 1048576 ∧ (∀ x ∈ s.els, x.Few) ∧ s.cases.length ≤ 1048576 ∧ ∀ x ∈ s.cases, x.Few := by
  cases s; simp only [St.Few, St.a, St.b, St.body, St.els, St.cases, fewS_mem, fewC_mem]
theorem Ca.few_iff {c : Ca} : c.Few ↔ c.body.length ≤ 1048576 ∧ ∀ x ∈ c.body, x.Few := by cases c; simp only [Ca.Few, Ca.body, fewS_mem]
theorem erS_len {l t : List St} (h : erS l = erS t) : l.length = t.length := by
  have := congrArg List.length h
  simpa [erS_map] using this
theorem erC_len {l t : List Ca} (h : erC l = erC t) : l.length = t.length := by
  have := congrArg List.length h
  simpa [erC_map] using this

/-- Every block but one is as it was. -/
def Kp (X : Nat) (W W' : World) : Prop := W.heap.size ≤ W'.heap.size ∧ ∀ k, k < W.heap.size → k ≠ X → W'.heap[k]? = W.heap[k]?
theorem Kp.refl (X : Nat) (W : World) : Kp X W W := ⟨Nat.le_refl _, fun _ _ _ => rfl⟩
theorem Kp.trans {X : Nat} {A B C : World} (h : Kp X A B) (k : Kp X B C) : Kp X A C := ⟨Nat.le_trans h.1 k.1, fun i h1 h2 => (k.2 i (Nat.lt_of_lt_of_le h1 h.1) h2).trans (h.2 i h1 h2)⟩
theorem Kp.below {X : Nat} {A B C : World} (h : Kp X A B) (k : Below B.heap.size B C) : Kp X A C := h.trans ⟨k.size, fun i h1 _ => k.block i h1⟩
theorem Kp.set {X : Nat} {A B : World} (h : Kp X A B) (i : Nat) (v : Value) : Kp X A (B.setCell ⟨X, i, none⟩ v) := h.trans ⟨by simp [World.setCell], fun k _ h2 => Below.heap_setCell _ _ _ _ h2⟩
theorem Kp.alloc {X : Nat} {A B : World} (h : Kp X A B) (o : Obj) : Kp X A (B.alloc o) := h.trans ⟨by simp, fun k h1 _ => Below.heap_alloc _ _ _ h1⟩
theorem Kp.grown {X : Nat} {A B C : World} (h : Kp X A B) (hg : B.grownBy C (some X)) : Kp X A C := h.trans ⟨hg.size, fun k h1 h2 => hg.block k h1 (by simpa using h2)⟩
theorem Kp.none {X : Nat} {A B C : World} (h : Kp X A B) (hg : B.grownBy C none) : Kp X A C := h.trans ⟨hg.size, fun k h1 _ => hg.block k h1 (by simp)⟩
theorem set_list {W : World} {b : Nat} {l : List Value} {T : TypeId} {fz : Nat × Nat} (h : W.heap[b]? = some (.cells ⟨l⟩ T fz)) (i : Nat) (v : Value) : (W.setCell ⟨b, i, none⟩ v).heap[b]? = some (.cells ⟨l.set i v⟩ T fz) := by
  rw [set_cell h]; simp
theorem size_set (W : World) (a : Addr) (v : Value) : (W.setCell a v).heap.size = W.heap.size := by simp [World.setCell]

theorem bel_alloc {C : Nat} {A B : World} (hC : C < A.heap.size) (h : Below C A B) (o : Obj) : Below C A (B.alloc o) := h.alloc (Nat.le_trans (Nat.le_of_lt hC) h.size) o
theorem bel_grown {C : Nat} {A B B' : World} (hC : C < A.heap.size) (h : Below C A B) (hg : B.grownBy B' (some C)) : Below C A B' := h.grown hg (Nat.le_trans (Nat.le_of_lt hC) h.size) (fun k hk => by simp at hk; omega)
theorem bel_call {C : Nat} {A B : World} (hC : C < A.heap.size) (h : Below A.drew.heap.size A.drew B) : Below C A B := (Below.drew (Below.refl C A)).trans (h.mono (Nat.le_of_lt hC))
theorem step_append_spare {P : Program} (w : World) {ops : Array Oper} {o : Oper} {a : Act} {K : Act → World → Prop} {Q : Exit → Act → World → Prop} {E : Prop} (hgd : o.guard = none) (s x : Operand) (t : TypeId)
    (ho : o.op = .call { callee := .builtin .append, args := #[s, x], argTypes := #[t, t] })
    (base : Nat) (e : TypeId) (i : TypeInfo) (size : Nat) (ht : P.underlying t = some (.slice e)) (hi : P.info? e = some i) (hsize : i.size = size)
    (g n cap : Nat) (xs : List Value) (hs : a.eval s = .slice (some ⟨g, 0, none⟩) n cap) (hown : w.ownsRow base e size (.slice (some ⟨g, 0, none⟩) n cap) n xs)
    (ad : Addr) (m c : Nat) (news : List Value) (hx : a.eval x = .slice (some ad) m c) (hl : news.length = m * size) (hnews : ∀ j u, news[j]? = some u → w.cell? (ad.add j) = some u) (h1 : ∀ u ∈ news, u.oneCell' = true)
    (hroom : n + m ≤ cap)
    (h : ∀ w', w'.ownsRow base e size (.slice (some ⟨g, 0, none⟩) (n + m) cap) (n + m) (xs ++ news) → w.grownBy w' (some g) → K (a.put o.dst (.slice (some ⟨g, 0, none⟩) (n + m) cap)) w') :
    if Region.wanted o (yielded ops a.tmps) = true then Oper.wp P o a w K Q else E := by
  have hw : Region.wanted o (yielded ops a.tmps) = true := by simp [Region.wanted, hgd]
  rw [if_pos hw]
  exact wp_append_own_spare w s x t ho base e i size ht hi hsize g n cap xs hs hown ad m c news hx hl hnews h1 hroom h

/-- What comes of a list of statements. -/
def CpRS (w w' : World) (l : List St) (e : Ending) : Prop := ∃ (g : Nat) (l' : List St), e = .returned (.slice (some ⟨g, 0, none⟩) l.length (l.length + 1)) ∧ RowCp w' (some ⟨g, 0, none⟩) (l.length + 1) l'.length 216 53 (l'.flatMap St.cells ++ senS) ∧ (∀ x ∈ l', x.Cp w') ∧ erS l' = erS l ∧ (g :: blS l').Nodup ∧ (∀ b ∈ g :: blS l', w.heap.size ≤ b ∧ b < w'.heap.size)
abbrev StOfOk (n : Nat) : Prop := ∀ (l : List St) (a : Option Addr) (c : Nat) (w : World), ssz l < n → Have w a c l → l.length ≤ 1048576 → (∀ x ∈ l, x.Few) → Calls Tryd.prog 20 #[.slice a l.length c] w fun e w' => CpRS w w' l e ∧ Below w.heap.size w w'
end Go.Proofs.YtbpemackmadhgabDoor
