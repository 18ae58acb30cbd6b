/- The statements' own first question answers yes. -/
import Derived.Test.YtbpemackmadhgaaDoorW1
namespace Go.Proofs.YtbpemackmadhgaaDoor
open Go.RowKit Go.Sort

theorem equalIn_flt (a b c a' b' c' : Int) (w : World) : (Op.equalIn 10000 33 (fltV a b c) (fltV a' b' c')).run Tryd.prog w = .ok (a == a' && (b == b' && c == c')) w := by
  have u3 := Tryd.underlying3
  have a3 := Tryd.isAgg3
  have z3 := Tryd.sizeOf3
  have u31 := Tryd.underlying31
  have a31 := Tryd.isAgg31
  have z31 := Tryd.sizeOf31
  have hS : Tryd.prog.underlying 33 = some (.struct (Tryd.prog.fieldsOf 33)) := by kernel_rfl
  have hp : Tryd.prog.stoodInHeld 33 = false := by kernel_rfl
  unfold fltV
  rw [show (10000 : Nat) = 9999 + 1 from rfl, run_equalIn_agg w 9999 33 _ _ hS hp]
  simp only [Program.fieldsOf, Tryd.underlying33]
  go_simp
  by_cases h1 : a = a' <;> by_cases h2 : b = b' <;> by_cases h3 : c = c' <;> simp [h1, h2, h3]

theorem keep_heap {W : World} {k : Nat} {o : Obj} (h : W.heap[k]? = some o) (o' : Obj) : (W.alloc o').heap[k]? = some o := (Lib.alloc_old W o' k (Array.getElem?_eq_some_iff.1 h).1).trans h
theorem new_heap {W : World} {k : Nat} (o : Obj) (h : W.heap.size = k) : (W.alloc o).heap[k]? = some o := by rw [← h]; exact heap_alloc_new W o
theorem set_keep {W : World} {k : Nat} {o : Obj} (a : Addr) (v : Value) (h : W.heap[k]? = some o) (hk : k ≠ a.block) : (W.setCell a v).drew.heap[k]? = some o := (Below.heap_setCell W a v k hk).trans h
theorem set_same {W : World} {b : Nat} {cs : Array Value} {T : TypeId} {fz : Nat × Nat} (h : W.heap[b]? = some (.cells cs T fz)) (i : Nat) (v : Value) : (W.setCell ⟨b, i, none⟩ v).drew.heap[b]? = some (.cells (cs.setIfInBounds i v) T fz) := by
  show (W.setCell ⟨b, i, none⟩ v).heap[b]? = _
  simp [World.setCell, Array.getElem?_modify, h]
/-- The world in which the first question's first program lies. -/
def awW (w : World) : World := ((((((w.alloc (.cells #[.int .i64 2, .int .i64 0, .string ⟨#[110]⟩, .slice none 0 0] 39)).alloc (.cells #[.int .i64 (-5), .int .i64 0] 2)).alloc (.cells #[.string ⟨#[110]⟩, .int .i64 0, .int .i64 10] 41)).alloc (.cells #[.int .i64 2, .int .i64 0, .string ⟨#[110]⟩, .slice none 0 0] 39)).alloc (.cells #[.int .i64 9, .string ⟨#[]⟩, .int .i64 0, .int .i64 5, .int .i64 0, .string ⟨#[]⟩, .slice (some ⟨w.heap.size + 1 + 1 + 1, 0, none⟩) 1 1, .int .i64 0, .int .i64 0, .string ⟨#[]⟩, .slice none 0 0, .slice none 0 0, .slice none 0 0, .slice none 0 0, .int .i64 1, .string ⟨#[]⟩, .int .i64 1, .int .i64 0, .int .i64 0, .string ⟨#[]⟩, .slice none 0 0, .int .i64 0, .int .i64 0, .string ⟨#[]⟩, .slice none 0 0, .slice none 0 0, .slice none 0 0, .slice none 0 0] 46)).alloc (.cells #[.string ⟨#[102]⟩, .slice (some ⟨w.heap.size + 1 + 1, 0, none⟩) 1 1, .slice (some ⟨w.heap.size + 1 + 1 + 1 + 1, 0, none⟩) 2 2] 48)).alloc (.cells #[.slice (some ⟨w.heap.size + 1, 0, none⟩) 2 2, .slice (some ⟨w.heap.size + 1 + 1 + 1 + 1 + 1, 0, none⟩) 1 1] 26)
theorem awW_facts (w : World) : Lay (awW w) w.heap.size ∧ (awW w).heap[w.heap.size + 1 + 1 + 1 + 1 + 1]? = some (.cells #[.string ⟨#[102]⟩, .slice (some ⟨w.heap.size + 1 + 1, 0, none⟩) 1 1, .slice (some ⟨w.heap.size + 1 + 1 + 1 + 1, 0, none⟩) 2 2] 48 (0, 0)) ∧ (awW w).heap[w.heap.size + 1 + 1 + 1 + 1 + 1 + 1]? = some (.cells #[.slice (some ⟨w.heap.size + 1, 0, none⟩) 2 2, .slice (some ⟨w.heap.size + 1 + 1 + 1 + 1 + 1, 0, none⟩) 1 1] 26 (0, 0)) ∧ Below w.heap.size w (awW w) ∧ (awW w).heap.size = w.heap.size + 1 + 1 + 1 + 1 + 1 + 1 + 1 := by
  unfold awW
  refine ⟨⟨?_, ?_, ?_, ?_⟩, ?_, ?_, ?_, by simp⟩
  · exact keep_heap (keep_heap (keep_heap (keep_heap (keep_heap (new_heap _ (by simp)) _) _) _) _) _
  · exact keep_heap (keep_heap (keep_heap (keep_heap (new_heap _ (by simp)) _) _) _) _
  · exact keep_heap (keep_heap (keep_heap (new_heap _ (by simp)) _) _) _
  · exact keep_heap (keep_heap (new_heap _ (by simp)) _) _
  · exact keep_heap (new_heap _ (by simp)) _
  · exact new_heap _ (by simp)
  · exact Below.one (Below.one (Below.one (Below.one (Below.one (Below.one (Below.one (Below.refl _ w) _) _) _) _) _) _) _

set_option maxRecDepth 100000 in
set_option maxHeartbeats 16000000 in
theorem awake_any (w : World) (ht : Tabs w) (hnt : NumT w) : Calls Tryd.prog 7 #[] w fun e w' => e = .returned (.bool true) ∧ Below w.heap.size w w' := by
  obtain ⟨lay, k5, k6, hb0, hs0⟩ := awW_facts w
  have HT : Hid (Tabs w) := ht
  have HN : Hid (NumT w) := hnt
  clear ht hnt
  go_enter Tryd.func7, Tryd.ntmps7
  go_wp2_with fail
  obtain ⟨W7, hW7⟩ : ∃ W7, awW w = W7 := ⟨_, rfl⟩
  rw [hW7] at lay k5 k6 hb0 hs0
  unfold awW at hW7
  rw [hW7]
  clear hW7
  obtain ⟨B, hB⟩ : ∃ B, w.heap.size = B := ⟨_, rfl⟩
  have HB : Hid (w.heap.size = B) := hB
  rw [hB] at lay k5 k6 hs0 ⊢
  have hck := check_any (aPr B (B + 1 + 1 + 1 + 1 + 1) [aRet B, aLet]) W7 (aPr_in lay (body_p lay) k5) (HT.out.stay hb0)
  rw [check_p] at hck
  have HCK : Hid (Calls Tryd.prog 15 #[.agg #[.slice (some ⟨B + 1, 0, none⟩) 2 2, .slice (some ⟨B + 1 + 1 + 1 + 1 + 1, 0, none⟩) 1 1]] W7 fun e w' => e = .returned (fltV 5 0 2) ∧ Below W7.heap.size W7 w') := hck
  clear hck hB
  refine HCK.out.mono ?_
  rintro e w1 ⟨rfl, hb1⟩
  have lay1 := lay.stay hb1
  have K5 := (hb1.block (B + 1 + 1 + 1 + 1 + 1) (by omega)).trans k5
  have K6 := (hb1.block (B + 1 + 1 + 1 + 1 + 1 + 1) (by omega)).trans k6
  have hbw := Below.on hb0 hb1
  have HLAY : Hid (Lay w1 B) := lay1
  have p0 : w1.cell? ⟨B + 1 + 1 + 1 + 1 + 1 + 1, 0, none⟩ = some (.slice (some ⟨B + 1, 0, none⟩) 2 2) := by rw [Lib.cell_of_heap K6]; rfl
  have p1 : w1.cell? ⟨B + 1 + 1 + 1 + 1 + 1 + 1, 1, none⟩ = some (.slice (some ⟨B + 1 + 1 + 1 + 1 + 1, 0, none⟩) 1 1) := by rw [Lib.cell_of_heap K6]; rfl
  have f0 : w1.cell? ⟨B + 1 + 1 + 1 + 1 + 1, 0, none⟩ = some (.string ⟨#[102]⟩) := by rw [Lib.cell_of_heap K5]; rfl
  have f1 : w1.cell? ⟨B + 1 + 1 + 1 + 1 + 1, 1, none⟩ = some (.slice (some ⟨B + 1 + 1, 0, none⟩) 1 1) := by rw [Lib.cell_of_heap K5]; rfl
  have f2 : w1.cell? ⟨B + 1 + 1 + 1 + 1 + 1, 2, none⟩ = some (.slice (some ⟨B + 1 + 1 + 1 + 1, 0, none⟩) 2 2) := by rw [Lib.cell_of_heap K5]; rfl
  have hs1 : B + 1 + 1 + 1 + 1 + 1 + 1 < w1.heap.size := by have := hb1.size; omega
  have hs2 : B + 1 + 1 + 1 + 1 + 1 < w1.heap.size := by omega
  have g0 : ∀ o1 o2, ((w1.alloc o1).alloc o2).cell? ⟨B + 1 + 1 + 1 + 1 + 1, 0, none⟩ = some (.string ⟨#[102]⟩) := fun o1 o2 => by rw [Lib.cell_of_heap (keep_heap (keep_heap K5 o1) o2)]; rfl
  have g1 : ∀ o1 o2, ((w1.alloc o1).alloc o2).cell? ⟨B + 1 + 1 + 1 + 1 + 1, 1, none⟩ = some (.slice (some ⟨B + 1 + 1, 0, none⟩) 1 1) := fun o1 o2 => by rw [Lib.cell_of_heap (keep_heap (keep_heap K5 o1) o2)]; rfl
  have g2 : ∀ o1 o2, ((w1.alloc o1).alloc o2).cell? ⟨B + 1 + 1 + 1 + 1 + 1, 2, none⟩ = some (.slice (some ⟨B + 1 + 1 + 1 + 1, 0, none⟩) 2 2) := fun o1 o2 => by rw [Lib.cell_of_heap (keep_heap (keep_heap K5 o1) o2)]; rfl
  have HK5 : Hid (w1.heap[B + 1 + 1 + 1 + 1 + 1]? = some (.cells #[.string ⟨#[102]⟩, .slice (some ⟨B + 1 + 1, 0, none⟩) 1 1, .slice (some ⟨B + 1 + 1 + 1 + 1, 0, none⟩) 2 2] 48 (0, 0))) := K5
  have HK6 : Hid (w1.heap[B + 1 + 1 + 1 + 1 + 1 + 1]? = some (.cells #[.slice (some ⟨B + 1, 0, none⟩) 2 2, .slice (some ⟨B + 1 + 1 + 1 + 1 + 1, 0, none⟩) 1 1] 26 (0, 0))) := K6
  clear lay lay1 k5 k6 K5 K6 hb0 hb1 HCK hs0
  go_wp2_with fail
  clear f0 f1 f2 g0 g1 g2 p0
  obtain ⟨W3, hW3⟩ : ∃ W3, (((w1.alloc (.cells #[.int .i64 5, .int .i64 0, .int .i64 2] 33)).alloc (.cells #[.slice (some ⟨B + 1, 0, none⟩) 2 2, .slice (some ⟨w1.heap.size + 1 + 1, 0, none⟩) 1 1] 26)).alloc (.cells #[.string ⟨#[102]⟩, .slice (some ⟨B + 1 + 1, 0, none⟩) 1 1, .slice (some ⟨B + 1 + 1 + 1 + 1, 0, none⟩) 2 2] 48)) = W3 := ⟨_, rfl⟩
  have hb3 : Below w1.heap.size w1 W3 := by rw [← hW3]; exact Below.one (Below.one (Below.one (Below.refl _ w1) _) _) _
  obtain ⟨S, hS⟩ : ∃ S, w1.heap.size = S := ⟨_, rfl⟩
  have k7 : W3.heap[S]? = some (.cells #[.int .i64 5, .int .i64 0, .int .i64 2] 33 (0, 0)) := by rw [← hW3]; exact keep_heap (keep_heap (new_heap _ hS) _) _
  have k8 : W3.heap[S + 1]? = some (.cells #[.slice (some ⟨B + 1, 0, none⟩) 2 2, .slice (some ⟨S + 1 + 1, 0, none⟩) 1 1] 26 (0, 0)) := by rw [← hW3, hS]; exact keep_heap (new_heap _ (by simp [hS])) _
  have k9 : W3.heap[S + 1 + 1]? = some (.cells #[.string ⟨#[102]⟩, .slice (some ⟨B + 1 + 1, 0, none⟩) 1 1, .slice (some ⟨B + 1 + 1 + 1 + 1, 0, none⟩) 2 2] 48 (0, 0)) := by rw [← hW3]; exact new_heap _ (by simp [hS])
  have k5 := (hb3.block (B + 1 + 1 + 1 + 1 + 1) (by omega)).trans HK5.out
  have k6 := (hb3.block (B + 1 + 1 + 1 + 1 + 1 + 1) (by omega)).trans HK6.out
  have hS3 : W3.heap.size = S + 1 + 1 + 1 := by rw [← hW3]; simp [hS]
  rw [hW3]
  rw [hS] at hs1 hs2 ⊢
  have e0 : W3.drew.cell? ⟨S + 1, 1, none⟩ = some (.slice (some ⟨S + 1 + 1, 0, none⟩) 1 1) := by
    have : W3.drew.heap[S + 1]? = _ := k8
    rw [Lib.cell_of_heap this]; rfl
  have e1 : W3.drew.cell? ⟨B + 1 + 1 + 1 + 1 + 1 + 1, 1, none⟩ = some (.slice (some ⟨B + 1 + 1 + 1 + 1 + 1, 0, none⟩) 1 1) := by
    have : W3.drew.heap[B + 1 + 1 + 1 + 1 + 1 + 1]? = _ := k6
    rw [Lib.cell_of_heap this]; rfl
  have e2 : W3.drew.cell? ⟨B + 1 + 1 + 1 + 1 + 1, 2, none⟩ = some (.slice (some ⟨B + 1 + 1 + 1 + 1, 0, none⟩) 2 2) := by
    have : W3.drew.heap[B + 1 + 1 + 1 + 1 + 1]? = _ := k5
    rw [Lib.cell_of_heap this]; rfl
  have e3 : W3.drew.cell? ⟨S + 1 + 1, 2, none⟩ = some (.slice (some ⟨B + 1 + 1 + 1 + 1, 0, none⟩) 2 2) := by
    have : W3.drew.heap[S + 1 + 1]? = _ := k9
    rw [Lib.cell_of_heap this]; rfl
  have e4 : W3.frozen? ⟨S + 1 + 1, 2, none⟩ = false := by simp [World.frozen?, k9]
  have HH : Hid (Below w1.heap.size w1 W3 ∧ Lay w1 B ∧ Below w.heap.size w w1 ∧ w1.heap.size = S ∧ W3.heap.size = S + 1 + 1 + 1) := ⟨hb3, HLAY.out, hbw, hS, hS3⟩
  have K5 := show Hid _ from k5
  have K6 := show Hid _ from k6
  have K7 := show Hid _ from k7
  have K8 := show Hid _ from k8
  have K9 := show Hid _ from k9
  clear hb3 hS hS3 hW3 HLAY hbw k5 k6 k7 k8 k9 p1 HK5 HK6
  go_region
  obtain ⟨W4, hW4⟩ : ∃ W4, (W3.setCell ⟨S + 1 + 1, 2, none⟩ (.slice (some ⟨B + 1 + 1 + 1 + 1, 0, none⟩) 1 2)).drew = W4 := ⟨_, rfl⟩
  rw [hW4]
  have k5 := set_keep ⟨S + 1 + 1, 2, none⟩ (.slice (some ⟨B + 1 + 1 + 1 + 1, 0, none⟩) 1 2) K5.out (by show _ ≠ S + 1 + 1; omega)
  have k6 := set_keep ⟨S + 1 + 1, 2, none⟩ (.slice (some ⟨B + 1 + 1 + 1 + 1, 0, none⟩) 1 2) K6.out (by show _ ≠ S + 1 + 1; omega)
  have k7 := set_keep ⟨S + 1 + 1, 2, none⟩ (.slice (some ⟨B + 1 + 1 + 1 + 1, 0, none⟩) 1 2) K7.out (by show _ ≠ S + 1 + 1; omega)
  have k8 := set_keep ⟨S + 1 + 1, 2, none⟩ (.slice (some ⟨B + 1 + 1 + 1 + 1, 0, none⟩) 1 2) K8.out (by show _ ≠ S + 1 + 1; omega)
  rw [hW4] at k5 k6 k7 k8
  have k9 : W4.heap[S + 1 + 1]? = some (.cells #[.string ⟨#[102]⟩, .slice (some ⟨B + 1 + 1, 0, none⟩) 1 1, .slice (some ⟨B + 1 + 1 + 1 + 1, 0, none⟩) 1 2] 48 (0, 0)) := by rw [← hW4]; exact set_same K9.out 2 _
  obtain ⟨hb3, hlay, hbw, hS, hS3⟩ := HH.out
  have hb4 : Below w1.heap.size w1 W4 := by rw [← hW4]; exact Below.drew (Below.setCell hb3 (by show _ ≤ S + 1 + 1; omega) _)
  have hS4 : W4.heap.size = S + 1 + 1 + 1 := by rw [← hW4]; show (W3.setCell _ _).heap.size = _; simp [World.setCell, hS3]
  have hbw4 : Below w.heap.size w W4 := Below.on hbw hb4
  have hlay4 : Lay W4 B := hlay.stay hb4
  have hpr := awPrint W4 B (S + 1 + 1) hlay4 k9 (HT.out.stay hbw4) (HN.out.stay hbw4)
  have HPR : Hid (Calls Tryd.prog 14 #[.agg #[.slice (some ⟨B + 1, 0, none⟩) 2 2, .slice (some ⟨S + 1 + 1, 0, none⟩) 1 1]] W4 fun e w' => e = .returned (.tuple #[.string ⟨#[119, 105, 100, 101, 110, 32, 45, 53, 44, 32, 48, 59, 10, 102, 110, 32, 102, 40, 110, 32, 105, 110, 32, 48, 46, 46, 49, 48, 41, 32, 123, 10, 32, 32, 114, 101, 116, 117, 114, 110, 32, 45, 110, 59, 10, 125, 10]⟩, .agg #[.int .i64 0, .int .i64 0, .int .i64 0]]) ∧ Below W4.heap.size W4 w') := hpr
  have q0 : W4.cell? ⟨S + 1, 0, none⟩ = some (.slice (some ⟨B + 1, 0, none⟩) 2 2) := by rw [Lib.cell_of_heap k8]; rfl
  have q1 : W4.cell? ⟨S + 1, 1, none⟩ = some (.slice (some ⟨S + 1 + 1, 0, none⟩) 1 1) := by rw [Lib.cell_of_heap k8]; rfl
  clear K5 K6 K7 K8 K9 HH e0 e1 e2 e3 e4 hb3 hlay hbw hpr hW4 hS hS3
  have K5 := show Hid _ from k5
  have K6 := show Hid _ from k6
  have K7 := show Hid _ from k7
  have K8 := show Hid _ from k8
  have K9 := show Hid _ from k9
  have HH : Hid (Below w.heap.size w W4 ∧ Lay W4 B ∧ W4.heap.size = S + 1 + 1 + 1) := ⟨hbw4, hlay4, hS4⟩
  clear k5 k6 k7 k8 k9 hbw4 hlay4 hS4 hb4
  go_wp2_with fail
  refine HPR.out.mono ?_
  rintro e w5 ⟨rfl, hb5⟩
  clear q0 q1 HPR
  obtain ⟨hbw4, hlay4, hS4⟩ := HH.out
  have hbw5 := Below.on hbw4 hb5
  have hlay5 := hlay4.stay hb5
  have k5 := (hb5.block (B + 1 + 1 + 1 + 1 + 1) (by omega)).trans K5.out
  have k6 := (hb5.block (B + 1 + 1 + 1 + 1 + 1 + 1) (by omega)).trans K6.out
  have k7 := (hb5.block S (by omega)).trans K7.out
  have k8 := (hb5.block (S + 1) (by omega)).trans K8.out
  have k9 := (hb5.block (S + 1 + 1) (by omega)).trans K9.out
  have hs5 := hb5.size
  rw [hS4] at hs5
  have s5 : S + 1 < w5.heap.size := by omega
  have s6 : S < w5.heap.size := by omega
  have s7 : B + 1 + 1 + 1 + 1 + 1 + 1 < w5.heap.size := by omega
  clear K5 K6 K7 K8 K9 HH hb5 hbw4 hlay4 hS4 hs5 hs1 hs2
  have a0 : w5.cell? ⟨S, 0, none⟩ = some (.int .i64 5) := by rw [Lib.cell_of_heap k7]; rfl
  have a1 : w5.cell? ⟨S, 1, none⟩ = some (.int .i64 0) := by rw [Lib.cell_of_heap k7]; rfl
  have a2 : w5.cell? ⟨S, 2, none⟩ = some (.int .i64 2) := by rw [Lib.cell_of_heap k7]; rfl
  have q0 : w5.cell? ⟨S + 1, 0, none⟩ = some (.slice (some ⟨B + 1, 0, none⟩) 2 2) := by rw [Lib.cell_of_heap k8]; rfl
  have q1 : w5.cell? ⟨S + 1, 1, none⟩ = some (.slice (some ⟨S + 1 + 1, 0, none⟩) 1 1) := by rw [Lib.cell_of_heap k8]; rfl
  have hq := equalIn_flt
  have hg : ∀ (w : World) (op : BinOp) (a b : Operand) (xs ys : Array Value), (eqGuard op 33 a b (.agg xs) (.agg ys)).run Tryd.prog w = .ok () w := fun w op a b xs ys => run_eqGuard_agg w op 33 a b xs ys (by kernel_rfl)
  unfold fltV at hq
  have K5 := show Hid _ from k5
  have K6 := show Hid _ from k6
  have K8 := show Hid _ from k8
  have K9 := show Hid _ from k9
  have HQ : Hid ((aPr B (S + 1 + 1) [aRet B]).In w5) := aPr_in hlay5 (body_q hlay5) k9
  have HP : Hid ((aPr B (B + 1 + 1 + 1 + 1 + 1) [aRet B, aLet]).In w5) := aPr_in hlay5 (body_p hlay5) k5
  have HH : Hid (Below w.heap.size w w5) := hbw5
  have g0 : Hid (w5.cell? ⟨B + 1 + 1 + 1 + 1 + 1 + 1, 0, none⟩ = some (.slice (some ⟨B + 1, 0, none⟩) 2 2)) := by rw [Lib.cell_of_heap k6]; rfl
  have g1 : Hid (w5.cell? ⟨B + 1 + 1 + 1 + 1 + 1 + 1, 1, none⟩ = some (.slice (some ⟨B + 1 + 1 + 1 + 1 + 1, 0, none⟩) 1 1)) := by rw [Lib.cell_of_heap k6]; rfl
  have HN1 : Hid (∀ w', Below w5.heap.size w5 w' → Calls Tryd.prog 8 #[.agg #[.slice (some ⟨B + 1, 0, none⟩) 2 2, .slice (some ⟨S + 1 + 1, 0, none⟩) 1 1]] w' fun e w'' => e = .returned (.int .i64 3) ∧ Below w'.heap.size w' w'') := fun w' hb => by
    have := nodes_any (aPr B (S + 1 + 1) [aRet B]) w' (HQ.out.stay hb)
    rw [nodes_q] at this; exact this
  have HS1 : Hid (∀ w', Below w5.heap.size w5 w' → Calls Tryd.prog 12 #[.agg #[.slice (some ⟨B + 1, 0, none⟩) 2 2, .slice (some ⟨S + 1 + 1, 0, none⟩) 1 1], .agg #[.slice (some ⟨B + 1, 0, none⟩) 2 2, .slice (some ⟨S + 1 + 1, 0, none⟩) 1 1]] w' fun e w'' => e = .returned (.bool true) ∧ Below w'.heap.size w' w'') := fun w' hb => by
    have := same_any (aPr B (S + 1 + 1) [aRet B]) (aPr B (S + 1 + 1) [aRet B]) w' (HQ.out.stay hb) (HQ.out.stay hb)
    rw [same_qq] at this; exact this
  have HS2 : Hid (∀ w', Below w5.heap.size w5 w' → Calls Tryd.prog 12 #[.agg #[.slice (some ⟨B + 1, 0, none⟩) 2 2, .slice (some ⟨B + 1 + 1 + 1 + 1 + 1, 0, none⟩) 1 1], .agg #[.slice (some ⟨B + 1, 0, none⟩) 2 2, .slice (some ⟨S + 1 + 1, 0, none⟩) 1 1]] w' fun e w'' => e = .returned (.bool false) ∧ Below w'.heap.size w' w'') := fun w' hb => by
    have := same_any (aPr B (B + 1 + 1 + 1 + 1 + 1) [aRet B, aLet]) (aPr B (S + 1 + 1) [aRet B]) w' (HP.out.stay hb) (HQ.out.stay hb)
    rw [same_pq] at this; exact this
  have g2 := show Hid _ from q0
  have g3 := show Hid _ from q1
  clear k5 k6 k7 k8 k9 hbw5 hlay5 HQ HP
  go_wp2_with fail
  have hba := Below.one (Below.refl w5.heap.size w5) (.cells #[.int .i64 0, .int .i64 0, .int .i64 0] 33)
  refine (HN1.out _ hba).mono ?_
  rintro e w6 ⟨rfl, hb6⟩
  have hb6' := Below.on hba hb6
  clear q0 q1 a0 a1 a2 hq hg hb6 hba HN1
  have q0 := (hb6'.cell (p := ⟨S + 1, 0, none⟩) s5).trans g2.out
  have q1 := (hb6'.cell (p := ⟨S + 1, 1, none⟩) s5).trans g3.out
  go_wp2_with fail
  refine (HS1.out _ hb6').mono ?_
  rintro e w7 ⟨rfl, hb7⟩
  have hb7' := Below.on hb6' hb7
  clear q0 q1 hb6' hb7 HS1
  have q0 := (hb7'.cell (p := ⟨S + 1, 0, none⟩) s5).trans g2.out
  have q1 := (hb7'.cell (p := ⟨S + 1, 1, none⟩) s5).trans g3.out
  have p0 := (hb7'.cell (p := ⟨B + 1 + 1 + 1 + 1 + 1 + 1, 0, none⟩) s7).trans g0.out
  have p1 := (hb7'.cell (p := ⟨B + 1 + 1 + 1 + 1 + 1 + 1, 1, none⟩) s7).trans g1.out
  go_wp2_with fail
  refine (HS2.out _ hb7').mono ?_
  rintro e w8 ⟨rfl, hb8⟩
  have hb8' := Below.on HH.out (Below.on hb7' hb8)
  clear q0 q1 p0 p1 hb7' hb8 HS2
  go_wp2_with fail
  go_ret
  exact ⟨rfl, hb8'⟩
end Go.Proofs.YtbpemackmadhgaaDoor
