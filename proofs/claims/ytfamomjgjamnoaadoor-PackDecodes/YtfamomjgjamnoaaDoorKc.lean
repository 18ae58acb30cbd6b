/- pack's writer of modules: an instruction. -/
import Derived.Test.YtfamomjgjamnoaaDoorKb
namespace Go.Proofs.YtfamomjgjamnoaaDoor
open Go.RowKit Go.Sort

theorem w1B_len (z : Int) : (w1B z).length = 1 := leB_len _ _
theorem w2B_len (z : Int) : (w2B z).length = 2 := leB_len _ _
theorem w8B_len (z : Int) : (w8B z).length = 8 := leB_len _ _
theorem below_drew (W : World) : Below W.heap.size W W.drew := ⟨rfl, rfl, rfl, Nat.le_refl _, fun _ _ => rfl⟩
theorem WrAt.drew {N b : Nat} {acc : Bt} {v : Value} {W : World} (h : WrAt N b acc v W) : WrAt N b acc v W.drew := h.stay (below_drew W)
theorem Kp.drew {N b : Nat} {W W' W'' : World} (h : Kp N b W W') (k : Kp N b W'.drew W'') : Kp N b W W'' := ⟨h.bl.trans ⟨k.bl.os, k.bl.tape, k.bl.output, k.bl.size, k.bl.block⟩, fun i cs T fz hi hT hk => k.o i cs T fz (h.o i cs T fz hi hT hk) hT hk⟩
abbrev isC (x : Is) : Array Value := #[.int .i64 x.op, .int .i64 x.a, .int .i64 x.b, .int .i64 x.c, .int .i64 x.n]
set_option maxRecDepth 100000 in
set_option maxHeartbeats 4000000 in
theorem winstr_any (N b : Nat) (acc : Bt) (v : Value) (w : World) (x : Is) (h : WrAt N b acc v w) (hl : acc.length ≤ 90000000) :
    Calls Tryd.prog 47 #[.pointer (some ⟨b, 0, none⟩), x.val] w (WrP N b (acc ++ insB x) w) := by
  have hN : N ≤ w.heap.size := Nat.le_of_lt (Nat.lt_of_le_of_lt h.nb h.lt)
  have hbo := Below.one (Below.refl _ w) (.cells (isC x) 58)
  have hne : w.heap.size ≠ b := by have := h.lt; omega
  have HK := Hid.mk' (Kp.stay (b := b) hN hbo)
  have HW := Hid.mk' (h.stay hbo)
  have HX := Hid.mk' (heap_alloc_new w (.cells (isC x) 58))
  have x0 := cell_of_obj HX.out (j := 0) (v := .int .i64 x.op) rfl
  have HE : Hid (acc ++ insB x = acc ++ w1B x.op ++ w1B x.a ++ w1B x.b ++ w1B x.c ++ w8B x.n) := (by simp [insB] : _ = _)
  rw [HE.out]
  have s1 : (acc ++ w1B x.op).length = acc.length + 1 := by rw [List.length_append, w1B_len]
  have s2 : (acc ++ w1B x.op ++ w1B x.a).length = acc.length + 2 := by rw [List.length_append, s1, w1B_len]
  have s3 : (acc ++ w1B x.op ++ w1B x.a ++ w1B x.b).length = acc.length + 3 := by rw [List.length_append, s2, w1B_len]
  have s4 : (acc ++ w1B x.op ++ w1B x.a ++ w1B x.b ++ w1B x.c).length = acc.length + 4 := by rw [List.length_append, s3, w1B_len]
  have HC0 : Hid (∀ (v : Value) (w : World), WrAt N b acc v w → Calls Tryd.prog 30 #[.pointer (some ⟨b, 0, none⟩), .int .i64 x.op] w (WrP N b (acc ++ w1B x.op) w)) := fun v w h => wbyte_any N b _ v w _ h (by omega)
  have HC1 : Hid (∀ (v : Value) (w : World), WrAt N b (acc ++ w1B x.op) v w → Calls Tryd.prog 30 #[.pointer (some ⟨b, 0, none⟩), .int .i64 x.a] w (WrP N b (acc ++ w1B x.op ++ w1B x.a) w)) := fun v w h => wbyte_any N b _ v w _ h (by omega)
  have HC2 : Hid (∀ (v : Value) (w : World), WrAt N b (acc ++ w1B x.op ++ w1B x.a) v w → Calls Tryd.prog 30 #[.pointer (some ⟨b, 0, none⟩), .int .i64 x.b] w (WrP N b (acc ++ w1B x.op ++ w1B x.a ++ w1B x.b) w)) := fun v w h => wbyte_any N b _ v w _ h (by omega)
  have HC3 : Hid (∀ (v : Value) (w : World), WrAt N b (acc ++ w1B x.op ++ w1B x.a ++ w1B x.b) v w → Calls Tryd.prog 30 #[.pointer (some ⟨b, 0, none⟩), .int .i64 x.c] w (WrP N b (acc ++ w1B x.op ++ w1B x.a ++ w1B x.b ++ w1B x.c) w)) := fun v w h => wbyte_any N b _ v w _ h (by omega)
  have HC4 : Hid (∀ (v : Value) (w : World), WrAt N b (acc ++ w1B x.op ++ w1B x.a ++ w1B x.b ++ w1B x.c) v w → Calls Tryd.prog 31 #[.pointer (some ⟨b, 0, none⟩), .int .i64 x.n] w (WrP N b (acc ++ w1B x.op ++ w1B x.a ++ w1B x.b ++ w1B x.c ++ w8B x.n) w)) := fun v w h => wword_any N b _ v w _ h (by omega)
  generalize acc ++ w1B x.op ++ w1B x.a ++ w1B x.b ++ w1B x.c ++ w8B x.n = A5 at *
  generalize acc ++ w1B x.op ++ w1B x.a ++ w1B x.b ++ w1B x.c = A4 at *
  generalize acc ++ w1B x.op ++ w1B x.a ++ w1B x.b = A3 at *
  generalize acc ++ w1B x.op ++ w1B x.a = A2 at *
  generalize acc ++ w1B x.op = A1 at *
  clear s1 s2 s3 s4 h hbo hl HE
  unfold Is.val
  go_enter Tryd.func47, Tryd.ntmps47
  go_wp2_with fail
  generalize w.alloc (.cells (isC x) 58) = V0 at *
  go_region_with (go_at_call 30; refine (HC0.out _ _ HW.out.drew).mono ?_; rintro e W1 ⟨rfl, ⟨v1, h1⟩, hk1⟩)
  replace HW := Hid.mk' h1
  replace HK := Hid.mk' (HK.out.drew hk1)
  replace HX := Hid.mk' (hk1.o _ _ _ _ HX.out (by decide) hne)
  clear x0 hk1 h1 HC0
  have x1 := cell_of_obj HX.out (j := 1) (v := .int .i64 x.a) rfl
  go_wp2_with fail
  go_region_with (go_at_call 30; refine (HC1.out _ _ HW.out.drew).mono ?_; rintro e W2 ⟨rfl, ⟨v2, h2⟩, hk2⟩)
  replace HW := Hid.mk' h2
  replace HK := Hid.mk' (HK.out.drew hk2)
  replace HX := Hid.mk' (hk2.o _ _ _ _ HX.out (by decide) hne)
  clear x1 hk2 h2 HC1
  have x2 := cell_of_obj HX.out (j := 2) (v := .int .i64 x.b) rfl
  go_wp2_with fail
  go_region_with (go_at_call 30; refine (HC2.out _ _ HW.out.drew).mono ?_; rintro e W3 ⟨rfl, ⟨v3, h3⟩, hk3⟩)
  replace HW := Hid.mk' h3
  replace HK := Hid.mk' (HK.out.drew hk3)
  replace HX := Hid.mk' (hk3.o _ _ _ _ HX.out (by decide) hne)
  clear x2 hk3 h3 HC2
  have x3 := cell_of_obj HX.out (j := 3) (v := .int .i64 x.c) rfl
  go_wp2_with fail
  go_region_with (go_at_call 30; refine (HC3.out _ _ HW.out.drew).mono ?_; rintro e W4 ⟨rfl, ⟨v4, h4⟩, hk4⟩)
  replace HW := Hid.mk' h4
  replace HK := Hid.mk' (HK.out.drew hk4)
  replace HX := Hid.mk' (hk4.o _ _ _ _ HX.out (by decide) hne)
  clear x3 hk4 h4 HC3
  have x4 := cell_of_obj HX.out (j := 4) (v := .int .i64 x.n) rfl
  go_wp2_with fail
  go_region_with (go_at_call 31; refine (HC4.out _ _ HW.out.drew).mono ?_; rintro e W5 ⟨rfl, ⟨v5, h5⟩, hk5⟩)
  replace HW := Hid.mk' h5
  replace HK := Hid.mk' (HK.out.drew hk5)
  replace HX := Hid.mk' (hk5.o _ _ _ _ HX.out (by decide) hne)
  clear x4 hk5 h5 HC4
  go_wp2_with fail
  go_end0
  exact ⟨rfl, ⟨_, HW.out⟩, HK.out⟩
end Go.Proofs.YtfamomjgjamnoaaDoor
