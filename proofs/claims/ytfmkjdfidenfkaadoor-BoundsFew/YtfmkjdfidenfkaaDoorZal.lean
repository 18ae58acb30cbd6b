/- Bounds, plain: what an instruction leaves of spans; spans that lie in a block. Bounds: a register's span, narrowed. Bounds: a register's span without 0. Bounds: a count, a branch. Bounds: a branch. -/
import Derived.Test.YtfmkjdfidenfkaaDoorZad
import Derived.Test.YtfmkjdfidenfkaaDoorZaf
import Derived.Test.YtfmkjdfidenfkaaDoorZai
import Derived.Test.YtfmkjdfidenfkaaDoorZak
import Derived.Deep.RegionHeld3
namespace Go.Proofs.YtfmkjdfidenfkaaDoor
open Go.RowKit
open S8 (meetB meetS joinS widS belA belB allS doR doB doS emB)

/-- A register's span. -/
def gS (l : List Sp) (a : Nat) : Sp := l.getD a (0, 0)
theorem gS_lt {l : List Sp} {a : Nat} (h : a < l.length) : gS l a = l[a] := by unfold gS; rw [List.getD_eq_getElem?_getD, List.getElem?_eq_getElem h]; rfl
/-- Without 0. -/
def wozB (s : Sp) : Bool := !(decide (s.1 = 0) && decide (s.2 = 0))
def wozS (s : Sp) : Sp := (if s.1 = 0 then 1 else s.1, if s.2 = 0 then -1 else s.2)
def wozL (l : List Sp) (a : Nat) : List Sp := if wozB (gS l a) then l.set a (wozS (gS l a)) else l

/-- All blocks that there were but one stay. -/
def OnlyB (b : Nat) (W W' : World) : Prop := W'.os = W.os ∧ W'.tape = W.tape ∧ W'.output = W.output ∧ W.heap.size ≤ W'.heap.size ∧ ∀ k, k < W.heap.size → k ≠ b → W'.heap[k]? = W.heap[k]?
theorem OnlyB.refl (b : Nat) (W : World) : OnlyB b W W := ⟨rfl, rfl, rfl, Nat.le_refl _, fun _ _ _ => rfl⟩
theorem OnlyB.trans {b : Nat} {A B C : World} (h : OnlyB b A B) (k : OnlyB b B C) : OnlyB b A C := ⟨k.1.trans h.1, k.2.1.trans h.2.1, k.2.2.1.trans h.2.2.1, Nat.le_trans h.2.2.2.1 k.2.2.2.1, fun i h1 h2 => (k.2.2.2.2 i (Nat.lt_of_lt_of_le h1 h.2.2.2.1) h2).trans (h.2.2.2.2 i h1 h2)⟩
theorem OnlyB.size {b : Nat} {A B : World} (h : OnlyB b A B) : A.heap.size ≤ B.heap.size := h.2.2.2.1
theorem OnlyB.of_below {b : Nat} {A B : World} (h : Below A.heap.size A B) : OnlyB b A B := ⟨h.os, h.tape, h.output, h.size, fun i h1 _ => h.block i h1⟩
theorem OnlyB.set {b : Nat} {A B : World} (h : OnlyB b A B) (i : Nat) (v : Value) : OnlyB b A (B.setCell ⟨b, i, none⟩ v) := h.trans ⟨rfl, rfl, rfl, by simp [World.setCell], fun k _ h2 => Below.heap_setCell _ _ _ _ h2⟩
theorem OnlyB.drew {b : Nat} {A B : World} (h : OnlyB b A B) : OnlyB b A B.drew := h.trans (OnlyB.of_below (Below.drew (Below.refl _ _)))
theorem OnlyB.below {b : Nat} {A B : World} {N : Nat} (h : OnlyB b A B) (hb : N ≤ b) (hN : N ≤ A.heap.size) : Below N A B := ⟨h.1, h.2.1, h.2.2.1, h.2.2.2.1, fun k hk => h.2.2.2.2 k (by omega) (by omega)⟩
theorem OnlyB.blk {b : Nat} {A B : World} (h : OnlyB b A B) {k : Nat} {o : Obj} (hk : A.heap[k]? = some o) (hb : k ≠ b) : B.heap[k]? = some o := (h.2.2.2.2 k (Array.getElem?_eq_some_iff.1 hk).1 hb).trans hk
theorem OnlyB.new {b g : Nat} {A B : World} (h : OnlyB b A B) (hg : A.heap.size ≤ g) (i : Nat) (v : Value) : OnlyB b A (B.setCell ⟨g, i, none⟩ v) := ⟨h.1, h.2.1, h.2.2.1, by have := h.size; simpa [World.setCell] using this, fun k hk h2 => (Below.heap_setCell _ _ _ _ (by simp only; omega)).trans (h.2.2.2.2 k hk h2)⟩

/-- Registers' spans lie in a block. -/
def RgB (W : World) (g : Nat) (l : List Sp) : Prop := W.heap[g]? = some (.cells (l.flatMap spC).toArray 54)
theorem spc_len (l : List Sp) : (l.flatMap spC).length = l.length * 2 := by
  induction l with
  | nil => rfl
  | cons s l ih => rw [List.flatMap_cons, List.length_append, ih]; simp [spC]; omega
theorem spc_at : ∀ (l : List Sp) (a : Nat) (h : a < l.length), (l.flatMap spC)[a * 2]? = some (.int .i64 l[a].1) ∧ (l.flatMap spC)[a * 2 + 1]? = some (.int .i64 l[a].2)
  | s :: l, 0, _ => ⟨rfl, rfl⟩
  | s :: l, a + 1, h => by
    have := spc_at l a (by simpa using h)
    rw [List.flatMap_cons]
    show (Value.int .i64 s.1 :: Value.int .i64 s.2 :: l.flatMap spC)[(a + 1) * 2]? = _ ∧ (Value.int .i64 s.1 :: Value.int .i64 s.2 :: l.flatMap spC)[(a + 1) * 2 + 1]? = _
    rw [show (a + 1) * 2 = a * 2 + 1 + 1 by omega, show a * 2 + 1 + 1 + 1 = (a * 2 + 1) + 1 + 1 by omega]
    simpa using this
theorem spc_set : ∀ (l : List Sp) (a : Nat) (s : Sp), (l.set a s).flatMap spC = ((l.flatMap spC).set (a * 2) (.int .i64 s.1)).set (a * 2 + 1) (.int .i64 s.2)
  | [], _, _ => rfl
  | x :: l, 0, s => rfl
  | x :: l, a + 1, s => by
    rw [List.set_cons_succ, List.flatMap_cons, spc_set l a s, List.flatMap_cons]
    show Value.int .i64 x.1 :: Value.int .i64 x.2 :: _ = ((Value.int .i64 x.1 :: Value.int .i64 x.2 :: l.flatMap spC).set ((a + 1) * 2) _).set ((a + 1) * 2 + 1) _
    rw [show (a + 1) * 2 = a * 2 + 1 + 1 by omega, show a * 2 + 1 + 1 + 1 = (a * 2 + 1) + 1 + 1 by omega]
    rfl
theorem RgB.lt {W : World} {g : Nat} {l : List Sp} (h : RgB W g l) : g < W.heap.size := (Array.getElem?_eq_some_iff.1 h).1
theorem RgB.c0 {W : World} {g : Nat} {l : List Sp} (h : RgB W g l) {a : Nat} (ha : a < l.length) : W.cell? ⟨g, a * 2, none⟩ = some (.int .i64 (gS l a).1) := by
  rw [gS_lt ha]; exact cell_of_obj h (by rw [List.getElem?_toArray]; exact (spc_at l a ha).1)
theorem RgB.c1 {W : World} {g : Nat} {l : List Sp} (h : RgB W g l) {a : Nat} (ha : a < l.length) : W.cell? ⟨g, a * 2 + 1, none⟩ = some (.int .i64 (gS l a).2) := by
  rw [gS_lt ha]; exact cell_of_obj h (by rw [List.getElem?_toArray]; exact (spc_at l a ha).2)
theorem RgB.fz {W : World} {g : Nat} {l : List Sp} (h : RgB W g l) (j : Nat) : W.frozen? ⟨g, j, none⟩ = false := Lib.frozen_of_heap h j
theorem RgB.stay {W W' : World} {g : Nat} {l : List Sp} (h : RgB W g l) (hb : Below W.heap.size W W') : RgB W' g l := (hb.block _ h.lt).trans h
theorem RgB.only {W W' : World} {g b : Nat} {l : List Sp} (h : RgB W g l) (hb : OnlyB b W W') (hg : g ≠ b) : RgB W' g l := hb.blk h hg
theorem RgB.put {W : World} {g : Nat} {l : List Sp} (h : RgB W g l) (a : Nat) (s : Sp) : RgB ((W.setCell ⟨g, a * 2, none⟩ (.int .i64 s.1)).setCell ⟨g, a * 2 + 1, none⟩ (.int .i64 s.2)) g (l.set a s) := by
  have h1 := heap_setCell_same W g (a * 2) _ _ (.int .i64 s.1) h
  have h2 := heap_setCell_same _ g (a * 2 + 1) _ _ (.int .i64 s.2) h1
  unfold RgB
  rw [h2, spc_set]
  simp
theorem OnlyB.put {b : Nat} {A B : World} (h : OnlyB b A B) (i j : Nat) (x y : Value) : OnlyB b A ((B.setCell ⟨b, i, none⟩ x).setCell ⟨b, j, none⟩ y) := (h.set i x).set j y
/-- What a call tells that works on registers. -/
def RgP (W : World) (g : Nat) (l : List Sp) (b : Bool) (e : Ending) (w : World) : Prop := e = .returned (.bool b) ∧ RgB w g l ∧ OnlyB g W w
end Go.Proofs.YtfmkjdfidenfkaaDoor
namespace Go.Proofs.YtfmkjdfidenfkaaDoor
open Go.RowKit
open S8 (meetB meetS joinS widS belA belB allS doR doB doS emB sv meet_any)

set_option maxRecDepth 100000 in
set_option maxHeartbeats 4000000 in
theorem keep_any (l : List Sp) (g c a : Nat) (s : Sp) (ha : a < l.length) (w : World) (hr : RgB w g l) : Calls Tryd.prog 68 #[.slice (some ⟨g, 0, none⟩) l.length c, .int .i64 a, sv s] w (RgP w g (l.set a (meetS (gS l a) s)) (meetB (gS l a) s)) := by
  obtain ⟨sl, sh⟩ := s
  have HM := Hid.mk' (meet_any (gS l a) (sl, sh))
  generalize meetS (gS l a) (sl, sh) = M at *
  generalize meetB (gS l a) (sl, sh) = mb at *
  go_enter Tryd.func68, Tryd.ntmps68
  go_upto_region 1 with fail
  have B := Below.one (Below.refl _ w) (.cells #[.int .i64 sl, .int .i64 sh] 54)
  have hX : (w.alloc (.cells #[.int .i64 sl, .int .i64 sh] 54)).heap[w.heap.size]? = some (.cells #[.int .i64 sl, .int .i64 sh] 54) := heap_alloc_new _ _
  have hal : (a : Int) < (l.length : Int) := by omega
  have hR := hr.stay B
  have c0 := hR.c0 ha
  have c1 := hR.c1 ha
  have x0 := cell_of_obj hX (j := 0) (v := .int .i64 sl) rfl
  have x1 := cell_of_obj hX (j := 1) (v := .int .i64 sh) rfl
  have hgw : g < w.heap.size := hr.lt
  generalize hW : w.alloc (.cells #[.int .i64 sl, .int .i64 sh] 54) = W at *
  have hWs : W.heap.size = w.heap.size + 1 := by rw [← hW]; simp
  have ne1 : ¬ W.heap.size = g := by omega
  have ne2 : ¬ g = W.heap.size := by omega
  have ne3 : ¬ W.heap.size = w.heap.size := by omega
  have ne4 : ¬ w.heap.size = W.heap.size := by omega
  have HWs : Hid (W.heap.size = w.heap.size + 1) := hWs
  clear hWs hW
  go_cut [7, 8] from 9 to 22 (fun t7 t8 wx => ∃ G : Nat, t7 = .pointer (some ⟨G, 0, none⟩) ∧ t8 = .bool mb ∧ w.heap.size < G ∧ wx.heap[G]? = some (.cells #[.int .i64 M.1, .int .i64 M.2] 54) ∧ Below W.heap.size W wx)
  case first =>
    go_region_held3 (fun w' => w'.cell? ⟨g, a * 2, none⟩ = some (.int .i64 (gS l a).1) ∧ w'.cell? ⟨g, a * 2 + 1, none⟩ = some (.int .i64 (gS l a).2) ∧ w'.cell? ⟨w.heap.size, 0, none⟩ = some (.int .i64 sl) ∧ w'.cell? ⟨w.heap.size, 1, none⟩ = some (.int .i64 sh)) (go_keep) (first | (go_at_call 85; refine (HM.out _).mono ?_; rintro e w5 ⟨rfl, hb5⟩; have B5 := Below.on (Below.drew (Below.refl _ W)) hb5; have y0 := (hR.stay B5).c0 ha; have y1 := (hR.stay B5).c1 ha; have y2 := cell_kept_below x0 B5; have y3 := cell_kept_below x1 B5; have l5 : g < w5.heap.size := S8.lt_of_cell y0; have l6 : w.heap.size < w5.heap.size := S8.lt_of_cell y2) | (go_at_call 85; refine (HM.out _).mono ?_; rintro e w5 ⟨rfl, hb5⟩; have B5 := Below.on (Below.drew (Below.one (Below.refl _ W) (.cells #[.int .i64 0, .int .i64 0] 54))) hb5; have y0 := (hR.stay B5).c0 ha; have y1 := (hR.stay B5).c1 ha; have y2 := cell_kept_below x0 B5; have y3 := cell_kept_below x1 B5; have N0 := ((S8.At.new W (0, 0)).stay (Below.drew (Below.refl _ _))).stay hb5; have k0 : w5.cell? ⟨W.heap.size, 0, none⟩ = some (.int .i64 0) := N0.c0; have k1 : w5.cell? ⟨W.heap.size, 1, none⟩ = some (.int .i64 0) := N0.c1; have k2 := N0.f0; have k3 := N0.f1))
    · go_wp2_with fail
      go_meet
      case rel => exact ⟨w5.heap.size, rfl, rfl, by have := B5.size; have := HWs.out; omega, heap_alloc_new _ _, Below.one B5 _⟩
    · go_wp2_with fail
      go_meet
      case rel => exact ⟨W.heap.size, rfl, rfl, by have := HWs.out; omega, N0.put M, (B5.setCell (Nat.le_refl _) _).setCell (Nat.le_refl _) _⟩
  case rest =>
    obtain ⟨G, rfl, rfl, hG, hM, hB⟩ := hcut
    have m0 := cell_of_obj hM (j := 0) (v := .int .i64 M.1) rfl
    have m1 := cell_of_obj hM (j := 1) (v := .int .i64 M.2) rfl
    have hR2 := hR.stay hB
    have y0 := hR2.c0 ha
    have y1 := hR2.c1 ha
    have z := fun j => hR2.fz j
    have HF : Hid (RgP w g (l.set a M) mb (.returned (.bool mb)) ((wc.setCell ⟨g, a * 2, none⟩ (.int .i64 M.1)).setCell ⟨g, a * 2 + 1, none⟩ (.int .i64 M.2))) := ⟨rfl, hR2.put a M, ((OnlyB.of_below B).trans (OnlyB.of_below hB)).put _ _ _ _⟩
    clear c0 c1 x0 x1 hX ne1 ne2 ne3 ne4 hM hB hG
    go_wp2_with fail
    exact bodyPost_ret (v := .bool mb) (by simp [results, Tryd.results68, go_sem, *]) rfl HF.out
end Go.Proofs.YtfmkjdfidenfkaaDoor
namespace Go.Proofs.YtfmkjdfidenfkaaDoor
open Go.RowKit
open S8 (meetB meetS joinS widS belA belB allS doR doB doS emB sv meet_any)

set_option maxRecDepth 100000 in
set_option maxHeartbeats 4000000 in
theorem woz_any (l : List Sp) (g c a : Nat) (ha : a < l.length) (w : World) (hr : RgB w g l) : Calls Tryd.prog 81 #[.slice (some ⟨g, 0, none⟩) l.length c, .int .i64 a] w (RgP w g (wozL l a) (wozB (gS l a))) := by
  have c0 := hr.c0 ha
  have c1 := hr.c1 ha
  have hal : (a : Int) < (l.length : Int) := by omega
  unfold wozL
  generalize hS : gS l a = S at *
  obtain ⟨s1, s2⟩ := S
  simp only at c0 c1
  clear hS
  obtain ⟨wb, hwb⟩ : ∃ b, wozB (s1, s2) = b := ⟨_, rfl⟩
  obtain ⟨L2, hL2⟩ : ∃ x, (if wozB (s1, s2) then l.set a (wozS (s1, s2)) else l) = x := ⟨_, rfl⟩
  rw [hL2, hwb]
  have HWB := Hid.mk' hwb
  have HWL := Hid.mk' hL2
  clear hwb hL2
  have B := Below.one (Below.refl _ w) (.cells #[.int .i64 s1, .int .i64 s2] 54)
  have hR := hr.stay B
  have hX : (w.alloc (.cells #[.int .i64 s1, .int .i64 s2] 54)).heap[w.heap.size]? = some (.cells #[.int .i64 s1, .int .i64 s2] 54) := heap_alloc_new _ _
  have hgw : g < w.heap.size := hr.lt
  go_enter Tryd.func81, Tryd.ntmps81
  go_upto_region 2 with fail
  generalize w.alloc (.cells #[.int .i64 s1, .int .i64 s2] 54) = W at *
  have x0 := cell_of_obj hX (j := 0) (v := .int .i64 s1) rfl
  have x1 := cell_of_obj hX (j := 1) (v := .int .i64 s2) rfl
  have xf := fun j => Lib.frozen_of_heap hX j
  have HB := Hid.mk' B
  have HR := Hid.mk' hR
  have HX := Hid.mk' hX
  clear c0 c1 hR hX hr B
  have HEND : ∀ (V : World) (b : Sp), V.heap[w.heap.size]? = some (.cells #[.int .i64 b.1, .int .i64 b.2] 54) → RgB V g l → OnlyB g w V → RgP w g (l.set a b) true (.returned (.bool true)) ((V.setCell ⟨g, a * 2, none⟩ (.int .i64 b.1)).setCell ⟨g, a * 2 + 1, none⟩ (.int .i64 b.2)) := fun V b _ h2 h3 => ⟨rfl, h2.put a b, h3.put _ _ _ _⟩
  replace HEND := Hid.mk' HEND
  have HPUT : Hid (∀ (V : World) (b : Sp) (j : Nat) (x : Int), V.heap[w.heap.size]? = some (.cells #[.int .i64 b.1, .int .i64 b.2] 54) → RgB V g l → OnlyB g w V → (V.setCell ⟨w.heap.size, j, none⟩ (.int .i64 x)).heap[w.heap.size]? = some (.cells (#[.int .i64 b.1, .int .i64 b.2].set! j (.int .i64 x)) 54) ∧ RgB (V.setCell ⟨w.heap.size, j, none⟩ (.int .i64 x)) g l ∧ OnlyB g w (V.setCell ⟨w.heap.size, j, none⟩ (.int .i64 x))) := fun V b j x h1 h2 h3 =>
    ⟨by simpa using heap_setCell_same V w.heap.size j _ _ (.int .i64 x) h1, (heap_setCell_other V ⟨w.heap.size, j, none⟩ g _ (by simp only; omega)).trans h2, h3.new (Nat.le_refl _) _ _⟩
  by_cases h1 : s1 = 0
  · by_cases h2 : s2 = 0
    · subst h1 h2
      have hz : wozB (0, 0) = false := rfl
      have HF : Hid (RgP w g L2 wb (.returned (.bool false)) W) := by
        show RgP _ _ _ _ _ _
        rw [← HWL.out, ← HWB.out, hz, if_neg (by decide)]
        exact ⟨rfl, HR.out, OnlyB.of_below HB.out⟩
      clear hz HWB HWL
      clear hal
      go_wp2_with fail
      exact bodyPost_ret (v := .bool false) (by simp [results, Tryd.results81, go_sem, *]) rfl HF.out
    · subst h1
      have q2 : (s2 == 0) = false := beq_no h2
      have hz : wozB (0, s2) = true := by unfold wozB; simp [h2]
      have hz2 : wozS (0, s2) = (1, s2) := by unfold wozS; simp [h2]
      have hL3 := HWL.out
      rw [hz, if_pos rfl, hz2] at hL3
      have hB3 := HWB.out
      rw [hz] at hB3
      replace HWL := Hid.mk' hL3
      replace HWB := Hid.mk' hB3
      clear hL3 hB3
      have HV := Hid.mk' (HPUT.out W (0, s2) 0 1 HX.out HR.out (OnlyB.of_below HB.out))
      clear hz hz2 h2
      go_upto_region 6 with fail
      clear x0 x1 xf
      generalize W.setCell ⟨w.heap.size, 0, none⟩ (.int .i64 1) = V at *
      obtain ⟨v1, v2, v3⟩ := HV.out
      have x0 := cell_of_obj v1 (j := 0) (v := .int .i64 1) rfl
      have x1 := cell_of_obj v1 (j := 1) (v := .int .i64 s2) rfl
      have y0 := v2.c0 ha
      have y1 := v2.c1 ha
      have z := fun j => v2.fz j
      have hf := HEND.out V (1, s2) v1 v2 v3
      rw [HWL.out] at hf
      have HF : Hid (RgP w g L2 wb (.returned (.bool true)) _) := ⟨by rw [← HWB.out], hf.2.1, hf.2.2⟩
      clear hf
      clear v1 v2 v3
      go_wp2_with fail
      exact bodyPost_ret (v := .bool true) (by simp [results, Tryd.results81, go_sem, *]) rfl HF.out
  · have q1 : (s1 == 0) = false := beq_no h1
    by_cases h2 : s2 = 0
    · subst h2
      have hz : wozB (s1, 0) = true := by unfold wozB; simp [h1]
      have hz2 : wozS (s1, 0) = (s1, -1) := by unfold wozS; simp [h1]
      have hL3 := HWL.out
      rw [hz, if_pos rfl, hz2] at hL3
      have hB3 := HWB.out
      rw [hz] at hB3
      replace HWL := Hid.mk' hL3
      replace HWB := Hid.mk' hB3
      clear hL3 hB3
      have HV := Hid.mk' (HPUT.out W (s1, 0) 1 (-1) HX.out HR.out (OnlyB.of_below HB.out))
      clear hz hz2 h1
      go_upto_region 8 with fail
      clear x0 x1 xf
      generalize W.setCell ⟨w.heap.size, 1, none⟩ (.int .i64 (-1)) = V at *
      obtain ⟨v1, v2, v3⟩ := HV.out
      have x0 := cell_of_obj v1 (j := 0) (v := .int .i64 s1) rfl
      have x1 := cell_of_obj v1 (j := 1) (v := .int .i64 (-1)) rfl
      have y0 := v2.c0 ha
      have y1 := v2.c1 ha
      have z := fun j => v2.fz j
      have hf := HEND.out V (s1, -1) v1 v2 v3
      rw [HWL.out] at hf
      have HF : Hid (RgP w g L2 wb (.returned (.bool true)) _) := ⟨by rw [← HWB.out], hf.2.1, hf.2.2⟩
      clear hf
      clear v1 v2 v3
      go_wp2_with fail
      exact bodyPost_ret (v := .bool true) (by simp [results, Tryd.results81, go_sem, *]) rfl HF.out
    · have q2 : (s2 == 0) = false := beq_no h2
      have hz : wozB (s1, s2) = true := by unfold wozB; simp [h1]
      have hz2 : wozS (s1, s2) = (s1, s2) := by unfold wozS; simp [h1, h2]
      have hL3 := HWL.out
      rw [hz, if_pos rfl, hz2] at hL3
      have hB3 := HWB.out
      rw [hz] at hB3
      replace HWL := Hid.mk' hL3
      replace HWB := Hid.mk' hB3
      clear hL3 hB3
      have v2 := HR.out
      have y0 := v2.c0 ha
      have y1 := v2.c1 ha
      have z := fun j => v2.fz j
      have hf := HEND.out W (s1, s2) HX.out v2 (OnlyB.of_below HB.out)
      rw [HWL.out] at hf
      have HF : Hid (RgP w g L2 wb (.returned (.bool true)) _) := ⟨by rw [← HWB.out], hf.2.1, hf.2.2⟩
      clear hf
      clear v2 hz hz2 h1 h2
      go_wp2_with fail
      exact bodyPost_ret (v := .bool true) (by simp [results, Tryd.results81, go_sem, *]) rfl HF.out
end Go.Proofs.YtfmkjdfidenfkaaDoor
namespace Go.Proofs.YtfmkjdfidenfkaaDoor
open Go.RowKit
open S8 (meetB meetS joinS widS belA belB belC allS doR doB doS emB sv meet_any below_any)

/-- Spans of numbers. -/
def RgOk (l : List Sp) : Prop := ∀ s ∈ l, spOk s
theorem gS_ok {l : List Sp} (h : RgOk l) {a : Nat} (ha : a < l.length) : S8.Sp.Ok (gS l a) := by rw [gS_lt ha]; exact h _ (List.getElem_mem ha)
/-- What a count leaves. -/
def cntL (l : List Sp) (a b : Nat) (out : Bool) : List Sp := if a = b then l else if out then l.set a (meetS (gS l a) ((gS l b).1, 9223372036854775807)) else l.set a (belA (gS l a) (gS l b))
def cntB (l : List Sp) (a b : Nat) (out : Bool) : Bool := if a = b then out else if out then meetB (gS l a) ((gS l b).1, 9223372036854775807) else belB (gS l a) (gS l b)

set_option maxRecDepth 100000 in
set_option maxHeartbeats 4000000 in
theorem cnt_any (l : List Sp) (g c a b : Nat) (out : Bool) (ho : RgOk l) (ha : a < l.length) (hb : b < l.length) (w : World) (hr : RgB w g l) : Calls Tryd.prog 80 #[.slice (some ⟨g, 0, none⟩) l.length c, .int .i64 a, .int .i64 b, .bool out] w (RgP w g (cntL l a b out) (cntB l a b out)) := by
  have HM := Hid.mk' (below_any (gS l a) (gS l b) (gS_ok ho ha) (gS_ok ho hb))
  have HK := Hid.mk' (keep_any l g c a ((gS l b).1, 9223372036854775807) ha w hr)
  have hal : (a : Int) < (l.length : Int) := by omega
  have hbl : (b : Int) < (l.length : Int) := by omega
  by_cases hab : a = b
  · have q1 : ((a : Int) == (b : Int)) = true := by simp [hab]
    have h1 : cntL l a b out = l := if_pos hab
    have h2 : cntB l a b out = out := if_pos hab
    rw [h1, h2]
    have HF : Hid (RgP w g l out (.returned (.bool out)) w) := ⟨rfl, hr, OnlyB.refl _ _⟩
    clear hab h1 h2
    go_enter Tryd.func80, Tryd.ntmps80
    go_wp2_with fail
    exact bodyPost_ret (v := .bool out) (by simp [results, Tryd.results80, go_sem, *]) rfl HF.out
  · have q1 : ((a : Int) == (b : Int)) = false := beq_no (by omega)
    cases out with
    | true =>
      have h1 : cntL l a b true = l.set a (meetS (gS l a) ((gS l b).1, 9223372036854775807)) := by unfold cntL; rw [if_neg hab, if_pos rfl]
      have h2 : cntB l a b true = meetB (gS l a) ((gS l b).1, 9223372036854775807) := by unfold cntB; rw [if_neg hab, if_pos rfl]
      rw [h1, h2]
      have y0 := hr.c0 hb
      clear hab h1 h2
      go_enter Tryd.func80, Tryd.ntmps80
      go_wp2_with (go_at_call 68; refine HK.out.mono ?_; rintro e w1 ⟨rfl, hh⟩)
      exact bodyPost_ret (v := .bool (meetB (gS l a) ((gS l b).1, 9223372036854775807))) (by simp [results, Tryd.results80, go_sem, *]) rfl ⟨rfl, hh⟩
    | false =>
      have h1 : cntL l a b false = l.set a (belA (gS l a) (gS l b)) := by unfold cntL; rw [if_neg hab, if_neg (by decide)]
      have h2 : cntB l a b false = belB (gS l a) (gS l b) := by unfold cntB; rw [if_neg hab, if_neg (by decide)]
      rw [h1, h2]
      clear hab h1 h2 HK
      have c0 := hr.c0 ha
      have c1 := hr.c1 ha
      have d0 := hr.c0 hb
      have d1 := hr.c1 hb
      have hgw : g < w.heap.size := hr.lt
      generalize belA (gS l a) (gS l b) = M at *
      generalize belC (gS l a) (gS l b) = N at *
      generalize belB (gS l a) (gS l b) = mb at *
      go_enter Tryd.func80, Tryd.ntmps80
      go_upto_region 5 with fail
      have hR := Hid.mk' hr
      have ne1 : ¬ w.heap.size = g := by omega
      have ne2 : ¬ g = w.heap.size := by omega
      have ne3 : ¬ w.heap.size + 1 = g := by omega
      have ne4 : ¬ g = w.heap.size + 1 := by omega
      go_cut [9, 10, 11] from 28 to 45 (fun t9 _ t11 wx => ∃ G : Nat, t9 = .pointer (some ⟨G, 0, none⟩) ∧ t11 = .bool mb ∧ w.heap.size ≤ G ∧ wx.cell? ⟨G, 0, none⟩ = some (.int .i64 M.1) ∧ wx.cell? ⟨G, 1, none⟩ = some (.int .i64 M.2) ∧ Below w.heap.size w wx)
      case first =>
        go_region_held3 (fun w' => w'.cell? ⟨g, a * 2, none⟩ = some (.int .i64 (gS l a).1) ∧ w'.cell? ⟨g, a * 2 + 1, none⟩ = some (.int .i64 (gS l a).2) ∧ w'.cell? ⟨g, b * 2, none⟩ = some (.int .i64 (gS l b).1) ∧ w'.cell? ⟨g, b * 2 + 1, none⟩ = some (.int .i64 (gS l b).2)) (go_keep) (first | (go_at_call 94; refine (HM.out _).mono ?_; rintro e w5 ⟨rfl, hb5⟩; have B5 := Below.on (Below.drew (Below.refl _ w) : Below w.heap.size w _) hb5; have y0 := (hR.out.stay B5).c0 ha; have y1 := (hR.out.stay B5).c1 ha; have y2 := (hR.out.stay B5).c0 hb; have y3 := (hR.out.stay B5).c1 hb; have l5 : g < w5.heap.size := S8.lt_of_cell y0; skip) | (go_at_call 94; refine (HM.out _).mono ?_; rintro e w5 ⟨rfl, hb5⟩; have B5 := Below.on (Below.drew (Below.one (Below.refl _ w) (.cells #[.int .i64 0, .int .i64 0] 54)) : Below w.heap.size w _) hb5; have y0 := (hR.out.stay B5).c0 ha; have y1 := (hR.out.stay B5).c1 ha; have y2 := (hR.out.stay B5).c0 hb; have y3 := (hR.out.stay B5).c1 hb; have l5 : g < w5.heap.size := S8.lt_of_cell y0; have N0 := ((S8.At.new w (0, 0)).stay (Below.drew (Below.refl _ _))).stay hb5; have k0 : w5.cell? ⟨w.heap.size, 0, none⟩ = some (.int .i64 0) := N0.c0; have k1 : w5.cell? ⟨w.heap.size, 1, none⟩ = some (.int .i64 0) := N0.c1; have k2 := N0.f0; have k3 := N0.f1; have l6 : w.heap.size < w5.heap.size := S8.lt_of_cell k0; have l7 : ¬ w5.heap.size = w.heap.size := (by omega); have l8 : ¬ w.heap.size = w5.heap.size := (by omega)) | (go_at_call 94; refine (HM.out _).mono ?_; rintro e w5 ⟨rfl, hb5⟩; have B5 := Below.on (Below.drew (Below.one (Below.one (Below.refl _ w) (.cells #[.int .i64 0, .int .i64 0] 54)) (.cells #[.int .i64 0, .int .i64 0] 54)) : Below w.heap.size w _) hb5; have y0 := (hR.out.stay B5).c0 ha; have y1 := (hR.out.stay B5).c1 ha; have y2 := (hR.out.stay B5).c0 hb; have y3 := (hR.out.stay B5).c1 hb; have l5 : g < w5.heap.size := S8.lt_of_cell y0; have N0 := (((S8.At.new w (0, 0)).more (.cells #[.int .i64 0, .int .i64 0] 54)).stay (Below.drew (Below.refl _ _))).stay hb5; have k0 : w5.cell? ⟨w.heap.size, 0, none⟩ = some (.int .i64 0) := N0.c0; have k1 : w5.cell? ⟨w.heap.size, 1, none⟩ = some (.int .i64 0) := N0.c1; have k2 := N0.f0; have k3 := N0.f1; have l6 : w.heap.size < w5.heap.size := S8.lt_of_cell k0; have l7 : ¬ w5.heap.size = w.heap.size := (by omega); have l8 : ¬ w.heap.size = w5.heap.size := (by omega); have N1 := ((S8.At.new1 w (0, 0) (.cells #[.int .i64 0, .int .i64 0] 54)).stay (Below.drew (Below.refl _ _))).stay hb5; have e0 : w5.cell? ⟨w.heap.size + 1, 0, none⟩ = some (.int .i64 0) := N1.c0; have e1 : w5.cell? ⟨w.heap.size + 1, 1, none⟩ = some (.int .i64 0) := N1.c1; have e2 := N1.f0; have e3 := N1.f1))
        all_goals go_wp2_with fail
        all_goals go_meet
        case rel =>
          have h1 := heap_alloc_new w5 (.cells #[.int .i64 M.1, .int .i64 M.2] 54)
          exact ⟨_, rfl, rfl, B5.size, cell_kept_below (cell_of_obj h1 (j := 0) rfl) (Below.one (Below.refl _ _) _), cell_kept_below (cell_of_obj h1 (j := 1) rfl) (Below.one (Below.refl _ _) _), Below.one (Below.one B5 _) _⟩
        case rel =>
          have h1 := heap_alloc_new (w5.alloc (.cells #[.int .i64 N.1, .int .i64 N.2] 54)) (.cells #[.int .i64 M.1, .int .i64 M.2] 54)
          rw [World.size_alloc] at h1
          exact ⟨_, rfl, rfl, by have := B5.size; omega, cell_of_obj h1 (j := 0) rfl, cell_of_obj h1 (j := 1) rfl, Below.one (Below.one B5 _) _⟩
        case rel =>
          have h1 := N0.put M
          exact ⟨_, rfl, rfl, Nat.le_refl _, cell_kept_below h1.c0 (Below.one (Below.refl _ _) _), cell_kept_below h1.c1 (Below.one (Below.refl _ _) _), Below.one ((B5.setCell (Nat.le_refl _) _).setCell (Nat.le_refl _) _) _⟩
        case rel =>
          have h1 := (N0.put M).ne (k := w.heap.size + 1) (by omega) (.int .i64 N.1) (.int .i64 N.2)
          exact ⟨_, rfl, rfl, Nat.le_refl _, h1.c0, h1.c1, (((B5.setCell (Nat.le_refl _) _).setCell (Nat.le_refl _) _).setCell (by simp only; omega) _).setCell (by simp only; omega) _⟩
        case rel =>
          have h1 : ((((w5.setCell ⟨w.heap.size, 0, none⟩ (.int .i64 N.1)).setCell ⟨w.heap.size, 1, none⟩ (.int .i64 N.2)).alloc (.cells #[.int .i64 M.1, .int .i64 M.2] 54)).heap[w5.heap.size]? = some (.cells #[.int .i64 M.1, .int .i64 M.2] 54)) := by
            have := heap_alloc_new ((w5.setCell ⟨w.heap.size, 0, none⟩ (.int .i64 N.1)).setCell ⟨w.heap.size, 1, none⟩ (.int .i64 N.2)) (.cells #[.int .i64 M.1, .int .i64 M.2] 54)
            simpa [World.setCell] using this
          exact ⟨_, rfl, rfl, B5.size, cell_of_obj h1 (j := 0) rfl, cell_of_obj h1 (j := 1) rfl, Below.one ((B5.setCell (Nat.le_refl _) _).setCell (Nat.le_refl _) _) _⟩
        case rel =>
          have h1 := (N1.put M).ne (k := w.heap.size) (by omega) (.int .i64 N.1) (.int .i64 N.2)
          exact ⟨_, rfl, rfl, by omega, h1.c0, h1.c1, (((B5.setCell (by simp only; omega) _).setCell (by simp only; omega) _).setCell (Nat.le_refl _) _).setCell (Nat.le_refl _) _⟩
      case rest =>
        obtain ⟨G, rfl, rfl, hG, m0, m1, hB⟩ := hcut
        have hR2 := hR.out.stay hB
        have y0 := hR2.c0 ha
        have y1 := hR2.c1 ha
        have z := fun j => hR2.fz j
        have HF : Hid (RgP w g (l.set a M) mb (.returned (.bool mb)) ((wc.setCell ⟨g, a * 2, none⟩ (.int .i64 M.1)).setCell ⟨g, a * 2 + 1, none⟩ (.int .i64 M.2))) := ⟨rfl, hR2.put a M, (OnlyB.of_below hB).put _ _ _ _⟩
        clear c0 c1 d0 d1 ne1 ne2 ne3 ne4 hB hG
        go_wp2_with fail
        exact bodyPost_ret (v := .bool mb) (by simp [results, Tryd.results80, go_sem, *]) rfl HF.out
end Go.Proofs.YtfmkjdfidenfkaaDoor
namespace Go.Proofs.YtfmkjdfidenfkaaDoor
open Go.RowKit
open S8 (meetB meetS joinS widS belA belB belC allS doR doB doS emB sv meet_any below_any)

/-- What a branch leaves. -/
def brL (l : List Sp) (x : Is) (nm : Bool) : List Sp := if x.op = 17 then cntL l x.a.toNat x.b.toNat nm else if decide (x.op = 15) = nm then wozL l x.a.toNat else l.set x.a.toNat (meetS (gS l x.a.toNat) (0, 0))
def brB (l : List Sp) (x : Is) (nm : Bool) : Bool := if x.op = 17 then cntB l x.a.toNat x.b.toNat nm else if decide (x.op = 15) = nm then wozB (gS l x.a.toNat) else meetB (gS l x.a.toNat) (0, 0)
theorem RgP.on {w W : World} {g : Nat} {l : List Sp} {b : Bool} {e : Ending} {w' : World} (h : RgP W g l b e w') (hb : Below w.heap.size w W) : RgP w g l b e w' := ⟨h.1, h.2.1, (OnlyB.of_below hb).trans h.2.2⟩
/-- The cells of an instruction that was laid. -/
theorem is_new (w : World) (x : Is) : (w.alloc (.cells #[.int .i64 x.op, .int .i64 x.a, .int .i64 x.b, .int .i64 x.c, .int .i64 x.n] 57)).heap[w.heap.size]? = some (.cells #[.int .i64 x.op, .int .i64 x.a, .int .i64 x.b, .int .i64 x.c, .int .i64 x.n] 57) := heap_alloc_new _ _

set_option maxRecDepth 100000 in
set_option maxHeartbeats 4000000 in
theorem branch_any (l : List Sp) (g c : Nat) (x : Is) (nm : Bool) (ho : RgOk l) (ha0 : 0 ≤ x.a) (ha : x.a.toNat < l.length) (hb0 : 0 ≤ x.b) (hb : x.op = 17 → x.b.toNat < l.length) (w : World) (hr : RgB w g l) : Calls Tryd.prog 65 #[.slice (some ⟨g, 0, none⟩) l.length c, x.val, .bool nm] w (RgP w g (brL l x nm) (brB l x nm)) := by
  have HC : Hid (x.op = 17 → ∀ W, RgB W g l → Calls Tryd.prog 80 #[.slice (some ⟨g, 0, none⟩) l.length c, .int .i64 x.a, .int .i64 x.b, .bool nm] W (RgP W g (cntL l x.a.toNat x.b.toNat nm) (cntB l x.a.toNat x.b.toNat nm))) := fun h W hW => by
    have := cnt_any l g c x.a.toNat x.b.toNat nm ho ha (hb h) W hW
    rwa [Int.toNat_of_nonneg ha0, Int.toNat_of_nonneg hb0] at this
  have HZ : Hid (∀ W, RgB W g l → Calls Tryd.prog 81 #[.slice (some ⟨g, 0, none⟩) l.length c, .int .i64 x.a] W (RgP W g (wozL l x.a.toNat) (wozB (gS l x.a.toNat)))) := fun W hW => by
    have := woz_any l g c x.a.toNat ha W hW
    rwa [Int.toNat_of_nonneg ha0] at this
  have HK : Hid (∀ W, RgB W g l → Calls Tryd.prog 68 #[.slice (some ⟨g, 0, none⟩) l.length c, .int .i64 x.a, sv (0, 0)] W (RgP W g (l.set x.a.toNat (meetS (gS l x.a.toNat) (0, 0))) (meetB (gS l x.a.toNat) (0, 0)))) := fun W hW => by
    have := keep_any l g c x.a.toNat (0, 0) ha W hW
    rwa [Int.toNat_of_nonneg ha0] at this
  obtain ⟨L2, hL2⟩ : ∃ y, brL l x nm = y := ⟨_, rfl⟩
  obtain ⟨b2, hb2⟩ : ∃ y, brB l x nm = y := ⟨_, rfl⟩
  rw [hL2, hb2]
  have HL2 := Hid.mk' hL2
  have HB2 := Hid.mk' hb2
  clear hL2 hb2 ha ha0 hb0 hb
  obtain ⟨op, xa, xb, xc, xn⟩ := x
  unfold brL at HL2
  unfold brB at HB2
  simp only at HL2 HB2 HC HZ HK
  have hX := is_new w ⟨op, xa, xb, xc, xn⟩
  have B := Below.one (Below.refl _ w) (.cells #[.int .i64 op, .int .i64 xa, .int .i64 xb, .int .i64 xc, .int .i64 xn] 57)
  simp only at hX
  have HR := Hid.mk' (hr.stay B)
  have HB := Hid.mk' B
  have x0 := cell_of_obj hX (j := 0) (v := .int .i64 op) rfl
  have x1 := cell_of_obj hX (j := 1) (v := .int .i64 xa) rfl
  have x2 := cell_of_obj hX (j := 2) (v := .int .i64 xb) rfl
  clear hX B hr
  unfold Is.val
  simp only
  go_enter Tryd.func65, Tryd.ntmps65
  go_upto_region 1 with fail
  generalize w.alloc (.cells #[.int .i64 op, .int .i64 xa, .int .i64 xb, .int .i64 xc, .int .i64 xn] 57) = W at *
  by_cases h17 : op = 17
  · have q1 : (op == 17) = true := by simp [h17]
    have h1 := HL2.out
    rw [if_pos h17] at h1
    have h2 := HB2.out
    rw [if_pos h17] at h2
    have HF := Hid.mk' (HC.out h17 W HR.out)
    rw [h1, h2] at HF
    clear h17 h1 h2 HL2 HB2
    go_wp2_with (go_at_call 80; refine HF.out.mono ?_; rintro e w1 ⟨rfl, hh⟩)
    exact bodyPost_ret (v := .bool b2) (by simp [results, Tryd.results65, go_sem, *]) rfl (RgP.on ⟨rfl, hh⟩ HB.out)
  · have q1 : (op == 17) = false := beq_no h17
    by_cases h15 : decide (op = 15) = nm
    · have q2 : ((op == 15) == nm) = true := by rw [← h15]; by_cases h : op = 15 <;> simp [h]
      have h1 := HL2.out
      rw [if_neg h17, if_pos h15] at h1
      have h2 := HB2.out
      rw [if_neg h17, if_pos h15] at h2
      have HF := Hid.mk' (HZ.out W HR.out)
      rw [h1, h2] at HF
      clear h17 h15 h1 h2 HL2 HB2
      go_wp2_with (go_at_call 81; refine HF.out.mono ?_; rintro e w1 ⟨rfl, hh⟩)
      exact bodyPost_ret (v := .bool b2) (by simp [results, Tryd.results65, go_sem, *]) rfl (RgP.on ⟨rfl, hh⟩ HB.out)
    · have q2 : ((op == 15) == nm) = false := by
        cases nm <;> by_cases h : op = 15 <;> simp [h] at h15 ⊢
      have h1 := HL2.out
      rw [if_neg h17, if_neg h15] at h1
      have h2 := HB2.out
      rw [if_neg h17, if_neg h15] at h2
      have HF := Hid.mk' (HK.out W HR.out)
      rw [h1, h2] at HF
      clear h17 h15 h1 h2 HL2 HB2
      go_wp2_with (go_at_call 68; refine HF.out.mono ?_; rintro e w1 ⟨rfl, hh⟩)
      exact bodyPost_ret (v := .bool b2) (by simp [results, Tryd.results65, go_sem, *]) rfl (RgP.on ⟨rfl, hh⟩ HB.out)
end Go.Proofs.YtfmkjdfidenfkaaDoor
