/- The law's own question that is asked first: it is answered yes. -/
import Derived.Test.YtboidkmnkicoeaaGreatDoorJn
import Derived.Test.YtboidkmnkicoeaaGreatDoorJg
import Derived.Test.YtboidkmnkicoeaaGreatDoorKd
import Derived.Test.YtboidkmnkicoeaaGreatDoorJy
namespace Go.Proofs.YtboidkmnkicoeaaGreatDoor
open Go.RowKit Go.Sort

def f1 (h : Nat) : Fn := ⟨⟨#[102]⟩, none, 0, [], 1, 0, some ⟨h, 0, none⟩, 2, [⟨1, 0, 0, 0, -5⟩, ⟨0, 0, 0, 0, 0⟩]⟩
def m1 (h : Nat) : Mo := ⟨none, 0, [], some ⟨h + 1, 0, none⟩, 1, [f1 h]⟩
structure FixN (W : World) (h : Nat) : Prop where
  c : W.heap[h]? = some (.cells #[.int .i64 1, .int .i64 0, .int .i64 0, .int .i64 0, .int .i64 (-5), .int .i64 0, .int .i64 0, .int .i64 0, .int .i64 0, .int .i64 0] 36)
  f : W.heap[h + 1]? = some (.cells #[.string ⟨#[102]⟩, .slice none 0 0, .int .i64 1, .int .i64 0, .slice (some ⟨h, 0, none⟩) 2 2] 34)
  m : W.heap[h + 1 + 1]? = some (.cells #[.slice none 0 0, .slice (some ⟨h + 1, 0, none⟩) 1 1] 25)
theorem FixN.stay {W W' : World} {h : Nat} (k : FixN W h) (hb : Below W.heap.size W W') : FixN W' h := ⟨(hb.block _ (Array.getElem?_eq_some_iff.1 k.c).1).trans k.c, (hb.block _ (Array.getElem?_eq_some_iff.1 k.f).1).trans k.f, (hb.block _ (Array.getElem?_eq_some_iff.1 k.m).1).trans k.m⟩
theorem FixN.in {W : World} {h : Nat} (k : FixN W h) : (m1 h).In W := by
  have r1 : Iss W (some ⟨h, 0, none⟩) [⟨1, 0, 0, 0, -5⟩, ⟨0, 0, 0, 0, 0⟩] := by
    refine ⟨by simp, fun i cs hi => ?_⟩
    match i, hi with
    | 0, hi =>
      simp at hi; subst hi
      refine ⟨h, 0, rfl, fun j v hj => ?_⟩
      have : j < 5 := (List.getElem?_eq_some_iff.1 hj).1
      rw [Lib.cell_of_heap k.c, ← Array.getElem?_toList]
      match j, this, hj with
      | 0, _, hj => exact hj
      | 1, _, hj => exact hj
      | 2, _, hj => exact hj
      | 3, _, hj => exact hj
      | 4, _, hj => exact hj
    | 1, hi =>
      simp at hi; subst hi
      refine ⟨h, 0, rfl, fun j v hj => ?_⟩
      have : j < 5 := (List.getElem?_eq_some_iff.1 hj).1
      rw [Lib.cell_of_heap k.c, ← Array.getElem?_toList]
      match j, this, hj with
      | 0, _, hj => exact hj
      | 1, _, hj => exact hj
      | 2, _, hj => exact hj
      | 3, _, hj => exact hj
      | 4, _, hj => exact hj
    | i + 2, hi => simp at hi
  have r2 : Fns W (some ⟨h + 1, 0, none⟩) [f1 h] := by
    refine ⟨by simp, fun i cs hi => ?_⟩
    match i, hi with
    | 0, hi =>
      simp at hi; subst hi
      refine ⟨h + 1, 0, rfl, fun j v hj => ?_⟩
      rw [Lib.cell_of_heap k.f, ← Array.getElem?_toList]
      simpa [Fn.cells, f1] using hj
  refine ⟨⟨by simp [m1], fun i cs hi => by simp [m1] at hi⟩, by simp [m1], r2, fun f hf => ?_⟩
  rw [List.mem_singleton.1 hf]
  refine ⟨(by omega : (1 : Nat) ≤ 140737488351232), by unfold I64 f1; simp, by unfold I64 f1; simp, ⟨by simp [f1], fun i cs hi => by simp [f1] at hi⟩, by simp [f1], r1, fun x hx => ?_⟩
  unfold f1 at hx
  simp only [List.mem_cons, List.not_mem_nil, or_false] at hx
  rcases hx with rfl | rfl
  · exact ⟨by unfold I64; simp, by unfold I64; simp, by unfold I64; simp, by unfold I64; simp, by unfold I64; simp⟩
  · exact ⟨by unfold I64; simp, by unfold I64; simp, by unfold I64; simp, by unfold I64; simp, by unfold I64; simp⟩
def fixT : Bt := [119, 105, 100, 101, 110, 10, 102, 117, 110, 99, 32, 102, 32, 49, 32, 48, 10, 115, 101, 116, 32, 48, 32, 45, 53, 10, 114, 101, 116, 32, 48, 10]
def badT : Bt := [119, 105, 100, 101, 110, 32, 51, 32, 32, 52, 10]
theorem may_1 (h : Nat) : mayZ (m1 h) = (0, 0, 0) := by kernel_rfl
theorem moT_1 (h : Nat) : moT (m1 h) = fixT := by kernel_rfl
theorem bad_1 : goZ (spl 10 badT) 1 dr0 = .error (11, 1, 8) := by kernel_rfl
theorem prn_1 (h : Nat) : prnV (m1 h) = .tuple #[.string (tb fixT), .agg #[.int .i64 0, .int .i64 0, .int .i64 0]] := by
  unfold prnV prnT
  rw [may_1, if_pos rfl, moT_1]
  rfl
theorem fix_print (W : World) (k : Nat) (h : Env W) (hm : FixN W k) : Calls Tryz.prog 22 #[.agg #[.slice none 0 0, .slice (some ⟨k + 1, 0, none⟩) 1 1]] W fun e w' => e = .returned (.tuple #[.string ⟨#[119, 105, 100, 101, 110, 10, 102, 117, 110, 99, 32, 102, 32, 49, 32, 48, 10, 115, 101, 116, 32, 48, 32, 45, 53, 10, 114, 101, 116, 32, 48, 10]⟩, .agg #[.int .i64 0, .int .i64 0, .int .i64 0]]) ∧ Below W.heap.size W w' := by
  have := print_any (m1 k) W h hm.in
  rw [prn_1] at this
  exact this
theorem fix_parse (W : World) (k : Nat) (h : Env W) (hm : FixN W k) : Calls Tryz.prog 4 #[.string ⟨#[119, 105, 100, 101, 110, 10, 102, 117, 110, 99, 32, 102, 32, 49, 32, 48, 10, 115, 101, 116, 32, 48, 32, 45, 53, 10, 114, 101, 116, 32, 48, 10]⟩] W fun e w' => ∃ q : Mo, e = .returned (.tuple #[q.val, .int .i64 0, .int .i64 0, .int .i64 0]) ∧ q.In w' ∧ q.er = (m1 k).er ∧ Below W.heap.size W w' := by
  refine (parse_any fixT (by decide) W h).mono ?_
  rintro e w' ⟨hb, q, rfl, hq, h1, _⟩
  obtain ⟨d, hd, hp⟩ := parZ_back (m := m1 k) (by rw [may_1]) hm.in
  rw [moT_1] at hp
  rw [hp] at h1 ⊢
  exact ⟨q, rfl, hq, (h1 rfl).trans hd, hb⟩
theorem bad_parse (W : World) (h : Env W) : Calls Tryz.prog 4 #[.string ⟨#[119, 105, 100, 101, 110, 32, 51, 32, 32, 52, 10]⟩] W fun e w' => e = .returned (.tuple #[.agg #[.slice none 0 0, .slice none 0 0], .int .i64 11, .int .i64 1, .int .i64 8]) ∧ Below W.heap.size W w' := by
  refine (parse_any badT (by decide) W h).mono ?_
  rintro e w' ⟨hb, q, rfl, _, _, h2⟩
  have hp := parZ_bad bad_1
  rw [hp] at h2 ⊢
  rw [h2 (by decide)]
  exact ⟨rfl, hb⟩
theorem new3 (w : World) (o1 o2 o3 : Obj) : (((w.alloc o1).alloc o2).alloc o3).heap[w.heap.size]? = some o1 ∧ (((w.alloc o1).alloc o2).alloc o3).heap[w.heap.size + 1]? = some o2 ∧ (((w.alloc o1).alloc o2).alloc o3).heap[w.heap.size + 1 + 1]? = some o3 := by
  have h1 := heap_alloc_new w o1
  have h2 := heap_alloc_new (w.alloc o1) o2
  have h3 := heap_alloc_new ((w.alloc o1).alloc o2) o3
  simp only [World.size_alloc] at h2 h3
  have up : ∀ {W : World} {k : Nat} {o : Obj}, W.heap[k]? = some o → ∀ o', (W.alloc o').heap[k]? = some o := fun h o' => ((Below.one (Below.refl _ _) o').block _ (Array.getElem?_eq_some_iff.1 h).1).trans h
  exact ⟨up (up h1 _) _, up h2 _, h3⟩
theorem eqf0 (w : World) : (Op.equalIn 10000 68 (.agg #[.int .i64 0, .int .i64 0, .int .i64 0]) (.agg #[.int .i64 0, .int .i64 0, .int .i64 0])).run Tryz.prog w = .ok true w := by kernel_rfl
theorem eqGuard_f (w : World) (op : BinOp) (a b : Operand) (xs ys : Array Value) : (eqGuard op 68 a b (.agg xs) (.agg ys)).run Tryz.prog w = .ok () w := run_eqGuard_agg w op 68 a b xs ys (by kernel_rfl)
set_option maxRecDepth 100000 in
set_option maxHeartbeats 4000000 in
theorem fixed_any (w : World) (h : Env w) : Calls Tryz.prog 7 #[] w fun e w' => e = .returned (.bool true) ∧ Below w.heap.size w w' := by
  have HH := Hid.mk' h
  clear h
  go_enter Tryz.func7, Tryz.ntmps7
  go_wp2_with fail
  obtain ⟨n1, n2, n3⟩ := new3 w (.cells #[.int .i64 1, .int .i64 0, .int .i64 0, .int .i64 0, .int .i64 (-5), .int .i64 0, .int .i64 0, .int .i64 0, .int .i64 0, .int .i64 0] 36) (.cells #[.string ⟨#[102]⟩, .slice none 0 0, .int .i64 1, .int .i64 0, .slice (some ⟨w.heap.size, 0, none⟩) 2 2] 34) (.cells #[.slice none 0 0, .slice (some ⟨w.heap.size + 1, 0, none⟩) 1 1] 25)
  have hb1 := Below.one (Below.one (Below.one (Below.refl _ w) (.cells #[.int .i64 1, .int .i64 0, .int .i64 0, .int .i64 0, .int .i64 (-5), .int .i64 0, .int .i64 0, .int .i64 0, .int .i64 0, .int .i64 0] 36)) (.cells #[.string ⟨#[102]⟩, .slice none 0 0, .int .i64 1, .int .i64 0, .slice (some ⟨w.heap.size, 0, none⟩) 2 2] 34)) (.cells #[.slice none 0 0, .slice (some ⟨w.heap.size + 1, 0, none⟩) 1 1] 25)
  have hF : FixN _ w.heap.size := ⟨n1, n2, n3⟩
  clear n1 n2 n3
  generalize (((w.alloc (.cells #[.int .i64 1, .int .i64 0, .int .i64 0, .int .i64 0, .int .i64 (-5), .int .i64 0, .int .i64 0, .int .i64 0, .int .i64 0, .int .i64 0] 36)).alloc (.cells #[.string ⟨#[102]⟩, .slice none 0 0, .int .i64 1, .int .i64 0, .slice (some ⟨w.heap.size, 0, none⟩) 2 2] 34)).alloc (.cells #[.slice none 0 0, .slice (some ⟨w.heap.size + 1, 0, none⟩) 1 1] 25)) = W1 at *
  refine (fix_print W1 _ (HH.out.stay hb1) hF).mono ?_
  rintro e W2 ⟨rfl, hb2⟩
  have hb3 := Below.one hb2 (.cells #[.int .i64 0, .int .i64 0, .int .i64 0] 68)
  have c3 := heap_alloc_new W2 (.cells #[.int .i64 0, .int .i64 0, .int .i64 0] 68)
  replace hF := hF.stay hb3
  have HB := Hid.mk' (Below.on hb1 hb3)
  have HF := Hid.mk' hF
  have HC := Hid.mk' c3
  clear hb1 hb2 hb3 hF c3
  go_wp2_with fail
  generalize hG : W2.heap.size = G at *
  generalize W2.alloc (.cells #[.int .i64 0, .int .i64 0, .int .i64 0] 68) = W3 at *
  refine (fix_parse W3 _ (HH.out.stay HB.out) HF.out).mono ?_
  rintro e W4 ⟨q, rfl, hq, he, hb4⟩
  have hb5 := Below.one hb4 (.cells #[.slice q.ta q.ths.length q.tc, .slice q.fa q.funcs.length q.fc] 25)
  have c5 := heap_alloc_new W4 (.cells #[.slice q.ta q.ths.length q.tc, .slice q.fa q.funcs.length q.fc] 25)
  have HQ := Hid.mk' (hq.stay (Below.one (Below.refl _ W4) (.cells #[.slice q.ta q.ths.length q.tc, .slice q.fa q.funcs.length q.fc] 25)))
  replace HB := Hid.mk' (Below.on HB.out hb5)
  replace HF := Hid.mk' (HF.out.stay hb5)
  replace HC := Hid.mk' ((hb5.block _ (Array.getElem?_eq_some_iff.1 HC.out).1).trans HC.out)
  have HD := Hid.mk' c5
  have HE := Hid.mk' he
  clear hb4 hb5 c5 hq he hG
  unfold Mo.val
  go_wp2_with fail
  generalize W4.heap.size = G4 at *
  generalize W4.alloc (.cells #[.slice q.ta q.ths.length q.tc, .slice q.fa q.funcs.length q.fc] 25) = W5 at *
  refine (bad_parse W5 (HH.out.stay HB.out)).mono ?_
  rintro e W6 ⟨rfl, hb6⟩
  have hb7 := Below.one hb6 (.cells #[.slice none 0 0, .slice none 0 0] 25)
  have HQ7 := Hid.mk' (HQ.out.stay hb7)
  have HB7 := Hid.mk' (Below.on HB.out hb7)
  have hF := HF.out.stay hb7
  have c7 := (hb7.block _ (Array.getElem?_eq_some_iff.1 HC.out).1).trans HC.out
  have d7 := (hb7.block _ (Array.getElem?_eq_some_iff.1 HD.out).1).trans HD.out
  have y0 := cell_of_obj d7 (j := 0) (v := .slice q.ta q.ths.length q.tc) rfl
  have y1 := cell_of_obj d7 (j := 1) (v := .slice q.fa q.funcs.length q.fc) rfl
  have x0 := cell_of_obj hF.m (j := 0) (v := .slice none 0 0) rfl
  have x1 := cell_of_obj hF.m (j := 1) (v := .slice (some ⟨w.heap.size + 1, 0, none⟩) 1 1) rfl
  have HS := Hid.mk' (rsame_any (m1 w.heap.size) q _ hF.in HQ7.out)
  rw [samM_same HE.out.symm] at HS
  have HC7 := Hid.mk' c7
  clear c7 d7 hF hb6 hb7 HF HC HD HQ HB
  unfold Mo.val at HS
  go_wp2_with fail
  generalize W6.alloc (.cells #[.slice none 0 0, .slice none 0 0] 25) = W7 at *
  refine HS.out.mono ?_
  rintro e W8 ⟨rfl, hb8⟩
  have c8 := (hb8.block _ (Array.getElem?_eq_some_iff.1 HC7.out).1).trans HC7.out
  have z0 := cell_of_obj c8 (j := 0) (v := .int .i64 0) rfl
  have z1 := cell_of_obj c8 (j := 1) (v := .int .i64 0) rfl
  have z2 := cell_of_obj c8 (j := 2) (v := .int .i64 0) rfl
  have HB8 := Hid.mk' (Below.on HB7.out hb8)
  have hg := eqGuard_f
  have hq2 := eqf0
  clear c8 hb8 x0 x1 y0 y1 HS HC7 HB7
  go_wp2_with fail
  go_ret
  exact ⟨rfl, HB8.out⟩
end Go.Proofs.YtboidkmnkicoeaaGreatDoor
