/- Numbers of a function's head. -/
import Derived.Test.YtboidkmnkicoeaaDoorYa
import Derived.Test.YtboidkmnkicoeaaDoorJd
namespace Go.Proofs.YtboidkmnkicoeaaDoor
open Go.RowKit Go.Sort

theorem row_made (W : World) (T : TypeId) (xs : List Value) (hx : xs.length ≤ 1000000) : (W.alloc (.cells xs.toArray T)).ownsRow W.heap.size T 1 (.slice (some ⟨W.heap.size, 0, none⟩) xs.length xs.length) xs.length xs :=
  ⟨by simp, .inr ⟨W.heap.size, xs.length, xs.toArray, rfl, Nat.le_refl _, heap_alloc_new _ _, Nat.le_refl _, by unfold maxLen; omega, by simp, by simp⟩⟩
theorem newsT (w : World) (T : TypeId) (xs : List Value) : ∀ j u, xs[j]? = some u → (w.alloc (.cells xs.toArray T)).cell? ((⟨w.heap.size, 0, none⟩ : Addr).add j) = some u := fun j u hu => by
  rw [Addr.add_lit, Nat.zero_add]
  exact new_cell _ _ _ _ _ (by rw [← hu, ← Array.getElem?_toList])
/-- The head's numbers, of so many parameters. -/
def hdU (f : Fn) (j : Nat) : List Int := f.regs :: f.words :: (f.params.take j).flatMap fun s => [s.1, s.2]
theorem hdU_len (f : Fn) {j : Nat} (h : j ≤ f.params.length) : (hdU f j).length = 2 + 2 * j := by
  have : ∀ l : List Sp, (l.flatMap fun s => [s.1, s.2]).length = 2 * l.length := fun l => by
    induction l with
    | nil => rfl
    | cons x r ih => rw [List.flatMap_cons, List.length_append, ih, List.length_cons]; simp; omega
  unfold hdU
  rw [List.length_cons, List.length_cons, this, List.length_take]; omega
theorem hdU_next (f : Fn) {j : Nat} (h : j < f.params.length) : (hdU f (j + 1)).flatMap thC = (hdU f j).flatMap thC ++ [.int .i64 f.params[j].1, .int .i64 f.params[j].2] := by
  unfold hdU
  rw [List.take_add_one, List.getElem?_eq_getElem h]
  show (_ :: _ :: (f.params.take j ++ [f.params[j]]).flatMap _).flatMap thC = _
  rw [List.flatMap_append]; simp [thC]
theorem hdU_all (f : Fn) : hdU f f.params.length = hdN f := by unfold hdU hdN; rw [List.take_length]
set_option maxRecDepth 100000 in
set_option maxHeartbeats 2000000 in
theorem headNumbers_any (f : Fn) (w : World) (hf : f.In w) (hp : f.params.length ≤ 100000) : Calls Tryd.prog 31 #[f.val] w fun e w' => ∃ a c, e = .returned (.slice a (hdN f).length c) ∧ Thr w' a (hdN f) ∧ Below w.heap.size w w' := by
  obtain ⟨f1, f2, f3, f4, f5, f6, f7⟩ := hf
  obtain ⟨i0, hi, hz0, hz1, hz2⟩ := info_parts Tryd.infoI
  have HI0 := Hid.mk' hi
  have HP := Hid.mk' f4
  have hb1 := Below.one (Below.refl _ w) (.cells #[.string f.name, .slice f.pa f.params.length f.pc, .int .i64 f.regs, .int .i64 f.words, .slice f.ca f.code.length f.cc] 42)
  have hb2 := Below.one hb1 (.cells #[.int .i64 f.regs, .int .i64 f.words] 2)
  have HO := Hid.mk' (own_mono (N' := w.heap.size) (row_made (w.alloc (.cells #[.string f.name, .slice f.pa f.params.length f.pc, .int .i64 f.regs, .int .i64 f.words, .slice f.ca f.code.length f.cc] 42)) 2 [.int .i64 f.regs, .int .i64 f.words] (by simp)) (by simp))
  rw [World.size_alloc] at HO
  have HU0 : Hid ((hdU f 0).flatMap thC = [.int .i64 f.regs, .int .i64 f.words]) := (by simp [hdU, thC] : _ = _)
  have HU := Hid.mk' (fun (j : Nat) (h : j < f.params.length) => hdU_next f h)
  have HUl := Hid.mk' (hdU_len f (Nat.le_refl _))
  have HA := Hid.mk' (hdU_all f)
  have hpa := f4.1
  clear hi f1 f2 f3 f4 f5 f6 f7
  unfold Fn.val
  go_enter Tryd.func31, Tryd.ntmps31
  go_wp2_with fail
  generalize (w.alloc (.cells #[.string f.name, .slice f.pa f.params.length f.pc, .int .i64 f.regs, .int .i64 f.words, .slice f.ca f.code.length f.cc] 42)).alloc (.cells #[.int .i64 f.regs, .int .i64 f.words] 2) = W at *
  go_loopw [3, 14] (fun t3 t14 wr => ∃ (j : Nat) (v : Value), j ≤ f.params.length ∧ t3 = v ∧ t14 = .int .i64 j ∧ wr.ownsRow w.heap.size 2 1 v (2 + 2 * j) ((hdU f j).flatMap thC) ∧ Below w.heap.size w wr) (fun _ t14 _ => f.params.length - (intOf t14).toNat)
  case atStart => exact ⟨0, _, Nat.zero_le _, rfl, rfl, by rw [HU0.out]; exact HO.out, hb2⟩
  case round =>
    obtain ⟨j, v, hj, rfl, rfl, hown, hbr⟩ := hrel
    obtain ⟨av, cv, rfl⟩ := gown_form hown
    by_cases hlt : j < f.params.length
    · obtain ⟨b, o, epa, c0, c1⟩ := sps_at (HP.out.stay hbr) hlt
      have hli : (j : Int) < (f.params.length : Int) := by omega
      have HN := Hid.mk' (HU.out j hlt)
      generalize f.params[j] = s at *
      obtain ⟨s1, s2⟩ := s
      simp only at c0 c1 HN
      rw [epa]
      have HEP := Hid.mk' epa
      clear epa
      have hss := hbr.size
      have HW := Hid.mk' (newsT (wr.alloc (.cells #[.int .i64 s1, .int .i64 s2] 50)) 2 [.int .i64 s1, .int .i64 s2])
      rw [World.size_alloc] at HW
      have HB := Hid.mk' (Below.one (Below.one hbr (.cells #[.int .i64 s1, .int .i64 s2] 50)) (.cells #[.int .i64 s1, .int .i64 s2] 2))
      have HO2 := Hid.mk' ((hown.alloc (.cells #[.int .i64 s1, .int .i64 s2] 50)).alloc (.cells #[.int .i64 s1, .int .i64 s2] 2))
      have hr1 : 2 + 2 * j + 2 ≤ maxLen := by unfold maxLen; omega
      have hr2 : (2 + 2 * j + 2) * 8 ≤ 140737488355328 := by omega
      clear hown hbr hss
      go_wp2_with (at_builtin; refine wpList_append_own _ rfl _ _ 22 rfl w.heap.size 2 i0 (.int .i64 0) 1 8 Tryd.underlying22 HI0.out hz0 hz1 hz2 rfl (by decide) _ (2 + 2 * j) _ rfl HO2.out ⟨wr.heap.size + 1, 0, none⟩ 2 2 [.int .i64 s1, .int .i64 s2] rfl rfl HW.out (by simp [Value.oneCell']) hr1 hr2 HB.out.size ?_; intro v1 w1 own1 grow1 _; obtain ⟨a1, c1', rfl⟩ := gown_form own1)
      go_roundw
      case rel =>
        refine ⟨j + 1, _, by omega, rfl, by go_num, ?_, HB.out.grown grow1 HB.out.size (fun k e => own_base HO2.out k e)⟩
        rw [HN.out]
        exact own1
      case measure => simp [intOf]; omega
    · have hje : j = f.params.length := by omega
      have HE := Hid.mk' hje
      have HO2 := Hid.mk' hown
      clear hje hown
      go_wp2_with fail
      go_ret
      have ho := HO2.out
      have hl := HUl.out
      rw [HE.out, HA.out] at ho
      rw [HA.out] at hl
      refine ⟨av, cv, ?_, ⟨by rw [hl]; omega, own_row ho (fun _ => rfl) (by omega)⟩, hbr⟩
      rw [hl, HE.out]; rfl
end Go.Proofs.YtboidkmnkicoeaaDoor
