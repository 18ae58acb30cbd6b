/- CallsOrder. -/
import Derived.Test.YtdnilonfgbinaaaLa
namespace Go.Proofs.Ytdnilonfgbinaaa
open Go.RowKit Go.Sort

theorem OrT.len {m : Mo} {os : List Nat} {k f i : Int} (h : OrT m os k f i) : os.length ≤ 32 := by
  rcases h with ⟨_, rfl, _⟩ | ⟨h1, h2, _⟩ | ⟨_, rfl, _⟩
  · simp
  · rw [h2.2]; exact h1
  · simp
/-- .. and a fault's box. -/
structure LP (Wb : World) (n : Nat) (vl vq : Value) (qs : List Nat) (F : Nat) (k f i : Int) (W : World) : Prop where
  o : LO Wb n vl vq qs W
  x : W.heap[F]? = some (ftB k f i)
section
variable {Wb W W' : World} {n F : Nat} {vl vq : Value} {qs : List Nat} {k f i : Int}
theorem LP.stay (h : LP Wb n vl vq qs F k f i W) (hb : Below W.heap.size W W') : LP Wb n vl vq qs F k f i W' := ⟨h.o.stay hb, blk_stay h.x hb⟩
theorem LP.put {g c : Nat} (h : LP Wb n (.slice (some ⟨g, 0, none⟩) n c) vq qs F k f i W) (j : Nat) (u : Value) : LP Wb n (.slice (some ⟨g, 0, none⟩) n c) vq qs F k f i (W.setCell ⟨g, j, none⟩ u) := by
  refine ⟨h.o.put j u, (heap_setCell_other W ⟨g, j, none⟩ F u fun e => ?_).trans h.x⟩
  obtain ⟨xs, hx⟩ := h.o.l
  obtain ⟨cur, hc, _⟩ := own_blk hx
  simp only at e
  rw [← e, h.x] at hc
  cases hc
theorem LP.app (h : LP Wb n vl vq qs F k f i W) (hn : n ≤ 1000000) (z : Int) (ty : TypeId) :
    ∃ v' W', (Builtin.append_ #[27, 27] ty #[vl, .slice (some ⟨W.heap.size, 0, none⟩) 1 1]).run Try.prog (W.alloc (.cells #[.int .i64 z] 3)) = .ok v' W' ∧ On Wb.heap.size qs vq W' ∧ Below Wb.heap.size Wb W' ∧ W'.heap[F]? = some (ftB k f i) := by
  obtain ⟨xs, hx⟩ := h.o.l
  obtain ⟨v', W', h1, h2, h3⟩ := app_one (t := 27) Try.underlying27 Try.infoN rfl (by decide) hx h.o.b.size (by unfold maxLen; omega) (by omega) #[.int .i64 z] rfl (by simp [Value.oneCell']) ty
  exact ⟨v', W', h1, h.o.q.kept h3 h.o.ap, h.o.b.grown h3 h.o.b.size (fun k e => own_base hx k e), (h3.block F (Array.getElem?_eq_some_iff.1 h.x).1 (Ne.symm (row_not hx h.x (by decide)))).trans h.x⟩
end
set_option maxRecDepth 100000 in
set_option maxHeartbeats 4000000 in
theorem callsOrder_law (m : Mo) (w : World) (hm : m.In w) : Calls Try.prog 4 #[m.val] w fun e w' => e = .returned (.bool true) ∧ Below w.heap.size w w' := by
  have HBb := Hid.mk' (Below.one (Below.refl _ w) (moB m))
  have HXb := Hid.mk' (heap_alloc_new w (moB m))
  have HOR : Hid (∀ w', Below w.heap.size w w' → Calls Try.prog 12 #[m.val] w' (OrP m w')) := fun w' hb => order_any w m w' hm ((AllIn.refl w).below hb)
  have HRO : Hid (∀ w', Below w.heap.size w w' → Calls Try.prog 13 #[m.val] w' (OrP m w')) := fun w' hb => rorder_any w m w' hm ((AllIn.refl w).below hb)
  have c0 := cell_of_obj HXb.out (j := 0) (v := .slice m.ta m.ths.length m.tc) rfl
  have c1 := cell_of_obj HXb.out (j := 1) (v := .slice m.fa m.funcs.length m.fc) rfl
  have HFX := Hid.mk' fixed_any
  clear hm
  obtain ⟨mta, mtc, mths, mfa, mfc, mfs⟩ := m
  simp only [moB, Mo.val] at *
  go_enter Try.func4, Try.ntmps4
  go_wp2_with fail
  generalize w.alloc (.cells #[.slice mta mths.length mtc, .slice mfa mfs.length mfc] 25) = Wb at *
  refine (HOR.out _ HBb.out).mono ?_
  rintro e w1 ⟨v1, os, k, f, i, rfl, hot, on1, bb1⟩
  obtain ⟨a1, c1', rfl⟩ := gown_form on1
  have HOT := Hid.mk' hot
  have hbx := Below.one (Below.refl _ w1) (ftB k f i)
  have HON := Hid.mk' (own_stay on1 hbx)
  have HB1 := Hid.mk' (Below.on bb1 hbx)
  have HX1 := Hid.mk' (heap_alloc_new w1 (ftB k f i))
  have hxb := blk_stay HXb.out HB1.out
  have x0 := cell_of_obj hxb (j := 0) (v := .slice mta mths.length mtc) rfl
  have x1 := cell_of_obj hxb (j := 1) (v := .slice mfa mfs.length mfc) rfl
  have hol := hot.len
  clear hot on1 bb1 hbx hxb c0 c1
  simp only [ftB] at *
  go_wp2_with fail
  generalize w1.alloc (.cells #[.int .i64 k, .int .i64 f, .int .i64 i] 35) = w2 at *
  generalize w1.heap.size = F1 at *
  refine (HRO.out _ (HBb.out.trans (HB1.out.mono HBb.out.size))).mono ?_
  rintro e w3 ⟨v3, os', k', f', i', rfl, hot', on3, bb3⟩
  obtain ⟨rfl, rfl, rfl, rfl⟩ := hot'.one HOT.out
  obtain ⟨a3, c3, rfl⟩ := gown_form on3
  have hbx := Below.one (Below.refl _ w3) (ftB k' f' i')
  have HL3 : Hid (LP Wb os'.length (.slice a1 os'.length c1') (.slice a3 os'.length c3) os' w3.heap.size k' f' i' (w3.alloc (ftB k' f' i'))) := ⟨⟨⟨_, own_stay (own_stay HON.out bb3) hbx⟩, own_stay (own_mono on3 HB1.out.size) hbx, apart_new on3 HON.out (Nat.le_refl _), Below.on (Below.on HB1.out bb3) hbx⟩, heap_alloc_new w3 _⟩
  have HS3 : Hid (Lst (w3.alloc (ftB k' f' i')) a1 (os'.map nV)) := ((own_lst HON.out).stay bb3).stay hbx
  have HX1' := Hid.mk' (blk_stay (blk_stay HX1.out bb3) hbx)
  clear hot' on3 bb3 hbx HON HB1 HX1 x0 x1 HRO
  simp only [ftB] at *
  go_wp2_with fail
  generalize w3.alloc (.cells #[.int .i64 k', .int .i64 f', .int .i64 i'] 35) = w4 at *
  generalize w3.heap.size = F2 at *
  refine (HFX.out _).mono ?_
  rintro e w5 ⟨rfl, bb5⟩
  have HL5 := Hid.mk' (HL3.out.stay bb5)
  have HSA := Hid.mk' (sameInts_any os' os' a1 a3 c1' c3 w5 (HS3.out.stay bb5) (own_lst HL5.out.o.q) (by omega))
  rw [decide_eq_true rfl] at HSA
  have HX5 := Hid.mk' (blk_stay HX1'.out bb5)
  clear bb5 HL3 HS3 HX1'
  go_wp2_with fail
  refine HSA.out.mono ?_
  rintro e w6 ⟨rfl, bb6⟩
  have HL6 := Hid.mk' (HL5.out.stay bb6)
  have hx6 := blk_stay HX5.out bb6
  have y0 := cell_of_obj hx6 (j := 0) (v := .int .i64 k') rfl
  have y1 := cell_of_obj hx6 (j := 1) (v := .int .i64 f') rfl
  have y2 := cell_of_obj hx6 (j := 2) (v := .int .i64 i') rfl
  have z0 := cell_of_obj HL6.out.x (j := 0) (v := .int .i64 k') rfl
  have z1 := cell_of_obj HL6.out.x (j := 1) (v := .int .i64 f') rfl
  have z2 := cell_of_obj HL6.out.x (j := 2) (v := .int .i64 i') rfl
  have hq1 := eqGuard_f
  have hq2 := equalIn_fl
  have e1 : (k' == k') = true := by simp
  have e2 : (f' == f') = true := by simp
  have e3 : (i' == i') = true := by simp
  clear bb6 HL5 HSA HX5 hx6
  go_wp2_with fail
  clear y0 y1 y2 z0 z1 z2
  go_loopw [7] (fun t7 wr => ∃ j : Nat, t7 = .int .i64 (j : Int) ∧ j ≤ os'.length ∧ LP Wb os'.length (.slice a1 os'.length c1') (.slice a3 os'.length c3) os' F2 k' f' i' wr) (fun t7 _ => os'.length - (intOf t7).toNat)
  case atStart => exact ⟨0, rfl, Nat.zero_le _, HL6.out⟩
  case round =>
    obtain ⟨j, rfl, hjl, hli⟩ := hrel
    have HLI := Hid.mk' hli
    clear hli HL6
    by_cases hlt : j < os'.length
    · obtain ⟨g, u, rfl, e0, f0⟩ := HLI.out.o.at hlt
      have hlti : (j : Int) < (os'.length : Int) := by omega
      have HPU := Hid.mk' (fun u => HLI.out.put j u)
      go_wp2_with fail
      go_roundw
      case rel => exact ⟨j + 1, by go_num, hlt, HPU.out _⟩
      case measure => simp [intOf]; omega
    · have HAP := Hid.mk' (HLI.out.app (by omega) 5 27)
      go_wp2_with (at_builtin; refine wpl_app rfl _ _ 27 27 _ _ rfl rfl rfl HAP.out ?_; rintro v7 W7 ⟨oq7, b7, x7⟩; have HOQ := Hid.mk' oq7; have HB7 := Hid.mk' b7; have HX7 := Hid.mk' x7; have hbq := blk_stay HXb.out b7; have d0 := cell_of_obj hbq (j := 0) (v := .slice mta mths.length mtc) rfl; have d1 := cell_of_obj hbq (j := 1) (v := .slice mfa mfs.length mfc) rfl; clear oq7 b7 x7 hbq)
      refine (HOR.out _ (HBb.out.trans (HB7.out.mono HBb.out.size))).mono ?_
      rintro e w8 ⟨v8, os8, k8, f8, i8, rfl, hot8, on8, bb8⟩
      obtain ⟨rfl, rfl, rfl, rfl⟩ := hot8.one HOT.out
      obtain ⟨a8, c8, rfl⟩ := gown_form on8
      have hbx := Below.one (Below.refl _ w8) (ftB k8 f8 i8)
      have HSB := Hid.mk' (sameInts_any os8 os8 a8 a3 c8 c3 (w8.alloc (ftB k8 f8 i8)) ((own_lst on8).stay hbx) (((own_lst HOQ.out).stay bb8).stay hbx) (by omega))
      rw [decide_eq_true rfl] at HSB
      have HB8 : Hid (Below w.heap.size w (w8.alloc (ftB k8 f8 i8))) := HBb.out.trans ((Below.on (Below.on HB7.out bb8) hbx).mono HBb.out.size)
      have HX8 := Hid.mk' (blk_stay (blk_stay HX7.out bb8) hbx)
      have HX9 := Hid.mk' (heap_alloc_new w8 (ftB k8 f8 i8))
      clear hot8 on8 bb8 d0 d1 hbx
      simp only [ftB] at *
      go_wp2_with fail
      generalize w8.alloc (.cells #[.int .i64 k8, .int .i64 f8, .int .i64 i8] 35) = w9 at *
      generalize w8.heap.size = F3 at *
      refine HSB.out.mono ?_
      rintro e w10 ⟨rfl, bb10⟩
      have hx1 := blk_stay HX8.out bb10
      have hx2 := blk_stay HX9.out bb10
      have y0 := cell_of_obj hx1 (j := 0) (v := .int .i64 k8) rfl
      have y1 := cell_of_obj hx1 (j := 1) (v := .int .i64 f8) rfl
      have y2 := cell_of_obj hx1 (j := 2) (v := .int .i64 i8) rfl
      have z0 := cell_of_obj hx2 (j := 0) (v := .int .i64 k8) rfl
      have z1 := cell_of_obj hx2 (j := 1) (v := .int .i64 f8) rfl
      have z2 := cell_of_obj hx2 (j := 2) (v := .int .i64 i8) rfl
      clear hx1 hx2
      go_wp2_with fail
      go_ret
      exact ⟨by simp, Below.on HB8.out bb10⟩
end Go.Proofs.Ytdnilonfgbinaaa
