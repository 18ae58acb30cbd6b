/- CallsRise. -/
import Derived.Test.YtdnilonfgbinaaaLf
namespace Go.Proofs.Ytdnilonfgbinaaa
open Go.RowKit Go.Sort

set_option maxRecDepth 100000 in
set_option maxHeartbeats 4000000 in
theorem callsRise_law (m : Mo) (w : World) (hm : m.In w) : Calls Try.prog 5 #[m.val] w fun e w' => e = .returned (.bool true) ∧ Below w.heap.size w w' := by
  have HBb := Hid.mk' (Below.one (Below.refl _ w) (moB m))
  have HXb := Hid.mk' (heap_alloc_new w (moB m))
  have HOR : Hid (∀ w', Below w.heap.size w w' → Calls Try.prog 12 #[m.val] w' (OrP m w')) := fun w' hb => order_any w m w' hm ((AllIn.refl w).below hb)
  have HFX := Hid.mk' fixed_any
  have HMI := Hid.mk' hm
  have hml := hm.2.2.1.1
  clear hm
  obtain ⟨mta, mtc, mths, mfa, mfc, mfs⟩ := m
  simp only [moB, Mo.val] at *
  go_enter Try.func5, Try.ntmps5
  go_wp2_with fail
  generalize w.alloc (.cells #[.slice mta mths.length mtc, .slice mfa mfs.length mfc] 25) = Wb at *
  refine (HFX.out _).mono ?_
  rintro e w1 ⟨rfl, bb1⟩
  have HB1 := Hid.mk' (HBb.out.trans (bb1.mono HBb.out.size))
  have HX1 := Hid.mk' (blk_stay HXb.out bb1)
  have x0 := cell_of_obj HX1.out (j := 0) (v := .slice mta mths.length mtc) rfl
  have x1 := cell_of_obj HX1.out (j := 1) (v := .slice mfa mfs.length mfc) rfl
  clear bb1
  go_wp2_with fail
  refine (HOR.out _ HB1.out).mono ?_
  rintro e w2 ⟨v2, os, k, f, i, rfl, hot, on2, bb2⟩
  obtain ⟨a2, c2, rfl⟩ := gown_form on2
  have HOT := Hid.mk' hot
  have hbx := Below.one (Below.refl _ w2) (ftB k f i)
  have HON := Hid.mk' (own_stay on2 hbx)
  have HB3 := Hid.mk' (HB1.out.trans ((Below.on bb2 hbx).mono HB1.out.size))
  have HX3 := Hid.mk' (blk_stay (blk_stay HX1.out bb2) hbx)
  have HF3 := Hid.mk' (heap_alloc_new w2 (ftB k f i))
  have y1 := cell_of_obj HX3.out (j := 1) (v := .slice mfa mfs.length mfc) rfl
  have z0 := cell_of_obj HF3.out (j := 0) (v := .int .i64 k) rfl
  clear hot on2 bb2 hbx x0 x1 HX1 HB1
  simp only [ftB] at *
  rcases HOT.out with ⟨h32, rfl, rfl, rfl, rfl⟩ | ⟨h32, hoo, rfl, rfl, rfl⟩ | ⟨h32, rfl, rfl, f', i', rfl, rfl, hcy⟩
  · have h32i : (32 : Int) < (mfs.length : Int) := by simp only at h32; omega
    go_wp2_with fail
    go_ret
    exact ⟨rfl, HB3.out⟩
  · have h32i : ¬ (32 : Int) < (mfs.length : Int) := by simp only at h32; omega
    have HOO := Hid.mk' hoo
    clear hoo
    go_upto_region 6 with fail
    rename_i K1 h1 K2 h2
    have H1 := Hid.mk' h1
    clear h1
    go_wp2_with fail
    exact H1.out _ _ (rise_order w ⟨mta, mtc, mths, mfa, mfc, mfs⟩ HMI.out os HOO.out h32 a2 c2 w1.heap.size _ HX3.out HB3.out HON.out _ _ _ _ _ _ _ _ _ _ _ _ _ _ _ _ _ _ _ _ _ _ _ _ _ _ _ _ _ _ _ _ _ _ _ _ _ _ _ _ _ _ _ _ _ _ _ _ _ _ _ _ _ _ _ _ _ _ _ _ _ _ _ _ _ _ _ _ _ _ _ _ _ _ _ _ _ _ _ _ _ _ _ _ _ _ _ _ _ _ _ _ _ _ _ _ _ _ _ _ _ _ _ _ _ _ _ _ _ _ _ _ _ _ _ _ _ _ _ _ _ _ _ _ _ _ _ _ _ _ _ _ _ _ _ _ _ _ _ _ _ _ _ _ _ _ _ _ _ _ _ _ _ _ _ _ _ _ _ _ _ _ _ _ _ _ _ _ _ _ _ _ _ _ _ _ _ _ _ _ _ _ _ _ _ _ _ _ _ _ _ _ _ _ _ _ _ _ _ _ _ _ _ _ _ _ _ _ _ _ _ _ _ _ _ _ _ _ _ _ _ _ _ _)
  · have h32i : ¬ (32 : Int) < (mfs.length : Int) := by simp only at h32; omega
    have HCY := Hid.mk' hcy
    clear hcy
    simp only [List.length_nil] at *
    go_upto_region 6 with fail
    rename_i K1 h1 K2 h2
    have H2 := Hid.mk' h2
    clear h2 h1
    go_wp2_with fail
    refine H2.out _ _ (wp_cond_true rfl ?_)
    exact rise_fault w ⟨mta, mtc, mths, mfa, mfc, mfs⟩ HMI.out f' i' HCY.out h32 a2 c2 w2.heap.size _ HX3.out HB3.out HF3.out K1 _ _ _ _ _ _ _ _ _ _ _ _ _ _ _ _ _ _ _ _ _ _ _ _ _ _ _ _ _ _ _ _ _ _ _ _ _ _ _ _ _ _ _ _ _ _ _ _ _ _ _ _ _ _ _ _ _ _ _ _ _ _ _ _ _ _ _ _ _ _ _ _ _ _ _ _ _ _ _ _ _ _ _ _ _ _ _ _ _ _ _ _ _ _ _ _ _ _ _ _ _ _ _ _ _ _ _ _ _ _ _ _ _ _ _ _ _ _ _ _ _ _ _ _ _ _ _ _ _ _ _ _ _ _ _ _ _ _ _ _ _ _ _ _ _ _ _ _ _ _ _ _ _ _ _ _ _ _ _ _ _ _ _ _ _ _ _ _ _ _ _ _ _ _ _ _ _ _ _ _ _ _ _ _ _ _ _ _ _ _ _ _ _ _ _ _ _ _ _ _ _ _ _ _ _ _ _ _ _ _ _ _ _ _ _ _ _ _ _ _ _ _ _
end Go.Proofs.Ytdnilonfgbinaaa
