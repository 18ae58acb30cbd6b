/- Bounds: an instruction passed. -/
import Derived.Test.YtfmkjdfidenfkaaDoorZan
namespace Go.Proofs.YtfmkjdfidenfkaaDoor
open Go.RowKit
open S8 (meetB meetS joinS widS belA belB belC allS doR doB doS emB sv)

theorem RgP.fit {w W : World} {g : Nat} {l1 : List Sp} {b1 : Bool} {R2 : Bool × List Sp} {e : Ending} {w' : World} (h : RgP W g l1 b1 e w') (hb : Below w.heap.size w W) (hR : (b1, l1) = R2) : RgP w g R2.2 R2.1 e w' := by subst hR; exact h.on hb

set_option maxRecDepth 100000 in
set_option maxHeartbeats 8000000 in
theorem pass_any (m : Mo) (f : Fn) (x : Is) (fr gt : Nat) (l : List Sp) (g c : Nat) (hx : f.code[fr]? = some x) (hok : InsOk m f x) (hxo : x.Ok) (hfc : f.code.length ≤ 1024) (hw0 : 0 ≤ f.words) (hw1 : f.words ≤ 4096) (hl : (l.length : Int) = f.regs) (hl64 : l.length ≤ 64) (ho : RgOk l) (w : World) (hm : m.In w) (hf : f.In w)
    (hmg : ∀ ad, m.fa = some ad → ad.block ≠ g) (hcg : ∀ ad, f.ca = some ad → ad.block ≠ g) (hpg : ∀ h ∈ m.funcs, h.params ≠ [] → ∀ ad, h.pa = some ad → ad.block ≠ g) (hr : RgB w g l) :
    Calls Tryd.prog 40 #[.slice (some ⟨g, 0, none⟩) l.length c, m.val, f.val, .int .i64 fr, .int .i64 gt] w (RgP w g (psZ m f x fr gt l).2 (psZ m f x fr gt l).1) := by
  have hfl : fr < f.code.length := (List.getElem?_eq_some_iff.1 hx).1
  have hxe : f.code[fr] = x := (List.getElem?_eq_some_iff.1 hx).2
  obtain ⟨bc, oc, eca, g0, g1, g2, g3, g4⟩ := iss_at hf.2.2.2.2.2.1 hfl
  rw [hxe] at g0 g1 g2 g3 g4
  obtain ⟨R2, hR2⟩ : ∃ y, psZ m f x fr gt l = y := ⟨_, rfl⟩
  rw [hR2]
  have HR2 := Hid.mk' hR2
  clear hR2
  have hal : x.a.toNat < l.length := by have := hok.a; omega
  have hbl : x.b.toNat < l.length := by have := hok.b; omega
  have hcl : x.c.toNat < l.length := by have := hok.c; omega
  have HBR : Hid (∀ nm W, RgB W g l → Calls Tryd.prog 65 #[.slice (some ⟨g, 0, none⟩) l.length c, x.val, .bool nm] W (RgP W g (brL l x nm) (brB l x nm))) := fun nm W hW => branch_any l g c x nm ho hok.a.1 hal hok.b.1 (fun _ => hbl) W hW
  have HDV : Hid (∀ W, RgB W g l → Calls Tryd.prog 66 #[.slice (some ⟨g, 0, none⟩) l.length c, x.val] W (RgP W g (divL l x) (divB l x))) := fun W hW => divide_any l g c x ho hok.a.1 hal hok.b.1 hbl hok.c.1 hcl W hW
  have HAC : Hid (∀ W, RgB W g l → Calls Tryd.prog 67 #[.slice (some ⟨g, 0, none⟩) l.length c, x.val, .int .i64 f.words] W (RgP W g (accL l x f.words) (accB l x f.words))) := fun W hW => access_any l g c x f.words hxo.2.2.2.2 hw0 hw1 hok.a.1 hal hok.b.1 hbl W hW
  have HKE : Hid (∀ s W, RgB W g l → Calls Tryd.prog 68 #[.slice (some ⟨g, 0, none⟩) l.length c, .int .i64 x.a, sv s] W (RgP W g (l.set x.a.toNat (meetS (gS l x.a.toNat) s)) (meetB (gS l x.a.toNat) s))) := fun s W hW => by
    have := keep_any l g c x.a.toNat s hal W hW
    rwa [Int.toNat_of_nonneg hok.a.1] at this
  have HWR : Hid (∀ W, RgB W g l → Calls Tryd.prog 70 #[.slice (some ⟨g, 0, none⟩) l.length c, x.val] W (fun e w' => (∃ v, e = .returned v) ∧ RgB w' g (wrtL l x) ∧ OnlyB g W w')) := fun W hW => write_any l g c x ho hok.a.1 hal hok.b.1 hbl hok.c.1 hcl W hW
  have hop := hok.op
  have hchk := hok.chk
  obtain ⟨op, xa, xb, xc, xn⟩ := x
  simp only at g0 g1 g2 g3 g4 HBR HDV HAC HKE HWR hop hchk
  have hxn : I64 xn := hxo.2.2.2.2
  have hfi : (fr : Int) < (f.code.length : Int) := by omega
  obtain ⟨nm, pa, pc, params, regs, words, ca, cc, code⟩ := f
  obtain ⟨ta, tc, ths, fa, fc, funcs⟩ := m
  simp only at eca hfi HAC hfc hl
  subst eca
  have hB := fun (o1 o2 : Obj) => (Below.one (Below.one (Below.refl _ w) o1) o2 : Below w.heap.size w _)
  have k0 := fun o1 o2 => cell_kept_below g0 (hB o1 o2)
  have k1 := fun o1 o2 => cell_kept_below g1 (hB o1 o2)
  have k2 := fun o1 o2 => cell_kept_below g2 (hB o1 o2)
  have k3 := fun o1 o2 => cell_kept_below g3 (hB o1 o2)
  have k4 := fun o1 o2 => cell_kept_below g4 (hB o1 o2)
  unfold Mo.val Fn.val
  simp only
  clear g0 g1 g2 g3 g4
  go_enter Tryd.func40, Tryd.ntmps40
  go_upto_region 2 with fail
  have B3 := Below.one (hB (.cells #[.slice ta ths.length tc, .slice fa funcs.length fc] 25) (.cells #[.string nm, .slice pa params.length pc, .int .i64 regs, .int .i64 words, .slice (some ⟨bc, oc, none⟩) code.length cc] 37)) (.cells #[.int .i64 op, .int .i64 xa, .int .i64 xb, .int .i64 xc, .int .i64 xn] 57)
  have hX := heap_alloc_new ((w.alloc (.cells #[.slice ta ths.length tc, .slice fa funcs.length fc] 25)).alloc (.cells #[.string nm, .slice pa params.length pc, .int .i64 regs, .int .i64 words, .slice (some ⟨bc, oc, none⟩) code.length cc] 37)) (.cells #[.int .i64 op, .int .i64 xa, .int .i64 xb, .int .i64 xc, .int .i64 xn] 57)
  rw [World.size_alloc, World.size_alloc] at hX
  have hF := heap_alloc_new (w.alloc (.cells #[.slice ta ths.length tc, .slice fa funcs.length fc] 25)) (.cells #[.string nm, .slice pa params.length pc, .int .i64 regs, .int .i64 words, .slice (some ⟨bc, oc, none⟩) code.length cc] 37)
  rw [World.size_alloc] at hF
  replace hF := ((Below.one (Below.refl _ _) (.cells #[.int .i64 op, .int .i64 xa, .int .i64 xb, .int .i64 xc, .int .i64 xn] 57)).block _ (Array.getElem?_eq_some_iff.1 hF).1).trans hF
  have hMb := heap_alloc_new w (.cells #[.slice ta ths.length tc, .slice fa funcs.length fc] 25)
  replace hMb := ((Below.one (Below.one (Below.refl _ _) (.cells #[.string nm, .slice pa params.length pc, .int .i64 regs, .int .i64 words, .slice (some ⟨bc, oc, none⟩) code.length cc] 37)) (.cells #[.int .i64 op, .int .i64 xa, .int .i64 xb, .int .i64 xc, .int .i64 xn] 57)).block _ (Array.getElem?_eq_some_iff.1 hMb).1).trans hMb
  have HMB := Hid.mk' hMb
  have HMG := Hid.mk' hmg
  have HGW := Hid.mk' hr.lt
  have HRW := Hid.mk' (hr.stay B3)
  have HB3 := Hid.mk' B3
  have x0 := cell_of_obj hX (j := 0) (v := .int .i64 op) rfl
  have x1 := cell_of_obj hX (j := 1) (v := .int .i64 xa) rfl
  have x2 := cell_of_obj hX (j := 2) (v := .int .i64 xb) rfl
  have x3 := cell_of_obj hX (j := 3) (v := .int .i64 xc) rfl
  have x4 := cell_of_obj hX (j := 4) (v := .int .i64 xn) rfl
  have f3 := cell_of_obj hF (j := 3) (v := .int .i64 words) rfl
  have HXX := Hid.mk' hX
  clear k0 k1 k2 k3 k4 hB B3 hX hF hMb
  generalize ((w.alloc (.cells #[.slice ta ths.length tc, .slice fa funcs.length fc] 25)).alloc (.cells #[.string nm, .slice pa params.length pc, .int .i64 regs, .int .i64 words, .slice (some ⟨bc, oc, none⟩) code.length cc] 37)).alloc (.cells #[.int .i64 op, .int .i64 xa, .int .i64 xb, .int .i64 xc, .int .i64 xn] 57) = W at *
  have HOK := Hid.mk' hok
  have HM := Hid.mk' hm
  clear hok hm hf hmg hcg hr hxo hx hfl hxe hal hbl hcl
  by_cases h1 : op = 6 ∨ op = 7
  · have hR : (divB l ⟨op, xa, xb, xc, xn⟩, divL l ⟨op, xa, xb, xc, xn⟩) = R2 := by
      rw [← HR2.out]; unfold psZ; simp only; rw [if_neg (by omega), if_pos h1]
    have HC := Hid.mk' (HDV.out W HRW.out)
    have HRR := Hid.mk' hR
    clear HBR HDV HAC HKE HWR hR HOK HM
    rcases h1 with rfl | rfl
    all_goals go_wp2_with (go_at_call 66; refine HC.out.mono ?_; rintro e w6 ⟨rfl, hh⟩)
    all_goals exact bodyPost_ret (v := .bool (divB l _)) (by simp [results, Tryd.results40, go_sem, *]) rfl (RgP.fit ⟨rfl, hh⟩ HB3.out HRR.out)
  by_cases h2 : op = 11 ∨ op = 12
  · have hR : (accB l ⟨op, xa, xb, xc, xn⟩ words, accL l ⟨op, xa, xb, xc, xn⟩ words) = R2 := by
      rw [← HR2.out]; unfold psZ; simp only; rw [if_neg (by omega), if_neg h1, if_pos h2]
    have HC := Hid.mk' (HAC.out W HRW.out)
    have HRR := Hid.mk' hR
    clear HBR HDV HAC HKE HWR hR HOK HM h1
    rcases h2 with rfl | rfl
    all_goals go_wp2_with (go_at_call 67; refine HC.out.mono ?_; rintro e w6 ⟨rfl, hh⟩)
    all_goals exact bodyPost_ret (v := .bool (accB l _ words)) (by simp [results, Tryd.results40, go_sem, *]) rfl (RgP.fit ⟨rfl, hh⟩ HB3.out HRR.out)
  by_cases h3 : op = 13
  · have hR : (meetB (gS l xa.toNat) (0, xn - 1), l.set xa.toNat (meetS (gS l xa.toNat) (0, xn - 1))) = R2 := by
      rw [← HR2.out]; unfold psZ; simp only; rw [if_neg (by omega), if_neg h1, if_neg h2, if_pos h3]
    have HC := Hid.mk' (HKE.out (0, xn - 1) W HRW.out)
    have HRR := Hid.mk' hR
    have hc := hchk h3
    have w1 : IntKind.i64.wrap (xn - 1) = xn - 1 := by rw [IntKind.wrap_i64]; omega
    have w2 : wrap64 (xn - 1) = xn - 1 := by unfold wrap64; omega
    clear HBR HDV HAC HKE HWR hR HOK HM h1 h2 hchk hc
    subst h3
    go_wp2_with (go_at_call 68; refine HC.out.mono ?_; rintro e w6 ⟨rfl, hh⟩)
    exact bodyPost_ret (v := .bool (meetB (gS l xa.toNat) (0, xn - 1))) (by simp [results, Tryd.results40, go_sem, *]) rfl (RgP.fit ⟨rfl, hh⟩ HB3.out HRR.out)
  by_cases h4 : op = 15 ∨ op = 16 ∨ op = 17
  · have wf : wrap64 ((fr : Int) + 1) = (fr : Int) + 1 := by unfold wrap64; omega
    have wg : IntKind.i64.wrap ((fr : Int) + 1) = (fr : Int) + 1 := by rw [IntKind.wrap_i64]; omega
    by_cases he : xn = (fr : Int) + 1
    · have hR : (true, l) = R2 := by rw [← HR2.out]; unfold psZ; simp only; rw [if_pos h4, if_pos he]
      have HF : Hid (RgP w g R2.2 R2.1 (.returned (.bool true)) W) := RgP.fit ⟨rfl, HRW.out, OnlyB.refl _ _⟩ HB3.out hR
      have qe : (xn == (fr : Int) + 1) = true := by simp [he]
      clear HBR HDV HAC HKE HWR hR HOK HM h1 h2 h3 he
      rcases h4 with rfl | rfl | rfl
      all_goals go_wp2_with fail
      all_goals exact bodyPost_ret (v := .bool true) (by simp [results, Tryd.results40, go_sem, *]) rfl HF.out
    · have hq : (xn == (gt : Int)) = decide (xn = (gt : Int)) := by by_cases h : xn = (gt : Int) <;> simp [h]
      have hR : (brB l ⟨op, xa, xb, xc, xn⟩ (xn == (gt : Int)), brL l ⟨op, xa, xb, xc, xn⟩ (xn == (gt : Int))) = R2 := by rw [hq, ← HR2.out]; unfold psZ; simp only; rw [if_pos h4, if_neg he]
      have HC := Hid.mk' (HBR.out (xn == (gt : Int)) W HRW.out)
      have HRR := Hid.mk' hR
      have qe : (xn == (fr : Int) + 1) = false := beq_no he
      clear HBR HDV HAC HKE HWR hR HOK HM h1 h2 h3 he hq
      rcases h4 with rfl | rfl | rfl
      all_goals go_wp2_with (go_at_call 65; refine HC.out.mono ?_; rintro e w6 ⟨rfl, hh⟩)
      all_goals exact bodyPost_ret (v := .bool (brB l _ (xn == (gt : Int)))) (by simp [results, Tryd.results40, go_sem, *]) rfl (RgP.fit ⟨rfl, hh⟩ HB3.out HRR.out)
  by_cases h5 : op = 19
  · obtain ⟨hn0, hn1, hn2⟩ := HOK.out.call h5
    simp only at hn0 hn1 hn2
    obtain ⟨n, rfl⟩ := Int.eq_ofNat_of_zero_le hn0
    have hnl : n < funcs.length := by omega
    have hh : funcs[n]? = some funcs[n] := List.getElem?_eq_getElem hnl
    have hm2 := HM.out.2.2.2 funcs[n] (List.getElem_mem hnl)
    have hm3 := HM.out.stay HB3.out
    have hm4 := hm3.2.2.2 funcs[n] (List.getElem_mem hnl)
    obtain ⟨bf, of, efa, d0, d1, d2, d3, d4⟩ := fns_at hm3.2.2.1 hnl
    simp only at efa d1
    have hpar : parN ⟨ta, tc, ths, fa, fc, funcs⟩ (n : Int) = funcs[n].params.length := by unfold parN; simp only [Int.toNat_natCast]; rw [hh]
    rw [hpar] at hn2
    have hpl := hm4.2.2.2.1.1
    have hoa := HOK.out.a
    have hob := HOK.out.b
    simp only at hoa hob
    have hbb : xb.toNat + funcs[n].params.length ≤ l.length := by
      unfold wrap64 at hn2
      omega
    have hR : (callB l ⟨19, xa, xb, xc, (n : Int)⟩ funcs[n].params, callL l ⟨19, xa, xb, xc, (n : Int)⟩ funcs[n].params) = R2 := by
      rw [← HR2.out, h5]; unfold psZ; simp only [Int.toNat_natCast]; rw [if_neg (by omega), if_neg (by omega), if_neg (by omega), if_neg (by omega), if_pos trivial, hh]
    have HCD : Hid (Calls Tryd.prog 69 #[.slice (some ⟨g, 0, none⟩) l.length c, .agg #[.int .i64 19, .int .i64 xa, .int .i64 xb, .int .i64 xc, .int .i64 (n : Int)], .slice funcs[n].pa funcs[n].params.length funcs[n].pc] W.drew (RgP W.drew g (callL l ⟨19, xa, xb, xc, (n : Int)⟩ funcs[n].params) (callB l ⟨19, xa, xb, xc, (n : Int)⟩ funcs[n].params))) := call_any l g c ⟨19, xa, xb, xc, (n : Int)⟩ funcs[n].pa funcs[n].params funcs[n].pc hl64 hoa.1 (by simp only; omega) hob.1 hbb W.drew HRW.out ⟨hm4.2.2.2.1.stay (Below.drew (Below.refl _ _)), hpg funcs[n] (List.getElem_mem hnl)⟩
    have HFC : Hid (∀ w6, OnlyB g W w6 → w6.cell? ⟨bf, of + n * 5 + 1, none⟩ = some (.slice funcs[n].pa funcs[n].params.length funcs[n].pc)) := fun w6 ho6 => by
      have hb6 := ho6.2.2.2.2 bf (S8.lt_of_cell d1) (HMG.out _ efa)
      have h1 := d1
      unfold World.cell? at h1 ⊢
      simp only at h1 ⊢
      rw [hb6]
      exact h1
    have HRR := Hid.mk' hR
    have hni : (n : Int) < (funcs.length : Int) := by omega
    have ne1 : g ≠ w.heap.size := by have := HGW.out; omega
    have m1 := cell_of_obj HMB.out (j := 1) (v := .slice fa funcs.length fc) rfl
    rw [efa] at m1
    have HEF := Hid.mk' efa
    have HX2 := Hid.mk' HXX.out
    clear HBR HDV HAC HKE HWR hR HOK h1 h2 h3 h4 hchk hh hm2 hm3 hm4 hpar hn2 hpl hoa hob hbb d0 d2 d3 d4 hn0 hn1 f3 hl efa
    subst h5
    go_upto_region 16 with fail
    go_cut [10] from 11 to 75 (fun t10 wx => t10 = .bool R2.1 ∧ RgB wx g R2.2 ∧ OnlyB g w wx)
    case first =>
      have HBL : Hid (bf < W.heap.size) := S8.lt_of_cell d1
      go_region_held3 (fun w' => w'.cell? ⟨w.heap.size + 1 + 1, 0, none⟩ = some (.int .i64 19) ∧ w'.cell? ⟨w.heap.size + 1 + 1, 1, none⟩ = some (.int .i64 xa) ∧ w'.cell? ⟨w.heap.size + 1 + 1, 2, none⟩ = some (.int .i64 xb) ∧ w'.cell? ⟨w.heap.size + 1 + 1, 3, none⟩ = some (.int .i64 xc) ∧ w'.cell? ⟨w.heap.size + 1 + 1, 4, none⟩ = some (.int .i64 (n : Int)) ∧ w'.cell? ⟨w.heap.size, 1, none⟩ = some (.slice (some ⟨bf, of, none⟩) funcs.length fc) ∧ w'.cell? ⟨bf, of + n * 5 + 1, none⟩ = some (.slice funcs[n].pa funcs[n].params.length funcs[n].pc)) (go_keep) ((go_at_call 69; refine (HCD.out).mono ?_; rintro e w6 ⟨rfl, hr6, ho6⟩; have X6 := ho6.blk HX2.out (by have := HGW.out; omega); have M6 := ho6.blk HMB.out (fun e => ne1 e.symm); have e0 := cell_of_obj X6 (j := 0) (v := .int .i64 19) rfl; have e1 := cell_of_obj X6 (j := 1) (v := .int .i64 xa) rfl; have e2 := cell_of_obj X6 (j := 2) (v := .int .i64 xb) rfl; have e3 := cell_of_obj X6 (j := 3) (v := .int .i64 xc) rfl; have e4 := cell_of_obj X6 (j := 4) (v := .int .i64 (n : Int)) rfl; have e5 := cell_of_obj M6 (j := 1) (v := .slice fa funcs.length fc) rfl; rw [HEF.out] at e5; have e6 : w6.cell? ⟨bf, of + n * 5 + 1, none⟩ = some (.slice funcs[n].pa funcs[n].params.length funcs[n].pc) := HFC.out w6 ho6))
      go_wp2_with fail
      go_meet
      case rel => exact ⟨by rw [← HRR.out], by rw [← HRR.out]; exact hr6, (OnlyB.of_below HB3.out).trans (ho6)⟩
    case rest =>
      obtain ⟨rfl, h1, h2⟩ := hcut
      have HF : Hid (RgP w g R2.2 R2.1 (.returned (.bool R2.1)) wc) := ⟨rfl, h1, h2⟩
      clear h1 h2
      go_wp2_with fail
      exact bodyPost_ret (v := .bool R2.1) (by simp [results, Tryd.results40, go_sem, *]) rfl HF.out
  · have hR : (true, wrtL l ⟨op, xa, xb, xc, xn⟩) = R2 := by
      rw [← HR2.out]; unfold psZ; simp only; rw [if_neg h4, if_neg h1, if_neg h2, if_neg h3, if_neg h5]
    have HC := Hid.mk' (HWR.out W HRW.out)
    have HRR := Hid.mk' hR
    have q6 : (op == 6) = false := beq_no fun e => h1 (.inl e)
    have q7 : (op == 7) = false := beq_no fun e => h1 (.inr e)
    have q11 : (op == 11) = false := beq_no fun e => h2 (.inl e)
    have q12 : (op == 12) = false := beq_no fun e => h2 (.inr e)
    have q13 : (op == 13) = false := beq_no h3
    have q15 : (op == 15) = false := beq_no fun e => h4 (.inl e)
    have q16 : (op == 16) = false := beq_no fun e => h4 (.inr (.inl e))
    have q17 : (op == 17) = false := beq_no fun e => h4 (.inr (.inr e))
    have q19 : (op == 19) = false := beq_no h5
    clear HBR HDV HAC HKE HWR hR HOK HM h1 h2 h3 h4 h5
    go_wp2_with (go_at_call 70; refine HC.out.mono ?_; rintro e w6 ⟨⟨v, rfl⟩, hh1, hh2⟩)
    exact bodyPost_ret (v := .bool true) (by simp [results, Tryd.results40, go_sem, *]) rfl (RgP.fit ⟨rfl, hh1, hh2⟩ HB3.out HRR.out)
end Go.Proofs.YtfmkjdfidenfkaaDoor
