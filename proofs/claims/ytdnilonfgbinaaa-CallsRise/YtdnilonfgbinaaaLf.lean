/- CallsRise: a fault's call. -/
import Derived.Test.YtdnilonfgbinaaaLe
namespace Go.Proofs.Ytdnilonfgbinaaa
open Go.RowKit Go.Sort

set_option maxRecDepth 100000 in
set_option maxHeartbeats 8000000 in
theorem rise_fault (w : World) (m : Mo) (hm : m.In w) (f i : Nat) (hc : CycAt m f i) (hn : m.funcs.length ≤ 32) (la : Option Addr) (lc G4 : Nat) (W2 : World) (hx2 : W2.heap[w.heap.size]? = some (moB m)) (hb2 : Below w.heap.size w W2) (hf2 : W2.heap[G4]? = some (ftB 75 f i))
    (K : Act → World → Prop) (u0 u2 u5 u6 u7 u8 u9 u10 u11 u12 u13 u14 u15 u16 u17 u18 u19 u20 u21 u22 u23 u24 u25 u26 u27 u28 u29 u30 u31 u32 u33 u34 u35 u36 u37 u38 u39 u40 u41 u42 u43 u44 u45 u46 u47 u48 u49 u50 u51 u52 u53 u54 u55 u56 u57 u58 u59 u60 u61 u62 u63 u64 u65 u66 u67 u68 u69 u70 u71 u72 u73 u74 u75 u76 u77 u78 u79 u80 u81 u82 u83 u84 u85 u86 u87 u88 u89 u90 u91 u92 u93 u94 u95 u96 u97 u98 u99 u100 u101 u102 u103 u104 u105 u106 u107 u108 u109 u110 u111 u112 u113 u114 u115 u116 u117 u118 u119 u120 u121 u122 u123 u124 u125 u126 u127 u128 u129 u130 u131 u132 u133 u134 u135 u136 u137 u138 u139 u140 u141 u142 u143 u144 u145 u146 u147 u148 u149 u150 u151 u152 u153 u154 u155 u156 u157 u158 u159 u160 u161 u162 u163 u164 u165 u166 u167 u168 u169 u170 u171 u172 u173 u174 u175 u176 u177 u178 u179 u180 u181 u182 u183 u184 u185 u186 u187 u188 u189 u190 u191 u192 u193 u194 u195 u196 u197 u198 u199 u200 u201 u202 u203 u204 u205 u206 u207 u208 u209 u210 u211 u212 u213 u214 u215 u216 u217 u218 u219 u220 u221 u222 u223 u224 u225 : Value) :
    riseF.wp Try.prog (Exit.then K (bodyPost Try.prog Try.f5 fun e w' => e = .returned (.bool true) ∧ Below w.heap.size w w')) { tmps := #[u0, .pointer (some ⟨w.heap.size, 0, none⟩), u2, .slice la 0 lc, .pointer (some ⟨G4, 0, none⟩), u5, u6, u7, u8, u9, u10, u11, u12, u13, u14, u15, u16, u17, u18, u19, u20, u21, u22, u23, u24, u25, u26, u27, u28, u29, u30, u31, u32, u33, u34, u35, u36, u37, u38, u39, u40, u41, u42, u43, u44, u45, u46, u47, u48, u49, u50, u51, u52, u53, u54, u55, u56, u57, u58, u59, u60, u61, u62, u63, u64, u65, u66, u67, u68, u69, u70, u71, u72, u73, u74, u75, u76, u77, u78, u79, u80, u81, u82, u83, u84, u85, u86, u87, u88, u89, u90, u91, u92, u93, u94, u95, u96, u97, u98, u99, u100, u101, u102, u103, u104, u105, u106, u107, u108, u109, u110, u111, u112, u113, u114, u115, u116, u117, u118, u119, u120, u121, u122, u123, u124, u125, u126, u127, u128, u129, u130, u131, u132, u133, u134, u135, u136, u137, u138, u139, u140, u141, u142, u143, u144, u145, u146, u147, u148, u149, u150, u151, u152, u153, u154, u155, u156, u157, u158, u159, u160, u161, u162, u163, u164, u165, u166, u167, u168, u169, u170, u171, u172, u173, u174, u175, u176, u177, u178, u179, u180, u181, u182, u183, u184, u185, u186, u187, u188, u189, u190, u191, u192, u193, u194, u195, u196, u197, u198, u199, u200, u201, u202, u203, u204, u205, u206, u207, u208, u209, u210, u211, u212, u213, u214, u215, u216, u217, u218, u219, u220, u221, u222, u223, u224, u225], defers := [] } W2 := by
  have HOF : Hid (∀ (x : Nat) w', Below w.heap.size w w' → Calls Try.prog 7 #[m.val, .int .i64 (x : Int)] w' (OfP m (x : Int) w')) := fun x w' hb => of_any w m (x : Int) w' hm ((AllIn.refl w).below hb)
  obtain ⟨F, x, kk, hF, hx, hop, hxn, hkl, hbk⟩ := cyc_is hc
  have HBK := Hid.mk' hbk
  have HX2 := Hid.mk' hx2
  have HB2 := Hid.mk' hb2
  have HF2 := Hid.mk' hf2
  have hfl := (List.getElem?_eq_some_iff.1 hF).1
  have hFe := (List.getElem?_eq_some_iff.1 hF).2
  have hil := (List.getElem?_eq_some_iff.1 hx).1
  have hxe := (List.getElem?_eq_some_iff.1 hx).2
  have HFI : Hid (F.In w) := hm.2.2.2 F (List.mem_of_getElem? hF)
  have hcl := HFI.out.2.2.2.2.2.1.1
  obtain ⟨b, o, efa, d0, d1, d2, d3, d4⟩ := fns_at ((hm.2.2.1).stay hb2) hfl
  rw [hFe] at d0 d1 d2 d3 d4
  obtain ⟨bc, oc, eca, g0, g1, g2, g3, g4⟩ := iss_at ((HFI.out.2.2.2.2.2.1).stay hb2) hil
  rw [hxe] at g0 g1 g2 g3 g4
  rw [hop] at g0
  rw [hxn] at g4
  have hmk : ∀ W, _ := fun W => run_mkB W m.funcs.length (by omega)
  have c1 := cell_of_obj hx2 (j := 1) (v := .slice m.fa m.funcs.length m.fc) rfl
  have y0 := cell_of_obj hf2 (j := 0) (v := .int .i64 75) rfl
  have y1 := cell_of_obj hf2 (j := 1) (v := .int .i64 (f : Int)) rfl
  have y2 := cell_of_obj hf2 (j := 2) (v := .int .i64 (i : Int)) rfl
  generalize hq : (bodyPost Try.prog Try.f5 fun e w' => e = .returned (.bool true) ∧ Below w.heap.size w w') = Q
  simp only [riseF, Try.f5, Option.getD_some, rzR, rzL, rzC]
  subst hq
  have hfi : (f : Int) < (m.funcs.length : Int) := by omega
  have hii : (i : Int) < (F.code.length : Int) := by omega
  have q2 : decide ((f : Int) < 0) = false := decide_eq_false (by omega)
  have q3 : decide ((m.funcs.length : Int) ≤ (f : Int)) = false := decide_eq_false (by omega)
  have q4 : decide ((i : Int) < 0) = false := decide_eq_false (by omega)
  have q5 : decide ((F.code.length : Int) ≤ (i : Int)) = false := decide_eq_false (by omega)
  have q6 : decide (m.funcs.length ≤ f) = false := decide_eq_false (by omega)
  have q7 : decide (F.code.length ≤ i) = false := decide_eq_false (by omega)
  clear hx2 hb2 hf2 hm hc hF hx hop hxn hbk hFe hxe d0 d1 d2 d3
  have HEFA := Hid.mk' efa
  rw [efa] at c1
  rw [eca] at d4
  clear efa eca
  have c1' := cell_regrown c1
  have y0' := cell_regrown y0
  have y1' := cell_regrown y1
  have y2' := cell_regrown y2
  have d4' := cell_regrown d4
  refine wp_seq ?_
  refine wp_seq ?_
  have hu : undef = Value.tuple #[] := rfl
  refine wp_region_quiet_below (by kernel_rfl) (by kernel_rfl) ?_
  repeat (go_big_quiet_step (fail))
  refine wpQuiet_nil ?_
  intro _ hw'
  obtain ⟨⟨dq, osq⟩, hw''⟩ := hw'
  subst hw''
  have HB3 : Hid (Below W2.heap.size W2 (grow (redrawn W2 dq) osq)) := below_regrown W2 dq osq
  have G0 := cell_kept_below g0 HB3.out
  have G1 := cell_kept_below g1 HB3.out
  have G2 := cell_kept_below g2 HB3.out
  have G3 := cell_kept_below g3 HB3.out
  have G4' := cell_kept_below g4 HB3.out
  have C1 := cell_kept_below c1 HB3.out
  have Y1 := cell_kept_below y1 HB3.out
  have Y2 := cell_kept_below y2 HB3.out
  have D4 := cell_kept_below d4 HB3.out
  clear c1 y0 y1 y2 d4 c1' y0' y1' y2' d4' g0 g1 g2 g3 g4
  generalize grow (redrawn W2 dq) osq = W3 at *
  go_upto_region 9 with fail
  have G0a : W3.drew.cell? _ = some _ := G0
  have G0b : ∀ o, (W3.drew.alloc o).cell? _ = some _ := fun o => cell_kept_below G0 (Below.one (Below.drew (Below.refl _ W3)) o)
  have G0c : ∀ o, (W3.alloc o).drew.cell? _ = some _ := fun o => cell_kept_below G0 (Below.drew (Below.one (Below.refl _ W3) o))
  have G1a : W3.drew.cell? _ = some _ := G1
  have G1b : ∀ o, (W3.drew.alloc o).cell? _ = some _ := fun o => cell_kept_below G1 (Below.one (Below.drew (Below.refl _ W3)) o)
  have G1c : ∀ o, (W3.alloc o).drew.cell? _ = some _ := fun o => cell_kept_below G1 (Below.drew (Below.one (Below.refl _ W3) o))
  have G2a : W3.drew.cell? _ = some _ := G2
  have G2b : ∀ o, (W3.drew.alloc o).cell? _ = some _ := fun o => cell_kept_below G2 (Below.one (Below.drew (Below.refl _ W3)) o)
  have G2c : ∀ o, (W3.alloc o).drew.cell? _ = some _ := fun o => cell_kept_below G2 (Below.drew (Below.one (Below.refl _ W3) o))
  have G3a : W3.drew.cell? _ = some _ := G3
  have G3b : ∀ o, (W3.drew.alloc o).cell? _ = some _ := fun o => cell_kept_below G3 (Below.one (Below.drew (Below.refl _ W3)) o)
  have G3c : ∀ o, (W3.alloc o).drew.cell? _ = some _ := fun o => cell_kept_below G3 (Below.drew (Below.one (Below.refl _ W3) o))
  have G4a : W3.drew.cell? _ = some _ := G4'
  have G4b : ∀ o, (W3.drew.alloc o).cell? _ = some _ := fun o => cell_kept_below G4' (Below.one (Below.drew (Below.refl _ W3)) o)
  have G4c : ∀ o, (W3.alloc o).drew.cell? _ = some _ := fun o => cell_kept_below G4' (Below.drew (Below.one (Below.refl _ W3) o))
  have C1a : W3.drew.cell? _ = some _ := C1
  have C1b : ∀ o, (W3.drew.alloc o).cell? _ = some _ := fun o => cell_kept_below C1 (Below.one (Below.drew (Below.refl _ W3)) o)
  have C1c : ∀ o, (W3.alloc o).drew.cell? _ = some _ := fun o => cell_kept_below C1 (Below.drew (Below.one (Below.refl _ W3) o))
  have Y1a : W3.drew.cell? _ = some _ := Y1
  have Y1b : ∀ o, (W3.drew.alloc o).cell? _ = some _ := fun o => cell_kept_below Y1 (Below.one (Below.drew (Below.refl _ W3)) o)
  have Y1c : ∀ o, (W3.alloc o).drew.cell? _ = some _ := fun o => cell_kept_below Y1 (Below.drew (Below.one (Below.refl _ W3) o))
  have Y2a : W3.drew.cell? _ = some _ := Y2
  have Y2b : ∀ o, (W3.drew.alloc o).cell? _ = some _ := fun o => cell_kept_below Y2 (Below.one (Below.drew (Below.refl _ W3)) o)
  have Y2c : ∀ o, (W3.alloc o).drew.cell? _ = some _ := fun o => cell_kept_below Y2 (Below.drew (Below.one (Below.refl _ W3) o))
  have D4a : W3.drew.cell? _ = some _ := D4
  have D4b : ∀ o, (W3.drew.alloc o).cell? _ = some _ := fun o => cell_kept_below D4 (Below.one (Below.drew (Below.refl _ W3)) o)
  have D4c : ∀ o, (W3.alloc o).drew.cell? _ = some _ := fun o => cell_kept_below D4 (Below.drew (Below.one (Below.refl _ W3) o))
  go_region
  clear G0a G0b G0c G1a G1b G1c G2a G2b G2c G3a G3b G3c G4a G4b G4c C1a C1b C1c Y1a Y1b Y1c Y2a Y2b Y2c D4a D4b D4c G0 G1 G2 G3 G4' C1 Y1 Y2 D4
  have HX5 : Hid ((W3.alloc (.cells #[.int .i64 19, .int .i64 x.a, .int .i64 x.b, .int .i64 x.c, .int .i64 (kk : Int)] 44)).drew.heap[W3.heap.size]? = some (.cells #[.int .i64 19, .int .i64 x.a, .int .i64 x.b, .int .i64 x.c, .int .i64 (kk : Int)] 44)) := heap_alloc_new W3 _
  have HB4 : Hid (Below W2.heap.size W2 (W3.alloc (.cells #[.int .i64 19, .int .i64 x.a, .int .i64 x.b, .int .i64 x.c, .int .i64 (kk : Int)] 44)).drew) := Below.drew (Below.one HB3.out _)
  generalize (W3.alloc (.cells #[.int .i64 19, .int .i64 x.a, .int .i64 x.b, .int .i64 x.c, .int .i64 (kk : Int)] 44)).drew = W4 at *
  generalize W3.heap.size = G5 at *
  have hx4 := blk_stay HX2.out HB4.out
  have c1 := cell_of_obj hx4 (j := 1) (v := .slice m.fa m.funcs.length m.fc) rfl
  have x0 := cell_of_obj HX5.out (j := 0) (v := .int .i64 19) rfl
  have x4 := cell_of_obj HX5.out (j := 4) (v := .int .i64 (kk : Int)) rfl
  have x4' := cell_kept_below x4 (Below.one (Below.refl _ W4) (.cells (mkB m.funcs.length) 4))
  have hkki : (kk : Int) < (m.funcs.length : Int) := by omega
  have HM0 : Hid (LvM W4 (List.replicate m.funcs.length false) [kk] (.slice (some ⟨W4.heap.size + 1, 0, none⟩) 1 1) ((W4.alloc (.cells (mkB m.funcs.length) 4)).alloc (.cells #[.int .i64 (kk : Int)] 3))) := by
    have b1 := Below.one (Below.refl _ W4) (.cells (mkB m.funcs.length) 4)
    have b2 := Below.one (Below.refl _ (W4.alloc (.cells (mkB m.funcs.length) 4))) (.cells #[.int .i64 (kk : Int)] 3)
    have h1 := own_mkB W4 m.funcs.length (by omega)
    have h2 := own_lit (W4.alloc (.cells (mkB m.funcs.length) 4)) kk
    rw [World.size_alloc] at h2
    exact ⟨by rw [List.length_replicate]; exact own_stay h1 b2, own_mono h2 (Nat.le_succ _), Below.on b1 b2⟩
  have HV0 := Hid.mk' (Rv.start (t := f) hkl)
  have HFF : Hid (∀ W, Below W4.heap.size W4 W → W.heap[G4]? = some (ftB 75 f i) ∧ W.heap[w.heap.size]? = some (moB m) ∧ Below w.heap.size w W) := fun W hb => ⟨blk_stay (blk_stay HF2.out HB4.out) hb, blk_stay hx4 hb, HB2.out.trans ((Below.on HB4.out hb).mono HB2.out.size)⟩
  clear hx4 HF2 HX2 HB2 HB3 HB4 HFI HX5 q2 q3 q4 q5 q6 q7 hfi hii hcl
  obtain ⟨mta, mtc, mths, mfa, mfc, mfs⟩ := m
  simp only [moB, ftB, Mo.val] at *
  go_upto_region 13 with fail
  rename_i K1 h1
  have H1 := Hid.mk' h1
  clear h1
  go_wp2_with fail
  exact H1.out _ _ (rise_walk w ⟨mta, mtc, mths, mfa, mfc, mfs⟩ HOF f i kk G4 hn hkl HBK W4 HFF _ _ _ HM0 K _ _ _ _ _ _ _ _ _ _ _ _ _ _ _ _ _ _ _ _ _ _ _ _ _ _ _ _ _ _ _ _ _ _ _ _ _ _ _ _ _ _ _ _ _ _ _ _ _ _ _ _ _ _ _ _ _ _ _ _ _ _ _ _ _ _ _ _ _ _ _ _ _ _ _ _ _ _ _ _ _ _ _ _ _ _ _ _ _ _ _ _ _ _ _ _ _ _ _ _ _ _ _ _ _ _ _ _ _ _ _ _ _ _ _ _ _ _ _ _ _ _ _ _ _ _ _ _ _ _ _ _ _ _ _ _ _ _ _ _ _ _ _ _ _ _ _ _ _ _ _ _ _ _ _ _ _ _ _ _ _ _ _ _ _ _ _ _ _ _ _ _ _ _ _ _ _ _ _ _ _ _ _ _ _ _ _ _ _ _ _ _ _ _ _ _ _ _ _ _ _ _ _ _ _ _ _ _ _ _ _ _ _ _ _ _ _ _ _ _ _ _)
end Go.Proofs.Ytdnilonfgbinaaa
