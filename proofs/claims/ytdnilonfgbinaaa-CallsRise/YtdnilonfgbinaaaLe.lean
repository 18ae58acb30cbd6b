/- CallsRise: the search from the fault's call on. -/
import Derived.Test.YtdnilonfgbinaaaLd
namespace Go.Proofs.Ytdnilonfgbinaaa
open Go.RowKit Go.Sort

noncomputable def riseW : Code := rzR (rzR (rzR (rzR (rzR riseF))))
set_option maxRecDepth 100000 in
set_option maxHeartbeats 8000000 in
theorem rise_walk (w : World) (m : Mo) (HOF : Hid (∀ (x : Nat) w', Below w.heap.size w w' → Calls Try.prog 7 #[m.val, .int .i64 (x : Int)] w' (OfP m (x : Int) w'))) (f i kk G4 : Nat) (hn : m.funcs.length ≤ 32) (hkl : kk < m.funcs.length) (HBK : Hid (Bk m f kk)) (W4 : World)
    (HFF : Hid (∀ W, Below W4.heap.size W4 W → W.heap[G4]? = some (ftB 75 f i) ∧ W.heap[w.heap.size]? = some (moB m) ∧ Below w.heap.size w W)) (ka : Option Addr) (kc : Nat) (W5 : World) (HM0 : Hid (LvM W4 (List.replicate m.funcs.length false) [kk] (.slice ka 1 kc) W5))
    (K : Act → World → Prop) (u0 u2 u3 u5 u8 u9 u10 u11 u12 u13 u14 u15 u16 u17 u18 u19 u20 u21 u22 u23 u24 u25 u26 u27 u28 u29 u30 u31 u32 u33 u34 u35 u36 u37 u38 u39 u40 u41 u42 u43 u44 u45 u46 u47 u48 u49 u50 u51 u52 u53 u54 u55 u56 u57 u58 u59 u60 u61 u62 u63 u64 u65 u66 u67 u68 u69 u70 u71 u72 u73 u74 u75 u76 u77 u78 u79 u80 u81 u82 u83 u84 u85 u86 u87 u88 u89 u90 u91 u92 u93 u94 u95 u96 u97 u98 u99 u100 u101 u102 u103 u104 u105 u106 u107 u108 u109 u110 u111 u112 u113 u114 u115 u116 u117 u118 u119 u120 u121 u122 u123 u124 u125 u126 u127 u128 u129 u130 u131 u132 u133 u134 u135 u136 u137 u138 u139 u140 u141 u142 u143 u144 u145 u146 u147 u148 u149 u150 u151 u152 u153 u154 u155 u156 u157 u158 u159 u160 u161 u162 u163 u164 u165 u166 u167 u168 u169 u170 u171 u172 u173 u174 u175 u176 u177 u178 u179 u180 u181 u182 u183 u184 u185 u186 u187 u188 u189 u190 u191 u192 u193 u194 u195 u196 u197 u198 u199 u200 u201 u202 u203 u204 u205 u206 u207 u208 u209 u210 u211 u212 u213 u214 u215 u216 u217 u218 u219 u220 u221 u222 u223 u224 u225 : Value) :
    riseW.wp Try.prog (Exit.then K (bodyPost Try.prog Try.f5 fun e w' => e = .returned (.bool true) ∧ Below w.heap.size w w')) { tmps := #[u0, .pointer (some ⟨w.heap.size, 0, none⟩), u2, u3, .pointer (some ⟨G4, 0, none⟩), u5, .slice (some ⟨W4.heap.size, 0, none⟩) m.funcs.length m.funcs.length, .slice ka 1 kc, u8, u9, u10, u11, u12, u13, u14, u15, u16, u17, u18, u19, u20, u21, u22, u23, u24, u25, u26, u27, u28, u29, u30, u31, u32, u33, u34, u35, u36, u37, u38, u39, u40, u41, u42, u43, u44, u45, u46, u47, u48, u49, u50, u51, u52, u53, u54, u55, u56, u57, u58, u59, u60, u61, u62, u63, u64, u65, u66, u67, u68, u69, u70, u71, u72, u73, u74, u75, u76, u77, u78, u79, u80, u81, u82, u83, u84, u85, u86, u87, u88, u89, u90, u91, u92, u93, u94, u95, u96, u97, u98, u99, u100, u101, u102, u103, u104, u105, u106, u107, u108, u109, u110, u111, u112, u113, u114, u115, u116, u117, u118, u119, u120, u121, u122, u123, u124, u125, u126, u127, u128, u129, u130, u131, u132, u133, u134, u135, u136, u137, u138, u139, u140, u141, u142, u143, u144, u145, u146, u147, u148, u149, u150, u151, u152, u153, u154, u155, u156, u157, u158, u159, u160, u161, u162, u163, u164, u165, u166, u167, u168, u169, u170, u171, u172, u173, u174, u175, u176, u177, u178, u179, u180, u181, u182, u183, u184, u185, u186, u187, u188, u189, u190, u191, u192, u193, u194, u195, u196, u197, u198, u199, u200, u201, u202, u203, u204, u205, u206, u207, u208, u209, u210, u211, u212, u213, u214, u215, u216, u217, u218, u219, u220, u221, u222, u223, u224, u225], defers := [] } W5 := by
  have HV0 := Hid.mk' (Rv.start (t := f) hkl)
  generalize hq : (bodyPost Try.prog Try.f5 fun e w' => e = .returned (.bool true) ∧ Below w.heap.size w w') = Q
  simp only [riseW, riseF, Try.f5, Option.getD_some, rzR, rzL, rzC]
  subst hq
  obtain ⟨mta, mtc, mths, mfa, mfc, mfs⟩ := m
  simp only [moB, ftB, Mo.val] at *
  have hu : undef = Value.tuple #[] := rfl
  go_wp2_with fail
  have hsq : mfs.length * mfs.length ≤ 32 * 32 := Nat.mul_le_mul hn hn
  go_loopw [7, 8] (fun t7 t8 wr => ∃ (rs : List Bool) (td : List Nat) (v : Value) (j : Nat), t7 = v ∧ t8 = .int .i64 (j : Int) ∧ j ≤ td.length ∧ Rv ⟨mta, mtc, mths, mfa, mfc, mfs⟩ kk f rs td j ∧ LvM W4 rs td v wr) (fun _ t8 _ => 1 + mfs.length * mfs.length - (intOf t8).toNat)
  case atStart => exact ⟨_, [kk], _, 0, rfl, rfl, Nat.zero_le _, HV0.out, HM0.out⟩
  case round =>
    obtain ⟨rs, td, v, j, rfl, rfl, hj, hlv, hlm⟩ := hrel
    have HLV := Hid.mk' hlv
    have HLM := Hid.mk' hlm
    obtain ⟨av, cv, rfl⟩ := gown_form hlm.q
    have htl : td.length ≤ 1 + mfs.length * mfs.length := Nat.le_trans (Nat.le_add_right _ _) hlv.ln
    have hrl := hlv.len
    simp only at hrl
    clear hlv hlm HM0 HV0
    by_cases hjt : j < td.length
    rotate_left
    · exact (HLV.out.never (by omega) HBK.out).elim
    obtain ⟨u, hu⟩ : ∃ u, td[j]? = some u := ⟨_, List.getElem?_eq_getElem hjt⟩
    obtain ⟨gt, rfl, e0, k1, k2⟩ := on_at HLM.out.q hu
    clear k1 k2
    have hjti : (j : Int) < (td.length : Int) := by omega
    have hun := HLV.out.tq u (List.mem_of_getElem? hu)
    simp only at hun
    have HU := Hid.mk' hu
    have huni : (u : Int) < (mfs.length : Int) := by omega
    obtain ⟨hff, hxx, hbw⟩ := HFF.out _ HLM.out.b
    have HBW := Hid.mk' hbw
    have y1 := cell_of_obj hff (j := 1) (v := .int .i64 (f : Int)) rfl
    have m0 := cell_of_obj hxx (j := 0) (v := .slice mta mths.length mtc) rfl
    have m1 := cell_of_obj hxx (j := 1) (v := .slice mfa mfs.length mfc) rfl
    clear hu hff hxx hbw
    go_upto_region 17 with fail
    have y1a : wr.drew.cell? _ = some _ := y1
    have e0a : wr.drew.cell? _ = some _ := e0
    by_cases huf : u = f
    · have hq : ((u : Int) == (f : Int)) = true := by rw [huf]; simp
      clear huf
      go_region
      go_wp2_with fail
      go_ret
      exact ⟨rfl, Below.drew HBW.out⟩
    have hq : ((u : Int) == (f : Int)) = false := beq_no (by omega)
    have HUF := Hid.mk' huf
    clear huf
    go_region
    have HLD : Hid (LvM W4 rs td (.slice (some ⟨gt, 0, none⟩) td.length cv) wr.drew) := ⟨HLM.out.r, HLM.out.q, Below.drew HLM.out.b⟩
    clear y1 e0 y1a e0a m0 m1 HBW HLM hq
    generalize wr.drew = Wd at *
    obtain ⟨gt2, e2, e0, k1, k2⟩ := on_at HLD.out.q HU.out
    cases e2
    clear k1 k2
    obtain ⟨bu, hbu⟩ : ∃ b, rs[u]? = some b := ⟨_, List.getElem?_eq_getElem (by omega)⟩
    obtain ⟨g', e', d0, k1, k2⟩ := ob_at HLD.out.r hbu
    cases e'
    clear k1 k2
    have f0 := World.ownsRow.frozenAt HLD.out.r u
    have HBU := Hid.mk' hbu
    have HRL := Hid.mk' hrl
    have hrli : (rs.length : Int) = (mfs.length : Int) := by omega
    have HRI := Hid.mk' hrli
    clear hbu hrl hrli
    cases bu
    rotate_left
    · have HLV3 := Hid.mk' (HLV.out.pass HU.out HBU.out HUF.out)
      go_wp2_with fail
      go_roundw
      case rel => exact ⟨_, _, _, j + 1, rfl, by go_num, by omega, HLV3.out, HLD.out⟩
      case measure => simp [intOf]; omega
    have HLM1 := Hid.mk' (HLD.out.put u)
    go_upto_region 21 with fail
    generalize Wd.setCell ⟨W4.heap.size, u, none⟩ (.bool true) = W1 at *
    clear e0 d0 f0
    obtain ⟨gt3, e3, e0, k1, k2⟩ := on_at HLM1.out.q HU.out
    cases e3
    clear k1 k2
    obtain ⟨hff, hxx, hbw⟩ := HFF.out _ HLM1.out.b
    have HBW := Hid.mk' hbw
    have z0 := cell_of_obj hxx (j := 0) (v := .slice mta mths.length mtc) rfl
    have z1 := cell_of_obj hxx (j := 1) (v := .slice mfa mfs.length mfc) rfl
    have p0 : ∀ w', Below W1.heap.size W1 w' → w'.cell? _ = some _ := fun w' h => cell_kept_below z0 h
    have p1 : ∀ w', Below W1.heap.size W1 w' → w'.cell? _ = some _ := fun w' h => cell_kept_below z1 h
    have pd : ∀ w', Below W1.heap.size W1 w' → w'.cell? _ = some _ := fun w' h => cell_kept_below e0 h
    clear hff hxx hbw z0 z1 e0
    go_region_held3 (fun w' => Below W1.heap.size W1 w') (first | exact Below.drew (Below.refl _ _) | exact Below.on (by assumption) (by assumption) | exact Below.one (by assumption) _)
      (first
        | (go_at_call 7; refine (HOF.out u _ (HBW.out.trans (Below.mono (by assumption) HBW.out.size))).mono ?_; rintro e w' ⟨v2, ks, rfl, hof, on2, hb⟩))
    have hB : Below W1.heap.size W1 w' := by assumption
    have HKS := Hid.mk' hof
    have HLM2 : Hid (LvM W4 (rs.set u true) td (.slice (some ⟨gt, 0, none⟩) td.length cv) w') := ⟨own_stay HLM1.out.r hB, own_stay HLM1.out.q hB, Below.on HLM1.out.b hB⟩
    obtain ⟨a2, c2, rfl⟩ := gown_form on2
    have HLK := Hid.mk' (own_lst on2)
    have HSO := Hid.mk' (on_some on2)
    have hkl2 : ks.length ≤ mfs.length := hof.len
    have HKN : Hid (∀ y ∈ ks, y < mfs.length) := fun y hy => ((hof.2 y).1 hy).lt
    clear p0 p1 pd hof on2 hb hB HLM1
    obtain ⟨Wo, hWo⟩ : ∃ Wo, Wo = w' := ⟨_, rfl⟩
    subst hWo
    go_wp2_with fail
    go_loopw [10] (fun t10 wl => ∃ k : Nat, t10 = .int .i64 (k : Int) ∧ k ≤ ks.length ∧ Below Wo.heap.size Wo wl) (fun t10 _ => ks.length - (intOf t10).toNat)
    case atStart => exact ⟨0, rfl, Nat.zero_le _, Below.refl _ _⟩
    case round =>
      obtain ⟨k, rfl, hk, hbl⟩ := hrel
      have HBL := Hid.mk' hbl
      have HLM3 : Hid (LvM W4 (rs.set u true) td (.slice (some ⟨gt, 0, none⟩) td.length cv) wr) := ⟨own_stay HLM2.out.r hbl, own_stay HLM2.out.q hbl, Below.on HLM2.out.b hbl⟩
      clear hbl
      by_cases hkk : k < ks.length
      · obtain ⟨y, hy⟩ : ∃ y, ks[k]? = some y := ⟨_, List.getElem?_eq_getElem hkk⟩
        have hkki : (k : Int) < (ks.length : Int) := by omega
        obtain ⟨bk, ok, rfl, f0⟩ := (HLK.out.stay HBL.out) k (nV y) (by rw [List.getElem?_map, hy]; rfl)
        unfold nV at f0
        have hyn := HKN.out y (List.mem_of_getElem? hy)
        have q2 : decide ((y : Int) < 0) = false := decide_eq_false (by omega)
        have q3 : decide ((mfs.length : Int) ≤ (y : Int)) = false := decide_eq_false (by omega)
        have q4 : decide (mfs.length ≤ y) = false := decide_eq_false (by omega)
        obtain ⟨hff, hxx, hbw⟩ := HFF.out _ HLM3.out.b
        have z1 := cell_of_obj hxx (j := 1) (v := .slice mfa mfs.length mfc) rfl
        have f0' := cell_regrown f0
        have z1' := cell_regrown z1
        clear hy hff hxx hbw
        go_upto_region 25 with fail
        refine wp_region_quiet_below (by kernel_rfl) (by kernel_rfl) ?_
        repeat (go_big_quiet_step (fail))
        refine wpQuiet_nil ?_
        intro _ hw'
        obtain ⟨⟨dq, osq⟩, hw''⟩ := hw'
        subst hw''
        have HB3 : Hid (Below wr.heap.size wr (grow (redrawn wr dq) osq)) := below_regrown wr dq osq
        clear f0 z1 f0' z1'
        generalize grow (redrawn wr dq) osq = W3 at *
        go_wp2_with fail
        go_roundw
        case rel => exact ⟨k + 1, by go_num, by omega, Below.on HBL.out HB3.out⟩
        case measure => simp [intOf]; omega
      · have HAP := Hid.mk' (on_cat HLM3.out.q (HLK.out.stay HBL.out) HSO.out HLM3.out.b.size (by omega) 27 (c := c2))
        go_upto_region 27 with fail
        go_wp2_with (at_builtin; refine wpl_app rfl _ _ 27 27 _ _ rfl rfl rfl HAP.out ?_; rintro v6 W6 ⟨on6, gr6⟩)
        have HLM6 : Hid (LvM W4 (rs.set u true) (td ++ ks) v6 W6) := ⟨HLM3.out.r.kept gr6 (own_ne HLM3.out.r HLM3.out.q (by decide)), on6, HLM3.out.b.grown gr6 HLM3.out.b.size (fun k e => own_base HLM3.out.q k e)⟩
        have HLV6 := Hid.mk' (HLV.out.add HU.out HBU.out HUF.out HKS.out)
        obtain ⟨a6, c6, rfl⟩ := gown_form on6
        clear on6 gr6
        go_roundw
        case rel => exact ⟨_, _, _, j + 1, rfl, by go_num, by rw [List.length_append]; omega, HLV6.out, HLM6.out⟩
        case measure => simp [intOf]; omega
end Go.Proofs.Ytdnilonfgbinaaa
