/- LoopsNest: loops against loops. -/
import Derived.Test.YtgiokognngllcaaDoorWq
import Derived.Deep.QuietTactic
import Derived.BigQuiet
namespace Go.Proofs.YtgiokognngllcaaDoor
open Go.RowKit Go.Sort

set_option maxRecDepth 100000 in
set_option maxHeartbeats 8000000 in
theorem nest_loops (w W2 : World) (fn : ByteArray) (fpa : Option Addr) (fpc : Nat) (fps : List Sp) (frg fwd : Int) (fca : Option Addr) (fcc : Nat) (fl : List Is) (la : Option Addr) (lc : Nat) (ia : Option Addr) (ic i : Nat) (H : Nat → Nat) (P : Nat → Int) (M B : Nat → List Nat) (D : Int → Nat) (Wo : World)
    (HED : Hid (∀ W, Below w.heap.size w W → Calls Tryd.prog 15 #[.agg #[.string fn, .slice fpa fps.length fpc, .int .i64 frg, .int .i64 fwd, .slice fca fl.length fcc]] W (REP fl W)))
    (HB2 : Hid (Below w.heap.size w W2)) (HX2 : Hid (W2.heap[w.heap.size]? = some (.cells #[.string fn, .slice fpa fps.length fpc, .int .i64 frg, .int .i64 fwd, .slice fca fl.length fcc] 25)))
    (HLQ : Hid (LqR W2 la i H P M B)) (HEN : Hid (∀ rs, IsR fl rs → ∀ u v, (u, v) ∈ edg fl rs → u < fl.length ∧ v < fl.length ∧ ∀ k, u ∉ M k → v ∈ M k → v = H k)) (HEL : Hid (∀ rs, IsR fl rs → (edg fl rs).length ≤ 3000)) (HN1 : Hid (fl.length ≤ 1024)) (HM1 : Hid (i ≤ 1024))
    (HBW : Hid (Below W2.heap.size W2 Wo)) (HRB : Hid (RbR Wo ia i fl.length M))
    (HDP : Hid (∀ W (z : Int), Below W2.heap.size W2 W → Calls Tryd.prog 13 #[.slice la i lc, .int .i64 z] W fun e w' => e = .returned (.int .i64 (D z : Int)) ∧ Below W.heap.size W w'))
    (HHL : Hid (∀ k, k < i → H k < fl.length))
    (HP1 : Hid (∀ a, P a = -1 → cnP (fun k => decide (k ≠ a ∧ H a ∈ M k)) i = 0))
    (HP2 : Hid (∀ a, a < i → P a ≠ -1 → ∃ p : Nat, P a = (p : Int) ∧ p < i ∧ p ≠ a ∧ H a ∈ M p ∧ 0 < cnP (fun k => decide (k ≠ a ∧ H a ∈ M k)) i ∧ D (H p : Int) = cnP (fun k => decide (k ≠ a ∧ H a ∈ M k)) i))
    (HCR : Hid (∀ a k n, a < i → k < i → k ≠ a → n ∈ M a → decide (n ∈ M k) ≠ decide (H a ∈ M k) → n ∈ M k ∧ H k ∈ M a))
    (K1 K2 : Act → World → Prop) (hK1 : ∀ a W, nestB.wp Tryd.prog (Exit.then K2 (bodyPost Tryd.prog Tryd.f5 fun e w' => e = .returned (.bool true) ∧ Below w.heap.size w w')) a W → K1 a W) (hK2 : ∀ a W, nestG.wp Tryd.prog (bodyPost Tryd.prog Tryd.f5 fun e w' => e = .returned (.bool true) ∧ Below w.heap.size w w') a W → K2 a W) (u0 u2 u4 u5 u7 u8 u9 u10 u11 u12 u13 u14 u15 u16 u17 u18 u19 u20 u21 u22 u23 u24 u25 u26 u27 u28 u29 u30 u31 u32 u33 u34 u35 u36 u37 u38 u39 u40 u41 u42 u43 u44 u45 u46 u47 u48 u49 u50 u51 u52 u53 u54 u55 u56 u57 u58 u59 u60 u61 u62 u63 u64 u65 u66 u67 u68 u69 u70 u71 u72 u73 u74 u75 u76 u77 u78 u79 u80 u81 u82 u83 u84 u85 u86 u87 u88 u89 u90 u91 u92 u93 u94 u95 u96 u97 u98 u99 u100 u101 u102 u103 u104 u105 u106 u107 u108 u109 u110 u111 u112 u113 u114 u115 u116 u117 u118 u119 u120 u121 u122 u123 u124 u125 u126 u127 u128 u129 u130 u131 u132 u133 u134 u135 u136 u137 u138 u139 u140 u141 u142 u143 u144 u145 u146 u147 u148 u149 u150 u151 u152 u153 u154 u155 u156 u157 u158 u159 u160 u161 u162 u163 u164 u165 u166 u167 u168 u169 u170 u171 u172 u173 u174 u175 u176 u177 u178 u179 u180 u181 u182 u183 u184 u185 u186 u187 u188 u189 u190 u191 u192 u193 u194 u195 u196 u197 u198 u199 u200 u201 u202 u203 u204 u205 u206 u207 u208 u209 u210 u211 u212 u213 u214 u215 u216 u217 u218 u219 u220 u221 u222 u223 u224 u225 u226 u227 u228 u229 u230 u231 u232 u233 u234 u235 u236 u237 u238 u239 u240 u241 u242 u243 u244 u245 u246 u247 u248 u249 u250 u251 u252 u253 u254 u255 u256 u257 u258 u259 u260 u261 u262 u263 u264 u265 u266 u267 u268 u269 u270 u271 u272 u273 u274 u275 u276 u277 u278 u279 u280 u281 u282 u283 u284 u285 u286 u287 u288 u289 u290 u291 u292 u293 u294 u295 u296 u297 u298 u299 u300 u301 u302 u303 u304 u305 u306 u307 u308 u309 u310 u311 u312 u313 u314 u315 u316 u317 u318 u319 u320 u321 u322 u323 u324 u325 u326 u327 u328 u329 u330 u331 u332 u333 u334 u335 u336 u337 u338 u339 u340 u341 u342 u343 u344 u345 u346 u347 u348 : Value) :
    nestA.wp Tryd.prog (Exit.then K1 (Exit.then K2 (bodyPost Tryd.prog Tryd.f5 fun e w' => e = .returned (.bool true) ∧ Below w.heap.size w w'))) { tmps := #[u0, .pointer (some ⟨w.heap.size, 0, none⟩), u2, .slice la i lc, u4, u5, .slice ia i ic, u7, u8, u9, u10, u11, u12, u13, u14, u15, u16, u17, u18, u19, u20, u21, u22, u23, u24, u25, u26, u27, u28, u29, u30, u31, u32, u33, u34, u35, u36, u37, u38, u39, u40, u41, u42, u43, u44, u45, u46, u47, u48, u49, u50, u51, u52, u53, u54, u55, u56, u57, u58, u59, u60, u61, u62, u63, u64, u65, u66, u67, u68, u69, u70, u71, u72, u73, u74, u75, u76, u77, u78, u79, u80, u81, u82, u83, u84, u85, u86, u87, u88, u89, u90, u91, u92, u93, u94, u95, u96, u97, u98, u99, u100, u101, u102, u103, u104, u105, u106, u107, u108, u109, u110, u111, u112, u113, u114, u115, u116, u117, u118, u119, u120, u121, u122, u123, u124, u125, u126, u127, u128, u129, u130, u131, u132, u133, u134, u135, u136, u137, u138, u139, u140, u141, u142, u143, u144, u145, u146, u147, u148, u149, u150, u151, u152, u153, u154, u155, u156, u157, u158, u159, u160, u161, u162, u163, u164, u165, u166, u167, u168, u169, u170, u171, u172, u173, u174, u175, u176, u177, u178, u179, u180, u181, u182, u183, u184, u185, u186, u187, u188, u189, u190, u191, u192, u193, u194, u195, u196, u197, u198, u199, u200, u201, u202, u203, u204, u205, u206, u207, u208, u209, u210, u211, u212, u213, u214, u215, u216, u217, u218, u219, u220, u221, u222, u223, u224, u225, u226, u227, u228, u229, u230, u231, u232, u233, u234, u235, u236, u237, u238, u239, u240, u241, u242, u243, u244, u245, u246, u247, u248, u249, u250, u251, u252, u253, u254, u255, u256, u257, u258, u259, u260, u261, u262, u263, u264, u265, u266, u267, u268, u269, u270, u271, u272, u273, u274, u275, u276, u277, u278, u279, u280, u281, u282, u283, u284, u285, u286, u287, u288, u289, u290, u291, u292, u293, u294, u295, u296, u297, u298, u299, u300, u301, u302, u303, u304, u305, u306, u307, u308, u309, u310, u311, u312, u313, u314, u315, u316, u317, u318, u319, u320, u321, u322, u323, u324, u325, u326, u327, u328, u329, u330, u331, u332, u333, u334, u335, u336, u337, u338, u339, u340, u341, u342, u343, u344, u345, u346, u347, u348], defers := [] } Wo := by
  generalize hq : (bodyPost Tryd.prog Tryd.f5 fun e w' => e = .returned (.bool true) ∧ Below w.heap.size w w') = Q at hK1 hK2 ⊢
  simp only [nestA, nestB, nestG, Tryd.f5, Option.getD_some, nR, nL] at hK1 hK2 ⊢
  subst hq
  have hu : undef = Value.tuple #[] := rfl
  have HBX := Hid.mk' (Below.refl Wo.heap.size Wo)
  go_wp2_with fail
  go_loopw [11] (fun t11 wl => ∃ k : Nat, t11 = .int .i64 (k : Int) ∧ k ≤ i ∧ Below Wo.heap.size Wo wl) (fun t11 _ => i - (intOf t11).toNat)
  case atStart => exact ⟨0, rfl, Nat.zero_le _, HBX.out⟩
  case round =>
    obtain ⟨a, rfl, ha, hbl⟩ := hrel
    have HBL := Hid.mk' hbl
    clear hbl
    by_cases hal : a < i
    · have hai : (a : Int) < (i : Int) := by omega
      have HAL := Hid.mk' hal
      have HC0 : Hid (cnP (fun k => decide (k ≠ a ∧ H a ∈ M k)) 0 = 0) := rfl
      obtain ⟨Wp, hWp⟩ : ∃ Wp, Wp = wr := ⟨_, rfl⟩
      subst hWp
      have hBP := Below.refl Wp.heap.size Wp
      have HBP := Hid.mk' hBP
      clear hBP
      go_wp2_with fail
      go_loopw [12, 13] (fun t12 t13 wk => ∃ k n : Nat, t13 = .int .i64 (k : Int) ∧ k ≤ i ∧ t12 = .int .i64 (n : Int) ∧ cnP (fun k => decide (k ≠ a ∧ H a ∈ M k)) k = n ∧ Below Wp.heap.size Wp wk) (fun _ t13 _ => i - (intOf t13).toNat)
      case atStart => exact ⟨0, 0, rfl, Nat.zero_le _, rfl, HC0.out, HBP.out⟩
      case round =>
        clear HC0 HBP
        obtain ⟨k, n, rfl, hk, rfl, hn, hbk⟩ := hrel
        have hnl : n ≤ k := by rw [← hn]; exact cnP_le _ _
        have HN := Hid.mk' hn
        have HBK := Hid.mk' hbk
        have HBK2 : Hid (Below W2.heap.size W2 wr) := Below.on (Below.on HBW.out HBL.out) hbk
        have HBK3 : Hid (Below Wo.heap.size Wo wr) := Below.on HBL.out hbk
        have him := HM1.out
        clear hn hbk
        by_cases hkl : k < i
        · have hki : (k : Int) < (i : Int) := by omega
          by_cases hka : k = a
          · have q : ((k : Int) == (a : Int)) = true := by rw [beq_iff_eq]; omega
            have HS : Hid (cnP (fun k => decide (k ≠ a ∧ H a ∈ M k)) (k + 1) = n) := by
              show _ = _
              rw [cnP, HN.out, if_neg (by simp [hka])]; rfl
            clear hka
            go_wp2_with fail
            go_roundw
            case rel => exact ⟨k + 1, n, by go_num, hkl, rfl, HS.out, HBK.out⟩
            case measure => simp [intOf]; omega
          · have q : ((k : Int) == (a : Int)) = false := beq_no (by omega)
            obtain ⟨b1, o1, ak, ck, rfl, r0, hrk⟩ := (HRB.out.stay HBK3.out) k hkl
            obtain ⟨b2, o2, rfl, r1⟩ := hrk (H a) (HHL.out a HAL.out)
            obtain ⟨b3, o3, aa, ca, e3, r2, hra⟩ := (HRB.out.stay HBK3.out) a HAL.out
            cases e3
            obtain ⟨b4, o4, rfl, r3⟩ := hra (H k) (HHL.out k hkl)
            obtain ⟨b, o, ma, mc, ba, bc, rfl, c0, _, _, _, _, _⟩ := (HLQ.out.stay HBK2.out) a HAL.out
            obtain ⟨b5, o5, ma5, mc5, ba5, bc5, e5, c5, _, _, _, _, _⟩ := (HLQ.out.stay HBK2.out) k hkl
            cases e5
            have z4 := cell_of_obj (blk_stay HX2.out HBK2.out) (j := 4) (v := .slice fca fl.length fcc) rfl
            have HS : Hid (∀ h : Bool, decide (H a ∈ M k) = h → cnP (fun k => decide (k ≠ a ∧ H a ∈ M k)) (k + 1) = n + if h = true then 1 else 0) := fun h e => by
              rw [cnP, HN.out]
              congr 1
              have : (decide (k ≠ a ∧ H a ∈ M k) = true) = (h = true) := by rw [← e]; simp [hka]
              simp only [this]
            have HRK : Hid (∀ x, x < fl.length → wr.cell? ⟨b2, o2 + x, none⟩ = some (.bool (decide (x ∈ M k)))) := fun x hx => by
              obtain ⟨b', o', e', h'⟩ := hrk x hx
              cases e'
              exact h'
            have HRA : Hid (∀ x, x < fl.length → wr.cell? ⟨b4, o4 + x, none⟩ = some (.bool (decide (x ∈ M a)))) := fun x hx => by
              obtain ⟨b', o', e', h'⟩ := hra x hx
              cases e'
              exact h'
            have HCX : Hid (∀ x, x ∈ M a → decide (x ∈ M k) ≠ decide (H a ∈ M k) → x ∈ M k ∧ H k ∈ M a) := fun x h1 h2 => HCR.out a k x HAL.out hkl hka h1 h2
            have hha : (H a : Int) < (fl.length : Int) := by have := HHL.out a HAL.out; omega
            have hhk : (H k : Int) < (fl.length : Int) := by have := HHL.out k hkl; omega
            clear hrk hra hka
            generalize hcd : decide (H a ∈ M k) = hb at *
            have HS2 := Hid.mk' (HS.out hb rfl)
            generalize hkd : decide (H k ∈ M a) = kb at *
            have HKD := Hid.mk' hkd
            clear hcd hkd HS
            obtain ⟨Wq, hWq⟩ : ∃ Wq, Wq = wr := ⟨_, rfl⟩
            subst hWq
            have HBQ := Hid.mk' (fun n => Below.drewN (Below.refl Wq.heap.size Wq) n)
            go_upto_region 29 with fail
            go_quiet (fail)
            go_wp2_with fail
            go_loopw [15] (fun t15 wn => ∃ x : Nat, t15 = .int .i64 (x : Int) ∧ x ≤ fl.length ∧ Below Wq.heap.size Wq wn) (fun t15 _ => fl.length - (intOf t15).toNat)
            case atStart => exact ⟨0, rfl, Nat.zero_le _, HBQ.out _⟩
            case round =>
              clear HBQ
              obtain ⟨x, rfl, hx, hbn⟩ := hrel
              have HBN := Hid.mk' hbn
              have z4 := cell_kept_below z4 hbn
              have r0 := cell_kept_below r0 hbn
              have r2 := cell_kept_below r2 hbn
              have r3 := cell_kept_below r3 hbn
              have c5 := cell_kept_below c5 hbn
              have hnl1 := HN1.out
              clear hbn
              by_cases hxl : x < fl.length
              · have hxi : (x : Int) < (fl.length : Int) := by omega
                have s1 := cell_kept_below (HRK.out x hxl) HBN.out
                have s2 := cell_kept_below (HRA.out x hxl) HBN.out
                by_cases hxa : x ∈ M a
                · rw [decide_eq_true hxa] at s2
                  by_cases hxk : decide (x ∈ M k) = hb
                  · rw [hxk] at s1
                    have q2 : (hb != hb) = false := by simp
                    clear hxk hxa
                    go_upto_region 33 with fail
                    try simp only [List.append]
                    go_quiet (fail)
                    go_wp2_with fail
                    go_roundw
                    case rel => exact ⟨x + 1, by go_num, hxl, HBN.out.drewN _⟩
                    case measure => simp [intOf]; omega
                  · obtain ⟨h1, h2⟩ := HCX.out x hxa hxk
                    obtain rfl : hb = false := by
                      rw [decide_eq_true h1] at hxk
                      cases hb
                      · rfl
                      · exact absurd rfl hxk
                    rw [decide_eq_true h1] at s1
                    obtain rfl : kb = true := by rw [← HKD.out]; exact decide_eq_true h2
                    clear hxk hxa h1 h2
                    go_upto_region 33 with fail
                    try simp only [List.append]
                    go_quiet (fail)
                    go_wp2_with fail
                    go_roundw
                    case rel => exact ⟨x + 1, by go_num, hxl, HBN.out.drewN _⟩
                    case measure => simp [intOf]; omega
                · rw [decide_eq_false hxa] at s2
                  clear hxa s1
                  go_upto_region 33 with fail
                  try simp only [List.append]
                  go_quiet (fail)
                  go_wp2_with fail
                  go_roundw
                  case rel => exact ⟨x + 1, by go_num, hxl, HBN.out.drewN _⟩
                  case measure => simp [intOf]; omega
              · have hxi : ¬ (x : Int) < (fl.length : Int) := by omega
                have HBN2 : Hid (Below Wp.heap.size Wp wr) := Below.on HBK.out HBN.out
                clear r0 r1 r2 r3 c0 c5 HBN
                cases hb
                · go_wp2_with fail
                  go_roundw
                  case rel => exact ⟨k + 1, n, by go_num, hkl, rfl, HS2.out, HBN2.out⟩
                  case measure => simp [intOf]; omega
                · go_wp2_with fail
                  go_roundw
                  case rel => exact ⟨k + 1, n + 1, by go_num, hkl, by go_num, HS2.out, HBN2.out⟩
                  case measure => simp [intOf]; omega
        · have hki : ¬ (k : Int) < (i : Int) := by omega
          obtain rfl : k = i := by omega
          go_upto_region 37 with fail
          refine nest_par W2 fl la lc ia ic k H P M B D Wo wr a n HLQ HM1 HRB HDP HHL HP1 HP2 HAL HN HBK2 HBK3 _ _ _ _ _ _ _ _ _ _ _ _ _ _ _ _ _ _ _ _ _ _ _ _ _ _ _ _ _ _ _ _ _ _ _ _ _ _ _ _ _ _ _ _ _ _ _ _ _ _ _ _ _ _ _ _ _ _ _ _ _ _ _ _ _ _ _ _ _ _ _ _ _ _ _ _ _ _ _ _ _ _ _ _ _ _ _ _ _ _ _ _ _ _ _ _ _ _ _ _ _ _ _ _ _ _ _ _ _ _ _ _ _ _ _ _ _ _ _ _ _ _ _ _ _ _ _ _ _ _ _ _ _ _ _ _ _ _ _ _ _ _ _ _ _ _ _ _ _ _ _ _ _ _ _ _ _ _ _ _ _ _ _ _ _ _ _ _ _ _ _ _ _ _ _ _ _ _ _ _ _ _ _ _ _ _ _ _ _ _ _ _ _ _ _ _ _ _ _ _ _ _ _ _ _ _ _ _ _ _ _ _ _ _ _ _ _ _ _ _ _ _ _ _ _ _ _ _ _ _ _ _ _ _ _ _ _ _ _ _ _ _ _ _ _ _ _ _ _ _ _ _ _ _ _ _ _ _ _ _ _ _ _ _ _ _ _ _ _ _ _ _ _ _ _ _ _ _ _ _ _ _ _ _ _ _ _ _ _ _ _ _ _ _ _ _ _ _ _ _ _ _ _ _ _ _ _ _ _ _ _ _ _ _ _ _ _ _ _ _ _ _ _ _ _ _ _ _ _ _ _ _ _ _ _ _ _ _ _ _ _ _ _ _ _ _ ?_
          intro W3 v233 v234 v235 v236 v237 v238 v239 v240 v241 v242 v243 v244 v245 v246 v247 v248 v249 v250 v251 v252 v253 v254 v255 v256 v257 v258 v259 v260 v261 v262 v263 v264 v265 v266 v267 v268 v269 v270 v271 v272 v273 v274 v275 v276 v277 v278 v279 v280 v281 v282 v283 v284 v285 v286 v287 v288 v289 v290 v291 v292 v293 v294 v295 hb3
          have HB3 : Hid (Below Wo.heap.size Wo W3) := HBK3.out.trans (hb3.mono HBK3.out.size)
          clear hb3
          go_wp2_with fail
          go_roundw
          case rel => exact ⟨a + 1, by go_num, HAL.out, HB3.out⟩
          case measure => simp [intOf]; omega
    · have hai : ¬ (a : Int) < (i : Int) := by omega
      go_upto_region 39 with fail
      exact nest_edges w W2 fn fpa fpc fps frg fwd fca fcc fl la lc ia ic i H P M B Wo HED HB2 HX2 HLQ HEN HEL HM1 HBW HRB wr HBL _ (by assumption) _ _ _ _ _ _ _ _ _ _ _ _ _ _ _ _ _ _ _ _ _ _ _ _ _ _ _ _ _ _ _ _ _ _ _ _ _ _ _ _ _ _ _ _ _ _ _ _ _ _ _ _ _ _ _ _ _ _ _ _ _ _ _ _ _ _ _ _ _ _ _ _ _ _ _ _ _ _ _ _ _ _ _ _ _ _ _ _ _ _ _ _ _ _ _ _ _ _ _ _ _ _ _ _ _ _ _ _ _ _ _ _ _ _ _ _ _ _ _ _ _ _ _ _ _ _ _ _ _ _ _ _ _ _ _ _ _ _ _ _ _ _ _ _ _ _ _ _ _ _ _ _ _ _ _ _ _ _ _ _ _ _ _ _ _ _ _ _ _ _ _ _ _ _ _ _ _ _ _ _ _ _ _ _ _ _ _ _ _ _ _ _ _ _ _ _ _ _ _ _ _ _ _ _ _ _ _ _ _ _ _ _ _ _ _ _ _ _ _ _ _ _ _ _ _ _ _ _ _ _ _ _ _ _ _ _ _ _ _ _ _ _ _ _ _ _ _ _ _ _ _ _ _ _ _ _ _ _ _ _ _ _ _ _ _ _ _ _ _ _ _ _ _ _ _ _ _ _ _ _ _ _ _ _ _ _ _ _ _ _ _ _ _ _ _ _ _ _ _ _ _ _ _ _ _ _ _ _ _ _ _ _ _ _ _ _ _ _ _ _ _ _ _ _ _ _ _ _ _ _ _ _ _ _ _ _ _ _ _ _ _ _ _ _ _ _
end Go.Proofs.YtgiokognngllcaaDoor
