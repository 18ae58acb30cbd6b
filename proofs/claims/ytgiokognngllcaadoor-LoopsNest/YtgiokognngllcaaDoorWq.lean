/- LoopsNest: the loop around. -/
import Derived.Test.YtgiokognngllcaaDoorWn
import Derived.Lib.QuietBelow
import Derived.Deep.QuietTactic
import Derived.BigQuiet
namespace Go.Proofs.YtgiokognngllcaaDoor
open Go.RowKit Go.Sort

noncomputable def inn : Code → Code | .block _ c => c | .loop c => c | c => c
noncomputable def nestR : Code := nL (nR (nR (inn (nL (nR (inn (inn nestB)))))))
set_option maxRecDepth 100000 in
set_option maxHeartbeats 8000000 in
theorem nest_par (W2 : World) (fl : List Is) (la : Option Addr) (lc : Nat) (ia : Option Addr) (ic i : Nat) (H : Nat → Nat) (P : Nat → Int) (M B : Nat → List Nat) (D : Int → Nat) (Wo wr : World) (a n : Nat)
    (HLQ : Hid (LqR W2 la i H P M B)) (HM1 : Hid (i ≤ 1024)) (HRB : Hid (RbR Wo ia i fl.length M))
    (HDP : Hid (∀ W (z : Int), Below W2.heap.size W2 W → Calls Tryd.prog 13 #[.slice la i lc, .int .i64 z] W fun e w' => e = .returned (.int .i64 (D z : Int)) ∧ Below W.heap.size W w'))
    (HHL : Hid (∀ k, k < i → H k < fl.length))
    (HP1 : Hid (∀ a, P a = -1 → cnP (fun k => decide (k ≠ a ∧ H a ∈ M k)) i = 0))
    (HP2 : Hid (∀ a, a < i → P a ≠ -1 → ∃ p : Nat, P a = (p : Int) ∧ p < i ∧ p ≠ a ∧ H a ∈ M p ∧ 0 < cnP (fun k => decide (k ≠ a ∧ H a ∈ M k)) i ∧ D (H p : Int) = cnP (fun k => decide (k ≠ a ∧ H a ∈ M k)) i))
    (HAL : Hid (a < i)) (HN : Hid (cnP (fun k => decide (k ≠ a ∧ H a ∈ M k)) i = n)) (HBK2 : Hid (Below W2.heap.size W2 wr)) (HBK3 : Hid (Below Wo.heap.size Wo wr))
    (Q : Exit → Act → World → Prop) (u0 u1 u2 u4 u5 u7 u8 u9 u10 u13 u14 u15 u16 u17 u18 u19 u20 u21 u22 u23 u24 u25 u26 u27 u28 u29 u30 u31 u32 u33 u34 u35 u36 u37 u38 u39 u40 u41 u42 u43 u44 u45 u46 u47 u48 u49 u50 u51 u52 u53 u54 u55 u56 u57 u58 u59 u60 u61 u62 u63 u64 u65 u66 u67 u68 u69 u70 u71 u72 u73 u74 u75 u76 u77 u78 u79 u80 u81 u82 u83 u84 u85 u86 u87 u88 u89 u90 u91 u92 u93 u94 u95 u96 u97 u98 u99 u100 u101 u102 u103 u104 u105 u106 u107 u108 u109 u110 u111 u112 u113 u114 u115 u116 u117 u118 u119 u120 u121 u122 u123 u124 u125 u126 u127 u128 u129 u130 u131 u132 u133 u134 u135 u136 u137 u138 u139 u140 u141 u142 u143 u144 u145 u146 u147 u148 u149 u150 u151 u152 u153 u154 u155 u156 u157 u158 u159 u160 u161 u162 u163 u164 u165 u166 u167 u168 u169 u170 u171 u172 u173 u174 u175 u176 u177 u178 u179 u180 u181 u182 u183 u184 u185 u186 u187 u188 u189 u190 u191 u192 u193 u194 u195 u196 u197 u198 u199 u200 u201 u202 u203 u204 u205 u206 u207 u208 u209 u210 u211 u212 u213 u214 u215 u216 u217 u218 u219 u220 u221 u222 u223 u224 u225 u226 u227 u228 u229 u230 u231 u232 u233 u234 u235 u236 u237 u238 u239 u240 u241 u242 u243 u244 u245 u246 u247 u248 u249 u250 u251 u252 u253 u254 u255 u256 u257 u258 u259 u260 u261 u262 u263 u264 u265 u266 u267 u268 u269 u270 u271 u272 u273 u274 u275 u276 u277 u278 u279 u280 u281 u282 u283 u284 u285 u286 u287 u288 u289 u290 u291 u292 u293 u294 u295 u296 u297 u298 u299 u300 u301 u302 u303 u304 u305 u306 u307 u308 u309 u310 u311 u312 u313 u314 u315 u316 u317 u318 u319 u320 u321 u322 u323 u324 u325 u326 u327 u328 u329 u330 u331 u332 u333 u334 u335 u336 u337 u338 u339 u340 u341 u342 u343 u344 u345 u346 u347 u348 : Value) (hQ : Hid (∀ (W : World) (v233 v234 v235 v236 v237 v238 v239 v240 v241 v242 v243 v244 v245 v246 v247 v248 v249 v250 v251 v252 v253 v254 v255 v256 v257 v258 v259 v260 v261 v262 v263 v264 v265 v266 v267 v268 v269 v270 v271 v272 v273 v274 v275 v276 v277 v278 v279 v280 v281 v282 v283 v284 v285 v286 v287 v288 v289 v290 v291 v292 v293 v294 v295 : Value), Below wr.heap.size wr W → Q .normal { tmps := #[u0, u1, u2, .slice la i lc, u4, u5, .slice ia i ic, u7, u8, u9, u10, .int .i64 (a : Int), .int .i64 (n : Int), u13, u14, u15, u16, u17, u18, u19, u20, u21, u22, u23, u24, u25, u26, u27, u28, u29, u30, u31, u32, u33, u34, u35, u36, u37, u38, u39, u40, u41, u42, u43, u44, u45, u46, u47, u48, u49, u50, u51, u52, u53, u54, u55, u56, u57, u58, u59, u60, u61, u62, u63, u64, u65, u66, u67, u68, u69, u70, u71, u72, u73, u74, u75, u76, u77, u78, u79, u80, u81, u82, u83, u84, u85, u86, u87, u88, u89, u90, u91, u92, u93, u94, u95, u96, u97, u98, u99, u100, u101, u102, u103, u104, u105, u106, u107, u108, u109, u110, u111, u112, u113, u114, u115, u116, u117, u118, u119, u120, u121, u122, u123, u124, u125, u126, u127, u128, u129, u130, u131, u132, u133, u134, u135, u136, u137, u138, u139, u140, u141, u142, u143, u144, u145, u146, u147, u148, u149, u150, u151, u152, u153, u154, u155, u156, u157, u158, u159, u160, u161, u162, u163, u164, u165, u166, u167, u168, u169, u170, u171, u172, u173, u174, u175, u176, u177, u178, u179, u180, u181, u182, u183, u184, u185, u186, u187, u188, u189, u190, u191, u192, u193, u194, u195, u196, u197, u198, u199, u200, u201, u202, u203, u204, u205, u206, u207, u208, u209, u210, u211, u212, u213, u214, u215, u216, u217, u218, u219, u220, u221, u222, u223, u224, u225, u226, u227, u228, u229, u230, u231, u232, v233, v234, v235, v236, v237, v238, v239, v240, v241, v242, v243, v244, v245, v246, v247, v248, v249, v250, v251, v252, v253, v254, v255, v256, v257, v258, v259, v260, v261, v262, v263, v264, v265, v266, v267, v268, v269, v270, v271, v272, v273, v274, v275, v276, v277, v278, v279, v280, v281, v282, v283, v284, v285, v286, v287, v288, v289, v290, v291, v292, v293, v294, v295, .bool false, u297, u298, u299, u300, u301, u302, u303, u304, u305, u306, u307, u308, u309, u310, u311, u312, u313, u314, u315, u316, u317, u318, u319, u320, u321, u322, u323, u324, u325, u326, u327, u328, u329, u330, u331, u332, u333, u334, u335, u336, u337, u338, u339, u340, u341, u342, u343, u344, u345, u346, u347, u348], defers := [] } W)) :
    nestR.wp Tryd.prog Q { tmps := #[u0, u1, u2, .slice la i lc, u4, u5, .slice ia i ic, u7, u8, u9, u10, .int .i64 (a : Int), .int .i64 (n : Int), u13, u14, u15, u16, u17, u18, u19, u20, u21, u22, u23, u24, u25, u26, u27, u28, u29, u30, u31, u32, u33, u34, u35, u36, u37, u38, u39, u40, u41, u42, u43, u44, u45, u46, u47, u48, u49, u50, u51, u52, u53, u54, u55, u56, u57, u58, u59, u60, u61, u62, u63, u64, u65, u66, u67, u68, u69, u70, u71, u72, u73, u74, u75, u76, u77, u78, u79, u80, u81, u82, u83, u84, u85, u86, u87, u88, u89, u90, u91, u92, u93, u94, u95, u96, u97, u98, u99, u100, u101, u102, u103, u104, u105, u106, u107, u108, u109, u110, u111, u112, u113, u114, u115, u116, u117, u118, u119, u120, u121, u122, u123, u124, u125, u126, u127, u128, u129, u130, u131, u132, u133, u134, u135, u136, u137, u138, u139, u140, u141, u142, u143, u144, u145, u146, u147, u148, u149, u150, u151, u152, u153, u154, u155, u156, u157, u158, u159, u160, u161, u162, u163, u164, u165, u166, u167, u168, u169, u170, u171, u172, u173, u174, u175, u176, u177, u178, u179, u180, u181, u182, u183, u184, u185, u186, u187, u188, u189, u190, u191, u192, u193, u194, u195, u196, u197, u198, u199, u200, u201, u202, u203, u204, u205, u206, u207, u208, u209, u210, u211, u212, u213, u214, u215, u216, u217, u218, u219, u220, u221, u222, u223, u224, u225, u226, u227, u228, u229, u230, u231, u232, u233, u234, u235, u236, u237, u238, u239, u240, u241, u242, u243, u244, u245, u246, u247, u248, u249, u250, u251, u252, u253, u254, u255, u256, u257, u258, u259, u260, u261, u262, u263, u264, u265, u266, u267, u268, u269, u270, u271, u272, u273, u274, u275, u276, u277, u278, u279, u280, u281, u282, u283, u284, u285, u286, u287, u288, u289, u290, u291, u292, u293, u294, u295, u296, u297, u298, u299, u300, u301, u302, u303, u304, u305, u306, u307, u308, u309, u310, u311, u312, u313, u314, u315, u316, u317, u318, u319, u320, u321, u322, u323, u324, u325, u326, u327, u328, u329, u330, u331, u332, u333, u334, u335, u336, u337, u338, u339, u340, u341, u342, u343, u344, u345, u346, u347, u348], defers := [] } wr := by
  simp only [nestR, nestB, Tryd.f5, Option.getD_some, nR, nL, inn]
  have hu : undef = Value.tuple #[] := rfl
  have him := HM1.out
  have hai : (a : Int) < (i : Int) := by have := HAL.out; omega
  obtain ⟨b, o, ma, mc, ba, bc, rfl, c0, c1, _, _, _, _⟩ := (HLQ.out.stay HBK2.out) a HAL.out
  by_cases hpa : P a = -1
  · have hz : n = 0 := by rw [← HN.out]; exact HP1.out a hpa
    subst hz
    rw [hpa] at c1
    have c0 := cell_regrown c0
    have c1 := cell_regrown c1
    clear hpa HN
    refine wp_region_quiet_below (by kernel_rfl) (by kernel_rfl) ?_
    repeat (go_big_quiet_step (fail))
    refine wpQuiet_nil ?_
    intro _ hw'
    obtain ⟨⟨dq, osq⟩, hw''⟩ := hw'
    subst hw''
    have HB3 : Hid (Below wr.heap.size wr (grow (redrawn wr dq) osq)) := below_regrown wr dq osq
    clear c0 c1
    generalize grow (redrawn wr dq) osq = W3 at *
    exact hQ.out W3 _ _ _ _ _ _ _ _ _ _ _ _ _ _ _ _ _ _ _ _ _ _ _ _ _ _ _ _ _ _ _ _ _ _ _ _ _ _ _ _ _ _ _ _ _ _ _ _ _ _ _ _ _ _ _ _ _ _ _ _ _ _ _ HB3.out
  · obtain ⟨p, hp, hpl, hpn, hpm, hps, hpd⟩ := HP2.out a HAL.out hpa
    rw [HN.out] at hps hpd
    rw [hp] at c1
    obtain ⟨b1, o1, ak, ck, rfl, r0, hrk⟩ := (HRB.out.stay HBK3.out) p hpl
    obtain ⟨b2, o2, rfl, r1⟩ := hrk (H a) (HHL.out a HAL.out)
    rw [decide_eq_true hpm] at r1
    obtain ⟨b5, o5, ma5, mc5, ba5, bc5, e5, c5, _, _, _, _, _⟩ := (HLQ.out.stay HBK2.out) p hpl
    cases e5
    have HDC : Hid (∀ W, Below wr.heap.size wr W → Calls Tryd.prog 13 #[.slice (some ⟨b, o, none⟩) i lc, .int .i64 (H p : Int)] W fun e w' => e = .returned (.int .i64 (n : Int)) ∧ Below W.heap.size W w') := fun W hb => by
      have := HDP.out W (H p : Int) (Below.on HBK2.out hb)
      rwa [hpd] at this
    have q1 : ((n : Int) == 0) = false := beq_no (by omega)
    have q2 : decide ((0 : Int) < (n : Int)) = true := decide_eq_true (by omega)
    have q3 : decide (0 < n) = true := decide_eq_true (by omega)
    have q4 : decide ((p : Int) < 0) = false := decide_eq_false (by omega)
    have q5 : ((p : Int) == (a : Int)) = false := beq_no (by omega)
    have q6 : ((n : Int) != (n : Int)) = false := by simp
    have hpi : (p : Int) < (i : Int) := by omega
    have hha : (H a : Int) < (fl.length : Int) := by have := HHL.out a HAL.out; omega
    have c0 := cell_regrown c0
    have c1 := cell_regrown c1
    have c5 := cell_regrown c5
    have r0 := cell_regrown r0
    have r1 := cell_regrown r1
    clear hpa hp hpn hpm hps hpd hrk HN HDP HP1 HP2 hpl
    refine wp_region_quiet_below (by kernel_rfl) (by kernel_rfl) ?_
    repeat (go_big_quiet_step ((go_at_call 13; with_reducible exact Calls.regrown_of (HDC.out _ (below_regrown _ _ _)))))
    refine wpQuiet_nil ?_
    intro _ hw'
    obtain ⟨⟨dq, osq⟩, hw''⟩ := hw'
    subst hw''
    have HB3 : Hid (Below wr.heap.size wr (grow (redrawn wr dq) osq)) := below_regrown wr dq osq
    clear c0 c1 c5 r0 r1
    generalize grow (redrawn wr dq) osq = W3 at *
    exact hQ.out W3 _ _ _ _ _ _ _ _ _ _ _ _ _ _ _ _ _ _ _ _ _ _ _ _ _ _ _ _ _ _ _ _ _ _ _ _ _ _ _ _ _ _ _ _ _ _ _ _ _ _ _ _ _ _ _ _ _ _ _ _ _ _ _ HB3.out

end Go.Proofs.YtgiokognngllcaaDoor
