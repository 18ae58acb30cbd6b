/- LoopsCount: what is asked of a member. -/
import Derived.Test.YtgiokognngllcaaDoorWu
import Derived.Deep.QuietTactic
import Derived.BigQuiet
namespace Go.Proofs.YtgiokognngllcaaDoor
open Go.RowKit Go.Sort

/-- The piece of the law's code that looks at a member. -/
noncomputable def cntC : Code := cdR (cdR (cdI (cdL (cdR (cdI (cdI (cdR (cdR (cdR (cdR (cdI (cdL (cdR (cdI (cdI (cdR (cdL (cdR (cdR (cdR (cdR (cdR (cdR ((Tryd.f6.body.getD .skip)))))))))))))))))))))))))
set_option maxRecDepth 100000 in
set_option maxHeartbeats 8000000 in
theorem cnt_tail (NX bq oq b o fcc m lc n i h x : Nat) (ba : Option Addr) (bc : Nat) (Bl : List Nat) (xh xu : Is) (back : Bool) (wr : World)
    (hil : i < m) (hhl : h < n) (hxl : x < n)
    (z4 : wr.cell? ⟨NX, 4, none⟩ = some (.slice (some ⟨bq, oq, none⟩) n fcc)) (c3 : wr.cell? ⟨b, o + i * 4 + 3, none⟩ = some (.slice ba Bl.length bc))
    (d1 : wr.cell? ⟨bq, oq + h * 5 + 1, none⟩ = some (.int .i64 xh.a)) (d2 : wr.cell? ⟨bq, oq + h * 5 + 2, none⟩ = some (.int .i64 xh.b))
    (f0 : wr.cell? ⟨bq, oq + x * 5, none⟩ = some (.int .i64 xu.op)) (f1 : wr.cell? ⟨bq, oq + x * 5 + 1, none⟩ = some (.int .i64 xu.a)) (f2 : wr.cell? ⟨bq, oq + x * 5 + 2, none⟩ = some (.int .i64 xu.b)) (f3 : wr.cell? ⟨bq, oq + x * 5 + 3, none⟩ = some (.int .i64 xu.c)) (f4 : wr.cell? ⟨bq, oq + x * 5 + 4, none⟩ = some (.int .i64 xu.n))
    (HHAS : Hid (Calls Tryd.prog 16 #[.slice ba Bl.length bc, .int .i64 (x : Int)] wr fun e w' => e = .returned (.bool back) ∧ w' = wr))
    (HB : Hid (back = true → xu.op = 18 ∧ xu.a = xh.a ∧ xu.n = (h : Int)))
    (HW : Hid (0 ≤ wrN xu → wrN xu ≠ xh.b ∧ (wrN xu = xh.a → back = true)))
    (K : Act → World → Prop) (Q : Exit → Act → World → Prop) (hK : ∀ a W, (cdR cntC).wp Tryd.prog Q a W → K a W) (u0 u2 u4 u5 u6 u7 u10 u12 u13 u14 u15 u16 u17 u18 u19 u20 u21 u22 u23 u24 u25 u26 u27 u28 u29 u30 u31 u32 u33 u34 u35 u36 u37 u38 u39 u40 u41 u42 u43 u44 u45 u46 u47 u48 u49 u50 u51 u52 u53 u54 u55 u56 u57 u58 u59 u60 u61 u62 u63 u64 u65 u66 u67 u68 u69 u70 u71 u72 u73 u74 u75 u76 u77 u78 u79 u80 u81 u82 u83 u84 u85 u86 u87 u88 u89 u90 u91 u92 u93 u94 u95 u96 u97 u98 u99 u100 u101 u102 u103 u104 u105 u106 u107 u108 u109 u110 u111 u112 u113 u114 u115 u116 u117 u118 u119 u120 u121 u122 u123 u124 u125 u126 u127 u128 u129 u130 u131 u132 u133 u134 u135 u136 u137 u138 u139 u140 u141 u142 u143 u144 u145 u146 u147 u148 u149 u150 u151 u152 u153 u154 u155 u156 u157 u158 u159 u160 u161 u162 u163 u164 u165 u166 u167 u168 u169 u170 u171 u172 u173 u174 u175 u176 u177 u178 u179 u180 u181 u182 u183 u184 u185 u186 u187 u188 u189 u190 u191 u192 u193 u194 u195 u196 u197 u198 u199 u200 u201 u202 u203 u204 u205 u206 u207 u208 u209 u210 u211 u212 u213 u214 u215 u216 u217 u218 u219 u220 u221 u222 u223 u224 u225 u226 u227 u228 u229 u230 u231 u232 u233 u234 u235 u236 u237 u238 u239 u240 u241 u242 u243 u244 u245 u246 u247 u248 u249 u250 u251 u252 u253 u254 u255 u256 u257 u258 u259 u260 u261 u262 u263 u264 u265 u266 u267 u268 u269 u270 u271 u272 u273 u274 u275 u276 u277 u278 u279 u280 u281 u282 u283 u284 u285 u286 u287 u288 u289 u290 u291 u292 u293 u294 u295 u296 u297 u298 u299 u300 u301 u302 u303 u304 u305 u306 u307 u308 u309 u310 u311 u312 u313 u314 u315 u316 u317 u318 u319 u320 u321 u322 u323 u324 u325 u326 u327 u328 u329 u330 : Value)
    (hQ : Hid (∀ (W : World) (v12 v13 v134 v135 v136 v137 v138 v139 v140 v141 v142 v143 v144 v145 v146 v147 v148 v149 v150 v151 v152 v153 v154 v155 v156 v157 v158 v159 v160 v161 v162 v163 v164 v165 v166 v167 v168 v169 v170 v171 v172 v173 v174 v175 v176 v177 v178 v179 v180 v181 v182 v183 v184 v185 v186 v187 v188 v189 v190 v191 v192 v193 v194 v195 v196 v197 v198 v199 v200 v201 v202 v203 v204 v205 v206 v207 : Value), Below wr.heap.size wr W → Q .normal { tmps := #[u0, .pointer (some ⟨NX, 0, none⟩), u2, .slice (some ⟨b, o, none⟩) m lc, u4, u5, u6, u7, .int .i64 (i : Int), .int .i64 (h : Int), u10, .int .i64 (x : Int), v12, v13, u14, u15, u16, u17, u18, u19, u20, u21, u22, u23, u24, u25, u26, u27, u28, u29, u30, u31, u32, u33, u34, u35, u36, u37, u38, u39, u40, u41, u42, u43, u44, u45, u46, u47, u48, u49, u50, u51, u52, u53, u54, u55, u56, u57, u58, u59, u60, u61, u62, u63, u64, u65, u66, u67, u68, u69, u70, u71, u72, u73, u74, u75, u76, u77, u78, u79, u80, u81, u82, u83, u84, u85, u86, u87, u88, u89, u90, u91, u92, u93, u94, u95, u96, u97, u98, u99, u100, u101, u102, u103, u104, u105, u106, u107, u108, u109, u110, u111, u112, u113, u114, u115, u116, u117, u118, u119, u120, u121, u122, u123, u124, u125, u126, u127, u128, u129, u130, u131, u132, u133, v134, v135, v136, v137, v138, v139, v140, v141, v142, v143, v144, v145, v146, v147, v148, v149, v150, v151, v152, v153, v154, v155, v156, v157, v158, v159, v160, v161, v162, v163, v164, v165, v166, v167, v168, v169, v170, v171, v172, v173, v174, v175, v176, v177, v178, v179, v180, v181, v182, v183, v184, v185, v186, v187, v188, v189, v190, v191, v192, v193, v194, v195, v196, v197, v198, v199, v200, v201, v202, v203, v204, v205, v206, v207, u208, u209, u210, u211, u212, u213, u214, u215, u216, u217, u218, u219, u220, u221, u222, u223, u224, u225, u226, u227, u228, u229, u230, u231, u232, u233, u234, u235, u236, u237, u238, u239, u240, u241, u242, u243, u244, u245, u246, u247, u248, u249, u250, u251, u252, u253, u254, u255, u256, u257, u258, u259, u260, u261, u262, u263, u264, u265, u266, u267, u268, u269, u270, u271, u272, u273, u274, u275, u276, u277, u278, u279, u280, u281, u282, u283, u284, u285, u286, u287, u288, u289, u290, u291, u292, u293, u294, u295, u296, u297, u298, u299, u300, u301, u302, u303, u304, u305, u306, u307, u308, u309, u310, u311, u312, u313, u314, u315, u316, u317, u318, u319, u320, u321, u322, u323, u324, u325, u326, u327, u328, u329, u330], defers := [] } W)) :
    (cdL cntC).wp Tryd.prog (Exit.then K Q) { tmps := #[u0, .pointer (some ⟨NX, 0, none⟩), u2, .slice (some ⟨b, o, none⟩) m lc, u4, u5, u6, u7, .int .i64 (i : Int), .int .i64 (h : Int), u10, .int .i64 (x : Int), u12, u13, u14, u15, u16, u17, u18, u19, u20, u21, u22, u23, u24, u25, u26, u27, u28, u29, u30, u31, u32, u33, u34, u35, u36, u37, u38, u39, u40, u41, u42, u43, u44, u45, u46, u47, u48, u49, u50, u51, u52, u53, u54, u55, u56, u57, u58, u59, u60, u61, u62, u63, u64, u65, u66, u67, u68, u69, u70, u71, u72, u73, u74, u75, u76, u77, u78, u79, u80, u81, u82, u83, u84, u85, u86, u87, u88, u89, u90, u91, u92, u93, u94, u95, u96, u97, u98, u99, u100, u101, u102, u103, u104, u105, u106, u107, u108, u109, u110, u111, u112, u113, u114, u115, u116, u117, u118, u119, u120, u121, u122, u123, u124, u125, u126, u127, u128, u129, u130, u131, u132, u133, u134, u135, u136, u137, u138, u139, u140, u141, u142, u143, u144, u145, u146, u147, u148, u149, u150, u151, u152, u153, u154, u155, u156, u157, u158, u159, u160, u161, u162, u163, u164, u165, u166, u167, u168, u169, u170, u171, u172, u173, u174, u175, u176, u177, u178, u179, u180, u181, u182, u183, u184, u185, u186, u187, u188, u189, u190, u191, u192, u193, u194, u195, u196, u197, u198, u199, u200, u201, u202, u203, u204, u205, u206, u207, u208, u209, u210, u211, u212, u213, u214, u215, u216, u217, u218, u219, u220, u221, u222, u223, u224, u225, u226, u227, u228, u229, u230, u231, u232, u233, u234, u235, u236, u237, u238, u239, u240, u241, u242, u243, u244, u245, u246, u247, u248, u249, u250, u251, u252, u253, u254, u255, u256, u257, u258, u259, u260, u261, u262, u263, u264, u265, u266, u267, u268, u269, u270, u271, u272, u273, u274, u275, u276, u277, u278, u279, u280, u281, u282, u283, u284, u285, u286, u287, u288, u289, u290, u291, u292, u293, u294, u295, u296, u297, u298, u299, u300, u301, u302, u303, u304, u305, u306, u307, u308, u309, u310, u311, u312, u313, u314, u315, u316, u317, u318, u319, u320, u321, u322, u323, u324, u325, u326, u327, u328, u329, u330], defers := [] } wr := by
  simp only [cntC, Tryd.f6, Option.getD_some, cdR, cdL, cdI] at hK ⊢
  have hu : undef = Value.tuple #[] := rfl
  have hii : (i : Int) < (m : Int) := by omega
  have hhi : (h : Int) < (n : Int) := by omega
  have hxi : (x : Int) < (n : Int) := by omega
  have hwr := fun W => rwrites_any xu W
  unfold Is.val at hwr
  clear hil hhl hxl
  cases back
  · clear HB
    have HWR := Hid.mk' hwr
    generalize wrN xu = wz at *
    clear hwr
    go_upto_region 22 with (go_at_call 16; refine HHAS.out.mono ?_; rintro e w1 ⟨rfl, e1⟩; have e2 := e1.symm; subst e2)
    try simp only [List.append]
    go_quiet (fail)
    go_wp2_with fail
    refine (HWR.out _).mono ?_
    rintro e W7 ⟨rfl, bb7⟩
    have hb7 := Below.on (Below.drewN (Below.refl _ _) _) bb7
    have HB8 := Hid.mk' hb7
    have z4 := cell_kept_below z4 hb7
    have d1 := cell_kept_below d1 hb7
    have d2 := cell_kept_below d2 hb7
    clear bb7 hb7 f0 f1 f2 f3 f4 c3 HHAS HWR
    by_cases h0 : 0 ≤ wz
    · obtain ⟨n1, n2⟩ := HW.out h0
      have q3 : decide ((0 : Int) ≤ wz) = true := decide_eq_true h0
      have q4 : (wz == xh.b) = false := beq_no n1
      have q5 : (wz == xh.a) = false := beq_no (fun e => Bool.noConfusion (n2 e))
      clear n1 n2 h0
      go_wp2_with fail
      exact hQ.out _ _ _ _ _ _ _ _ _ _ _ _ _ _ _ _ _ _ _ _ _ _ _ _ _ _ _ _ _ _ _ _ _ _ _ _ _ _ _ _ _ _ _ _ _ _ _ _ _ _ _ _ _ _ _ _ _ _ _ _ _ _ _ _ _ _ _ _ _ _ _ _ _ _ _ _ _ HB8.out
    · have q3 : decide ((0 : Int) ≤ wz) = false := decide_eq_false h0
      clear h0
      go_wp2_with fail
      exact hQ.out _ _ _ _ _ _ _ _ _ _ _ _ _ _ _ _ _ _ _ _ _ _ _ _ _ _ _ _ _ _ _ _ _ _ _ _ _ _ _ _ _ _ _ _ _ _ _ _ _ _ _ _ _ _ _ _ _ _ _ _ _ _ _ _ _ _ _ _ _ _ _ _ _ _ _ _ _ HB8.out
  · skip
    obtain ⟨g1, g2, g3⟩ := HB.out rfl
    rw [g1] at f0
    rw [g2] at f1
    rw [g3] at f4
    rw [g1, g2, g3] at hwr
    have q1 : (xh.a != xh.a) = false := by simp
    have q2 : ((h : Int) != (h : Int)) = false := by simp
    clear g1 g2 g3
    have HWR := Hid.mk' hwr
    generalize wrN xu = wz at *
    clear hwr HB
    go_upto_region 22 with (go_at_call 16; refine HHAS.out.mono ?_; rintro e w1 ⟨rfl, e1⟩; have e2 := e1.symm; subst e2)
    try simp only [List.append]
    go_quiet (fail)
    go_wp2_with fail
    refine (HWR.out _).mono ?_
    rintro e W7 ⟨rfl, bb7⟩
    have hb7 := Below.on (Below.drewN (Below.refl _ _) _) bb7
    have HB8 := Hid.mk' hb7
    have z4 := cell_kept_below z4 hb7
    have d1 := cell_kept_below d1 hb7
    have d2 := cell_kept_below d2 hb7
    clear bb7 hb7 f0 f1 f2 f3 f4 c3 HHAS HWR
    by_cases h0 : 0 ≤ wz
    · obtain ⟨n1, n2⟩ := HW.out h0
      have q3 : decide ((0 : Int) ≤ wz) = true := decide_eq_true h0
      have q4 : (wz == xh.b) = false := beq_no n1
      by_cases h1 : wz = xh.a
      · have q5 : (wz == xh.a) = true := by rw [beq_iff_eq]; exact h1
        clear n1 n2 h0 h1
        go_wp2_with fail
        exact hQ.out _ _ _ _ _ _ _ _ _ _ _ _ _ _ _ _ _ _ _ _ _ _ _ _ _ _ _ _ _ _ _ _ _ _ _ _ _ _ _ _ _ _ _ _ _ _ _ _ _ _ _ _ _ _ _ _ _ _ _ _ _ _ _ _ _ _ _ _ _ _ _ _ _ _ _ _ _ HB8.out
      · have q5 : (wz == xh.a) = false := beq_no h1
        clear n1 n2 h0 h1
        go_wp2_with fail
        exact hQ.out _ _ _ _ _ _ _ _ _ _ _ _ _ _ _ _ _ _ _ _ _ _ _ _ _ _ _ _ _ _ _ _ _ _ _ _ _ _ _ _ _ _ _ _ _ _ _ _ _ _ _ _ _ _ _ _ _ _ _ _ _ _ _ _ _ _ _ _ _ _ _ _ _ _ _ _ _ HB8.out
    · have q3 : decide ((0 : Int) ≤ wz) = false := decide_eq_false h0
      clear h0
      go_wp2_with fail
      exact hQ.out _ _ _ _ _ _ _ _ _ _ _ _ _ _ _ _ _ _ _ _ _ _ _ _ _ _ _ _ _ _ _ _ _ _ _ _ _ _ _ _ _ _ _ _ _ _ _ _ _ _ _ _ _ _ _ _ _ _ _ _ _ _ _ _ _ _ _ _ _ _ _ _ _ _ _ _ _ HB8.out
end Go.Proofs.YtgiokognngllcaaDoor
