/- LoopsNest: its edges. -/
import Derived.Test.YtgiokognngllcaaDoorWj
import Derived.Test.YtgiokognngllcaaDoorWi
import Derived.Deep.QuietTactic
import Derived.BigQuiet
namespace Go.Proofs.YtgiokognngllcaaDoor
open Go.RowKit Go.Sort

noncomputable def nR : Code → Code | .seq _ b => b | c => c
noncomputable def nL : Code → Code | .seq a _ => a | c => c
/-- The pieces of the law's code: the edges and what follows; loops against loops. -/
noncomputable def nestE : Code := nL (nR (nR (nR (nR (nR (nR (nR ((Tryd.f5.body.getD .skip)))))))))
noncomputable def nestF : Code := nR (nR (nR (nR (nR (nR (nR (nR ((Tryd.f5.body.getD .skip)))))))))
noncomputable def nestA : Code := nL (nL (nR (nR (nR (nR (nR (nR ((Tryd.f5.body.getD .skip)))))))))
noncomputable def nestB : Code := nR (nL (nR (nR (nR (nR (nR (nR ((Tryd.f5.body.getD .skip)))))))))
noncomputable def nestG : Code := nR (nR (nR (nR (nR (nR (nR ((Tryd.f5.body.getD .skip))))))))
set_option maxRecDepth 100000 in
set_option maxHeartbeats 8000000 in
theorem nest_edges (w W2 : World) (fn : ByteArray) (fpa : Option Addr) (fpc : Nat) (fps : List Sp) (frg fwd : Int) (fca : Option Addr) (fcc : Nat) (fl : List Is) (la : Option Addr) (lc : Nat) (ia : Option Addr) (ic i : Nat) (H : Nat → Nat) (P : Nat → Int) (M B : Nat → List Nat) (Wo : World)
    (HED : Hid (∀ W, Below w.heap.size w W → Calls Tryd.prog 15 #[.agg #[.string fn, .slice fpa fps.length fpc, .int .i64 frg, .int .i64 fwd, .slice fca fl.length fcc]] W (REP fl W)))
    (HB2 : Hid (Below w.heap.size w W2)) (HX2 : Hid (W2.heap[w.heap.size]? = some (.cells #[.string fn, .slice fpa fps.length fpc, .int .i64 frg, .int .i64 fwd, .slice fca fl.length fcc] 25)))
    (HLQ : Hid (LqR W2 la i H P M B)) (HEN : Hid (∀ rs, IsR fl rs → ∀ u v, (u, v) ∈ edg fl rs → u < fl.length ∧ v < fl.length ∧ ∀ k, u ∉ M k → v ∈ M k → v = H k)) (HEL : Hid (∀ rs, IsR fl rs → (edg fl rs).length ≤ 3000)) (HM1 : Hid (i ≤ 1024))
    (HBW : Hid (Below W2.heap.size W2 Wo)) (HRB : Hid (RbR Wo ia i fl.length M)) (wr : World) (HBL : Hid (Below Wo.heap.size Wo wr))
    (K : Act → World → Prop) (hK : ∀ a W, nestF.wp Tryd.prog (bodyPost Tryd.prog Tryd.f5 fun e w' => e = .returned (.bool true) ∧ Below w.heap.size w w') a W → K a W) (u0 u2 u4 u5 u7 u8 u9 u10 u11 u12 u13 u14 u15 u16 u17 u18 u19 u20 u21 u22 u23 u24 u25 u26 u27 u28 u29 u30 u31 u32 u33 u34 u35 u36 u37 u38 u39 u40 u41 u42 u43 u44 u45 u46 u47 u48 u49 u50 u51 u52 u53 u54 u55 u56 u57 u58 u59 u60 u61 u62 u63 u64 u65 u66 u67 u68 u69 u70 u71 u72 u73 u74 u75 u76 u77 u78 u79 u80 u81 u82 u83 u84 u85 u86 u87 u88 u89 u90 u91 u92 u93 u94 u95 u96 u97 u98 u99 u100 u101 u102 u103 u104 u105 u106 u107 u108 u109 u110 u111 u112 u113 u114 u115 u116 u117 u118 u119 u120 u121 u122 u123 u124 u125 u126 u127 u128 u129 u130 u131 u132 u133 u134 u135 u136 u137 u138 u139 u140 u141 u142 u143 u144 u145 u146 u147 u148 u149 u150 u151 u152 u153 u154 u155 u156 u157 u158 u159 u160 u161 u162 u163 u164 u165 u166 u167 u168 u169 u170 u171 u172 u173 u174 u175 u176 u177 u178 u179 u180 u181 u182 u183 u184 u185 u186 u187 u188 u189 u190 u191 u192 u193 u194 u195 u196 u197 u198 u199 u200 u201 u202 u203 u204 u205 u206 u207 u208 u209 u210 u211 u212 u213 u214 u215 u216 u217 u218 u219 u220 u221 u222 u223 u224 u225 u226 u227 u228 u229 u230 u231 u232 u233 u234 u235 u236 u237 u238 u239 u240 u241 u242 u243 u244 u245 u246 u247 u248 u249 u250 u251 u252 u253 u254 u255 u256 u257 u258 u259 u260 u261 u262 u263 u264 u265 u266 u267 u268 u269 u270 u271 u272 u273 u274 u275 u276 u277 u278 u279 u280 u281 u282 u283 u284 u285 u286 u287 u288 u289 u290 u291 u292 u293 u294 u295 u296 u297 u298 u299 u300 u301 u302 u303 u304 u305 u306 u307 u308 u309 u310 u311 u312 u313 u314 u315 u316 u317 u318 u319 u320 u321 u322 u323 u324 u325 u326 u327 u328 u329 u330 u331 u332 u333 u334 u335 u336 u337 u338 u339 u340 u341 u342 u343 u344 u345 u346 u347 u348 : Value) :
    nestE.wp Tryd.prog (Exit.then K (bodyPost Tryd.prog Tryd.f5 fun e w' => e = .returned (.bool true) ∧ Below w.heap.size w w')) { tmps := #[u0, .pointer (some ⟨w.heap.size, 0, none⟩), u2, .slice la i lc, u4, u5, .slice ia i ic, u7, u8, u9, u10, u11, u12, u13, u14, u15, u16, u17, u18, u19, u20, u21, u22, u23, u24, u25, u26, u27, u28, u29, u30, u31, u32, u33, u34, u35, u36, u37, u38, u39, u40, u41, u42, u43, u44, u45, u46, u47, u48, u49, u50, u51, u52, u53, u54, u55, u56, u57, u58, u59, u60, u61, u62, u63, u64, u65, u66, u67, u68, u69, u70, u71, u72, u73, u74, u75, u76, u77, u78, u79, u80, u81, u82, u83, u84, u85, u86, u87, u88, u89, u90, u91, u92, u93, u94, u95, u96, u97, u98, u99, u100, u101, u102, u103, u104, u105, u106, u107, u108, u109, u110, u111, u112, u113, u114, u115, u116, u117, u118, u119, u120, u121, u122, u123, u124, u125, u126, u127, u128, u129, u130, u131, u132, u133, u134, u135, u136, u137, u138, u139, u140, u141, u142, u143, u144, u145, u146, u147, u148, u149, u150, u151, u152, u153, u154, u155, u156, u157, u158, u159, u160, u161, u162, u163, u164, u165, u166, u167, u168, u169, u170, u171, u172, u173, u174, u175, u176, u177, u178, u179, u180, u181, u182, u183, u184, u185, u186, u187, u188, u189, u190, u191, u192, u193, u194, u195, u196, u197, u198, u199, u200, u201, u202, u203, u204, u205, u206, u207, u208, u209, u210, u211, u212, u213, u214, u215, u216, u217, u218, u219, u220, u221, u222, u223, u224, u225, u226, u227, u228, u229, u230, u231, u232, u233, u234, u235, u236, u237, u238, u239, u240, u241, u242, u243, u244, u245, u246, u247, u248, u249, u250, u251, u252, u253, u254, u255, u256, u257, u258, u259, u260, u261, u262, u263, u264, u265, u266, u267, u268, u269, u270, u271, u272, u273, u274, u275, u276, u277, u278, u279, u280, u281, u282, u283, u284, u285, u286, u287, u288, u289, u290, u291, u292, u293, u294, u295, u296, u297, u298, u299, u300, u301, u302, u303, u304, u305, u306, u307, u308, u309, u310, u311, u312, u313, u314, u315, u316, u317, u318, u319, u320, u321, u322, u323, u324, u325, u326, u327, u328, u329, u330, u331, u332, u333, u334, u335, u336, u337, u338, u339, u340, u341, u342, u343, u344, u345, u346, u347, u348], defers := [] } wr := by
  generalize hq : (bodyPost Tryd.prog Tryd.f5 fun e w' => e = .returned (.bool true) ∧ Below w.heap.size w w') = Q at hK ⊢
  simp only [nestF, nestE, Tryd.f5, Option.getD_some, nR, nL] at hK ⊢
  subst hq
  have hu : undef = Value.tuple #[] := rfl
  have HBL2 : Hid (Below W2.heap.size W2 wr) := Below.on HBW.out HBL.out
  have HBL3 : Hid (Below w.heap.size w wr) := Below.on HB2.out HBL2.out
  have HXX := Hid.mk' (blk_stay HX2.out HBL2.out)
  have z0 := cell_of_obj HXX.out (j := 0) (v := .string fn) rfl
  have z1 := cell_of_obj HXX.out (j := 1) (v := .slice fpa fps.length fpc) rfl
  have z2 := cell_of_obj HXX.out (j := 2) (v := .int .i64 frg) rfl
  have z3 := cell_of_obj HXX.out (j := 3) (v := .int .i64 fwd) rfl
  have z4 := cell_of_obj HXX.out (j := 4) (v := .slice fca fl.length fcc) rfl
  go_wp2_with fail
  refine (HED.out _ HBL3.out).mono ?_
  rintro e W5 ⟨v5, rs, rfl, hir, hoe, bb5⟩
  obtain ⟨ea, ec, rfl⟩ := gown_form hoe
  have HEE := Hid.mk' (oe_edr hoe)
  have HE1 : Hid (∀ u v, (u, v) ∈ edg fl rs → u < fl.length ∧ v < fl.length ∧ ∀ k, u ∉ M k → v ∈ M k → v = H k) := fun u v hm => HEN.out rs hir u v hm
  have hel := HEL.out rs hir
  have HB5 : Hid (Below Wo.heap.size Wo W5) := Below.on HBL.out bb5
  have HB52 : Hid (Below W2.heap.size W2 W5) := Below.on HBL2.out bb5
  have HBT : Hid (Below w.heap.size w W5) := Below.on HBL3.out bb5
  have HBZ := Hid.mk' (Below.refl W5.heap.size W5)
  clear hir hoe bb5 z0 z1 z2 z3 z4 HEN HEL HED HXX HBL HBL2 HBL3
  generalize edg fl rs = es at *
  go_wp2_with fail
  go_loopw [17] (fun t17 wl => ∃ x : Nat, t17 = .int .i64 (x : Int) ∧ x ≤ es.length ∧ Below W5.heap.size W5 wl) (fun t17 _ => es.length - (intOf t17).toNat)
  case atStart => exact ⟨0, rfl, Nat.zero_le _, HBZ.out⟩
  case round =>
    clear HBZ
    obtain ⟨x, rfl, hx, hbl⟩ := hrel
    have HBL := Hid.mk' hbl
    clear hbl
    by_cases hxl : x < es.length
    · obtain ⟨⟨u, v⟩, hxe⟩ : ∃ y, es[x]? = some y := ⟨_, List.getElem?_eq_getElem hxl⟩
      obtain ⟨b, o, rfl, h0, h1⟩ := HEE.out x _ hxe
      obtain ⟨hu1, hv1, hen⟩ := HE1.out u v (List.mem_of_getElem? hxe)
      have HEN := Hid.mk' hen
      have HU := Hid.mk' hu1
      have HV := Hid.mk' hv1
      have g0 := Hid.mk' h0
      have g1 := Hid.mk' h1
      have hxi : (x : Int) < (es.length : Int) := by omega
      clear hxe h0 h1 hu1 hv1 hen
      obtain ⟨Wp, hWp⟩ : ∃ Wp, Wp = wr := ⟨_, rfl⟩
      subst hWp
      have HBP := Hid.mk' (Below.refl Wp.heap.size Wp)
      go_wp2_with fail
      go_loopw [18] (fun t18 wl => ∃ k : Nat, t18 = .int .i64 (k : Int) ∧ k ≤ i ∧ Below Wp.heap.size Wp wl) (fun t18 _ => i - (intOf t18).toNat)
      case atStart => exact ⟨0, rfl, Nat.zero_le _, HBP.out⟩
      case round =>
        clear HBP
        obtain ⟨k, rfl, hk, hbk⟩ := hrel
        have HBK := Hid.mk' hbk
        have HBK5 : Hid (Below W5.heap.size W5 wr) := Below.on HBL.out hbk
        have him := HM1.out
        clear hbk
        by_cases hkl : k < i
        · have hki : (k : Int) < (i : Int) := by omega
          obtain ⟨b1, o1, ak, ck, rfl, r0, hrk⟩ := (HRB.out.stay (Below.on HB5.out HBK5.out)) k hkl
          obtain ⟨b2, o2, rfl, r1⟩ := hrk u HU.out
          obtain ⟨b3, o3, e3, r2⟩ := hrk v HV.out
          cases e3
          obtain ⟨b4, o4, ma, mc, ba, bc, rfl, c0, _, _, _, _, _⟩ := (HLQ.out.stay (Below.on HB52.out HBK5.out)) k hkl
          have d0 : wr.cell? ⟨b, o + x * 2, none⟩ = some (.int .i64 (u : Int)) := cell_kept_below g0.out HBK5.out
          have d1 : wr.cell? ⟨b, o + x * 2 + 1, none⟩ = some (.int .i64 (v : Int)) := cell_kept_below g1.out HBK5.out
          have hui : (u : Int) < (fl.length : Int) := by have := HU.out; omega
          have hvi : (v : Int) < (fl.length : Int) := by have := HV.out; omega
          clear hrk
          by_cases hum : u ∈ M k
          · rw [decide_eq_true hum] at r1
            clear r2 hum
            go_upto_region 46 with fail
            go_quiet (fail)
            go_wp2_with fail
            go_roundw
            case rel => exact ⟨k + 1, by go_num, hkl, HBK.out.drewN _⟩
            case measure => simp [intOf]; omega
          · rw [decide_eq_false hum] at r1
            by_cases hvm : v ∈ M k
            · rw [decide_eq_true hvm] at r2
              have hvh := HEN.out k hum hvm
              have q1 : ((v : Int) != (H k : Int)) = false := bne_no (by omega)
              clear hum hvm hvh
              go_upto_region 46 with fail
              go_quiet (fail)
              go_wp2_with fail
              go_roundw
              case rel => exact ⟨k + 1, by go_num, hkl, HBK.out.drewN _⟩
              case measure => simp [intOf]; omega
            · rw [decide_eq_false hvm] at r2
              clear hum hvm
              go_upto_region 46 with fail
              go_quiet (fail)
              go_wp2_with fail
              go_roundw
              case rel => exact ⟨k + 1, by go_num, hkl, HBK.out.drewN _⟩
              case measure => simp [intOf]; omega
        · have hki : ¬ (k : Int) < (i : Int) := by omega
          go_wp2_with fail
          go_roundw
          case rel => exact ⟨x + 1, by go_num, hxl, HBK5.out⟩
          case measure => simp [intOf]; omega
    · have hxi : ¬ (x : Int) < (es.length : Int) := by omega
      go_wp2_with fail
      go_ret
      exact ⟨rfl, Below.on HBT.out HBL.out⟩
end Go.Proofs.YtgiokognngllcaaDoor
