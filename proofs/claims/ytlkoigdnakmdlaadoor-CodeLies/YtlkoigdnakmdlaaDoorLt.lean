/- CodeLies: what follows the range over the registers. -/
import Derived.Test.YtlkoigdnakmdlaaDoorLn
import Derived.Test.YtlkoigdnakmdlaaDoorFb
import Derived.Sort.CutIn
namespace Go.Proofs.YtlkoigdnakmdlaaDoor
open Go.RowKit Go.Shelf
attribute [local go_sem] Oper.semAt_some

noncomputable def sR : Code → Code | .seq _ b => b | c => c
noncomputable def sL : Code → Code | .seq a _ => a | c => c
noncomputable def inn : Code → Code | .block _ c => c | .loop c => c | c => c
noncomputable def tailC : Code := sR (sR (sR (sR (inn (sL (sR (inn (inn (sR (sR (sR (inn (sL (sR (inn (inn (sR (sL (sR (sR (sR (Tryd.f8.body.getD .skip))))))))))))))))))))))

set_option maxRecDepth 100000 in
set_option maxHeartbeats 8000000 in
theorem tail_in (x : Is) (f : Fn) (k NF NX : Nat) (W : World) (D : List Deferred) (p1 p2 p3 u0 u7 u8 u9 u10 u11 u12 u13 u14 u15 u16 u17 u18 u19 u20 u21 u22 u23 u24 u25 u26 u27 u28 u29 u30 u31 u32 u33 u34 u35 u36 u37 u38 u39 u40 u41 u42 u43 u44 u45 u46 u47 u48 u49 u50 u51 u52 u53 u54 u55 u56 u57 u58 u59 u60 u61 u62 u63 u64 u65 u66 u67 u68 u69 u70 u71 u72 u73 u74 u75 u76 u77 u78 u79 u80 u81 u82 u83 u84 u85 u86 u87 u88 u89 u90 u91 u92 u93 u94 u95 u96 u97 u98 u99 u100 u101 u102 u103 u104 u105 u106 u107 u108 u109 u110 u111 u112 u113 u114 u115 u116 u117 u118 u119 u120 u121 u122 u123 u124 u125 u126 u127 u128 u129 u130 u131 u132 u133 u134 u135 u136 u137 u138 u139 u140 u141 u142 u143 u144 u145 : Value) (Q : Exit → Act → World → Prop)
    (HWX : Hid (Calls Tryd.prog 16 #[x.val] W fun e w'' => e = .returned (.int .i64 (wrN x)) ∧ Below W.heap.size W w''))
    (hlen : k < f.code.length) (hcl : f.code.length ≤ 1024) (HKN : knB x.op = true) (HW : Hid (wrN x = -1 ∨ 0 ≤ wrN x ∧ wrN x < f.regs))
    (HE : Hid (EndF x.op x.n k f.code.length true true false true true true ∨ EndF x.op x.n k f.code.length true true true true false true ∨ EndF x.op x.n k f.code.length true true true true true false ∨ EndF x.op x.n k f.code.length false true false true true true ∨ EndF x.op x.n k f.code.length false true true false true true ∨ EndF x.op x.n k f.code.length true false false true true true))
    (x0 : W.cell? ⟨NX, 0, none⟩ = some (.int .i64 x.op)) (x1 : W.cell? ⟨NX, 1, none⟩ = some (.int .i64 x.a)) (x2 : W.cell? ⟨NX, 2, none⟩ = some (.int .i64 x.b)) (x3 : W.cell? ⟨NX, 3, none⟩ = some (.int .i64 x.c)) (x4 : W.cell? ⟨NX, 4, none⟩ = some (.int .i64 x.n))
    (y2 : W.cell? ⟨NF, 2, none⟩ = some (.int .i64 f.regs)) (y4 : W.cell? ⟨NF, 4, none⟩ = some (.slice f.ca f.code.length f.cc))
    (hQ : Hid (∀ (v9 v10 v86 v87 v88 v89 v90 v91 v92 v93 v94 v95 v96 v97 v98 v99 v100 v101 v102 v103 v104 v105 v106 v107 v108 v109 v110 v111 v112 v113 v114 v115 v116 v117 v118 v119 v120 v121 v122 v123 v124 v125 v126 v127 v128 v129 v130 v131 v132 v133 v134 v135 v136 v137 v138 v139 v140 v141 v142 v143 v144 v145 : Value) (W' : World), Below W.heap.size W W' → Q .normal { tmps := #[u0, p1, p2, p3, .pointer (some ⟨NF, 0, none⟩), .int .i64 (k : Int), .pointer (some ⟨NX, 0, none⟩), u7, u8, v9, v10, u11, u12, u13, u14, u15, u16, u17, u18, u19, u20, u21, u22, u23, u24, u25, u26, u27, u28, u29, u30, u31, u32, u33, u34, u35, u36, u37, u38, u39, u40, u41, u42, u43, u44, u45, u46, u47, u48, u49, u50, u51, u52, u53, u54, u55, u56, u57, u58, u59, u60, u61, u62, u63, u64, u65, u66, u67, u68, u69, u70, u71, u72, u73, u74, u75, u76, u77, u78, u79, u80, u81, u82, u83, u84, u85, v86, v87, v88, v89, v90, v91, v92, v93, v94, v95, v96, v97, v98, v99, v100, v101, v102, v103, v104, v105, v106, v107, v108, v109, v110, v111, v112, v113, v114, v115, v116, v117, v118, v119, v120, v121, v122, v123, v124, v125, v126, v127, v128, v129, v130, v131, v132, v133, v134, v135, v136, v137, v138, v139, v140, v141, v142, v143, v144, v145], defers := D } W')) :
    tailC.wpIn Fence.wide 6 Tryd.prog Q { tmps := #[u0, p1, p2, p3, .pointer (some ⟨NF, 0, none⟩), .int .i64 (k : Int), .pointer (some ⟨NX, 0, none⟩), u7, u8, u9, u10, u11, u12, u13, u14, u15, u16, u17, u18, u19, u20, u21, u22, u23, u24, u25, u26, u27, u28, u29, u30, u31, u32, u33, u34, u35, u36, u37, u38, u39, u40, u41, u42, u43, u44, u45, u46, u47, u48, u49, u50, u51, u52, u53, u54, u55, u56, u57, u58, u59, u60, u61, u62, u63, u64, u65, u66, u67, u68, u69, u70, u71, u72, u73, u74, u75, u76, u77, u78, u79, u80, u81, u82, u83, u84, u85, u86, u87, u88, u89, u90, u91, u92, u93, u94, u95, u96, u97, u98, u99, u100, u101, u102, u103, u104, u105, u106, u107, u108, u109, u110, u111, u112, u113, u114, u115, u116, u117, u118, u119, u120, u121, u122, u123, u124, u125, u126, u127, u128, u129, u130, u131, u132, u133, u134, u135, u136, u137, u138, u139, u140, u141, u142, u143, u144, u145], defers := D } W := by
  have hwk : wrap64 ((k : Int) + 1) = (k : Int) + 1 := wr_in _ (by omega)
  have hki : (k : Int) < (f.code.length : Int) := by omega
  obtain ⟨op, xa, xb, xc, xn⟩ := x
  obtain ⟨fname, pa, pc, params, regs, words, ca, cc, code⟩ := f
  unfold Is.val at HWX
  dsimp only at *
  generalize wrN _ = wn at *
  generalize code.length = CL at *
  simp only [tailC, Tryd.f8, Option.getD_some, sR, sL, inn]
  gi_wp2_with fail
  refine ⟨trivial, ?_⟩
  refine (callsIn_wide.2 HWX.out).mono ?_
  rintro e w8 ⟨rfl, hb8⟩
  replace x0 := cell_kept_below x0 hb8
  replace x4 := cell_kept_below x4 hb8
  replace y2 := cell_kept_below y2 hb8
  replace y4 := cell_kept_below y4 hb8
  replace hQ : Hid _ := fun v9 v10 v86 v87 v88 v89 v90 v91 v92 v93 v94 v95 v96 v97 v98 v99 v100 v101 v102 v103 v104 v105 v106 v107 v108 v109 v110 v111 v112 v113 v114 v115 v116 v117 v118 v119 v120 v121 v122 v123 v124 v125 v126 v127 v128 v129 v130 v131 v132 v133 v134 v135 v136 v137 v138 v139 v140 v141 v142 v143 v144 v145 => hQ.out v9 v10 v86 v87 v88 v89 v90 v91 v92 v93 v94 v95 v96 v97 v98 v99 v100 v101 v102 v103 v104 v105 v106 v107 v108 v109 v110 v111 v112 v113 v114 v115 v116 v117 v118 v119 v120 v121 v122 v123 v124 v125 v126 v127 v128 v129 v130 v131 v132 v133 v134 v135 v136 v137 v138 v139 v140 v141 v142 v143 v144 v145 w8 hb8
  clear x1 x2 x3 HWX hb8
  gi_wp2_with fail
  refine ⟨trivial, ?_⟩
  refine (callsIn_wide.2 (known_any op _)).mono ?_
  rintro e w9 ⟨rfl, rfl⟩
  rw [HKN]
  by_cases hw1 : wn = -1
  case' pos =>
    have pw : (wn != -1) = false := by simp [hw1]
    clear hw1 HW
    gi_wp2_with fail
    refine ⟨trivial, ?_⟩
    gi_upto_region 27 with fail
  case' neg =>
    have pw : (wn != -1) = true := bne_of hw1
    have pin : (decide (0 ≤ wn) && decide (wn < regs)) = true := by
      have := HW.out.resolve_left hw1
      simpa using this
    clear hw1 HW
    gi_wp2_with fail
    refine ⟨trivial, ?_⟩
    refine (callsIn_wide.2 (within_any wn regs _)).mono ?_
    rintro e w9 ⟨rfl, rfl⟩
    rw [pin]
    gi_upto_region 27 with fail
  all_goals
    rcases HE.out with h | h | h | h | h | h
    all_goals
      have i1 := h.hj1
      have i2 := h.hj2
      have l1 := h.hl
      have l2 := h.hl2
      try have s1 := h.hn1 rfl rfl
      try have s2 := h.hn2 rfl rfl
      try have s0 := h.h0 rfl
      try have s14 := h.h14 rfl rfl
      try have s18 := h.h18 rfl rfl rfl
      clear h HE
      have hu : undef = Value.tuple #[] := rfl
      gi_wp2_with fail
      exact hQ.out _ _ _ _ _ _ _ _ _ _ _ _ _ _ _ _ _ _ _ _ _ _ _ _ _ _ _ _ _ _ _ _ _ _ _ _ _ _ _ _ _ _ _ _ _ _ _ _ _ _ _ _ _ _ _ _ _ _ _ _ _ _
end Go.Proofs.YtlkoigdnakmdlaaDoor
