/- LoopsCount: ways, what can be reached, who waits first. -/
import Derived.Test.YtgiokognngllcaaDoorWs
import Derived.Deep.QuietTactic
import Derived.BigQuiet
namespace Go.Proofs.YtgiokognngllcaaDoor
open Go.RowKit Go.Sort

noncomputable def cntS : Code := cdR (cdR (cdR (cdR (cdR (cdR (cdR (cdR (cdR (cdR (cdR ((Tryd.f6.body.getD .skip))))))))))))
set_option maxRecDepth 100000 in
set_option maxHeartbeats 8000000 in
theorem cnt_start (w W5 W : World) (fn : ByteArray) (fpa : Option Addr) (fpc : Nat) (fps : List Sp) (frg fwd : Int) (fca : Option Addr) (fcc : Nat) (fl : List Is) (es : List (Nat × Nat)) (gI kc : Nat) (ka : Option Addr)
    (HN1 : Hid (fl.length ≤ 1024)) (HKZ : Hid (kntZ fl = none)) (HB5 : Hid (Below w.heap.size w W5)) (HES : Hid (es.length ≤ 3000)) (HEA : Hid (∀ u v, (u, v) ∈ es → Ah fl u v)) (HEV : Hid (∀ u v, (u, v) ∈ es → u < fl.length ∧ v < fl.length))
    (HRE : Hid (∀ W, Below w.heap.size w W → Calls Tryd.prog 19 #[.agg #[.string fn, .slice fpa fps.length fpc, .int .i64 frg, .int .i64 fwd, .slice fca fl.length fcc]] W (ReP fl W)))
    (HX : Hid (W5.heap[w.heap.size]? = some (.cells #[.string fn, .slice fpa fps.length fpc, .int .i64 frg, .int .i64 fwd, .slice fca fl.length fcc] 25))) (HIN : Hid (On W5.heap.size (inN fl.length es) (.slice (some ⟨gI, 0, none⟩) fl.length fl.length) W)) (HKE : Hid (Oe W5.heap.size es (.slice ka es.length kc) W)) (HBW : Hid (Below W5.heap.size W5 W))
    (K : Act → World → Prop) (hK : ∀ a W, (cdR cntS).wp Tryd.prog (bodyPost Tryd.prog Tryd.f6 fun e w' => e = .returned (.bool true) ∧ Below w.heap.size w w') a W → K a W) (u0 u2 u3 u4 u5 u7 u8 u9 u10 u11 u12 u13 u14 u17 u18 u19 u20 u21 u22 u23 u24 u25 u26 u27 u28 u29 u30 u31 u32 u33 u34 u35 u36 u37 u38 u39 u40 u41 u42 u43 u44 u45 u46 u47 u48 u49 u50 u51 u52 u53 u54 u55 u56 u57 u58 u59 u60 u61 u62 u63 u64 u65 u66 u67 u68 u69 u70 u71 u72 u73 u74 u75 u76 u77 u78 u79 u80 u81 u82 u83 u84 u85 u86 u87 u88 u89 u90 u91 u92 u93 u94 u95 u96 u97 u98 u99 u100 u101 u102 u103 u104 u105 u106 u107 u108 u109 u110 u111 u112 u113 u114 u115 u116 u117 u118 u119 u120 u121 u122 u123 u124 u125 u126 u127 u128 u129 u130 u131 u132 u133 u134 u135 u136 u137 u138 u139 u140 u141 u142 u143 u144 u145 u146 u147 u148 u149 u150 u151 u152 u153 u154 u155 u156 u157 u158 u159 u160 u161 u162 u163 u164 u165 u166 u167 u168 u169 u170 u171 u172 u173 u174 u175 u176 u177 u178 u179 u180 u181 u182 u183 u184 u185 u186 u187 u188 u189 u190 u191 u192 u193 u194 u195 u196 u197 u198 u199 u200 u201 u202 u203 u204 u205 u206 u207 u208 u209 u210 u211 u212 u213 u214 u215 u216 u217 u218 u219 u220 u221 u222 u223 u224 u225 u226 u227 u228 u229 u230 u231 u232 u233 u234 u235 u236 u237 u238 u239 u240 u241 u242 u243 u244 u245 u246 u247 u248 u249 u250 u251 u252 u253 u254 u255 u256 u257 u258 u259 u260 u261 u262 u263 u264 u265 u266 u267 u268 u269 u270 u271 u272 u273 u274 u275 u276 u277 u278 u279 u280 u281 u282 u283 u284 u285 u286 u287 u288 u289 u290 u291 u292 u293 u294 u295 u296 u297 u298 u299 u300 u301 u302 u303 u304 u305 u306 u307 u308 u309 u310 u311 u312 u313 u314 u315 u316 u317 u318 u319 u320 u321 u322 u323 u324 u325 u326 u327 u328 u329 u330 : Value) :
    (cdL cntS).wp Tryd.prog (Exit.then K (bodyPost Tryd.prog Tryd.f6 fun e w' => e = .returned (.bool true) ∧ Below w.heap.size w w')) { tmps := #[u0, .pointer (some ⟨w.heap.size, 0, none⟩), u2, u3, u4, u5, .int .i64 (fl.length : Int), u7, u8, u9, u10, u11, u12, u13, u14, .slice (some ⟨gI, 0, none⟩) fl.length fl.length, .slice ka es.length kc, u17, u18, u19, u20, u21, u22, u23, u24, u25, u26, u27, u28, u29, u30, u31, u32, u33, u34, u35, u36, u37, u38, u39, u40, u41, u42, u43, u44, u45, u46, u47, u48, u49, u50, u51, u52, u53, u54, u55, u56, u57, u58, u59, u60, u61, u62, u63, u64, u65, u66, u67, u68, u69, u70, u71, u72, u73, u74, u75, u76, u77, u78, u79, u80, u81, u82, u83, u84, u85, u86, u87, u88, u89, u90, u91, u92, u93, u94, u95, u96, u97, u98, u99, u100, u101, u102, u103, u104, u105, u106, u107, u108, u109, u110, u111, u112, u113, u114, u115, u116, u117, u118, u119, u120, u121, u122, u123, u124, u125, u126, u127, u128, u129, u130, u131, u132, u133, u134, u135, u136, u137, u138, u139, u140, u141, u142, u143, u144, u145, u146, u147, u148, u149, u150, u151, u152, u153, u154, u155, u156, u157, u158, u159, u160, u161, u162, u163, u164, u165, u166, u167, u168, u169, u170, u171, u172, u173, u174, u175, u176, u177, u178, u179, u180, u181, u182, u183, u184, u185, u186, u187, u188, u189, u190, u191, u192, u193, u194, u195, u196, u197, u198, u199, u200, u201, u202, u203, u204, u205, u206, u207, u208, u209, u210, u211, u212, u213, u214, u215, u216, u217, u218, u219, u220, u221, u222, u223, u224, u225, u226, u227, u228, u229, u230, u231, u232, u233, u234, u235, u236, u237, u238, u239, u240, u241, u242, u243, u244, u245, u246, u247, u248, u249, u250, u251, u252, u253, u254, u255, u256, u257, u258, u259, u260, u261, u262, u263, u264, u265, u266, u267, u268, u269, u270, u271, u272, u273, u274, u275, u276, u277, u278, u279, u280, u281, u282, u283, u284, u285, u286, u287, u288, u289, u290, u291, u292, u293, u294, u295, u296, u297, u298, u299, u300, u301, u302, u303, u304, u305, u306, u307, u308, u309, u310, u311, u312, u313, u314, u315, u316, u317, u318, u319, u320, u321, u322, u323, u324, u325, u326, u327, u328, u329, u330], defers := [] } W := by
  generalize hq : (bodyPost Tryd.prog Tryd.f6 fun e w' => e = .returned (.bool true) ∧ Below w.heap.size w w') = Q at hK ⊢
  simp only [cntS, Tryd.f6, Option.getD_some, cdR, cdL] at hK ⊢
  subst hq
  have hu : undef = Value.tuple #[] := rfl
  have HLI := Hid.mk' (lists_out es fl.length ka kc W HN1.out HES.out (oe_edr HKE.out) (fun x hx => HEV.out x.1 x.2 hx))
  clear HKE
  go_wp2_with fail
  refine HLI.out.mono ?_
  rintro e W7 ⟨FW, vs, rfl, hlg, hFW⟩
  have hb7 : Below W.heap.size W W7 := hlg.b
  have HX7 : Hid (W7.heap[w.heap.size]? = some (.cells #[.string fn, .slice fpa fps.length fpc, .int .i64 frg, .int .i64 fwd, .slice fca fl.length fcc] 25)) := blk_stay HX.out (HBW.out.trans (hb7.mono HBW.out.size))
  have HB7 : Hid (Below w.heap.size w W7) := Below.on HB5.out (Below.on HBW.out hb7)
  have HLG := Hid.mk' hlg
  have HFW : Hid (W.heap.size ≤ FW) := hFW
  have HI7 := Hid.mk' (own_stay HIN.out hb7)
  have HBW7 : Hid (Below W5.heap.size W5 W7) := Below.on HBW.out hb7
  have HGI : Hid (gI < W.heap.size ∧ W5.heap.size ≤ gI) := by
    obtain ⟨cur, hc, hN⟩ := own_blk HIN.out
    exact ⟨(Array.getElem?_eq_some_iff.1 hc).1, hN⟩
  have z0 := cell_of_obj HX7.out (j := 0) (v := .string fn) rfl
  have z1 := cell_of_obj HX7.out (j := 1) (v := .slice fpa fps.length fpc) rfl
  have z2 := cell_of_obj HX7.out (j := 2) (v := .int .i64 frg) rfl
  have z3 := cell_of_obj HX7.out (j := 3) (v := .int .i64 fwd) rfl
  have z4 := cell_of_obj HX7.out (j := 4) (v := .slice fca fl.length fcc) rfl
  clear hlg hFW hb7 HLI HIN
  go_wp2_with fail
  refine (HRE.out _ HB7.out).mono ?_
  rintro e W8 ⟨v8, rs, rfl, hir, hob, bb8⟩
  have hrl := isr_len hir HN1.out
  obtain ⟨ca, cc, rfl⟩ := gown_form hob
  have hb89 := Below.one (Below.refl W8.heap.size W8) (.cells #[] 3)
  have HKM0 : Hid (KM W5 W8 gI fl.length (inN fl.length es) (tdL rs es 0) (.slice (some ⟨W8.heap.size, 0, none⟩) (tdL rs es 0).length 0) (W8.alloc (.cells #[] 3))) :=
    ⟨own_stay (own_stay HI7.out bb8) hb89, row_new W8 3 1, fun k hk _ => Below.heap_alloc W8 _ k hk, Below.on (Below.on HBW7.out bb8) hb89, by simp⟩
  have HCAN : Hid (∀ W', (∀ k, k < W8.heap.size → k ≠ gI → W'.heap[k]? = W8.heap[k]?) → Ob W7.heap.size rs (.slice ca rs.length cc) W') := fun W' hk => by
    refine ⟨hob.1, ?_⟩
    rcases hob.2 with h0 | ⟨g, cap, cur, e, g1, g2, g3⟩
    · exact .inl h0
    · exact .inr ⟨g, cap, cur, e, g1, (hk g (Array.getElem?_eq_some_iff.1 g2).1 (by have := HGI.out.1; have := HBW7.out.size; have := HLG.out.sz; have := HLG.out.b.size; omega)).trans g2, g3⟩
  have HKH0 := Hid.mk' (kh_zero es hir HN1.out)
  have HT1 : Hid (∀ todo : List Nat, todo.Nodup → (∀ v ∈ todo, Rch fl v) → (∀ v ∈ todo, v < fl.length) → todo.length ≤ (rcL rs fl.length).length) := fun todo h1 h2 h3 => kh_le hir HN1.out h1 h2 h3
  have HT2 : Hid (∀ (into todo : List Nat) (i : Nat), Kh fl es into todo i → todo.length ≤ i → (rcL rs fl.length).length ≤ todo.length) := fun into todo i h1 h2 => kh_ge hir HN1.out HKZ.out HEA.out h1 h2
  have HLG8 := Hid.mk' (HLG.out.stay bb8)
  have HGF : Hid (gI < W.heap.size ∧ gI < FW ∧ gI < W8.heap.size ∧ W5.heap.size ≤ W8.heap.size) := ⟨HGI.out.1, Nat.lt_of_lt_of_le HGI.out.1 HFW.out, Nat.lt_of_lt_of_le HGI.out.1 (Nat.le_trans HLG.out.b.size bb8.size), Nat.le_trans HBW7.out.size bb8.size⟩
  have HRL : Hid (rs.length = fl.length) := hrl
  clear hir hrl hob bb8 hb89 z0 z1 z2 z3 z4 HX7 HLG HI7 HBW7 HB7 HGI HFW HRE HX
  go_wp2_with fail
  go_loopw [21, 22, 23] (fun t21 t22 t23 wr => ∃ (v : Nat) (ta : Option Addr) (tc n : Nat), t23 = .int .i64 (v : Int) ∧ v ≤ fl.length ∧ t21 = .slice ta (tdL rs es v).length tc ∧ t22 = .int .i64 (n : Int) ∧ n = (rcL rs v).length ∧ KM W5 W8 gI fl.length (inN fl.length es) (tdL rs es v) (.slice ta (tdL rs es v).length tc) wr) (fun _ _ t23 _ => fl.length - (intOf t23).toNat)
  case atStart => exact ⟨0, _, _, 0, rfl, Nat.zero_le _, rfl, rfl, rfl, HKM0.out⟩
  case round =>
    clear HKM0
    obtain ⟨v, ta, tc, n, rfl, hv, rfl, rfl, hn, hkm⟩ := hrel
    have HKM := Hid.mk' hkm
    have hn1 := HN1.out
    have hnv : n ≤ v := by rw [hn]; exact rcL_len rs v
    have htv := tdL_len rs es v
    have HNN := Hid.mk' hn
    clear hn
    by_cases hlt : v < fl.length
    · have hvi : (v : Int) < (fl.length : Int) := by omega
      have hvr : (v : Int) < (rs.length : Int) := by have := HRL.out; omega
      obtain ⟨bv, hbv⟩ : ∃ b, rs[v]? = some b := ⟨_, List.getElem?_eq_getElem (by have := HRL.out; omega)⟩
      obtain ⟨gc, rfl, d0, k1, k2⟩ := ob_at (HCAN.out wr hkm.kp) hbv
      clear k1 k2
      obtain ⟨bi, ei, d1, k1, k2⟩ := on_at hkm.i (inN_at es hlt)
      cases ei
      clear k1 k2
      have HBV := Hid.mk' hbv
      have HLT := Hid.mk' hlt
      clear hkm hbv hlt
      cases bv
      · have HTD := Hid.mk' (tdL_no (es := es) (.inl HBV.out))
        have HRC := Hid.mk' (rcL_no HBV.out)
        go_wp2_with fail
        go_roundw
        case rel => exact ⟨v + 1, ta, tc, n, by go_num, HLT.out, by rw [HTD.out], rfl, by rw [HRC.out]; exact HNN.out, by rw [HTD.out]; exact HKM.out⟩
        case measure => simp [intOf]; omega
      · have HRC := Hid.mk' (rcL_yes HBV.out)
        have HNX : Hid (n + 1 = (rcL rs (v + 1)).length) := by
          show _ = _
          rw [HRC.out, List.length_append, ← HNN.out]
          rfl
        by_cases hc0 : inC es [] v = 0
        · rw [hc0] at d1
          have HTD := Hid.mk' (tdL_yes HBV.out hc0)
          have HAP := Hid.mk' (on_app HKM.out.t HKM.out.s (by omega) v 38)
          have HGR : Hid (∀ v' W', wr.grownBy W' (Value.slice ta (tdL rs es v).length tc).ownBlock → On W8.heap.size (tdL rs es v ++ [v]) v' W' → KM W5 W8 gI fl.length (inN fl.length es) (tdL rs es v ++ [v]) v' W') := fun v' W' hg ho => HKM.out.more HGF.out.2.2.1 HGF.out.2.2.2 hg ho
          clear hc0
          go_wp2_with (at_builtin; refine wpl_app rfl _ _ 38 38 _ _ rfl rfl rfl HAP.out ?_; rintro v6 W6' ⟨on6, gr6⟩)
          have hk6 := HGR.out _ _ gr6 on6
          obtain ⟨a6, k6, rfl⟩ := gown_form on6
          go_roundw
          case rel => exact ⟨v + 1, a6, k6, n + 1, by go_num, HLT.out, by rw [HTD.out], by go_num, HNX.out, by rw [HTD.out]; exact hk6⟩
          case measure => simp [intOf]; omega
        · have HTD := Hid.mk' (tdL_no (rs := rs) (.inr hc0))
          have q6 : ((inC es [] v : Int) == 0) = false := beq_no (by omega)
          clear hc0
          go_wp2_with fail
          go_roundw
          case rel => exact ⟨v + 1, ta, tc, n + 1, by go_num, HLT.out, by rw [HTD.out], by go_num, HNX.out, by rw [HTD.out]; exact HKM.out⟩
          case measure => simp [intOf]; omega
    · have hvi : ¬ (v : Int) < (fl.length : Int) := by omega
      have hvn : v = fl.length := by omega
      have HCR : Hid ((rcL rs fl.length).length ≤ fl.length) := rcL_len rs _
      have HN2 : Hid (n = (rcL rs fl.length).length) := by
        show _ = _
        rw [← hvn]; exact HNN.out
      have HKM2 : Hid (KM W5 W8 gI fl.length (inN fl.length es) (tdL rs es fl.length) (.slice ta (tdL rs es fl.length).length tc) wr) := by
        have h := HKM.out
        rw [hvn] at h
        exact h
      have HTE : Hid ((tdL rs es v).length = (tdL rs es fl.length).length) := by
        show _ = _
        rw [hvn]
      rw [HTE.out, HN2.out]
      clear hkm hvn HNN HKM HTE HN2 hnv htv
      go_upto_region 48 with fail
      exact cnt_kahn w W5 W W8 _ fl es _ _ gI FW _ tc ta vs HN1 HB5 HES HEA HEV HLG8 HGF HT1 HT2 HCR (Hid.mk' HKH0.out.1) (Hid.mk' HKH0.out.2) HKM2 _ _ (by assumption) (by assumption) _ _ _ _ _ _ _ _ _ _ _ _ _ _ _ _ _ _ _ _ _ _ _ _ _ _ _ _ _ _ _ _ _ _ _ _ _ _ _ _ _ _ _ _ _ _ _ _ _ _ _ _ _ _ _ _ _ _ _ _ _ _ _ _ _ _ _ _ _ _ _ _ _ _ _ _ _ _ _ _ _ _ _ _ _ _ _ _ _ _ _ _ _ _ _ _ _ _ _ _ _ _ _ _ _ _ _ _ _ _ _ _ _ _ _ _ _ _ _ _ _ _ _ _ _ _ _ _ _ _ _ _ _ _ _ _ _ _ _ _ _ _ _ _ _ _ _ _ _ _ _ _ _ _ _ _ _ _ _ _ _ _ _ _ _ _ _ _ _ _ _ _ _ _ _ _ _ _ _ _ _ _ _ _ _ _ _ _ _ _ _ _ _ _ _ _ _ _ _ _ _ _ _ _ _ _ _ _ _ _ _ _ _ _ _ _ _ _ _ _ _ _ _ _ _ _ _ _ _ _ _ _ _ _ _ _ _ _ _ _ _ _ _ _ _ _ _ _ _ _ _ _ _ _ _ _ _ _ _ _ _ _ _ _ _ _ _ _ _ _ _ _ _ _ _ _ _ _ _ _ _ _ _ _ _ _ _ _ _ _ _ _ _ _ _ _ _ _ _ _ _ _ _ _ _ _ _ _ _ _ _ _ _ _ _ _ _ _ _ _ _ _ _ _ _ _ _
end Go.Proofs.YtgiokognngllcaaDoor
