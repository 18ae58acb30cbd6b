/- LoopsCount: all is taken away, walked. -/
import Derived.Test.YtgiokognngllcaaDoorWu
import Derived.Deep.QuietTactic
import Derived.BigQuiet
namespace Go.Proofs.YtgiokognngllcaaDoor
open Go.RowKit Go.Sort

noncomputable def cntK : Code := cdR (cdR (cdR (cdR (cdR (cdR (cdR (cdR (cdR (cdR (cdR (cdR (cdR (cdR (cdR (cdR ((Tryd.f6.body.getD .skip)))))))))))))))))
set_option maxRecDepth 100000 in
set_option maxHeartbeats 8000000 in
theorem cnt_kahn (w W5 W6 W8 W0 : World) (fl : List Is) (es : List (Nat × Nat)) (into td : List Nat) (gI FW cR tc : Nat) (ta : Option Addr) (vs : List Value)
    (HN1 : Hid (fl.length ≤ 1024)) (HB5 : Hid (Below w.heap.size w W5)) (HES : Hid (es.length ≤ 3000)) (HEA : Hid (∀ u v, (u, v) ∈ es → Ah fl u v)) (HEV : Hid (∀ u v, (u, v) ∈ es → u < fl.length ∧ v < fl.length))
    (HLG : Hid (LG W6 fl.length FW W6.heap.size (outL es) vs W8)) (HGF : Hid (gI < W6.heap.size ∧ gI < FW ∧ gI < W8.heap.size ∧ W5.heap.size ≤ W8.heap.size))
    (HT1 : Hid (∀ todo : List Nat, todo.Nodup → (∀ v ∈ todo, Rch fl v) → (∀ v ∈ todo, v < fl.length) → todo.length ≤ cR)) (HT2 : Hid (∀ (into todo : List Nat) (i : Nat), Kh fl es into todo i → todo.length ≤ i → cR ≤ todo.length)) (HCR : Hid (cR ≤ fl.length))
    (HKH : Hid (Kh fl es into td 0)) (HTL : Hid (∀ v ∈ td, v < fl.length)) (HKM : Hid (KM W5 W8 gI fl.length into td (.slice ta td.length tc) W0))
    (K1 K2 : Act → World → Prop) (hK1 : ∀ a W, (cdR (cdL cntK)).wp Tryd.prog (Exit.then K2 (bodyPost Tryd.prog Tryd.f6 fun e w' => e = .returned (.bool true) ∧ Below w.heap.size w w')) a W → K1 a W) (hK2 : ∀ a W, (cdR cntK).wp Tryd.prog (bodyPost Tryd.prog Tryd.f6 fun e w' => e = .returned (.bool true) ∧ Below w.heap.size w w') a W → K2 a W) (u0 u1 u2 u3 u4 u5 u6 u7 u8 u9 u10 u11 u12 u13 u14 u16 u17 u18 u20 u23 u24 u25 u26 u27 u28 u29 u30 u31 u32 u33 u34 u35 u36 u37 u38 u39 u40 u41 u42 u43 u44 u45 u46 u47 u48 u49 u50 u51 u52 u53 u54 u55 u56 u57 u58 u59 u60 u61 u62 u63 u64 u65 u66 u67 u68 u69 u70 u71 u72 u73 u74 u75 u76 u77 u78 u79 u80 u81 u82 u83 u84 u85 u86 u87 u88 u89 u90 u91 u92 u93 u94 u95 u96 u97 u98 u99 u100 u101 u102 u103 u104 u105 u106 u107 u108 u109 u110 u111 u112 u113 u114 u115 u116 u117 u118 u119 u120 u121 u122 u123 u124 u125 u126 u127 u128 u129 u130 u131 u132 u133 u134 u135 u136 u137 u138 u139 u140 u141 u142 u143 u144 u145 u146 u147 u148 u149 u150 u151 u152 u153 u154 u155 u156 u157 u158 u159 u160 u161 u162 u163 u164 u165 u166 u167 u168 u169 u170 u171 u172 u173 u174 u175 u176 u177 u178 u179 u180 u181 u182 u183 u184 u185 u186 u187 u188 u189 u190 u191 u192 u193 u194 u195 u196 u197 u198 u199 u200 u201 u202 u203 u204 u205 u206 u207 u208 u209 u210 u211 u212 u213 u214 u215 u216 u217 u218 u219 u220 u221 u222 u223 u224 u225 u226 u227 u228 u229 u230 u231 u232 u233 u234 u235 u236 u237 u238 u239 u240 u241 u242 u243 u244 u245 u246 u247 u248 u249 u250 u251 u252 u253 u254 u255 u256 u257 u258 u259 u260 u261 u262 u263 u264 u265 u266 u267 u268 u269 u270 u271 u272 u273 u274 u275 u276 u277 u278 u279 u280 u281 u282 u283 u284 u285 u286 u287 u288 u289 u290 u291 u292 u293 u294 u295 u296 u297 u298 u299 u300 u301 u302 u303 u304 u305 u306 u307 u308 u309 u310 u311 u312 u313 u314 u315 u316 u317 u318 u319 u320 u321 u322 u323 u324 u325 u326 u327 u328 u329 u330 : Value) :
    (cdL (cdL cntK)).wp Tryd.prog (Exit.then K1 (Exit.then K2 (bodyPost Tryd.prog Tryd.f6 fun e w' => e = .returned (.bool true) ∧ Below w.heap.size w w'))) { tmps := #[u0, u1, u2, u3, u4, u5, u6, u7, u8, u9, u10, u11, u12, u13, u14, .slice (some ⟨gI, 0, none⟩) fl.length fl.length, u16, u17, u18, .slice (some ⟨FW, 0, none⟩) fl.length fl.length, u20, .slice ta td.length tc, .int .i64 (cR : Int), u23, u24, u25, u26, u27, u28, u29, u30, u31, u32, u33, u34, u35, u36, u37, u38, u39, u40, u41, u42, u43, u44, u45, u46, u47, u48, u49, u50, u51, u52, u53, u54, u55, u56, u57, u58, u59, u60, u61, u62, u63, u64, u65, u66, u67, u68, u69, u70, u71, u72, u73, u74, u75, u76, u77, u78, u79, u80, u81, u82, u83, u84, u85, u86, u87, u88, u89, u90, u91, u92, u93, u94, u95, u96, u97, u98, u99, u100, u101, u102, u103, u104, u105, u106, u107, u108, u109, u110, u111, u112, u113, u114, u115, u116, u117, u118, u119, u120, u121, u122, u123, u124, u125, u126, u127, u128, u129, u130, u131, u132, u133, u134, u135, u136, u137, u138, u139, u140, u141, u142, u143, u144, u145, u146, u147, u148, u149, u150, u151, u152, u153, u154, u155, u156, u157, u158, u159, u160, u161, u162, u163, u164, u165, u166, u167, u168, u169, u170, u171, u172, u173, u174, u175, u176, u177, u178, u179, u180, u181, u182, u183, u184, u185, u186, u187, u188, u189, u190, u191, u192, u193, u194, u195, u196, u197, u198, u199, u200, u201, u202, u203, u204, u205, u206, u207, u208, u209, u210, u211, u212, u213, u214, u215, u216, u217, u218, u219, u220, u221, u222, u223, u224, u225, u226, u227, u228, u229, u230, u231, u232, u233, u234, u235, u236, u237, u238, u239, u240, u241, u242, u243, u244, u245, u246, u247, u248, u249, u250, u251, u252, u253, u254, u255, u256, u257, u258, u259, u260, u261, u262, u263, u264, u265, u266, u267, u268, u269, u270, u271, u272, u273, u274, u275, u276, u277, u278, u279, u280, u281, u282, u283, u284, u285, u286, u287, u288, u289, u290, u291, u292, u293, u294, u295, u296, u297, u298, u299, u300, u301, u302, u303, u304, u305, u306, u307, u308, u309, u310, u311, u312, u313, u314, u315, u316, u317, u318, u319, u320, u321, u322, u323, u324, u325, u326, u327, u328, u329, u330], defers := [] } W0 := by
  generalize hq : (bodyPost Tryd.prog Tryd.f6 fun e w' => e = .returned (.bool true) ∧ Below w.heap.size w w') = Q at hK1 hK2 ⊢
  simp only [cntK, Tryd.f6, Option.getD_some, cdR, cdL] at hK1 hK2 ⊢
  subst hq
  have hu : undef = Value.tuple #[] := rfl
  have HL0 : Hid ((cR : Int) = (cR : Int) - ((0 : Nat) : Int)) := (by omega : _ = _)
  go_wp2_with fail
  go_loopw [21, 22, 24] (fun t21 t22 t24 wr => ∃ (i : Nat) (into todo : List Nat) (ta : Option Addr) (tc : Nat) (L : Int), t24 = .int .i64 (i : Int) ∧ i ≤ todo.length ∧ t21 = .slice ta todo.length tc ∧ t22 = .int .i64 L ∧ L = (cR : Int) - (i : Int) ∧ Kh fl es into todo i ∧ (∀ v ∈ todo, v < fl.length) ∧ KM W5 W8 gI fl.length into todo (.slice ta todo.length tc) wr) (fun _ _ t24 _ => fl.length + 1 - (intOf t24).toNat)
  case atStart => exact ⟨0, into, td, ta, tc, _, rfl, Nat.zero_le _, rfl, rfl, HL0.out, HKH.out, HTL.out, HKM.out⟩
  case round =>
    clear HKH HTL HKM HL0
    obtain ⟨i, into, todo, ta, tc, L, rfl, hi, rfl, rfl, hL, hkh, htl, hkm⟩ := hrel
    have HKH := Hid.mk' hkh
    have HTL := Hid.mk' htl
    have HKM := Hid.mk' hkm
    have htc : todo.length ≤ cR := HT1.out todo hkh.nd hkh.mem htl
    have hcr := HCR.out
    have hn1 := HN1.out
    have HLL := Hid.mk' hL
    clear hkh htl
    by_cases hlt : i < todo.length
    · have hii : (i : Int) < (todo.length : Int) := by omega
      obtain ⟨x, hx⟩ : ∃ x, todo[i]? = some x := ⟨_, List.getElem?_eq_getElem hlt⟩
      have q1 : wrap64 (L - 1) = L - 1 := by unfold wrap64; omega
      have q2 : IntKind.i64.wrap (L - 1) = L - 1 := by rw [IntKind.wrap_i64]; omega
      have HXN : Hid (x < fl.length) := HTL.out x (List.mem_of_getElem? hx)
      have HKX := Hid.mk' (HKH.out.mid hx)
      have HL1 : Hid (L - 1 = (cR : Int) - ((i + 1 : Nat) : Int)) := (by omega : _ = _)
      have HIC : Hid (i < fl.length) := (by omega : _ < _)
      clear hkm hL htc HKH hx hlt
      go_wp2_with fail
      go_loopw [21, 25] (fun t21 t25 wq => ∃ (j : Nat) (into todo : List Nat) (ta : Option Addr) (tc : Nat), t25 = .int .i64 (j : Int) ∧ j ≤ (outL es x).length ∧ t21 = .slice ta todo.length tc ∧ Km fl es into todo i j x ∧ (∀ v ∈ todo, v < fl.length) ∧ KM W5 W8 gI fl.length into todo (.slice ta todo.length tc) wq) (fun _ t25 _ => (outL es x).length - (intOf t25).toNat)
      case atStart => exact ⟨0, into, todo, ta, tc, rfl, Nat.zero_le _, rfl, HKX.out, HTL.out, HKM.out⟩
      case round =>
        clear HKX HTL HKM
        obtain ⟨j, into, todo, ta, tc, rfl, hj, rfl, hkx, htl, hkm⟩ := hrel
        have HKX := Hid.mk' hkx
        have HTL := Hid.mk' htl
        have HKM := Hid.mk' hkm
        have htc : todo.length ≤ cR := HT1.out todo hkx.nd hkx.mem htl
        have hit := (List.getElem?_eq_some_iff.1 hkx.at').1
        have hol : (outL es x).length ≤ 3000 := Nat.le_trans (outL_le es x) HES.out
        obtain ⟨bt, rfl, d0, k1, k2⟩ := on_at hkm.t hkx.at'
        clear k1 k2
        obtain ⟨bw, ow, aw, cw, ew, r0, hlw⟩ := (lg_kp HLG.out HGF.out.1 HGF.out.2.1 hkm.kp) x HXN.out
        cases ew
        rw [Nat.zero_add] at r0
        have hii : (i : Int) < (todo.length : Int) := by omega
        have hxi : (x : Int) < (fl.length : Int) := by have := HXN.out; omega
        clear hkx htl
        by_cases hjl : j < (outL es x).length
        · have hji : (j : Int) < ((outL es x).length : Int) := by omega
          obtain ⟨y, hy⟩ : ∃ y, (outL es x)[j]? = some y := ⟨_, List.getElem?_eq_getElem hjl⟩
          obtain ⟨b2, o2, rfl, e0⟩ : ∃ b o, aw = some ⟨b, o, none⟩ ∧ wr.cell? ⟨b, o + j, none⟩ = some (.int .i64 (y : Int)) := hlw j (nV y) (by rw [List.getElem?_map, hy]; rfl)
          have hed := mem_outL.1 (List.mem_of_getElem? hy)
          have hyl := (HEV.out x y hed).2
          have hah := HEA.out x y hed
          have hry : Rch fl y := .step hah.1 hah.2.1
          obtain ⟨c, hc⟩ := HKX.out.pos hy hyl
          obtain ⟨hc1, hc2⟩ := hc.resolve_right (fun h => h hry)
          obtain ⟨c', hc3, hc4, _⟩ := HKX.out.cnt y hyl
          have hcl : c + 1 ≤ 3000 := by
            rw [hc1] at hc3
            injection hc3 with hc3
            have h1 := inC_le es (todo.take i) y
            have h2 := HES.out
            omega
          have HST := Hid.mk' (HKX.out.step hy hyl hry hc1 hc2)
          have hi1 := on_at hkm.i hc1
          obtain ⟨bi, ei, d1, k1, k2⟩ := hi1
          cases ei
          clear k1 k2
          have f1 : wr.frozen? ⟨gI, y, none⟩ = false := by
            obtain ⟨cur, hcu, _⟩ := own_blk hkm.i
            exact Lib.frozen_of_heap hcu _
          have HPT := Hid.mk' (hkm.put HGF.out.2.2.1 y c)
          have HCY : Hid ((into.set y c)[y]? = some c) := List.getElem?_set_self (List.getElem?_eq_some_iff.1 hc1).1
          have hyi : (y : Int) < (fl.length : Int) := by omega
          have q3 : ((c + 1 : Nat) : Int) - 1 = (c : Int) := by omega
          have q4 : wrap64 (((c + 1 : Nat) : Int) - 1) = (c : Int) := by rw [q3]; unfold wrap64; omega
          have q5 : wrap64 ((c : Int) + 1 - 1) = (c : Int) := by unfold wrap64; omega
          have HYL := Hid.mk' hyl
          have HJL := Hid.mk' hjl
          clear hkm hed hyl hah hry hc hc1 hc2 hc3 hc4 hlw q3 hy hjl HKX HKM
          go_upto_region 57 with fail
          generalize wr.setCell ⟨gI, y, none⟩ (.int .i64 (c : Int)) = Wy at *
          obtain ⟨bi, ei, d2, k1, k2⟩ := on_at HPT.out.i HCY.out
          cases ei
          clear k1 k2
          clear d0 d1 e0 r0 f1
          by_cases hc0 : c = 0
          · subst hc0
            have HAP := Hid.mk' (on_app HPT.out.t HPT.out.s (by omega) y 38)
            rw [if_pos rfl] at HST
            have HGR : Hid (∀ v' W', Wy.grownBy W' (Value.slice (some ⟨bt, 0, none⟩) todo.length tc).ownBlock → On W8.heap.size (todo ++ [y]) v' W' → KM W5 W8 gI fl.length (into.set y 0) (todo ++ [y]) v' W') := fun v' W' hg ho => HPT.out.more HGF.out.2.2.1 HGF.out.2.2.2 hg ho
            have HTL2 : Hid (∀ v ∈ todo ++ [y], v < fl.length) := fun v hv => by
              rcases List.mem_append.1 hv with hv | hv
              · exact HTL.out v hv
              · rw [List.mem_singleton] at hv; subst hv; exact HYL.out
            go_wp2_with (at_builtin; refine wpl_app rfl _ _ 38 38 _ _ rfl rfl rfl HAP.out ?_; rintro v6 W6' ⟨on6, gr6⟩)
            have hk6 := HGR.out _ _ gr6 on6
            obtain ⟨a6, k6, rfl⟩ := gown_form on6
            go_roundw
            case rel => exact ⟨j + 1, _, _, _, _, by go_num, HJL.out, rfl, HST.out, HTL2.out, hk6⟩
            case measure => simp [intOf]; omega
          · have q6 : ((c : Int) == 0) = false := beq_no (by omega)
            rw [if_neg hc0] at HST
            clear hc0
            go_wp2_with fail
            go_roundw
            case rel => exact ⟨j + 1, _, _, _, _, by go_num, HJL.out, rfl, HST.out, HTL.out, HPT.out⟩
            case measure => simp [intOf]; omega
        · have hji : ¬ (j : Int) < ((outL es x).length : Int) := by omega
          have HNX := Hid.mk' (HKX.out.next (by omega))
          have HIT : Hid (i + 1 ≤ todo.length) := hit
          have HIF := HIC.out
          clear hkm hlw
          go_wp2_with fail
          go_roundw
          case rel => exact ⟨i + 1, _, _, _, _, _, by go_num, HIT.out, rfl, rfl, HL1.out, HNX.out, HTL.out, HKM.out⟩
          case measure => simp [intOf]; omega
    · have hii : ¬ (i : Int) < (todo.length : Int) := by omega
      have h2 := HT2.out into todo i HKH.out (by omega)
      have q1 : (L == 0) = true := by rw [beq_iff_eq]; omega
      have HBE : Hid (Below w.heap.size w wr) := Below.on HB5.out hkm.b
      clear hkm h2 htc hL
      go_wp2_with fail
      go_ret
      exact ⟨rfl, HBE.out⟩
end Go.Proofs.YtgiokognngllcaaDoor
