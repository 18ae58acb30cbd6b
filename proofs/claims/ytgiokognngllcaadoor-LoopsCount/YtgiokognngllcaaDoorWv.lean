/- LoopsCount: its edges. -/
import Derived.Test.YtgiokognngllcaaDoorWt
import Derived.Deep.QuietTactic
import Derived.BigQuiet
namespace Go.Proofs.YtgiokognngllcaaDoor
open Go.RowKit Go.Sort

noncomputable def cntE : Code := cdR (cdR (cdR (cdR (cdR (cdR (cdR ((Tryd.f6.body.getD .skip))))))))
set_option maxRecDepth 100000 in
set_option maxHeartbeats 8000000 in
theorem cnt_edges (w W4 : World) (fn : ByteArray) (fpa : Option Addr) (fpc : Nat) (fps : List Sp) (frg fwd : Int) (fca : Option Addr) (fcc : Nat) (fl : List Is) (FG : Nat)
    (HN1 : Hid (fl.length ≤ 1024)) (HKZ : Hid (kntZ fl = none)) (HB4 : Hid (Below w.heap.size w W4))
    (HRE : Hid (∀ W, Below w.heap.size w W → Calls Tryd.prog 19 #[.agg #[.string fn, .slice fpa fps.length fpc, .int .i64 frg, .int .i64 fwd, .slice fca fl.length fcc]] W (ReP fl W))) (HED : Hid (∀ W, Below w.heap.size w W → Calls Tryd.prog 15 #[.agg #[.string fn, .slice fpa fps.length fpc, .int .i64 frg, .int .i64 fwd, .slice fca fl.length fcc]] W (REP fl W)))
    (HX : Hid (W4.heap[w.heap.size]? = some (.cells #[.string fn, .slice fpa fps.length fpc, .int .i64 frg, .int .i64 fwd, .slice fca fl.length fcc] 25))) (HGN : Hid (LsR W4 (some ⟨FG, 0, none⟩) fl.length (bks fl)))
    (K : Act → World → Prop) (hK : ∀ a W, (cdR cntE).wp Tryd.prog (bodyPost Tryd.prog Tryd.f6 fun e w' => e = .returned (.bool true) ∧ Below w.heap.size w w') a W → K a W) (u0 u2 u3 u4 u5 u8 u9 u10 u11 u12 u13 u14 u15 u16 u17 u18 u19 u20 u21 u22 u23 u24 u25 u26 u27 u28 u29 u30 u31 u32 u33 u34 u35 u36 u37 u38 u39 u40 u41 u42 u43 u44 u45 u46 u47 u48 u49 u50 u51 u52 u53 u54 u55 u56 u57 u58 u59 u60 u61 u62 u63 u64 u65 u66 u67 u68 u69 u70 u71 u72 u73 u74 u75 u76 u77 u78 u79 u80 u81 u82 u83 u84 u85 u86 u87 u88 u89 u90 u91 u92 u93 u94 u95 u96 u97 u98 u99 u100 u101 u102 u103 u104 u105 u106 u107 u108 u109 u110 u111 u112 u113 u114 u115 u116 u117 u118 u119 u120 u121 u122 u123 u124 u125 u126 u127 u128 u129 u130 u131 u132 u133 u134 u135 u136 u137 u138 u139 u140 u141 u142 u143 u144 u145 u146 u147 u148 u149 u150 u151 u152 u153 u154 u155 u156 u157 u158 u159 u160 u161 u162 u163 u164 u165 u166 u167 u168 u169 u170 u171 u172 u173 u174 u175 u176 u177 u178 u179 u180 u181 u182 u183 u184 u185 u186 u187 u188 u189 u190 u191 u192 u193 u194 u195 u196 u197 u198 u199 u200 u201 u202 u203 u204 u205 u206 u207 u208 u209 u210 u211 u212 u213 u214 u215 u216 u217 u218 u219 u220 u221 u222 u223 u224 u225 u226 u227 u228 u229 u230 u231 u232 u233 u234 u235 u236 u237 u238 u239 u240 u241 u242 u243 u244 u245 u246 u247 u248 u249 u250 u251 u252 u253 u254 u255 u256 u257 u258 u259 u260 u261 u262 u263 u264 u265 u266 u267 u268 u269 u270 u271 u272 u273 u274 u275 u276 u277 u278 u279 u280 u281 u282 u283 u284 u285 u286 u287 u288 u289 u290 u291 u292 u293 u294 u295 u296 u297 u298 u299 u300 u301 u302 u303 u304 u305 u306 u307 u308 u309 u310 u311 u312 u313 u314 u315 u316 u317 u318 u319 u320 u321 u322 u323 u324 u325 u326 u327 u328 u329 u330 : Value) :
    (cdL cntE).wp Tryd.prog (Exit.then K (bodyPost Tryd.prog Tryd.f6 fun e w' => e = .returned (.bool true) ∧ Below w.heap.size w w')) { tmps := #[u0, .pointer (some ⟨w.heap.size, 0, none⟩), u2, u3, u4, u5, .int .i64 (fl.length : Int), .slice (some ⟨FG, 0, none⟩) fl.length fl.length, u8, u9, u10, u11, u12, u13, u14, u15, u16, u17, u18, u19, u20, u21, u22, u23, u24, u25, u26, u27, u28, u29, u30, u31, u32, u33, u34, u35, u36, u37, u38, u39, u40, u41, u42, u43, u44, u45, u46, u47, u48, u49, u50, u51, u52, u53, u54, u55, u56, u57, u58, u59, u60, u61, u62, u63, u64, u65, u66, u67, u68, u69, u70, u71, u72, u73, u74, u75, u76, u77, u78, u79, u80, u81, u82, u83, u84, u85, u86, u87, u88, u89, u90, u91, u92, u93, u94, u95, u96, u97, u98, u99, u100, u101, u102, u103, u104, u105, u106, u107, u108, u109, u110, u111, u112, u113, u114, u115, u116, u117, u118, u119, u120, u121, u122, u123, u124, u125, u126, u127, u128, u129, u130, u131, u132, u133, u134, u135, u136, u137, u138, u139, u140, u141, u142, u143, u144, u145, u146, u147, u148, u149, u150, u151, u152, u153, u154, u155, u156, u157, u158, u159, u160, u161, u162, u163, u164, u165, u166, u167, u168, u169, u170, u171, u172, u173, u174, u175, u176, u177, u178, u179, u180, u181, u182, u183, u184, u185, u186, u187, u188, u189, u190, u191, u192, u193, u194, u195, u196, u197, u198, u199, u200, u201, u202, u203, u204, u205, u206, u207, u208, u209, u210, u211, u212, u213, u214, u215, u216, u217, u218, u219, u220, u221, u222, u223, u224, u225, u226, u227, u228, u229, u230, u231, u232, u233, u234, u235, u236, u237, u238, u239, u240, u241, u242, u243, u244, u245, u246, u247, u248, u249, u250, u251, u252, u253, u254, u255, u256, u257, u258, u259, u260, u261, u262, u263, u264, u265, u266, u267, u268, u269, u270, u271, u272, u273, u274, u275, u276, u277, u278, u279, u280, u281, u282, u283, u284, u285, u286, u287, u288, u289, u290, u291, u292, u293, u294, u295, u296, u297, u298, u299, u300, u301, u302, u303, u304, u305, u306, u307, u308, u309, u310, u311, u312, u313, u314, u315, u316, u317, u318, u319, u320, u321, u322, u323, u324, u325, u326, u327, u328, u329, u330], defers := [] } W4 := by
  generalize hq : (bodyPost Tryd.prog Tryd.f6 fun e w' => e = .returned (.bool true) ∧ Below w.heap.size w w') = Q at hK ⊢
  simp only [cntE, Tryd.f6, Option.getD_some, cdR, cdL] at hK ⊢
  subst hq
  have hu : undef = Value.tuple #[] := rfl
  have z0 := cell_of_obj HX.out (j := 0) (v := .string fn) rfl
  have z1 := cell_of_obj HX.out (j := 1) (v := .slice fpa fps.length fpc) rfl
  have z2 := cell_of_obj HX.out (j := 2) (v := .int .i64 frg) rfl
  have z3 := cell_of_obj HX.out (j := 3) (v := .int .i64 fwd) rfl
  have z4 := cell_of_obj HX.out (j := 4) (v := .slice fca fl.length fcc) rfl
  go_wp2_with fail
  refine (HED.out _ HB4.out).mono ?_
  rintro e W5 ⟨v5, rs, rfl, hir, hoe, bb5⟩
  obtain ⟨ea, ec, rfl⟩ := gown_form hoe
  have hel : (edg fl rs).length ≤ 3000 := Nat.le_trans (edg_len hir) (by decide)
  have HEE := Hid.mk' (oe_edr hoe)
  have HB5 : Hid (Below w.heap.size w W5) := Below.on HB4.out bb5
  have HX5 := Hid.mk' (blk_stay HX.out bb5)
  have HG5 := Hid.mk' (HGN.out.stay bb5)
  have HME : Hid (∀ u v, (u, v) ∈ edg fl rs → Rch fl u ∧ v ∈ nxt fl u ∧ u < fl.length ∧ v < fl.length) := fun u v hm => by
    obtain ⟨h1, h2, h3, h4, _⟩ := mem_edg' hir hm
    exact ⟨h1, h2, h3, h4⟩
  have HAH : Hid (∀ u v, (u, v) ∈ ahdE fl (edg fl rs) → Ah fl u v) := fun u v hm => ((mem_ahd hir HN1.out).1 hm).2
  have HLA : Hid ((ahdE fl (edg fl rs)).length ≤ 3000) := Nat.le_trans (ahdE_len fl _) hel
  have HEL : Hid ((edg fl rs).length ≤ 3000) := hel
  have HAV : Hid (∀ u v, (u, v) ∈ ahdE fl (edg fl rs) → u < fl.length ∧ v < fl.length) := fun u v hm => by
    obtain ⟨h1, h2⟩ := (mem_ahd hir HN1.out).1 hm
    exact h2.lt h1
  have hmk : ∀ W, _ := fun W => run_mkN W fl.length (by have := HN1.out; omega)
  obtain ⟨W6, hW6⟩ : ∃ X, X = (W5.alloc (.cells (mkN fl.length) 3)).alloc (.cells #[] 49) := ⟨_, rfl⟩
  have hbA : Below W5.heap.size W5 W6 := by rw [hW6]; exact Below.one (Below.one (Below.refl _ _) _) _
  have HKE0 : Hid (KE fl W5 W5.heap.size fl.length [] (.slice (some ⟨W5.heap.size + 1, 0, none⟩) 0 0) W6) := by
    have m1 := own_mkN W5 fl.length (by have := HN1.out; omega)
    have m2 := row_new (W5.alloc (.cells (mkN fl.length) 3)) 49 2
    rw [World.size_alloc] at m2
    refine ⟨?_, ?_, hbA⟩
    · rw [show ahdE fl [] = [] from rfl, inN_nil, hW6]
      exact own_stay m1 (Below.one (Below.refl _ _) _)
    · rw [hW6]
      exact own_mono m2 (Nat.le_succ _)
  have HW6 := Hid.mk' hW6
  clear hir hoe bb5 z0 z1 z2 z3 z4 hel hbA hW6 HX HGN HB4
  generalize hes : edg fl rs = es at *
  clear hes
  go_wp2_with fail
  clear hmk
  go_loopw [16, 17] (fun t16 t17 wr => ∃ (k : Nat) (vk : Value), k ≤ es.length ∧ t16 = vk ∧ t17 = .int .i64 (k : Int) ∧ KE fl W5 W5.heap.size fl.length (es.take k) vk wr) (fun _ t17 _ => es.length - (intOf t17).toNat)
  case atStart => exact ⟨0, _, Nat.zero_le _, rfl, rfl, by rw [← HW6.out, List.take_zero]; exact HKE0.out⟩
  case round =>
    clear HKE0 HW6
    obtain ⟨k, vk, hk, rfl, rfl, hke⟩ := hrel
    have HKE := Hid.mk' hke
    obtain ⟨ka, kc, rfl⟩ := gown_form hke.k
    have hel := HEL.out
    by_cases hlt : k < es.length
    · obtain ⟨⟨u, v⟩, hx⟩ : ∃ x, es[k]? = some x := ⟨_, List.getElem?_eq_getElem hlt⟩
      obtain ⟨b, o, rfl, h0, h1⟩ := HEE.out k _ hx
      have c0 : wr.cell? ⟨b, o + k * 2, none⟩ = some (.int .i64 (u : Int)) := cell_kept_below h0 hke.b
      have c1 : wr.cell? ⟨b, o + k * 2 + 1, none⟩ = some (.int .i64 (v : Int)) := cell_kept_below h1 hke.b
      have g0 := Hid.mk' h0
      have g1 := Hid.mk' h1
      obtain ⟨m1, m2, m3, m4⟩ := HME.out u v (List.mem_of_getElem? hx)
      have HTK : Hid (es.take (k + 1) = es.take k ++ [(u, v)]) := by
        show _ = _
        rw [List.take_succ_eq_append_getElem hlt, (List.getElem?_eq_some_iff.1 hx).2]
      have hki : (k : Int) < (es.length : Int) := by omega
      have hvi : (v : Int) < (fl.length : Int) := by omega
      obtain ⟨bg, og, ag, cg, eg, r0, hlg⟩ := (HG5.out.stay hke.b) v m4
      cases eg
      rw [Nat.zero_add] at r0
      have HHAS : Hid (∀ W, Below wr.heap.size wr W → Calls Tryd.prog 16 #[.slice ag (bks fl v).length cg, .int .i64 (u : Int)] W fun e w' => e = .returned (.bool (pD (Dm fl v u))) ∧ w' = W) := fun W hb => by
        have h1 := r14has_any ((bks fl v).map (fun (n : Nat) => (n : Int))) (u : Int) ag cg W (by rw [map_nV]; exact hlg.stay hb) (by rw [List.length_map]; have := bks_len fl v; have := HN1.out; omega)
        rw [List.length_map] at h1
        have h2 : decide ((u : Int) ∈ (bks fl v).map (fun (n : Nat) => (n : Int))) = pD (Dm fl v u) := by
          rw [← back_iff m2 m3]
          exact decide_eq_decide.2 ⟨fun h => by
            obtain ⟨y, hy, e⟩ := List.mem_map.1 h
            rwa [show u = y by omega], fun h => List.mem_map.2 ⟨u, h, rfl⟩⟩
        rwa [h2] at h1
      have HML : Hid (v < fl.length) := m4
      have HLT := Hid.mk' hlt
      have hapl : (ahdE fl (es.take k)).length ≤ 3000 := Nat.le_trans (ahdE_len fl _) (by rw [List.length_take]; omega)
      have HDN : Hid (∀ n, Below wr.heap.size wr (wr.drewN n)) := fun n => Below.drewN (Below.refl _ wr) n
      clear hx h0 h1 m1 m2 m3 m4 hlg hke hlt
      cases hd : pD (Dm fl v u)
      · rw [hd] at HHAS
        have HND : Hid (¬ pD (Dm fl v u) = true) := by intro h; rw [h] at hd; cases hd
        have hil := inC_le (ahdE fl (es.take k)) [] v
        obtain ⟨c, hcc⟩ : ∃ c, inC (ahdE fl (es.take k)) [] v = c := ⟨_, rfl⟩
        have hcl : c ≤ 3000 := by omega
        have HAP : Hid (∀ n, _) := fun n => oe_app (HKE.out.stay (HDN.out n)).k (HKE.out.stay (HDN.out n)).b.size (by omega) u v 46
        have HNX : Hid (∀ n v' W', (wr.drewN n).grownBy W' (Value.slice ka (ahdE fl (es.take k)).length kc).ownBlock → Oe W5.heap.size (ahdE fl (es.take k) ++ [(u, v)]) v' W' → W'.cell? ⟨b, o + k * 2, none⟩ = some (.int .i64 (u : Int)) ∧ W'.cell? ⟨b, o + k * 2 + 1, none⟩ = some (.int .i64 (v : Int)) ∧ W'.cell? ⟨W5.heap.size, v, none⟩ = some (.int .i64 (c : Int)) ∧ W'.frozen? ⟨W5.heap.size, v, none⟩ = false ∧ KE fl W5 W5.heap.size fl.length (es.take (k + 1)) v' (W'.setCell ⟨W5.heap.size, v, none⟩ (.int .i64 ((c + 1 : Nat) : Int)))) := fun n v' W' hg ho => by
          have h1 := HKE.out.stay (HDN.out n)
          obtain ⟨h2, h3⟩ := h1.more HND.out hg ho
          have hb' : Below W5.heap.size W5 W' := h1.b.grown hg h1.b.size (fun j e => own_base h1.k j e)
          rw [hcc] at h3
          obtain ⟨g', e', hc', _, _⟩ := on_at h2 (inN_at (ahdE fl (es.take k)) HML.out)
          cases e'
          rw [hcc] at hc'
          obtain ⟨cur, hcu, _⟩ := own_blk h2
          exact ⟨cell_kept_below g0.out hb', cell_kept_below g1.out hb', hc', Lib.frozen_of_heap hcu _, by rw [HTK.out]; exact h3⟩
        have q4 : wrap64 ((c : Int) + 1) = ((c + 1 : Nat) : Int) := by unfold wrap64; omega
        have q5 : (c : Int) + 1 = ((c + 1 : Nat) : Int) := by omega
        have HCC : Hid (c ≤ 3000) := hcl
        clear hd hil hcc q5
        go_upto_region 33 with fail
        go_quiet ((go_at_call 16; exact Calls.quiet_of_same (HHAS.out _ (HDN.out _))))
        go_upto_region 36 with (at_builtin; refine wpl_app rfl _ _ 46 46 _ _ rfl rfl rfl (HAP.out _) ?_; rintro v6 W6 ⟨on6, gr6⟩)
        obtain ⟨s0, s1, s2, s3, s4⟩ := HNX.out _ _ _ gr6 on6
        obtain ⟨a6, k6, rfl⟩ := gown_form on6
        clear on6 gr6 HAP HNX c0 c1 r0
        go_wp2_with fail
        go_roundw
        case rel => exact ⟨k + 1, _, HLT.out, rfl, by go_num, s4⟩
        case measure => simp [intOf]; omega
      · rw [hd] at HHAS
        have HNX : Hid (∀ n, KE fl W5 W5.heap.size fl.length (es.take (k + 1)) (.slice ka (ahdE fl (es.take k)).length kc) (wr.drewN n)) := fun n => by
          rw [HTK.out]
          exact (HKE.out.stay (HDN.out n)).skip hd
        clear hd
        go_upto_region 33 with fail
        go_quiet ((go_at_call 16; exact Calls.quiet_of_same (HHAS.out _ (HDN.out _))))
        go_wp2_with fail
        go_roundw
        case rel => exact ⟨k + 1, _, HLT.out, rfl, by go_num, HNX.out _⟩
        case measure => simp [intOf]; omega
    · have hki : ¬ (k : Int) < (es.length : Int) := by omega
      have ht : es.take k = es := List.take_of_length_le (by omega)
      rw [ht] at hke HKE ⊢
      clear ht hke
      go_upto_region 37 with fail
      exact cnt_start w W5 wr fn fpa fpc fps frg fwd fca fcc fl _ W5.heap.size kc ka HN1 HKZ HB5 HLA HAH HAV HRE HX5 (Hid.mk' HKE.out.i) (Hid.mk' HKE.out.k) (Hid.mk' HKE.out.b) _ (by assumption) _ _ _ _ _ _ _ _ _ _ _ _ _ _ _ _ _ _ _ _ _ _ _ _ _ _ _ _ _ _ _ _ _ _ _ _ _ _ _ _ _ _ _ _ _ _ _ _ _ _ _ _ _ _ _ _ _ _ _ _ _ _ _ _ _ _ _ _ _ _ _ _ _ _ _ _ _ _ _ _ _ _ _ _ _ _ _ _ _ _ _ _ _ _ _ _ _ _ _ _ _ _ _ _ _ _ _ _ _ _ _ _ _ _ _ _ _ _ _ _ _ _ _ _ _ _ _ _ _ _ _ _ _ _ _ _ _ _ _ _ _ _ _ _ _ _ _ _ _ _ _ _ _ _ _ _ _ _ _ _ _ _ _ _ _ _ _ _ _ _ _ _ _ _ _ _ _ _ _ _ _ _ _ _ _ _ _ _ _ _ _ _ _ _ _ _ _ _ _ _ _ _ _ _ _ _ _ _ _ _ _ _ _ _ _ _ _ _ _ _ _ _ _ _ _ _ _ _ _ _ _ _ _ _ _ _ _ _ _ _ _ _ _ _ _ _ _ _ _ _ _ _ _ _ _ _ _ _ _ _ _ _ _ _ _ _ _ _ _ _ _ _ _ _ _ _ _ _ _ _ _ _ _ _ _ _ _ _ _ _ _ _ _ _ _ _ _ _ _ _ _ _ _ _ _ _ _ _ _ _ _ _ _ _ _ _ _ _ _ _ _ _ _ _ _ _ _
end Go.Proofs.YtgiokognngllcaaDoor
