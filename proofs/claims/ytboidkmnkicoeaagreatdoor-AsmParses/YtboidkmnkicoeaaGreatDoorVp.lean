/- The document's own Parse: a function's line. -/
import Derived.Test.YtboidkmnkicoeaaGreatDoorVr
namespace Go.Proofs.YtboidkmnkicoeaaGreatDoor
open Go.RowKit Go.Sort

set_option maxRecDepth 100000 in
set_option maxHeartbeats 16000000 in
theorem sw_func (w : World) (L : Bt) (n R : Nat) (en : Bool) (d : Dr) (gs : List Fn) (qs : List Pl) (vt vf : Value) (B C : Nat) (a7 : Option Addr) (c7 : Nat) (a8 : Option Addr) (c8 : Nat) (w0 : Bt) (ws : List Bt) (T0 TL : ByteArray) (OI : Int) (W3 : World)
    (hn1 : 1 ≤ n) (hthl : d.ths.length ≤ 10000000) (hnl : n ≤ 10000001) (HLW : Hid (spl 32 L = w0 :: ws ∧ L = w0 ++ fl ws ∧ (32 : UInt8) ∉ w0 ∧ ∀ v ∈ ws, (32 : UInt8) ∉ v)) (HPK : Hid (PrK n d gs qs)) (hLl : L.length ≤ 10000000) (hRN : w.heap.size ≤ R) (hw0l : w0.length ≤ L.length) (hTT : tb w0 = T0) (hTL : tb L = TL) (hOI : opI (opOf w0) = OI)
    (HRF : Hid (Rf w d.ths gs d.hs qs vt vf (.slice a7 d.hs.length c7) (.slice a8 qs.length c8) B C W3)) (HRQ : Hid (RowQ R L ⟨w0.length, 0, 0, ws⟩ W3))
    (Jn Kn : Act → World → Prop) (Xn : Exit → Act → World → Prop) (sl0 sl1 sl2 sl3 sl4 sl5 sl9 sl11 sl15 sl16 sl17 sl18 sl19 sl20 sl21 sl22 sl23 sl24 sl25 sl26 sl27 sl28 sl29 sl30 sl31 sl32 sl33 sl34 sl35 sl36 sl37 sl38 sl39 sl40 sl41 sl42 sl43 sl44 sl45 sl46 sl47 sl48 sl49 sl50 sl51 sl52 sl53 sl54 sl55 sl56 sl57 sl58 sl59 sl60 sl61 sl62 sl63 sl64 sl65 sl66 sl67 sl68 sl69 sl70 sl71 sl72 sl73 sl74 sl75 sl76 sl77 sl78 sl79 sl80 sl81 sl82 sl83 sl84 sl85 sl86 sl87 sl88 sl89 sl90 sl91 sl92 sl93 sl94 sl95 sl96 sl97 sl98 sl99 sl100 sl101 sl102 sl103 sl104 sl105 sl106 sl107 sl108 sl109 sl110 sl111 sl112 sl113 sl114 sl115 sl116 sl117 sl118 sl119 sl120 sl121 sl122 sl123 sl124 sl125 sl126 sl127 sl128 sl129 sl130 sl131 sl132 sl133 sl134 sl135 sl136 sl137 sl138 sl139 sl140 sl141 sl142 sl143 sl144 sl145 sl146 sl147 sl148 sl149 sl150 sl151 sl152 sl153 sl154 sl155 sl156 sl157 sl158 sl159 sl160 sl161 sl162 sl163 sl164 sl165 sl166 sl167 sl168 sl169 sl170 sl171 sl172 sl173 sl174 sl175 sl176 sl177 sl178 sl179 sl180 sl181 sl182 sl183 sl184 sl185 sl186 sl187 sl188 sl189 sl190 sl191 sl192 sl193 sl194 sl195 sl196 sl197 sl198 sl199 sl200 sl201 sl202 sl203 sl204 sl205 sl206 sl207 sl208 sl209 sl210 sl211 sl212 sl213 sl214 sl215 sl216 sl217 sl218 sl219 sl220 sl221 sl222 sl223 sl224 sl225 sl226 sl227 sl228 sl229 sl230 sl231 : Value)
    (hXn : Hid (∀ c (a : Act) d v w', Xn (.panic c) (a.put d v) w' → Xn (.panic c) a w')) (hJn : ∀ (a' : Act) (w' : World), (∃ u3 u4 u5 u7 u8 u15 u16 u17 u18 u19 u20 u24 u25 u26 u27 u28 u29 u30 u31 u32 u33 u34 u35 u36 u37 u38 u39 u40 u41 u42 u43 u44 u45 u46 u47 u48 u49 u50 u51 u52 u53 u54 u55 u56 u57 u58 u59 u60 u61 u62 u63 u64 u65 u66 u67 u68 u69 u70 u71 u72 u73 u74 u75 u76 u77 u78 u79 u80 u81 u82 u83 u84 u85 u86 u87 u88 u89 u90 u91 u92 u93 u94 u95 u96 u97 u98 u99 u100 u101 u102 u103 u104 u105 u106 u107 u108 u109 u110 u111 u112 u113 u114 u115 u116 u117 u118 u119 u120 u121 u122 u123 u124 u125 u126 u127 u128 u129 u130 u131 u132 u133 u134 u135 u136 u137 u138 u139 u140 u141 u142 u143 u144 u145 u146 u147 u148 u149 u150 u151 u152 u153 u154 u155 u156 u157 u158 u159 u160 u161 u162 u163 u164 u165 u166 u167 u168 u169 u170 u171 u172 u173 u174 u175 u176 u177 u178 u179 u180 u181 u182 u183 u184 u185 u186 u187 u188 u189 u190 u191 u192 u193 u194 u195 u196 u197 u198 u199 u200 u201 u202 u203 u204 u205 u206 u207 u208 u209 u210 u211 u212 u213 u214 u215 u216 u217 u218 u219 u220 u221 u222 u223, SwS w L n en R d u7 u8 w' ∧ a' = { tmps := #[sl0, sl1, sl2, u3, u4, u5, .pointer (some ⟨w.heap.size + 1, 0, none⟩), u7, u8, sl9, .int .i64 (n : Int), sl11, .pointer (some ⟨R, 0, none⟩), .string T0, .int .i64 OI, u15, u16, u17, u18, u19, u20, sl21, sl22, sl23, u24, u25, u26, u27, u28, u29, u30, u31, u32, u33, u34, u35, u36, u37, u38, u39, u40, u41, u42, u43, u44, u45, u46, u47, u48, u49, u50, u51, u52, u53, u54, u55, u56, u57, u58, u59, u60, u61, u62, u63, u64, u65, u66, u67, u68, u69, u70, u71, u72, u73, u74, u75, u76, u77, u78, u79, u80, u81, u82, u83, u84, u85, u86, u87, u88, u89, u90, u91, u92, u93, u94, u95, u96, u97, u98, u99, u100, u101, u102, u103, u104, u105, u106, u107, u108, u109, u110, u111, u112, u113, u114, u115, u116, u117, u118, u119, u120, u121, u122, u123, u124, u125, u126, u127, u128, u129, u130, u131, u132, u133, u134, u135, u136, u137, u138, u139, u140, u141, u142, u143, u144, u145, u146, u147, u148, u149, u150, u151, u152, u153, u154, u155, u156, u157, u158, u159, u160, u161, u162, u163, u164, u165, u166, u167, u168, u169, u170, u171, u172, u173, u174, u175, u176, u177, u178, u179, u180, u181, u182, u183, u184, u185, u186, u187, u188, u189, u190, u191, u192, u193, u194, u195, u196, u197, u198, u199, u200, u201, u202, u203, u204, u205, u206, u207, u208, u209, u210, u211, u212, u213, u214, u215, u216, u217, u218, u219, u220, u221, u222, u223, sl224, sl225, sl226, sl227, sl228, sl229, sl230, sl231], defers := [] }) → Jn a' w') (hKn : ∀ (a' : Act) (w' : World), Met Jn a' w' → Kn a' w') (h1 : ¬ n = 1) (hf : w0 = funcB) :
    swC.wp Tryz.prog (Exit.then Kn Xn) { tmps := #[sl0, sl1, sl2, sl3, sl4, sl5, .pointer (some ⟨w.heap.size + 1, 0, none⟩), .slice a7 d.hs.length c7, .slice a8 qs.length c8, sl9, .int .i64 (n : Int), sl11, .pointer (some ⟨R, 0, none⟩), .string T0, .int .i64 OI, sl15, sl16, sl17, sl18, sl19, sl20, sl21, sl22, sl23, sl24, sl25, sl26, sl27, sl28, sl29, sl30, sl31, sl32, sl33, sl34, sl35, sl36, sl37, sl38, sl39, sl40, sl41, sl42, sl43, sl44, sl45, sl46, sl47, sl48, sl49, sl50, sl51, sl52, sl53, sl54, sl55, sl56, sl57, sl58, sl59, sl60, sl61, sl62, sl63, sl64, sl65, sl66, sl67, sl68, sl69, sl70, sl71, sl72, sl73, sl74, sl75, sl76, sl77, sl78, sl79, sl80, sl81, sl82, sl83, sl84, sl85, sl86, sl87, sl88, sl89, sl90, sl91, sl92, sl93, sl94, sl95, sl96, sl97, sl98, sl99, sl100, sl101, sl102, sl103, sl104, sl105, sl106, sl107, sl108, sl109, sl110, sl111, sl112, sl113, sl114, sl115, sl116, sl117, sl118, sl119, sl120, sl121, sl122, sl123, sl124, sl125, sl126, sl127, sl128, sl129, sl130, sl131, sl132, sl133, sl134, sl135, sl136, sl137, sl138, sl139, sl140, sl141, sl142, sl143, sl144, sl145, sl146, sl147, sl148, sl149, sl150, sl151, sl152, sl153, sl154, sl155, sl156, sl157, sl158, sl159, sl160, sl161, sl162, sl163, sl164, sl165, sl166, sl167, sl168, sl169, sl170, sl171, sl172, sl173, sl174, sl175, sl176, sl177, sl178, sl179, sl180, sl181, sl182, sl183, sl184, sl185, sl186, sl187, sl188, sl189, sl190, sl191, sl192, sl193, sl194, sl195, sl196, sl197, sl198, sl199, sl200, sl201, sl202, sl203, sl204, sl205, sl206, sl207, sl208, sl209, sl210, sl211, sl212, sl213, sl214, sl215, sl216, sl217, sl218, sl219, sl220, sl221, sl222, sl223, sl224, sl225, sl226, sl227, sl228, sl229, sl230, sl231], defers := [] } W3 := by
  have hT0 := hTT
  have q1 : ((n : Int) == 1) = false := beq_no (by omega)
  have hs1 : (T0.toList == [102, 117, 110, 99]) = true := by have := str_eq hf; rw [hT0] at this; exact this
  have hs2 : (T0.toList != [102, 117, 110, 99]) = false := by unfold bne; rw [hs1]; rfl
  conv => arg 2; whnf
  dsimp only at hJn ⊢
  subst hf
  have HFL := Hid.mk' (func_line (n := n) h1 HLW.out.1 en ws.length (Nat.le_refl _))
  have hwl : ws.length ≤ 10000000 := by
    have h3 := congrArg List.length HLW.out.2.1
    rw [List.length_append] at h3
    have := fl_len ws
    omega
  have HNU : Hid (∀ (q : Qr) (W : World), RowQ R L q W → Calls Tryz.prog 16 #[.pointer (some ⟨R, 0, none⟩)] W fun e w' => ∃ v : Int, I64 v ∧ e = .returned (.int .i64 v) ∧ (∀ z, (q.num L.length).2 = some z → v = z) ∧ RowQ R L (q.num L.length).1 w' ∧ OnlyB R W w') := fun q W h => rnum_any R L (by omega) q W h
  have HWD := Hid.mk' (rword_any' R L (by omega) ⟨4, 0, 0, ws⟩ W3 HRQ.out)
  have HNL := Hid.mk' (word_len_le (n := L.length) (q := ⟨4, 0, 0, ws⟩) HRQ.out.2)
  have hq1l := word_ws_le L.length ⟨4, 0, 0, ws⟩
  have q2 : ((n : Int) == 2) = true ∨ ((n : Int) == 2) = false := by cases ((n : Int) == 2) <;> simp
  have HH1 := Hid.mk' h1
  clear h1
  go_upto_region 20 with fail
  go_cut [96] from 24 to 223 (fun t wx => t = .bool false ∧ wx = W3)
  case first =>
    rcases q2 with q2 | q2
    · go_wp2_with fail
      go_meet
      case rel => exact ⟨rfl, by simp⟩
    · go_wp2_with fail
      go_meet
      case rel => exact ⟨rfl, by simp⟩
  case rest =>
    obtain ⟨rfl, rfl⟩ := hcut
    clear q2
    go_wp2_with fail
    refine HWD.out.mono ?_
    rintro e W4 ⟨rfl, hq4, ho4⟩
    dsimp only
    have HRF4 := Hid.mk' (HRF.out.only ho4 HRQ.out.1 (by omega))
    have HQ4 := Hid.mk' hq4
    have hR4 : R < W4.heap.size := (Array.getElem?_eq_some_iff.1 hq4.1).1
    clear ho4 hq4 HRF HRQ HWD
    generalize hQ1 : Qr.word L.length ⟨4, 0, 0, ws⟩ = Q1 at *
    obtain ⟨q1, on⟩ := Q1
    simp only at hq1l
    unfold wdV
    generalize hnm : on.getD [] = nm at *
    generalize hnmT : tb nm = NM at *
    generalize hbn : on.isSome = bn at *
    have HB1 : Hid (OnlyB R W4 (W4.alloc (.cells #[.string NM, .slice none 0 0, .int .i64 0, .int .i64 0, .slice none 0 0] 34)) ∧ RowQ R L q1 (W4.alloc (.cells #[.string NM, .slice none 0 0, .int .i64 0, .int .i64 0, .slice none 0 0] 34)) ∧ (W4.alloc (.cells #[.string NM, .slice none 0 0, .int .i64 0, .int .i64 0, .slice none 0 0] 34)).heap[W4.heap.size]? = some (.cells #[.string NM, .slice none 0 0, .int .i64 0, .int .i64 0, .slice none 0 0] 34)) := ⟨OnlyB.of_below (Below.one (Below.refl _ _) _), ⟨((Below.one (Below.refl _ W4) _).block _ hR4).trans HQ4.out.1, HQ4.out.2⟩, heap_alloc_new _ _⟩
    go_upto_region 28 with fail
    generalize W4.alloc (.cells #[.string NM, .slice none 0 0, .int .i64 0, .int .i64 0, .slice none 0 0] 34) = V1 at *
    generalize hF : W4.heap.size = F at *
    go_wp2_with fail
    refine (HNU.out q1 V1 HB1.out.2.1).mono ?_
    rintro e V2 ⟨v1, hv1, rfl, hz1, hq2, ho2⟩
    dsimp only
    have hf2 := ho2.blk HB1.out.2.2 (by omega)
    have f2 := cell_of_obj hf2 (j := 2) (v := .int .i64 0) rfl
    have fz2 := fun j => Lib.frozen_of_heap hf2 j
    have hf3 := heap_setCell_same V2 F 2 _ _ (.int .i64 v1) hf2
    have HB2 : Hid (OnlyB R W4 (V2.setCell ⟨F, 2, none⟩ (.int .i64 v1)) ∧ RowQ R L (q1.num L.length).1 (V2.setCell ⟨F, 2, none⟩ (.int .i64 v1)) ∧ (V2.setCell ⟨F, 2, none⟩ (.int .i64 v1)).heap[F]? = some (.cells #[.string NM, .slice none 0 0, .int .i64 v1, .int .i64 0, .slice none 0 0] 34)) := ⟨(HB1.out.1.trans ho2).new (by omega) _ _, ⟨(Below.heap_setCell _ _ _ _ (by simp only; omega)).trans hq2.1, hq2.2⟩, by simpa using hf3⟩
    have HV1 := Hid.mk' (And.intro hv1 hz1)
    clear hf2 hf3 ho2 hq2 hv1 hz1 HB1
    go_upto_region 29 with fail
    generalize V2.setCell ⟨F, 2, none⟩ (.int .i64 v1) = V3 at *
    clear f2 fz2
    go_wp2_with fail
    refine (HNU.out _ V3 HB2.out.2.1).mono ?_
    rintro e V4 ⟨v2, hv2, rfl, hz2, hq3, ho3⟩
    dsimp only
    have hf2 := ho3.blk HB2.out.2.2 (by omega)
    have f2 := cell_of_obj hf2 (j := 3) (v := .int .i64 0) rfl
    have fz2 := fun j => Lib.frozen_of_heap hf2 j
    have hf3 := heap_setCell_same V4 F 3 _ _ (.int .i64 v2) hf2
    have HB3 : Hid (OnlyB R W4 (V4.setCell ⟨F, 3, none⟩ (.int .i64 v2)) ∧ RowQ R L ((q1.num L.length).1.num L.length).1 (V4.setCell ⟨F, 3, none⟩ (.int .i64 v2)) ∧ (V4.setCell ⟨F, 3, none⟩ (.int .i64 v2)).heap[F]? = some (.cells #[.string NM, .slice none 0 0, .int .i64 v1, .int .i64 v2, .slice none 0 0] 34)) := ⟨(HB2.out.1.trans ho3).new (by omega) _ _, ⟨(Below.heap_setCell _ _ _ _ (by simp only; omega)).trans hq3.1, hq3.2⟩, by simpa using hf3⟩
    have HV2 := Hid.mk' (And.intro hv2 hz2)
    clear hf2 hf3 ho3 hq3 hv2 hz2 HB2
    go_upto_block 7 with fail
    generalize V4.setCell ⟨F, 3, none⟩ (.int .i64 v2) = V5 at *
    clear f2 fz2
    have hFR : F ≠ R := by omega
    have hl3 : ((q1.num L.length).1.num L.length).1.ws.length ≤ ws.length := by
      have e1 := num_ws_le L.length q1
      have e2 := num_ws_le L.length (q1.num L.length).1
      omega
    have HT0 : Hid (PrS W4 R F L (prQ L.length ws.length ((q1.num L.length).1.num L.length).1 (some [])) NM v1 v2 V5) := ⟨ws.length, _, [], some [], .slice none 0 0, HB3.out.1, HB3.out.2.2, World.ownsRow_nil _ _ _ _, HB3.out.2.1, fun z hz => (by simp at hz), fun y hy => (by injection hy), hl3, by simp; omega, rfl⟩
    have hRES : prQ L.length ws.length ((q1.num L.length).1.num L.length).1 (some []) = fnQ L.length ws.length ⟨4, 0, 0, ws⟩ := by unfold fnQ; rw [hQ1]
    rw [hRES] at HT0
    have HHF := Hid.mk' hF
    go_cut [18] from 24 to 223 (fun _ wx => PrX W4 R F L (fnQ L.length ws.length ⟨4, 0, 0, ws⟩) NM v1 v2 wx)
    case first =>
      rename_i J2 K2 hJ2 hK2
      exact fn_loop L R F TL NM v1 v2 W4 V5 _ hLl hTL hFR HHF HT0 _ _ _ _ _ _ _ _ _ _ _ _ _ _ _ _ _ _ _ _ _ _ _ _ _ _ _ _ _ _ _ _ _ _ _ _ _ _ _ _ _ _ _ _ _ _ _ _ _ _ _ _ _ _ _ _ _ _ _ _ _ _ _ _ _ _ _ _ _ _ _ _ _ _ _ _ _ _ _ _ _ _ _ _ _ _ _ _ _ _ _ _ _ _ _ _ _ _ _ _ _ _ _ _ _ _ _ _ _ _ _ _ _ _ _ _ _ _ _ _ _ _ _ _ _ _ _ _ _ _ _ _ _ _ _ _ _ _ _ _ _ _ _ _ _ _ _ _ _ _ _ _ _ _ _ _ _ _ _ _ _ _ _ _ _ _ _ _ _ _ _ _ _ _ _ _ _ _ _ _ _ _ _ _ _ _ _ _ _ _ _ _ _ _ _ _ _ _ _ _ _ _ _ _ _ _ _ _ _ _ _ _ _ _ _ _ _ _ _ _ _ _ _ _ _ _ _ _ _ _ _ _ _ (Hid.mk' (by intro x a d v w' h; exact hXn.out x a d v w' h)) hJ2 hK2
    case rest =>
      obtain ⟨q, l, o, vp, hob, hfb, hov, hrq, hli, hlo, hll, hres⟩ := hcut
      obtain ⟨pa, pc, rfl⟩ := gown_form hov
      have HRC := Hid.mk' (HRF4.out.only hob HQ4.out.1 (by omega))
      obtain ⟨ta, tc, rfl⟩ := gown_form HRC.out.ot
      obtain ⟨fa, fc, rfl⟩ := gown_form HRC.out.of
      have hNF : w.heap.size ≤ F := by have := HRF4.out.bl.size; have := HHF.out; omega
      have HGO : Hid (OwnF wc w.heap.size ⟨NM, pa, pc, l, v1, v2, none, 0, []⟩ ∧ GB ⟨NM, pa, pc, l, v1, v2, none, 0, []⟩) := ⟨⟨own_mono hov hNF, World.ownsRow_nil _ _ _ _⟩, by
        show NM.size ≤ _
        rw [← hnmT, tb_size]
        have := HNL.out
        omega, HV1.out.1, HV2.out.1, by show l.length ≤ _; omega, hli, by show (0 : Nat) ≤ _; omega, fun x hx => by simp at hx⟩
      have HRQ' := Hid.mk' hrq
      have HRES := Hid.mk' (And.intro hres hlo)
      have f0 := cell_of_obj hfb (j := 0) (v := .string NM) rfl
      have f1 := cell_of_obj hfb (j := 1) (v := .slice pa l.length pc) rfl
      have f2 := cell_of_obj hfb (j := 2) (v := .int .i64 v1) rfl
      have f3 := cell_of_obj hfb (j := 3) (v := .int .i64 v2) rfl
      have f4 := cell_of_obj hfb (j := 4) (v := .slice none 0 0) rfl
      have mm := cell_of_obj HRC.out.mb (j := 1) (v := .slice fa gs.length fc) rfl
      have hgl := HPK.out.gl
      obtain ⟨i1, gi, gz0, gz1, gz2⟩ := info_parts Tryz.infoF
      have HGI := Hid.mk' gi
      have HOV : Hid ((wc.alloc (.cells #[.string NM, .slice pa l.length pc, .int .i64 v1, .int .i64 v2, .slice none 0 0] 34)).ownsRow w.heap.size 34 5 (.slice fa gs.length fc) gs.length (gs.flatMap Fn.cells)) := HRC.out.of.alloc _
      have HNW : Hid (∀ jj u, ([.string NM, .slice pa l.length pc, .int .i64 v1, .int .i64 v2, .slice none 0 0] : List Value)[jj]? = some u → (wc.alloc (.cells #[.string NM, .slice pa l.length pc, .int .i64 v1, .int .i64 v2, .slice none 0 0] 34)).cell? ((⟨wc.heap.size, 0, none⟩ : Addr).add jj) = some u) := newsT wc 34 [.string NM, .slice pa l.length pc, .int .i64 v1, .int .i64 v2, .slice none 0 0]
      have m2 : gs.length + 1 ≤ maxLen := by unfold maxLen; omega
      have m3 : (gs.length + 1) * 80 ≤ 140737488355328 := by omega
      have HM4 : Hid (w.heap.size ≤ (wc.alloc (.cells #[.string NM, .slice pa l.length pc, .int .i64 v1, .int .i64 v2, .slice none 0 0] 34)).heap.size) := (by have := HRC.out.bl.size; simp; omega : _ ≤ _)
      have HFU : Hid (∀ (W' : World) (v' : Value), (wc.alloc (.cells #[.string NM, .slice pa l.length pc, .int .i64 v1, .int .i64 v2, .slice none 0 0] 34)).grownBy W' (Value.slice fa gs.length fc).ownBlock → W'.ownsRow w.heap.size 34 5 v' (gs.length + 1) (gs.flatMap Fn.cells ++ (⟨NM, pa, pc, l, v1, v2, none, 0, []⟩ : Fn).cells) → _) := fun W' v' hg ho => HRC.out.fun_ (.cells #[.string NM, .slice pa l.length pc, .int .i64 v1, .int .i64 v2, .slice none 0 0] 34) HGO.out ⟨rfl, rfl, rfl⟩ hg ho
      clear gi hob hfb hov hrq hli hlo hres HT0 HB3
      go_upto_region 34 with (at_builtin; refine wpList_append_own _ rfl _ _ 23 rfl w.heap.size 34 i1 (.agg #[.string ⟨#[]⟩, .slice none 0 0, .int .i64 0, .int .i64 0, .slice none 0 0]) 5 80 Tryz.underlying23 HGI.out gz0 gz1 gz2 rfl (by decide) _ _ _ rfl HOV.out ⟨wc.heap.size, 0, none⟩ 1 1 [.string NM, .slice pa l.length pc, .int .i64 v1, .int .i64 v2, .slice none 0 0] rfl rfl HNW.out (by simp [Value.oneCell']) m2 m3 HM4.out ?_; intro v' w1 own1 grow1 _; obtain ⟨a1, c1, rfl⟩ := gown_form own1; obtain ⟨R1, M1, K1⟩ := HFU.out w1 _ grow1 own1; have x1 := cell_of_obj M1 (j := 1) (v := .slice fa gs.length fc) rfl; have z1 := Lib.frozen_of_heap M1 1; replace R1 := Hid.mk' R1; replace K1 := Hid.mk' (K1 R _ HRQ'.out.1))
      clear x1 z1 M1 own1 grow1 HOV HNW HM4 HFU f0 f1 f2 f3 f4 mm HGI gz0 gz1 gz2
      generalize w1.setCell ⟨w.heap.size + 1, 1, none⟩ (.slice a1 (gs.length + 1) c1) = W7 at *
      generalize w1.heap.size = B1 at *
      have hhl : d.hs.length ≤ 10000001 := by have := HPK.out.hl; omega
      have hqll : qs.length ≤ 10000001 := by have := HPK.out.ql; omega
      obtain ⟨i2, ji, jz0, jz1, jz2⟩ := info_parts Tryz.infoN
      have HJI := Hid.mk' ji
      have HO7 : Hid ((W7.alloc (.cells #[.int .i64 (n : Int)] 3)).ownsRow w.heap.size 3 1 (.slice a7 d.hs.length c7) d.hs.length (d.hs.map hC)) := R1.out.oh.alloc _
      have HN7 : Hid (∀ jj u, ([.int .i64 (n : Int)] : List Value)[jj]? = some u → (W7.alloc (.cells #[.int .i64 (n : Int)] 3)).cell? ((⟨W7.heap.size, 0, none⟩ : Addr).add jj) = some u) := newsT W7 3 [.int .i64 (n : Int)]
      have e2 : d.hs.length + 1 ≤ maxLen := by unfold maxLen; omega
      have e3 : (d.hs.length + 1) * 8 ≤ 140737488355328 := by omega
      have HM7 : Hid (w.heap.size ≤ (W7.alloc (.cells #[.int .i64 (n : Int)] 3)).heap.size) := (by have := R1.out.bl.size; simp; omega : _ ≤ _)
      have HHE : Hid (∀ (W' : World) (v' : Value), (W7.alloc (.cells #[.int .i64 (n : Int)] 3)).grownBy W' (Value.slice a7 d.hs.length c7).ownBlock → W'.ownsRow w.heap.size 3 1 v' (d.hs.length + 1) (d.hs.map hC ++ [.int .i64 n]) → (v'.ownBlock = (Value.slice a7 d.hs.length c7).ownBlock ∨ v'.ownBlock = some (W7.alloc (.cells #[.int .i64 (n : Int)] 3)).heap.size) → _) := fun W' v' hg ho hl => R1.out.heads (.cells #[.int .i64 (n : Int)] 3) hg ho hl
      clear ji
      go_upto_region 35 with (at_builtin; refine wpList_append_own_at _ rfl _ _ 40 rfl w.heap.size 3 i2 (.int .i64 0) 1 8 Tryz.underlying40 HJI.out jz0 jz1 jz2 rfl (by decide) _ _ _ rfl HO7.out ⟨W7.heap.size, 0, none⟩ 1 1 [.int .i64 (n : Int)] rfl rfl HN7.out (by simp [Value.oneCell']) e2 e3 HM7.out ?_; intro v' W8 own1 grow1 _ loc1; obtain ⟨a9, c9, rfl⟩ := gown_form own1; obtain ⟨R2, K2⟩ := HHE.out W8 _ grow1 own1 loc1; replace R2 := Hid.mk' R2; replace K2 := Hid.mk' (K2 R _ K1.out))
      clear own1 grow1 loc1 HO7 HN7 HM7 HHE HJI jz0 jz1 jz2 K1 R1 e2 e3
      obtain ⟨i3, li, lz0, lz1, lz2⟩ := info_parts Tryz.infoQ
      have HKI := Hid.mk' li
      obtain ⟨W9, hW9⟩ : ∃ W9, (W8.alloc (.cells #[] 3)).alloc (.cells #[.slice (some ⟨W8.heap.size, 0, none⟩) 0 0] 40) = W9 := ⟨_, rfl⟩
      have hb9 := Below.one (Below.one (Below.refl _ W8) (.cells #[] 3)) (.cells #[.slice (some ⟨W8.heap.size, 0, none⟩) 0 0] 40)
      have HN9 := Hid.mk' (newsT (W8.alloc (.cells #[] 3)) 40 [.slice (some ⟨W8.heap.size, 0, none⟩) 0 0])
      rw [World.size_alloc] at HN9
      have HO9 : Hid (((W8.alloc (.cells #[] 3)).alloc (.cells #[.slice (some ⟨W8.heap.size, 0, none⟩) 0 0] 40)).ownsRow w.heap.size 40 1 (.slice a8 qs.length c8) qs.length (qs.map plV)) := (R2.out.op.alloc _).alloc _
      have e2 : qs.length + 1 ≤ maxLen := by unfold maxLen; omega
      have e3 : (qs.length + 1) * 24 ≤ 140737488355328 := by omega
      have HM9 : Hid (w.heap.size ≤ ((W8.alloc (.cells #[] 3)).alloc (.cells #[.slice (some ⟨W8.heap.size, 0, none⟩) 0 0] 40)).heap.size) := (by have := R2.out.bl.size; simp; omega : _ ≤ _)
      have HPS : Hid (∀ (W' : World) (v' : Value), ((W8.alloc (.cells #[] 3)).alloc (.cells #[.slice (some ⟨W8.heap.size, 0, none⟩) 0 0] 40)).grownBy W' (Value.slice a8 qs.length c8).ownBlock → W'.ownsRow w.heap.size 40 1 v' (qs.length + 1) (qs.map plV ++ [.slice (some ⟨W8.heap.size, 0, none⟩) 0 0]) → _) := fun W' v' hg ho => R2.out.pls rfl hg ho
      clear li hb9 hW9
      go_wp2_with (at_builtin; refine wpList_append_own _ rfl _ _ 54 rfl w.heap.size 40 i3 (.slice none 0 0) 1 24 Tryz.underlying54 HKI.out lz0 lz1 lz2 rfl (by decide) _ _ _ rfl HO9.out ⟨W8.heap.size + 1, 0, none⟩ 1 1 [.slice (some ⟨W8.heap.size, 0, none⟩) 0 0] rfl rfl HN9.out (by simp [Value.oneCell']) e2 e3 HM9.out ?_; intro v' WA own1 grow1 _; obtain ⟨aB, cB, rfl⟩ := gown_form own1; obtain ⟨R3, K3⟩ := HPS.out WA _ grow1 own1; replace R3 := Hid.mk' R3; replace K3 := Hid.mk' (K3 R _ K2.out))
      go_meet
      case rel =>
        refine ⟨q, { d with hs := d.hs ++ [n], fs := d.fs ++ [(⟨NM, pa, pc, l, v1, v2, none, 0, []⟩ : Fn).er] }, gs ++ [⟨NM, pa, pc, l, v1, v2, none, 0, []⟩], qs ++ [⟨some ⟨W8.heap.size, 0, none⟩, 0, []⟩], .slice ta d.ths.length tc, .slice a1 (gs.length + 1) c1, B1, W8.heap.size, R3.out, ⟨K3.out, HRQ'.out.2⟩, ?_⟩
        have h1 := HFL.out
        rw [HRES.out.1] at h1
        refine h1.mono fun r' hr' => ?_
        obtain ⟨g1, g2, g3, g4, g5⟩ := hr'
        rw [HRES.out.1] at g5
        rw [hQ1] at g2 g3 g4
        have hg : (⟨NM, pa, pc, l, v1, v2, none, 0, []⟩ : Fn).er = hdF r' := by
          unfold Fn.er hdF
          simp only at g2 g5
          rw [HRES.out.2 _ g5, HV1.out.2 _ g3, HV2.out.2 _ g4, ← hnmT, ← hnm, g2]
          rfl
        refine ⟨?_, ?_, hthl⟩
        · unfold addZ
          rw [if_neg (by rw [g1]; decide), if_pos g1, hg]
        · rw [hg]
          exact HPK.out.head (by omega) hg _ _
end Go.Proofs.YtboidkmnkicoeaaGreatDoor
