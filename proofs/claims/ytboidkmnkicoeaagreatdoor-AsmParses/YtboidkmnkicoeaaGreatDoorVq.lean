/- The document's own Parse: an instruction's line. -/
import Derived.Test.YtboidkmnkicoeaaGreatDoorVo
namespace Go.Proofs.YtboidkmnkicoeaaGreatDoor
open Go.RowKit Go.Sort

set_option maxRecDepth 100000 in
set_option maxHeartbeats 16000000 in
theorem sw_ins (w : World) (L : Bt) (n R : Nat) (en : Bool) (d : Dr) (gs : List Fn) (qs : List Pl) (vt vf : Value) (B C : Nat) (a7 : Option Addr) (c7 : Nat) (a8 : Option Addr) (c8 : Nat) (w0 : Bt) (ws : List Bt) (T0 : ByteArray) (OI : Int) (W3 : World)
    (hn1 : 1 ≤ n) (hthl : d.ths.length ≤ 10000000) (hnl : n ≤ 10000001) (HLW : Hid (spl 32 L = w0 :: ws ∧ L = w0 ++ fl ws ∧ (32 : UInt8) ∉ w0 ∧ ∀ v ∈ ws, (32 : UInt8) ∉ v)) (HPK : Hid (PrK n d gs qs)) (hLl : L.length ≤ 10000000) (hRN : w.heap.size ≤ R) (hTT : tb w0 = T0) (hOI : opI (opOf w0) = OI)
    (HRF : Hid (Rf w d.ths gs d.hs qs vt vf (.slice a7 d.hs.length c7) (.slice a8 qs.length c8) B C W3)) (HRQ : Hid (RowQ R L ⟨w0.length, 0, 0, ws⟩ W3))
    (Jn Kn : Act → World → Prop) (Xn : Exit → Act → World → Prop) (sl0 sl1 sl2 sl3 sl4 sl5 sl9 sl11 sl15 sl16 sl17 sl18 sl19 sl20 sl21 sl22 sl23 sl24 sl25 sl26 sl27 sl28 sl29 sl30 sl31 sl32 sl33 sl34 sl35 sl36 sl37 sl38 sl39 sl40 sl41 sl42 sl43 sl44 sl45 sl46 sl47 sl48 sl49 sl50 sl51 sl52 sl53 sl54 sl55 sl56 sl57 sl58 sl59 sl60 sl61 sl62 sl63 sl64 sl65 sl66 sl67 sl68 sl69 sl70 sl71 sl72 sl73 sl74 sl75 sl76 sl77 sl78 sl79 sl80 sl81 sl82 sl83 sl84 sl85 sl86 sl87 sl88 sl89 sl90 sl91 sl92 sl93 sl94 sl95 sl96 sl97 sl98 sl99 sl100 sl101 sl102 sl103 sl104 sl105 sl106 sl107 sl108 sl109 sl110 sl111 sl112 sl113 sl114 sl115 sl116 sl117 sl118 sl119 sl120 sl121 sl122 sl123 sl124 sl125 sl126 sl127 sl128 sl129 sl130 sl131 sl132 sl133 sl134 sl135 sl136 sl137 sl138 sl139 sl140 sl141 sl142 sl143 sl144 sl145 sl146 sl147 sl148 sl149 sl150 sl151 sl152 sl153 sl154 sl155 sl156 sl157 sl158 sl159 sl160 sl161 sl162 sl163 sl164 sl165 sl166 sl167 sl168 sl169 sl170 sl171 sl172 sl173 sl174 sl175 sl176 sl177 sl178 sl179 sl180 sl181 sl182 sl183 sl184 sl185 sl186 sl187 sl188 sl189 sl190 sl191 sl192 sl193 sl194 sl195 sl196 sl197 sl198 sl199 sl200 sl201 sl202 sl203 sl204 sl205 sl206 sl207 sl208 sl209 sl210 sl211 sl212 sl213 sl214 sl215 sl216 sl217 sl218 sl219 sl220 sl221 sl222 sl223 sl224 sl225 sl226 sl227 sl228 sl229 sl230 sl231 : Value)
    (hXn : Hid (∀ c (a : Act) d v w', Xn (.panic c) (a.put d v) w' → Xn (.panic c) a w')) (hJn : ∀ (a' : Act) (w' : World), (∃ u3 u4 u5 u7 u8 u15 u16 u17 u18 u19 u20 u24 u25 u26 u27 u28 u29 u30 u31 u32 u33 u34 u35 u36 u37 u38 u39 u40 u41 u42 u43 u44 u45 u46 u47 u48 u49 u50 u51 u52 u53 u54 u55 u56 u57 u58 u59 u60 u61 u62 u63 u64 u65 u66 u67 u68 u69 u70 u71 u72 u73 u74 u75 u76 u77 u78 u79 u80 u81 u82 u83 u84 u85 u86 u87 u88 u89 u90 u91 u92 u93 u94 u95 u96 u97 u98 u99 u100 u101 u102 u103 u104 u105 u106 u107 u108 u109 u110 u111 u112 u113 u114 u115 u116 u117 u118 u119 u120 u121 u122 u123 u124 u125 u126 u127 u128 u129 u130 u131 u132 u133 u134 u135 u136 u137 u138 u139 u140 u141 u142 u143 u144 u145 u146 u147 u148 u149 u150 u151 u152 u153 u154 u155 u156 u157 u158 u159 u160 u161 u162 u163 u164 u165 u166 u167 u168 u169 u170 u171 u172 u173 u174 u175 u176 u177 u178 u179 u180 u181 u182 u183 u184 u185 u186 u187 u188 u189 u190 u191 u192 u193 u194 u195 u196 u197 u198 u199 u200 u201 u202 u203 u204 u205 u206 u207 u208 u209 u210 u211 u212 u213 u214 u215 u216 u217 u218 u219 u220 u221 u222 u223, SwS w L n en R d u7 u8 w' ∧ a' = { tmps := #[sl0, sl1, sl2, u3, u4, u5, .pointer (some ⟨w.heap.size + 1, 0, none⟩), u7, u8, sl9, .int .i64 (n : Int), sl11, .pointer (some ⟨R, 0, none⟩), .string T0, .int .i64 OI, u15, u16, u17, u18, u19, u20, sl21, sl22, sl23, u24, u25, u26, u27, u28, u29, u30, u31, u32, u33, u34, u35, u36, u37, u38, u39, u40, u41, u42, u43, u44, u45, u46, u47, u48, u49, u50, u51, u52, u53, u54, u55, u56, u57, u58, u59, u60, u61, u62, u63, u64, u65, u66, u67, u68, u69, u70, u71, u72, u73, u74, u75, u76, u77, u78, u79, u80, u81, u82, u83, u84, u85, u86, u87, u88, u89, u90, u91, u92, u93, u94, u95, u96, u97, u98, u99, u100, u101, u102, u103, u104, u105, u106, u107, u108, u109, u110, u111, u112, u113, u114, u115, u116, u117, u118, u119, u120, u121, u122, u123, u124, u125, u126, u127, u128, u129, u130, u131, u132, u133, u134, u135, u136, u137, u138, u139, u140, u141, u142, u143, u144, u145, u146, u147, u148, u149, u150, u151, u152, u153, u154, u155, u156, u157, u158, u159, u160, u161, u162, u163, u164, u165, u166, u167, u168, u169, u170, u171, u172, u173, u174, u175, u176, u177, u178, u179, u180, u181, u182, u183, u184, u185, u186, u187, u188, u189, u190, u191, u192, u193, u194, u195, u196, u197, u198, u199, u200, u201, u202, u203, u204, u205, u206, u207, u208, u209, u210, u211, u212, u213, u214, u215, u216, u217, u218, u219, u220, u221, u222, u223, sl224, sl225, sl226, sl227, sl228, sl229, sl230, sl231], defers := [] }) → Jn a' w') (hKn : ∀ (a' : Act) (w' : World), Met Jn a' w' → Kn a' w') (h1 : ¬ n = 1) (hf : ¬ w0 = funcB) (h2 : ¬ n = 2) (k : Nat) (hop : opOf w0 = some k) :
    swC.wp Tryz.prog (Exit.then Kn Xn) { tmps := #[sl0, sl1, sl2, sl3, sl4, sl5, .pointer (some ⟨w.heap.size + 1, 0, none⟩), .slice a7 d.hs.length c7, .slice a8 qs.length c8, sl9, .int .i64 (n : Int), sl11, .pointer (some ⟨R, 0, none⟩), .string T0, .int .i64 OI, sl15, sl16, sl17, sl18, sl19, sl20, sl21, sl22, sl23, sl24, sl25, sl26, sl27, sl28, sl29, sl30, sl31, sl32, sl33, sl34, sl35, sl36, sl37, sl38, sl39, sl40, sl41, sl42, sl43, sl44, sl45, sl46, sl47, sl48, sl49, sl50, sl51, sl52, sl53, sl54, sl55, sl56, sl57, sl58, sl59, sl60, sl61, sl62, sl63, sl64, sl65, sl66, sl67, sl68, sl69, sl70, sl71, sl72, sl73, sl74, sl75, sl76, sl77, sl78, sl79, sl80, sl81, sl82, sl83, sl84, sl85, sl86, sl87, sl88, sl89, sl90, sl91, sl92, sl93, sl94, sl95, sl96, sl97, sl98, sl99, sl100, sl101, sl102, sl103, sl104, sl105, sl106, sl107, sl108, sl109, sl110, sl111, sl112, sl113, sl114, sl115, sl116, sl117, sl118, sl119, sl120, sl121, sl122, sl123, sl124, sl125, sl126, sl127, sl128, sl129, sl130, sl131, sl132, sl133, sl134, sl135, sl136, sl137, sl138, sl139, sl140, sl141, sl142, sl143, sl144, sl145, sl146, sl147, sl148, sl149, sl150, sl151, sl152, sl153, sl154, sl155, sl156, sl157, sl158, sl159, sl160, sl161, sl162, sl163, sl164, sl165, sl166, sl167, sl168, sl169, sl170, sl171, sl172, sl173, sl174, sl175, sl176, sl177, sl178, sl179, sl180, sl181, sl182, sl183, sl184, sl185, sl186, sl187, sl188, sl189, sl190, sl191, sl192, sl193, sl194, sl195, sl196, sl197, sl198, sl199, sl200, sl201, sl202, sl203, sl204, sl205, sl206, sl207, sl208, sl209, sl210, sl211, sl212, sl213, sl214, sl215, sl216, sl217, sl218, sl219, sl220, sl221, sl222, sl223, sl224, sl225, sl226, sl227, sl228, sl229, sl230, sl231], defers := [] } W3 := by
  have hT0 := hTT
  have q1 : ((n : Int) == 1) = false := beq_no (by omega)
  have hs1 : (T0.toList == [102, 117, 110, 99]) = false := by have := str_ne hf; rw [hT0] at this; exact this
  have hs2 : (T0.toList != [102, 117, 110, 99]) = true := by unfold bne; rw [hs1]; rfl
  have q2 : ((n : Int) == 2) = false := beq_no (by omega)
  have hoi : OI = (k : Int) := by rw [← hOI, hop]; rfl
  clear hOI
  subst hoi
  conv => arg 2; whnf
  have hk20 := opOf_lt hop
  obtain ⟨hd, g, hgs⟩ : ∃ hd g, gs = hd ++ [g] := by
    have hne := HPK.out.n3 (by omega)
    exact ⟨gs.dropLast, gs.getLast hne, (List.dropLast_concat_getLast hne).symm⟩
  subst hgs
  obtain ⟨hq, q, hqs⟩ : ∃ hq q, qs = hq ++ [q] := by
    have hne : qs ≠ [] := fun e => by have := HPK.out.ql; rw [e] at this; simp at this
    exact ⟨qs.dropLast, qs.getLast hne, (List.dropLast_concat_getLast hne).symm⟩
  subst hqs
  have hlq : hq.length = hd.length := by have := HPK.out.ql; simp at this; exact this
  have hdl : hd.length ≤ 10000001 := by have := HPK.out.gl; simp at this; omega
  obtain ⟨ta, tc, rfl⟩ := gown_form HRF.out.ot
  obtain ⟨fa, fc, rfl⟩ := gown_form HRF.out.of
  obtain ⟨gf, hfa, _⟩ := own_cellN HRF.out.of (j := 0) (u := ((hd ++ [g]).flatMap Fn.cells)[0]'(by rw [flat_len (k := 5) (fun _ => rfl)]; simp)) (List.getElem?_eq_getElem _)
  obtain ⟨g8, ha8, _⟩ := own_cellN HRF.out.op (j := 0) (u := ((hq ++ [q]).map plV)[0]'(by simp)) (List.getElem?_eq_getElem _)
  subst hfa ha8
  have HIL := Hid.mk' (ins_line (n := n) (by omega) HLW.out.1 hf hop en)
  have HIN := Hid.mk' (instr_any R L (by omega) (k : Int) (by unfold I64; omega) ⟨w0.length, 0, 0, ws⟩ W3 (by have h1 := HRQ.out.1; exact (Array.getElem?_eq_some_iff.1 h1).1) HRQ.out)
  have hgl : (hd ++ [g]).length = hd.length + 1 := by simp
  have hql : (hq ++ [q]).length = hd.length + 1 := by simp [hlq]
  have q3 : decide ((k : Int) < 0) = false := decide_eq_false (by omega)
  have HGL := Hid.mk' hgl
  have HQL := Hid.mk' hql
  have HLQ := Hid.mk' hlq
  have HHF := Hid.mk' hf
  have HH1 := Hid.mk' h1
  have HH2 := Hid.mk' h2
  rw [hgl, hql] at HRF
  rw [hql]
  clear hgl hql hlq hf h1 h2
  go_wp2_with fail
  refine HIN.out.mono ?_
  rintro e W4 ⟨x, hxo, hxop, rfl, hxr, hxq, hxb⟩
  dsimp only
  clear hxop
  have hbx := Below.one (Below.refl W4.heap.size W4) (.cells (cI x) 36)
  have HXL : Hid (∀ k, (codeV g).ownBlock = some k → k < W4.heap.size) := fun k hk => (((HRF.out.only hxb HRQ.out.1 (by omega)).sp hd g rfl).2.lt k hk).2
  have HRF4 := Hid.mk' ((HRF.out.only hxb HRQ.out.1 (by omega)).stay hbx)
  have HRQ4 : Hid (RowQ R L _ (W4.alloc (.cells (cI x) 36))) := ⟨(hbx.block _ (Array.getElem?_eq_some_iff.1 hxq.1).1).trans hxq.1, hxq.2⟩
  have hX := heap_alloc_new W4 (.cells (cI x) 36)
  have HXR := Hid.mk' hxr
  have HXO := Hid.mk' hxo
  clear hbx hxq hxb hxr HRF HRQ HIN
  have mm := cell_of_obj HRF4.out.mb (j := 1) (v := .slice (some ⟨gf, 0, none⟩) (hd.length + 1) fc) rfl
  have w1 : IntKind.i64.wrap (((hd.length + 1 : Nat) : Int) - 1) = (hd.length : Int) := by rw [IntKind.wrap_i64]; omega
  have w2 : wrap64 (((hd.length + 1 : Nat) : Int) - 1) = (hd.length : Int) := by unfold wrap64; omega
  have w3 : wrap64 ((hd.length : Int) + 1 - 1) = (hd.length : Int) := by unfold wrap64; omega
  have w4 : IntKind.i64.wrap ((hd.length : Int) + 1 - 1) = (hd.length : Int) := by rw [IntKind.wrap_i64]; omega
  unfold Is.val
  go_upto_region 17 with fail
  have hgl2 : (hd ++ [g]).length = hd.length + 1 := HGL.out
  have hcl : g.code.length ≤ 10000002 := by
    have h1 := HPK.out.ls g
    obtain ⟨hh, hhl, e⟩ : ∃ hh hhl, d.hs = hh ++ [hhl] := by
      have hne : d.hs ≠ [] := fun e => by have := HPK.out.hl; rw [e] at this; simp at this
      exact ⟨d.hs.dropLast, d.hs.getLast hne, (List.dropLast_concat_getLast hne).symm⟩
    have := h1 hhl (by simp) (by rw [e]; simp)
    omega
  obtain ⟨i0, hi, hz0, hz1, hz2⟩ := info_parts Tryz.infoX
  have HHI := Hid.mk' hi
  have hsp := (HRF4.out.sp hd g rfl).2
  have hcode : (W4.alloc (.cells (cI x) 36)).cell? ⟨gf, hd.length * 5 + 4, none⟩ = some (codeV g) := by
    have hj : ((hd ++ [g]).flatMap Fn.cells)[hd.length * 5 + 4]? = some (codeV g) := by
      rw [List.flatMap_append, List.getElem?_append_right (by rw [flat_len (k := 5) (fun _ => rfl)]; omega), flat_len (k := 5) (fun _ => rfl), show hd.length * 5 + 4 - hd.length * 5 = 4 by omega]
      rfl
    have h1 := HRF4.out.of
    rw [hgl2] at h1
    obtain ⟨g3, e3, hc, _⟩ := own_cellN h1 hj
    injection e3 with e3
    injection e3 with e3
    rw [e3]; exact hc
  have HWL := Hid.mk' hX
  generalize hXW : W4.heap.size = X at *
  generalize W4.alloc (.cells (cI x) 36) = W5 at *
  have hS0 : IxS (w.heap.size + 1) #[.slice ta d.ths.length tc, .slice (some ⟨gf, 0, none⟩) (hd.length + 1) fc] gf (hd.length * 5 + 4) (codeV g) X x W5.drew := ⟨HRF4.out.mb, hcode, hX⟩
  have y1 : ∀ w', IxS (w.heap.size + 1) #[.slice ta d.ths.length tc, .slice (some ⟨gf, 0, none⟩) (hd.length + 1) fc] gf (hd.length * 5 + 4) (codeV g) X x w' → w'.cell? ⟨w.heap.size + 1, 1, none⟩ = some (.slice (some ⟨gf, 0, none⟩) (hd.length + 1) fc) := fun w' h => cell_of_obj h.1 rfl
  have y2 : ∀ w', IxS (w.heap.size + 1) #[.slice ta d.ths.length tc, .slice (some ⟨gf, 0, none⟩) (hd.length + 1) fc] gf (hd.length * 5 + 4) (codeV g) X x w' → w'.cell? ⟨gf, hd.length * 5 + 4, none⟩ = some (.slice g.ca g.code.length g.cc) := fun w' h => h.2.1
  have x0 : ∀ w', IxS (w.heap.size + 1) #[.slice ta d.ths.length tc, .slice (some ⟨gf, 0, none⟩) (hd.length + 1) fc] gf (hd.length * 5 + 4) (codeV g) X x w' → w'.cell? ⟨X, 0, none⟩ = some (.int .i64 x.op) := fun w' h => cell_of_obj h.2.2 rfl
  have x1 : ∀ w', IxS (w.heap.size + 1) #[.slice ta d.ths.length tc, .slice (some ⟨gf, 0, none⟩) (hd.length + 1) fc] gf (hd.length * 5 + 4) (codeV g) X x w' → w'.cell? ⟨X, 1, none⟩ = some (.int .i64 x.a) := fun w' h => cell_of_obj h.2.2 rfl
  have x2 : ∀ w', IxS (w.heap.size + 1) #[.slice ta d.ths.length tc, .slice (some ⟨gf, 0, none⟩) (hd.length + 1) fc] gf (hd.length * 5 + 4) (codeV g) X x w' → w'.cell? ⟨X, 2, none⟩ = some (.int .i64 x.b) := fun w' h => cell_of_obj h.2.2 rfl
  have x3 : ∀ w', IxS (w.heap.size + 1) #[.slice ta d.ths.length tc, .slice (some ⟨gf, 0, none⟩) (hd.length + 1) fc] gf (hd.length * 5 + 4) (codeV g) X x w' → w'.cell? ⟨X, 3, none⟩ = some (.int .i64 x.c) := fun w' h => cell_of_obj h.2.2 rfl
  have x4 : ∀ w', IxS (w.heap.size + 1) #[.slice ta d.ths.length tc, .slice (some ⟨gf, 0, none⟩) (hd.length + 1) fc] gf (hd.length * 5 + 4) (codeV g) X x w' → w'.cell? ⟨X, 4, none⟩ = some (.int .i64 x.n) := fun w' h => cell_of_obj h.2.2 rfl
  have HOV : Hid ((W5.drew.alloc (.cells (cI x) 36)).ownsRow B 36 5 (codeV g) g.code.length (g.code.flatMap Is.cells)) := (own_stay hsp (Below.one (Below.refl _ W5) (.cells (cI x) 36)) : (W5.alloc (.cells (cI x) 36)).ownsRow B 36 5 (codeV g) g.code.length (g.code.flatMap Is.cells))
  have HNW : Hid (∀ jj u, x.cells[jj]? = some u → (W5.drew.alloc (.cells (cI x) 36)).cell? ((⟨W5.heap.size, 0, none⟩ : Addr).add jj) = some u) := newsT W5.drew 36 x.cells
  have m1 : ∀ u ∈ x.cells, u.oneCell' = true := by have := one_is [x]; simpa using this
  have m2 : g.code.length + 1 ≤ maxLen := by unfold maxLen; omega
  have m3 : (g.code.length + 1) * 40 ≤ 140737488355328 := by omega
  have HM4 : Hid (B ≤ (W5.drew.alloc (.cells (cI x) 36)).heap.size) := (by have := HRF4.out.nB.2; show B ≤ (W5.alloc _).heap.size; simp; omega : _ ≤ _)
  have HCO : Hid (∀ (W' : World) (a : Option Addr) (c : Nat), (W5.drew.alloc (.cells (cI x) 36)).grownBy W' (codeV g).ownBlock → W'.ownsRow B 36 5 (.slice a (g.code.length + 1) c) (g.code.length + 1) (g.code.flatMap Is.cells ++ x.cells) → _) := fun W' a c hg ho => (show Rf w d.ths (hd ++ [g]) d.hs (hq ++ [q]) _ (.slice (some ⟨gf, 0, none⟩) (hd ++ [g]).length fc) _ _ B C W5.drew by rw [hgl2]; exact HRF4.out.stay (Below.drew (Below.refl _ _))).code HXO.out (by omega) (.cells (cI x) 36) hg ho
  have hll : (hd.length : Int) < ((hd.length + 1 : Nat) : Int) := by omega
  have hll2 : (hd.length : Int) < (hd.length : Int) + 1 := by omega
  have HXB : Hid (W5.drew.heap[X]? = some (.cells (cI x) 36)) := hX
  have hXs : X < W5.heap.size := (Array.getElem?_eq_some_iff.1 hX).1
  clear hi hsp hcode mm w1 w2 w3 w4 hX HWL
  refine wp_region_K (fun w' => IxS (w.heap.size + 1) #[.slice ta d.ths.length tc, .slice (some ⟨gf, 0, none⟩) (hd.length + 1) fc] gf (hd.length * 5 + 4) (codeV g) X x w') 14 (by kernel_rfl) ?_
  simp only [List.size_toArray, List.length_cons, List.length_nil, Nat.reduceAdd]
  refine wpAnyK_takeL (i := 0) (v := ?tvi0) rfl (by kernel_rfl) (by kernel_rfl) (by kernel_rfl) (by kernel_rfl) (fun x a w1 h => hXn.out x a _ _ w1 h) (by rfl) ?tyi0 hS0 ?tri0
  case tyi0 => (intro w' hSw; go_simp; try with_reducible rfl)
  simp only [Act.put, List.setIfInBounds_toArray, List.set_cons_zero, List.set_cons_succ]
  refine wpAnyK_takeL (i := 1) (v := ?tvi1) rfl (by kernel_rfl) (by kernel_rfl) (by kernel_rfl) (by kernel_rfl) (fun x a w1 h => hXn.out x a _ _ w1 h) (by rfl) ?tyi1 hS0 ?tri1
  case tyi1 => (intro w' hSw; go_simp; try with_reducible rfl)
  simp only [Act.put, List.setIfInBounds_toArray, List.set_cons_zero, List.set_cons_succ]
  refine wpAnyK_takeL (i := 2) (v := ?tvi2) rfl (by kernel_rfl) (by kernel_rfl) (by kernel_rfl) (by kernel_rfl) (fun x a w1 h => hXn.out x a _ _ w1 h) (by rfl) ?tyi2 hS0 ?tri2
  case tyi2 => (intro w' hSw; go_simp; try with_reducible rfl)
  simp only [Act.put, List.setIfInBounds_toArray, List.set_cons_zero, List.set_cons_succ]
  refine wpAnyK_takeL (i := 3) (v := ?tvi3) rfl (by kernel_rfl) (by kernel_rfl) (by kernel_rfl) (by kernel_rfl) (fun x a w1 h => hXn.out x a _ _ w1 h) (by rfl) ?tyi3 hS0 ?tri3
  case tyi3 => (intro w' hSw; go_simp; try with_reducible rfl)
  simp only [Act.put, List.setIfInBounds_toArray, List.set_cons_zero, List.set_cons_succ]
  refine wpAnyK_takeL (i := 4) (v := ?tvi4) rfl (by kernel_rfl) (by kernel_rfl) (by kernel_rfl) (by kernel_rfl) (fun x a w1 h => hXn.out x a _ _ w1 h) (by rfl) ?tyi4 hS0 ?tri4
  case tyi4 => (intro w' hSw; go_simp; try with_reducible rfl)
  simp only [Act.put, List.setIfInBounds_toArray, List.set_cons_zero, List.set_cons_succ]
  refine wpAnyK_takeL (i := 5) (v := ?tvi5) rfl (by kernel_rfl) (by kernel_rfl) (by kernel_rfl) (by kernel_rfl) (fun x a w1 h => hXn.out x a _ _ w1 h) (by rfl) ?tyi5 hS0 ?tri5
  case tyi5 => (intro w' hSw; go_simp; try with_reducible rfl)
  simp only [Act.put, List.setIfInBounds_toArray, List.set_cons_zero, List.set_cons_succ]
  refine wpAnyK_takeL (i := 6) (v := ?tvi6) rfl (by kernel_rfl) (by kernel_rfl) (by kernel_rfl) (by kernel_rfl) (fun x a w1 h => hXn.out x a _ _ w1 h) (by rfl) ?tyi6 hS0 ?tri6
  case tyi6 => (intro w' hSw; go_simp; try with_reducible rfl)
  simp only [Act.put, List.setIfInBounds_toArray, List.set_cons_zero, List.set_cons_succ]
  refine wpAnyK_takeL (i := 7) (v := ?tvi7) rfl (by kernel_rfl) (by kernel_rfl) (by kernel_rfl) (by kernel_rfl) (fun x a w1 h => hXn.out x a _ _ w1 h) (by rfl) ?tyi7 hS0 ?tri7
  case tyi7 => (intro w' hSw; go_simp; try with_reducible rfl)
  simp only [Act.put, List.setIfInBounds_toArray, List.set_cons_zero, List.set_cons_succ]
  refine wpAnyK_takeL (i := 8) (v := ?tvi8) rfl (by kernel_rfl) (by kernel_rfl) (by kernel_rfl) (by kernel_rfl) (fun x a w1 h => hXn.out x a _ _ w1 h) (by rfl) ?tyi8 hS0 ?tri8
  case tyi8 => (intro w' hSw; go_simp; try with_reducible rfl)
  simp only [Act.put, List.setIfInBounds_toArray, List.set_cons_zero, List.set_cons_succ]
  refine wpAnyK_takeL (i := 9) (v := ?tvi9) rfl (by kernel_rfl) (by kernel_rfl) (by kernel_rfl) (by kernel_rfl) (fun x a w1 h => hXn.out x a _ _ w1 h) (by rfl) ?tyi9 hS0 ?tri9
  case tyi9 => (intro w' hSw; go_simp; try with_reducible rfl)
  simp only [Act.put, List.setIfInBounds_toArray, List.set_cons_zero, List.set_cons_succ]
  refine wpAnyK_one (i := 10) (by kernel_rfl) rfl (fun K hK => ?_)
  go_simp
  refine hK.out _ _ (fun _ => hS0.one _) ?_
  clear hK K
  refine wpAnyK_one (i := 11) (by kernel_rfl) rfl (fun K hK => ?_)
  refine step_append_own _ (by rfl) _ _ 32 (by rfl) B 36 i0 (.agg #[.int .i64 0, .int .i64 0, .int .i64 0, .int .i64 0, .int .i64 0]) 5 40 Tryz.underlying32 HHI.out hz0 hz1 hz2 rfl (by decide) _ _ _ (by rfl) HOV.out ⟨W5.heap.size, 0, none⟩ 1 1 x.cells (by rfl) (by rfl) HNW.out m1 m2 m3 HM4.out ?_
  intro v4 w4 own4 grow4
  obtain ⟨a4, c4, rfl⟩ := gown_form own4
  obtain ⟨R4, F4, C4, M4, K4⟩ := HCO.out w4 a4 c4 grow4 own4
  have HXW : Hid (w4.heap[X]? = some (.cells (cI x) 36)) := by
    have h1 : (W5.drew.alloc (.cells (cI x) 36)).heap[X]? = some (.cells (cI x) 36) := (Below.heap_alloc _ _ _ hXs).trans HXB.out
    exact (grow4.block X (by show X < (W5.alloc _).heap.size; simp; omega) (fun e => by have := HXL.out X e.symm; omega)).trans h1
  have S4 : IxS (w.heap.size + 1) #[.slice ta d.ths.length tc, .slice (some ⟨gf, 0, none⟩) (hd.length + 1) fc] gf (hd.length * 5 + 4) (codeV g) X x w4 := ⟨by rw [← hgl2]; exact M4, C4, HXW.out⟩
  have HR5 := Hid.mk' R4
  have HRQ5 := Hid.mk' (K4 R _ HRQ4.out.1)
  refine hK.out _ _ (fun _ => S4) ?_
  clear hK K R4 K4 M4
  refine wpAnyK_one (i := 12) (by kernel_rfl) rfl (fun K hK => ?_)
  go_simp
  refine hK.out _ _ (fun _ => S4) ?_
  clear hK K
  refine wpAnyK_one (i := 13) (by kernel_rfl) rfl (fun K hK => ?_)
  go_simp
  refine hK.out _ _ (fun _ => S4) ?_
  clear hK K
  refine wpAnyK_one (i := 14) (by kernel_rfl) rfl (fun K hK => ?_)
  go_simp
  refine hK.out _ _ (fun h => absurd rfl h) ?_
  refine wpAnyK_done (by kernel_rfl) ?_ _
  clear hK K y1 y2 x0 x1 x2 x3 x4 S4 F4 C4 hS0 HOV HNW HM4 HCO own4 grow4
  generalize w4.setCell ⟨gf, hd.length * 5 + 4, none⟩ (.slice a4 (g.code.length + 1) c4) = W6 at *
  rw [HGL.out] at HR5
  have hR6 := HR5.out
  have hsq := (hR6.sq hq q rfl).2
  have hpc : W6.cell? ⟨g8, hd.length, none⟩ = some (plV q) := by
    have hj : ((hq ++ [q]).map plV)[hd.length]? = some (plV q) := by
      rw [← HLQ.out, List.map_append, List.getElem?_append_right (by simp)]
      simp
    have h1 := hR6.op
    rw [HQL.out] at h1
    obtain ⟨g3, e3, hc, _⟩ := own_cellN h1 hj
    injection e3 with e3
    injection e3 with e3
    rw [e3]; exact hc
  have hqll : q.l.length ≤ 10000002 := by
    have h1 := HPK.out.pl hd.length g (d.hs.getD hd.length 0) q (by simp) (by rw [List.getD_eq_getElem?_getD, List.getElem?_eq_getElem (by rw [HPK.out.hl]; simp)]; rfl) (by rw [← HLQ.out]; simp)
    rw [h1]; simp; exact hcl
  obtain ⟨i1, gi, gz0, gz1, gz2⟩ := info_parts Tryz.infoN
  have HGI := Hid.mk' gi
  obtain ⟨qa, qc, ql⟩ := q
  simp only at hqll
  have HOW : Hid ((W6.alloc (.cells #[.int .i64 (n : Int)] 3)).ownsRow C 3 1 (.slice qa ql.length qc) ql.length (ql.map hC)) := (own_stay hsq (Below.one (Below.refl _ W6) _) : _)
  have HNN : Hid (∀ jj u, ([.int .i64 (n : Int)] : List Value)[jj]? = some u → (W6.alloc (.cells #[.int .i64 (n : Int)] 3)).cell? ((⟨W6.heap.size, 0, none⟩ : Addr).add jj) = some u) := newsT W6 3 [.int .i64 (n : Int)]
  have e2 : ql.length + 1 ≤ maxLen := by unfold maxLen; omega
  have e3 : (ql.length + 1) * 8 ≤ 140737488355328 := by omega
  have HCB : Hid (C ≤ (W6.alloc (.cells #[.int .i64 (n : Int)] 3)).heap.size) := (by have := hR6.nC.2; simp; omega : _ ≤ _)
  have HPL : Hid (∀ (W' : World) (a : Option Addr) (c : Nat), (W6.alloc (.cells #[.int .i64 (n : Int)] 3)).grownBy W' (plV ⟨qa, qc, ql⟩).ownBlock → W'.ownsRow C 3 1 (.slice a (ql.length + 1) c) (ql.length + 1) (ql.map hC ++ [.int .i64 n]) → ((Value.slice a (ql.length + 1) c).ownBlock = (plV ⟨qa, qc, ql⟩).ownBlock ∨ (Value.slice a (ql.length + 1) c).ownBlock = some (W6.alloc (.cells #[.int .i64 (n : Int)] 3)).heap.size) → _) := fun W' a c hg ho hl => (show Rf w d.ths _ d.hs (hq ++ [⟨qa, qc, ql⟩]) _ _ _ (.slice (some ⟨g8, 0, none⟩) (hq ++ [(⟨qa, qc, ql⟩ : Pl)]).length c8) B C W6 by rw [HQL.out]; exact hR6).place (.cells #[.int .i64 (n : Int)] 3) hg ho hl
  replace hpc : W6.cell? ⟨g8, hd.length, none⟩ = some (.slice qa ql.length qc) := hpc
  clear gi hsq hR6
  go_wp2_with (at_builtin; refine wpList_append_own_at _ rfl _ _ 40 rfl C 3 i1 (.int .i64 0) 1 8 Tryz.underlying40 HGI.out gz0 gz1 gz2 rfl (by decide) _ _ _ rfl HOW.out ⟨W6.heap.size, 0, none⟩ 1 1 [.int .i64 (n : Int)] rfl rfl HNN.out (by simp [Value.oneCell']) e2 e3 HCB.out ?_; intro v7' w7 own7 grow7 _ loc7; obtain ⟨a9, c9, rfl⟩ := gown_form own7; obtain ⟨R7, F7, C7, K7⟩ := HPL.out w7 a9 c9 grow7 own7 loc7; rw [HLQ.out] at R7 F7 C7 K7; replace C7 : w7.cell? ⟨g8, hd.length, none⟩ = some (.slice qa ql.length qc) := C7; replace R7 := Hid.mk' R7; replace K7 := Hid.mk' K7)
  go_meet
  case rel =>
    refine ⟨_, { d with fs := d.fs.modify (d.fs.length - 1) (moreI x) }, hd ++ [{ g with ca := a4, cc := c4, code := g.code ++ [x] }], hq ++ [⟨a9, c9, ql ++ [n]⟩], .slice ta d.ths.length tc, .slice (some ⟨gf, 0, none⟩) (hd.length + 1) fc, B, C, ?_, ⟨K7.out R _ HRQ5.out, HRQ4.out.2⟩, ?_⟩
    · have h1 := R7.out
      rw [HQL.out] at h1
      exact h1
    · refine HIL.out.mono fun r' hr' => ?_
      have hxx := HXR.out _ hr'.2
      refine ⟨?_, HPK.out.ins a4 c4 a9 c9, hthl⟩
      unfold addZ
      rw [if_neg (by rw [hr'.1]; omega), if_neg (by rw [hr'.1]; omega), hr'.1, hxx]
end Go.Proofs.YtboidkmnkicoeaaGreatDoor
