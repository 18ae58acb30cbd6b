/- The document's own Parse: pairs are read. -/
import Derived.Test.YtboidkmnkicoeaaGreatDoorVo
namespace Go.Proofs.YtboidkmnkicoeaaGreatDoor
open Go.RowKit Go.Sort

noncomputable def lpC : Code := (Tryz.f5.body.bind (findB 7)).getD .skip
set_option maxRecDepth 100000 in
set_option maxHeartbeats 16000000 in
theorem fn_loop (L : Bt) (R F : Nat) (TL NM : ByteArray) (v1 v2 : Int) (W4 V5 : World) (RES : Qr × Option (List Sp)) (hLl : L.length ≤ 10000000) (hTL : tb L = TL) (hFR : F ≠ R) (HHF : Hid (W4.heap.size = F)) (HT0 : Hid (PrS W4 R F L RES NM v1 v2 V5))
    (Jm Km : Act → World → Prop) (Xm : Exit → Act → World → Prop) (sl0 sl1 sl2 sl3 sl4 sl5 sl6 sl7 sl8 sl9 sl10 sl11 sl13 sl14 sl15 sl16 sl18 sl19 sl20 sl21 sl22 sl23 sl24 sl25 sl26 sl27 sl28 sl29 sl30 sl31 sl32 sl33 sl34 sl35 sl36 sl37 sl38 sl39 sl40 sl41 sl42 sl43 sl44 sl45 sl46 sl47 sl48 sl49 sl50 sl51 sl52 sl53 sl54 sl55 sl56 sl57 sl58 sl59 sl60 sl61 sl62 sl63 sl64 sl65 sl66 sl67 sl68 sl69 sl70 sl71 sl72 sl73 sl74 sl75 sl76 sl77 sl78 sl79 sl80 sl81 sl82 sl83 sl84 sl85 sl86 sl87 sl88 sl89 sl90 sl91 sl92 sl93 sl94 sl95 sl96 sl97 sl98 sl99 sl100 sl101 sl102 sl103 sl104 sl105 sl106 sl107 sl108 sl109 sl110 sl111 sl112 sl113 sl114 sl115 sl116 sl117 sl118 sl119 sl120 sl121 sl122 sl123 sl124 sl125 sl126 sl127 sl128 sl129 sl130 sl131 sl132 sl133 sl134 sl135 sl136 sl137 sl138 sl139 sl140 sl141 sl142 sl143 sl144 sl145 sl146 sl147 sl148 sl149 sl150 sl151 sl152 sl153 sl154 sl155 sl156 sl157 sl158 sl159 sl160 sl161 sl162 sl163 sl164 sl165 sl166 sl167 sl168 sl169 sl170 sl171 sl172 sl173 sl174 sl175 sl176 sl177 sl178 sl179 sl180 sl181 sl182 sl183 sl184 sl185 sl186 sl187 sl188 sl189 sl190 sl191 sl192 sl193 sl194 sl195 sl196 sl197 sl198 sl199 sl200 sl201 sl202 sl203 sl204 sl205 sl206 sl207 sl208 sl209 sl210 sl211 sl212 sl213 sl214 sl215 sl216 sl217 sl218 sl219 sl220 sl221 sl222 sl223 sl224 sl225 sl226 sl227 sl228 sl229 sl230 sl231 : Value)
    (hXm : Hid (∀ c (a : Act) d v w', Xm (.panic c) (a.put d v) w' → Xm (.panic c) a w')) (hJm : ∀ (a' : Act) (w' : World), (∃ u18 u24 u25 u26 u27 u28 u29 u30 u31 u32 u33 u34 u35 u36 u37 u38 u39 u40 u41 u42 u43 u44 u45 u46 u47 u48 u49 u50 u51 u52 u53 u54 u55 u56 u57 u58 u59 u60 u61 u62 u63 u64 u65 u66 u67 u68 u69 u70 u71 u72 u73 u74 u75 u76 u77 u78 u79 u80 u81 u82 u83 u84 u85 u86 u87 u88 u89 u90 u91 u92 u93 u94 u95 u96 u97 u98 u99 u100 u101 u102 u103 u104 u105 u106 u107 u108 u109 u110 u111 u112 u113 u114 u115 u116 u117 u118 u119 u120 u121 u122 u123 u124 u125 u126 u127 u128 u129 u130 u131 u132 u133 u134 u135 u136 u137 u138 u139 u140 u141 u142 u143 u144 u145 u146 u147 u148 u149 u150 u151 u152 u153 u154 u155 u156 u157 u158 u159 u160 u161 u162 u163 u164 u165 u166 u167 u168 u169 u170 u171 u172 u173 u174 u175 u176 u177 u178 u179 u180 u181 u182 u183 u184 u185 u186 u187 u188 u189 u190 u191 u192 u193 u194 u195 u196 u197 u198 u199 u200 u201 u202 u203 u204 u205 u206 u207 u208 u209 u210 u211 u212 u213 u214 u215 u216 u217 u218 u219 u220 u221 u222 u223, PrX W4 R F L RES NM v1 v2 w' ∧ a' = { tmps := #[sl0, sl1, sl2, sl3, sl4, sl5, sl6, sl7, sl8, sl9, sl10, sl11, .pointer (some ⟨R, 0, none⟩), sl13, sl14, sl15, sl16, .pointer (some ⟨F, 0, none⟩), u18, sl19, sl20, sl21, sl22, sl23, u24, u25, u26, u27, u28, u29, u30, u31, u32, u33, u34, u35, u36, u37, u38, u39, u40, u41, u42, u43, u44, u45, u46, u47, u48, u49, u50, u51, u52, u53, u54, u55, u56, u57, u58, u59, u60, u61, u62, u63, u64, u65, u66, u67, u68, u69, u70, u71, u72, u73, u74, u75, u76, u77, u78, u79, u80, u81, u82, u83, u84, u85, u86, u87, u88, u89, u90, u91, u92, u93, u94, u95, u96, u97, u98, u99, u100, u101, u102, u103, u104, u105, u106, u107, u108, u109, u110, u111, u112, u113, u114, u115, u116, u117, u118, u119, u120, u121, u122, u123, u124, u125, u126, u127, u128, u129, u130, u131, u132, u133, u134, u135, u136, u137, u138, u139, u140, u141, u142, u143, u144, u145, u146, u147, u148, u149, u150, u151, u152, u153, u154, u155, u156, u157, u158, u159, u160, u161, u162, u163, u164, u165, u166, u167, u168, u169, u170, u171, u172, u173, u174, u175, u176, u177, u178, u179, u180, u181, u182, u183, u184, u185, u186, u187, u188, u189, u190, u191, u192, u193, u194, u195, u196, u197, u198, u199, u200, u201, u202, u203, u204, u205, u206, u207, u208, u209, u210, u211, u212, u213, u214, u215, u216, u217, u218, u219, u220, u221, u222, u223, sl224, sl225, sl226, sl227, sl228, sl229, sl230, sl231], defers := [] }) → Jm a' w') (hKm : ∀ (a' : Act) (w' : World), Met Jm a' w' → Km a' w') :
    lpC.wp Tryz.prog (Exit.then Km Xm) { tmps := #[sl0, sl1, sl2, sl3, sl4, sl5, sl6, sl7, sl8, sl9, sl10, sl11, .pointer (some ⟨R, 0, none⟩), sl13, sl14, sl15, sl16, .pointer (some ⟨F, 0, none⟩), sl18, sl19, sl20, sl21, sl22, sl23, sl24, sl25, sl26, sl27, sl28, sl29, sl30, sl31, sl32, sl33, sl34, sl35, sl36, sl37, sl38, sl39, sl40, sl41, sl42, sl43, sl44, sl45, sl46, sl47, sl48, sl49, sl50, sl51, sl52, sl53, sl54, sl55, sl56, sl57, sl58, sl59, sl60, sl61, sl62, sl63, sl64, sl65, sl66, sl67, sl68, sl69, sl70, sl71, sl72, sl73, sl74, sl75, sl76, sl77, sl78, sl79, sl80, sl81, sl82, sl83, sl84, sl85, sl86, sl87, sl88, sl89, sl90, sl91, sl92, sl93, sl94, sl95, sl96, sl97, sl98, sl99, sl100, sl101, sl102, sl103, sl104, sl105, sl106, sl107, sl108, sl109, sl110, sl111, sl112, sl113, sl114, sl115, sl116, sl117, sl118, sl119, sl120, sl121, sl122, sl123, sl124, sl125, sl126, sl127, sl128, sl129, sl130, sl131, sl132, sl133, sl134, sl135, sl136, sl137, sl138, sl139, sl140, sl141, sl142, sl143, sl144, sl145, sl146, sl147, sl148, sl149, sl150, sl151, sl152, sl153, sl154, sl155, sl156, sl157, sl158, sl159, sl160, sl161, sl162, sl163, sl164, sl165, sl166, sl167, sl168, sl169, sl170, sl171, sl172, sl173, sl174, sl175, sl176, sl177, sl178, sl179, sl180, sl181, sl182, sl183, sl184, sl185, sl186, sl187, sl188, sl189, sl190, sl191, sl192, sl193, sl194, sl195, sl196, sl197, sl198, sl199, sl200, sl201, sl202, sl203, sl204, sl205, sl206, sl207, sl208, sl209, sl210, sl211, sl212, sl213, sl214, sl215, sl216, sl217, sl218, sl219, sl220, sl221, sl222, sl223, sl224, sl225, sl226, sl227, sl228, sl229, sl230, sl231], defers := [] } V5 := by
  have HNU : Hid (∀ (q : Qr) (W : World), RowQ R L q W → Calls Tryz.prog 16 #[.pointer (some ⟨R, 0, none⟩)] W fun e w' => ∃ v : Int, I64 v ∧ e = .returned (.int .i64 v) ∧ (∀ z, (q.num L.length).2 = some z → v = z) ∧ RowQ R L (q.num L.length).1 w' ∧ OnlyB R W w') := fun q W h => rnum_any R L (by omega) q W h
  conv => arg 2; whnf
  dsimp only at hJm ⊢
  go_wp2_with fail
  go_loopw [18] (fun _ wq => PrS W4 R F L RES NM v1 v2 wq) (fun _ wq => L.length + 1 - atOf R wq)
  case atStart => exact HT0.out
  case round =>
    obtain ⟨k, q, l, o, vp, hob, hfb, hov, hrq, hli, hlo, hwk, hlw, hth⟩ := hrel
    obtain ⟨k0, k1, k2, k3⟩ := hrq.1.cells
    have k0' : wr.drew.cell? ⟨R, 0, none⟩ = some (.string TL) := by rw [← hTL]; exact k0
    have k1' : wr.drew.cell? ⟨R, 1, none⟩ = some (.int .i64 q.a) := k1
    have k2' : wr.drew.cell? ⟨R, 2, none⟩ = some (.int .i64 q.e) := k2
    have hTLs : TL.size = L.length := by rw [← hTL]; exact tb_size L
    have HOB := Hid.mk' hob.drew
    have HFB : Hid (wr.drew.heap[F]? = some (.cells #[.string NM, vp, .int .i64 v1, .int .i64 v2, .slice none 0 0] 34)) := hfb
    have HOV : Hid (wr.drew.ownsRow F 38 2 vp l.length (l.flatMap spC)) := own_stay hov (Below.drew (Below.refl _ _))
    have HQd : Hid (RowQ R L q wr.drew) := ⟨hrq.1, hrq.2⟩
    clear k0 k1 k2 k3 HT0
    have HEX2 : Hid (q.e ≠ 0 ∨ q.ws = [] → PrX W4 R F L RES NM v1 v2 wr.drew) := fun hst => by
      rw [prQ_stop hst] at hth
      exact ⟨q, l, o, vp, HOB.out, HFB.out, HOV.out, HQd.out, hli, hlo, by omega, hth.symm⟩
    by_cases he : q.e ≠ 0
    · have q1' : (q.e == 0) = false := beq_no he
      have HX2 := Hid.mk' (HEX2.out (.inl he))
      clear hob hfb hov hrq hth hlo hli HEX2 he hwk hlw
      go_upto_region 30 with fail
      go_region
      generalize wr.drew = V at *
      go_wp2_with fail
      go_meet
      case rel => exact HX2.out
    · have he0 : q.e = 0 := by simpa using he
      rw [he0] at k2'
      clear he
      by_cases hnil : q.ws = []
      · have hws := hnil
        clear hnil
        have hae : q.a = L.length := by have := hrq.2; rw [hws] at this; exact this.nil
        have c1 : decide ((q.a : Int) < (TL.size : Int)) = false := decide_eq_false (by omega)
        have c2 : decide (q.a < TL.size) = false := decide_eq_false (by omega)
        have c3 : ¬ q.a < TL.size := by omega
        have HX2 := Hid.mk' (HEX2.out (.inr hws))
        clear hob hfb hov hrq hth hlo hli HEX2 he0 hwk hlw hws hae
        go_upto_region 30 with fail
        go_region
        generalize wr.drew = V at *
        go_wp2_with fail
        go_meet
        case rel => exact HX2.out
      · obtain ⟨v, t, hws⟩ := List.exists_cons_of_ne_nil hnil
        clear hnil
        have haw := hrq.2
        rw [hws] at haw
        have hal := haw.lt
        have c1 : decide ((q.a : Int) < (TL.size : Int)) = true := decide_eq_true (by omega)
        have c2 : decide (q.a < TL.size) = true := decide_eq_true (by omega)
        have c3 : q.a < TL.size := by omega
        obtain ⟨pa, pc, rfl⟩ := gown_form HOV.out
        obtain ⟨k', rfl⟩ : ∃ k', k = k' + 1 := ⟨k - 1, by rw [hws] at hwk; simp at hwk; omega⟩
        rw [prQ, if_neg (by rw [hws]; simp [he0])] at hth
        have HTH := Hid.mk' hth
        have HLO := Hid.mk' hlo
        have HLI := Hid.mk' hli
        have hnq : (q.num L.length).1.a = q.a + 1 + v.length ∧ (q.num L.length).1.ws = t := by
          obtain ⟨qa, qe, qp, qw⟩ := q
          simp only at he0 hws
          subst he0 hws
          cases hv : numB v with
          | none => rw [num_no hv]; exact ⟨rfl, rfl⟩
          | some z => rw [num_yes hv]; exact ⟨rfl, rfl⟩
        have HMS : Hid (q.a < ((q.num L.length).1.num L.length).1.a ∧ ((q.num L.length).1.num L.length).1.ws.length ≤ k' ∧ l.length + 1 + ((q.num L.length).1.num L.length).1.ws.length ≤ 10000000) := by
          show _ ∧ _ ∧ _
          have e1 := num_a_le L.length (q.num L.length).1
          have e2 := num_ws_le L.length (q.num L.length).1
          rw [hnq.1] at e1
          rw [hnq.2] at e2
          rw [hws] at hwk hlw
          simp at hwk hlw
          omega
        have HAL := Hid.mk' (And.intro hal (atOf_row hrq.1))
        have hll : l.length ≤ 10000000 := by omega
        clear hob hfb hov hrq hth hlo hli HEX2 he0 hwk hlw hws hnq hal haw
        go_upto_region 30 with fail
        go_region
        generalize wr.drew = V at *
        obtain ⟨i0, hi, hz0, hz1, hz2⟩ := info_parts Tryz.infoP
        have HHI := Hid.mk' hi
        clear hi k0' k1' k2'
        go_upto_region 31 with fail
        go_wp2_with fail
        refine (HNU.out q V HQd.out).mono ?_
        rintro e V2 ⟨lo, hlo1, rfl, hlo2, hq2, ho2⟩
        have HO2 := Hid.mk' (HOB.out.trans ho2)
        have HF2 := Hid.mk' (ho2.blk HFB.out hFR)
        have HV2b := Hid.mk' (own_only HOV.out ho2 HQd.out.1 (by decide))
        have HQ2 := Hid.mk' hq2
        have HL1 := Hid.mk' (And.intro hlo1 hlo2)
        clear hlo1 hlo2 hq2 ho2 HOB HFB HOV HQd
        go_upto_region 32 with fail
        have hS0 : V2.drew.heap[F]? = some (.cells #[.string NM, .slice pa l.length pc, .int .i64 v1, .int .i64 v2, .slice none 0 0] 34) := HF2.out
        have y0 : ∀ w' : World, w'.heap[F]? = some (.cells #[.string NM, .slice pa l.length pc, .int .i64 v1, .int .i64 v2, .slice none 0 0] 34) → w'.cell? ⟨F, 1, none⟩ = some (.slice pa l.length pc) := fun w' h => cell_of_obj h rfl
        have HNC := Hid.mk' (HNU.out _ V2.drew ⟨HQ2.out.1, HQ2.out.2⟩)
        have HO3 := Hid.mk' HO2.out.drew
        have HV3 : Hid (V2.drew.ownsRow F 38 2 (.slice pa l.length pc) l.length (l.flatMap spC)) := own_stay HV2b.out (Below.drew (Below.refl _ _))
        have HQR : Hid (V2.drew.heap[R]? = _) := HQ2.out.1
        refine wp_region_K (fun w' => w'.heap[F]? = some (.cells #[.string NM, .slice pa l.length pc, .int .i64 v1, .int .i64 v2, .slice none 0 0] 34)) 9 (by kernel_rfl) ?_
        simp only [List.size_toArray, List.length_cons, List.length_nil, Nat.reduceAdd]
        refine wpAnyK_takeL (i := 0) (v := ?tvf0) rfl (by kernel_rfl) (by kernel_rfl) (by kernel_rfl) (by kernel_rfl) (fun x a w1 h => hXm.out x a _ _ w1 h) (by rfl) ?tyf0 hS0 ?trf0
        case tyf0 => (intro w' hSw; go_simp; try with_reducible rfl)
        simp only [Act.put, List.setIfInBounds_toArray, List.set_cons_zero, List.set_cons_succ]
        refine wpAnyK_takeL (i := 1) (v := ?tvf1) rfl (by kernel_rfl) (by kernel_rfl) (by kernel_rfl) (by kernel_rfl) (fun x a w1 h => hXm.out x a _ _ w1 h) (by rfl) ?tyf1 hS0 ?trf1
        case tyf1 => (intro w' hSw; go_simp; try with_reducible rfl)
        simp only [Act.put, List.setIfInBounds_toArray, List.set_cons_zero, List.set_cons_succ]
        refine wpAnyK_takeL (i := 2) (v := ?tvf2) rfl (by kernel_rfl) (by kernel_rfl) (by kernel_rfl) (by kernel_rfl) (fun x a w1 h => hXm.out x a _ _ w1 h) (by rfl) ?tyf2 hS0 ?trf2
        case tyf2 => (intro w' hSw; go_simp; try with_reducible rfl)
        simp only [Act.put, List.setIfInBounds_toArray, List.set_cons_zero, List.set_cons_succ]
        refine wpAnyK_takeL (i := 3) (v := ?tvf3) rfl (by kernel_rfl) (by kernel_rfl) (by kernel_rfl) (by kernel_rfl) (fun x a w1 h => hXm.out x a _ _ w1 h) (by rfl) ?tyf3 hS0 ?trf3
        case tyf3 => (intro w' hSw; go_simp; try with_reducible rfl)
        simp only [Act.put, List.setIfInBounds_toArray, List.set_cons_zero, List.set_cons_succ]
        refine wpAnyK_one (i := 4) (by kernel_rfl) rfl (fun K hK => ?_)
        go_simp
        go_at_call 16
        refine HNC.out.mono ?_
        rintro e V3' ⟨hi', hh1, rfl, hh2, hq3, ho3⟩
        have hS2 : V3'.heap[F]? = some (.cells #[.string NM, .slice pa l.length pc, .int .i64 v1, .int .i64 v2, .slice none 0 0] 34) := ho3.blk hS0 hFR
        have HO4 := Hid.mk' (HO3.out.trans ho3)
        have HV4 := Hid.mk' (own_only HV3.out ho3 HQR.out (by decide))
        have HQ4' := Hid.mk' hq3
        have HL2 := Hid.mk' (And.intro hh1 hh2)
        refine hK.out _ _ (fun _ => hS2) ?_
        clear hK K hh1 hh2 hq3 ho3 HNC HO3 HV3
        have hS3 : (V3'.alloc (.cells #[.int .i64 lo, .int .i64 hi'] 38)).heap[F]? = some (.cells #[.string NM, .slice pa l.length pc, .int .i64 v1, .int .i64 v2, .slice none 0 0] 34) := ((Below.one (Below.refl _ V3') (.cells #[.int .i64 lo, .int .i64 hi'] 38)).block _ (Array.getElem?_eq_some_iff.1 hS2).1).trans hS2
        have HOW : Hid ((V3'.alloc (.cells #[.int .i64 lo, .int .i64 hi'] 38)).ownsRow F 38 2 (.slice pa l.length pc) l.length (l.flatMap spC)) := HV4.out.alloc _
        have HNW : Hid (∀ jj u, ([.int .i64 lo, .int .i64 hi'] : List Value)[jj]? = some u → (V3'.alloc (.cells #[.int .i64 lo, .int .i64 hi'] 38)).cell? ((⟨V3'.heap.size, 0, none⟩ : Addr).add jj) = some u) := newsT V3' 38 [.int .i64 lo, .int .i64 hi']
        have m2 : l.length + 1 ≤ maxLen := by unfold maxLen; omega
        have m3 : (l.length + 1) * 16 ≤ 140737488355328 := by omega
        have m1 : ∀ u ∈ ([.int .i64 lo, .int .i64 hi'] : List Value), u.oneCell' = true := fun u hu => by simp at hu; rcases hu with rfl | rfl <;> rfl
        have HM4 : Hid (F ≤ (V3'.alloc (.cells #[.int .i64 lo, .int .i64 hi'] 38)).heap.size) := (by have := (Array.getElem?_eq_some_iff.1 hS3).1; omega : _ ≤ _)
        refine wpAnyK_one (i := 5) (by kernel_rfl) rfl (fun K hK => ?_)
        go_simp
        refine hK.out _ _ (fun _ => hS2) ?_
        clear hK K
        refine wpAnyK_one (i := 6) (by kernel_rfl) rfl (fun K hK => ?_)
        go_simp
        refine hK.out _ _ (fun _ => hS3) ?_
        clear hK K
        refine wpAnyK_one (i := 7) (by kernel_rfl) rfl (fun K hK => ?_)
        refine step_append_own _ (by rfl) _ _ 31 (by rfl) F 38 i0 (.agg #[.int .i64 0, .int .i64 0]) 2 16 Tryz.underlying31 HHI.out hz0 hz1 hz2 rfl (by decide) _ _ _ (by rfl) HOW.out ⟨V3'.heap.size, 0, none⟩ 1 1 [.int .i64 lo, .int .i64 hi'] (by rfl) (by rfl) HNW.out m1 m2 m3 HM4.out ?_
        intro v4 w4 own4 grow4
        obtain ⟨a4, c4, rfl⟩ := gown_form own4
        have hF4 := grown_other HOW.out grow4 hS3 (by decide)
        have HR4' := Hid.mk' (grown_other HOW.out grow4 (((Below.one (Below.refl _ V3') (.cells #[.int .i64 lo, .int .i64 hi'] 38)).block _ (Array.getElem?_eq_some_iff.1 HQ4'.out.1).1).trans HQ4'.out.1) (by decide))
        have HO5 : Hid (OnlyB R W4 w4) := ⟨grow4.os.trans HO4.out.1, grow4.tape.trans HO4.out.2.1, grow4.output.trans HO4.out.2.2.1, Nat.le_trans HO4.out.size (Nat.le_trans (by simp) grow4.size), fun i h1' h2' => (grow4.block i (by have := HO4.out.size; show i < (V3'.alloc _).heap.size; simp; omega) (fun e => by have := own_base HOW.out i e.symm; have := HHF.out; omega)).trans ((Below.heap_alloc _ _ _ (by have := HO4.out.size; omega)).trans (HO4.out.2.2.2.2 i h1' h2'))⟩
        have HOWN := Hid.mk' (own_set own4 hF4 (by decide) 1 (.slice a4 (l.length + 1) c4))
        have hF5 := heap_setCell_same w4 F 1 _ _ (.slice a4 (l.length + 1) c4) hF4
        have HF5 : Hid ((w4.setCell ⟨F, 1, none⟩ (.slice a4 (l.length + 1) c4)).heap[F]? = some (.cells #[.string NM, .slice a4 (l.length + 1) c4, .int .i64 v1, .int .i64 v2, .slice none 0 0] 34)) := (by simpa using hF5 : (w4.setCell ⟨F, 1, none⟩ (.slice a4 (l.length + 1) c4)).heap[F]? = some (.cells #[.string NM, .slice a4 (l.length + 1) c4, .int .i64 v1, .int .i64 v2, .slice none 0 0] 34))
        have HO6 := Hid.mk' (HO5.out.new (g := F) (by have := HHF.out; omega) 1 (.slice a4 (l.length + 1) c4))
        have HR6 : Hid ((w4.setCell ⟨F, 1, none⟩ (.slice a4 (l.length + 1) c4)).heap[R]? = _) := ((Below.heap_setCell _ _ _ _ (fun e => hFR e.symm)).trans HR4'.out : _)
        have x4 := cell_of_obj hF4 (j := 1) (v := .slice pa l.length pc) rfl
        have z4 := Lib.frozen_of_heap hF4 1
        refine hK.out _ _ (fun _ => hF4) ?_
        clear hK K own4 grow4 hF5
        refine wpAnyK_one (i := 8) (by kernel_rfl) rfl (fun K hK => ?_)
        go_simp
        refine hK.out _ _ (fun _ => hF4) ?_
        clear hK K
        refine wpAnyK_one (i := 9) (by kernel_rfl) rfl (fun K hK => ?_)
        go_simp
        refine hK.out _ _ (fun h => absurd rfl h) ?_
        refine wpAnyK_done (by kernel_rfl) ?_ _
        clear hK K y0 x4 z4 hS0 hS2 hS3 HOW HNW HM4 hF4
        generalize w4.setCell ⟨F, 1, none⟩ (.slice a4 (l.length + 1) c4) = W6 at *
        go_wp2_with fail
        go_roundw
        case rel =>
          refine ⟨k', ((q.num L.length).1.num L.length).1, l ++ [(lo, hi')], addP o (q.num L.length).2 ((q.num L.length).1.num L.length).2, .slice a4 (l.length + 1) c4, HO6.out, HF5.out, ?_, ⟨HR6.out, HQ4'.out.2⟩, fun y hy => ?_, fun y hy => ?_, HMS.out.2.1, by rw [List.length_append]; have := HMS.out.2.2; simp; omega, HTH.out⟩
          · rw [List.length_append, List.flatMap_append]; exact HOWN.out
          · rcases List.mem_append.1 hy with hy | hy
            · exact HLI.out y hy
            · rw [List.mem_singleton] at hy; subst hy; exact ⟨HL1.out.1, HL2.out.1⟩
          · cases o with
            | none => cases hy
            | some l0 =>
              cases hn1' : (q.num L.length).2 with
              | none => rw [hn1'] at hy; cases hy
              | some z0 =>
                cases hn2' : ((q.num L.length).1.num L.length).2 with
                | none => rw [hn1', hn2'] at hy; cases hy
                | some z1 =>
                  rw [hn1', hn2'] at hy
                  injection hy with hy
                  rw [← hy, HLO.out l0 rfl, HL1.out.2 z0 hn1', HL2.out.2 z1 hn2']
        case measure =>
          rw [atOf_row (HR6.out : RowA R L _ _ _ _), HAL.out.2]
          have := HAL.out.1
          have := HMS.out.1
          omega
end Go.Proofs.YtboidkmnkicoeaaGreatDoor
