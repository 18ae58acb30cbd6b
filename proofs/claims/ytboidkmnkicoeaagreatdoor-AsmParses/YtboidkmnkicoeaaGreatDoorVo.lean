/- The document's own Parse: thresholds. -/
import Derived.Test.YtboidkmnkicoeaaGreatDoorJu
namespace Go.Proofs.YtboidkmnkicoeaaGreatDoor
open Go.RowKit Go.Sort

/-- The block of a number. -/
def findB (k : Nat) : Code → Option Code
  | .block i c => if i == k then some (.block i c) else findB k c
  | .seq a b => match findB k a with | some c => some c | none => findB k b
  | .loop c => findB k c
  | .scope c => findB k c
  | .cond _ a b => match findB k a with | some c => some c | none => findB k b
  | _ => none
noncomputable def swC : Code := (Tryz.f5.body.bind (findB 4)).getD .skip
set_option maxRecDepth 100000 in
set_option maxHeartbeats 16000000 in
theorem sw_widen (w : World) (L : Bt) (n R : Nat) (en : Bool) (d : Dr) (gs : List Fn) (qs : List Pl) (vt vf : Value) (B C : Nat) (a7 : Option Addr) (c7 : Nat) (a8 : Option Addr) (c8 : Nat) (w0 : Bt) (ws : List Bt) (T0 TL : ByteArray) (OI : Int) (W3 : World)
    (hn1 : 1 ≤ n) (hthl : d.ths.length ≤ 10000000) (hnl : n ≤ 10000001) (HLW : Hid (spl 32 L = w0 :: ws ∧ L = w0 ++ fl ws ∧ (32 : UInt8) ∉ w0 ∧ ∀ v ∈ ws, (32 : UInt8) ∉ v)) (HPK : Hid (PrK n d gs qs)) (hLl : L.length ≤ 10000000) (hRN : w.heap.size ≤ R) (hw0l : w0.length ≤ L.length) (hTT : tb w0 = T0) (hTL : tb L = TL) (hOI : opI (opOf w0) = OI)
    (HRF : Hid (Rf w d.ths gs d.hs qs vt vf (.slice a7 d.hs.length c7) (.slice a8 qs.length c8) B C W3)) (HRQ : Hid (RowQ R L ⟨w0.length, 0, 0, ws⟩ W3))
    (Jn Kn : Act → World → Prop) (Xn : Exit → Act → World → Prop) (sl0 sl1 sl2 sl3 sl4 sl5 sl9 sl11 sl15 sl16 sl17 sl18 sl19 sl20 sl21 sl22 sl23 sl24 sl25 sl26 sl27 sl28 sl29 sl30 sl31 sl32 sl33 sl34 sl35 sl36 sl37 sl38 sl39 sl40 sl41 sl42 sl43 sl44 sl45 sl46 sl47 sl48 sl49 sl50 sl51 sl52 sl53 sl54 sl55 sl56 sl57 sl58 sl59 sl60 sl61 sl62 sl63 sl64 sl65 sl66 sl67 sl68 sl69 sl70 sl71 sl72 sl73 sl74 sl75 sl76 sl77 sl78 sl79 sl80 sl81 sl82 sl83 sl84 sl85 sl86 sl87 sl88 sl89 sl90 sl91 sl92 sl93 sl94 sl95 sl96 sl97 sl98 sl99 sl100 sl101 sl102 sl103 sl104 sl105 sl106 sl107 sl108 sl109 sl110 sl111 sl112 sl113 sl114 sl115 sl116 sl117 sl118 sl119 sl120 sl121 sl122 sl123 sl124 sl125 sl126 sl127 sl128 sl129 sl130 sl131 sl132 sl133 sl134 sl135 sl136 sl137 sl138 sl139 sl140 sl141 sl142 sl143 sl144 sl145 sl146 sl147 sl148 sl149 sl150 sl151 sl152 sl153 sl154 sl155 sl156 sl157 sl158 sl159 sl160 sl161 sl162 sl163 sl164 sl165 sl166 sl167 sl168 sl169 sl170 sl171 sl172 sl173 sl174 sl175 sl176 sl177 sl178 sl179 sl180 sl181 sl182 sl183 sl184 sl185 sl186 sl187 sl188 sl189 sl190 sl191 sl192 sl193 sl194 sl195 sl196 sl197 sl198 sl199 sl200 sl201 sl202 sl203 sl204 sl205 sl206 sl207 sl208 sl209 sl210 sl211 sl212 sl213 sl214 sl215 sl216 sl217 sl218 sl219 sl220 sl221 sl222 sl223 sl224 sl225 sl226 sl227 sl228 sl229 sl230 sl231 : Value)
    (hXn : Hid (∀ c (a : Act) d v w', Xn (.panic c) (a.put d v) w' → Xn (.panic c) a w')) (hJn : ∀ (a' : Act) (w' : World), (∃ u3 u4 u5 u7 u8 u15 u16 u17 u18 u19 u20 u24 u25 u26 u27 u28 u29 u30 u31 u32 u33 u34 u35 u36 u37 u38 u39 u40 u41 u42 u43 u44 u45 u46 u47 u48 u49 u50 u51 u52 u53 u54 u55 u56 u57 u58 u59 u60 u61 u62 u63 u64 u65 u66 u67 u68 u69 u70 u71 u72 u73 u74 u75 u76 u77 u78 u79 u80 u81 u82 u83 u84 u85 u86 u87 u88 u89 u90 u91 u92 u93 u94 u95 u96 u97 u98 u99 u100 u101 u102 u103 u104 u105 u106 u107 u108 u109 u110 u111 u112 u113 u114 u115 u116 u117 u118 u119 u120 u121 u122 u123 u124 u125 u126 u127 u128 u129 u130 u131 u132 u133 u134 u135 u136 u137 u138 u139 u140 u141 u142 u143 u144 u145 u146 u147 u148 u149 u150 u151 u152 u153 u154 u155 u156 u157 u158 u159 u160 u161 u162 u163 u164 u165 u166 u167 u168 u169 u170 u171 u172 u173 u174 u175 u176 u177 u178 u179 u180 u181 u182 u183 u184 u185 u186 u187 u188 u189 u190 u191 u192 u193 u194 u195 u196 u197 u198 u199 u200 u201 u202 u203 u204 u205 u206 u207 u208 u209 u210 u211 u212 u213 u214 u215 u216 u217 u218 u219 u220 u221 u222 u223, SwS w L n en R d u7 u8 w' ∧ a' = { tmps := #[sl0, sl1, sl2, u3, u4, u5, .pointer (some ⟨w.heap.size + 1, 0, none⟩), u7, u8, sl9, .int .i64 (n : Int), sl11, .pointer (some ⟨R, 0, none⟩), .string T0, .int .i64 OI, u15, u16, u17, u18, u19, u20, sl21, sl22, sl23, u24, u25, u26, u27, u28, u29, u30, u31, u32, u33, u34, u35, u36, u37, u38, u39, u40, u41, u42, u43, u44, u45, u46, u47, u48, u49, u50, u51, u52, u53, u54, u55, u56, u57, u58, u59, u60, u61, u62, u63, u64, u65, u66, u67, u68, u69, u70, u71, u72, u73, u74, u75, u76, u77, u78, u79, u80, u81, u82, u83, u84, u85, u86, u87, u88, u89, u90, u91, u92, u93, u94, u95, u96, u97, u98, u99, u100, u101, u102, u103, u104, u105, u106, u107, u108, u109, u110, u111, u112, u113, u114, u115, u116, u117, u118, u119, u120, u121, u122, u123, u124, u125, u126, u127, u128, u129, u130, u131, u132, u133, u134, u135, u136, u137, u138, u139, u140, u141, u142, u143, u144, u145, u146, u147, u148, u149, u150, u151, u152, u153, u154, u155, u156, u157, u158, u159, u160, u161, u162, u163, u164, u165, u166, u167, u168, u169, u170, u171, u172, u173, u174, u175, u176, u177, u178, u179, u180, u181, u182, u183, u184, u185, u186, u187, u188, u189, u190, u191, u192, u193, u194, u195, u196, u197, u198, u199, u200, u201, u202, u203, u204, u205, u206, u207, u208, u209, u210, u211, u212, u213, u214, u215, u216, u217, u218, u219, u220, u221, u222, u223, sl224, sl225, sl226, sl227, sl228, sl229, sl230, sl231], defers := [] }) → Jn a' w') (hKn : ∀ (a' : Act) (w' : World), Met Jn a' w' → Kn a' w') (h1 : n = 1) (hw : w0 = widenB) :
    swC.wp Tryz.prog (Exit.then Kn Xn) { tmps := #[sl0, sl1, sl2, sl3, sl4, sl5, .pointer (some ⟨w.heap.size + 1, 0, none⟩), .slice a7 d.hs.length c7, .slice a8 qs.length c8, sl9, .int .i64 (n : Int), sl11, .pointer (some ⟨R, 0, none⟩), .string T0, .int .i64 OI, sl15, sl16, sl17, sl18, sl19, sl20, sl21, sl22, sl23, sl24, sl25, sl26, sl27, sl28, sl29, sl30, sl31, sl32, sl33, sl34, sl35, sl36, sl37, sl38, sl39, sl40, sl41, sl42, sl43, sl44, sl45, sl46, sl47, sl48, sl49, sl50, sl51, sl52, sl53, sl54, sl55, sl56, sl57, sl58, sl59, sl60, sl61, sl62, sl63, sl64, sl65, sl66, sl67, sl68, sl69, sl70, sl71, sl72, sl73, sl74, sl75, sl76, sl77, sl78, sl79, sl80, sl81, sl82, sl83, sl84, sl85, sl86, sl87, sl88, sl89, sl90, sl91, sl92, sl93, sl94, sl95, sl96, sl97, sl98, sl99, sl100, sl101, sl102, sl103, sl104, sl105, sl106, sl107, sl108, sl109, sl110, sl111, sl112, sl113, sl114, sl115, sl116, sl117, sl118, sl119, sl120, sl121, sl122, sl123, sl124, sl125, sl126, sl127, sl128, sl129, sl130, sl131, sl132, sl133, sl134, sl135, sl136, sl137, sl138, sl139, sl140, sl141, sl142, sl143, sl144, sl145, sl146, sl147, sl148, sl149, sl150, sl151, sl152, sl153, sl154, sl155, sl156, sl157, sl158, sl159, sl160, sl161, sl162, sl163, sl164, sl165, sl166, sl167, sl168, sl169, sl170, sl171, sl172, sl173, sl174, sl175, sl176, sl177, sl178, sl179, sl180, sl181, sl182, sl183, sl184, sl185, sl186, sl187, sl188, sl189, sl190, sl191, sl192, sl193, sl194, sl195, sl196, sl197, sl198, sl199, sl200, sl201, sl202, sl203, sl204, sl205, sl206, sl207, sl208, sl209, sl210, sl211, sl212, sl213, sl214, sl215, sl216, sl217, sl218, sl219, sl220, sl221, sl222, sl223, sl224, sl225, sl226, sl227, sl228, sl229, sl230, sl231], defers := [] } W3 := by
  have hT0 := hTT
  obtain ⟨hd0, hg0, hq0⟩ := HPK.out.n1 h1
  subst h1 hd0 hg0 hq0
  have hs1 : (T0.toList == [119, 105, 100, 101, 110]) = true := by have := str_eq hw; rw [hT0] at this; exact this
  have hs2 : (T0.toList != [119, 105, 100, 101, 110]) = false := by unfold bne; rw [hs1]; rfl
  conv => arg 2; whnf
  subst hw
  have HWL := Hid.mk' (widen_line HLW.out.1 en ws.length (Nat.le_refl _))
  have hwl : ws.length ≤ 10000000 := by
    have h1 := congrArg List.length HLW.out.2.1
    rw [List.length_append] at h1
    have := fl_len ws
    omega
  have HT0 : Hid (ThS w R L (thrQ L.length ws.length ⟨5, 0, 0, ws⟩ (some [])) vf (.slice a7 dr0.hs.length c7) (.slice a8 ([] : List Pl).length c8) B C W3) := ⟨ws.length, ⟨5, 0, 0, ws⟩, [], some [], vt, HRF.out, HRQ.out, fun z hz => (by simp at hz), fun y hy => (by injection hy), Nat.le_refl _, by simpa using hwl, rfl⟩
  have HNU : Hid (∀ (q : Qr) (W : World), RowQ R L q W → Calls Tryz.prog 16 #[.pointer (some ⟨R, 0, none⟩)] W fun e w' => ∃ v : Int, I64 v ∧ e = .returned (.int .i64 v) ∧ (∀ z, (q.num L.length).2 = some z → v = z) ∧ RowQ R L (q.num L.length).1 w' ∧ OnlyB R W w') := fun q W h => rnum_any R L (by omega) q W h
  generalize thrQ L.length ws.length ⟨5, 0, 0, ws⟩ (some []) = RES at *
  clear HRF HRQ
  go_wp2_with fail
  go_loopw [] (fun wq => ThS w R L RES vf (.slice a7 dr0.hs.length c7) (.slice a8 ([] : List Pl).length c8) B C wq) (fun wq => L.length + 1 - atOf R wq)
  case atStart => exact HT0.out
  case round =>
    obtain ⟨k, q, l, o, vt', hrf, hrq, hli, hlo, hwk, hlw, hth⟩ := hrel
    obtain ⟨k0, k1, k2, k3⟩ := hrq.1.cells
    have k0' : wr.drew.cell? ⟨R, 0, none⟩ = some (.string TL) := by rw [← hTL]; exact k0
    have k1' : wr.drew.cell? ⟨R, 1, none⟩ = some (.int .i64 q.a) := k1
    have k2' : wr.drew.cell? ⟨R, 2, none⟩ = some (.int .i64 q.e) := k2
    have hTLs : TL.size = L.length := by rw [← hTL]; exact tb_size L
    have HRd : Hid (Rf w l [] [] [] vt' vf (.slice a7 dr0.hs.length c7) (.slice a8 ([] : List Pl).length c8) B C wr.drew) := hrf.stay (Below.drew (Below.refl _ _))
    have HQd : Hid (RowQ R L q wr.drew) := ⟨hrq.1, hrq.2⟩
    clear k0 k1 k2 k3 HT0
    have HEX2 : Hid (q.e ≠ 0 ∨ q.ws = [] → SwS w L 1 en R dr0 (.slice a7 dr0.hs.length c7) (.slice a8 ([] : List Pl).length c8) wr.drew) := fun hst => by
      rw [thrQ_stop hst] at hth
      subst hth
      refine ⟨q, { dr0 with ths := l }, [], [], vt', vf, B, C, HRd.out, HQd.out, HWL.out.mono fun r' hr' => ?_⟩
      have hl := hlo _ hr'.2
      refine ⟨?_, PrK.start.ths hli, by show l.length ≤ _; omega⟩
      unfold addZ
      rw [if_pos hr'.1, hl]
    by_cases he : q.e ≠ 0
    · have q1 : (q.e == 0) = false := beq_no he
      have HX2 := Hid.mk' (HEX2.out (.inl he))
      clear hrf hrq hth hlo hli HEX2 he hwk hlw
      go_upto_region 23 with fail
      go_region
      generalize wr.drew = V at *
      go_wp2_with fail
      go_meet
      case rel => exact HX2.out
    · have he0 : q.e = 0 := by simpa using he
      rw [he0] at k2'
      clear he
      cases hws : q.ws with
      | nil =>
        have hae : q.a = L.length := by have := hrq.2; rw [hws] at this; exact this.nil
        have c1 : decide ((q.a : Int) < (TL.size : Int)) = false := decide_eq_false (by omega)
        have c2 : decide (q.a < TL.size) = false := decide_eq_false (by omega)
        have c3 : ¬ q.a < TL.size := by omega
        have HX2 := Hid.mk' (HEX2.out (.inr hws))
        clear hrf hrq hth hlo hli HEX2 he0 hwk hlw hws hae
        go_upto_region 23 with fail
        go_region
        generalize wr.drew = V at *
        go_wp2_with fail
        go_meet
        case rel => exact HX2.out
      | cons v t =>
        have haw := hrq.2
        rw [hws] at haw
        have hal := haw.lt
        have c1 : decide ((q.a : Int) < (TL.size : Int)) = true := decide_eq_true (by omega)
        have c2 : decide (q.a < TL.size) = true := decide_eq_true (by omega)
        have c3 : q.a < TL.size := by omega
        obtain ⟨ta', tc', rfl⟩ := gown_form HRd.out.ot
        obtain ⟨k', rfl⟩ : ∃ k', k = k' + 1 := ⟨k - 1, by rw [hws] at hwk; simp at hwk; omega⟩
        rw [thrQ, if_neg (by rw [hws]; simp [he0])] at hth
        have HTH := Hid.mk' hth
        have HLO := Hid.mk' hlo
        have HLI := Hid.mk' hli
        have hnq : (q.num L.length).1.a = q.a + 1 + v.length ∧ (q.num L.length).1.ws = t := by
          obtain ⟨qa, qe, qp, qw⟩ := q
          simp only at he0 hws
          subst he0 hws
          cases hv : numB v with
          | none => rw [num_no hv]; exact ⟨rfl, rfl⟩
          | some z => rw [num_yes hv]; exact ⟨rfl, rfl⟩
        have HNQ := Hid.mk' hnq
        have HHK : Hid (t.length ≤ k' ∧ l.length + 1 + t.length ≤ 10000000) := by show _ ∧ _; rw [hws] at hwk hlw; simp at hwk hlw; omega
        have HAL := Hid.mk' (And.intro hal (atOf_row hrq.1))
        have hll : l.length ≤ 10000000 := by omega
        clear hrf hrq hth hlo hli HEX2 he0 hwk hlw hws hnq hal haw
        go_upto_region 23 with fail
        go_region
        generalize wr.drew = V at *
        obtain ⟨i0, hi, hz0, hz1, hz2⟩ := info_parts Tryz.infoI
        have HHI := Hid.mk' hi
        clear hi k0' k1' k2'
        go_upto_region 24 with fail
        have hS0 : V.drew.heap[w.heap.size + 1]? = some (.cells #[.slice ta' l.length tc', vf] 25) := HRd.out.mb
        have y0 : ∀ w' : World, w'.heap[w.heap.size + 1]? = some (.cells #[.slice ta' l.length tc', vf] 25) → w'.cell? ⟨w.heap.size + 1, 0, none⟩ = some (.slice ta' l.length tc') := fun w' h => cell_of_obj h rfl
        have HNC := Hid.mk' (HNU.out q V.drew ⟨HQd.out.1, HQd.out.2⟩)
        have HR2 : Hid (Rf w l [] [] [] (.slice ta' l.length tc') vf (.slice a7 dr0.hs.length c7) (.slice a8 ([] : List Pl).length c8) B C V.drew) := HRd.out.stay (Below.drew (Below.refl _ _))
        refine wp_region_K (fun w' => w'.heap[w.heap.size + 1]? = some (.cells #[.slice ta' l.length tc', vf] 25)) 7 (by kernel_rfl) ?_
        simp only [List.size_toArray, List.length_cons, List.length_nil, Nat.reduceAdd]
        refine wpAnyK_takeL (i := 0) (v := ?tvw0) rfl (by kernel_rfl) (by kernel_rfl) (by kernel_rfl) (by kernel_rfl) (fun x a w1 h => hXn.out x a _ _ w1 h) (by rfl) ?tyw0 hS0 ?trw0
        case tyw0 => (intro w' hSw; go_simp; try with_reducible rfl)
        simp only [Act.put, List.setIfInBounds_toArray, List.set_cons_zero, List.set_cons_succ]
        refine wpAnyK_takeL (i := 1) (v := ?tvw1) rfl (by kernel_rfl) (by kernel_rfl) (by kernel_rfl) (by kernel_rfl) (fun x a w1 h => hXn.out x a _ _ w1 h) (by rfl) ?tyw1 hS0 ?trw1
        case tyw1 => (intro w' hSw; go_simp; try with_reducible rfl)
        simp only [Act.put, List.setIfInBounds_toArray, List.set_cons_zero, List.set_cons_succ]
        refine wpAnyK_takeL (i := 2) (v := ?tvw2) rfl (by kernel_rfl) (by kernel_rfl) (by kernel_rfl) (by kernel_rfl) (fun x a w1 h => hXn.out x a _ _ w1 h) (by rfl) ?tyw2 hS0 ?trw2
        case tyw2 => (intro w' hSw; go_simp; try with_reducible rfl)
        simp only [Act.put, List.setIfInBounds_toArray, List.set_cons_zero, List.set_cons_succ]
        refine wpAnyK_one (i := 3) (by kernel_rfl) rfl (fun K hK => ?_)
        go_simp
        go_at_call 16
        refine HNC.out.mono ?_
        rintro e V2 ⟨z, hz, rfl, hzz, hq2, ho2⟩
        have hNR : w.heap.size + 1 ≠ R := fun e => by
          have h1 := HQd.out.1
          have h2 := HRd.out.mb
          unfold RowA at h1
          rw [e, h1] at h2
          injection h2 with h2
          injection h2 with _ e2 _
          cases e2
        have hS2 : V2.heap[w.heap.size + 1]? = some (.cells #[.slice ta' l.length tc', vf] 25) := ho2.blk hS0 hNR
        have HR3 := Hid.mk' (HR2.out.only ho2 HQd.out.1 (by omega))
        have HQ3 := Hid.mk' hq2
        have HZZ := Hid.mk' (And.intro hz hzz)
        refine hK.out _ _ (fun _ => hS2) ?_
        clear hK K hz hzz hq2 ho2 HNC HR2 hNR
        have hS3 : (V2.alloc (.cells #[.int .i64 z] 2)).heap[w.heap.size + 1]? = some (.cells #[.slice ta' l.length tc', vf] 25) := ((Below.one (Below.refl _ V2) (.cells #[.int .i64 z] 2)).block _ (Array.getElem?_eq_some_iff.1 hS2).1).trans hS2
        have HOV : Hid ((V2.alloc (.cells #[.int .i64 z] 2)).ownsRow w.heap.size 2 1 (.slice ta' l.length tc') l.length (l.flatMap thC)) := HR3.out.ot.alloc _
        have HNW : Hid (∀ jj u, ([.int .i64 z] : List Value)[jj]? = some u → (V2.alloc (.cells #[.int .i64 z] 2)).cell? ((⟨V2.heap.size, 0, none⟩ : Addr).add jj) = some u) := newsT V2 2 [.int .i64 z]
        have m2 : l.length + 1 ≤ maxLen := by unfold maxLen; omega
        have m3 : (l.length + 1) * 8 ≤ 140737488355328 := by omega
        have m1 : ∀ u ∈ ([.int .i64 z] : List Value), u.oneCell' = true := fun u hu => by simp at hu; subst hu; rfl
        have HM4 : Hid (w.heap.size ≤ (V2.alloc (.cells #[.int .i64 z] 2)).heap.size) := (by have := HR3.out.bl.size; simp; omega : _ ≤ _)
        have HTR : Hid (∀ (W' : World) (v' : Value), (V2.alloc (.cells #[.int .i64 z] 2)).grownBy W' (Value.slice ta' l.length tc').ownBlock → W'.ownsRow w.heap.size 2 1 v' (l.length + 1) (l.flatMap thC ++ [.int .i64 z]) → _) := fun W' v' hg ho => HR3.out.thr (.cells #[.int .i64 z] 2) hg ho
        refine wpAnyK_one (i := 4) (by kernel_rfl) rfl (fun K hK => ?_)
        go_simp
        refine hK.out _ _ (fun _ => hS3) ?_
        clear hK K
        refine wpAnyK_one (i := 5) (by kernel_rfl) rfl (fun K hK => ?_)
        refine step_append_own _ (by rfl) _ _ 22 (by rfl) w.heap.size 2 i0 (.int .i64 0) 1 8 Tryz.underlying22 HHI.out hz0 hz1 hz2 rfl (by decide) _ _ _ (by rfl) HOV.out ⟨V2.heap.size, 0, none⟩ 1 1 [.int .i64 z] (by rfl) (by rfl) HNW.out m1 m2 m3 HM4.out ?_
        intro v4 w4 own4 grow4
        obtain ⟨a4, c4, rfl⟩ := gown_form own4
        obtain ⟨R5, M5, K5⟩ := HTR.out w4 _ grow4 own4
        have HR5 := Hid.mk' R5
        have HK5 := Hid.mk' (K5 R _ HQ3.out.1)
        have x4 := cell_of_obj M5 (j := 0) (v := .slice ta' l.length tc') rfl
        have z4 := Lib.frozen_of_heap M5 0
        refine hK.out _ _ (fun _ => M5) ?_
        clear hK K R5 K5
        refine wpAnyK_one (i := 6) (by kernel_rfl) rfl (fun K hK => ?_)
        go_simp
        refine hK.out _ _ (fun _ => M5) ?_
        clear hK K
        refine wpAnyK_one (i := 7) (by kernel_rfl) rfl (fun K hK => ?_)
        go_simp
        refine hK.out _ _ (fun h => absurd rfl h) ?_
        refine wpAnyK_done (by kernel_rfl) ?_ _
        clear hK K y0 x4 z4 M5 hS0 hS2 hS3 HOV HNW HM4 HTR own4 grow4
        generalize w4.setCell ⟨w.heap.size + 1, 0, none⟩ (.slice a4 (l.length + 1) c4) = W6 at *
        go_wp2_with fail
        go_roundw
        case rel =>
          refine ⟨k', (q.num L.length).1, l ++ [z], addT o (q.num L.length).2, .slice a4 (l.length + 1) c4, HR5.out, ⟨HK5.out, HQ3.out.2⟩, fun y hy => ?_, fun y hy => ?_, by rw [HNQ.out.2]; exact HHK.out.1, by rw [HNQ.out.2, List.length_append]; have := HHK.out.2; simp; omega, HTH.out⟩
          · rcases List.mem_append.1 hy with hy | hy
            · exact HLI.out y hy
            · rw [List.mem_singleton] at hy; subst hy; exact HZZ.out.1
          · cases o with
            | none => cases hy
            | some l0 =>
              cases hnn : (q.num L.length).2 with
              | none => rw [hnn] at hy; cases hy
              | some z0 =>
                rw [hnn] at hy
                injection hy with hy
                rw [← hy, HLO.out l0 rfl, HZZ.out.2 z0 hnn]
        case measure =>
          rw [atOf_row (HK5.out : RowA R L _ _ _ _), HAL.out.2, HNQ.out.1]
          have := HAL.out.1
          omega
end Go.Proofs.YtboidkmnkicoeaaGreatDoor
