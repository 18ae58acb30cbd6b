/- ref14.Find; law.LoopsFind. -/
import Derived.Test.YtgiokognngllcaaDoorXc
import Derived.Deep.QuietTactic
import Derived.BigQuiet
import Derived.Test.YtgiokognngllcaaDoorXa
import Derived.Test.YtgiokognngllcaaDoorTk
import Derived.Test.YtgiokognngllcaaDoorWe
import Derived.Test.YtgiokognngllcaaDoorTj
import Derived.Test.YtgiokognngllcaaDoorGgak
import Derived.Test.YtgiokognngllcaaDoorYa
import Derived.Test.YtgiokognngllcaaDoorWb
namespace Go.Proofs.YtgiokognngllcaaDoor
open Go.RowKit Go.Sort

noncomputable def fdR : Code → Code | .seq _ b => b | c => c
noncomputable def fdL : Code → Code | .seq a _ => a | c => c
noncomputable def fdP : Code := fdR (fdR (fdR (fdR (fdR (fdR (fdR (fdR (fdR ((Tryd.f9.body.getD .skip))))))))))
set_option maxRecDepth 100000 in
set_option maxHeartbeats 8000000 in
theorem rf_par (w W1 W0 : World) (fl : List Is) (xs : List Lr) (la : Option Addr) (lc m : Nat)
    (HFN : Hid (fndZ fl = ⟨lopsZ fl, 0, 0⟩)) (HM : Hid (m = (hds fl).length ∧ m ≤ 1024)) (HPJ : Hid (PaJ fl 0 0 xs)) (HB1 : Hid (Below w.heap.size w W1)) (HOW : Hid (OwnR fl W1.heap.size xs (.slice la m lc) W0)) (HB0 : Hid (Below W1.heap.size W1 W0))
    (K1 K2 : Act → World → Prop) (hK1 : ∀ a W, (fdR (fdL fdP)).wp Tryd.prog (Exit.then K2 (bodyPost Tryd.prog Tryd.f9 fun e w' => RfP fl w e w')) a W → K1 a W) (hK2 : ∀ a W, (fdR fdP).wp Tryd.prog (bodyPost Tryd.prog Tryd.f9 fun e w' => RfP fl w e w') a W → K2 a W) (u0 u1 u2 u3 u4 u5 u6 u7 u8 u9 u10 u11 u13 u14 u15 u16 u17 u18 u19 u20 u21 u22 u23 u24 u25 u26 u27 u28 u29 u30 u31 u32 u33 u34 u35 u36 u37 u38 u39 u40 u41 u42 u43 u44 u45 u46 u47 u48 u49 u50 u51 u52 u53 u54 u55 u56 u57 u58 u59 u60 u61 u62 u63 u64 u65 u66 u67 u68 u69 u70 u71 u72 u73 u74 u75 u76 u77 u78 u79 u80 u81 u82 u83 u84 u85 u86 u87 u88 u89 u90 u91 u92 u93 u94 u95 u96 u97 u98 u99 u100 u101 u102 u103 u104 u105 u106 u107 u108 u109 u110 u111 u112 u113 u114 u115 u116 u117 u118 u119 u120 u121 u122 u123 u124 u125 u126 u127 u128 u129 u130 u131 u132 u133 u134 u135 u136 u137 u138 u139 u140 u141 u142 u143 u144 u145 u146 u147 u148 u149 u150 u151 u152 u153 u154 u155 u156 u157 u158 u159 u160 u161 u162 u163 u164 u165 u166 u167 u168 u169 u170 u171 u172 u173 u174 u175 u176 u177 u178 u179 u180 u181 u182 u183 : Value) :
    (fdL (fdL fdP)).wp Tryd.prog (Exit.then K1 (Exit.then K2 (bodyPost Tryd.prog Tryd.f9 fun e w' => RfP fl w e w'))) { tmps := #[u0, u1, u2, u3, u4, u5, u6, u7, u8, u9, u10, u11, .slice la m lc, u13, u14, u15, u16, u17, u18, u19, u20, u21, u22, u23, u24, u25, u26, u27, u28, u29, u30, u31, u32, u33, u34, u35, u36, u37, u38, u39, u40, u41, u42, u43, u44, u45, u46, u47, u48, u49, u50, u51, u52, u53, u54, u55, u56, u57, u58, u59, u60, u61, u62, u63, u64, u65, u66, u67, u68, u69, u70, u71, u72, u73, u74, u75, u76, u77, u78, u79, u80, u81, u82, u83, u84, u85, u86, u87, u88, u89, u90, u91, u92, u93, u94, u95, u96, u97, u98, u99, u100, u101, u102, u103, u104, u105, u106, u107, u108, u109, u110, u111, u112, u113, u114, u115, u116, u117, u118, u119, u120, u121, u122, u123, u124, u125, u126, u127, u128, u129, u130, u131, u132, u133, u134, u135, u136, u137, u138, u139, u140, u141, u142, u143, u144, u145, u146, u147, u148, u149, u150, u151, u152, u153, u154, u155, u156, u157, u158, u159, u160, u161, u162, u163, u164, u165, u166, u167, u168, u169, u170, u171, u172, u173, u174, u175, u176, u177, u178, u179, u180, u181, u182, u183], defers := [] } W0 := by
  generalize hq : (bodyPost Tryd.prog Tryd.f9 fun e w' => RfP fl w e w') = Q at hK1 hK2 ⊢
  simp only [fdP, Tryd.f9, Option.getD_some, fdR, fdL] at hK1 hK2 ⊢
  subst hq
  have hu : undef = Value.tuple #[] := rfl
  go_wp2_with fail
  go_loopw [19] (fun t19 wr => ∃ (i : Nat) (ys : List Lr), t19 = .int .i64 (i : Int) ∧ i ≤ m ∧ PaJ fl i 0 ys ∧ OwnR fl W1.heap.size ys (.slice la m lc) wr ∧ Below W1.heap.size W1 wr) (fun t19 _ => m - (intOf t19).toNat)
  case atStart => exact ⟨0, xs, rfl, Nat.zero_le _, HPJ.out, HOW.out, HB0.out⟩
  case round =>
    clear HPJ HOW HB0
    obtain ⟨i, ys, rfl, hi, hpj, how, hbw⟩ := hrel
    have HPJ := Hid.mk' hpj
    have HOW := Hid.mk' how
    have HBW := Hid.mk' hbw
    have hm4 := HM.out.2
    clear hpj how hbw
    by_cases hlt : i < m
    · have hii : (i : Int) < (m : Int) := by omega
      have HLT := Hid.mk' hlt
      clear hlt
      go_wp2_with fail
      go_loopw [20] (fun t20 wq => ∃ (k : Nat) (ys : List Lr), t20 = .int .i64 (k : Int) ∧ k ≤ m ∧ PaJ fl i k ys ∧ OwnR fl W1.heap.size ys (.slice la m lc) wq ∧ Below W1.heap.size W1 wq) (fun t20 _ => m - (intOf t20).toNat)
      case atStart => exact ⟨0, ys, rfl, Nat.zero_le _, HPJ.out, HOW.out, HBW.out⟩
      case round =>
        clear HPJ HOW HBW
        obtain ⟨k, ys, rfl, hk, hpj, how, hbw⟩ := hrel
        have HPJ := Hid.mk' hpj
        have HBW := Hid.mk' hbw
        have hyl : ys.length = m := by rw [hpj.len]; exact HM.out.1.symm
        by_cases hlt : k < m
        · have hki : (k : Int) < (m : Int) := by omega
          obtain ⟨a, ha⟩ : ∃ a, ys[i]? = some a := ⟨_, List.getElem?_eq_getElem (by have := HLT.out; omega)⟩
          obtain ⟨b, hb⟩ : ∃ b, ys[k]? = some b := ⟨_, List.getElem?_eq_getElem (by omega)⟩
          have hst := parK_step fl hpj ha hb
          have hpa := hpj.p i a ha
          rw [parF_here] at hpa
          rw [← hpa] at hst
          obtain ⟨g, rfl, hN, c0, c1, c2, fz, hla⟩ := how.at' ha
          obtain ⟨g2, e2, _, d0, d1, d2, _, hlb⟩ := how.at' hb
          cases e2
          have f1 := fz (i * 4 + 1)
          have hii : (i : Int) < (m : Int) := by have := HLT.out; omega
          have HKL := Hid.mk' hlt
          have hbl : (mbs fl b.h).length ≤ 1000000 := by
            have h1 := mbs_len fl b.h
            have h2 : b.h < fl.length := by
              rw [← hpj.head hb]
              exact (hds_mem (hds_at (by have := HM.out.1; omega))).2.2
            have h3 : fl.length ≤ 1024 := by
              refine Nat.le_of_not_lt fun h => ?_
              have h4 := congrArg Fd.e HFN.out
              rw [fnd_long h] at h4
              simp at h4
            omega
          have HHAS : Hid (∀ W, Below wr.heap.size wr W → Calls Tryd.prog 16 #[.slice b.ma (mbs fl b.h).length b.mc, .int .i64 (a.h : Int)] W fun e w' => e = .returned (.bool (decide (a.h ∈ mbs fl b.h))) ∧ w' = W) := fun W hW => by
            have h1 := r14has_any ((mbs fl b.h).map (fun (n : Nat) => (n : Int))) (a.h : Int) b.ma b.mc W (by rw [map_nV]; exact hlb.stay hW) (by rw [List.length_map]; omega)
            rw [List.length_map] at h1
            have h2 : decide ((a.h : Int) ∈ (mbs fl b.h).map (fun (n : Nat) => (n : Int))) = decide (a.h ∈ mbs fl b.h) := decide_eq_decide.2 ⟨fun h => by
              obtain ⟨y, hy, e⟩ := List.mem_map.1 h
              rwa [show a.h = y by omega], fun h => List.mem_map.2 ⟨a.h, h, rfl⟩⟩
            rwa [h2] at h1
          have HRN : Hid (∀ n, OwnR fl W1.heap.size ys (.slice (some ⟨g, 0, none⟩) m lc) (wr.drewN n)) := fun n => how.stay (Below.drewN (Below.refl _ wr) n)
          have HBN : Hid (∀ n, Below W1.heap.size W1 (wr.drewN n)) := fun n => hbw.drewN n
          have HDN : Hid (∀ n, Below wr.heap.size wr (wr.drewN n)) := fun n => Below.drewN (Below.refl _ wr) n
          have HRP : Hid (∀ n, OwnR fl W1.heap.size (ys.set i { a with p := (k : Int) }) (.slice (some ⟨g, 0, none⟩) m lc) ((wr.drewN n).setCell ⟨g, i * 4 + 1, none⟩ (.int .i64 (k : Int)))) := fun n => (HRN.out n).par ha (k : Int)
          have HBP : Hid (∀ n, Below W1.heap.size W1 ((wr.drewN n).setCell ⟨g, i * 4 + 1, none⟩ (.int .i64 (k : Int)))) := fun n => (HBN.out n).setCell hN _
          clear hpa hla hlb fz hyl hbl hbw
          by_cases hka : k = i
          · rw [if_neg (fun h => h.1 hka)] at hst
            have HSK := Hid.mk' (hpj.skip (by rw [hst]; exact (by have := hpj.p i a ha; rwa [parF_here] at this)))
            have q1 : ((k : Int) != (i : Int)) = false := bne_no (by omega)
            clear hka hst hpj how HHAS
            go_upto_region 35 with fail
            go_quiet (fail)
            go_upto_region 36 with fail
            go_quiet (fail)
            go_wp2_with fail
            go_roundw
            case rel => exact ⟨k + 1, ys, by go_num, HKL.out, HSK.out, HRN.out _, HBN.out _⟩
            case measure => simp [intOf]; omega
          have q1 : ((k : Int) != (i : Int)) = true := bne_of (by omega)
          by_cases hin : a.h ∈ mbs fl b.h
          · rw [decide_eq_true hin] at HHAS
            by_cases hp0 : a.p < 0
            · rw [if_pos ⟨hka, hin, .inl hp0⟩] at hst
              have HPU := Hid.mk' (hpj.put ha hst)
              have q2 : decide (a.p < 0) = true := decide_eq_true hp0
              clear hka hst hpj how hin hp0
              go_upto_region 35 with fail
              go_quiet ((go_at_call 16; exact Calls.quiet_of_same (HHAS.out _ (HDN.out _))))
              go_upto_region 36 with fail
              go_quiet (fail)
              go_wp2_with fail
              go_roundw
              case rel => exact ⟨k + 1, _, by go_num, HKL.out, HPU.out, HRP.out _, HBP.out _⟩
              case measure => simp [intOf]; omega
            · have q2 : decide (a.p < 0) = false := decide_eq_false hp0
              obtain ⟨p, hp⟩ : ∃ p : Nat, a.p = (p : Int) := ⟨a.p.toNat, by omega⟩
              have hpa := hpj.p i a ha
              rw [parF_here, hp] at hpa
              have hpk : p < k := by
                rcases parK_spec (hds fl) ((hds fl).map (mbs fl)) i k with ⟨e, _⟩ | ⟨q, hq, e, _⟩ <;> omega
              obtain ⟨z, hz⟩ : ∃ z, ys[p]? = some z := ⟨_, List.getElem?_eq_getElem (by have := hpj.len; have := HM.out.1; omega)⟩
              obtain ⟨g3, e3, _, r0, r1, r2, _, _⟩ := how.at' hz
              cases e3
              have hzl : ((hds fl).map (mbs fl)).getD p [] = mbs fl z.h := by
                rw [mms_at (by have := HM.out.1; omega), hpj.head hz]
              rw [hp, Int.toNat_natCast, hzl] at hst
              rw [hp] at q2 c1
              have hpi : (p : Int) < (m : Int) := by omega
              by_cases hll : (mbs fl b.h).length < (mbs fl z.h).length
              · rw [if_pos ⟨hka, hin, .inr hll⟩] at hst
                have HPU := Hid.mk' (hpj.put ha hst)
                have q3 : decide ((mbs fl b.h).length < (mbs fl z.h).length) = true := decide_eq_true hll
                have q4 : decide (((mbs fl b.h).length : Int) < ((mbs fl z.h).length : Int)) = true := decide_eq_true (by omega)
                clear hka hst hpj how hin hp0 hpa hzl hll hz
                go_upto_region 35 with fail
                go_quiet ((go_at_call 16; exact Calls.quiet_of_same (HHAS.out _ (HDN.out _))))
                go_upto_region 36 with fail
                go_quiet (fail)
                go_wp2_with fail
                go_roundw
                case rel => exact ⟨k + 1, _, by go_num, HKL.out, HPU.out, HRP.out _, HBP.out _⟩
                case measure => simp [intOf]; omega
              · rw [if_neg (fun h => h.2.2.elim (fun h => by omega) hll)] at hst
                have HSK := Hid.mk' (hpj.skip (by rw [hst]; exact hpa))
                have q3 : decide ((mbs fl b.h).length < (mbs fl z.h).length) = false := decide_eq_false hll
                have q4 : decide (((mbs fl b.h).length : Int) < ((mbs fl z.h).length : Int)) = false := decide_eq_false (by omega)
                clear hka hst hpj how hin hp0 hpa hzl hll hz
                go_upto_region 35 with fail
                go_quiet ((go_at_call 16; exact Calls.quiet_of_same (HHAS.out _ (HDN.out _))))
                go_upto_region 36 with fail
                go_quiet (fail)
                go_wp2_with fail
                go_roundw
                case rel => exact ⟨k + 1, ys, by go_num, HKL.out, HSK.out, HRN.out _, HBN.out _⟩
                case measure => simp [intOf]; omega
          · rw [decide_eq_false hin] at HHAS
            rw [if_neg (fun h => hin h.2.1)] at hst
            have HSK := Hid.mk' (hpj.skip (by rw [hst]; exact (by have := hpj.p i a ha; rwa [parF_here] at this)))
            clear hka hst hpj how hin
            go_upto_region 35 with fail
            go_quiet ((go_at_call 16; exact Calls.quiet_of_same (HHAS.out _ (HDN.out _))))
            go_upto_region 36 with fail
            go_quiet (fail)
            go_wp2_with fail
            go_roundw
            case rel => exact ⟨k + 1, ys, by go_num, HKL.out, HSK.out, HRN.out _, HBN.out _⟩
            case measure => simp [intOf]; omega
        · have hki : ¬ (k : Int) < (m : Int) := by omega
          have hkm : k = (hds fl).length := by have := HM.out.1; omega
          have HNX : Hid (PaJ fl (i + 1) 0 ys) := by
            rw [hkm] at hpj
            exact hpj.next
          have HOW := Hid.mk' how
          clear hpj how hbw hkm hyl
          go_wp2_with fail
          go_roundw
          case rel => exact ⟨i + 1, ys, by go_num, HLT.out, HNX.out, HOW.out, HBW.out⟩
          case measure => have := HLT.out; simp [intOf]; omega
    · have hii : ¬ (i : Int) < (m : Int) := by omega
      have him : i = (hds fl).length := by have := HM.out.1; omega
      have HR : Hid (ys.map (Lr.lo fl) = lopsZ fl) := by
        have h := HPJ.out
        rw [him] at h
        exact h.done
      have HO : Hid (OwnR fl w.heap.size ys (.slice la m lc) wr ∧ Below w.heap.size w wr) := ⟨HOW.out.mono HB1.out.size, Below.on HB1.out HBW.out⟩
      clear him HPJ HOW HBW hlt
      go_wp2_with fail
      exact bodyPost_ret (v := .tuple #[.slice la m lc, .int .i64 0, .int .i64 0]) (by simp [results, Tryd.results9, go_sem]) rfl ⟨_, ys, by rw [HFN.out]; rfl, by rw [HFN.out]; exact HR.out, HO.out⟩
end Go.Proofs.YtgiokognngllcaaDoor
namespace Go.Proofs.YtgiokognngllcaaDoor
open Go.RowKit Go.Sort

/-- While a loop's members are gathered. -/
structure MbI (w0 Wm : World) (h : Nat) (bs : List Bool) (vb : Value) (k : Nat) (a : Option Addr) (c : Nat) (W : World) : Prop where
  x : W.heap[w0.heap.size]? = some (.cells #[.int .i64 (h : Int), .int .i64 (-1), .slice a (rcM bs k).length c, vb] 40)
  m : On Wm.heap.size (rcM bs k) (.slice a (rcM bs k).length c) W
  kp : ∀ j, j < Wm.heap.size → j ≠ w0.heap.size → W.heap[j]? = Wm.heap[j]?
  b : Below w0.heap.size w0 W
  s : Wm.heap.size ≤ W.heap.size
theorem MbI.skip {w0 Wm : World} {h : Nat} {bs : List Bool} {vb : Value} {k : Nat} {a : Option Addr} {c : Nat} {W : World} (h1 : MbI w0 Wm h bs vb k a c W) (hb : bs[k]? = some false) : MbI w0 Wm h bs vb (k + 1) a c W := by
  have e := rcM_no hb
  exact ⟨by rw [e]; exact h1.x, by rw [e]; exact h1.m, h1.kp, h1.b, h1.s⟩
theorem MbI.more {w0 Wm : World} {h : Nat} {bs : List Bool} {vb : Value} {k : Nat} {a a' : Option Addr} {c c' : Nat} {W W' : World} (h1 : MbI w0 Wm h bs vb k a c W) (hb : bs[k]? = some true) (hw : w0.heap.size < Wm.heap.size) (hg : W.grownBy W' (Value.slice a (rcM bs k).length c).ownBlock) (ho : On Wm.heap.size (rcM bs k ++ [k]) (.slice a' (rcM bs k ++ [k]).length c') W') :
    W'.heap[w0.heap.size]? = some (.cells #[.int .i64 (h : Int), .int .i64 (-1), .slice a (rcM bs k).length c, vb] 40) ∧ MbI w0 Wm h bs vb (k + 1) a' c' (W'.setCell ⟨w0.heap.size, 2, none⟩ (.slice a' (rcM bs k ++ [k]).length c')) := by
  have hx : W'.heap[w0.heap.size]? = some (.cells #[.int .i64 (h : Int), .int .i64 (-1), .slice a (rcM bs k).length c, vb] 40) := (hg.block _ (Array.getElem?_eq_some_iff.1 h1.x).1 (fun e => by have := own_base h1.m _ e.symm; omega)).trans h1.x
  refine ⟨hx, ?_, ?_, fun j hj hne => ?_, ?_, ?_⟩
  · have := heap_setCell_same W' w0.heap.size 2 _ 40 (.slice a' (rcM bs k ++ [k]).length c') hx
    rw [rcM_yes hb]
    exact this
  · rw [rcM_yes hb]
    exact own_set ho hx (by decide) _ _
  · exact (heap_setCell_other W' ⟨w0.heap.size, 2, none⟩ j _ (fun e => hne (by rw [e]))).trans ((hg.block j (Nat.lt_of_lt_of_le hj h1.s) (fun e => by have := own_base h1.m _ e.symm; omega)).trans (h1.kp j hj hne))
  · exact (h1.b.grown hg h1.b.size (fun j e => by have := own_base h1.m _ e; omega)).setCell (p := ⟨w0.heap.size, 2, none⟩) (Nat.le_refl _) _
  · simp only [World.setCell, Array.size_modify]; exact Nat.le_trans h1.s hg.size
theorem PaJ.start {l : List Is} {xs : List Lr} (h : xs.map Lr.h = hds l) (hp : ∀ x ∈ xs, x.p = -1) : PaJ l 0 0 xs := ⟨h, fun j y hy => by
  rw [hp y (List.mem_of_getElem? hy)]
  unfold parF
  rw [if_neg (Nat.not_lt_zero _)]
  split
  · rfl
  · rfl⟩
theorem own_still' {W W' : World} {n B sz : Nat} {T : TypeId} {v : Value} {xs : List Value} (h : W.ownsRow (B + 1) T sz v n xs) (hk : ∀ j, j < W.heap.size → j ≠ B → W'.heap[j]? = W.heap[j]?) : W'.ownsRow (B + 1) T sz v n xs := own_still h fun k h1 h2 => hk k h2 (by omega)
noncomputable def fdH : Code := fdR (fdR (fdR (fdR (fdR (fdR (fdR ((Tryd.f9.body.getD .skip))))))))
set_option maxRecDepth 100000 in
set_option maxHeartbeats 8000000 in
theorem rf_heads (w W1 Wb W0 : World) (fn : ByteArray) (fpa : Option Addr) (fpc : Nat) (fps : List Sp) (frg fwd : Int) (fca : Option Addr) (fcc : Nat) (fl : List Is) (F1 F2 : Nat) (fr : Nat → List Nat) (vs : List Value)
    (HN1 : Hid (fl.length ≤ 1024)) (HKZ : Hid (kntZ fl = none)) (HB1 : Hid (Below w.heap.size w W1)) (HI : Hid (∀ W, Below w.heap.size w W → Iss W fca fl))
    (HX : Hid (W0.heap[w.heap.size]? = some (.cells #[.string fn, .slice fpa fps.length fpc, .int .i64 frg, .int .i64 fwd, .slice fca fl.length fcc] 25))) (HFR : Hid (LsR W0 (some ⟨F1, 0, none⟩) fl.length fr)) (HFX : Hid (∀ x, x < fl.length → ∀ u, u ∈ fr x ↔ Rch fl u ∧ x ∈ nxt fl u)) (HFL : Hid (∀ j, (fr j).length ≤ 3000))
    (HOF : Hid (LG Wb fl.length F2 Wb.heap.size (bks fl) vs W0)) (HWB : Hid (W1.heap.size ≤ Wb.heap.size)) (HB0 : Hid (Below W1.heap.size W1 W0))
    (K : Act → World → Prop) (hK : ∀ a W, (fdR fdH).wp Tryd.prog (bodyPost Tryd.prog Tryd.f9 fun e w' => RfP fl w e w') a W → K a W) (u0 u2 u3 u4 u5 u6 u7 u8 u9 u12 u13 u14 u15 u16 u17 u18 u19 u20 u21 u22 u23 u24 u25 u26 u27 u28 u29 u30 u31 u32 u33 u34 u35 u36 u37 u38 u39 u40 u41 u42 u43 u44 u45 u46 u47 u48 u49 u50 u51 u52 u53 u54 u55 u56 u57 u58 u59 u60 u61 u62 u63 u64 u65 u66 u67 u68 u69 u70 u71 u72 u73 u74 u75 u76 u77 u78 u79 u80 u81 u82 u83 u84 u85 u86 u87 u88 u89 u90 u91 u92 u93 u94 u95 u96 u97 u98 u99 u100 u101 u102 u103 u104 u105 u106 u107 u108 u109 u110 u111 u112 u113 u114 u115 u116 u117 u118 u119 u120 u121 u122 u123 u124 u125 u126 u127 u128 u129 u130 u131 u132 u133 u134 u135 u136 u137 u138 u139 u140 u141 u142 u143 u144 u145 u146 u147 u148 u149 u150 u151 u152 u153 u154 u155 u156 u157 u158 u159 u160 u161 u162 u163 u164 u165 u166 u167 u168 u169 u170 u171 u172 u173 u174 u175 u176 u177 u178 u179 u180 u181 u182 u183 : Value) :
    (fdL fdH).wp Tryd.prog (Exit.then K (bodyPost Tryd.prog Tryd.f9 fun e w' => RfP fl w e w')) { tmps := #[u0, .pointer (some ⟨w.heap.size, 0, none⟩), u2, u3, u4, u5, u6, u7, u8, u9, .slice (some ⟨F1, 0, none⟩) fl.length fl.length, .slice (some ⟨F2, 0, none⟩) fl.length fl.length, u12, u13, u14, u15, u16, u17, u18, u19, u20, u21, u22, u23, u24, u25, u26, u27, u28, u29, u30, u31, u32, u33, u34, u35, u36, u37, u38, u39, u40, u41, u42, u43, u44, u45, u46, u47, u48, u49, u50, u51, u52, u53, u54, u55, u56, u57, u58, u59, u60, u61, u62, u63, u64, u65, u66, u67, u68, u69, u70, u71, u72, u73, u74, u75, u76, u77, u78, u79, u80, u81, u82, u83, u84, u85, u86, u87, u88, u89, u90, u91, u92, u93, u94, u95, u96, u97, u98, u99, u100, u101, u102, u103, u104, u105, u106, u107, u108, u109, u110, u111, u112, u113, u114, u115, u116, u117, u118, u119, u120, u121, u122, u123, u124, u125, u126, u127, u128, u129, u130, u131, u132, u133, u134, u135, u136, u137, u138, u139, u140, u141, u142, u143, u144, u145, u146, u147, u148, u149, u150, u151, u152, u153, u154, u155, u156, u157, u158, u159, u160, u161, u162, u163, u164, u165, u166, u167, u168, u169, u170, u171, u172, u173, u174, u175, u176, u177, u178, u179, u180, u181, u182, u183], defers := [] } W0 := by
  generalize hq : (bodyPost Tryd.prog Tryd.f9 fun e w' => RfP fl w e w') = Q at hK ⊢
  simp only [fdH, Tryd.f9, Option.getD_some, fdR, fdL] at hK ⊢
  subst hq
  have HL0 : Hid ((W0.alloc (.cells #[] 40)).ownsRow W0.heap.size 40 4 (.slice (some ⟨W0.heap.size, 0, none⟩) 0 0) 0 []) := row_new W0 40 4
  have HR0 : Hid (OwnR fl W1.heap.size [] (.slice (some ⟨W0.heap.size, 0, none⟩) 0 0) (W0.alloc (.cells #[] 40))) := ⟨own_mono HL0.out HB0.out.size, (fun _ h => by cases h), (fun _ h => by cases h)⟩
  have HBZ := Hid.mk' (Below.one (Below.refl W0.heap.size W0) (.cells #[] 40))
  have HE0 : Hid (errH fl (List.range 0) = none) := rfl
  go_wp2_with fail
  go_loopw [12, 13] (fun t12 t13 wr => ∃ (k : Nat) (xs : List Lr) (va : Value), k ≤ fl.length ∧ t12 = va ∧ t13 = .int .i64 (k : Int) ∧ wr.ownsRow W0.heap.size 40 4 va xs.length (xs.flatMap (Lr.cells fl)) ∧ OwnR fl W1.heap.size xs va wr ∧ xs.map Lr.h = hdK fl k ∧ (∀ x ∈ xs, x.p = -1) ∧ errH fl (List.range k) = none ∧ Below W0.heap.size W0 wr) (fun _ t13 _ => fl.length - (intOf t13).toNat)
  case atStart => exact ⟨0, [], _, Nat.zero_le _, rfl, rfl, HL0.out, HR0.out, rfl, (fun _ h => by cases h), HE0.out, HBZ.out⟩
  case round =>
    clear HL0 HR0 HBZ HE0
    obtain ⟨k, xs, va, hk, rfl, rfl, hli, how, hxh, hxp, herr, hbw⟩ := hrel
    have HLI := Hid.mk' hli
    have HOW := Hid.mk' how
    have HXH := Hid.mk' hxh
    have HXP := Hid.mk' hxp
    have HER := Hid.mk' herr
    have HBW := Hid.mk' hbw
    have HBWW : Hid (Below w.heap.size w wr) := Below.on HB1.out (Below.on HB0.out hbw)
    have hxl : xs.length ≤ fl.length := by
      have h1 : (xs.map Lr.h).length = (hdK fl k).length := by rw [hxh]
      have h2 := List.length_filter_le (fun h => !(bks fl h).isEmpty) (List.range k)
      rw [List.length_map] at h1
      rw [List.length_range] at h2
      unfold hdK at h1
      omega
    have HXL := Hid.mk' hxl
    obtain ⟨la, lc, rfl⟩ := gown_form hli
    have hnn := HN1.out
    have HXW := Hid.mk' (blk_stay HX.out hbw)
    have z4 := cell_of_obj HXW.out (j := 4) (v := .slice fca fl.length fcc) rfl
    clear hli how hxh hxp herr hbw
    by_cases hlt : k < fl.length
    · have hki : (k : Int) < (fl.length : Int) := by omega
      have hlg := HOF.out.stay HBW.out
      obtain ⟨ab, cb, hq⟩ := gown_form (hlg.rows k hlt)
      have c0 := cell_of_obj hlg.f (j := k) (v := vs.getD k undef) (by rw [List.getElem?_toArray]; exact vs_at (by rw [hlg.len]; exact hlt))
      rw [hq] at c0
      have hbr := hlg.rows k hlt
      rw [hq] at hbr
      have HBR := Hid.mk' hbr
      have HBL : Hid ((bks fl k).length ≤ 1024) := Nat.le_trans (bks_len fl k) hnn
      clear hbr hq hlg
      by_cases hb0 : bks fl k = []
      · have hq : (((bks fl k).length : Int) == 0) = true := by rw [hb0]; rfl
        have HX2 : Hid (hdK fl (k + 1) = hdK fl k) := hdK_no hb0
        have HE2 := Hid.mk' (errH_snoc HER.out (.inl hb0))
        clear hb0
        go_wp2_with fail
        go_roundw
        case rel => exact ⟨k + 1, xs, _, hlt, rfl, by go_num, HLI.out, HOW.out, by rw [HX2.out]; exact HXH.out, HXP.out, HE2.out, HBW.out⟩
        case measure => simp [intOf]; omega
      · have hq : (((bks fl k).length : Int) == 0) = false := beq_no (by
          intro e
          exact hb0 (List.eq_nil_of_length_eq_zero (by omega)))
        have HB0' := Hid.mk' hb0
        obtain ⟨W2, hW2⟩ : ∃ X, X = wr.alloc (.cells #[.int .i64 (k : Int), .int .i64 (-1), .slice none 0 0, .slice ab (bks fl k).length cb] 40) := ⟨_, rfl⟩
        have hb2 : Below wr.heap.size wr W2 := by rw [hW2]; exact Below.one (Below.refl _ _) _
        have hx2 : W2.heap[wr.heap.size]? = some (.cells #[.int .i64 (k : Int), .int .i64 (-1), .slice none 0 0, .slice ab (bks fl k).length cb] 40) := by rw [hW2]; exact heap_alloc_new wr _
        have hs2 : W2.heap.size = wr.heap.size + 1 := by rw [hW2, World.size_alloc]
        have HB2 := Hid.mk' hb2
        have HX2 := Hid.mk' hx2
        have HS2 : Hid (W2.heap.size = wr.heap.size + 1) := hs2
        have HLT := Hid.mk' hlt
        have HBW2 : Hid (Below w.heap.size w W2) := Below.on HBWW.out hb2
        have HME : Hid (∀ W, Below W2.heap.size W2 W → Calls Tryd.prog 28 #[.int .i64 (fl.length : Int), .slice (some ⟨F1, 0, none⟩) fl.length fl.length, .int .i64 (k : Int), .slice ab (bks fl k).length cb] W fun e w' => ∃ v bs, e = .returned v ∧ bs.length = fl.length ∧ (∀ x, bs[x]? = some true ↔ Mbr fl k x) ∧ Ob (wr.heap.size + 1) bs v w' ∧ Below W.heap.size W w') := fun W hW => by
          have hb3 : Below wr.heap.size wr W := Below.on HB2.out hW
          have hsz : wr.heap.size + 1 ≤ W.heap.size := by have := hW.size; have := HS2.out; omega
          refine (rmembers_any fl fl.length k fr (bks fl k) _ _ _ _ W HN1.out HLT.out (fun v hv => hv.lt (bks_rch HB0'.out).2 (bks_rch HB0'.out).1) HFX.out (fun u => mem_bks (bks_rch HB0'.out).2) (HFR.out.stay (Below.on HBW.out hb3)) (own_lst (own_stay HBR.out hb3)) HFL.out (Nat.le_trans HBL.out (by decide))).mono ?_
          rintro e w' ⟨v, bs, h1, h2, h3, h4, h5⟩
          exact ⟨v, bs, h1, h2, h3, own_mono h4 hsz, h5⟩
        have z4' := cell_kept_below z4 hb2
        have c0' := cell_kept_below c0 hb2
        have HW2 := Hid.mk' hW2
        clear hb0 hb2 hx2 hs2 hlt hW2
        go_upto_region 19 with fail
        rw [← HW2.out]
        have p0 : ∀ w', Below W2.heap.size W2 w' → w'.cell? _ = some _ := fun w' h => cell_kept_below z4' h
        have p1 : ∀ w', Below W2.heap.size W2 w' → w'.cell? _ = some _ := fun w' h => cell_kept_below c0' h
        clear z4 c0 z4' c0' HW2
        go_region_held3 (fun w' => Below W2.heap.size W2 w') (first | exact Below.drew (Below.refl _ _) | exact Below.on (by assumption) (by assumption) | exact Below.one (by assumption) _)
          (first
            | (go_at_call 28; refine (HME.out _ (by assumption)).mono ?_; rintro e w' ⟨vw, bs, rfl, hbl, hbm, hob, hb⟩))
        have hB : Below W2.heap.size W2 w' := by assumption
        obtain ⟨ia, ic, rfl⟩ := gown_form hob
        have HB := Hid.mk' hB
        have HBS : Hid (bs.length = fl.length) := hbl
        have HBM := Hid.mk' hbm
        have HS1 : Hid (wr.heap.size < w'.heap.size) := (by have := hB.size; have := HS2.out; omega : _ < _)
        have HBW3 : Hid (Below wr.heap.size wr w') := Below.on HB2.out hB
        have HOBI : Hid (Ob (wr.heap.size + 1) bs (.slice ia bs.length ic) w') := hob
        have HMI0 : Hid (MbI wr w' k bs (.slice ab (bks fl k).length cb) 0 none 0 w') := ⟨blk_stay HX2.out hB, on_nil _ _, fun _ _ _ => rfl, HBW3.out, Nat.le_refl _⟩
        have HIN : Hid (∀ W', (∀ j, j < w'.heap.size → j ≠ wr.heap.size → W'.heap[j]? = w'.heap[j]?) → Ob (wr.heap.size + 1) bs (.slice ia bs.length ic) W') := fun W' hk => own_still' HOBI.out hk
        clear p0 p1 hB hob hbl hbm hb HME HX2
        obtain ⟨Wm, hWm⟩ : ∃ X, X = w' := ⟨_, rfl⟩
        subst hWm
        obtain ⟨Wr, hWr⟩ : ∃ X, X = wr := ⟨_, rfl⟩
        subst hWr
        go_wp2_with fail
        go_loopw [16] (fun t16 wq => ∃ (v : Nat) (a : Option Addr) (c : Nat), t16 = .int .i64 (v : Int) ∧ v ≤ fl.length ∧ MbI Wr Wm k bs (.slice ab (bks fl k).length cb) v a c wq) (fun t16 _ => fl.length - (intOf t16).toNat)
        case atStart => exact ⟨0, none, 0, rfl, Nat.zero_le _, HMI0.out⟩
        case round =>
          clear HMI0
          obtain ⟨v, a, c, rfl, hv, hmi⟩ := hrel
          have HMI := Hid.mk' hmi
          have hnn := HN1.out
          have hrl := rcM_len bs v
          have b2 := cell_of_obj hmi.x (j := 2) (v := .slice a (rcM bs v).length c) rfl
          by_cases hvl : v < fl.length
          · have hvi : (v : Int) < (bs.length : Int) := by have := HBS.out; omega
            obtain ⟨bv, hbv⟩ : ∃ b, bs[v]? = some b := ⟨_, List.getElem?_eq_getElem (by have := HBS.out; omega)⟩
            obtain ⟨gc, rfl, d0, k1, k2⟩ := ob_at (HIN.out wr hmi.kp) hbv
            clear k1 k2
            have HBV := Hid.mk' hbv
            have HVL := Hid.mk' hvl
            have hbsl : bs.length ≤ 1024 := by have := HBS.out; omega
            clear hmi hbv hvl
            cases bv
            · have HSK := Hid.mk' (HMI.out.skip HBV.out)
              go_wp2_with fail
              go_roundw
              case rel => exact ⟨v + 1, a, c, by go_num, HVL.out, HSK.out⟩
              case measure => have := HVL.out; simp [intOf]; omega
            · have HAP := Hid.mk' (on_app HMI.out.m HMI.out.s (by omega) v 38)
              have HGR : Hid (∀ a' c' W', wr.grownBy W' (Value.slice a (rcM bs v).length c).ownBlock → On Wm.heap.size (rcM bs v ++ [v]) (.slice a' (rcM bs v ++ [v]).length c') W' → W'.cell? ⟨Wr.heap.size, 2, none⟩ = some (.slice a (rcM bs v).length c) ∧ W'.frozen? ⟨Wr.heap.size, 2, none⟩ = false ∧ MbI Wr Wm k bs (.slice ab (bks fl k).length cb) (v + 1) a' c' (W'.setCell ⟨Wr.heap.size, 2, none⟩ (.slice a' (rcM bs v ++ [v]).length c'))) := fun a' c' W' hg ho => by
                obtain ⟨h1, h2⟩ := HMI.out.more HBV.out HS1.out hg ho
                exact ⟨cell_of_obj h1 rfl, Lib.frozen_of_heap h1 _, h2⟩
              go_wp2_with (at_builtin; refine wpl_app rfl _ _ 38 38 _ _ rfl rfl rfl HAP.out ?_; rintro v6 W6 ⟨on6, gr6⟩; obtain ⟨a6, k6, rfl⟩ := gown_form on6; obtain ⟨s1, s2, s3⟩ := HGR.out _ _ _ gr6 on6)
              rw [show (rcM bs v ++ [v]).length = (rcM bs v).length + 1 by simp] at s3
              go_roundw
              case rel => exact ⟨v + 1, a6, k6, by go_num, HVL.out, s3⟩
              case measure => have := HVL.out; simp [intOf]; omega
          · have hvi : ¬ (v : Int) < (bs.length : Int) := by have := HBS.out; omega
            have hvn : v = fl.length := by omega
            have hmb : rcM bs v = mbs fl k := by
              rw [hvn]
              exact rcB_mbs HBM.out
            have hbw := hmi.b
            have HW : Hid (Below w.heap.size w wr) := Below.on HBWW.out hbw
            have HXV := Hid.mk' (blk_stay HXW.out hbw)
            have hmx := hmi.x
            have hmm := hmi.m
            rw [hmb] at hmx hmm
            have HMM := Hid.mk' hmm
            have HMX := Hid.mk' hmx
            have HBWQ : Hid (Below Wr.heap.size Wr wr) := hbw
            have HBRQ := Hid.mk' (own_stay HBR.out hbw)
            have z0 := cell_of_obj HXV.out (j := 0) (v := .string fn) rfl
            have z1 := cell_of_obj HXV.out (j := 1) (v := .slice fpa fps.length fpc) rfl
            have z2 := cell_of_obj HXV.out (j := 2) (v := .int .i64 frg) rfl
            have z3 := cell_of_obj HXV.out (j := 3) (v := .int .i64 fwd) rfl
            have z4 := cell_of_obj HXV.out (j := 4) (v := .slice fca fl.length fcc) rfl
            have l0 := cell_of_obj hmx (j := 0) (v := .int .i64 (k : Int)) rfl
            have l1 := cell_of_obj hmx (j := 1) (v := .int .i64 (-1)) rfl
            have l2 := cell_of_obj hmx (j := 2) (v := .slice a (mbs fl k).length c) rfl
            have l3 := cell_of_obj hmx (j := 3) (v := .slice ab (bks fl k).length cb) rfl
            have HCK := Hid.mk' (rcounts_any fn fpa fpc fps frg fwd fca fcc fl k (-1) (mbs fl k) (bks fl k) a ab c cb wr (HI.out _ HW.out) HN1.out HLT.out (fun v hv => (mem_mbs' hv).2) (fun v hv => (mem_bks' hv).2) (Nat.le_trans (mbs_len fl k) HN1.out) HBL.out (own_lst hmm) (own_lst HBRQ.out))
            clear hmi hvn hmb hbw hmx hmm b2 HMI hvl
            go_wp2_with fail
            refine HCK.out.mono ?_
            rintro e W8 ⟨rfl, bb8⟩
            have HB8 : Hid (Below Wr.heap.size Wr W8) := Below.on HBWQ.out bb8
            have HW8 : Hid (Below w.heap.size w W8) := Below.on HW.out bb8
            have hmx8 := blk_stay HMX.out bb8
            have HM8 := Hid.mk' (own_stay HMM.out bb8)
            have HR8 := Hid.mk' (own_stay HBRQ.out bb8)
            have l0 := cell_of_obj hmx8 (j := 0) (v := .int .i64 (k : Int)) rfl
            have l1 := cell_of_obj hmx8 (j := 1) (v := .int .i64 (-1)) rfl
            have l2 := cell_of_obj hmx8 (j := 2) (v := .slice a (mbs fl k).length c) rfl
            have l3 := cell_of_obj hmx8 (j := 3) (v := .slice ab (bks fl k).length cb) rfl
            clear bb8 z0 z1 z2 z3 z4 hmx8 HCK HMM HMX HBRQ HXV
            cases hcz : cntZ fl k (bks fl k) (mbs fl k) with
            | some p =>
              have HF := Hid.mk' (fnd_err HN1.out HKZ.out (errH_here HER.out HLT.out HB0'.out hcz))
              have hp0 := cnt_ne hcz
              have hqp : ((p.1 : Int) != 0) = true := bne_of (by omega)
              clear hcz hp0
              unfold cntV
              simp only
              go_wp2_with fail
              exact bodyPost_ret (v := .tuple #[.slice none 0 0, .int .i64 (p.1 : Int), .int .i64 (p.2 : Int)]) (by simp [results, Tryd.results9, go_sem]) rfl ⟨_, [], by rw [HF.out], by rw [HF.out]; rfl, OwnR.nil _ _ _, HW8.out⟩
            | none =>
              have HE2 := Hid.mk' (errH_snoc HER.out (.inr hcz))
              have HXK : Hid (hdK fl (k + 1) = hdK fl k ++ [k]) := hdK_yes HB0'.out
              have HB08 : Hid (Below W0.heap.size W0 W8) := Below.on HBW.out HB8.out
              have HL8 := Hid.mk' (own_stay HLI.out HB8.out)
              have HO8 := Hid.mk' (HOW.out.stay HB8.out)
              have hxl := HXL.out
              have HAP := Hid.mk' (lp_app HL8.out HB08.out.size (by omega) (.int .i64 (k : Int)) (.int .i64 (-1)) (.slice a (mbs fl k).length c) (.slice ab (bks fl k).length cb) (by simp [Value.oneCell']) 27)
              have HNX : Hid (∀ v' W', W8.grownBy W' (Value.slice la xs.length lc).ownBlock → W'.ownsRow W0.heap.size 40 4 v' (xs.length + 1) (xs.flatMap (Lr.cells fl) ++ [.int .i64 (k : Int), .int .i64 (-1), .slice a (mbs fl k).length c, .slice ab (bks fl k).length cb]) → W'.ownsRow W0.heap.size 40 4 v' (xs ++ [(⟨k, -1, a, c, ab, cb, 0⟩ : Lr)]).length ((xs ++ [(⟨k, -1, a, c, ab, cb, 0⟩ : Lr)]).flatMap (Lr.cells fl)) ∧ OwnR fl W1.heap.size (xs ++ [(⟨k, -1, a, c, ab, cb, 0⟩ : Lr)]) v' W' ∧ Below W0.heap.size W0 W') := fun v' W' hg ho => by
                refine ⟨?_, HO8.out.more (x := ⟨k, -1, a, c, ab, cb, 0⟩) hg (own_mono ho HB0.out.size) (own_mono HM8.out ?_) (own_mono HR8.out HWB.out), HB08.out.grown hg HB08.out.size (fun j e => own_base HL8.out j e)⟩
                · rw [List.length_append, List.flatMap_append]
                  simpa [Lr.cells, Lr.mv, Lr.bv] using ho
                · have h1 := HS1.out
                  have h2 := HBW.out.size
                  have h3 := HB0.out.size
                  omega
              clear hcz
              unfold cntV
              simp only
              go_wp2_with (at_builtin; refine wpl_app rfl _ _ 27 27 _ _ rfl rfl rfl HAP.out ?_; rintro v6 W6 ⟨on6, gr6⟩)
              obtain ⟨s1, s2, s3⟩ := HNX.out _ _ gr6 on6
              go_roundw
              case rel => exact ⟨k + 1, xs ++ [(⟨k, -1, a, c, ab, cb, 0⟩ : Lr)], _, HLT.out, rfl, by go_num, s1, s2, by rw [List.map_append, HXK.out, HXH.out]; rfl, (fun x hx => by
                rcases List.mem_append.1 hx with hx | hx
                · exact HXP.out x hx
                · rw [List.mem_singleton] at hx; subst hx; rfl), HE2.out, s3⟩
              case measure => have := HLT.out; simp [intOf]; omega
    · have hki : ¬ (k : Int) < (fl.length : Int) := by omega
      have hkn : k = fl.length := by omega
      have hdd : xs.map Lr.h = hds fl := by rw [HXH.out, hkn]; rfl
      have HPJ := Hid.mk' (PaJ.start hdd HXP.out)
      have HFN : Hid (fndZ fl = ⟨lopsZ fl, 0, 0⟩) := fnd_ok HN1.out HKZ.out (by have := HER.out; rwa [hkn] at this)
      have HMM : Hid (xs.length = (hds fl).length ∧ xs.length ≤ 1024) := ⟨by rw [← hdd, List.length_map], Nat.le_trans HXL.out HN1.out⟩
      have HBE : Hid (Below W1.heap.size W1 wr) := Below.on HB0.out HBW.out
      clear hkn hdd hlt
      go_upto_region 29 with fail
      exact rf_par w W1 wr fl xs la lc xs.length HFN HMM HPJ HB1 HOW HBE _ _ (by assumption) (by assumption) _ _ _ _ _ _ _ _ _ _ _ _ _ _ _ _ _ _ _ _ _ _ _ _ _ _ _ _ _ _ _ _ _ _ _ _ _ _ _ _ _ _ _ _ _ _ _ _ _ _ _ _ _ _ _ _ _ _ _ _ _ _ _ _ _ _ _ _ _ _ _ _ _ _ _ _ _ _ _ _ _ _ _ _ _ _ _ _ _ _ _ _ _ _ _ _ _ _ _ _ _ _ _ _ _ _ _ _ _ _ _ _ _ _ _ _ _ _ _ _ _ _ _ _ _ _ _ _ _ _ _ _ _ _ _ _ _ _ _ _ _ _ _ _ _ _ _ _ _ _ _ _ _ _ _ _ _ _ _ _ _ _ _ _ _ _ _ _ _ _ _ _ _ _ _ _ _ _ _ _ _ _ _
end Go.Proofs.YtgiokognngllcaaDoor
namespace Go.Proofs.YtgiokognngllcaaDoor
open Go.RowKit Go.Sort

/-- All of one row of edges behind another one. -/
theorem oe_all {N N' : Nat} {l es : List (Nat × Nat)} {v : Value} {a : Option Addr} {c : Nat} {W : World} (h : Oe N l v W) (h' : Oe N' es (.slice a es.length c) W) (hN : N ≤ W.heap.size) (hl : l.length + es.length ≤ 1000000) (ty : TypeId) :
    ∃ v' W', (Builtin.append_ #[46, 46] ty #[v, .slice a es.length c]).run Tryd.prog W = .ok v' W' ∧ Oe N (l ++ es) v' W' ∧ W.grownBy W' v.ownBlock := by
  obtain ⟨i0, hi, hz0, hz1, hz2⟩ := info_parts Tryd.infoE
  obtain ⟨v', W', hr, h2, h3⟩ := run_append_ownS (P := Tryd.prog) W N 46 ty 49 i0 (.agg #[.int .i64 0, .int .i64 0]) 2 16 Tryd.underlying46 hi hz0 hz1 hz2 rfl (by decide) v _ _ h a es.length c (es.flatMap edC) h'.1 (fun e => by
      subst e
      rcases h'.2 with ⟨_, e⟩ | ⟨g, cap, cur, e, _⟩
      · exact e
      · cases e) (fun ad e j u hu => by
      subst e
      rcases h'.2 with ⟨e, _⟩ | ⟨g, cap, cur, e, _⟩
      · cases e
      · have e1 := Option.some.inj (Value.slice.inj e).1
        subst e1
        exact h'.cells (g := g) rfl j u hu) (by
      intro u hu
      obtain ⟨x, _, hx⟩ := List.mem_flatMap.1 hu
      unfold edC at hx
      simp only [List.mem_cons, List.not_mem_nil, or_false] at hx
      rcases hx with rfl | rfl <;> rfl) (by unfold maxLen; omega) (by omega) hN
  refine ⟨v', W', hr, ?_, h3⟩
  unfold Oe
  rw [List.length_append, List.flatMap_append]
  exact h2
set_option maxRecDepth 100000 in
set_option maxHeartbeats 8000000 in
theorem rfind_any (f : Fn) (w : World) (hi : Iss w f.ca f.code) : Calls Tryd.prog 9 #[f.val] w (RfP f.code w) := by
  have HSP : Hid (∀ W, Below w.heap.size w W → Calls Tryd.prog 26 #[f.val] W (SpP f.code W)) := fun W hb => split_any f W (hi.stay hb)
  have HI : Hid (∀ W, Below w.heap.size w W → Iss W f.ca f.code) := fun W hb => hi.stay hb
  clear hi
  obtain ⟨fn, fpa, fpc, fps, frg, fwd, fca, fcc, fl⟩ := f
  unfold Fn.val at *
  simp only at HSP HI ⊢
  have HB0 := Hid.mk' (Below.one (Below.refl _ w) (.cells #[.string fn, .slice fpa fps.length fpc, .int .i64 frg, .int .i64 fwd, .slice fca fl.length fcc] 25))
  have HX0 := Hid.mk' (heap_alloc_new w (.cells #[.string fn, .slice fpa fps.length fpc, .int .i64 frg, .int .i64 fwd, .slice fca fl.length fcc] 25))
  have z0 := cell_of_obj HX0.out (j := 0) (v := .string fn) rfl
  have z1 := cell_of_obj HX0.out (j := 1) (v := .slice fpa fps.length fpc) rfl
  have z2 := cell_of_obj HX0.out (j := 2) (v := .int .i64 frg) rfl
  have z3 := cell_of_obj HX0.out (j := 3) (v := .int .i64 fwd) rfl
  have z4 := cell_of_obj HX0.out (j := 4) (v := .slice fca fl.length fcc) rfl
  by_cases hlong : 1024 < fl.length
  · have hli : (1024 : Int) < (fl.length : Int) := by omega
    have HF := Hid.mk' (fnd_long hlong)
    clear hlong
    go_enter Tryd.func9, Tryd.ntmps9
    go_wp2_with fail
    exact bodyPost_ret (v := .tuple #[.slice none 0 0, .int .i64 97, .int .i64 1024]) (by simp [results, Tryd.results9, go_sem]) rfl ⟨_, [], by rw [HF.out]; rfl, by rw [HF.out]; rfl, OwnR.nil _ _ _, HB0.out⟩
  have hn : fl.length ≤ 1024 := by omega
  have hli : ¬ (1024 : Int) < (fl.length : Int) := by omega
  have HN1 := Hid.mk' hn
  clear hlong
  go_enter Tryd.func9, Tryd.ntmps9
  go_wp2_with fail
  refine (HSP.out _ HB0.out).mono ?_
  rintro e W2 ⟨va, vb, rs, rfl, hir, hoa, hob, hap, bb2⟩
  obtain ⟨aa, ac, rfl⟩ := gown_form hoa
  obtain ⟨ab, cb, rfl⟩ := gown_form hob
  have HB2 : Hid (Below w.heap.size w W2) := Below.on HB0.out bb2
  have HX2 := Hid.mk' (blk_stay HX0.out bb2)
  have HOA := Hid.mk' hoa
  have HOB := Hid.mk' hob
  have hel := edg_len hir
  have HLA : Hid ((ahdE fl (edg fl rs)).length ≤ 3000) := Nat.le_trans (ahdE_len fl _) (Nat.le_trans hel (by decide))
  have HLB : Hid ((bacE fl (edg fl rs)).length ≤ 3000) := Nat.le_trans (bacE_len fl _) (Nat.le_trans hel (by decide))
  have HLE : Hid ((ahdE fl (edg fl rs)).length + (bacE fl (edg fl rs)).length ≤ 3000) := by
    have h1 : (ahdE fl (edg fl rs)).length + (bacE fl (edg fl rs)).length = (edg fl rs).length := by
      unfold ahdE bacE
      generalize edg fl rs = es
      induction es with
      | nil => rfl
      | cons x es ih => rw [List.filter_cons, List.filter_cons]; cases bkB fl x <;> simp <;> omega
    show _ ≤ _
    rw [h1]
    exact Nat.le_trans hel (by decide)
  have HVA : Hid (∀ x ∈ ahdE fl (edg fl rs), x.1 < fl.length ∧ x.2 < fl.length) := fun x hx => by
    obtain ⟨h1, h2⟩ := (mem_ahd hir HN1.out (u := x.1) (v := x.2)).1 hx
    exact h2.lt h1
  have HVB : Hid (∀ x ∈ bacE fl (edg fl rs), x.1 < fl.length ∧ x.2 < fl.length) := fun x hx => by
    obtain ⟨h1, h2⟩ := (mem_bac hir HN1.out (u := x.1) (v := x.2)).1 hx
    exact ⟨h2.rch.lt h1, nxt_lt h2.1⟩
  have HAH : Hid (∀ u, u < fl.length → ∀ v, v ∈ outL (ahdE fl (edg fl rs)) u ↔ Ah fl u v) := fun u hu v => by
    rw [mem_outL, mem_ahd hir HN1.out]
    exact ⟨fun h => h.2, fun h => ⟨by omega, h⟩⟩
  have HFX : Hid (∀ x, x < fl.length → ∀ u, u ∈ intL (ahdE fl (edg fl rs) ++ bacE fl (edg fl rs)) x ↔ Rch fl u ∧ x ∈ nxt fl u) := fun x hx u => by
    rw [mem_intL, List.mem_append, mem_ahd hir HN1.out, mem_bac hir HN1.out]
    constructor
    · rintro (⟨_, h⟩ | ⟨_, h⟩)
      · exact ⟨h.1, h.2.1⟩
      · exact ⟨h.rch, h.1⟩
    · rintro ⟨h1, h2⟩
      have h0 : 0 < fl.length := by omega
      rcases ah_ba h1 h2 with h | h
      · exact .inl ⟨h0, h⟩
      · exact .inr ⟨h0, h⟩
  have HBK : Hid (intL (bacE fl (edg fl rs)) = bks fl) := funext fun h => bks_edg hir HN1.out h
  have z4 := cell_of_obj HX2.out (j := 4) (v := .slice fca fl.length fcc) rfl
  have HLO := Hid.mk' (lists_out (ahdE fl (edg fl rs)) fl.length aa ac W2 HN1.out HLA.out (oe_edr hoa) HVA.out)
  clear hir hoa hob hap bb2 z0 z1 z2 z3 HSP hel HX0 HB0
  generalize ahdE fl (edg fl rs) = ea at *
  generalize bacE fl (edg fl rs) = eb at *
  go_wp2_with fail
  refine HLO.out.mono ?_
  rintro e W4 ⟨FW, vw, rfl, hlg, hFW⟩
  have HB4 : Hid (Below W2.heap.size W2 W4) := hlg.b
  have HWY := Hid.mk' hlg.lsr
  have HA4 := Hid.mk' (own_stay HOA.out hlg.b)
  have HO4 := Hid.mk' (own_stay HOB.out hlg.b)
  have HX4 := Hid.mk' (blk_stay HX2.out hlg.b)
  have HW4 : Hid (Below w.heap.size w W4) := Below.on HB2.out hlg.b
  have HRO : Hid (∀ W v, Below W4.heap.size W4 W → v < fl.length → Calls Tryd.prog 27 #[.slice (some ⟨FW, 0, none⟩) fl.length fl.length, .int .i64 (v : Int)] W fun e w' => e = .returned (.bool (pD (Awy fl v v))) ∧ Below W.heap.size W w') := fun W v hb hv => rround_any fl fl.length v (outL ea) _ _ W HN1.out hv HAH.out (fun u x h => nxt_lt h.2.1) (HWY.out.stay hb) (fun j => Nat.le_trans (outL_le ea j) HLA.out)
  have HRF := Hid.mk' (Below.refl W4.heap.size W4)
  clear hlg hFW HLO z4 HOA HOB HX2 HB2 HB4
  have z4 := cell_of_obj HX4.out (j := 4) (v := .slice fca fl.length fcc) rfl
  go_wp2_with fail
  clear z4
  go_loopw [8] (fun t8 wr => ∃ v : Nat, t8 = .int .i64 (v : Int) ∧ v ≤ fl.length ∧ (∀ u, u < v → pD (Awy fl u u) = false) ∧ Below W4.heap.size W4 wr) (fun t8 _ => fl.length - (intOf t8).toNat)
  case atStart => exact ⟨0, rfl, Nat.zero_le _, fun u h => absurd h (Nat.not_lt_zero _), HRF.out⟩
  case round =>
    clear HRF
    obtain ⟨v, rfl, hv, hno, hb⟩ := hrel
    have HNO := Hid.mk' hno
    have HB := Hid.mk' hb
    have HXV := Hid.mk' (blk_stay HX4.out hb)
    have z4 := cell_of_obj HXV.out (j := 4) (v := .slice fca fl.length fcc) rfl
    have HWB : Hid (Below w.heap.size w wr) := Below.on HW4.out hb
    clear hno hb
    by_cases hvl : v < fl.length
    · have hvi : (v : Int) < (fl.length : Int) := by omega
      have HC := Hid.mk' (HRO.out wr v HB.out hvl)
      have HVL := Hid.mk' hvl
      clear hvl
      cases hp : pD (Awy fl v v)
      · rw [hp] at HC
        have HNX : Hid (∀ u, u < v + 1 → pD (Awy fl u u) = false) := fun u hu => by
          by_cases e : u = v
          · rw [e]; exact hp
          · exact HNO.out u (by omega)
        clear hp
        go_wp2_with fail
        refine HC.out.mono ?_
        rintro e W5 ⟨rfl, bb5⟩
        have HB5 : Hid (Below W4.heap.size W4 W5) := Below.on HB.out bb5
        clear bb5
        go_wp2_with fail
        go_roundw
        case rel => exact ⟨v + 1, by go_num, HVL.out, HNX.out, HB5.out⟩
        case measure => have := HVL.out; simp [intOf]; omega
      · rw [hp] at HC
        have HF := Hid.mk' (fnd_knot HN1.out (kntZ_some HVL.out HNO.out hp))
        clear hp
        go_wp2_with fail
        refine HC.out.mono ?_
        rintro e W5 ⟨rfl, bb5⟩
        have HB5 : Hid (Below w.heap.size w W5) := Below.on HWB.out bb5
        clear bb5
        go_wp2_with fail
        exact bodyPost_ret (v := .tuple #[.slice none 0 0, .int .i64 70, .int .i64 (v : Int)]) (by simp [results, Tryd.results9, go_sem]) rfl ⟨_, [], by rw [HF.out]; rfl, by rw [HF.out]; rfl, OwnR.nil _ _ _, HB5.out⟩
    · have hvi : ¬ (v : Int) < (fl.length : Int) := by omega
      have HKZ : Hid (kntZ fl = none) := kntZ_no fun u hu => HNO.out u (by omega)
      have HA5 := Hid.mk' (own_stay HA4.out HB.out)
      have HO5 := Hid.mk' (own_stay HO4.out HB.out)
      have HS0 : Hid (Below wr.heap.size wr wr.drew) := Below.drew (Below.refl _ _)
      have HE0 : Hid (Oe wr.heap.size [] (.slice (some ⟨wr.heap.size, 0, none⟩) 0 0) (wr.drew.alloc (.cells #[] 49))) := row_new wr.drew 49 2
      have HS1 : Hid (Below wr.heap.size wr (wr.drew.alloc (.cells #[] 49))) := Below.one HS0.out _
      have HAP1 := Hid.mk' (oe_all HE0.out (own_stay HA5.out HS1.out) HS1.out.size (by have := HLA.out; simp; omega) 46)
      rw [List.nil_append] at HAP1
      clear HRO HNO HA4 HO4 HX4 HAH HWY hvl
      go_upto_region 11 with fail
      refine wp_region_K (fun w' => Below wr.heap.size wr w') 9 (by kernel_rfl) ?_
      simp only [List.size_toArray, List.length_cons, List.length_nil, Nat.reduceAdd]
      refine wpAnyK_takeL (i := 0) (v := ?tv0) rfl (by kernel_rfl) (by kernel_rfl) (by kernel_rfl) (by kernel_rfl) (fun _ _ _ h => h) (by rfl) ?ty0 HS0.out ?tr0
      case ty0 => (intro w' hSw; have v4 := cell_kept_below z4 hSw; go_simp; try with_reducible rfl)
      simp only [Act.put, List.setIfInBounds_toArray, List.set_cons_zero, List.set_cons_succ]
      refine wpAnyK_takeL (i := 1) (v := ?tv1) rfl (by kernel_rfl) (by kernel_rfl) (by kernel_rfl) (by kernel_rfl) (fun _ _ _ h => h) (by rfl) ?ty1 HS0.out ?tr1
      case ty1 => (intro w' hSw; have v4 := cell_kept_below z4 hSw; go_simp; try with_reducible rfl)
      simp only [Act.put, List.setIfInBounds_toArray, List.set_cons_zero, List.set_cons_succ]
      refine wpAnyK_takeL (i := 2) (v := ?tv2) rfl (by kernel_rfl) (by kernel_rfl) (by kernel_rfl) (by kernel_rfl) (fun _ _ _ h => h) (by rfl) ?ty2 HS0.out ?tr2
      case ty2 => (intro w' hSw; have v4 := cell_kept_below z4 hSw; go_simp; try with_reducible rfl)
      simp only [Act.put, List.setIfInBounds_toArray, List.set_cons_zero, List.set_cons_succ]
      refine wpAnyK_takeL (i := 4) (v := ?tv4) rfl (by kernel_rfl) (by kernel_rfl) (by kernel_rfl) (by kernel_rfl) (fun _ _ _ h => h) (by rfl) ?ty4 HS0.out ?tr4
      case ty4 => (intro w' hSw; have v4 := cell_kept_below z4 hSw; go_simp; try with_reducible rfl)
      simp only [Act.put, List.setIfInBounds_toArray, List.set_cons_zero, List.set_cons_succ]
      refine wpAnyK_takeL (i := 6) (v := ?tv6) rfl (by kernel_rfl) (by kernel_rfl) (by kernel_rfl) (by kernel_rfl) (fun _ _ _ h => h) (by rfl) ?ty6 HS0.out ?tr6
      case ty6 => (intro w' hSw; have v4 := cell_kept_below z4 hSw; go_simp; try with_reducible rfl)
      simp only [Act.put, List.setIfInBounds_toArray, List.set_cons_zero, List.set_cons_succ]
      refine wpAnyK_one (i := 3) (by kernel_rfl) rfl (fun K hK => ?_)
      go_simp
      refine hK.out _ _ (fun _ => HS1.out) ?_
      clear hK K
      refine wpAnyK_one (i := 5) (by kernel_rfl) rfl (fun K hK => ?_)
      refine step_app rfl _ _ 46 46 _ _ rfl rfl rfl HAP1.out ?_
      rintro v6 W6 ⟨on6, gr6⟩
      obtain ⟨a6, k6, rfl⟩ := gown_form on6
      have hb6 : Below wr.heap.size wr W6 := HS1.out.grown gr6 HS1.out.size (fun j e => own_base HE0.out j e)
      have HAP2 := Hid.mk' (oe_all on6 (own_stay HO5.out hb6) hb6.size (by have := HLE.out; omega) 46)
      refine hK.out _ _ (fun _ => hb6) ?_
      clear hK K
      refine wpAnyK_one (i := 7) (by kernel_rfl) rfl (fun K hK => ?_)
      refine step_app rfl _ _ 46 46 _ _ rfl rfl rfl HAP2.out ?_
      rintro v7 W7 ⟨on7, gr7⟩
      have hb7 : Below wr.heap.size wr W7 := hb6.grown gr7 hb6.size (fun j e => own_base on6 j e)
      obtain ⟨a7, k7, rfl⟩ := gown_form on7
      have HLI := Hid.mk' (lists_in (ea ++ eb) fl.length a7 k7 W7 HN1.out (by rw [List.length_append]; exact HLE.out) (oe_edr on7) (fun x hx => (List.mem_append.1 hx).elim (HVA.out x) (HVB.out x)))
      rw [List.length_append] at HLI
      have HB7 := Hid.mk' hb7
      refine hK.out _ _ (fun _ => hb7) ?_
      clear hK K on6 gr6 on7 gr7 hb6 hb7 HAP1 HAP2
      refine wpAnyK_one (i := 8) (by kernel_rfl) rfl (fun K hK => ?_)
      go_simp
      go_at_call 18
      refine HLI.out.mono ?_
      rintro e W8 ⟨F1, vs1, rfl, hlg1, hF1⟩
      have hb8 : Below wr.heap.size wr W8 := Below.on HB7.out hlg1.b
      refine hK.out _ _ (fun _ => hb8) ?_
      clear hK K
      refine wpAnyK_one (i := 9) (by kernel_rfl) rfl (fun K hK => ?_)
      go_simp
      refine hK.out _ _ (fun h => absurd rfl h) ?_
      clear hK K
      refine wpAnyK_done (by kernel_rfl) ?_ _
      have HX8 := Hid.mk' (blk_stay HXV.out hb8)
      have HW8 : Hid (Below w.heap.size w W8) := Below.on HWB.out hb8
      have HL2 := Hid.mk' (lists_in eb fl.length ab cb W8 HN1.out HLB.out (oe_edr (own_stay HO5.out hb8)) HVB.out)
      have HFR8 := Hid.mk' hlg1.lsr
      clear z4
      have z4 := cell_of_obj HX8.out (j := 4) (v := .slice fca fl.length fcc) rfl
      clear hlg1 hF1 hb8 HLI HXV HWB HA5 HO5 HS0 HS1 HE0 HB7 HB
      go_wp2_with fail
      refine HL2.out.mono ?_
      rintro e W9 ⟨F2, vs2, rfl, hlg2, hF2⟩
      rw [HBK.out] at hlg2
      have hb9 : Below W8.heap.size W8 W9 := hlg2.b
      have HX9 := Hid.mk' (blk_stay HX8.out hb9)
      have HFR9 := Hid.mk' (HFR8.out.stay hb9)
      have HOF := Hid.mk' hlg2
      have HB9 : Hid (Below W8.heap.size W8 W9) := hb9
      have HFL : Hid (∀ j, (intL (ea ++ eb) j).length ≤ 3000) := fun j => Nat.le_trans (intL_le _ j) (by rw [List.length_append]; exact HLE.out)
      have HRR : Hid (W8.heap.size ≤ W8.heap.size) := Nat.le_refl _
      clear hlg2 hF2 hb9 z4 HL2 HX8 HFR8
      go_upto_region 13 with fail
      exact rf_heads w W8 W8 W9 fn fpa fpc fps frg fwd fca fcc fl F1 F2 (intL (ea ++ eb)) vs2 HN1 HKZ HW8 HI HX9 HFR9 HFX HFL HOF HRR HB9 _ (by assumption) _ _ _ _ _ _ _ _ _ _ _ _ _ _ _ _ _ _ _ _ _ _ _ _ _ _ _ _ _ _ _ _ _ _ _ _ _ _ _ _ _ _ _ _ _ _ _ _ _ _ _ _ _ _ _ _ _ _ _ _ _ _ _ _ _ _ _ _ _ _ _ _ _ _ _ _ _ _ _ _ _ _ _ _ _ _ _ _ _ _ _ _ _ _ _ _ _ _ _ _ _ _ _ _ _ _ _ _ _ _ _ _ _ _ _ _ _ _ _ _ _ _ _ _ _ _ _ _ _ _ _ _ _ _ _ _ _ _ _ _ _ _ _ _ _ _ _ _ _ _ _ _ _ _ _ _ _ _ _ _ _ _ _ _ _ _ _ _ _ _ _ _ _ _ _ _ _ _ _ _ _
end Go.Proofs.YtgiokognngllcaaDoor
namespace Go.Proofs.YtgiokognngllcaaDoor
open Go.RowKit Go.Sort

set_option maxRecDepth 100000 in
set_option maxHeartbeats 8000000 in
theorem loopsFind_any (f : Fn) (w : World) (hf : f.In w) (hG : 1 < w.heap.size) (hT : Tb w) (hA : Tab w) : Calls Tryd.prog 3 #[f.val] w fun e w' => e = .returned (.bool true) ∧ Below w.heap.size w w' := by
  have HC : Hid (∀ w', Below w.heap.size w w' → Calls Tryd.prog 7 #[f.val] w' fun e w'' => ∃ g : Fn, e = .returned g.val ∧ Cpd w'' w'.heap.size g f ∧ Below w'.heap.size w' w'') := fun w' hb => copyFunc_any f w' (hf.stay hb)
  have HFG : Hid (∀ (g : Fn) N W, g.code = f.code → g.code.length ≤ g.cc → W.ownsRow N 52 5 (.slice g.ca g.code.length g.cc) g.code.length (g.code.flatMap Is.cells) → Below w.heap.size w W → Calls Tryd.prog 8 #[g.val] W (FdP f.code W)) := fun g N W h1 h2 h3 hb => by
    have h4 : Iss W g.ca g.code := ⟨by rw [h1]; exact hf.2.2.2.2.2.1.1, own_row h3 (fun _ => rfl) (by omega)⟩
    have := find_any g W h4 h2 (by rw [h1]; exact hf.2.2.2.2.2.2) (Nat.lt_of_lt_of_le hG hb.size) (hT.keep (hb.block _ hG)) (hA.stay hb)
    rwa [h1] at this
  have HRF : Hid (∀ W, Below w.heap.size w W → Calls Tryd.prog 9 #[f.val] W (RfP f.code W)) := fun W hb => rfind_any f W (hf.stay hb).2.2.2.2.2.1
  have HF : Hid (∀ W, Below w.heap.size w W → Calls Tryd.prog 12 #[] W fun e w' => e = .returned (.bool true) ∧ Below W.heap.size W w') := fun W hb => fixed_any W (Nat.lt_of_lt_of_le hG hb.size) (hT.keep (hb.block _ hG)) (hA.stay hb)
  have HFIN : Hid (∀ w', Below w.heap.size w w' → f.In w') := fun w' hb => hf.stay hb
  have HGIN : Hid (∀ (g : Fn) (w' : World) N, Cpd w' N g f → g.In w') := fun g w' N hg => hg.in hf
  have HSM : Hid (∀ (g : Fn) (w0 : World) N (w' : World) k1 k2, Cpd w0 N g f → g.In w' → f.In w' → w'.heap[k1]? = some (.cells #[.string g.name, .slice g.pa g.params.length g.pc, .int .i64 g.regs, .int .i64 g.words, .slice g.ca g.code.length g.cc] 25) → w'.heap[k2]? = some (.cells #[.string f.name, .slice f.pa f.params.length f.pc, .int .i64 f.regs, .int .i64 f.words, .slice f.ca f.code.length f.cc] 25) →
      Calls Tryd.prog 11 #[.agg #[.slice none 0 0, .slice (some ⟨k1, 0, none⟩) 1 1], .agg #[.slice none 0 0, .slice (some ⟨k2, 0, none⟩) 1 1]] w' fun e w'' => e = .returned (.bool true) ∧ Below w'.heap.size w' w'') := fun g w0 N w' k1 k2 hc hg hf h1 h2 => by
    have := rsame_any (Mo.mk none 0 [] (some ⟨k1, 0, none⟩) 1 [g]) (Mo.mk none 0 [] (some ⟨k2, 0, none⟩) 1 [f]) w' (mo_in g hg k1 h1) (mo_in f hf k2 h2)
    rwa [show samM (Mo.mk none 0 [] (some ⟨k1, 0, none⟩) 1 [g]) (Mo.mk none 0 [] (some ⟨k2, 0, none⟩) 1 [f]) = true by simp [samM, samI, samFs, samF_cpd hc]] at this
  clear hf hG hT hA
  unfold Fn.val at *
  have HB := Hid.mk' (Below.one (Below.refl _ w) (.cells #[.string f.name, .slice f.pa f.params.length f.pc, .int .i64 f.regs, .int .i64 f.words, .slice f.ca f.code.length f.cc] 25))
  have HX := Hid.mk' (heap_alloc_new w (.cells #[.string f.name, .slice f.pa f.params.length f.pc, .int .i64 f.regs, .int .i64 f.words, .slice f.ca f.code.length f.cc] 25))
  go_enter Tryd.func3, Tryd.ntmps3
  go_wp2_with fail
  refine (HC.out _ HB.out).mono ?_
  rintro e W0 ⟨g, rfl, hg, bb0⟩
  have hgc : g.code = f.code := hg.2.2.2.2.1
  have hgl := cpd_cc hg
  have HG0 := Hid.mk' hg
  have HX0 := Hid.mk' (blk_stay HX.out bb0)
  have HB0 := Hid.mk' (Below.on HB.out bb0)
  obtain ⟨W1, hW1⟩ : ∃ X, X = W0.alloc (.cells #[.string g.name, .slice g.pa g.params.length g.pc, .int .i64 g.regs, .int .i64 g.words, .slice g.ca g.code.length g.cc] 25) := ⟨_, rfl⟩
  have hb1 : Below W0.heap.size W0 W1 := by rw [hW1]; exact Below.one (Below.refl _ _) _
  have hx1 : W1.heap[W0.heap.size]? = some (.cells #[.string g.name, .slice g.pa g.params.length g.pc, .int .i64 g.regs, .int .i64 g.words, .slice g.ca g.code.length g.cc] 25) := by rw [hW1]; exact heap_alloc_new W0 _
  have HX1 := Hid.mk' hx1
  have HC1 := Hid.mk' (hg.stay hb1)
  have HXF1 := Hid.mk' (blk_stay HX0.out hb1)
  have HBW1 : Hid (Below w.heap.size w W1) := Below.on HB0.out hb1
  have HCF := Hid.mk' (HFG.out g _ W1 hgc hgl HC1.out.2.2.2.2.2.2 HBW1.out)
  have HGC : Hid (g.code = f.code ∧ g.code.length ≤ g.cc) := ⟨hgc, hgl⟩
  have HW1 := Hid.mk' hW1
  clear hg bb0 HX HB HC hb1 hx1 hgc hgl hW1
  have z0 := cell_of_obj HX1.out (j := 0) (v := .string g.name) rfl
  have z1 := cell_of_obj HX1.out (j := 1) (v := .slice g.pa g.params.length g.pc) rfl
  have z2 := cell_of_obj HX1.out (j := 2) (v := .int .i64 g.regs) rfl
  have z3 := cell_of_obj HX1.out (j := 3) (v := .int .i64 g.words) rfl
  have z4 := cell_of_obj HX1.out (j := 4) (v := .slice g.ca g.code.length g.cc) rfl
  rw [HW1.out] at z0 z1 z2 z3 z4
  go_wp2_with fail
  rw [← HW1.out] at z0 z1 z2 z3 z4 ⊢
  refine HCF.out.mono ?_
  rintro e W2 ⟨v2, xs, rfl, hxs, hol, bb2⟩
  obtain ⟨la, lc, rfl, hlp⟩ := own_lps hol
  have HOL := Hid.mk' hol
  have HXS := Hid.mk' hxs
  have HBW2 : Hid (Below w.heap.size w W2) := Below.on HBW1.out bb2
  have HX2 := Hid.mk' (blk_stay HX1.out bb2)
  have HXF2 := Hid.mk' (blk_stay HXF1.out bb2)
  have HC2 := Hid.mk' (HC1.out.stay bb2)
  have HN12 : Hid (w.heap.size ≤ W1.heap.size ∧ W1.heap.size ≤ W2.heap.size) := ⟨HBW1.out.size, bb2.size⟩
  clear hol hxs bb2 hlp z0 z1 z2 z3 z4 HX1 HXF1 HC1 HBW1 HCF HW1 HX0 HB0
  have z0 := cell_of_obj HXF2.out (j := 0) (v := .string f.name) rfl
  have z1 := cell_of_obj HXF2.out (j := 1) (v := .slice f.pa f.params.length f.pc) rfl
  have z2 := cell_of_obj HXF2.out (j := 2) (v := .int .i64 f.regs) rfl
  have z3 := cell_of_obj HXF2.out (j := 3) (v := .int .i64 f.words) rfl
  have z4 := cell_of_obj HXF2.out (j := 4) (v := .slice f.ca f.code.length f.cc) rfl
  go_wp2_with fail
  refine (HRF.out _ HBW2.out).mono ?_
  rintro e W3 ⟨v3, ys, rfl, hys, hor, bb3⟩
  obtain ⟨qa, qc, rfl, hlq⟩ := ownR_lps hor
  obtain ⟨la', lc', el, hlp⟩ := own_lps (HOL.out.stay bb3)
  have ea := (Value.slice.inj el).1
  subst ea
  have hLx : (xs.map fun x => loI (x.lo f.code)) = (fndZ f.code).ls.map loI := by rw [← HXS.out, List.map_map]; rfl
  have hLy : (ys.map fun x => loI (x.lo f.code)) = (fndZ f.code).ls.map loI := by rw [← hys, List.map_map]; rfl
  have nx : ((fndZ f.code).ls.map loI).length = xs.length := by rw [← hLx, List.length_map]
  have ny : ((fndZ f.code).ls.map loI).length = ys.length := by rw [← hLy, List.length_map]
  have hml : xs.length ≤ 1024 ∧ ∀ (i : Nat) (x : Lr) (s : Bool), xs[i]? = some x → x.ll f.code s ≤ 1024 := by
    rcases find_parts (l := f.code) with ⟨_, hls⟩ | ⟨_, hls, hn, _⟩
    · have h0 : xs = [] := List.eq_nil_of_length_eq_zero (by rw [← nx, hls]; rfl)
      rw [h0]
      exact ⟨by simp, fun i x s h => by simp at h⟩
    · refine ⟨?_, fun i x s _ => ?_⟩
      · rw [← nx, hls, lops_len]
        have := List.length_filter_le (fun h => !(bks f.code h).isEmpty) (List.range f.code.length)
        rw [List.length_range] at this
        unfold hds
        omega
      · unfold Lr.ll
        have h1 := mbs_len f.code x.h
        have h2 := bks_len f.code x.h
        split <;> omega
  have HML := Hid.mk' hml
  rw [hLx] at hlp
  rw [hLy] at hlq
  have HS := lsame_any ((fndZ f.code).ls.map loI) ((fndZ f.code).ls.map loI) la qa lc qc W3 hlp hlq (by rw [nx]; have := hml.1; omega) (fun l hl => by
    rw [← hLx] at hl
    obtain ⟨x, hx, rfl⟩ := List.mem_map.1 hl
    obtain ⟨i, hi⟩ := List.getElem?_of_mem hx
    have h1 := hml.2 i x true hi
    have h2 := hml.2 i x false hi
    unfold Lr.ll at h1 h2
    simp only [if_true, Bool.false_eq_true, if_false] at h1 h2
    unfold loI Lr.lo
    simp only [List.length_map]
    omega)
  rw [decide_eq_true rfl] at HS
  have HS2 : Hid (Calls Tryd.prog 10 #[.slice la xs.length lc, .slice qa ys.length qc] W3 fun e w' => e = .returned (.bool true) ∧ Below W3.heap.size W3 w') := by
    show Calls _ _ _ _ _
    rw [← nx, ← ny]
    exact HS
  have HEQ : Hid (xs.map (Lr.lo f.code) = (fndZ f.code).ls ∧ ys.map (Lr.lo f.code) = (fndZ f.code).ls) := ⟨HXS.out, hys⟩
  have HOR := Hid.mk' hor
  have HB23 : Hid (Below W2.heap.size W2 W3) := bb3
  clear HS nx ny hLx hLy hlp hlq el hml hys hor bb3 z0 z1 z2 z3 z4 HXS HRF
  go_wp2_with fail
  refine HS2.out.mono ?_
  rintro e W4 ⟨rfl, bb4⟩
  have HB24 : Hid (Below W2.heap.size W2 W4) := Below.on HB23.out bb4
  have HOR4 := Hid.mk' (HOR.out.stay bb4)
  have HX4 := Hid.mk' (blk_stay HX2.out HB24.out)
  have HXF4 := Hid.mk' (blk_stay HXF2.out HB24.out)
  have HC4 := Hid.mk' (HC2.out.stay HB24.out)
  clear bb4 HS2 HOR HB23
  obtain ⟨W5, hW5⟩ : ∃ X, X = W4.alloc (.cells #[.string g.name, .slice g.pa g.params.length g.pc, .int .i64 g.regs, .int .i64 g.words, .slice g.ca g.code.length g.cc] 25) := ⟨_, rfl⟩
  obtain ⟨W6, hW6⟩ : ∃ X, X = W5.alloc (.cells #[.string f.name, .slice f.pa f.params.length f.pc, .int .i64 f.regs, .int .i64 f.words, .slice f.ca f.code.length f.cc] 25) := ⟨_, rfl⟩
  have hb5 : Below W4.heap.size W4 W5 := by rw [hW5]; exact Below.one (Below.refl _ _) _
  have hb6 : Below W5.heap.size W5 W6 := by rw [hW6]; exact Below.one (Below.refl _ _) _
  have hs5 : W5.heap.size = W4.heap.size + 1 := by rw [hW5, World.size_alloc]
  have hk1 : W6.heap[W4.heap.size]? = some (.cells #[.string g.name, .slice g.pa g.params.length g.pc, .int .i64 g.regs, .int .i64 g.words, .slice g.ca g.code.length g.cc] 25) := blk_stay (by rw [hW5]; exact heap_alloc_new W4 _) hb6
  have hk2 : W6.heap[W4.heap.size + 1]? = some (.cells #[.string f.name, .slice f.pa f.params.length f.pc, .int .i64 f.regs, .int .i64 f.words, .slice f.ca f.code.length f.cc] 25) := by rw [← hs5, hW6]; exact heap_alloc_new W5 _
  have hb46 : Below W4.heap.size W4 W6 := Below.on hb5 hb6
  have HB46 := Hid.mk' hb46
  have HBW4 : Hid (Below w.heap.size w W4) := Below.on HBW2.out HB24.out
  have HC6 := Hid.mk' (HC4.out.stay hb46)
  have HSS := Hid.mk' (HSM.out g W6 _ W6 _ _ HC6.out (HGIN.out g W6 _ HC6.out) (HFIN.out W6 (Below.on HBW4.out hb46)) hk1 hk2)
  have HW5 := Hid.mk' hW5
  have HW6 := Hid.mk' hW6
  clear hb5 hb6 hs5 hk1 hk2 hb46 hW5 hW6 HSM HGIN HFIN
  have z0 := cell_of_obj HX4.out (j := 0) (v := .string g.name) rfl
  have z1 := cell_of_obj HX4.out (j := 1) (v := .slice g.pa g.params.length g.pc) rfl
  have z2 := cell_of_obj HX4.out (j := 2) (v := .int .i64 g.regs) rfl
  have z3 := cell_of_obj HX4.out (j := 3) (v := .int .i64 g.words) rfl
  have z4 := cell_of_obj HX4.out (j := 4) (v := .slice g.ca g.code.length g.cc) rfl
  have b5 : Below W4.heap.size W4 (W4.alloc (.cells #[.string g.name, .slice g.pa g.params.length g.pc, .int .i64 g.regs, .int .i64 g.words, .slice g.ca g.code.length g.cc] 25)) := Below.one (Below.refl _ _) _
  have hxf5 := blk_stay HXF4.out b5
  have y0 := cell_of_obj hxf5 (j := 0) (v := .string f.name) rfl
  have y1 := cell_of_obj hxf5 (j := 1) (v := .slice f.pa f.params.length f.pc) rfl
  have y2 := cell_of_obj hxf5 (j := 2) (v := .int .i64 f.regs) rfl
  have y3 := cell_of_obj hxf5 (j := 3) (v := .int .i64 f.words) rfl
  have y4 := cell_of_obj hxf5 (j := 4) (v := .slice f.ca f.code.length f.cc) rfl
  clear b5 hxf5
  go_wp2_with fail
  rw [← HW5.out, ← HW6.out]
  refine HSS.out.mono ?_
  rintro e W7 ⟨rfl, bb7⟩
  have HB47 : Hid (Below W4.heap.size W4 W7) := Below.on HB46.out bb7
  have HBW7 : Hid (Below w.heap.size w W7) := Below.on HBW4.out HB47.out
  clear bb7 z0 z1 z2 z3 z4 y0 y1 y2 y3 y4 HSS HB46 HW5 HW6 HC6
  go_wp2_with fail
  refine (HF.out _ HBW7.out).mono ?_
  rintro e W8 ⟨rfl, bb8⟩
  have hb48 : Below W4.heap.size W4 W8 := Below.on HB47.out bb8
  have hb28 : Below W2.heap.size W2 W8 := Below.on HB24.out hb48
  have HBW8 : Hid (Below w.heap.size w W8) := Below.on HBW7.out bb8
  have HWT := Hid.mk' (HOR4.out.stay hb48)
  have HX8 := blk_stay HX4.out hb48
  have HC8 := HC4.out.stay hb48
  have HLW := Hid.mk' (HOL.out.lw (w := w) (g := g) (B3 := W0.heap.size) rfl hb28 HBW8.out HN12.out.1 (Nat.le_trans HN12.out.2 hb28.size) HX8 HC8.2.2.2.2.2.2)
  have HFI : Hid (∀ W, W.ownsRow (w.alloc (.cells #[.string f.name, .slice f.pa f.params.length f.pc, .int .i64 f.regs, .int .i64 f.words, .slice f.ca f.code.length f.cc] 25)).heap.size 52 5 (.slice g.ca g.code.length g.cc) g.code.length (g.code.flatMap Is.cells) → Below w.heap.size w W → Calls Tryd.prog 8 #[.agg #[.string g.name, .slice g.pa g.params.length g.pc, .int .i64 g.regs, .int .i64 g.words, .slice g.ca g.code.length g.cc]] W (FdP f.code W)) := fun W h1 h2 => HFG.out g _ W HGC.out.1 HGC.out.2 h1 h2
  have q1 : (((fndZ f.code).e : Int) != ((fndZ f.code).e : Int)) = false := by simp
  have q2 : (((fndZ f.code).at' : Int) != ((fndZ f.code).at' : Int)) = false := by simp
  clear bb8 hb48 hb28 HX8 HC8 HOR4 HX4 HXF4 HC4 HB47 HBW7 HF
  go_upto_region 8 with fail
  exact lf_write w W8 g _ W0.heap.size W1.heap.size W2.heap.size f.code xs ys la qa lc qc _ W8 HFI HEQ HWT HML HLW _ _ (by assumption) (by assumption) _ _ _ _ _ _ _ _ _ _ _ _ _ _ _ _ _ _ _ _ _ _ _ _ _ _ _ _ _ _ _ _ _ _ _ _ _ _ _ _ _ _ _ _ _ _ _ _ _ _ _ _ _ _ _ _ _ _ _ _ _ _ _ _ _ _ _ _ _ _ _ _ _ _ _ _ _ _ _ _ _ _ _ _ _ _ _ _ _ _ _ _ _ _ _ _ _ _ _ _ _ _ _ _ _ _ _ _ _ _ _ _ _ _ _ _ _ _ _ _ _ _ _ _ _ _ _ _ _ _ _ _ _ _ _ _ _ _ _ _ _ _ _ _ _ _ _ _ _ _ _ _ _ _ _ _ _ _ _ _ _ _ _ _ _ _ _ _ _ _ _ _ _ _ _ _ _ _ _ _ _ _ _ _ _ _ _ _ _ _ _ _ _ _ _
end Go.Proofs.YtgiokognngllcaaDoor
