/- CallsRise: the order. -/
import Derived.Test.YtdnilonfgbinaaaLb
import Derived.Lib.QuietBelow
import Derived.Deep.QuietTactic
import Derived.BigQuiet
namespace Go.Proofs.Ytdnilonfgbinaaa
open Go.RowKit Go.Sort

noncomputable def rzR : Code → Code | .seq _ b => b | c => c
noncomputable def rzL : Code → Code | .seq a _ => a | c => c
noncomputable def rzC : Code → Code | .cond _ a _ => a | c => c
noncomputable def riseO : Code := rzR (rzR (rzR (rzR (rzR (Try.f5.body.getD .skip)))))
noncomputable def riseF : Code := rzC (rzR (rzL (rzR (rzR (rzR (rzR (Try.f5.body.getD .skip)))))))
/-- What is done so far: the first i of the order. -/
structure DoI (m : Mo) (os : List Nat) (i : Nat) (rs : List Bool) : Prop where
  len : rs.length = m.funcs.length
  r : ∀ k, k < m.funcs.length → (rs[k]? = some true ↔ k ∈ os.take i)
theorem DoI.start (m : Mo) (os : List Nat) : DoI m os 0 (List.replicate m.funcs.length false) := ⟨by simp, fun k _ => ⟨fun h => absurd h rep_no, fun h => by simp at h⟩⟩
theorem DoI.next {m : Mo} {os : List Nat} {i x : Nat} {rs : List Bool} (h : DoI m os i rs) (hx : os[i]? = some x) (hl : x < m.funcs.length) : DoI m os (i + 1) (rs.set x true) :=
  ⟨by rw [List.length_set]; exact h.len, fun k hk => by
    obtain ⟨hil, e⟩ := List.getElem?_eq_some_iff.1 hx
    rw [set_true, h.r k hk, List.take_succ_eq_append_getElem hil, e, List.mem_append, List.mem_singleton, h.len]
    constructor
    · rintro (h1 | ⟨h1, _⟩)
      · exact .inl h1
      · exact .inr h1
    · rintro (h1 | h1)
      · exact .inl h1
      · exact .inr ⟨h1, hl⟩⟩
theorem DoI.no {m : Mo} {os : List Nat} {i x : Nat} {rs : List Bool} (h : DoI m os i rs) (ho : Ord (CE m) m.funcs.length os) (hx : os[i]? = some x) {b : Bool} (hb : rs[x]? = some b) : b = false := by
  cases b with
  | false => rfl
  | true => exact absurd ((h.r x (ho i x hx).1).1 hb) (ho i x hx).2.1.1
theorem DoI.yes {m : Mo} {os ks : List Nat} {i x y : Nat} {rs : List Bool} (h : DoI m os i rs) (ho : Ord (CE m) m.funcs.length os) (hx : os[i]? = some x) (hk : IsOf m (x : Int) ks) (hy : y ∈ ks) : rs[y]? = some true := by
  have hc : CE m x y := (hk.2 y).1 hy
  exact (h.r y hc.lt).2 ((ho i x hx).2.1.2 y hc)
set_option maxRecDepth 100000 in
set_option maxHeartbeats 8000000 in
theorem rise_order (w : World) (m : Mo) (hm : m.In w) (os : List Nat) (ho : OrdOf m os) (hn : m.funcs.length ≤ 32) (la : Option Addr) (lc N : Nat) (W2 : World) (hx2 : W2.heap[w.heap.size]? = some (moB m)) (hb2 : Below w.heap.size w W2) (hl2 : On N os (.slice la os.length lc) W2)
    (u0 u2 u4 u5 u6 u7 u8 u9 u10 u11 u12 u13 u14 u15 u16 u17 u18 u19 u20 u21 u22 u23 u24 u25 u26 u27 u28 u29 u30 u31 u32 u33 u34 u35 u36 u37 u38 u39 u40 u41 u42 u43 u44 u45 u46 u47 u48 u49 u50 u51 u52 u53 u54 u55 u56 u57 u58 u59 u60 u61 u62 u63 u64 u65 u66 u67 u68 u69 u70 u71 u72 u73 u74 u75 u76 u77 u78 u79 u80 u81 u82 u83 u84 u85 u86 u87 u88 u89 u90 u91 u92 u93 u94 u95 u96 u97 u98 u99 u100 u101 u102 u103 u104 u105 u106 u107 u108 u109 u110 u111 u112 u113 u114 u115 u116 u117 u118 u119 u120 u121 u122 u123 u124 u125 u126 u127 u128 u129 u130 u131 u132 u133 u134 u135 u136 u137 u138 u139 u140 u141 u142 u143 u144 u145 u146 u147 u148 u149 u150 u151 u152 u153 u154 u155 u156 u157 u158 u159 u160 u161 u162 u163 u164 u165 u166 u167 u168 u169 u170 u171 u172 u173 u174 u175 u176 u177 u178 u179 u180 u181 u182 u183 u184 u185 u186 u187 u188 u189 u190 u191 u192 u193 u194 u195 u196 u197 u198 u199 u200 u201 u202 u203 u204 u205 u206 u207 u208 u209 u210 u211 u212 u213 u214 u215 u216 u217 u218 u219 u220 u221 u222 u223 u224 u225 : Value) :
    riseO.wp Try.prog (bodyPost Try.prog Try.f5 fun e w' => e = .returned (.bool true) ∧ Below w.heap.size w w') { tmps := #[u0, .pointer (some ⟨w.heap.size, 0, none⟩), u2, .slice la os.length lc, u4, u5, u6, u7, u8, u9, u10, u11, u12, u13, u14, u15, u16, u17, u18, u19, u20, u21, u22, u23, u24, u25, u26, u27, u28, u29, u30, u31, u32, u33, u34, u35, u36, u37, u38, u39, u40, u41, u42, u43, u44, u45, u46, u47, u48, u49, u50, u51, u52, u53, u54, u55, u56, u57, u58, u59, u60, u61, u62, u63, u64, u65, u66, u67, u68, u69, u70, u71, u72, u73, u74, u75, u76, u77, u78, u79, u80, u81, u82, u83, u84, u85, u86, u87, u88, u89, u90, u91, u92, u93, u94, u95, u96, u97, u98, u99, u100, u101, u102, u103, u104, u105, u106, u107, u108, u109, u110, u111, u112, u113, u114, u115, u116, u117, u118, u119, u120, u121, u122, u123, u124, u125, u126, u127, u128, u129, u130, u131, u132, u133, u134, u135, u136, u137, u138, u139, u140, u141, u142, u143, u144, u145, u146, u147, u148, u149, u150, u151, u152, u153, u154, u155, u156, u157, u158, u159, u160, u161, u162, u163, u164, u165, u166, u167, u168, u169, u170, u171, u172, u173, u174, u175, u176, u177, u178, u179, u180, u181, u182, u183, u184, u185, u186, u187, u188, u189, u190, u191, u192, u193, u194, u195, u196, u197, u198, u199, u200, u201, u202, u203, u204, u205, u206, u207, u208, u209, u210, u211, u212, u213, u214, u215, u216, u217, u218, u219, u220, u221, u222, u223, u224, u225], defers := [] } W2 := by
  have HRO : Hid (∀ (x : Nat) w', Below w.heap.size w w' → Calls Try.prog 8 #[m.val, .int .i64 (x : Int)] w' (OfP m (x : Int) w')) := fun x w' hb => rof_any w m x w' hm ((AllIn.refl w).below hb)
  have HX2 := Hid.mk' hx2
  have HB2 := Hid.mk' hb2
  have HL2 := Hid.mk' hl2
  have HO := Hid.mk' ho.1
  have hol : os.length = m.funcs.length := ho.2
  have hmk : ∀ W, _ := fun W => run_mkB W m.funcs.length (by omega)
  have c1 := cell_of_obj hx2 (j := 1) (v := .slice m.fa m.funcs.length m.fc) rfl
  have HD0 : Hid (Ob W2.heap.size (List.replicate m.funcs.length false) (.slice (some ⟨W2.heap.size, 0, none⟩) m.funcs.length m.funcs.length) (W2.alloc (.cells (mkB m.funcs.length) 4))) := own_mkB W2 m.funcs.length (by omega)
  have HBD := Hid.mk' (Below.one (Below.refl _ W2) (.cells (mkB m.funcs.length) 4))
  have hq0 : ((m.funcs.length : Int) != (m.funcs.length : Int)) = false := by simp
  generalize hq : (bodyPost Try.prog Try.f5 fun e w' => e = .returned (.bool true) ∧ Below w.heap.size w w') = Q
  simp only [riseO, Try.f5, Option.getD_some, rzR]
  subst hq
  clear hx2 hb2 hl2 ho hm
  rw [hol]
  obtain ⟨mta, mtc, mths, mfa, mfc, mfs⟩ := m
  simp only [moB, Mo.val] at *
  go_wp2_with fail
  clear hmk c1 hq0
  go_loopw [12] (fun t12 wr => ∃ (i : Nat) (rs : List Bool), t12 = .int .i64 (i : Int) ∧ i ≤ mfs.length ∧ DoI ⟨mta, mtc, mths, mfa, mfc, mfs⟩ os i rs ∧ Ob W2.heap.size rs (.slice (some ⟨W2.heap.size, 0, none⟩) mfs.length mfs.length) wr ∧ Below W2.heap.size W2 wr) (fun t12 _ => mfs.length - (intOf t12).toNat)
  case atStart => exact ⟨0, _, rfl, Nat.zero_le _, DoI.start _ _, HD0.out, HBD.out⟩
  case round =>
    obtain ⟨i, rs, rfl, hi, hdo, hob, hbl⟩ := hrel
    have HDO := Hid.mk' hdo
    have HOB := Hid.mk' hob
    have HBL := Hid.mk' hbl
    have hrl := hdo.len
    simp only at hrl
    clear hdo hob hbl HD0 HBD
    by_cases hil : i < mfs.length
    rotate_left
    · go_wp2_with fail
      go_ret
      exact ⟨rfl, HB2.out.trans (HBL.out.mono HB2.out.size)⟩
    have hili : (i : Int) < (mfs.length : Int) := by omega
    obtain ⟨x, hx⟩ : ∃ x, os[i]? = some x := ⟨_, List.getElem?_eq_getElem (by omega)⟩
    obtain ⟨gl, rfl, d0, k1, k2⟩ := on_at (own_stay HL2.out HBL.out) (by exact hx : os[i]? = some x)
    clear k1 k2
    have hxl : x < mfs.length := (HO.out i x hx).1
    have hxli : (x : Int) < (mfs.length : Int) := by omega
    obtain ⟨bx, hbx⟩ : ∃ b, rs[x]? = some b := ⟨_, List.getElem?_eq_getElem (by omega)⟩
    obtain rfl := HDO.out.no HO.out hx hbx
    obtain ⟨g', e', e0, k1, k2⟩ := ob_at HOB.out hbx
    cases e'
    clear k1 k2
    have HX := Hid.mk' hx
    have HRL := Hid.mk' hrl
    clear hx hbx hrl
    go_wp2_with fail
    have hxw := blk_stay HX2.out HBL.out
    have z0 := cell_of_obj hxw (j := 0) (v := .slice mta mths.length mtc) rfl
    have z1 := cell_of_obj hxw (j := 1) (v := .slice mfa mfs.length mfc) rfl
    have p0 : ∀ w', Below wr.heap.size wr w' → w'.cell? _ = some _ := fun w' h => cell_kept_below z0 h
    have p1 : ∀ w', Below wr.heap.size wr w' → w'.cell? _ = some _ := fun w' h => cell_kept_below z1 h
    have pd : ∀ w', Below wr.heap.size wr w' → w'.cell? _ = some _ := fun w' h => cell_kept_below d0 h
    have HBW : Hid (Below w.heap.size w wr) := HB2.out.trans (HBL.out.mono HB2.out.size)
    clear hxw z0 z1 d0 e0
    go_region_held3 (fun w' => Below wr.heap.size wr w') (first | exact Below.drew (Below.refl _ _) | exact Below.on (by assumption) (by assumption) | exact Below.one (by assumption) _)
      (first
        | (go_at_call 8; refine (HRO.out x _ (HBW.out.trans (Below.mono (by assumption) HBW.out.size))).mono ?_; rintro e w' ⟨v2, ks, rfl, hof, on2, hb⟩))
    have hB : Below wr.heap.size wr w' := by assumption
    have HKS := Hid.mk' hof
    have HBL3 := Hid.mk' (Below.on HBL.out hB)
    have HOB3 := Hid.mk' (own_stay HOB.out hB)
    obtain ⟨a2, c2, rfl⟩ := gown_form on2
    have HLK := Hid.mk' (own_lst on2)
    have hkl : ks.length ≤ mfs.length := hof.len
    have HKN : Hid (∀ y ∈ ks, y < mfs.length) := fun y hy => ((hof.2 y).1 hy).lt
    have HYS : Hid (∀ y ∈ ks, rs[y]? = some true) := fun y hy => HDO.out.yes HO.out HX.out hof hy
    clear p0 p1 pd hof on2 hb hB HBL HOB HRO
    obtain ⟨Wo, hWo⟩ : ∃ Wo, Wo = w' := ⟨_, rfl⟩
    subst hWo
    go_wp2_with fail
    go_loopw [14] (fun t14 wl => ∃ k : Nat, t14 = .int .i64 (k : Int) ∧ k ≤ ks.length ∧ wl = Wo) (fun t14 _ => ks.length - (intOf t14).toNat)
    case atStart => exact ⟨0, rfl, Nat.zero_le _, rfl⟩
    case round =>
      obtain ⟨k, rfl, hk, rfl⟩ := hrel
      by_cases hkl2 : k < ks.length
      · obtain ⟨y, hy⟩ : ∃ y, ks[k]? = some y := ⟨_, List.getElem?_eq_getElem hkl2⟩
        have hkli : (k : Int) < (ks.length : Int) := by omega
        obtain ⟨bk, ok, rfl, f0⟩ := HLK.out k (nV y) (by rw [List.getElem?_map, hy]; rfl)
        unfold nV at f0
        have hym := List.mem_of_getElem? hy
        have hyn : (y : Int) < (mfs.length : Int) := by have := HKN.out y hym; omega
        obtain ⟨g', e', e1, k1, k2⟩ := ob_at HOB3.out (HYS.out y hym)
        cases e'
        clear k1 k2 hy hym
        go_wp2_with fail
        go_roundw
        case rel => exact ⟨k + 1, by go_num, by omega, trivial⟩
        case measure => simp [intOf]; omega
      · obtain ⟨gl2, e2, d1, k1, k2⟩ := on_at (own_stay HL2.out HBL3.out) (by exact HX.out : os[i]? = some x)
        cases e2
        obtain ⟨bx, hbx⟩ : ∃ b, rs[x]? = some b := ⟨_, List.getElem?_eq_getElem (by have := HRL.out; omega)⟩
        obtain ⟨g', e', e1, k3, k4⟩ := ob_at HOB3.out hbx
        cases e'
        have f0 := World.ownsRow.frozenAt (by have := HOB3.out; unfold Ob at this; rw [HRL.out] at this; exact this) x
        have HN := Hid.mk' (HDO.out.next HX.out hxl)
        have HOB4 := Hid.mk' (ob_put HOB3.out x true)
        have HBL4 := Hid.mk' (HBL3.out.setCell (p := ⟨W2.heap.size, x, none⟩) (Nat.le_refl _) (.bool true))
        clear k1 k2 k3 k4 hbx
        go_wp2_with fail
        go_roundw
        case rel => exact ⟨i + 1, _, by go_num, by omega, HN.out, HOB4.out, HBL4.out⟩
        case measure => simp [intOf]; omega
end Go.Proofs.Ytdnilonfgbinaaa
