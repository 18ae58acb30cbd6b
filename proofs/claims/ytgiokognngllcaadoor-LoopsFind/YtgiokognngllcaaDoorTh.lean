/- The least one that comes back to itself: graph.knot. -/
import Derived.Test.YtgiokognngllcaaDoorTg
namespace Go.Proofs.YtgiokognngllcaaDoor
open Go.RowKit Go.Sort

def kntI (o : Option Nat) : Int := match o with | some v => (v : Int) | none => -1
theorem knt_here {l : List Is} {v : Nat} (hv : v < l.length) (h : Knt l v) (hn : ∀ u, u < v → ¬ Knt l u) : kntZ l = some v := by
  rw [← kntZ_knt, List.find?_range_eq_some]
  exact ⟨pD_t.2 h, List.mem_range.2 hv, fun u hu => by rw [pD_f.2 (hn u hu)]; rfl⟩
theorem knt_no {l : List Is} (h : ∀ u, u < l.length → ¬ Knt l u) : kntZ l = none := by
  rw [← kntZ_knt, List.find?_range_eq_none]
  exact fun u hu => by rw [pD_f.2 (h u hu)]; rfl
set_option maxRecDepth 100000 in
set_option maxHeartbeats 4000000 in
theorem gknot_any (l : List Is) (n : Nat) (fb : List Bool) (fr : Nat → List Nat) (fa ba aa va : Option Addr) (fc bc ac vc : Nat) (w : World) (hl : l.length = n) (hn : n ≤ 1024) (hfl : fb.length = n) (hfb : ∀ v, fb[v]? = some true → ∃ u, v < u ∧ Ah l u v) (hfb2 : ∀ v u, v < u → Ah l u v → fb[v]? = some true)
    (hA : ∀ u, u < n → ∀ v, v ∈ fr u ↔ Ah l u v) (hlt : ∀ u v, Ah l u v → v < n) (hR : LsR w aa n fr) (hV : Lst w va (fb.map bV)) (hln : ∀ j, (fr j).length ≤ 3000) :
    Calls Tryd.prog 21 #[.agg #[.slice fa n fc, .slice ba n bc, .slice aa n ac, .slice va n vc]] w fun e w' => e = .returned (.int .i64 (kntI (kntZ l))) ∧ Below w.heap.size w w' := by
  have HRT : Hid (∀ (f : Nat) w', f < n → Below w.heap.size w w' → Calls Tryd.prog 38 #[.agg #[.slice fa n fc, .slice ba n bc, .slice aa n ac, .slice va n vc], .int .i64 (f : Int)] w' fun e w'' => e = .returned (.bool (pD (Gwy l f f))) ∧ Below w'.heap.size w' w'') := fun f w' hf hb => greturns_any l n f fr fa ba aa va fc bc ac vc w' hn hf hA hlt (hR.stay hb) hln
  have HV := Hid.mk' hV
  have HFB := Hid.mk' hfb
  have HFB2 := Hid.mk' hfb2
  have HFL := Hid.mk' hfl
  have HL := Hid.mk' hl
  have HB := Hid.mk' (Below.one (Below.refl _ w) (.cells #[.slice fa n fc, .slice ba n bc, .slice aa n ac, .slice va n vc] 58))
  have HX := Hid.mk' (heap_alloc_new w (.cells #[.slice fa n fc, .slice ba n bc, .slice aa n ac, .slice va n vc] 58))
  have y3 := cell_of_obj HX.out (j := 3) (v := .slice va n vc) rfl
  clear hR hA hlt hln hfb hfb2 hV hfl hl
  go_enter Tryd.func21, Tryd.ntmps21
  go_wp2_with fail
  have HB1 : Hid (Below (w.heap.size + 1) (w.alloc (.cells #[.slice fa n fc, .slice ba n bc, .slice aa n ac, .slice va n vc] 58)) (w.alloc (.cells #[.slice fa n fc, .slice ba n bc, .slice aa n ac, .slice va n vc] 58))) := Below.refl _ _
  have HW1 : Hid (∀ W : World, Below (w.heap.size + 1) (w.alloc (.cells #[.slice fa n fc, .slice ba n bc, .slice aa n ac, .slice va n vc] 58)) W → W.heap[w.heap.size]? = some (.cells #[.slice fa n fc, .slice ba n bc, .slice aa n ac, .slice va n vc] 58) ∧ Below w.heap.size w W ∧ w.heap.size + 1 ≤ W.heap.size) := by
    intro W hb
    have h1 := (hb.block _ (Nat.lt_succ_self _)).trans HX.out
    exact ⟨h1, HB.out.trans (hb.mono (Nat.le_succ _)), (Array.getElem?_eq_some_iff.1 h1).1⟩
  clear HX y3 HB
  generalize w.alloc (.cells #[.slice fa n fc, .slice ba n bc, .slice aa n ac, .slice va n vc] 58) = w1 at *
  go_loopw [8] (fun t8 wr => ∃ j : Nat, j ≤ n ∧ t8 = .int .i64 (j : Int) ∧ (∀ u, u < j → ¬ Knt l u) ∧ Below (w.heap.size + 1) w1 wr) (fun t8 _ => n - (intOf t8).toNat)
  case atStart => exact ⟨0, Nat.zero_le _, rfl, fun u h => by omega, HB1.out⟩
  case round =>
    obtain ⟨j, hj, rfl, hno, hb⟩ := hrel
    have HNO := Hid.mk' hno
    obtain ⟨hx, hbw, hsz⟩ := HW1.out _ hb
    have HBR := Hid.mk' hb
    have HBW := Hid.mk' hbw
    have z0 := cell_of_obj hx (j := 0) (v := .slice fa n fc) rfl
    have z1 := cell_of_obj hx (j := 1) (v := .slice ba n bc) rfl
    have z2 := cell_of_obj hx (j := 2) (v := .slice aa n ac) rfl
    have z3 := cell_of_obj hx (j := 3) (v := .slice va n vc) rfl
    have HSZ := Hid.mk' hsz
    clear hno hb hx hbw hsz HB1
    by_cases hlt : j < n
    · have hjf : j < fb.length := by rw [HFL.out]; exact hlt
      have hli : (j : Int) < (n : Int) := by omega
      obtain ⟨bo, oo, rfl, c0⟩ := lst_b (HV.out.stay HBW.out) hjf
      have HE : Hid (fb[j]? = some fb[j]) := List.getElem?_eq_getElem hjf
      have HJL : Hid (j < l.length) := by rw [HL.out]; exact hlt
      generalize fb[j] = bj at *
      clear hjf
      cases bj
      · have HN2 : Hid (∀ u, u < j + 1 → ¬ Knt l u) := fun u hu hk => by
          rcases Nat.lt_or_ge u j with h | h
          · exact HNO.out u h hk
          · obtain rfl : u = j := by omega
            obtain ⟨⟨x, hx1, hx2⟩, _⟩ := hk
            have := HFB2.out u x hx1 hx2
            rw [HE.out] at this; cases this
        go_wp2_with fail
        go_roundw
        case rel => exact ⟨j + 1, hlt, by go_num, HN2.out, HBR.out⟩
        case measure => simp [intOf]; omega
      · have HC := Hid.mk' (HRT.out j wr hlt HBW.out)
        have HUP : Hid (∃ u, j < u ∧ Ah l u j) := HFB.out j HE.out
        cases hg : pD (Gwy l j j)
        · rw [hg] at HC
          have HN2 : Hid (∀ u, u < j + 1 → ¬ Knt l u) := fun u hu hk => by
            rcases Nat.lt_or_ge u j with h | h
            · exact HNO.out u h hk
            · obtain rfl : u = j := by omega
              exact pD_f.1 hg hk.2
          clear hg
          go_wp2_with (go_at_call 38; refine HC.out.mono ?_; rintro e w2 ⟨rfl, b2⟩; have HB2 := Hid.mk' (HBR.out.trans (b2.mono HSZ.out)); clear b2)
          go_roundw
          case rel => exact ⟨j + 1, hlt, by go_num, HN2.out, HB2.out⟩
          case measure => simp [intOf]; omega
        · rw [hg] at HC
          have HK := Hid.mk' (knt_here HJL.out ⟨HUP.out, pD_t.1 hg⟩ HNO.out)
          clear hg
          go_wp2_with (go_at_call 38; refine HC.out.mono ?_; rintro e w2 ⟨rfl, b2⟩; have HB2 := Hid.mk' (HBW.out.trans (b2.mono (Nat.le_trans (Nat.le_succ _) HSZ.out))); clear b2)
          go_ret
          exact ⟨by rw [HK.out]; rfl, HB2.out⟩
    · have HK : Hid (kntZ l = none) := knt_no fun u hu => HNO.out u (by have := HL.out; omega)
      go_wp2_with fail
      go_ret
      exact ⟨by rw [HK.out]; rfl, HBW.out⟩
end Go.Proofs.YtgiokognngllcaaDoor
