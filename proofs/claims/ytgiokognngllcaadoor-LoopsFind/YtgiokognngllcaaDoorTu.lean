/- loops.parent: the place of the loop around one. -/
import Derived.Test.YtgiokognngllcaaDoorTi
import Derived.Test.YtgiokognngllcaaDoorTc
namespace Go.Proofs.YtgiokognngllcaaDoor
open Go.RowKit Go.Sort

theorem parK_lt (hs : List Nat) (ms : List (List Nat)) (i : Nat) : ∀ k, parK hs ms i k = -1 ∨ ∃ j : Nat, j < k ∧ parK hs ms i k = (j : Int)
  | 0 => .inl rfl
  | k + 1 => by
    rw [parK]
    split
    · exact .inr ⟨k, Nat.lt_succ_self _, rfl⟩
    · rcases parK_lt hs ms i k with h | ⟨j, h1, h2⟩
      · exact .inl h
      · exact .inr ⟨j, by omega, h2⟩
theorem parK_skip {hs : List Nat} {ms : List (List Nat)} {i k : Nat} (h : k = i ∨ hs.getD i 0 ∉ ms.getD k []) : parK hs ms i (k + 1) = parK hs ms i k := by
  rw [parK, if_neg]
  rintro ⟨h1, h2, _⟩
  rcases h with h | h
  · exact h1 h
  · exact h h2
theorem parK_first {hs : List Nat} {ms : List (List Nat)} {i k : Nat} (h1 : k ≠ i) (h2 : hs.getD i 0 ∈ ms.getD k []) (h3 : parK hs ms i k < 0) : parK hs ms i (k + 1) = (k : Int) := by
  rw [parK, if_pos ⟨h1, h2, .inl h3⟩]
theorem parK_less {hs : List Nat} {ms : List (List Nat)} {i k j : Nat} (h1 : k ≠ i) (h2 : hs.getD i 0 ∈ ms.getD k []) (h3 : parK hs ms i k = (j : Int)) : parK hs ms i (k + 1) = if (ms.getD k []).length < (ms.getD j []).length then (k : Int) else (j : Int) := by
  rw [parK, h3]
  by_cases h : (ms.getD k []).length < (ms.getD j []).length
  · rw [if_pos ⟨h1, h2, .inr (by rw [Int.toNat_natCast]; exact h)⟩, if_pos h]
  · rw [if_neg (fun g => by
      rcases g.2.2 with g | g
      · omega
      · rw [Int.toNat_natCast] at g; exact h g), if_neg h]
theorem Mst.len {W : World} {b : Nat} {s : List Nat} (h : Mst W b s) (ty : TypeId) : (Builtin.len_ #[63] ty #[.map (some b)]).run Tryd.prog W = .ok (.int .i64 (s.length : Int)) W := by
  obtain ⟨D, h, hs, _⟩ := h
  have := h.len Tryd.underlying63 ty
  rwa [hs] at this
/-- Heads and sets, as parent reads them. -/
structure PaI (la sa : Option Addr) (hs : List Nat) (ms : List (List Nat)) (W : World) : Prop where
  hd : ∀ j, j < hs.length → ∃ g o, la = some ⟨g, o, none⟩ ∧ W.cell? ⟨g, o + j * 4, none⟩ = some (.int .i64 ((hs.getD j 0 : Nat) : Int))
  st : ∀ j, j < hs.length → ∃ g o b s, sa = some ⟨g, o, none⟩ ∧ W.cell? ⟨g, o + j, none⟩ = some (.map (some b)) ∧ Mst W b s ∧ s.length = (ms.getD j []).length ∧ ∀ v, v ∈ s ↔ v ∈ ms.getD j []
theorem PaI.stay {la sa : Option Addr} {hs : List Nat} {ms : List (List Nat)} {W W' : World} (h : PaI la sa hs ms W) (hb : Below W.heap.size W W') : PaI la sa hs ms W' :=
  ⟨fun j hj => by
    obtain ⟨g, o, e, hc⟩ := h.hd j hj
    exact ⟨g, o, e, cell_kept_below hc hb⟩, fun j hj => by
    obtain ⟨g, o, b, s, e, hc, hm, hr⟩ := h.st j hj
    exact ⟨g, o, b, s, e, cell_kept_below hc hb, hm.stay hb, hr⟩⟩
set_option maxRecDepth 100000 in
set_option maxHeartbeats 4000000 in
theorem lparent_any (hs : List Nat) (ms : List (List Nat)) (la sa : Option Addr) (lc sc i : Nat) (w : World) (hi : i < hs.length) (hl : hs.length ≤ 1024) (hb : ∀ v ∈ hs, v ≤ 1024) (h : PaI la sa hs ms w) :
    Calls Tryd.prog 25 #[.slice la hs.length lc, .slice sa hs.length sc, .int .i64 (i : Int)] w fun e w' => e = .returned (.int .i64 (parK hs ms i hs.length)) ∧ Below w.heap.size w w' := by
  have HP := Hid.mk' h
  have HPL := Hid.mk' (parK_lt hs ms i)
  have HPS := Hid.mk' (fun k => parK_skip (hs := hs) (ms := ms) (i := i) (k := k))
  have HPF := Hid.mk' (fun k => parK_first (hs := hs) (ms := ms) (i := i) (k := k))
  have HPE := Hid.mk' (fun k j => parK_less (hs := hs) (ms := ms) (i := i) (k := k) (j := j))
  have HP0 : Hid (parK hs ms i 0 = -1) := (rfl : parK hs ms i 0 = -1)
  have HHI : Hid (hs.getD i 0 ≤ 1024) := by
    show _ ≤ _
    rw [List.getD_eq_getElem?_getD, List.getElem?_eq_getElem hi]
    exact hb _ (List.getElem_mem hi)
  have hii : (i : Int) < (hs.length : Int) := by omega
  have HB0 : Hid (Below w.heap.size w w) := Below.refl _ _
  have HIL := Hid.mk' hi
  generalize parK hs ms i = pk at *
  generalize hhd : hs.getD i 0 = hd at *
  have HHD := Hid.mk' hhd
  clear h hi hb hhd
  go_enter Tryd.func25, Tryd.ntmps25
  go_wp2_with fail
  go_loopw [7, 11] (fun t7 t11 wr => ∃ k : Nat, k ≤ hs.length ∧ t11 = .int .i64 (k : Int) ∧ t7 = .int .i64 (pk k) ∧ Below w.heap.size w wr) (fun _ t11 _ => hs.length - (intOf t11).toNat)
  case atStart => exact ⟨0, Nat.zero_le _, rfl, by rw [HP0.out], HB0.out⟩
  case round =>
    clear HP0 HB0
    obtain ⟨k, hk, rfl, rfl, hbw⟩ := hrel
    have HBW := Hid.mk' hbw
    have HPI := Hid.mk' (HP.out.stay hbw)
    clear hbw
    by_cases hlt : k < hs.length
    · have hki : (k : Int) < (hs.length : Int) := by omega
      by_cases hkI : k = i
      · have hq : ((k : Int) == (i : Int)) = true := by rw [hkI]; simp
        have HN := Hid.mk' (HPS.out k (.inl hkI))
        clear hkI
        go_upto_region 5 with fail
        go_quiet (fail)
        go_wp2_with fail
        go_roundw
        case rel => exact ⟨k + 1, hlt, by go_num, by rw [HN.out], HBW.out.drewN _⟩
        case measure => simp [intOf]; omega
      · have hq : ((k : Int) == (i : Int)) = false := beq_no (by omega)
        have HKI := Hid.mk' hkI
        obtain ⟨gl, ol, rfl, c0⟩ := HPI.out.hd i HIL.out
        rw [HHD.out] at c0
        obtain ⟨gs, os, b, s, rfl, c1, hm, hsl, hsm⟩ := HPI.out.st k hlt
        have HM := Hid.mk' hm
        have HSL := Hid.mk' hsl
        have HSM : Hid (hasI s (hd : Int) = decide (hd ∈ ms.getD k [])) := by
          show _ = _
          rw [hasI_nat]
          exact decide_eq_decide.2 (hsm hd)
        obtain ⟨bi, hbi⟩ : ∃ bi, bi = decide (hd ∈ ms.getD k []) := ⟨_, rfl⟩
        rw [← hbi] at HSM
        have HBI := Hid.mk' hbi
        clear hbi
        have HLH : Hid (∀ W, Below wr.heap.size wr W → Calls Tryd.prog 40 #[.map (some b), .int .i64 (hd : Int)] W fun e w' => e = .returned (.bool bi) ∧ Below W.heap.size W w') := fun W hW => by
          rw [← HSM.out]
          exact lhas_any b s (hd : Int) W (HM.out.stay hW) ⟨by omega, by have := HHI.out; omega⟩
        clear hkI hm hsl hsm
        go_upto_region 5 with fail
        have p0 : ∀ w', Below wr.heap.size wr w' → w'.cell? _ = some _ := fun w' h => cell_kept_below c0 h
        have p1 : ∀ w', Below wr.heap.size wr w' → w'.cell? _ = some _ := fun w' h => cell_kept_below c1 h
        clear c0 c1
        go_region_held3 (fun w' => Below wr.heap.size wr w') (first | exact Below.drew (Below.refl _ _) | exact Below.on (by assumption) (by assumption) | exact Below.one (by assumption) _)
          (first | (go_at_call 40; refine (HLH.out _ (by assumption)).mono ?_; rintro e w' ⟨rfl, hb⟩))
        have hB : Below wr.heap.size wr w' := by assumption
        have HB2 := Hid.mk' (Below.on HBW.out hB)
        have HPI2 := Hid.mk' (HPI.out.stay hB)
        have HM2 := Hid.mk' (HM.out.stay hB)
        clear hB HLH p0 p1
        cases bi
        · have HN := Hid.mk' (HPS.out k (.inr (of_decide_eq_false HBI.out.symm)))
          go_wp2_with fail
          go_roundw
          case rel => exact ⟨k + 1, hlt, by go_num, by rw [HN.out], HB2.out⟩
          case measure => simp [intOf]; omega
        · have HIN := Hid.mk' (of_decide_eq_true HBI.out.symm)
          rcases HPL.out k with hp | ⟨j, hjk, hp⟩
          · have hpn : pk k < 0 := by omega
            have HN := Hid.mk' (HPF.out k HKI.out HIN.out hpn)
            clear hp
            go_upto_region 6 with fail
            go_quiet (fail)
            go_wp2_with fail
            go_roundw
            case rel => exact ⟨k + 1, hlt, by go_num, by rw [HN.out], HB2.out.drewN _⟩
            case measure => simp [intOf]; omega
          · have HN := Hid.mk' (HPE.out k j HKI.out HIN.out hp)
            have HPK := Hid.mk' hp
            have hjl : j < hs.length := by omega
            have hji : (j : Int) < (hs.length : Int) := by omega
            have hpn : ¬ pk k < 0 := by omega
            have hp0 : (0 : Int) ≤ (j : Int) := by omega
            obtain ⟨gk, ok, bk, sk, ek, c1, hmk, hslk, _⟩ := HPI2.out.st k hlt
            cases ek
            obtain ⟨gj, oj, bj, sj, ej, c2, hmj, hslj, _⟩ := HPI2.out.st j hjl
            cases ej
            have hlk : ∀ W, Below w'.heap.size w' W → ∀ ty, (Builtin.len_ #[63] ty #[.map (some bk)]).run Tryd.prog W = .ok (.int .i64 (sk.length : Int)) W := fun W hW ty => (hmk.stay hW).len ty
            have hlj : ∀ W, Below w'.heap.size w' W → ∀ ty, (Builtin.len_ #[63] ty #[.map (some bj)]).run Tryd.prog W = .ok (.int .i64 (sj.length : Int)) W := fun W hW ty => (hmj.stay hW).len ty
            rw [← hslk, ← hslj] at HN
            rw [hp] at hpn ⊢
            clear hmk hslk hmj hslj hp
            go_upto_region 6 with fail
            have p1 : ∀ W, Below w'.heap.size w' W → W.cell? _ = some _ := fun W h => cell_kept_below c1 h
            have p2 : ∀ W, Below w'.heap.size w' W → W.cell? _ = some _ := fun W h => cell_kept_below c2 h
            clear c1 c2
            go_region_held3 (fun W => Below w'.heap.size w' W) (first | exact Below.drew (Below.refl _ _) | exact Below.on (by assumption) (by assumption) | exact Below.one (by assumption) _) (fail)
            have hB : Below w'.heap.size w' w'.drew := Below.drew (Below.refl _ _)
            have HB3 := Hid.mk' (HB2.out.trans (hB.mono HB2.out.size))
            clear hB p1 p2 hlk hlj
            by_cases hc : sk.length < sj.length
            · rw [if_pos hc] at HN
              go_wp2_with fail
              go_roundw
              case rel => exact ⟨k + 1, hlt, by go_num, by rw [HN.out], HB3.out⟩
              case measure => simp [intOf]; omega
            · rw [if_neg hc] at HN
              go_wp2_with fail
              go_roundw
              case rel => exact ⟨k + 1, hlt, by go_num, by rw [HN.out], HB3.out⟩
              case measure => simp [intOf]; omega
    · have e : k = hs.length := by omega
      subst e
      go_wp2_with fail
      go_ret
      exact ⟨rfl, HBW.out⟩
end Go.Proofs.YtgiokognngllcaaDoor
