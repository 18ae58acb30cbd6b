/- dom.dominators. -/
import Derived.Test.YtlnjhnbiljkbmaaDoorQn
import Derived.WalkMore
namespace Go.Proofs.YtlnjhnbiljkbmaaDoor
open Go.RowKit Go.Shelf

/-- How many bits a block's words have. -/
def bitsV : Value → Nat
  | .int _ n => Lib.onesCount n.toNat
  | _ => 0
def popF (W : World) (R : Nat) : Nat :=
  match W.heap[R]? with
  | some (.cells cs _ _) => (cs.toList.map bitsV).sum
  | _ => 0
theorem flat_bits : ∀ S : List (List Nat), ((flatS S).map bitsV).sum = mS S
  | [] => rfl
  | ws :: S => by
    have ih := flat_bits S
    have e : flatS (ws :: S) = ws.map uV ++ flatS S := rfl
    have h : (ws.map uV).map bitsV = ws.map Lib.onesCount := by
      rw [List.map_map]
      refine List.map_congr_left fun x _ => ?_
      show Lib.onesCount (x : Int).toNat = _
      rw [Int.toNat_natCast]
    rw [e, List.map_append, List.sum_append, ih, h]
    simp [mS, sizeW]
theorem pop_blk {W : World} {R : Nat} {T : TypeId} {S : List (List Nat)} (h : Bk W R T (flatS S)) : popF W R = mS S := by
  unfold popF
  rw [h]
  exact flat_bits S
def IsD (l : List Is) (S : List (List Nat)) : Prop := ((l.length = 0 ∨ 1024 < l.length) ∧ S = []) ∨ (0 < l.length ∧ l.length ≤ 1024 ∧ S.length = l.length ∧ (∀ ws ∈ S, OkW ws) ∧ ∀ v, v < l.length → ∀ a, hasA S v a = true ↔ Dm l a v)
theorem IsD.ok {l : List Is} {S : List (List Nat)} (h : IsD l S) : ∀ ws ∈ S, OkW ws := by
  rcases h with ⟨_, rfl⟩ | ⟨_, _, _, h, _⟩
  · intro ws hw; cases hw
  · exact h
theorem IsD.len {l : List Is} {S : List (List Nat)} (h : IsD l S) : S.length ≤ 1024 := by
  rcases h with ⟨_, rfl⟩ | ⟨_, h, e, _⟩
  · simp
  · omega
def DoP (l : List Is) (w : World) (e : Ending) (w' : World) : Prop := ∃ R S, e = .returned (.slice (some ⟨R, 0, none⟩) S.length S.length) ∧ IsD l S ∧ w.heap.size ≤ R ∧ Bk w' R 50 (flatS S) ∧ Below w.heap.size w w'
/-- Which ones have stayed as they were. -/
def Qt (n : Nat) (fr : Nat → List Nat) (S : List (List Nat)) (j q : Nat) : Prop := ∀ u, u < n → (u < j ∧ j ≤ u + q) ∨ (j ≤ u ∧ j + n ≤ u + q) → EqA fr S u
theorem DI.all {l : List Is} {fr : Nat → List Nat} {S : List (List Nat)} (h : DI l fr S) : ∀ ws ∈ S, OkW ws := fun ws hw => by
  obtain ⟨i, hi, rfl⟩ := List.getElem_of_mem hw
  exact h.ok i _ (List.getElem?_eq_getElem hi)
theorem Rws.keep {N F n R : Nat} {fr : Nat → List Nat} {vs : List Value} {W W' : World} {C : List Value} (h : Rws N F n fr vs W) (hR : Bk W R 50 C) (hg : W.grownBy W' (some R)) : Rws N F n fr vs W' := by
  have hF : F ≠ R := fun e => by
    have := h.f
    rw [e, hR] at this
    injection this with this
    injection this with _ this
    exact absurd this (by decide)
  refine ⟨(hg.block F (Array.getElem?_eq_some_iff.1 h.f).1 (by simpa using hF)).trans h.f, h.len, fun j hj => (h.rows j hj).kept hg ?_, h.hF⟩
  rcases (h.rows j hj).2 with ⟨e, _⟩ | ⟨g, cap, cur, e, _, hgb, _⟩
  · rw [e]; exact .inl rfl
  · rw [e]
    refine .inr fun e' => ?_
    cases e'
    rw [hR] at hgb
    injection hgb with hgb
    injection hgb with _ hgb
    exact absurd hgb (by decide)
theorem Rws.stay {N F n : Nat} {fr : Nat → List Nat} {vs : List Value} {W W' : World} (h : Rws N F n fr vs W) (hb : Below W.heap.size W W') : Rws N F n fr vs W' := ⟨blk_stay h.f hb, h.len, fun j hj => own_stay (h.rows j hj) hb, h.hF⟩
theorem grown_trans {R : Nat} {A B C : World} (h : A.grownBy B (some R)) (k : B.grownBy C (some R)) : A.grownBy C (some R) :=
  ⟨k.os.trans h.os, k.tape.trans h.tape, k.output.trans h.output, Nat.le_trans h.size k.size, fun i hi hr => (k.block i (Nat.lt_of_lt_of_le hi h.size) hr).trans (h.block i hi hr)⟩
set_option maxRecDepth 100000 in
set_option maxHeartbeats 4000000 in
theorem dominators_any (f : Fn) (w : World) (hi : Iss w f.ca f.code) (hc : f.code.length ≤ f.cc) : Calls Tryd.prog 18 #[f.val] w (DoP f.code w) := by
  have HLE : Hid (∀ w', Below w.heap.size w w' → Calls Tryd.prog 25 #[f.val] w' (LeP f.code w')) := fun w' hb => leaders_any f w' (hi.stay hb) hc
  clear hi hc
  obtain ⟨fn, fpa, fpc, fps, frg, fwd, fca, fcc, fl⟩ := f
  unfold Fn.val at *
  simp only at HLE ⊢
  have HB := Hid.mk' (Below.one (Below.refl _ w) (.cells #[.string fn, .slice fpa fps.length fpc, .int .i64 frg, .int .i64 fwd, .slice fca fl.length fcc] 25))
  go_enter Tryd.func18, Tryd.ntmps18
  go_wp2_with fail
  go_step3
  go_wp2_with fail
  refine (HLE.out _ HB.out).mono ?_
  rintro e W1 ⟨F, rs, vs, rfl, hir, hrw, bb1⟩
  have hrl := hir.len
  have HIR := Hid.mk' hir
  have HB1 := Hid.mk' (Below.on HB.out bb1)
  have HLF : Hid (∀ j, (frE (edg fl rs) j).length ≤ 1000000) := fun j => by
    have h1 := frE_len (edg fl rs) j
    have h2 := edU_len fl rs rs.length
    unfold edg at h1
    show _ ≤ _
    unfold edg
    omega
  have HBE := Hid.mk' (begun_any _ F rs.length (frE (edg fl rs)) vs W1 hrw (by omega) (frE_zero _) HLF.out)
  have HRW := Hid.mk' hrw
  clear hir hrw bb1 HB HLE
  go_wp2_with fail
  refine HBE.out.mono ?_
  rintro e W2 ⟨R, rfl, hR, hb2, bb2⟩
  have HB2 := Hid.mk' (Below.on HB1.out bb2)
  have HRW2 := Hid.mk' (HRW.out.stay bb2)
  have HBK := Hid.mk' hb2
  have HWR : Hid (w.heap.size ≤ R) := Nat.le_trans HB1.out.size hR
  clear hR hb2 bb2 HB1 HBE HRW
  by_cases hn0 : rs.length = 0
  · have hq : ¬ (0 : Int) < (rs.length : Int) := by omega
    have HN : Hid (rs.length = 0) := hn0
    have HD : Hid (IsD fl []) := by
      rcases HIR.out with ⟨h, _⟩ | ⟨h1, _, h3, _⟩
      · exact .inl ⟨h, rfl⟩
      · omega
    clear hn0
    go_wp2_with fail
    go_step3
    go_wp2_with fail
    refine wp_loop_once ?_
    go_wp2_with fail
    go_ret
    refine ⟨R, [], ?_, HD.out, HWR.out, ?_, HB2.out⟩
    · rw [show rs.length = ([] : List (List Nat)).length from HN.out]; rfl
    · have := HBK.out
      rw [HN.out] at this
      exact this
  · have HL : Hid (0 < fl.length ∧ fl.length ≤ 1024 ∧ rs.length = fl.length) := by
      rcases HIR.out with ⟨_, h⟩ | ⟨h1, h2, h3, _⟩
      · rw [h] at hn0; exact absurd rfl hn0
      · exact ⟨h1, h2, h3⟩
    obtain ⟨hl0, hl1, hl2⟩ := HL.out
    have HF := Hid.mk' (frs_of hl0 hl1 HIR.out)
    have HD0 : Hid (DI fl (frE (edg fl rs)) (begS rs.length (frE (edg fl rs)))) := by rw [hl2]; exact begS_DI HF.out hl0 hl1
    have hq : (0 : Int) < (rs.length : Int) := by omega
    have hn1 : 0 < rs.length := by omega
    generalize frE (edg fl rs) = fr at *
    generalize rs.length = n at *
    have HL2 := Hid.mk' hl2
    clear hn0 HIR hl2 HL
    go_wp2_with fail
    go_step3
    go_wp2_with fail
    go_loopw [5] (fun t5 wr => ∃ (S : List (List Nat)) (q : Nat), t5 = .int .i64 (q : Int) ∧ q < n ∧ DI fl fr S ∧ Qt n fr S 0 q ∧ Bk wr R 50 (flatS S) ∧ W2.grownBy wr (some R)) (fun t5 wr => popF wr R * (n + 1) + (n - (intOf t5).toNat))
    case atStart => exact ⟨_, 0, rfl, hn1, HD0.out, fun u hu h => by omega, HBK.out, grown_refl _ _⟩
    case round =>
      obtain ⟨S, q, rfl, hqn, hdi, hqt, hbk, hgr⟩ := hrel
      obtain ⟨M, hM⟩ : ∃ M, M = mS S * (n + 1) + (n - q) := ⟨_, rfl⟩
      have HM0 : Hid (popF wr R * (n + 1) + (n - (intOf (.int .i64 (q : Int))).toNat) = M) := by
        show _ = _
        rw [pop_blk hbk, hM]
        simp [intOf]
      have HDI := Hid.mk' hdi
      have HQT := Hid.mk' hqt
      have HBJ := Hid.mk' hbk
      have HGR := Hid.mk' hgr
      have HMM : Hid (mS S * (n + 1) + (n - q) + 0 ≤ M) := Nat.le_of_eq hM.symm
      clear hdi hqt hbk hgr hM HD0
      go_wp2_with fail
      obtain ⟨Wo, hWo⟩ : ∃ Wo, Wo = wr := ⟨_, rfl⟩
      subst hWo
      go_loopw [5, 16] (fun t5 t16 wr => ∃ (S : List (List Nat)) (q j : Nat), t5 = .int .i64 (q : Int) ∧ t16 = .int .i64 (j : Int) ∧ j ≤ n ∧ q < n ∧ DI fl fr S ∧ Qt n fr S j q ∧ Bk wr R 50 (flatS S) ∧ W2.grownBy wr (some R) ∧ mS S * (n + 1) + (n - q) + j ≤ M) (fun _ t16 _ => n - (intOf t16).toNat)
      case atStart => exact ⟨S, q, 0, rfl, rfl, Nat.zero_le _, hqn, HDI.out, HQT.out, HBJ.out, HGR.out, HMM.out⟩
      case round =>
        clear HDI HQT HBJ HGR HMM hqn
        obtain ⟨S, q, j, rfl, rfl, hjn, hqn, hdi, hqt, hbk, hgr, hmm⟩ := hrel
        have HDI := Hid.mk' hdi
        have HQT := Hid.mk' hqt
        have HBJ := Hid.mk' hbk
        have HGR := Hid.mk' hgr
        have HMM := Hid.mk' hmm
        have hSl : S.length = n := by have := hdi.len; have := HL2.out; omega
        have hn2 : n ≤ 1024 := by have := HL2.out; omega
        clear hdi hqt hbk hgr hmm
        by_cases hlt : j < n
        · have hli : (j : Int) < (n : Int) := by omega
          have hrw := HRW2.out.keep HBK.out HGR.out
          have hvl : j < vs.length := by have := hrw.len; omega
          have c0 := cell_of_obj hrw.f (j := j) (by rw [List.getElem?_toArray]; exact vs_at hvl)
          obtain ⟨a1, c1, e1⟩ := gown_form (hrw.rows j hlt)
          have hlst : Lst wr a1 ((fr j).map nV) := by
            have := hrw.rows j hlt
            rw [e1] at this
            exact own_lst this
          rw [e1] at c0
          have HNA := Hid.mk' (narrow_any R S (fr j) a1 c1 j wr HBJ.out HDI.out.all (by omega) (by omega) (fun u hu => by rw [HDI.out.len]; exact HF.out.lt hl0 hu) hlst (HLF.out j))
          rw [hSl] at HNA
          have HST : Hid (fr j ≠ [] → newW S (fr j) j ≠ S.getD j [] → DI fl fr (S.set j (newW S (fr j) j)) ∧ mS (S.set j (newW S (fr j) j)) < mS S) := fun h1 h2 => HDI.out.step HF.out hl0 hl1 (by have := HL2.out; omega) h1 h2
          have hlj := HLF.out j
          clear hrw hvl e1 hlst
          go_wp2_with fail
          refine HNA.out.mono ?_
          rintro e W3 ⟨hg3, ⟨rfl, hE, hb3⟩ | ⟨rfl, h1, h2, hb3⟩⟩
          · have HE : Hid (EqA fr S j) := hE
            have HB3 := Hid.mk' hb3
            have HG3 := Hid.mk' (grown_trans HGR.out hg3)
            clear hg3 hE hb3 HNA c0 HST
            by_cases hqe : q + 1 = n
            · have hqi : ((q : Int) + 1 == (n : Int)) = true := by simp; omega
              have HALL : Hid (∀ v, v < fl.length → EqA fr S v) := fun u hu => by
                by_cases e : u = j
                · rw [e]; exact HE.out
                · exact HQT.out u (by have := HL2.out; omega) (by have := HL2.out; omega)
              clear hqe
              go_wp2_with fail
              go_ret
              refine ⟨R, S, ?_, .inr ⟨hl0, hl1, HDI.out.len, HDI.out.all, fun v hv a => HDI.out.done HF.out hl0 hl1 HALL.out hv a⟩, HWR.out, HB3.out, ?_⟩
              · rw [hSl]; rfl
              · exact HB2.out.grown HG3.out HB2.out.size fun k e => by cases e; exact HWR.out
            · have hqi : ((q : Int) + 1 == (n : Int)) = false := beq_no (by omega)
              have HQ2 : Hid (Qt n fr S (j + 1) (q + 1)) := fun u hu h => by
                by_cases e : u = j
                · rw [e]; exact HE.out
                · exact HQT.out u hu (by omega)
              go_wp2_with fail
              go_roundw
              case rel => exact ⟨S, q + 1, j + 1, by go_num, by go_num, hlt, by omega, HDI.out, HQ2.out, HB3.out, HG3.out, by have := HMM.out; omega⟩
              case measure => simp [intOf]; omega
          · obtain ⟨hd3, hm3⟩ := HST.out h1 h2
            have HD3 := Hid.mk' hd3
            have HB3 := Hid.mk' hb3
            have HG3 := Hid.mk' (grown_trans HGR.out hg3)
            have HM3 : Hid (mS (S.set j (newW S (fr j) j)) * (n + 1) + (n - 0) + (j + 1) ≤ M) := by
              have h4 := HMM.out
              have h5 : (mS (S.set j (newW S (fr j) j)) + 1) * (n + 1) ≤ mS S * (n + 1) := Nat.mul_le_mul_right _ hm3
              rw [Nat.add_mul] at h5
              show _ ≤ _
              omega
            generalize S.set j (newW S (fr j) j) = S3 at *
            clear hg3 h1 h2 hb3 HNA c0 HST hd3 hm3
            go_wp2_with fail
            go_roundw
            case rel => exact ⟨S3, 0, j + 1, rfl, by go_num, hlt, hn1, HD3.out, fun u hu h => by omega, HB3.out, HG3.out, HM3.out⟩
            case measure => simp [intOf]; omega
        · have e : j = n := by omega
          have HQ2 : Hid (Qt n fr S 0 q) := fun u hu h => HQT.out u hu (by omega)
          have HP := Hid.mk' (pop_blk HBJ.out)
          go_wp2_with fail
          go_roundw
          case rel => exact ⟨S, q, rfl, hqn, HDI.out, HQ2.out, HBJ.out, HGR.out⟩
          case measure =>
            have h4 := HMM.out
            have h5 := HM0.out
            have h6 : (intOf (.int .i64 (q : Int))).toNat = q := by simp [intOf]
            show popF wr R * (n + 1) + (n - (intOf (.int .i64 (q : Int))).toNat) < _
            rw [h5, HP.out, h6]
            omega
end Go.Proofs.YtlnjhnbiljkbmaaDoor
