/- dom.dominators. -/
import Derived.Test.YtgiokognngllcaaDoorGgal
import Derived.WalkMore
import Derived.Test.YtgiokognngllcaaDoorGgaf
import Derived.Sort.BigQuietIn
namespace Go.Proofs.YtgiokognngllcaaDoor
open Go.RowKit Go.Shelf

/-- How many bits a block's words have. -/
def bitsV : Value → Nat
  | .int _ n => Lib.onesCount n.toNat
  | _ => 0
def popF (W : World) (R : Nat) : Nat :=
  match W.heap[R]? with
  | some (.cells cs _ _) => (cs.toList.map bitsV).sum
  | _ => 0
theorem flat_bits : ∀ S : List (List Nat), ((flatS S).map bitsV).sum = mS S
  | [] => rfl
  | ws :: S => by
    have ih := flat_bits S
    have e : flatS (ws :: S) = ws.map uV ++ flatS S := rfl
    have h : (ws.map uV).map bitsV = ws.map Lib.onesCount := by
      rw [List.map_map]
      refine List.map_congr_left fun x _ => ?_
      show Lib.onesCount (x : Int).toNat = _
      rw [Int.toNat_natCast]
    rw [e, List.map_append, List.sum_append, ih, h]
    simp [mS, sizeW]
theorem pop_blk {W : World} {R : Nat} {T : TypeId} {S : List (List Nat)} (h : Bk W R T (flatS S)) : popF W R = mS S := by
  unfold popF
  rw [h]
  exact flat_bits S
def IsD (l : List Is) (S : List (List Nat)) : Prop := ((l.length = 0 ∨ 1024 < l.length) ∧ S = []) ∨ (0 < l.length ∧ l.length ≤ 1024 ∧ S.length = l.length ∧ (∀ ws ∈ S, OkW ws) ∧ ∀ v, v < l.length → ∀ a, hasA S v a = true ↔ Dm l a v)
theorem IsD.ok {l : List Is} {S : List (List Nat)} (h : IsD l S) : ∀ ws ∈ S, OkW ws := by
  rcases h with ⟨_, rfl⟩ | ⟨_, _, _, h, _⟩
  · intro ws hw; cases hw
  · exact h
theorem IsD.len {l : List Is} {S : List (List Nat)} (h : IsD l S) : S.length ≤ 1024 := by
  rcases h with ⟨_, rfl⟩ | ⟨_, h, e, _⟩
  · simp
  · omega
def DoP (l : List Is) (w : World) (e : Ending) (w' : World) : Prop := ∃ R S, e = .returned (.slice (some ⟨R, 0, none⟩) S.length S.length) ∧ IsD l S ∧ w.heap.size ≤ R ∧ Bk w' R 95 (flatS S) ∧ Below w.heap.size w w'
/-- Which ones have stayed as they were. -/
def Qt (n : Nat) (fr : Nat → List Nat) (S : List (List Nat)) (j q : Nat) : Prop := ∀ u, u < n → (u < j ∧ j ≤ u + q) ∨ (j ≤ u ∧ j + n ≤ u + q) → EqA fr S u
theorem DI.all {l : List Is} {fr : Nat → List Nat} {S : List (List Nat)} (h : DI l fr S) : ∀ ws ∈ S, OkW ws := fun ws hw => by
  obtain ⟨i, hi, rfl⟩ := List.getElem_of_mem hw
  exact h.ok i _ (List.getElem?_eq_getElem hi)
theorem Rws.keep {N F n R : Nat} {fr : Nat → List Nat} {vs : List Value} {W W' : World} {C : List Value} (h : Rws N F n fr vs W) (hR : Bk W R 95 C) (hg : W.grownBy W' (some R)) : Rws N F n fr vs W' := by
  have hF : F ≠ R := fun e => by
    have := h.f
    rw [e, hR] at this
    injection this with this
    injection this with _ this
    exact absurd this (by decide)
  refine ⟨(hg.block F (Array.getElem?_eq_some_iff.1 h.f).1 (by simpa using hF)).trans h.f, h.len, fun j hj => (h.rows j hj).kept hg ?_, h.hF⟩
  rcases (h.rows j hj).2 with ⟨e, _⟩ | ⟨g, cap, cur, e, _, hgb, _⟩
  · rw [e]; exact .inl rfl
  · rw [e]
    refine .inr fun e' => ?_
    cases e'
    rw [hR] at hgb
    injection hgb with hgb
    injection hgb with _ hgb
    exact absurd hgb (by decide)
theorem Rws.stay {N F n : Nat} {fr : Nat → List Nat} {vs : List Value} {W W' : World} (h : Rws N F n fr vs W) (hb : Below W.heap.size W W') : Rws N F n fr vs W' := ⟨blk_stay h.f hb, h.len, fun j hj => own_stay (h.rows j hj) hb, h.hF⟩
theorem grown_trans {R : Nat} {A B C : World} (h : A.grownBy B (some R)) (k : B.grownBy C (some R)) : A.grownBy C (some R) :=
  ⟨k.os.trans h.os, k.tape.trans h.tape, k.output.trans h.output, Nat.le_trans h.size k.size, fun i hi hr => (k.block i (Nat.lt_of_lt_of_le hi h.size) hr).trans (h.block i hi hr)⟩
set_option maxRecDepth 100000 in
set_option maxHeartbeats 4000000 in
theorem dominators_any (f : Fn) (w : World) (hi : Iss w f.ca f.code) (hc : f.code.length ≤ f.cc) : Calls Tryd.prog 48 #[f.val] w (DoP f.code w) := by
  have HLE : Hid (∀ w', Below w.heap.size w w' → Calls Tryd.prog 58 #[f.val] w' (LeP f.code w')) := fun w' hb => leaders_any f w' (hi.stay hb) hc
  clear hi hc
  obtain ⟨fn, fpa, fpc, fps, frg, fwd, fca, fcc, fl⟩ := f
  unfold Fn.val at *
  simp only at HLE ⊢
  have HB := Hid.mk' (Below.one (Below.refl _ w) (.cells #[.string fn, .slice fpa fps.length fpc, .int .i64 frg, .int .i64 fwd, .slice fca fl.length fcc] 25))
  go_enter Tryd.func48, Tryd.ntmps48
  go_wp2_with fail
  go_step3
  go_wp2_with fail
  refine (HLE.out _ HB.out).mono ?_
  rintro e W1 ⟨F, rs, vs, rfl, hir, hrw, bb1⟩
  have hrl := hir.len
  have HIR := Hid.mk' hir
  have HB1 := Hid.mk' (Below.on HB.out bb1)
  have HLF : Hid (∀ j, (frE (edg fl rs) j).length ≤ 1000000) := fun j => by
    have h1 := frE_len (edg fl rs) j
    have h2 := edU_len fl rs rs.length
    unfold edg at h1
    show _ ≤ _
    unfold edg
    omega
  have HBE := Hid.mk' (begun_any _ F rs.length (frE (edg fl rs)) vs W1 hrw (by omega) (frE_zero _) HLF.out)
  have HRW := Hid.mk' hrw
  clear hir hrw bb1 HB HLE
  go_wp2_with fail
  refine HBE.out.mono ?_
  rintro e W2 ⟨R, rfl, hR, hb2, bb2⟩
  have HB2 := Hid.mk' (Below.on HB1.out bb2)
  have HRW2 := Hid.mk' (HRW.out.stay bb2)
  have HBK := Hid.mk' hb2
  have HWR : Hid (w.heap.size ≤ R) := Nat.le_trans HB1.out.size hR
  clear hR hb2 bb2 HB1 HBE HRW
  by_cases hn0 : rs.length = 0
  · have hq : ¬ (0 : Int) < (rs.length : Int) := by omega
    have HN : Hid (rs.length = 0) := hn0
    have HD : Hid (IsD fl []) := by
      rcases HIR.out with ⟨h, _⟩ | ⟨h1, _, h3, _⟩
      · exact .inl ⟨h, rfl⟩
      · omega
    clear hn0
    go_wp2_with fail
    go_step3
    go_wp2_with fail
    refine wp_loop_once ?_
    go_wp2_with fail
    go_ret
    refine ⟨R, [], ?_, HD.out, HWR.out, ?_, HB2.out⟩
    · rw [show rs.length = ([] : List (List Nat)).length from HN.out]; rfl
    · have := HBK.out
      rw [HN.out] at this
      exact this
  · have HL : Hid (0 < fl.length ∧ fl.length ≤ 1024 ∧ rs.length = fl.length) := by
      rcases HIR.out with ⟨_, h⟩ | ⟨h1, h2, h3, _⟩
      · rw [h] at hn0; exact absurd rfl hn0
      · exact ⟨h1, h2, h3⟩
    obtain ⟨hl0, hl1, hl2⟩ := HL.out
    have HF := Hid.mk' (frs_of hl0 hl1 HIR.out)
    have HD0 : Hid (DI fl (frE (edg fl rs)) (begS rs.length (frE (edg fl rs)))) := by rw [hl2]; exact begS_DI HF.out hl0 hl1
    have hq : (0 : Int) < (rs.length : Int) := by omega
    have hn1 : 0 < rs.length := by omega
    generalize frE (edg fl rs) = fr at *
    generalize rs.length = n at *
    have HL2 := Hid.mk' hl2
    clear hn0 HIR hl2 HL
    go_wp2_with fail
    go_step3
    go_wp2_with fail
    go_loopw [5] (fun t5 wr => ∃ (S : List (List Nat)) (q : Nat), t5 = .int .i64 (q : Int) ∧ q < n ∧ DI fl fr S ∧ Qt n fr S 0 q ∧ Bk wr R 95 (flatS S) ∧ W2.grownBy wr (some R)) (fun t5 wr => popF wr R * (n + 1) + (n - (intOf t5).toNat))
    case atStart => exact ⟨_, 0, rfl, hn1, HD0.out, fun u hu h => by omega, HBK.out, grown_refl _ _⟩
    case round =>
      obtain ⟨S, q, rfl, hqn, hdi, hqt, hbk, hgr⟩ := hrel
      obtain ⟨M, hM⟩ : ∃ M, M = mS S * (n + 1) + (n - q) := ⟨_, rfl⟩
      have HM0 : Hid (popF wr R * (n + 1) + (n - (intOf (.int .i64 (q : Int))).toNat) = M) := by
        show _ = _
        rw [pop_blk hbk, hM]
        simp [intOf]
      have HDI := Hid.mk' hdi
      have HQT := Hid.mk' hqt
      have HBJ := Hid.mk' hbk
      have HGR := Hid.mk' hgr
      have HMM : Hid (mS S * (n + 1) + (n - q) + 0 ≤ M) := Nat.le_of_eq hM.symm
      clear hdi hqt hbk hgr hM HD0
      go_wp2_with fail
      obtain ⟨Wo, hWo⟩ : ∃ Wo, Wo = wr := ⟨_, rfl⟩
      subst hWo
      go_loopw [5, 16] (fun t5 t16 wr => ∃ (S : List (List Nat)) (q j : Nat), t5 = .int .i64 (q : Int) ∧ t16 = .int .i64 (j : Int) ∧ j ≤ n ∧ q < n ∧ DI fl fr S ∧ Qt n fr S j q ∧ Bk wr R 95 (flatS S) ∧ W2.grownBy wr (some R) ∧ mS S * (n + 1) + (n - q) + j ≤ M) (fun _ t16 _ => n - (intOf t16).toNat)
      case atStart => exact ⟨S, q, 0, rfl, rfl, Nat.zero_le _, hqn, HDI.out, HQT.out, HBJ.out, HGR.out, HMM.out⟩
      case round =>
        clear HDI HQT HBJ HGR HMM hqn
        obtain ⟨S, q, j, rfl, rfl, hjn, hqn, hdi, hqt, hbk, hgr, hmm⟩ := hrel
        have HDI := Hid.mk' hdi
        have HQT := Hid.mk' hqt
        have HBJ := Hid.mk' hbk
        have HGR := Hid.mk' hgr
        have HMM := Hid.mk' hmm
        have hSl : S.length = n := by have := hdi.len; have := HL2.out; omega
        have hn2 : n ≤ 1024 := by have := HL2.out; omega
        clear hdi hqt hbk hgr hmm
        by_cases hlt : j < n
        · have hli : (j : Int) < (n : Int) := by omega
          have hrw := HRW2.out.keep HBK.out HGR.out
          have hvl : j < vs.length := by have := hrw.len; omega
          have c0 := cell_of_obj hrw.f (j := j) (by rw [List.getElem?_toArray]; exact vs_at hvl)
          obtain ⟨a1, c1, e1⟩ := gown_form (hrw.rows j hlt)
          have hlst : Lst wr a1 ((fr j).map nV) := by
            have := hrw.rows j hlt
            rw [e1] at this
            exact own_lst this
          rw [e1] at c0
          have HNA := Hid.mk' (narrow_any R S (fr j) a1 c1 j wr HBJ.out HDI.out.all (by omega) (by omega) (fun u hu => by rw [HDI.out.len]; exact HF.out.lt hl0 hu) hlst (HLF.out j))
          rw [hSl] at HNA
          have HST : Hid (fr j ≠ [] → newW S (fr j) j ≠ S.getD j [] → DI fl fr (S.set j (newW S (fr j) j)) ∧ mS (S.set j (newW S (fr j) j)) < mS S) := fun h1 h2 => HDI.out.step HF.out hl0 hl1 (by have := HL2.out; omega) h1 h2
          have hlj := HLF.out j
          clear hrw hvl e1 hlst
          go_wp2_with fail
          refine HNA.out.mono ?_
          rintro e W3 ⟨hg3, ⟨rfl, hE, hb3⟩ | ⟨rfl, h1, h2, hb3⟩⟩
          · have HE : Hid (EqA fr S j) := hE
            have HB3 := Hid.mk' hb3
            have HG3 := Hid.mk' (grown_trans HGR.out hg3)
            clear hg3 hE hb3 HNA c0 HST
            by_cases hqe : q + 1 = n
            · have hqi : ((q : Int) + 1 == (n : Int)) = true := by simp; omega
              have HALL : Hid (∀ v, v < fl.length → EqA fr S v) := fun u hu => by
                by_cases e : u = j
                · rw [e]; exact HE.out
                · exact HQT.out u (by have := HL2.out; omega) (by have := HL2.out; omega)
              clear hqe
              go_wp2_with fail
              go_ret
              refine ⟨R, S, ?_, .inr ⟨hl0, hl1, HDI.out.len, HDI.out.all, fun v hv a => HDI.out.done HF.out hl0 hl1 HALL.out hv a⟩, HWR.out, HB3.out, ?_⟩
              · rw [hSl]; rfl
              · exact HB2.out.grown HG3.out HB2.out.size fun k e => by cases e; exact HWR.out
            · have hqi : ((q : Int) + 1 == (n : Int)) = false := beq_no (by omega)
              have HQ2 : Hid (Qt n fr S (j + 1) (q + 1)) := fun u hu h => by
                by_cases e : u = j
                · rw [e]; exact HE.out
                · exact HQT.out u hu (by omega)
              go_wp2_with fail
              go_roundw
              case rel => exact ⟨S, q + 1, j + 1, by go_num, by go_num, hlt, by omega, HDI.out, HQ2.out, HB3.out, HG3.out, by have := HMM.out; omega⟩
              case measure => simp [intOf]; omega
          · obtain ⟨hd3, hm3⟩ := HST.out h1 h2
            have HD3 := Hid.mk' hd3
            have HB3 := Hid.mk' hb3
            have HG3 := Hid.mk' (grown_trans HGR.out hg3)
            have HM3 : Hid (mS (S.set j (newW S (fr j) j)) * (n + 1) + (n - 0) + (j + 1) ≤ M) := by
              have h4 := HMM.out
              have h5 : (mS (S.set j (newW S (fr j) j)) + 1) * (n + 1) ≤ mS S * (n + 1) := Nat.mul_le_mul_right _ hm3
              rw [Nat.add_mul] at h5
              show _ ≤ _
              omega
            generalize S.set j (newW S (fr j) j) = S3 at *
            clear hg3 h1 h2 hb3 HNA c0 HST hd3 hm3
            go_wp2_with fail
            go_roundw
            case rel => exact ⟨S3, 0, j + 1, rfl, by go_num, hlt, hn1, HD3.out, fun u hu h => by omega, HB3.out, HG3.out, HM3.out⟩
            case measure => simp [intOf]; omega
        · have e : j = n := by omega
          have HQ2 : Hid (Qt n fr S 0 q) := fun u hu h => HQT.out u hu (by omega)
          have HP := Hid.mk' (pop_blk HBJ.out)
          go_wp2_with fail
          go_roundw
          case rel => exact ⟨S, q, rfl, hqn, HDI.out, HQ2.out, HBJ.out, HGR.out⟩
          case measure =>
            have h4 := HMM.out
            have h5 := HM0.out
            have h6 : (intOf (.int .i64 (q : Int))).toNat = q := by simp [intOf]
            show popF wr R * (n + 1) + (n - (intOf (.int .i64 (q : Int))).toNat) < _
            rw [h5, HP.out, h6]
            omega
end Go.Proofs.YtgiokognngllcaaDoor

/- dom.Dominates. -/
namespace Go.Proofs.YtgiokognngllcaaDoor
open Go.RowKit Go.Shelf

/-- Whether one number's instruction dominates another's. -/
def domB (l : List Is) (a b : Int) : Prop := 0 < l.length ∧ l.length ≤ 1024 ∧ 0 ≤ a ∧ 0 ≤ b ∧ Dm l a.toNat b.toNat
noncomputable def domb (l : List Is) (a b : Int) : Bool := @decide (domB l a b) (Classical.propDecidable _)
theorem domb_true {l : List Is} {a b : Int} : domb l a b = true ↔ domB l a b := @decide_eq_true_iff _ (Classical.propDecidable _)
theorem domb_false {l : List Is} {a b : Int} (h : ¬ domB l a b) : domb l a b = false := by
  cases e : domb l a b with
  | false => rfl
  | true => exact absurd (domb_true.1 e) h
def DmP (l : List Is) (a b : Int) (w : World) (e : Ending) (w' : World) : Prop := e = .returned (.bool (domb l a b)) ∧ Below w.heap.size w w'
theorem out_no {l : List Is} {S : List (List Nat)} (h : IsD l S) {a b : Int} (ho : a < 0 ∨ (S.length : Int) ≤ a ∨ b < 0 ∨ (S.length : Int) ≤ b) : domb l a b = false := by
  refine domb_false fun hd => ?_
  obtain ⟨h1, h2, h3, h4, h5⟩ := hd
  rcases h with ⟨h, rfl⟩ | ⟨_, _, e, _⟩
  · omega
  · have := h5.left.lt h1
    have := h5.1.lt h1
    omega
theorem in_yes {l : List Is} {S : List (List Nat)} (h : IsD l S) {a b : Nat} (hb : b < S.length) : domb l (a : Int) (b : Int) = hasA S b a := by
  rcases h with ⟨h, rfl⟩ | ⟨h1, h2, h3, _, h5⟩
  · simp at hb
  · rw [Bool.eq_iff_iff, domb_true, h5 b (by omega)]
    unfold domB
    simp only [Int.toNat_natCast]
    exact ⟨fun h => h.2.2.2.2, fun h => ⟨h1, h2, by omega, by omega, h⟩⟩
theorem getN {ws : List Nat} {i : Nat} (h : i < ws.length) : ws.getD i 0 = ws[i] := by rw [List.getD_eq_getElem?_getD, List.getElem?_eq_getElem h]; rfl
end Go.Proofs.YtgiokognngllcaaDoor

/- A loop over a method's value. -/
namespace Go.Proofs.YtgiokognngllcaaDoor
open Go.RowKit Go.Shelf Go.Lib
attribute [local go_sem] Oper.semAt_some

/-- What a method that is ranged over promises to a body: the elements of T in their order, as far as the body goes on; a body's word need only bear changes of blocks behind the call that are no cells. -/
def SeqM {α : Type} (gf : Nat) (fst : Array Value) (encs : α → Array Value) (Kp : Nat → World → World → Prop) (T : List α) (w0 : World) : Prop :=
  ∀ (l : Nat) (J Jx : List α → World → Prop) (W : World), Below w0.heap.size w0 W → OwnFrom W.heap.size J → OwnFrom W.heap.size Jx →
    (∀ pre x W1, J pre W1 → (pre ++ [x]) <+: T → YieldAt Fence.wide 0 Tryd.prog l (encs x) W1 fun e W' =>
      Kp W.heap.size W1 W' ∧ ((e = .returned (.bool true) ∧ J (pre ++ [x]) W') ∨ (e = .returned (.bool false) ∧ Jx (pre ++ [x]) W'))) →
    J [] W → CallsIn Fence.wide 0 Tryd.prog gf (fst ++ #[.func (.yield l) #[] #[]]) W fun e W' => (∃ v, e = .returned v) ∧ (J T W' ∨ ∃ pre, pre <+: T ∧ Jx pre W')

/-- The loop's statement, over such a method. -/
theorem range_m {α : Type} {n m : Nat} {g : Operand} {ps : Array Tmp} {assign body : Code} {Q : Exit → Act → World → Prop} {a : Act} {w : World}
    {gf : Nat} {fst : Array Value} (hg : a.eval g = .func (.func gf) fst #[]) (eg : ∀ args w, (callFunc gf args).run Tryd.prog w = .ok (.enter gf args) w)
    {encs : α → Array Value} {Kp : Nat → World → World → Prop} {T : List α} {w0 : World} (hseq : SeqM gf fst encs Kp T w0) (hb0 : Below w0.heap.size w0 w) (hps : ∀ x, (encs x).size = ps.size)
    (hKt : ∀ {X Y Z : World}, Kp (w.heap.size + 1 + 1) X Y → Kp (w.heap.size + 1 + 1) Y Z → Kp (w.heap.size + 1 + 1) X Z) (hKb : ∀ (W : World) (o' : Obj), w.heap.size + 1 < W.heap.size → Kp (w.heap.size + 1 + 1) W (W.putObj (w.heap.size + 1) o'))
    (I : List α → World → Prop) (Ix : Code → List α → World → Prop) (hI : OwnFrom w.heap.size I) (hIx : ∀ c, OwnFrom w.heap.size (Ix c)) (h0 : I [] w) (Ax : α → Act → World → Prop) (hAx : ∀ x a', OwnFrom w.heap.size (fun (_ : Unit) W => Ax x a' W))
    (hassign : ∀ (l : Nat) (pre : List α) (x : α) (W : World), I pre W → (pre ++ [x]) <+: T →
      assign.wpIn (Fence.wide.inRound l) m Tryd.prog (Exit.then (fun a' W' => KeepsFrom w.heap.size W W' ∧ Kp (w.heap.size + 1 + 1) W W' ∧ I pre W' ∧ Ax x a' W') (fun _ _ _ => False)) { tmps := (ps.zip (encs x)).foldl (fun t (p, v) => t.setIfInBounds p v) a.tmps, defers := [] } W)
    (hbody : ∀ (l : Nat) (pre : List α) (x : α) (a' : Act) (W : World), I pre W → Ax x a' W → (pre ++ [x]) <+: T → body.wpIn (Fence.wide.inRound l) m Tryd.prog (postO w.heap.size (Kp (w.heap.size + 1 + 1)) I Ix (pre ++ [x]) W) a' W)
    (hdone : ∀ (W : World), I T W → W.heap[w.heap.size]? = some (.deferred (some [])) → Q .normal { a with defers := { target := .collected w.heap.size, args := #[] } :: a.defers } W)
    (hstop : ∀ (c : Code) (pre : List α) (W : World), pre <+: T → Ix c pre W → W.heap[w.heap.size]? = some (.deferred (some [])) → c.wpIn Fence.wide n Tryd.prog Q { a with defers := { target := .collected w.heap.size, args := #[] } :: a.defers } W) :
    (Code.rangeFunc g ps assign body).wpIn Fence.wide n Tryd.prog Q a w := by
  refine wpIn_rangeFunc fun fn _ => ?_
  obtain ⟨r, hr⟩ : ∃ r : Loop, r = { state := .ready, pending := none, fn, tmps := a.tmps, params := ps, assign, body, defers := w.heap.size } := ⟨_, rfl⟩
  obtain ⟨W1, hW1⟩ : ∃ W1, W1 = (w.alloc (.deferred (some []))).alloc (.loop r) := ⟨_, rfl⟩
  have hsz : W1.heap.size = w.heap.size + 1 + 1 := by rw [hW1]; simp
  have hL : W1.heap[w.heap.size + 1]? = some (.loop r) := by
    rw [hW1]; have := World.alloc_heap_new (w.alloc (.deferred (some []))) (.loop r); rwa [World.size_alloc] at this
  have hD : W1.heap[w.heap.size]? = some (.deferred (some [])) := by
    rw [hW1]; exact (Below.heap_alloc _ _ _ (by simp)).trans (World.alloc_heap_new w _)
  have hI1 : I [] W1 := by rw [hW1]; exact hI.alloc _ (hI.alloc _ h0)
  have hb1 : Below w0.heap.size w0 W1 := by
    rw [hW1]; exact (hb0.alloc hb0.size _).alloc (by have := hb0.size; simp; omega) _
  refine ⟨w.heap.size + 1, [{ target := .collected w.heap.size, args := #[] }], W1, { target := .fn (.func gf) #[], args := fst ++ #[.func (.yield (w.heap.size + 1)) #[] #[]] }, W1, gf, fst ++ #[.func (.yield (w.heap.size + 1)) #[] #[]], W1, ?_, ?_, fun _ _ => trivial, ?_, (fun h => by cases h), ?_⟩
  · rw [hW1, hr]; exact run_enterLoop_outer _ _ _ _ _
  · simp only [resolve, hg]
    simp [go_sem]
  · simp [invoke, go_sem, eg]
  have other : ∀ {o' : Obj} {X : World}, X.heap[w.heap.size]? = some (.deferred (some [])) → (X.putObj (w.heap.size + 1) o').heap[w.heap.size]? = some (.deferred (some [])) := fun h => (World.putObj_heap_other (by omega)).trans h
  refine (calls_any (hseq (w.heap.size + 1)
    (fun pre W => I pre W ∧ W.heap[w.heap.size + 1]? = some (.loop r) ∧ W.heap[w.heap.size]? = some (.deferred (some [])))
    (fun pre W => ∃ c, Ix c pre W ∧ W.heap[w.heap.size + 1]? = some (.loop { r with state := .done, pending := some c }) ∧ W.heap[w.heap.size]? = some (.deferred (some []))) W1 hb1
    ((own_up hI (by omega)).and ((ownFrom_lies (by omega)).and (ownFrom_lies (by omega)))) ?ownx ?rounds ⟨hI1, hL, hD⟩)).mono ?behind
  case ownx =>
    rintro p X Y row ⟨c, h1, h2, h3⟩ hg' hr'
    exact ⟨c, own_up (hIx c) (by omega) p X Y row h1 hg' hr', ownFrom_lies (by omega) p X Y row h2 hg' hr', ownFrom_lies (by omega) p X Y row h3 hg' hr'⟩
  case rounds =>
    rintro pre x W ⟨hi, hl, hd⟩ hpx
    refine one_round (m := m) hl (by rw [hr]) (by rw [hr]; exact hps x) ?_
    have ha' := hassign (w.heap.size + 1) pre x W hi hpx
    have hb' := fun a' W' h1 h2 => hbody (w.heap.size + 1) pre x a' W' h1 h2 hpx
    rw [show assign = r.assign by rw [hr], show ps = r.params by rw [hr], show a.tmps = r.tmps by rw [hr]] at ha'
    rw [show body = r.body by rw [hr]] at hb'
    refine wpIn_mono ha' ?_
    intro e a1 Wa ha
    cases e with
    | normal =>
      obtain ⟨k1, k2, i1, x1⟩ := ha
      have hla := k1.same _ _ (by omega) hl rfl
      have hda := k1.same _ _ (Nat.le_refl _) hd rfl
      have hlt : w.heap.size + 1 < Wa.heap.size := (Array.getElem?_eq_some_iff.1 hla).1
      refine ⟨hla, wpIn_mono (hb' a1 _ (hI.putObj _ i1 (by omega) hla rfl) ((hAx x a1).putObj (s := ()) _ x1 (by omega) hla rfl)) ?_⟩
      have hlb : (Wa.putObj (w.heap.size + 1) (.loop { r with state := .busy })).heap[w.heap.size + 1]? = some (.loop { r with state := .busy }) := World.putObj_heap_same hlt
      have kb := hKb Wa (.loop { r with state := .busy }) hlt
      rintro e a3 W3 ⟨q1, q2, q3⟩
      have hl3 := q1.same (w.heap.size + 1) _ (by omega) hlb rfl
      have h3 : w.heap.size + 1 < W3.heap.size := (Array.getElem?_eq_some_iff.1 hl3).1
      have hd3 := q1.same _ _ (Nat.le_refl _) (other hda) rfl
      have hk3 : ∀ o', Kp W1.heap.size W (W3.putObj (w.heap.size + 1) o') := fun o' => by rw [hsz]; exact hKt k2 (hKt kb (hKt q2 (hKb W3 _ h3)))
      refine ⟨hl3, ?_⟩
      cases e with
      | normal =>
        refine ⟨hk3 _, .inl ⟨rfl, hI.putObj _ q3 (by omega) hl3 rfl, ?_, other hd3⟩⟩
        rw [World.putObj_heap_same h3, hr]
      | ret => exact ⟨hk3 _, .inr ⟨rfl, .ret, (hIx _).putObj _ q3 (by omega) hl3 rfl, World.putObj_heap_same h3, other hd3⟩⟩
      | exit id => exact ⟨hk3 _, .inr ⟨rfl, .exit id, (hIx _).putObj _ q3 (by omega) hl3 rfl, World.putObj_heap_same h3, other hd3⟩⟩
      | goto t => exact ⟨hk3 _, .inr ⟨rfl, .goto t, (hIx _).putObj _ q3 (by omega) hl3 rfl, World.putObj_heap_same h3, other hd3⟩⟩
      | panic _ => exact q3.elim
      | outgrown => exact q3.elim
    | ret => exact ha.elim
    | exit _ => exact ha.elim
    | goto _ => exact ha.elim
    | panic _ => exact ha.elim
    | outgrown => exact ha.elim
  case behind =>
    rintro e W2 ⟨⟨v, rfl⟩, ⟨hi, hl, hd⟩ | ⟨pre, hp, c, hi, hl, hd⟩⟩
    · refine ⟨_, _, run_endLoop (P := Tryd.prog) hl (by rw [hr]; simp), ?_⟩
      rw [show r.pending = none by rw [hr]]
      exact hdone _ (hI.putObj _ hi (by omega) hl rfl) (other hd)
    · exact ⟨_, _, run_endLoop (P := Tryd.prog) hl (by simp), hstop c pre _ hp ((hIx c).putObj _ hi (by omega) hl rfl) (other hd)⟩

end Go.Proofs.YtgiokognngllcaaDoor

/- A set gone through by rising number. -/
namespace Go.Proofs.YtgiokognngllcaaDoor
open Go.RowKit Go.Shelf
attribute [local go_sem] Oper.semAt_some

theorem low_bit {x : Nat} (h0 : x ≠ 0) (h : x < 18446744073709551616) : Lib.ctz 64 x < 64 ∧ x.testBit (Lib.ctz 64 x) = true ∧ ∀ j, (x &&& (x - 1)).testBit j = (x.testBit j && decide (j ≠ Lib.ctz 64 x)) := by
  obtain ⟨m, hm, hk⟩ := Lib.ctzFrom_spec 64 x (by omega) h
  have e : Lib.ctz 64 x = Lib.ctzFrom 64 x := by simp [Lib.ctz, h0]
  rw [e]
  generalize Lib.ctzFrom 64 x = k at *
  have hp : 0 < 2 ^ k := Nat.pow_pos (by decide)
  have e1 : x = 2 ^ (k + 1) * m + 2 ^ k := by
    rw [hm, Nat.pow_succ, Nat.mul_add, Nat.mul_one, Nat.mul_assoc]
  have e2 : x - 1 = 2 ^ (k + 1) * m + (2 ^ k - 1) := by omega
  have h1 : 2 ^ k < 2 ^ (k + 1) := by rw [Nat.pow_succ]; omega
  have b1 : ∀ j, x.testBit j = if j < k + 1 then decide (k = j) else m.testBit (j - (k + 1)) := fun j => by
    rw [e1, Nat.testBit_two_pow_mul_add _ h1, Nat.testBit_two_pow]
  have b2 : ∀ j, (x - 1).testBit j = if j < k + 1 then decide (j < k) else m.testBit (j - (k + 1)) := fun j => by
    rw [e2, Nat.testBit_two_pow_mul_add _ (by omega), Nat.testBit_two_pow_sub_one]
  refine ⟨hk, by rw [b1, if_pos (by omega)]; simp, fun j => ?_⟩
  rw [Nat.testBit_and, b1, b2]
  by_cases hj : j < k + 1
  · rw [if_pos hj, if_pos hj]
    by_cases e : k = j
    · subst e; simp
    · simp [e]
  · rw [if_neg hj, if_neg hj]
    have : j ≠ k := by omega
    simp [this]
theorem less_and {x : Nat} (h0 : x ≠ 0) : x &&& (x - 1) < x := Nat.lt_of_le_of_lt Nat.and_le_right (by omega)
/-- The numbers of a word's bits, by rising number. -/
def bl (x : Nat) : List Nat := if h : x = 0 then [] else Lib.ctz 64 x :: bl (x &&& (x - 1))
termination_by x
decreasing_by exact less_and h
theorem bl_zero : bl 0 = [] := by rw [bl]; simp
theorem bl_cons {x : Nat} (h : x ≠ 0) : bl x = Lib.ctz 64 x :: bl (x &&& (x - 1)) := by rw [bl, dif_neg h]
theorem and_lt' {x : Nat} (h : x < 18446744073709551616) : x &&& (x - 1) < 18446744073709551616 := Nat.lt_of_le_of_lt Nat.and_le_left h
theorem mem_bl : ∀ (n x : Nat), x ≤ n → x < 18446744073709551616 → ∀ j, j ∈ bl x ↔ x.testBit j = true
  | n, 0, _, _, j => by rw [bl_zero]; simp
  | 0, x + 1, h, _, _ => by omega
  | n + 1, x + 1, h, hl, j => by
    obtain ⟨_, h2, h3⟩ := low_bit (x := x + 1) (by omega) hl
    have ih := mem_bl n ((x + 1) &&& (x + 1 - 1)) (by have := less_and (x := x + 1) (by omega); omega) (and_lt' hl) j
    rw [bl_cons (by omega), List.mem_cons, ih, h3]
    simp only [Bool.and_eq_true, decide_eq_true_eq]
    constructor
    · rintro (rfl | h)
      · exact h2
      · exact h.1
    · intro h
      by_cases e : j = Lib.ctz 64 (x + 1)
      · exact .inl e
      · exact .inr ⟨h, e⟩
/-- A set's numbers, of its first words. -/
def upE (ws : List Nat) (i : Nat) : List Nat := (List.range i).flatMap fun k => (bl (ws.getD k 0)).map fun j => k * 64 + j
theorem upE_succ (ws : List Nat) (i : Nat) : upE ws (i + 1) = upE ws i ++ (bl (ws.getD i 0)).map fun j => i * 64 + j := by
  unfold upE; rw [List.range_succ, List.flatMap_append]; simp
theorem upE_pre (ws : List Nat) {i n : Nat} (h : i ≤ n) : upE ws i <+: upE ws n := by
  induction n with
  | zero => obtain rfl : i = 0 := by omega
            exact List.prefix_refl _
  | succ n ih =>
    rcases Nat.lt_or_ge i (n + 1) with hlt | hge
    · rw [upE_succ]
      exact (ih (by omega)).trans (List.prefix_append _ _)
    · obtain rfl : i = n + 1 := by omega
      exact List.prefix_refl _
theorem mem_upE {ws : List Nat} (h : OkW ws) {v : Nat} : v ∈ upE ws 16 ↔ hasW ws v = true := by
  unfold upE
  rw [List.mem_flatMap]
  constructor
  · rintro ⟨k, _, hm⟩
    obtain ⟨j, hj, rfl⟩ := List.mem_map.1 hm
    have hx := h.at k
    have ht := (mem_bl _ _ (Nat.le_refl _) hx j).1 hj
    have hj64 : j < 64 := Classical.byContradiction fun hn => by
      rw [Nat.testBit_lt_two_pow (Nat.lt_of_lt_of_le hx (by rw [show (18446744073709551616 : Nat) = 2 ^ 64 from rfl]; exact Nat.pow_le_pow_right (by decide) (by omega)))] at ht
      cases ht
    unfold hasW
    rw [show (k * 64 + j) / 64 = k by omega, show (k * 64 + j) % 64 = j by omega]
    exact ht
  · intro hv
    have hl := has_lt h hv
    unfold hasW at hv
    refine ⟨v / 64, List.mem_range.2 (by omega), List.mem_map.2 ⟨v % 64, (mem_bl _ _ (Nat.le_refl _) (h.at _) _).2 hv, by omega⟩⟩
theorem upE_part {ws : List Nat} {i y : Nat} {d : List Nat} (hi : i < 16) (hd : bl (ws.getD i 0) = d ++ bl y) (hy : y ≠ 0) : (upE ws i ++ d.map fun j => i * 64 + j) ++ [i * 64 + Lib.ctz 64 y] <+: upE ws 16 ∧
    (upE ws i ++ d.map fun j => i * 64 + j) ++ [i * 64 + Lib.ctz 64 y] = upE ws i ++ (d ++ [Lib.ctz 64 y]).map fun j => i * 64 + j := by
  have e2 : (upE ws i ++ d.map fun j => i * 64 + j) ++ [i * 64 + Lib.ctz 64 y] = upE ws i ++ (d ++ [Lib.ctz 64 y]).map fun j => i * 64 + j := by
    rw [List.map_append, List.append_assoc]; rfl
  refine ⟨?_, e2⟩
  rw [e2]
  refine List.IsPrefix.trans ?_ (upE_pre ws (n := 16) (i := i + 1) hi)
  rw [upE_succ, hd, bl_cons hy]
  refine (List.prefix_append_right_inj _).2 (List.IsPrefix.map _ ?_)
  rw [show d ++ Lib.ctz 64 y :: bl (y &&& (y - 1)) = (d ++ [Lib.ctz 64 y]) ++ bl (y &&& (y - 1)) by simp]
  exact List.prefix_append _ _
end Go.Proofs.YtgiokognngllcaaDoor

/- The method all of a set. -/
namespace Go.Proofs.YtgiokognngllcaaDoor
open Go.RowKit Go.Shelf
attribute [local go_sem] Oper.semAt_some

/-- What a round keeps: the set's block, and the table's. -/
structure KpR (R : Nat) (_ : Nat) (W W' : World) : Prop where
  size : W.heap.size ≤ W'.heap.size
  set : W'.heap[R]? = W.heap[R]?
  tab : W'.heap[1]? = W.heap[1]?
theorem KpR.trans {R i : Nat} {X Y Z : World} (h : KpR R i X Y) (k : KpR R i Y Z) : KpR R i X Z := ⟨Nat.le_trans h.size k.size, k.set.trans h.set, k.tab.trans h.tab⟩
theorem KpR.refl (R i : Nat) (W : World) : KpR R i W W := ⟨Nat.le_refl _, rfl, rfl⟩
abbrev Tb (W : World) : Prop := TabAt 1 Lib.deBruijn64tab W
theorem Tb.keep {W W' : World} (h : Tb W) (hb : W'.heap[1]? = W.heap[1]?) : Tb W' := fun j hj => by
  rw [World.cell?_of_block (w := W) hb]
  exact h j hj
theorem range_keep {W W' : World} {b o : Nat} {cs : List Value} (h : W.rangeAt b o cs) (hb : W'.heap[b]? = W.heap[b]?) : W'.rangeAt b o cs := fun j v hv => by
  rw [World.cell?_of_block (w := W) hb]
  exact h j v hv
abbrev encN (x : Nat) : Array Value := #[.int .i64 (x : Int)]
theorem sub_word {y : Nat} (h0 : y ≠ 0) (h : y < 18446744073709551616) : bits BinOp.and IntKind.u64 (y : Int) (IntKind.u64.wrap ((y : Int) - 1)) = ((y &&& (y - 1) : Nat) : Int) := by
  rw [show (y : Int) - 1 = ((y - 1 : Nat) : Int) by omega, wrap_u64_nat _ (by omega), and_word _ _ h (by omega)]
set_option maxRecDepth 100000 in
set_option maxHeartbeats 4000000 in
theorem all1_m (lq R o : Nat) (ws : List Nat) (hk : OkW ws) (J Jx : List Nat → World → Prop) (W : World) (hJo : OwnFrom W.heap.size J)
    (hY : ∀ pre x W1, J pre W1 → (pre ++ [x]) <+: upE ws 16 → YieldAt Fence.wide 0 Tryd.prog lq (encN x) W1 fun e W' =>
      KpR R W.heap.size W1 W' ∧ ((e = .returned (.bool true) ∧ J (pre ++ [x]) W') ∨ (e = .returned (.bool false) ∧ Jx (pre ++ [x]) W')))
    (hr : W.rangeAt R o (ws.map uV)) (hT : Tb W) (h0 : J [] W) :
    CallsIn Fence.wide 1 Tryd.prog 62 #[.pointer (some ⟨R, o, none⟩), .func (.yield lq) #[] #[]] W fun e W' => (∃ v, e = .returned v) ∧
      (J (upE ws 16) W' ∨ ∃ pre, pre <+: upE ws 16 ∧ Jx pre W') := by
  have HY := Hid.mk' hY
  have HJO := Hid.mk' hJo
  have HRG := Hid.mk' hr
  have HT := Hid.mk' hT
  have HK := Hid.mk' hk
  have hl := hk.len
  clear hY hr hT hk hJo
  refine callsIn_of_wp Tryd.func62 rfl trivial ?_ rfl
  simp only [Tryd.ntmps62, List.size_toArray, List.length_cons, List.length_nil, Nat.reduceAdd, Nat.reduceSub, Array.replicate_succ, Array.replicate_zero, List.push_toArray, List.append_toArray, List.nil_append, List.cons_append]
  gi_wp2_with fail
  gi_loopw [7] (fun t wr => ∃ (i : Nat), t = .int .i64 i ∧ i ≤ 16 ∧ wr.rangeAt R o (ws.map uV) ∧ Tb wr ∧ J (upE ws i) wr) (fun t _ => 16 - (intOf t).toNat)
  case atStart => exact ⟨0, rfl, Nat.zero_le _, HRG.out, HT.out, h0⟩
  case round =>
    obtain ⟨i, rfl, hi, hr, hT, hJ⟩ := hrel
    clear HRG HT
    have HRG := Hid.mk' hr
    have HT := Hid.mk' hT
    have HJ := Hid.mk' hJ
    clear hr hT hJ
    by_cases hlt : i < 16
    · have hil : i < ws.length := by omega
      have hli : (i : Int) < 16 := by omega
      have hld : decide ((i : Int) < 16) = true := decide_eq_true hli
      have c0 : wr.cell? ⟨R, o + i, none⟩ = some (.int .u64 ((ws[i] : Nat) : Int)) := HRG.out i _ (map_uV_at hil)
      have HX : Hid (ws.getD i 0 = ws[i]) := getN hil
      have HXL : Hid (ws[i] < 18446744073709551616) := HK.out.lt _ (List.getElem_mem hil)
      have HBL : Hid (bl (ws.getD i 0) = [] ++ bl ws[i]) := (by rw [HX.out]; rfl : _ = _)
      clear HX
      generalize ws[i] = x at *
      gi_wp2_with fail
      gi_quiet (fail)
      gi_wp2_with fail
      have HBD : Hid (Below wr.heap.size wr (wr.drewN nq)) := Below.drewN (Below.refl _ wr) nq
      have HJ2 : Hid (J (upE ws i ++ ([] : List Nat).map fun j => i * 64 + j) (wr.drewN nq)) := by
        have := HJO.out _ _ _ none HJ.out (below_grown HBD.out) (fun r e => by cases e)
        show J _ _
        simpa using this
      have HR2 : Hid ((wr.drewN nq).rangeAt R o (ws.map uV)) := range_keep HRG.out rfl
      have HT2 : Hid (Tb (wr.drewN nq)) := HT.out.keep rfl
      clear c0 HBD HJ HRG HT
      gi_loopw [5] (fun t wr => ∃ (y : Nat) (d : List Nat), t = .int .u64 (y : Int) ∧ y < 18446744073709551616 ∧ bl (ws.getD i 0) = d ++ bl y ∧ wr.rangeAt R o (ws.map uV) ∧ Tb wr ∧ J (upE ws i ++ d.map fun j => i * 64 + j) wr) (fun t _ => (intOf t).toNat)
      case atStart => exact ⟨x, [], rfl, HXL.out, HBL.out, HR2.out, HT2.out, HJ2.out⟩
      case round =>
        obtain ⟨y, d, rfl, hy, hbl, hr, hT, hJ⟩ := hrel
        clear HXL HBL HR2 HT2 HJ2
        have HYL := Hid.mk' hy
        have HBL := Hid.mk' hbl
        have HRG := Hid.mk' hr
        have HT := Hid.mk' hT
        have HJ := Hid.mk' hJ
        clear hy hbl hr hT hJ
        by_cases hy0 : y = 0
        · have hq : ((y : Int) != 0) = false := bne_no (by omega)
          have HE : Hid (upE ws (i + 1) = upE ws i ++ d.map fun j => i * 64 + j) := by
            have := HBL.out
            rw [hy0, bl_zero, List.append_nil] at this
            show _ = _
            rw [upE_succ, this]
          clear hy0
          gi_wp2_with fail
          go_roundw
          case rel => exact ⟨i + 1, by go_num, hlt, HRG.out, HT.out, by rw [HE.out]; exact HJ.out⟩
          case measure => simp [intOf]; omega
        · have hq : ((y : Int) != 0) = true := bne_of (by omega)
          have HTZ := Hid.mk' (trail_any y HYL.out hy0 wr HT.out)
          obtain ⟨hp1, hp2⟩ := upE_part hlt HBL.out hy0
          have HP1 := Hid.mk' hp1
          have HP2 := Hid.mk' hp2
          have hck := (low_bit hy0 HYL.out).1
          have hsub := sub_word hy0 HYL.out
          have HLT := Hid.mk' (less_and hy0)
          have HYL2 := Hid.mk' (and_lt' HYL.out)
          have HB2 : Hid (bl (ws.getD i 0) = (d ++ [Lib.ctz 64 y]) ++ bl (y &&& (y - 1))) := by
            show _ = _
            rw [HBL.out, bl_cons hy0]; simp
          obtain ⟨fn, tmps, assign, body, hyy, hR⟩ := HY.out _ (i * 64 + Lib.ctz 64 y) _ HJ.out hp1
          clear hp1 hp2 hy0
          generalize Lib.ctz 64 y = k at *
          have ek : ((i * 64 + k : Nat) : Int) = (i : Int) * 64 + (k : Int) := by omega
          unfold encN at hyy
          rw [ek] at hyy
          clear ek
          gi_wp2_with fail
          refine ⟨trivial, ?_⟩
          refine (callsIn_wide.2 HTZ.out).mono ?_
          rintro e w2 ⟨rfl, rfl⟩
          gi_wp2_with fail
          refine hR.mono ?_
          rintro e W3 ⟨hk3, ⟨rfl, hJ3⟩ | ⟨rfl, hJx3⟩⟩
          · have HR3 := Hid.mk' (range_keep HRG.out hk3.set)
            have HT3 := Hid.mk' (HT.out.keep hk3.tab)
            rw [HP2.out] at hJ3
            have HJ3 := Hid.mk' hJ3
            clear hk3 hR hyy hJ3 HTZ
            generalize y &&& (y - 1) = y2 at *
            gi_wp2_with fail
            go_roundw
            case rel => exact ⟨y2, d ++ [k], rfl, HYL2.out, HB2.out, HR3.out, HT3.out, HJ3.out⟩
            case measure => have := HLT.out; simp [intOf]; omega
          · gi_wp2_with fail
            exact bodyPost_ret (results_none rfl _ _ _) rfl ⟨⟨_, rfl⟩, .inr ⟨_, HP1.out, hJx3⟩⟩
    · have hie : i = 16 := by omega
      rw [hie] at HJ
      gi_wp2_with fail
      go_end0
      exact ⟨⟨_, rfl⟩, .inl HJ.out⟩
theorem all_m (R o : Nat) (ws : List Nat) (hk : OkW ws) (w : World) (hr : w.rangeAt R o (ws.map uV)) (hR : R < w.heap.size) (hG : 1 < w.heap.size) (hT : Tb w) : SeqM 62 #[.pointer (some ⟨R, o, none⟩)] encN (KpR R) (upE ws 16) w :=
  fun lq J Jx W hW hJ _ hY h0 => calls_any (all1_m lq R o ws hk J Jx W hJ hY (range_keep hr (hW.block _ hR)) (hT.keep (hW.block _ hG)) h0)
end Go.Proofs.YtgiokognngllcaaDoor
