/- Both counts are the same. -/
import Derived.Test.YtbpemackmadhgaaGreatDoorPart9
import Derived.Test.YtbpemackmadhgaaGreatDoorPart5
import Derived.Test.YtbpemackmadhgaaGreatDoorPart2
import Derived.Deep.CutBlock
import Derived.Test.YtbpemackmadhgaaGreatDoorPart7
namespace Go.Proofs.YtbpemackmadhgaaGreatDoor
open Go.RowKit

/-- r is n and N, if that is within the limit, else past it. -/
def PP (lim n N r : Int) : Prop := n ≤ r ∧ (n + N ≤ lim → r = n + N) ∧ (lim < n + N → lim < r)
theorem PP.comp {lim n A r B s : Int} (h : PP lim n A r) (h' : PP lim r B s) (hB : 0 ≤ B) : PP lim n (A + B) s := by
  unfold PP at *; omega
theorem PP.of {lim n N N' r : Int} (h : PP lim n N r) (e : N = N') : PP lim n N' r := by subst e; exact h
theorem PP.past {lim n N : Int} (h : lim < n) (_ : 0 ≤ N) : PP lim n N n := by unfold PP; omega
theorem PP.nil (lim n : Int) : PP lim n 0 n := by unfold PP; omega
theorem PP.plus (lim n : Int) (A : Int) (h : 0 ≤ A) : PP lim n A (n + A) := by unfold PP; omega
theorem PP.under {lim n A q : Int} (h : PP (lim - n) 0 A q) : PP lim n A (n + q) := by unfold PP at *; omega
theorem PP.under1 {lim n A q : Int} (h : PP (lim - n - 1) 0 A q) : PP lim n (A + 1) (n + (1 + q)) := by unfold PP at *; omega

theorem pe (k : Nat) : (∀ (x : Ex) (n : Int), x.sz ≤ k → PP 4096 n x.sz (cntE x n)) ∧ (∀ (l : List Ex) (n : Int), szL l ≤ k → PP 4096 n (szL l) (cntL l n)) := by
  induction k with
  | zero =>
    refine ⟨fun x n hk => by have := x.sz_args; omega, fun l n hk => ?_⟩
    cases l with
    | nil => simp only [cntL, szL]; exact PP.nil _ _
    | cons x r => rw [szL] at hk; have := x.sz_args; omega
  | succ k ih =>
    have h1 : ∀ (x : Ex) (n : Int), x.sz ≤ k + 1 → PP 4096 n x.sz (cntE x n) := fun x n hk => by
      have e := x.sz_args
      rw [cntE_args]
      exact ((PP.plus 4096 n 1 (by omega)).comp (ih.2 x.args (n + 1) (by omega)) (by omega)).of (by omega)
    refine ⟨h1, fun l => ?_⟩
    induction l with
    | nil => intro n _; simp only [cntL, szL]; exact PP.nil _ _
    | cons x r ihr =>
      intro n hk
      rw [szL] at hk
      rw [cntL]
      split
      · exact PP.past (by assumption) (by omega)
      · exact ((h1 x n (by omega)).comp (ihr (cntE x n) (by omega)) (by omega)).of (by rw [szL]; omega)
theorem pe' (k : Nat) : (∀ (x : Ex) (left n : Int), x.sz ≤ k → PP left n x.sz (n + (1 + rE x (left - n - 1)))) ∧ (∀ (l : List Ex) (left n : Int), szL l ≤ k → PP left n (szL l) (rL l left n)) := by
  induction k with
  | zero =>
    refine ⟨fun x left n hk => by have := x.sz_args; omega, fun l left n hk => ?_⟩
    cases l with
    | nil => simp only [rL, szL]; exact PP.nil _ _
    | cons x r => rw [szL] at hk; have := x.sz_args; omega
  | succ k ih =>
    have h1 : ∀ (x : Ex) (left n : Int), x.sz ≤ k + 1 → PP left n x.sz (n + (1 + rE x (left - n - 1))) := fun x left n hk => by
      have e := x.sz_args
      rw [rE_args]
      exact (PP.under1 (ih.2 x.args (left - n - 1) 0 (by omega))).of (by omega)
    refine ⟨h1, fun l => ?_⟩
    induction l with
    | nil => intro left n _; simp only [rL, szL]; exact PP.nil _ _
    | cons x r ihr =>
      intro left n hk
      rw [szL] at hk
      rw [rL]
      split
      · exact ((h1 x left n (by omega)).comp (ihr left _ (by omega)) (by omega)).of (by rw [szL]; omega)
      · exact PP.past (by omega) (by omega)

def tZ (x : Ex) : Int := if zeroE x then 0 else x.sz
theorem tZ_ge (x : Ex) : 0 ≤ tZ x := by unfold tZ; split <;> omega
theorem pz (x : Ex) (n : Int) : PP 4096 n (tZ x) (cntZ x n) := by
  unfold tZ cntZ; split
  · exact PP.nil _ _
  · exact (pe _).1 x n (Nat.le_refl _)
theorem pz' (x : Ex) (left n : Int) : PP left n (tZ x) (rZ x left n) := by
  unfold tZ rZ; split
  · exact PP.nil _ _
  · rw [← rE_args]; exact (pe' _).1 x left n (Nat.le_refl _)
mutual
def tS : St → Int
  | .mk _ _ _ a b _ _ l _ _ e _ _ c => 1 + (tZ a + (tZ b + (tSs l + (tCs c + tSs e))))
def tSs : List St → Int | [] => 0 | s :: r => tS s + tSs r
def tC : Ca → Int | .mk _ _ _ l => tSs l + 1
def tCs : List Ca → Int | [] => 0 | c :: r => tC c + tCs r
end
theorem tS_eq (s : St) : tS s = 1 + (tZ s.a + (tZ s.b + (tSs s.body + (tCs s.cases + tSs s.els)))) := by cases s; simp only [tS, St.a, St.b, St.body, St.cases, St.els]
theorem tC_eq (c : Ca) : tC c = tSs c.body + 1 := by cases c; simp only [tC, Ca.body]
theorem t_ge (k : Nat) : (∀ s : St, s.sz ≤ k → 0 ≤ tS s) ∧ (∀ l : List St, ssz l ≤ k → 0 ≤ tSs l) ∧ (∀ l : List Ca, csz l ≤ k → (l.length : Int) ≤ tCs l) := by
  induction k with
  | zero =>
    refine ⟨fun s hk => by have := s.sz_eq; omega, fun l hk => ?_, fun l hk => ?_⟩
    · cases l with
      | nil => simp [tSs]
      | cons x r => rw [ssz] at hk; have := x.sz_eq; omega
    · cases l with
      | nil => simp [tCs]
      | cons x r => rw [csz] at hk; have := x.sz_eq; omega
  | succ k ih =>
    have h1 : ∀ s : St, s.sz ≤ k + 1 → 0 ≤ tS s := fun s hk => by
      have e := s.sz_eq
      rw [tS_eq]
      have := tZ_ge s.a
      have := tZ_ge s.b
      have := ih.2.1 s.body (by omega)
      have := ih.2.1 s.els (by omega)
      have := ih.2.2 s.cases (by omega)
      omega
    refine ⟨h1, fun l => ?_, fun l => ?_⟩
    · induction l with
      | nil => simp [tSs]
      | cons x r ihr =>
        intro hk
        rw [ssz] at hk
        rw [tSs]
        have := h1 x (by omega)
        have := ihr (by omega)
        omega
    · induction l with
      | nil => simp [tCs]
      | cons x r ihr =>
        intro hk
        rw [csz] at hk
        rw [tCs, tC_eq]
        have := x.sz_eq
        have := ih.2.1 x.body (by omega)
        have := ihr (by omega)
        simp only [List.length_cons]
        omega
theorem tSs_ge (l : List St) : 0 ≤ tSs l := (t_ge _).2.1 l (Nat.le_refl _)
theorem tS_ge (s : St) : 0 ≤ tS s := (t_ge _).1 s (Nat.le_refl _)
theorem tCs_ge (l : List Ca) : (l.length : Int) ≤ tCs l := (t_ge _).2.2 l (Nat.le_refl _)

theorem cntS_eq' (s : St) (n : Int) : cntS s n = cntSs s.els (cntCs s.cases (cntSs s.body (cntZ s.b (cntZ s.a (n + (1 + (s.cases.length : Int))))))) := by
  cases s; simp only [cntS, St.els, St.cases, St.body, St.a, St.b]
theorem ps (k : Nat) : (∀ (s : St) (n : Int), s.sz ≤ k → PP 4096 n (tS s) (cntS s n)) ∧ (∀ (l : List St) (n : Int), ssz l ≤ k → PP 4096 n (tSs l) (cntSs l n)) := by
  induction k with
  | zero =>
    refine ⟨fun s n hk => by have := s.sz_eq; omega, fun l n hk => ?_⟩
    cases l with
    | nil => simp only [cntSs, tSs]; exact PP.nil _ _
    | cons x r => rw [ssz] at hk; have := x.sz_eq; omega
  | succ k ih =>
    have hC : ∀ (l : List Ca) (n : Int), csz l ≤ k → PP 4096 n (tCs l - (l.length : Int)) (cntCs l n) := fun l => by
      induction l with
      | nil => intro n _; simp only [cntCs, tCs]; exact (PP.nil _ _).of (by simp)
      | cons c r ihr =>
        intro n hk
        rw [csz] at hk
        rw [cntCs, cntC_eq]
        have := c.sz_eq
        have := tCs_ge r
        exact ((ih.2 c.body n (by omega)).comp (ihr _ (by omega)) (by omega)).of (by rw [tCs, tC_eq]; simp only [List.length_cons]; omega)
    have h1 : ∀ (s : St) (n : Int), s.sz ≤ k + 1 → PP 4096 n (tS s) (cntS s n) := fun s n hk => by
      have e := s.sz_eq
      have a1 := tZ_ge s.a
      have a2 := tZ_ge s.b
      have a3 := tSs_ge s.body
      have a4 := tSs_ge s.els
      have a5 := tCs_ge s.cases
      rw [cntS_eq']
      exact ((((((PP.plus 4096 n (1 + (s.cases.length : Int)) (by omega)).comp (pz s.a _) a1).comp (pz s.b _) a2).comp (ih.2 s.body _ (by omega)) a3).comp (hC s.cases _ (by omega)) (by omega)).comp (ih.2 s.els _ (by omega)) a4).of (by rw [tS_eq]; omega)
    refine ⟨h1, fun l => ?_⟩
    induction l with
    | nil => intro n _; simp only [cntSs, tSs]; exact PP.nil _ _
    | cons x r ihr =>
      intro n hk
      rw [ssz] at hk
      have := tSs_ge r
      have := tS_ge x
      rw [cntSs]
      split
      · exact PP.past (by assumption) (by rw [tSs]; omega)
      · exact ((h1 x n (by omega)).comp (ihr _ (by omega)) (by omega)).of (by rw [tSs])
theorem ps' (k : Nat) : (∀ (s : St) (left n : Int), s.sz ≤ k → PP left n (tS s) (rS s left n)) ∧ (∀ (l : List St) (left n : Int), ssz l ≤ k → PP left n (tSs l) (rSs l left n)) := by
  induction k with
  | zero =>
    refine ⟨fun s left n hk => by have := s.sz_eq; omega, fun l left n hk => ?_⟩
    cases l with
    | nil => simp only [rSs, tSs]; exact PP.nil _ _
    | cons x r => rw [ssz] at hk; have := x.sz_eq; omega
  | succ k ih =>
    have hC : ∀ (l : List Ca) (left n : Int), csz l ≤ k → PP left n (tCs l) (rCs l left n) := fun l => by
      induction l with
      | nil => intro left n _; simp only [rCs, tCs]; exact PP.nil _ _
      | cons c r ihr =>
        intro left n hk
        rw [csz] at hk
        have := c.sz_eq
        have := tCs_ge r
        have := tSs_ge c.body
        rw [rCs]
        split
        · rw [rC_eq]
          exact ((PP.under1 (ih.2 c.body (left - n - 1) 0 (by omega))).comp (ihr left _ (by omega)) (by omega)).of (by rw [tCs, tC_eq])
        · exact PP.past (by omega) (by rw [tCs, tC_eq]; omega)
    have hB : ∀ (l : List St) (left n : Int), ssz l ≤ k → PP left n (tSs l) (rB l left n) := fun l left n hk => PP.under (ih.2 l (left - n) 0 hk)
    have h1 : ∀ (s : St) (left n : Int), s.sz ≤ k + 1 → PP left n (tS s) (rS s left n) := fun s left n hk => by
      have e := s.sz_eq
      have a1 := tZ_ge s.a
      have a2 := tZ_ge s.b
      have a3 := tSs_ge s.body
      have a4 := tSs_ge s.els
      have a5 := tCs_ge s.cases
      rw [rS_eq]
      exact ((((((PP.plus left n 1 (by omega)).comp (pz' s.a left _) a1).comp (pz' s.b left _) a2).comp (hB s.body left _ (by omega)) a3).comp (hC s.cases left _ (by omega)) (by omega)).comp (hB s.els left _ (by omega)) a4).of (by rw [tS_eq]; omega)
    refine ⟨h1, fun l => ?_⟩
    induction l with
    | nil => intro left n _; simp only [rSs, tSs]; exact PP.nil _ _
    | cons x r ihr =>
      intro left n hk
      rw [ssz] at hk
      have := tSs_ge r
      have := tS_ge x
      rw [rSs]
      split
      · exact ((h1 x left n (by omega)).comp (ihr left _ (by omega)) (by omega)).of (by rw [tSs])
      · exact PP.past (by omega) (by rw [tSs]; omega)

def tF : List Fu → Int | [] => 0 | f :: r => tSs f.body + tF r
theorem tF_ge : ∀ l : List Fu, 0 ≤ tF l
  | [] => by simp [tF]
  | f :: r => by rw [tF]; have := tSs_ge f.body; have := tF_ge r; omega
theorem pf : ∀ (l : List Fu) (n : Int), PP 4096 n (tF l) (cntF l n)
  | [], n => by rw [tF, cntF]; exact PP.nil _ _
  | f :: r, n => by
    rw [tF, cntF]
    exact ((ps _).2 f.body n (Nat.le_refl _)).comp (pf r _) (tF_ge r)
theorem pf' : ∀ (l : List Fu) (n : Int), PP 4096 n (tF l) (rF l n)
  | [], n => by rw [tF, rF]; exact PP.nil _ _
  | f :: r, n => by
    rw [tF, rF]
    have := tSs_ge f.body
    have := tF_ge r
    split
    · exact (PP.under ((ps' _).2 f.body (4096 - n) 0 (Nat.le_refl _))).comp (pf' r _) (tF_ge r)
    · exact PP.past (by omega) (by omega)
theorem nodes_same (p : Pr) : nodesZ p = rnodesZ p := by
  have h1 := pf p.funcs 0
  have h2 := pf' p.funcs 0
  have h3 := tF_ge p.funcs
  unfold nodesZ rnodesZ
  unfold PP at h1 h2
  split <;> omega
end Go.Proofs.YtbpemackmadhgaaGreatDoor

/- The document's own look at thresholds and counts. -/
namespace Go.Proofs.YtbpemackmadhgaaGreatDoor
open Go.RowKit Go.Sort

set_option maxRecDepth 100000 in
set_option maxHeartbeats 2000000 in
theorem head_any (p : Pr) (w : World) (hin : p.In w) : Calls Tryz.prog 14 #[p.val] w fun e w' => e = .returned (.int .i64 (wholeZ p)) ∧ Below w.heap.size w w' := by
  have HR : Hid (RowIn w p.wa 1 (p.widen.map fun z => [.int .i64 z])) := hin.2.2.2.1
  have HN : Hid (∀ w', Below w.heap.size w w' → Calls Tryz.prog 32 #[p.val] w' fun e w'' => e = .returned (.int .i64 (nodesZ p)) ∧ Below w'.heap.size w' w'') := fun w' hb => by
    rw [nodes_same]; exact rnodes_any p w' (hin.stay hb)
  have HE : Hid (wholeZ p = if 16 < p.widen.length then 3 else if hasZ (-9223372036854775808) p.widen = true then 1 else if riseB p.widen = false then 66 else if 32 < p.funcs.length then 3 else if 4096 < nodesZ p then 3 else 0) := (rfl : wholeZ p = _)
  generalize wholeZ p = res at HE ⊢
  generalize nodesZ p = nz at HN HE
  have HRB : Hid (∀ w', Below w.heap.size w w' → RowIn w' p.wa 1 (p.widen.map fun z => [.int .i64 z])) := fun w' hb => HR.out.below hb
  clear hin
  have hb1 := (Below.refl _ w).alloc (Nat.le_refl _) (.cells #[.slice p.wa p.widen.length p.wc, .slice p.fa p.funcs.length p.fc] 25)
  have hbx := boxL_new w #[.slice p.wa p.widen.length p.wc, .slice p.fa p.funcs.length p.fc] 25
  unfold Pr.val at HN ⊢
  by_cases e1 : 16 < p.widen.length
  · have e1' : (16 : Int) < (p.widen.length : Int) := by omega
    go_enter Tryz.func14, Tryz.ntmps14
    go_wp2_with fail
    go_ret
    exact ⟨ret_int (by rw [HE.out, if_pos e1]), hb1⟩
  · have e1' : ¬ (16 : Int) < (p.widen.length : Int) := by omega
    rw [if_neg e1] at HE
    go_enter Tryz.func14, Tryz.ntmps14
    go_upto_region 1 with fail
    generalize w.alloc (.cells #[.slice p.wa p.widen.length p.wc, .slice p.fa p.funcs.length p.fc] 25) = W1 at hb1 hbx ⊢
    have c0 := hbx 0 _ rfl
    have c1 := hbx 1 _ rfl
    have HRW : Hid (RowIn W1 p.wa 1 (p.widen.map fun z => [.int .i64 z])) := HRB.out W1 hb1
    clear hbx HRB HR
    go_wp2_with fail
    go_loopw [3] (fun t3 wr => ∃ (j : Nat), j ≤ p.widen.length ∧ t3 = .int .i64 j ∧ hasZ (-9223372036854775808) (p.widen.drop j) = hasZ (-9223372036854775808) p.widen ∧ wr = W1) (fun t3 _ => p.widen.length - (intOf t3).toNat)
    case atStart => exact ⟨0, Nat.zero_le _, rfl, rfl, rfl⟩
    case round =>
      obtain ⟨j, hj, rfl, hcnt, hwr⟩ := hrel
      obtain rfl := hwr.symm
      have HC : Hid (hasZ (-9223372036854775808) (p.widen.drop j) = hasZ (-9223372036854775808) p.widen) := hcnt
      clear hcnt
      by_cases hlt : j < p.widen.length
      · obtain ⟨b, o, hwa, d0⟩ := rowW_at HRW.out hlt
        have c0' := c0
        rw [hwa] at c0'
        clear hwa c0
        have hli : (j : Int) < (p.widen.length : Int) := by omega
        have HD : Hid (hasZ (-9223372036854775808) (p.widen.drop j) = (-9223372036854775808 == p.widen[j] || hasZ (-9223372036854775808) (p.widen.drop (j + 1)))) := hasZ_drop hlt
        generalize p.widen[j] = z at *
        rw [show ((-9223372036854775808 : Int) == z) = (z == -9223372036854775808) from Bool.beq_comm] at HD
        cases ez : (z == -9223372036854775808)
        · go_wp2_with fail
          go_roundw
          case rel => exact ⟨j + 1, by omega, by go_num, by rw [← HC.out, HD.out, ez]; rfl, trivial⟩
          case measure => simp [intOf]; omega
        · have HV : Hid (hasZ (-9223372036854775808) p.widen = true) := by show _ = _; rw [← HC.out, HD.out, ez]; rfl
          go_wp2_with fail
          go_ret
          exact ⟨ret_int (by rw [HE.out, if_pos HV.out]), hb1⟩
      · have hli : ¬ (j : Int) < (p.widen.length : Int) := by omega
        have HV : Hid (hasZ (-9223372036854775808) p.widen = false) := by show _ = _; rw [← HC.out, List.drop_eq_nil_of_le (by omega)]; rfl
        rw [if_neg (by rw [HV.out]; decide)] at HE
        clear HC HV
        go_wp2_with fail
        go_loopw [4] (fun t3 wr => ∃ (j nq : Nat), j ≤ p.widen.length ∧ t3 = .int .i64 (j + 1) ∧ riseB (p.widen.drop j) = riseB p.widen ∧ wr = W1.drewN nq) (fun t3 _ => p.widen.length + 1 - (intOf t3).toNat)
        case atStart => exact ⟨0, 0, Nat.zero_le _, rfl, rfl, rfl⟩
        case round =>
          obtain ⟨j, nq, hj, rfl, hcnt, rfl⟩ := hrel
          have HC : Hid (riseB (p.widen.drop j) = riseB p.widen) := hcnt
          clear hcnt
          by_cases hlt : j + 1 < p.widen.length
          · obtain ⟨b, o, hwa, d0⟩ := rowW_at HRW.out hlt
            obtain ⟨b', o', e, d1⟩ := rowW_at HRW.out (show j < p.widen.length by omega)
            rw [hwa] at e
            cases e
            have c0' := c0
            rw [hwa] at c0'
            clear hwa c0
            have hli : (j : Int) + 1 < (p.widen.length : Int) := by omega
            have HD : Hid (riseB (p.widen.drop j) = if p.widen[j + 1] ≤ p.widen[j]'(by omega) then false else riseB (p.widen.drop (j + 1))) := riseB_drop hlt
            generalize p.widen[j + 1] = z1 at *
            generalize p.widen[j] = z0 at *
            go_wp2_with fail
            go_quiet (fail)
            by_cases ez : z1 ≤ z0
            · have HV : Hid (riseB p.widen = false) := by show _ = _; rw [← HC.out, HD.out, if_pos ez]
              go_wp2_with fail
              go_ret
              exact ⟨ret_int (by rw [HE.out, if_pos HV.out]), (hb1.drewN _).drewN _⟩
            · go_wp2_with fail
              go_roundw
              case rel => exact ⟨j + 1, _, by omega, by go_num, by rw [← HC.out, HD.out, if_neg (by omega)], rfl⟩
              case measure => simp [intOf]; omega
          · have hli : ¬ (j : Int) + 1 < (p.widen.length : Int) := by omega
            have HV : Hid (riseB p.widen = true) := by
              show _ = _
              rw [← HC.out]
              match h : p.widen.drop j with
              | [] => rfl
              | [_] => rfl
              | _ :: _ :: _ => have := congrArg List.length h; simp at this; omega
            rw [if_neg (by rw [HV.out]; decide)] at HE
            have hb2 : Below w.heap.size w (W1.drewN nq) := hb1.drewN _
            clear HC HV
            by_cases e4 : 32 < p.funcs.length
            · have e4' : (32 : Int) < (p.funcs.length : Int) := by omega
              go_wp2_with fail
              go_ret
              exact ⟨ret_int (by rw [HE.out, if_pos e4]), hb2⟩
            · have e4' : ¬ (32 : Int) < (p.funcs.length : Int) := by omega
              rw [if_neg e4] at HE
              go_wp2_with fail
              refine (HN.out _ hb2).mono ?_
              rintro r w3 ⟨rfl, hbn⟩
              have hb3 : Below w.heap.size w w3 := hb2.trans (hbn.mono hb2.size)
              by_cases e5 : 4096 < nz
              · go_wp2_with fail
                go_ret
                exact ⟨ret_int (by rw [HE.out, if_pos e5]), hb3⟩
              · go_wp2_with fail
                go_ret
                exact ⟨ret_int (by rw [HE.out, if_neg (by omega)]), hb3⟩
end Go.Proofs.YtbpemackmadhgaaGreatDoor

/- The document's own Check: what the program's is. -/
namespace Go.Proofs.YtbpemackmadhgaaGreatDoor
open Go.RowKit Go.Sort

/-- The place of an answer, not written yet. -/
def ResZ (W : World) (B : Nat) : Prop := W.heap[B]? = some (.cells #[.int .i64 0, .int .i64 0, .int .i64 0] 29 (0, 0))
theorem ResZ.cell {W : World} {B : Nat} (h : ResZ W B) {j : Nat} (hj : j < 3) : W.cell? ⟨B, j, none⟩ = some (.int .i64 0) := by
  have h' : W.heap[B]? = some (.cells #[.int .i64 0, .int .i64 0, .int .i64 0] 29 (0, 0)) := h
  rw [Lib.cell_of_heap h']
  match j, hj with
  | 0, _ => rfl
  | 1, _ => rfl
  | 2, _ => rfl
theorem ResZ.frozen {W : World} {B : Nat} (h : ResZ W B) (j : Nat) : W.frozen? ⟨B, j, none⟩ = false := Lib.frozen_of_heap h _
theorem ResZ.lt {W : World} {B : Nat} (h : ResZ W B) : B < W.heap.size := (Array.getElem?_eq_some_iff.1 h).1
theorem ResZ.stay {W W' : World} {B : Nat} (h : ResZ W B) (hb : Below W.heap.size W W') : ResZ W' B := (hb.block B h.lt).trans h
theorem ResZ.only {W W' : World} {B b : Nat} (h : ResZ W B) (ho : OnlyB b W W') (hb : B ≠ b) : ResZ W' B := (ho.2.2.2.2 B h.lt hb).trans h
theorem BoxL.only {W W' : World} {B b : Nat} {cs : List Value} (h : BoxL W B cs) (ho : OnlyB b W W') (hB : B < W.heap.size) (hb : B ≠ b) : BoxL W' B cs := fun i v hi => (ho.cell hB hb).trans (h i v hi)
theorem wk_new (w : World) : Wk (w.alloc (.cells #[.int .i64 0, .int .i64 0] 54)) w.heap.size 0 0 := heap_alloc_new w _

set_option maxRecDepth 100000 in
set_option maxHeartbeats 2000000 in
theorem rcheck_any (p : Pr) (w : World) (hin : p.In w) : Calls Tryz.prog 7 #[p.val] w fun e w' => e = .returned (fltV (checkZ p).1 (checkZ p).2.1 (checkZ p).2.2) ∧ Below w.heap.size w w' := by
  have HW : Hid (∀ w', Below w.heap.size w w' → Calls Tryz.prog 14 #[p.val] w' fun e w'' => e = .returned (.int .i64 (wholeZ p)) ∧ Below w'.heap.size w' w'') := fun w' hb => head_any p w' (hin.stay hb)
  have HE : Hid (checkZ p = if wholeZ p ≠ 0 then (wholeZ p, 0, 0) else chkFs p.funcs 0) := (rfl : checkZ p = _)
  have HZ : Hid (wholeZ p = 0 → ∀ f ∈ p.funcs, ssz f.body ≤ 4096) := fun h => whole_sz h
  obtain ⟨_, _, _, _, _, hl, hc, _, hrow, hsub⟩ := hin
  have HR : Hid (RowIn w p.fa 3 (List.map Fu.cells p.funcs)) := hrow
  have HS : Hid (∀ f ∈ p.funcs, f.In w) := hsub
  clear hrow hsub
  generalize checkZ p = res at HE ⊢
  generalize wholeZ p = wz at HW HE HZ
  have hb1 := ((Below.refl _ w).alloc (Nat.le_refl _) (.cells #[.slice p.wa p.widen.length p.wc, .slice p.fa p.funcs.length p.fc] 25)).alloc (by simp) (.cells #[.int .i64 0, .int .i64 0, .int .i64 0] 29)
  unfold Pr.val at HW ⊢
  go_enter Tryz.func7, Tryz.ntmps7
  go_wp2_with fail
  refine (HW.out _ hb1).mono ?_
  rintro e w1 ⟨rfl, hbw⟩
  have HRZ : Hid (ResZ w1 (w.heap.size + 1)) := by
    refine ResZ.stay ?_ hbw
    have := heap_alloc_new (w.alloc (.cells #[.slice p.wa p.widen.length p.wc, .slice p.fa p.funcs.length p.fc] 25)) (.cells #[.int .i64 0, .int .i64 0, .int .i64 0] 29)
    rwa [World.size_alloc] at this
  have HBX : Hid (BoxL w1 w.heap.size [.slice p.wa p.widen.length p.wc, .slice p.fa p.funcs.length p.fc]) := by
    obtain ⟨hX, _, _⟩ := two_cells hbw
    exact fun j v h => hX j v (by simpa using h)
  have hb2 : Below w.heap.size w w1 := hb1.trans (hbw.mono (by simp; omega))
  have hs2 : w.heap.size + 1 + 1 ≤ w1.heap.size := by have := hbw.size; simp at this; omega
  clear hbw hb1
  cases e1 : (wz != 0)
  · have e1' : wz = 0 := by simpa using e1
    have HF : Hid (res = chkFs p.funcs 0) := (by rw [HE.out]; simp [e1'] : res = chkFs p.funcs 0)
    have HZ' : Hid (∀ f ∈ p.funcs, ssz f.body ≤ 4096) := HZ.out e1'
    clear HZ HE HW e1'
    go_wp2_with fail
    go_loopw [4] (fun t17 wr => ∃ (j : Nat), j ≤ p.funcs.length ∧ t17 = .int .i64 j ∧ chkFs (p.funcs.drop j) j = res ∧ Below w.heap.size w wr ∧ ResZ wr (w.heap.size + 1) ∧ BoxL wr w.heap.size [.slice p.wa p.widen.length p.wc, .slice p.fa p.funcs.length p.fc]) (fun t17 _ => p.funcs.length - (intOf t17).toNat)
    case atStart => exact ⟨0, Nat.zero_le _, rfl, HF.out.symm, hb2, HRZ.out, HBX.out⟩
    case round =>
      obtain ⟨j, hj, rfl, hcnt, hb, hrz, hbx⟩ := hrel
      have HC : Hid (chkFs (p.funcs.drop j) j = res) := hcnt
      have HRZ2 : Hid (ResZ wr (w.heap.size + 1)) := hrz
      have HBX2 : Hid (BoxL wr w.heap.size [.slice p.wa p.widen.length p.wc, .slice p.fa p.funcs.length p.fc]) := hbx
      have hrl := hrz.lt
      have c1 := hbx 1 _ rfl
      clear hcnt hrz hbx HRZ HBX
      by_cases hlt : j < p.funcs.length
      · obtain ⟨g, o, hfa, d0, d1, d2⟩ := rowF_at (HR.out.below hb) hlt
        have HD2 : Hid (∀ W', Below w.heap.size w W' → W'.cell? ⟨g, o + j * 3 + 2, none⟩ = some (.slice p.funcs[j].ba p.funcs[j].body.length p.funcs[j].bc)) := fun W' hb' => by
          obtain ⟨b', o', hpa', g0, g1, g2⟩ := rowF_at HR.out hlt
          rw [hfa] at hpa'
          cases hpa'
          exact (hb'.cell (p := ⟨g, o + j * 3 + 2, none⟩) (lt_of_cell g2)).trans g2
        have HFA : Hid (p.fa = some ⟨g, o, none⟩) := hfa
        rw [hfa] at c1
        clear hfa
        have hli : (j : Int) < (p.funcs.length : Int) := by omega
        have HY : Hid (p.funcs[j].In w) := HS.out p.funcs[j] (List.getElem_mem hlt)
        have HSZ : Hid (ssz p.funcs[j].body ≤ 4096) := HZ'.out p.funcs[j] (List.getElem_mem hlt)
        have HD : Hid (chkFs (p.funcs.drop j) j = if (chkF p.funcs[j]).1 ≠ 0 then ((chkF p.funcs[j]).1, (j : Int), (chkF p.funcs[j]).2) else chkFs (p.funcs.drop (j + 1)) (j + 1)) := chkFs_drop hlt
        generalize p.funcs[j] = f at *
        have HFC : Hid (Calls Tryz.prog 15 #[f.val] wr fun e w' => e = .returned (.int .i64 (headZ f)) ∧ Below wr.heap.size wr w') := face_any f wr (HY.out.stay hb)
        unfold Fu.val at HFC
        go_wp2_with fail
        refine HFC.out.mono ?_
        rintro e w2 ⟨rfl, hbf⟩
        have hb3 : Below w.heap.size w w2 := hb.trans (hbf.mono hb.size)
        have HRZ3 : Hid (ResZ w2 (w.heap.size + 1)) := HRZ2.out.stay hbf
        have HBX3 : Hid (BoxL w2 w.heap.size [.slice p.wa p.widen.length p.wc, .slice p.fa p.funcs.length p.fc]) := HBX2.out.below hbf (by omega)
        have hrl3 := HRZ3.out.lt
        have HCF : Hid (chkF f = if headZ f ≠ 0 then (headZ f, 0) else chkSs f.body 1 0) := (rfl : chkF f = _)
        clear hbf c1 d0 d1 d2 hb HRZ2 HBX2 HFC hrl
        generalize headZ f = hz at HCF ⊢
        cases eh : (hz != 0)
        · have eh' : hz = 0 := by simpa using eh
          have HCG : Hid (chkF f = chkSs f.body 1 0) := (by rw [HCF.out, if_neg (by simpa using eh')] : chkF f = _)
          rw [HCG.out] at HD
          clear HCF HCG eh'
          have hb4 : Below w2.heap.size w2 (w2.alloc (.cells #[.int .i64 0, .int .i64 0] 54)) := (Below.refl _ w2).alloc (Nat.le_refl _) _
          have hwk := wk_new w2
          have hs4 : w2.heap.size < (w2.alloc (.cells #[.int .i64 0, .int .i64 0] 54)).heap.size := by simp
          go_upto_region 11 with fail
          generalize w2.alloc (.cells #[.int .i64 0, .int .i64 0] 54) = W4 at hb4 hwk hs4 ⊢
          have hb5 : Below w.heap.size w W4 := hb3.trans (hb4.mono hb3.size)
          have HBX4 : Hid (BoxL W4 w.heap.size [.slice p.wa p.widen.length p.wc, .slice p.fa p.funcs.length p.fc]) := HBX3.out.below hb4 (by omega)
          have HRZ4 : Hid (ResZ W4 (w.heap.size + 1)) := HRZ3.out.stay hb4
          have c1 := HBX4.out 1 _ rfl
          rw [HFA.out] at c1
          have d2 := HD2.out W4 hb5
          have HAL : Hid (Calls Tryz.prog 16 #[.pointer (some ⟨w2.heap.size, 0, none⟩), .slice f.ba f.body.length f.bc, .int .i64 1] W4 fun r w' => r = .returned (.tuple #[]) ∧ Wk w' w2.heap.size (chkSs f.body 1 0).2 (chkSs f.body 1 0).1 ∧ OnlyB w2.heap.size W4 w') := wall_any w w2.heap.size hb3.size f.body f.ba f.bc W4 HY.out.2.2.2.2.2.2 hb5 hwk (by have := HSZ.out; omega)
          generalize chkSs f.body 1 0 = q at HD HAL
          obtain ⟨p1, p2⟩ := q
          simp only at HD HAL
          generalize w2.heap.size = b at *
          go_wp2_with fail
          refine HAL.out.mono ?_
          rintro r w5 ⟨rfl, hw5, ho5⟩
          have hb6 : Below w.heap.size w w5 := OnlyB.on hb5 (by omega) ho5
          have HRZ5 : Hid (ResZ w5 (w.heap.size + 1)) := HRZ4.out.only ho5 (by omega)
          have HBX5 : Hid (BoxL w5 w.heap.size [.slice p.wa p.widen.length p.wc, .slice p.fa p.funcs.length p.fc]) := HBX4.out.only ho5 (by omega) (by omega)
          have k0 := hw5.cell0
          have k1 := hw5.cell1
          have r0 := HRZ5.out.cell (j := 0) (by omega)
          have r1 := HRZ5.out.cell (j := 1) (by omega)
          have r2 := HRZ5.out.cell (j := 2) (by omega)
          have q0 := HRZ5.out.frozen 0
          have q1 := HRZ5.out.frozen 1
          have q2 := HRZ5.out.frozen 2
          clear hw5 ho5 c1 d2 HAL hwk HBX4 HRZ4 HBX3 HRZ3 hb4
          cases ep : (p1 != 0)
          · have ep' : p1 = 0 := by simpa using ep
            have HV : Hid (chkFs (p.funcs.drop (j + 1)) (j + 1) = res) := (by rw [← HC.out, HD.out, if_neg (by simpa using ep')] : _ = res)
            clear ep' HC HD
            go_wp2_with fail
            go_roundw
            case rel => exact ⟨j + 1, by omega, by go_num, HV.out, hb6, HRZ5.out, HBX5.out⟩
            case measure => simp [intOf]; omega
          · have ep' : p1 ≠ 0 := by simpa using ep
            have HG : Hid (res = (p1, (j : Int), p2)) := (by rw [← HC.out, HD.out, if_pos ep'] : res = _)
            clear HC HD ep'
            go_wp2_with fail
            go_region
            go_wp2_with fail
            refine bodyPost_ret (v := fltV p1 j p2) (by simp [results, Tryz.results7, go_sem, r0, r1, r2]) rfl ⟨?_, (below_set3 hb6 (by omega) _ _ _).drew⟩
            rw [HG.out]
        · have eh' : hz ≠ 0 := by simpa using eh
          have HG : Hid (res = (hz, (j : Int), 0)) := (by rw [← HC.out, HD.out, HCF.out, if_pos eh']; simp [eh'] : res = _)
          have r0 := HRZ3.out.cell (j := 0) (by omega)
          have r1 := HRZ3.out.cell (j := 1) (by omega)
          have r2 := HRZ3.out.cell (j := 2) (by omega)
          have q0 := HRZ3.out.frozen 0
          have q1 := HRZ3.out.frozen 1
          have q2 := HRZ3.out.frozen 2
          clear HC HD HCF eh'
          go_wp2_with fail
          refine bodyPost_ret (v := fltV hz j 0) (by simp [results, Tryz.results7, go_sem, r0, r1, r2]) rfl ⟨?_, below_set3 hb3 (by omega) _ _ _⟩
          rw [HG.out]
      · have hli : ¬ (j : Int) < (p.funcs.length : Int) := by omega
        have r0 := HRZ2.out.cell (j := 0) (by omega)
        have r1 := HRZ2.out.cell (j := 1) (by omega)
        have r2 := HRZ2.out.cell (j := 2) (by omega)
        have q0 := HRZ2.out.frozen 0
        have q1 := HRZ2.out.frozen 1
        have q2 := HRZ2.out.frozen 2
        have HG : Hid (res = (0, 0, 0)) := (by rw [← HC.out, List.drop_eq_nil_of_le (by omega), chkFs] : res = _)
        clear HC
        go_wp2_with fail
        refine bodyPost_ret (v := fltV 0 0 0) (by simp [results, Tryz.results7, go_sem, r0, r1, r2]) rfl ⟨?_, below_set3 hb (by omega) _ _ _⟩
        rw [HG.out]
  · have e1' : wz ≠ 0 := by simpa using e1
    have HG : Hid (res = (wz, 0, 0)) := (by rw [HE.out, if_pos e1'] : res = _)
    have r0 := HRZ.out.cell (j := 0) (by omega)
    have r1 := HRZ.out.cell (j := 1) (by omega)
    have r2 := HRZ.out.cell (j := 2) (by omega)
    have q0 := HRZ.out.frozen 0
    have q1 := HRZ.out.frozen 1
    have q2 := HRZ.out.frozen 2
    go_wp2_with fail
    refine bodyPost_ret (v := fltV wz 0 0) (by simp [results, Tryz.results7, go_sem, r0, r1, r2]) rfl ⟨?_, below_set3 hb2 (by omega) _ _ _⟩
    rw [HG.out]
end Go.Proofs.YtbpemackmadhgaaGreatDoor

/- The document's own Print, of a program that is right. -/
namespace Go.Proofs.YtbpemackmadhgaaGreatDoor
open Go.RowKit Go.Sort

/-- Where the document's Print stands: the program's box, its answer's place, not written yet. -/
def PrQ (w : World) (p : Pr) (wr : World) : Prop := Below w.heap.size w wr ∧ ResZ wr (w.heap.size + 1) ∧ BoxL wr w.heap.size [.slice p.wa p.widen.length p.wc, .slice p.fa p.funcs.length p.fc]
theorem PrQ.stay {w : World} {p : Pr} {A B : World} (h : PrQ w p A) (hb : Below A.heap.size A B) : PrQ w p B :=
  ⟨h.1.trans (hb.mono h.1.size), h.2.1.stay hb, h.2.2.below hb (by have := h.2.1.lt; omega)⟩
/-- The thresholds' text, so far. -/
def wT (l : List Int) (j : Nat) : ByteArray := elT j (tb []) (tb ([119, 105, 100, 101, 110, 32] ++ comB ((l.map Lib.itoa).take j)))
theorem wT_next (l : List Int) (j : Nat) (h : j < l.length) : wT l (j + 1) = elT j (tb [119, 105, 100, 101, 110, 32]) (wT l j ++ tb [44, 32]) ++ tb (Lib.itoa l[j]) := by
  unfold wT
  have e : elT (j + 1) (tb []) (tb ([119, 105, 100, 101, 110, 32] ++ comB ((l.map Lib.itoa).take (j + 1)))) = tb ([119, 105, 100, 101, 110, 32] ++ comB ((l.map Lib.itoa).take (j + 1))) := by unfold elT; rw [if_neg (by omega)]
  rw [e, ← tb_app, comB_at (l.map Lib.itoa) j (by simpa using h), List.getElem_map]
  unfold elT
  split
  · rfl
  · rw [← tb_app]; simp only [ByteArray.append_assoc]
theorem wT_end (l : List Int) : (if l.length = 0 then wT l l.length else wT l l.length ++ tb [59, 10]) = tb (txW l) := by
  unfold wT txW elT
  split
  · rfl
  · rw [tb_app, List.take_of_length_le (by simp), show ∀ t, lineB 0 t = t ++ [10] from fun t => by simp [lineB], List.append_assoc _ [59] [10]]
    rfl
theorem wT_size {l : List Int} (h16 : l.length ≤ 16) (h64 : ∀ z ∈ l, I64 z) (j : Nat) : (wT l j).size ≤ 1000 := by
  unfold wT elT
  split
  · rw [tb_size]; simp
  · rw [tb_size, List.length_append]
    have a3 := com_len (l.map Lib.itoa) 21 (fun t ht => by
      obtain ⟨z, hz, rfl⟩ := List.mem_map.1 ht
      exact Lib.itoa_length_le z (h64 z hz).1 (h64 z hz).2)
    have a5 := comB_le (l.map Lib.itoa) j
    rw [List.length_map] at a3
    have a4 : l.length * (21 + 2) ≤ 16 * 23 := Nat.mul_le_mul h16 (Nat.le_refl _)
    simp only [List.length_cons, List.length_nil]
    omega

set_option maxRecDepth 100000 in
set_option maxHeartbeats 2000000 in
theorem rprint_bad (p : Pr) (w : World) (hin : p.In w) (n0 n1 n2 : Int) (hc : checkZ p = (n0, n1, n2)) (h : n0 ≠ 0) : Calls Tryz.prog 9 #[p.val] w fun e w' => e = .returned (.tuple #[.string ⟨#[]⟩, fltV n0 n1 n2]) ∧ Below w.heap.size w w' := by
  have HC : Hid (∀ w', Below w.heap.size w w' → Calls Tryz.prog 7 #[p.val] w' fun e w'' => e = .returned (fltV n0 n1 n2) ∧ Below w'.heap.size w' w'') := fun w' hb => by
    have := rcheck_any p w' (hin.stay hb); rw [hc] at this; exact this
  have hb1 := ((Below.refl _ w).alloc (Nat.le_refl _) (.cells #[.slice p.wa p.widen.length p.wc, .slice p.fa p.funcs.length p.fc] 25)).alloc (by simp) (.cells #[.int .i64 0, .int .i64 0, .int .i64 0] 29)
  have hne : (n0 != 0) = true := by simpa using h
  clear hin hc h
  unfold Pr.val at HC ⊢
  go_enter Tryz.func9, Tryz.ntmps9
  go_wp2_with fail
  refine (HC.out _ hb1).mono ?_
  rintro e w1 ⟨rfl, hbw⟩
  have HRZ : Hid (ResZ w1 (w.heap.size + 1)) := by
    refine ResZ.stay ?_ hbw
    have := heap_alloc_new (w.alloc (.cells #[.slice p.wa p.widen.length p.wc, .slice p.fa p.funcs.length p.fc] 25)) (.cells #[.int .i64 0, .int .i64 0, .int .i64 0] 29)
    rwa [World.size_alloc] at this
  have hb2 : Below w.heap.size w w1 := hb1.trans (hbw.mono (by simp; omega))
  have hb3 : Below w1.heap.size w1 (w1.alloc (.cells #[.int .i64 n0, .int .i64 n1, .int .i64 n2] 29)) := (Below.refl _ w1).alloc (Nat.le_refl _) _
  have HRY : Hid (ResZ (w1.alloc (.cells #[.int .i64 n0, .int .i64 n1, .int .i64 n2] 29)) (w.heap.size + 1)) := HRZ.out.stay hb3
  have hb4 : Below w.heap.size w (w1.alloc (.cells #[.int .i64 n0, .int .i64 n1, .int .i64 n2] 29)) := hb2.trans (hb3.mono hb2.size)
  have hbx := boxL_new w1 #[.int .i64 n0, .int .i64 n1, .int .i64 n2] 29
  have hlt := HRZ.out.lt
  clear hbw hb1 hb3 HRZ
  go_upto_region 2 with fail
  generalize w1.alloc (.cells #[.int .i64 n0, .int .i64 n1, .int .i64 n2] 29) = W2 at *
  have f0 := hbx 0 _ rfl
  have f1 := hbx 1 _ rfl
  have f2 := hbx 2 _ rfl
  have r0 := HRY.out.cell (j := 0) (by omega)
  have r1 := HRY.out.cell (j := 1) (by omega)
  have r2 := HRY.out.cell (j := 2) (by omega)
  have q0 := HRY.out.frozen 0
  have q1 := HRY.out.frozen 1
  have q2 := HRY.out.frozen 2
  clear hbx
  go_wp2_with fail
  go_region
  go_wp2_with fail
  refine bodyPost_ret (v := .tuple #[.string ⟨#[]⟩, fltV n0 n1 n2]) (by simp [results, Tryz.results9, go_sem, r0, r1, r2]) rfl ⟨rfl, (below_set3 hb4 (by omega) _ _ _).drew⟩
end Go.Proofs.YtbpemackmadhgaaGreatDoor

/- The document's own Print, of a program that is right: its text, or that it is too long. -/
namespace Go.Proofs.YtbpemackmadhgaaGreatDoor
open Go.RowKit Go.Sort

/-- What Print answers, as the machine holds it. -/
def prV (p : Pr) : Value := .tuple #[.string (tb (prT p)), fltV (prF p).1 (prF p).2.1 (prF p).2.2]
theorem prV_short {p : Pr} (hc : (checkZ p).1 = 0) (h : (txP p).length ≤ 65536) : prV p = .tuple #[.string (tb (txP p)), fltV 0 0 0] := by
  unfold prV prT prF; rw [if_pos hc, if_pos hc, if_pos h, if_pos h]
theorem prV_long {p : Pr} (hc : (checkZ p).1 = 0) (h : ¬ (txP p).length ≤ 65536) : prV p = .tuple #[.string ⟨#[]⟩, fltV 4 0 0] := by
  unfold prV prT prF; rw [if_pos hc, if_pos hc, if_neg h, if_neg h]
theorem prV_bad {p : Pr} (hc : (checkZ p).1 ≠ 0) : prV p = .tuple #[.string ⟨#[]⟩, fltV (checkZ p).1 (checkZ p).2.1 (checkZ p).2.2] := by
  unfold prV prT prF; rw [if_neg hc, if_neg hc]
set_option maxRecDepth 100000 in
set_option maxHeartbeats 4000000 in
theorem rprint_ok (p : Pr) (w : World) (hin : p.In w) (hc : checkZ p = (0, 0, 0)) : Calls Tryz.prog 9 #[p.val] w fun e w' => e = .returned (prV p) ∧ Below w.heap.size w w' := by
  have hc0 : (checkZ p).1 = 0 := by rw [hc]
  have hlen := txP_len hin hc0
  obtain ⟨_, h1, h2⟩ := check_ok hc0
  obtain ⟨a1, a2, a3⟩ := whole_ok h1
  have HC : Hid (∀ w', Below w.heap.size w w' → Calls Tryz.prog 7 #[p.val] w' fun e w'' => e = .returned (fltV 0 0 0) ∧ Below w'.heap.size w' w'') := fun w' hb => by
    have := rcheck_any p w' (hin.stay hb); rw [hc] at this; exact this
  have HWI : Hid (∀ z ∈ p.widen, I64 z) := hin.2.2.2.2.1
  have HNM : Hid (∀ z ∈ p.widen, ∀ w, Calls Tryz.prog 20 #[.int .i64 z] w fun e w' => e = .returned (.string (tb (Lib.itoa z))) ∧ Below w.heap.size w w') := fun z hz w => rnum_any z w (HWI.out z hz)
  have HNL : Hid (∀ z ∈ p.widen, (tb (Lib.itoa z)).size ≤ 21) := fun z hz => by rw [tb_size]; exact Lib.itoa_length_le _ (HWI.out z hz).1 (HWI.out z hz).2
  have HWS : Hid (∀ j, (wT p.widen j).size ≤ 1000) := fun j => wT_size a1 HWI.out j
  have HRW : Hid (RowIn w p.wa 1 (p.widen.map fun z => [.int .i64 z])) := hin.2.2.2.1
  have hF := hin.haveF
  have HRF : Hid (RowIn w p.fa 3 (List.map Fu.cells p.funcs)) := hin.2.2.2.2.2.2.2.2.1
  have HFT : Hid (∀ f ∈ p.funcs, ∀ w', Below w.heap.size w w' → Calls Tryz.prog 22 #[f.val] w' fun e w'' => e = .returned (.string (tb ([102, 110, 32] ++ f.name.data.toList ++ [40] ++ comB (f.params.map paB) ++ [41, 32, 123]))) ∧ Below w'.heap.size w' w'') := fun f hf w' hb => by
    obtain ⟨c1, c2, c3, c4⟩ := chkF_ok (h2 f hf)
    have hfi := hF.2 f hf
    have a3 := com_len (f.params.map paB) 100 (fun t ht => by
      obtain ⟨q, hq, rfl⟩ := List.mem_map.1 ht
      exact pa_len (hfi.2.2.2.2.2.1 q hq) (c3 q hq))
    rw [List.length_map] at a3
    have a4 : f.params.length * (100 + 2) ≤ 8 * 102 := Nat.mul_le_mul c2 (Nat.le_refl _)
    exact rtop_any f w' (hfi.stay hb) (nameZ_len c1) (fun q hq => nameZ_len (c3 q hq)) c2 (by omega)
  have HFB : Hid (∀ f ∈ p.funcs, ∀ w', Below w.heap.size w w' → Calls Tryz.prog 23 #[.slice f.ba f.body.length f.bc, .int .i64 1] w' fun e w'' => e = .returned (.string (tb (txSs f.body 1))) ∧ Below w'.heap.size w' w'') := fun f hf w' hb => by
    obtain ⟨c1, c2, c3, c4⟩ := chkF_ok (h2 f hf)
    have hs := sum_mem hf
    exact rbody_any f.body f.ba f.bc 0 w' ((hF.2 f hf).stay hb).2.2.2.2.2.2 c4 (by omega)
  have HLN : Hid (∀ (T : ByteArray) w, T.size ≤ 1000000000 → Calls Tryz.prog 21 #[.string T, .int .i64 0] w fun e w' => e = .returned (.string (lnT 0 T)) ∧ Below w.heap.size w w') := fun T w h => rlineT T 0 w (by omega) h
  have HTX : Hid (∀ j, (tb (txW p.widen ++ txFs (p.funcs.take j))).size ≤ 100000000) := fun j => by
    rw [tb_size, List.length_append]; have := txFs_le p.funcs j; unfold txP at hlen; rw [List.length_append] at hlen; omega
  have HTN : Hid (∀ j (h : j < p.funcs.length), tb (txW p.widen ++ txFs (p.funcs.take (j + 1))) = tb (txW p.widen ++ txFs (p.funcs.take j)) ++ (lnT 0 (tb ([102, 110, 32] ++ p.funcs[j].name.data.toList ++ [40] ++ comB (p.funcs[j].params.map paB) ++ [41, 32, 123])) ++ tb (txSs p.funcs[j].body 1) ++ lnT 0 (tb [125]))) := fun j h => by
    rw [txFs_take p.funcs j h, lnT_tb, lnT_tb, tb_app, tb_app, tb_app, List.append_assoc]; rfl
  have hjw := hin.1
  have hjw2 := hin.2.1
  have hjf := hin.2.2.2.2.2.1
  have hjf2 := hin.2.2.2.2.2.2.1
  have hb1 := ((Below.refl _ w).alloc (Nat.le_refl _) (.cells #[.slice p.wa p.widen.length p.wc, .slice p.fa p.funcs.length p.fc] 25)).alloc (by simp) (.cells #[.int .i64 0, .int .i64 0, .int .i64 0] 29)
  have HC0 : Hid ((checkZ p).1 = 0) := hc0
  clear hin hc hc0 h1 h2 a3 hF
  unfold Pr.val at HC ⊢
  go_enter Tryz.func9, Tryz.ntmps9
  go_wp2_with fail
  refine (HC.out _ hb1).mono ?_
  rintro e w1 ⟨rfl, hbw⟩
  have HQ1 : Hid (PrQ w p w1) := by
    refine ⟨hb1.trans (hbw.mono (by simp; omega)), ResZ.stay ?_ hbw, ?_⟩
    · have := heap_alloc_new (w.alloc (.cells #[.slice p.wa p.widen.length p.wc, .slice p.fa p.funcs.length p.fc] 25)) (.cells #[.int .i64 0, .int .i64 0, .int .i64 0] 29)
      rwa [World.size_alloc] at this
    · obtain ⟨hX, _, _⟩ := two_cells hbw
      exact fun j v h => hX j v (by simpa using h)
  have HQ2 : Hid (PrQ w p (w1.alloc (.cells #[.int .i64 0, .int .i64 0, .int .i64 0] 29))) := HQ1.out.stay ((Below.refl _ w1).alloc (Nat.le_refl _) _)
  clear hbw hb1 HC
  go_upto_region 4 with fail
  generalize w1.alloc (.cells #[.int .i64 0, .int .i64 0, .int .i64 0] 29) = W2 at *
  clear HQ1
  go_wp2_with fail
  go_loopw [5, 6] (fun t5 t6 wr => ∃ (j : Nat), j ≤ p.widen.length ∧ t5 = .string (wT p.widen j) ∧ t6 = .int .i64 j ∧ PrQ w p wr) (fun _ t6 _ => p.widen.length - (intOf t6).toNat)
  case atStart => exact ⟨0, Nat.zero_le _, rfl, rfl, HQ2.out⟩
  case round =>
    obtain ⟨j, hj, rfl, rfl, hq⟩ := hrel
    have HQ : Hid (PrQ w p wr) := hq
    have c0 := hq.2.2 0 _ rfl
    have c1 := hq.2.2 1 _ rfl
    have hsz := HWS.out j
    clear hq
    by_cases hlt : j < p.widen.length
    · have hli : (j : Int) < (p.widen.length : Int) := by omega
      obtain ⟨g, o, hwa, d0⟩ := rowW_at (HRW.out.below HQ.out.1) hlt
      rw [hwa] at c0
      clear hwa
      have hm := List.getElem_mem hlt
      have KN : Hid (∀ w, Calls Tryz.prog 20 #[.int .i64 p.widen[j]] w fun e w' => e = .returned (.string (tb (Lib.itoa p.widen[j]))) ∧ Below w.heap.size w w') := HNM.out _ hm
      have zN := HNL.out _ hm
      have HN : Hid (wT p.widen (j + 1) = elT j (tb [119, 105, 100, 101, 110, 32]) (wT p.widen j ++ tb [44, 32]) ++ tb (Lib.itoa p.widen[j])) := wT_next p.widen j hlt
      generalize p.widen[j] = z at *
      generalize tb (Lib.itoa z) = TN at *
      generalize wT p.widen j = R at *
      clear hm
      by_cases hj0 : j = 0
      · have HV : Hid (wT p.widen (j + 1) = tb [119, 105, 100, 101, 110, 32] ++ TN) := by show _ = _; rw [HN.out]; unfold elT; rw [if_pos hj0]
        have hz0 : ((j : Int) == 0) = true := by simpa using hj0
        clear hj0 HN
        go_wp2_with fail
        refine (KN.out _).mono ?_
        rintro r w3 ⟨rfl, hb3⟩
        have HQ3 : Hid (PrQ w p w3) := HQ.out.stay hb3
        clear hb3 c0 c1 d0
        go_wp2_with fail
        go_roundw
        case rel => exact ⟨j + 1, by omega, congrArg Value.string HV.out.symm, by go_num, HQ3.out⟩
        case measure => simp [intOf]; omega
      · have HV : Hid (wT p.widen (j + 1) = R ++ tb [44, 32] ++ TN) := by show _ = _; rw [HN.out]; unfold elT; rw [if_neg hj0]
        have hz0 : ((j : Int) == 0) = false := beq_no (by omega)
        clear hj0 HN
        go_wp2_with fail
        refine (KN.out _).mono ?_
        rintro r w3 ⟨rfl, hb3⟩
        have HQ3 : Hid (PrQ w p w3) := HQ.out.stay hb3
        clear hb3 c0 c1 d0
        go_wp2_with fail
        go_roundw
        case rel => exact ⟨j + 1, by omega, congrArg Value.string HV.out.symm, by go_num, HQ3.out⟩
        case measure => simp [intOf]; omega
    · have hli : ¬ (j : Int) < (p.widen.length : Int) := by omega
      obtain rfl : j = p.widen.length := by omega
      have HWE := wT_end p.widen
      have HWZ : Hid (p.widen.length = 0 → wT p.widen p.widen.length = tb (txW p.widen)) := fun h => by rw [← HWE, if_pos h]
      have HWP : Hid (p.widen.length ≠ 0 → wT p.widen p.widen.length ++ tb [59, 10] = tb (txW p.widen)) := fun h => by rw [← HWE, if_neg h]
      clear HWE
      generalize wT p.widen p.widen.length = R at *
      go_upto_if 36 with fail
      go_cut [5, 36] from 37 to 38 (fun t5 _ wx => t5 = .string (tb (txW p.widen ++ txFs (p.funcs.take 0))) ∧ PrQ w p wx)
      case first =>
        by_cases h0 : p.widen.length = 0
        · have HV : Hid (R = tb (txW p.widen ++ txFs (p.funcs.take 0))) := by show _ = _; rw [HWZ.out h0]; simp [txFs]
          have hn0 : ¬ (0 : Int) < (p.widen.length : Int) := by omega
          clear h0
          go_wp2_with fail
          go_meet
          case rel => exact ⟨congrArg Value.string HV.out, HQ.out⟩
        · have HV : Hid (R ++ tb [59, 10] = tb (txW p.widen ++ txFs (p.funcs.take 0))) := by show _ = _; rw [HWP.out h0]; simp [txFs]
          have hn0 : (0 : Int) < (p.widen.length : Int) := by omega
          clear h0
          go_wp2_with fail
          go_meet
          case rel => exact ⟨congrArg Value.string HV.out, HQ.out⟩
      case rest =>
        obtain ⟨rfl, hq⟩ := hcut
        have HQ5 : Hid (PrQ w p wc) := hq
        clear hq HQ HQ2 HWZ HWP c0 c1 hsz hlt hli
        go_wp2_with fail
        go_loopw [5, 7] (fun t5 t7 wr => ∃ (j : Nat), j ≤ p.funcs.length ∧ t5 = .string (tb (txW p.widen ++ txFs (p.funcs.take j))) ∧ t7 = .int .i64 j ∧ PrQ w p wr) (fun _ t7 _ => p.funcs.length - (intOf t7).toNat)
        case atStart => exact ⟨0, Nat.zero_le _, rfl, rfl, HQ5.out⟩
        case round =>
          obtain ⟨j, hj, rfl, rfl, hq⟩ := hrel
          have HQ : Hid (PrQ w p wr) := hq
          have c1 := hq.2.2 1 _ rfl
          have hsz := HTX.out j
          clear hq
          by_cases hlt : j < p.funcs.length
          · have hli : (j : Int) < (p.funcs.length : Int) := by omega
            obtain ⟨g, o, hfa, d0, d1, d2⟩ := rowF_at (HRF.out.below HQ.out.1) hlt
            rw [hfa] at c1
            clear hfa
            have hm := List.getElem_mem hlt
            have HN := HTN.out j hlt
            have hsn := HTX.out (j + 1)
            have hzz := congrArg ByteArray.size HN
            rw [ByteArray.size_append, ByteArray.size_append, ByteArray.size_append, lnT_size, lnT_size] at hzz
            have KT := HFT.out _ hm
            have KB := HFB.out _ hm
            generalize p.funcs[j] = f at *
            generalize tb ([102, 110, 32] ++ f.name.data.toList ++ [40] ++ comB (f.params.map paB) ++ [41, 32, 123]) = TT at *
            generalize tb (txSs f.body 1) = TB at *
            have zT : TT.size ≤ 100000000 := by omega
            have zB : TB.size ≤ 100000000 := by omega
            have HKT : Hid (∀ w', Below w.heap.size w w' → Calls Tryz.prog 22 #[f.val] w' fun e w'' => e = .returned (.string TT) ∧ Below w'.heap.size w' w'') := KT
            have HKB : Hid (∀ w', Below w.heap.size w w' → Calls Tryz.prog 23 #[.slice f.ba f.body.length f.bc, .int .i64 1] w' fun e w'' => e = .returned (.string TB) ∧ Below w'.heap.size w' w'') := KB
            unfold Fu.val at HKT
            have L0 : Hid (∀ w, Calls Tryz.prog 21 #[.string TT, .int .i64 0] w fun e w' => e = .returned (.string (lnT 0 TT)) ∧ Below w.heap.size w w') := fun w => HLN.out TT w (by omega)
            have L1 : Hid (∀ w, Calls Tryz.prog 21 #[.string (tb [125]), .int .i64 0] w fun e w' => e = .returned (.string (lnT 0 (tb [125]))) ∧ Below w.heap.size w w') := fun w => HLN.out _ w (by rw [tb_size]; simp)
            have z0 : (lnT 0 TT).size ≤ 200000000 := by rw [lnT_size]; omega
            have z1 : (lnT 0 (tb [125])).size ≤ 1000 := by rw [lnT_size, tb_size]; simp
            have HNV : Hid (tb (txW p.widen ++ txFs (p.funcs.take (j + 1))) = tb (txW p.widen ++ txFs (p.funcs.take j)) ++ (lnT 0 TT ++ TB ++ lnT 0 (tb [125]))) := HN
            clear HN KT KB hzz hsn hm
            generalize lnT 0 TT = Y0 at *
            generalize lnT 0 (tb [125]) = Y1 at *
            generalize tb (txW p.widen ++ txFs (p.funcs.take j)) = S at *
            have x1 := cell_regrown c1
            have q0 := cell_regrown d0
            have q1 := cell_regrown d1
            have q2 := cell_regrown d2
            have HB : Hid (∀ d os, PrQ w p (grow (redrawn wr d) os)) := fun d os => HQ.out.stay (below_regrown wr d os)
            have HB1 : Hid (∀ d os, Below w.heap.size w (grow (redrawn wr d) os)) := fun d os => (HB.out d os).1
            go_wp2_with fail
            clear c1 d0 d1 d2
            refine wp_region_quiet_below (by kernel_rfl) (by kernel_rfl) ?_
            repeat (go_big_quiet_step (first | (go_at_call 22; with_reducible exact Calls.regrown_of (HKT.out _ (HB1.out _ _))) | (go_at_call 23; with_reducible exact Calls.regrown_of (HKB.out _ (HB1.out _ _))) | (go_at_call 21; with_reducible exact Calls.regrown_of (L0.out _)) | (go_at_call 21; with_reducible exact Calls.regrown_of (L1.out _))))
            refine wpQuiet_nil ?_
            intro _ hw'
            obtain ⟨⟨dq, osq⟩, hw''⟩ := hw'
            subst hw''
            clear x1 q0 q1 q2
            have HBZ : Hid (PrQ w p (grow (redrawn wr dq) osq)) := HB.out dq osq
            go_wp2_with fail
            go_roundw
            case rel => exact ⟨j + 1, by omega, congrArg Value.string HNV.out.symm, by go_num, HBZ.out⟩
            case measure => simp [intOf]; omega
          · have hli : ¬ (j : Int) < (p.funcs.length : Int) := by omega
            have HF : Hid (tb (txW p.widen ++ txFs (p.funcs.take j)) = tb (txP p)) := by show _ = _; rw [List.take_of_length_le (by omega)]; rfl
            have HSZ : Hid ((tb (txW p.widen ++ txFs (p.funcs.take j))).size = (txP p).length) := by show _ = _; rw [HF.out, tb_size]
            generalize tb (txW p.widen ++ txFs (p.funcs.take j)) = S at *
            have r0 := HQ.out.2.1.cell (j := 0) (by omega)
            have r1 := HQ.out.2.1.cell (j := 1) (by omega)
            have r2 := HQ.out.2.1.cell (j := 2) (by omega)
            have q0 := HQ.out.2.1.frozen 0
            have q1 := HQ.out.2.1.frozen 1
            have q2 := HQ.out.2.1.frozen 2
            by_cases hL : (txP p).length ≤ 65536
            · have HV : Hid (Ending.returned (.tuple #[.string S, fltV 0 0 0]) = Ending.returned (prV p)) := by
                show _ = _; rw [prV_short HC0.out hL, HF.out]
              have hgt : ¬ (65536 : Int) < (S.size : Int) := by have := HSZ.out; omega
              clear hL
              go_wp2_with fail
              exact bodyPost_ret (v := .tuple #[.string S, fltV 0 0 0]) (by simp [results, Tryz.results9, go_sem, r0, r1, r2]) rfl ⟨HV.out, below_set3 HQ.out.1 (by omega) _ _ _⟩
            · have HV : Hid (Ending.returned (.tuple #[.string ⟨#[]⟩, fltV 4 0 0]) = Ending.returned (prV p)) := by
                show _ = _; rw [prV_long HC0.out hL]
              have hgt : (65536 : Int) < (S.size : Int) := by have := HSZ.out; omega
              clear hL
              go_wp2_with fail
              exact bodyPost_ret (v := .tuple #[.string ⟨#[]⟩, fltV 4 0 0]) (by simp [results, Tryz.results9, go_sem, r0, r1, r2]) rfl ⟨HV.out, below_set3 HQ.out.1 (by omega) _ _ _⟩
end Go.Proofs.YtbpemackmadhgaaGreatDoor

/- The two programs of the statements' first question, and what the plain functions say of them. -/
namespace Go.Proofs.YtbpemackmadhgaaGreatDoor
open Go.RowKit Go.Sort

def zEx : Ex := .mk 0 0 ⟨#[]⟩ none 0 []
def aX : Ex := .mk 2 0 ⟨#[110]⟩ none 0 []
def aNeg (B : Nat) : Ex := .mk 5 0 ⟨#[]⟩ (some ⟨B + 1 + 1 + 1, 0, none⟩) 1 [aX]
def aRet (B : Nat) : St := .mk 9 ⟨#[]⟩ 0 (aNeg B) zEx none 0 [] none 0 [] none 0 []
def aLet : St := .mk 1 ⟨#[]⟩ 1 zEx zEx none 0 [] none 0 [] none 0 []
def aPa : Pa := ⟨⟨#[110]⟩, 0, 10⟩
def aFn (B : Nat) (l : List St) : Fu := ⟨⟨#[102]⟩, some ⟨B + 1 + 1, 0, none⟩, 1, [aPa], some ⟨B + 1 + 1 + 1 + 1, 0, none⟩, 2, l⟩
def aPr (B g : Nat) (l : List St) : Pr := ⟨some ⟨B + 1, 0, none⟩, 2, [-5, 0], some ⟨g, 0, none⟩, 1, [aFn B l]⟩
theorem zE_z : zeroE zEx = true := by simp [zeroE, zEx, Ex.kind, Ex.n, Ex.name, Ex.args]
theorem zE_neg (B : Nat) : zeroE (aNeg B) = false := by simp [zeroE, aNeg, Ex.kind]
theorem us_z : usesE zEx = 0 := by simp [usesE, zEx, Ex.name, Ex.n]; decide
theorem us_x : usesE aX = 1 := by simp [usesE, aX, Ex.name, Ex.n]; decide
theorem us_neg (B : Nat) : usesE (aNeg B) = 0 := by simp [usesE, aNeg, Ex.name, Ex.n]; decide
theorem us_ret (B : Nat) : usesS (aRet B) = 4 := by
  simp [usesS, aRet, St.name, St.n, St.a, St.b, St.body, St.els, St.cases, zE_z, zE_neg]; decide
theorem us_let : usesS aLet = 2 := by
  simp [usesS, aLet, St.name, St.n, St.a, St.b, St.body, St.els, St.cases, zE_z]; decide
theorem nm_n : nameZ ⟨#[110]⟩ = true := by decide
theorem nm_f : nameZ ⟨#[102]⟩ = true := by decide
theorem self_x : selfE aX = 0 := by unfold selfE; rw [us_x]; decide
theorem self_neg (B : Nat) : selfE (aNeg B) = 0 := by
  unfold selfE; rw [us_neg]
  show (if isE 5 = false then (5 : Int) else if (bits .andNot .i64 0 (formE 5).fields != 0) = true then 5 else if ((formE 5).args != -1 && (((1 : Nat) : Int) != (formE 5).args)) = true then 5 else if (bits .and .i64 (formE 5).fields 1 != 0 && !nameZ ⟨#[]⟩) = true then 8 else if (0 : Int) < 0 then 1 else 0) = 0
  decide
theorem chk_x (lv : Int) (h : lv ≤ 32) : chkE aX lv = 0 := by
  rw [chkE_eq, if_neg (by omega), self_x]; rfl
theorem chk_neg (B : Nat) (lv : Int) (h : lv ≤ 31) : chkE (aNeg B) lv = 0 := by
  rw [chkE_eq, if_neg (by omega), self_neg, if_neg (by simp)]
  show chkL [aX] (lv + 1) = 0
  rw [chkL, chk_x _ (by omega)]; rfl
theorem selfS_ret (B : Nat) : selfS (aRet B) = 0 := by
  unfold selfS; rw [us_ret]
  show (if isS 9 = false then (5 : Int) else if (bits .andNot .i64 4 (fldS 9) != 0) = true then 5 else if (bits .and .i64 (fldS 9) 1 != 0 && !nameZ ⟨#[]⟩) = true then 8 else if (decide ((0 : Int) < 0) || leastC []) = true then 1 else if ((9 : Int) == 10 && (5 : Int) != 4) = true then 5 else 0) = 0
  decide
theorem selfS_let : selfS aLet = 5 := by unfold selfS; rw [us_let]; decide
theorem chkS_ret (B : Nat) : chkS (aRet B) 1 = 0 := by
  unfold chkS; rw [if_neg (by omega), selfS_ret, if_neg (by simp)]
  show (if _ then _ else _) = _
  rw [show (aRet B).a = aNeg B from rfl, chk_neg B _ (by omega)]
  show (if (bits .and .i64 (fldS 9) 4 != 0 && (0 : Int) != 0) = true then (0 : Int) else if (bits .and .i64 (fldS 9) 8 != 0) = true then chkE zEx 2 else 0) = 0
  rw [if_neg (by decide), if_neg (by decide)]
theorem chkS_let : chkS aLet 1 = 5 := by unfold chkS; rw [if_neg (by omega), selfS_let]; rfl
theorem chkT_ret (B : Nat) (at_ : Int) : chkT (aRet B) 1 at_ = (0, at_ + 1) := by
  rw [chkT_eq, chkS_ret, if_neg (by simp)]; rfl
theorem chkT_let (at_ : Int) : chkT aLet 1 at_ = (5, at_ + 1) := by
  rw [chkT_eq, chkS_let]; rfl
theorem chkSs_q (B : Nat) : chkSs [aRet B] 1 0 = (0, 1) := by
  rw [chkSs, chkT_ret]; rfl
theorem chkSs_p (B : Nat) : chkSs [aRet B, aLet] 1 0 = (5, 2) := by
  rw [chkSs, chkT_ret, thenZ, if_neg (by simp), chkSs, chkT_let]; rfl
theorem head_a (B : Nat) (l : List St) : headZ (aFn B l) = 0 := by
  unfold headZ; rw [show (aFn B l).name = ⟨#[102]⟩ from rfl, nm_f]
  show (if _ then _ else _) = _
  rw [if_neg (by simp), if_neg (by show ¬ 8 < 1; omega)]
  show parsZ [aPa] = 0
  rw [parsZ, show aPa.name = ⟨#[110]⟩ from rfl, nm_n]; decide
theorem cnt_ret (B : Nat) : cntS (aRet B) 0 = 3 := by
  rw [cntS_eq]
  show cntB _ (cntZ zEx (cntZ (aNeg B) (0 + (1 + 0)))) = 3
  rw [cntZ, cntZ, zE_neg, zE_z]; rfl
theorem cnt_let : cntS aLet 3 = 4 := by
  rw [cntS_eq]
  show cntB _ (cntZ zEx (cntZ zEx (3 + (1 + 0)))) = 4
  rw [cntZ, cntZ, zE_z]; rfl
theorem nodes_q (B g : Nat) : nodesZ (aPr B g [aRet B]) = 3 := by
  unfold nodesZ
  show min (cntF [aFn B [aRet B]] 0) 4097 = 3
  rw [cntF, cntF]
  show min (cntSs [aRet B] 0) 4097 = 3
  rw [cntSs, if_neg (by omega), cnt_ret]; rfl
theorem nodes_p (B g : Nat) : nodesZ (aPr B g [aRet B, aLet]) = 4 := by
  unfold nodesZ
  show min (cntF [aFn B [aRet B, aLet]] 0) 4097 = 4
  rw [cntF, cntF]
  show min (cntSs [aRet B, aLet] 0) 4097 = 4
  rw [cntSs, if_neg (by omega), cnt_ret, cntSs, if_neg (by omega), cnt_let]; rfl
theorem chkF_q (B : Nat) : chkF (aFn B [aRet B]) = (0, 1) := by unfold chkF; rw [head_a, if_neg (by simp)]; exact chkSs_q B
theorem chkF_p (B : Nat) : chkF (aFn B [aRet B, aLet]) = (5, 2) := by unfold chkF; rw [head_a, if_neg (by simp)]; exact chkSs_p B
theorem check_q (B g : Nat) : checkZ (aPr B g [aRet B]) = (0, 0, 0) := by
  have hw : wholeZ (aPr B g [aRet B]) = 0 := by unfold wholeZ; rw [nodes_q]; rfl
  unfold checkZ; rw [hw, if_neg (by simp)]
  show chkFs [aFn B [aRet B]] 0 = _
  rw [chkFs, chkF_q]; rfl
theorem check_p (B g : Nat) : checkZ (aPr B g [aRet B, aLet]) = (5, 0, 2) := by
  have hw : wholeZ (aPr B g [aRet B, aLet]) = 0 := by unfold wholeZ; rw [nodes_p]; rfl
  unfold checkZ; rw [hw, if_neg (by simp)]
  show chkFs [aFn B [aRet B, aLet]] 0 = _
  rw [chkFs, chkF_p]; rfl
theorem ok_neg (B : Nat) : OkE (aNeg B) := ⟨1, chk_neg B 1 (by omega)⟩
def awText : List UInt8 := [119, 105, 100, 101, 110, 32, 45, 53, 44, 32, 48, 59, 10, 102, 110, 32, 102, 40, 110, 32, 105, 110, 32, 48, 46, 46, 49, 48, 41, 32, 123, 10, 32, 32, 114, 101, 116, 117, 114, 110, 32, 45, 110, 59, 10, 125, 10]
theorem text_q (B g : Nat) : txP (aPr B g [aRet B]) = awText := by
  have h0 : txE aX = [110] := by rw [txE_eq]; decide
  have h1 : txE (aNeg B) = [45, 110] := by
    rw [txE_eq]; show txOf 5 0 ⟨#[]⟩ [2] [txE aX] = _
    rw [h0]; decide
  have h2 : txS (aRet B) 1 = lineB 1 ([114, 101, 116, 117, 114, 110, 32] ++ txE (aNeg B) ++ [59]) := by unfold aRet; simp [txS]
  show txW [-5, 0] ++ txFs [aFn B [aRet B]] = _
  rw [txFs, txFs]
  unfold txF
  show txW [-5, 0] ++ (lineB 0 _ ++ txSs [aRet B] 1 ++ _ ++ []) = _
  rw [txSs, txSs, h2, h1]
  show txW [-5, 0] ++ (lineB 0 ([102, 110, 32] ++ [102] ++ [40] ++ comB [paB aPa] ++ [41, 32, 123]) ++ (lineB 1 ([114, 101, 116, 117, 114, 110, 32] ++ [45, 110] ++ [59]) ++ []) ++ lineB 0 [125] ++ []) = awText
  decide +kernel
theorem samE_refl_x : samE aX aX = true := by rw [samE_eq]; simp [aX, Ex.kind, Ex.n, Ex.name, Ex.args, samEs]
theorem samE_z : samE zEx zEx = true := by rw [samE_eq]; simp [zEx, Ex.kind, Ex.n, Ex.name, Ex.args, samEs]
theorem samE_neg (B : Nat) : samE (aNeg B) (aNeg B) = true := by rw [samE_eq]; simp [aNeg, Ex.kind, Ex.n, Ex.name, Ex.args, samEs, samE_refl_x]
theorem samS_ret (B : Nat) : samS (aRet B) (aRet B) = true := by rw [samS_eq]; simp [aRet, St.kind, St.name, St.n, St.a, St.b, St.body, St.els, St.cases, samE_neg, samE_z, samSs, samCs]
theorem same_qq (B g : Nat) : samPr (aPr B g [aRet B]) (aPr B g [aRet B]) = true := by
  simp [samPr, aPr, samI, samFs, samF, aFn, samPs, samP, samSs, samS_ret]
theorem same_pq (B g g' : Nat) : samPr (aPr B g [aRet B, aLet]) (aPr B g' [aRet B]) = false := by
  simp [samPr, aPr, samFs, samF, aFn, samSs]
end Go.Proofs.YtbpemackmadhgaaGreatDoor

/- The statements' own first question: answers that the document fixes. -/
namespace Go.Proofs.YtbpemackmadhgaaGreatDoor
open Go.RowKit Go.Sort

theorem flat_at (sz : Nat) : ∀ (rows : List (List Value)), (∀ r ∈ rows, r.length = sz) → ∀ (i j : Nat) cs v, rows[i]? = some cs → cs[j]? = some v → rows.flatten[i * sz + j]? = some v
  | [], _, i, j, cs, v, hi, _ => by simp at hi
  | r :: rs, h, 0, j, cs, v, hi, hj => by
    simp only [List.getElem?_cons_zero, Option.some.injEq] at hi
    subst hi
    have hlt := (List.getElem?_eq_some_iff.1 hj).1
    rw [List.flatten_cons, Nat.zero_mul, Nat.zero_add, List.getElem?_append_left hlt]; exact hj
  | r :: rs, h, i + 1, j, cs, v, hi, hj => by
    have hr := h r (by simp)
    rw [List.flatten_cons, List.getElem?_append_right (by rw [hr, Nat.succ_mul]; omega), hr, show (i + 1) * sz + j - sz = i * sz + j from by rw [Nat.succ_mul]; omega]
    exact flat_at sz rs (fun x hx => h x (by simp [hx])) i j cs v (by simpa using hi) hj
theorem rowIn_block {W : World} {g sz : Nat} {rows : List (List Value)} {arr : Array Value} {t : TypeId} {fz : Nat × Nat} (h : W.heap[g]? = some (.cells arr t fz)) (hf : arr.toList = rows.flatten ∨ ∃ rest, arr.toList = rows.flatten ++ rest) (hl : ∀ r ∈ rows, r.length = sz) : RowIn W (some ⟨g, 0, none⟩) sz rows := by
  intro i cs hi
  refine ⟨g, 0, rfl, fun j v hj => ?_⟩
  have h1 := flat_at sz rows hl i j cs v hi hj
  rw [Lib.cell_of_heap h, Nat.zero_add, ← Array.getElem?_toList]
  rcases hf with hf | ⟨rest, hf⟩
  · rw [hf]; exact h1
  · rw [hf, List.getElem?_append_left (List.getElem?_eq_some_iff.1 h1).1]; exact h1
theorem rowIn_nil {W : World} {a : Option Addr} {sz : Nat} : RowIn W a sz [] := fun i cs h => by simp at h

/-- The blocks in which the first question's lists lie. -/
structure Lay (W : World) (B : Nat) : Prop where
  l1 : W.heap[B + 1]? = some (.cells #[.int .i64 (-5), .int .i64 0] 2 (0, 0))
  l2 : W.heap[B + 1 + 1]? = some (.cells #[.string ⟨#[110]⟩, .int .i64 0, .int .i64 10] 38 (0, 0))
  l3 : W.heap[B + 1 + 1 + 1]? = some (.cells #[.int .i64 2, .int .i64 0, .string ⟨#[110]⟩, .slice none 0 0] 36 (0, 0))
  l4 : W.heap[B + 1 + 1 + 1 + 1]? = some (.cells #[.int .i64 9, .string ⟨#[]⟩, .int .i64 0, .int .i64 5, .int .i64 0, .string ⟨#[]⟩, .slice (some ⟨B + 1 + 1 + 1, 0, none⟩) 1 1, .int .i64 0, .int .i64 0, .string ⟨#[]⟩, .slice none 0 0, .slice none 0 0, .slice none 0 0, .slice none 0 0, .int .i64 1, .string ⟨#[]⟩, .int .i64 1, .int .i64 0, .int .i64 0, .string ⟨#[]⟩, .slice none 0 0, .int .i64 0, .int .i64 0, .string ⟨#[]⟩, .slice none 0 0, .slice none 0 0, .slice none 0 0, .slice none 0 0] 43 (0, 0))
theorem Lay.stay {W W' : World} {B : Nat} (h : Lay W B) (hb : Below W.heap.size W W') : Lay W' B := by
  have k : ∀ {g : Nat} {o : Obj}, W.heap[g]? = some o → W'.heap[g]? = some o := fun e => (hb.block _ (Array.getElem?_eq_some_iff.1 e).1).trans e
  exact ⟨k h.l1, k h.l2, k h.l3, k h.l4⟩
theorem i0 : I64 0 := ⟨by decide, by decide⟩
theorem i1 : I64 1 := ⟨by decide, by decide⟩
theorem i2 : I64 2 := ⟨by decide, by decide⟩
theorem i5 : I64 5 := ⟨by decide, by decide⟩
theorem i9 : I64 9 := ⟨by decide, by decide⟩
theorem i10 : I64 10 := ⟨by decide, by decide⟩
theorem im5 : I64 (-5) := ⟨by decide, by decide⟩
theorem n0 : (0 : Nat) ≤ 140737488351232 := by decide
theorem n1 : (1 : Nat) ≤ 140737488351232 := by decide
theorem lenE (l : List Ex) : ∀ r ∈ l.map Ex.cells, r.length = 4 := by intro r hr; obtain ⟨x, _, rfl⟩ := List.mem_map.1 hr; rfl
theorem lenS (l : List St) : ∀ r ∈ l.map St.cells, r.length = 14 := by intro r hr; obtain ⟨x, _, rfl⟩ := List.mem_map.1 hr; rfl
theorem lenP (l : List Pa) : ∀ r ∈ l.map Pa.cells, r.length = 3 := by intro r hr; obtain ⟨x, _, rfl⟩ := List.mem_map.1 hr; rfl
theorem lenF (l : List Fu) : ∀ r ∈ l.map Fu.cells, r.length = 3 := by intro r hr; obtain ⟨x, _, rfl⟩ := List.mem_map.1 hr; rfl
theorem lenI (l : List Int) : ∀ r ∈ l.map (fun z => ([.int .i64 z] : List Value)), r.length = 1 := by intro r hr; obtain ⟨x, _, rfl⟩ := List.mem_map.1 hr; rfl
theorem zEx_in (W : World) : zEx.In W := Ex.in_iff.2 ⟨i0, i0, n0, Nat.le_refl _, n0, fun _ => rfl, rowIn_nil, fun y hy => by cases hy⟩
theorem aX_in (W : World) : aX.In W := Ex.in_iff.2 ⟨i2, i0, n1, Nat.le_refl _, n0, fun _ => rfl, rowIn_nil, fun y hy => by cases hy⟩
theorem aNeg_in {W : World} {B : Nat} (h : Lay W B) : (aNeg B).In W :=
  Ex.in_iff.2 ⟨i5, i0, n0, Nat.le_refl _, (by show 1 * 56 ≤ 140737488351232; decide), (fun e => by cases e), rowIn_block (rows := [aX.cells]) h.l3 (.inl rfl) (lenE [aX]), fun y hy => by
    rcases List.mem_singleton.1 (show y ∈ [aX] from hy) with rfl
    exact aX_in W⟩
theorem have_nil (W : World) : Have W none 0 [] := ⟨⟨Nat.le_refl _, n0, fun _ => rfl, rowIn_nil⟩, fun y hy => by cases hy⟩
theorem aRet_in {W : World} {B : Nat} (h : Lay W B) : (aRet B).In W := St.in_iff.2 ⟨i9, n0, i0, aNeg_in h, zEx_in W, have_nil W, have_nil W, ⟨Nat.le_refl _, n0, fun _ => rfl, rowIn_nil⟩, fun y hy => by cases hy⟩
theorem aLet_in (W : World) : aLet.In W := St.in_iff.2 ⟨i1, n0, i1, zEx_in W, zEx_in W, have_nil W, have_nil W, ⟨Nat.le_refl _, n0, fun _ => rfl, rowIn_nil⟩, fun y hy => by cases hy⟩
theorem body_q {W : World} {B : Nat} (h : Lay W B) : Have W (some ⟨B + 1 + 1 + 1 + 1, 0, none⟩) 2 [aRet B] :=
  ⟨⟨by show 1 ≤ 2; decide, by decide, (fun e => by cases e), rowIn_block (rows := [(aRet B).cells]) h.l4 (.inr ⟨aLet.cells, rfl⟩) (lenS [aRet B])⟩, fun s hs => by rcases List.mem_singleton.1 hs with rfl; exact aRet_in h⟩
theorem body_p {W : World} {B : Nat} (h : Lay W B) : Have W (some ⟨B + 1 + 1 + 1 + 1, 0, none⟩) 2 [aRet B, aLet] :=
  ⟨⟨by show 2 ≤ 2; decide, by decide, (fun e => by cases e), rowIn_block (rows := [(aRet B).cells, aLet.cells]) h.l4 (.inl rfl) (lenS [aRet B, aLet])⟩, fun s hs => by
    rcases List.mem_cons.1 hs with rfl | hs
    · exact aRet_in h
    · rcases List.mem_singleton.1 hs with rfl; exact aLet_in W⟩
theorem aFn_in {W : World} {B : Nat} (h : Lay W B) {l : List St} (hl : Have W (some ⟨B + 1 + 1 + 1 + 1, 0, none⟩) 2 l) : (aFn B l).In W :=
  ⟨n1, Nat.le_refl _, (by show 1 * 32 ≤ 140737488351232; decide), (fun e => by cases e), rowIn_block (rows := [aPa.cells]) h.l2 (.inl rfl) (lenP [aPa]), (fun q hq => by rcases List.mem_singleton.1 (show q ∈ [aPa] from hq) with rfl; exact ⟨n1, i0, i10⟩), hl⟩
theorem aPr_in {W : World} {B g : Nat} (h : Lay W B) {l : List St} (hl : Have W (some ⟨B + 1 + 1 + 1 + 1, 0, none⟩) 2 l) (hg : W.heap[g]? = some (.cells #[.string ⟨#[102]⟩, .slice (some ⟨B + 1 + 1, 0, none⟩) 1 1, .slice (some ⟨B + 1 + 1 + 1 + 1, 0, none⟩) l.length 2] 45 (0, 0))) : (aPr B g l).In W :=
  ⟨Nat.le_refl _, (by show 2 * 8 ≤ 140737488351232; decide), (fun e => by cases e), rowIn_block (rows := [[.int .i64 (-5)], [.int .i64 0]]) h.l1 (.inl rfl) (lenI [-5, 0]), (fun z hz => by
    rcases List.mem_cons.1 (show z ∈ [(-5 : Int), 0] from hz) with rfl | hz
    · exact im5
    · rcases List.mem_singleton.1 hz with rfl; exact i0), Nat.le_refl _, (by show 1 * 64 ≤ 140737488351232; decide), (fun e => by cases e), rowIn_block (rows := [(aFn B l).cells]) hg (.inl rfl) (lenF [aFn B l]), (fun f hf => by
    rcases List.mem_singleton.1 (show f ∈ [aFn B l] from hf) with rfl; exact aFn_in h hl)⟩
/-- The first question's text, printed. -/
theorem awPrint (W : World) (B g : Nat) (h : Lay W B) (hg : W.heap[g]? = some (.cells #[.string ⟨#[102]⟩, .slice (some ⟨B + 1 + 1, 0, none⟩) 1 1, .slice (some ⟨B + 1 + 1 + 1 + 1, 0, none⟩) 1 2] 45 (0, 0))) (ht : Tabs W) (hnt : NumT W) :
    Calls Tryz.prog 8 #[(aPr B g [aRet B]).val] W fun e w' => e = .returned (.tuple #[sB awText, fltV 0 0 0]) ∧ Below W.heap.size W w' := by
  have := print_ok (aPr B g [aRet B]) W (aPr_in h (body_q h) hg) ht hnt (check_q B g) (by show 2 ≤ 16; decide) (fun f hf => by
    rcases List.mem_singleton.1 (show f ∈ [aFn B [aRet B]] from hf) with rfl
    refine ⟨fun s hs => ?_, fun q hq => ?_, by show 1 ≤ 8; decide⟩
    · rcases List.mem_singleton.1 (show s ∈ [aRet B] from hs) with rfl
      exact stmtD_le (stmt9 W (aRet B) rfl (aRet_in h) ht hnt (ok_neg B) (by show (aNeg B).sz ≤ _; rw [Ex.sz_args]; show szL [aX] + 1 ≤ _; decide)) (by decide)
    · rcases List.mem_singleton.1 (show q ∈ [aPa] from hq) with rfl
      decide +kernel) (by rw [text_q]; decide)
  rwa [text_q] at this
end Go.Proofs.YtbpemackmadhgaaGreatDoor

/- The statements' own first question answers yes. -/
namespace Go.Proofs.YtbpemackmadhgaaGreatDoor
open Go.RowKit Go.Sort

theorem equalIn_flt (a b c a' b' c' : Int) (w : World) : (Op.equalIn 10000 29 (fltV a b c) (fltV a' b' c')).run Tryz.prog w = .ok (a == a' && (b == b' && c == c')) w := by
  have u3 := Tryz.underlying3
  have a3 := Tryz.isAgg3
  have z3 := Tryz.sizeOf3
  have u31 := Tryz.underlying27
  have a31 := Tryz.isAgg27
  have z31 := Tryz.sizeOf27
  have hS : Tryz.prog.underlying 29 = some (.struct (Tryz.prog.fieldsOf 29)) := by kernel_rfl
  have hp : Tryz.prog.stoodInHeld 29 = false := by kernel_rfl
  unfold fltV
  rw [show (10000 : Nat) = 9999 + 1 from rfl, run_equalIn_agg w 9999 29 _ _ hS hp]
  simp only [Program.fieldsOf, Tryz.underlying29]
  go_simp
  by_cases h1 : a = a' <;> by_cases h2 : b = b' <;> by_cases h3 : c = c' <;> simp [h1, h2, h3]

theorem keep_heap {W : World} {k : Nat} {o : Obj} (h : W.heap[k]? = some o) (o' : Obj) : (W.alloc o').heap[k]? = some o := (Lib.alloc_old W o' k (Array.getElem?_eq_some_iff.1 h).1).trans h
theorem new_heap {W : World} {k : Nat} (o : Obj) (h : W.heap.size = k) : (W.alloc o).heap[k]? = some o := by rw [← h]; exact heap_alloc_new W o
theorem set_keep {W : World} {k : Nat} {o : Obj} (a : Addr) (v : Value) (h : W.heap[k]? = some o) (hk : k ≠ a.block) : (W.setCell a v).drew.heap[k]? = some o := (Below.heap_setCell W a v k hk).trans h
theorem set_same {W : World} {b : Nat} {cs : Array Value} {T : TypeId} {fz : Nat × Nat} (h : W.heap[b]? = some (.cells cs T fz)) (i : Nat) (v : Value) : (W.setCell ⟨b, i, none⟩ v).drew.heap[b]? = some (.cells (cs.setIfInBounds i v) T fz) := by
  show (W.setCell ⟨b, i, none⟩ v).heap[b]? = _
  simp [World.setCell, Array.getElem?_modify, h]
/-- The world in which the first question's first program lies. -/
def awW (w : World) : World := ((((((w.alloc (.cells #[.int .i64 2, .int .i64 0, .string ⟨#[110]⟩, .slice none 0 0] 36)).alloc (.cells #[.int .i64 (-5), .int .i64 0] 2)).alloc (.cells #[.string ⟨#[110]⟩, .int .i64 0, .int .i64 10] 38)).alloc (.cells #[.int .i64 2, .int .i64 0, .string ⟨#[110]⟩, .slice none 0 0] 36)).alloc (.cells #[.int .i64 9, .string ⟨#[]⟩, .int .i64 0, .int .i64 5, .int .i64 0, .string ⟨#[]⟩, .slice (some ⟨w.heap.size + 1 + 1 + 1, 0, none⟩) 1 1, .int .i64 0, .int .i64 0, .string ⟨#[]⟩, .slice none 0 0, .slice none 0 0, .slice none 0 0, .slice none 0 0, .int .i64 1, .string ⟨#[]⟩, .int .i64 1, .int .i64 0, .int .i64 0, .string ⟨#[]⟩, .slice none 0 0, .int .i64 0, .int .i64 0, .string ⟨#[]⟩, .slice none 0 0, .slice none 0 0, .slice none 0 0, .slice none 0 0] 43)).alloc (.cells #[.string ⟨#[102]⟩, .slice (some ⟨w.heap.size + 1 + 1, 0, none⟩) 1 1, .slice (some ⟨w.heap.size + 1 + 1 + 1 + 1, 0, none⟩) 2 2] 45)).alloc (.cells #[.slice (some ⟨w.heap.size + 1, 0, none⟩) 2 2, .slice (some ⟨w.heap.size + 1 + 1 + 1 + 1 + 1, 0, none⟩) 1 1] 25)
theorem awW_facts (w : World) : Lay (awW w) w.heap.size ∧ (awW w).heap[w.heap.size + 1 + 1 + 1 + 1 + 1]? = some (.cells #[.string ⟨#[102]⟩, .slice (some ⟨w.heap.size + 1 + 1, 0, none⟩) 1 1, .slice (some ⟨w.heap.size + 1 + 1 + 1 + 1, 0, none⟩) 2 2] 45 (0, 0)) ∧ (awW w).heap[w.heap.size + 1 + 1 + 1 + 1 + 1 + 1]? = some (.cells #[.slice (some ⟨w.heap.size + 1, 0, none⟩) 2 2, .slice (some ⟨w.heap.size + 1 + 1 + 1 + 1 + 1, 0, none⟩) 1 1] 25 (0, 0)) ∧ Below w.heap.size w (awW w) ∧ (awW w).heap.size = w.heap.size + 1 + 1 + 1 + 1 + 1 + 1 + 1 := by
  unfold awW
  refine ⟨⟨?_, ?_, ?_, ?_⟩, ?_, ?_, ?_, by simp⟩
  · exact keep_heap (keep_heap (keep_heap (keep_heap (keep_heap (new_heap _ (by simp)) _) _) _) _) _
  · exact keep_heap (keep_heap (keep_heap (keep_heap (new_heap _ (by simp)) _) _) _) _
  · exact keep_heap (keep_heap (keep_heap (new_heap _ (by simp)) _) _) _
  · exact keep_heap (keep_heap (new_heap _ (by simp)) _) _
  · exact keep_heap (new_heap _ (by simp)) _
  · exact new_heap _ (by simp)
  · exact Below.one (Below.one (Below.one (Below.one (Below.one (Below.one (Below.one (Below.refl _ w) _) _) _) _) _) _) _

set_option maxRecDepth 100000 in
set_option maxHeartbeats 16000000 in
theorem awake_any (w : World) (ht : Tabs w) (hnt : NumT w) : Calls Tryz.prog 5 #[] w fun e w' => e = .returned (.bool true) ∧ Below w.heap.size w w' := by
  obtain ⟨lay, k5, k6, hb0, hs0⟩ := awW_facts w
  have HT : Hid (Tabs w) := ht
  have HN : Hid (NumT w) := hnt
  clear ht hnt
  go_enter Tryz.func5, Tryz.ntmps5
  go_wp2_with fail
  obtain ⟨W7, hW7⟩ : ∃ W7, awW w = W7 := ⟨_, rfl⟩
  rw [hW7] at lay k5 k6 hb0 hs0
  unfold awW at hW7
  rw [hW7]
  clear hW7
  obtain ⟨B, hB⟩ : ∃ B, w.heap.size = B := ⟨_, rfl⟩
  have HB : Hid (w.heap.size = B) := hB
  rw [hB] at lay k5 k6 hs0 ⊢
  have hck := check_any (aPr B (B + 1 + 1 + 1 + 1 + 1) [aRet B, aLet]) W7 (aPr_in lay (body_p lay) k5) (HT.out.stay hb0)
  rw [check_p] at hck
  have HCK : Hid (Calls Tryz.prog 6 #[.agg #[.slice (some ⟨B + 1, 0, none⟩) 2 2, .slice (some ⟨B + 1 + 1 + 1 + 1 + 1, 0, none⟩) 1 1]] W7 fun e w' => e = .returned (fltV 5 0 2) ∧ Below W7.heap.size W7 w') := hck
  clear hck hB
  refine HCK.out.mono ?_
  rintro e w1 ⟨rfl, hb1⟩
  have lay1 := lay.stay hb1
  have K5 := (hb1.block (B + 1 + 1 + 1 + 1 + 1) (by omega)).trans k5
  have K6 := (hb1.block (B + 1 + 1 + 1 + 1 + 1 + 1) (by omega)).trans k6
  have hbw := Below.on hb0 hb1
  have HLAY : Hid (Lay w1 B) := lay1
  have p0 : w1.cell? ⟨B + 1 + 1 + 1 + 1 + 1 + 1, 0, none⟩ = some (.slice (some ⟨B + 1, 0, none⟩) 2 2) := by rw [Lib.cell_of_heap K6]; rfl
  have p1 : w1.cell? ⟨B + 1 + 1 + 1 + 1 + 1 + 1, 1, none⟩ = some (.slice (some ⟨B + 1 + 1 + 1 + 1 + 1, 0, none⟩) 1 1) := by rw [Lib.cell_of_heap K6]; rfl
  have f0 : w1.cell? ⟨B + 1 + 1 + 1 + 1 + 1, 0, none⟩ = some (.string ⟨#[102]⟩) := by rw [Lib.cell_of_heap K5]; rfl
  have f1 : w1.cell? ⟨B + 1 + 1 + 1 + 1 + 1, 1, none⟩ = some (.slice (some ⟨B + 1 + 1, 0, none⟩) 1 1) := by rw [Lib.cell_of_heap K5]; rfl
  have f2 : w1.cell? ⟨B + 1 + 1 + 1 + 1 + 1, 2, none⟩ = some (.slice (some ⟨B + 1 + 1 + 1 + 1, 0, none⟩) 2 2) := by rw [Lib.cell_of_heap K5]; rfl
  have hs1 : B + 1 + 1 + 1 + 1 + 1 + 1 < w1.heap.size := by have := hb1.size; omega
  have hs2 : B + 1 + 1 + 1 + 1 + 1 < w1.heap.size := by omega
  have g0 : ∀ o1 o2, ((w1.alloc o1).alloc o2).cell? ⟨B + 1 + 1 + 1 + 1 + 1, 0, none⟩ = some (.string ⟨#[102]⟩) := fun o1 o2 => by rw [Lib.cell_of_heap (keep_heap (keep_heap K5 o1) o2)]; rfl
  have g1 : ∀ o1 o2, ((w1.alloc o1).alloc o2).cell? ⟨B + 1 + 1 + 1 + 1 + 1, 1, none⟩ = some (.slice (some ⟨B + 1 + 1, 0, none⟩) 1 1) := fun o1 o2 => by rw [Lib.cell_of_heap (keep_heap (keep_heap K5 o1) o2)]; rfl
  have g2 : ∀ o1 o2, ((w1.alloc o1).alloc o2).cell? ⟨B + 1 + 1 + 1 + 1 + 1, 2, none⟩ = some (.slice (some ⟨B + 1 + 1 + 1 + 1, 0, none⟩) 2 2) := fun o1 o2 => by rw [Lib.cell_of_heap (keep_heap (keep_heap K5 o1) o2)]; rfl
  have HK5 : Hid (w1.heap[B + 1 + 1 + 1 + 1 + 1]? = some (.cells #[.string ⟨#[102]⟩, .slice (some ⟨B + 1 + 1, 0, none⟩) 1 1, .slice (some ⟨B + 1 + 1 + 1 + 1, 0, none⟩) 2 2] 45 (0, 0))) := K5
  have HK6 : Hid (w1.heap[B + 1 + 1 + 1 + 1 + 1 + 1]? = some (.cells #[.slice (some ⟨B + 1, 0, none⟩) 2 2, .slice (some ⟨B + 1 + 1 + 1 + 1 + 1, 0, none⟩) 1 1] 25 (0, 0))) := K6
  clear lay lay1 k5 k6 K5 K6 hb0 hb1 HCK hs0
  go_wp2_with fail
  clear f0 f1 f2 g0 g1 g2 p0
  obtain ⟨W3, hW3⟩ : ∃ W3, (((w1.alloc (.cells #[.int .i64 5, .int .i64 0, .int .i64 2] 29)).alloc (.cells #[.slice (some ⟨B + 1, 0, none⟩) 2 2, .slice (some ⟨w1.heap.size + 1 + 1, 0, none⟩) 1 1] 25)).alloc (.cells #[.string ⟨#[102]⟩, .slice (some ⟨B + 1 + 1, 0, none⟩) 1 1, .slice (some ⟨B + 1 + 1 + 1 + 1, 0, none⟩) 2 2] 45)) = W3 := ⟨_, rfl⟩
  have hb3 : Below w1.heap.size w1 W3 := by rw [← hW3]; exact Below.one (Below.one (Below.one (Below.refl _ w1) _) _) _
  obtain ⟨S, hS⟩ : ∃ S, w1.heap.size = S := ⟨_, rfl⟩
  have k7 : W3.heap[S]? = some (.cells #[.int .i64 5, .int .i64 0, .int .i64 2] 29 (0, 0)) := by rw [← hW3]; exact keep_heap (keep_heap (new_heap _ hS) _) _
  have k8 : W3.heap[S + 1]? = some (.cells #[.slice (some ⟨B + 1, 0, none⟩) 2 2, .slice (some ⟨S + 1 + 1, 0, none⟩) 1 1] 25 (0, 0)) := by rw [← hW3, hS]; exact keep_heap (new_heap _ (by simp [hS])) _
  have k9 : W3.heap[S + 1 + 1]? = some (.cells #[.string ⟨#[102]⟩, .slice (some ⟨B + 1 + 1, 0, none⟩) 1 1, .slice (some ⟨B + 1 + 1 + 1 + 1, 0, none⟩) 2 2] 45 (0, 0)) := by rw [← hW3]; exact new_heap _ (by simp [hS])
  have k5 := (hb3.block (B + 1 + 1 + 1 + 1 + 1) (by omega)).trans HK5.out
  have k6 := (hb3.block (B + 1 + 1 + 1 + 1 + 1 + 1) (by omega)).trans HK6.out
  have hS3 : W3.heap.size = S + 1 + 1 + 1 := by rw [← hW3]; simp [hS]
  rw [hW3]
  rw [hS] at hs1 hs2 ⊢
  have e0 : W3.drew.cell? ⟨S + 1, 1, none⟩ = some (.slice (some ⟨S + 1 + 1, 0, none⟩) 1 1) := by
    have : W3.drew.heap[S + 1]? = _ := k8
    rw [Lib.cell_of_heap this]; rfl
  have e1 : W3.drew.cell? ⟨B + 1 + 1 + 1 + 1 + 1 + 1, 1, none⟩ = some (.slice (some ⟨B + 1 + 1 + 1 + 1 + 1, 0, none⟩) 1 1) := by
    have : W3.drew.heap[B + 1 + 1 + 1 + 1 + 1 + 1]? = _ := k6
    rw [Lib.cell_of_heap this]; rfl
  have e2 : W3.drew.cell? ⟨B + 1 + 1 + 1 + 1 + 1, 2, none⟩ = some (.slice (some ⟨B + 1 + 1 + 1 + 1, 0, none⟩) 2 2) := by
    have : W3.drew.heap[B + 1 + 1 + 1 + 1 + 1]? = _ := k5
    rw [Lib.cell_of_heap this]; rfl
  have e3 : W3.drew.cell? ⟨S + 1 + 1, 2, none⟩ = some (.slice (some ⟨B + 1 + 1 + 1 + 1, 0, none⟩) 2 2) := by
    have : W3.drew.heap[S + 1 + 1]? = _ := k9
    rw [Lib.cell_of_heap this]; rfl
  have e4 : W3.frozen? ⟨S + 1 + 1, 2, none⟩ = false := by simp [World.frozen?, k9]
  have HH : Hid (Below w1.heap.size w1 W3 ∧ Lay w1 B ∧ Below w.heap.size w w1 ∧ w1.heap.size = S ∧ W3.heap.size = S + 1 + 1 + 1) := ⟨hb3, HLAY.out, hbw, hS, hS3⟩
  have K5 := show Hid _ from k5
  have K6 := show Hid _ from k6
  have K7 := show Hid _ from k7
  have K8 := show Hid _ from k8
  have K9 := show Hid _ from k9
  clear hb3 hS hS3 hW3 HLAY hbw k5 k6 k7 k8 k9 p1 HK5 HK6
  go_region
  obtain ⟨W4, hW4⟩ : ∃ W4, (W3.setCell ⟨S + 1 + 1, 2, none⟩ (.slice (some ⟨B + 1 + 1 + 1 + 1, 0, none⟩) 1 2)).drew = W4 := ⟨_, rfl⟩
  rw [hW4]
  have k5 := set_keep ⟨S + 1 + 1, 2, none⟩ (.slice (some ⟨B + 1 + 1 + 1 + 1, 0, none⟩) 1 2) K5.out (by show _ ≠ S + 1 + 1; omega)
  have k6 := set_keep ⟨S + 1 + 1, 2, none⟩ (.slice (some ⟨B + 1 + 1 + 1 + 1, 0, none⟩) 1 2) K6.out (by show _ ≠ S + 1 + 1; omega)
  have k7 := set_keep ⟨S + 1 + 1, 2, none⟩ (.slice (some ⟨B + 1 + 1 + 1 + 1, 0, none⟩) 1 2) K7.out (by show _ ≠ S + 1 + 1; omega)
  have k8 := set_keep ⟨S + 1 + 1, 2, none⟩ (.slice (some ⟨B + 1 + 1 + 1 + 1, 0, none⟩) 1 2) K8.out (by show _ ≠ S + 1 + 1; omega)
  rw [hW4] at k5 k6 k7 k8
  have k9 : W4.heap[S + 1 + 1]? = some (.cells #[.string ⟨#[102]⟩, .slice (some ⟨B + 1 + 1, 0, none⟩) 1 1, .slice (some ⟨B + 1 + 1 + 1 + 1, 0, none⟩) 1 2] 45 (0, 0)) := by rw [← hW4]; exact set_same K9.out 2 _
  obtain ⟨hb3, hlay, hbw, hS, hS3⟩ := HH.out
  have hb4 : Below w1.heap.size w1 W4 := by rw [← hW4]; exact Below.drew (Below.setCell hb3 (by show _ ≤ S + 1 + 1; omega) _)
  have hS4 : W4.heap.size = S + 1 + 1 + 1 := by rw [← hW4]; show (W3.setCell _ _).heap.size = _; simp [World.setCell, hS3]
  have hbw4 : Below w.heap.size w W4 := Below.on hbw hb4
  have hlay4 : Lay W4 B := hlay.stay hb4
  have hpr := awPrint W4 B (S + 1 + 1) hlay4 k9 (HT.out.stay hbw4) (HN.out.stay hbw4)
  have HPR : Hid (Calls Tryz.prog 8 #[.agg #[.slice (some ⟨B + 1, 0, none⟩) 2 2, .slice (some ⟨S + 1 + 1, 0, none⟩) 1 1]] W4 fun e w' => e = .returned (.tuple #[.string ⟨#[119, 105, 100, 101, 110, 32, 45, 53, 44, 32, 48, 59, 10, 102, 110, 32, 102, 40, 110, 32, 105, 110, 32, 48, 46, 46, 49, 48, 41, 32, 123, 10, 32, 32, 114, 101, 116, 117, 114, 110, 32, 45, 110, 59, 10, 125, 10]⟩, .agg #[.int .i64 0, .int .i64 0, .int .i64 0]]) ∧ Below W4.heap.size W4 w') := hpr
  have q0 : W4.cell? ⟨S + 1, 0, none⟩ = some (.slice (some ⟨B + 1, 0, none⟩) 2 2) := by rw [Lib.cell_of_heap k8]; rfl
  have q1 : W4.cell? ⟨S + 1, 1, none⟩ = some (.slice (some ⟨S + 1 + 1, 0, none⟩) 1 1) := by rw [Lib.cell_of_heap k8]; rfl
  clear K5 K6 K7 K8 K9 HH e0 e1 e2 e3 e4 hb3 hlay hbw hpr hW4 hS hS3
  have K5 := show Hid _ from k5
  have K6 := show Hid _ from k6
  have K7 := show Hid _ from k7
  have K8 := show Hid _ from k8
  have K9 := show Hid _ from k9
  have HH : Hid (Below w.heap.size w W4 ∧ Lay W4 B ∧ W4.heap.size = S + 1 + 1 + 1) := ⟨hbw4, hlay4, hS4⟩
  clear k5 k6 k7 k8 k9 hbw4 hlay4 hS4 hb4
  go_wp2_with fail
  refine HPR.out.mono ?_
  rintro e w5 ⟨rfl, hb5⟩
  clear q0 q1 HPR
  obtain ⟨hbw4, hlay4, hS4⟩ := HH.out
  have hbw5 := Below.on hbw4 hb5
  have hlay5 := hlay4.stay hb5
  have k5 := (hb5.block (B + 1 + 1 + 1 + 1 + 1) (by omega)).trans K5.out
  have k6 := (hb5.block (B + 1 + 1 + 1 + 1 + 1 + 1) (by omega)).trans K6.out
  have k7 := (hb5.block S (by omega)).trans K7.out
  have k8 := (hb5.block (S + 1) (by omega)).trans K8.out
  have k9 := (hb5.block (S + 1 + 1) (by omega)).trans K9.out
  have hs5 := hb5.size
  rw [hS4] at hs5
  have s5 : S + 1 < w5.heap.size := by omega
  have s6 : S < w5.heap.size := by omega
  have s7 : B + 1 + 1 + 1 + 1 + 1 + 1 < w5.heap.size := by omega
  clear K5 K6 K7 K8 K9 HH hb5 hbw4 hlay4 hS4 hs5 hs1 hs2
  have a0 : w5.cell? ⟨S, 0, none⟩ = some (.int .i64 5) := by rw [Lib.cell_of_heap k7]; rfl
  have a1 : w5.cell? ⟨S, 1, none⟩ = some (.int .i64 0) := by rw [Lib.cell_of_heap k7]; rfl
  have a2 : w5.cell? ⟨S, 2, none⟩ = some (.int .i64 2) := by rw [Lib.cell_of_heap k7]; rfl
  have q0 : w5.cell? ⟨S + 1, 0, none⟩ = some (.slice (some ⟨B + 1, 0, none⟩) 2 2) := by rw [Lib.cell_of_heap k8]; rfl
  have q1 : w5.cell? ⟨S + 1, 1, none⟩ = some (.slice (some ⟨S + 1 + 1, 0, none⟩) 1 1) := by rw [Lib.cell_of_heap k8]; rfl
  have hq := equalIn_flt
  have hg : ∀ (w : World) (op : BinOp) (a b : Operand) (xs ys : Array Value), (eqGuard op 29 a b (.agg xs) (.agg ys)).run Tryz.prog w = .ok () w := fun w op a b xs ys => run_eqGuard_agg w op 29 a b xs ys (by kernel_rfl)
  unfold fltV at hq
  have K5 := show Hid _ from k5
  have K6 := show Hid _ from k6
  have K8 := show Hid _ from k8
  have K9 := show Hid _ from k9
  have HQ : Hid ((aPr B (S + 1 + 1) [aRet B]).In w5) := aPr_in hlay5 (body_q hlay5) k9
  have HP : Hid ((aPr B (B + 1 + 1 + 1 + 1 + 1) [aRet B, aLet]).In w5) := aPr_in hlay5 (body_p hlay5) k5
  have HH : Hid (Below w.heap.size w w5) := hbw5
  have g0 : Hid (w5.cell? ⟨B + 1 + 1 + 1 + 1 + 1 + 1, 0, none⟩ = some (.slice (some ⟨B + 1, 0, none⟩) 2 2)) := by rw [Lib.cell_of_heap k6]; rfl
  have g1 : Hid (w5.cell? ⟨B + 1 + 1 + 1 + 1 + 1 + 1, 1, none⟩ = some (.slice (some ⟨B + 1 + 1 + 1 + 1 + 1, 0, none⟩) 1 1)) := by rw [Lib.cell_of_heap k6]; rfl
  have HN1 : Hid (∀ w', Below w5.heap.size w5 w' → Calls Tryz.prog 10 #[.agg #[.slice (some ⟨B + 1, 0, none⟩) 2 2, .slice (some ⟨S + 1 + 1, 0, none⟩) 1 1]] w' fun e w'' => e = .returned (.int .i64 3) ∧ Below w'.heap.size w' w'') := fun w' hb => by
    have := nodes_any (aPr B (S + 1 + 1) [aRet B]) w' (HQ.out.stay hb)
    rw [nodes_q] at this; exact this
  have HS1 : Hid (∀ w', Below w5.heap.size w5 w' → Calls Tryz.prog 11 #[.agg #[.slice (some ⟨B + 1, 0, none⟩) 2 2, .slice (some ⟨S + 1 + 1, 0, none⟩) 1 1], .agg #[.slice (some ⟨B + 1, 0, none⟩) 2 2, .slice (some ⟨S + 1 + 1, 0, none⟩) 1 1]] w' fun e w'' => e = .returned (.bool true) ∧ Below w'.heap.size w' w'') := fun w' hb => by
    have := same_any (aPr B (S + 1 + 1) [aRet B]) (aPr B (S + 1 + 1) [aRet B]) w' (HQ.out.stay hb) (HQ.out.stay hb)
    rw [same_qq] at this; exact this
  have HS2 : Hid (∀ w', Below w5.heap.size w5 w' → Calls Tryz.prog 11 #[.agg #[.slice (some ⟨B + 1, 0, none⟩) 2 2, .slice (some ⟨B + 1 + 1 + 1 + 1 + 1, 0, none⟩) 1 1], .agg #[.slice (some ⟨B + 1, 0, none⟩) 2 2, .slice (some ⟨S + 1 + 1, 0, none⟩) 1 1]] w' fun e w'' => e = .returned (.bool false) ∧ Below w'.heap.size w' w'') := fun w' hb => by
    have := same_any (aPr B (B + 1 + 1 + 1 + 1 + 1) [aRet B, aLet]) (aPr B (S + 1 + 1) [aRet B]) w' (HP.out.stay hb) (HQ.out.stay hb)
    rw [same_pq] at this; exact this
  have g2 := show Hid _ from q0
  have g3 := show Hid _ from q1
  clear k5 k6 k7 k8 k9 hbw5 hlay5 HQ HP
  go_wp2_with fail
  have hba := Below.one (Below.refl w5.heap.size w5) (.cells #[.int .i64 0, .int .i64 0, .int .i64 0] 29)
  refine (HN1.out _ hba).mono ?_
  rintro e w6 ⟨rfl, hb6⟩
  have hb6' := Below.on hba hb6
  clear q0 q1 a0 a1 a2 hq hg hb6 hba HN1
  have q0 := (hb6'.cell (p := ⟨S + 1, 0, none⟩) s5).trans g2.out
  have q1 := (hb6'.cell (p := ⟨S + 1, 1, none⟩) s5).trans g3.out
  go_wp2_with fail
  refine (HS1.out _ hb6').mono ?_
  rintro e w7 ⟨rfl, hb7⟩
  have hb7' := Below.on hb6' hb7
  clear q0 q1 hb6' hb7 HS1
  have q0 := (hb7'.cell (p := ⟨S + 1, 0, none⟩) s5).trans g2.out
  have q1 := (hb7'.cell (p := ⟨S + 1, 1, none⟩) s5).trans g3.out
  have p0 := (hb7'.cell (p := ⟨B + 1 + 1 + 1 + 1 + 1 + 1, 0, none⟩) s7).trans g0.out
  have p1 := (hb7'.cell (p := ⟨B + 1 + 1 + 1 + 1 + 1 + 1, 1, none⟩) s7).trans g1.out
  go_wp2_with fail
  refine (HS2.out _ hb7').mono ?_
  rintro e w8 ⟨rfl, hb8⟩
  have hb8' := Below.on HH.out (Below.on hb7' hb8)
  clear q0 q1 p0 p1 hb7' hb8 HS2
  go_wp2_with fail
  go_ret
  exact ⟨rfl, hb8'⟩
end Go.Proofs.YtbpemackmadhgaaGreatDoor

/- The statement of texts, at a program that lies in memory. -/
namespace Go.Proofs.YtbpemackmadhgaaGreatDoor
open Go.RowKit Go.Sort

theorem rprint_any (p : Pr) (w : World) (hin : p.In w) : Calls Tryz.prog 9 #[p.val] w fun e w' => e = .returned (prV p) ∧ Below w.heap.size w w' := by
  by_cases h : (checkZ p).1 = 0
  · exact rprint_ok p w hin (check_ok h).1
  · rw [prV_bad h]
    exact rprint_bad p w hin _ _ _ rfl h

set_option maxRecDepth 100000 in
set_option maxHeartbeats 4000000 in
theorem treePrints_any (p : Pr) (w : World) (hin : p.In w) (ht : Tabs w) (hnt : NumT w) : Calls Tryz.prog 4 #[p.val] w fun e w' => e = .returned (.bool true) ∧ Below w.heap.size w w' := by
  have HA : Hid (∀ w', Below w.heap.size w w' → Calls Tryz.prog 5 #[] w' fun e w'' => e = .returned (.bool true) ∧ Below w'.heap.size w' w'') := fun w' h => awake_any w' (ht.stay h) (hnt.stay h)
  have HN : Hid (∀ w', Below w.heap.size w w' → Calls Tryz.prog 8 #[p.val] w' fun e w'' => e = .returned (.tuple #[.string (tb (prT p)), fltV (prF p).1 (prF p).2.1 (prF p).2.2]) ∧ Below w'.heap.size w' w'') := fun w' h => print_any p w' (hin.stay h) (ht.stay h) (hnt.stay h)
  have HR : Hid (∀ w', Below w.heap.size w w' → Calls Tryz.prog 9 #[p.val] w' fun e w'' => e = .returned (.tuple #[.string (tb (prT p)), fltV (prF p).1 (prF p).2.1 (prF p).2.2]) ∧ Below w'.heap.size w' w'') := fun w' h => rprint_any p w' (hin.stay h)
  clear hin ht hnt
  generalize (prF p).1 = n0 at *
  generalize (prF p).2.1 = n1 at *
  generalize (prF p).2.2 = n2 at *
  generalize tb (prT p) = T at *
  have hq : ∀ w, (Op.equalIn 10000 29 (.agg #[.int .i64 n0, .int .i64 n1, .int .i64 n2]) (.agg #[.int .i64 n0, .int .i64 n1, .int .i64 n2])).run Tryz.prog w = .ok true w := fun w => by
    have := equalIn_flt n0 n1 n2 n0 n1 n2 w
    simpa using this
  have hg : ∀ (w : World) (op : BinOp) (a b : Operand) (xs ys : Array Value), (eqGuard op 29 a b (.agg xs) (.agg ys)).run Tryz.prog w = .ok () w := fun w op a b xs ys => run_eqGuard_agg w op 29 a b xs ys (by kernel_rfl)
  have hb0 := (Below.refl _ w).alloc (Nat.le_refl _) (.cells #[.slice p.wa p.widen.length p.wc, .slice p.fa p.funcs.length p.fc] 25)
  have hbx := boxL_new w #[.slice p.wa p.widen.length p.wc, .slice p.fa p.funcs.length p.fc] 25
  unfold Pr.val at HN HR ⊢
  go_enter Tryz.func4, Tryz.ntmps4
  go_wp2_with fail
  refine (HA.out _ hb0).mono ?_
  rintro r w1 ⟨rfl, hb1⟩
  have hb2 : Below w.heap.size w w1 := hb0.trans (hb1.mono (by simp))
  have HBX : Hid (BoxL w1 w.heap.size [.slice p.wa p.widen.length p.wc, .slice p.fa p.funcs.length p.fc]) := hbx.below hb1 (by simp)
  have hs1 : w.heap.size < w1.heap.size := by have := hb1.size; simp at this; omega
  clear hb0 hb1 hbx
  have c0 := HBX.out 0 _ rfl
  have c1 := HBX.out 1 _ rfl
  go_wp2_with fail
  refine (HN.out _ hb2).mono ?_
  rintro r w3 ⟨rfl, hb3⟩
  have hb4 : Below w3.heap.size w3 (w3.alloc (.cells #[.int .i64 n0, .int .i64 n1, .int .i64 n2] 29)) := (Below.refl _ w3).alloc (Nat.le_refl _) _
  have hbf := boxL_new w3 #[.int .i64 n0, .int .i64 n1, .int .i64 n2] 29
  have hs3 : w.heap.size < w3.heap.size := by have := hb3.size; omega
  have HBY : Hid (BoxL w3 w.heap.size [.slice p.wa p.widen.length p.wc, .slice p.fa p.funcs.length p.fc]) := HBX.out.below hb3 hs1
  have hb5 : Below w.heap.size w w3 := hb2.trans (hb3.mono hb2.size)
  clear c0 c1 HBX hb3 hb2
  go_upto_region 4 with fail
  generalize hg3 : w3.heap.size = g3 at *
  have hs4 : g3 < (w3.alloc (.cells #[.int .i64 n0, .int .i64 n1, .int .i64 n2] 29)).heap.size := by simp [hg3]
  generalize w3.alloc (.cells #[.int .i64 n0, .int .i64 n1, .int .i64 n2] 29) = W4 at *
  have HBZ : Hid (BoxL W4 w.heap.size [.slice p.wa p.widen.length p.wc, .slice p.fa p.funcs.length p.fc]) := HBY.out.below hb4 hs3
  have hb6 : Below w.heap.size w W4 := hb5.trans (hb4.mono (by have := hb5.size; omega))
  have HBF : Hid (BoxL W4 g3 [.int .i64 n0, .int .i64 n1, .int .i64 n2]) := hbf
  have c0 := HBZ.out 0 _ rfl
  have c1 := HBZ.out 1 _ rfl
  clear hbf hb4 hb5 HBY hg3
  go_wp2_with fail
  refine (HR.out _ hb6).mono ?_
  rintro r w5 ⟨rfl, hb7⟩
  have HBG : Hid (BoxL w5 g3 [.int .i64 n0, .int .i64 n1, .int .i64 n2]) := HBF.out.below hb7 hs4
  have hb8 : Below w.heap.size w w5 := hb6.trans (hb7.mono hb6.size)
  have hs5 : g3 < w5.heap.size := by have := hb7.size; omega
  have hb9 : Below w5.heap.size w5 (w5.alloc (.cells #[.int .i64 n0, .int .i64 n1, .int .i64 n2] 29)) := (Below.refl _ w5).alloc (Nat.le_refl _) _
  have HBH : Hid (BoxL (w5.alloc (.cells #[.int .i64 n0, .int .i64 n1, .int .i64 n2] 29)) g3 [.int .i64 n0, .int .i64 n1, .int .i64 n2]) := HBG.out.below hb9 hs5
  have HBI : Hid (BoxL (w5.alloc (.cells #[.int .i64 n0, .int .i64 n1, .int .i64 n2] 29)) w5.heap.size [.int .i64 n0, .int .i64 n1, .int .i64 n2]) := boxL_new w5 #[.int .i64 n0, .int .i64 n1, .int .i64 n2] 29
  have HBJ : Hid (Below w.heap.size w (w5.alloc (.cells #[.int .i64 n0, .int .i64 n1, .int .i64 n2] 29))) := hb8.trans (hb9.mono hb8.size)
  clear c0 c1 hb7 hb8 hb9 HBG HBF hb6 HBZ
  go_upto_region 5 with fail
  generalize w5.alloc (.cells #[.int .i64 n0, .int .i64 n1, .int .i64 n2] 29) = W6 at *
  have e0 := HBH.out 0 _ rfl
  have e1 := HBH.out 1 _ rfl
  have e2 := HBH.out 2 _ rfl
  have d0 := HBI.out 0 _ rfl
  have d1 := HBI.out 1 _ rfl
  have d2 := HBI.out 2 _ rfl
  go_wp2_with fail
  go_ret
  exact ⟨rfl, HBJ.out⟩
end Go.Proofs.YtbpemackmadhgaaGreatDoor
