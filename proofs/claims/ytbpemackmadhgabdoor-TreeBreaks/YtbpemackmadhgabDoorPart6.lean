/- The document's own count of expressions, as it counts them. -/
import Derived.Test.YtbpemackmadhgabDoorPart3
import Derived.Test.YtbpemackmadhgabDoorPart1
import Derived.Test.YtbpemackmadhgabDoorPart5
import Derived.Deep.DeepAppendRoom
import Derived.Deep.AppendLies
import Derived.Lib.QuietBelow
namespace Go.Proofs.YtbpemackmadhgabDoor
open Go.RowKit

mutual
def rE : Ex → Int → Int | .mk _ _ _ _ _ l, left => rL l left 0
def rL : List Ex → Int → Int → Int | [], _, n => n | x :: r, left, n => if n ≤ left then rL r left (n + (1 + rE x (left - n - 1))) else n
end
theorem rE_args (x : Ex) (left : Int) : rE x left = rL x.args left 0 := by cases x; simp [rE, Ex.args]
theorem rL_drop {l : List Ex} {j : Nat} {left n : Int} (h : j < l.length) : rL (l.drop j) left n = if n ≤ left then rL (l.drop (j + 1)) left (n + (1 + rE l[j] (left - n - 1))) else n := by
  rw [List.drop_eq_getElem_cons h, rL]
theorem r_bd (k : Nat) : (∀ (x : Ex) (left : Int), x.sz ≤ k → 0 ≤ rE x left ∧ rE x left ≤ max 0 (left + 1)) ∧ (∀ (l : List Ex) (left n : Int), szL l ≤ k → n ≤ rL l left n ∧ rL l left n ≤ max n (left + 1)) := by
  induction k with
  | zero =>
    refine ⟨fun x n hk => by have := x.sz_args; omega, fun l left n hk => ?_⟩
    cases l with
    | nil => simp only [rL]; omega
    | cons x r => rw [szL] at hk; have := x.sz_args; omega
  | succ k ih =>
    have h1 : ∀ (x : Ex) (left : Int), x.sz ≤ k + 1 → 0 ≤ rE x left ∧ rE x left ≤ max 0 (left + 1) := fun x n hk => by
      rw [rE_args]; exact ih.2 _ _ _ (by have := x.sz_args; omega)
    refine ⟨h1, fun l => ?_⟩
    induction l with
    | nil => intro left n _; simp only [rL]; omega
    | cons x r ihr =>
      intro left n hk
      rw [szL] at hk
      rw [rL]
      split
      · have := h1 x (left - n - 1) (by omega)
        have := ihr left (n + (1 + rE x (left - n - 1))) (by omega)
        omega
      · omega
theorem rE_bd (x : Ex) (left : Int) : 0 ≤ rE x left ∧ rE x left ≤ max 0 (left + 1) := (r_bd _).1 x left (Nat.le_refl _)
theorem rL_bd (l : List Ex) (left n : Int) : n ≤ rL l left n ∧ rL l left n ≤ max n (left + 1) := (r_bd _).2 l left n (Nat.le_refl _)

set_option maxRecDepth 100000 in
set_option maxHeartbeats 2000000 in
theorem rexprs_k (k : Nat) : ∀ (l : List Ex) (a : Option Addr) (c : Nat) (left : Int) (w : World), szL l ≤ k → HaveE w a c l → -8 ≤ left → left ≤ 4611686018427387904 →
    Calls Tryd.prog 47 #[.slice a l.length c, .int .i64 left] w fun e w' => e = .returned (.int .i64 (rL l left 0)) ∧ Below w.heap.size w w' := by
  induction k with
  | zero =>
    intro l a c left w hk hin h0 h1
    obtain rfl : l = [] := by
      cases l with
      | nil => rfl
      | cons x r => rw [szL] at hk; have := x.sz_args; omega
    rw [rL]
    show Calls Tryd.prog 47 #[.slice a 0 c, .int .i64 left] w _
    go_enter Tryd.func47, Tryd.ntmps47
    go_wp2_with fail
    go_loopw [5, 6] (fun t5 t6 wr => t5 = .int .i64 0 ∧ t6 = .int .i64 0 ∧ wr = w) (fun _ _ _ => 0)
    case atStart => exact ⟨rfl, rfl, rfl⟩
    case round =>
      obtain ⟨rfl, rfl, rfl⟩ := hrel
      go_wp2_with fail
      go_ret
      exact ⟨rfl, Below.refl _ _⟩
  | succ k ih =>
    intro l a c left w hk hin h0 h1
    have hl := hin.1
    have hc := hin.2.1
    have IH : Hid (∀ (l : List Ex) (a : Option Addr) (c : Nat) (left : Int) (w : World), szL l ≤ k → HaveE w a c l → -8 ≤ left → left ≤ 4611686018427387904 →
      Calls Tryd.prog 47 #[.slice a l.length c, .int .i64 left] w fun e w' => e = .returned (.int .i64 (rL l left 0)) ∧ Below w.heap.size w w') := ih
    have HE : Hid (HaveE w a c l) := hin
    have HK : Hid (szL l ≤ k + 1) := hk
    clear ih hin hk
    go_enter Tryd.func47, Tryd.ntmps47
    go_wp2_with fail
    go_loopw [5, 6] (fun t5 t6 wr => ∃ (j : Nat) (m : Int), j ≤ l.length ∧ t5 = .int .i64 m ∧ t6 = .int .i64 j ∧ 0 ≤ m ∧ m ≤ max 0 (left + 1) ∧ rL (l.drop j) left m = rL l left 0 ∧ Below w.heap.size w wr) (fun _ t6 _ => l.length - (intOf t6).toNat)
    case atStart => exact ⟨0, 0, Nat.zero_le _, rfl, rfl, by omega, by omega, by simp, Below.refl _ w⟩
    case round =>
      obtain ⟨j, m, hj, rfl, rfl, hm0, hm1, hcnt, hb⟩ := hrel
      have HC : Hid (rL (l.drop j) left m = rL l left 0) := hcnt
      clear hcnt
      have hws := hb.size
      by_cases hlt : j < l.length
      · have hli : (j : Int) < (l.length : Int) := by omega
        have HD : Hid (rL (l.drop j) left m = if m ≤ left then rL (l.drop (j + 1)) left (m + (1 + rE l[j] (left - m - 1))) else m) := rL_drop hlt
        by_cases hm : m ≤ left
        · obtain ⟨b, o, rfl, c0, c1, c2, c3⟩ := row_at (HE.out.2.2.1.below hb) hlt
          have HI : Hid (l[j].In wr) := (HE.out.2.2.2 _ (List.getElem_mem hlt)).stay hb
          have HZ : Hid (szL l[j].args ≤ k) := by
            have h1 := szL_mem (List.getElem_mem hlt)
            have h2 := (l[j]).sz_args
            have h3 := HK.out
            show szL l[j].args ≤ k
            omega
          have hbd := rE_bd l[j] (left - m - 1)
          rw [if_pos hm] at HD
          generalize l[j] = x at *
          go_wp2_with fail
          refine (IH.out x.args x.a x.cap (left - m - 1) _ HZ.out HI.out.have (by omega) (by omega)).mono ?_
          rintro e w' ⟨rfl, hb'⟩
          rw [← rE_args]
          generalize rE x (left - m - 1) = q at *
          go_wp2_with fail
          go_roundw
          case rel =>
            refine ⟨j + 1, m + (1 + q), by omega, rfl, by go_num, by omega, by omega, ?_, hb.trans (hb'.mono hws)⟩
            rw [← HC.out, HD.out]
          case measure => simp [intOf]; omega
        · rw [if_neg hm] at HD
          go_wp2_with fail
          go_ret
          exact ⟨ret_int (by rw [← HC.out, HD.out]), hb⟩
      · obtain rfl : j = l.length := by omega
        go_wp2_with fail
        go_ret
        exact ⟨ret_int (by rw [← HC.out, List.drop_eq_nil_of_le (Nat.le_refl _), rL]), hb⟩
theorem rexprs_any (l : List Ex) (a : Option Addr) (c : Nat) (left : Int) (w : World) (hin : HaveE w a c l) (h0 : -8 ≤ left) (h1 : left ≤ 4611686018427387904) :
    Calls Tryd.prog 47 #[.slice a l.length c, .int .i64 left] w fun e w' => e = .returned (.int .i64 (rL l left 0)) ∧ Below w.heap.size w w' := rexprs_k _ l a c left w (Nat.le_refl _) hin h0 h1
end Go.Proofs.YtbpemackmadhgabDoor

/- The document's own count of statements, as it counts them; is an expression one of zeros? -/
namespace Go.Proofs.YtbpemackmadhgabDoor
open Go.RowKit

def rZ (x : Ex) (left n : Int) : Int := if zeroE x then n else n + (1 + rL x.args (left - n - 1) 0)
mutual
def rS : St → Int → Int → Int
  | .mk _ _ _ a b _ _ l _ _ e _ _ c, left, n =>
    (fun m => m + rSs e (left - m) 0) (rCs c left ((fun m => m + rSs l (left - m) 0) (rZ b left (rZ a left (n + 1)))))
def rSs : List St → Int → Int → Int | [], _, n => n | s :: r, left, n => if n ≤ left then rSs r left (rS s left n) else n
def rC : Ca → Int → Int | .mk _ _ _ l, left => rSs l left 0
def rCs : List Ca → Int → Int → Int | [], _, n => n | c :: r, left, n => if n ≤ left then rCs r left (n + (1 + rC c (left - n - 1))) else n
end
def rB (l : List St) (left n : Int) : Int := n + rSs l (left - n) 0
theorem rC_eq (c : Ca) (left : Int) : rC c left = rSs c.body left 0 := by cases c; simp [rC, Ca.body]
theorem rS_eq (s : St) (left n : Int) : rS s left n = rB s.els left (rCs s.cases left (rB s.body left (rZ s.b left (rZ s.a left (n + 1))))) := by
  cases s; simp only [rS, rB, St.els, St.cases, St.body, St.a, St.b]
theorem rSs_drop {l : List St} {j : Nat} {left n : Int} (h : j < l.length) : rSs (l.drop j) left n = if n ≤ left then rSs (l.drop (j + 1)) left (rS l[j] left n) else n := by
  rw [List.drop_eq_getElem_cons h, rSs]
theorem rCs_drop {l : List Ca} {j : Nat} {left n : Int} (h : j < l.length) : rCs (l.drop j) left n = if n ≤ left then rCs (l.drop (j + 1)) left (n + (1 + rC l[j] (left - n - 1))) else n := by
  rw [List.drop_eq_getElem_cons h, rCs]
theorem rZ_bd (x : Ex) (left n : Int) : n ≤ rZ x left n ∧ rZ x left n ≤ max (n + 1) (left + 1) := by
  unfold rZ
  have := rL_bd x.args (left - n - 1) 0
  split <;> omega

theorem rs_bd (k : Nat) : (∀ (s : St) (left n : Int), s.sz ≤ k → n ≤ left → n + 1 ≤ rS s left n ∧ rS s left n ≤ left + 3) ∧ (∀ (l : List St) (left n : Int), ssz l ≤ k → n ≤ rSs l left n ∧ rSs l left n ≤ max n (left + 3)) := by
  induction k with
  | zero =>
    refine ⟨fun s left n hk => by have := s.sz_eq; omega, fun l left n hk => ?_⟩
    cases l with
    | nil => simp only [rSs]; omega
    | cons x r => rw [ssz] at hk; have := x.sz_eq; omega
  | succ k ih =>
    have hC : ∀ (l : List Ca) (left n : Int), csz l ≤ k → n ≤ rCs l left n ∧ rCs l left n ≤ max n (left + 3) := fun l => by
      induction l with
      | nil => intro left n _; simp only [rCs]; omega
      | cons c r ihr =>
        intro left n hk
        rw [csz] at hk
        rw [rCs]
        split
        · have h1 := ih.2 c.body (left - n - 1) 0 (by have := c.sz_eq; omega)
          rw [← rC_eq] at h1
          have := ihr left (n + (1 + rC c (left - n - 1))) (by omega)
          omega
        · omega
    have hB : ∀ (l : List St) (left n : Int), ssz l ≤ k → n ≤ rB l left n ∧ rB l left n ≤ max n (left + 3) := fun l left n hk => by
      have := ih.2 l (left - n) 0 hk
      unfold rB; omega
    have h1 : ∀ (s : St) (left n : Int), s.sz ≤ k + 1 → n ≤ left → n + 1 ≤ rS s left n ∧ rS s left n ≤ left + 3 := fun s left n hk hn => by
      rw [rS_eq]
      have hz := s.sz_eq
      have a1 := rZ_bd s.a left (n + 1)
      have a2 := rZ_bd s.b left (rZ s.a left (n + 1))
      have a3 := hB s.body left (rZ s.b left (rZ s.a left (n + 1))) (by omega)
      have a4 := hC s.cases left (rB s.body left (rZ s.b left (rZ s.a left (n + 1)))) (by omega)
      have a5 := hB s.els left (rCs s.cases left (rB s.body left (rZ s.b left (rZ s.a left (n + 1))))) (by omega)
      omega
    refine ⟨h1, fun l => ?_⟩
    induction l with
    | nil => intro left n _; simp only [rSs]; omega
    | cons x r ihr =>
      intro left n hk
      rw [ssz] at hk
      rw [rSs]
      split
      · have := h1 x left n (by omega) (by assumption)
        have := ihr left (rS x left n) (by omega)
        omega
      · omega
theorem rSs_bd (l : List St) (left n : Int) : n ≤ rSs l left n ∧ rSs l left n ≤ max n (left + 3) := (rs_bd _).2 l left n (Nat.le_refl _)
theorem rS_bd (s : St) (left n : Int) (h : n ≤ left) : n + 1 ≤ rS s left n ∧ rS s left n ≤ left + 3 := (rs_bd _).1 s left n (Nat.le_refl _) h
theorem rC_bd (c : Ca) (left : Int) : 0 ≤ rC c left ∧ rC c left ≤ max 0 (left + 3) := by rw [rC_eq]; exact rSs_bd _ _ _
theorem rB_bd (l : List St) (left n : Int) : n ≤ rB l left n ∧ rB l left n ≤ max n (left + 3) := by
  have := rSs_bd l (left - n) 0
  unfold rB; omega

set_option maxRecDepth 100000 in
set_option maxHeartbeats 2000000 in
theorem rzero_any (x : Ex) (w : World) : Calls Tryd.prog 46 #[x.val] w fun e w' => e = .returned (.bool (zeroE x)) ∧ Below w.heap.size w w' := by
  obtain ⟨kd, n, s, a, c, l⟩ := x
  unfold Ex.val zeroE
  simp only [Ex.kind, Ex.n, Ex.name, Ex.a, Ex.cap, Ex.args]
  have hb := (Below.refl _ w).alloc (Nat.le_refl _) (.cells #[.int .i64 kd, .int .i64 n, .string s, .slice a l.length c] 48)
  cases h1 : (kd == 0)
  · go_enter Tryd.func46, Tryd.ntmps46
    go_wp2_with fail
    go_ret
    exact ⟨rfl, hb⟩
  · cases h2 : (n == 0)
    · go_enter Tryd.func46, Tryd.ntmps46
      go_wp2_with fail
      go_ret
      exact ⟨ret_bool (by simp), hb⟩
    · have e : s.toList.isEmpty = (s.toList == []) := by cases s.toList <;> rfl
      cases h3 : (s.toList == [])
      · go_enter Tryd.func46, Tryd.ntmps46
        go_wp2_with fail
        go_ret
        exact ⟨ret_bool (by rw [e, h3]; rfl), hb⟩
      · go_enter Tryd.func46, Tryd.ntmps46
        go_wp2_with fail
        go_ret
        refine ⟨ret_bool ?_, hb⟩
        rw [e, h3]
        cases l
        · rfl
        · simp; omega
theorem rZ_t {x : Ex} {left n : Int} (h : zeroE x = true) : rZ x left n = n := by simp [rZ, h]
theorem rZ_f {x : Ex} {left n : Int} (h : zeroE x = false) : rZ x left n = n + (1 + rL x.args (left - n - 1) 0) := by simp [rZ, h]
end Go.Proofs.YtbpemackmadhgabDoor

/- The document's own count of statements: what it answers. -/
namespace Go.Proofs.YtbpemackmadhgabDoor
open Go.RowKit

set_option maxRecDepth 100000 in
set_option maxHeartbeats 16000000 in
theorem rstmts_k (k : Nat) : ∀ (l : List St) (a : Option Addr) (c : Nat) (left : Int) (w : World), ssz l ≤ k → Have w a c l → -8 ≤ left → left ≤ 4611686018427387904 →
    Calls Tryd.prog 27 #[.slice a l.length c, .int .i64 left] w fun e w' => e = .returned (.int .i64 (rSs l left 0)) ∧ Below w.heap.size w w' := by
  induction k with
  | zero =>
    intro l a c left w hk hin h0 h1
    obtain rfl : l = [] := by
      cases l with
      | nil => rfl
      | cons x r => rw [ssz] at hk; have := x.sz_eq; omega
    rw [rSs]
    show Calls Tryd.prog 27 #[.slice a 0 c, .int .i64 left] w _
    go_enter Tryd.func27, Tryd.ntmps27
    go_wp2_with fail
    go_loopw [5, 6] (fun t5 t6 wr => t5 = .int .i64 0 ∧ t6 = .int .i64 0 ∧ wr = w) (fun _ _ _ => 0)
    case atStart => exact ⟨rfl, rfl, rfl⟩
    case round =>
      obtain ⟨rfl, rfl, rfl⟩ := hrel
      go_wp2_with fail
      go_ret
      exact ⟨rfl, Below.refl _ _⟩
  | succ k ih =>
    intro l a c left w hk hin h0 h1
    obtain ⟨⟨hl, hc, _, hrow⟩, hsub⟩ := hin
    have IH : Hid (∀ (l : List St) (a : Option Addr) (c : Nat) (left : Int) (w : World), ssz l ≤ k → Have w a c l → -8 ≤ left → left ≤ 4611686018427387904 → Calls Tryd.prog 27 #[.slice a l.length c, .int .i64 left] w fun e w' => e = .returned (.int .i64 (rSs l left 0)) ∧ Below w.heap.size w w') := ih
    have HS : Hid (∀ x ∈ l, x.In w) := hsub
    have HR : Hid (RowIn w a 14 (List.map St.cells l)) := hrow
    have HK : Hid (ssz l ≤ k + 1) := hk
    clear ih hsub hrow hk
    go_enter Tryd.func27, Tryd.ntmps27
    go_wp2_with fail
    go_loopw [5, 6] (fun t5 t6 wr => ∃ (j : Nat) (m : Int), j ≤ l.length ∧ t5 = .int .i64 m ∧ t6 = .int .i64 j ∧ 0 ≤ m ∧ m ≤ max 0 (left + 3) ∧ rSs (l.drop j) left m = rSs l left 0 ∧ Below w.heap.size w wr) (fun _ t6 _ => l.length - (intOf t6).toNat)
    case atStart => exact ⟨0, 0, Nat.zero_le _, rfl, rfl, by omega, by omega, by simp, Below.refl _ w⟩
    case round =>
      obtain ⟨j, m, hj, rfl, rfl, hm0, hm1, hcnt, hb⟩ := hrel
      have HC : Hid (rSs (l.drop j) left m = rSs l left 0) := hcnt
      clear hcnt
      have hws := hb.size
      by_cases hlt : j < l.length
      · have hli : (j : Int) < (l.length : Int) := by omega
        have HD : Hid (rSs (l.drop j) left m = if m ≤ left then rSs (l.drop (j + 1)) left (rS l[j] left m) else m) := rSs_drop hlt
        by_cases hm : m ≤ left
        · obtain ⟨b, o, rfl, hcell⟩ := rowS_at (HR.out.below hb) hlt
          have c0 := hcell 0 _ rfl
          have c1 := hcell 1 _ rfl
          have c2 := hcell 2 _ rfl
          have c3 := hcell 3 _ rfl
          have c4 := hcell 4 _ rfl
          have c5 := hcell 5 _ rfl
          have c6 := hcell 6 _ rfl
          have c7 := hcell 7 _ rfl
          have c8 := hcell 8 _ rfl
          have c9 := hcell 9 _ rfl
          have c10 := hcell 10 _ rfl
          have c11 := hcell 11 _ rfl
          have c12 := hcell 12 _ rfl
          have c13 := hcell 13 _ rfl
          simp only [← Nat.add_assoc, Nat.add_zero] at c0 c1 c2 c3 c4 c5 c6 c7 c8 c9 c10 c11 c12 c13
          clear hcell
          have HI : Hid (l[j].In wr) := (HS.out _ (List.getElem_mem hlt)).stay hb
          have HZ : Hid (l[j].sz ≤ k + 1) := by
            have h1 := ssz_mem (List.getElem_mem hlt)
            have h3 := HK.out
            show l[j].sz ≤ k + 1
            omega
          rw [if_pos hm] at HD
          generalize l[j] = s at *
          have HZA : Hid (∀ w, Calls Tryd.prog 46 #[s.a.val] w fun e w' => e = .returned (.bool (zeroE s.a)) ∧ Below w.heap.size w w') := fun w => rzero_any s.a w
          have HZB : Hid (∀ w, Calls Tryd.prog 46 #[s.b.val] w fun e w' => e = .returned (.bool (zeroE s.b)) ∧ Below w.heap.size w w') := fun w => rzero_any s.b w
          unfold Ex.val at HZA HZB
          cases hza : zeroE s.a
          · cases hzb : zeroE s.b
            · have EQ : Hid (rS s left m = rB s.els left (rCs s.cases left (((m + 1) + (1 + rL s.a.args (left - (m + 1) - 1) 0)) + (1 + rL s.b.args (left - ((m + 1) + (1 + rL s.a.args (left - (m + 1) - 1) 0)) - 1) 0) + rSs s.body (left - (((m + 1) + (1 + rL s.a.args (left - (m + 1) - 1) 0)) + (1 + rL s.b.args (left - ((m + 1) + (1 + rL s.a.args (left - (m + 1) - 1) 0)) - 1) 0))) 0))) := by
                show _ = _; rw [rS_eq, rZ_f hza, rZ_f hzb]; rfl
              rw [hza] at HZA
              rw [hzb] at HZB
              go_wp2_with fail
              obtain ⟨W1, hW1⟩ : ∃ W1, wr.alloc (.cells #[.int .i64 s.kind, .string s.name, .int .i64 s.n, .int .i64 s.a.kind, .int .i64 s.a.n, .string s.a.name, .slice s.a.a s.a.args.length s.a.cap, .int .i64 s.b.kind, .int .i64 s.b.n, .string s.b.name, .slice s.b.a s.b.args.length s.b.cap, .slice s.ba s.body.length s.bc, .slice s.ea s.els.length s.ec, .slice s.ca s.cases.length s.cc] 53) = W1 := ⟨_, rfl⟩
              have BX : Hid (∀ (j : Nat) v, s.cells[j]? = some v → W1.cell? ⟨wr.heap.size, j, none⟩ = some v) := by
                show ∀ (j : Nat) v, _; intro j v h
                rw [← hW1, World.cell?_alloc_at _ _ _ _ rfl]; simpa [St.cells] using h
              have hb1 : Below w.heap.size w W1 := by rw [← hW1]; exact hb.alloc hws _
              have hbr : Below wr.heap.size wr W1 := by rw [← hW1]; exact (Below.refl _ wr).alloc (Nat.le_refl _) _
              have hs1 : wr.heap.size < W1.heap.size := by rw [← hW1]; simp
              rw [hW1]
              clear hW1 c0 c1 c2 c3 c4 c5 c6 c7 c8 c9 c10 c11 c12 c13
              have HI1 : Hid (s.In W1) := HI.out.stay hbr
              obtain ⟨Z, hZ⟩ : ∃ Z, wr.heap.size = Z := ⟨_, rfl⟩
              rw [hZ] at BX hs1 ⊢
              have CX : Hid (∀ w', Below W1.heap.size W1 w' → ∀ (j : Nat) v, s.cells[j]? = some v → w'.cell? ⟨Z, j, none⟩ = some v) := fun w' h j v e => (h.cell (p := ⟨Z, j, none⟩) hs1).trans (BX.out j v e)
              clear hbr hZ hb hws
              refine (HZA.out W1).mono ?_
              rintro e w2 ⟨rfl, hb2⟩
              have c6 := CX.out _ hb2 6 _ rfl
              go_wp2_with fail
              refine (rexprs_any s.a.args s.a.a s.a.cap (left - (m + 1) - 1) _ ((St.in_iff.1 (HI1.out.stay hb2)).2.2.2.1.have) (by omega) (by omega)).mono ?_
              have b1 := rL_bd s.a.args (left - (m + 1) - 1) 0
              generalize rL s.a.args (left - (m + 1) - 1) 0 = q1 at b1 EQ ⊢
              rintro e w3 ⟨rfl, hb3⟩
              have hb3' := hb2.trans (hb3.mono hb2.size)
              clear hb2 hb3 c6
              have c7 := CX.out _ hb3' 7 _ rfl
              have c8 := CX.out _ hb3' 8 _ rfl
              have c9 := CX.out _ hb3' 9 _ rfl
              have c10 := CX.out _ hb3' 10 _ rfl
              go_wp2_with fail
              refine (HZB.out _).mono ?_
              rintro e w4 ⟨rfl, hb4⟩
              have hb4' := hb3'.trans (hb4.mono hb3'.size)
              clear hb3' hb4 c7 c8 c9 c10
              have c10 := CX.out _ hb4' 10 _ rfl
              go_wp2_with fail
              refine (rexprs_any s.b.args s.b.a s.b.cap (left - ((m + 1) + (1 + q1)) - 1) _ ((St.in_iff.1 (HI1.out.stay hb4')).2.2.2.2.1.have) (by omega) (by omega)).mono ?_
              have b2 := rL_bd s.b.args (left - ((m + 1) + (1 + q1)) - 1) 0
              generalize rL s.b.args (left - ((m + 1) + (1 + q1)) - 1) 0 = q2 at b2 EQ ⊢
              rintro e w5 ⟨rfl, hb5⟩
              have hb5' := hb4'.trans (hb5.mono hb4'.size)
              clear hb4' hb5 c10
              have c11 := CX.out _ hb5' 11 _ rfl
              go_wp2_with fail
              refine (IH.out s.body s.ba s.bc (left - (((m + 1) + (1 + q1)) + (1 + q2))) _ (by have := s.sz_eq; have := HZ.out; omega) (St.in_iff.1 (HI1.out.stay hb5')).2.2.2.2.2.1 (by omega) (by omega)).mono ?_
              have b3 := rSs_bd s.body (left - (((m + 1) + (1 + q1)) + (1 + q2))) 0
              generalize rSs s.body (left - (((m + 1) + (1 + q1)) + (1 + q2))) 0 = q3 at b3 EQ ⊢
              rintro e w6 ⟨rfl, hb6⟩
              have hb6' := hb5'.trans (hb6.mono hb5'.size)
              clear hb5' hb6 c11
              obtain ⟨n4, hn4⟩ : ∃ n4, ((m + 1) + (1 + q1)) + (1 + q2) + q3 = n4 := ⟨_, rfl⟩
              have hn4b : 0 ≤ n4 ∧ n4 ≤ left + 3 := by omega
              rw [hn4] at EQ
              have HN4 := show Hid _ from hn4
              clear hn4
              go_wp2_with fail
              go_loopw [5, 8] (fun t5 t8 wq => ∃ (i : Nat) (p : Int), i ≤ s.cases.length ∧ t5 = .int .i64 p ∧ t8 = .int .i64 i ∧ 0 ≤ p ∧ p ≤ left + 3 ∧ rCs (s.cases.drop i) left p = rCs s.cases left n4 ∧ Below W1.heap.size W1 wq) (fun _ t8 _ => s.cases.length - (intOf t8).toNat)
              case atStart => exact ⟨0, n4, Nat.zero_le _, by have := HN4.out; go_num, rfl, hn4b.1, hn4b.2, by simp, hb6'⟩
              case round =>
                obtain ⟨i, p, hi, rfl, rfl, hp0, hp1, hpc, hbq⟩ := hrel
                have HPC : Hid (rCs (s.cases.drop i) left p = rCs s.cases left n4) := hpc
                clear hpc
                obtain ⟨hcl, hcc, _, hcr⟩ := (St.in_iff.1 (HI1.out.stay hbq)).2.2.2.2.2.2.2.1
                have HCR : Hid (RowIn wr s.ca 2 (s.cases.map Ca.cells)) := hcr
                clear hcr
                have c13 := CX.out _ hbq 13 _ rfl
                by_cases hilt : i < s.cases.length
                · have hili : (i : Int) < (s.cases.length : Int) := by omega
                  have HD2 : Hid (rCs (s.cases.drop i) left p = if p ≤ left then rCs (s.cases.drop (i + 1)) left (p + (1 + rC s.cases[i] (left - p - 1))) else p) := rCs_drop hilt
                  by_cases hpl : p ≤ left
                  · obtain ⟨b', o', hca, d0, d1⟩ := rowC_at HCR.out hilt
                    rw [hca] at c13
                    clear hca
                    rw [if_pos hpl, rC_eq] at HD2
                    have HIc : Hid (Have wr s.cases[i].ba s.cases[i].bc s.cases[i].body) := (Ca.in_iff.1 ((St.in_iff.1 (HI1.out.stay hbq)).2.2.2.2.2.2.2.2 _ (List.getElem_mem hilt))).2
                    have HZc : Hid (ssz s.cases[i].body ≤ k) := by
                      have h1 := csz_mem (List.getElem_mem hilt)
                      have h2 := (s.cases[i]).sz_eq
                      have h3 := s.sz_eq
                      have h4 := HZ.out
                      show ssz s.cases[i].body ≤ k
                      omega
                    generalize s.cases[i] = y at *
                    go_wp2_with fail
                    refine (IH.out y.body y.ba y.bc (left - p - 1) _ HZc.out HIc.out (by omega) (by omega)).mono ?_
                    have b4 := rSs_bd y.body (left - p - 1) 0
                    generalize rSs y.body (left - p - 1) 0 = q4 at b4 HD2 ⊢
                    rintro e w7 ⟨rfl, hb7⟩
                    have hb7' := hbq.trans (hb7.mono hbq.size)
                    clear hb7 c13 d0 d1
                    go_wp2_with fail
                    go_roundw
                    case rel =>
                      refine ⟨i + 1, p + (1 + q4), by omega, by go_num, by go_num, by omega, by omega, ?_, hb7'⟩
                      rw [← HPC.out, HD2.out]
                    case measure => simp [intOf]; omega
                  · rw [if_neg hpl] at HD2
                    have hpe : rCs s.cases left n4 = p := by rw [← HPC.out, HD2.out]
                    have c12 := CX.out _ hbq 12 _ rfl
                    go_wp2_with fail
                    refine (IH.out s.els s.ea s.ec (left - p) _ (by have := s.sz_eq; have := HZ.out; omega) (St.in_iff.1 (HI1.out.stay hbq)).2.2.2.2.2.2.1 (by omega) (by omega)).mono ?_
                    have b5 := rSs_bd s.els (left - p) 0
                    have EQ2 : Hid (rS s left m = p + rSs s.els (left - p) 0) := by show _ = _; rw [EQ.out, hpe]; rfl
                    generalize rSs s.els (left - p) 0 = q5 at b5 EQ2 ⊢
                    rintro e w8 ⟨rfl, hb8⟩
                    have hb8' := hb1.trans ((hbq.trans (hb8.mono hbq.size)).mono hb1.size)
                    clear hb8 c12 c13 hpe
                    go_wp2_with fail
                    go_roundw
                    case rel =>
                      refine ⟨j + 1, p + q5, by omega, by go_num, by go_num, by omega, by omega, ?_, hb8'⟩
                      rw [← HC.out, HD.out, EQ2.out]
                    case measure => simp [intOf]; omega
                · obtain rfl : i = s.cases.length := by omega
                  have hpe : rCs s.cases left n4 = p := by rw [← HPC.out, List.drop_eq_nil_of_le (Nat.le_refl _), rCs]
                  have c12 := CX.out _ hbq 12 _ rfl
                  go_wp2_with fail
                  refine (IH.out s.els s.ea s.ec (left - p) _ (by have := s.sz_eq; have := HZ.out; omega) (St.in_iff.1 (HI1.out.stay hbq)).2.2.2.2.2.2.1 (by omega) (by omega)).mono ?_
                  have b5 := rSs_bd s.els (left - p) 0
                  have EQ2 : Hid (rS s left m = p + rSs s.els (left - p) 0) := by show _ = _; rw [EQ.out, hpe]; rfl
                  generalize rSs s.els (left - p) 0 = q5 at b5 EQ2 ⊢
                  rintro e w8 ⟨rfl, hb8⟩
                  have hb8' := hb1.trans ((hbq.trans (hb8.mono hbq.size)).mono hb1.size)
                  clear hb8 c12 c13 hpe
                  go_wp2_with fail
                  go_roundw
                  case rel =>
                    refine ⟨j + 1, p + q5, by omega, by go_num, by go_num, by omega, by omega, ?_, hb8'⟩
                    rw [← HC.out, HD.out, EQ2.out]
                  case measure => simp [intOf]; omega
            · have EQ : Hid (rS s left m = rB s.els left (rCs s.cases left ((m + 1) + (1 + rL s.a.args (left - (m + 1) - 1) 0) + rSs s.body (left - ((m + 1) + (1 + rL s.a.args (left - (m + 1) - 1) 0))) 0))) := by
                show _ = _; rw [rS_eq, rZ_f hza, rZ_t hzb]; rfl
              rw [hza] at HZA
              rw [hzb] at HZB
              go_wp2_with fail
              obtain ⟨W1, hW1⟩ : ∃ W1, wr.alloc (.cells #[.int .i64 s.kind, .string s.name, .int .i64 s.n, .int .i64 s.a.kind, .int .i64 s.a.n, .string s.a.name, .slice s.a.a s.a.args.length s.a.cap, .int .i64 s.b.kind, .int .i64 s.b.n, .string s.b.name, .slice s.b.a s.b.args.length s.b.cap, .slice s.ba s.body.length s.bc, .slice s.ea s.els.length s.ec, .slice s.ca s.cases.length s.cc] 53) = W1 := ⟨_, rfl⟩
              have BX : Hid (∀ (j : Nat) v, s.cells[j]? = some v → W1.cell? ⟨wr.heap.size, j, none⟩ = some v) := by
                show ∀ (j : Nat) v, _; intro j v h
                rw [← hW1, World.cell?_alloc_at _ _ _ _ rfl]; simpa [St.cells] using h
              have hb1 : Below w.heap.size w W1 := by rw [← hW1]; exact hb.alloc hws _
              have hbr : Below wr.heap.size wr W1 := by rw [← hW1]; exact (Below.refl _ wr).alloc (Nat.le_refl _) _
              have hs1 : wr.heap.size < W1.heap.size := by rw [← hW1]; simp
              rw [hW1]
              clear hW1 c0 c1 c2 c3 c4 c5 c6 c7 c8 c9 c10 c11 c12 c13
              have HI1 : Hid (s.In W1) := HI.out.stay hbr
              obtain ⟨Z, hZ⟩ : ∃ Z, wr.heap.size = Z := ⟨_, rfl⟩
              rw [hZ] at BX hs1 ⊢
              have CX : Hid (∀ w', Below W1.heap.size W1 w' → ∀ (j : Nat) v, s.cells[j]? = some v → w'.cell? ⟨Z, j, none⟩ = some v) := fun w' h j v e => (h.cell (p := ⟨Z, j, none⟩) hs1).trans (BX.out j v e)
              clear hbr hZ hb hws
              refine (HZA.out W1).mono ?_
              rintro e w2 ⟨rfl, hb2⟩
              have c6 := CX.out _ hb2 6 _ rfl
              go_wp2_with fail
              refine (rexprs_any s.a.args s.a.a s.a.cap (left - (m + 1) - 1) _ ((St.in_iff.1 (HI1.out.stay hb2)).2.2.2.1.have) (by omega) (by omega)).mono ?_
              have b1 := rL_bd s.a.args (left - (m + 1) - 1) 0
              generalize rL s.a.args (left - (m + 1) - 1) 0 = q1 at b1 EQ ⊢
              rintro e w3 ⟨rfl, hb3⟩
              have hb3' := hb2.trans (hb3.mono hb2.size)
              clear hb2 hb3 c6
              have c7 := CX.out _ hb3' 7 _ rfl
              have c8 := CX.out _ hb3' 8 _ rfl
              have c9 := CX.out _ hb3' 9 _ rfl
              have c10 := CX.out _ hb3' 10 _ rfl
              go_wp2_with fail
              refine (HZB.out _).mono ?_
              rintro e w4 ⟨rfl, hb4⟩
              have hb4' := hb3'.trans (hb4.mono hb3'.size)
              clear hb3' hb4 c7 c8 c9 c10
              have c11 := CX.out _ hb4' 11 _ rfl
              go_wp2_with fail
              refine (IH.out s.body s.ba s.bc (left - ((m + 1) + (1 + q1))) _ (by have := s.sz_eq; have := HZ.out; omega) (St.in_iff.1 (HI1.out.stay hb4')).2.2.2.2.2.1 (by omega) (by omega)).mono ?_
              have b3 := rSs_bd s.body (left - ((m + 1) + (1 + q1))) 0
              generalize rSs s.body (left - ((m + 1) + (1 + q1))) 0 = q3 at b3 EQ ⊢
              rintro e w6 ⟨rfl, hb6⟩
              have hb6' := hb4'.trans (hb6.mono hb4'.size)
              clear hb4' hb6 c11
              obtain ⟨n4, hn4⟩ : ∃ n4, (m + 1) + (1 + q1) + q3 = n4 := ⟨_, rfl⟩
              have hn4b : 0 ≤ n4 ∧ n4 ≤ left + 3 := by omega
              rw [hn4] at EQ
              have HN4 := show Hid _ from hn4
              clear hn4
              go_wp2_with fail
              go_loopw [5, 8] (fun t5 t8 wq => ∃ (i : Nat) (p : Int), i ≤ s.cases.length ∧ t5 = .int .i64 p ∧ t8 = .int .i64 i ∧ 0 ≤ p ∧ p ≤ left + 3 ∧ rCs (s.cases.drop i) left p = rCs s.cases left n4 ∧ Below W1.heap.size W1 wq) (fun _ t8 _ => s.cases.length - (intOf t8).toNat)
              case atStart => exact ⟨0, n4, Nat.zero_le _, by have := HN4.out; go_num, rfl, hn4b.1, hn4b.2, by simp, hb6'⟩
              case round =>
                obtain ⟨i, p, hi, rfl, rfl, hp0, hp1, hpc, hbq⟩ := hrel
                have HPC : Hid (rCs (s.cases.drop i) left p = rCs s.cases left n4) := hpc
                clear hpc
                obtain ⟨hcl, hcc, _, hcr⟩ := (St.in_iff.1 (HI1.out.stay hbq)).2.2.2.2.2.2.2.1
                have HCR : Hid (RowIn wr s.ca 2 (s.cases.map Ca.cells)) := hcr
                clear hcr
                have c13 := CX.out _ hbq 13 _ rfl
                by_cases hilt : i < s.cases.length
                · have hili : (i : Int) < (s.cases.length : Int) := by omega
                  have HD2 : Hid (rCs (s.cases.drop i) left p = if p ≤ left then rCs (s.cases.drop (i + 1)) left (p + (1 + rC s.cases[i] (left - p - 1))) else p) := rCs_drop hilt
                  by_cases hpl : p ≤ left
                  · obtain ⟨b', o', hca, d0, d1⟩ := rowC_at HCR.out hilt
                    rw [hca] at c13
                    clear hca
                    rw [if_pos hpl, rC_eq] at HD2
                    have HIc : Hid (Have wr s.cases[i].ba s.cases[i].bc s.cases[i].body) := (Ca.in_iff.1 ((St.in_iff.1 (HI1.out.stay hbq)).2.2.2.2.2.2.2.2 _ (List.getElem_mem hilt))).2
                    have HZc : Hid (ssz s.cases[i].body ≤ k) := by
                      have h1 := csz_mem (List.getElem_mem hilt)
                      have h2 := (s.cases[i]).sz_eq
                      have h3 := s.sz_eq
                      have h4 := HZ.out
                      show ssz s.cases[i].body ≤ k
                      omega
                    generalize s.cases[i] = y at *
                    go_wp2_with fail
                    refine (IH.out y.body y.ba y.bc (left - p - 1) _ HZc.out HIc.out (by omega) (by omega)).mono ?_
                    have b4 := rSs_bd y.body (left - p - 1) 0
                    generalize rSs y.body (left - p - 1) 0 = q4 at b4 HD2 ⊢
                    rintro e w7 ⟨rfl, hb7⟩
                    have hb7' := hbq.trans (hb7.mono hbq.size)
                    clear hb7 c13 d0 d1
                    go_wp2_with fail
                    go_roundw
                    case rel =>
                      refine ⟨i + 1, p + (1 + q4), by omega, by go_num, by go_num, by omega, by omega, ?_, hb7'⟩
                      rw [← HPC.out, HD2.out]
                    case measure => simp [intOf]; omega
                  · rw [if_neg hpl] at HD2
                    have hpe : rCs s.cases left n4 = p := by rw [← HPC.out, HD2.out]
                    have c12 := CX.out _ hbq 12 _ rfl
                    go_wp2_with fail
                    refine (IH.out s.els s.ea s.ec (left - p) _ (by have := s.sz_eq; have := HZ.out; omega) (St.in_iff.1 (HI1.out.stay hbq)).2.2.2.2.2.2.1 (by omega) (by omega)).mono ?_
                    have b5 := rSs_bd s.els (left - p) 0
                    have EQ2 : Hid (rS s left m = p + rSs s.els (left - p) 0) := by show _ = _; rw [EQ.out, hpe]; rfl
                    generalize rSs s.els (left - p) 0 = q5 at b5 EQ2 ⊢
                    rintro e w8 ⟨rfl, hb8⟩
                    have hb8' := hb1.trans ((hbq.trans (hb8.mono hbq.size)).mono hb1.size)
                    clear hb8 c12 c13 hpe
                    go_wp2_with fail
                    go_roundw
                    case rel =>
                      refine ⟨j + 1, p + q5, by omega, by go_num, by go_num, by omega, by omega, ?_, hb8'⟩
                      rw [← HC.out, HD.out, EQ2.out]
                    case measure => simp [intOf]; omega
                · obtain rfl : i = s.cases.length := by omega
                  have hpe : rCs s.cases left n4 = p := by rw [← HPC.out, List.drop_eq_nil_of_le (Nat.le_refl _), rCs]
                  have c12 := CX.out _ hbq 12 _ rfl
                  go_wp2_with fail
                  refine (IH.out s.els s.ea s.ec (left - p) _ (by have := s.sz_eq; have := HZ.out; omega) (St.in_iff.1 (HI1.out.stay hbq)).2.2.2.2.2.2.1 (by omega) (by omega)).mono ?_
                  have b5 := rSs_bd s.els (left - p) 0
                  have EQ2 : Hid (rS s left m = p + rSs s.els (left - p) 0) := by show _ = _; rw [EQ.out, hpe]; rfl
                  generalize rSs s.els (left - p) 0 = q5 at b5 EQ2 ⊢
                  rintro e w8 ⟨rfl, hb8⟩
                  have hb8' := hb1.trans ((hbq.trans (hb8.mono hbq.size)).mono hb1.size)
                  clear hb8 c12 c13 hpe
                  go_wp2_with fail
                  go_roundw
                  case rel =>
                    refine ⟨j + 1, p + q5, by omega, by go_num, by go_num, by omega, by omega, ?_, hb8'⟩
                    rw [← HC.out, HD.out, EQ2.out]
                  case measure => simp [intOf]; omega
          · cases hzb : zeroE s.b
            · have EQ : Hid (rS s left m = rB s.els left (rCs s.cases left ((m + 1) + (1 + rL s.b.args (left - (m + 1) - 1) 0) + rSs s.body (left - ((m + 1) + (1 + rL s.b.args (left - (m + 1) - 1) 0))) 0))) := by
                show _ = _; rw [rS_eq, rZ_t hza, rZ_f hzb]; rfl
              rw [hza] at HZA
              rw [hzb] at HZB
              go_wp2_with fail
              obtain ⟨W1, hW1⟩ : ∃ W1, wr.alloc (.cells #[.int .i64 s.kind, .string s.name, .int .i64 s.n, .int .i64 s.a.kind, .int .i64 s.a.n, .string s.a.name, .slice s.a.a s.a.args.length s.a.cap, .int .i64 s.b.kind, .int .i64 s.b.n, .string s.b.name, .slice s.b.a s.b.args.length s.b.cap, .slice s.ba s.body.length s.bc, .slice s.ea s.els.length s.ec, .slice s.ca s.cases.length s.cc] 53) = W1 := ⟨_, rfl⟩
              have BX : Hid (∀ (j : Nat) v, s.cells[j]? = some v → W1.cell? ⟨wr.heap.size, j, none⟩ = some v) := by
                show ∀ (j : Nat) v, _; intro j v h
                rw [← hW1, World.cell?_alloc_at _ _ _ _ rfl]; simpa [St.cells] using h
              have hb1 : Below w.heap.size w W1 := by rw [← hW1]; exact hb.alloc hws _
              have hbr : Below wr.heap.size wr W1 := by rw [← hW1]; exact (Below.refl _ wr).alloc (Nat.le_refl _) _
              have hs1 : wr.heap.size < W1.heap.size := by rw [← hW1]; simp
              rw [hW1]
              clear hW1 c0 c1 c2 c3 c4 c5 c6 c7 c8 c9 c10 c11 c12 c13
              have HI1 : Hid (s.In W1) := HI.out.stay hbr
              obtain ⟨Z, hZ⟩ : ∃ Z, wr.heap.size = Z := ⟨_, rfl⟩
              rw [hZ] at BX hs1 ⊢
              have CX : Hid (∀ w', Below W1.heap.size W1 w' → ∀ (j : Nat) v, s.cells[j]? = some v → w'.cell? ⟨Z, j, none⟩ = some v) := fun w' h j v e => (h.cell (p := ⟨Z, j, none⟩) hs1).trans (BX.out j v e)
              clear hbr hZ hb hws
              refine (HZA.out W1).mono ?_
              rintro e w2 ⟨rfl, hb2⟩
              have c7 := CX.out _ hb2 7 _ rfl
              have c8 := CX.out _ hb2 8 _ rfl
              have c9 := CX.out _ hb2 9 _ rfl
              have c10 := CX.out _ hb2 10 _ rfl
              go_wp2_with fail
              refine (HZB.out _).mono ?_
              rintro e w4 ⟨rfl, hb4⟩
              have hb4' := hb2.trans (hb4.mono hb2.size)
              clear hb2 hb4 c7 c8 c9 c10
              have c10 := CX.out _ hb4' 10 _ rfl
              go_wp2_with fail
              refine (rexprs_any s.b.args s.b.a s.b.cap (left - (m + 1) - 1) _ ((St.in_iff.1 (HI1.out.stay hb4')).2.2.2.2.1.have) (by omega) (by omega)).mono ?_
              have b2 := rL_bd s.b.args (left - (m + 1) - 1) 0
              generalize rL s.b.args (left - (m + 1) - 1) 0 = q2 at b2 EQ ⊢
              rintro e w5 ⟨rfl, hb5⟩
              have hb5' := hb4'.trans (hb5.mono hb4'.size)
              clear hb4' hb5 c10
              have c11 := CX.out _ hb5' 11 _ rfl
              go_wp2_with fail
              refine (IH.out s.body s.ba s.bc (left - ((m + 1) + (1 + q2))) _ (by have := s.sz_eq; have := HZ.out; omega) (St.in_iff.1 (HI1.out.stay hb5')).2.2.2.2.2.1 (by omega) (by omega)).mono ?_
              have b3 := rSs_bd s.body (left - ((m + 1) + (1 + q2))) 0
              generalize rSs s.body (left - ((m + 1) + (1 + q2))) 0 = q3 at b3 EQ ⊢
              rintro e w6 ⟨rfl, hb6⟩
              have hb6' := hb5'.trans (hb6.mono hb5'.size)
              clear hb5' hb6 c11
              obtain ⟨n4, hn4⟩ : ∃ n4, (m + 1) + (1 + q2) + q3 = n4 := ⟨_, rfl⟩
              have hn4b : 0 ≤ n4 ∧ n4 ≤ left + 3 := by omega
              rw [hn4] at EQ
              have HN4 := show Hid _ from hn4
              clear hn4
              go_wp2_with fail
              go_loopw [5, 8] (fun t5 t8 wq => ∃ (i : Nat) (p : Int), i ≤ s.cases.length ∧ t5 = .int .i64 p ∧ t8 = .int .i64 i ∧ 0 ≤ p ∧ p ≤ left + 3 ∧ rCs (s.cases.drop i) left p = rCs s.cases left n4 ∧ Below W1.heap.size W1 wq) (fun _ t8 _ => s.cases.length - (intOf t8).toNat)
              case atStart => exact ⟨0, n4, Nat.zero_le _, by have := HN4.out; go_num, rfl, hn4b.1, hn4b.2, by simp, hb6'⟩
              case round =>
                obtain ⟨i, p, hi, rfl, rfl, hp0, hp1, hpc, hbq⟩ := hrel
                have HPC : Hid (rCs (s.cases.drop i) left p = rCs s.cases left n4) := hpc
                clear hpc
                obtain ⟨hcl, hcc, _, hcr⟩ := (St.in_iff.1 (HI1.out.stay hbq)).2.2.2.2.2.2.2.1
                have HCR : Hid (RowIn wr s.ca 2 (s.cases.map Ca.cells)) := hcr
                clear hcr
                have c13 := CX.out _ hbq 13 _ rfl
                by_cases hilt : i < s.cases.length
                · have hili : (i : Int) < (s.cases.length : Int) := by omega
                  have HD2 : Hid (rCs (s.cases.drop i) left p = if p ≤ left then rCs (s.cases.drop (i + 1)) left (p + (1 + rC s.cases[i] (left - p - 1))) else p) := rCs_drop hilt
                  by_cases hpl : p ≤ left
                  · obtain ⟨b', o', hca, d0, d1⟩ := rowC_at HCR.out hilt
                    rw [hca] at c13
                    clear hca
                    rw [if_pos hpl, rC_eq] at HD2
                    have HIc : Hid (Have wr s.cases[i].ba s.cases[i].bc s.cases[i].body) := (Ca.in_iff.1 ((St.in_iff.1 (HI1.out.stay hbq)).2.2.2.2.2.2.2.2 _ (List.getElem_mem hilt))).2
                    have HZc : Hid (ssz s.cases[i].body ≤ k) := by
                      have h1 := csz_mem (List.getElem_mem hilt)
                      have h2 := (s.cases[i]).sz_eq
                      have h3 := s.sz_eq
                      have h4 := HZ.out
                      show ssz s.cases[i].body ≤ k
                      omega
                    generalize s.cases[i] = y at *
                    go_wp2_with fail
                    refine (IH.out y.body y.ba y.bc (left - p - 1) _ HZc.out HIc.out (by omega) (by omega)).mono ?_
                    have b4 := rSs_bd y.body (left - p - 1) 0
                    generalize rSs y.body (left - p - 1) 0 = q4 at b4 HD2 ⊢
                    rintro e w7 ⟨rfl, hb7⟩
                    have hb7' := hbq.trans (hb7.mono hbq.size)
                    clear hb7 c13 d0 d1
                    go_wp2_with fail
                    go_roundw
                    case rel =>
                      refine ⟨i + 1, p + (1 + q4), by omega, by go_num, by go_num, by omega, by omega, ?_, hb7'⟩
                      rw [← HPC.out, HD2.out]
                    case measure => simp [intOf]; omega
                  · rw [if_neg hpl] at HD2
                    have hpe : rCs s.cases left n4 = p := by rw [← HPC.out, HD2.out]
                    have c12 := CX.out _ hbq 12 _ rfl
                    go_wp2_with fail
                    refine (IH.out s.els s.ea s.ec (left - p) _ (by have := s.sz_eq; have := HZ.out; omega) (St.in_iff.1 (HI1.out.stay hbq)).2.2.2.2.2.2.1 (by omega) (by omega)).mono ?_
                    have b5 := rSs_bd s.els (left - p) 0
                    have EQ2 : Hid (rS s left m = p + rSs s.els (left - p) 0) := by show _ = _; rw [EQ.out, hpe]; rfl
                    generalize rSs s.els (left - p) 0 = q5 at b5 EQ2 ⊢
                    rintro e w8 ⟨rfl, hb8⟩
                    have hb8' := hb1.trans ((hbq.trans (hb8.mono hbq.size)).mono hb1.size)
                    clear hb8 c12 c13 hpe
                    go_wp2_with fail
                    go_roundw
                    case rel =>
                      refine ⟨j + 1, p + q5, by omega, by go_num, by go_num, by omega, by omega, ?_, hb8'⟩
                      rw [← HC.out, HD.out, EQ2.out]
                    case measure => simp [intOf]; omega
                · obtain rfl : i = s.cases.length := by omega
                  have hpe : rCs s.cases left n4 = p := by rw [← HPC.out, List.drop_eq_nil_of_le (Nat.le_refl _), rCs]
                  have c12 := CX.out _ hbq 12 _ rfl
                  go_wp2_with fail
                  refine (IH.out s.els s.ea s.ec (left - p) _ (by have := s.sz_eq; have := HZ.out; omega) (St.in_iff.1 (HI1.out.stay hbq)).2.2.2.2.2.2.1 (by omega) (by omega)).mono ?_
                  have b5 := rSs_bd s.els (left - p) 0
                  have EQ2 : Hid (rS s left m = p + rSs s.els (left - p) 0) := by show _ = _; rw [EQ.out, hpe]; rfl
                  generalize rSs s.els (left - p) 0 = q5 at b5 EQ2 ⊢
                  rintro e w8 ⟨rfl, hb8⟩
                  have hb8' := hb1.trans ((hbq.trans (hb8.mono hbq.size)).mono hb1.size)
                  clear hb8 c12 c13 hpe
                  go_wp2_with fail
                  go_roundw
                  case rel =>
                    refine ⟨j + 1, p + q5, by omega, by go_num, by go_num, by omega, by omega, ?_, hb8'⟩
                    rw [← HC.out, HD.out, EQ2.out]
                  case measure => simp [intOf]; omega
            · have EQ : Hid (rS s left m = rB s.els left (rCs s.cases left (m + 1 + rSs s.body (left - (m + 1)) 0))) := by
                show _ = _; rw [rS_eq, rZ_t hza, rZ_t hzb]; rfl
              rw [hza] at HZA
              rw [hzb] at HZB
              go_wp2_with fail
              obtain ⟨W1, hW1⟩ : ∃ W1, wr.alloc (.cells #[.int .i64 s.kind, .string s.name, .int .i64 s.n, .int .i64 s.a.kind, .int .i64 s.a.n, .string s.a.name, .slice s.a.a s.a.args.length s.a.cap, .int .i64 s.b.kind, .int .i64 s.b.n, .string s.b.name, .slice s.b.a s.b.args.length s.b.cap, .slice s.ba s.body.length s.bc, .slice s.ea s.els.length s.ec, .slice s.ca s.cases.length s.cc] 53) = W1 := ⟨_, rfl⟩
              have BX : Hid (∀ (j : Nat) v, s.cells[j]? = some v → W1.cell? ⟨wr.heap.size, j, none⟩ = some v) := by
                show ∀ (j : Nat) v, _; intro j v h
                rw [← hW1, World.cell?_alloc_at _ _ _ _ rfl]; simpa [St.cells] using h
              have hb1 : Below w.heap.size w W1 := by rw [← hW1]; exact hb.alloc hws _
              have hbr : Below wr.heap.size wr W1 := by rw [← hW1]; exact (Below.refl _ wr).alloc (Nat.le_refl _) _
              have hs1 : wr.heap.size < W1.heap.size := by rw [← hW1]; simp
              rw [hW1]
              clear hW1 c0 c1 c2 c3 c4 c5 c6 c7 c8 c9 c10 c11 c12 c13
              have HI1 : Hid (s.In W1) := HI.out.stay hbr
              obtain ⟨Z, hZ⟩ : ∃ Z, wr.heap.size = Z := ⟨_, rfl⟩
              rw [hZ] at BX hs1 ⊢
              have CX : Hid (∀ w', Below W1.heap.size W1 w' → ∀ (j : Nat) v, s.cells[j]? = some v → w'.cell? ⟨Z, j, none⟩ = some v) := fun w' h j v e => (h.cell (p := ⟨Z, j, none⟩) hs1).trans (BX.out j v e)
              clear hbr hZ hb hws
              refine (HZA.out W1).mono ?_
              rintro e w2 ⟨rfl, hb2⟩
              have c7 := CX.out _ hb2 7 _ rfl
              have c8 := CX.out _ hb2 8 _ rfl
              have c9 := CX.out _ hb2 9 _ rfl
              have c10 := CX.out _ hb2 10 _ rfl
              go_wp2_with fail
              refine (HZB.out _).mono ?_
              rintro e w4 ⟨rfl, hb4⟩
              have hb4' := hb2.trans (hb4.mono hb2.size)
              clear hb2 hb4 c7 c8 c9 c10
              have c11 := CX.out _ hb4' 11 _ rfl
              go_wp2_with fail
              refine (IH.out s.body s.ba s.bc (left - (m + 1)) _ (by have := s.sz_eq; have := HZ.out; omega) (St.in_iff.1 (HI1.out.stay hb4')).2.2.2.2.2.1 (by omega) (by omega)).mono ?_
              have b3 := rSs_bd s.body (left - (m + 1)) 0
              generalize rSs s.body (left - (m + 1)) 0 = q3 at b3 EQ ⊢
              rintro e w6 ⟨rfl, hb6⟩
              have hb6' := hb4'.trans (hb6.mono hb4'.size)
              clear hb4' hb6 c11
              obtain ⟨n4, hn4⟩ : ∃ n4, m + 1 + q3 = n4 := ⟨_, rfl⟩
              have hn4b : 0 ≤ n4 ∧ n4 ≤ left + 3 := by omega
              rw [hn4] at EQ
              have HN4 := show Hid _ from hn4
              clear hn4
              go_wp2_with fail
              go_loopw [5, 8] (fun t5 t8 wq => ∃ (i : Nat) (p : Int), i ≤ s.cases.length ∧ t5 = .int .i64 p ∧ t8 = .int .i64 i ∧ 0 ≤ p ∧ p ≤ left + 3 ∧ rCs (s.cases.drop i) left p = rCs s.cases left n4 ∧ Below W1.heap.size W1 wq) (fun _ t8 _ => s.cases.length - (intOf t8).toNat)
              case atStart => exact ⟨0, n4, Nat.zero_le _, by have := HN4.out; go_num, rfl, hn4b.1, hn4b.2, by simp, hb6'⟩
              case round =>
                obtain ⟨i, p, hi, rfl, rfl, hp0, hp1, hpc, hbq⟩ := hrel
                have HPC : Hid (rCs (s.cases.drop i) left p = rCs s.cases left n4) := hpc
                clear hpc
                obtain ⟨hcl, hcc, _, hcr⟩ := (St.in_iff.1 (HI1.out.stay hbq)).2.2.2.2.2.2.2.1
                have HCR : Hid (RowIn wr s.ca 2 (s.cases.map Ca.cells)) := hcr
                clear hcr
                have c13 := CX.out _ hbq 13 _ rfl
                by_cases hilt : i < s.cases.length
                · have hili : (i : Int) < (s.cases.length : Int) := by omega
                  have HD2 : Hid (rCs (s.cases.drop i) left p = if p ≤ left then rCs (s.cases.drop (i + 1)) left (p + (1 + rC s.cases[i] (left - p - 1))) else p) := rCs_drop hilt
                  by_cases hpl : p ≤ left
                  · obtain ⟨b', o', hca, d0, d1⟩ := rowC_at HCR.out hilt
                    rw [hca] at c13
                    clear hca
                    rw [if_pos hpl, rC_eq] at HD2
                    have HIc : Hid (Have wr s.cases[i].ba s.cases[i].bc s.cases[i].body) := (Ca.in_iff.1 ((St.in_iff.1 (HI1.out.stay hbq)).2.2.2.2.2.2.2.2 _ (List.getElem_mem hilt))).2
                    have HZc : Hid (ssz s.cases[i].body ≤ k) := by
                      have h1 := csz_mem (List.getElem_mem hilt)
                      have h2 := (s.cases[i]).sz_eq
                      have h3 := s.sz_eq
                      have h4 := HZ.out
                      show ssz s.cases[i].body ≤ k
                      omega
                    generalize s.cases[i] = y at *
                    go_wp2_with fail
                    refine (IH.out y.body y.ba y.bc (left - p - 1) _ HZc.out HIc.out (by omega) (by omega)).mono ?_
                    have b4 := rSs_bd y.body (left - p - 1) 0
                    generalize rSs y.body (left - p - 1) 0 = q4 at b4 HD2 ⊢
                    rintro e w7 ⟨rfl, hb7⟩
                    have hb7' := hbq.trans (hb7.mono hbq.size)
                    clear hb7 c13 d0 d1
                    go_wp2_with fail
                    go_roundw
                    case rel =>
                      refine ⟨i + 1, p + (1 + q4), by omega, by go_num, by go_num, by omega, by omega, ?_, hb7'⟩
                      rw [← HPC.out, HD2.out]
                    case measure => simp [intOf]; omega
                  · rw [if_neg hpl] at HD2
                    have hpe : rCs s.cases left n4 = p := by rw [← HPC.out, HD2.out]
                    have c12 := CX.out _ hbq 12 _ rfl
                    go_wp2_with fail
                    refine (IH.out s.els s.ea s.ec (left - p) _ (by have := s.sz_eq; have := HZ.out; omega) (St.in_iff.1 (HI1.out.stay hbq)).2.2.2.2.2.2.1 (by omega) (by omega)).mono ?_
                    have b5 := rSs_bd s.els (left - p) 0
                    have EQ2 : Hid (rS s left m = p + rSs s.els (left - p) 0) := by show _ = _; rw [EQ.out, hpe]; rfl
                    generalize rSs s.els (left - p) 0 = q5 at b5 EQ2 ⊢
                    rintro e w8 ⟨rfl, hb8⟩
                    have hb8' := hb1.trans ((hbq.trans (hb8.mono hbq.size)).mono hb1.size)
                    clear hb8 c12 c13 hpe
                    go_wp2_with fail
                    go_roundw
                    case rel =>
                      refine ⟨j + 1, p + q5, by omega, by go_num, by go_num, by omega, by omega, ?_, hb8'⟩
                      rw [← HC.out, HD.out, EQ2.out]
                    case measure => simp [intOf]; omega
                · obtain rfl : i = s.cases.length := by omega
                  have hpe : rCs s.cases left n4 = p := by rw [← HPC.out, List.drop_eq_nil_of_le (Nat.le_refl _), rCs]
                  have c12 := CX.out _ hbq 12 _ rfl
                  go_wp2_with fail
                  refine (IH.out s.els s.ea s.ec (left - p) _ (by have := s.sz_eq; have := HZ.out; omega) (St.in_iff.1 (HI1.out.stay hbq)).2.2.2.2.2.2.1 (by omega) (by omega)).mono ?_
                  have b5 := rSs_bd s.els (left - p) 0
                  have EQ2 : Hid (rS s left m = p + rSs s.els (left - p) 0) := by show _ = _; rw [EQ.out, hpe]; rfl
                  generalize rSs s.els (left - p) 0 = q5 at b5 EQ2 ⊢
                  rintro e w8 ⟨rfl, hb8⟩
                  have hb8' := hb1.trans ((hbq.trans (hb8.mono hbq.size)).mono hb1.size)
                  clear hb8 c12 c13 hpe
                  go_wp2_with fail
                  go_roundw
                  case rel =>
                    refine ⟨j + 1, p + q5, by omega, by go_num, by go_num, by omega, by omega, ?_, hb8'⟩
                    rw [← HC.out, HD.out, EQ2.out]
                  case measure => simp [intOf]; omega
        · rw [if_neg hm] at HD
          go_wp2_with fail
          go_ret
          exact ⟨ret_int (by rw [← HC.out, HD.out]), hb⟩
      · obtain rfl : j = l.length := by omega
        go_wp2_with fail
        go_ret
        exact ⟨ret_int (by rw [← HC.out, List.drop_eq_nil_of_le (Nat.le_refl _), rSs]), hb⟩
theorem rstmts_any (l : List St) (a : Option Addr) (c : Nat) (left : Int) (w : World) (hin : Have w a c l) (h0 : -8 ≤ left) (h1 : left ≤ 4611686018427387904) :
    Calls Tryd.prog 27 #[.slice a l.length c, .int .i64 left] w fun e w' => e = .returned (.int .i64 (rSs l left 0)) ∧ Below w.heap.size w w' := rstmts_k _ l a c left w (Nat.le_refl _) hin h0 h1
end Go.Proofs.YtbpemackmadhgabDoor

/- The two programs of the statements' first question, and what the plain functions say of them. -/
namespace Go.Proofs.YtbpemackmadhgabDoor
open Go.RowKit Go.Sort

def zEx : Ex := .mk 0 0 ⟨#[]⟩ none 0 []
def aX : Ex := .mk 2 0 ⟨#[110]⟩ none 0 []
def aNeg (B : Nat) : Ex := .mk 5 0 ⟨#[]⟩ (some ⟨B + 1 + 1 + 1, 0, none⟩) 1 [aX]
def aRet (B : Nat) : St := .mk 9 ⟨#[]⟩ 0 (aNeg B) zEx none 0 [] none 0 [] none 0 []
def aLet : St := .mk 1 ⟨#[]⟩ 1 zEx zEx none 0 [] none 0 [] none 0 []
def aPa : Pa := ⟨⟨#[110]⟩, 0, 10⟩
def aFn (B : Nat) (l : List St) : Fu := ⟨⟨#[102]⟩, some ⟨B + 1 + 1, 0, none⟩, 1, [aPa], some ⟨B + 1 + 1 + 1 + 1, 0, none⟩, 2, l⟩
def aPr (B g : Nat) (l : List St) : Pr := ⟨some ⟨B + 1, 0, none⟩, 2, [-5, 0], some ⟨g, 0, none⟩, 1, [aFn B l]⟩
theorem zE_z : zeroE zEx = true := by simp [zeroE, zEx, Ex.kind, Ex.n, Ex.name, Ex.args]
theorem zE_neg (B : Nat) : zeroE (aNeg B) = false := by simp [zeroE, aNeg, Ex.kind]
theorem us_z : usesE zEx = 0 := by simp [usesE, zEx, Ex.name, Ex.n]; decide
theorem us_x : usesE aX = 1 := by simp [usesE, aX, Ex.name, Ex.n]; decide
theorem us_neg (B : Nat) : usesE (aNeg B) = 0 := by simp [usesE, aNeg, Ex.name, Ex.n]; decide
theorem us_ret (B : Nat) : usesS (aRet B) = 4 := by
  simp [usesS, aRet, St.name, St.n, St.a, St.b, St.body, St.els, St.cases, zE_z, zE_neg]; decide
theorem us_let : usesS aLet = 2 := by
  simp [usesS, aLet, St.name, St.n, St.a, St.b, St.body, St.els, St.cases, zE_z]; decide
theorem nm_n : nameZ ⟨#[110]⟩ = true := by decide
theorem nm_f : nameZ ⟨#[102]⟩ = true := by decide
theorem self_x : selfE aX = 0 := by unfold selfE; rw [us_x]; decide
theorem self_neg (B : Nat) : selfE (aNeg B) = 0 := by
  unfold selfE; rw [us_neg]
  show (if isE 5 = false then (5 : Int) else if (bits .andNot .i64 0 (formE 5).fields != 0) = true then 5 else if ((formE 5).args != -1 && (((1 : Nat) : Int) != (formE 5).args)) = true then 5 else if (bits .and .i64 (formE 5).fields 1 != 0 && !nameZ ⟨#[]⟩) = true then 8 else if (0 : Int) < 0 then 1 else 0) = 0
  decide
theorem chk_x (lv : Int) (h : lv ≤ 32) : chkE aX lv = 0 := by
  rw [chkE_eq, if_neg (by omega), self_x]; rfl
theorem chk_neg (B : Nat) (lv : Int) (h : lv ≤ 31) : chkE (aNeg B) lv = 0 := by
  rw [chkE_eq, if_neg (by omega), self_neg, if_neg (by simp)]
  show chkL [aX] (lv + 1) = 0
  rw [chkL, chk_x _ (by omega)]; rfl
theorem selfS_ret (B : Nat) : selfS (aRet B) = 0 := by
  unfold selfS; rw [us_ret]
  show (if isS 9 = false then (5 : Int) else if (bits .andNot .i64 4 (fldS 9) != 0) = true then 5 else if (bits .and .i64 (fldS 9) 1 != 0 && !nameZ ⟨#[]⟩) = true then 8 else if (decide ((0 : Int) < 0) || leastC []) = true then 1 else if ((9 : Int) == 10 && (5 : Int) != 4) = true then 5 else 0) = 0
  decide
theorem selfS_let : selfS aLet = 5 := by unfold selfS; rw [us_let]; decide
theorem chkS_ret (B : Nat) : chkS (aRet B) 1 = 0 := by
  unfold chkS; rw [if_neg (by omega), selfS_ret, if_neg (by simp)]
  show (if _ then _ else _) = _
  rw [show (aRet B).a = aNeg B from rfl, chk_neg B _ (by omega)]
  show (if (bits .and .i64 (fldS 9) 4 != 0 && (0 : Int) != 0) = true then (0 : Int) else if (bits .and .i64 (fldS 9) 8 != 0) = true then chkE zEx 2 else 0) = 0
  rw [if_neg (by decide), if_neg (by decide)]
theorem chkS_let : chkS aLet 1 = 5 := by unfold chkS; rw [if_neg (by omega), selfS_let]; rfl
theorem chkT_ret (B : Nat) (at_ : Int) : chkT (aRet B) 1 at_ = (0, at_ + 1) := by
  rw [chkT_eq, chkS_ret, if_neg (by simp)]; rfl
theorem chkT_let (at_ : Int) : chkT aLet 1 at_ = (5, at_ + 1) := by
  rw [chkT_eq, chkS_let]; rfl
theorem chkSs_q (B : Nat) : chkSs [aRet B] 1 0 = (0, 1) := by
  rw [chkSs, chkT_ret]; rfl
theorem chkSs_p (B : Nat) : chkSs [aRet B, aLet] 1 0 = (5, 2) := by
  rw [chkSs, chkT_ret, thenZ, if_neg (by simp), chkSs, chkT_let]; rfl
theorem head_a (B : Nat) (l : List St) : headZ (aFn B l) = 0 := by
  unfold headZ; rw [show (aFn B l).name = ⟨#[102]⟩ from rfl, nm_f]
  show (if _ then _ else _) = _
  rw [if_neg (by simp), if_neg (by show ¬ 8 < 1; omega)]
  show parsZ [aPa] = 0
  rw [parsZ, show aPa.name = ⟨#[110]⟩ from rfl, nm_n]; decide
theorem cnt_ret (B : Nat) : cntS (aRet B) 0 = 3 := by
  rw [cntS_eq]
  show cntB _ (cntZ zEx (cntZ (aNeg B) (0 + (1 + 0)))) = 3
  rw [cntZ, cntZ, zE_neg, zE_z]; rfl
theorem cnt_let : cntS aLet 3 = 4 := by
  rw [cntS_eq]
  show cntB _ (cntZ zEx (cntZ zEx (3 + (1 + 0)))) = 4
  rw [cntZ, cntZ, zE_z]; rfl
theorem nodes_q (B g : Nat) : nodesZ (aPr B g [aRet B]) = 3 := by
  unfold nodesZ
  show min (cntF [aFn B [aRet B]] 0) 4097 = 3
  rw [cntF, cntF]
  show min (cntSs [aRet B] 0) 4097 = 3
  rw [cntSs, if_neg (by omega), cnt_ret]; rfl
theorem nodes_p (B g : Nat) : nodesZ (aPr B g [aRet B, aLet]) = 4 := by
  unfold nodesZ
  show min (cntF [aFn B [aRet B, aLet]] 0) 4097 = 4
  rw [cntF, cntF]
  show min (cntSs [aRet B, aLet] 0) 4097 = 4
  rw [cntSs, if_neg (by omega), cnt_ret, cntSs, if_neg (by omega), cnt_let]; rfl
theorem chkF_q (B : Nat) : chkF (aFn B [aRet B]) = (0, 1) := by unfold chkF; rw [head_a, if_neg (by simp)]; exact chkSs_q B
theorem chkF_p (B : Nat) : chkF (aFn B [aRet B, aLet]) = (5, 2) := by unfold chkF; rw [head_a, if_neg (by simp)]; exact chkSs_p B
theorem check_q (B g : Nat) : checkZ (aPr B g [aRet B]) = (0, 0, 0) := by
  have hw : wholeZ (aPr B g [aRet B]) = 0 := by unfold wholeZ; rw [nodes_q]; rfl
  unfold checkZ; rw [hw, if_neg (by simp)]
  show chkFs [aFn B [aRet B]] 0 = _
  rw [chkFs, chkF_q]; rfl
theorem check_p (B g : Nat) : checkZ (aPr B g [aRet B, aLet]) = (5, 0, 2) := by
  have hw : wholeZ (aPr B g [aRet B, aLet]) = 0 := by unfold wholeZ; rw [nodes_p]; rfl
  unfold checkZ; rw [hw, if_neg (by simp)]
  show chkFs [aFn B [aRet B, aLet]] 0 = _
  rw [chkFs, chkF_p]; rfl
theorem ok_neg (B : Nat) : OkE (aNeg B) := ⟨1, chk_neg B 1 (by omega)⟩
def awText : List UInt8 := [119, 105, 100, 101, 110, 32, 45, 53, 44, 32, 48, 59, 10, 102, 110, 32, 102, 40, 110, 32, 105, 110, 32, 48, 46, 46, 49, 48, 41, 32, 123, 10, 32, 32, 114, 101, 116, 117, 114, 110, 32, 45, 110, 59, 10, 125, 10]
theorem text_q (B g : Nat) : txP (aPr B g [aRet B]) = awText := by
  have h0 : txE aX = [110] := by rw [txE_eq]; decide
  have h1 : txE (aNeg B) = [45, 110] := by
    rw [txE_eq]; show txOf 5 0 ⟨#[]⟩ [2] [txE aX] = _
    rw [h0]; decide
  have h2 : txS (aRet B) 1 = lineB 1 ([114, 101, 116, 117, 114, 110, 32] ++ txE (aNeg B) ++ [59]) := by unfold aRet; simp [txS]
  show txW [-5, 0] ++ txFs [aFn B [aRet B]] = _
  rw [txFs, txFs]
  unfold txF
  show txW [-5, 0] ++ (lineB 0 _ ++ txSs [aRet B] 1 ++ _ ++ []) = _
  rw [txSs, txSs, h2, h1]
  show txW [-5, 0] ++ (lineB 0 ([102, 110, 32] ++ [102] ++ [40] ++ comB [paB aPa] ++ [41, 32, 123]) ++ (lineB 1 ([114, 101, 116, 117, 114, 110, 32] ++ [45, 110] ++ [59]) ++ []) ++ lineB 0 [125] ++ []) = awText
  decide +kernel
theorem samE_refl_x : samE aX aX = true := by rw [samE_eq]; simp [aX, Ex.kind, Ex.n, Ex.name, Ex.args, samEs]
theorem samE_z : samE zEx zEx = true := by rw [samE_eq]; simp [zEx, Ex.kind, Ex.n, Ex.name, Ex.args, samEs]
theorem samE_neg (B : Nat) : samE (aNeg B) (aNeg B) = true := by rw [samE_eq]; simp [aNeg, Ex.kind, Ex.n, Ex.name, Ex.args, samEs, samE_refl_x]
theorem samS_ret (B : Nat) : samS (aRet B) (aRet B) = true := by rw [samS_eq]; simp [aRet, St.kind, St.name, St.n, St.a, St.b, St.body, St.els, St.cases, samE_neg, samE_z, samSs, samCs]
theorem same_qq (B g : Nat) : samPr (aPr B g [aRet B]) (aPr B g [aRet B]) = true := by
  simp [samPr, aPr, samI, samFs, samF, aFn, samPs, samP, samSs, samS_ret]
theorem same_pq (B g g' : Nat) : samPr (aPr B g [aRet B, aLet]) (aPr B g' [aRet B]) = false := by
  simp [samPr, aPr, samFs, samF, aFn, samSs]
end Go.Proofs.YtbpemackmadhgabDoor

/- The statements' own first question: answers that the document fixes. -/
namespace Go.Proofs.YtbpemackmadhgabDoor
open Go.RowKit Go.Sort

theorem flat_at (sz : Nat) : ∀ (rows : List (List Value)), (∀ r ∈ rows, r.length = sz) → ∀ (i j : Nat) cs v, rows[i]? = some cs → cs[j]? = some v → rows.flatten[i * sz + j]? = some v
  | [], _, i, j, cs, v, hi, _ => by simp at hi
  | r :: rs, h, 0, j, cs, v, hi, hj => by
    simp only [List.getElem?_cons_zero, Option.some.injEq] at hi
    subst hi
    have hlt := (List.getElem?_eq_some_iff.1 hj).1
    rw [List.flatten_cons, Nat.zero_mul, Nat.zero_add, List.getElem?_append_left hlt]; exact hj
  | r :: rs, h, i + 1, j, cs, v, hi, hj => by
    have hr := h r (by simp)
    rw [List.flatten_cons, List.getElem?_append_right (by rw [hr, Nat.succ_mul]; omega), hr, show (i + 1) * sz + j - sz = i * sz + j from by rw [Nat.succ_mul]; omega]
    exact flat_at sz rs (fun x hx => h x (by simp [hx])) i j cs v (by simpa using hi) hj
theorem rowIn_block {W : World} {g sz : Nat} {rows : List (List Value)} {arr : Array Value} {t : TypeId} {fz : Nat × Nat} (h : W.heap[g]? = some (.cells arr t fz)) (hf : arr.toList = rows.flatten ∨ ∃ rest, arr.toList = rows.flatten ++ rest) (hl : ∀ r ∈ rows, r.length = sz) : RowIn W (some ⟨g, 0, none⟩) sz rows := by
  intro i cs hi
  refine ⟨g, 0, rfl, fun j v hj => ?_⟩
  have h1 := flat_at sz rows hl i j cs v hi hj
  rw [Lib.cell_of_heap h, Nat.zero_add, ← Array.getElem?_toList]
  rcases hf with hf | ⟨rest, hf⟩
  · rw [hf]; exact h1
  · rw [hf, List.getElem?_append_left (List.getElem?_eq_some_iff.1 h1).1]; exact h1
theorem rowIn_nil {W : World} {a : Option Addr} {sz : Nat} : RowIn W a sz [] := fun i cs h => by simp at h

/-- The blocks in which the first question's lists lie. -/
structure Lay (W : World) (B : Nat) : Prop where
  l1 : W.heap[B + 1]? = some (.cells #[.int .i64 (-5), .int .i64 0] 2 (0, 0))
  l2 : W.heap[B + 1 + 1]? = some (.cells #[.string ⟨#[110]⟩, .int .i64 0, .int .i64 10] 50 (0, 0))
  l3 : W.heap[B + 1 + 1 + 1]? = some (.cells #[.int .i64 2, .int .i64 0, .string ⟨#[110]⟩, .slice none 0 0] 48 (0, 0))
  l4 : W.heap[B + 1 + 1 + 1 + 1]? = some (.cells #[.int .i64 9, .string ⟨#[]⟩, .int .i64 0, .int .i64 5, .int .i64 0, .string ⟨#[]⟩, .slice (some ⟨B + 1 + 1 + 1, 0, none⟩) 1 1, .int .i64 0, .int .i64 0, .string ⟨#[]⟩, .slice none 0 0, .slice none 0 0, .slice none 0 0, .slice none 0 0, .int .i64 1, .string ⟨#[]⟩, .int .i64 1, .int .i64 0, .int .i64 0, .string ⟨#[]⟩, .slice none 0 0, .int .i64 0, .int .i64 0, .string ⟨#[]⟩, .slice none 0 0, .slice none 0 0, .slice none 0 0, .slice none 0 0] 53 (0, 0))
theorem Lay.stay {W W' : World} {B : Nat} (h : Lay W B) (hb : Below W.heap.size W W') : Lay W' B := by
  have k : ∀ {g : Nat} {o : Obj}, W.heap[g]? = some o → W'.heap[g]? = some o := fun e => (hb.block _ (Array.getElem?_eq_some_iff.1 e).1).trans e
  exact ⟨k h.l1, k h.l2, k h.l3, k h.l4⟩
theorem i0 : I64 0 := ⟨by decide, by decide⟩
theorem i1 : I64 1 := ⟨by decide, by decide⟩
theorem i2 : I64 2 := ⟨by decide, by decide⟩
theorem i5 : I64 5 := ⟨by decide, by decide⟩
theorem i9 : I64 9 := ⟨by decide, by decide⟩
theorem i10 : I64 10 := ⟨by decide, by decide⟩
theorem im5 : I64 (-5) := ⟨by decide, by decide⟩
theorem n0 : (0 : Nat) ≤ 140737488351232 := by decide
theorem n1 : (1 : Nat) ≤ 140737488351232 := by decide
theorem lenE (l : List Ex) : ∀ r ∈ l.map Ex.cells, r.length = 4 := by intro r hr; obtain ⟨x, _, rfl⟩ := List.mem_map.1 hr; rfl
theorem lenS (l : List St) : ∀ r ∈ l.map St.cells, r.length = 14 := by intro r hr; obtain ⟨x, _, rfl⟩ := List.mem_map.1 hr; rfl
theorem lenP (l : List Pa) : ∀ r ∈ l.map Pa.cells, r.length = 3 := by intro r hr; obtain ⟨x, _, rfl⟩ := List.mem_map.1 hr; rfl
theorem lenF (l : List Fu) : ∀ r ∈ l.map Fu.cells, r.length = 3 := by intro r hr; obtain ⟨x, _, rfl⟩ := List.mem_map.1 hr; rfl
theorem lenI (l : List Int) : ∀ r ∈ l.map (fun z => ([.int .i64 z] : List Value)), r.length = 1 := by intro r hr; obtain ⟨x, _, rfl⟩ := List.mem_map.1 hr; rfl
theorem zEx_in (W : World) : zEx.In W := Ex.in_iff.2 ⟨i0, i0, n0, Nat.le_refl _, n0, fun _ => rfl, rowIn_nil, fun y hy => by cases hy⟩
theorem aX_in (W : World) : aX.In W := Ex.in_iff.2 ⟨i2, i0, n1, Nat.le_refl _, n0, fun _ => rfl, rowIn_nil, fun y hy => by cases hy⟩
theorem aNeg_in {W : World} {B : Nat} (h : Lay W B) : (aNeg B).In W :=
  Ex.in_iff.2 ⟨i5, i0, n0, Nat.le_refl _, (by show 1 * 56 ≤ 140737488351232; decide), (fun e => by cases e), rowIn_block (rows := [aX.cells]) h.l3 (.inl rfl) (lenE [aX]), fun y hy => by
    rcases List.mem_singleton.1 (show y ∈ [aX] from hy) with rfl
    exact aX_in W⟩
theorem have_nil (W : World) : Have W none 0 [] := ⟨⟨Nat.le_refl _, n0, fun _ => rfl, rowIn_nil⟩, fun y hy => by cases hy⟩
theorem aRet_in {W : World} {B : Nat} (h : Lay W B) : (aRet B).In W := St.in_iff.2 ⟨i9, n0, i0, aNeg_in h, zEx_in W, have_nil W, have_nil W, ⟨Nat.le_refl _, n0, fun _ => rfl, rowIn_nil⟩, fun y hy => by cases hy⟩
theorem aLet_in (W : World) : aLet.In W := St.in_iff.2 ⟨i1, n0, i1, zEx_in W, zEx_in W, have_nil W, have_nil W, ⟨Nat.le_refl _, n0, fun _ => rfl, rowIn_nil⟩, fun y hy => by cases hy⟩
theorem body_q {W : World} {B : Nat} (h : Lay W B) : Have W (some ⟨B + 1 + 1 + 1 + 1, 0, none⟩) 2 [aRet B] :=
  ⟨⟨by show 1 ≤ 2; decide, by decide, (fun e => by cases e), rowIn_block (rows := [(aRet B).cells]) h.l4 (.inr ⟨aLet.cells, rfl⟩) (lenS [aRet B])⟩, fun s hs => by rcases List.mem_singleton.1 hs with rfl; exact aRet_in h⟩
theorem body_p {W : World} {B : Nat} (h : Lay W B) : Have W (some ⟨B + 1 + 1 + 1 + 1, 0, none⟩) 2 [aRet B, aLet] :=
  ⟨⟨by show 2 ≤ 2; decide, by decide, (fun e => by cases e), rowIn_block (rows := [(aRet B).cells, aLet.cells]) h.l4 (.inl rfl) (lenS [aRet B, aLet])⟩, fun s hs => by
    rcases List.mem_cons.1 hs with rfl | hs
    · exact aRet_in h
    · rcases List.mem_singleton.1 hs with rfl; exact aLet_in W⟩
theorem aFn_in {W : World} {B : Nat} (h : Lay W B) {l : List St} (hl : Have W (some ⟨B + 1 + 1 + 1 + 1, 0, none⟩) 2 l) : (aFn B l).In W :=
  ⟨n1, Nat.le_refl _, (by show 1 * 32 ≤ 140737488351232; decide), (fun e => by cases e), rowIn_block (rows := [aPa.cells]) h.l2 (.inl rfl) (lenP [aPa]), (fun q hq => by rcases List.mem_singleton.1 (show q ∈ [aPa] from hq) with rfl; exact ⟨n1, i0, i10⟩), hl⟩
theorem aPr_in {W : World} {B g : Nat} (h : Lay W B) {l : List St} (hl : Have W (some ⟨B + 1 + 1 + 1 + 1, 0, none⟩) 2 l) (hg : W.heap[g]? = some (.cells #[.string ⟨#[102]⟩, .slice (some ⟨B + 1 + 1, 0, none⟩) 1 1, .slice (some ⟨B + 1 + 1 + 1 + 1, 0, none⟩) l.length 2] 36 (0, 0))) : (aPr B g l).In W :=
  ⟨Nat.le_refl _, (by show 2 * 8 ≤ 140737488351232; decide), (fun e => by cases e), rowIn_block (rows := [[.int .i64 (-5)], [.int .i64 0]]) h.l1 (.inl rfl) (lenI [-5, 0]), (fun z hz => by
    rcases List.mem_cons.1 (show z ∈ [(-5 : Int), 0] from hz) with rfl | hz
    · exact im5
    · rcases List.mem_singleton.1 hz with rfl; exact i0), Nat.le_refl _, (by show 1 * 64 ≤ 140737488351232; decide), (fun e => by cases e), rowIn_block (rows := [(aFn B l).cells]) hg (.inl rfl) (lenF [aFn B l]), (fun f hf => by
    rcases List.mem_singleton.1 (show f ∈ [aFn B l] from hf) with rfl; exact aFn_in h hl)⟩
/-- The first question's text, printed. -/
theorem awPrint (W : World) (B g : Nat) (h : Lay W B) (hg : W.heap[g]? = some (.cells #[.string ⟨#[102]⟩, .slice (some ⟨B + 1 + 1, 0, none⟩) 1 1, .slice (some ⟨B + 1 + 1 + 1 + 1, 0, none⟩) 1 2] 36 (0, 0))) (ht : Tabs W) (hnt : NumT W) :
    Calls Tryd.prog 11 #[(aPr B g [aRet B]).val] W fun e w' => e = .returned (.tuple #[sB awText, fltV 0 0 0]) ∧ Below W.heap.size W w' := by
  have := print_ok (aPr B g [aRet B]) W (aPr_in h (body_q h) hg) ht hnt (check_q B g) (by show 2 ≤ 16; decide) (fun f hf => by
    rcases List.mem_singleton.1 (show f ∈ [aFn B [aRet B]] from hf) with rfl
    refine ⟨fun s hs => ?_, fun q hq => ?_, by show 1 ≤ 8; decide⟩
    · rcases List.mem_singleton.1 (show s ∈ [aRet B] from hs) with rfl
      exact stmtD_le (stmt9 W (aRet B) rfl (aRet_in h) ht hnt (ok_neg B) (by show (aNeg B).sz ≤ _; rw [Ex.sz_args]; show szL [aX] + 1 ≤ _; decide)) (by decide)
    · rcases List.mem_singleton.1 (show q ∈ [aPa] from hq) with rfl
      decide +kernel) (by rw [text_q]; decide)
  rwa [text_q] at this
end Go.Proofs.YtbpemackmadhgabDoor

/- The statements' own first question answers yes. -/
namespace Go.Proofs.YtbpemackmadhgabDoor
open Go.RowKit Go.Sort

theorem equalIn_flt (a b c a' b' c' : Int) (w : World) : (Op.equalIn 10000 29 (fltV a b c) (fltV a' b' c')).run Tryd.prog w = .ok (a == a' && (b == b' && c == c')) w := by
  have u3 := Tryd.underlying3
  have a3 := Tryd.isAgg3
  have z3 := Tryd.sizeOf3
  have u31 := Tryd.underlying27
  have a31 := Tryd.isAgg27
  have z31 := Tryd.sizeOf27
  have hS : Tryd.prog.underlying 29 = some (.struct (Tryd.prog.fieldsOf 29)) := by kernel_rfl
  have hp : Tryd.prog.stoodInHeld 29 = false := by kernel_rfl
  unfold fltV
  rw [show (10000 : Nat) = 9999 + 1 from rfl, run_equalIn_agg w 9999 29 _ _ hS hp]
  simp only [Program.fieldsOf, Tryd.underlying29]
  go_simp
  by_cases h1 : a = a' <;> by_cases h2 : b = b' <;> by_cases h3 : c = c' <;> simp [h1, h2, h3]

theorem keep_heap {W : World} {k : Nat} {o : Obj} (h : W.heap[k]? = some o) (o' : Obj) : (W.alloc o').heap[k]? = some o := (Lib.alloc_old W o' k (Array.getElem?_eq_some_iff.1 h).1).trans h
theorem new_heap {W : World} {k : Nat} (o : Obj) (h : W.heap.size = k) : (W.alloc o).heap[k]? = some o := by rw [← h]; exact heap_alloc_new W o
theorem set_keep {W : World} {k : Nat} {o : Obj} (a : Addr) (v : Value) (h : W.heap[k]? = some o) (hk : k ≠ a.block) : (W.setCell a v).drew.heap[k]? = some o := (Below.heap_setCell W a v k hk).trans h
theorem set_same {W : World} {b : Nat} {cs : Array Value} {T : TypeId} {fz : Nat × Nat} (h : W.heap[b]? = some (.cells cs T fz)) (i : Nat) (v : Value) : (W.setCell ⟨b, i, none⟩ v).drew.heap[b]? = some (.cells (cs.setIfInBounds i v) T fz) := by
  show (W.setCell ⟨b, i, none⟩ v).heap[b]? = _
  simp [World.setCell, Array.getElem?_modify, h]
/-- The world in which the first question's first program lies. -/
def awW (w : World) : World := ((((((w.alloc (.cells #[.int .i64 2, .int .i64 0, .string ⟨#[110]⟩, .slice none 0 0] 48)).alloc (.cells #[.int .i64 (-5), .int .i64 0] 2)).alloc (.cells #[.string ⟨#[110]⟩, .int .i64 0, .int .i64 10] 50)).alloc (.cells #[.int .i64 2, .int .i64 0, .string ⟨#[110]⟩, .slice none 0 0] 48)).alloc (.cells #[.int .i64 9, .string ⟨#[]⟩, .int .i64 0, .int .i64 5, .int .i64 0, .string ⟨#[]⟩, .slice (some ⟨w.heap.size + 1 + 1 + 1, 0, none⟩) 1 1, .int .i64 0, .int .i64 0, .string ⟨#[]⟩, .slice none 0 0, .slice none 0 0, .slice none 0 0, .slice none 0 0, .int .i64 1, .string ⟨#[]⟩, .int .i64 1, .int .i64 0, .int .i64 0, .string ⟨#[]⟩, .slice none 0 0, .int .i64 0, .int .i64 0, .string ⟨#[]⟩, .slice none 0 0, .slice none 0 0, .slice none 0 0, .slice none 0 0] 53)).alloc (.cells #[.string ⟨#[102]⟩, .slice (some ⟨w.heap.size + 1 + 1, 0, none⟩) 1 1, .slice (some ⟨w.heap.size + 1 + 1 + 1 + 1, 0, none⟩) 2 2] 36)).alloc (.cells #[.slice (some ⟨w.heap.size + 1, 0, none⟩) 2 2, .slice (some ⟨w.heap.size + 1 + 1 + 1 + 1 + 1, 0, none⟩) 1 1] 25)
theorem awW_facts (w : World) : Lay (awW w) w.heap.size ∧ (awW w).heap[w.heap.size + 1 + 1 + 1 + 1 + 1]? = some (.cells #[.string ⟨#[102]⟩, .slice (some ⟨w.heap.size + 1 + 1, 0, none⟩) 1 1, .slice (some ⟨w.heap.size + 1 + 1 + 1 + 1, 0, none⟩) 2 2] 36 (0, 0)) ∧ (awW w).heap[w.heap.size + 1 + 1 + 1 + 1 + 1 + 1]? = some (.cells #[.slice (some ⟨w.heap.size + 1, 0, none⟩) 2 2, .slice (some ⟨w.heap.size + 1 + 1 + 1 + 1 + 1, 0, none⟩) 1 1] 25 (0, 0)) ∧ Below w.heap.size w (awW w) ∧ (awW w).heap.size = w.heap.size + 1 + 1 + 1 + 1 + 1 + 1 + 1 := by
  unfold awW
  refine ⟨⟨?_, ?_, ?_, ?_⟩, ?_, ?_, ?_, by simp⟩
  · exact keep_heap (keep_heap (keep_heap (keep_heap (keep_heap (new_heap _ (by simp)) _) _) _) _) _
  · exact keep_heap (keep_heap (keep_heap (keep_heap (new_heap _ (by simp)) _) _) _) _
  · exact keep_heap (keep_heap (keep_heap (new_heap _ (by simp)) _) _) _
  · exact keep_heap (keep_heap (new_heap _ (by simp)) _) _
  · exact keep_heap (new_heap _ (by simp)) _
  · exact new_heap _ (by simp)
  · exact Below.one (Below.one (Below.one (Below.one (Below.one (Below.one (Below.one (Below.refl _ w) _) _) _) _) _) _) _

set_option maxRecDepth 100000 in
set_option maxHeartbeats 16000000 in
theorem awake_any (w : World) (ht : Tabs w) (hnt : NumT w) : Calls Tryd.prog 6 #[] w fun e w' => e = .returned (.bool true) ∧ Below w.heap.size w w' := by
  obtain ⟨lay, k5, k6, hb0, hs0⟩ := awW_facts w
  have HT : Hid (Tabs w) := ht
  have HN : Hid (NumT w) := hnt
  clear ht hnt
  go_enter Tryd.func6, Tryd.ntmps6
  go_wp2_with fail
  obtain ⟨W7, hW7⟩ : ∃ W7, awW w = W7 := ⟨_, rfl⟩
  rw [hW7] at lay k5 k6 hb0 hs0
  unfold awW at hW7
  rw [hW7]
  clear hW7
  obtain ⟨B, hB⟩ : ∃ B, w.heap.size = B := ⟨_, rfl⟩
  have HB : Hid (w.heap.size = B) := hB
  rw [hB] at lay k5 k6 hs0 ⊢
  have hck := check_any (aPr B (B + 1 + 1 + 1 + 1 + 1) [aRet B, aLet]) W7 (aPr_in lay (body_p lay) k5) (HT.out.stay hb0)
  rw [check_p] at hck
  have HCK : Hid (Calls Tryd.prog 7 #[.agg #[.slice (some ⟨B + 1, 0, none⟩) 2 2, .slice (some ⟨B + 1 + 1 + 1 + 1 + 1, 0, none⟩) 1 1]] W7 fun e w' => e = .returned (fltV 5 0 2) ∧ Below W7.heap.size W7 w') := hck
  clear hck hB
  refine HCK.out.mono ?_
  rintro e w1 ⟨rfl, hb1⟩
  have lay1 := lay.stay hb1
  have K5 := (hb1.block (B + 1 + 1 + 1 + 1 + 1) (by omega)).trans k5
  have K6 := (hb1.block (B + 1 + 1 + 1 + 1 + 1 + 1) (by omega)).trans k6
  have hbw := Below.on hb0 hb1
  have HLAY : Hid (Lay w1 B) := lay1
  have p0 : w1.cell? ⟨B + 1 + 1 + 1 + 1 + 1 + 1, 0, none⟩ = some (.slice (some ⟨B + 1, 0, none⟩) 2 2) := by rw [Lib.cell_of_heap K6]; rfl
  have p1 : w1.cell? ⟨B + 1 + 1 + 1 + 1 + 1 + 1, 1, none⟩ = some (.slice (some ⟨B + 1 + 1 + 1 + 1 + 1, 0, none⟩) 1 1) := by rw [Lib.cell_of_heap K6]; rfl
  have f0 : w1.cell? ⟨B + 1 + 1 + 1 + 1 + 1, 0, none⟩ = some (.string ⟨#[102]⟩) := by rw [Lib.cell_of_heap K5]; rfl
  have f1 : w1.cell? ⟨B + 1 + 1 + 1 + 1 + 1, 1, none⟩ = some (.slice (some ⟨B + 1 + 1, 0, none⟩) 1 1) := by rw [Lib.cell_of_heap K5]; rfl
  have f2 : w1.cell? ⟨B + 1 + 1 + 1 + 1 + 1, 2, none⟩ = some (.slice (some ⟨B + 1 + 1 + 1 + 1, 0, none⟩) 2 2) := by rw [Lib.cell_of_heap K5]; rfl
  have hs1 : B + 1 + 1 + 1 + 1 + 1 + 1 < w1.heap.size := by have := hb1.size; omega
  have hs2 : B + 1 + 1 + 1 + 1 + 1 < w1.heap.size := by omega
  have g0 : ∀ o1 o2, ((w1.alloc o1).alloc o2).cell? ⟨B + 1 + 1 + 1 + 1 + 1, 0, none⟩ = some (.string ⟨#[102]⟩) := fun o1 o2 => by rw [Lib.cell_of_heap (keep_heap (keep_heap K5 o1) o2)]; rfl
  have g1 : ∀ o1 o2, ((w1.alloc o1).alloc o2).cell? ⟨B + 1 + 1 + 1 + 1 + 1, 1, none⟩ = some (.slice (some ⟨B + 1 + 1, 0, none⟩) 1 1) := fun o1 o2 => by rw [Lib.cell_of_heap (keep_heap (keep_heap K5 o1) o2)]; rfl
  have g2 : ∀ o1 o2, ((w1.alloc o1).alloc o2).cell? ⟨B + 1 + 1 + 1 + 1 + 1, 2, none⟩ = some (.slice (some ⟨B + 1 + 1 + 1 + 1, 0, none⟩) 2 2) := fun o1 o2 => by rw [Lib.cell_of_heap (keep_heap (keep_heap K5 o1) o2)]; rfl
  have HK5 : Hid (w1.heap[B + 1 + 1 + 1 + 1 + 1]? = some (.cells #[.string ⟨#[102]⟩, .slice (some ⟨B + 1 + 1, 0, none⟩) 1 1, .slice (some ⟨B + 1 + 1 + 1 + 1, 0, none⟩) 2 2] 36 (0, 0))) := K5
  have HK6 : Hid (w1.heap[B + 1 + 1 + 1 + 1 + 1 + 1]? = some (.cells #[.slice (some ⟨B + 1, 0, none⟩) 2 2, .slice (some ⟨B + 1 + 1 + 1 + 1 + 1, 0, none⟩) 1 1] 25 (0, 0))) := K6
  clear lay lay1 k5 k6 K5 K6 hb0 hb1 HCK hs0
  go_wp2_with fail
  clear f0 f1 f2 g0 g1 g2 p0
  obtain ⟨W3, hW3⟩ : ∃ W3, (((w1.alloc (.cells #[.int .i64 5, .int .i64 0, .int .i64 2] 29)).alloc (.cells #[.slice (some ⟨B + 1, 0, none⟩) 2 2, .slice (some ⟨w1.heap.size + 1 + 1, 0, none⟩) 1 1] 25)).alloc (.cells #[.string ⟨#[102]⟩, .slice (some ⟨B + 1 + 1, 0, none⟩) 1 1, .slice (some ⟨B + 1 + 1 + 1 + 1, 0, none⟩) 2 2] 36)) = W3 := ⟨_, rfl⟩
  have hb3 : Below w1.heap.size w1 W3 := by rw [← hW3]; exact Below.one (Below.one (Below.one (Below.refl _ w1) _) _) _
  obtain ⟨S, hS⟩ : ∃ S, w1.heap.size = S := ⟨_, rfl⟩
  have k7 : W3.heap[S]? = some (.cells #[.int .i64 5, .int .i64 0, .int .i64 2] 29 (0, 0)) := by rw [← hW3]; exact keep_heap (keep_heap (new_heap _ hS) _) _
  have k8 : W3.heap[S + 1]? = some (.cells #[.slice (some ⟨B + 1, 0, none⟩) 2 2, .slice (some ⟨S + 1 + 1, 0, none⟩) 1 1] 25 (0, 0)) := by rw [← hW3, hS]; exact keep_heap (new_heap _ (by simp [hS])) _
  have k9 : W3.heap[S + 1 + 1]? = some (.cells #[.string ⟨#[102]⟩, .slice (some ⟨B + 1 + 1, 0, none⟩) 1 1, .slice (some ⟨B + 1 + 1 + 1 + 1, 0, none⟩) 2 2] 36 (0, 0)) := by rw [← hW3]; exact new_heap _ (by simp [hS])
  have k5 := (hb3.block (B + 1 + 1 + 1 + 1 + 1) (by omega)).trans HK5.out
  have k6 := (hb3.block (B + 1 + 1 + 1 + 1 + 1 + 1) (by omega)).trans HK6.out
  have hS3 : W3.heap.size = S + 1 + 1 + 1 := by rw [← hW3]; simp [hS]
  rw [hW3]
  rw [hS] at hs1 hs2 ⊢
  have e0 : W3.drew.cell? ⟨S + 1, 1, none⟩ = some (.slice (some ⟨S + 1 + 1, 0, none⟩) 1 1) := by
    have : W3.drew.heap[S + 1]? = _ := k8
    rw [Lib.cell_of_heap this]; rfl
  have e1 : W3.drew.cell? ⟨B + 1 + 1 + 1 + 1 + 1 + 1, 1, none⟩ = some (.slice (some ⟨B + 1 + 1 + 1 + 1 + 1, 0, none⟩) 1 1) := by
    have : W3.drew.heap[B + 1 + 1 + 1 + 1 + 1 + 1]? = _ := k6
    rw [Lib.cell_of_heap this]; rfl
  have e2 : W3.drew.cell? ⟨B + 1 + 1 + 1 + 1 + 1, 2, none⟩ = some (.slice (some ⟨B + 1 + 1 + 1 + 1, 0, none⟩) 2 2) := by
    have : W3.drew.heap[B + 1 + 1 + 1 + 1 + 1]? = _ := k5
    rw [Lib.cell_of_heap this]; rfl
  have e3 : W3.drew.cell? ⟨S + 1 + 1, 2, none⟩ = some (.slice (some ⟨B + 1 + 1 + 1 + 1, 0, none⟩) 2 2) := by
    have : W3.drew.heap[S + 1 + 1]? = _ := k9
    rw [Lib.cell_of_heap this]; rfl
  have e4 : W3.frozen? ⟨S + 1 + 1, 2, none⟩ = false := by simp [World.frozen?, k9]
  have HH : Hid (Below w1.heap.size w1 W3 ∧ Lay w1 B ∧ Below w.heap.size w w1 ∧ w1.heap.size = S ∧ W3.heap.size = S + 1 + 1 + 1) := ⟨hb3, HLAY.out, hbw, hS, hS3⟩
  have K5 := show Hid _ from k5
  have K6 := show Hid _ from k6
  have K7 := show Hid _ from k7
  have K8 := show Hid _ from k8
  have K9 := show Hid _ from k9
  clear hb3 hS hS3 hW3 HLAY hbw k5 k6 k7 k8 k9 p1 HK5 HK6
  go_region
  obtain ⟨W4, hW4⟩ : ∃ W4, (W3.setCell ⟨S + 1 + 1, 2, none⟩ (.slice (some ⟨B + 1 + 1 + 1 + 1, 0, none⟩) 1 2)).drew = W4 := ⟨_, rfl⟩
  rw [hW4]
  have k5 := set_keep ⟨S + 1 + 1, 2, none⟩ (.slice (some ⟨B + 1 + 1 + 1 + 1, 0, none⟩) 1 2) K5.out (by show _ ≠ S + 1 + 1; omega)
  have k6 := set_keep ⟨S + 1 + 1, 2, none⟩ (.slice (some ⟨B + 1 + 1 + 1 + 1, 0, none⟩) 1 2) K6.out (by show _ ≠ S + 1 + 1; omega)
  have k7 := set_keep ⟨S + 1 + 1, 2, none⟩ (.slice (some ⟨B + 1 + 1 + 1 + 1, 0, none⟩) 1 2) K7.out (by show _ ≠ S + 1 + 1; omega)
  have k8 := set_keep ⟨S + 1 + 1, 2, none⟩ (.slice (some ⟨B + 1 + 1 + 1 + 1, 0, none⟩) 1 2) K8.out (by show _ ≠ S + 1 + 1; omega)
  rw [hW4] at k5 k6 k7 k8
  have k9 : W4.heap[S + 1 + 1]? = some (.cells #[.string ⟨#[102]⟩, .slice (some ⟨B + 1 + 1, 0, none⟩) 1 1, .slice (some ⟨B + 1 + 1 + 1 + 1, 0, none⟩) 1 2] 36 (0, 0)) := by rw [← hW4]; exact set_same K9.out 2 _
  obtain ⟨hb3, hlay, hbw, hS, hS3⟩ := HH.out
  have hb4 : Below w1.heap.size w1 W4 := by rw [← hW4]; exact Below.drew (Below.setCell hb3 (by show _ ≤ S + 1 + 1; omega) _)
  have hS4 : W4.heap.size = S + 1 + 1 + 1 := by rw [← hW4]; show (W3.setCell _ _).heap.size = _; simp [World.setCell, hS3]
  have hbw4 : Below w.heap.size w W4 := Below.on hbw hb4
  have hlay4 : Lay W4 B := hlay.stay hb4
  have hpr := awPrint W4 B (S + 1 + 1) hlay4 k9 (HT.out.stay hbw4) (HN.out.stay hbw4)
  have HPR : Hid (Calls Tryd.prog 11 #[.agg #[.slice (some ⟨B + 1, 0, none⟩) 2 2, .slice (some ⟨S + 1 + 1, 0, none⟩) 1 1]] W4 fun e w' => e = .returned (.tuple #[.string ⟨#[119, 105, 100, 101, 110, 32, 45, 53, 44, 32, 48, 59, 10, 102, 110, 32, 102, 40, 110, 32, 105, 110, 32, 48, 46, 46, 49, 48, 41, 32, 123, 10, 32, 32, 114, 101, 116, 117, 114, 110, 32, 45, 110, 59, 10, 125, 10]⟩, .agg #[.int .i64 0, .int .i64 0, .int .i64 0]]) ∧ Below W4.heap.size W4 w') := hpr
  have q0 : W4.cell? ⟨S + 1, 0, none⟩ = some (.slice (some ⟨B + 1, 0, none⟩) 2 2) := by rw [Lib.cell_of_heap k8]; rfl
  have q1 : W4.cell? ⟨S + 1, 1, none⟩ = some (.slice (some ⟨S + 1 + 1, 0, none⟩) 1 1) := by rw [Lib.cell_of_heap k8]; rfl
  clear K5 K6 K7 K8 K9 HH e0 e1 e2 e3 e4 hb3 hlay hbw hpr hW4 hS hS3
  have K5 := show Hid _ from k5
  have K6 := show Hid _ from k6
  have K7 := show Hid _ from k7
  have K8 := show Hid _ from k8
  have K9 := show Hid _ from k9
  have HH : Hid (Below w.heap.size w W4 ∧ Lay W4 B ∧ W4.heap.size = S + 1 + 1 + 1) := ⟨hbw4, hlay4, hS4⟩
  clear k5 k6 k7 k8 k9 hbw4 hlay4 hS4 hb4
  go_wp2_with fail
  refine HPR.out.mono ?_
  rintro e w5 ⟨rfl, hb5⟩
  clear q0 q1 HPR
  obtain ⟨hbw4, hlay4, hS4⟩ := HH.out
  have hbw5 := Below.on hbw4 hb5
  have hlay5 := hlay4.stay hb5
  have k5 := (hb5.block (B + 1 + 1 + 1 + 1 + 1) (by omega)).trans K5.out
  have k6 := (hb5.block (B + 1 + 1 + 1 + 1 + 1 + 1) (by omega)).trans K6.out
  have k7 := (hb5.block S (by omega)).trans K7.out
  have k8 := (hb5.block (S + 1) (by omega)).trans K8.out
  have k9 := (hb5.block (S + 1 + 1) (by omega)).trans K9.out
  have hs5 := hb5.size
  rw [hS4] at hs5
  have s5 : S + 1 < w5.heap.size := by omega
  have s6 : S < w5.heap.size := by omega
  have s7 : B + 1 + 1 + 1 + 1 + 1 + 1 < w5.heap.size := by omega
  clear K5 K6 K7 K8 K9 HH hb5 hbw4 hlay4 hS4 hs5 hs1 hs2
  have a0 : w5.cell? ⟨S, 0, none⟩ = some (.int .i64 5) := by rw [Lib.cell_of_heap k7]; rfl
  have a1 : w5.cell? ⟨S, 1, none⟩ = some (.int .i64 0) := by rw [Lib.cell_of_heap k7]; rfl
  have a2 : w5.cell? ⟨S, 2, none⟩ = some (.int .i64 2) := by rw [Lib.cell_of_heap k7]; rfl
  have q0 : w5.cell? ⟨S + 1, 0, none⟩ = some (.slice (some ⟨B + 1, 0, none⟩) 2 2) := by rw [Lib.cell_of_heap k8]; rfl
  have q1 : w5.cell? ⟨S + 1, 1, none⟩ = some (.slice (some ⟨S + 1 + 1, 0, none⟩) 1 1) := by rw [Lib.cell_of_heap k8]; rfl
  have hq := equalIn_flt
  have hg : ∀ (w : World) (op : BinOp) (a b : Operand) (xs ys : Array Value), (eqGuard op 29 a b (.agg xs) (.agg ys)).run Tryd.prog w = .ok () w := fun w op a b xs ys => run_eqGuard_agg w op 29 a b xs ys (by kernel_rfl)
  unfold fltV at hq
  have K5 := show Hid _ from k5
  have K6 := show Hid _ from k6
  have K8 := show Hid _ from k8
  have K9 := show Hid _ from k9
  have HQ : Hid ((aPr B (S + 1 + 1) [aRet B]).In w5) := aPr_in hlay5 (body_q hlay5) k9
  have HP : Hid ((aPr B (B + 1 + 1 + 1 + 1 + 1) [aRet B, aLet]).In w5) := aPr_in hlay5 (body_p hlay5) k5
  have HH : Hid (Below w.heap.size w w5) := hbw5
  have g0 : Hid (w5.cell? ⟨B + 1 + 1 + 1 + 1 + 1 + 1, 0, none⟩ = some (.slice (some ⟨B + 1, 0, none⟩) 2 2)) := by rw [Lib.cell_of_heap k6]; rfl
  have g1 : Hid (w5.cell? ⟨B + 1 + 1 + 1 + 1 + 1 + 1, 1, none⟩ = some (.slice (some ⟨B + 1 + 1 + 1 + 1 + 1, 0, none⟩) 1 1)) := by rw [Lib.cell_of_heap k6]; rfl
  have HN1 : Hid (∀ w', Below w5.heap.size w5 w' → Calls Tryd.prog 13 #[.agg #[.slice (some ⟨B + 1, 0, none⟩) 2 2, .slice (some ⟨S + 1 + 1, 0, none⟩) 1 1]] w' fun e w'' => e = .returned (.int .i64 3) ∧ Below w'.heap.size w' w'') := fun w' hb => by
    have := nodes_any (aPr B (S + 1 + 1) [aRet B]) w' (HQ.out.stay hb)
    rw [nodes_q] at this; exact this
  have HS1 : Hid (∀ w', Below w5.heap.size w5 w' → Calls Tryd.prog 10 #[.agg #[.slice (some ⟨B + 1, 0, none⟩) 2 2, .slice (some ⟨S + 1 + 1, 0, none⟩) 1 1], .agg #[.slice (some ⟨B + 1, 0, none⟩) 2 2, .slice (some ⟨S + 1 + 1, 0, none⟩) 1 1]] w' fun e w'' => e = .returned (.bool true) ∧ Below w'.heap.size w' w'') := fun w' hb => by
    have := same_any (aPr B (S + 1 + 1) [aRet B]) (aPr B (S + 1 + 1) [aRet B]) w' (HQ.out.stay hb) (HQ.out.stay hb)
    rw [same_qq] at this; exact this
  have HS2 : Hid (∀ w', Below w5.heap.size w5 w' → Calls Tryd.prog 10 #[.agg #[.slice (some ⟨B + 1, 0, none⟩) 2 2, .slice (some ⟨B + 1 + 1 + 1 + 1 + 1, 0, none⟩) 1 1], .agg #[.slice (some ⟨B + 1, 0, none⟩) 2 2, .slice (some ⟨S + 1 + 1, 0, none⟩) 1 1]] w' fun e w'' => e = .returned (.bool false) ∧ Below w'.heap.size w' w'') := fun w' hb => by
    have := same_any (aPr B (B + 1 + 1 + 1 + 1 + 1) [aRet B, aLet]) (aPr B (S + 1 + 1) [aRet B]) w' (HP.out.stay hb) (HQ.out.stay hb)
    rw [same_pq] at this; exact this
  have g2 := show Hid _ from q0
  have g3 := show Hid _ from q1
  clear k5 k6 k7 k8 k9 hbw5 hlay5 HQ HP
  go_wp2_with fail
  have hba := Below.one (Below.refl w5.heap.size w5) (.cells #[.int .i64 0, .int .i64 0, .int .i64 0] 29)
  refine (HN1.out _ hba).mono ?_
  rintro e w6 ⟨rfl, hb6⟩
  have hb6' := Below.on hba hb6
  clear q0 q1 a0 a1 a2 hq hg hb6 hba HN1
  have q0 := (hb6'.cell (p := ⟨S + 1, 0, none⟩) s5).trans g2.out
  have q1 := (hb6'.cell (p := ⟨S + 1, 1, none⟩) s5).trans g3.out
  go_wp2_with fail
  refine (HS1.out _ hb6').mono ?_
  rintro e w7 ⟨rfl, hb7⟩
  have hb7' := Below.on hb6' hb7
  clear q0 q1 hb6' hb7 HS1
  have q0 := (hb7'.cell (p := ⟨S + 1, 0, none⟩) s5).trans g2.out
  have q1 := (hb7'.cell (p := ⟨S + 1, 1, none⟩) s5).trans g3.out
  have p0 := (hb7'.cell (p := ⟨B + 1 + 1 + 1 + 1 + 1 + 1, 0, none⟩) s7).trans g0.out
  have p1 := (hb7'.cell (p := ⟨B + 1 + 1 + 1 + 1 + 1 + 1, 1, none⟩) s7).trans g1.out
  go_wp2_with fail
  refine (HS2.out _ hb7').mono ?_
  rintro e w8 ⟨rfl, hb8⟩
  have hb8' := Below.on HH.out (Below.on hb7' hb8)
  clear q0 q1 p0 p1 hb7' hb8 HS2
  go_wp2_with fail
  go_ret
  exact ⟨rfl, hb8'⟩
end Go.Proofs.YtbpemackmadhgabDoor

/- The document's own copies: expressions. -/
namespace Go.Proofs.YtbpemackmadhgabDoor
open Go.RowKit

theorem Tryd.infoEx : (Tryd.prog.info? 48).map (fun i => (i.zero, i.size, i.bytes)) = some (some (.agg #[.int .i64 0, .int .i64 0, .string ⟨#[]⟩, .slice none 0 0]), 4, 56) := by kernel_rfl

/- No list has more than 2^20 elements. -/
mutual
def Ex.Few : Ex → Prop | .mk _ _ _ _ _ l => l.length ≤ 1048576 ∧ FewL l
def FewL : List Ex → Prop | [] => True | x :: r => x.Few ∧ FewL r
end
theorem fewL_mem {l : List Ex} : FewL l ↔ ∀ x ∈ l, x.Few := by induction l <;> simp_all [FewL]
theorem Ex.few_iff {x : Ex} : x.Few ↔ x.args.length ≤ 1048576 ∧ ∀ y ∈ x.args, y.Few := by cases x; simp only [Ex.Few, Ex.args, fewL_mem]

theorem owns_heap {W W' : World} {base : Nat} {e : TypeId} {sz G n cap : Nat} {xs : List Value} (h : W.ownsRow base e sz (.slice (some ⟨G, 0, none⟩) n cap) n xs) (hk : W'.heap[G]? = W.heap[G]?) : W'.ownsRow base e sz (.slice (some ⟨G, 0, none⟩) n cap) n xs := by
  refine ⟨h.1, ?_⟩
  rcases h.2 with h | ⟨g, cap, cur, h1, h2, h3, h4⟩
  · exact .inl h
  · cases h1
    exact .inr ⟨_, _, cur, rfl, h2, hk.trans h3, h4⟩
theorem owns_lt {W : World} {base : Nat} {e : TypeId} {sz G n cap : Nat} {xs : List Value} (h : W.ownsRow base e sz (.slice (some ⟨G, 0, none⟩) n cap) n xs) : G < W.heap.size := by
  rcases h.2 with ⟨h, _⟩ | ⟨g, cap, cur, h1, h2, h3, _⟩
  · cases h
  · cases h1; exact (Array.getElem?_eq_some_iff.1 h3).1
/-- A row that is full is its block. -/
theorem owns_full {W : World} {base : Nat} {e : TypeId} {sz G n : Nat} {xs : List Value} (h : W.ownsRow base e sz (.slice (some ⟨G, 0, none⟩) n n) n xs) : W.heap[G]? = some (.cells ⟨xs⟩ e (0, 0)) := by
  rcases h.2 with ⟨h, _⟩ | ⟨g, cap, cur, h1, h2, h3, h4, h5, h6, h7⟩
  · cases h
  · cases h1
    rw [h3]
    congr 2
    rw [← h7, List.take_of_length_le (by rw [Array.length_toList, h6]; exact Nat.le_refl _)]
theorem set_cell {W : World} {b : Nat} {cs : Array Value} {T : TypeId} {fz : Nat × Nat} (h : W.heap[b]? = some (.cells cs T fz)) (i : Nat) (v : Value) : (W.setCell ⟨b, i, none⟩ v).heap[b]? = some (.cells (cs.setIfInBounds i v) T fz) := by
  simp [World.setCell, Array.getElem?_modify, h]
theorem erL_len {l t : List Ex} (h : erL l = erL t) : l.length = t.length := by
  have := congrArg List.length h
  simpa [erL_map] using this

/-- What comes of a list of expressions. -/
def CpR (w w' : World) (l : List Ex) (e : Ending) : Prop := ∃ (g : Nat) (l' : List Ex), e = .returned (.slice (some ⟨g, 0, none⟩) l.length (l.length + 1)) ∧ RowCp w' (some ⟨g, 0, none⟩) (l.length + 1) l'.length 56 48 (l'.flatMap Ex.cells ++ senE) ∧ (∀ x ∈ l', x.Cp w') ∧ erL l' = erL l ∧ (g :: blL l').Nodup ∧ (∀ b ∈ g :: blL l', w.heap.size ≤ b ∧ b < w'.heap.size)

set_option maxRecDepth 100000 in
set_option maxHeartbeats 8000000 in
theorem exprsOf_step (n : Nat) (ih : ∀ (l : List Ex) (a : Option Addr) (c : Nat) (w : World), szL l < n → HaveE w a c l → l.length ≤ 1048576 → (∀ x ∈ l, x.Few) → Calls Tryd.prog 36 #[.slice a l.length c] w fun e w' => CpR w w' l e ∧ Below w.heap.size w w')
    (l : List Ex) (a : Option Addr) (c : Nat) (w : World) (hk : szL l ≤ n) (hin : HaveE w a c l) (hf0 : l.length ≤ 1048576) (hf : ∀ x ∈ l, x.Few) :
    Calls Tryd.prog 36 #[.slice a l.length c] w fun e w' => CpR w w' l e ∧ Below w.heap.size w w' := by
  obtain ⟨i0, hi, hz0, hz1, hz2⟩ := info_parts Tryd.infoEx
  have HI : Hid (Tryd.prog.info? 48 = some i0) := hi
  have IH : Hid (∀ (l : List Ex) (a : Option Addr) (c : Nat) (w : World), szL l < n → HaveE w a c l → l.length ≤ 1048576 → (∀ x ∈ l, x.Few) → Calls Tryd.prog 36 #[.slice a l.length c] w fun e w' => CpR w w' l e ∧ Below w.heap.size w w') := ih
  have HA : Hid (HaveE w a c l) := hin
  have hl := hin.1
  have hc := hin.2.1
  have HK : Hid (szL l ≤ n) := hk
  have HF : Hid (∀ x ∈ l, x.Few) := hf
  clear ih hin hk hf hi
  go_enter Tryd.func36, Tryd.ntmps36
  go_wp2_with (at_make; refine wpList_make_own _ rfl _ _ 46 rfl w.heap.size 48 i0 _ 4 Tryd.underlying46 HI.out hz0 hz1 _ _ _ (l.length + 1) rfl rfl (by omega) (by rw [hz2]; omega) (by unfold maxLen; omega) (Nat.le_refl _) ?_; intro w0 hown0 hgrow0)
  obtain ⟨G, hG⟩ : ∃ G, w.heap.size = G := ⟨_, rfl⟩
  have hb0 : Below w.heap.size w w0 := (Below.refl _ w).grown hgrow0 (Nat.le_refl _) (fun k hk => by cases hk)
  have HO0 : Hid (w0.ownsRow w.heap.size 48 4 (.slice (some ⟨w.heap.size, 0, none⟩) 0 (l.length + 1)) 0 []) := hown0
  clear hown0 hgrow0
  rw [hG] at hb0 HO0 ⊢
  have HG : Hid (w.heap.size = G) := hG
  clear hG
  go_wp2_with fail
  go_loopw [3, 4] (fun t3 t4 wr => ∃ (l' : List Ex), t4 = .int .i64 l'.length ∧ l'.length ≤ l.length ∧ t3 = .slice (some ⟨G, 0, none⟩) l'.length (l.length + 1) ∧ wr.ownsRow G 48 4 (.slice (some ⟨G, 0, none⟩) l'.length (l.length + 1)) l'.length (l'.flatMap Ex.cells) ∧ (∀ x ∈ l', x.Cp wr) ∧ erL l' = erL (l.take l'.length) ∧ (blL l').Nodup ∧ (∀ b ∈ blL l', G < b ∧ b < wr.heap.size) ∧ Below G w wr) (fun _ t4 _ => l.length - (intOf t4).toNat)
  case atStart => exact ⟨[], rfl, Nat.zero_le _, rfl, HO0.out, by simp, by simp, by simp [blL], by simp [blL], hb0⟩
  case round =>
    clear HO0 hb0
    obtain ⟨l', rfl, hle, rfl, hown, hcp, her, hnd, hbd, hb⟩ := hrel
    obtain ⟨j, hj⟩ : ∃ j, l'.length = j := ⟨_, rfl⟩
    have HJ : Hid (l'.length = j) := hj
    rw [hj] at hown hle her ⊢
    have HO : Hid (wr.ownsRow G 48 4 (.slice (some ⟨G, 0, none⟩) j (l.length + 1)) j (l'.flatMap Ex.cells)) := hown
    have HR : Hid ((∀ x ∈ l', x.Cp wr) ∧ erL l' = erL (l.take j) ∧ (blL l').Nodup ∧ (∀ b ∈ blL l', G < b ∧ b < wr.heap.size)) := ⟨hcp, her, hnd, hbd⟩
    have BW : Hid (Below G w wr) := hb
    clear hown hcp her hnd hbd hb hj
    by_cases hlt : j < l.length
    · have hli : (j : Int) < (l.length : Int) := by omega
      have hbw : Below w.heap.size w wr := HG.out ▸ BW.out
      obtain ⟨b, o, rfl, c0, c1, c2, c3⟩ := row_at (HA.out.2.2.1.below hbw) hlt
      have XI : Hid (∀ w', Below w.heap.size w w' → l[j].In w') := fun w' h => (HA.out.2.2.2 l[j] (List.getElem_mem hlt)).stay h
      have XF : Hid (l[j].Few) := HF.out _ (List.getElem_mem hlt)
      have HZ : Hid (szL l[j].args < n) := by
        have h1 := szL_mem (List.getElem_mem hlt)
        have h2 := (l[j]).sz_args
        have h3 := HK.out
        show _ < _
        omega
      have HT : Hid (erL (l.take (j + 1)) = erL (l.take j) ++ [l[j].er]) := by
        show _ = _
        rw [erL_map, erL_map, List.take_succ_eq_append_getElem hlt, List.map_append]; rfl
      generalize l[j] = x at *
      have HQ : Hid (∀ w', Below wr.heap.size wr w' → Calls Tryd.prog 36 #[.slice x.a x.args.length x.cap] w' fun e w'' => CpR w' w'' x.args e ∧ Below w'.heap.size w' w'') := fun w' h => IH.out x.args x.a x.cap w' HZ.out (XI.out _ (Below.on hbw h)).have (Ex.few_iff.1 XF.out).1 (Ex.few_iff.1 XF.out).2
      go_wp2_with fail
      refine (HQ.out _ (Below.one (Below.refl _ _) _)).mono ?_
      rintro e w2 ⟨⟨g', l'', rfl, hrow, hcp2, her2, hnd2, hbd2⟩, hb2⟩
      clear c0 c1 c2 c3
      obtain ⟨X, hX⟩ : ∃ X, wr.heap.size = X := ⟨_, rfl⟩
      have h2X : w2.heap[X]? = some (.cells #[.int .i64 x.kind, .int .i64 x.n, .string x.name, .slice x.a x.args.length x.cap] 48 (0, 0)) := by
        rw [← hX, hb2.block _ (by simp)]; exact heap_alloc_new _ _
      have k0 : w2.cell? ⟨X, 0, none⟩ = some (.int .i64 x.kind) := by rw [Lib.cell_of_heap h2X]; rfl
      have k1 : w2.cell? ⟨X, 1, none⟩ = some (.int .i64 x.n) := by rw [Lib.cell_of_heap h2X]; rfl
      have k2 : w2.cell? ⟨X, 2, none⟩ = some (.string x.name) := by rw [Lib.cell_of_heap h2X]; rfl
      have k3 : w2.cell? ⟨X, 3, none⟩ = some (.slice x.a x.args.length x.cap) := by rw [Lib.cell_of_heap h2X]; rfl
      have kf : w2.frozen? ⟨X, 3, none⟩ = false := by simp [World.frozen?, h2X]
      have hs2 : X < w2.heap.size := (Array.getElem?_eq_some_iff.1 h2X).1
      rw [hX]
      have HX : Hid (wr.heap.size = X ∧ X < w2.heap.size) := ⟨hX, hs2⟩
      have hsw : ((wr.alloc (.cells #[.int .i64 x.kind, .int .i64 x.n, .string x.name, .slice x.a x.args.length x.cap] 48))).heap.size = X + 1 := by rw [World.size_alloc, hX]
      rw [hsw] at hbd2
      have HB2 : Hid (∀ k, k < X → w2.heap[k]? = wr.heap[k]?) := fun k hk => (hb2.block k (by rw [hsw]; omega)).trans (Below.heap_alloc _ _ _ (by omega))
      have BW2 : Hid (Below G w w2) := by
        have : Below w.heap.size w w2 := Below.on (Below.one hbw _) hb2
        exact HG.out ▸ this
      have hGX : G < X := by
        have := owns_lt HO.out
        omega
      have HGX : Hid (G < X) := hGX
      have H2 : Hid (RowCp w2 (some ⟨g', 0, none⟩) (x.args.length + 1) l''.length 56 48 (l''.flatMap Ex.cells ++ senE) ∧ (∀ x ∈ l'', x.Cp w2) ∧ erL l'' = erL x.args ∧ (g' :: blL l'').Nodup ∧ (∀ b ∈ g' :: blL l'', X + 1 ≤ b ∧ b < w2.heap.size)) := ⟨hrow, hcp2, her2, hnd2, hbd2⟩
      have HO4 : Hid (((w2.setCell ⟨X, 3, none⟩ (.slice (some ⟨g', 0, none⟩) x.args.length (x.args.length + 1))).alloc (.cells #[.int .i64 x.kind, .int .i64 x.n, .string x.name, .slice (some ⟨g', 0, none⟩) x.args.length (x.args.length + 1)] 48)).ownsRow G 48 4 (.slice (some ⟨G, 0, none⟩) j (l.length + 1)) j (l'.flatMap Ex.cells)) :=
        owns_heap HO.out (by rw [Below.heap_alloc _ _ _ (by simp [World.setCell]; omega), Below.heap_setCell _ _ _ _ (by show G ≠ X; omega), HB2.out _ hGX])
      have HN : Hid (∀ i u, ([.int .i64 x.kind, .int .i64 x.n, .string x.name, .slice (some ⟨g', 0, none⟩) x.args.length (x.args.length + 1)] : List Value)[i]? = some u → ((w2.setCell ⟨X, 3, none⟩ (.slice (some ⟨g', 0, none⟩) x.args.length (x.args.length + 1))).alloc (.cells #[.int .i64 x.kind, .int .i64 x.n, .string x.name, .slice (some ⟨g', 0, none⟩) x.args.length (x.args.length + 1)] 48)).cell? ((⟨w2.heap.size, 0, none⟩ : Addr).add i) = some u) := by
        have := heap_alloc_new (w2.setCell ⟨X, 3, none⟩ (.slice (some ⟨g', 0, none⟩) x.args.length (x.args.length + 1))) (.cells #[.int .i64 x.kind, .int .i64 x.n, .string x.name, .slice (some ⟨g', 0, none⟩) x.args.length (x.args.length + 1)] 48)
        rw [show (w2.setCell ⟨X, 3, none⟩ (.slice (some ⟨g', 0, none⟩) x.args.length (x.args.length + 1))).heap.size = w2.heap.size by simp [World.setCell]] at this
        exact World.news_of_block this
      have H1 : Hid (∀ u ∈ ([.int .i64 x.kind, .int .i64 x.n, .string x.name, .slice (some ⟨g', 0, none⟩) x.args.length (x.args.length + 1)] : List Value), u.oneCell' = true) := fun u hu => by
        simp at hu; rcases hu with rfl | rfl | rfl | rfl <;> rfl
      clear hrow hcp2 her2 hnd2 hbd2 hsw hb2 hX hs2 hGX h2X
      go_wp2_with (at_builtin; refine wpList_append_own_spare _ rfl _ _ 46 rfl G 48 i0 4 Tryd.underlying46 HI.out hz1 G j (l.length + 1) (l'.flatMap Ex.cells) rfl HO4.out ⟨w2.heap.size, 0, none⟩ 1 1 [.int .i64 x.kind, .int .i64 x.n, .string x.name, .slice (some ⟨g', 0, none⟩) x.args.length (x.args.length + 1)] rfl rfl HN.out H1.out (by omega) ?_; intro w5 hown5 hgrow5)
      have HO5 : Hid (w5.ownsRow G 48 4 (.slice (some ⟨G, 0, none⟩) (j + 1) (l.length + 1)) (j + 1) (l'.flatMap Ex.cells ++ [.int .i64 x.kind, .int .i64 x.n, .string x.name, .slice (some ⟨g', 0, none⟩) x.args.length (x.args.length + 1)])) := hown5
      have HK5 : Hid (∀ k, k < w2.heap.size → k ≠ X → k ≠ G → w5.heap[k]? = w2.heap[k]?) := fun k h1 h2 h3 => by
        rw [hgrow5.block k (by simp [World.setCell]; omega) (by simpa using h3), Below.heap_alloc _ _ _ (by simpa [World.setCell] using h1), Below.heap_setCell _ _ _ _ h2]
      have HS5 : Hid (w2.heap.size < w5.heap.size) := by
        have := hgrow5.size
        simp [World.setCell] at this
        show _ < _
        omega
      have BW5 : Hid (Below G w w5) := by
        have h1 := HGX.out
        have h2 := HX.out
        exact ((BW2.out.setCell (p := ⟨X, 3, none⟩) (by show G ≤ X; omega) _).alloc (by simp [World.setCell]; omega) _).grown hgrow5 (by simp [World.setCell]; omega) (fun k hk => by simp at hk; omega)
      clear hown5 hgrow5 HO4 HN H1 k0 k1 k2 k3 kf
      go_wp2_with fail
      go_roundw
      case rel =>
        obtain ⟨hrow, hcp2, her2, hnd2, hbd2⟩ := H2.out
        obtain ⟨hcp, her, hnd, hbd⟩ := HR.out
        have hx := HX.out
        have hgx := HGX.out
        have hs5 := HS5.out
        have hlen : l''.length = x.args.length := erL_len her2
        have hbl : blL (l' ++ [.mk x.kind x.n x.name (some ⟨g', 0, none⟩) (x.args.length + 1) l'']) = blL l' ++ (g' :: blL l'') := by
          rw [blL_map, List.flatMap_append, ← blL_map]; simp [Ex.bl, blk]
        have hkeep : ∀ b ∈ g' :: blL l'', w5.heap[b]? = w2.heap[b]? := fun b hb => HK5.out b (hbd2 b hb).2 (by have := (hbd2 b hb).1; omega) (by have := (hbd2 b hb).1; omega)
        have hxin := Ex.in_iff.1 (XI.out _ (Below.refl _ _))
        refine ⟨l' ++ [.mk x.kind x.n x.name (some ⟨g', 0, none⟩) (x.args.length + 1) l''], ?_, ?_, ?_, ?_, ?_, ?_, ?_, ?_, BW5.out⟩
        · have := HJ.out; simp; omega
        · have := HJ.out; simp; omega
        · have := HJ.out; simp; omega
        · have h5 := HO5.out
          rw [show (l' ++ [Ex.mk x.kind x.n x.name (some ⟨g', 0, none⟩) (x.args.length + 1) l'']).length = j + 1 by have := HJ.out; simp; omega, List.flatMap_append]
          simpa [Ex.cells, Ex.kind, Ex.n, Ex.name, Ex.a, Ex.cap, Ex.args, hlen] using h5
        · intro y hy
          rcases List.mem_append.1 hy with hy | hy
          · refine (hcp y hy).kept fun b hb => ?_
            have hb' := hbd b (by rw [blL_map]; exact List.mem_flatMap.2 ⟨y, hy, hb⟩)
            rw [HK5.out b (by omega) (by omega) (by omega), HB2.out b (by omega)]
          · obtain rfl := List.mem_singleton.1 hy
            refine Ex.cp_iff.2 ⟨hxin.1, hxin.2.1, hxin.2.2.1, ?_, fun z hz => (hcp2 z hz).kept fun b hb => hkeep b (List.mem_cons_of_mem _ (by rw [blL_map]; exact List.mem_flatMap.2 ⟨z, hz, hb⟩))⟩
            exact hrow.keep (hkeep _ (List.mem_cons_self ..))
        · have hj := HJ.out
          rw [show (l' ++ [Ex.mk x.kind x.n x.name (some ⟨g', 0, none⟩) (x.args.length + 1) l'']).length = j + 1 by simp; omega, HT.out, ← her, erL_map, erL_map, List.map_append]
          simp only [List.map_cons, List.map_nil, Ex.er]
          rw [x.er_eq, her2]
        · rw [hbl, List.nodup_append]
          refine ⟨hnd, hnd2, fun a ha b hb => ?_⟩
          have := hbd a ha
          have := hbd2 b hb
          omega
        · intro b hb
          rw [hbl] at hb
          rcases List.mem_append.1 hb with hb | hb
          · have := hbd b hb; omega
          · have := hbd2 b hb; omega
      case measure => simp [intOf]; omega
    · obtain rfl : j = l.length := by omega
      have HO4 : Hid ((wr.alloc (.cells #[.int .i64 (-77), .int .i64 0, .string ⟨#[]⟩, .slice none 0 0] 48)).ownsRow G 48 4 (.slice (some ⟨G, 0, none⟩) l.length (l.length + 1)) l.length (l'.flatMap Ex.cells)) := HO.out.alloc _
      have HN : Hid (∀ i u, senE[i]? = some u → (wr.alloc (.cells #[.int .i64 (-77), .int .i64 0, .string ⟨#[]⟩, .slice none 0 0] 48)).cell? ((⟨wr.heap.size, 0, none⟩ : Addr).add i) = some u) := World.news_of_block (heap_alloc_new wr _)
      have H1 : Hid (∀ u ∈ senE, u.oneCell' = true) := fun u hu => by
        simp [senE] at hu; rcases hu with rfl | rfl | rfl | rfl <;> rfl
      go_wp2_with (at_builtin; refine wpList_append_own_spare _ rfl _ _ 46 rfl G 48 i0 4 Tryd.underlying46 HI.out hz1 G l.length (l.length + 1) (l'.flatMap Ex.cells) rfl HO4.out ⟨wr.heap.size, 0, none⟩ 1 1 senE rfl rfl HN.out H1.out (by omega) ?_; intro w5 hown5 hgrow5)
      have HO5 : Hid (w5.ownsRow G 48 4 (.slice (some ⟨G, 0, none⟩) (l.length + 1) (l.length + 1)) (l.length + 1) (l'.flatMap Ex.cells ++ senE)) := hown5
      have hGX : G < wr.heap.size := by
        exact owns_lt HO.out
      have HK5 : Hid (G < wr.heap.size ∧ wr.heap.size < w5.heap.size ∧ ∀ k, k < wr.heap.size → k ≠ G → w5.heap[k]? = wr.heap[k]?) := by
        refine ⟨hGX, by have := hgrow5.size; simp at this; omega, fun k h1 h3 => ?_⟩
        rw [hgrow5.block k (by simp; omega) (by simpa using h3), Below.heap_alloc _ _ _ h1]
      have BW5 : Hid (Below G w w5) := (BW.out.alloc (by omega) _).grown hgrow5 (by simp; omega) (fun k hk => by simp at hk; omega)
      clear hown5 hgrow5 HO4 HN H1 hGX
      go_wp2_with fail
      go_ret
      obtain ⟨hcp, her, hnd, hbd⟩ := HR.out
      obtain ⟨hgx, hs5, hk5⟩ := HK5.out
      have hw : w.heap.size = G := HG.out
      refine ⟨⟨G, l', rfl, ⟨G, rfl, by rw [HJ.out], by omega, owns_full HO5.out⟩, fun y hy => (hcp y hy).kept fun b hb => ?_, by rw [her, List.take_length], ?_, ?_⟩, by rw [hw]; exact BW5.out⟩
      · have := hbd b (by rw [blL_map]; exact List.mem_flatMap.2 ⟨y, hy, hb⟩)
        exact hk5 b this.2 (by omega)
      · refine List.nodup_cons.2 ⟨fun h => ?_, hnd⟩
        have := hbd _ h; omega
      · intro b hb
        rcases List.mem_cons.1 hb with rfl | hb
        · omega
        · have := hbd b hb; omega
theorem exprsOf_k (n : Nat) : ∀ (l : List Ex) (a : Option Addr) (c : Nat) (w : World), szL l < n → HaveE w a c l → l.length ≤ 1048576 → (∀ x ∈ l, x.Few) → Calls Tryd.prog 36 #[.slice a l.length c] w fun e w' => CpR w w' l e ∧ Below w.heap.size w w' := by
  induction n with
  | zero => intro l a c w h; omega
  | succ n ih => exact fun l a c w h => exprsOf_step n ih l a c w (by omega)
theorem exprsOf_any (l : List Ex) (a : Option Addr) (c : Nat) (w : World) (hin : HaveE w a c l) (hf0 : l.length ≤ 1048576) (hf : ∀ x ∈ l, x.Few) : Calls Tryd.prog 36 #[.slice a l.length c] w fun e w' => CpR w w' l e ∧ Below w.heap.size w w' := exprsOf_k (szL l + 1) l a c w (by omega) hin hf0 hf
end Go.Proofs.YtbpemackmadhgabDoor

/- The document's own answer whether two lists of expressions are the same. -/
namespace Go.Proofs.YtbpemackmadhgabDoor
open Go.RowKit Go.Sort

set_option maxRecDepth 100000 in
set_option maxHeartbeats 8000000 in
theorem rsamE_step (k : Nat) (ih : ∀ (l t : List Ex) (a a' : Option Addr) (c c' : Nat) (w : World), szL l ≤ k → HaveE w a c l → HaveE w a' c' t →
      Calls Tryd.prog 49 #[.slice a l.length c, .slice a' t.length c'] w fun e w' => e = .returned (.bool (samEs l t)) ∧ Below w.heap.size w w')
    (l t : List Ex) (a a' : Option Addr) (c c' : Nat) (w : World) (hk : szL l ≤ k + 1) (hin : HaveE w a c l) (hin' : HaveE w a' c' t) :
    Calls Tryd.prog 49 #[.slice a l.length c, .slice a' t.length c'] w fun e w' => e = .returned (.bool (samEs l t)) ∧ Below w.heap.size w w' := by
  have IH : Hid (∀ (l t : List Ex) (a a' : Option Addr) (c c' : Nat) (w : World), szL l ≤ k → HaveE w a c l → HaveE w a' c' t →
      Calls Tryd.prog 49 #[.slice a l.length c, .slice a' t.length c'] w fun e w' => e = .returned (.bool (samEs l t)) ∧ Below w.heap.size w w') := ih
  have HA : Hid (HaveE w a c l) := hin
  have HB : Hid (HaveE w a' c' t) := hin'
  have hl := hin.1
  have hc := hin.2.1
  have hl' := hin'.1
  have hc' := hin'.2.1
  have HK : Hid (szL l ≤ k + 1) := hk
  clear ih hin hin' hk
  by_cases hle : l.length = t.length
  · have HL : Hid (l.length = t.length) := hle
    rw [← hle] at hl' ⊢
    clear hle
    go_enter Tryd.func49, Tryd.ntmps49
    go_wp2_with fail
    go_loopw [5] (fun t5 wr => ∃ (j : Nat), j ≤ l.length ∧ t5 = .int .i64 j ∧ samEs (l.drop j) (t.drop j) = samEs l t ∧ Below w.heap.size w wr) (fun t5 _ => l.length - (intOf t5).toNat)
    case atStart => exact ⟨0, Nat.zero_le _, rfl, rfl, Below.refl _ w⟩
    case round =>
      obtain ⟨j, hj, rfl, hcnt, hb⟩ := hrel
      have HC : Hid (samEs (l.drop j) (t.drop j) = samEs l t) := hcnt
      clear hcnt
      have hws := hb.size
      by_cases hlt : j < l.length
      · have hlt' : j < t.length := by have := HL.out; omega
        obtain ⟨b, o, rfl, k0, k1, k2, k3⟩ := row_at (HA.out.2.2.1.below hb) hlt
        obtain ⟨b', o', rfl, m0, m1, m2, m3⟩ := row_at (HB.out.2.2.1.below hb) hlt'
        have hli : (j : Int) < (l.length : Int) := by omega
        have HQ : Hid (∀ w', Below wr.heap.size wr w' → Calls Tryd.prog 49 #[.slice l[j].a l[j].args.length l[j].cap, .slice t[j].a t[j].args.length t[j].cap] w' fun e w'' => e = .returned (.bool (samEs l[j].args t[j].args)) ∧ Below w'.heap.size w' w'') := fun w' h => by
          have hbw : Below w.heap.size w w' := hb.trans (h.mono hws)
          have h1 := szL_mem (List.getElem_mem hlt)
          have h2 := (l[j]).sz_args
          have h3 := HK.out
          exact IH.out _ _ _ _ _ _ w' (by omega) ((HA.out.2.2.2 l[j] (List.getElem_mem hlt)).stay hbw).have ((HB.out.2.2.2 t[j] (List.getElem_mem hlt')).stay hbw).have
        have HD : Hid (samEs (l.drop j) (t.drop j) = ((l[j].kind == t[j].kind && (l[j].n == t[j].n && (l[j].name.toList == t[j].name.toList && samEs l[j].args t[j].args))) && samEs (l.drop (j + 1)) (t.drop (j + 1)))) := by
          show _ = _; rw [samEs_drop hlt hlt', samE_eq]
        generalize l[j] = x at *
        generalize t[j] = y at *
        generalize samEs x.args y.args = sub at *
        have c0 := cell_regrown k0
        have d0 := cell_regrown m0
        have c1 := cell_regrown k1
        have d1 := cell_regrown m1
        have c2 := cell_regrown k2
        have d2 := cell_regrown m2
        have c3 := cell_regrown k3
        have d3 := cell_regrown m3
        clear k0 k1 k2 k3 m0 m1 m2 m3 hlt'
        have hu : undef = Value.tuple #[] := rfl
        cases e1 : (x.kind == y.kind)
        · have e1' : (x.kind != y.kind) = true := by simp [bne, e1]
          rw [e1] at HD
          go_wp2_with fail
          refine wp_region_quiet_below (by kernel_rfl) (by kernel_rfl) ?_
          repeat (go_big_quiet_step (fail))
          refine wpQuiet_nil ?_
          intro _ hw'
          obtain ⟨⟨dq, osq⟩, hw''⟩ := hw'
          subst hw''
          have hbq := below_regrown wr dq osq
          clear c0 c1 c2 c3 d0 d1 d2 d3
          go_wp2_with fail
          go_ret
          exact ⟨ret_bool (by rw [← HC.out, HD.out]; rfl), hb.trans (hbq.mono hws)⟩
        · have e1' : (x.kind != y.kind) = false := by simp [bne, e1]
          rw [e1] at HD
          cases e2 : (x.n == y.n)
          · have e2' : (x.n != y.n) = true := by simp [bne, e2]
            rw [e2] at HD
            go_wp2_with fail
            refine wp_region_quiet_below (by kernel_rfl) (by kernel_rfl) ?_
            repeat (go_big_quiet_step (fail))
            refine wpQuiet_nil ?_
            intro _ hw'
            obtain ⟨⟨dq, osq⟩, hw''⟩ := hw'
            subst hw''
            have hbq := below_regrown wr dq osq
            clear c0 c1 c2 c3 d0 d1 d2 d3
            go_wp2_with fail
            go_ret
            exact ⟨ret_bool (by rw [← HC.out, HD.out]; rfl), hb.trans (hbq.mono hws)⟩
          · have e2' : (x.n != y.n) = false := by simp [bne, e2]
            rw [e2] at HD
            cases e3 : (x.name.toList == y.name.toList)
            · have e3' : (x.name.toList != y.name.toList) = true := by simp [bne, e3]
              rw [e3] at HD
              go_wp2_with fail
              refine wp_region_quiet_below (by kernel_rfl) (by kernel_rfl) ?_
              repeat (go_big_quiet_step (fail))
              refine wpQuiet_nil ?_
              intro _ hw'
              obtain ⟨⟨dq, osq⟩, hw''⟩ := hw'
              subst hw''
              have hbq := below_regrown wr dq osq
              clear c0 c1 c2 c3 d0 d1 d2 d3
              go_wp2_with fail
              go_ret
              exact ⟨ret_bool (by rw [← HC.out, HD.out]; rfl), hb.trans (hbq.mono hws)⟩
            · have e3' : (x.name.toList != y.name.toList) = false := by simp [bne, e3]
              rw [e3] at HD
              go_wp2_with fail
              refine wp_region_quiet_below (by kernel_rfl) (by kernel_rfl) ?_
              repeat (go_big_quiet_step ((go_at_call 49; exact Calls.regrown_of (HQ.out _ (below_regrown _ _ _)))))
              refine wpQuiet_nil ?_
              intro _ hw'
              obtain ⟨⟨dq, osq⟩, hw''⟩ := hw'
              subst hw''
              have hbq := below_regrown wr dq osq
              clear c0 c1 c2 c3 d0 d1 d2 d3
              generalize grow (redrawn wr dq) osq = W3 at *
              cases sub
              · go_wp2_with fail
                go_ret
                exact ⟨ret_bool (by rw [← HC.out, HD.out]; rfl), hb.trans (hbq.mono hws)⟩
              · go_wp2_with fail
                go_roundw
                case rel => exact ⟨j + 1, by omega, by go_num, by rw [← HC.out, HD.out]; rfl, hb.trans (hbq.mono hws)⟩
                case measure => simp [intOf]; omega
      · go_wp2_with fail
        go_ret
        refine ⟨ret_bool ?_, hb⟩
        rw [← HC.out, List.drop_eq_nil_of_le (by omega), List.drop_eq_nil_of_le (by have := HL.out; omega)]; simp [samEs]
  · have hne : ((l.length : Int) != (t.length : Int)) = true := by simp only [bne_iff_ne]; omega
    go_enter Tryd.func49, Tryd.ntmps49
    go_wp2_with fail
    go_ret
    exact ⟨ret_bool (by rw [samEs_len hle]), Below.refl _ w⟩

set_option maxRecDepth 100000 in
set_option maxHeartbeats 2000000 in
theorem rsamE_nil (t : List Ex) (a a' : Option Addr) (c c' : Nat) (w : World) (hin : HaveE w a c []) (hin' : HaveE w a' c' t) :
    Calls Tryd.prog 49 #[.slice a ([] : List Ex).length c, .slice a' t.length c'] w fun e w' => e = .returned (.bool (samEs [] t)) ∧ Below w.heap.size w w' := by
  have hc := hin.2.1
  have hl' := hin'.1
  have hc' := hin'.2.1
  clear hin hin'
  show Calls Tryd.prog 49 #[.slice a 0 c, .slice a' t.length c'] w _
  cases t with
  | nil =>
    show Calls Tryd.prog 49 #[.slice a 0 c, .slice a' 0 c'] w _
    go_enter Tryd.func49, Tryd.ntmps49
    go_wp2_with fail
    go_loopw [5] (fun t5 wr => t5 = .int .i64 0 ∧ wr = w) (fun _ _ => 0)
    case atStart => exact ⟨rfl, rfl⟩
    case round =>
      obtain ⟨rfl, rfl⟩ := hrel
      go_wp2_with fail
      go_ret
      exact ⟨ret_bool (by simp [samEs]), Below.refl _ _⟩
  | cons y t =>
    have hne : ((0 : Int) != ((y :: t).length : Int)) = true := by simp only [bne_iff_ne, List.length_cons]; omega
    generalize hlen : (y :: t).length = n at *
    clear hlen
    go_enter Tryd.func49, Tryd.ntmps49
    go_wp2_with fail
    go_ret
    exact ⟨ret_bool (by simp [samEs]), Below.refl _ w⟩

theorem rsamE_k (k : Nat) : ∀ (l t : List Ex) (a a' : Option Addr) (c c' : Nat) (w : World), szL l ≤ k → HaveE w a c l → HaveE w a' c' t →
    Calls Tryd.prog 49 #[.slice a l.length c, .slice a' t.length c'] w fun e w' => e = .returned (.bool (samEs l t)) ∧ Below w.heap.size w w' := by
  induction k with
  | zero =>
    intro l t a a' c c' w hk hin hin'
    obtain rfl : l = [] := by
      cases l with
      | nil => rfl
      | cons x r => rw [szL] at hk; have := x.sz_args; omega
    exact rsamE_nil t a a' c c' w hin hin'
  | succ k ih => exact fun l t a a' c c' w hk hin hin' => rsamE_step k ih l t a a' c c' w hk hin hin'
theorem rsamE_any (l t : List Ex) (a a' : Option Addr) (c c' : Nat) (w : World) (hin : HaveE w a c l) (hin' : HaveE w a' c' t) :
    Calls Tryd.prog 49 #[.slice a l.length c, .slice a' t.length c'] w fun e w' => e = .returned (.bool (samEs l t)) ∧ Below w.heap.size w w' := rsamE_k _ l t a a' c c' w (Nat.le_refl _) hin hin'
end Go.Proofs.YtbpemackmadhgabDoor
