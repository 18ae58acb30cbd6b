/- How many parts an expression adds. -/
import Derived.Test.YtbpemackmadhgaaDoorD
import Derived.Test.YtbpemackmadhgaaDoorProg
namespace Go.Proofs.YtbpemackmadhgaaDoor
open Go.RowKit

mutual
def cntE : Ex → Int → Int | .mk _ _ _ _ _ l, n => cntL l (n + 1)
def cntL : List Ex → Int → Int | [], n => n | x :: r, n => if 4096 < n then n else cntL r (cntE x n)
end

theorem cntE_args (x : Ex) (n : Int) : cntE x n = cntL x.args (n + 1) := by cases x; simp [cntE, Ex.args]
theorem cntL_drop {l : List Ex} {j : Nat} {n : Int} (h : j < l.length) : cntL (l.drop j) n = if 4096 < n then n else cntL (l.drop (j + 1)) (cntE l[j] n) := by
  rw [List.drop_eq_getElem_cons h, cntL]

theorem cnt_ge (k : Nat) : (∀ (x : Ex) (n : Int), x.sz ≤ k → n + 1 ≤ cntE x n) ∧ (∀ (l : List Ex) (n : Int), szL l ≤ k → n ≤ cntL l n) := by
  induction k with
  | zero =>
    refine ⟨fun x n hk => by have := x.sz_args; omega, fun l n hk => ?_⟩
    cases l with
    | nil => simp [cntL]
    | cons x r => rw [szL] at hk; have := x.sz_args; omega
  | succ k ih =>
    have h1 : ∀ (x : Ex) (n : Int), x.sz ≤ k + 1 → n + 1 ≤ cntE x n := fun x n hk => by
      rw [cntE_args]; exact ih.2 _ _ (by have := x.sz_args; omega)
    refine ⟨h1, fun l => ?_⟩
    induction l with
    | nil => intro n _; simp [cntL]
    | cons x r ihr =>
      intro n hk
      rw [szL] at hk
      rw [cntL]
      split
      · exact Int.le_refl _
      · have := h1 x n (by omega)
        have := ihr (cntE x n) (by omega)
        omega
theorem cntE_ge (x : Ex) (n : Int) : n + 1 ≤ cntE x n := (cnt_ge _).1 x n (Nat.le_refl _)
theorem cntL_ge (l : List Ex) (n : Int) : n ≤ cntL l n := (cnt_ge _).2 l n (Nat.le_refl _)

theorem row_at {W : World} {a : Option Addr} {l : List Ex} (h : RowIn W a 4 (l.map Ex.cells)) {i : Nat} (hi : i < l.length) :
    ∃ b o, a = some ⟨b, o, none⟩ ∧ W.cell? ⟨b, o + i * 4, none⟩ = some (.int .i64 l[i].kind) ∧ W.cell? ⟨b, o + i * 4 + 1, none⟩ = some (.int .i64 l[i].n) ∧ W.cell? ⟨b, o + i * 4 + 2, none⟩ = some (.string l[i].name) ∧ W.cell? ⟨b, o + i * 4 + 3, none⟩ = some (.slice l[i].a l[i].args.length l[i].cap) := by
  obtain ⟨b, o, e, hc⟩ := h i l[i].cells (by simp [hi])
  exact ⟨b, o, e, hc 0 _ rfl, hc 1 _ rfl, hc 2 _ rfl, hc 3 _ rfl⟩

theorem ret_int {k : IntKind} {a b : Int} (h : a = b) : Ending.returned (.int k a) = .returned (.int k b) := by rw [h]
theorem ret_bool {a b : Bool} (h : a = b) : Ending.returned (.bool a) = .returned (.bool b) := by rw [h]

set_option maxRecDepth 100000 in
set_option maxHeartbeats 2000000 in
theorem countExpr_k (k : Nat) : ∀ (x : Ex) (n : Int) (w : World), x.sz ≤ k → x.In w → 0 ≤ n → n ≤ 4611686018427387904 →
    Calls Tryd.prog 48 #[x.val, .int .i64 n] w fun e w' => e = .returned (.int .i64 (cntE x n)) ∧ Below w.heap.size w w' := by
  induction k with
  | zero => intro x n w hk; have := x.sz_args; omega
  | succ k ih =>
    intro x n w hk hin h0 h1
    obtain ⟨kd, nn, s, a, c, l⟩ := x
    have hin' := Ex.in_iff.1 hin
    simp only [Ex.kind, Ex.n, Ex.name, Ex.a, Ex.cap, Ex.args] at hin'
    obtain ⟨_, _, _, hl, hc, _, hrow, hsub⟩ := hin'
    have hszl : szL l ≤ k := by have := (Ex.mk kd nn s a c l).sz_args; simp only [Ex.args] at this; omega
    rw [cntE_args]
    unfold Ex.val
    simp only [Ex.kind, Ex.n, Ex.name, Ex.a, Ex.cap, Ex.args]
    have IH : Hid (∀ (x : Ex) (n : Int) (w : World), x.sz ≤ k → x.In w → 0 ≤ n → n ≤ 4611686018427387904 →
      Calls Tryd.prog 48 #[x.val, .int .i64 n] w fun e w' => e = .returned (.int .i64 (cntE x n)) ∧ Below w.heap.size w w') := ih
    have HS : Hid (∀ (y : Ex), y ∈ l → Ex.In w y) := hsub
    have HR : Hid (RowIn w a 4 (List.map Ex.cells l)) := hrow
    clear ih hsub hrow hin hk
    go_enter Tryd.func48, Tryd.ntmps48
    go_wp2_with fail
    go_loopw [1, 12] (fun t1 t12 wr => ∃ (j : Nat) (m : Int), j ≤ l.length ∧ t1 = .int .i64 m ∧ t12 = .int .i64 j ∧ 0 ≤ m ∧ cntL (l.drop j) m = cntL l (n + 1) ∧ Below w.heap.size w wr) (fun _ t12 _ => l.length - (intOf t12).toNat)
    case atStart => exact ⟨0, n + 1, Nat.zero_le _, rfl, rfl, by omega, by simp, (Below.refl _ w).alloc (Nat.le_refl _) _⟩
    case round =>
      obtain ⟨j, m, hj, rfl, rfl, hm0, hcnt, hb⟩ := hrel
      have HC : Hid (cntL (l.drop j) m = cntL l (n + 1)) := hcnt
      clear hcnt
      have hws := hb.size
      by_cases hlt : j < l.length
      · obtain ⟨b, o, rfl, c0, c1, c2, c3⟩ := row_at (HR.out.below hb) hlt
        have hli : (j : Int) < (l.length : Int) := by omega
        by_cases hm : 4096 < m
        · go_wp2_with fail
          go_ret
          refine ⟨ret_int ?_, hb.alloc hws _⟩
          rw [← HC.out, cntL_drop hlt, if_pos hm]
        · have hy := HS.out l[j] (List.getElem_mem hlt)
          have hsy := szL_mem (List.getElem_mem hlt)
          go_wp2_with fail
          refine (IH.out l[j] m _ (by omega) (Ex.In.below ((Below.mono hb (Nat.le_refl _)).alloc hws _) _ _ (Nat.le_refl _) hy) hm0 (by omega)).mono ?_
          rintro e w' ⟨rfl, hb'⟩
          have hge := cntE_ge l[j] m
          go_wp2_with fail
          go_roundw
          case rel =>
            refine ⟨j + 1, cntE l[j] m, by omega, rfl, by go_num, by omega, ?_, ?_⟩
            · rw [← HC.out, cntL_drop hlt, if_neg (by omega)]
            · exact (hb.alloc hws _).trans (hb'.mono (by simp; omega))
          case measure => simp [intOf]; omega
      · go_wp2_with fail
        go_ret
        refine ⟨ret_int ?_, hb⟩
        rw [← HC.out, List.drop_eq_nil_of_le (by omega)]; simp [cntL]
theorem countExpr_any (x : Ex) (n : Int) (w : World) (hin : x.In w) (h0 : 0 ≤ n) (h1 : n ≤ 4611686018427387904) :
    Calls Tryd.prog 48 #[x.val, .int .i64 n] w fun e w' => e = .returned (.int .i64 (cntE x n)) ∧ Below w.heap.size w w' := countExpr_k _ x n w (Nat.le_refl _) hin h0 h1
end Go.Proofs.YtbpemackmadhgaaDoor
