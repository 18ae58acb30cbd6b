/- countStmts and countStmt: what they answer. -/
import Derived.Test.YtbpemackmadhgaaDoorM1
namespace Go.Proofs.YtbpemackmadhgaaDoor
open Go.RowKit

theorem rowS_at {W : World} {a : Option Addr} {l : List St} (h : RowIn W a 14 (l.map St.cells)) {i : Nat} (hi : i < l.length) :
    ∃ b o, a = some ⟨b, o, none⟩ ∧ ∀ j v, l[i].cells[j]? = some v → W.cell? ⟨b, o + (i * 14 + j), none⟩ = some v := h i l[i].cells (by simp [hi])

set_option maxRecDepth 100000 in
set_option maxHeartbeats 4000000 in
theorem countStmts_step (k : Nat) (h1 : ∀ (s : St) (n : Int) (w : World), s.sz ≤ k → s.In w → 0 ≤ n → n ≤ 4096 → Calls Tryd.prog 28 #[s.val, .int .i64 n] w fun e w' => e = .returned (.int .i64 (cntS s n)) ∧ Below w.heap.size w w')
    (l : List St) (a : Option Addr) (c : Nat) (n : Int) (w : World) (hk : ssz l ≤ k) (hin : Have w a c l) (h0 : 0 ≤ n) :
    Calls Tryd.prog 16 #[.slice a l.length c, .int .i64 n] w fun e w' => e = .returned (.int .i64 (cntSs l n)) ∧ Below w.heap.size w w' := by
  obtain ⟨⟨hl, hc, _, hrow⟩, hsub⟩ := hin
  have IH : Hid (∀ (s : St) (n : Int) (w : World), s.sz ≤ k → s.In w → 0 ≤ n → n ≤ 4096 → Calls Tryd.prog 28 #[s.val, .int .i64 n] w fun e w' => e = .returned (.int .i64 (cntS s n)) ∧ Below w.heap.size w w') := h1
  have HS : Hid (∀ x ∈ l, x.In w) := hsub
  have HR : Hid (RowIn w a 14 (List.map St.cells l)) := hrow
  clear h1 hsub hrow
  go_enter Tryd.func16, Tryd.ntmps16
  go_wp2_with fail
  go_loopw [1, 9] (fun t1 t9 wr => ∃ (j : Nat) (m : Int), j ≤ l.length ∧ t1 = .int .i64 m ∧ t9 = .int .i64 j ∧ 0 ≤ m ∧ cntSs (l.drop j) m = cntSs l n ∧ Below w.heap.size w wr) (fun _ t9 _ => l.length - (intOf t9).toNat)
  case atStart => exact ⟨0, n, Nat.zero_le _, rfl, rfl, h0, by simp, Below.refl _ w⟩
  case round =>
    obtain ⟨j, m, hj, rfl, rfl, hm0, hcnt, hb⟩ := hrel
    have HC : Hid (cntSs (l.drop j) m = cntSs l n) := hcnt
    clear hcnt
    have hws := hb.size
    by_cases hlt : j < l.length
    · obtain ⟨b, o, rfl, hcell⟩ := rowS_at (HR.out.below hb) hlt
      have c0 := hcell 0 _ rfl
      have c1 := hcell 1 _ rfl
      have c2 := hcell 2 _ rfl
      have c3 := hcell 3 _ rfl
      have c4 := hcell 4 _ rfl
      have c5 := hcell 5 _ rfl
      have c6 := hcell 6 _ rfl
      have c7 := hcell 7 _ rfl
      have c8 := hcell 8 _ rfl
      have c9 := hcell 9 _ rfl
      have c10 := hcell 10 _ rfl
      have c11 := hcell 11 _ rfl
      have c12 := hcell 12 _ rfl
      have c13 := hcell 13 _ rfl
      simp only [← Nat.add_assoc, Nat.add_zero] at c0 c1 c2 c3 c4 c5 c6 c7 c8 c9 c10 c11 c12 c13
      clear hcell
      have hli : (j : Int) < (l.length : Int) := by omega
      have hy := HS.out l[j] (List.getElem_mem hlt)
      have hsy := ssz_mem (List.getElem_mem hlt)
      have HY : Hid (l[j].In w) := hy
      have HZ : Hid (l[j].sz ≤ k) := (by omega : l[j].sz ≤ k)
      have HD : Hid (cntSs (l.drop j) m = if 4096 < m then m else cntSs (l.drop (j + 1)) (cntS l[j] m)) := cntSs_drop hlt
      clear hy hsy
      generalize l[j] = s at *
      by_cases hm : 4096 < m
      · go_wp2_with fail
        go_ret
        refine ⟨ret_int ?_, hb.alloc hws _⟩
        rw [← HC.out, HD.out, if_pos hm]
      · go_wp2_with fail
        refine (IH.out s m _ HZ.out (HY.out.stay (hb.alloc hws _)) hm0 (by omega)).mono ?_
        rintro e w' ⟨rfl, hb'⟩
        have hge := cntS_bd1 HY.out m
        go_wp2_with fail
        go_roundw
        case rel =>
          refine ⟨j + 1, cntS s m, by omega, rfl, by go_num, by omega, ?_, ?_⟩
          · rw [← HC.out, HD.out, if_neg (by omega)]
          · exact (hb.alloc hws _).trans (hb'.mono (by simp; omega))
        case measure => simp [intOf]; omega
    · go_wp2_with fail
      go_ret
      refine ⟨ret_int ?_, hb⟩
      rw [← HC.out, List.drop_eq_nil_of_le (by omega)]; simp [cntSs]
end Go.Proofs.YtbpemackmadhgaaDoor
