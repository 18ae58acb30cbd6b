/- tree.Nodes: what it answers. -/
import Derived.Test.YtbpemackmadhgaaDoorE4
namespace Go.Proofs.YtbpemackmadhgaaDoor
open Go.RowKit

def cntF : List Fu → Int → Int | [], n => n | f :: r, n => cntF r (cntSs f.body n)
theorem cntF_drop {l : List Fu} {j : Nat} {n : Int} (h : j < l.length) : cntF (l.drop j) n = cntF (l.drop (j + 1)) (cntSs l[j].body n) := by
  rw [List.drop_eq_getElem_cons h, cntF]
/-- How many parts a program has, as the program counts them. -/
def nodesZ (p : Pr) : Int := min (cntF p.funcs 0) 4097

theorem rowF_at {W : World} {a : Option Addr} {l : List Fu} (h : RowIn W a 3 (l.map Fu.cells)) {i : Nat} (hi : i < l.length) :
    ∃ b o, a = some ⟨b, o, none⟩ ∧ W.cell? ⟨b, o + i * 3, none⟩ = some (.string l[i].name) ∧ W.cell? ⟨b, o + i * 3 + 1, none⟩ = some (.slice l[i].pa l[i].params.length l[i].pc) ∧ W.cell? ⟨b, o + i * 3 + 2, none⟩ = some (.slice l[i].ba l[i].body.length l[i].bc) := by
  obtain ⟨b, o, e, hc⟩ := h i l[i].cells (by simp [hi])
  exact ⟨b, o, e, hc 0 _ rfl, hc 1 _ rfl, hc 2 _ rfl⟩

set_option maxRecDepth 100000 in
set_option maxHeartbeats 4000000 in
theorem nodes_any (p : Pr) (w : World) (hin : p.In w) : Calls Tryd.prog 8 #[p.val] w fun e w' => e = .returned (.int .i64 (nodesZ p)) ∧ Below w.heap.size w w' := by
  obtain ⟨h1, h2, h3, h4, h5, h6, h7, h8, hrow, hsub⟩ := hin
  have HR : Hid (RowIn w p.fa 3 (List.map Fu.cells p.funcs)) := hrow
  have HS : Hid (∀ f ∈ p.funcs, f.In w) := hsub
  clear hrow hsub h1 h2 h3 h4 h5 h8
  unfold Pr.val nodesZ
  go_enter Tryd.func8, Tryd.ntmps8
  go_wp2_with fail
  go_loopw [3, 9] (fun t3 t9 wr => ∃ (j : Nat) (m : Int), j ≤ p.funcs.length ∧ t3 = .int .i64 m ∧ t9 = .int .i64 j ∧ 0 ≤ m ∧ m ≤ 8796093022208 ∧ cntF (p.funcs.drop j) m = cntF p.funcs 0 ∧ Below w.heap.size w wr) (fun _ t9 _ => p.funcs.length - (intOf t9).toNat)
  case atStart => exact ⟨0, 0, Nat.zero_le _, rfl, rfl, by omega, by omega, by simp, (Below.refl _ w).alloc (Nat.le_refl _) _⟩
  case round =>
    obtain ⟨j, m, hj, rfl, rfl, hm0, hm1, hcnt, hb⟩ := hrel
    have HC : Hid (cntF (p.funcs.drop j) m = cntF p.funcs 0) := hcnt
    clear hcnt
    have hws := hb.size
    by_cases hlt : j < p.funcs.length
    · obtain ⟨b, o, hfa, c0, c1, c2⟩ := rowF_at (HR.out.below hb) hlt
      rw [hfa]
      have hli : (j : Int) < (p.funcs.length : Int) := by omega
      have hy := HS.out p.funcs[j] (List.getElem_mem hlt)
      have HH : Hid (Have wr p.funcs[j].ba p.funcs[j].bc p.funcs[j].body) := hy.2.2.2.2.2.2.stay hb
      have HD : Hid (cntF (p.funcs.drop j) m = cntF (p.funcs.drop (j + 1)) (cntSs p.funcs[j].body m)) := cntF_drop hlt
      have hbd := cntSs_bd HH.out.2 m
      clear hy
      generalize p.funcs[j] = f at *
      go_wp2_with fail
      refine (countStmts_any f.body f.ba f.bc m _ (HH.out.stay ((Below.refl _ _).alloc (Nat.le_refl _) _)) hm0).mono ?_
      rintro e w' ⟨rfl, hb'⟩
      go_wp2_with fail
      go_roundw
      case rel =>
        refine ⟨j + 1, cntSs f.body m, by omega, rfl, by go_num, by omega, by omega, ?_, (hb.alloc hws _).trans (hb'.mono (by simp; omega))⟩
        rw [← HC.out, HD.out]
      case measure => simp [intOf]; omega
    · have he : cntF p.funcs 0 = m := by rw [← HC.out, List.drop_eq_nil_of_le (by omega), cntF]
      have HE : Hid (cntF p.funcs 0 = m) := he
      clear he HC
      by_cases hm : m ≤ 4097
      · go_wp2_with fail
        go_ret
        refine ⟨ret_int ?_, hb⟩
        have := HE.out
        omega
      · go_wp2_with fail
        go_ret
        refine ⟨ret_int ?_, hb⟩
        have := HE.out
        omega
end Go.Proofs.YtbpemackmadhgaaDoor
