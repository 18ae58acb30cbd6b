/- What Find tells of the sample that law.fixed asks about, plain. -/
import Derived.Test.YtgiokognngllcaaDoorTw
namespace Go.Proofs.YtgiokognngllcaaDoor
open Go.RowKit Go.Sort

def smp (z : Int) : List Is := [⟨17, 0, 1, 0, 4⟩, ⟨15, 2, 0, 0, 3⟩, ⟨3, z, 3, 0, 0⟩, ⟨18, 0, 0, 0, 0⟩, ⟨0, 3, 0, 0, 0⟩]
theorem smp0 (z : Int) : nxt (smp z) 0 = [1, 4] := rfl
theorem smp1 (z : Int) : nxt (smp z) 1 = [2, 3] := rfl
theorem smp2 (z : Int) : nxt (smp z) 2 = [3] := rfl
theorem smp3 (z : Int) : nxt (smp z) 3 = [0] := rfl
theorem smp4 (z : Int) : nxt (smp z) 4 = [] := rfl
theorem smp_nx {z : Int} {u v : Nat} (h : v ∈ nxt (smp z) u) : (u = 0 ∧ (v = 1 ∨ v = 4)) ∨ (u = 1 ∧ (v = 2 ∨ v = 3)) ∨ (u = 2 ∧ v = 3) ∨ (u = 3 ∧ v = 0) := by
  match u, h with
  | 0, h => rw [smp0] at h; simp at h; exact .inl ⟨rfl, h⟩
  | 1, h => rw [smp1] at h; simp at h; exact .inr (.inl ⟨rfl, h⟩)
  | 2, h => rw [smp2] at h; simp at h; exact .inr (.inr (.inl ⟨rfl, h⟩))
  | 3, h => rw [smp3] at h; simp at h; exact .inr (.inr (.inr ⟨rfl, h⟩))
  | 4, h => rw [smp4] at h; cases h
  | u + 5, h =>
    rw [nxt_none (by show 5 ≤ u + 5; omega)] at h
    cases h
theorem smp_r0 (z : Int) : Rch (smp z) 0 := .zero
theorem smp_r1 (z : Int) : Rch (smp z) 1 := .step (smp_r0 z) (by rw [smp0]; simp)
theorem smp_r2 (z : Int) : Rch (smp z) 2 := .step (smp_r1 z) (by rw [smp1]; simp)
theorem smp_r3 (z : Int) : Rch (smp z) 3 := .step (smp_r1 z) (by rw [smp1]; simp)
theorem smp_dm (z : Int) {v : Nat} (h : Rch (smp z) v) : Dm (smp z) 0 v := ⟨h, fun hw => by
  have key : ∀ g : Int, ∀ v, RchW (smp z) g v → g = 0 → False := by
    intro g v hv
    induction hv with
    | zero h => exact fun e => h e
    | step _ _ _ ih => exact ih
  exact key _ _ hw rfl⟩
theorem smp_ba {z : Int} {u v : Nat} : Ba (smp z) u v ↔ u = 3 ∧ v = 0 := by
  constructor
  · rintro ⟨hn, hd⟩
    have w0 : ∀ g : Nat, g ≠ 0 → RchW (smp z) (g : Int) 0 := fun g h => .zero (by omega)
    have w1 : ∀ g : Nat, g ≠ 0 → g ≠ 1 → RchW (smp z) (g : Int) 1 := fun g h h' => .step (w0 g h) (by rw [smp0]; simp) (by omega)
    have w2 : ∀ g : Nat, g ≠ 0 → g ≠ 1 → g ≠ 2 → RchW (smp z) (g : Int) 2 := fun g h h' h2 => .step (w1 g h h') (by rw [smp1]; simp) (by omega)
    rcases smp_nx hn with ⟨rfl, h⟩ | ⟨rfl, h⟩ | ⟨rfl, h⟩ | h
    · exact absurd (w0 v (by omega)) hd.2
    · exact absurd (w1 v (by omega) (by omega)) hd.2
    · exact absurd (w2 v (by omega) (by omega) (by omega)) hd.2
    · exact h
  · rintro ⟨rfl, rfl⟩
    exact ⟨by rw [smp3]; simp, smp_dm z (smp_r3 z)⟩
theorem smp_ah {z : Int} {u v : Nat} (h : Ah (smp z) u v) : u < v := by
  obtain ⟨hu, hn, hd⟩ := h
  rcases smp_nx hn with ⟨rfl, h⟩ | ⟨rfl, h⟩ | ⟨rfl, h⟩ | ⟨rfl, rfl⟩
  · omega
  · omega
  · omega
  · exact absurd (smp_dm z hu) hd
theorem smp_knt (z : Int) : kntZ (smp z) = none := by
  unfold kntZ
  rw [List.find?_eq_none]
  intro v _ hv
  have key : ∀ a b, Awy (smp z) a b → a < b := by
    intro a b hab
    induction hab with
    | one h => exact smp_ah h
    | step _ h ih => exact Nat.lt_trans ih (smp_ah h)
  exact Nat.lt_irrefl _ (key _ _ (pD_t.1 hv))
theorem smp_bk0 (z : Int) : bks (smp z) 0 = [3] := by
  unfold bks
  rw [List.filter_congr (q := fun u => decide (u = 3)) fun u _ => by rw [Bool.eq_iff_iff, pD_t, smp_ba, decide_eq_true_iff]; simp]
  rfl
theorem smp_bks (z : Int) {h : Nat} (hh : h ≠ 0) : bks (smp z) h = [] := by
  unfold bks
  rw [List.filter_eq_nil_iff]
  intro u _ hb
  exact hh (smp_ba.1 (pD_t.1 hb)).2
theorem smp_mb {z : Int} {v : Nat} : Mbr (smp z) 0 v ↔ v ≤ 3 := by
  have m3 : Mbr (smp z) 0 3 := .back (smp_ba.2 ⟨rfl, rfl⟩)
  constructor
  · intro h
    cases h with
    | head => omega
    | back hb => have := (smp_ba.1 hb).1; omega
    | step _ _ _ hn => rcases smp_nx hn with h | h | h | h <;> omega
  · intro h
    match v, h with
    | 0, _ => exact .head
    | 1, _ => exact .step m3 (by decide) (smp_r1 z) (by rw [smp1]; simp)
    | 2, _ => exact .step m3 (by decide) (smp_r2 z) (by rw [smp2]; simp)
    | 3, _ => exact m3
    | v + 4, h => omega
theorem smp_mbs (z : Int) : mbs (smp z) 0 = [0, 1, 2, 3] := by
  unfold mbs
  rw [List.filter_congr (q := fun u => decide (u ≤ 3)) fun u _ => by rw [Bool.eq_iff_iff, pD_t, smp_mb, decide_eq_true_iff]]
  rfl
theorem smp_hds (z : Int) : hds (smp z) = [0] := by
  unfold hds
  rw [List.filter_congr (q := fun u => decide (u = 0)) fun u _ => by
    by_cases e : u = 0
    · subst e; rw [smp_bk0]; rfl
    · rw [smp_bks z e]; simp [e]]
  rfl
theorem smp_err (z : Int) : errH (smp z) (List.range (smp z).length) = cntZ (smp z) 0 [3] [0, 1, 2, 3] := by
  have e : List.range (smp z).length = [0, 1, 2, 3, 4] := rfl
  rw [e]
  simp only [errH, smp_bk0, smp_mbs, smp_bks z (show 1 ≠ 0 by decide), smp_bks z (show 2 ≠ 0 by decide), smp_bks z (show 3 ≠ 0 by decide), smp_bks z (show 4 ≠ 0 by decide)]
  cases cntZ (smp z) 0 [3] [0, 1, 2, 3] <;> simp
theorem smp_good : fndZ (smp 3) = ⟨[⟨0, -1, [0, 1, 2, 3], [3]⟩], 0, 0⟩ := by
  have hc : cntZ (smp 3) 0 [3] [0, 1, 2, 3] = none := by rfl
  rw [fnd_ok (by decide) (smp_knt 3) (by rw [smp_err, hc])]
  unfold lopsZ
  rw [smp_hds]
  simp [smp_bk0, smp_mbs, parK]
theorem smp_bad : fndZ (smp 1) = ⟨[], 73, 2⟩ := by
  have hc : cntZ (smp 1) 0 [3] [0, 1, 2, 3] = some (73, 2) := by rfl
  rw [fnd_err (by decide) (smp_knt 1) (by rw [smp_err, hc])]
end Go.Proofs.YtgiokognngllcaaDoor
