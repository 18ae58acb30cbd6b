/- A set's numbers, sorted. -/
import Derived.Test.YtdnilonfgbinaaaTd
import Derived.Test.YtdnilonfgbinaaaNg
import Derived.Test.YtdnilonfgbinaaaSs
import Derived.Sort.OwnSortedInts
import Derived.OwnWalk
namespace Go.Proofs.Ytdnilonfgbinaaa
open Go.RowKit Go.Sort

theorem lit_same (x z : Int) : (Lit.int .i64 z).sameKey (.int .i64 x) = decide (z = x) := by
  rw [Bool.eq_iff_iff, decide_eq_true_eq]; simp [Lit.sameKey]
/-- The keys met so far. -/
def ColI (s : List Nat) (left : Lit → Bool) (ks : List Nat) : Prop := ks.Nodup ∧ ∀ k : Nat, k ∈ ks ↔ k ∈ s ∧ left (.int .i64 (k : Int)) = false
theorem ColI.step {s ks : List Nat} {left : Lit → Bool} {k : Nat} (h : ColI s left ks) (hs : k ∈ s) (hl : left (.int .i64 (k : Int)) = true) : ColI s (fun z => left z && !z.sameKey (.int .i64 (k : Int))) (ks ++ [k]) := by
  have hnew : k ∉ ks := fun hx => by have := ((h.2 k).1 hx).2; rw [hl] at this; cases this
  refine ⟨List.nodup_append.2 ⟨h.1, by simp, fun a ha b hb => by simp at hb; subst hb; exact fun e => hnew (e ▸ ha)⟩, fun y => ?_⟩
  show y ∈ ks ++ [k] ↔ y ∈ s ∧ (left (.int .i64 (y : Int)) && !(Lit.int .i64 (y : Int)).sameKey (.int .i64 (k : Int))) = false
  rw [List.mem_append, List.mem_singleton, h.2 y, lit_same]
  by_cases hy : y = k
  · subst hy; simp [hs]
  · have : ¬ ((y : Int) = (k : Int)) := by omega
    simp [hy, this]
theorem rise_same {a b : List Nat} (ha : a.Pairwise (· < ·)) (hb : b.Pairwise (· < ·)) (h : ∀ k, k ∈ a ↔ k ∈ b) : a = b :=
  ((List.perm_ext_iff_of_nodup (ha.imp (fun h => Nat.ne_of_lt h)) (hb.imp (fun h => Nat.ne_of_lt h))).2 h).eq_of_pairwise (le := (· < ·)) (fun x y _ _ h1 h2 => by omega) ha hb
def srtN (ks : List Nat) : List Nat := ks.mergeSort fun x y => decide (x ≤ y)
theorem srtN_rise {ks : List Nat} (h : ks.Nodup) : (srtN ks).Pairwise (· < ·) ∧ ∀ k, k ∈ srtN ks ↔ k ∈ ks := by
  have hp : (srtN ks).Perm ks := List.mergeSort_perm ks _
  have h1 : (srtN ks).Pairwise fun a b => decide (a ≤ b) = true := List.pairwise_mergeSort (fun a b c h1 h2 => by simp only [decide_eq_true_eq] at *; omega) (fun a b => by simp only [Bool.or_eq_true, decide_eq_true_eq]; omega) ks
  refine ⟨?_, fun k => hp.mem_iff⟩
  have hn : (srtN ks).Nodup := hp.nodup_iff.2 h
  exact (h1.and hn).imp fun ⟨a, b⟩ => by simp only [decide_eq_true_eq] at a; omega
theorem srt_nat : ∀ ks : List Nat, (ks.map fun k => ((k : Nat) : Int)).mergeSort (fun x y => decide (x ≤ y)) = (srtN ks).map fun k => ((k : Nat) : Int) := fun ks => by
  unfold srtN
  refine ((List.map_mergeSort (f := fun k : Nat => (k : Int)) (r := fun x y => decide (x ≤ y)) (s := fun x y => decide (x ≤ y)) (l := ks)) fun a _ b _ => ?_).symm
  exact decide_eq_decide.2 (by omega)
/-- slices.Sort at numbers of the call's own. -/
theorem sort_on {N : Nat} {v : Value} {ks : List Nat} (W : World) (h : On N ks v W) (hl : ks.length ≤ 1000000) (hN : N ≤ W.heap.size) :
    Calls Try.prog 28 #[v] W fun e W' => e = .returned (.tuple #[]) ∧ On N (srtN ks) v W' ∧ W.grownBy W' v.ownBlock := by
  have hm : ks.map nV = (ks.map fun k => ((k : Nat) : Int)).map (Value.int .i64) := by rw [List.map_map]; rfl
  have hm2 : (srtN ks).map nV = ((srtN ks).map fun k => ((k : Nat) : Int)).map (Value.int .i64) := by rw [List.map_map]; rfl
  have hlen : (srtN ks).length = ks.length := List.length_mergeSort ks
  unfold On at h ⊢
  rcases h.2 with ⟨rfl, h0⟩ | ⟨g, cap, cur, rfl, hg, hb, hn, hmx, hs, ht⟩
  · have hc : ks = [] := List.length_eq_zero_iff.1 h0
    subst hc
    refine (Any.slices_Sort_int_none Try.lays189 none 0 W).mono ?_
    rintro e W' ⟨rfl, rfl⟩
    exact ⟨rfl, by simpa [srtN] using h, ⟨rfl, rfl, rfl, Nat.le_refl _, fun _ _ _ => rfl⟩⟩
  · rw [hm] at ht
    have hH : Holds (Value.int .i64) W g 0 (ks.map fun k => ((k : Nat) : Int)).toArray := holds_of_blockI hb (by rw [List.length_map]; simpa using ht)
    have hc := Any.slices_Sort_int Try.lays189 g 0 cap (ks.map fun k => ((k : Nat) : Int)) W hH (Array.getElem?_eq_some_iff.1 hb).1 (by rw [List.length_map]; omega)
    rw [List.length_map] at hc
    refine hc.mono ?_
    rintro e W' ⟨rfl, n, os, rfl⟩
    refine ⟨rfl, ?_, grownBy_sortedI _⟩
    rw [hm2, hlen, ← srt_nat]
    have := ownsRow_sortedI (os := os) (ss := ks.map fun k => ((k : Nat) : Int)) (ts := (ks.map fun k => ((k : Nat) : Int)).mergeSort fun x y => decide (x ≤ y)) (n := n) (List.length_mergeSort _) hg hb (by rw [List.length_map]; exact hn) hmx hs
    rw [List.length_map] at this
    exact this
theorem row_obj {W : World} {N n sz r : Nat} {T : TypeId} {v : Value} {xs : List Value} (ho : W.ownsRow N T sz v n xs) (hr : ∀ cs T fz, W.heap[r]? ≠ some (.cells cs T fz)) : v.ownBlock ≠ some r := fun e => by
  rcases ho.2 with ⟨e', _⟩ | ⟨g, cap, cur, e', _, hgb, _⟩
  · rw [e'] at e; cases e
  · rw [e'] at e
    simp only [Value.ownBlock, Option.some.injEq] at e
    rw [e] at hgb
    exact hr _ _ _ hgb
theorem rng_row {H : Type} {P : Program} {k : TypeId} {R : Value → Option (DataW H × List MemPlace)} {W : World} {b r m N n sz cnt : Nat} {D : DataW H} {left : Lit → Bool} {T : TypeId} {v : Value} {xs : List Value} (h : W.ranges P k R b r m D left cnt) (ho : W.ownsRow N T sz v n xs) : v.ownBlock ≠ some r ∧ v.ownBlock ≠ some b := by
  obtain ⟨es, clock, since, seen, c0, hb, _, _, _, hr, _⟩ := h
  exact ⟨row_obj ho (fun cs T fz e => by rw [hr] at e; cases e), row_obj ho (fun cs T fz e => by rw [hb] at e; cases e)⟩
def SoP (s : List Nat) (w : World) (e : Ending) (w' : World) : Prop := ∃ v ks, e = .returned v ∧ On w.heap.size ks v w' ∧ ks.Pairwise (· < ·) ∧ (∀ k, k ∈ ks ↔ k ∈ s) ∧ Below w.heap.size w w'
set_option maxRecDepth 100000 in
set_option maxHeartbeats 4000000 in
theorem lsorted_any (b : Nat) (s : List Nat) (w : World) (h : Mst w b s) (hl : s.length ≤ 1000000) : Calls Try.prog 16 #[.map (some b)] w (SoP s w) := by
  obtain ⟨D, hown, hsz, hnd, h6, hh⟩ := h
  have HSZ := Hid.mk' hsz
  have HN := Hid.mk' hnd
  have H6 := Hid.mk' h6
  have HH := Hid.mk' hh
  have hbl := hown.lt
  obtain ⟨i0, hi, hz0, hz1, hz2⟩ := info_parts Try.infoN
  have hlen : ∀ ty, _ := fun ty => hown.len Try.underlying48 ty
  rw [hsz] at hlen
  clear hsz hnd h6 hh
  go_enter Try.func16, Try.ntmps16
  go_wp2_with (first
    | (at_make; refine wpList_make_own _ rfl _ _ 27 rfl w.heap.size 3 i0 (.int .i64 0) 1 Try.underlying27 hi hz0 hz1 _ _ _ s.length rfl rfl rfl (by rw [hz2]; omega) (by unfold maxLen; omega) (Nat.le_refl _) ?_; intro w1 hrow1 hg1)
    | (at_range; refine wpList_range_own _ rfl _ 48 rfl 3 77 keyedN Try.underlying48 _ b s.length D rfl (hown.kept hg1 (by simp)) ?_; intro w0 hrg0 hg0 hs0))
  go_frame
  clear hlen
  rw [HSZ.out] at hrg0
  go_loopw [3] (fun v wr => ∃ (left : Lit → Bool) (cnt : Nat) (ks : List Nat), wr.ranges Try.prog 3 unitElem b w1.heap.size s.length D left cnt ∧ ks.length + cnt ≤ s.length ∧
      On w.heap.size ks v wr ∧ ColI s left ks ∧ Below w.heap.size w wr)
    (fun _ wr => wr.rangeLeft b w1.heap.size)
  case atStart =>
    refine ⟨_, _, [], hrg0, by simp, hrow1.kept hg0 (Or.inr (by simp [Value.ownBlock])), ⟨List.nodup_nil, fun k => ?_⟩,
      ((Below.refl _ _).grown hg1 (Nat.le_refl _) (fun j hj => by cases hj)).grown hg0 hg1.size (fun j hj => by cases hj)⟩
    rw [HH.out, hasI_nat]
    simp
  case round =>
    obtain ⟨left, cnt, ks, hrg, hcs, hrow, hC, hnx⟩ := hrel
    have HC := Hid.mk' hC
    have HNX := Hid.mk' hnx
    have HRW := Hid.mk' hrow
    have HRG := Hid.mk' hrg
    have HCS := Hid.mk' hcs
    obtain ⟨av, cv, rfl⟩ := gown_form hrow
    clear hC hnx hrow hcs
    go_wp2_with (at_next; refine wpList_next_ranges _ rfl _ rfl 3 keyedN unitElem (Value.int .i64) (fun _ : Unit => Value.agg #[]) (fun key kl hk => by obtain ⟨x, hx, _⟩ := Maps.keyOf_int_inv Try.underlying3 hk; exact ⟨x, hx⟩) (fun v y hv => by obtain ⟨rfl, _⟩ := unitElem_inv hv; exact ⟨(), rfl⟩) b w1.heap.size s.length D left cnt rfl hrg ?_ ?_)
    · intro hc0 hl0
      have HL0 := Hid.mk' hl0
      have HSO := Hid.mk' (sort_on wr HRW.out (by have := HCS.out; omega) HNX.out.size)
      clear hl0 hc0 hrg
      go_wp2_with (go_at_call 28; refine HSO.out.mono ?_; rintro e w2 ⟨rfl, on2, gr2⟩)
      go_ret
      obtain ⟨k1, k2⟩ := srtN_rise HC.out.1
      have hlk : (srtN ks).length = ks.length := List.length_mergeSort ks
      refine ⟨_, srtN ks, rfl, by simpa [hlk] using on2, k1, fun k => ?_, HNX.out.grown gr2 HNX.out.size (fun k e => own_base HRW.out k e)⟩
      rw [k2, HC.out.2 k]
      exact ⟨fun h => h.1, fun h => ⟨h, HL0.out _⟩⟩
    · intro x kl yd yp w2 cnt2 hkey hlk hv hat hrg2 hlt hg2 hs2 hen
      obtain ⟨x', ex, rfl, _⟩ := Maps.keyOf_int_inv Try.underlying3 hkey
      injection ex with _ ex
      subst ex
      have hhx : Maps.has D (.int .i64 x) = true := Maps.has_true_of_atKey hat
      rw [HH.out] at hhx
      obtain ⟨k, hks, ek⟩ := List.any_eq_true.1 hhx
      rw [decide_eq_true_eq] at ek
      subst ek
      have HRW2 := Hid.mk' (HRW.out.kept hg2 (Or.inr (rng_row HRG.out HRW.out).1))
      have HCO := Hid.mk' (HC.out.step hks hlk)
      have HB2 := Hid.mk' (HNX.out.grown hg2 HNX.out.size (fun j hj => by cases hj; exact hg1.size))
      have HAP := Hid.mk' (on_app HRW2.out HB2.out.size (by have := HCS.out; omega) k 27)
      have HR2 := Hid.mk' hrg2
      have HC2 : Hid (ks.length + 1 + cnt2 ≤ s.length) := (by have := HCS.out; omega : _ ≤ _)
      have HLT := Hid.mk' hlt
      clear hhx hks hlk hat hkey hv hs2 hlt hrg2 hg2 hrg
      go_wp2_with (at_builtin; refine wpl_app rfl _ _ 27 27 _ _ rfl rfl rfl HAP.out ?_; rintro v3 W3 ⟨on3, gr3⟩)
      obtain ⟨hne2, hne1⟩ := rng_row HR2.out HRW2.out
      have HR3 := Hid.mk' (HR2.out.kept gr3 (Ne.symm hne1) (Ne.symm hne2))
      have HB3 := Hid.mk' (HB2.out.trans (own_keeps HRW2.out HB2.out.size gr3))
      obtain ⟨a3, c3, rfl⟩ := gown_form on3
      clear gr3 hne1 hne2
      go_roundw
      case rel => exact ⟨_, cnt2, ks ++ [k], HR3.out, by rw [List.length_append]; exact HC2.out, on3, HCO.out, HB3.out⟩
      case measure => rw [HR3.out.left_eq, HRG.out.left_eq]; exact HLT.out
end Go.Proofs.Ytdnilonfgbinaaa
