/- Sets of numbers, as maps hold them: add, has, hasTarget. -/
import Derived.Test.YtdnilonfgbinaaaNc
import Derived.Maps.RangeWalk
import Derived.Maps.Views
namespace Go.Proofs.Ytdnilonfgbinaaa
open Go.RowKit Go.Sort

theorem zero_unit (w : World) : (zeroValue 77).run Try.prog w = .ok (.agg #[]) w := by kernel_rfl
theorem keyedN : Maps.Keyed Try.prog 3 := Maps.int_keyed Try.underlying3
/-- Is a number among them? -/
def hasI (s : List Nat) (z : Int) : Bool := s.any fun k => decide ((k : Int) = z)
theorem hasI_nat (s : List Nat) (k : Nat) : hasI s (k : Int) = decide (k ∈ s) := by
  unfold hasI
  rw [Bool.eq_iff_iff, List.any_eq_true, decide_eq_true_eq]
  constructor
  · rintro ⟨x, hx, e⟩
    rw [decide_eq_true_eq] at e
    obtain rfl : x = k := by omega
    exact hx
  · exact fun h => ⟨k, h, by simp⟩
theorem hasI_cons (s : List Nat) (k : Nat) (z : Int) : hasI (k :: s) z = (decide ((k : Int) = z) || hasI s z) := rfl
/-- Block b is a map whose keys are s. -/
def Mst (W : World) (b : Nat) (s : List Nat) : Prop :=
  ∃ D : DataW Unit, W.ownsMap Try.prog 3 unitElem b s.length D ∧ Maps.size D = s.length ∧ s.Nodup ∧ (∀ k ∈ s, k ≤ 4611686018427387904) ∧ ∀ z : Int, Maps.has D (.int .i64 z) = hasI s z
theorem mst_made (w : World) : Mst (w.alloc (.map #[] 0)) w.heap.size [] := ⟨.map [], World.ownsMap_made w _ _ _, rfl, List.nodup_nil, (fun _ h => by cases h), fun _ => rfl⟩
theorem Mst.lt {W : World} {b : Nat} {s : List Nat} (h : Mst W b s) : b < W.heap.size := by
  obtain ⟨D, h, _⟩ := h; exact h.lt
theorem Mst.keep {W W' : World} {b : Nat} {s : List Nat} (h : Mst W b s) (he : W'.heap[b]? = W.heap[b]?) : Mst W' b s := by
  obtain ⟨D, ⟨es, clock, hb, hr⟩, h2⟩ := h
  exact ⟨D, ⟨es, clock, he.trans hb, hr⟩, h2⟩
theorem Mst.stay {W W' : World} {b : Nat} {s : List Nat} (h : Mst W b s) (hb : Below W.heap.size W W') : Mst W' b s := h.keep (hb.block b h.lt)
theorem Mst.kept {W W' : World} {b : Nat} {s : List Nat} {row : Option Nat} (h : Mst W b s) (hg : W.grownBy W' row) (hr : row ≠ some b) : Mst W' b s := h.keep (hg.block b h.lt (Ne.symm hr))
theorem Mst.nd {W : World} {b : Nat} {s : List Nat} (h : Mst W b s) : s.Nodup := by
  obtain ⟨D, _, _, h, _⟩ := h; exact h
/-- A block of cells is no map. -/
theorem Mst.ne {W : World} {b k : Nat} {s : List Nat} {cs : Array Value} {T : TypeId} {fz : Nat × Nat} (h : Mst W b s) (hk : W.heap[k]? = some (.cells cs T fz)) : b ≠ k := by
  rintro rfl
  obtain ⟨D, ⟨es, clock, hb, _⟩, _⟩ := h
  rw [hb] at hk
  cases hk
theorem Mst.row {W : World} {b N n sz : Nat} {T : TypeId} {v : Value} {xs : List Value} {s : List Nat} (h : Mst W b s) (ho : W.ownsRow N T sz v n xs) : v.ownBlock ≠ some b := fun e => by
  rcases ho.2 with ⟨rfl, _⟩ | ⟨g, cap, cur, rfl, _, hg, _⟩
  · cases e
  · cases e
    exact h.ne hg rfl
theorem Mst.own {W W' : World} {b N n sz : Nat} {T : TypeId} {v : Value} {xs : List Value} {s : List Nat} (h : Mst W b s) (hg : W.grownBy W' (some b)) (ho : W.ownsRow N T sz v n xs) : W'.ownsRow N T sz v n xs := ho.kept hg (.inr (h.row ho))
theorem Mst.look {W : World} {b : Nat} {s : List Nat} (h : Mst W b s) (z : Int) (hz : I64 z) :
    (Instr.lookup 48 (.map (some b)) (.int .i64 z) true).run Try.prog W = .ok (.tuple #[.agg #[], .bool (hasI s z)]) W := by
  obtain ⟨D, h, _, _, _, hh⟩ := h
  obtain ⟨v, ps, hr, hv⟩ := h.look_ok keyedN Try.underlying48 (zero_unit W) (zd := .agg []) (zp := []) unitElem_mk (Maps.keyOf_int_mk Try.underlying3 (a := z) (by simp [Lit.wf]; exact hz))
  obtain ⟨rfl, _⟩ := unitElem_inv hv
  rw [hr, hh]
theorem map_tight {H : Type} {P : Program} {k : TypeId} {R : Value → Option (DataW H × List MemPlace)} {w : World} {b n : Nat} {D : DataW H} (h : w.ownsMap P k R b n D) : w.ownsMap P k R b (Maps.size D) D := by
  obtain ⟨es, clock, hb, F, hs, rfl⟩ := h
  exact ⟨es, clock, hb, F, by simp [Maps.size, DataW.length_sorted], rfl⟩
theorem Mst.put {W : World} {b : Nat} {s : List Nat} (h : Mst W b s) (k : Nat) (hk : k ∉ s) (hk6 : k ≤ 4611686018427387904) (hl : s.length ≤ 1000000) :
    ∃ W', (Instr.mapUpdate 48 (.map (some b)) (.int .i64 (k : Int)) (.agg #[])).run Try.prog W = .ok () W' ∧ Mst W' b (k :: s) ∧ W.grownBy W' (some b) := by
  obtain ⟨D, h, hs, hn, h6, hh⟩ := h
  have hm := h.isMap
  have htd := h.tidy keyedN
  have hno : Maps.has D (.int .i64 (k : Int)) = false := by rw [hh, hasI_nat]; exact decide_eq_false hk
  have hki : I64 (k : Int) := ⟨by omega, by omega⟩
  obtain ⟨W', hr, ho, hg⟩ := h.update keyedN Try.underlying48 (by unfold maxLen; omega) (key := .int .i64 (k : Int)) (val := .agg #[]) (Maps.keyOf_int_mk Try.underlying3 (a := (k : Int)) (by simp [Lit.wf]; exact hki)) unitElem_mk
  refine ⟨W', hr, ⟨_, ho, ?_, List.nodup_cons.2 ⟨hk, hn⟩, fun x hx => ?_, fun z => ?_⟩, hg⟩
  · rw [Maps.size_put htd, hno, if_neg (by simp), hs]; rfl
  · rcases List.mem_cons.1 hx with rfl | hx
    · exact hk6
    · exact h6 x hx
  · rw [hasI_cons]
    by_cases e : (k : Int) = z
    · subst e
      rw [Maps.has_put_same hm (by trivial), decide_eq_true rfl, Bool.true_or]
    · have hne : (Lit.int .i64 z) ≠ Lit.int .i64 (k : Int) := fun h => by cases h; exact e rfl
      rw [Maps.has_put_other hne, hh, decide_eq_false e, Bool.false_or]
set_option maxHeartbeats 1000000 in
theorem ladd_any (b : Nat) (s : List Nat) (k : Nat) (w : World) (h : Mst w b s) (hk : k ∉ s) (hk6 : k ≤ 4611686018427387904) (hl : s.length ≤ 1000000) : Calls Try.prog 27 #[.map (some b), .int .i64 (k : Int)] w fun e w' => e = .returned (.tuple #[]) ∧ Mst w' b (k :: s) ∧ w.grownBy w' (some b) := by
  obtain ⟨W', hp, hm, hg⟩ := h.put k hk hk6 hl
  have HM := Hid.mk' hm
  have HG := Hid.mk' hg
  clear hm hg h hk hl hk6
  go_enter Try.func27, Try.ntmps27
  go_wp2_with fail
  go_end0
  exact ⟨rfl, HM.out, HG.out⟩
set_option maxHeartbeats 1000000 in
theorem lhas_any (b : Nat) (s : List Nat) (z : Int) (w : World) (h : Mst w b s) (hz : I64 z) : Calls Try.prog 31 #[.map (some b), .int .i64 z] w fun e w' => e = .returned (.bool (hasI s z)) ∧ Below w.heap.size w w' := by
  have hl := h.look z hz
  have HB := Hid.mk' (Below.one (Below.refl _ w) (.cells #[] 77))
  clear h hz
  go_enter Try.func31, Try.ntmps31
  go_wp2_with fail
  go_ret
  exact ⟨rfl, HB.out⟩
end Go.Proofs.Ytdnilonfgbinaaa
