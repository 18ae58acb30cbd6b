/- Bounds: rows made for an analysis; the beginning copied. -/
import Derived.Test.YtfmkjdfidenfkaaDoorVf
import Derived.Test.YtfmkjdfidenfkaaDoorNg
namespace Go.Proofs.YtfmkjdfidenfkaaDoor
open Go.RowKit
open S8 (meetB meetS joinS widS belA belB belC allS doR doB doS emB pot sv)

theorem Tryd.infoI34 : (Tryd.prog.info? 34).map (fun i => (i.zero, i.size, i.bytes)) = some (some (.slice none 0 0), 1, 24) := by kernel_rfl
theorem Tryd.infoI38 : (Tryd.prog.info? 38).map (fun i => (i.zero, i.size, i.bytes)) = some (some (.slice none 0 0), 1, 24) := by kernel_rfl
def mkZ (n : Nat) : Array Value := (List.replicate n (Value.slice none 0 0)).toArray
theorem run_mkI (W : World) (n : Nat) (hn : n ≤ 1000000) : (Instr.makeSlice 27 (.int .i64 (n : Int)) (.int .i64 (n : Int))).run Tryd.prog W = .ok (.slice (some ⟨W.heap.size, 0, none⟩) n n) (W.alloc (.cells (mkZ n) 34)) := by
  obtain ⟨i0, hi, hz0, hz1, hz2⟩ := info_parts Tryd.infoI34
  have := run_make (P := Tryd.prog) W 27 34 i0 (.slice none 0 0) Tryd.underlying27 hi hz0 .i64 .i64 n n (by omega) (Int.le_refl _) (by rw [hz2]; omega) (by omega)
  rw [hz1, Int.toNat_natCast, Nat.mul_one] at this
  have e : madeCells (Value.slice none 0 0).cells n = mkZ n := by
    apply Array.toList_inj.1
    exact toList_madeCells_one _ _
  rw [e] at this
  exact this
theorem run_mkC (W : World) (n : Nat) (hn : n ≤ 1000000) : (Instr.makeSlice 28 (.int .i64 (n : Int)) (.int .i64 (n : Int))).run Tryd.prog W = .ok (.slice (some ⟨W.heap.size, 0, none⟩) n n) (W.alloc (.cells (mkZ n) 38)) := by
  obtain ⟨i0, hi, hz0, hz1, hz2⟩ := info_parts Tryd.infoI38
  have := run_make (P := Tryd.prog) W 28 38 i0 (.slice none 0 0) Tryd.underlying28 hi hz0 .i64 .i64 n n (by omega) (Int.le_refl _) (by rw [hz2]; omega) (by omega)
  rw [hz1, Int.toNat_natCast, Nat.mul_one] at this
  have e : madeCells (Value.slice none 0 0).cells n = mkZ n := by
    apply Array.toList_inj.1
    exact toList_madeCells_one _ _
  rw [e] at this
  exact this
theorem mkN_eq (n : Nat) : mkN n = ((List.replicate n 0).map nV).toArray := by
  apply Array.toList_inj.1
  rw [List.map_replicate]
  exact toList_madeCells_one _ _
theorem mkB_eq (n : Nat) : mkB n = ((List.replicate n false).map bV).toArray := by
  apply Array.toList_inj.1
  rw [List.map_replicate]
  exact toList_madeCells_one _ _
theorem mkZ_in (L : Lay) (r n : Nat) : mkZ n = (inV L r (List.replicate n [])).toArray := by
  apply Array.toList_inj.1
  show List.replicate n (Value.slice none 0 0) = inV L r (List.replicate n [])
  apply List.ext_getElem?
  intro j
  unfold inV
  rw [List.getElem?_mapIdx]
  by_cases hj : j < n
  · rw [List.getElem?_replicate, if_pos hj, List.getElem?_replicate, if_pos hj]; rfl
  · rw [List.getElem?_replicate, if_neg hj, List.getElem?_replicate, if_neg hj]; rfl
/-- Rows of changes, made as far as k. -/
def chK2 (bC : Nat → Nat) (r n k : Nat) : Array Value := ((List.range n).map fun i => if i < k then Value.slice (some ⟨bC i, 0, none⟩) r r else Value.slice none 0 0).toArray
theorem chK2_zero (bC : Nat → Nat) (r n : Nat) : chK2 bC r n 0 = mkZ n := by
  apply Array.toList_inj.1
  show (List.range n).map _ = List.replicate n (Value.slice none 0 0)
  apply List.ext_getElem?
  intro j
  rw [List.getElem?_map, List.getElem?_replicate]
  by_cases hj : j < n
  · rw [List.getElem?_range hj, if_pos hj]; rfl
  · rw [List.getElem?_eq_none (by simpa using hj), if_neg hj]; rfl
theorem chK2_all (L : Lay) (r n : Nat) : chK2 L.bC r n n = (chV L r n).toArray := by
  unfold chK2 chV
  congr 1
  apply List.map_congr_left
  intro i hi
  rw [if_pos (List.mem_range.1 hi)]
theorem chK2_at (bC : Nat → Nat) (r n k : Nat) (hk : k < n) : (chK2 bC r n k)[k]? = some (.slice none 0 0) := by
  unfold chK2
  rw [List.getElem?_toArray, List.getElem?_map, List.getElem?_range hk]
  simp
theorem chK2_succ (bC : Nat → Nat) (r n k G : Nat) (hk : k < n) : (chK2 bC r n k).setIfInBounds k (.slice (some ⟨G, 0, none⟩) r r) = chK2 (fun i => if i = k then G else bC i) r n (k + 1) := by
  apply Array.toList_inj.1
  unfold chK2
  rw [List.setIfInBounds_toArray]
  show List.set _ _ _ = List.map _ _
  apply List.ext_getElem?
  intro j
  rw [List.getElem?_set, List.getElem?_map, List.getElem?_map, List.length_map, List.length_range]
  by_cases e : k = j
  · subst e
    rw [if_pos rfl, if_pos hk, List.getElem?_range hk]
    simp
  · rw [if_neg e]
    by_cases hj : j < n
    · rw [List.getElem?_range hj]
      simp only [Option.map_some]
      by_cases h1 : j < k
      · rw [if_pos h1, if_pos (by omega), if_neg (by omega)]
      · rw [if_neg h1, if_neg (by omega)]
    · rw [List.getElem?_eq_none (by simpa using hj)]; rfl
theorem run_copyP {W : World} {g r : Nat} (h : RgB W g (zS r)) {pa : Option Addr} {ps : List Sp} (pc : Nat) (hp : Sps W pa ps) (hle : ps.length ≤ r) :
    ∃ X, (∀ ty, (Builtin.copy_ #[34, 34] ty #[.slice (some ⟨g, 0, none⟩) r r, .slice pa ps.length pc]).run Tryd.prog W = .ok (goInt ps.length) X) ∧ RgB X g (ps ++ zS (r - ps.length)) ∧ OnlyB g W X := by
  obtain ⟨i0, hi, _, h2, _⟩ := info_parts Tryd.infoSp
  have hu := Tryd.underlying34
  have hs : (Tryd.prog.info? 54).map (·.size) = some 2 := by rw [hi]; simp [h2]
  have hsplit : (zS r).flatMap spC = (zS ps.length).flatMap spC ++ (zS (r - ps.length)).flatMap spC := by
    rw [← List.flatMap_append]
    unfold zS
    rw [List.replicate_append_replicate, Nat.add_sub_cancel' hle]
  cases pa with
  | none =>
    have h0 : ps = [] := by
      cases ps with
      | nil => rfl
      | cons p l => obtain ⟨b, o, e, _⟩ := sps_cells hp (by simp); cases e
    subst h0
    refine ⟨W, fun ty => ?_, by simpa using h, OnlyB.refl _ _⟩
    simp [Builtin.copy_, run_underlying hu, Builtin.lenOf, Builtin.firstCells, sizeOf, typeInfo, hi, go_sem, storeCells]
  | some a =>
    have hn : Nat.min ps.length r = ps.length := Nat.min_eq_left hle
    by_cases h0 : ps = []
    · subst h0
      refine ⟨W, fun ty => ?_, by simpa using h, OnlyB.refl _ _⟩
      have := run_copy_two (P := Tryd.prog) W 34 34 ty 54 g r r a 0 pc _ _ [] hu hs h (by simp) (fun j v hj => by simp at hj) (by simp) (fun v hv => by cases hv)
      rw [List.length_nil, this]
      rw [show Nat.min 0 r = 0 from Nat.zero_min r]
      have e := setRow_self W g _ _ _ h
      simp [e]
    · obtain ⟨b, o, e, hc⟩ := sps_cells hp (List.length_pos_iff.2 h0)
      injection e with e
      subst e
      have := fun ty => run_copy_two (P := Tryd.prog) W 34 34 ty 54 g r r ⟨b, o, none⟩ ps.length pc _ _ (ps.flatMap spC) hu hs h (by rw [spc_len, hn]) (fun j v hj => by rw [add_zero]; exact hc j v hj) (by rw [List.size_toArray, spc_len, spc_len, zS_len]; omega) (fun v hv => by
        obtain ⟨s, _, hs⟩ := List.mem_flatMap.1 hv
        simp [spC] at hs
        rcases hs with rfl | rfl <;> rfl)
      rw [hn] at this
      have hd : ((zS r).flatMap spC).toArray.toList.drop (ps.flatMap spC).length = (zS (r - ps.length)).flatMap spC := by
        show ((zS r).flatMap spC).drop _ = _
        rw [hsplit, spc_len, List.drop_append_of_le_length (by rw [spc_len, zS_len]; exact Nat.le_refl _), List.drop_eq_nil_of_le (by rw [spc_len, zS_len]; exact Nat.le_refl _), List.nil_append]
      rw [hd, ← List.flatMap_append] at this
      refine ⟨_, this, setRow_heap W g _ _ _ _ h, ?_⟩
      exact cpW_only W g _
end Go.Proofs.YtfmkjdfidenfkaaDoor
