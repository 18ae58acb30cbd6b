/- Bounds: what comes is merged where nothing stands, or changes nothing. -/
import Derived.Test.YtfmkjdfidenfkaaDoorZar
namespace Go.Proofs.YtfmkjdfidenfkaaDoor
open Go.RowKit
open S8 (meetB meetS joinS widS belA belB belC allS doR doB doS emB pot sv join_any)

theorem chC_none {s c : List Sp} {n : List Nat} (hl : n.length = s.length) (h : someB s c = false) : chC s c n = n := by
  apply List.ext_getElem?
  intro j
  unfold chC
  rw [List.getElem?_mapIdx]
  by_cases hj : j < n.length
  · rw [List.getElem?_eq_getElem hj]
    have hb : chB s c j = false := by
      unfold someB at h
      rw [List.any_eq_false] at h
      have := h j (List.mem_range.2 (by omega))
      simpa using this
    simp [hb]
  · rw [List.getElem?_eq_none (by omega)]; rfl
theorem set_same {α : Type} {l : List α} {i : Nat} (d : α) (h : i < l.length) : l.set i (l.getD i d) = l := by rw [getD_lt h, List.set_getElem_self]
theorem bVs_set (l : List Bool) (k : Nat) (b : Bool) : (l.map bV).toArray.setIfInBounds k (.bool b) = ((l.set k b).map bV).toArray := by
  rw [List.setIfInBounds_toArray, List.map_set]; rfl
theorem bVs_at {l : List Bool} {k : Nat} (h : k < l.length) : (l.map bV).toArray[k]? = some (.bool (l.getD k false)) := by
  rw [List.getElem?_toArray, List.getElem?_map, List.getElem?_eq_getElem h, getD_lt h]; rfl
/-- A mark is put. -/
theorem WkAt.putM {N n r : Nat} {m : Mo} {f : Fn} {L : Lay} {st : Wk} {sd cm : List Sp} {W : World} (h : WkAt N n r m f L st sd cm W) (i : Nat) (b : Bool) : WkAt N n r m f L { st with mar := st.mar.set i b } sd cm (W.setCell ⟨L.gM, i, none⟩ (.bool b)) :=
  h.setM ((OnlyB.refl _ W).set i _) (by rw [← bVs_set]; exact heap_setCell_same W L.gM i _ _ _ h.mb)
theorem WkAt.putJ {N n r : Nat} {m : Mo} {f : Fn} {L : Lay} {st : Wk} {sd cm : List Sp} {W : World} (h : WkAt N n r m f L st sd cm W) (i x : Nat) : WkAt N n r m f L { st with jn := st.jn.set i x } sd cm (W.setCell ⟨L.gJ, i, none⟩ (.int .i64 (x : Int))) :=
  h.setJ ((OnlyB.refl _ W).set i _) (by rw [← nVs_set]; exact heap_setCell_same W L.gJ i _ _ _ h.jb)
theorem WkAt.lt {N n r : Nat} {m : Mo} {f : Fn} {L : Lay} {st : Wk} {sd cm : List Sp} {W : World} (h : WkAt N n r m f L st sd cm W) : N ≤ W.heap.size ∧ L.B < W.heap.size := by
  have := (Array.getElem?_eq_some_iff.1 h.wb).1
  have := h.lo.1
  omega
theorem WkAt.putI {N n r : Nat} {m : Mo} {f : Fn} {L : Lay} {st : Wk} {sd cm : List Sp} {W : World} (h : WkAt N n r m f L st sd cm W) (hli : st.ins.length = n) {i G : Nat} (hi : i < n) (hGN : N ≤ G) (hGd : G ≠ L.gs ∧ G ≠ L.gc ∧ ∀ k, k < n → insA st k ≠ [] → G ≠ L.bI k) {l : List Sp} (hl : l ≠ []) (hg : RgB W G l) : WkAt N n r m f (L.newI i G) { st with ins := st.ins.set i l } sd cm (W.setCell ⟨L.gI, i, none⟩ (.slice (some ⟨G, 0, none⟩) r r)) :=
  h.first hli hi hGN hGd hl hg ((OnlyB.refl _ W).set i _) (by rw [← List.setIfInBounds_toArray]; exact heap_setCell_same W L.gI i _ _ _ h.ib)

/-- The blocks that an analysis writes. -/
def OwnB (n : Nat) (L : Lay) (st : Wk) (k : Nat) : Prop := k = L.gI ∨ k = L.gM ∨ k = L.gJ ∨ k = L.gs ∨ k = L.gc ∨ ∃ i, i < n ∧ (k = L.bC i ∨ (insA st i ≠ [] ∧ k = L.bI i))
/-- All blocks stay but those. -/
def KpO (Q : Nat → Prop) (W W' : World) : Prop := W.heap.size ≤ W'.heap.size ∧ ∀ (k : Nat) (o : Obj), W.heap[k]? = some o → ¬ Q k → W'.heap[k]? = some o
theorem KpO.refl (Q : Nat → Prop) (W : World) : KpO Q W W := ⟨Nat.le_refl _, fun _ _ h _ => h⟩
theorem KpO.trans {Q : Nat → Prop} {A B C : World} (h : KpO Q A B) (k : KpO Q B C) : KpO Q A C := ⟨Nat.le_trans h.1 k.1, fun i o hi ho => k.2 i o (h.2 i o hi ho) ho⟩
theorem KpO.of_below {Q : Nat → Prop} {A B : World} (h : Below A.heap.size A B) : KpO Q A B := ⟨h.size, fun _ _ hk _ => blk_stay hk h⟩
theorem KpO.of_only {Q : Nat → Prop} {g : Nat} {A B : World} (h : OnlyB g A B) (hg : Q g) : KpO Q A B := ⟨h.size, fun _ _ hk ho => h.blk hk (fun e => ho (e ▸ hg))⟩
theorem KpO.put {Q : Nat → Prop} {g : Nat} {A : World} (hg : Q g) (i : Nat) (v : Value) : KpO Q A (A.setCell ⟨g, i, none⟩ v) := KpO.of_only ((OnlyB.refl g A).set i v) hg
theorem OwnB.gI {n : Nat} {L : Lay} {st : Wk} : OwnB n L st L.gI := .inl rfl
theorem OwnB.gM {n : Nat} {L : Lay} {st : Wk} : OwnB n L st L.gM := .inr (.inl rfl)
theorem OwnB.gJ {n : Nat} {L : Lay} {st : Wk} : OwnB n L st L.gJ := .inr (.inr (.inl rfl))
theorem OwnB.gs {n : Nat} {L : Lay} {st : Wk} : OwnB n L st L.gs := .inr (.inr (.inr (.inl rfl)))
theorem OwnB.gc {n : Nat} {L : Lay} {st : Wk} : OwnB n L st L.gc := .inr (.inr (.inr (.inr (.inl rfl))))
theorem OwnB.bC {n : Nat} {L : Lay} {st : Wk} {i : Nat} (hi : i < n) : OwnB n L st (L.bC i) := .inr (.inr (.inr (.inr (.inr ⟨i, hi, .inl rfl⟩))))
theorem OwnB.bI {n : Nat} {L : Lay} {st : Wk} {i : Nat} (hi : i < n) (h : insA st i ≠ []) : OwnB n L st (L.bI i) := .inr (.inr (.inr (.inr (.inr ⟨i, hi, .inr ⟨h, rfl⟩⟩))))
/-- They are rows, and none of them holds pointers to the analysis. -/
theorem WkAt.own {N n r : Nat} {m : Mo} {f : Fn} {L : Lay} {st : Wk} {sd cm : List Sp} {W : World} (h : WkAt N n r m f L st sd cm W) {k : Nat} (hk : OwnB n L st k) : ∃ cs T fz, W.heap[k]? = some (.cells cs T fz) ∧ T ≠ 59 := by
  rcases hk with rfl | rfl | rfl | rfl | rfl | ⟨i, hi, rfl | ⟨hn, rfl⟩⟩
  · exact ⟨_, _, _, h.ib, by decide⟩
  · exact ⟨_, _, _, h.mb, by decide⟩
  · exact ⟨_, _, _, h.jb, by decide⟩
  · exact ⟨_, _, _, h.sb, by decide⟩
  · exact ⟨_, _, _, h.db, by decide⟩
  · exact ⟨_, _, _, h.cv i hi, by decide⟩
  · exact ⟨_, _, _, h.iv i hi hn, by decide⟩
theorem WkAt.own_lt {N n r : Nat} {m : Mo} {f : Fn} {L : Lay} {st : Wk} {sd cm : List Sp} {W : World} (h : WkAt N n r m f L st sd cm W) {k : Nat} (hk : OwnB n L st k) : k < W.heap.size := by
  obtain ⟨_, _, _, e, _⟩ := h.own hk
  exact (Array.getElem?_eq_some_iff.1 e).1
theorem WkAt.box {N n r : Nat} {m : Mo} {f : Fn} {L : Lay} {st : Wk} {sd cm : List Sp} {W W' : World} (h : WkAt N n r m f L st sd cm W) (hk : KpO (OwnB n L st) W W') {b : Nat} {cs : Array Value} {fz : Nat × Nat} (hb : W.heap[b]? = some (.cells cs 59 fz)) : W'.heap[b]? = some (.cells cs 59 fz) := hk.2 b _ hb fun hq => by
  obtain ⟨_, _, _, e, hT⟩ := h.own hq
  rw [hb] at e
  injection e with e
  injection e with _ e
  exact hT e.symm
/-- What merge tells. -/
def MgP (N n r : Nat) (m : Mo) (f : Fn) (L : Lay) (s0 st : Wk) (sd cm : List Sp) (w : World) (e : Ending) (w' : World) : Prop := (∃ v, e = .returned v) ∧ Below N w w' ∧ KpO (OwnB n L s0) w w' ∧ ∃ b' : Nat → Nat, WkAt N n r m f { L with bI := b' } st sd cm w' ∧ ∀ k, OwnB n { L with bI := b' } st k → OwnB n L s0 k ∨ w.heap.size ≤ k
theorem own_first {n : Nat} {L : Lay} {st : Wk} {tv G S : Nat} {l : List Sp} {mar' : List Bool} (ht : tv < st.ins.length) (hG : S ≤ G) : ∀ k, OwnB n { L with bI := (L.newI tv G).bI } { st with ins := st.ins.set tv l, mar := mar' } k → OwnB n L st k ∨ S ≤ k := by
  rintro k (h | h | h | h | h | ⟨i, hi, h | ⟨hn, h⟩⟩)
  · exact .inl (.inl h)
  · exact .inl (.inr (.inl h))
  · exact .inl (.inr (.inr (.inl h)))
  · exact .inl (.inr (.inr (.inr (.inl h))))
  · exact .inl (.inr (.inr (.inr (.inr (.inl h)))))
  · exact .inl (.inr (.inr (.inr (.inr (.inr ⟨i, hi, .inl h⟩)))))
  · have hn' : (if i = tv then l else insA st i) ≠ [] := by rw [← insA_set ht]; exact hn
    have h' : k = if i = tv then G else L.bI i := h
    by_cases e : i = tv
    · rw [if_pos e] at h'; exact .inr (by omega)
    · rw [if_neg e] at h' hn'; exact .inl (.inr (.inr (.inr (.inr (.inr ⟨i, hi, .inr ⟨hn', h'⟩⟩)))))
theorem own_next {n : Nat} {L : Lay} {st : Wk} {tv : Nat} {l : List Sp} {c' : List (List Nat)} {mar' : List Bool} {j' : List Nat} (ht : tv < st.ins.length) (h0 : insA st tv ≠ []) : ∀ k, OwnB n L { ins := st.ins.set tv l, chg := c', mar := mar', jn := j' } k → OwnB n L st k := by
  rintro k (h | h | h | h | h | ⟨i, hi, h | ⟨hn, h⟩⟩)
  · exact .inl h
  · exact .inr (.inl h)
  · exact .inr (.inr (.inl h))
  · exact .inr (.inr (.inr (.inl h)))
  · exact .inr (.inr (.inr (.inr (.inl h))))
  · exact .inr (.inr (.inr (.inr (.inr ⟨i, hi, .inl h⟩))))
  · have hn' : (if i = tv then l else insA st i) ≠ [] := by rw [← insA_set ht]; exact hn
    by_cases e : i = tv
    · exact .inr (.inr (.inr (.inr (.inr ⟨i, hi, .inr ⟨e ▸ h0, h⟩⟩))))
    · rw [if_neg e] at hn'; exact .inr (.inr (.inr (.inr (.inr ⟨i, hi, .inr ⟨hn', h⟩⟩))))

set_option maxRecDepth 100000 in
set_option maxHeartbeats 8000000 in
theorem merge_first {N n r : Nat} {m : Mo} {f : Fn} {L : Lay} {st : Wk} {sd cm : List Sp} {tv : Nat} (w : World) (h : WkAt N n r m f L st sd cm w) (hli : st.ins.length = n) (hlm : st.mar.length = n) (ht : tv < n) (hr1 : 1 ≤ r) (hr : r ≤ 64) (h0 : insA st tv = []) (hcm : cm.length = r) : Calls Tryd.prog 47 #[.pointer (some ⟨L.B, 0, none⟩), .int .i64 (tv : Int)] w (MgP N n r m f L st { st with ins := st.ins.set tv cm, mar := st.mar.set tv true } sd cm w) := by
  have hcne : cm ≠ [] := by intro e; rw [e] at hcm; simp at hcm; omega
  have HCP : Hid (∀ W, Below w.heap.size w W → Calls Tryd.prog 39 #[.slice (some ⟨L.gc, 0, none⟩) r r] W (CpR cm W)) := fun W hW => by
    have := copied_any cm (some ⟨L.gc, 0, none⟩) r (by omega) (by omega) W (rgb_sps ((h.stay hW).db) (by omega))
    rwa [hcm] at this
  have HF : Hid (∀ (W1 : World) (G : Nat), Below w.heap.size w W1 → w.heap.size ≤ G → RgB W1 G cm → MgP N n r m f L st { st with ins := st.ins.set tv cm, mar := st.mar.set tv true } sd cm w (.returned (.tuple #[])) ((W1.setCell ⟨L.gI, tv, none⟩ (.slice (some ⟨G, 0, none⟩) r r)).setCell ⟨L.gM, tv, none⟩ (.bool true))) := fun W1 G h1 h2 h3 =>
    ⟨⟨_, rfl⟩, ((h1.mono (h.lt).1).setCell (by exact h.lo.2.1) _).setCell (by exact h.lo.2.2.2.1) _, ((KpO.of_below h1).trans (KpO.put .gI _ _)).trans (KpO.put .gM _ _), (L.newI tv G).bI, ((h.stay h1).putI hli ht (h.fresh h2).1 (h.fresh h2).2 hcne h3).putM tv true, own_first (by omega) h2⟩
  have HF2 : Hid (∀ (W1 : World) (G : Nat), Below w.heap.size w W1 → w.heap.size ≤ G → RgB W1 G cm → MgP N n r m f L st { st with ins := st.ins.set tv cm, mar := st.mar.set tv true } sd cm w (.returned (.tuple #[])) ((W1.setCell ⟨L.gM, tv, none⟩ (.bool true)).setCell ⟨L.gI, tv, none⟩ (.slice (some ⟨G, 0, none⟩) r r))) := fun W1 G h1 h2 h3 =>
    ⟨⟨_, rfl⟩, ((h1.mono (h.lt).1).setCell (by exact h.lo.2.2.2.1) _).setCell (by exact h.lo.2.1) _, ((KpO.of_below h1).trans (KpO.put .gM _ _)).trans (KpO.put .gI _ _), (L.newI tv G).bI, ((h.stay h1).putM tv true).putI hli ht (h.fresh h2).1 (h.fresh h2).2 hcne (h3.only ((OnlyB.refl L.gM W1).set tv (.bool true)) (ne_ty h3 (h.stay h1).mb (by decide))), own_first (by omega) h2⟩
  have e1 := h.k7
  have e2 := cell_of_obj h.ib (inV_at (by omega : tv < st.ins.length))
  rw [rowV, if_pos h0] at e2
  have hti : (tv : Int) < (n : Int) := by omega
  have HW := Hid.mk' h
  have a9 := h.k9
  have a12 := h.k12
  have aM := cell_of_obj h.mb (bVs_at (by omega : tv < st.mar.length))
  generalize st.mar.getD tv false = bo at *
  have fI := Lib.frozen_of_heap h.ib tv
  have fM := Lib.frozen_of_heap h.mb tv
  have n1 : ¬ L.gI = L.B := ne_ty h.ib h.wb (by decide)
  have n2 : ¬ L.B = L.gI := ne_ty h.wb h.ib (by decide)
  have n3 : ¬ L.gM = L.B := ne_ty h.mb h.wb (by decide)
  have n4 : ¬ L.B = L.gM := ne_ty h.wb h.mb (by decide)
  have n5 : ¬ L.gI = L.gM := ne_ty h.ib h.mb (by decide)
  have n6 : ¬ L.gM = L.gI := ne_ty h.mb h.ib (by decide)
  clear h
  go_enter Tryd.func47, Tryd.ntmps47
  go_upto_region 2 with fail
  go_region_held3 (fun w' => w'.cell? ⟨L.B, 7, none⟩ = some (.slice (some ⟨L.gI, 0, none⟩) n n) ∧ w'.cell? ⟨L.B, 9, none⟩ = some (.slice (some ⟨L.gM, 0, none⟩) n n) ∧ w'.cell? ⟨L.B, 12, none⟩ = some (.slice (some ⟨L.gc, 0, none⟩) r r) ∧ w'.frozen? ⟨L.gI, tv, none⟩ = false ∧ w'.frozen? ⟨L.gM, tv, none⟩ = false) (go_keep) ((go_at_call 39; refine (HCP.out _ (Below.drew (Below.refl _ w))).mono ?_; rintro e w5 ⟨G, rfl, hG, hR5, hb5⟩; have B5 := Below.on (Below.drew (Below.refl _ w)) hb5; have y0 := cell_kept_below e1 B5; have y1 := cell_kept_below a9 B5; have y2 := cell_kept_below a12 B5; have y3 := cell_kept_below e2 B5; have y4 := cell_kept_below aM B5; have y5 := Lib.frozen_of_heap (blk_stay HW.out.ib B5) tv; have y6 := Lib.frozen_of_heap (blk_stay HW.out.mb B5) tv; have HF1 := Hid.mk' (HF.out _ _ B5 hG hR5); have HF3 := Hid.mk' (HF2.out _ _ B5 hG hR5)))
  all_goals go_wp2_with fail
  all_goals exact bodyPost_ret (v := .tuple #[]) (by simp [results, Tryd.results47, go_sem, *]) rfl (by first | exact HF1.out | exact HF3.out)
end Go.Proofs.YtfmkjdfidenfkaaDoor
