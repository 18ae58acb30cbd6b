/- A region that draws its order and makes several blocks, each by an operation of its own: whatever the order, the blocks are new and differ. -/
import Derived.OrdersHeld
import Derived.RegionTactic
import Derived.Test.YtgiokognngllcaaDoorGgae
import Derived.Test.YtgiokognngllcaaDoorGgah
namespace Go.Proofs.YtgiokognngllcaaDoor
open Go.RowKit

/-- More listed. -/
def mrkL (base : Array Bool) : List Nat → Array Bool
  | [] => base
  | i :: D => (mrkL base D).setIfInBounds i true
theorem mrkL_at (base : Array Bool) : ∀ (D : List Nat) (j : Nat), (mrkL base D)[j]? = if j ∈ D ∧ j < base.size then some true else base[j]?
  | [], j => by simp [mrkL]
  | i :: D, j => by
    have hs : ∀ D, (mrkL base D).size = base.size := fun D => by
      induction D with
      | nil => rfl
      | cons i D ih => rw [mrkL, Array.size_setIfInBounds, ih]
    rw [mrkL, Array.getElem?_setIfInBounds, mrkL_at base D j, hs]
    by_cases e : i = j
    · subst e
      by_cases hl : i < base.size
      · simp [hl]
      · simp [hl]
    · have : (j ∈ i :: D) ↔ j ∈ D := by rw [List.mem_cons]; exact ⟨fun h => h.resolve_left (Ne.symm e), .inr⟩
      simp only [this, e, if_false]
theorem mrkL_same (base : Array Bool) {D D' : List Nat} (h : ∀ j, j ∈ D ↔ j ∈ D') : mrkL base D = mrkL base D' := by
  refine Array.ext_getElem? fun j => ?_
  rw [mrkL_at, mrkL_at]
  simp only [h j]
def subL : List Nat → List (List Nat)
  | [] => [[]]
  | x :: M => subL M ++ (subL M).map (x :: ·)
theorem subL_mem (p : Nat → Bool) : ∀ M : List Nat, M.filter p ∈ subL M
  | [] => by simp [subL]
  | x :: M => by
    rw [List.filter_cons, subL, List.mem_append]
    split
    · exact .inr (List.mem_map.2 ⟨_, subL_mem p M, rfl⟩)
    · exact .inl (subL_mem p M)
/-- An operation that makes a block, whatever those hold that it does not read. -/
structure Mkr (P : Program) (ops : Array Oper) (a0 : Act) (ds : List Nat) (i d : Nat) (val : Nat → Value) (ob : Obj) : Prop where
  op : ∃ o, ops[i]? = some o ∧ o.dst = some d ∧ o.guard = none ∧ ∀ (T : Array Value) (w : World), (∀ s, s ∉ ds → T[s]? = a0.tmps[s]?) → (execOp ({ a0 with tmps := T } : Act).eval o).run P w = .ok (.value (val w.heap.size)) (w.alloc ob)
structure MkS (P : Program) (a0 : Act) (M : List Nat) (dst : Nat → Nat) (val : Nat → Nat → Value) (ob : Nat → Obj) (w0 : World) (D : List Nat) (g : Nat → Nat) (T : Array Value) (w : World) : Prop where
  size : T.size = a0.tmps.size
  old : ∀ s, s ∉ M.map dst → T[s]? = a0.tmps[s]?
  new : ∀ i ∈ D, T[dst i]? = some (val i (g i))
  un : ∀ i ∈ M, i ∉ D → T[dst i]? = a0.tmps[dst i]?
  blk : ∀ i ∈ D, w0.heap.size ≤ g i ∧ w.heap[g i]? = some (ob i)
  inj : ∀ i ∈ D, ∀ j ∈ D, i ≠ j → g i ≠ g j
  b : Below w0.heap.size w0 w
theorem makers {P : Program} {ops : Array Oper} {Q : Exit → Act → World → Prop} {md : Region.Mode} (M : List Nat) (dst : Nat → Nat) (val : Nat → Nat → Value) (ob : Nat → Obj) (base : Array Bool) (a0 : Act) (w0 : World) (f : Nat)
    (hop : ∀ i ∈ M, Mkr P ops a0 (M.map dst) i (dst i) (val i) (ob i)) (hdi : ∀ i ∈ M, dst i < a0.tmps.size) (hdd : ∀ i ∈ M, ∀ j ∈ M, i ≠ j → dst i ≠ dst j)
    (ex : List Nat → Bool) (hrd : (subL M).all (fun D => ex D || (!(Region.ready md ops (mrkL base D)).isEmpty && (Region.ready md ops (mrkL base D)).all fun j => M.contains j && !D.contains j)) = true)
    (hM : M.Nodup) (hxM : ex M = true) (hd : ∀ D ∈ subL M, ex D = true → ∀ (g : Nat → Nat) (T : Array Value) (w : World), MkS P a0 M dst val ob w0 D g T w → wpAny P md ops Q (M.length - D.length + f) (mrkL base D) { a0 with tmps := T } w) :
    ∀ (k : Nat) (D : List Nat) (g : Nat → Nat) (T : Array Value) (w : World), (∀ i ∈ D, i ∈ M) → D.Nodup → D.length + k = M.length → MkS P a0 M dst val ob w0 D g T w → wpAny P md ops Q (k + f) (mrkL base D) { a0 with tmps := T } w := by
  have same : ∀ (D D' : List Nat) (g : Nat → Nat) (T : Array Value) (w : World), (∀ j, j ∈ D ↔ j ∈ D') → MkS P a0 M dst val ob w0 D g T w → MkS P a0 M dst val ob w0 D' g T w := fun D D' g T w h hs =>
    ⟨hs.size, hs.old, fun i hi => hs.new i ((h i).2 hi), fun i hi hn => hs.un i hi fun hd => hn ((h i).1 hd), fun i hi => hs.blk i ((h i).2 hi), fun i hi j hj => hs.inj i ((h i).2 hi) j ((h j).2 hj), hs.b⟩
  intro k
  induction k with
  | zero =>
    intro D g T w hD hn hk hs
    have hall : ∀ j, j ∈ D ↔ j ∈ M := fun j => by
      refine ⟨hD j, fun hj => Classical.byContradiction fun hnj => ?_⟩
      have := sub_len (a := j :: D) (b := M) (List.nodup_cons.2 ⟨hnj, hn⟩) fun x hx => by
        rcases List.mem_cons.1 hx with rfl | hx
        · exact hj
        · exact hD x hx
      simp only [List.length_cons] at this
      omega
    have hmm : M ∈ subL M := by
      have := subL_mem (fun _ => true) M
      rwa [List.filter_eq_self.2 fun _ _ => rfl] at this
    have := hd M hmm hxM g T w (same D M g T w hall hs)
    rw [Nat.sub_self] at this
    rw [mrkL_same base hall]
    exact this
  | succ k ih =>
    intro D g T w hD hn hk hs
    have hD' : ∀ j, j ∈ D ↔ j ∈ M.filter fun x => D.contains x := fun j => by
      rw [List.mem_filter]
      exact ⟨fun h => ⟨hD j h, by simpa using h⟩, fun h => by simpa using h.2⟩
    have hr := List.all_eq_true.1 hrd _ (subL_mem (fun x => D.contains x) M)
    by_cases hex : ex (M.filter fun x => D.contains x) = true
    · have h1 := sub_len (a := M.filter fun x => D.contains x) (b := D) (hM.filter _) fun x hx => (hD' x).2 hx
      have h2 := sub_len (a := D) (b := M.filter fun x => D.contains x) hn fun x hx => (hD' x).1 hx
      have := hd _ (subL_mem (fun x => D.contains x) M) hex g T w (same D _ g T w hD' hs)
      rw [mrkL_same base hD', show k + 1 + f = M.length - (M.filter fun x => D.contains x).length + f by omega]
      exact this
    have hex2 : ex (M.filter fun x => D.contains x) = false := by simpa using hex
    rw [hex2, Bool.false_or, ← mrkL_same base hD', Bool.and_eq_true, Bool.not_eq_true', List.isEmpty_eq_false_iff] at hr
    rw [show k + 1 + f = (k + f) + 1 by omega]
    refine ⟨fun h => absurd h hr.1, fun i hi => ?_⟩
    have hi2 := List.all_eq_true.1 hr.2 i hi
    rw [Bool.and_eq_true, Bool.not_eq_true'] at hi2
    have hiM : i ∈ M := by simpa using hi2.1
    have hiD : i ∉ D := fun h => by
      have h2 := (hD' i).1 h
      have h3 : (M.filter fun x => D.contains x).contains i = true := by simpa using h2
      rw [h3] at hi2
      exact absurd hi2.2 (by decide)
    obtain ⟨o, ho, hdst, hgd, hrun⟩ := (hop i hiM).op
    refine wpOp_step ho fun K' hK => ?_
    have hw : Region.wanted o (yielded ops T) = true := by simp [Region.wanted, hgd]
    rw [if_pos hw]
    unfold Oper.wp
    rw [hrun T w hs.old, Oper.upon_value]
    refine hK _ _ ?_
    unfold Act.put
    rw [hdst]
    have hg2 : ∀ j ∈ D, (fun j => if j = i then w.heap.size else g j) j = g j := fun j hj => by
      have : j ≠ i := by rintro rfl; exact hiD hj
      simp [this]
    have hbw : ∀ j ∈ D, g j < w.heap.size := fun j hj => (Array.getElem?_eq_some_iff.1 (hs.blk j hj).2).1
    refine ih (i :: D) (fun j => if j = i then w.heap.size else g j) (T.setIfInBounds (dst i) (val i w.heap.size)) (w.alloc (ob i)) (fun j hj => ?_) (List.nodup_cons.2 ⟨hiD, hn⟩) (by simp only [List.length_cons]; omega) ⟨by rw [Array.size_setIfInBounds]; exact hs.size, fun s hss => ?_, fun j hj => ?_, fun j hj hjn => ?_, fun j hj => ?_, fun j hj m hm hjm => ?_, Below.one hs.b _⟩
    · rcases List.mem_cons.1 hj with rfl | hj2
      · exact hiM
      · exact hD j hj2
    · rw [Array.getElem?_setIfInBounds, if_neg (fun e => hss (by rw [← e]; exact List.mem_map.2 ⟨i, hiM, rfl⟩))]
      exact hs.old s hss
    · rw [Array.getElem?_setIfInBounds]
      rcases List.mem_cons.1 hj with rfl | hj2
      · rw [if_pos rfl, if_pos (by rw [hs.size]; exact hdi j hiM)]
        simp
      · have : j ≠ i := by rintro rfl; exact hiD hj2
        rw [if_neg (hdd i hiM j (hD j hj2) (Ne.symm this)), hs.new j hj2]
        simp [this]
    · rw [List.mem_cons, not_or] at hjn
      rw [Array.getElem?_setIfInBounds, if_neg (hdd i hiM j hj (Ne.symm hjn.1))]
      exact hs.un j hj hjn.2
    · rcases List.mem_cons.1 hj with rfl | hj2
      · simp only [if_true]
        exact ⟨hs.b.size, heap_alloc_new _ _⟩
      · have := hg2 j hj2
        simp only at this
        rw [this]
        exact ⟨(hs.blk j hj2).1, (Below.heap_alloc _ _ _ (hbw j hj2)).trans (hs.blk j hj2).2⟩
    · rcases List.mem_cons.1 hj with rfl | hj2 <;> rcases List.mem_cons.1 hm with rfl | hm2
      · exact absurd rfl hjm
      · have h1 := hg2 m hm2
        simp only at h1
        rw [h1]
        simp only [if_true]
        have := hbw m hm2
        omega
      · have h1 := hg2 j hj2
        simp only at h1
        rw [h1]
        simp only [if_true]
        have := hbw j hj2
        omega
      · have h1 := hg2 j hj2
        have h2 := hg2 m hm2
        simp only at h1 h2
        rw [h1, h2]
        exact hs.inj j hj2 m hm2 hjm
/-- The frame behind them. -/
def setL (dst : Nat → Nat) (val : Nat → Nat → Value) (g : Nat → Nat) (T : Array Value) : List Nat → Array Value
  | [] => T
  | i :: M => (setL dst val g T M).setIfInBounds (dst i) (val i (g i))
theorem setL_size (dst : Nat → Nat) (val : Nat → Nat → Value) (g : Nat → Nat) (T : Array Value) : ∀ M, (setL dst val g T M).size = T.size
  | [] => rfl
  | i :: M => by rw [setL, Array.size_setIfInBounds, setL_size dst val g T M]
theorem setL_old (dst : Nat → Nat) (val : Nat → Nat → Value) (g : Nat → Nat) (T : Array Value) {s : Nat} : ∀ M : List Nat, s ∉ M.map dst → (setL dst val g T M)[s]? = T[s]?
  | [], _ => rfl
  | i :: M, h => by
    rw [List.map_cons, List.mem_cons, not_or] at h
    rw [setL, Array.getElem?_setIfInBounds, if_neg (Ne.symm h.1), setL_old dst val g T M h.2]
theorem setL_new (dst : Nat → Nat) (val : Nat → Nat → Value) (g : Nat → Nat) (T : Array Value) {i : Nat} : ∀ M : List Nat, i ∈ M → (∀ j ∈ M, dst j < T.size) → (∀ j ∈ M, ∀ m ∈ M, j ≠ m → dst j ≠ dst m) → (setL dst val g T M)[dst i]? = some (val i (g i))
  | [], h, _, _ => by cases h
  | j :: M, h, hs, hd => by
    rw [setL, Array.getElem?_setIfInBounds]
    by_cases e : j = i
    · subst e
      rw [if_pos rfl, if_pos (by rw [setL_size]; exact hs j (List.mem_cons_self ..))]
    · have hi : i ∈ M := by rcases List.mem_cons.1 h with h | h; · exact absurd h.symm e
                            · exact h
      rw [if_neg (hd j (List.mem_cons_self ..) i h e)]
      exact setL_new dst val g T M hi (fun m hm => hs m (List.mem_cons_of_mem _ hm)) (fun m hm q hq => hd m (List.mem_cons_of_mem _ hm) q (List.mem_cons_of_mem _ hq))
theorem MkS.tmps {P : Program} {a0 : Act} {M : List Nat} {dst : Nat → Nat} {val : Nat → Nat → Value} {ob : Nat → Obj} {w0 : World} {D : List Nat} {g : Nat → Nat} {T : Array Value} {w : World} (h : MkS P a0 M dst val ob w0 D g T w) (hD : ∀ i ∈ D, i ∈ M) (hdi : ∀ i ∈ M, dst i < a0.tmps.size) (hdd : ∀ i ∈ M, ∀ j ∈ M, i ≠ j → dst i ≠ dst j) : T = setL dst val g a0.tmps D := by
  refine Array.ext_getElem? fun s => ?_
  by_cases hs : s ∈ D.map dst
  · obtain ⟨i, hi, rfl⟩ := List.mem_map.1 hs
    rw [h.new i hi, setL_new dst val g a0.tmps D hi (fun j hj => hdi j (hD j hj)) (fun j hj m hm => hdd j (hD j hj) m (hD m hm))]
  · rw [setL_old dst val g a0.tmps D hs]
    by_cases hm : s ∈ M.map dst
    · obtain ⟨i, hi, rfl⟩ := List.mem_map.1 hm
      exact h.un i hi fun hd => hs (List.mem_map.2 ⟨i, hd, rfl⟩)
    · exact h.old s hm
end Go.Proofs.YtgiokognngllcaaDoor
