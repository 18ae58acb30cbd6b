/- A region that draws its order, all of whose operations but the last one tell facts that what is laid afterwards does not change: whatever the order, the last one finds all facts. The law's own sample: a module that is made in any order. The sample as a module: its order, and its ring. -/
import Derived.OrdersHeld
import Derived.RegionTactic
import Derived.Test.YtdnilonfgbinaaaNg
import Derived.Test.YtdnilonfgbinaaaYd
namespace Go.Proofs.Ytdnilonfgbinaaa
open Go.RowKit

/-- The frame with so many results. -/
def setV (dst : Nat → Nat) (vs : Nat → Value) (T : Array Value) : Nat → Array Value
  | 0 => T
  | n + 1 => (setV dst vs T n).setIfInBounds (dst n) (vs n)
theorem setV_size (dst : Nat → Nat) (vs : Nat → Value) (T : Array Value) : ∀ n, (setV dst vs T n).size = T.size
  | 0 => rfl
  | n + 1 => by rw [setV, Array.size_setIfInBounds, setV_size dst vs T n]
theorem setV_old (dst : Nat → Nat) (vs : Nat → Value) (T : Array Value) {s : Nat} : ∀ n, (∀ i, i < n → s ≠ dst i) → (setV dst vs T n)[s]? = T[s]?
  | 0, _ => rfl
  | n + 1, h => by rw [setV, Array.getElem?_setIfInBounds, if_neg (Ne.symm (h n (Nat.lt_succ_self n))), setV_old dst vs T n fun i hi => h i (by omega)]
theorem setV_new (dst : Nat → Nat) (vs : Nat → Value) (T : Array Value) {i : Nat} : ∀ n, i < n → (∀ j, j < n → dst j < T.size) → (∀ j k, j < n → k < n → j ≠ k → dst j ≠ dst k) → (setV dst vs T n)[dst i]? = some (vs i)
  | 0, h, _, _ => by omega
  | n + 1, h, hs, hd => by
    rw [setV, Array.getElem?_setIfInBounds]
    by_cases e : n = i
    · subst e
      rw [if_pos rfl, if_pos (by rw [setV_size]; exact hs n (Nat.lt_succ_self n))]
    · rw [if_neg (hd n i (Nat.lt_succ_self n) h e)]
      exact setV_new dst vs T n (by omega) (fun j hj => hs j (by omega)) (fun j k hj hk => hd j k (by omega) (by omega))
/-- Does an operation wait for another one? -/
def waitB (md : Region.Mode) (ops : Array Oper) (n i : Nat) : Bool := match ops[n]? with | some o => o.after.any fun e => Region.binds md e && e.on == i | none => false
theorem waitB_spec {md : Region.Mode} {ops : Array Oper} {n i : Nat} {o : Oper} (h : waitB md ops n i = true) (ho : ops[n]? = some o) : ∃ e ∈ o.after, Region.binds md e = true ∧ e.on = i := by
  unfold waitB at h
  rw [ho] at h
  rw [Array.any_eq_true] at h
  obtain ⟨k, hk, hb⟩ := h
  simp only [Bool.and_eq_true, beq_iff_eq] at hb
  exact ⟨_, Array.getElem_mem hk, hb⟩
def downB (md : Region.Mode) (ops : Array Oper) (i : Nat) : Bool := match ops[i]? with | some o => o.after.all fun e => !Region.binds md e || decide (e.on < i) | none => false
theorem downB_spec {md : Region.Mode} {ops : Array Oper} {i : Nat} (h : downB md ops i = true) : ∃ o, ops[i]? = some o ∧ ∀ e ∈ o.after, Region.binds md e = true → e.on < i := by
  unfold downB at h
  split at h
  · rename_i o ho
    refine ⟨o, ho, fun e he hb => ?_⟩
    rw [Array.all_eq_true] at h
    obtain ⟨k, hk, e1⟩ := Array.mem_iff_getElem.1 he
    have := h k hk
    rw [e1, hb] at this
    simpa using this
  · cases h
/-- What stands while so many are listed. -/
structure FaS (md : Region.Mode) (ops : Array Oper) (a0 : Act) (dst : Nat → Nat) (n : Nat) (F : Nat → Value → World → Prop) (w0 : World) (ls : List Bool) (a : Act) (w : World) : Prop where
  len : ls.length = n + 1
  last : ls[n]? = some false
  df : a.defers = a0.defers
  sz : a.tmps.size = a0.tmps.size
  old : ∀ s, (∀ i, i < n → s ≠ dst i) → a.tmps[s]? = a0.tmps[s]?
  fa : ∀ i, i < n → ls[i]? = some true → ∃ v, a.tmps[dst i]? = some v ∧ F i v w
  b : Below w0.heap.size w0 w
  dc : ∀ (j : Nat) (o : Oper), ops[j]? = some o → ls[j]? = some true → ∀ e ∈ o.after, Region.binds md e = true → ls[e.on]? = some true
theorem region_facts {P : Program} {ops : Array Oper} {Q : Exit → Act → World → Prop} {md : Region.Mode} (n : Nat) (dst : Nat → Nat) (F : Nat → Value → World → Prop) (deps : Nat → List Nat) (a0 : Act) (w0 : World)
    (hdst : ∀ i, i < n → ∃ o, ops[i]? = some o ∧ o.dst = some (dst i) ∧ o.guard = none) (hinj : ∀ j k, j < n → k < n → j ≠ k → dst j ≠ dst k) (hdl : ∀ i, i < n → dst i < a0.tmps.size)
    (hlow : (List.range (n + 1)).all (downB md ops) = true) (hdep : (List.range n).all (fun i => (deps i).all fun j => decide (j < n) && waitB md ops i j) = true) (hall : (List.range n).all (fun i => waitB md ops n i || (List.range n).any fun j => waitB md ops n j && waitB md ops j i) = true) (hnone : ops.size = n + 1)
    (hst : ∀ i v w w', i < n → F i v w → Below w.heap.size w w' → F i v w')
    (hop : ∀ i, i < n → ∀ o, ops[i]? = some o → ∀ (T : Array Value) (w : World), (∀ s, (∀ i, i < n → s ≠ dst i) → T[s]? = a0.tmps[s]?) → (∀ j ∈ deps i, ∃ v, T[dst j]? = some v ∧ F j v w) → Below w0.heap.size w0 w → ∀ K : Act → World → Prop,
      (∀ v w', F i v w' → Below w.heap.size w w' → K (({ a0 with tmps := T } : Act).put o.dst v) w') → Oper.wp P o { a0 with tmps := T } w K Q)
    (hlast : ∀ o, ops[n]? = some o → o.guard = none ∧ ∀ (vs : Nat → Value) (w : World), (∀ i, i < n → F i (vs i) w) → Below w0.heap.size w0 w → Oper.wp P o { a0 with tmps := setV dst vs a0.tmps n } w (fun a w => Q .normal a w) Q) :
    ∀ (k : Nat) (ls : List Bool) (a : Act) (w : World), ls.count false = k → FaS md ops a0 dst n F w0 ls a w → wpAny P md ops Q k ls.toArray a w := by
  have hgt : ∀ (ls : List Bool) (i : Nat) (d : Bool), ls.toArray.getD i d = (ls[i]?).getD d := fun ls i d => by
    rw [Array.getD_eq_getD_getElem?, List.getElem?_toArray]
  intro k
  induction k with
  | zero =>
    intro ls a w hk hs
    have := List.count_eq_zero.1 hk
    exact absurd (List.mem_of_getElem? hs.last) this
  | succ k ih =>
    intro ls a w hk hs
    have hrdy : ∀ i, i ∈ Region.ready md ops ls.toArray ↔ ls[i]? = some false ∧ ∃ o, ops[i]? = some o ∧ ∀ e ∈ o.after, Region.binds md e = true → ls[e.on]? = some true := by
      intro i
      rw [mem_ready, hgt]
      constructor
      · rintro ⟨h1, o, h2, h3⟩
        refine ⟨?_, o, h2, fun e he hb => ?_⟩
        · cases h : ls[i]? with
          | none => rw [h] at h1; cases h1
          | some b => rw [h] at h1; simp at h1; rw [h1]
        · have := h3 e he hb
          rw [hgt] at this
          cases h : ls[e.on]? with
          | none => rw [h] at this; cases this
          | some b => rw [h] at this; simp at this; rw [this]
      · rintro ⟨h1, o, h2, h3⟩
        refine ⟨by rw [h1]; rfl, o, h2, fun e he hb => by rw [hgt, h3 e he hb]; rfl⟩
    refine ⟨fun hno => ?_, fun i hi => ?_⟩
    · -- the least one that is not listed is ready
      exfalso
      have key : ∀ m i, i ≤ m → i ≤ n → ls[i]? = some false → ∃ i, i ∈ Region.ready md ops ls.toArray := by
        intro m
        induction m with
        | zero =>
          intro i h1 h2 h3
          obtain rfl : i = 0 := by omega
          obtain ⟨o, ho, hd⟩ := downB_spec (List.all_eq_true.1 hlow 0 (List.mem_range.2 (by omega)))
          exact ⟨0, (hrdy 0).2 ⟨h3, o, ho, fun e he hb => by have := hd e he hb; omega⟩⟩
        | succ m ihm =>
          intro i h1 h2 h3
          by_cases hb : ∃ j, j < i ∧ ls[j]? = some false
          · obtain ⟨j, hj, hjf⟩ := hb
            exact ihm j (by omega) (by omega) hjf
          · obtain ⟨o, ho, hd⟩ := downB_spec (List.all_eq_true.1 hlow i (List.mem_range.2 (by omega)))
            refine ⟨i, (hrdy i).2 ⟨h3, o, ho, fun e he hbb => ?_⟩⟩
            have hlt := hd e he hbb
            have hl : e.on < ls.length := by have := hs.len; omega
            cases hv : ls[e.on] with
            | true => rw [List.getElem?_eq_getElem hl, hv]
            | false => exact absurd ⟨e.on, hlt, by rw [List.getElem?_eq_getElem hl, hv]⟩ hb
      obtain ⟨i, hi⟩ := key n n (Nat.le_refl _) (Nat.le_refl _) hs.last
      rw [hno] at hi
      cases hi
    · obtain ⟨hif, o, ho, haf⟩ := (hrdy i).1 hi
      have hil : i < n + 1 := by have := (Array.getElem?_eq_some_iff.1 ho).1; omega
      have hcnt : (ls.set i true).count false = k := by
        have := unm_set hif
        unfold unm at this
        omega
      have ha : a = { a0 with tmps := a.tmps } := by
        obtain ⟨t, d⟩ := a
        have := hs.df
        simp only at this
        subst this
        rfl
      refine wpOp_step ho fun K' hK => ?_
      by_cases hin : i = n
      · subst hin
        obtain ⟨hgd, hl⟩ := hlast o ho
        have hw : Region.wanted o (yielded ops a.tmps) = true := by simp [Region.wanted, hgd]
        rw [if_pos hw]
        have hlist : ∀ j, j < i → ls[j]? = some true := fun j hj => by
          have h0 := List.all_eq_true.1 hall j (List.mem_range.2 hj)
          rw [Bool.or_eq_true] at h0
          rcases h0 with h0 | h0
          · obtain ⟨e, he, hb, h1⟩ := waitB_spec h0 ho
            rw [← h1]
            exact haf e he hb
          · obtain ⟨m, hm, h2⟩ := List.any_eq_true.1 h0
            rw [Bool.and_eq_true] at h2
            obtain ⟨e, he, hb, h1⟩ := waitB_spec h2.1 ho
            have h3 := haf e he hb
            rw [h1] at h3
            obtain ⟨om, hom, _⟩ := hdst m (List.mem_range.1 hm)
            obtain ⟨e', he', hb', h4⟩ := waitB_spec h2.2 hom
            have h5 := hs.dc m om hom h3 e' he' hb'
            rwa [h4] at h5
        obtain ⟨vs, hvs⟩ : ∃ vs : Nat → Value, ∀ j, j < i → a.tmps[dst j]? = some (vs j) ∧ F j (vs j) w := by
          refine ⟨fun j => (a.tmps[dst j]?).getD undef, fun j hj => ?_⟩
          obtain ⟨v, h1, h2⟩ := hs.fa j hj (hlist j hj)
          have e : (fun j => (a.tmps[dst j]?).getD undef) j = v := by simp only [h1]; rfl
          rw [e]
          exact ⟨h1, h2⟩
        have hT : a.tmps = setV dst vs a0.tmps i := by
          refine Array.ext_getElem? fun s => ?_
          by_cases hsd : ∀ j, j < i → s ≠ dst j
          · rw [hs.old s hsd, setV_old dst vs a0.tmps i hsd]
          · have : ∃ j, j < i ∧ s = dst j := Classical.byContradiction fun hc => hsd fun j hj e => hc ⟨j, hj, e⟩
            obtain ⟨j, hj, rfl⟩ := this
            rw [(hvs j hj).1, setV_new dst vs a0.tmps i hj hdl hinj]
        have h := hl vs w (fun j hj => (hvs j hj).2) hs.b
        rw [← hT, ← ha] at h
        refine Oper.wp_mono (fun a' w' hq => hK a' w' ?_) h
        have hk0 : k = 0 := by
          rw [← hcnt, List.count_eq_zero]
          intro hm
          obtain ⟨j, hj, e⟩ := List.mem_iff_getElem.1 hm
          rw [List.length_set] at hj
          have hjl := hs.len
          rw [List.getElem_set] at e
          split at e
          · cases e
          · rename_i hne
            have := hlist j (by omega)
            rw [List.getElem?_eq_getElem hj, e] at this
            cases this
        subst hk0
        rw [List.setIfInBounds_toArray]
        refine ⟨?_, hq⟩
        refine List.eq_nil_iff_forall_not_mem.2 fun j hj => ?_
        have h1 := (mem_ready.1 hj).1
        rw [hgt] at h1
        have : (ls.set i true)[j]? = some false := by
          cases h : (ls.set i true)[j]? with
          | none => rw [h] at h1; cases h1
          | some b => rw [h] at h1; simp at h1; rw [h1]
        exact absurd (List.mem_of_getElem? this) (List.count_eq_zero.1 hcnt)
      · have hin' : i < n := by omega
        obtain ⟨o', ho', hod, hgd⟩ := hdst i hin'
        rw [ho] at ho'
        injection ho' with ho'
        subst ho'
        have hw : Region.wanted o (yielded ops a.tmps) = true := by simp [Region.wanted, hgd]
        rw [if_pos hw]
        have hT : ({ a0 with tmps := a.tmps } : Act) = a := ha.symm
        rw [← hT]
        refine hop i hin' o ho a.tmps w hs.old (fun j hj => ?_) hs.b K' fun v w' hv hb => hK _ _ ?_
        · have h1 := List.all_eq_true.1 (List.all_eq_true.1 hdep i (List.mem_range.2 hin')) j hj
          rw [Bool.and_eq_true, decide_eq_true_eq] at h1
          obtain ⟨e, he, hbb, h2⟩ := waitB_spec h1.2 ho
          have := haf e he hbb
          rw [h2] at this
          exact hs.fa j h1.1 this
        · rw [List.setIfInBounds_toArray]
          refine ih (ls.set i true) _ w' hcnt ⟨by rw [List.length_set]; exact hs.len, by rw [List.getElem?_set_ne hin]; exact hs.last, ?_, ?_, fun s hsd => ?_, fun j hj hjt => ?_, Below.on hs.b hb, fun j oj hoj hjt e he hbb => ?_⟩
          · unfold Act.put; rw [hod]
          · unfold Act.put; rw [hod]; simp only; rw [Array.size_setIfInBounds]; exact hs.sz
          · unfold Act.put; rw [hod]; simp only
            rw [Array.getElem?_setIfInBounds, if_neg (Ne.symm (hsd i hin'))]
            exact hs.old s hsd
          · unfold Act.put; rw [hod]; simp only
            rw [Array.getElem?_setIfInBounds]
            by_cases e : j = i
            · subst e
              rw [if_pos rfl, if_pos (by rw [hs.sz]; exact hdl j hj)]
              exact ⟨v, rfl, hv⟩
            · rw [if_neg (Ne.symm (hinj j i hj hin' e))]
              rw [List.getElem?_set_ne (Ne.symm e)] at hjt
              obtain ⟨v2, h1, h2⟩ := hs.fa j hj hjt
              exact ⟨v2, h1, hst j v2 w w' hj h2 hb⟩
          · have h3 : ls[e.on]? = some true := by
              by_cases ej : j = i
              · subst ej
                rw [ho] at hoj
                injection hoj with hoj
                subst hoj
                exact haf e he hbb
              · rw [List.getElem?_set_ne (Ne.symm ej)] at hjt
                exact hs.dc j oj hoj hjt e he hbb
            rw [set_true]
            exact .inl h3
theorem FaS.start {md : Region.Mode} {ops : Array Oper} {a0 : Act} {dst : Nat → Nat} {n : Nat} {F : Nat → Value → World → Prop} {w0 : World} : FaS md ops a0 dst n F w0 (List.replicate (n + 1) false) a0 w0 :=
  ⟨by simp, by rw [List.getElem?_replicate, if_pos (Nat.lt_succ_self n)], rfl, rfl, fun _ _ => rfl, (fun i _ h => by
    rw [List.getElem?_replicate] at h
    split at h
    · cases h
    · cases h), Below.refl _ _, (fun j o _ h => by
    rw [List.getElem?_replicate] at h
    split at h
    · cases h
    · cases h)⟩
end Go.Proofs.Ytdnilonfgbinaaa
namespace Go.Proofs.Ytdnilonfgbinaaa
open Go.RowKit Go.Sort

def cI (n : Int) : Is := ⟨19, 0, 0, 0, n⟩
def zI : Is := ⟨0, 0, 0, 0, 0⟩
def sm0 : List Is := [cI 2, cI 1, zI]
def sm1 : List Is := [cI 2, zI]
def sm2 : List Is := [zI]
def sm3 : List Is := [zI, cI 2]
def smN : List Is := [cI 1, zI]
abbrev isB (l : List Is) : Obj := .cells (l.flatMap Is.cells).toArray 44
def fV (b n : Nat) : Value := .agg #[.string ⟨#[]⟩, .slice none 0 0, .int .i64 0, .int .i64 0, .slice (some ⟨b, 0, none⟩) n n]
def fC (b n : Nat) : List Value := [.string ⟨#[]⟩, .slice none 0 0, .int .i64 0, .int .i64 0, .slice (some ⟨b, 0, none⟩) n n]
abbrev fsB (b0 b1 b2 b3 n2 : Nat) : Obj := .cells (fC b0 3 ++ fC b1 2 ++ fC b2 n2 ++ fC b3 2).toArray 42
/-- A list of instructions in a block. -/
def CoB (N : Nat) (l : List Is) (b : Nat) (w : World) : Prop := N ≤ b ∧ w.heap[b]? = some (isB l)
theorem CoB.stay {N : Nat} {l : List Is} {b : Nat} {w w' : World} (h : CoB N l b w) (hb : Below w.heap.size w w') : CoB N l b w' := ⟨h.1, blk_stay h.2 hb⟩
/-- The sample's lists. -/
structure SmB (N b0 b1 b2 b3 bf n2 : Nat) (l2 : List Is) (w : World) : Prop where
  c0 : CoB N sm0 b0 w
  c1 : CoB N sm1 b1 w
  c2 : CoB N l2 b2 w
  c3 : CoB N sm3 b3 w
  hf : N ≤ bf
  f : w.heap[bf]? = some (fsB b0 b1 b2 b3 n2)
theorem SmB.stay {N b0 b1 b2 b3 bf n2 : Nat} {l2 : List Is} {w w' : World} (h : SmB N b0 b1 b2 b3 bf n2 l2 w) (hb : Below w.heap.size w w') : SmB N b0 b1 b2 b3 bf n2 l2 w' :=
  ⟨h.c0.stay hb, h.c1.stay hb, h.c2.stay hb, h.c3.stay hb, h.hf, blk_stay h.f hb⟩
/-- What each operation tells. -/
def smF (N : Nat) (i : Nat) (v : Value) (w : World) : Prop :=
  match i with
  | 0 => v = (cI 2).val
  | 1 => v = (cI 1).val
  | 2 => v = zI.val
  | 3 => ∃ b, v = .slice (some ⟨b, 0, none⟩) 3 3 ∧ CoB N sm0 b w
  | 4 => ∃ b, v = fV b 3 ∧ CoB N sm0 b w
  | 5 => v = (cI 2).val
  | 6 => v = zI.val
  | 7 => ∃ b, v = .slice (some ⟨b, 0, none⟩) 2 2 ∧ CoB N sm1 b w
  | 8 => ∃ b, v = fV b 2 ∧ CoB N sm1 b w
  | 9 => v = zI.val
  | 10 => ∃ b, v = .slice (some ⟨b, 0, none⟩) 1 1 ∧ CoB N sm2 b w
  | 11 => ∃ b, v = fV b 1 ∧ CoB N sm2 b w
  | 12 => v = zI.val
  | 13 => v = (cI 2).val
  | 14 => ∃ b, v = .slice (some ⟨b, 0, none⟩) 2 2 ∧ CoB N sm3 b w
  | 15 => ∃ b, v = fV b 2 ∧ CoB N sm3 b w
  | 16 => ∃ b0 b1 b2 b3 bf, v = .slice (some ⟨bf, 0, none⟩) 4 4 ∧ SmB N b0 b1 b2 b3 bf 1 sm2 w
  | 17 => ∃ b0 b1 b2 b3 bf, v = .agg #[.slice none 0 0, .slice (some ⟨bf, 0, none⟩) 4 4] ∧ SmB N b0 b1 b2 b3 bf 1 sm2 w
  | 18 => ∃ B, v = .pointer (some ⟨B, 0, none⟩) ∧ N ≤ B ∧ w.heap[B]? = some (.cells #[.slice none 0 0, .slice none 0 0] 25)
  | _ => True
def smD (i : Nat) : Nat := if i < 18 then i + 9 else 2
def smP (i : Nat) : List Nat :=
  match i with
  | 3 => [0, 1, 2]
  | 4 => [3]
  | 7 => [5, 6]
  | 8 => [7]
  | 10 => [9]
  | 11 => [10]
  | 14 => [12, 13]
  | 15 => [14]
  | 16 => [4, 8, 11, 15]
  | 17 => [16]
  | _ => []
theorem smF_stay {N : Nat} (i : Nat) (v : Value) (w w' : World) (hi : i < 19) (h : smF N i v w) (hb : Below w.heap.size w w') : smF N i v w' := by
  unfold smF at *
  split at h
  any_goals exact h
  all_goals first
    | (obtain ⟨b, h1, h2⟩ := h; exact ⟨b, h1, h2.stay hb⟩)
    | (obtain ⟨b0, b1, b2, b3, bf, h1, h2⟩ := h; exact ⟨b0, b1, b2, b3, bf, h1, h2.stay hb⟩)
    | (obtain ⟨B, h1, h2, h3⟩ := h; exact ⟨B, h1, h2, blk_stay h3 hb⟩)
theorem smF_17 {N : Nat} {v : Value} {w : World} (h : smF N 17 v w) : ∃ b0 b1 b2 b3 bf, v = .agg #[.slice none 0 0, .slice (some ⟨bf, 0, none⟩) 4 4] ∧ SmB N b0 b1 b2 b3 bf 1 sm2 w := h
theorem smF_18 {N : Nat} {v : Value} {w : World} (h : smF N 18 v w) : ∃ B, v = .pointer (some ⟨B, 0, none⟩) ∧ N ≤ B ∧ w.heap[B]? = some (.cells #[.slice none 0 0, .slice none 0 0] 25) := h
/-- What each operation of the change tells. -/
def smG (N B bf : Nat) (i : Nat) (v : Value) (w : World) : Prop :=
  match i with
  | 0 => v = .pointer (some ⟨B, 1, none⟩)
  | 1 => v = .slice (some ⟨bf, 0, none⟩) 4 4
  | 2 => v = (cI 1).val
  | 3 => v = zI.val
  | 4 => ∃ b, v = .slice (some ⟨b, 0, none⟩) 2 2 ∧ CoB N smN b w
  | 5 => v = .pointer (some ⟨bf, 10, none⟩)
  | 6 => v = .pointer (some ⟨bf, 14, none⟩)
  | _ => True
def smE (i : Nat) : Nat := i + 52
def smQ (i : Nat) : List Nat :=
  match i with
  | 1 => [0]
  | 4 => [2, 3]
  | 5 => [1]
  | 6 => [5]
  | _ => []
theorem smG_stay {N B bf : Nat} (i : Nat) (v : Value) (w w' : World) (hi : i < 7) (h : smG N B bf i v w) (hb : Below w.heap.size w w') : smG N B bf i v w' := by
  unfold smG at *
  split at h
  any_goals exact h
  obtain ⟨b, h1, h2⟩ := h
  exact ⟨b, h1, h2.stay hb⟩
set_option maxRecDepth 100000 in
set_option maxHeartbeats 1000000 in
theorem func0_any (n : Int) (w : World) : Calls Try.prog 19 #[.int .i64 n] w fun e w' => e = .returned (cI n).val ∧ Below w.heap.size w w' := by
  have HB := Hid.mk' (Below.one (Below.refl _ w) (.cells #[.int .i64 19, .int .i64 0, .int .i64 0, .int .i64 0, .int .i64 n] 44))
  have HX := Hid.mk' (heap_alloc_new w (.cells #[.int .i64 19, .int .i64 0, .int .i64 0, .int .i64 0, .int .i64 n] 44))
  go_enter Try.func19, Try.ntmps19
  go_wp2_with fail
  exact bodyPost_ret (results_cell_row Try.results19 _ _ w.heap.size _ _ _ _ rfl HX.out Try.underlying44 rfl (by kernel_rfl)) rfl ⟨rfl, HB.out⟩
end Go.Proofs.Ytdnilonfgbinaaa
namespace Go.Proofs.Ytdnilonfgbinaaa
open Go.RowKit Go.Sort

theorem blk_row {W : World} {b n sz : Nat} {xs : List Value} {T : TypeId} (h : W.heap[b]? = some (.cells xs.toArray T)) (hl : xs.length = n * sz) (hn : n ≤ maxLen) : W.ownsRow 0 T sz (.slice (some ⟨b, 0, none⟩) n n) n xs :=
  ⟨hl, .inr ⟨b, n, xs.toArray, rfl, Nat.zero_le _, h, Nat.le_refl _, hn, by simpa using hl, by rw [List.take_of_length_le (by simp [hl])]⟩⟩
def smFn (b : Nat) (l : List Is) : Fn := ⟨⟨#[]⟩, none, 0, [], 0, 0, some ⟨b, 0, none⟩, l.length, l⟩
def smM (b0 b1 b2 b3 bf : Nat) (l2 : List Is) : Mo := ⟨none, 0, [], some ⟨bf, 0, none⟩, 4, [smFn b0 sm0, smFn b1 sm1, smFn b2 l2, smFn b3 sm3]⟩
theorem is_len : ∀ l : List Is, (l.flatMap Is.cells).length = l.length * 5
  | [] => rfl
  | x :: l => by rw [List.flatMap_cons, List.length_append, is_len l, List.length_cons]; simp only [Is.cells, List.length_cons, List.length_nil]; omega
theorem CoB.iss {N : Nat} {l : List Is} {b : Nat} {w : World} (h : CoB N l b w) (hl : l.length ≤ 1000) : Iss w (some ⟨b, 0, none⟩) l := by
  have h1 := blk_row (n := l.length) (sz := 5) h.2 (is_len l) (by unfold maxLen; omega)
  exact ⟨by omega, own_row h1 (fun _ => rfl) (by omega)⟩
theorem i64_small {z : Int} (h : -1000 ≤ z ∧ z ≤ 1000) : I64 z := ⟨by omega, by omega⟩
theorem ok_cI {n : Int} (h : -1000 ≤ n ∧ n ≤ 1000) : (cI n).Ok := ⟨i64_small (z := 19) (by decide), i64_small (z := 0) (by decide), i64_small (z := 0) (by decide), i64_small (z := 0) (by decide), i64_small h⟩
theorem ok_zI : zI.Ok := ⟨i64_small (z := 0) (by decide), i64_small (z := 0) (by decide), i64_small (z := 0) (by decide), i64_small (z := 0) (by decide), i64_small (z := 0) (by decide)⟩
theorem fn_in {N : Nat} {l : List Is} {b : Nat} {w : World} (h : CoB N l b w) (hl : l.length ≤ 1000) (hx : ∀ x ∈ l, x.Ok) : (smFn b l).In w :=
  ⟨by show (0 : Nat) ≤ _; omega, i64_small (by show -1000 ≤ (0 : Int) ∧ (0 : Int) ≤ 1000; decide), i64_small (by show -1000 ≤ (0 : Int) ∧ (0 : Int) ≤ 1000; decide), ⟨by show 0 * 16 ≤ _; omega, fun i cs hi => by cases hi⟩, (fun p hp => by cases hp), h.iss hl, hx⟩
theorem SmB.mo {N b0 b1 b2 b3 bf : Nat} {l2 : List Is} {w : World} (h : SmB N b0 b1 b2 b3 bf l2.length l2 w) (hl : l2.length ≤ 1000) (hx : ∀ x ∈ l2, x.Ok) : (smM b0 b1 b2 b3 bf l2).In w := by
  refine ⟨⟨by show 0 * 8 ≤ _; omega, fun i cs hi => by cases hi⟩, (fun z hz => by cases hz), ⟨by show 4 * 80 ≤ _; omega, ?_⟩, ?_⟩
  · have h1 := blk_row (n := 4) (sz := 5) h.f rfl (by unfold maxLen; omega)
    exact own_row (l := (smM b0 b1 b2 b3 bf l2).funcs) (f := Fn.cells) h1 (fun _ => rfl) (by omega)
  · intro f hf
    have h0 : ∀ x ∈ sm0, x.Ok := by
      intro x hx
      simp only [sm0, List.mem_cons, List.not_mem_nil, or_false] at hx
      rcases hx with rfl | rfl | rfl
      · exact ok_cI (by decide)
      · exact ok_cI (by decide)
      · exact ok_zI
    have h1 : ∀ x ∈ sm1, x.Ok := by
      intro x hx
      simp only [sm1, List.mem_cons, List.not_mem_nil, or_false] at hx
      rcases hx with rfl | rfl
      · exact ok_cI (by decide)
      · exact ok_zI
    have h3 : ∀ x ∈ sm3, x.Ok := by
      intro x hx
      simp only [sm3, List.mem_cons, List.not_mem_nil, or_false] at hx
      rcases hx with rfl | rfl
      · exact ok_zI
      · exact ok_cI (by decide)
    simp only [smM, List.mem_cons, List.not_mem_nil, or_false] at hf
    rcases hf with rfl | rfl | rfl | rfl
    · exact fn_in h.c0 (by decide) h0
    · exact fn_in h.c1 (by decide) h1
    · exact fn_in h.c2 hl hx
    · exact fn_in h.c3 (by decide) h3
theorem sm_nx : nxt sm0 0 = [1] ∧ nxt sm0 1 = [2] ∧ nxt sm0 2 = [] ∧ nxt sm1 0 = [1] ∧ nxt sm1 1 = [] ∧ nxt sm2 0 = [] ∧ nxt sm3 0 = [] ∧ nxt smN 0 = [1] ∧ nxt smN 1 = [] := by decide +kernel
theorem isR_two {l : List Is} (hl : l.length = 2) (h0 : nxt l 0 = [1]) (h1 : nxt l 1 = []) : IsR l [true, true] := by
  have r0 : Rch l 0 := .zero
  have r1 : Rch l 1 := .step r0 (by rw [h0]; decide)
  refine isR_of (by omega) (by omega) (by rw [hl]; rfl) rfl (fun u v hu hv => ?_) (fun v hv => ?_)
  · match u, hu with
    | 0, _ => rw [h0] at hv; simp at hv; subst hv; rfl
    | 1, _ => rw [h1] at hv; cases hv
    | u + 2, h => simp at h
  · match v, hv with
    | 0, _ => exact r0
    | 1, _ => exact r1
    | u + 2, h => simp at h
theorem r_sm0 : IsR sm0 [true, true, true] := by
  obtain ⟨n0, n1, n2, _⟩ := sm_nx
  have r0 : Rch sm0 0 := .zero
  have r1 : Rch sm0 1 := .step r0 (by rw [n0]; decide)
  have r2 : Rch sm0 2 := .step r1 (by rw [n1]; decide)
  refine isR_of (by decide) (by decide) rfl rfl (fun u v hu hv => ?_) (fun v hv => ?_)
  · match u, hu with
    | 0, _ => rw [n0] at hv; simp at hv; subst hv; rfl
    | 1, _ => rw [n1] at hv; simp at hv; subst hv; rfl
    | 2, _ => rw [n2] at hv; cases hv
    | u + 3, h => simp at h
  · match v, hv with
    | 0, _ => exact r0
    | 1, _ => exact r1
    | 2, _ => exact r2
    | u + 3, h => simp at h
theorem r_sm2 : IsR sm2 [true] := by
  obtain ⟨_, _, _, _, _, n0, _⟩ := sm_nx
  refine isR_of (by decide) (by decide) rfl rfl (fun u v hu hv => ?_) (fun v hv => ?_)
  · match u, hu with
    | 0, _ => rw [n0] at hv; cases hv
    | u + 1, h => simp at h
  · match v, hv with
    | 0, _ => exact .zero
    | u + 1, h => simp at h
theorem r_sm3 : IsR sm3 [true, false] := by
  obtain ⟨_, _, _, _, _, _, n0, _⟩ := sm_nx
  refine isR_of (by decide) (by decide) rfl rfl (fun u v hu hv => ?_) (fun v hv => ?_)
  · match u, hu with
    | 0, _ => rw [n0] at hv; cases hv
    | 1, h => cases h
    | u + 2, h => simp at h
  · match v, hv with
    | 0, _ => exact .zero
    | 1, h => cases h
    | u + 2, h => simp at h
theorem r_sm1 : IsR sm1 [true, true] := isR_two rfl sm_nx.2.2.2.1 sm_nx.2.2.2.2.1
theorem r_smN : IsR smN [true, true] := isR_two rfl sm_nx.2.2.2.2.2.2.2.1 sm_nx.2.2.2.2.2.2.2.2
theorem sm_cls : cls sm0 [true, true, true] 4 = [(0, 2), (1, 1)] ∧ cls sm1 [true, true] 4 = [(0, 2)] ∧ cls sm2 [true] 4 = [] ∧ cls sm3 [true, false] 4 = [] ∧ cls smN [true, true] 4 = [(0, 1)] := by decide +kernel
section
variable (b0 b1 b2 b3 bf : Nat) (l2 : List Is)
theorem sm_c0 (y : Nat) : CE (smM b0 b1 b2 b3 bf l2) 0 y ↔ y = 2 ∨ y = 1 := by
  rw [show CE (smM b0 b1 b2 b3 bf l2) 0 y ↔ _ from cal_at (fn := 0) (f := smFn b0 sm0) rfl r_sm0 y]
  rw [show cls (smFn b0 sm0).code [true, true, true] (smM b0 b1 b2 b3 bf l2).funcs.length = [(0, 2), (1, 1)] from sm_cls.1]
  constructor
  · rintro ⟨u, h⟩
    simp only [List.mem_cons, Prod.mk.injEq, List.not_mem_nil, or_false] at h
    omega
  · rintro (rfl | rfl)
    · exact ⟨0, by simp⟩
    · exact ⟨1, by simp⟩
theorem sm_c1 (y : Nat) : CE (smM b0 b1 b2 b3 bf l2) 1 y ↔ y = 2 := by
  rw [show CE (smM b0 b1 b2 b3 bf l2) 1 y ↔ _ from cal_at (fn := 1) (f := smFn b1 sm1) rfl r_sm1 y]
  rw [show cls (smFn b1 sm1).code [true, true] (smM b0 b1 b2 b3 bf l2).funcs.length = [(0, 2)] from sm_cls.2.1]
  simp
theorem sm_c2 (y : Nat) : ¬ CE (smM b0 b1 b2 b3 bf sm2) 2 y := by
  rw [show CE (smM b0 b1 b2 b3 bf sm2) 2 y ↔ _ from cal_at (fn := 2) (f := smFn b2 sm2) rfl r_sm2 y]
  rw [show cls (smFn b2 sm2).code [true] (smM b0 b1 b2 b3 bf sm2).funcs.length = [] from sm_cls.2.2.1]
  simp
theorem sm_c3 (y : Nat) : ¬ CE (smM b0 b1 b2 b3 bf l2) 3 y := by
  rw [show CE (smM b0 b1 b2 b3 bf l2) 3 y ↔ _ from cal_at (fn := 3) (f := smFn b3 sm3) rfl r_sm3 y]
  rw [show cls (smFn b3 sm3).code [true, false] (smM b0 b1 b2 b3 bf l2).funcs.length = [] from sm_cls.2.2.2.1]
  simp
theorem sm_n2 (y : Nat) : CE (smM b0 b1 b2 b3 bf smN) 2 y ↔ y = 1 := by
  rw [show CE (smM b0 b1 b2 b3 bf smN) 2 y ↔ _ from cal_at (fn := 2) (f := smFn b2 smN) rfl r_smN y]
  rw [show cls (smFn b2 smN).code [true, true] (smM b0 b1 b2 b3 bf smN).funcs.length = [(0, 1)] from sm_cls.2.2.2.2]
  simp
theorem sm_ord : OrdOf (smM b0 b1 b2 b3 bf sm2) [2, 1, 0, 3] := by
  refine ⟨?_, rfl⟩
  have l4 : (smM b0 b1 b2 b3 bf sm2).funcs.length = 4 := rfl
  rw [l4]
  have e1 : Ord (CE (smM b0 b1 b2 b3 bf sm2)) 4 [2] := (Ord.nil _ _).snoc ⟨by decide, ⟨by simp, fun g hg => absurd hg (sm_c2 b0 b1 b2 b3 bf g)⟩, fun g hg hr => by
    match g, hg with
    | 0, _ => have := hr.2 2 ((sm_c0 b0 b1 b2 b3 bf sm2 2).2 (.inl rfl)); cases this
    | 1, _ => have := hr.2 2 ((sm_c1 b0 b1 b2 b3 bf sm2 2).2 rfl); cases this
    | g + 2, _ => omega⟩
  have e2 : Ord (CE (smM b0 b1 b2 b3 bf sm2)) 4 [2, 1] := e1.snoc ⟨by decide, ⟨by simp, fun g hg => by rw [(sm_c1 b0 b1 b2 b3 bf sm2 g).1 hg]; simp⟩, fun g hg hr => by
    match g, hg with
    | 0, _ => have := hr.2 1 ((sm_c0 b0 b1 b2 b3 bf sm2 1).2 (.inr rfl)); simp at this
    | g + 1, _ => omega⟩
  have e3 : Ord (CE (smM b0 b1 b2 b3 bf sm2)) 4 [2, 1, 0] := e2.snoc ⟨by decide, ⟨by simp, fun g hg => by rcases (sm_c0 b0 b1 b2 b3 bf sm2 g).1 hg with rfl | rfl <;> simp⟩, fun g hg hr => Nat.zero_le _⟩
  exact e3.snoc ⟨by decide, ⟨by simp, fun g hg => absurd hg (sm_c3 b0 b1 b2 b3 bf sm2 g)⟩, fun g hg hr => by
    have := hr.1
    simp at this
    omega⟩
theorem sm_of0 : IsOf (smM b0 b1 b2 b3 bf sm2) 0 [1, 2] := ⟨by simp, fun y => by
  rw [show Cal (smM b0 b1 b2 b3 bf sm2) 0 y ↔ _ from sm_c0 b0 b1 b2 b3 bf sm2 y]
  simp
  omega⟩
theorem sm_of3 : IsOf (smM b0 b1 b2 b3 bf sm2) 3 [] := ⟨by simp, fun y => by
  constructor
  · intro h; cases h
  · exact fun h => absurd h (sm_c3 b0 b1 b2 b3 bf sm2 y)⟩
theorem sm_cyc : CycAt (smM b0 b1 b2 b3 bf smN) 1 0 := by
  have e12 : CE (smM b0 b1 b2 b3 bf smN) 1 2 := (sm_c1 b0 b1 b2 b3 bf smN 2).2 rfl
  have e21 : CE (smM b0 b1 b2 b3 bf smN) 2 1 := (sm_n2 b0 b1 b2 b3 bf 1).2 rfl
  have no0 : ∀ f g, Ld (CE (smM b0 b1 b2 b3 bf smN)) f g → g ≠ 0 := by
    intro f g h
    obtain ⟨k, _, hk⟩ := h.last
    rintro rfl
    have hkl := ce_left hk
    match k, hkl with
    | 0, _ => rcases (sm_c0 b0 b1 b2 b3 bf smN 0).1 hk with e | e <;> cases e
    | 1, _ => have := (sm_c1 b0 b1 b2 b3 bf smN 0).1 hk; cases this
    | 2, _ => have := (sm_n2 b0 b1 b2 b3 bf 0).1 hk; cases this
    | 3, _ => exact sm_c3 b0 b1 b2 b3 bf smN 0 hk
    | k + 4, h => exact absurd (show k + 4 < 4 from h) (by omega)
  refine ⟨by show 1 < 4; decide, .on e12 (.one e21), fun g hg => ?_, smFn b1 sm1, [true, true], rfl, r_sm1, ⟨2, ?_, .inr (.one e21)⟩, fun j k hm _ => Nat.zero_le _⟩
  · have := no0 g g hg
    omega
  · rw [show cls (smFn b1 sm1).code [true, true] (smM b0 b1 b2 b3 bf smN).funcs.length = [(0, 2)] from sm_cls.2.1]
    simp
end
end Go.Proofs.Ytdnilonfgbinaaa
