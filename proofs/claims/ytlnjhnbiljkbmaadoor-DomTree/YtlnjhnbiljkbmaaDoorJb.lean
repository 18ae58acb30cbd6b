/- Who dominates whom: plain. -/
import Derived.Test.YtlnjhnbiljkbmaaDoorNi
import Derived.Lib.BitFns
import Derived.Lib.TrailingZeros
namespace Go.Proofs.YtlnjhnbiljkbmaaDoor

/-- b can be reached, but not by ways without a. -/
def Dm (l : List Is) (a b : Nat) : Prop := Rch l b ∧ ¬ RchW l (a : Int) b
theorem RchW.rch {l : List Is} {g : Int} {v : Nat} (h : RchW l g v) : Rch l v := by
  induction h with
  | zero => exact .zero
  | step _ h _ ih => exact .step ih h
theorem RchW.ne {l : List Is} {a v : Nat} (h : RchW l (a : Int) v) : v ≠ a := by
  cases h with
  | zero h => omega
  | step _ _ h => omega
theorem RchW.next {l : List Is} {a u v : Nat} (h : RchW l (a : Int) u) (hv : v ∈ nxt l u) (hn : v ≠ a) : RchW l (a : Int) v := .step h hv (by omega)
theorem rchW_zero {l : List Is} {a : Nat} (h : a ≠ 0) : RchW l (a : Int) 0 := .zero (by omega)
theorem Dm.refl {l : List Is} {a : Nat} (h : Rch l a) : Dm l a a := ⟨h, fun h => h.ne rfl⟩
theorem Dm.left {l : List Is} {a b : Nat} (h : Dm l a b) : Rch l a := by
  obtain ⟨h1, h2⟩ := h
  refine Classical.byContradiction fun hn => h2 ?_
  induction h1 with
  | zero => exact rchW_zero fun e => hn (by rw [e]; exact .zero)
  | step hu hv ih => exact (ih fun h => h2 (h.next hv fun e => hn (by rw [← e]; exact .step hu hv))).next hv fun e => hn (by rw [← e]; exact .step hu hv)
theorem dm_zero {l : List Is} {b : Nat} (h : Rch l b) : Dm l 0 b := by
  refine ⟨h, fun hw => ?_⟩
  clear h
  generalize hg : ((0 : Nat) : Int) = g at hw
  induction hw with
  | zero hz => exact hz hg.symm
  | step _ _ _ ih => exact ih
theorem dm_at_zero {l : List Is} {a : Nat} : Dm l a 0 ↔ a = 0 := by
  constructor
  · intro h
    refine Classical.byContradiction fun hn => h.2 (rchW_zero hn)
  · rintro rfl
    exact Dm.refl .zero
theorem Dm.trans {l : List Is} {a b c : Nat} (h : Dm l a b) (h' : Dm l b c) : Dm l a c := by
  refine ⟨h'.1, fun hw => ?_⟩
  have key : ∀ v, RchW l (a : Int) v → RchW l (a : Int) b ∨ RchW l (b : Int) v := by
    intro v hv
    generalize hg : (a : Int) = g at hv
    induction hv with
    | zero h0 =>
      by_cases hb : b = 0
      · subst hb; exact .inl (.zero h0)
      · exact .inr (rchW_zero hb)
    | @step u v hu hv hn ih =>
      subst hg
      rcases ih with ih | ih
      · exact .inl ih
      · by_cases hb : v = b
        · subst hb; exact .inl (.step hu hv hn)
        · exact .inr (ih.next hv hb)
  rcases key c hw with h1 | h1
  · exact h.2 h1
  · exact h'.2 h1
theorem Dm.anti {l : List Is} {a b : Nat} (h : Dm l a b) (h' : Dm l b a) : a = b := by
  refine Classical.byContradiction fun hn => ?_
  have key : ∀ v, Rch l v → (RchW l (a : Int) v ∧ RchW l (b : Int) v) ∨ RchW l (b : Int) a ∨ RchW l (a : Int) b := by
    intro v hv
    induction hv with
    | zero =>
      by_cases ha : a = 0
      · exact .inr (.inl (by rw [ha]; exact rchW_zero (by omega)))
      · by_cases hb : b = 0
        · exact .inr (.inr (by rw [hb]; exact rchW_zero (by omega)))
        · exact .inl ⟨rchW_zero ha, rchW_zero hb⟩
    | @step u v _ hv ih =>
      rcases ih with ⟨h1, h2⟩ | ih
      · by_cases ha : v = a
        · subst ha; exact .inr (.inl (h2.next hv hn))
        · by_cases hb : v = b
          · subst hb; exact .inr (.inr (h1.next hv ha))
          · exact .inl ⟨h1.next hv ha, h2.next hv hb⟩
      · exact .inr ih
  rcases key b h.1 with h1 | h1 | h1
  · exact h1.2.ne rfl
  · exact h'.2 h1
  · exact h.2 h1
/-- Of two that dominate one the one dominates the other. -/
theorem Dm.chain {l : List Is} {a a' b : Nat} (h : Dm l a b) (h' : Dm l a' b) : Dm l a a' ∨ Dm l a' a := by
  refine Classical.byContradiction fun hn => ?_
  have hra := h.left
  have hrb := h'.left
  have p : RchW l (a : Int) a' := Classical.byContradiction fun hp => hn (.inl ⟨hrb, hp⟩)
  have q : RchW l (a' : Int) a := Classical.byContradiction fun hp => hn (.inr ⟨hra, hp⟩)
  have hne := p.ne
  have key : ∀ v, Rch l v → RchW l (a : Int) v ∨ RchW l (a' : Int) v := by
    intro v hv
    induction hv with
    | zero =>
      by_cases ha : a = 0
      · exact .inr (rchW_zero (by omega))
      · exact .inl (rchW_zero ha)
    | @step u v _ hv ih =>
      rcases ih with ih | ih
      · by_cases ha : v = a
        · subst ha; exact .inr q
        · exact .inl (ih.next hv ha)
      · by_cases ha : v = a'
        · subst ha; exact .inl p
        · exact .inr (ih.next hv ha)
  rcases key b h.1 with h1 | h1
  · exact h.2 h1
  · exact h'.2 h1
/-- Where u leads to v, whoever dominates v, and isn't v, dominates u. -/
theorem Dm.edge {l : List Is} {a u v : Nat} (h : Dm l a v) (hu : Rch l u) (hv : v ∈ nxt l u) (hn : a ≠ v) : Dm l a u := ⟨hu, fun hw => h.2 (hw.next hv (Ne.symm hn))⟩

/-- How many dominate one. -/
noncomputable def dmL (l : List Is) (v : Nat) : List Nat := (List.range l.length).filter fun a => @decide (Dm l a v) (Classical.propDecidable _)
noncomputable def dmC (l : List Is) (v : Nat) : Nat := (dmL l v).length
theorem mem_dmL {l : List Is} {a v : Nat} (h0 : 0 < l.length) : a ∈ dmL l v ↔ Dm l a v := by
  unfold dmL
  rw [List.mem_filter, List.mem_range, @decide_eq_true_iff _ (Classical.propDecidable _)]
  exact ⟨fun h => h.2, fun h => ⟨h.left.lt h0, h⟩⟩
theorem dmL_nd (l : List Is) (v : Nat) : (dmL l v).Nodup := List.nodup_range.filter _
theorem sub_len {a b : List Nat} (ha : a.Nodup) (h : ∀ x ∈ a, x ∈ b) : a.length ≤ b.length := by
  induction a generalizing b with
  | nil => simp
  | cons x a ih =>
    obtain ⟨h1, h2⟩ := List.nodup_cons.1 ha
    have hx := h x (by simp)
    have := ih (b := b.erase x) h2 fun y hy => (List.mem_erase_of_ne (by rintro rfl; exact h1 hy)).2 (h y (by simp [hy]))
    rw [List.length_erase_of_mem hx] at this
    have := List.length_pos_of_mem hx
    simp only [List.length_cons]
    omega
/-- The nearest one. -/
def Idm (l : List Is) (v r : Nat) : Prop := Dm l r v ∧ r ≠ v ∧ ∀ a, Dm l a v → a ≠ v → Dm l a r
theorem Idm.one {l : List Is} {v r r' : Nat} (h : Idm l v r) (h' : Idm l v r') : r = r' := (h'.2.2 r h.1 h.2.1).anti (h.2.2 r' h'.1 h'.2.1)
theorem Idm.mem {l : List Is} {v r a : Nat} (h : Idm l v r) : Dm l a v ↔ a = v ∨ Dm l a r := by
  constructor
  · intro ha
    by_cases e : a = v
    · exact .inl e
    · exact .inr (h.2.2 a ha e)
  · rintro (rfl | ha)
    · exact Dm.refl h.1.1
    · exact ha.trans h.1
theorem Idm.count {l : List Is} {v r : Nat} (h0 : 0 < l.length) (h : Idm l v r) : dmC l v = dmC l r + 1 := by
  have hv : v ∉ dmL l r := fun hm => h.2.1 (h.1.anti ((mem_dmL h0).1 hm))
  unfold dmC
  refine Nat.le_antisymm ?_ ?_
  · have := sub_len (b := v :: dmL l r) (dmL_nd l v) fun x hx => by
      rw [List.mem_cons, mem_dmL h0]
      exact h.mem.1 ((mem_dmL h0).1 hx)
    simpa using this
  · have := sub_len (a := v :: dmL l r) (b := dmL l v) (List.nodup_cons.2 ⟨hv, dmL_nd l r⟩) fun x hx => by
      rw [List.mem_cons, mem_dmL h0] at hx
      exact (mem_dmL h0).2 (h.mem.2 hx)
    simpa using this
theorem Dm.count {l : List Is} {a v : Nat} (h0 : 0 < l.length) (h : Dm l a v) (hn : a ≠ v) : dmC l a < dmC l v := by
  have hv : v ∉ dmL l a := fun hm => hn (h.anti ((mem_dmL h0).1 hm))
  have := sub_len (a := v :: dmL l a) (b := dmL l v) (List.nodup_cons.2 ⟨hv, dmL_nd l a⟩) fun x hx => by
    rw [List.mem_cons, mem_dmL h0] at hx
    rcases hx with rfl | hx
    · exact (mem_dmL h0).2 (Dm.refl h.1)
    · exact (mem_dmL h0).2 (hx.trans h)
  unfold dmC
  simp only [List.length_cons] at this
  omega
/-- Who has the most of those that dominate one, but itself, is the nearest. -/
theorem idm_most {l : List Is} {v r : Nat} (h0 : 0 < l.length) (h : Dm l r v) (hn : r ≠ v) (hm : ∀ a, Dm l a v → a ≠ v → dmC l a ≤ dmC l r) : Idm l v r := by
  refine ⟨h, hn, fun a ha hna => ?_⟩
  rcases ha.chain h with h1 | h1
  · exact h1
  · by_cases e : a = r
    · subst e; exact h1
    · have := h1.count h0 (Ne.symm e)
      have := hm a ha hna
      omega
theorem idm_ex {l : List Is} {v : Nat} (h0 : 0 < l.length) (h : Rch l v) (hv : v ≠ 0) : ∃ r, Idm l v r := by
  have key : ∀ n, (∃ r, Dm l r v ∧ r ≠ v ∧ dmC l v ≤ dmC l r + n) → ∃ r, Idm l v r := by
    intro n
    induction n with
    | zero =>
      rintro ⟨r, h1, h2, h3⟩
      have := h1.count h0 h2
      omega
    | succ n ih =>
      rintro ⟨r, h1, h2, h3⟩
      by_cases hm : ∀ a, Dm l a v → a ≠ v → dmC l a ≤ dmC l r
      · exact ⟨r, idm_most h0 h1 h2 hm⟩
      · have ⟨a, ha⟩ : ∃ a, ¬ (Dm l a v → a ≠ v → dmC l a ≤ dmC l r) := Classical.byContradiction fun hc => hm fun a => Classical.byContradiction fun h => hc ⟨a, h⟩
        refine ih ⟨a, Classical.byContradiction fun h => ha fun h' => absurd h' h, fun h => ha fun _ h' => absurd h h', ?_⟩
        have : ¬ dmC l a ≤ dmC l r := fun h => ha fun _ _ => h
        omega
  exact key (dmC l v) ⟨0, dm_zero h, Ne.symm hv, by omega⟩
/-- Who dominates, with one fewer, is the nearest. -/
theorem idm_of {l : List Is} {v a : Nat} (h0 : 0 < l.length) (h : Dm l a v) (hc : dmC l a + 1 = dmC l v) : Idm l v a := by
  have hn : a ≠ v := by rintro rfl; omega
  by_cases hv : v = 0
  · subst hv; exact absurd (dm_at_zero.1 h) hn
  obtain ⟨r, hr⟩ := idm_ex h0 h.1 hv
  by_cases e : a = r
  · rw [e]; exact hr
  · have := (hr.2.2 a h hn).count h0 e
    have := hr.count h0
    omega
theorem dmC_zero {l : List Is} (h0 : 0 < l.length) : dmC l 0 = 1 := by
  refine Nat.le_antisymm ?_ ?_
  · have := sub_len (b := [0]) (dmL_nd l 0) fun x hx => by rw [List.mem_singleton]; exact dm_at_zero.1 ((mem_dmL h0).1 hx)
    exact this
  · exact List.length_pos_of_mem ((mem_dmL h0).2 (dm_at_zero.2 rfl))
theorem dmC_le (l : List Is) (v : Nat) : dmC l v ≤ l.length := by
  have := List.length_filter_le (fun a => @decide (Dm l a v) (Classical.propDecidable _)) (List.range l.length)
  rw [List.length_range] at this
  exact this
theorem dmL_no {l : List Is} {v : Nat} (h : ¬ Rch l v) : dmL l v = [] := by
  unfold dmL
  refine List.filter_eq_nil_iff.2 fun a _ ha => h ?_
  exact ((@decide_eq_true_iff _ (Classical.propDecidable _)).1 ha).1

/-- A list that says of each one its nearest. -/
def IsT (l : List Is) (ts : List Int) : Prop := ((l.length = 0 ∨ 1024 < l.length) ∧ ts = []) ∨ (0 < l.length ∧ l.length ≤ 1024 ∧ ts.length = l.length ∧ ∀ v, v < l.length → (ts[v]? = some (-1) ∧ ¬ (Rch l v ∧ v ≠ 0)) ∨ ∃ r : Nat, ts[v]? = some (r : Int) ∧ Idm l v r)
theorem Idm.nz {l : List Is} {v r : Nat} (h : Idm l v r) : Rch l v ∧ v ≠ 0 := ⟨h.1.1, fun e => h.2.1 (by subst e; exact dm_at_zero.1 h.1)⟩
theorem IsT.one {l : List Is} {a b : List Int} (ha : IsT l a) (hb : IsT l b) : a = b := by
  rcases ha with ⟨h1, rfl⟩ | ⟨h1, h2, h3, h4⟩
  · rcases hb with ⟨_, rfl⟩ | ⟨g1, g2, _⟩
    · rfl
    · omega
  · rcases hb with ⟨g1, rfl⟩ | ⟨g1, g2, g3, g4⟩
    · omega
    · refine List.ext_getElem? fun v => ?_
      by_cases hv : v < l.length
      · rcases h4 v hv with ⟨e1, n1⟩ | ⟨r, e1, i1⟩ <;> rcases g4 v hv with ⟨e2, n2⟩ | ⟨r', e2, i2⟩
        · rw [e1, e2]
        · exact absurd i2.nz n1
        · exact absurd i1.nz n2
        · rw [e1, e2, i1.one i2]
      · rw [List.getElem?_eq_none (by omega), List.getElem?_eq_none (by omega)]
end Go.Proofs.YtlnjhnbiljkbmaaDoor

/- Sets of instructions, a bit each in sixteen words: plain. -/
namespace Go.Proofs.YtlnjhnbiljkbmaaDoor

def hasW (ws : List Nat) (v : Nat) : Bool := (ws.getD (v / 64) 0).testBit (v % 64)
def fullW : List Nat := List.replicate 16 18446744073709551615
def meetW (a b : List Nat) : List Nat := List.zipWith (fun x y => x &&& y) a b
def addW (ws : List Nat) (v : Nat) : List Nat := ws.set (v / 64) (ws.getD (v / 64) 0 ||| 2 ^ (v % 64))
def zeroW : List Nat := List.replicate 16 0
structure OkW (ws : List Nat) : Prop where
  len : ws.length = 16
  lt : ∀ x ∈ ws, x < 18446744073709551616
theorem OkW.at {ws : List Nat} (h : OkW ws) (i : Nat) : ws.getD i 0 < 18446744073709551616 := by
  rw [List.getD_eq_getElem?_getD]
  cases e : ws[i]? with
  | none => simp
  | some x => exact h.lt x (List.mem_of_getElem? e)
theorem okW_full : OkW fullW := ⟨by simp [fullW], fun x hx => by have := List.eq_of_mem_replicate hx; omega⟩
theorem okW_zero : OkW zeroW := ⟨by simp [zeroW], fun x hx => by have := List.eq_of_mem_replicate hx; omega⟩
theorem okW_set {ws : List Nat} (h : OkW ws) (i x : Nat) (hx : x < 18446744073709551616) : OkW (ws.set i x) :=
  ⟨by rw [List.length_set, h.len], fun y hy => by
    rcases List.mem_or_eq_of_mem_set hy with hy | rfl
    · exact h.lt y hy
    · exact hx⟩
theorem or_lt {x v : Nat} (hx : x < 18446744073709551616) (hv : v < 64) : x ||| 2 ^ v < 18446744073709551616 := by
  have : 2 ^ v < 2 ^ 64 := Nat.pow_lt_pow_right (by decide) hv
  exact Nat.or_lt_two_pow (n := 64) hx this
theorem okW_add {ws : List Nat} (h : OkW ws) (v : Nat) : OkW (addW ws v) := okW_set h _ _ (or_lt (h.at _) (Nat.mod_lt _ (by decide)))
theorem okW_meet {a b : List Nat} (ha : OkW a) (hb : OkW b) : OkW (meetW a b) := by
  refine ⟨by simp [meetW, ha.len, hb.len], fun x hx => ?_⟩
  unfold meetW at hx
  obtain ⟨i, hi, rfl⟩ := List.getElem_of_mem hx
  rw [List.getElem_zipWith]
  exact Nat.lt_of_le_of_lt Nat.and_le_left (ha.lt _ (List.getElem_mem _))
theorem has_full {v : Nat} : hasW fullW v = decide (v < 1024) := by
  unfold hasW fullW
  rw [List.getD_eq_getElem?_getD, List.getElem?_replicate]
  by_cases h : v < 1024
  · rw [if_pos (by omega), decide_eq_true h]
    show Nat.testBit (2 ^ 64 - 1) _ = true
    rw [Nat.testBit_two_pow_sub_one]
    exact decide_eq_true (Nat.mod_lt _ (by decide))
  · rw [if_neg (by omega), decide_eq_false h]; simp
theorem has_zero {v : Nat} : hasW zeroW v = false := by
  unfold hasW zeroW
  rw [List.getD_eq_getElem?_getD, List.getElem?_replicate]
  split <;> simp
theorem has_meet {a b : List Nat} (ha : OkW a) (hb : OkW b) (v : Nat) : hasW (meetW a b) v = (hasW a v && hasW b v) := by
  unfold hasW meetW
  simp only [List.getD_eq_getElem?_getD]
  rw [List.getElem?_zipWith]
  by_cases h : v / 64 < 16
  · rw [List.getElem?_eq_getElem (by rw [ha.len]; exact h), List.getElem?_eq_getElem (by rw [hb.len]; exact h)]
    simp only [Option.getD_some]
    exact Nat.testBit_and ..
  · rw [List.getElem?_eq_none (by rw [ha.len]; omega)]
    simp
theorem has_lt {ws : List Nat} (h : OkW ws) {v : Nat} (hv : hasW ws v = true) : v < 1024 := by
  refine Classical.byContradiction fun hn => ?_
  unfold hasW at hv
  rw [List.getD_eq_getElem?_getD, List.getElem?_eq_none (by rw [h.len]; omega)] at hv
  simp at hv
theorem has_add {ws : List Nat} (h : OkW ws) {v : Nat} (hv : v < 1024) (u : Nat) : hasW (addW ws v) u = (hasW ws u || u == v) := by
  unfold hasW addW
  simp only [List.getD_eq_getElem?_getD]
  by_cases e : v / 64 = u / 64
  · rw [← e, List.getElem?_set_self (by rw [h.len]; omega), Option.getD_some, Nat.testBit_or, Nat.testBit_two_pow]
    congr 1
    by_cases e2 : u = v
    · subst e2; simp
    · have : v % 64 ≠ u % 64 := by omega
      simp [e2, this]
  · rw [List.getElem?_set_ne e]
    have : u ≠ v := by rintro rfl; exact e rfl
    simp [this]
theorem ext_W {a b : List Nat} (ha : OkW a) (hb : OkW b) (h : ∀ v, hasW a v = hasW b v) : a = b := by
  refine List.ext_getElem (by rw [ha.len, hb.len]) fun i hi hj => ?_
  refine Nat.eq_of_testBit_eq fun j => ?_
  by_cases hj64 : j < 64
  · have := h (i * 64 + j)
    unfold hasW at this
    rw [show (i * 64 + j) / 64 = i by omega, show (i * 64 + j) % 64 = j by omega, List.getD_eq_getElem?_getD, List.getD_eq_getElem?_getD, List.getElem?_eq_getElem hi, List.getElem?_eq_getElem hj] at this
    exact this
  · rw [Nat.testBit_lt_two_pow, Nat.testBit_lt_two_pow]
    · exact Nat.lt_of_lt_of_le (hb.lt _ (List.getElem_mem hj)) (by rw [show (18446744073709551616 : Nat) = 2 ^ 64 from rfl]; exact Nat.pow_le_pow_right (by decide) (by omega))
    · exact Nat.lt_of_lt_of_le (ha.lt _ (List.getElem_mem hi)) (by rw [show (18446744073709551616 : Nat) = 2 ^ 64 from rfl]; exact Nat.pow_le_pow_right (by decide) (by omega))

/-- The bits of one number that are set; a set's numbers. -/
def bitsN (x : Nat) : List Nat := (List.range 64).filter fun j => x.testBit j
def elW (ws : List Nat) : List Nat := (List.range 1024).filter fun v => hasW ws v
theorem mem_elW {ws : List Nat} (h : OkW ws) {v : Nat} : v ∈ elW ws ↔ hasW ws v = true := by
  unfold elW
  rw [List.mem_filter, List.mem_range]
  exact ⟨fun h => h.2, fun hv => ⟨has_lt h hv, hv⟩⟩
theorem elW_nd (ws : List Nat) : (elW ws).Nodup := List.nodup_range.filter _
theorem popAux_bits : ∀ (f x k : Nat), ((List.range' k f).filter fun j => (x * 2 ^ k).testBit j).length = Lib.popAux f x
  | 0, x, k => by simp [Lib.popAux]
  | f + 1, x, k => by
    have ih := popAux_bits f (x / 2) (k + 1)
    unfold Lib.popAux
    rw [List.range'_succ, List.filter_cons]
    have e : ∀ j, k + 1 ≤ j → (x * 2 ^ k).testBit j = (x / 2 * 2 ^ (k + 1)).testBit j := by
      intro j hj
      rw [Nat.testBit_mul_two_pow, Nat.testBit_mul_two_pow]
      rw [decide_eq_true (by omega : k ≤ j), decide_eq_true (by omega : k + 1 ≤ j)]
      obtain ⟨d, rfl⟩ : ∃ d, j = k + 1 + d := ⟨j - (k + 1), by omega⟩
      rw [show k + 1 + d - k = d + 1 by omega, show k + 1 + d - (k + 1) = d by omega, Nat.testBit_succ]
    have e2 : (List.range' (k + 1) f).filter (fun j => (x * 2 ^ k).testBit j) = (List.range' (k + 1) f).filter (fun j => (x / 2 * 2 ^ (k + 1)).testBit j) := by
      refine List.filter_congr fun j hj => ?_
      rw [List.mem_range'_1] at hj
      exact e j hj.1
    rw [e2]
    have e3 : (x * 2 ^ k).testBit k = decide (x % 2 = 1) := by
      rw [Nat.testBit_mul_two_pow, Nat.sub_self, Nat.testBit_zero]; simp
    rw [e3]
    by_cases h : x % 2 = 1
    · rw [decide_eq_true h]; simp only [if_true, List.length_cons]; omega
    · rw [decide_eq_false h]; simp only [Bool.false_eq_true, if_false]; omega
theorem bitsN_count (x : Nat) : (bitsN x).length = Lib.onesCount x := by
  have := popAux_bits 64 x 0
  rw [Nat.pow_zero, Nat.mul_one] at this
  unfold bitsN Lib.onesCount
  rw [List.range_eq_range']
  exact this
def sizeW (ws : List Nat) : Nat := (ws.map Lib.onesCount).sum
theorem el_key (m : Nat) (hm : 0 < m) : ∀ (n : Nat) (ys : List Nat), ys.length = n → ((List.range (m * n)).filter fun v => (ys.getD (v / m) 0).testBit (v % m)).length = (ys.map fun x => ((List.range m).filter fun j => x.testBit j).length).sum := by
  intro n
  induction n with
  | zero => intro ys hy; rw [List.length_eq_zero_iff] at hy; subst hy; simp
  | succ n ih =>
    intro ys hy
    obtain ⟨zs, x, rfl⟩ : ∃ zs x, ys = zs ++ [x] := by
      rcases List.eq_nil_or_concat ys with rfl | ⟨zs, x, rfl⟩
      · simp at hy
      · exact ⟨zs, x, by simp⟩
    have hz : zs.length = n := by simpa using hy
    rw [Nat.mul_succ, List.range_add, List.filter_append, List.length_append, List.map_append, List.sum_append]
    have e1 : ((List.range (m * n)).filter fun v => ((zs ++ [x]).getD (v / m) 0).testBit (v % m)) = (List.range (m * n)).filter fun v => (zs.getD (v / m) 0).testBit (v % m) := by
      refine List.filter_congr fun v hv => ?_
      rw [List.mem_range] at hv
      have : v / m < zs.length := by rw [hz]; exact Nat.div_lt_of_lt_mul hv
      rw [List.getD_eq_getElem?_getD, List.getD_eq_getElem?_getD, List.getElem?_append_left this]
    have e2 : (((List.range m).map fun x => m * n + x).filter fun v => ((zs ++ [x]).getD (v / m) 0).testBit (v % m)).length = ((List.range m).filter fun j => x.testBit j).length := by
      rw [List.filter_map, List.length_map]
      have : (List.range m).filter ((fun v => ((zs ++ [x]).getD (v / m) 0).testBit (v % m)) ∘ fun x => m * n + x) = (List.range m).filter fun j => x.testBit j := by
        refine List.filter_congr fun v hv => ?_
        rw [List.mem_range] at hv
        simp only [Function.comp]
        rw [Nat.mul_add_div hm, Nat.mul_add_mod, Nat.div_eq_of_lt hv, Nat.mod_eq_of_lt hv, Nat.add_zero, List.getD_eq_getElem?_getD, List.getElem?_append_right (by omega), hz, Nat.sub_self]
        rfl
      rw [this]
    rw [e1, e2, ih zs hz]
    simp
theorem elW_count {ws : List Nat} (h : OkW ws) : (elW ws).length = sizeW ws := by
  have h2 := el_key 64 (by decide) 16 ws h.len
  have e : (ws.map fun x => ((List.range 64).filter fun j => x.testBit j).length) = ws.map Lib.onesCount := List.map_congr_left fun x _ => bitsN_count x
  rw [e, show 64 * 16 = 1024 from rfl] at h2
  unfold elW hasW sizeW
  exact h2
theorem sizeW_le {ws : List Nat} (h : OkW ws) : sizeW ws ≤ 1024 := by
  rw [← elW_count h]
  refine Nat.le_trans (List.length_filter_le _ _) ?_
  rw [List.length_range]
  exact Nat.le_refl _
theorem sizeW_lt {a b : List Nat} (ha : OkW a) (hb : OkW b) (hs : ∀ v, hasW a v = true → hasW b v = true) (hn : a ≠ b) : sizeW a < sizeW b := by
  have ⟨v, hv⟩ : ∃ v, ¬ hasW a v = hasW b v := Classical.byContradiction fun hc => hn (ext_W ha hb fun v => Classical.byContradiction fun h => hc ⟨v, h⟩)
  have h1 : hasW b v = true ∧ hasW a v = false := by
    have := hs v
    cases e1 : hasW a v <;> cases e2 : hasW b v <;> simp_all
  rw [← elW_count ha, ← elW_count hb]
  have := sub_len (a := v :: elW a) (b := elW b) (List.nodup_cons.2 ⟨fun hm => by rw [mem_elW ha, h1.2] at hm; simp at hm, elW_nd a⟩) fun x hx => by
    rcases List.mem_cons.1 hx with rfl | hx
    · exact (mem_elW hb).2 h1.1
    · exact (mem_elW hb).2 (hs x ((mem_elW ha).1 hx))
  rw [List.length_cons] at this
  exact this
end Go.Proofs.YtlnjhnbiljkbmaaDoor
