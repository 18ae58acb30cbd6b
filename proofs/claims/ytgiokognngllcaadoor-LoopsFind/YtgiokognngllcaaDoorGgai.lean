/- The rounds that narrow sets of dominators: plain. -/
import Derived.Test.YtgiokognngllcaaDoorGgah
import Derived.Shelf.Spec.TrailingZeros
import Derived.Deep.MidRow
namespace Go.Proofs.YtgiokognngllcaaDoor

/-- Who leads to v, by the edges told; of 0 nobody. -/
def frE (es : List (Nat × Nat)) (v : Nat) : List Nat := if v = 0 then [] else (es.filter fun e => e.2 == v).map (·.1)
theorem frE_nil (v : Nat) : frE [] v = [] := by unfold frE; split <;> rfl
theorem frE_snoc (es : List (Nat × Nat)) (u v w : Nat) : frE (es ++ [(u, v)]) w = if v = w ∧ v ≠ 0 then frE es w ++ [u] else frE es w := by
  unfold frE
  by_cases hw : w = 0
  · rw [if_pos hw, if_neg (by omega)]; simp [hw]
  · rw [if_neg hw, if_neg hw, List.filter_append]
    by_cases e : v = w
    · subst e; rw [if_pos ⟨rfl, hw⟩]; simp
    · rw [if_neg (by omega)]; simp [e]
theorem frE_zero (es : List (Nat × Nat)) : frE es 0 = [] := by unfold frE; simp
theorem mem_frE {es : List (Nat × Nat)} {u v : Nat} : u ∈ frE es v ↔ v ≠ 0 ∧ (u, v) ∈ es := by
  unfold frE
  split
  · rename_i h; simp [h]
  · rename_i h
    rw [List.mem_map]
    constructor
    · rintro ⟨⟨x, y⟩, hm, rfl⟩
      rw [List.mem_filter] at hm
      obtain ⟨h1, h2⟩ := hm
      simp only [beq_iff_eq] at h2
      subst h2
      exact ⟨h, h1⟩
    · rintro ⟨_, hm⟩
      exact ⟨(u, v), List.mem_filter.2 ⟨hm, by simp⟩, rfl⟩
theorem frE_len (es : List (Nat × Nat)) (v : Nat) : (frE es v).length ≤ es.length := by
  unfold frE
  split
  · simp
  · rw [List.length_map]; exact List.length_filter_le _ _
/-- What it is of a function's edges. -/
def Frs (l : List Is) (fr : Nat → List Nat) : Prop := ∀ u v, u ∈ fr v ↔ v ≠ 0 ∧ Rch l u ∧ v ∈ nxt l u
theorem frs_of {l : List Is} {rs : List Bool} (h0 : 0 < l.length) (h1 : l.length ≤ 1024) (h : IsR l rs) : Frs l (frE (edg l rs)) := by
  intro u v
  rw [mem_frE, mem_edg]
  rcases h with ⟨h, _⟩ | ⟨_, _, _, h4⟩
  · omega
  · rw [h4]
theorem Frs.some {l : List Is} {fr : Nat → List Nat} (h : Frs l fr) {v : Nat} (hv : fr v ≠ []) : Rch l v ∧ v ≠ 0 := by
  obtain ⟨u, us, e⟩ := List.exists_cons_of_ne_nil hv
  have := (h u v).1 (by rw [e]; simp)
  exact ⟨.step this.2.1 this.2.2, this.1⟩
theorem Frs.not {l : List Is} {fr : Nat → List Nat} (h : Frs l fr) {v : Nat} (hr : Rch l v) (hn : v ≠ 0) : fr v ≠ [] := by
  cases hr with
  | zero => exact absurd rfl hn
  | step hu hv => intro e
                  have := (h _ _).2 ⟨hn, hu, hv⟩
                  rw [e] at this
                  cases this

def hasA (S : List (List Nat)) (v a : Nat) : Bool := hasW (S.getD v []) a
theorem hasW_nil (a : Nat) : hasW [] a = false := by unfold hasW; simp
def newW (S : List (List Nat)) (us : List Nat) (v : Nat) : List Nat := addW (us.foldl (fun acc u => meetW acc (S.getD u [])) fullW) v
theorem fold_ok {S : List (List Nat)} (us : List Nat) (h : ∀ u ∈ us, OkW (S.getD u [])) (b : List Nat) (hb : OkW b) : OkW (us.foldl (fun acc u => meetW acc (S.getD u [])) b) := by
  induction us generalizing b with
  | nil => exact hb
  | cons u us ih => exact ih (fun x hx => h x (by simp [hx])) _ (okW_meet hb (h u (by simp)))
theorem fold_has {S : List (List Nat)} (us : List Nat) (h : ∀ u ∈ us, OkW (S.getD u [])) (b : List Nat) (hb : OkW b) (a : Nat) : hasW (us.foldl (fun acc u => meetW acc (S.getD u [])) b) a = (hasW b a && us.all fun u => hasA S u a) := by
  induction us generalizing b with
  | nil => simp
  | cons u us ih =>
    rw [List.foldl_cons, ih (fun x hx => h x (by simp [hx])) _ (okW_meet hb (h u (by simp))), has_meet hb (h u (by simp)), List.all_cons, Bool.and_assoc]
    rfl
theorem new_ok {S : List (List Nat)} {us : List Nat} (h : ∀ u ∈ us, OkW (S.getD u [])) (v : Nat) : OkW (newW S us v) := okW_add (fold_ok us h _ okW_full) v
theorem new_has {S : List (List Nat)} {us : List Nat} (h : ∀ u ∈ us, OkW (S.getD u [])) {v : Nat} (hv : v < 1024) (a : Nat) : hasW (newW S us v) a = true ↔ a = v ∨ (a < 1024 ∧ ∀ u ∈ us, hasA S u a = true) := by
  unfold newW
  rw [has_add (fold_ok us h _ okW_full) hv, fold_has us h _ okW_full, has_full]
  simp only [Bool.or_eq_true, Bool.and_eq_true, decide_eq_true_eq, List.all_eq_true, beq_iff_eq]
  exact Or.comm

structure DI (l : List Is) (fr : Nat → List Nat) (S : List (List Nat)) : Prop where
  len : S.length = l.length
  ok : ∀ (v : Nat) (ws : List Nat), S[v]? = some ws → OkW ws
  z : ∀ a : Nat, hasA S 0 a = true ↔ a = 0
  un : ∀ v a, fr v = [] → v ≠ 0 → hasA S v a = false
  sup : ∀ v a, v < l.length → Dm l a v → hasA S v a = true
  shr : ∀ v a, v < l.length → fr v ≠ [] → (a = v ∨ (a < 1024 ∧ ∀ u ∈ fr v, hasA S u a = true)) → hasA S v a = true
def EqA (fr : Nat → List Nat) (S : List (List Nat)) (v : Nat) : Prop := fr v = [] ∨ newW S (fr v) v = S.getD v []
theorem Frs.lt {l : List Is} {fr : Nat → List Nat} (h : Frs l fr) (h0 : 0 < l.length) {u v : Nat} (hu : u ∈ fr v) : u < l.length := ((h u v).1 hu).2.1.lt h0
theorem DI.okAt {l : List Is} {fr : Nat → List Nat} {S : List (List Nat)} (h : DI l fr S) {v : Nat} (hv : v < l.length) : OkW (S.getD v []) := by
  have := h.len
  refine h.ok v _ ?_
  rw [List.getD_eq_getElem?_getD, List.getElem?_eq_getElem (by omega)]
  rfl
theorem getD_set {α : Type} (S : List α) (v u : Nat) (x d : α) (hv : v < S.length) : (S.set v x).getD u d = if u = v then x else S.getD u d := by
  rw [List.getD_eq_getElem?_getD, List.getD_eq_getElem?_getD]
  by_cases e : u = v
  · subst e; rw [List.getElem?_set_self hv, if_pos rfl]; rfl
  · rw [List.getElem?_set_ne (Ne.symm e), if_neg e]
theorem hasA_set {S : List (List Nat)} {v : Nat} (x : List Nat) (hv : v < S.length) (u a : Nat) : hasA (S.set v x) u a = if u = v then hasW x a else hasA S u a := by
  unfold hasA
  rw [getD_set S v u x [] hv]
  split <;> rfl
/-- How much there is. -/
def mS (S : List (List Nat)) : Nat := (S.map sizeW).sum
theorem sum_set : ∀ (S : List (List Nat)) (v : Nat) (x : List Nat) (h : v < S.length), mS (S.set v x) + sizeW S[v] = mS S + sizeW x
  | y :: S, 0, x, _ => by simp [mS]; omega
  | y :: S, v + 1, x, h => by
    have := sum_set S v x (by simpa using h)
    simp only [mS, List.set_cons_succ, List.map_cons, List.sum_cons, List.getElem_cons_succ] at this ⊢
    omega
theorem mS_le {S : List (List Nat)} (h : ∀ ws ∈ S, OkW ws) : mS S ≤ 1024 * S.length := by
  induction S with
  | nil => simp [mS]
  | cons y S ih =>
    have h1 := ih fun ws hw => h ws (by simp [hw])
    have h2 := sizeW_le (h y (by simp))
    simp only [mS, List.map_cons, List.sum_cons, List.length_cons] at h1 ⊢
    omega
theorem DI.step {l : List Is} {fr : Nat → List Nat} {S : List (List Nat)} (h : DI l fr S) (hf : Frs l fr) (h0 : 0 < l.length) (h1 : l.length ≤ 1024) {v : Nat} (hv : v < l.length) (hn : fr v ≠ []) (hne : newW S (fr v) v ≠ S.getD v []) : DI l fr (S.set v (newW S (fr v) v)) ∧ mS (S.set v (newW S (fr v) v)) < mS S := by
  have hl := h.len
  have hok : ∀ u ∈ fr v, OkW (S.getD u []) := fun u hu => h.okAt (hf.lt h0 hu)
  have hnew := new_ok hok v
  have hh := fun a => new_has hok (v := v) (by omega) a
  have hsub : ∀ a, hasW (newW S (fr v) v) a = true → hasA S v a = true := fun a ha => h.shr v a hv hn ((hh a).1 ha)
  have hs := fun u a => hasA_set (newW S (fr v) v) (by omega : v < S.length) u a
  have hle : ∀ u a, hasA (S.set v (newW S (fr v) v)) u a = true → hasA S u a = true := by
    intro u a
    rw [hs]
    split
    · rename_i e; subst e; exact hsub a
    · exact id
  have hvz : v ≠ 0 := (hf.some hn).2
  refine ⟨⟨by rw [List.length_set, hl], fun u ws hu => ?_, fun a => ?_, fun u a hu hz => ?_, fun u a hu hd => ?_, fun u a hu hfu ha => ?_⟩, ?_⟩
  · rw [List.getElem?_set] at hu
    split at hu
    · split at hu
      · cases hu; exact hnew
      · cases hu
    · exact h.ok u ws hu
  · rw [hs, if_neg (Ne.symm hvz)]; exact h.z a
  · rw [hs, if_neg (by rintro rfl; exact hn hu)]; exact h.un u a hu hz
  · rw [hs]
    split
    · rename_i e
      subst e
      rw [hh]
      by_cases e : a = u
      · exact .inl e
      · have := hd.left.lt h0
        exact .inr ⟨by omega, fun x hx => h.sup x a (hf.lt h0 hx) (hd.edge ((hf x u).1 hx).2.1 ((hf x u).1 hx).2.2 e)⟩
    · exact h.sup u a hu hd
  · rw [hs]
    have ha' : a = u ∨ (a < 1024 ∧ ∀ x ∈ fr u, hasA S x a = true) := by
      rcases ha with ha | ⟨ha, hb⟩
      · exact .inl ha
      · exact .inr ⟨ha, fun x hx => hle x a (hb x hx)⟩
    split
    · rename_i e
      subst e
      exact (hh a).2 ha'
    · exact h.shr u a hu hfu ha'
  · have h2 := sum_set S v (newW S (fr v) v) (by omega)
    have h3 : S.getD v [] = S[v]'(by omega) := by rw [List.getD_eq_getElem?_getD, List.getElem?_eq_getElem (by omega)]; rfl
    have h4 := sizeW_lt hnew (h.okAt hv) hsub hne
    rw [h3] at h4
    omega
theorem DI.done {l : List Is} {fr : Nat → List Nat} {S : List (List Nat)} (h : DI l fr S) (hf : Frs l fr) (h0 : 0 < l.length) (h1 : l.length ≤ 1024) (he : ∀ v, v < l.length → EqA fr S v) {v : Nat} (hv : v < l.length) (a : Nat) : hasA S v a = true ↔ Dm l a v := by
  refine ⟨fun ha => ?_, h.sup v a hv⟩
  have hr : Rch l v := by
    refine Classical.byContradiction fun hn => ?_
    have hz : v ≠ 0 := by rintro rfl; exact hn .zero
    have : fr v = [] := Classical.byContradiction fun hc => hn (hf.some hc).1
    rw [h.un v a this hz] at ha
    cases ha
  refine ⟨hr, fun hw => ?_⟩
  have key : ∀ u, RchW l (a : Int) u → hasA S u a = false := by
    intro u hu
    generalize hg : (a : Int) = g at hu
    induction hu with
    | zero hz =>
      cases e : hasA S 0 a with
      | false => rfl
      | true => have := (h.z a).1 e
                omega
    | @step x u hx hxu hn ih =>
      cases e : hasA S u a with
      | false => rfl
      | true =>
        have hul : u < l.length := nxt_lt hxu
        by_cases hz : u = 0
        · subst hz
          have := (h.z a).1 e
          omega
        · have hxm : x ∈ fr u := (hf x u).2 ⟨hz, RchW.rch hx, hxu⟩
          rcases he u hul with h2 | h2
          · rw [h2] at hxm; cases hxm
          · unfold hasA at e
            rw [← h2] at e
            rcases (new_has (fun y hy => h.okAt (hf.lt h0 hy)) (by omega) a).1 e with h3 | ⟨_, h3⟩
            · omega
            · rw [← ih]; exact (h3 x hxm).symm
  rw [key v hw] at ha
  cases ha
/-- What the rounds begin with. -/
def begS (n : Nat) (fr : Nat → List Nat) : List (List Nat) := (List.range n).map fun v => if v = 0 then addW zeroW 0 else if fr v = [] then zeroW else fullW
theorem begS_at {n : Nat} {fr : Nat → List Nat} {v : Nat} (h : v < n) : (begS n fr).getD v [] = if v = 0 then addW zeroW 0 else if fr v = [] then zeroW else fullW := by
  unfold begS
  rw [List.getD_eq_getElem?_getD, List.getElem?_map, List.getElem?_range h]
  rfl
theorem begS_DI {l : List Is} {fr : Nat → List Nat} (hf : Frs l fr) (h0 : 0 < l.length) (h1 : l.length ≤ 1024) : DI l fr (begS l.length fr) := by
  have hz := fun a => has_add okW_zero (by omega : 0 < 1024) a
  refine ⟨by simp [begS], fun v ws hv => ?_, fun a => ?_, fun v a hv hn => ?_, fun v a hv hd => ?_, fun v a hv hn ha => ?_⟩
  · have := List.mem_of_getElem? hv
    unfold begS at this
    obtain ⟨u, _, rfl⟩ := List.mem_map.1 this
    split
    · exact okW_add okW_zero 0
    · split
      · exact okW_zero
      · exact okW_full
  · unfold hasA
    rw [begS_at h0, if_pos rfl, hz, has_zero]
    simp
  · unfold hasA
    by_cases hl : v < l.length
    · rw [begS_at hl, if_neg hn, if_pos hv, has_zero]
    · rw [List.getD_eq_getElem?_getD, List.getElem?_eq_none (by simp [begS]; omega)]
      exact hasW_nil a
  · have := hd.left.lt h0
    unfold hasA
    rw [begS_at hv]
    split
    · rename_i e
      subst e
      rw [hz, has_zero, dm_at_zero.1 hd]
      rfl
    · rename_i e
      rw [if_neg (hf.not hd.1 e), has_full]
      exact decide_eq_true (by omega)
  · have : a < 1024 := by
      rcases ha with rfl | ha
      · omega
      · exact ha.1
    unfold hasA
    rw [begS_at hv]
    split
    · rename_i e
      exact absurd e (hf.some hn).2
    · first | rw [if_neg hn, has_full] | rw [has_full]
      exact decide_eq_true this
/-- What sizes are, and whose nearest is whose. -/
theorem size_dm {l : List Is} {ws : List Nat} {v : Nat} (h0 : 0 < l.length) (hk : OkW ws) (h : ∀ a, hasW ws a = true ↔ Dm l a v) : sizeW ws = dmC l v := by
  rw [← elW_count hk]
  refine Nat.le_antisymm ?_ ?_
  · exact sub_len (elW_nd ws) fun x hx => (mem_dmL h0).2 ((h x).1 ((mem_elW hk).1 hx))
  · exact sub_len (dmL_nd l v) fun x hx => (mem_elW hk).2 ((h x).2 ((mem_dmL h0).1 hx))
end Go.Proofs.YtgiokognngllcaaDoor

/- How many bits are set: the arithmetic under math/bits.OnesCount64. -/
namespace Go.Proofs.YtgiokognngllcaaDoor

/-- A number by its bytes, the lowest first. -/
def nb : List Nat → Nat
  | [] => 0
  | b :: r => b + 256 * nb r
theorem and_byte (a b c d : Nat) (hb : b < 256) (hd : d < 256) : (b + 256 * a) &&& (d + 256 * c) = (b &&& d) + 256 * (a &&& c) := by
  have hbd : b &&& d < 256 := Nat.lt_of_le_of_lt Nat.and_le_left hb
  rw [Nat.add_comm b, Nat.add_comm d, Nat.add_comm (b &&& d)]
  refine Nat.eq_of_testBit_eq fun i => ?_
  rw [Nat.testBit_and, show (256 : Nat) = 2 ^ 8 from rfl, Nat.testBit_two_pow_mul_add _ hb, Nat.testBit_two_pow_mul_add _ hd, Nat.testBit_two_pow_mul_add _ hbd, Nat.testBit_and, Nat.testBit_and]
  split <;> rfl
theorem d1 : ∀ b : Fin 256, ∀ t : Fin 2, ((b.val / 2 + 128 * t.val) &&& 85) = (b.val / 2 &&& 85) := by decide +kernel
theorem d2 : ∀ b : Fin 256, ∀ t : Fin 4, ((b.val / 4 + 64 * t.val) &&& 51) = (b.val / 4 &&& 51) := by decide +kernel
theorem d3 : ∀ b : Fin 69, ∀ t : Fin 5, ((b.val / 16 + 16 * t.val + b.val) &&& 15) = ((b.val / 16 + b.val) &&& 15) := by decide +kernel
def o1 (b : Nat) : Nat := (b / 2 &&& 85) + (b &&& 85)
def o2 (b : Nat) : Nat := (b / 4 &&& 51) + (b &&& 51)
def o3 (b : Nat) : Nat := (b / 16 + b) &&& 15
theorem o1_lt : ∀ b : Fin 256, o1 b.val < 256 := by decide +kernel
theorem o2_lt : ∀ b : Fin 256, o2 (o1 b.val) < 69 ∧ o2 (o1 b.val) % 16 < 5 ∧ o2 (o1 b.val) / 16 < 5 := by decide +kernel
theorem o3_eq : ∀ b : Fin 256, o3 (o2 (o1 b.val)) = Lib.popAux 8 b.val := by decide +kernel
theorem pop8_le : ∀ b : Fin 256, Lib.popAux 8 b.val ≤ 8 := by decide +kernel
theorem nb_o1 : ∀ bs : List Nat, (∀ b ∈ bs, b < 256) → (nb bs / 2 &&& nb (bs.map fun _ => 85)) + (nb bs &&& nb (bs.map fun _ => 85)) = nb (bs.map o1)
  | [], _ => by simp [nb]
  | b :: r, h => by
    have ih := nb_o1 r fun x hx => h x (by simp [hx])
    have hb := h b (by simp)
    simp only [List.map_cons, nb]
    generalize nb (r.map fun _ => 85) = M at *
    generalize nb (r.map o1) = S at *
    generalize nb r = R at *
    have e1 : (b + 256 * R) / 2 = (b / 2 + 128 * (R % 2)) + 256 * (R / 2) := by omega
    rw [e1, and_byte _ _ _ _ (by omega) (by omega), and_byte _ _ _ _ hb (by omega)]
    have := d1 ⟨b, hb⟩ ⟨R % 2, by omega⟩
    simp only at this
    rw [this]
    unfold o1
    omega
theorem nb_o2 : ∀ bs : List Nat, (∀ b ∈ bs, b < 256) → (nb bs / 4 &&& nb (bs.map fun _ => 51)) + (nb bs &&& nb (bs.map fun _ => 51)) = nb (bs.map o2)
  | [], _ => by simp [nb]
  | b :: r, h => by
    have ih := nb_o2 r fun x hx => h x (by simp [hx])
    have hb := h b (by simp)
    simp only [List.map_cons, nb]
    generalize nb (r.map fun _ => 51) = M at *
    generalize nb (r.map o2) = S at *
    generalize nb r = R at *
    have e1 : (b + 256 * R) / 4 = (b / 4 + 64 * (R % 4)) + 256 * (R / 4) := by omega
    rw [e1, and_byte _ _ _ _ (by omega) (by omega), and_byte _ _ _ _ hb (by omega)]
    have := d2 ⟨b, hb⟩ ⟨R % 4, by omega⟩
    simp only at this
    rw [this]
    unfold o2
    omega
theorem nb_o3 : ∀ bs : List Nat, (∀ b ∈ bs, b < 69 ∧ b % 16 < 5 ∧ b / 16 < 5) → (nb bs / 16 + nb bs) &&& nb (bs.map fun _ => 15) = nb (bs.map o3) ∧ nb bs % 16 < 5
  | [], _ => by simp [nb]
  | b :: r, h => by
    obtain ⟨ih, iq⟩ := nb_o3 r fun x hx => h x (by simp [hx])
    obtain ⟨hb, hm, hd⟩ := h b (by simp)
    simp only [List.map_cons, nb]
    generalize nb (r.map fun _ => 15) = M at *
    generalize nb (r.map o3) = S at *
    generalize nb r = R at *
    refine ⟨?_, by omega⟩
    have e1 : (b + 256 * R) / 16 + (b + 256 * R) = (b / 16 + 16 * (R % 16) + b) + 256 * (R / 16 + R) := by omega
    rw [e1, and_byte _ _ _ _ (by omega) (by omega)]
    have := d3 ⟨b, hb⟩ ⟨R % 16, by omega⟩
    simp only at this
    rw [this, ih]
    rfl
theorem pop_split : ∀ (k f b R : Nat), b < 2 ^ k → Lib.popAux (k + f) (b + 2 ^ k * R) = Lib.popAux k b + Lib.popAux f R
  | 0, f, b, R, h => by
    have : b = 0 := by simpa using h
    subst this
    simp [Lib.popAux]
  | k + 1, f, b, R, h => by
    rw [show k + 1 + f = (k + f) + 1 by omega]
    rw [Nat.pow_succ] at h
    have ih := pop_split k f (b / 2) R (by omega)
    have e0 : ∀ f x, Lib.popAux (f + 1) x = x % 2 + Lib.popAux f (x / 2) := fun _ _ => rfl
    rw [e0, e0]
    have e1 : (b + 2 ^ (k + 1) * R) / 2 = b / 2 + 2 ^ k * R := by
      rw [Nat.pow_succ, show 2 ^ k * 2 * R = 2 * (2 ^ k * R) by rw [Nat.mul_right_comm, Nat.mul_comm]]
      omega
    have e2 : (b + 2 ^ (k + 1) * R) % 2 = b % 2 := by
      rw [Nat.pow_succ, show 2 ^ k * 2 * R = 2 * (2 ^ k * R) by rw [Nat.mul_right_comm, Nat.mul_comm]]
      omega
    rw [e1, e2, ih]
    omega
theorem pop_nb : ∀ bs : List Nat, (∀ b ∈ bs, b < 256) → Lib.popAux (8 * bs.length) (nb bs) = (bs.map (Lib.popAux 8)).sum
  | [], _ => by simp [Lib.popAux]
  | b :: r, h => by
    have ih := pop_nb r fun x hx => h x (by simp [hx])
    have := pop_split 8 (8 * r.length) b (nb r) (h b (by simp))
    simp only [List.length_cons, List.map_cons, List.sum_cons, nb]
    rw [show 8 * (r.length + 1) = 8 + 8 * r.length by omega]
    rw [ih] at this
    exact this
/-- A word is eight bytes. -/
theorem word_nb (x : Nat) (h : x < 18446744073709551616) : ∃ b0 b1 b2 b3 b4 b5 b6 b7, x = nb [b0, b1, b2, b3, b4, b5, b6, b7] ∧ b0 < 256 ∧ b1 < 256 ∧ b2 < 256 ∧ b3 < 256 ∧ b4 < 256 ∧ b5 < 256 ∧ b6 < 256 ∧ b7 < 256 := by
  have key : ∀ q : Nat, ∃ b r, q = b + 256 * r ∧ b < 256 ∧ r = q / 256 := fun q => ⟨q % 256, q / 256, (Nat.mod_add_div q 256).symm, Nat.mod_lt _ (by decide), rfl⟩
  obtain ⟨b0, q1, e0, l0, h0⟩ := key x
  obtain ⟨b1, q2, e1, l1, h1⟩ := key q1
  obtain ⟨b2, q3, e2, l2, h2⟩ := key q2
  obtain ⟨b3, q4, e3, l3, h3⟩ := key q3
  obtain ⟨b4, q5, e4, l4, h4⟩ := key q4
  obtain ⟨b5, q6, e5, l5, h5⟩ := key q5
  obtain ⟨b6, q7, e6, l6, h6⟩ := key q6
  have l7 : q7 < 256 := by clear key; omega
  clear key h0 h1 h2 h3 h4 h5 h6
  refine ⟨b0, b1, b2, b3, b4, b5, b6, q7, ?_, l0, l1, l2, l3, l4, l5, l6, l7⟩
  rw [e0, e1, e2, e3, e4, e5, e6]
  simp only [nb, Nat.mul_zero, Nat.add_zero]
theorem div_a (y p A : Nat) (m : Nat) (hm : 0 < m) (hy : y = p + m * A) (hp : p < m) : y / m = A := by
  subst hy
  rw [Nat.add_mul_div_left _ _ hm, Nat.div_eq_of_lt hp, Nat.zero_add]
/-- What the last three steps make of eight small bytes. -/
theorem fold_nb (p0 p1 p2 p3 p4 p5 p6 p7 : Nat) (h : p0 ≤ 8 ∧ p1 ≤ 8 ∧ p2 ≤ 8 ∧ p3 ≤ 8 ∧ p4 ≤ 8 ∧ p5 ≤ 8 ∧ p6 ≤ 8 ∧ p7 ≤ 8) (y y1 y2 y3 : Nat) (hy : y = nb [p0, p1, p2, p3, p4, p5, p6, p7]) (h1 : y1 = y + y / 256) (h2 : y2 = y1 + y1 / 65536) (h3 : y3 = y2 + y2 / 4294967296) : y3 % 128 = p0 + p1 + p2 + p3 + p4 + p5 + p6 + p7 ∧ y3 < 9223372036854775808 := by
  simp only [nb, Nat.mul_zero, Nat.add_zero] at hy
  obtain ⟨A6, a6⟩ : ∃ A, A = p6 + 256 * p7 := ⟨_, rfl⟩
  rw [← a6] at hy
  obtain ⟨A5, a5⟩ : ∃ A, A = p5 + 256 * A6 := ⟨_, rfl⟩
  rw [← a5] at hy
  obtain ⟨A4, a4⟩ : ∃ A, A = p4 + 256 * A5 := ⟨_, rfl⟩
  rw [← a4] at hy
  obtain ⟨A3, a3⟩ : ∃ A, A = p3 + 256 * A4 := ⟨_, rfl⟩
  rw [← a3] at hy
  obtain ⟨A2, a2⟩ : ∃ A, A = p2 + 256 * A3 := ⟨_, rfl⟩
  rw [← a2] at hy
  obtain ⟨A1, a1⟩ : ∃ A, A = p1 + 256 * A2 := ⟨_, rfl⟩
  rw [← a1] at hy
  rw [div_a y p0 A1 256 (by decide) hy (by omega)] at h1
  rw [div_a y1 ((p0 + p1) + 256 * (p1 + p2)) (A2 + A3) 65536 (by decide) (by omega) (by omega)] at h2
  rw [div_a y2 ((p0 + p1) + (p2 + p3) + 256 * ((p1 + p2) + (p3 + p4)) + 65536 * ((p2 + p3) + (p4 + p5) + 256 * ((p3 + p4) + (p5 + p6)))) (A4 + A5 + (A6 + p7)) 4294967296 (by decide) (by omega) (by omega)] at h3
  refine ⟨?_, by omega⟩
  have e : y3 = p0 + p1 + p2 + p3 + p4 + p5 + p6 + p7 + 128 * (2 * ((p1 + p2) + (p3 + p4)) + 512 * ((p2 + p3) + (p4 + p5) + 256 * ((p3 + p4) + (p5 + p6))) + 33554432 * (A4 + A5 + (A6 + p7)) + 2 * A5 + 2 * A6 + 2 * p7) := by omega
  rw [e, Nat.add_mul_mod_self_left]
  exact Nat.mod_eq_of_lt (by omega)
theorem nb_le (m : Nat) : ∀ bs : List Nat, (∀ b ∈ bs, b ≤ m) → nb bs ≤ m * nb (bs.map fun _ => 1)
  | [], _ => by simp [nb]
  | b :: r, h => by
    have ih := nb_le m r fun x hx => h x (by simp [hx])
    have := h b (by simp)
    simp only [List.map_cons, nb]
    rw [Nat.mul_add, Nat.mul_one, Nat.mul_left_comm]
    omega
/-- The whole. -/
theorem ones_64 (x y1 y2 y3 y4 y5 y6 : Nat) (hx : x < 18446744073709551616) (h1 : y1 = (x / 2 &&& 6148914691236517205) + (x &&& 6148914691236517205)) (h2 : y2 = (y1 / 4 &&& 3689348814741910323) + (y1 &&& 3689348814741910323)) (h3 : y3 = (y2 / 16 + y2) &&& 1085102592571150095) (h4 : y4 = y3 + y3 / 256) (h5 : y5 = y4 + y4 / 65536) (h6 : y6 = y5 + y5 / 4294967296) :
    y6 % 128 = Lib.onesCount x ∧ y1 < 18446744073709551616 ∧ y2 < 5000000000000000000 ∧ y3 < 5000000000000000000 ∧ y4 < 9000000000000000000 ∧ y5 < 9000000000000000000 ∧ y6 < 9223372036854775808 := by
  obtain ⟨b0, b1, b2, b3, b4, b5, b6, b7, e, q0, q1, q2, q3, q4, q5, q6, q7⟩ := word_nb x hx
  have hb : ∀ b ∈ [b0, b1, b2, b3, b4, b5, b6, b7], b < 256 := by
    intro b hb
    simp only [List.mem_cons, List.not_mem_nil, or_false] at hb
    rcases hb with rfl | rfl | rfl | rfl | rfl | rfl | rfl | rfl <;> assumption
  have k1 := nb_o1 _ hb
  have hb1 : ∀ b ∈ [b0, b1, b2, b3, b4, b5, b6, b7].map o1, b < 256 := by
    intro c hc
    obtain ⟨b, hm, rfl⟩ := List.mem_map.1 hc
    exact o1_lt ⟨b, hb b hm⟩
  have k2 := nb_o2 _ hb1
  have hb2 : ∀ b ∈ ([b0, b1, b2, b3, b4, b5, b6, b7].map o1).map o2, b < 69 ∧ b % 16 < 5 ∧ b / 16 < 5 := by
    intro c hc
    obtain ⟨d, hd, rfl⟩ := List.mem_map.1 hc
    obtain ⟨b, hm, rfl⟩ := List.mem_map.1 hd
    exact o2_lt ⟨b, hb b hm⟩
  have k3 := (nb_o3 _ hb2).1
  have g1 : nb ([b0, b1, b2, b3, b4, b5, b6, b7].map fun _ => 85) = 6148914691236517205 := by simp only [List.map_cons, List.map_nil, nb]
  have g2 : nb (([b0, b1, b2, b3, b4, b5, b6, b7].map o1).map fun _ => 51) = 3689348814741910323 := by simp only [List.map_cons, List.map_nil, nb]
  have g3 : nb ((([b0, b1, b2, b3, b4, b5, b6, b7].map o1).map o2).map fun _ => 15) = 1085102592571150095 := by simp only [List.map_cons, List.map_nil, nb]
  rw [g1, ← e] at k1
  rw [g2] at k2
  rw [g3] at k3
  clear g1 g2 g3
  have v1 : y1 = nb ([b0, b1, b2, b3, b4, b5, b6, b7].map o1) := h1.trans k1
  rw [← v1] at k2
  have v2 : y2 = nb (([b0, b1, b2, b3, b4, b5, b6, b7].map o1).map o2) := h2.trans k2
  rw [← v2] at k3
  have v3 : y3 = nb ((([b0, b1, b2, b3, b4, b5, b6, b7].map o1).map o2).map o3) := h3.trans k3
  have p := pop_nb _ hb
  rw [← e] at p
  have w0 := fun (b : Nat) (h : b < 256) => o1_lt ⟨b, h⟩
  have w2 := fun (b : Nat) (h : b < 256) => o2_lt ⟨b, h⟩
  have w3 := fun (b : Nat) (h : b < 256) => o3_eq ⟨b, h⟩
  have w4 := fun (b : Nat) (h : b < 256) => pop8_le ⟨b, h⟩
  have u1 : ∀ c0 c1 c2 c3 c4 c5 c6 c7 : Nat, nb ([c0, c1, c2, c3, c4, c5, c6, c7].map fun _ => 1) = 72340172838076673 := fun _ _ _ _ _ _ _ _ => by simp only [List.map_cons, List.map_nil, nb]
  have c1 : y1 < 18446744073709551616 := by
    have := nb_le 255 _ fun b h => Nat.le_of_lt_succ (hb1 b h)
    rw [← v1] at this
    simp only [List.map_cons, List.map_nil] at this
    have k := u1 b0 b1 b2 b3 b4 b5 b6 b7
    simp only [List.map_cons, List.map_nil] at k
    rw [k] at this
    clear k v1 v2 v3 k1 k2 k3 p
    omega
  have c2 : y2 < 5000000000000000000 := by
    have := nb_le 68 _ fun b h => Nat.le_of_lt_succ (hb2 b h).1
    rw [← v2] at this
    simp only [List.map_cons, List.map_nil] at this
    have k := u1 b0 b1 b2 b3 b4 b5 b6 b7
    simp only [List.map_cons, List.map_nil] at k
    rw [k] at this
    clear k v1 v2 v3 k1 k2 k3 p
    omega
  have e3 : (([b0, b1, b2, b3, b4, b5, b6, b7].map o1).map o2).map o3 = [b0, b1, b2, b3, b4, b5, b6, b7].map (Lib.popAux 8) := by
    rw [List.map_map, List.map_map]
    exact List.map_congr_left fun b h => o3_eq ⟨b, hb b h⟩
  rw [e3] at v3
  have m8 : ∀ b ∈ [b0, b1, b2, b3, b4, b5, b6, b7].map (Lib.popAux 8), b ≤ 8 := by
    intro c hc
    obtain ⟨b, hm, rfl⟩ := List.mem_map.1 hc
    exact pop8_le ⟨b, hb b hm⟩
  have c3 : y3 < 1000000000000000000 := by
    have := nb_le 8 _ m8
    rw [← v3] at this
    simp only [List.map_cons, List.map_nil] at this
    have k := u1 b0 b1 b2 b3 b4 b5 b6 b7
    simp only [List.map_cons, List.map_nil] at k
    rw [k] at this
    clear k v1 v2 v3 k1 k2 k3 p m8 e3
    omega
  clear v1 v2 k1 k2 k3 e3 hb1 hb2 u1 h1 h2 h3 e
  simp only [List.map_cons, List.map_nil] at v3 p m8
  generalize Lib.popAux 8 b0 = r0 at *
  generalize Lib.popAux 8 b1 = r1 at *
  generalize Lib.popAux 8 b2 = r2 at *
  generalize Lib.popAux 8 b3 = r3 at *
  generalize Lib.popAux 8 b4 = r4 at *
  generalize Lib.popAux 8 b5 = r5 at *
  generalize Lib.popAux 8 b6 = r6 at *
  generalize Lib.popAux 8 b7 = r7 at *
  obtain ⟨f1, f2⟩ := fold_nb r0 r1 r2 r3 r4 r5 r6 r7 ⟨m8 _ (by simp), m8 _ (by simp), m8 _ (by simp), m8 _ (by simp), m8 _ (by simp), m8 _ (by simp), m8 _ (by simp), m8 _ (by simp)⟩ y3 y4 y5 y6 v3 h4 h5 h6
  simp only [List.length_cons, List.length_nil, List.sum_cons, List.sum_nil] at p
  unfold Lib.onesCount
  have p' : Lib.popAux 64 x = r0 + (r1 + (r2 + (r3 + (r4 + (r5 + (r6 + (r7 + 0))))))) := p
  clear p m8 v3
  refine ⟨by rw [f1, p']; omega, c1, c2, by omega, by omega, by omega, f2⟩
end Go.Proofs.YtgiokognngllcaaDoor

/- math/bits on words; the sets' methods. -/
namespace Go.Proofs.YtgiokognngllcaaDoor
open Go.RowKit Go.Sort

def uV (x : Nat) : Value := .int .u64 (x : Int)
theorem testBit_div (x k : Nat) : x.testBit k = decide (x / 2 ^ k % 2 = 1) := by
  rw [Nat.testBit_eq_decide_div_mod_eq]
theorem bit_word (x k : Nat) (hx : x < 18446744073709551616) : (bits BinOp.and IntKind.u64 ((x : Int) / 2 ^ k) 1 == 1) = x.testBit k := by
  have e : ((x : Int) / 2 ^ k) = ((x / 2 ^ k : Nat) : Int) := by simp
  have h1 : x / 2 ^ k < 18446744073709551616 := Nat.lt_of_le_of_lt (Nat.div_le_self _ _) hx
  rw [e, show (1 : Int) = ((1 : Nat) : Int) from rfl, bits_and_u64_nat _ _ h1 (by decide), Nat.and_one_is_mod, testBit_div, Bool.eq_iff_iff]
  simp only [beq_iff_eq, decide_eq_true_eq]
  omega
/-- A block's cells; all but one block stay. -/
abbrev Bk (W : World) (b : Nat) (T : TypeId) (C : List Value) : Prop := W.heap[b]? = some (.cells C.toArray T (0, 0))
structure Wr (b : Nat) (w w' : World) : Prop where
  os : w'.os = w.os
  tape : w'.tape = w.tape
  output : w'.output = w.output
  size : w'.heap.size = w.heap.size
  block : ∀ k, k ≠ b → w'.heap[k]? = w.heap[k]?
theorem Wr.refl (b : Nat) (w : World) : Wr b w w := ⟨rfl, rfl, rfl, rfl, fun _ _ => rfl⟩
theorem Wr.trans {b : Nat} {w w' w2 : World} (h : Wr b w w') (h' : Wr b w' w2) : Wr b w w2 := ⟨h'.os.trans h.os, h'.tape.trans h.tape, h'.output.trans h.output, h'.size.trans h.size, fun k hk => (h'.block k hk).trans (h.block k hk)⟩
theorem Wr.put (b i : Nat) (w : World) (v : Value) : Wr b w (w.setCell ⟨b, i, none⟩ v) := ⟨rfl, rfl, rfl, by simp, fun k hk => heap_setCell_other w ⟨b, i, none⟩ k v hk⟩
theorem Wr.drew {b : Nat} {w w' : World} (h : Wr b w w') : Wr b w w'.drew := ⟨h.os, h.tape, h.output, h.size, h.block⟩
theorem Wr.drewN {b : Nat} {w w' : World} (h : Wr b w w') (n : Nat) : Wr b w (w'.drewN n) := ⟨h.os, h.tape, h.output, h.size, h.block⟩
theorem Wr.below {b : Nat} {w w' : World} (h : Wr b w w') {N : Nat} (hN : N ≤ b) : Below N w w' := ⟨h.os, h.tape, h.output, Nat.le_of_eq h.size.symm, fun k hk => h.block k (by omega)⟩
theorem Bk.put {W : World} {b : Nat} {T : TypeId} {C : List Value} (h : Bk W b T C) (i : Nat) (v : Value) : Bk (W.setCell ⟨b, i, none⟩ v) b T (C.set i v) := by
  have := heap_setCell_same W b i C.toArray T v h
  rw [List.setIfInBounds_toArray] at this
  exact this
theorem Bk.cell {W : World} {b : Nat} {T : TypeId} {C : List Value} (h : Bk W b T C) {i : Nat} {v : Value} (hi : C[i]? = some v) : W.cell? ⟨b, i, none⟩ = some v := by
  rw [cell_of_row W b i C.toArray T (0, 0) h]
  simpa using hi
theorem Bk.frozen {W : World} {b : Nat} {T : TypeId} {C : List Value} (h : Bk W b T C) (i : Nat) : W.frozen? ⟨b, i, none⟩ = false := by
  unfold World.frozen?
  rw [h]
  simp
theorem wrap_u64_nat (n : Nat) (h : n < 18446744073709551616) : IntKind.u64.wrap (n : Int) = (n : Int) := by rw [IntKind.wrap_u64]; omega
theorem or_word (x k : Nat) (hx : x < 18446744073709551616) (hk : k < 64) : bits BinOp.or IntKind.u64 (x : Int) (IntKind.u64.wrap (2 ^ k)) = ((x ||| 2 ^ k : Nat) : Int) := by
  have h2 : (2 : Nat) ^ k < 18446744073709551616 := Nat.pow_lt_pow_right (a := 2) (m := k) (n := 64) (by decide) hk
  have e : IntKind.u64.wrap ((2 : Int) ^ k) = ((2 ^ k : Nat) : Int) := by
    have h3 : (2 : Int) ^ k = ((2 ^ k : Nat) : Int) := by simp
    rw [h3]
    exact wrap_u64_nat _ h2
  rw [e, bits_or_u64_nat _ _ hx h2]
set_option maxRecDepth 100000 in
set_option maxHeartbeats 4000000 in
theorem sadd_any (b v x : Nat) (T : TypeId) (C : List Value) (w : World) (hv : v < 1024) (hx : x < 18446744073709551616) (hb : Bk w b T C) (hC : C[v / 64]? = some (.int .u64 (x : Int))) : Calls Tryd.prog 77 #[.pointer (some ⟨b, 0, none⟩), .int .i64 (v : Int)] w fun e w' => (∃ r, e = .returned r) ∧ Bk w' b T (C.set (v / 64) (uV (x ||| 2 ^ (v % 64)))) ∧ Wr b w w' := by
  have hc := hb.cell hC
  have hf := hb.frozen (v / 64)
  have HB := Hid.mk' (hb.put (v / 64) (uV (x ||| 2 ^ (v % 64))))
  have HW := Hid.mk' (Wr.put b (v / 64) w (uV (x ||| 2 ^ (v % 64))))
  have ho := or_word x (v % 64) hx (Nat.mod_lt _ (by decide))
  clear hx hb hC
  go_enter Tryd.func77, Tryd.ntmps77
  go_region
  go_wp2_with fail
  go_end0
  exact ⟨⟨_, rfl⟩, HB.out, HW.out.drew⟩
theorem and_word (a m : Nat) (ha : a < 18446744073709551616) (hm : m < 18446744073709551616) : bits BinOp.and IntKind.u64 (a : Int) (m : Int) = ((a &&& m : Nat) : Int) := bits_and_u64_nat a m ha hm
theorem and_i127 (n : Nat) (h : n < 9223372036854775808) : bits BinOp.and IntKind.i64 (n : Int) 127 = ((n % 128 : Nat) : Int) := by
  have h1 : (BitVec.ofInt 64 (n : Int)).toNat = n := by
    rw [BitVec.ofInt_natCast, BitVec.toNat_ofNat]; exact Nat.mod_eq_of_lt (by omega)
  have h2 : (BitVec.ofInt 64 (127 : Int)).toNat = 127 := by decide
  show IntKind.i64.wrap ((BitVec.ofInt 64 (n : Int) &&& BitVec.ofInt 64 (127 : Int)).toNat : Int) = _
  rw [BitVec.toNat_and, h1, h2, show (127 : Nat) = 2 ^ 7 - 1 from rfl, Nat.and_two_pow_sub_one_eq_mod]
  have : n % 2 ^ 7 < 128 := Nat.mod_lt _ (by decide)
  rw [IntKind.wrap_i64]
  omega
set_option maxRecDepth 100000 in
set_option maxHeartbeats 4000000 in
theorem ones_any (x : Nat) (w : World) (hx : x < 18446744073709551616) : Calls Tryd.prog 61 #[.int .u64 (x : Int)] w fun e w' => e = .returned (.int .i64 (Lib.onesCount x : Int)) ∧ w' = w := by
  obtain ⟨y1, h1⟩ : ∃ y, y = (x / 2 &&& 6148914691236517205) + (x &&& 6148914691236517205) := ⟨_, rfl⟩
  obtain ⟨y2, h2⟩ : ∃ y, y = (y1 / 4 &&& 3689348814741910323) + (y1 &&& 3689348814741910323) := ⟨_, rfl⟩
  obtain ⟨y3, h3⟩ : ∃ y, y = (y2 / 16 + y2) &&& 1085102592571150095 := ⟨_, rfl⟩
  obtain ⟨y4, h4⟩ : ∃ y, y = y3 + y3 / 256 := ⟨_, rfl⟩
  obtain ⟨y5, h5⟩ : ∃ y, y = y4 + y4 / 65536 := ⟨_, rfl⟩
  obtain ⟨y6, h6⟩ : ∃ y, y = y5 + y5 / 4294967296 := ⟨_, rfl⟩
  obtain ⟨g0, g1, g2, g3, g4, g5, g6⟩ := ones_64 x y1 y2 y3 y4 y5 y6 hx h1 h2 h3 h4 h5 h6
  have k1 : IntKind.u64.wrap (bits BinOp.and IntKind.u64 ((x : Int) / 2) 6148914691236517205 + bits BinOp.and IntKind.u64 (x : Int) 6148914691236517205) = (y1 : Int) := by
    rw [show ((x : Int) / 2) = ((x / 2 : Nat) : Int) by omega, show (6148914691236517205 : Int) = ((6148914691236517205 : Nat) : Int) from rfl, and_word _ _ (by omega) (by decide), and_word _ _ hx (by decide), ← Int.natCast_add, ← h1, wrap_u64_nat _ g1]
  have k2 : IntKind.u64.wrap (bits BinOp.and IntKind.u64 ((y1 : Int) / 4) 3689348814741910323 + bits BinOp.and IntKind.u64 (y1 : Int) 3689348814741910323) = (y2 : Int) := by
    rw [show ((y1 : Int) / 4) = ((y1 / 4 : Nat) : Int) by omega, show (3689348814741910323 : Int) = ((3689348814741910323 : Nat) : Int) from rfl, and_word _ _ (by omega) (by decide), and_word _ _ g1 (by decide), ← Int.natCast_add, ← h2, wrap_u64_nat _ (by omega)]
  have k3 : bits BinOp.and IntKind.u64 (IntKind.u64.wrap ((y2 : Int) / 16 + (y2 : Int))) 1085102592571150095 = (y3 : Int) := by
    rw [show ((y2 : Int) / 16 + (y2 : Int)) = ((y2 / 16 + y2 : Nat) : Int) by omega, wrap_u64_nat _ (by omega), show (1085102592571150095 : Int) = ((1085102592571150095 : Nat) : Int) from rfl, and_word _ _ (by omega) (by decide), ← h3]
  have k4 : IntKind.u64.wrap ((y3 : Int) + (y3 : Int) / 256) = (y4 : Int) := by
    rw [show ((y3 : Int) + (y3 : Int) / 256) = ((y3 + y3 / 256 : Nat) : Int) by omega, ← h4, wrap_u64_nat _ (by omega)]
  have k5 : IntKind.u64.wrap ((y4 : Int) + (y4 : Int) / 65536) = (y5 : Int) := by
    rw [show ((y4 : Int) + (y4 : Int) / 65536) = ((y4 + y4 / 65536 : Nat) : Int) by omega, ← h5, wrap_u64_nat _ (by omega)]
  have k6 : IntKind.u64.wrap ((y5 : Int) + (y5 : Int) / 4294967296) = (y6 : Int) := by
    rw [show ((y5 : Int) + (y5 : Int) / 4294967296) = ((y5 + y5 / 4294967296 : Nat) : Int) by omega, ← h6, wrap_u64_nat _ (by omega)]
  have k7 : IntKind.i64.wrap (y6 : Int) = (y6 : Int) := by rw [IntKind.wrap_i64]; omega
  have k8 := and_i127 y6 g6
  rw [g0] at k8
  clear h1 h2 h3 h4 h5 h6 g0 g1 g2 g3 g4 g5 g6 hx
  go_enter Tryd.func61, Tryd.ntmps61
  go_wp2_with fail
  go_ret
  exact ⟨rfl, rfl⟩
set_option maxRecDepth 100000 in
set_option maxHeartbeats 4000000 in
theorem trail_core (x k idx : Nat) (w : World) (hx0 : ((x : Int) == 0) = false)
    (key : IntKind.u64.wrap (bits BinOp.and IntKind.u64 (x : Int) (IntKind.u64.wrap (-(x : Int))) * 285870213051353865) / 288230376151711744 = (idx : Int))
    (hi : idx < 64) (hk : k < 64) (hcell : w.cell? ⟨1, idx, none⟩ = some (.int .u8 k)) :
    Calls Tryd.prog 79 #[.int .u64 (x : Int)] w fun e w' => e = .returned (.int .i64 (k : Int)) ∧ w' = w := by
  go_enter Tryd.func79, Tryd.ntmps79
  go_wp2_with (simp only [key])
  go_ret
  exact ⟨rfl, rfl⟩
theorem trail_any (x : Nat) (hx : x < 18446744073709551616) (hx0 : x ≠ 0) (w : World) (hT : TabAt 1 Lib.deBruijn64tab w) : Calls Tryd.prog 79 #[.int .u64 (x : Int)] w fun e w' => e = .returned (.int .i64 (Lib.ctz 64 x : Int)) ∧ w' = w := by
  obtain ⟨hlow, hk⟩ := Lib.lowest_bit 64 x hx0 hx
  obtain ⟨hi, htab⟩ := Lib.deBruijn64_at _ hk
  have hcell := hT _ hi
  rw [htab] at hcell
  exact trail_core x _ _ w (by simp; omega) (tz64_key x _ hx hx0 hlow) hi hk hcell
set_option maxRecDepth 100000 in
set_option maxHeartbeats 4000000 in
theorem ssize_any (b o : Nat) (ws : List Nat) (w : World) (hk : OkW ws) (hr : w.rangeAt b o (ws.map uV)) : Calls Tryd.prog 49 #[.pointer (some ⟨b, o, none⟩)] w fun e w' => e = .returned (.int .i64 (sizeW ws : Int)) ∧ w' = w := by
  have HR : Hid (∀ j (h : j < ws.length), w.cell? ⟨b, o + j, none⟩ = some (.int .u64 ((ws[j] : Nat) : Int))) := fun j h => hr j _ (by rw [List.getElem?_map, List.getElem?_eq_getElem h]; rfl)
  have HK := Hid.mk' hk
  have hl := hk.len
  have HS := Hid.mk' (sizeW_le hk)
  clear hr hk
  go_enter Tryd.func49, Tryd.ntmps49
  go_wp2_with fail
  go_loopw [3, 7] (fun t3 t7 wr => ∃ j : Nat, j ≤ 16 ∧ t7 = .int .i64 (j : Int) ∧ t3 = .int .i64 (sizeW (ws.take j) : Int) ∧ wr = w) (fun _ t7 _ => 16 - (intOf t7).toNat)
  case atStart => exact ⟨0, by omega, rfl, by simp [sizeW], rfl⟩
  case round =>
    obtain ⟨j, hj, rfl, rfl, rfl⟩ := hrel
    by_cases hlt : j < 16
    · have hlt' : j < ws.length := by omega
      have c0 := HR.out j hlt'
      have HO := Hid.mk' (ones_any ws[j] wr (HK.out.lt _ (List.getElem_mem hlt')))
      have hs : sizeW (ws.take (j + 1)) = sizeW (ws.take j) + Lib.onesCount ws[j] := by
        unfold sizeW
        rw [List.take_succ_eq_append_getElem hlt', List.map_append, List.sum_append]
        simp
      have hs2 : sizeW (ws.take (j + 1)) ≤ sizeW ws := by
        have e : ws = ws.take (j + 1) ++ ws.drop (j + 1) := (List.take_append_drop _ _).symm
        unfold sizeW
        rw [e, List.map_append, List.sum_append, ← e]
        omega
      have hs3 := HS.out
      have hsI : ((sizeW (ws.take j) : Int) + (Lib.onesCount ws[j] : Int)) = (sizeW (ws.take (j + 1)) : Int) := by omega
      have hsB : sizeW (ws.take (j + 1)) ≤ 1024 := by omega
      obtain ⟨s2, e2⟩ : ∃ s, sizeW (ws.take (j + 1)) = s := ⟨_, rfl⟩
      rw [e2] at hs hsI hsB hs2
      have HE := Hid.mk' e2
      clear e2
      generalize sizeW (ws.take j) = s1 at *
      generalize ws[j] = x at *
      clear hs hs2 hs3
      go_wp2_with (go_at_call 61; refine HO.out.mono ?_; rintro e w2 ⟨rfl, rfl⟩)
      go_roundw
      case rel => exact ⟨j + 1, by omega, by go_num, by rw [HE.out], trivial⟩
      case measure => simp [intOf]; omega
    · go_wp2_with fail
      go_ret
      obtain rfl : j = 16 := by omega
      exact ⟨by rw [List.take_of_length_le (by omega)]; rfl, rfl⟩
end Go.Proofs.YtgiokognngllcaaDoor

/- The sets' meet, and the full one. -/
namespace Go.Proofs.YtgiokognngllcaaDoor
open Go.RowKit Go.Sort

theorem map_uV_at {ws : List Nat} {j : Nat} (h : j < ws.length) : (ws.map uV)[j]? = some (.int .u64 ((ws[j] : Nat) : Int)) := by rw [List.getElem?_map, List.getElem?_eq_getElem h]; rfl
/-- The first so many met. -/
def meetN (a b : List Nat) (j : Nat) : List Nat := meetW (a.take j) (b.take j) ++ a.drop j
theorem meetN_zero (a b : List Nat) : meetN a b 0 = a := by simp [meetN, meetW]
theorem meetN_all {a b : List Nat} {n : Nat} (ha : a.length = n) (hb : b.length = n) : meetN a b n = meetW a b := by
  unfold meetN
  rw [List.take_of_length_le (by omega), List.take_of_length_le (by omega), List.drop_of_length_le (by omega), List.append_nil]
theorem meetN_len {a b : List Nat} {j : Nat} (h : a.length = b.length) : (meetN a b j).length = a.length := by
  unfold meetN meetW
  rw [List.length_append, List.length_zipWith, List.length_take, List.length_take, List.length_drop]
  omega
theorem meetN_at {a b : List Nat} {j : Nat} (ha : j < a.length) (hb : j < b.length) : (meetN a b j)[j]? = some a[j] := by
  unfold meetN meetW
  rw [List.getElem?_append_right (by rw [List.length_zipWith, List.length_take, List.length_take]; omega), List.length_zipWith, List.length_take, List.length_take, List.getElem?_drop]
  rw [show j + (j - min (min j a.length) (min j b.length)) = j by omega, List.getElem?_eq_getElem ha]
theorem meetN_succ {a b : List Nat} {j : Nat} (ha : j < a.length) (hb : j < b.length) : (meetN a b j).set j (a[j] &&& b[j]) = meetN a b (j + 1) := by
  have hl : (meetW (a.take j) (b.take j)).length = j := by unfold meetW; rw [List.length_zipWith, List.length_take, List.length_take]; omega
  unfold meetN
  rw [List.set_append_right _ _ (by omega), hl, Nat.sub_self, List.drop_eq_getElem_cons ha, List.set_cons_zero, List.take_succ_eq_append_getElem ha, List.take_succ_eq_append_getElem hb]
  unfold meetW
  rw [List.zipWith_append (by rw [List.length_take, List.length_take]; omega)]
  simp
theorem rangeAt_of_other {w w' : World} {b o : Nat} {cs : List Value} (h : w.rangeAt b o cs) {b' : Nat} (hw : Wr b' w w') (hn : b ≠ b') : w'.rangeAt b o cs := fun j v hv => by
  rw [World.cell?_of_block (w := w) (hw.block b hn)]
  exact h j v hv
set_option maxRecDepth 100000 in
set_option maxHeartbeats 4000000 in
theorem smeet_any (b b' o' : Nat) (T : TypeId) (ws ys : List Nat) (w : World) (hk : OkW ws) (hk' : OkW ys) (hb : Bk w b T (ws.map uV)) (hr : w.rangeAt b' o' (ys.map uV)) (hn : b' ≠ b) : Calls Tryd.prog 78 #[.pointer (some ⟨b, 0, none⟩), .pointer (some ⟨b', o', none⟩)] w fun e w' => (∃ r, e = .returned r) ∧ Bk w' b T ((meetW ws ys).map uV) ∧ Wr b w w' := by
  have HB := Hid.mk' hb
  have HR := Hid.mk' hr
  have HK := Hid.mk' hk
  have HK' := Hid.mk' hk'
  have hl := hk.len
  have hl' := hk'.len
  have HN := Hid.mk' hn
  clear hb hr hk hk' hn
  go_enter Tryd.func78, Tryd.ntmps78
  go_wp2_with fail
  go_loopw [5] (fun t5 wr => ∃ j : Nat, j ≤ 16 ∧ t5 = .int .i64 (j : Int) ∧ Bk wr b T ((meetN ws ys j).map uV) ∧ Wr b w wr) (fun t5 _ => 16 - (intOf t5).toNat)
  case atStart => exact ⟨0, by omega, rfl, by rw [meetN_zero]; exact HB.out, Wr.refl _ _⟩
  case round =>
    obtain ⟨j, hj, rfl, hb, hw⟩ := hrel
    by_cases hlt : j < 16
    · have h1 : j < ws.length := by omega
      have h2 : j < ys.length := by omega
      have c0 : wr.cell? ⟨b, j, none⟩ = some (.int .u64 ((ws[j] : Nat) : Int)) := hb.cell (by rw [List.getElem?_map, meetN_at h1 h2]; rfl)
      have f0 := hb.frozen j
      have c1 : wr.cell? ⟨b', o' + j, none⟩ = some (.int .u64 ((ys[j] : Nat) : Int)) := rangeAt_of_other HR.out hw HN.out j _ (map_uV_at h2)
      have ha := and_word ws[j] ys[j] (HK.out.lt _ (List.getElem_mem h1)) (HK'.out.lt _ (List.getElem_mem h2))
      have HB2 : Hid (Bk (wr.setCell ⟨b, j, none⟩ (.int .u64 ((ws[j] &&& ys[j] : Nat) : Int))) b T ((meetN ws ys (j + 1)).map uV)) := by
        have := hb.put j (uV (ws[j] &&& ys[j]))
        rw [← List.map_set, meetN_succ h1 h2] at this
        exact this
      have HW2 := Hid.mk' (hw.trans (Wr.put b j wr (.int .u64 ((ws[j] &&& ys[j] : Nat) : Int))))
      generalize ws[j] &&& ys[j] = z at *
      generalize ws[j] = x at *
      generalize ys[j] = y at *
      clear hb hw
      go_upto_region 3 with fail
      go_region
      go_wp2_with fail
      go_roundw
      case rel => exact ⟨j + 1, by omega, by go_num, HB2.out, HW2.out.drewN _⟩
      case measure => simp [intOf]; omega
    · go_wp2_with fail
      go_end0
      obtain rfl : j = 16 := by omega
      rw [meetN_all hl hl'] at hb
      exact ⟨⟨_, rfl⟩, hb, hw⟩
end Go.Proofs.YtgiokognngllcaaDoor
