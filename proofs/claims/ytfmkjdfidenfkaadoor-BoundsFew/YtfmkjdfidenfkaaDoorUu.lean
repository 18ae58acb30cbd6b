/- Bounds, plain: rounds end. -/
import Derived.Test.YtfmkjdfidenfkaaDoorZap
import Derived.Test.YtfmkjdfidenfkaaDoorZao
import Derived.Test.YtfmkjdfidenfkaaDoorZaf
namespace Go.Proofs.YtfmkjdfidenfkaaDoor
open Go.RowKit
open S8 (meetB meetS joinS widS belA belB belC allS doR doB doS emB pot)

/-- A function of a module that may be, as far as rounds ask. -/
structure FnR (m : Mo) (f : Fn) (r : Nat) : Prop where
  ok : FnOk m f
  r : (r : Int) = f.regs
  ths : ∀ t ∈ m.ths, I64 t
  code : ∀ x ∈ f.code, x.Ok
  par : ∀ h ∈ m.funcs, h.params.length ≤ 8
theorem FnR.r1 {m : Mo} {f : Fn} {r : Nat} (h : FnR m f r) : 1 ≤ r ∧ r ≤ 64 := by have := h.ok.regs; have := h.r; omega
theorem fn_r {m : Mo} (h : (mayZ m).1 = 0) {w : World} (hm : m.In w) {j : Nat} {f : Fn} (hf : m.funcs[j]? = some f) : FnR m f f.regs.toNat := by
  have ho := fn_ok h hf
  have hmem := List.mem_of_getElem? hf
  refine ⟨ho, by have := ho.regs; omega, hm.2.1, (hm.2.2.2 f hmem).2.2.2.2.2.2, fun g hg => ?_⟩
  obtain ⟨k, hk, rfl⟩ := List.getElem_of_mem hg
  exact (fn_ok h (List.getElem?_eq_getElem hk)).par
theorem way_inv {m : Mo} {f : Fn} {r : Nat} (H : FnR m f r) {x : Is} {i : Nat} (hx : f.code[i]? = some x) {sd : List Sp} (hl : sd.length = r) (hg : GdL sd) : ∀ (L : List Nat) (st : Wk), (∀ v ∈ L, v < f.code.length) → WkI m.ths f.code.length r st → WkI m.ths f.code.length r (L.foldl (wayZ m f x i sd) st) ∧ mu m.ths.length f.code.length r (L.foldl (wayZ m f x i sd) st) ≤ mu m.ths.length f.code.length r st
  | [], st, _, h => ⟨h, Nat.le_refl _⟩
  | v :: L, st, hv, h => by
    have hr := H.r1
    have h1 : WkI m.ths f.code.length r (wayZ m f x i sd st v) ∧ mu m.ths.length f.code.length r (wayZ m f x i sd st v) ≤ mu m.ths.length f.code.length r st := by
      unfold wayZ
      by_cases hp : (psZ m f x i v sd).1 = true
      · rw [if_pos hp]
        refine mg_inv hr.1 H.ths h (hv v (by simp)) (by rw [psZ_len]; exact hl) ?_
        exact psZ_gd (H.ok.ins i x hx) (H.code x (List.mem_of_getElem? hx)) (by rw [hl]; exact H.r) (by omega) H.par hg hp
      · rw [if_neg hp]
        exact ⟨h, Nat.le_refl _⟩
    obtain ⟨h2, h3⟩ := way_inv H hx hl hg L _ (fun u hu => hv u (by simp [hu])) h1.1
    rw [List.foldl_cons]
    exact ⟨h2, Nat.le_trans h3 h1.2⟩
theorem st_inv {m : Mo} {f : Fn} {r : Nat} (H : FnR m f r) {st : Wk} (h : WkI m.ths f.code.length r st) {i : Nat} (hi : i < f.code.length) : WkI m.ths f.code.length r (stZ m f st i) ∧ mu m.ths.length f.code.length r (stZ m f st i) ≤ mu m.ths.length f.code.length r st ∧ (mkA st i = true → mu m.ths.length f.code.length r (stZ m f st i) < mu m.ths.length f.code.length r st) := by
  unfold stZ
  rw [List.getElem?_eq_getElem hi]
  simp only
  by_cases hb : mkA st i = true
  · rw [if_pos hb]
    obtain ⟨o1, o2, o3⟩ := off_inv h hi
    have hp := h.pt i hi
    have hne : insA st i ≠ [] := fun e => by rw [(hp.none e).1] at hb; cases hb
    obtain ⟨w1, w2⟩ := way_inv H (List.getElem?_eq_getElem hi) (hp.some hne).1 (hp.some hne).2 (nxt f.code i) (offZ st i) (fun v hv => nxt_lt hv) o1
    exact ⟨w1, Nat.le_trans w2 o2, fun _ => Nat.lt_of_le_of_lt w2 (o3 hb)⟩
  · rw [if_neg hb]
    exact ⟨h, Nat.le_refl _, fun h1 => absurd h1 hb⟩
theorem mk_set {l : List Bool} {i k : Nat} (h : l.getD k false = true) : (l.set i true).getD k false = true := by
  by_cases e : i = k
  · subst e
    by_cases hl : i < l.length
    · exact getD_set_same hl _ _
    · rw [List.getD_eq_getElem?_getD, List.getElem?_eq_none (by omega)] at h; cases h
  · rw [getD_set_ne e]; exact h
theorem mg_mk {ths : List Int} {st : Wk} {tv : Nat} {c : List Sp} {k : Nat} (h : mkA st k = true) : mkA (mgZ ths st tv c) k = true := by
  unfold mgZ
  split
  · exact mk_set h
  · split
    · exact mk_set h
    · exact h
theorem way_mk {m : Mo} {f : Fn} {x : Is} {i : Nat} {sd : List Sp} {k : Nat} : ∀ (L : List Nat) (st : Wk), mkA st k = true → mkA (L.foldl (wayZ m f x i sd) st) k = true
  | [], _, h => h
  | v :: L, st, h => by
    rw [List.foldl_cons]
    refine way_mk L _ ?_
    unfold wayZ
    split
    · exact mg_mk h
    · exact h
theorem st_mk {m : Mo} {f : Fn} {st : Wk} {i k : Nat} (hik : k ≠ i) (h : mkA st k = true) : mkA (stZ m f st i) k = true := by
  unfold stZ
  split
  · split
    · refine way_mk _ _ ?_
      show (st.mar.set i false).getD k false = true
      rw [getD_set_ne (fun e => hik e.symm)]
      exact h
    · exact h
  · exact h
theorem stN_inv {m : Mo} {f : Fn} {r : Nat} (H : FnR m f r) {st : Wk} (h : WkI m.ths f.code.length r st) : ∀ (k : Nat), k ≤ f.code.length → WkI m.ths f.code.length r (stN m f st k) ∧ mu m.ths.length f.code.length r (stN m f st k) ≤ mu m.ths.length f.code.length r st ∧ (∀ i, k ≤ i → mkA st i = true → mkA (stN m f st k) i = true) ∧ ((∃ i, i < k ∧ mkA st i = true) → mu m.ths.length f.code.length r (stN m f st k) < mu m.ths.length f.code.length r st)
  | 0, _ => ⟨h, Nat.le_refl _, fun _ _ h => h, fun ⟨i, hi, _⟩ => by omega⟩
  | k + 1, hk => by
    obtain ⟨h1, h2, h3, h4⟩ := stN_inv H h k (by omega)
    rw [stN_succ]
    obtain ⟨s1, s2, s3⟩ := st_inv H h1 (show k < f.code.length by omega)
    refine ⟨s1, Nat.le_trans s2 h2, fun i hi hb => st_mk (by omega) (h3 i (by omega) hb), ?_⟩
    rintro ⟨i, hi, hb⟩
    by_cases e : i = k
    · subst e
      exact Nat.lt_of_lt_of_le (s3 (h3 i (Nat.le_refl _) hb)) h2
    · exact Nat.lt_of_le_of_lt s2 (h4 ⟨i, by omega, hb⟩)
theorem any_mk {n : Nat} {l : List Bool} (hl : l.length = n) : l.any id = true ↔ ∃ i, i < n ∧ l.getD i false = true := by
  rw [List.any_eq_true]
  constructor
  · rintro ⟨b, hb, he⟩
    obtain ⟨i, hi, rfl⟩ := List.getElem_of_mem hb
    exact ⟨i, by omega, by rw [getD_lt hi]; exact he⟩
  · rintro ⟨i, hi, he⟩
    rw [getD_lt (by omega)] at he
    exact ⟨_, List.getElem_mem _, he⟩
/-- A round: what is so stays so; less may happen, if there was a mark. -/
theorem rnd_inv {m : Mo} {f : Fn} {r : Nat} (H : FnR m f r) {st : Wk} (h : WkI m.ths f.code.length r st) : WkI m.ths f.code.length r (rndZ m f st) ∧ (st.mar.any id = true → mu m.ths.length f.code.length r (rndZ m f st) < mu m.ths.length f.code.length r st) := by
  obtain ⟨h1, h2, h3, h4⟩ := stN_inv H h f.code.length (Nat.le_refl _)
  exact ⟨h1, fun hb => h4 ((any_mk h.lm).1 hb)⟩
/-- Rounds, so many at most. -/
def itZ (m : Mo) (f : Fn) : Nat → Wk → Wk
  | 0, st => st
  | k + 1, st => if st.mar.any id then itZ m f k (rndZ m f st) else st
theorem itZ_inv {m : Mo} {f : Fn} {r : Nat} (H : FnR m f r) : ∀ (k : Nat) {st : Wk}, WkI m.ths f.code.length r st → WkI m.ths f.code.length r (itZ m f k st) ∧ (mu m.ths.length f.code.length r st ≤ k → (itZ m f k st).mar.any id = false)
  | 0, st, h => ⟨h, fun h0 => by
    unfold itZ
    cases hb : st.mar.any id
    · rfl
    · have := (rnd_inv H h).2 hb; omega⟩
  | k + 1, st, h => by
    unfold itZ
    by_cases hb : st.mar.any id = true
    · rw [if_pos hb]
      obtain ⟨r1, r2⟩ := rnd_inv H h
      obtain ⟨i1, i2⟩ := itZ_inv H k r1
      exact ⟨i1, fun hm => i2 (by have := r2 hb; omega)⟩
    · rw [if_neg hb]
      exact ⟨h, fun _ => by simpa using hb⟩
/-- Where rounds end is where they end from each round on. -/
theorem itZ_more {m : Mo} {f : Fn} : ∀ (k : Nat) (st : Wk), (itZ m f k st).mar.any id = false → itZ m f (k + 1) st = itZ m f k st
  | 0, st, h => by unfold itZ at h; show (if st.mar.any id = true then _ else st) = st; rw [if_neg (by rw [h]; decide)]
  | k + 1, st, h => by
    show (if st.mar.any id = true then itZ m f (k + 1) (rndZ m f st) else st) = (if st.mar.any id = true then itZ m f k (rndZ m f st) else st)
    by_cases hb : st.mar.any id = true
    · rw [if_pos hb, if_pos hb]
      refine itZ_more k _ ?_
      have : itZ m f (k + 1) st = itZ m f k (rndZ m f st) := if_pos hb
      rw [this] at h
      exact h
    · rw [if_neg hb, if_neg hb]
/-- The beginning. -/
def begS (f : Fn) : List Sp := f.params ++ zS (f.regs.toNat - f.params.length)
def begW (f : Fn) : Wk := ⟨(List.replicate f.code.length []).set 0 (begS f), List.replicate f.code.length (List.replicate f.regs.toNat 0), (List.replicate f.code.length false).set 0 true, List.replicate f.code.length 0⟩
theorem getD_rep {α : Type} {n i : Nat} (h : i < n) (x d : α) : (List.replicate n x).getD i d = x := by rw [getD_lt (by simpa using h), List.getElem_replicate]
theorem emptN_none : ∀ (l : List Sp) (i : Nat), emptN l i = none → ∀ s ∈ l, s.1 ≤ s.2
  | [], _, _, s, hs => by cases hs
  | a :: l, i, h, s, hs => by
    unfold emptN at h
    split at h
    · cases h
    · rcases List.mem_cons.1 hs with rfl | hs
      · omega
      · exact emptN_none l (i + 1) h s hs
theorem begS_gd {m : Mo} {f : Fn} {r : Nat} (H : FnR m f r) (hp : ∀ p ∈ f.params, spOk p) : (begS f).length = r ∧ GdL (begS f) := by
  have h1 := H.ok.regs
  have h2 := H.r
  unfold begS
  refine ⟨by rw [List.length_append, zS_len]; omega, fun s hs => ?_⟩
  rcases List.mem_append.1 hs with h | h
  · exact ⟨hp s h, emptN_none _ _ H.ok.none s h⟩
  · unfold zS at h
    rw [List.mem_replicate] at h
    rw [h.2]
    unfold GdS spOk I64
    simp
theorem begW_inv {m : Mo} {f : Fn} {r : Nat} (H : FnR m f r) (hp : ∀ p ∈ f.params, spOk p) : WkI m.ths f.code.length r (begW f) := by
  obtain ⟨b1, b2⟩ := begS_gd H hp
  have hl := H.ok.len
  have hr := H.r
  have hr1 := H.r1
  have hrr : f.regs.toNat = r := by omega
  refine ⟨by unfold begW; simp, by unfold begW; simp, by unfold begW; simp, by unfold begW; simp, fun i hi => ?_⟩
  have e2 : chgA (begW f) i = List.replicate r 0 := by unfold chgA begW; simp only; rw [getD_rep hi, hrr]
  have e4 : jnA (begW f) i = 0 := by unfold jnA begW; simp only; rw [getD_rep hi]
  have hz : ∀ k, k < r → (List.replicate r 0).getD k 0 = 0 := fun k hk => getD_rep hk _ _
  rw [e2, e4]
  by_cases h0 : i = 0
  · subst h0
    have e1 : insA (begW f) 0 = begS f := by unfold insA begW; simp only; exact getD_set_same (by simpa using hi) _ _
    rw [e1]
    have hne : begS f ≠ [] := by intro e; rw [e] at b1; simp at b1; omega
    exact ⟨by simp, fun e => absurd e hne, fun _ => ⟨b1, b2⟩, fun _ k hk => ⟨fun _ => by rw [hz k hk]; omega, fun h => by omega⟩, Nat.zero_le _⟩
  · have e1 : insA (begW f) i = [] := by unfold insA begW; simp only; rw [getD_set_ne (fun e => h0 e.symm), getD_rep hi]
    have e3 : mkA (begW f) i = false := by unfold mkA begW; simp only; rw [getD_set_ne (fun e => h0 e.symm), getD_rep hi]
    rw [e1, e3]
    exact ⟨by simp, fun _ => ⟨rfl, rfl, fun k hk => (List.mem_replicate.1 hk).2⟩, fun e => absurd rfl e, fun e => absurd rfl e, Nat.zero_le _⟩
/-- The analysis: rounds tv no mark. -/
def anZ (m : Mo) (f : Fn) : Wk := itZ m f (mu m.ths.length f.code.length f.regs.toNat (begW f)) (begW f)
theorem anZ_inv {m : Mo} {f : Fn} {r : Nat} (H : FnR m f r) (hp : ∀ p ∈ f.params, spOk p) : WkI m.ths f.code.length r (anZ m f) ∧ (anZ m f).mar.any id = false := by
  have hrr : f.regs.toNat = r := by have := H.r; omega
  obtain ⟨h1, h2⟩ := itZ_inv H (mu m.ths.length f.code.length f.regs.toNat (begW f)) (begW_inv H hp)
  exact ⟨h1, h2 (by rw [hrr]; exact Nat.le_refl _)⟩
end Go.Proofs.YtfmkjdfidenfkaaDoor
