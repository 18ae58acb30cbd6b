/- Bounds, plain: spans that have numbers stay such ones behind each instruction. Bounds, plain: an analysis that goes on, and that it ends. -/
import Derived.Test.YtfmkjdfidenfkaaDoorZan
import Derived.Test.YtfmkjdfidenfkaaDoorZag
namespace Go.Proofs.YtfmkjdfidenfkaaDoor
open Go.RowKit
open S8 (meetB meetS joinS widS belA belB belC allS doR doB doS emB)

/-- A span that has numbers. -/
def GdS (s : Sp) : Prop := spOk s ∧ s.1 ≤ s.2
def GdL (l : List Sp) : Prop := ∀ s ∈ l, GdS s
theorem GdL.ok {l : List Sp} (h : GdL l) : RgOk l := fun s hs => (h s hs).1
theorem gS_gd {l : List Sp} (h : GdL l) {a : Nat} (ha : a < l.length) : GdS (gS l a) := by rw [gS_lt ha]; exact h _ (List.getElem_mem ha)
theorem GdL.set {l : List Sp} (h : GdL l) (a : Nat) {s : Sp} (hs : GdS s) : GdL (l.set a s) := fun t ht => by
  rcases List.mem_or_eq_of_mem_set ht with h1 | rfl
  · exact h t h1
  · exact hs
theorem gd_meet {a s : Sp} (ha : GdS a) (h : meetB a s = true) : GdS (meetS a s) := by
  unfold meetB at h
  have h1 := of_decide_eq_true h
  unfold meetS
  rw [if_pos h1]
  obtain ⟨⟨x1, x2⟩, x3⟩ := ha
  unfold I64 at x1 x2
  refine ⟨⟨?_, ?_⟩, h1⟩ <;> unfold I64 <;> simp only <;> omega
theorem gd_all : GdS allS := by unfold GdS spOk I64 allS; simp
theorem gd_woz {s : Sp} (h : GdS s) (hb : wozB s = true) : GdS (wozS s) := by
  obtain ⟨⟨x1, x2⟩, x3⟩ := h
  unfold wozB at hb
  unfold wozS GdS spOk
  unfold I64 at *
  simp only [Bool.not_eq_true', Bool.and_eq_false_iff, decide_eq_false_iff_not] at hb
  simp only
  split <;> split <;> omega
theorem gd_bel {a b : Sp} (h : GdS a) (hb : belB a b = true) : GdS (belA a b) := by
  unfold belB at hb
  have h1 := of_decide_eq_true hb
  unfold belA
  rw [if_pos h1]
  obtain ⟨⟨x1, x2⟩, x3⟩ := h
  unfold GdS spOk
  unfold I64 at *
  simp only
  omega
theorem do_ok {op : Int} {a b s : Sp} (ha : GdS a) (hb : op ≠ 10 → GdS b) (h : doS op a b = some s) : spOk s := by
  have hk : S8.Sp.Ok s := by
    have oa : S8.Sp.Ok a := ha.1
    unfold doS at h
    split at h
    · cases h
    · rename_i hem
      split at h
      · injection h with h; subst h; exact S8.sum_ok _ _
      · split at h
        · injection h with h; subst h; exact S8.dif_ok _ _
        · split at h
          · injection h with h; subst h; exact S8.pro_ok _ _
          · split at h
            · rename_i o6
              have gb := hb (by omega)
              split at h
              · cases h
              · rename_i hz
                injection h with h; subst h; exact S8.quo_ok oa ha.2 gb.2 hz
            · split at h
              · split at h
                · cases h
                · injection h with h; subst h; exact S8.rem_ok oa
              · split at h
                · injection h with h; subst h; exact S8.tru_ok _ _
                · split at h
                  · injection h with h; subst h; exact S8.tru_ok _ _
                  · split at h
                    · injection h with h; subst h; exact S8.tru_ok _ _
                    · cases h
  exact hk
theorem op_some {op : Int} {a b s : Sp} (hb : op ≠ 10 → GdS b) (h : doS op a b = some s) : ∃ x y n, a.1 ≤ x ∧ x ≤ a.2 ∧ (op ≠ 10 → b.1 ≤ y ∧ y ≤ b.2) ∧ S8.opN op x y = some n := by
  unfold doS at h
  split at h
  · cases h
  · rename_i hem
    have hem' : emB a = false := by
      cases he : emB a
      · rfl
      · rw [he] at hem; simp at hem
    have hle : a.1 ≤ a.2 := by
      have := of_decide_eq_false hem'
      omega
    by_cases hb0 : op = 6 ∨ op = 7
    · have gb := hb (by omega)
      have hz : b ≠ (0, 0) := by
        intro e
        rcases hb0 with rfl | rfl <;> simp [e] at h
      have hy : ∃ y, y ≠ 0 ∧ b.1 ≤ y ∧ y ≤ b.2 := by
        by_cases h1 : b.1 = 0
        · refine ⟨b.2, fun h2 => hz (Prod.ext h1 h2), gb.2, Int.le_refl _⟩
        · exact ⟨b.1, h1, Int.le_refl _, gb.2⟩
      obtain ⟨y, y0, y1, y2⟩ := hy
      rcases hb0 with rfl | rfl
      · exact ⟨a.1, y, S8.wr (a.1.tdiv y), Int.le_refl _, hle, fun _ => ⟨y1, y2⟩, by unfold S8.opN; simp [y0]⟩
      · exact ⟨a.1, y, a.1.tmod y, Int.le_refl _, hle, fun _ => ⟨y1, y2⟩, by unfold S8.opN; simp [y0]⟩
    · have hy : op ≠ 10 → b.1 ≤ b.1 ∧ b.1 ≤ b.2 := fun o => ⟨Int.le_refl _, (hb o).2⟩
      by_cases o3 : op = 3
      · subst o3; exact ⟨a.1, b.1, _, Int.le_refl _, hle, hy, rfl⟩
      by_cases o4 : op = 4
      · subst o4; exact ⟨a.1, b.1, _, Int.le_refl _, hle, hy, rfl⟩
      by_cases o5 : op = 5
      · subst o5; exact ⟨a.1, b.1, _, Int.le_refl _, hle, hy, rfl⟩
      by_cases o8 : op = 8
      · subst o8; exact ⟨a.1, b.1, _, Int.le_refl _, hle, hy, rfl⟩
      by_cases o9 : op = 9
      · subst o9; exact ⟨a.1, b.1, _, Int.le_refl _, hle, hy, rfl⟩
      by_cases o10 : op = 10
      · subst o10; exact ⟨a.1, b.1, _, Int.le_refl _, hle, hy, rfl⟩
      rw [if_neg o3, if_neg o4, if_neg o5, if_neg (by omega), if_neg (by omega), if_neg o8, if_neg o9, if_neg o10] at h
      cases h
theorem gd_do {op : Int} {a b : Sp} (ha : GdS a) (hb : op ≠ 10 → GdS b) (h : doB op a b = true) : GdS (doR op a b) := by
  cases hs : doS op a b with
  | none => unfold doB at h; rw [hs] at h; cases h
  | some s =>
    have e : doR op a b = s := (S8.do_some hs).1
    rw [e]
    refine ⟨do_ok ha hb hs, ?_⟩
    obtain ⟨x, y, n, h1, h2, h3, h4⟩ := op_some hb hs
    obtain ⟨s', e', h5, h6⟩ := S8.do_true ha.1 h1 h2 h3 h4
    rw [hs] at e'
    injection e' with e'
    subst e'
    omega
/-- What is told where there is always an answer. -/
theorem do_yes {op : Int} {a b : Sp} (ha : GdS a) (hb : op ≠ 10 → GdS b) (ho : op = 3 ∨ op = 4 ∨ op = 5 ∨ op = 8 ∨ op = 9 ∨ op = 10) : doB op a b = true := by
  have ea : emB a = false := decide_eq_false (by have := ha.2; omega)
  unfold doB doS
  by_cases o10 : op = 10
  · subst o10
    rw [ea]
    simp
  · have eb : emB b = false := decide_eq_false (by have := (hb o10).2; omega)
    rw [ea, eb]
    rcases ho with rfl | rfl | rfl | rfl | rfl | rfl <;> simp
theorem gd_args : ∀ (ps : List Sp) (b : Nat) (l : List Sp), GdL l → b + ps.length ≤ l.length → (argsZ ps b l).1 = true → GdL (argsZ ps b l).2
  | [], _, _, h, _, _ => h
  | p :: ps, b, l, h, hl, ht => by
    rw [List.length_cons] at hl
    unfold argsZ at ht ⊢
    by_cases hm : meetB (gS l b) p = true
    · rw [if_pos hm] at ht ⊢
      exact gd_args ps (b + 1) _ (h.set b (gd_meet (gS_gd h (by omega)) hm)) (by simp; omega) ht
    · rw [if_neg hm] at ht; cases ht
/-- Behind an instruction, on a way that is gone, each span has numbers. -/
theorem psZ_gd {m : Mo} {f : Fn} {x : Is} {fr gt : Nat} {l : List Sp} (hok : InsOk m f x) (hxo : x.Ok) (hl : (l.length : Int) = f.regs) (hl64 : l.length ≤ 64) (hpl : ∀ h ∈ m.funcs, h.params.length ≤ 8) (h : GdL l) (ht : (psZ m f x fr gt l).1 = true) : GdL (psZ m f x fr gt l).2 := by
  have ha := hok.a
  have hb := hok.b
  have hc := hok.c
  have ga : GdS (gS l x.a.toNat) := gS_gd h (by omega)
  have gb : GdS (gS l x.b.toNat) := gS_gd h (by omega)
  have gc : GdS (gS l x.c.toNat) := gS_gd h (by omega)
  unfold psZ at ht ⊢
  split at ht
  · rename_i h1
    rw [if_pos h1]
    split at ht
    · rename_i h2
      rw [if_pos h2]
      exact h
    · rename_i h2
      rw [if_neg h2]
      unfold brB at ht
      unfold brL
      simp only at ht ⊢
      by_cases o17 : x.op = 17
      · rw [if_pos o17] at ht ⊢
        unfold cntB at ht
        unfold cntL
        by_cases hab : x.a.toNat = x.b.toNat
        · rw [if_pos hab]; exact h
        · rw [if_neg hab] at ht ⊢
          cases hd : decide (x.n = (gt : Int))
          · rw [hd] at ht
            exact h.set _ (gd_bel ga ht)
          · rw [hd] at ht
            exact h.set _ (gd_meet ga ht)
      · rw [if_neg o17] at ht ⊢
        by_cases h3 : decide (x.op = 15) = decide (x.n = (gt : Int))
        · rw [if_pos h3] at ht ⊢
          unfold wozL
          rw [if_pos ht]
          exact h.set _ (gd_woz ga ht)
        · rw [if_neg h3] at ht ⊢
          exact h.set _ (gd_meet ga ht)
  · rename_i h1
    rw [if_neg h1]
    split at ht
    · rename_i h2
      rw [if_pos h2]
      unfold divB at ht
      unfold divL
      simp only at ht ⊢
      rw [if_pos ht]
      have hz : GdL (wozL l x.c.toNat) := by
        unfold wozL
        by_cases hw : wozB (gS l x.c.toNat) = true
        · rw [if_pos hw]; exact h.set _ (gd_woz gc hw)
        · rw [if_neg hw]; exact h
      exact hz.set _ (gd_do gb (fun _ => gc) ht)
    · rename_i h2
      rw [if_neg h2]
      split at ht
      · rename_i h3
        rw [if_pos h3]
        unfold accB at ht
        unfold accL
        simp only at ht ⊢
        rw [if_pos ht]
        split
        · exact (h.set _ (gd_meet gb ht)).set _ gd_all
        · exact h.set _ (gd_meet gb ht)
      · rename_i h3
        rw [if_neg h3]
        split at ht
        · rename_i h4
          rw [if_pos h4]
          exact h.set _ (gd_meet ga ht)
        · rename_i h4
          rw [if_neg h4]
          split at ht
          · rename_i h5
            rw [if_pos h5]
            obtain ⟨n0, n1, n2⟩ := hok.call h5
            have hn : x.n.toNat < m.funcs.length := by omega
            have e : m.funcs[x.n.toNat]? = some m.funcs[x.n.toNat] := List.getElem?_eq_getElem hn
            have hp8 := hpl _ (List.getElem_mem hn)
            have hpar : parN m x.n = m.funcs[x.n.toNat].params.length := by unfold parN; rw [e]
            rw [hpar] at n2
            unfold callB at ht
            unfold callL
            simp only [e] at ht ⊢
            rw [if_pos ht]
            refine (gd_args _ _ _ h ?_ ht).set _ gd_all
            unfold wrap64 at n2
            omega
          · rename_i h5
            rw [if_neg h5]
            unfold wrtL
            simp only
            split
            · exact h.set _ ⟨⟨hxo.2.2.2.2, hxo.2.2.2.2⟩, Int.le_refl _⟩
            · split
              · exact h.set _ gb
              · split
                · exact h.set _ (gd_do gb (fun o => absurd rfl o) (do_yes gb (fun o => absurd rfl o) (by simp)))
                · split
                  · have g1 : GdS (1, 1) := by unfold GdS spOk I64; simp
                    exact h.set _ (gd_do ga (fun _ => g1) (do_yes ga (fun _ => g1) (by simp)))
                  · split
                    · rename_i h6
                      exact h.set _ (gd_do gb (fun _ => gc) (do_yes gb (fun _ => gc) (by omega)))
                    · exact h
theorem argsZ_length : ∀ (ps : List Sp) (b : Nat) (l : List Sp), (argsZ ps b l).2.length = l.length := argsZ_len
theorem psZ_len (m : Mo) (f : Fn) (x : Is) (fr gt : Nat) (l : List Sp) : (psZ m f x fr gt l).2.length = l.length := by
  unfold psZ brL cntL wozL divL accL callL wrtL
  repeat' split
  all_goals first | rfl | (simp [argsZ_len]; done) | (rw [List.length_set]; unfold wozL; split <;> simp)
end Go.Proofs.YtfmkjdfidenfkaaDoor
namespace Go.Proofs.YtfmkjdfidenfkaaDoor
open Go.RowKit
open S8 (meetB meetS joinS widS belA belB belC allS doR doB doS emB pot)

/-- An analysis that goes on: what stands (no list: nothing), what was changed, what is marked, what was joined. -/
structure Wk where
  ins : List (List Sp)
  chg : List (List Nat)
  mar : List Bool
  jn : List Nat
def insA (s : Wk) (i : Nat) : List Sp := s.ins.getD i []
def chgA (s : Wk) (i : Nat) : List Nat := s.chg.getD i []
def mkA (s : Wk) (i : Nat) : Bool := s.mar.getD i false
def jnA (s : Wk) (i : Nat) : Nat := s.jn.getD i 0
def chB (s c : List Sp) (i : Nat) : Bool := decide (joinS (gS s i) (gS c i) ≠ gS s i)
def someB (s c : List Sp) : Bool := (List.range s.length).any (chB s c)
def chC (s c : List Sp) (n : List Nat) : List Nat := n.mapIdx fun i k => if chB s c i then k + 1 else k
def newS (ths : List Int) (j : Nat) (s c : List Sp) : List Sp := s.mapIdx fun i x => if j ≤ 4 then joinS x (gS c i) else widS x (gS c i) ths
/-- What comes is merged. -/
def mgZ (ths : List Int) (st : Wk) (tv : Nat) (c : List Sp) : Wk :=
  if insA st tv = [] then { st with ins := st.ins.set tv c, mar := st.mar.set tv true }
  else if someB (insA st tv) c then { ins := st.ins.set tv (newS ths (jnA st tv + 1) (insA st tv) c), chg := st.chg.set tv (chC (insA st tv) c (chgA st tv)), mar := st.mar.set tv true, jn := st.jn.set tv (jnA st tv + 1) }
  else st
def wayZ (m : Mo) (f : Fn) (x : Is) (i : Nat) (sd : List Sp) (st : Wk) (tv : Nat) : Wk := if (psZ m f x i tv sd).1 then mgZ m.ths st tv (psZ m f x i tv sd).2 else st
def offZ (st : Wk) (i : Nat) : Wk := { st with mar := st.mar.set i false }
/-- An instruction's turn. -/
def stZ (m : Mo) (f : Fn) (st : Wk) (i : Nat) : Wk :=
  match f.code[i]? with
  | some x => if mkA st i then (nxt f.code i).foldl (wayZ m f x i (insA st i)) (offZ st i) else st
  | none => st
def stN (m : Mo) (f : Fn) (st : Wk) (k : Nat) : Wk := (List.range k).foldl (stZ m f) st
def rndZ (m : Mo) (f : Fn) (st : Wk) : Wk := stN m f st f.code.length
theorem stN_succ (m : Mo) (f : Fn) (st : Wk) (k : Nat) : stN m f st (k + 1) = stZ m f (stN m f st k) k := by
  unfold stN; rw [List.range_succ, List.foldl_append]; rfl

theorem getD_lt {α : Type} {l : List α} {i : Nat} (h : i < l.length) (d : α) : l.getD i d = l[i] := by rw [List.getD_eq_getElem?_getD, List.getElem?_eq_getElem h]; rfl
theorem getD_set_same {α : Type} {l : List α} {i : Nat} (h : i < l.length) (x d : α) : (l.set i x).getD i d = x := by rw [List.getD_eq_getElem?_getD, List.getElem?_set_self h]; rfl
theorem getD_set_ne {α : Type} {l : List α} {i j : Nat} (h : i ≠ j) (x d : α) : (l.set i x).getD j d = l.getD j d := by rw [List.getD_eq_getElem?_getD, List.getElem?_set_ne h, List.getD_eq_getElem?_getD]

theorem newS_len (ths : List Int) (j : Nat) (s c : List Sp) : (newS ths j s c).length = s.length := by unfold newS; simp
theorem newS_at (ths : List Int) (j : Nat) (s c : List Sp) {k : Nat} (h : k < s.length) : gS (newS ths j s c) k = if j ≤ 4 then joinS (gS s k) (gS c k) else widS (gS s k) (gS c k) ths := by
  rw [gS_lt (by rw [newS_len]; exact h), gS_lt h]
  unfold newS
  rw [List.getElem_mapIdx]
theorem chC_len (s c : List Sp) (n : List Nat) : (chC s c n).length = n.length := by unfold chC; simp
theorem chC_at (s c : List Sp) (n : List Nat) {k : Nat} (h : k < n.length) : (chC s c n).getD k 0 = if chB s c k then n.getD k 0 + 1 else n.getD k 0 := by
  rw [getD_lt (by rw [chC_len]; exact h), getD_lt h]
  unfold chC
  rw [List.getElem_mapIdx]
theorem inc_sum : ∀ (l : List Nat) (b : Nat → Bool), l.sum ≤ (l.mapIdx fun i k => if b i then k + 1 else k).sum ∧ ((∃ i, i < l.length ∧ b i = true) → l.sum + 1 ≤ (l.mapIdx fun i k => if b i then k + 1 else k).sum)
  | [], b => by simp
  | k :: l, b => by
    obtain ⟨h1, h2⟩ := inc_sum l fun i => b (i + 1)
    rw [List.mapIdx_cons, List.sum_cons, List.sum_cons]
    refine ⟨by split <;> omega, ?_⟩
    rintro ⟨i, hi, hb⟩
    cases i with
    | zero => rw [if_pos hb]; omega
    | succ i =>
      have := h2 ⟨i, by simpa using hi, hb⟩
      split <;> omega
theorem sum_le {B : Nat} : ∀ (l : List Nat), (∀ k ∈ l, k ≤ B) → l.sum ≤ l.length * B
  | [], _ => by simp
  | k :: l, h => by
    have h1 := h k (by simp)
    have h2 := sum_le l fun j hj => h j (by simp [hj])
    rw [List.sum_cons, List.length_cons, Nat.succ_mul]
    omega
theorem sum_zero : ∀ (l : List Nat), (∀ k ∈ l, k = 0) → l.sum = 0
  | [], _ => rfl
  | k :: l, h => by rw [List.sum_cons, h k (by simp), sum_zero l fun j hj => h j (by simp [hj])]

/-- What is so at an instruction. -/
structure PtI (ths : List Int) (r : Nat) (s : List Sp) (c : List Nat) (b : Bool) (j : Nat) : Prop where
  len : c.length = r
  none : s = [] → b = false ∧ j = 0 ∧ ∀ k ∈ c, k = 0
  some : s ≠ [] → s.length = r ∧ GdL s
  few : s ≠ [] → ∀ k, k < r → (j ≤ 4 → c.getD k 0 ≤ j) ∧ (4 < j → c.getD k 0 + pot ths (gS s k) ≤ ths.length + 6)
  jn : j ≤ c.sum
theorem PtI.le {ths : List Int} {r : Nat} {s : List Sp} {c : List Nat} {b : Bool} {j : Nat} (h : PtI ths r s c b j) : ∀ k ∈ c, k ≤ ths.length + 6 := by
  intro k hk
  by_cases hs : s = []
  · rw [(h.none hs).2.2 k hk]; omega
  · obtain ⟨i, hi, rfl⟩ := List.getElem_of_mem hk
    have h1 := h.few hs i (by rw [← h.len]; exact hi)
    rw [getD_lt hi] at h1
    by_cases hj : j ≤ 4
    · have := h1.1 hj; omega
    · have := h1.2 (by omega); omega
theorem PtI.sum {ths : List Int} {r : Nat} {s : List Sp} {c : List Nat} {b : Bool} {j : Nat} (h : PtI ths r s c b j) : c.sum ≤ r * (ths.length + 6) := by
  have := sum_le c h.le
  rwa [h.len] at this
theorem PtI.off {ths : List Int} {r : Nat} {s : List Sp} {c : List Nat} {b : Bool} {j : Nat} (h : PtI ths r s c b j) : PtI ths r s c false j := ⟨h.len, fun e => ⟨rfl, (h.none e).2⟩, h.some, h.few, h.jn⟩
/-- How much may happen there yet. -/
def ptM (B : Nat) (s : List Sp) (c : List Nat) : Nat := if s = [] then 1 + B else B - c.sum
theorem wid_keep {x c : Sp} {ths : List Int} (hx : x.1 ≤ x.2) (h : joinS x c = x) : widS x c ths = x := by
  unfold widS
  rw [if_neg (by omega), h, if_pos rfl, if_pos rfl]
theorem wid_turn {x c : Sp} {ths : List Int} (hx : x.1 ≤ x.2) (hxo : spOk x) (hco : spOk c) (hth : ∀ t ∈ ths, I64 t) (h : joinS x c ≠ x) : pot ths (widS x c ths) + 1 ≤ pot ths x := by
  obtain ⟨h1, h2, h3, h4, h5, h6⟩ := S8.wid_step (ts := ths) (a := x) (s := c) hth hxo hco hx
  refine h6 fun e => ?_
  have hc : c.1 ≤ c.2 := by
    rcases Int.lt_or_le c.2 c.1 with hc | hc
    · exact absurd (by unfold joinS; rw [if_neg (by omega), if_pos hc] : joinS x c = x) h
    · exact hc
  obtain ⟨k1, k2⟩ := h4 hc
  rw [e] at k1 k2
  apply h
  unfold joinS
  rw [if_neg (by omega), if_neg (by omega)]
  exact Prod.ext (by simp only; omega) (by simp only; omega)
theorem gd_join {a b : Sp} (ha : GdS a) (hb : GdS b) : GdS (joinS a b) := by
  have h1 := S8.join_in (a := a) (b := b) ha.2
  have h2 := ha.2
  exact ⟨S8.join_ok ha.1 hb.1, by omega⟩
theorem gd_wid {a b : Sp} {ths : List Int} (hth : ∀ t ∈ ths, I64 t) (ha : GdS a) (hb : GdS b) : GdS (widS a b ths) := by
  obtain ⟨h1, h2, h3, -⟩ := S8.wid_step (ts := ths) (a := a) (s := b) hth ha.1 hb.1 ha.2
  have := ha.2
  exact ⟨h1, by omega⟩
theorem newS_gd {ths : List Int} {j : Nat} {s c : List Sp} (hth : ∀ t ∈ ths, I64 t) (hs : GdL s) (hc : GdL c) (hl : c.length = s.length) : GdL (newS ths j s c) := by
  intro t ht
  obtain ⟨k, hk, rfl⟩ := List.getElem_of_mem ht
  rw [newS_len] at hk
  rw [← gS_lt, newS_at _ _ _ _ hk]
  split
  · exact gd_join (gS_gd hs hk) (gS_gd hc (by omega))
  · exact gd_wid hth (gS_gd hs hk) (gS_gd hc (by omega))
/-- Something comes where nothing stood. -/
theorem pt_first {ths : List Int} {r : Nat} {c : List Nat} {b : Bool} {j : Nat} {n : List Sp} (hr : 1 ≤ r) (h : PtI ths r [] c b j) (hn : n.length = r) (hg : GdL n) : PtI ths r n c true j ∧ ptM (r * (ths.length + 6)) n c + 1 ≤ ptM (r * (ths.length + 6)) [] c := by
  obtain ⟨h1, h2, h3⟩ := h.none rfl
  have hne : n ≠ [] := by intro e; rw [e] at hn; simp at hn; omega
  have hz : ∀ k, k < r → c.getD k 0 = 0 := fun k hk => by rw [getD_lt (by rw [h.len]; exact hk)]; exact h3 _ (List.getElem_mem _)
  refine ⟨⟨h.len, fun e => absurd e hne, fun _ => ⟨hn, hg⟩, fun _ k hk => ⟨fun _ => by rw [hz k hk]; omega, fun hj => by omega⟩, h.jn⟩, ?_⟩
  unfold ptM
  rw [if_neg hne, if_pos rfl, sum_zero c h3]
  omega
/-- Something comes that changes what stood. -/
theorem pt_next {ths : List Int} {r : Nat} {s : List Sp} {c : List Nat} {b : Bool} {j : Nat} {n : List Sp} (hth : ∀ t ∈ ths, I64 t) (h : PtI ths r s c b j) (hs : s ≠ []) (hn : n.length = r) (hg : GdL n) (hb : someB s n = true) : PtI ths r (newS ths (j + 1) s n) (chC s n c) true (j + 1) ∧ ptM (r * (ths.length + 6)) (newS ths (j + 1) s n) (chC s n c) + 1 ≤ ptM (r * (ths.length + 6)) s c := by
  obtain ⟨hl, hsg⟩ := h.some hs
  have hne : newS ths (j + 1) s n ≠ [] := by
    intro e
    have := congrArg List.length e
    rw [newS_len] at this
    exact hs (List.eq_nil_of_length_eq_zero this)
  have hsum : c.sum + 1 ≤ (chC s n c).sum := by
    unfold someB at hb
    rw [List.any_eq_true] at hb
    obtain ⟨k, hk, hkb⟩ := hb
    exact (inc_sum c (chB s n)).2 ⟨k, by rw [h.len, ← hl]; exact List.mem_range.1 hk, hkb⟩
  have hI : PtI ths r (newS ths (j + 1) s n) (chC s n c) true (j + 1) := by
    refine ⟨by rw [chC_len]; exact h.len, fun e => absurd e hne, fun _ => ⟨by rw [newS_len]; exact hl, newS_gd hth hsg hg (by omega)⟩, fun _ k hk => ?_, by have := h.jn; omega⟩
    have hks : k < s.length := by omega
    have hkn : k < n.length := by omega
    have gs := gS_gd hsg hks
    have gn := gS_gd hg hkn
    rw [chC_at _ _ _ (by rw [h.len]; exact hk), newS_at _ _ _ _ hks]
    have h0 := h.few hs k hk
    have hp := S8.pot_le (ts := ths) gs.2
    by_cases hch : chB s n k = true
    · rw [if_pos hch]
      have hd := of_decide_eq_true hch
      refine ⟨fun hj => by have := h0.1 (by omega); omega, fun hj => ?_⟩
      rw [if_neg (by omega)]
      have ht := wid_turn gs.2 gs.1 gn.1 hth hd
      by_cases hj4 : j ≤ 4
      · have := h0.1 hj4; omega
      · have := h0.2 (by omega); omega
    · rw [if_neg hch]
      have hd : joinS (gS s k) (gS n k) = gS s k := by
        unfold chB at hch
        simpa using hch
      refine ⟨fun hj => by have := h0.1 (by omega); omega, fun hj => ?_⟩
      rw [if_neg (by omega), wid_keep gs.2 hd]
      by_cases hj4 : j ≤ 4
      · have := h0.1 hj4; omega
      · have := h0.2 (by omega); omega
  refine ⟨hI, ?_⟩
  have := hI.sum
  unfold ptM
  rw [if_neg hne, if_neg hs]
  omega

/-- What is so of the analysis. -/
structure WkI (ths : List Int) (n r : Nat) (st : Wk) : Prop where
  li : st.ins.length = n
  lc : st.chg.length = n
  lm : st.mar.length = n
  lj : st.jn.length = n
  pt : ∀ i, i < n → PtI ths r (insA st i) (chgA st i) (mkA st i) (jnA st i)
def sumN (f : Nat → Nat) : Nat → Nat
  | 0 => 0
  | n + 1 => sumN f n + f n
theorem sumN_le {f g : Nat → Nat} : ∀ (n : Nat), (∀ i, i < n → f i ≤ g i) → sumN f n ≤ sumN g n
  | 0, _ => Nat.le_refl _
  | n + 1, h => by have := sumN_le n fun i hi => h i (by omega); have := h n (by omega); unfold sumN; omega
theorem sumN_lt {f g : Nat → Nat} {k : Nat} : ∀ (n : Nat), (∀ i, i < n → f i ≤ g i) → k < n → f k < g k → sumN f n < sumN g n
  | 0, _, h, _ => by omega
  | n + 1, h, hk, hlt => by
    unfold sumN
    have h1 := h n (by omega)
    by_cases e : k = n
    · subst e
      have := sumN_le (f := f) (g := g) k fun i hi => h i (by omega)
      omega
    · have := sumN_lt n (fun i hi => h i (by omega)) (show k < n by omega) hlt
      omega
/-- How much may happen yet. -/
def mu (t n r : Nat) (st : Wk) : Nat := sumN (fun i => 2 * ptM (r * (t + 6)) (insA st i) (chgA st i) + if mkA st i then 1 else 0) n
theorem off_inv {ths : List Int} {n r : Nat} {st : Wk} {i : Nat} (h : WkI ths n r st) (hi : i < n) : WkI ths n r (offZ st i) ∧ mu ths.length n r (offZ st i) ≤ mu ths.length n r st ∧ (mkA st i = true → mu ths.length n r (offZ st i) < mu ths.length n r st) := by
  have e : ∀ k, k ≠ i → mkA (offZ st i) k = mkA st k := fun k hk => getD_set_ne (fun e => hk e.symm) _ _
  have e0 : mkA (offZ st i) i = false := getD_set_same (by rw [h.lm]; exact hi) _ _
  refine ⟨⟨h.li, h.lc, by show (st.mar.set i false).length = n; rw [List.length_set]; exact h.lm, h.lj, fun k hk => ?_⟩, ?_, fun hm => ?_⟩
  · by_cases hki : k = i
    · subst hki; rw [e0]; exact (h.pt k hk).off
    · rw [e k hki]; exact h.pt k hk
  · refine sumN_le n fun k hk => ?_
    by_cases hki : k = i
    · subst hki; rw [e0]; show 2 * ptM _ (insA st k) (chgA st k) + _ ≤ _; simp
    · rw [e k hki]; exact Nat.le_refl _
  · refine sumN_lt (k := i) n (fun k hk => ?_) hi ?_
    · by_cases hki : k = i
      · subst hki; rw [e0]; show 2 * ptM _ (insA st k) (chgA st k) + _ ≤ _; simp
      · rw [e k hki]; exact Nat.le_refl _
    · simp only [e0, hm]
      show 2 * ptM _ (insA st i) (chgA st i) + _ < _
      simp
theorem mg_inv {ths : List Int} {n r : Nat} {st : Wk} {tv : Nat} {c : List Sp} (hr : 1 ≤ r) (hth : ∀ t ∈ ths, I64 t) (h : WkI ths n r st) (ht : tv < n) (hc : c.length = r) (hg : GdL c) : WkI ths n r (mgZ ths st tv c) ∧ mu ths.length n r (mgZ ths st tv c) ≤ mu ths.length n r st := by
  have hp := h.pt tv ht
  have key : ∀ (s' : List Sp) (c' : List Nat) (j' : Nat) (st' : Wk), st'.ins = st.ins.set tv s' → st'.chg = st.chg.set tv c' → st'.mar = st.mar.set tv true → st'.jn = st.jn.set tv j' → PtI ths r s' c' true j' → ptM (r * (ths.length + 6)) s' c' + 1 ≤ ptM (r * (ths.length + 6)) (insA st tv) (chgA st tv) → WkI ths n r st' ∧ mu ths.length n r st' ≤ mu ths.length n r st := by
    intro s' c' j' st' e1 e2 e3 e4 hP hM
    have a1 : insA st' tv = s' := by unfold insA; rw [e1]; exact getD_set_same (by rw [h.li]; exact ht) _ _
    have a2 : chgA st' tv = c' := by unfold chgA; rw [e2]; exact getD_set_same (by rw [h.lc]; exact ht) _ _
    have a3 : mkA st' tv = true := by unfold mkA; rw [e3]; exact getD_set_same (by rw [h.lm]; exact ht) _ _
    have a4 : jnA st' tv = j' := by unfold jnA; rw [e4]; exact getD_set_same (by rw [h.lj]; exact ht) _ _
    have b1 : ∀ k, k ≠ tv → insA st' k = insA st k := fun k hk => by unfold insA; rw [e1]; exact getD_set_ne (fun e => hk e.symm) _ _
    have b2 : ∀ k, k ≠ tv → chgA st' k = chgA st k := fun k hk => by unfold chgA; rw [e2]; exact getD_set_ne (fun e => hk e.symm) _ _
    have b3 : ∀ k, k ≠ tv → mkA st' k = mkA st k := fun k hk => by unfold mkA; rw [e3]; exact getD_set_ne (fun e => hk e.symm) _ _
    have b4 : ∀ k, k ≠ tv → jnA st' k = jnA st k := fun k hk => by unfold jnA; rw [e4]; exact getD_set_ne (fun e => hk e.symm) _ _
    refine ⟨⟨by rw [e1, List.length_set]; exact h.li, by rw [e2, List.length_set]; exact h.lc, by rw [e3, List.length_set]; exact h.lm, by rw [e4, List.length_set]; exact h.lj, fun k hk => ?_⟩, sumN_le n fun k hk => ?_⟩
    · by_cases e : k = tv
      · subst e; rw [a1, a2, a3, a4]; exact hP
      · rw [b1 k e, b2 k e, b3 k e, b4 k e]; exact h.pt k hk
    · by_cases e : k = tv
      · subst e; rw [a1, a2, a3]; simp only [if_true]; omega
      · rw [b1 k e, b2 k e, b3 k e]; exact Nat.le_refl _
  unfold mgZ
  by_cases h0 : insA st tv = []
  · rw [if_pos h0]
    rw [h0] at hp
    obtain ⟨p1, p2⟩ := pt_first hr hp hc hg
    refine key c (chgA st tv) (jnA st tv) _ rfl ?_ rfl ?_ p1 (by rw [h0]; exact p2)
    · show st.chg = _
      unfold chgA
      rw [getD_lt (by rw [h.lc]; exact ht), List.set_getElem_self]
    · show st.jn = _
      unfold jnA
      rw [getD_lt (by rw [h.lj]; exact ht), List.set_getElem_self]
  · rw [if_neg h0]
    by_cases h1 : someB (insA st tv) c = true
    · rw [if_pos h1]
      obtain ⟨p1, p2⟩ := pt_next hth hp h0 hc hg h1
      exact key _ _ _ _ rfl rfl rfl rfl p1 p2
    · rw [if_neg h1]
      exact ⟨h, Nat.le_refl _⟩
end Go.Proofs.YtfmkjdfidenfkaaDoor
