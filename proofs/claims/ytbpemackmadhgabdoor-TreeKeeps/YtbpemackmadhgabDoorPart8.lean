/- Every statement of a right program is written; tree.Print for every program. -/
import Derived.Test.YtbpemackmadhgabDoorPart7
import Derived.Test.YtbpemackmadhgabDoorPart3
import Derived.Test.YtbpemackmadhgabDoorPart6
import Derived.Test.YtbpemackmadhgabDoorPart4
namespace Go.Proofs.YtbpemackmadhgabDoor
open Go.RowKit Go.Sort

theorem stmt_prints {w0 : World} (ht : Tabs w0) (hnt : NumT w0) (k : Nat) : ∀ (s : St) (lv : Nat) (at_ : Int), s.sz ≤ k → s.In w0 → (chkT s lv at_).1 = 0 → s.V ≤ 5000 → StmtD w0 (2 * lv) s := by
  induction k with
  | zero => intro s lv at_ hk; have := s.sz_eq; omega
  | succ k ih =>
    intro s lv at_ hk hin hc hV
    obtain ⟨cs, ⟨ab, cb⟩, ⟨ac, cc⟩, ⟨ae, ce⟩⟩ := chkT_ok hc
    obtain ⟨hlv, hk1, hk2, hnm, hoa, hob⟩ := chkS_ok cs
    have hz := s.sz_eq
    have hv := s.V_eq
    have hi := St.in_iff.1 hin
    have hlv' : lv ≤ 32 := by omega
    have sb : ∀ x ∈ s.body, StmtD w0 (2 * lv + 2) x := fun x hx => by
      obtain ⟨a, ha⟩ := chkSs_ok cb x hx
      exact ih x (lv + 1) a (by have := ssz_mem hx; omega) (hi.2.2.2.2.2.1.2 x hx) (by exact_mod_cast ha) (by have := vSs_mem hx; omega)
    have se : ∀ x ∈ s.els, StmtD w0 (2 * lv + 2) x := fun x hx => by
      obtain ⟨a, ha⟩ := chkSs_ok ce x hx
      exact ih x (lv + 1) a (by have := ssz_mem hx; omega) (hi.2.2.2.2.2.2.1.2 x hx) (by exact_mod_cast ha) (by have := vSs_mem hx; omega)
    have sc : ∀ c ∈ s.cases, ∀ x ∈ c.body, StmtD w0 (2 * lv + 2) x := fun c hcm x hx => by
      obtain ⟨a1, ha1⟩ := chkCs_ok cc c hcm
      obtain ⟨a, ha⟩ := chkSs_ok ha1 x hx
      have h1 := csz_mem hcm
      have h2 := c.sz_eq
      have h3 := vCs_mem hcm
      have h4 := c.V_eq
      exact ih x (lv + 1) a (by have := ssz_mem hx; omega) ((Ca.in_iff.1 (hi.2.2.2.2.2.2.2.2 c hcm)).2.2 x hx) (by exact_mod_cast ha) (by have := vSs_mem hx; omega)
    have za : OkE s.a → s.a.sz ≤ 1000000 := fun h => by have := okE_zE h; omega
    have zb : OkE s.b → s.b.sz ≤ 1000000 := fun h => by have := okE_zE h; omega
    have hcase : s.kind = 1 ∨ s.kind = 2 ∨ s.kind = 3 ∨ s.kind = 4 ∨ s.kind = 5 ∨ s.kind = 6 ∨ s.kind = 7 ∨ s.kind = 8 ∨ s.kind = 9 ∨ s.kind = 10 := by omega
    rcases hcase with h | h | h | h | h | h | h | h | h | h <;> rw [h] at hoa hob
    · exact stmtD_le (stmt1 w0 s h hin ht hnt (hoa rfl) (za (hoa rfl))) (by omega)
    · exact stmtD_le (stmt2 w0 s h hin hnt) (by omega)
    · exact stmtD_le (stmt3 w0 s h hin ht hnt (hoa rfl) (za (hoa rfl))) (by omega)
    · exact stmtD_le (stmt4 w0 s h hin ht hnt (hoa rfl) (za (hoa rfl)) (hob rfl) (zb (hob rfl))) (by omega)
    · exact stmt5 w0 s h hin ht hnt (hoa rfl) (za (hoa rfl)) (2 * lv) (by omega) (fun x hx => stmtD_le (sb x hx) (by omega)) (fun x hx => stmtD_le (se x hx) (by omega))
    · exact stmt6 w0 s h hin ht hnt (hoa rfl) (za (hoa rfl)) (2 * lv) (by omega) sc se
    · exact stmt7 w0 s h hin ht hnt (hoa rfl) (za (hoa rfl)) (hob rfl) (zb (hob rfl)) (2 * lv) (by omega) (fun x hx => stmtD_le (sb x hx) (by omega))
    · exact stmtD_le (stmt8 w0 s h) (by omega)
    · exact stmtD_le (stmt9 w0 s h hin ht hnt (hoa rfl) (za (hoa rfl))) (by omega)
    · exact stmtD_le (stmt10 w0 s h hin ht hnt (hoa rfl) (za (hoa rfl))) (by omega)

theorem chkFs_ok : ∀ {l : List Fu} {i : Int}, (chkFs l i).1 = 0 → chkFs l i = (0, 0, 0) ∧ ∀ f ∈ l, (chkF f).1 = 0
  | [], _, _ => ⟨rfl, fun f hf => by cases hf⟩
  | f :: r, i, h => by
    rw [chkFs] at h ⊢
    split at h
    · exact absurd h (by assumption)
    · rename_i h0
      obtain ⟨h1, h2⟩ := chkFs_ok h
      rw [if_neg h0]
      refine ⟨h1, fun g hg => ?_⟩
      rcases List.mem_cons.1 hg with rfl | hg
      · simpa using h0
      · exact h2 g hg
theorem check_ok {p : Pr} (h : (checkZ p).1 = 0) : checkZ p = (0, 0, 0) ∧ wholeZ p = 0 ∧ ∀ f ∈ p.funcs, (chkF f).1 = 0 := by
  unfold checkZ at h ⊢
  split at h
  · exact absurd h (by assumption)
  · rename_i h0
    obtain ⟨h1, h2⟩ := chkFs_ok h
    rw [if_neg h0]
    exact ⟨h1, by simpa using h0, h2⟩
theorem parsZ_ok : ∀ {l : List Pa}, parsZ l = 0 → ∀ q ∈ l, nameZ q.name = true
  | [], _, q, hq => by cases hq
  | p :: r, h, q, hq => by
    rw [parsZ] at h
    split at h
    · omega
    · rename_i h0
      split at h
      · omega
      · rcases List.mem_cons.1 hq with rfl | hq
        · simpa using h0
        · exact parsZ_ok h q hq
theorem chkF_ok {f : Fu} (h : (chkF f).1 = 0) : nameZ f.name = true ∧ f.params.length ≤ 8 ∧ (∀ q ∈ f.params, nameZ q.name = true) ∧ (chkSs f.body 1 0).1 = 0 := by
  unfold chkF at h
  split at h
  · exact absurd h (by assumption)
  · rename_i h0
    have h1 : headZ f = 0 := by simpa using h0
    unfold headZ at h1
    split at h1
    · omega
    · rename_i h2
      split at h1
      · omega
      · exact ⟨by simpa using h2, by omega, parsZ_ok h1, h⟩
theorem pa_len {q : Pa} (hq : q.Ok) (h : nameZ q.name = true) : (paB q).length ≤ 100 := by
  have h1 := nm_len h
  have h2 := Lib.itoa_length_le q.lo hq.2.1.1 hq.2.1.2
  have h3 := Lib.itoa_length_le q.hi hq.2.2.1 hq.2.2.2
  simp only [paB, List.length_append, List.length_cons, List.length_nil]
  omega
end Go.Proofs.YtbpemackmadhgabDoor

/- tree.Print for every program. -/
namespace Go.Proofs.YtbpemackmadhgabDoor
open Go.RowKit Go.Sort

theorem com_len (l : List (List UInt8)) (c : Nat) (h : ∀ t ∈ l, t.length ≤ c) : (comB l).length ≤ l.length * (c + 2) := by
  refine Nat.le_trans (comB_len l) ?_
  induction l with
  | nil => simp
  | cons t r ih =>
    rw [List.map_cons, List.sum_cons, List.length_cons, Nat.add_mul]
    have := h t (by simp)
    have := ih (fun x hx => h x (by simp [hx]))
    omega
theorem txF_len {w : World} {f : Fu} (hin : f.In w) (h : (chkF f).1 = 0) : (txF f).length ≤ 1000 + 1000 * vSs f.body := by
  obtain ⟨h1, h2, h3, h4⟩ := chkF_ok h
  have a1 := nm_len h1
  have a2 := (txS_len (w := w) _).2 f.body 1 0 1 (Nat.le_refl _) hin.2.2.2.2.2.2.2 (by exact_mod_cast h4) (by omega)
  have a3 := com_len (f.params.map paB) 100 (fun t ht => by
    obtain ⟨q, hq, rfl⟩ := List.mem_map.1 ht
    exact pa_len (hin.2.2.2.2.2.1 q hq) (h3 q hq))
  rw [List.length_map] at a3
  have a4 : f.params.length * (100 + 2) ≤ 8 * 102 := Nat.mul_le_mul h2 (Nat.le_refl _)
  simp only [txF, List.length_append, lineB_len, List.length_cons, List.length_nil]
  omega
theorem txFs_len {w : World} : ∀ {l : List Fu}, (∀ f ∈ l, f.In w) → (∀ f ∈ l, (chkF f).1 = 0) → (txFs l).length ≤ 1000 * l.length + 1000 * (l.map fun f => vSs f.body).sum
  | [], _, _ => by simp [txFs]
  | f :: r, hin, h => by
    have a1 := txF_len (hin f (by simp)) (h f (by simp))
    have a2 := txFs_len (l := r) (fun g hg => hin g (by simp [hg])) (fun g hg => h g (by simp [hg]))
    rw [txFs, List.length_append, List.map_cons, List.sum_cons, List.length_cons]
    omega
theorem txW_len {l : List Int} (h : l.length ≤ 16) (h64 : ∀ z ∈ l, I64 z) : (txW l).length ≤ 1000 := by
  unfold txW
  split
  · simp
  · have a3 := com_len (l.map Lib.itoa) 21 (fun t ht => by
      obtain ⟨z, hz, rfl⟩ := List.mem_map.1 ht
      exact Lib.itoa_length_le z (h64 z hz).1 (h64 z hz).2)
    rw [List.length_map] at a3
    have a4 : l.length * (21 + 2) ≤ 16 * 23 := Nat.mul_le_mul h (Nat.le_refl _)
    simp only [List.length_append, lineB_len, List.length_cons, List.length_nil]
    omega
theorem txP_len {w : World} {p : Pr} (hin : p.In w) (h : (checkZ p).1 = 0) : (txP p).length ≤ 100000000 := by
  obtain ⟨_, h1, h2⟩ := check_ok h
  obtain ⟨a1, a2, a3⟩ := whole_ok h1
  have b1 := txW_len a1 hin.2.2.2.2.1
  have b2 := txFs_len hin.haveF.2 h2
  unfold txP
  rw [List.length_append]
  omega
theorem fn_prints {w : World} (ht : Tabs w) (hnt : NumT w) {p : Pr} (hin : p.In w) (h : (checkZ p).1 = 0) : ∀ f ∈ p.funcs, FnPr w f := fun f hf => by
  obtain ⟨_, h1, h2⟩ := check_ok h
  obtain ⟨a1, a2, a3⟩ := whole_ok h1
  obtain ⟨c1, c2, c3, c4⟩ := chkF_ok (h2 f hf)
  have hfi := hin.haveF.2 f hf
  have hs := sum_mem hf
  refine ⟨fun s hs' => ?_, fun q hq => Nat.le_trans (pa_len (hfi.2.2.2.2.2.1 q hq) (c3 q hq)) (by decide), c2⟩
  obtain ⟨a, ha⟩ := chkSs_ok c4 s hs'
  exact stmt_prints ht hnt _ s 1 a (Nat.le_refl _) (hfi.2.2.2.2.2.2.2 s hs') (by exact_mod_cast ha) (by have := vSs_mem hs'; omega)

/-- What tree.Print answers. -/
def prT (p : Pr) : List UInt8 := if (checkZ p).1 = 0 then (if (txP p).length ≤ 65536 then txP p else []) else []
def prF (p : Pr) : Int × Int × Int := if (checkZ p).1 = 0 then (if (txP p).length ≤ 65536 then (0, 0, 0) else (4, 0, 0)) else checkZ p
theorem print_any (p : Pr) (w : World) (hin : p.In w) (ht : Tabs w) (hnt : NumT w) :
    Calls Tryd.prog 11 #[p.val] w fun e w' => e = .returned (.tuple #[sB (prT p), fltV (prF p).1 (prF p).2.1 (prF p).2.2]) ∧ Below w.heap.size w w' := by
  by_cases h : (checkZ p).1 = 0
  · obtain ⟨h0, h1, h2⟩ := check_ok h
    have hl := txP_len hin h
    by_cases h3 : (txP p).length ≤ 65536
    · have := print_ok p w hin ht hnt h0 (whole_ok h1).1 (fn_prints ht hnt hin h) h3
      simpa only [prT, prF, if_pos h, if_pos h3] using this
    · have := print_long p w hin ht hnt h0 (whole_ok h1).1 (fn_prints ht hnt hin h) (by omega) (by omega)
      simpa only [prT, prF, if_pos h, if_neg h3] using this
  · have := print_bad p w hin ht h
    simpa only [prT, prF, if_neg h] using this

/-- Counts that are not past the limit are exact. -/
theorem cntE_le (k : Nat) : (∀ (x : Ex) (n : Int), x.sz ≤ k → cntE x n ≤ n + x.sz) ∧ (∀ (l : List Ex) (n : Int), szL l ≤ k → cntL l n ≤ n + szL l) := by
  induction k with
  | zero =>
    refine ⟨fun x n hk => by have := x.sz_args; omega, fun l n hk => ?_⟩
    cases l with
    | nil => simp [cntL, szL]
    | cons x r => rw [szL] at hk; have := x.sz_args; omega
  | succ k ih =>
    have h1 : ∀ (x : Ex) (n : Int), x.sz ≤ k + 1 → cntE x n ≤ n + x.sz := fun x n hk => by
      rw [cntE_args]
      have := ih.2 x.args (n + 1) (by have := x.sz_args; omega)
      have := x.sz_args
      omega
    refine ⟨h1, fun l => ?_⟩
    induction l with
    | nil => intro n _; simp [cntL, szL]
    | cons x r ihr =>
      intro n hk
      rw [szL] at hk ⊢
      rw [cntL]
      split
      · omega
      · have a2 := h1 x n (by omega)
        have a3 := ihr (cntE x n) (by omega)
        omega
theorem cntZ_leV (x : Ex) (n : Int) : cntZ x n ≤ n + zE x := by
  unfold cntZ zE
  split
  · simp
  · exact (cntE_le _).1 x n (Nat.le_refl _)
theorem cntS_le (k : Nat) : (∀ (s : St) (n : Int), s.sz ≤ k → cntS s n ≤ n + s.V) ∧ (∀ (l : List St) (n : Int), ssz l ≤ k → cntSs l n ≤ n + vSs l) := by
  have step : ∀ k, (∀ (s : St) (n : Int), s.sz ≤ k → cntS s n ≤ n + s.V) → ∀ (l : List St) (n : Int), ssz l ≤ k → cntSs l n ≤ n + vSs l := by
    intro k h1 l
    induction l with
    | nil => intro n _; simp only [cntSs, vSs]; omega
    | cons x r ihr =>
      intro n hk
      rw [ssz] at hk
      rw [vSs, cntSs]
      split
      · omega
      · have a1 := h1 x n (by omega)
        have a2 := ihr (cntS x n) (by omega)
        omega
  induction k with
  | zero =>
    have h0 : ∀ (s : St) (n : Int), s.sz ≤ 0 → cntS s n ≤ n + s.V := fun s n hk => by have := s.sz_eq; omega
    exact ⟨h0, step 0 h0⟩
  | succ k ih =>
    have h1 : ∀ (s : St) (n : Int), s.sz ≤ k + 1 → cntS s n ≤ n + s.V := by
      intro s n hk
      have hz := s.sz_eq
      have hc : ∀ (l : List Ca) (n : Int), csz l ≤ k → cntCs l n ≤ n + vCs l := by
        intro l
        induction l with
        | nil => intro n _; simp only [cntCs, vCs]; omega
        | cons c r ihr =>
          intro n hk
          rw [csz] at hk
          rw [cntCs, vCs, cntC_eq, c.V_eq]
          have a1 := ih.2 c.body n (by have := c.sz_eq; omega)
          have a2 := ihr (cntSs c.body n) (by omega)
          omega
      have e : cntS s n = cntSs s.els (cntCs s.cases (cntSs s.body (cntZ s.b (cntZ s.a (n + (1 + (s.cases.length : Int))))))) := by
        cases s; simp only [cntS, St.els, St.cases, St.body, St.a, St.b]
      rw [e, s.V_eq]
      have a1 := cntZ_leV s.a (n + (1 + (s.cases.length : Int)))
      have a2 := cntZ_leV s.b (cntZ s.a (n + (1 + (s.cases.length : Int))))
      have a3 := ih.2 s.body (cntZ s.b (cntZ s.a (n + (1 + (s.cases.length : Int))))) (by omega)
      have a4 := hc s.cases (cntSs s.body (cntZ s.b (cntZ s.a (n + (1 + (s.cases.length : Int)))))) (by omega)
      have a5 := ih.2 s.els (cntCs s.cases (cntSs s.body (cntZ s.b (cntZ s.a (n + (1 + (s.cases.length : Int))))))) (by omega)
      omega
    exact ⟨h1, step (k + 1) h1⟩
theorem cntF_le : ∀ (l : List Fu) (n : Int), cntF l n ≤ n + (l.map fun f => vSs f.body).sum
  | [], n => by simp [cntF]
  | f :: r, n => by
    have a1 := (cntS_le _).2 f.body n (Nat.le_refl _)
    have a2 := cntF_le r (cntSs f.body n)
    rw [cntF, List.map_cons, List.sum_cons]
    omega
theorem nodes_exact {p : Pr} (h : (checkZ p).1 = 0) : nodesZ p = (p.funcs.map fun f => vSs f.body).sum := by
  obtain ⟨_, h1, _⟩ := check_ok h
  have hn := (whole_ok h1).2.2
  have a1 := cntF_le p.funcs 0
  have a2 := (cntF_V p.funcs 0).2 (by omega)
  unfold nodesZ
  omega
end Go.Proofs.YtbpemackmadhgabDoor

/- What is told of a program hangs on its addresses in nothing. -/
namespace Go.Proofs.YtbpemackmadhgabDoor
open Go.RowKit Go.Sort

theorem erL_length (l : List Ex) : (erL l).length = l.length := by rw [erL_map, List.length_map]
theorem erS_length (l : List St) : (erS l).length = l.length := by rw [erS_map, List.length_map]
theorem erC_length (l : List Ca) : (erC l).length = l.length := by rw [erC_map, List.length_map]
theorem Ex.er_kind (x : Ex) : x.er.kind = x.kind := by cases x; rfl
theorem Ex.er_n (x : Ex) : x.er.n = x.n := by cases x; rfl
theorem Ex.er_name (x : Ex) : x.er.name = x.name := by cases x; rfl
theorem Ex.er_args (x : Ex) : x.er.args = erL x.args := by cases x; rfl
theorem St.er_kind (x : St) : x.er.kind = x.kind := by cases x; rfl
theorem St.er_n (x : St) : x.er.n = x.n := by cases x; rfl
theorem St.er_name (x : St) : x.er.name = x.name := by cases x; rfl
theorem St.er_a (x : St) : x.er.a = x.a.er := by cases x; rfl
theorem St.er_b (x : St) : x.er.b = x.b.er := by cases x; rfl
theorem St.er_body (x : St) : x.er.body = erS x.body := by cases x; rfl
theorem St.er_els (x : St) : x.er.els = erS x.els := by cases x; rfl
theorem St.er_cases (x : St) : x.er.cases = erC x.cases := by cases x; rfl
theorem Ca.er_n (x : Ca) : x.er.n = x.n := by cases x; rfl
theorem Ca.er_body (x : Ca) : x.er.body = erS x.body := by cases x; rfl
theorem zeroE_er (x : Ex) : zeroE x.er = zeroE x := by
  unfold zeroE
  rw [x.er_kind, x.er_n, x.er_name, x.er_args]
  congr 1
  cases x.args <;> rfl
theorem usesE_er (x : Ex) : usesE x.er = usesE x := by unfold usesE; rw [x.er_n, x.er_name]
theorem selfE_er (x : Ex) : selfE x.er = selfE x := by
  unfold selfE
  rw [usesE_er, x.er_kind, x.er_n, x.er_name, x.er_args, erL_length]
theorem chkE_er (k : Nat) : (∀ (x : Ex) (lv : Int), x.sz ≤ k → chkE x.er lv = chkE x lv) ∧ (∀ (l : List Ex) (lv : Int), szL l ≤ k → chkL (erL l) lv = chkL l lv) := by
  induction k with
  | zero =>
    refine ⟨fun x n hk => by have := x.sz_args; omega, fun l n hk => ?_⟩
    cases l with
    | nil => rfl
    | cons x r => rw [szL] at hk; have := x.sz_args; omega
  | succ k ih =>
    have h1 : ∀ (x : Ex) (lv : Int), x.sz ≤ k + 1 → chkE x.er lv = chkE x lv := fun x lv hk => by
      rw [chkE_eq, chkE_eq, selfE_er, x.er_args, ih.2 x.args (lv + 1) (by have := x.sz_args; omega)]
    refine ⟨h1, fun l => ?_⟩
    induction l with
    | nil => intro lv _; rfl
    | cons x r ihr =>
      intro lv hk
      rw [szL] at hk
      rw [erL, chkL, chkL, h1 x lv (by omega), ihr lv (by omega)]
theorem txE_er (k : Nat) : (∀ (x : Ex), x.sz ≤ k → txE x.er = txE x) := by
  induction k with
  | zero => intro x hk; have := x.sz_args; omega
  | succ k ih =>
    intro x hk
    rw [txE_eq, txE_eq x, x.er_kind, x.er_n, x.er_name, x.er_args, erL_map, List.map_map, List.map_map]
    congr 1
    · exact List.map_congr_left fun y _ => y.er_kind
    · exact List.map_congr_left fun y hy => ih y (by have := x.sz_args; have := szL_mem hy; omega)
theorem cntE_er (k : Nat) : (∀ (x : Ex) (n : Int), x.sz ≤ k → cntE x.er n = cntE x n) ∧ (∀ (l : List Ex) (n : Int), szL l ≤ k → cntL (erL l) n = cntL l n) := by
  induction k with
  | zero =>
    refine ⟨fun x n hk => by have := x.sz_args; omega, fun l n hk => ?_⟩
    cases l with
    | nil => rfl
    | cons x r => rw [szL] at hk; have := x.sz_args; omega
  | succ k ih =>
    have h1 : ∀ (x : Ex) (n : Int), x.sz ≤ k + 1 → cntE x.er n = cntE x n := fun x n hk => by
      rw [cntE_args, cntE_args, x.er_args, ih.2 x.args (n + 1) (by have := x.sz_args; omega)]
    refine ⟨h1, fun l => ?_⟩
    induction l with
    | nil => intro n _; rfl
    | cons x r ihr =>
      intro n hk
      rw [szL] at hk
      rw [erL, cntL, cntL, h1 x n (by omega), ihr _ (by omega)]
theorem cntZ_er (x : Ex) (n : Int) : cntZ x.er n = cntZ x n := by unfold cntZ; rw [zeroE_er, (cntE_er _).1 x n (Nat.le_refl _)]
theorem leastC_er (l : List Ca) : leastC (erC l) = leastC l := by
  unfold leastC
  rw [erC_map, List.any_map]
  congr 1
  funext c
  simp only [Function.comp, c.er_n]
theorem usesS_er (s : St) : usesS s.er = usesS s := by
  unfold usesS
  rw [s.er_name, s.er_n, s.er_a, s.er_b, s.er_body, s.er_els, s.er_cases, zeroE_er, zeroE_er, erS_length, erS_length, erC_length]
theorem selfS_er (s : St) : selfS s.er = selfS s := by
  unfold selfS
  rw [usesS_er, s.er_kind, s.er_name, s.er_n, s.er_a, s.er_cases, leastC_er, Ex.er_kind]
theorem chkS_er (s : St) (lv : Int) : chkS s.er lv = chkS s lv := by
  unfold chkS
  rw [selfS_er, s.er_kind, s.er_a, s.er_b, (chkE_er _).1 s.a _ (Nat.le_refl _), (chkE_er _).1 s.b _ (Nat.le_refl _)]
theorem chkT_eq2 (s : St) (lv at_ : Int) : chkT s lv at_ = if chkS s lv ≠ 0 then (chkS s lv, at_ + 1) else thenZ (chkSs s.body (lv + 1) (at_ + 1)) fun m => thenZ (chkCs s.cases (lv + 1) m) fun m => chkSs s.els (lv + 1) m := by
  cases s; simp only [chkT, St.body, St.cases, St.els]
theorem cntS_eq2 (s : St) (n : Int) : cntS s n = cntSs s.els (cntCs s.cases (cntSs s.body (cntZ s.b (cntZ s.a (n + (1 + (s.cases.length : Int))))))) := by
  cases s; simp only [cntS, St.els, St.cases, St.body, St.a, St.b]
theorem st_er (k : Nat) :
    (∀ (s : St), s.sz ≤ k → (∀ lv a, chkT s.er lv a = chkT s lv a) ∧ (∀ n, cntS s.er n = cntS s n) ∧ (∀ d, txS s.er d = txS s d)) ∧
    (∀ (l : List St), ssz l ≤ k → (∀ lv a, chkSs (erS l) lv a = chkSs l lv a) ∧ (∀ n, cntSs (erS l) n = cntSs l n) ∧ (∀ d, txSs (erS l) d = txSs l d)) ∧
    (∀ (l : List Ca), csz l ≤ k → (∀ lv a, chkCs (erC l) lv a = chkCs l lv a) ∧ (∀ n, cntCs (erC l) n = cntCs l n) ∧ (∀ d, txCs (erC l) d = txCs l d)) := by
  induction k with
  | zero =>
    refine ⟨fun s hk => by have := s.sz_eq; omega, fun l hk => ?_, fun l hk => ?_⟩
    · cases l with
      | nil => exact ⟨fun _ _ => rfl, fun _ => rfl, fun _ => rfl⟩
      | cons x r => rw [ssz] at hk; have := x.sz_eq; omega
    · cases l with
      | nil => exact ⟨fun _ _ => rfl, fun _ => rfl, fun _ => rfl⟩
      | cons x r => rw [csz] at hk; have := x.sz_eq; omega
  | succ k ih =>
    have h1 : ∀ (s : St), s.sz ≤ k + 1 → (∀ lv a, chkT s.er lv a = chkT s lv a) ∧ (∀ n, cntS s.er n = cntS s n) ∧ (∀ d, txS s.er d = txS s d) := fun s hk => by
      have hz := s.sz_eq
      obtain ⟨b1, b2, b3⟩ := ih.2.1 s.body (by omega)
      obtain ⟨e1, e2, e3⟩ := ih.2.1 s.els (by omega)
      obtain ⟨c1, c2, c3⟩ := ih.2.2 s.cases (by omega)
      refine ⟨fun lv a => ?_, fun n => ?_, fun d => ?_⟩
      · rw [chkT_eq2, chkT_eq2 s, chkS_er, s.er_body, s.er_els, s.er_cases]
        simp only [b1, c1, e1]
      · rw [cntS_eq2, cntS_eq2 s, s.er_body, s.er_els, s.er_cases, s.er_a, s.er_b, cntZ_er, cntZ_er, erC_length, b2, c2, e2]
      · rw [txS_eq, txS_eq s, s.er_kind, s.er_name, s.er_n, s.er_a, s.er_b, s.er_body, s.er_els, s.er_cases, erS_length, txE_er _ s.a (Nat.le_refl _), txE_er _ s.b (Nat.le_refl _), b3, c3, e3, e3]
    refine ⟨h1, fun l => ?_, fun l => ?_⟩
    · induction l with
      | nil => intro _; exact ⟨fun _ _ => rfl, fun _ => rfl, fun _ => rfl⟩
      | cons x r ihr =>
        intro hk
        rw [ssz] at hk
        obtain ⟨a1, a2, a3⟩ := h1 x (by omega)
        obtain ⟨b1, b2, b3⟩ := ihr (by omega)
        refine ⟨fun lv a => ?_, fun n => ?_, fun d => ?_⟩
        · rw [erS, chkSs, chkSs]; simp only [a1, b1]
        · rw [erS, cntSs, cntSs]; simp only [a2, b2]
        · rw [erS, txSs, txSs, a3, b3]
    · induction l with
      | nil => intro _; exact ⟨fun _ _ => rfl, fun _ => rfl, fun _ => rfl⟩
      | cons c r ihr =>
        intro hk
        rw [csz] at hk
        obtain ⟨a1, a2, a3⟩ := ih.2.1 c.body (by have := c.sz_eq; omega)
        obtain ⟨b1, b2, b3⟩ := ihr (by omega)
        refine ⟨fun lv a => ?_, fun n => ?_, fun d => ?_⟩
        · rw [erC, chkCs, chkCs, chkCa_eq, chkCa_eq, c.er_body]; simp only [a1, b1]
        · rw [erC, cntCs, cntCs, cntC_eq, cntC_eq, c.er_body]; simp only [a2, b2]
        · rw [erC, txCs, txCs, txC_eq', txC_eq' c, c.er_body, c.er_n, a3, b3]
theorem Fu.er_chk (f : Fu) : chkF f.er = chkF f := by
  have := ((st_er _).2.1 f.body (Nat.le_refl _)).1
  unfold chkF headZ
  show (if (if nameZ f.name = false then (8 : Int) else if 8 < f.params.length then 3 else parsZ f.params) ≠ 0 then ((if nameZ f.name = false then (8 : Int) else if 8 < f.params.length then 3 else parsZ f.params), 0) else chkSs (erS f.body) 1 0) = _
  rw [this]
theorem Fu.er_tx (f : Fu) : txF f.er = txF f := by
  have := ((st_er _).2.1 f.body (Nat.le_refl _)).2.2 1
  show lineB 0 ([102, 110, 32] ++ f.name.data.toList ++ [40] ++ comB (f.params.map paB) ++ [41, 32, 123]) ++ txSs (erS f.body) 1 ++ lineB 0 [125] = _
  rw [this]; rfl
theorem fs_er : ∀ (l : List Fu), (∀ i, chkFs (l.map Fu.er) i = chkFs l i) ∧ (∀ n, cntF (l.map Fu.er) n = cntF l n) ∧ txFs (l.map Fu.er) = txFs l
  | [] => ⟨fun _ => rfl, fun _ => rfl, rfl⟩
  | f :: r => by
    obtain ⟨b1, b2, b3⟩ := fs_er r
    refine ⟨fun i => ?_, fun n => ?_, ?_⟩
    · rw [List.map_cons, chkFs, chkFs, f.er_chk, b1]
    · rw [List.map_cons, cntF, cntF, b2]
      congr 1
      exact ((st_er _).2.1 f.body (Nat.le_refl _)).2.1 n
    · rw [List.map_cons, txFs, txFs, f.er_tx, b3]
theorem Pr.er_all (p : Pr) : checkZ p.er = checkZ p ∧ nodesZ p.er = nodesZ p ∧ txP p.er = txP p := by
  obtain ⟨b1, b2, b3⟩ := fs_er p.funcs
  have hn : nodesZ p.er = nodesZ p := by
    show min (cntF (p.funcs.map Fu.er) 0) 4097 = _
    rw [b2]; rfl
  refine ⟨?_, hn, ?_⟩
  · have hw : wholeZ p.er = wholeZ p := by
      have e1 : p.er.widen = p.widen := rfl
      have e2 : p.er.funcs.length = p.funcs.length := List.length_map ..
      unfold wholeZ
      rw [hn, e1, e2]
    unfold checkZ
    rw [hw]
    show (if wholeZ p ≠ 0 then _ else chkFs (p.funcs.map Fu.er) 0) = _
    rw [b1]
  · show txW p.widen ++ txFs (p.funcs.map Fu.er) = _
    rw [b3]; rfl
/-- Programs that are alike but for their addresses are answered alike. -/
theorem er_same {p q : Pr} (h : p.er = q.er) : checkZ p = checkZ q ∧ nodesZ p = nodesZ q ∧ prT p = prT q ∧ prF p = prF q := by
  obtain ⟨a1, a2, a3⟩ := p.er_all
  obtain ⟨b1, b2, b3⟩ := q.er_all
  have c1 : checkZ p = checkZ q := by rw [← a1, h, b1]
  have c2 : nodesZ p = nodesZ q := by rw [← a2, h, b2]
  have c3 : txP p = txP q := by rw [← a3, h, b3]
  refine ⟨c1, c2, ?_, ?_⟩
  · unfold prT; rw [c1, c3]
  · unfold prF; rw [c1, c3]
end Go.Proofs.YtbpemackmadhgabDoor

/- Does the room behind the lists of a copy read as it did? -/
namespace Go.Proofs.YtbpemackmadhgabDoor
open Go.RowKit Go.Sort

theorem RowCp.lt {W : World} {a : Option Addr} {c n B : Nat} {T : TypeId} {cs : List Value} (h : RowCp W a c n B T cs) : blk a < W.heap.size := by
  obtain ⟨g, rfl, _, _, h3⟩ := h
  exact (Array.getElem?_eq_some_iff.1 h3).1
theorem Ex.Cp.lt {W : World} : ∀ (k : Nat) (x : Ex), x.sz ≤ k → x.Cp W → ∀ b ∈ x.bl, b < W.heap.size := by
  intro k
  induction k with
  | zero => intro x hk; have := x.sz_args; omega
  | succ k ih =>
    intro x hk h b hb
    obtain ⟨_, _, _, h4, h5⟩ := Ex.cp_iff.1 h
    rw [x.bl_eq] at hb
    rcases List.mem_cons.1 hb with rfl | hb
    · exact h4.lt
    · rw [blL_map] at hb
      obtain ⟨y, hy, hb⟩ := List.mem_flatMap.1 hb
      exact ih y (by have := x.sz_args; have := szL_mem hy; omega) (h5 y hy) b hb
theorem Ex.Cp.stay {W W' : World} {x : Ex} (h : x.Cp W) (hb : Below W.heap.size W W') : x.Cp W' := h.kept fun b hx => hb.block b (Ex.Cp.lt _ x (Nat.le_refl _) h b hx)
theorem RowCp.stay {W W' : World} {a : Option Addr} {c n B : Nat} {T : TypeId} {cs : List Value} (h : RowCp W a c n B T cs) (hb : Below W.heap.size W W') : RowCp W' a c n B T cs := h.keep (hb.block _ h.lt)

set_option maxRecDepth 100000 in
set_option maxHeartbeats 4000000 in
theorem roomE_step (n : Nat) (ih : ∀ (l : List Ex) (a : Option Addr) (c : Nat) (w : World), szL l < n → RowCp w a c l.length 56 48 (l.flatMap Ex.cells ++ senE) → (∀ x ∈ l, x.Cp w) → Calls Tryd.prog 51 #[.slice a l.length c] w fun e w' => e = .returned (.bool true) ∧ Below w.heap.size w w')
    (l : List Ex) (a : Option Addr) (c : Nat) (w : World) (hk : szL l ≤ n) (hr : RowCp w a c l.length 56 48 (l.flatMap Ex.cells ++ senE)) (hc : ∀ x ∈ l, x.Cp w) : Calls Tryd.prog 51 #[.slice a l.length c] w fun e w' => e = .returned (.bool true) ∧ Below w.heap.size w w' := by
  have IH : Hid (∀ (l : List Ex) (a : Option Addr) (c : Nat) (w : World), szL l < n → RowCp w a c l.length 56 48 (l.flatMap Ex.cells ++ senE) → (∀ x ∈ l, x.Cp w) → Calls Tryd.prog 51 #[.slice a l.length c] w fun e w' => e = .returned (.bool true) ∧ Below w.heap.size w w') := ih
  have HK : Hid (szL l ≤ n) := hk
  have HC : Hid (∀ x ∈ l, x.Cp w) := hc
  have HRW : Hid (RowIn w a 4 (l.map Ex.cells)) := hr.row (k := 4) (fun _ => rfl)
  obtain ⟨g, rfl, rfl, hcb, hg⟩ := hr
  have hsen : w.cell? ⟨g, l.length * 4, none⟩ = some (.int .i64 (-77)) := by
    rw [Lib.cell_of_heap hg]
    show (l.flatMap Ex.cells ++ senE).toArray[l.length * 4]? = _
    have : (l.flatMap Ex.cells).length = l.length * 4 := flat_len (f := Ex.cells) (k := 4) (fun _ => rfl) l
    simp [← this, senE]
  have HSEN : Hid (w.cell? ⟨g, l.length * 4, none⟩ = some (.int .i64 (-77))) := hsen
  clear ih hk hc hg hsen
  go_enter Tryd.func51, Tryd.ntmps51
  go_wp2_with fail
  go_loopw [3] (fun t3 wr => ∃ (j : Nat), j ≤ l.length ∧ t3 = .int .i64 j ∧ Below w.heap.size w wr) (fun t3 _ => l.length - (intOf t3).toNat)
  case atStart => exact ⟨0, Nat.zero_le _, rfl, Below.refl _ w⟩
  case round =>
    obtain ⟨j, hj, rfl, hb⟩ := hrel
    have hws := hb.size
    by_cases hlt : j < l.length
    · have hli : (j : Int) < (l.length : Int) := by omega
      obtain ⟨b, o, hba, c0, c1, c2, c3⟩ := row_at (HRW.out.below hb) hlt
      obtain ⟨rfl, rfl⟩ : g = b ∧ 0 = o := by simpa using hba
      clear hba
      simp only [Nat.zero_add] at c0 c1 c2 c3
      have HQ : Hid (∀ w', Below w.heap.size w w' → Calls Tryd.prog 51 #[.slice l[j].a l[j].args.length l[j].cap] w' fun e w'' => e = .returned (.bool true) ∧ Below w'.heap.size w' w'') := fun w' h => by
        have h1 := szL_mem (List.getElem_mem hlt)
        have h2 := (l[j]).sz_args
        have h3 := HK.out
        have h4 := Ex.cp_iff.1 ((HC.out l[j] (List.getElem_mem hlt)).stay h)
        exact IH.out _ _ _ w' (by omega) h4.2.2.2.1 h4.2.2.2.2
      generalize l[j] = x at *
      go_wp2_with fail
      refine (HQ.out _ hb).mono ?_
      rintro e w' ⟨rfl, hb'⟩
      clear c0 c1 c2 c3
      go_wp2_with fail
      go_roundw
      case rel => exact ⟨j + 1, by omega, by go_num, Below.on hb hb'⟩
      case measure => simp [intOf]; omega
    · obtain rfl : j = l.length := by omega
      have hsn := (hb.cell (lt_of_cell HSEN.out)).trans HSEN.out
      go_wp2_with fail
      go_ret
      exact ⟨rfl, hb⟩
theorem roomE_k (n : Nat) : ∀ (l : List Ex) (a : Option Addr) (c : Nat) (w : World), szL l < n → RowCp w a c l.length 56 48 (l.flatMap Ex.cells ++ senE) → (∀ x ∈ l, x.Cp w) → Calls Tryd.prog 51 #[.slice a l.length c] w fun e w' => e = .returned (.bool true) ∧ Below w.heap.size w w' := by
  induction n with
  | zero => intro l a c w h; omega
  | succ n ih => exact fun l a c w h => roomE_step n ih l a c w (by omega)
theorem roomE_any (l : List Ex) (a : Option Addr) (c : Nat) (w : World) (hr : RowCp w a c l.length 56 48 (l.flatMap Ex.cells ++ senE)) (hc : ∀ x ∈ l, x.Cp w) : Calls Tryd.prog 51 #[.slice a l.length c] w fun e w' => e = .returned (.bool true) ∧ Below w.heap.size w w' := roomE_k (szL l + 1) l a c w (by omega) hr hc
end Go.Proofs.YtbpemackmadhgabDoor

/- Does the room behind the lists of a copy read as it did? Statements. -/
namespace Go.Proofs.YtbpemackmadhgabDoor
open Go.RowKit Go.Sort

theorem cp_lt {W : World} (k : Nat) : (∀ s : St, s.sz ≤ k → s.Cp W → ∀ b ∈ s.bl, b < W.heap.size) ∧ (∀ c : Ca, c.sz ≤ k → c.Cp W → ∀ b ∈ c.bl, b < W.heap.size) := by
  induction k with
  | zero => exact ⟨fun s h => by have := s.sz_eq; omega, fun c h => by have := c.sz_eq; omega⟩
  | succ k ih =>
    refine ⟨fun s hk h b hb => ?_, fun c hk h b hb => ?_⟩
    · obtain ⟨h1, h2, h3, h4, h5, h6, h7, h8, h9, h10, h11⟩ := St.cp_iff.1 h
      have := s.sz_eq
      rw [s.bl_eq] at hb
      rcases List.mem_append.1 hb with hb | hb
      · exact Ex.Cp.lt _ s.a (Nat.le_refl _) h4 b hb
      rcases List.mem_append.1 hb with hb | hb
      · exact Ex.Cp.lt _ s.b (Nat.le_refl _) h5 b hb
      rcases List.mem_append.1 hb with hb | hb
      · rcases List.mem_cons.1 hb with rfl | hb
        · exact h6.lt
        · rw [blS_map] at hb
          obtain ⟨x, hx, hb⟩ := List.mem_flatMap.1 hb
          exact ih.1 x (by have := ssz_mem hx; omega) (h9 x hx) b hb
      rcases List.mem_append.1 hb with hb | hb
      · rcases List.mem_cons.1 hb with rfl | hb
        · exact h7.lt
        · rw [blS_map] at hb
          obtain ⟨x, hx, hb⟩ := List.mem_flatMap.1 hb
          exact ih.1 x (by have := ssz_mem hx; omega) (h10 x hx) b hb
      rcases List.mem_cons.1 hb with rfl | hb
      · exact h8.lt
      · rw [blC_map] at hb
        obtain ⟨x, hx, hb⟩ := List.mem_flatMap.1 hb
        exact ih.2 x (by have := csz_mem hx; omega) (h11 x hx) b hb
    · obtain ⟨h1, h2, h3⟩ := Ca.cp_iff.1 h
      have := c.sz_eq
      rw [c.bl_eq] at hb
      rcases List.mem_cons.1 hb with rfl | hb
      · exact h2.lt
      · rw [blS_map] at hb
        obtain ⟨x, hx, hb⟩ := List.mem_flatMap.1 hb
        exact ih.1 x (by have := ssz_mem hx; omega) (h3 x hx) b hb
theorem St.Cp.stay {W W' : World} {s : St} (h : s.Cp W) (hb : Below W.heap.size W W') : s.Cp W' := h.kept fun b hx => hb.block b ((cp_lt _).1 s (Nat.le_refl _) h b hx)

abbrev RmOk (n : Nat) : Prop := ∀ (l : List St) (a : Option Addr) (c : Nat) (w : World), ssz l < n → RowCp w a c l.length 216 53 (l.flatMap St.cells ++ senS) → (∀ x ∈ l, x.Cp w) → Calls Tryd.prog 30 #[.slice a l.length c] w fun e w' => e = .returned (.bool true) ∧ Below w.heap.size w w'
set_option maxRecDepth 100000 in
set_option maxHeartbeats 8000000 in
theorem roomS_step (n : Nat) (ih : RmOk n) (l : List St) (a : Option Addr) (c : Nat) (w : World) (hk : ssz l ≤ n) (hr : RowCp w a c l.length 216 53 (l.flatMap St.cells ++ senS)) (hc : ∀ x ∈ l, x.Cp w) : Calls Tryd.prog 30 #[.slice a l.length c] w fun e w' => e = .returned (.bool true) ∧ Below w.heap.size w w' := by
  have IH : Hid (RmOk n) := ih
  have HK : Hid (ssz l ≤ n) := hk
  have HC : Hid (∀ x ∈ l, x.Cp w) := hc
  have HRW : Hid (RowIn w a 14 (l.map St.cells)) := hr.row (k := 14) (fun _ => rfl)
  obtain ⟨g, rfl, rfl, hcb, hg⟩ := hr
  have hsen : w.cell? ⟨g, l.length * 14, none⟩ = some (.int .i64 (-77)) := by
    rw [Lib.cell_of_heap hg]
    show (l.flatMap St.cells ++ senS).toArray[l.length * 14]? = _
    have : (l.flatMap St.cells).length = l.length * 14 := flat_len (f := St.cells) (k := 14) (fun _ => rfl) l
    simp [← this, senS]
  have HSEN : Hid (w.cell? ⟨g, l.length * 14, none⟩ = some (.int .i64 (-77))) := hsen
  clear ih hk hc hg hsen
  go_enter Tryd.func30, Tryd.ntmps30
  go_wp2_with fail
  go_loopw [3] (fun t3 wr => ∃ (j : Nat), j ≤ l.length ∧ t3 = .int .i64 j ∧ Below w.heap.size w wr) (fun t3 _ => l.length - (intOf t3).toNat)
  case atStart => exact ⟨0, Nat.zero_le _, rfl, Below.refl _ w⟩
  case round =>
    obtain ⟨j, hj, rfl, hb⟩ := hrel
    have hws := hb.size
    by_cases hlt : j < l.length
    · have hli : (j : Int) < (l.length : Int) := by omega
      obtain ⟨b, o, hba, hcell⟩ := rowS_at (HRW.out.below hb) hlt
      obtain ⟨rfl, rfl⟩ : g = b ∧ 0 = o := by simpa using hba
      clear hba
      have c0 := hcell 0 _ rfl
      have c1 := hcell 1 _ rfl
      have c2 := hcell 2 _ rfl
      have c3 := hcell 3 _ rfl
      have c4 := hcell 4 _ rfl
      have c5 := hcell 5 _ rfl
      have c6 := hcell 6 _ rfl
      have c7 := hcell 7 _ rfl
      have c8 := hcell 8 _ rfl
      have c9 := hcell 9 _ rfl
      have c10 := hcell 10 _ rfl
      have c11 := hcell 11 _ rfl
      have c12 := hcell 12 _ rfl
      have c13 := hcell 13 _ rfl
      simp only [Nat.zero_add, Nat.add_zero] at c0 c1 c2 c3 c4 c5 c6 c7 c8 c9 c10 c11 c12 c13
      clear hcell
      have XC : Hid (∀ w', Below w.heap.size w w' → l[j].Cp w') := fun w' h => (HC.out l[j] (List.getElem_mem hlt)).stay h
      have HZ : Hid (l[j].sz ≤ n) := Nat.le_trans (ssz_mem (List.getElem_mem hlt)) HK.out
      generalize l[j] = s at *
      have HE1 : Hid (∀ w', Below w.heap.size w w' → Calls Tryd.prog 51 #[.slice s.a.a s.a.args.length s.a.cap] w' fun e w'' => e = .returned (.bool true) ∧ Below w'.heap.size w' w'') := fun w' h => by
        have h4 := Ex.cp_iff.1 (St.cp_iff.1 (XC.out w' h)).2.2.2.1
        exact roomE_any _ _ _ w' h4.2.2.2.1 h4.2.2.2.2
      have HE2 : Hid (∀ w', Below w.heap.size w w' → Calls Tryd.prog 51 #[.slice s.b.a s.b.args.length s.b.cap] w' fun e w'' => e = .returned (.bool true) ∧ Below w'.heap.size w' w'') := fun w' h => by
        have h4 := Ex.cp_iff.1 (St.cp_iff.1 (XC.out w' h)).2.2.2.2.1
        exact roomE_any _ _ _ w' h4.2.2.2.1 h4.2.2.2.2
      have HB1 : Hid (∀ w', Below w.heap.size w w' → Calls Tryd.prog 30 #[.slice s.ba s.body.length s.bc] w' fun e w'' => e = .returned (.bool true) ∧ Below w'.heap.size w' w'') := fun w' h => by
        have h4 := St.cp_iff.1 (XC.out w' h)
        exact IH.out _ _ _ w' (by have := HZ.out; have := s.sz_eq; omega) h4.2.2.2.2.2.1 h4.2.2.2.2.2.2.2.2.1
      have HB2 : Hid (∀ w', Below w.heap.size w w' → Calls Tryd.prog 30 #[.slice s.ea s.els.length s.ec] w' fun e w'' => e = .returned (.bool true) ∧ Below w'.heap.size w' w'') := fun w' h => by
        have h4 := St.cp_iff.1 (XC.out w' h)
        exact IH.out _ _ _ w' (by have := HZ.out; have := s.sz_eq; omega) h4.2.2.2.2.2.2.1 h4.2.2.2.2.2.2.2.2.2.1
      obtain ⟨W1, hW1⟩ : ∃ W1, wr.alloc (.cells #[.int .i64 s.kind, .string s.name, .int .i64 s.n, .int .i64 s.a.kind, .int .i64 s.a.n, .string s.a.name, .slice s.a.a s.a.args.length s.a.cap, .int .i64 s.b.kind, .int .i64 s.b.n, .string s.b.name, .slice s.b.a s.b.args.length s.b.cap, .slice s.ba s.body.length s.bc, .slice s.ea s.els.length s.ec, .slice s.ca s.cases.length s.cc] 53) = W1 := ⟨_, rfl⟩
      have hb1 : Below wr.heap.size wr W1 := by rw [← hW1]; exact (Below.refl _ _).alloc (Nat.le_refl _) _
      have hbk : W1.heap[wr.heap.size]? = some (.cells (⟨s.cells⟩ : Array Value) 53 (0, 0)) := by rw [← hW1]; exact heap_alloc_new wr _
      obtain ⟨X, hX⟩ : ∃ X, wr.heap.size = X := ⟨_, rfl⟩
      have CX : Hid (∀ w', Below W1.heap.size W1 w' → ∀ (i : Nat) v, s.cells[i]? = some v → w'.cell? ⟨X, i, none⟩ = some v) := fun w' h i v e => seen (by rw [← hX, Lib.cell_of_heap hbk]; simpa using e) w' h
      have BW1 : Hid (Below w.heap.size w W1) := Below.on hb hb1
      have BWR : Hid (Below w.heap.size w wr) := hb
      have HW1 := show Hid _ from hW1
      have HX := show Hid _ from hX
      clear hW1 hb1 hbk hX
      go_wp2_with fail
      rw [HW1.out, HX.out]
      clear HW1 c0 c1 c2 c3 c4 c5 c6 c7 c8 c9 c10 c11 c12 c13
      refine (HE1.out _ BW1.out).mono ?_
      rintro e w2 ⟨rfl, hb2⟩
      have c10 := CX.out _ hb2 10 _ rfl
      go_wp2_with fail
      refine (HE2.out _ (Below.on BW1.out hb2)).mono ?_
      rintro e w3 ⟨rfl, hb3⟩
      have hb3' := Below.on hb2 hb3
      clear hb2 hb3 c10
      have c11 := CX.out _ hb3' 11 _ rfl
      go_wp2_with fail
      refine (HB1.out _ (Below.on BW1.out hb3')).mono ?_
      rintro e w4 ⟨rfl, hb4⟩
      have hb4' := Below.on hb3' hb4
      clear hb3' hb4 c11
      have c12 := CX.out _ hb4' 12 _ rfl
      go_wp2_with fail
      refine (HB2.out _ (Below.on BW1.out hb4')).mono ?_
      rintro e w5 ⟨rfl, hb5⟩
      have hb5' := Below.on hb4' hb5
      clear hb4' hb5 c12
      obtain ⟨hcl, hcc2⟩ : s.cases.length ≤ s.cc ∧ s.cc * 32 ≤ 140737488351232 := by
        obtain ⟨g', _, e1, e2, _⟩ := (St.cp_iff.1 (XC.out w (Below.refl _ _))).2.2.2.2.2.2.2.1
        exact ⟨by omega, e2⟩
      go_wp2_with fail
      go_loopw [5] (fun t5 wr => ∃ (i : Nat), i ≤ s.cases.length ∧ t5 = .int .i64 i ∧ Below W1.heap.size W1 wr) (fun t5 _ => s.cases.length - (intOf t5).toNat)
      case atStart => exact ⟨0, Nat.zero_le _, rfl, hb5'⟩
      case round =>
        clear hb5' hb hws
        obtain ⟨i, hi, rfl, hb⟩ := hrel
        have c13 := CX.out _ hb 13 _ rfl
        have hbw := Below.on BW1.out hb
        by_cases hilt : i < s.cases.length
        · have hili : (i : Int) < (s.cases.length : Int) := by omega
          have h8 := (St.cp_iff.1 (XC.out _ hbw)).2.2.2.2.2.2.2.1
          obtain ⟨rb, ro, hca, hcell⟩ := rowC_cells (h8.row (k := 2) (fun _ => rfl)) hilt
          have d0 := hcell 0 _ rfl
          have d1 := hcell 1 _ rfl
          simp only [← Nat.add_assoc, Nat.add_zero] at d0 d1
          rw [hca] at c13
          clear h8 hca hcell
          have HQ : Hid (∀ w', Below w.heap.size w w' → Calls Tryd.prog 30 #[.slice s.cases[i].ba s.cases[i].body.length s.cases[i].bc] w' fun e w'' => e = .returned (.bool true) ∧ Below w'.heap.size w' w'') := fun w' h => by
            have h4 := Ca.cp_iff.1 ((St.cp_iff.1 (XC.out w' h)).2.2.2.2.2.2.2.2.2.2 _ (List.getElem_mem hilt))
            have h1 := csz_mem (List.getElem_mem hilt)
            have h2 := (s.cases[i]).sz_eq
            have h3 := s.sz_eq
            exact IH.out _ _ _ w' (by have := HZ.out; omega) h4.2.1 h4.2.2
          generalize s.cases[i] = y at *
          go_wp2_with fail
          refine (HQ.out _ hbw).mono ?_
          rintro e w6 ⟨rfl, hb6⟩
          clear c13 d0 d1
          go_wp2_with fail
          go_roundw
          case rel => exact ⟨i + 1, by omega, by go_num, Below.on hb hb6⟩
          case measure => simp [intOf]; omega
        · obtain rfl : i = s.cases.length := by omega
          obtain ⟨g', hca, hcc, _, hg'⟩ := (St.cp_iff.1 (XC.out _ hbw)).2.2.2.2.2.2.2.1
          have d0 : wr.cell? ⟨g', s.cases.length * 2, none⟩ = some (.int .i64 (-77)) := by
            rw [Lib.cell_of_heap hg']
            show (s.cases.flatMap Ca.cells ++ senC).toArray[s.cases.length * 2]? = _
            have : (s.cases.flatMap Ca.cells).length = s.cases.length * 2 := flat_len (f := Ca.cells) (k := 2) (fun _ => rfl) s.cases
            simp [← this, senC]
          rw [hca, hcc] at c13
          clear hca hg'
          go_wp2_with fail
          go_roundw
          case rel => exact ⟨j + 1, by omega, by go_num, hbw⟩
          case measure => simp [intOf]; omega
    · obtain rfl : j = l.length := by omega
      have hsn := (hb.cell (lt_of_cell HSEN.out)).trans HSEN.out
      go_wp2_with fail
      go_ret
      exact ⟨rfl, hb⟩
theorem roomS_k (n : Nat) : RmOk n := by
  induction n with
  | zero => intro l a c w h; omega
  | succ n ih => exact fun l a c w h => roomS_step n ih l a c w (by omega)
theorem roomS_any (l : List St) (a : Option Addr) (c : Nat) (w : World) (hr : RowCp w a c l.length 216 53 (l.flatMap St.cells ++ senS)) (hc : ∀ x ∈ l, x.Cp w) : Calls Tryd.prog 30 #[.slice a l.length c] w fun e w' => e = .returned (.bool true) ∧ Below w.heap.size w w' := roomS_k (ssz l + 1) l a c w (by omega) hr hc
end Go.Proofs.YtbpemackmadhgabDoor

/- Copies are written over: expressions. What turns is the copy's alone. -/
namespace Go.Proofs.YtbpemackmadhgabDoor
open Go.RowKit Go.Sort

/-- Of what was there only these blocks have turned. -/
def Only (S : List Nat) (W W' : World) : Prop := W'.os = W.os ∧ W'.tape = W.tape ∧ W'.output = W.output ∧ W.heap.size ≤ W'.heap.size ∧ ∀ k, k < W.heap.size → k ∉ S → W'.heap[k]? = W.heap[k]?
theorem Only.refl (S : List Nat) (W : World) : Only S W W := ⟨rfl, rfl, rfl, Nat.le_refl _, fun _ _ _ => rfl⟩
theorem Only.trans {S : List Nat} {A B C : World} (h : Only S A B) (k : Only S B C) : Only S A C := ⟨k.1.trans h.1, k.2.1.trans h.2.1, k.2.2.1.trans h.2.2.1, Nat.le_trans h.2.2.2.1 k.2.2.2.1, fun i h1 h2 => (k.2.2.2.2 i (Nat.lt_of_lt_of_le h1 h.2.2.2.1) h2).trans (h.2.2.2.2 i h1 h2)⟩
theorem Only.mono {S S' : List Nat} {A B : World} (h : Only S A B) (hs : ∀ k ∈ S, k ∈ S') : Only S' A B := ⟨h.1, h.2.1, h.2.2.1, h.2.2.2.1, fun i h1 h2 => h.2.2.2.2 i h1 (fun e => h2 (hs i e))⟩
theorem Only.of_below {S : List Nat} {A B : World} (h : Below A.heap.size A B) : Only S A B := ⟨h.os, h.tape, h.output, h.size, fun i h1 _ => h.block i h1⟩
theorem Only.set {S : List Nat} {A B : World} (h : Only S A B) {g : Nat} (hg : g ∈ S) (i : Nat) (v : Value) : Only S A (B.setCell ⟨g, i, none⟩ v) := h.trans ⟨rfl, rfl, rfl, by simp [World.setCell], fun k _ h2 => Below.heap_setCell _ _ _ _ (fun e => h2 (e ▸ hg))⟩
theorem Only.below {S : List Nat} {A B : World} {N : Nat} (h : Only S A B) (hs : ∀ k ∈ S, N ≤ k) (hN : N ≤ A.heap.size) : Below N A B := ⟨h.1, h.2.1, h.2.2.1, h.2.2.2.1, fun k hk => h.2.2.2.2 k (by omega) (fun e => by have := hs k e; omega)⟩

/-- From the element j on a row of expressions is as it was. -/
def Tail (W : World) (g : Nat) (l : List Ex) (j : Nat) : Prop := ∃ cs : List Value, W.heap[g]? = some (.cells ⟨cs⟩ 48 (0, 0)) ∧ ∀ i, j * 4 ≤ i → cs[i]? = (l.flatMap Ex.cells ++ senE)[i]?

theorem Tail.set {W : World} {g : Nat} {l : List Ex} {j : Nat} (h : Tail W g l j) {i : Nat} (hi : i < j * 4) (v : Value) : Tail (W.setCell ⟨g, i, none⟩ v) g l j := by
  obtain ⟨cs, h1, h2⟩ := h
  refine ⟨cs.set i v, ?_, fun k hk => by rw [List.getElem?_set_ne (by omega)]; exact h2 k hk⟩
  simp [World.setCell, Array.getElem?_modify, h1]
theorem heap_set4 (W : World) {g b : Nat} (h : b ≠ g) (i0 i1 i2 i3 : Nat) (v0 v1 v2 v3 : Value) : ((((W.setCell ⟨g, i0, none⟩ v0).setCell ⟨g, i1, none⟩ v1).setCell ⟨g, i2, none⟩ v2).setCell ⟨g, i3, none⟩ v3).heap[b]? = W.heap[b]? := by
  rw [Below.heap_setCell _ _ _ _ h, Below.heap_setCell _ _ _ _ h, Below.heap_setCell _ _ _ _ h, Below.heap_setCell _ _ _ _ h]
theorem nd_parts {g : Nat} {l : List Ex} (h : (g :: blL l).Nodup) {j : Nat} (hj : j < l.length) : g ∉ l[j].bl ∧ l[j].bl.Nodup ∧ (∀ y ∈ l.drop (j + 1), ∀ b ∈ y.bl, b ∉ l[j].bl ∧ b ≠ g) ∧ (∀ b ∈ l[j].bl, b ∈ blL l) := by
  have hm : ∀ x ∈ l, ∀ b ∈ x.bl, b ∈ blL l := fun x hx b hb => by rw [blL_map]; exact List.mem_flatMap.2 ⟨x, hx, hb⟩
  obtain ⟨h1, h2⟩ := List.nodup_cons.1 h
  have e : l = l.take j ++ l[j] :: l.drop (j + 1) := by rw [← List.drop_eq_getElem_cons hj, List.take_append_drop]
  have h3 : (blL (l.take j) ++ (l[j].bl ++ blL (l.drop (j + 1)))).Nodup := by
    have : blL l = blL (l.take j) ++ (l[j].bl ++ blL (l.drop (j + 1))) := by
      conv => lhs; rw [e]
      simp only [blL_map, List.flatMap_append, List.flatMap_cons]
    rw [← this]; exact h2
  have h4 := (List.nodup_append.1 h3).2.1
  obtain ⟨h5, _, h6⟩ := List.nodup_append.1 h4
  refine ⟨fun hb => h1 (hm _ (List.getElem_mem hj) g hb), h5, fun y hy b hb => ⟨fun hx => ?_, fun hg => ?_⟩, hm _ (List.getElem_mem hj)⟩
  · exact h6 b hx b (by rw [blL_map]; exact List.mem_flatMap.2 ⟨y, hy, hb⟩) rfl
  · exact h1 (hg ▸ hm y (List.mem_of_mem_drop hy) b hb)

set_option maxRecDepth 100000 in
set_option maxHeartbeats 4000000 in
theorem spoilE_step (n : Nat) (ih : ∀ (l : List Ex) (a : Option Addr) (c : Nat) (w : World), szL l < n → RowCp w a c l.length 56 48 (l.flatMap Ex.cells ++ senE) → (∀ x ∈ l, x.Cp w) → (blk a :: blL l).Nodup → Calls Tryd.prog 52 #[.slice a l.length c] w fun e w' => e = .returned (.tuple #[]) ∧ Only (blk a :: blL l) w w')
    (l : List Ex) (a : Option Addr) (c : Nat) (w : World) (hk : szL l ≤ n) (hr : RowCp w a c l.length 56 48 (l.flatMap Ex.cells ++ senE)) (hc : ∀ x ∈ l, x.Cp w) (hnd : (blk a :: blL l).Nodup) : Calls Tryd.prog 52 #[.slice a l.length c] w fun e w' => e = .returned (.tuple #[]) ∧ Only (blk a :: blL l) w w' := by
  have IH : Hid (∀ (l : List Ex) (a : Option Addr) (c : Nat) (w : World), szL l < n → RowCp w a c l.length 56 48 (l.flatMap Ex.cells ++ senE) → (∀ x ∈ l, x.Cp w) → (blk a :: blL l).Nodup → Calls Tryd.prog 52 #[.slice a l.length c] w fun e w' => e = .returned (.tuple #[]) ∧ Only (blk a :: blL l) w w') := ih
  have HK : Hid (szL l ≤ n) := hk
  have HC : Hid (∀ x ∈ l, x.Cp w) := hc
  have HND : Hid ((blk a :: blL l).Nodup) := hnd
  obtain ⟨g, rfl, rfl, hcb, hg⟩ := hr
  have HG : Hid (Tail w g l 0) := ⟨_, hg, fun i _ => rfl⟩
  clear ih hk hc hnd hg
  go_enter Tryd.func52, Tryd.ntmps52
  go_wp2_with fail
  go_loopw [2] (fun t2 wr => ∃ (j : Nat), j ≤ l.length ∧ t2 = .int .i64 j ∧ Tail wr g l j ∧ (∀ x ∈ l.drop j, x.Cp wr) ∧ Only (g :: blL l) w wr) (fun t2 _ => l.length - (intOf t2).toNat)
  case atStart => exact ⟨0, Nat.zero_le _, rfl, HG.out, by simpa using HC.out, Only.refl _ w⟩
  case round =>
    obtain ⟨j, hj, rfl, htl, hcp, hon⟩ := hrel
    by_cases hlt : j < l.length
    · have hli : (j : Int) < (l.length : Int) := by omega
      obtain ⟨cs, hgr, hcs⟩ := htl
      have hcell : ∀ (i : Nat) v, l[j].cells[i]? = some v → wr.cell? ⟨g, j * 4 + i, none⟩ = some v := fun i v e => by
        rw [Lib.cell_of_heap hgr]
        have hi : i < 4 := (List.getElem?_eq_some_iff.1 e).1
        have := flatC_at (f := Ex.cells) (k := 4) (fun _ => rfl) senE l j l[j] i (List.getElem?_eq_getElem hlt) hi
        show cs.toArray[j * 4 + i]? = _
        rw [List.getElem?_toArray, hcs _ (by omega), this, e]
      have c0 := hcell 0 _ rfl
      have c1 := hcell 1 _ rfl
      have c2 := hcell 2 _ rfl
      have c3 := hcell 3 _ rfl
      simp only [Nat.add_zero] at c0
      obtain ⟨n1, n2, n3, n4⟩ := nd_parts (show (g :: blL l).Nodup from HND.out) hlt
      have hdr : l.drop j = l[j] :: l.drop (j + 1) := List.drop_eq_getElem_cons hlt
      have HQ : Hid (Calls Tryd.prog 52 #[.slice l[j].a l[j].args.length l[j].cap] wr fun e w'' => e = .returned (.tuple #[]) ∧ Only l[j].bl wr w'') := by
        have h1 := szL_mem (List.getElem_mem hlt)
        have h2 := (l[j]).sz_args
        have h3 := HK.out
        have h4 := Ex.cp_iff.1 (hcp l[j] (by rw [hdr]; exact List.mem_cons_self))
        have := IH.out l[j].args l[j].a l[j].cap wr (by omega) h4.2.2.2.1 h4.2.2.2.2 (by rw [← Ex.bl_eq]; exact n2)
        rw [← Ex.bl_eq] at this
        exact this
      have N1 := show Hid _ from n1
      have N3 := show Hid _ from n3
      have N4 := show Hid _ from n4
      have HCP : Hid (∀ y ∈ l.drop (j + 1), y.Cp wr) := fun y hy => hcp y (by rw [hdr]; exact List.mem_cons_of_mem _ hy)
      have HON : Hid _ := hon
      have HGR : Hid _ := hgr
      have HCS : Hid _ := hcs
      have hsz : (j + 1) * 4 ≤ cs.length := by
        have h1 := hcs (j * 4 + 3) (by omega)
        have h2 := flatC_at (f := Ex.cells) (k := 4) (fun _ => rfl) senE l j l[j] 3 (List.getElem?_eq_getElem hlt) (by omega)
        rw [h2] at h1
        have := (List.getElem?_eq_some_iff.1 h1).1
        omega
      clear n1 n2 n3 n4 hdr hcp hon hgr hcs hcell
      generalize l[j] = x at *
      go_wp2_with fail
      refine HQ.out.mono ?_
      rintro e w' ⟨rfl, ho⟩
      have hg' : w'.heap[g]? = some (.cells ⟨cs⟩ 48 (0, 0)) := (ho.2.2.2.2 g (Array.getElem?_eq_some_iff.1 HGR.out).1 N1.out).trans HGR.out
      clear c0 c1 c2 c3
      have hcc : ∀ i : Nat, i < 4 → ∃ v, w'.cell? ⟨g, j * 4 + i, none⟩ = some v := fun i hi => ⟨cs[j * 4 + i]'(by omega), by
        rw [Lib.cell_of_heap hg']
        show cs.toArray[j * 4 + i]? = _
        rw [List.getElem?_toArray, List.getElem?_eq_getElem]⟩
      obtain ⟨v0, d0⟩ := hcc 0 (by omega)
      obtain ⟨v1, d1⟩ := hcc 1 (by omega)
      obtain ⟨v2, d2⟩ := hcc 2 (by omega)
      obtain ⟨v3, d3⟩ := hcc 3 (by omega)
      have q0 : w'.frozen? ⟨g, j * 4, none⟩ = false := Lib.frozen_of_heap hg' _
      have q1 : w'.frozen? ⟨g, j * 4 + 1, none⟩ = false := Lib.frozen_of_heap hg' _
      have q2 : w'.frozen? ⟨g, j * 4 + 2, none⟩ = false := Lib.frozen_of_heap hg' _
      have q3 : w'.frozen? ⟨g, j * 4 + 3, none⟩ = false := Lib.frozen_of_heap hg' _
      simp only [Nat.add_zero] at d0
      have HG' : Hid (Tail w' g l (j + 1)) := ⟨cs, hg', fun i hi => HCS.out i (by omega)⟩
      have HO : Hid (Only x.bl wr w') := ho
      clear hcc hg' ho
      go_wp2_with fail
      go_roundw
      case rel =>
        refine ⟨j + 1, by omega, by go_num, (((HG'.out.set (by omega) _).set (by omega) _).set (by omega) _).set (by omega) _, fun y hy => ?_, ((((Only.trans HON.out (HO.out.mono fun k hk => List.mem_cons_of_mem _ (N4.out k hk))).set List.mem_cons_self _ _).set List.mem_cons_self _ _).set List.mem_cons_self _ _).set List.mem_cons_self _ _⟩
        have hy' := HCP.out y hy
        refine hy'.kept fun b hb => ?_
        rw [heap_set4 w' (N3.out y hy b hb).2]
        exact HO.out.2.2.2.2 b (Ex.Cp.lt _ y (Nat.le_refl _) hy' b hb) (N3.out y hy b hb).1
      case measure => simp [intOf]; omega
    · obtain rfl : j = l.length := by omega
      go_wp2_with fail
      go_end0
      exact ⟨rfl, hon⟩
theorem spoilE_k (n : Nat) : ∀ (l : List Ex) (a : Option Addr) (c : Nat) (w : World), szL l < n → RowCp w a c l.length 56 48 (l.flatMap Ex.cells ++ senE) → (∀ x ∈ l, x.Cp w) → (blk a :: blL l).Nodup → Calls Tryd.prog 52 #[.slice a l.length c] w fun e w' => e = .returned (.tuple #[]) ∧ Only (blk a :: blL l) w w' := by
  induction n with
  | zero => intro l a c w h; omega
  | succ n ih => exact fun l a c w h => spoilE_step n ih l a c w (by omega)
theorem spoilE_any (x : Ex) (w : World) (h : x.Cp w) (hn : x.bl.Nodup) : Calls Tryd.prog 52 #[.slice x.a x.args.length x.cap] w fun e w' => e = .returned (.tuple #[]) ∧ Only x.bl w w' := by
  have h4 := Ex.cp_iff.1 h
  have := spoilE_k (szL x.args + 1) x.args x.a x.cap w (by omega) h4.2.2.2.1 h4.2.2.2.2 (by rw [← Ex.bl_eq]; exact hn)
  rw [← Ex.bl_eq] at this
  exact this
end Go.Proofs.YtbpemackmadhgabDoor

/- Copies are written over: tools for statements. -/
namespace Go.Proofs.YtbpemackmadhgabDoor
open Go.RowKit Go.Sort

/-- From the cell m on a block is as it was. -/
def TailF (W : World) (g : Nat) (T : TypeId) (c0 : List Value) (m : Nat) : Prop := ∃ cs : List Value, W.heap[g]? = some (.cells ⟨cs⟩ T (0, 0)) ∧ cs.length = c0.length ∧ ∀ i, m ≤ i → cs[i]? = c0[i]?
theorem TailF.set {W : World} {g : Nat} {T : TypeId} {c0 : List Value} {m : Nat} (h : TailF W g T c0 m) {i : Nat} (hi : i < m) (v : Value) : TailF (W.setCell ⟨g, i, none⟩ v) g T c0 m := by
  obtain ⟨cs, h1, h0, h2⟩ := h
  refine ⟨cs.set i v, ?_, by simpa using h0, fun k hk => by rw [List.getElem?_set_ne (by omega)]; exact h2 k hk⟩
  simp [World.setCell, Array.getElem?_modify, h1]
theorem TailF.mono {W : World} {g : Nat} {T : TypeId} {c0 : List Value} {m m' : Nat} (h : TailF W g T c0 m) (hm : m ≤ m') : TailF W g T c0 m' := by
  obtain ⟨cs, h1, h0, h2⟩ := h
  exact ⟨cs, h1, h0, fun i hi => h2 i (by omega)⟩
theorem TailF.keep {W W' : World} {g : Nat} {T : TypeId} {c0 : List Value} {m : Nat} {S : List Nat} (h : TailF W g T c0 m) (ho : Only S W W') (hg : g ∉ S) : TailF W' g T c0 m := by
  obtain ⟨cs, h1, h0, h2⟩ := h
  exact ⟨cs, (ho.2.2.2.2 g (Array.getElem?_eq_some_iff.1 h1).1 hg).trans h1, h0, h2⟩
theorem TailF.frozen {W : World} {g : Nat} {T : TypeId} {c0 : List Value} {m : Nat} (h : TailF W g T c0 m) (i : Nat) : W.frozen? ⟨g, i, none⟩ = false := by
  obtain ⟨cs, h1, _⟩ := h
  exact Lib.frozen_of_heap h1 _
theorem TailF.cell {α : Type} {f : α → List Value} {k : Nat} (hf : ∀ x, (f x).length = k) {r : List Value} {W : World} {g : Nat} {T : TypeId} {l : List α} {j : Nat} (h : TailF W g T (l.flatMap f ++ r) (j * k)) {x : α} (hj : l[j]? = some x) {i : Nat} {v : Value} (e : (f x)[i]? = some v) : W.cell? ⟨g, j * k + i, none⟩ = some v := by
  obtain ⟨cs, h1, _, h2⟩ := h
  rw [Lib.cell_of_heap h1]
  have hi : i < k := by rw [← hf x]; exact (List.getElem?_eq_some_iff.1 e).1
  show cs.toArray[j * k + i]? = _
  rw [List.getElem?_toArray, h2 _ (by omega), flatC_at hf r l j x i hj hi, e]
theorem nd_any {α : Type} {bl : α → List Nat} {g : Nat} {l : List α} (h : (g :: l.flatMap bl).Nodup) {j : Nat} (hj : j < l.length) : g ∉ bl l[j] ∧ (bl l[j]).Nodup ∧ (∀ y ∈ l.drop (j + 1), ∀ b ∈ bl y, b ∉ bl l[j] ∧ b ≠ g) ∧ (∀ b ∈ bl l[j], b ∈ l.flatMap bl) := by
  have hm : ∀ x ∈ l, ∀ b ∈ bl x, b ∈ l.flatMap bl := fun x hx b hb => List.mem_flatMap.2 ⟨x, hx, hb⟩
  obtain ⟨h1, h2⟩ := List.nodup_cons.1 h
  have e : l = l.take j ++ l[j] :: l.drop (j + 1) := by rw [← List.drop_eq_getElem_cons hj, List.take_append_drop]
  have h3 : ((l.take j).flatMap bl ++ (bl l[j] ++ (l.drop (j + 1)).flatMap bl)).Nodup := by
    have : l.flatMap bl = (l.take j).flatMap bl ++ (bl l[j] ++ (l.drop (j + 1)).flatMap bl) := by
      conv => lhs; rw [e]
      simp only [List.flatMap_append, List.flatMap_cons]
    rw [← this]; exact h2
  have h4 := (List.nodup_append.1 h3).2.1
  obtain ⟨h5, _, h6⟩ := List.nodup_append.1 h4
  refine ⟨fun hb => h1 (hm _ (List.getElem_mem hj) g hb), h5, fun y hy b hb => ⟨fun hx => ?_, fun hg => ?_⟩, hm _ (List.getElem_mem hj)⟩
  · exact h6 b hx b (List.mem_flatMap.2 ⟨y, hy, hb⟩) rfl
  · exact h1 (hg ▸ hm y (List.mem_of_mem_drop hy) b hb)
theorem Ex.Cp.only {W W' : World} {S : List Nat} {x : Ex} (h : x.Cp W) (ho : Only S W W') (hd : ∀ b ∈ x.bl, b ∉ S) : x.Cp W' := h.kept fun b hb => ho.2.2.2.2 b (Ex.Cp.lt _ x (Nat.le_refl _) h b hb) (hd b hb)
theorem St.Cp.only {W W' : World} {S : List Nat} {x : St} (h : x.Cp W) (ho : Only S W W') (hd : ∀ b ∈ x.bl, b ∉ S) : x.Cp W' := h.kept fun b hb => ho.2.2.2.2 b ((cp_lt _).1 x (Nat.le_refl _) h b hb) (hd b hb)
theorem Ca.Cp.only {W W' : World} {S : List Nat} {x : Ca} (h : x.Cp W) (ho : Only S W W') (hd : ∀ b ∈ x.bl, b ∉ S) : x.Cp W' := h.kept fun b hb => ho.2.2.2.2 b ((cp_lt _).2 x (Nat.le_refl _) h b hb) (hd b hb)
theorem RowCp.only {W W' : World} {S : List Nat} {a : Option Addr} {c n B : Nat} {T : TypeId} {cs : List Value} (h : RowCp W a c n B T cs) (ho : Only S W W') (hd : blk a ∉ S) : RowCp W' a c n B T cs := h.keep (ho.2.2.2.2 _ h.lt hd)
theorem Only.app {S S' : List Nat} {A B C : World} (h : Only S A B) (k : Only S' B C) : Only (S ++ S') A C := (h.mono fun _ e => List.mem_append_left _ e).trans (k.mono fun _ e => List.mem_append_right _ e)
/-- A list's part of what a statement has: its rows and what they have. -/
theorem nd_five {A B C D E : List Nat} (h : (A ++ (B ++ (C ++ (D ++ E)))).Nodup) : A.Nodup ∧ B.Nodup ∧ C.Nodup ∧ D.Nodup ∧ E.Nodup ∧ (∀ b ∈ B, b ∉ A) ∧ (∀ b ∈ C, b ∉ A ++ B) ∧ (∀ b ∈ D, b ∉ A ++ B ++ C) ∧ (∀ b ∈ E, b ∉ A ++ B ++ C ++ D) := by
  simp only [List.nodup_append, List.mem_append] at h ⊢
  obtain ⟨a, ⟨b, ⟨c, ⟨d, e, de⟩, cd⟩, bc⟩, ab⟩ := h
  refine ⟨a, b, c, d, e, fun x hx hy => ab x hy x (.inl hx) rfl, fun x hx hy => ?_, fun x hx hy => ?_, fun x hx hy => ?_⟩
  · rcases hy with hy | hy
    · exact ab x hy x (.inr (.inl hx)) rfl
    · exact bc x hy x (.inl hx) rfl
  · rcases hy with (hy | hy) | hy
    · exact ab x hy x (.inr (.inr (.inl hx))) rfl
    · exact bc x hy x (.inr (.inl hx)) rfl
    · exact cd x hy x (.inl hx) rfl
  · rcases hy with ((hy | hy) | hy) | hy
    · exact ab x hy x (.inr (.inr (.inr hx))) rfl
    · exact bc x hy x (.inr (.inr hx)) rfl
    · exact cd x hy x (.inr hx) rfl
    · exact de x hy x hx rfl
end Go.Proofs.YtbpemackmadhgabDoor

/- Copies are written over: statements. -/
namespace Go.Proofs.YtbpemackmadhgabDoor
open Go.RowKit Go.Sort

abbrev SpOk (n : Nat) : Prop := ∀ (l : List St) (a : Option Addr) (c : Nat) (w : World), ssz l < n → RowCp w a c l.length 216 53 (l.flatMap St.cells ++ senS) → (∀ x ∈ l, x.Cp w) → (blk a :: blS l).Nodup → Calls Tryd.prog 31 #[.slice a l.length c] w fun e w' => e = .returned (.tuple #[]) ∧ Only (blk a :: blS l) w w'
set_option maxRecDepth 100000 in
set_option maxHeartbeats 8000000 in
theorem spoilS_step (n : Nat) (ih : SpOk n) (l : List St) (a : Option Addr) (c : Nat) (w : World) (hk : ssz l ≤ n) (hr : RowCp w a c l.length 216 53 (l.flatMap St.cells ++ senS)) (hc : ∀ x ∈ l, x.Cp w) (hnd : (blk a :: blS l).Nodup) : Calls Tryd.prog 31 #[.slice a l.length c] w fun e w' => e = .returned (.tuple #[]) ∧ Only (blk a :: blS l) w w' := by
  have IH : Hid (SpOk n) := ih
  have HK : Hid (ssz l ≤ n) := hk
  have HC : Hid (∀ x ∈ l, x.Cp w) := hc
  obtain ⟨g, rfl, rfl, hcb, hg⟩ := hr
  have HND : Hid ((g :: l.flatMap St.bl).Nodup) := by rw [← blS_map]; exact hnd
  have HG : Hid (TailF w g 53 (l.flatMap St.cells ++ senS) (0 * 14)) := ⟨_, hg, rfl, fun i _ => rfl⟩
  clear ih hk hc hnd hg
  go_enter Tryd.func31, Tryd.ntmps31
  go_wp2_with fail
  go_loopw [2] (fun t wr => ∃ (j : Nat), j ≤ l.length ∧ t = .int .i64 j ∧ TailF wr g 53 (l.flatMap St.cells ++ senS) (j * 14) ∧ (∀ x ∈ l.drop j, x.Cp wr) ∧ Only (g :: blS l) w wr) (fun t _ => l.length - (intOf t).toNat)
  case atStart => exact ⟨0, Nat.zero_le _, rfl, HG.out, by simpa using HC.out, Only.refl _ w⟩
  case round =>
    obtain ⟨j, hj, rfl, htl, hcp, hon⟩ := hrel
    by_cases hlt : j < l.length
    · have hli : (j : Int) < (l.length : Int) := by omega
      obtain ⟨n1, n2, n3, n4⟩ := nd_any HND.out hlt
      have hdr : l.drop j = l[j] :: l.drop (j + 1) := List.drop_eq_getElem_cons hlt
      have hxc : l[j].Cp wr := hcp l[j] (by rw [hdr]; exact List.mem_cons_self)
      have HXJ : Hid (l[j]? = some l[j]) := List.getElem?_eq_getElem hlt
      have HZ : Hid (l[j].sz ≤ n) := Nat.le_trans (ssz_mem (List.getElem_mem hlt)) HK.out
      have N1 : Hid (g ∉ l[j].bl) := n1
      have N3 : Hid (∀ y ∈ l.drop (j + 1), ∀ b ∈ y.bl, b ∉ l[j].bl ∧ b ≠ g) := n3
      have N4 : Hid (∀ b ∈ l[j].bl, b ∈ blS l) := by rw [blS_map]; exact n4
      have HCP : Hid (∀ y ∈ l.drop (j + 1), y.Cp wr) := fun y hy => hcp y (by rw [hdr]; exact List.mem_cons_of_mem _ hy)
      have HON : Hid (Only (g :: blS l) w wr) := hon
      have HTL : Hid (TailF wr g 53 (l.flatMap St.cells ++ senS) (j * 14)) := htl
      clear n1 n3 n4 hdr hcp hon htl
      generalize l[j] = s at *
      have CX : Hid (∀ w', Only s.bl wr w' → ∀ (i : Nat) v, s.cells[i]? = some v → w'.cell? ⟨g, j * 14 + i, none⟩ = some v) := fun w' h i v e => (HTL.out.keep h N1.out).cell (f := St.cells) (fun _ => rfl) HXJ.out e
      rw [St.bl_eq] at n2
      obtain ⟨nA, nB, nC, nD, nE, dB, dC, dD, dE⟩ := nd_five n2
      obtain ⟨_, _, _, x4, x5, x6, x7, x8, x9, x10, x11⟩ := St.cp_iff.1 hxc
      have mA : ∀ b ∈ s.a.bl, b ∈ s.bl := fun b hb => by rw [St.bl_eq]; simp only [List.mem_append]; exact .inl hb
      have mB : ∀ b ∈ s.a.bl ++ s.b.bl, b ∈ s.bl := fun b hb => by rw [St.bl_eq]; simp only [List.mem_append] at hb ⊢; rcases hb with h | h <;> simp only [h, true_or, or_true]
      have mC : ∀ b ∈ s.a.bl ++ s.b.bl ++ (blk s.ba :: blS s.body), b ∈ s.bl := fun b hb => by rw [St.bl_eq]; simp only [List.mem_append] at hb ⊢; rcases hb with (h | h) | h <;> simp only [h, true_or, or_true]
      have mD : ∀ b ∈ s.a.bl ++ s.b.bl ++ (blk s.ba :: blS s.body) ++ (blk s.ea :: blS s.els), b ∈ s.bl := fun b hb => by rw [St.bl_eq]; simp only [List.mem_append] at hb ⊢; rcases hb with ((h | h) | h) | h <;> simp only [h, true_or, or_true]
      have mE : ∀ b ∈ (blk s.ca :: s.cases.flatMap Ca.bl), b ∈ s.bl := fun b hb => by rw [← blC_map] at hb; rw [St.bl_eq]; simp only [List.mem_append]; exact .inr (.inr (.inr (.inr hb)))
      have MA := show Hid _ from mA
      have MB := show Hid _ from mB
      have MC := show Hid _ from mC
      have MD := show Hid _ from mD
      have ME := show Hid _ from mE
      have HE1 : Hid (Calls Tryd.prog 52 #[.slice s.a.a s.a.args.length s.a.cap] wr fun e w'' => e = .returned (.tuple #[]) ∧ Only s.a.bl wr w'') := spoilE_any _ _ x4 nA
      have HE2 : Hid (∀ w', Only s.a.bl wr w' → Calls Tryd.prog 52 #[.slice s.b.a s.b.args.length s.b.cap] w' fun e w'' => e = .returned (.tuple #[]) ∧ Only s.b.bl w' w'') := fun w' h => spoilE_any _ _ (x5.only h dB) nB
      have HB1 : Hid (∀ w', Only (s.a.bl ++ s.b.bl) wr w' → Calls Tryd.prog 31 #[.slice s.ba s.body.length s.bc] w' fun e w'' => e = .returned (.tuple #[]) ∧ Only (blk s.ba :: blS s.body) w' w'') := fun w' h =>
        IH.out _ _ _ w' (by have := HZ.out; have := s.sz_eq; omega) (x6.only h (dC _ List.mem_cons_self)) (fun y hy => (x9 y hy).only h fun b hb => dC b (List.mem_cons_of_mem _ (by rw [blS_map]; exact List.mem_flatMap.2 ⟨y, hy, hb⟩))) nC
      have HB2 : Hid (∀ w', Only (s.a.bl ++ s.b.bl ++ (blk s.ba :: blS s.body)) wr w' → Calls Tryd.prog 31 #[.slice s.ea s.els.length s.ec] w' fun e w'' => e = .returned (.tuple #[]) ∧ Only (blk s.ea :: blS s.els) w' w'') := fun w' h =>
        IH.out _ _ _ w' (by have := HZ.out; have := s.sz_eq; omega) (x7.only h (dD _ List.mem_cons_self)) (fun y hy => (x10 y hy).only h fun b hb => dD b (List.mem_cons_of_mem _ (by rw [blS_map]; exact List.mem_flatMap.2 ⟨y, hy, hb⟩))) nD
      have X8 : Hid (∀ w', Only (s.a.bl ++ s.b.bl ++ (blk s.ba :: blS s.body) ++ (blk s.ea :: blS s.els)) wr w' → RowCp w' s.ca s.cc s.cases.length 32 59 (s.cases.flatMap Ca.cells ++ senC) ∧ ∀ y ∈ s.cases, y.Cp w') := fun w' h =>
        ⟨x8.only h (dE _ List.mem_cons_self), fun y hy => (x11 y hy).only h fun b hb => dE b (List.mem_cons_of_mem _ (by rw [blC_map]; exact List.mem_flatMap.2 ⟨y, hy, hb⟩))⟩
      have NE : Hid ((blk s.ca :: s.cases.flatMap Ca.bl).Nodup) := by rw [← blC_map]; exact nE
      clear nA nB nC nD nE dB dC dD dE x4 x5 x6 x7 x8 x9 x10 x11 n2 hxc mA mB mC mD mE
      have c6 := CX.out wr (Only.refl _ _) 6 _ rfl
      go_wp2_with fail
      refine HE1.out.mono ?_
      rintro e w1 ⟨rfl, o1⟩
      clear c6
      have c10 := CX.out w1 (o1.mono MA.out) 10 _ rfl
      go_wp2_with fail
      refine (HE2.out _ o1).mono ?_
      rintro e w2 ⟨rfl, o2'⟩
      have o2 := o1.app o2'
      clear c10 o1 o2'
      have c11 := CX.out w2 (o2.mono MB.out) 11 _ rfl
      go_wp2_with fail
      refine (HB1.out _ o2).mono ?_
      rintro e w3 ⟨rfl, o3'⟩
      have o3 := o2.app o3'
      clear c11 o2 o3'
      have c12 := CX.out w3 (o3.mono MC.out) 12 _ rfl
      go_wp2_with fail
      refine (HB2.out _ o3).mono ?_
      rintro e w4 ⟨rfl, o4'⟩
      have o4 := o3.app o4'
      clear c12 o3 o4'
      obtain ⟨hr8, hc8⟩ := X8.out w4 o4
      obtain ⟨gc, hca, hcc, hcb8, hg8⟩ := hr8
      have HCA : Hid (s.ca = some ⟨gc, 0, none⟩ ∧ s.cc = s.cases.length + 1) := ⟨hca, hcc⟩
      have HC8 : Hid (∀ y ∈ s.cases, y.Cp w4) := hc8
      have HT8 : Hid (TailF w4 gc 59 (s.cases.flatMap Ca.cells ++ senC) (0 * 2)) := ⟨_, hg8, rfl, fun i _ => rfl⟩
      have O4 : Hid (Only s.bl wr w4) := o4.mono MD.out
      have NE' : Hid ((gc :: s.cases.flatMap Ca.bl).Nodup) := by have := NE.out; rw [hca] at this; exact this
      have ME' : Hid (∀ b ∈ gc :: s.cases.flatMap Ca.bl, b ∈ s.bl) := by have := ME.out; rw [hca] at this; exact this
      have hcl : s.cases.length + 1 ≤ s.cc := by omega
      clear hca hcc hc8 hg8 o4
      go_wp2_with fail
      generalize wr = WR at *
      go_loopw [3] (fun t wq => ∃ (i : Nat), i ≤ s.cases.length ∧ t = .int .i64 i ∧ TailF wq gc 59 (s.cases.flatMap Ca.cells ++ senC) (i * 2) ∧ (∀ y ∈ s.cases.drop i, y.Cp wq) ∧ Only s.bl WR wq) (fun t _ => s.cases.length - (intOf t).toNat)
      case atStart => exact ⟨0, Nat.zero_le _, rfl, HT8.out, by simpa using HC8.out, O4.out⟩
      case round =>
        obtain ⟨i, hi, rfl, htl, hcp, hon⟩ := hrel
        have c13 := CX.out _ hon 13 _ rfl
        by_cases hilt : i < s.cases.length
        · have hili : (i : Int) < (s.cases.length : Int) := by omega
          obtain ⟨n1, n2, n3, n4⟩ := nd_any NE'.out hilt
          have hdr : s.cases.drop i = s.cases[i] :: s.cases.drop (i + 1) := List.drop_eq_getElem_cons hilt
          have hyc : s.cases[i].Cp wr := hcp s.cases[i] (by rw [hdr]; exact List.mem_cons_self)
          have hyz := csz_mem (List.getElem_mem hilt)
          have hyj : s.cases[i]? = some s.cases[i] := List.getElem?_eq_getElem hilt
          have HYJ := show Hid _ from hyj
          have HON2 : Hid (Only s.bl WR wr) := hon
          have HCP2 : Hid (∀ y ∈ s.cases.drop (i + 1), y.Cp wr) := fun y hy => hcp y (by rw [hdr]; exact List.mem_cons_of_mem _ hy)
          have HTL2 : Hid (TailF wr gc 59 (s.cases.flatMap Ca.cells ++ senC) (i * 2)) := htl
          have M1 : Hid (gc ∉ s.cases[i].bl) := n1
          have M3 : Hid (∀ y ∈ s.cases.drop (i + 1), ∀ b ∈ y.bl, b ∉ s.cases[i].bl ∧ b ≠ gc) := n3
          have M4 : Hid (∀ b ∈ s.cases[i].bl, b ∈ s.bl) := fun b hb => ME'.out b (List.mem_cons_of_mem _ (n4 b hb))
          have MG : Hid (gc ∈ s.bl) := ME'.out gc List.mem_cons_self
          clear n1 n3 n4 hdr hcp hon htl hyj
          rw [HCA.out.1, HCA.out.2] at c13
          have d1 := HTL2.out.cell (f := Ca.cells) (fun _ => rfl) HYJ.out (i := 1) rfl
          generalize s.cases[i] = y at *
          have HQ : Hid (Calls Tryd.prog 31 #[.slice y.ba y.body.length y.bc] wr fun e w'' => e = .returned (.tuple #[]) ∧ Only y.bl wr w'') := by
            have h4 := Ca.cp_iff.1 hyc
            have h2 := y.sz_eq
            have h3 := s.sz_eq
            have := IH.out _ _ _ wr (by have := HZ.out; omega) h4.2.1 h4.2.2 (by rw [← Ca.bl_eq]; exact n2)
            rw [← Ca.bl_eq] at this
            exact this
          clear n2 hyc hyz
          go_wp2_with fail
          refine HQ.out.mono ?_
          rintro e w6 ⟨rfl, o6⟩
          clear c13 d1
          have c13 := CX.out _ (HON2.out.trans (o6.mono M4.out)) 13 _ rfl
          rw [HCA.out.1, HCA.out.2] at c13
          have ht6 := HTL2.out.keep o6 M1.out
          have d0 := ht6.cell (f := Ca.cells) (fun _ => rfl) HYJ.out (i := 0) rfl
          have d1 := ht6.cell (f := Ca.cells) (fun _ => rfl) HYJ.out (i := 1) rfl
          have q0 := ht6.frozen (i * 2)
          have q1 := ht6.frozen (i * 2 + 1)
          simp only [Nat.add_zero] at d0
          have HT6 : Hid (TailF w6 gc 59 (s.cases.flatMap Ca.cells ++ senC) ((i + 1) * 2)) := ht6.mono (by omega)
          have O6 : Hid (Only y.bl wr w6) := o6
          clear ht6 o6
          go_wp2_with fail
          go_roundw
          case rel =>
            refine ⟨i + 1, by omega, by go_num, (HT6.out.set (by omega) _).set (by omega) _, fun z hz => ?_, ((HON2.out.trans (O6.out.mono M4.out)).set MG.out _ _).set MG.out _ _⟩
            have hz' := HCP2.out z hz
            refine hz'.kept fun b hb => ?_
            have hne := (M3.out z hz b hb).2
            rw [Below.heap_setCell _ _ _ _ hne, Below.heap_setCell _ _ _ _ hne]
            exact O6.out.2.2.2.2 b ((cp_lt _).2 z (Nat.le_refl _) hz' b hb) (M3.out z hz b hb).1
          case measure => simp [intOf]; omega
        · obtain rfl : i = s.cases.length := by omega
          have ht := HTL.out.keep hon N1.out
          have d0 := ht.cell (f := St.cells) (fun _ => rfl) HXJ.out (i := 0) rfl
          have q0 := ht.frozen (j * 14)
          have d1 := ht.cell (f := St.cells) (fun _ => rfl) HXJ.out (i := 1) rfl
          have q1 := ht.frozen (j * 14 + 1)
          have d2 := ht.cell (f := St.cells) (fun _ => rfl) HXJ.out (i := 2) rfl
          have q2 := ht.frozen (j * 14 + 2)
          have d3 := ht.cell (f := St.cells) (fun _ => rfl) HXJ.out (i := 3) rfl
          have q3 := ht.frozen (j * 14 + 3)
          have d4 := ht.cell (f := St.cells) (fun _ => rfl) HXJ.out (i := 4) rfl
          have q4 := ht.frozen (j * 14 + 4)
          have d5 := ht.cell (f := St.cells) (fun _ => rfl) HXJ.out (i := 5) rfl
          have q5 := ht.frozen (j * 14 + 5)
          have d6 := ht.cell (f := St.cells) (fun _ => rfl) HXJ.out (i := 6) rfl
          have q6 := ht.frozen (j * 14 + 6)
          have d7 := ht.cell (f := St.cells) (fun _ => rfl) HXJ.out (i := 7) rfl
          have q7 := ht.frozen (j * 14 + 7)
          have d8 := ht.cell (f := St.cells) (fun _ => rfl) HXJ.out (i := 8) rfl
          have q8 := ht.frozen (j * 14 + 8)
          have d9 := ht.cell (f := St.cells) (fun _ => rfl) HXJ.out (i := 9) rfl
          have q9 := ht.frozen (j * 14 + 9)
          have d10 := ht.cell (f := St.cells) (fun _ => rfl) HXJ.out (i := 10) rfl
          have q10 := ht.frozen (j * 14 + 10)
          have d11 := ht.cell (f := St.cells) (fun _ => rfl) HXJ.out (i := 11) rfl
          have q11 := ht.frozen (j * 14 + 11)
          have d12 := ht.cell (f := St.cells) (fun _ => rfl) HXJ.out (i := 12) rfl
          have q12 := ht.frozen (j * 14 + 12)
          have d13 := ht.cell (f := St.cells) (fun _ => rfl) HXJ.out (i := 13) rfl
          have q13 := ht.frozen (j * 14 + 13)
          simp only [Nat.add_zero] at d0
          have HT6 : Hid (TailF wr g 53 (l.flatMap St.cells ++ senS) ((j + 1) * 14)) := ht.mono (by omega)
          have O6 : Hid (Only s.bl WR wr) := hon
          clear ht hon hcp htl
          go_wp2_with fail
          go_roundw
          case rel =>
            refine ⟨j + 1, by omega, by go_num, ((((((((((((((HT6.out.set (by omega) _).set (by omega) _).set (by omega) _).set (by omega) _).set (by omega) _).set (by omega) _).set (by omega) _).set (by omega) _).set (by omega) _).set (by omega) _).set (by omega) _).set (by omega) _).set (by omega) _).set (by omega) _), fun z hz => ?_, ((((((((((((((((HON.out.trans (O6.out.mono fun k hk => List.mem_cons_of_mem _ (N4.out k hk)))).set List.mem_cons_self _ _).set List.mem_cons_self _ _).set List.mem_cons_self _ _).set List.mem_cons_self _ _).set List.mem_cons_self _ _).set List.mem_cons_self _ _).set List.mem_cons_self _ _).set List.mem_cons_self _ _).set List.mem_cons_self _ _).set List.mem_cons_self _ _).set List.mem_cons_self _ _).set List.mem_cons_self _ _).set List.mem_cons_self _ _).set List.mem_cons_self _ _)⟩
            have hz' := HCP.out z hz
            refine hz'.kept fun b hb => ?_
            have hne := (N3.out z hz b hb).2
            rw [Below.heap_setCell _ _ _ _ hne, Below.heap_setCell _ _ _ _ hne, Below.heap_setCell _ _ _ _ hne, Below.heap_setCell _ _ _ _ hne, Below.heap_setCell _ _ _ _ hne, Below.heap_setCell _ _ _ _ hne, Below.heap_setCell _ _ _ _ hne, Below.heap_setCell _ _ _ _ hne, Below.heap_setCell _ _ _ _ hne, Below.heap_setCell _ _ _ _ hne, Below.heap_setCell _ _ _ _ hne, Below.heap_setCell _ _ _ _ hne, Below.heap_setCell _ _ _ _ hne, Below.heap_setCell _ _ _ _ hne]
            exact O6.out.2.2.2.2 b ((cp_lt _).1 z (Nat.le_refl _) hz' b hb) (N3.out z hz b hb).1
          case measure => simp [intOf]; omega
    · obtain rfl : j = l.length := by omega
      go_wp2_with fail
      go_end0
      exact ⟨rfl, by rw [show blk (some ⟨g, 0, none⟩) = g from rfl]; exact hon⟩
theorem spoilS_k (n : Nat) : SpOk n := by
  induction n with
  | zero => intro l a c w h; omega
  | succ n ih => exact fun l a c w h => spoilS_step n ih l a c w (by omega)
theorem spoilS_any (l : List St) (a : Option Addr) (c : Nat) (w : World) (hr : RowCp w a c l.length 216 53 (l.flatMap St.cells ++ senS)) (hc : ∀ x ∈ l, x.Cp w) (hn : (blk a :: blS l).Nodup) : Calls Tryd.prog 31 #[.slice a l.length c] w fun e w' => e = .returned (.tuple #[]) ∧ Only (blk a :: blS l) w w' := spoilS_k (ssz l + 1) l a c w (by omega) hr hc hn
end Go.Proofs.YtbpemackmadhgabDoor

/- Does the room behind all lists of a copy read as it did? -/
namespace Go.Proofs.YtbpemackmadhgabDoor
open Go.RowKit Go.Sort

theorem Fu.Cp.lt {W : World} {f : Fu} (h : f.Cp W) : ∀ b ∈ f.bl, b < W.heap.size := by
  obtain ⟨_, h2, _, h4, h5⟩ := h
  intro b hb
  unfold Fu.bl at hb
  rcases List.mem_cons.1 hb with rfl | hb
  · exact h2.lt
  rcases List.mem_cons.1 hb with rfl | hb
  · exact h4.lt
  rw [blS_map] at hb
  obtain ⟨x, hx, hb⟩ := List.mem_flatMap.1 hb
  exact (cp_lt _).1 x (Nat.le_refl _) (h5 x hx) b hb
theorem Fu.Cp.stay {W W' : World} {f : Fu} (h : f.Cp W) (hb : Below W.heap.size W W') : f.Cp W' := h.kept fun b hx => hb.block b (h.lt b hx)
theorem RowCp.behind {α : Type} {f : α → List Value} {k : Nat} (hf : ∀ x, (f x).length = k) {W : World} {a : Option Addr} {c B : Nat} {T : TypeId} {l : List α} {r : List Value} (h : RowCp W a c l.length B T (l.flatMap f ++ r)) : ∃ g, a = some ⟨g, 0, none⟩ ∧ c = l.length + 1 ∧ c * B ≤ 140737488351232 ∧ ∀ (i : Nat) v, r[i]? = some v → W.cell? ⟨g, l.length * k + i, none⟩ = some v := by
  obtain ⟨g, h1, h2, h3, h4⟩ := h
  refine ⟨g, h1, h2, h3, fun i v e => ?_⟩
  rw [Lib.cell_of_heap h4]
  show (l.flatMap f ++ r).toArray[l.length * k + i]? = _
  have : (l.flatMap f).length = l.length * k := flat_len hf l
  rw [List.getElem?_toArray, List.getElem?_append_right (by omega), this, show l.length * k + i - l.length * k = i by omega, e]

set_option maxRecDepth 100000 in
set_option maxHeartbeats 1200000 in
theorem room_any (p : Pr) (w : World) (h : p.Cp w) : Calls Tryd.prog 15 #[p.val] w fun e w' => e = .returned (.bool true) ∧ Below w.heap.size w w' := by
  obtain ⟨h1, h2, h3, h4⟩ := h
  have HR : Hid (RowIn w p.fa 3 (List.map Fu.cells p.funcs)) := h3.row (k := 3) (fun _ => rfl)
  have HS : Hid (∀ f ∈ p.funcs, f.Cp w) := h4
  obtain ⟨gw, ew, lw, bw, cw⟩ := h1.behind (k := 1) (fun _ => rfl)
  obtain ⟨gf, ef, lf, bf, cf⟩ := h3.behind (k := 3) (fun _ => rfl)
  have cw0 := cw 0 _ rfl
  have cf0 := cf 0 _ rfl
  have cf1 := cf 1 _ rfl
  have cf2 := cf 2 _ rfl
  simp only [Nat.add_zero, Nat.mul_one] at cw0 cf0
  have CW0 := show Hid _ from cw0
  have CF0 := show Hid _ from cf0
  clear h1 h2 h3 h4 cw cf cw0 cf0 cf1 cf2
  unfold Pr.val
  rw [ew, ef, lw, lf]
  rw [ef] at HR
  obtain ⟨W1, hW1⟩ : ∃ W1, w.alloc (.cells #[.slice (some ⟨gw, 0, none⟩) p.widen.length (p.widen.length + 1), .slice (some ⟨gf, 0, none⟩) p.funcs.length (p.funcs.length + 1)] 25) = W1 := ⟨_, rfl⟩
  have HW1 := show Hid _ from hW1
  have hb1 : Below w.heap.size w W1 := by rw [← hW1]; exact (Below.refl _ w).alloc (Nat.le_refl _) _
  have hc : ∀ (j : Nat) v, (#[.slice (some ⟨gw, 0, none⟩) p.widen.length (p.widen.length + 1), .slice (some ⟨gf, 0, none⟩) p.funcs.length (p.funcs.length + 1)] : Array Value)[j]? = some v → ∀ w', Below W1.heap.size W1 w' → w'.cell? ⟨w.heap.size, j, none⟩ = some v := fun j v e w' h => by
    refine (h.cell (p := ⟨w.heap.size, j, none⟩) (by rw [← hW1]; simp)).trans ?_
    rw [← hW1, World.cell?_alloc_at _ _ _ _ rfl]; exact e
  have CX := show Hid _ from hc 1 _ rfl
  have CW := show Hid _ from hc 0 _ rfl
  have HB1 : Hid (Below w.heap.size w W1) := hb1
  rw [lw] at bw
  rw [lf] at bf
  clear hW1 hc hb1 ew ef lw lf
  go_enter Tryd.func15, Tryd.ntmps15
  go_wp2_with fail
  rw [HW1.out]
  clear HW1
  obtain ⟨Z, hZ⟩ : ∃ Z, w.heap.size = Z := ⟨_, rfl⟩
  have HW : Hid (w.heap.size = Z) := hZ
  rw [hZ] at CX CW ⊢
  clear hZ
  go_loopw [3] (fun t wr => ∃ (j : Nat), j ≤ p.funcs.length ∧ t = .int .i64 j ∧ Below W1.heap.size W1 wr) (fun t _ => p.funcs.length - (intOf t).toNat)
  case atStart => exact ⟨0, Nat.zero_le _, rfl, Below.refl _ _⟩
  case round =>
    obtain ⟨j, hj, rfl, hb⟩ := hrel
    have hws := hb.size
    have hbw : Below w.heap.size w wr := Below.on HB1.out hb
    have c1 := CX.out _ hb
    by_cases hlt : j < p.funcs.length
    · have hli : (j : Int) < (p.funcs.length : Int) := by omega
      obtain ⟨b, o, hfa, d0, d1, d2⟩ := rowF_at (HR.out.below hbw) hlt
      obtain ⟨rfl, rfl⟩ : gf = b ∧ 0 = o := by simpa using hfa
      clear hfa
      simp only [Nat.zero_add] at d0 d1 d2
      have hfc := (HS.out p.funcs[j] (List.getElem_mem hlt)).stay hbw
      generalize p.funcs[j] = f at *
      obtain ⟨f1, f2, f3, f4, f5⟩ := hfc
      obtain ⟨gp, ep, lp, bp, cp⟩ := f2.behind (k := 3) (fun _ => rfl)
      have HB : Hid (∀ w', Below wr.heap.size wr w' → Calls Tryd.prog 30 #[.slice f.ba f.body.length f.bc] w' fun e w'' => e = .returned (.bool true) ∧ Below w'.heap.size w' w'') := fun w' h => roomS_any _ _ _ w' (f4.stay h) fun x hx => (f5 x hx).stay h
      have e0 := cp 0 _ rfl
      have e1 := cp 1 _ rfl
      have e2 := cp 2 _ rfl
      simp only [Nat.add_zero] at e0
      rw [ep, lp] at d1
      rw [lp] at bp
      clear cp ep lp f2 f3 f4 f5
      have HBR : Hid (Below W1.heap.size W1 wr) := hb
      have hlp := lt_of_cell e0
      go_wp2_with fail
      refine (HB.out _ ?_).mono ?_
      · exact (Below.refl _ _).alloc (Nat.le_refl _) _
      rintro e w' ⟨rfl, hb'⟩
      have HB' : Hid (Below W1.heap.size W1 w') := Below.on HBR.out (Below.on ((Below.refl _ _).alloc (Nat.le_refl _) _) hb')
      clear hb' hb c1 d0 d1 d2 e0 e1 e2
      go_wp2_with fail
      go_roundw
      case rel => exact ⟨j + 1, by omega, by go_num, HB'.out⟩
      case measure => simp [intOf]; omega
    · obtain rfl : j = p.funcs.length := by omega
      have c0 := CW.out _ hb
      have x0 := (hbw.cell (lt_of_cell CW0.out)).trans CW0.out
      have x1 := (hbw.cell (lt_of_cell CF0.out)).trans CF0.out
      go_wp2_with fail
      go_ret
      exact ⟨rfl, hbw⟩
end Go.Proofs.YtbpemackmadhgabDoor

/- A copy is written over. -/
namespace Go.Proofs.YtbpemackmadhgabDoor
open Go.RowKit Go.Sort

theorem Fu.Cp.only {W W' : World} {S : List Nat} {x : Fu} (h : x.Cp W) (ho : Only S W W') (hd : ∀ b ∈ x.bl, b ∉ S) : x.Cp W' := h.kept fun b hb => ho.2.2.2.2 b (h.lt b hb) (hd b hb)
theorem Only.cell {S : List Nat} {W W' : World} (h : Only S W W') {Z i : Nat} {v : Value} (hz : Z ∉ S) (e : W.cell? ⟨Z, i, none⟩ = some v) : W'.cell? ⟨Z, i, none⟩ = some v := by
  rw [← e]
  unfold World.cell?
  rw [show W'.heap[Z]? = W.heap[Z]? from h.2.2.2.2 Z (lt_of_cell e) hz]

set_option maxRecDepth 100000 in
set_option maxHeartbeats 1200000 in
theorem spoil_any (p : Pr) (w : World) (h : p.Cp w) (hn : p.bl.Nodup) : Calls Tryd.prog 16 #[p.val] w fun e w' => e = .returned (.tuple #[]) ∧ Only p.bl w w' := by
  obtain ⟨h1, h2, h3, h4⟩ := h
  have l1 := h1.lt
  have l2 := h3.lt
  obtain ⟨gw, ew, lw, bw, cw⟩ := h1
  obtain ⟨gf, ef, lf, bf, cf⟩ := h3
  have hbl : p.bl = gw :: gf :: p.funcs.flatMap Fu.bl := by unfold Pr.bl; rw [ew, ef]; rfl
  have hblt : ∀ b ∈ p.bl, b < w.heap.size := by
    intro b hb
    rw [hbl] at hb
    rw [ew] at l1
    rw [ef] at l2
    rcases List.mem_cons.1 hb with rfl | hb
    · exact l1
    rcases List.mem_cons.1 hb with rfl | hb
    · exact l2
    obtain ⟨f, hf, hb⟩ := List.mem_flatMap.1 hb
    exact (h4 f hf).lt b hb
  have HBL := show Hid _ from hbl
  have HLT := show Hid _ from hblt
  have HN : Hid ((gw :: gf :: p.funcs.flatMap Fu.bl).Nodup) := by rw [← hbl]; exact hn
  unfold Pr.val
  rw [ew, ef, lw, lf]
  obtain ⟨W1, hW1⟩ : ∃ W1, w.alloc (.cells #[.slice (some ⟨gw, 0, none⟩) p.widen.length (p.widen.length + 1), .slice (some ⟨gf, 0, none⟩) p.funcs.length (p.funcs.length + 1)] 25) = W1 := ⟨_, rfl⟩
  have HW1 := show Hid _ from hW1
  have hb1 : Below w.heap.size w W1 := by rw [← hW1]; exact (Below.refl _ w).alloc (Nat.le_refl _) _
  have hc : ∀ (j : Nat) v, (#[.slice (some ⟨gw, 0, none⟩) p.widen.length (p.widen.length + 1), .slice (some ⟨gf, 0, none⟩) p.funcs.length (p.funcs.length + 1)] : Array Value)[j]? = some v → ∀ w', Only p.bl W1 w' → w'.cell? ⟨w.heap.size, j, none⟩ = some v := fun j v e w' h => by
    refine h.cell (fun hz => by have := HLT.out _ hz; omega) ?_
    rw [← hW1, World.cell?_alloc_at _ _ _ _ rfl]; exact e
  have CX := show Hid _ from hc 1 _ rfl
  have CW := show Hid _ from hc 0 _ rfl
  have HB1 : Hid (Only p.bl w W1) := Only.of_below hb1
  have HTW : Hid (TailF W1 gw 2 (p.widen.flatMap cI ++ [.int .i64 (-77)]) (0 * 1)) := ⟨_, (hb1.block gw (by rw [ew] at l1; exact l1)).trans cw, rfl, fun _ _ => rfl⟩
  have HTF : Hid (TailF W1 gf 36 (p.funcs.flatMap Fu.cells ++ senF) (0 * 3)) := ⟨_, (hb1.block gf (by rw [ef] at l2; exact l2)).trans cf, rfl, fun _ _ => rfl⟩
  have HS : Hid (∀ f ∈ p.funcs, f.Cp W1) := fun f hf => (h4 f hf).stay hb1
  rw [lw] at bw
  rw [lf] at bf
  clear hW1 hc hb1 ew ef lw lf l1 l2 h2 h4 cw cf hbl hblt hn
  go_enter Tryd.func16, Tryd.ntmps16
  go_wp2_with fail
  rw [HW1.out]
  clear HW1
  obtain ⟨Z, hZ⟩ : ∃ Z, w.heap.size = Z := ⟨_, rfl⟩
  have HW : Hid (w.heap.size = Z) := hZ
  rw [hZ] at CX CW ⊢
  clear hZ
  go_loopw [2] (fun t wr => ∃ (i : Nat), i ≤ p.widen.length ∧ t = .int .i64 i ∧ TailF wr gw 2 (p.widen.flatMap cI ++ [.int .i64 (-77)]) (i * 1) ∧ Only [gw] W1 wr) (fun t _ => p.widen.length - (intOf t).toNat)
  case atStart => exact ⟨0, Nat.zero_le _, rfl, HTW.out, Only.refl _ _⟩
  case round =>
    obtain ⟨i, hi, rfl, htl, hon⟩ := hrel
    have c0 := CW.out _ (hon.mono (by rw [HBL.out]; simp))
    by_cases hlt : i < p.widen.length
    · have hli : (i : Int) < (p.widen.length : Int) := by omega
      have d0 := htl.cell (f := cI) (fun _ => rfl) (List.getElem?_eq_getElem hlt) (i := 0) rfl
      have q0 := htl.frozen i
      simp only [Nat.mul_one, Nat.add_zero] at d0
      have HT : Hid (TailF wr gw 2 (p.widen.flatMap cI ++ [.int .i64 (-77)]) (i * 1)) := htl
      have HO : Hid (Only [gw] W1 wr) := hon
      clear htl hon
      go_wp2_with fail
      go_roundw
      case rel => exact ⟨i + 1, by omega, by go_num, (HT.out.mono (by omega)).set (by omega) _, HO.out.set (by simp) _ _⟩
      case measure => simp [intOf]; omega
    · obtain rfl : i = p.widen.length := by omega
      have HO : Hid (Only [gw] W1 wr) := hon
      clear htl hon
      go_wp2_with fail
      generalize wr = WA at *
      go_loopw [3] (fun t wr => ∃ (j : Nat), j ≤ p.funcs.length ∧ t = .int .i64 j ∧ TailF wr gf 36 (p.funcs.flatMap Fu.cells ++ senF) (j * 3) ∧ (∀ f ∈ p.funcs.drop j, f.Cp wr) ∧ Only p.bl W1 wr) (fun t _ => p.funcs.length - (intOf t).toNat)
      case atStart =>
        obtain ⟨n1, _⟩ := List.nodup_cons.1 HN.out
        refine ⟨0, Nat.zero_le _, rfl, HTF.out.keep HO.out (by simp only [List.mem_singleton]; rintro rfl; exact n1 List.mem_cons_self), fun f hf => ?_, HO.out.mono (by rw [HBL.out]; simp)⟩
        have hf' : f ∈ p.funcs := by simpa using hf
        refine (HS.out f hf').only HO.out fun b hb => ?_
        simp only [List.mem_singleton]
        rintro rfl
        exact n1 (List.mem_cons_of_mem _ (List.mem_flatMap.2 ⟨f, hf', hb⟩))
      case round =>
        obtain ⟨j, hj, rfl, htl, hcp, hon⟩ := hrel
        have c1 := CX.out _ hon
        by_cases hlt : j < p.funcs.length
        · have hli : (j : Int) < (p.funcs.length : Int) := by omega
          obtain ⟨n1, n2, n3, n4⟩ := nd_any (List.nodup_cons.1 HN.out).2 hlt
          have hdr : p.funcs.drop j = p.funcs[j] :: p.funcs.drop (j + 1) := List.drop_eq_getElem_cons hlt
          have hfc : p.funcs[j].Cp wr := hcp p.funcs[j] (by rw [hdr]; exact List.mem_cons_self)
          have HXJ : Hid (p.funcs[j]? = some p.funcs[j]) := List.getElem?_eq_getElem hlt
          have N1 : Hid (gf ∉ p.funcs[j].bl) := n1
          have N3 : Hid (∀ y ∈ p.funcs.drop (j + 1), ∀ b ∈ y.bl, b ∉ p.funcs[j].bl ∧ b ≠ gf) := n3
          have M4 : Hid (∀ b ∈ p.funcs[j].bl, b ∈ p.bl) := fun b hb => by rw [HBL.out]; exact List.mem_cons_of_mem _ (List.mem_cons_of_mem _ (n4 b hb))
          have MGF : Hid (gf ∈ p.bl) := by rw [HBL.out]; exact List.mem_cons_of_mem _ List.mem_cons_self
          have HCP : Hid (∀ y ∈ p.funcs.drop (j + 1), y.Cp wr) := fun y hy => hcp y (by rw [hdr]; exact List.mem_cons_of_mem _ hy)
          have HON : Hid (Only p.bl W1 wr) := hon
          have HTL : Hid (TailF wr gf 36 (p.funcs.flatMap Fu.cells ++ senF) (j * 3)) := htl
          clear n1 n3 n4 hdr hcp hon htl
          generalize p.funcs[j] = f at *
          have CF : Hid (∀ w', Only f.bl wr w' → ∀ (i : Nat) v, f.cells[i]? = some v → w'.cell? ⟨gf, j * 3 + i, none⟩ = some v) := fun w' h i v e => (HTL.out.keep h N1.out).cell (f := Fu.cells) (fun _ => rfl) HXJ.out e
          obtain ⟨f1, f2, f3, f4, f5⟩ := hfc
          unfold Fu.bl at n2
          obtain ⟨m1, m2⟩ := List.nodup_cons.1 n2
          have HQ : Hid (Calls Tryd.prog 31 #[.slice f.ba f.body.length f.bc] wr fun e w' => e = .returned (.tuple #[]) ∧ Only (blk f.ba :: blS f.body) wr w') := spoilS_any _ _ _ wr f4 f5 m2
          have M5 : Hid (∀ b ∈ blk f.ba :: blS f.body, b ∈ f.bl) := fun b hb => by unfold Fu.bl; exact List.mem_cons_of_mem _ hb
          obtain ⟨gp, ep, lp, bp, cp⟩ := f2
          rw [ep] at m1
          have HP : Hid (f.pa = some ⟨gp, 0, none⟩ ∧ f.pc = f.params.length + 1) := ⟨ep, lp⟩
          have MGP : Hid (gp ∈ f.bl) := by unfold Fu.bl; rw [ep]; exact List.mem_cons_self
          have HTP : Hid (∀ w', Only (blk f.ba :: blS f.body) wr w' → TailF w' gp 50 (f.params.flatMap Pa.cells ++ senP) (0 * 3)) := fun w' h => TailF.keep ⟨_, cp, rfl, fun _ _ => rfl⟩ h m1
          rw [lp] at bp
          clear f3 f4 f5 n2 m1 m2 ep lp cp
          have d2 := CF.out wr (Only.refl _ _) 2 _ rfl
          go_wp2_with fail
          refine HQ.out.mono ?_
          rintro e w2 ⟨rfl, o2⟩
          have HT2 := HTP.out w2 o2
          have HT2' : Hid (TailF w2 gp 50 (f.params.flatMap Pa.cells ++ senP) (0 * 3)) := HT2
          have O2 : Hid (Only f.bl wr w2) := o2.mono M5.out
          clear d2 c1 HT2 o2
          go_wp2_with fail
          generalize wr = WR at *
          go_loopw [4] (fun t wq => ∃ (k : Nat), k ≤ f.params.length ∧ t = .int .i64 k ∧ TailF wq gp 50 (f.params.flatMap Pa.cells ++ senP) (k * 3) ∧ Only f.bl WR wq) (fun t _ => f.params.length - (intOf t).toNat)
          case atStart => exact ⟨0, Nat.zero_le _, rfl, HT2'.out, O2.out⟩
          case round =>
            obtain ⟨k, hk, rfl, htl, hon⟩ := hrel
            have c1 := CX.out _ (HON.out.trans (hon.mono M4.out))
            have d1 := CF.out _ hon 1 _ rfl
            rw [HP.out.1, HP.out.2] at d1
            by_cases hklt : k < f.params.length
            · have hkli : (k : Int) < (f.params.length : Int) := by omega
              have e0 := htl.cell (f := Pa.cells) (fun _ => rfl) (List.getElem?_eq_getElem hklt) (i := 0) rfl
              have e1 := htl.cell (f := Pa.cells) (fun _ => rfl) (List.getElem?_eq_getElem hklt) (i := 1) rfl
              have e2 := htl.cell (f := Pa.cells) (fun _ => rfl) (List.getElem?_eq_getElem hklt) (i := 2) rfl
              have q0 := htl.frozen (k * 3)
              have q1 := htl.frozen (k * 3 + 1)
              have q2 := htl.frozen (k * 3 + 2)
              simp only [Nat.add_zero] at e0
              have HT : Hid (TailF wr gp 50 (f.params.flatMap Pa.cells ++ senP) ((k + 1) * 3)) := htl.mono (by omega)
              have HO3 : Hid (Only f.bl WR wr) := hon
              clear htl hon
              go_wp2_with fail
              go_roundw
              case rel => exact ⟨k + 1, by omega, by go_num, ((HT.out.set (by omega) _).set (by omega) _).set (by omega) _, ((HO3.out.set MGP.out _ _).set MGP.out _ _).set MGP.out _ _⟩
              case measure => simp [intOf]; omega
            · obtain rfl : k = f.params.length := by omega
              have ht := HTL.out.keep hon N1.out
              have e0 := CF.out _ hon 0 _ rfl
              have e2 := CF.out _ hon 2 _ rfl
              have q0 := ht.frozen (j * 3)
              have q1 := ht.frozen (j * 3 + 1)
              have q2 := ht.frozen (j * 3 + 2)
              simp only [Nat.add_zero] at e0
              have HT6 : Hid (TailF wr gf 36 (p.funcs.flatMap Fu.cells ++ senF) ((j + 1) * 3)) := ht.mono (by omega)
              have O6 : Hid (Only f.bl WR wr) := hon
              clear ht hon htl
              go_wp2_with fail
              go_roundw
              case rel =>
                refine ⟨j + 1, by omega, by go_num, ((HT6.out.set (by omega) _).set (by omega) _).set (by omega) _, fun z hz => ?_, (((HON.out.trans (O6.out.mono M4.out)).set MGF.out _ _).set MGF.out _ _).set MGF.out _ _⟩
                have hz' := HCP.out z hz
                refine hz'.kept fun b hb => ?_
                have hne := (N3.out z hz b hb).2
                rw [Below.heap_setCell _ _ _ _ hne, Below.heap_setCell _ _ _ _ hne, Below.heap_setCell _ _ _ _ hne]
                exact O6.out.2.2.2.2 b (hz'.lt b hb) (N3.out z hz b hb).1
              case measure => simp [intOf]; omega
        · obtain rfl : j = p.funcs.length := by omega
          clear htl hcp
          go_wp2_with fail
          go_end0
          exact ⟨rfl, HB1.out.trans hon⟩
end Go.Proofs.YtbpemackmadhgabDoor

/- The statement that what is handed in stays, at a program that lies in memory. -/
namespace Go.Proofs.YtbpemackmadhgabDoor
open Go.RowKit Go.Sort
attribute [local go_sem ↓] Go.wp_at_zero Go.wp_at_succ

theorem Pr.Cp.stay {W W' : World} {p : Pr} (h : p.Cp W) (hb : Below W.heap.size W W') : p.Cp W' := by
  obtain ⟨h1, h2, h3, h4⟩ := h
  exact ⟨h1.stay hb, h2, h3.stay hb, fun f hf => (h4 f hf).stay hb⟩
/-- A new block reads as it was laid. -/
theorem new_at {w w' : World} {cs : Array Value} {t : TypeId} (hb : Below (w.alloc (.cells cs t)).heap.size (w.alloc (.cells cs t)) w') {j : Nat} {v : Value} (h : cs[j]? = some v) : w'.cell? ⟨w.heap.size, j, none⟩ = some v := by
  rw [hb.cell (p := ⟨w.heap.size, j, none⟩) (by simp), World.cell?_alloc_at _ _ _ _ rfl]; exact h

/-- What is asked of the copy q of p. -/
structure AskQ (q p : Pr) (w' : World) : Prop where
  chk : Calls Tryd.prog 7 #[.agg #[.slice q.wa q.widen.length q.wc, .slice q.fa q.funcs.length q.fc]] w' fun e w'' => e = .returned (fltV (checkZ p).1 (checkZ p).2.1 (checkZ p).2.2) ∧ Below w'.heap.size w' w''
  prn : Calls Tryd.prog 11 #[.agg #[.slice q.wa q.widen.length q.wc, .slice q.fa q.funcs.length q.fc]] w' fun e w'' => e = .returned (.tuple #[sB (prT p), fltV (prF p).1 (prF p).2.1 (prF p).2.2]) ∧ Below w'.heap.size w' w''
  nod : Calls Tryd.prog 13 #[.agg #[.slice q.wa q.widen.length q.wc, .slice q.fa q.funcs.length q.fc]] w' fun e w'' => e = .returned (.int .i64 (nodesZ p)) ∧ Below w'.heap.size w' w''
  sam : Calls Tryd.prog 10 #[.agg #[.slice q.wa q.widen.length q.wc, .slice q.fa q.funcs.length q.fc], .agg #[.slice p.wa p.widen.length p.wc, .slice p.fa p.funcs.length p.fc]] w' fun e w'' => e = .returned (.bool true) ∧ Below w'.heap.size w' w''
  rsm : Calls Tryd.prog 14 #[.agg #[.slice q.wa q.widen.length q.wc, .slice q.fa q.funcs.length q.fc], .agg #[.slice p.wa p.widen.length p.wc, .slice p.fa p.funcs.length p.fc]] w' fun e w'' => e = .returned (.bool true) ∧ Below w'.heap.size w' w''
  room : Calls Tryd.prog 15 #[.agg #[.slice q.wa q.widen.length q.wc, .slice q.fa q.funcs.length q.fc]] w' fun e w'' => e = .returned (.bool true) ∧ Below w'.heap.size w' w''
  spl : Calls Tryd.prog 16 #[.agg #[.slice q.wa q.widen.length q.wc, .slice q.fa q.funcs.length q.fc]] w' fun e w'' => e = .returned (.tuple #[]) ∧ Only q.bl w' w''
theorem askQ {q p : Pr} {w' : World} (hq : q.Cp w') (hp : p.In w') (her : q.er = p.er) (hnd : q.bl.Nodup) (ht : Tabs w') (hnt : NumT w') : AskQ q p w' := by
  obtain ⟨e1, e2, e3, e4⟩ := er_same her
  have es := samPr_er her
  refine ⟨?_, ?_, ?_, ?_, ?_, room_any q w' hq, spoil_any q w' hq hnd⟩
  · have := check_any q w' hq.in ht; rw [e1] at this; exact this
  · have := print_any q w' hq.in ht hnt; rw [e3, e4] at this; exact this
  · have := nodes_any q w' hq.in; rw [e2] at this; exact this
  · have := same_any q p w' hq.in hp; rw [es] at this; exact this
  · have := rsame_any q p w' hq.in hp; rw [es] at this; exact this

set_option maxRecDepth 100000 in
set_option maxHeartbeats 8000000 in
theorem treeKeeps_any (p : Pr) (w : World) (hp : p.In w) (ht : Tabs w) (hnt : NumT w) : Calls Tryd.prog 4 #[p.val] w fun e w' => e = .returned (.bool true) ∧ Below w.heap.size w w' := by
  have HA : Hid (∀ w', Below w.heap.size w w' → Calls Tryd.prog 6 #[] w' fun e w'' => e = .returned (.bool true) ∧ Below w'.heap.size w' w'') := fun w' h => awake_any w' (ht.stay h) (hnt.stay h)
  have HB1 : Hid (∀ w', Below w.heap.size w w' → Calls Tryd.prog 12 #[p.val] w' fun e w'' => e = .returned (.bool (bigZ p)) ∧ Below w'.heap.size w' w'') := fun w' h => big_any p w' (hp.stay h)
  have HCP : Hid (bigZ p = false → ∀ w', Below w.heap.size w w' → Calls Tryd.prog 8 #[p.val] w' fun e w'' => (∃ q : Pr, e = .returned q.val ∧ q.Cp w'' ∧ q.er = p.er ∧ q.bl.Nodup ∧ (∀ b ∈ q.bl, w'.heap.size ≤ b ∧ b < w''.heap.size)) ∧ Below w'.heap.size w' w'') := fun hb w' h => copy_any p w' (hp.stay h) (few_of_big hb)
  have HPC : Hid (∀ w', Below w.heap.size w w' → Calls Tryd.prog 7 #[p.val] w' fun e w'' => e = .returned (fltV (checkZ p).1 (checkZ p).2.1 (checkZ p).2.2) ∧ Below w'.heap.size w' w'') := fun w' h => check_any p w' (hp.stay h) (ht.stay h)
  have HPP : Hid (∀ w', Below w.heap.size w w' → Calls Tryd.prog 11 #[p.val] w' fun e w'' => e = .returned (.tuple #[sB (prT p), fltV (prF p).1 (prF p).2.1 (prF p).2.2]) ∧ Below w'.heap.size w' w'') := fun w' h => print_any p w' (hp.stay h) (ht.stay h) (hnt.stay h)
  have HPN : Hid (∀ w', Below w.heap.size w w' → Calls Tryd.prog 13 #[p.val] w' fun e w'' => e = .returned (.int .i64 (nodesZ p)) ∧ Below w'.heap.size w' w'') := fun w' h => nodes_any p w' (hp.stay h)
  have HQ : Hid (∀ (q : Pr) (w' : World), Below w.heap.size w w' → q.Cp w' → q.er = p.er → q.bl.Nodup → AskQ q p w') := fun q w' h hq her hnd => askQ hq (hp.stay h) her hnd (ht.stay h) (hnt.stay h)
  clear hp ht hnt
  unfold Pr.val at *
  obtain ⟨W1, hW1⟩ : ∃ W1, w.alloc (.cells #[.slice p.wa p.widen.length p.wc, .slice p.fa p.funcs.length p.fc] 25) = W1 := ⟨_, rfl⟩
  obtain ⟨Z, hZ⟩ : ∃ Z, w.heap.size = Z := ⟨_, rfl⟩
  have P0 : Hid (∀ w', Below W1.heap.size W1 w' → w'.cell? ⟨Z, 0, none⟩ = some (.slice p.wa p.widen.length p.wc)) := fun w' h => hZ ▸ new_at (by rw [hW1]; exact h) rfl
  have P1 : Hid (∀ w', Below W1.heap.size W1 w' → w'.cell? ⟨Z, 1, none⟩ = some (.slice p.fa p.funcs.length p.fc)) := fun w' h => hZ ▸ new_at (by rw [hW1]; exact h) rfl
  have HW1 := show Hid _ from hW1
  have HZ := show Hid _ from hZ
  have B1 : Hid (Below w.heap.size w W1 ∧ Z < W1.heap.size) := ⟨by rw [← hW1]; exact Below.one (Below.refl _ _) _, by rw [← hW1, ← hZ]; simp⟩
  clear hZ hW1
  go_enter Tryd.func4, Tryd.ntmps4
  go_wp2_with fail
  rw [HW1.out, HZ.out]
  clear HW1
  refine (HA.out _ B1.out.1).mono ?_
  rintro e w2 ⟨rfl, hb2⟩
  have p0 := P0.out _ hb2
  have p1 := P1.out _ hb2
  go_wp2_with fail
  refine (HB1.out _ (Below.on B1.out.1 hb2)).mono ?_
  rintro e w3 ⟨rfl, hb3⟩
  have hb3' := Below.on hb2 hb3
  clear p0 p1 hb2 hb3
  cases hbp : bigZ p with
  | true =>
    go_wp2_with fail
    go_ret
    exact ⟨rfl, Below.on B1.out.1 hb3'⟩
  | false =>
    have HCP2 := show Hid _ from HCP.out hbp
    have p0 := P0.out _ hb3'
    have p1 := P1.out _ hb3'
    clear HCP HA HB1
    go_wp2_with fail
    refine (HCP2.out _ (Below.on B1.out.1 hb3')).mono ?_
    rintro e w4 ⟨⟨q, rfl, hcp, her, hnd, hbl⟩, hb4⟩
    have hb4' := Below.on hb3' hb4
    clear p0 p1 HCP2
    go_wp2_with fail
    have hb5 : Below w4.heap.size w4 (w4.alloc (.cells #[.slice q.wa q.widen.length q.wc, .slice q.fa q.funcs.length q.fc] 25)) := Below.one (Below.refl _ _) _
    obtain ⟨W5, hW5⟩ : ∃ W5, w4.alloc (.cells #[.slice q.wa q.widen.length q.wc, .slice q.fa q.funcs.length q.fc] 25) = W5 := ⟨_, rfl⟩
    obtain ⟨Y, hY⟩ : ∃ Y, w4.heap.size = Y := ⟨_, rfl⟩
    have Q0 : Hid (∀ w', Below W5.heap.size W5 w' → w'.cell? ⟨Y, 0, none⟩ = some (.slice q.wa q.widen.length q.wc)) := fun w' h => hY ▸ new_at (by rw [hW5]; exact h) rfl
    have Q1 : Hid (∀ w', Below W5.heap.size W5 w' → w'.cell? ⟨Y, 1, none⟩ = some (.slice q.fa q.funcs.length q.fc)) := fun w' h => hY ▸ new_at (by rw [hW5]; exact h) rfl
    rw [hW5] at hb5
    have hY5 : Y < W5.heap.size := by rw [← hW5, ← hY]; simp
    have P0' : Hid (∀ w', Below W5.heap.size W5 w' → w'.cell? ⟨Z, 0, none⟩ = some (.slice p.wa p.widen.length p.wc)) := fun w' h => P0.out w' (Below.on hb4' (Below.on hb5 h))
    have P1' : Hid (∀ w', Below W5.heap.size W5 w' → w'.cell? ⟨Z, 1, none⟩ = some (.slice p.fa p.funcs.length p.fc)) := fun w' h => P1.out w' (Below.on hb4' (Below.on hb5 h))
    have B5 : Hid (Below w.heap.size w W5) := Below.on B1.out.1 (Below.on hb4' hb5)
    have HQ5 : Hid (∀ w', Below W5.heap.size W5 w' → AskQ q p w') := fun w' h => HQ.out q w' (Below.on B5.out h) (hcp.stay (Below.on hb5 h)) her hnd
    have HBL : Hid ((∀ b ∈ q.bl, w.heap.size ≤ b) ∧ Z ∉ q.bl ∧ ∀ b, W5.heap.size ≤ b → b ∉ q.bl) := by
      have s1 := B1.out.1.size
      have s2 := hb3'.size
      have s3 := hb5.size
      have s4 := B1.out.2
      exact ⟨fun b hb => by have := (hbl b hb).1; omega, fun h => by have := (hbl Z h).1; omega, fun b hb h => by have := (hbl b h).2; omega⟩
    rw [hW5, hY]
    clear P0 P1 HQ hcp her hnd hbl hb5 hb4' hb4 hb3' hW5 hY B1 hbp
    refine (HQ5.out _ (Below.refl _ _)).chk.mono ?_
    rintro e w6 ⟨rfl, hb6⟩
    have q0 : ∀ o, (w6.alloc o).cell? ⟨Y, 0, none⟩ = some (.slice q.wa q.widen.length q.wc) := fun o => Q0.out _ (Below.one hb6 _)
    have q1 : ∀ o, (w6.alloc o).cell? ⟨Y, 1, none⟩ = some (.slice q.fa q.funcs.length q.fc) := fun o => Q1.out _ (Below.one hb6 _)
    go_wp2_with fail
    have b7 : Below W5.heap.size W5 (w6.alloc (.cells #[.int .i64 (checkZ p).1, .int .i64 (checkZ p).2.1, .int .i64 (checkZ p).2.2] 29)) := Below.one hb6 _
    obtain ⟨W7, hW7⟩ : ∃ W7, w6.alloc (.cells #[.int .i64 (checkZ p).1, .int .i64 (checkZ p).2.1, .int .i64 (checkZ p).2.2] 29) = W7 := ⟨_, rfl⟩
    obtain ⟨X, hX⟩ : ∃ X, w6.heap.size = X := ⟨_, rfl⟩
    have F0 : Hid (∀ w', Below W7.heap.size W7 w' → w'.cell? ⟨X, 0, none⟩ = some (.int .i64 (checkZ p).1)) := fun w' h => hX ▸ new_at (by rw [hW7]; exact h) rfl
    have F1 : Hid (∀ w', Below W7.heap.size W7 w' → w'.cell? ⟨X, 1, none⟩ = some (.int .i64 (checkZ p).2.1)) := fun w' h => hX ▸ new_at (by rw [hW7]; exact h) rfl
    have F2 : Hid (∀ w', Below W7.heap.size W7 w' → w'.cell? ⟨X, 2, none⟩ = some (.int .i64 (checkZ p).2.2)) := fun w' h => hX ▸ new_at (by rw [hW7]; exact h) rfl
    have HX : Hid (W5.heap.size ≤ X) := by rw [← hX]; exact hb6.size
    rw [hW7] at b7
    have B7 := show Hid _ from b7
    rw [hW7, hX]
    clear hW7 hX hb6 q0 q1
    refine (HQ5.out _ b7).prn.mono ?_
    rintro e w8 ⟨rfl, hb8⟩
    have hb8' := Below.on b7 hb8
    have q0 : ∀ o, (w8.alloc o).cell? ⟨Y, 0, none⟩ = some (.slice q.wa q.widen.length q.wc) := fun o => Q0.out _ (Below.one hb8' _)
    have q1 : ∀ o, (w8.alloc o).cell? ⟨Y, 1, none⟩ = some (.slice q.fa q.funcs.length q.fc) := fun o => Q1.out _ (Below.one hb8' _)
    clear b7
    go_wp2_with fail
    have b9 : Below W7.heap.size W7 (w8.alloc (.cells #[.int .i64 (prF p).1, .int .i64 (prF p).2.1, .int .i64 (prF p).2.2] 29)) := Below.one hb8 _
    obtain ⟨W9, hW9⟩ : ∃ W9, w8.alloc (.cells #[.int .i64 (prF p).1, .int .i64 (prF p).2.1, .int .i64 (prF p).2.2] 29) = W9 := ⟨_, rfl⟩
    obtain ⟨V, hV⟩ : ∃ V, w8.heap.size = V := ⟨_, rfl⟩
    have G0 : Hid (∀ w', Below W9.heap.size W9 w' → w'.cell? ⟨V, 0, none⟩ = some (.int .i64 (prF p).1)) := fun w' h => hV ▸ new_at (by rw [hW9]; exact h) rfl
    have G1 : Hid (∀ w', Below W9.heap.size W9 w' → w'.cell? ⟨V, 1, none⟩ = some (.int .i64 (prF p).2.1)) := fun w' h => hV ▸ new_at (by rw [hW9]; exact h) rfl
    have G2 : Hid (∀ w', Below W9.heap.size W9 w' → w'.cell? ⟨V, 2, none⟩ = some (.int .i64 (prF p).2.2)) := fun w' h => hV ▸ new_at (by rw [hW9]; exact h) rfl
    have HV : Hid (W5.heap.size ≤ V) := by rw [← hV]; exact hb8'.size
    rw [hW9] at b9
    have B97 : Hid (Below W7.heap.size W7 W9) := b9
    have B95 : Hid (Below W5.heap.size W5 W9) := Below.on B7.out b9
    rw [hW9, hV]
    clear hW9 hV hb8 hb8' q0 q1 b9
    refine (HQ5.out _ B95.out).nod.mono ?_
    rintro e w10 ⟨rfl, hb10⟩
    have b5 := Below.on B95.out hb10
    have q0 := Q0.out _ b5
    have q1 := Q1.out _ b5
    have p0 := P0'.out _ b5
    have p1 := P1'.out _ b5
    go_wp2_with fail
    refine (HQ5.out _ b5).sam.mono ?_
    rintro e w11 ⟨rfl, hb11⟩
    have b9 := Below.on hb10 hb11
    have b5' := Below.on b5 hb11
    clear q0 q1 p0 p1 b5 hb10 hb11
    have q0 := Q0.out _ b5'
    have q1 := Q1.out _ b5'
    have p0 := P0'.out _ b5'
    have p1 := P1'.out _ b5'
    go_wp2_with fail
    refine (HQ5.out _ b5').rsm.mono ?_
    rintro e w12 ⟨rfl, hb12⟩
    have c9 := Below.on b9 hb12
    have c5 := Below.on b5' hb12
    clear q0 q1 p0 p1 b5' b9 hb12
    have q0 := Q0.out _ c5
    have q1 := Q1.out _ c5
    go_wp2_with fail
    refine (HQ5.out _ c5).room.mono ?_
    rintro e w13 ⟨rfl, hb13⟩
    have d9 := Below.on c9 hb13
    have d5 := Below.on c5 hb13
    clear q0 q1 c5 c9 hb13
    have q0 := Q0.out _ d5
    have q1 := Q1.out _ d5
    go_wp2_with fail
    refine (HQ5.out _ d5).spl.mono ?_
    rintro e w14 ⟨rfl, ho⟩
    have hN : Below w.heap.size w w14 := (Below.on B5.out d5).trans (ho.below HBL.out.1 (Below.on B5.out d5).size)
    have p0 := ho.cell HBL.out.2.1 (P0'.out _ d5)
    have p1 := ho.cell HBL.out.2.1 (P1'.out _ d5)
    have f0 := ho.cell (HBL.out.2.2 X HX.out) (F0.out _ (Below.on B97.out d9))
    have f1 := ho.cell (HBL.out.2.2 X HX.out) (F1.out _ (Below.on B97.out d9))
    have f2 := ho.cell (HBL.out.2.2 X HX.out) (F2.out _ (Below.on B97.out d9))
    have g0 := ho.cell (HBL.out.2.2 V HV.out) (G0.out _ d9)
    have g1 := ho.cell (HBL.out.2.2 V HV.out) (G1.out _ d9)
    have g2 := ho.cell (HBL.out.2.2 V HV.out) (G2.out _ d9)
    clear q0 q1 d5 d9 ho Q0 Q1 P0' P1' F0 F1 F2 G0 G1 G2 HQ5 HBL B95 B97 B7 HX HV
    go_wp2_with fail
    refine (HPP.out _ hN).mono ?_
    rintro e w15 ⟨rfl, hb15⟩
    have hN15 := Below.on hN hb15
    have k0 := (hb15.cell (lt_of_cell p0)).trans p0
    have k1 := (hb15.cell (lt_of_cell p1)).trans p1
    have l0 := (hb15.cell (lt_of_cell f0)).trans f0
    have l1 := (hb15.cell (lt_of_cell f1)).trans f1
    have l2 := (hb15.cell (lt_of_cell f2)).trans f2
    have m0 := (hb15.cell (lt_of_cell g0)).trans g0
    have m1 := (hb15.cell (lt_of_cell g1)).trans g1
    have m2 := (hb15.cell (lt_of_cell g2)).trans g2
    clear p0 p1 f0 f1 f2 g0 g1 g2 hb15 hN
    obtain ⟨U, hU⟩ : ∃ U, w15.heap.size = U := ⟨_, rfl⟩
    obtain ⟨W16, hW16⟩ : ∃ W16, w15.alloc (.cells #[.int .i64 (prF p).1, .int .i64 (prF p).2.1, .int .i64 (prF p).2.2] 29) = W16 := ⟨_, rfl⟩
    have b16 : Below w15.heap.size w15 W16 := by rw [← hW16]; exact Below.one (Below.refl _ _) _
    have zl : Z < w15.heap.size := lt_of_cell k0
    have xl : X < w15.heap.size := lt_of_cell l0
    have vl : V < w15.heap.size := lt_of_cell m0
    have keep : ∀ w', Below W16.heap.size W16 w' → ∀ (b o : Nat) v, b < w15.heap.size → w15.cell? ⟨b, o, none⟩ = some v → w'.cell? ⟨b, o, none⟩ = some v := fun w' h b o v hlt e => by
      have hs := b16.size
      rw [h.cell (p := ⟨b, o, none⟩) (show b < _ by omega), b16.cell (p := ⟨b, o, none⟩) hlt, e]
    have p0 : ∀ w', Below W16.heap.size W16 w' → w'.cell? ⟨Z, 0, none⟩ = some (.slice p.wa p.widen.length p.wc) := fun w' h => keep w' h _ _ _ zl k0
    have p1 : ∀ w', Below W16.heap.size W16 w' → w'.cell? ⟨Z, 1, none⟩ = some (.slice p.fa p.funcs.length p.fc) := fun w' h => keep w' h _ _ _ zl k1
    have f0 : ∀ w', Below W16.heap.size W16 w' → w'.cell? ⟨X, 0, none⟩ = some (.int .i64 (checkZ p).1) := fun w' h => keep w' h _ _ _ xl l0
    have f1 : ∀ w', Below W16.heap.size W16 w' → w'.cell? ⟨X, 1, none⟩ = some (.int .i64 (checkZ p).2.1) := fun w' h => keep w' h _ _ _ xl l1
    have f2 : ∀ w', Below W16.heap.size W16 w' → w'.cell? ⟨X, 2, none⟩ = some (.int .i64 (checkZ p).2.2) := fun w' h => keep w' h _ _ _ xl l2
    have g0 : ∀ w', Below W16.heap.size W16 w' → w'.cell? ⟨V, 0, none⟩ = some (.int .i64 (prF p).1) := fun w' h => keep w' h _ _ _ vl m0
    have g1 : ∀ w', Below W16.heap.size W16 w' → w'.cell? ⟨V, 1, none⟩ = some (.int .i64 (prF p).2.1) := fun w' h => keep w' h _ _ _ vl m1
    have g2 : ∀ w', Below W16.heap.size W16 w' → w'.cell? ⟨V, 2, none⟩ = some (.int .i64 (prF p).2.2) := fun w' h => keep w' h _ _ _ vl m2
    have h0 : ∀ w', Below W16.heap.size W16 w' → w'.cell? ⟨U, 0, none⟩ = some (.int .i64 (prF p).1) := fun w' h => hU ▸ new_at (by rw [hW16]; exact h) rfl
    have h1 : ∀ w', Below W16.heap.size W16 w' → w'.cell? ⟨U, 1, none⟩ = some (.int .i64 (prF p).2.1) := fun w' h => hU ▸ new_at (by rw [hW16]; exact h) rfl
    have h2 : ∀ w', Below W16.heap.size W16 w' → w'.cell? ⟨U, 2, none⟩ = some (.int .i64 (prF p).2.2) := fun w' h => hU ▸ new_at (by rw [hW16]; exact h) rfl
    have B16 : Hid (Below w.heap.size w W16) := Below.on hN15 b16
    clear k0 k1 l0 l1 l2 m0 m1 m2 b16 hN15 keep zl xl vl
    have HW16 := show Hid _ from hW16
    have HU := show Hid _ from hU
    clear hW16 hU
    go_wp2_with fail
    rw [HW16.out, HU.out]
    clear HW16 HU
    go_region_held3 (fun w' => Below W16.heap.size W16 w') (first | exact Below.drew (Below.refl _ _) | exact Below.on (by assumption) (by assumption) | exact Below.one (by assumption) _)
      (first
        | (go_at_call 7; refine (HPC.out _ (Below.on B16.out (by assumption))).mono ?_; rintro e w' ⟨rfl, hb⟩)
        | (go_at_call 13; refine (HPN.out _ (Below.on B16.out (by assumption))).mono ?_; rintro e w' ⟨rfl, hb⟩))
    all_goals go_wp2_with fail
    all_goals go_ret
    all_goals exact ⟨rfl, Below.on B16.out (by assumption)⟩
end Go.Proofs.YtbpemackmadhgabDoor
