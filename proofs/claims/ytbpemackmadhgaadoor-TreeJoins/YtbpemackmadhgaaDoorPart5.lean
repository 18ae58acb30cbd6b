/- page.stmt at its other kinds: those of one line, and loops. -/
import Derived.Test.YtbpemackmadhgaaDoorPart4
import Derived.Test.YtbpemackmadhgaaDoorPart3
import Derived.Test.YtbpemackmadhgaaDoorPart2
namespace Go.Proofs.YtbpemackmadhgaaDoor
open Go.RowKit Go.Sort

set_option maxRecDepth 100000 in
set_option maxHeartbeats 8000000 in
theorem stmt8 (w0 : World) (s : St) (hk : s.kind = 8)  : StmtPr w0 s := by
  intro b l d w hB hp hd hlen
  have HT : Hid (lineB d (cat [⟨#[98, 114, 101, 97, 107, 59]⟩]) = txS s d) := by
    show _ = _; cases s; simp only [St.kind] at hk; subst hk; simp [txS, cat]
  rw [← HT.out] at hlen ⊢
  have HLEN : Hid ((l ++ lineB d (cat [⟨#[98, 114, 101, 97, 107, 59]⟩])).length ≤ 140737488355328) := hlen
  have HP : Hid (PgT w0.heap.size b l d w) := hp
  have hsw := hB.size
  clear hp hlen HT
  unfold St.val
  rw [hk]
  have hb0 := (Below.refl _ w).alloc (Nat.le_refl _) (.cells #[.int .i64 8, .string s.name, .int .i64 s.n, .int .i64 s.a.kind, .int .i64 s.a.n, .string s.a.name, .slice s.a.a s.a.args.length s.a.cap, .int .i64 s.b.kind, .int .i64 s.b.n, .string s.b.name, .slice s.b.a s.b.args.length s.b.cap, .slice s.ba s.body.length s.bc, .slice s.ea s.els.length s.ec, .slice s.ca s.cases.length s.cc] 46)
  have hB0 : Below w0.heap.size w0 _ := hB.alloc hsw (.cells #[.int .i64 8, .string s.name, .int .i64 s.n, .int .i64 s.a.kind, .int .i64 s.a.n, .string s.a.name, .slice s.a.a s.a.args.length s.a.cap, .int .i64 s.b.kind, .int .i64 s.b.n, .string s.b.name, .slice s.b.a s.b.args.length s.b.cap, .slice s.ba s.body.length s.bc, .slice s.ea s.els.length s.ec, .slice s.ca s.cases.length s.cc] 46)
  obtain ⟨W0, hW0⟩ : ∃ W0, w.alloc (.cells #[.int .i64 8, .string s.name, .int .i64 s.n, .int .i64 s.a.kind, .int .i64 s.a.n, .string s.a.name, .slice s.a.a s.a.args.length s.a.cap, .int .i64 s.b.kind, .int .i64 s.b.n, .string s.b.name, .slice s.b.a s.b.args.length s.b.cap, .slice s.ba s.body.length s.bc, .slice s.ea s.els.length s.ec, .slice s.ca s.cases.length s.cc] 46) = W0 := ⟨_, rfl⟩
  have HW0 := show Hid _ from hW0
  have HSZ : Hid (w.heap.size + 1 = W0.heap.size) := by show _ = _; rw [← hW0]; simp
  rw [hW0] at hb0 hB0
  clear hW0
  go_enter Tryd.func57, Tryd.ntmps57
  go_wp2_with fail
  rw [HW0.out, HSZ.out]
  have hb2 := hb0
  refine (line_new w0.heap.size b l d [⟨#[98, 114, 101, 97, 107, 59]⟩] W0 (HP.out.stay hb2) (by have := hb2.size; omega) (Nat.le_of_ble_eq_true rfl) (by omega) HLEN.out).mono ?_
  rintro e w2 ⟨rfl, hp2, hb3, ho3⟩
  have HP2 : Hid (PgT w0.heap.size b (l ++ lineB d (cat [⟨#[98, 114, 101, 97, 107, 59]⟩])) d w2) := hp2
  clear hp2
  go_wp2_with fail
  go_end0
  exact ⟨rfl, HP2.out, ((hb2.mono hsw).alloc (by have := hb2.size; omega) _).trans hb3, ((oth_below hb2).alloc _).trans ho3⟩

set_option maxRecDepth 100000 in
set_option maxHeartbeats 8000000 in
theorem stmt10 (w0 : World) (s : St) (hk : s.kind = 10) (hin : s.In w0) (ht : Tabs w0) (hnt : NumT w0) (hoa : OkE s.a) (hza : s.a.sz ≤ 1000000) : StmtPr w0 s := by
  intro b l d w hB hp hd hlen
  have HT : Hid (lineB d (cat [⟨(txE s.a).toArray⟩, ⟨#[59]⟩]) = txS s d) := by
    show _ = _; cases s; simp only [St.kind] at hk; subst hk; simp [txS, cat, St.a]
  rw [← HT.out] at hlen ⊢
  have HLEN : Hid ((l ++ lineB d (cat [⟨(txE s.a).toArray⟩, ⟨#[59]⟩])).length ≤ 140737488355328) := hlen
  have HX : Hid (∀ w', Below w0.heap.size w0 w' → Calls Tryd.prog 68 #[.agg #[.int .i64 s.a.kind, .int .i64 s.a.n, .string s.a.name, .slice s.a.a s.a.args.length s.a.cap]] w' fun e w'' => e = .returned (sB (txE s.a)) ∧ Below w'.heap.size w' w'') := fun w' hb => expr_any s.a w' ((St.in_iff.1 hin).2.2.2.1.stay hb) (ht.stay hb) (hnt.stay hb) hoa hza
  have HP : Hid (PgT w0.heap.size b l d w) := hp
  have hsw := hB.size
  clear hin ht hnt hoa hp hlen HT
  unfold St.val
  rw [hk]
  have hb0 := (Below.refl _ w).alloc (Nat.le_refl _) (.cells #[.int .i64 10, .string s.name, .int .i64 s.n, .int .i64 s.a.kind, .int .i64 s.a.n, .string s.a.name, .slice s.a.a s.a.args.length s.a.cap, .int .i64 s.b.kind, .int .i64 s.b.n, .string s.b.name, .slice s.b.a s.b.args.length s.b.cap, .slice s.ba s.body.length s.bc, .slice s.ea s.els.length s.ec, .slice s.ca s.cases.length s.cc] 46)
  have hB0 : Below w0.heap.size w0 _ := hB.alloc hsw (.cells #[.int .i64 10, .string s.name, .int .i64 s.n, .int .i64 s.a.kind, .int .i64 s.a.n, .string s.a.name, .slice s.a.a s.a.args.length s.a.cap, .int .i64 s.b.kind, .int .i64 s.b.n, .string s.b.name, .slice s.b.a s.b.args.length s.b.cap, .slice s.ba s.body.length s.bc, .slice s.ea s.els.length s.ec, .slice s.ca s.cases.length s.cc] 46)
  go_enter Tryd.func57, Tryd.ntmps57
  go_wp2_with fail
  refine (HX.out _ hB0).mono ?_
  rintro e w1 ⟨rfl, hb1⟩
  have hb2 := Below.on hb0 hb1
  go_wp2_with fail
  refine (line_new w0.heap.size b l d [⟨(txE s.a).toArray⟩, ⟨#[59]⟩] w1 (HP.out.stay hb2) (by have := hb2.size; omega) (Nat.le_of_ble_eq_true rfl) (by omega) HLEN.out).mono ?_
  rintro e w2 ⟨rfl, hp2, hb3, ho3⟩
  have HP2 : Hid (PgT w0.heap.size b (l ++ lineB d (cat [⟨(txE s.a).toArray⟩, ⟨#[59]⟩])) d w2) := hp2
  clear hp2
  go_wp2_with fail
  go_end0
  exact ⟨rfl, HP2.out, ((hb2.mono hsw).alloc (by have := hb2.size; omega) _).trans hb3, ((oth_below hb2).alloc _).trans ho3⟩
end Go.Proofs.YtbpemackmadhgaaDoor

/- What follows where nothing is wrong with a program: of its parts, and how many they are. -/
namespace Go.Proofs.YtbpemackmadhgaaDoor
open Go.RowKit Go.Sort

theorem thenZ_ok {p : Int × Int} {f : Int → Int × Int} (h : (thenZ p f).1 = 0) : p.1 = 0 ∧ (f p.2).1 = 0 := by
  unfold thenZ at h
  split at h
  · exact absurd h (by assumption)
  · rename_i h0; exact ⟨by simpa using h0, h⟩
theorem chkT_ok {s : St} {lv at_ : Int} (h : (chkT s lv at_).1 = 0) : chkS s lv = 0 ∧ (∃ a, (chkSs s.body (lv + 1) a).1 = 0) ∧ (∃ a, (chkCs s.cases (lv + 1) a).1 = 0) ∧ ∃ a, (chkSs s.els (lv + 1) a).1 = 0 := by
  obtain ⟨k, nm, n, a, b, ba, bc, l, ea, ec, e, ca, cc, c⟩ := s
  rw [chkT] at h
  split at h
  · exact absurd h (by assumption)
  · rename_i h0
    obtain ⟨h1, h2⟩ := thenZ_ok h
    obtain ⟨h3, h4⟩ := thenZ_ok h2
    exact ⟨by simpa using h0, ⟨_, h1⟩, ⟨_, h3⟩, ⟨_, h4⟩⟩
theorem chkSs_ok : ∀ {l : List St} {lv at_ : Int}, (chkSs l lv at_).1 = 0 → ∀ x ∈ l, ∃ a, (chkT x lv a).1 = 0
  | [], _, _, _, x, hx => by cases hx
  | s :: r, lv, at_, h, x, hx => by
    rw [chkSs] at h
    obtain ⟨h1, h2⟩ := thenZ_ok h
    rcases List.mem_cons.1 hx with rfl | hx
    · exact ⟨_, h1⟩
    · exact chkSs_ok h2 x hx
theorem chkCs_ok : ∀ {l : List Ca} {lv at_ : Int}, (chkCs l lv at_).1 = 0 → ∀ c ∈ l, ∃ a, (chkSs c.body lv a).1 = 0
  | [], _, _, _, x, hx => by cases hx
  | c :: r, lv, at_, h, x, hx => by
    rw [chkCs] at h
    obtain ⟨h1, h2⟩ := thenZ_ok h
    rcases List.mem_cons.1 hx with rfl | hx
    · rw [chkCa_eq] at h1; exact ⟨_, h1⟩
    · exact chkCs_ok h2 x hx
/-- A statement that is right by itself. -/
theorem chkS_ok {s : St} {lv : Int} (h : chkS s lv = 0) : lv ≤ 32 ∧ 1 ≤ s.kind ∧ s.kind ≤ 10 ∧ ((bits .and .i64 (fldS s.kind.toNat) 1 != 0) = true → nameZ s.name = true) ∧
    ((bits .and .i64 (fldS s.kind.toNat) 4 != 0) = true → OkE s.a) ∧ ((bits .and .i64 (fldS s.kind.toNat) 8 != 0) = true → OkE s.b) := by
  unfold chkS at h
  split at h
  · omega
  split at h
  · rename_i _ h1; exact absurd h h1
  rename_i h0 h1
  have h1' : selfS s = 0 := by simpa using h1
  have hk : isS s.kind = true ∧ ((bits .and .i64 (fldS s.kind.toNat) 1 != 0) = true → nameZ s.name = true) := by
    unfold selfS at h1'
    split at h1'
    · omega
    rename_i hs
    split at h1'
    · omega
    split at h1'
    · omega
    rename_i hn
    refine ⟨by simpa using hs, fun hb => ?_⟩
    rw [hb] at hn
    simpa using hn
  simp only [isS, Bool.and_eq_true, decide_eq_true_eq] at hk
  refine ⟨by omega, hk.1.1, hk.1.2, hk.2, fun hb => ?_, fun hb => ?_⟩
  · split at h
    · rename_i h2; rw [hb] at h2; simp at h2; exact absurd h h2
    · rename_i h2; rw [hb] at h2; simp at h2; exact ⟨_, h2⟩
  · split at h
    · rename_i h2
      rw [Bool.and_eq_true] at h2
      simp at h2; exact absurd h h2.2
    · exact ⟨_, h⟩

def zE (x : Ex) : Nat := if zeroE x then 0 else x.sz
mutual
def St.V : St → Nat | .mk _ _ _ a b _ _ l _ _ e _ _ c => zE a + zE b + vSs l + vSs e + vCs c + c.length + 1
def vSs : List St → Nat | [] => 0 | x :: r => x.V + vSs r
def Ca.V : Ca → Nat | .mk _ _ _ l => vSs l
def vCs : List Ca → Nat | [] => 0 | c :: r => c.V + vCs r
end
theorem St.V_eq (s : St) : s.V = zE s.a + zE s.b + vSs s.body + vSs s.els + vCs s.cases + s.cases.length + 1 := by
  cases s; simp only [St.V, St.a, St.b, St.body, St.els, St.cases]
theorem Ca.V_eq (c : Ca) : c.V = vSs c.body := by cases c; simp only [Ca.V, Ca.body]
theorem vSs_mem {l : List St} {x : St} (h : x ∈ l) : x.V ≤ vSs l := by
  induction l with
  | nil => cases h
  | cons y r ih =>
    rw [vSs]
    rcases List.mem_cons.1 h with rfl | h
    · omega
    · have := ih h; omega
theorem vCs_mem {l : List Ca} {x : Ca} (h : x ∈ l) : x.V ≤ vCs l := by
  induction l with
  | nil => cases h
  | cons y r ih =>
    rw [vCs]
    rcases List.mem_cons.1 h with rfl | h
    · omega
    · have := ih h; omega
theorem cntE_V (k : Nat) : (∀ (x : Ex) (n : Int), x.sz ≤ k → cntE x n ≤ 4096 → n + x.sz ≤ cntE x n) ∧ (∀ (l : List Ex) (n : Int), szL l ≤ k → cntL l n ≤ 4096 → n + szL l ≤ cntL l n) := by
  induction k with
  | zero =>
    refine ⟨fun x n hk => by have := x.sz_args; omega, fun l n hk => ?_⟩
    cases l with
    | nil => simp [cntL, szL]
    | cons x r => rw [szL] at hk; have := x.sz_args; omega
  | succ k ih =>
    have h1 : ∀ (x : Ex) (n : Int), x.sz ≤ k + 1 → cntE x n ≤ 4096 → n + x.sz ≤ cntE x n := fun x n hk h => by
      rw [cntE_args] at h ⊢
      have := ih.2 x.args (n + 1) (by have := x.sz_args; omega) h
      have := x.sz_args
      omega
    refine ⟨h1, fun l => ?_⟩
    induction l with
    | nil => intro n _ _; simp [cntL, szL]
    | cons x r ihr =>
      intro n hk h
      rw [szL] at hk ⊢
      rw [cntL] at h ⊢
      split at h
      · omega
      · rename_i hn
        rw [if_neg hn]
        have a1 := cntL_ge r (cntE x n)
        have a2 := h1 x n (by omega) (by omega)
        have a3 := ihr (cntE x n) (by omega) h
        omega
theorem cntZ_V (x : Ex) (n : Int) : n ≤ cntZ x n ∧ (cntZ x n ≤ 4096 → n + zE x ≤ cntZ x n) := by
  refine ⟨cntZ_ge x n, fun h => ?_⟩
  unfold cntZ zE at *
  split at h
  · rename_i hz; simp [hz]
  · rename_i hz
    have := (cntE_V _).1 x n (Nat.le_refl _) h
    simp [hz]; omega
theorem cntS_V (k : Nat) : (∀ (s : St) (n : Int), s.sz ≤ k → n ≤ cntS s n ∧ (cntS s n ≤ 4096 → n + s.V ≤ cntS s n)) ∧ (∀ (l : List St) (n : Int), ssz l ≤ k → n ≤ cntSs l n ∧ (cntSs l n ≤ 4096 → n + vSs l ≤ cntSs l n)) := by
  have step : ∀ k, (∀ (s : St) (n : Int), s.sz ≤ k → n ≤ cntS s n ∧ (cntS s n ≤ 4096 → n + s.V ≤ cntS s n)) → ∀ (l : List St) (n : Int), ssz l ≤ k → n ≤ cntSs l n ∧ (cntSs l n ≤ 4096 → n + vSs l ≤ cntSs l n) := by
    intro k h1 l
    induction l with
    | nil => intro n _; simp only [cntSs, vSs]; omega
    | cons x r ihr =>
      intro n hk
      rw [ssz] at hk
      rw [vSs, cntSs]
      split
      · omega
      · have a1 := h1 x n (by omega)
        have a2 := ihr (cntS x n) (by omega)
        omega
  induction k with
  | zero =>
    have h0 : ∀ (s : St) (n : Int), s.sz ≤ 0 → n ≤ cntS s n ∧ (cntS s n ≤ 4096 → n + s.V ≤ cntS s n) := fun s n hk => by have := s.sz_eq; omega
    exact ⟨h0, step 0 h0⟩
  | succ k ih =>
    have h1 : ∀ (s : St) (n : Int), s.sz ≤ k + 1 → n ≤ cntS s n ∧ (cntS s n ≤ 4096 → n + s.V ≤ cntS s n) := by
      intro s n hk
      have hz := s.sz_eq
      have hc : ∀ (l : List Ca) (n : Int), csz l ≤ k → n ≤ cntCs l n ∧ (cntCs l n ≤ 4096 → n + vCs l ≤ cntCs l n) := by
        intro l
        induction l with
        | nil => intro n _; simp only [cntCs, vCs]; omega
        | cons c r ihr =>
          intro n hk
          rw [csz] at hk
          rw [cntCs, vCs, cntC_eq, c.V_eq]
          have a1 := ih.2 c.body n (by have := c.sz_eq; omega)
          have a2 := ihr (cntSs c.body n) (by omega)
          omega
      have e : cntS s n = cntSs s.els (cntCs s.cases (cntSs s.body (cntZ s.b (cntZ s.a (n + (1 + (s.cases.length : Int))))))) := by
        cases s; simp only [cntS, St.els, St.cases, St.body, St.a, St.b]
      rw [e, s.V_eq]
      have a1 := cntZ_V s.a (n + (1 + (s.cases.length : Int)))
      have a2 := cntZ_V s.b (cntZ s.a (n + (1 + (s.cases.length : Int))))
      have a3 := ih.2 s.body (cntZ s.b (cntZ s.a (n + (1 + (s.cases.length : Int))))) (by omega)
      have a4 := hc s.cases (cntSs s.body (cntZ s.b (cntZ s.a (n + (1 + (s.cases.length : Int)))))) (by omega)
      have a5 := ih.2 s.els (cntCs s.cases (cntSs s.body (cntZ s.b (cntZ s.a (n + (1 + (s.cases.length : Int))))))) (by omega)
      omega
    exact ⟨h1, step (k + 1) h1⟩
theorem cntF_V : ∀ (l : List Fu) (n : Int), n ≤ cntF l n ∧ (cntF l n ≤ 4096 → n + (l.map fun f => vSs f.body).sum ≤ cntF l n)
  | [], n => ⟨Int.le_refl _, fun _ => by simp [cntF]⟩
  | f :: r, n => by
    have a1 := (cntS_V _).2 f.body n (Nat.le_refl _)
    have a2 := cntF_V r (cntSs f.body n)
    rw [cntF, List.map_cons, List.sum_cons]
    omega
theorem whole_ok {p : Pr} (h : wholeZ p = 0) : p.widen.length ≤ 16 ∧ p.funcs.length ≤ 32 ∧ (p.funcs.map fun f => vSs f.body).sum ≤ 4096 := by
  have hn : p.widen.length ≤ 16 ∧ p.funcs.length ≤ 32 ∧ nodesZ p ≤ 4096 := by
    unfold wholeZ at h
    split at h
    · omega
    split at h
    · omega
    split at h
    · omega
    split at h
    · omega
    split at h
    · omega
    omega
  refine ⟨hn.1, hn.2.1, ?_⟩
  have h2 := hn.2.2
  unfold nodesZ at h2
  have := (cntF_V p.funcs 0).2 (by omega)
  omega
theorem sum_mem {l : List Fu} {f : Fu} (h : f ∈ l) : vSs f.body ≤ (l.map fun f => vSs f.body).sum := by
  induction l with
  | nil => cases h
  | cons y r ih =>
    rw [List.map_cons, List.sum_cons]
    rcases List.mem_cons.1 h with rfl | h
    · omega
    · have := ih h; omega
theorem okE_zE {x : Ex} (h : OkE x) : zE x = x.sz := by
  obtain ⟨kn, hk, h1, _⟩ := selfE_zero h.parts.1
  unfold zE
  rw [if_neg]
  intro hz
  simp only [zeroE, Bool.and_eq_true, beq_iff_eq] at hz
  omega
end Go.Proofs.YtbpemackmadhgaaDoor

/- How long the text of a right program is at most. -/
namespace Go.Proofs.YtbpemackmadhgaaDoor
open Go.RowKit Go.Sort

theorem lineB_len (d : Nat) (t : List UInt8) : (lineB d t).length = 2 * d + t.length + 1 := by simp [lineB]; omega
theorem txS_eq (s : St) (d : Nat) : txS s d =
    if s.kind = 1 then lineB d ([108, 101, 116, 32] ++ s.name.data.toList ++ [32, 61, 32] ++ txE s.a ++ [59])
    else if s.kind = 2 then lineB d ([108, 101, 116, 32] ++ s.name.data.toList ++ [91] ++ Lib.itoa s.n ++ [93, 59])
    else if s.kind = 3 then lineB d (s.name.data.toList ++ [32, 61, 32] ++ txE s.a ++ [59])
    else if s.kind = 4 then lineB d (s.name.data.toList ++ [91] ++ txE s.a ++ [93, 32, 61, 32] ++ txE s.b ++ [59])
    else if s.kind = 5 then lineB d ([105, 102, 32] ++ txE s.a ++ [32, 123]) ++ txSs s.body (d + 1) ++ (if s.els.length = 0 then [] else lineB d [125, 32, 101, 108, 115, 101, 32, 123] ++ txSs s.els (d + 1)) ++ lineB d [125]
    else if s.kind = 6 then lineB d ([115, 119, 105, 116, 99, 104, 32] ++ txE s.a ++ [32, 123]) ++ txCs s.cases (d + 1) ++ (if s.els.length = 0 then [] else lineB (d + 1) [101, 108, 115, 101, 32, 123] ++ txSs s.els (d + 2) ++ lineB (d + 1) [125]) ++ lineB d [125]
    else if s.kind = 7 then lineB d ([102, 111, 114, 32] ++ s.name.data.toList ++ [32, 105, 110, 32] ++ txE s.a ++ [46, 46] ++ txE s.b ++ [32, 123]) ++ txSs s.body (d + 1) ++ lineB d [125]
    else if s.kind = 8 then lineB d [98, 114, 101, 97, 107, 59]
    else if s.kind = 9 then lineB d ([114, 101, 116, 117, 114, 110, 32] ++ txE s.a ++ [59])
    else lineB d (txE s.a ++ [59]) := by
  cases s; rw [txS]; rfl
theorem txC_eq' (c : Ca) (d : Nat) : txC c d = lineB d ([99, 97, 115, 101, 32] ++ Lib.itoa c.n ++ [32, 123]) ++ txSs c.body (d + 1) ++ lineB d [125] := by
  cases c; simp only [txC, Ca.n, Ca.body]
theorem nm_len {s : ByteArray} (h : nameZ s = true) : s.data.toList.length ≤ 16 := by
  have := nameZ_len h
  rw [Array.length_toList]
  exact this

theorem txS_len {w : World} (k : Nat) : (∀ (s : St) (lv : Nat) (at_ : Int) (d : Nat), s.sz ≤ k → s.In w → (chkT s lv at_).1 = 0 → d ≤ 2 * lv + 20 → (txS s d).length ≤ 1000 * s.V) ∧
    (∀ (l : List St) (lv : Nat) (at_ : Int) (d : Nat), ssz l ≤ k → (∀ x ∈ l, x.In w) → (chkSs l lv at_).1 = 0 → d ≤ 2 * lv + 20 → (txSs l d).length ≤ 1000 * vSs l) := by
  have step : ∀ k, (∀ (s : St) (lv : Nat) (at_ : Int) (d : Nat), s.sz ≤ k → s.In w → (chkT s lv at_).1 = 0 → d ≤ 2 * lv + 20 → (txS s d).length ≤ 1000 * s.V) →
      ∀ (l : List St) (lv : Nat) (at_ : Int) (d : Nat), ssz l ≤ k → (∀ x ∈ l, x.In w) → (chkSs l lv at_).1 = 0 → d ≤ 2 * lv + 20 → (txSs l d).length ≤ 1000 * vSs l := by
    intro k h1 l
    induction l with
    | nil => intro lv at_ d _ _ _ _; simp [txSs]
    | cons x r ihr =>
      intro lv at_ d hk hin hc hd
      rw [ssz] at hk
      rw [chkSs] at hc
      obtain ⟨c1, c2⟩ := thenZ_ok hc
      have a1 := h1 x lv _ d (by omega) (hin x (by simp)) c1 hd
      have a2 := ihr lv _ d (by omega) (fun y hy => hin y (by simp [hy])) c2 hd
      rw [txSs, vSs, List.length_append]; omega
  induction k with
  | zero =>
    have h0 : ∀ (s : St) (lv : Nat) (at_ : Int) (d : Nat), s.sz ≤ 0 → s.In w → (chkT s lv at_).1 = 0 → d ≤ 2 * lv + 20 → (txS s d).length ≤ 1000 * s.V := fun s _ _ _ hk => by have := s.sz_eq; omega
    exact ⟨h0, step 0 h0⟩
  | succ k ih =>
    have h1 : ∀ (s : St) (lv : Nat) (at_ : Int) (d : Nat), s.sz ≤ k + 1 → s.In w → (chkT s lv at_).1 = 0 → d ≤ 2 * lv + 20 → (txS s d).length ≤ 1000 * s.V := by
      intro s lv at_ d hk hin hc hd
      obtain ⟨cs, ⟨ab, cb⟩, ⟨ac, cc⟩, ⟨ae, ce⟩⟩ := chkT_ok hc
      obtain ⟨hlv, hk1, hk2, hnm, hoa, hob⟩ := chkS_ok cs
      have hz := s.sz_eq
      have hi := St.in_iff.1 hin
      have hd2 : d ≤ 84 := by omega
      have lb : (txSs s.body (d + 1)).length ≤ 1000 * vSs s.body := ih.2 s.body (lv + 1) ab (d + 1) (by omega) hi.2.2.2.2.2.1.2 (by exact_mod_cast cb) (by omega)
      have le1 : (txSs s.els (d + 1)).length ≤ 1000 * vSs s.els := ih.2 s.els (lv + 1) ae (d + 1) (by omega) hi.2.2.2.2.2.2.1.2 (by exact_mod_cast ce) (by omega)
      have le2 : (txSs s.els (d + 2)).length ≤ 1000 * vSs s.els := ih.2 s.els (lv + 1) ae (d + 2) (by omega) hi.2.2.2.2.2.2.1.2 (by exact_mod_cast ce) (by omega)
      have lc : (txCs s.cases (d + 1)).length ≤ 1000 * (vCs s.cases + s.cases.length) := by
        have gen : ∀ (l : List Ca) (a : Int), csz l ≤ k → (∀ x ∈ l, x.In w) → (chkCs l ((lv + 1 : Nat) : Int) a).1 = 0 → (txCs l (d + 1)).length ≤ 1000 * (vCs l + l.length) := by
          intro l
          induction l with
          | nil => intro a _ _ _; simp [txCs]
          | cons c r ihr =>
            intro a hk hin hc
            rw [csz] at hk
            rw [chkCs] at hc
            obtain ⟨c1, c2⟩ := thenZ_ok hc
            rw [chkCa_eq] at c1
            have hci := Ca.in_iff.1 (hin c (by simp))
            have a1 := ih.2 c.body (lv + 1) a (d + 1 + 1) (by have := c.sz_eq; omega) hci.2.2 c1 (by omega)
            have a2 := ihr _ (by omega) (fun y hy => hin y (by simp [hy])) c2
            have a3 := Lib.itoa_length_le c.n hci.1.1 hci.1.2
            rw [txCs, vCs, c.V_eq, txC_eq']
            simp only [List.length_append, lineB_len, List.length_cons, List.length_nil]
            omega
        exact gen s.cases ac (by omega) hi.2.2.2.2.2.2.2.2 (by exact_mod_cast cc)
      have la : OkE s.a → (txE s.a).length + 4 ≤ 32 * zE s.a := fun h => by rw [okE_zE h]; exact txE_len _ s.a (Nat.le_refl _) hi.2.2.2.1 h
      have lbb : OkE s.b → (txE s.b).length + 4 ≤ 32 * zE s.b := fun h => by rw [okE_zE h]; exact txE_len _ s.b (Nat.le_refl _) hi.2.2.2.2.1 h
      have ln := Lib.itoa_length_le s.n hi.2.2.1.1 hi.2.2.1.2
      rw [s.V_eq, txS_eq]
      have hcase : s.kind = 1 ∨ s.kind = 2 ∨ s.kind = 3 ∨ s.kind = 4 ∨ s.kind = 5 ∨ s.kind = 6 ∨ s.kind = 7 ∨ s.kind = 8 ∨ s.kind = 9 ∨ s.kind = 10 := by omega
      rcases hcase with h | h | h | h | h | h | h | h | h | h <;> rw [h] at hnm hoa hob ⊢
      · have := la (hoa rfl)
        have := nm_len (hnm rfl)
        rw [if_pos rfl]
        simp only [List.length_append, lineB_len, List.length_cons, List.length_nil]; omega
      · have := nm_len (hnm rfl)
        rw [if_neg (show ¬ (2 : Int) = 1 by decide), if_pos rfl]
        simp only [List.length_append, lineB_len, List.length_cons, List.length_nil]; omega
      · have := la (hoa rfl)
        have := nm_len (hnm rfl)
        rw [if_neg (show ¬ (3 : Int) = 1 by decide), if_neg (show ¬ (3 : Int) = 2 by decide), if_pos rfl]
        simp only [List.length_append, lineB_len, List.length_cons, List.length_nil]; omega
      · have := la (hoa rfl)
        have := lbb (hob rfl)
        have := nm_len (hnm rfl)
        rw [if_neg (show ¬ (4 : Int) = 1 by decide), if_neg (show ¬ (4 : Int) = 2 by decide), if_neg (show ¬ (4 : Int) = 3 by decide), if_pos rfl]
        simp only [List.length_append, lineB_len, List.length_cons, List.length_nil]; omega
      · have := la (hoa rfl)
        rw [if_neg (show ¬ (5 : Int) = 1 by decide), if_neg (show ¬ (5 : Int) = 2 by decide), if_neg (show ¬ (5 : Int) = 3 by decide), if_neg (show ¬ (5 : Int) = 4 by decide), if_pos rfl]
        by_cases h0 : s.els.length = 0
        · rw [if_pos h0]; simp only [List.length_append, lineB_len, List.length_cons, List.length_nil]; omega
        · rw [if_neg h0]; simp only [List.length_append, lineB_len, List.length_cons, List.length_nil]; omega
      · have := la (hoa rfl)
        rw [if_neg (show ¬ (6 : Int) = 1 by decide), if_neg (show ¬ (6 : Int) = 2 by decide), if_neg (show ¬ (6 : Int) = 3 by decide), if_neg (show ¬ (6 : Int) = 4 by decide), if_neg (show ¬ (6 : Int) = 5 by decide), if_pos rfl]
        by_cases h0 : s.els.length = 0
        · rw [if_pos h0]; simp only [List.length_append, lineB_len, List.length_cons, List.length_nil]; omega
        · rw [if_neg h0]; simp only [List.length_append, lineB_len, List.length_cons, List.length_nil]; omega
      · have := la (hoa rfl)
        have := lbb (hob rfl)
        have := nm_len (hnm rfl)
        rw [if_neg (show ¬ (7 : Int) = 1 by decide), if_neg (show ¬ (7 : Int) = 2 by decide), if_neg (show ¬ (7 : Int) = 3 by decide), if_neg (show ¬ (7 : Int) = 4 by decide), if_neg (show ¬ (7 : Int) = 5 by decide), if_neg (show ¬ (7 : Int) = 6 by decide), if_pos rfl]
        simp only [List.length_append, lineB_len, List.length_cons, List.length_nil]; omega
      · rw [if_neg (show ¬ (8 : Int) = 1 by decide), if_neg (show ¬ (8 : Int) = 2 by decide), if_neg (show ¬ (8 : Int) = 3 by decide), if_neg (show ¬ (8 : Int) = 4 by decide), if_neg (show ¬ (8 : Int) = 5 by decide), if_neg (show ¬ (8 : Int) = 6 by decide), if_neg (show ¬ (8 : Int) = 7 by decide), if_pos rfl]
        simp only [lineB_len, List.length_cons, List.length_nil]; omega
      · have := la (hoa rfl)
        rw [if_neg (show ¬ (9 : Int) = 1 by decide), if_neg (show ¬ (9 : Int) = 2 by decide), if_neg (show ¬ (9 : Int) = 3 by decide), if_neg (show ¬ (9 : Int) = 4 by decide), if_neg (show ¬ (9 : Int) = 5 by decide), if_neg (show ¬ (9 : Int) = 6 by decide), if_neg (show ¬ (9 : Int) = 7 by decide), if_neg (show ¬ (9 : Int) = 8 by decide), if_pos rfl]
        simp only [List.length_append, lineB_len, List.length_cons, List.length_nil]; omega
      · have := la (hoa rfl)
        rw [if_neg (show ¬ (10 : Int) = 1 by decide), if_neg (show ¬ (10 : Int) = 2 by decide), if_neg (show ¬ (10 : Int) = 3 by decide), if_neg (show ¬ (10 : Int) = 4 by decide), if_neg (show ¬ (10 : Int) = 5 by decide), if_neg (show ¬ (10 : Int) = 6 by decide), if_neg (show ¬ (10 : Int) = 7 by decide), if_neg (show ¬ (10 : Int) = 8 by decide), if_neg (show ¬ (10 : Int) = 9 by decide)]
        simp only [List.length_append, lineB_len, List.length_cons, List.length_nil]; omega
    exact ⟨h1, step (k + 1) h1⟩
end Go.Proofs.YtbpemackmadhgaaDoor

/- tree.Print, where nothing is wrong with the form. -/
namespace Go.Proofs.YtbpemackmadhgaaDoor
open Go.RowKit Go.Sort

theorem heap3 {w w1 : World} {c1 c2 : Array Value} {t1 t2 : TypeId} (hb : Below ((w.alloc (.cells c1 t1)).alloc (.cells c2 t2)).heap.size ((w.alloc (.cells c1 t1)).alloc (.cells c2 t2)) w1) :
    w1.heap[w.heap.size]? = some (.cells c1 t1 (0, 0)) ∧ w1.heap[w.heap.size + 1]? = some (.cells c2 t2 (0, 0)) := by
  have h1 : ((w.alloc (.cells c1 t1)).alloc (.cells c2 t2)).heap[w.heap.size]? = some (.cells c1 t1 (0, 0)) := (Lib.alloc_old _ _ _ (by simp)).trans (heap_alloc_new w _)
  have h2 : ((w.alloc (.cells c1 t1)).alloc (.cells c2 t2)).heap[w.heap.size + 1]? = some (.cells c2 t2 (0, 0)) := by
    have := heap_alloc_new (w.alloc (.cells c1 t1)) (.cells c2 t2)
    rwa [World.size_alloc] at this
  exact ⟨(hb.block _ (by simp; omega)).trans h1, (hb.block _ (by simp)).trans h2⟩

set_option maxHeartbeats 2000000 in
set_option maxRecDepth 100000 in
theorem string_oth (B b : Nat) (l : List UInt8) (d : Int) (w : World) (h : Pg B b (Lib.byteCells l) d w) :
    Calls Tryd.prog 25 #[.pointer (some ⟨b, 0, none⟩)] w fun e w' => e = .returned (.string ⟨l.toArray⟩) ∧ Below B w w' ∧ Oth b w w' := by
  obtain ⟨p, h1⟩ := h.some
  clear h
  obtain ⟨hB, v, hbk, hown, hne, hnil⟩ := h1
  rw [Lib.byteCells_length] at hown
  by_cases h0 : l = []
  · subst h0
    obtain rfl := hnil rfl
    have c1 : w.drew.cell? ⟨b, 1, none⟩ = some (.slice none 0 0) := by
      have : w.drew.heap[b]? = some (.cells #[p, .slice none 0 0, .int .i64 d] 60 (0, 0)) := hbk
      rw [Lib.cell_of_heap this]; rfl
    have hSD : (Builtin.unsafeSliceData_ #[56] 85 #[.slice none 0 0]).run Tryd.prog w.drew = .ok (.pointer none) w.drew := rfl
    have hUS : (Builtin.unsafeString_ #[85, 3] 9 #[.pointer none, .int .i64 0]).run Tryd.prog w.drew = .ok (.string .empty) w.drew := rfl
    clear hown hbk hne hnil
    go_enter Tryd.func25, Tryd.ntmps25
    go_wp2
    go_region
    all_goals (go_wp2; go_ret; exact ⟨rfl, Below.drew (Below.refl B w), (Lib.OthersKept.refl _ _ w).drew⟩)
  · have hl0 : l.length ≠ 0 := by simpa using h0
    obtain ⟨g, cap, cur, rfl, hbg, hg, hnc, hcm, hcs, htake⟩ : ∃ g cap cur, v = .slice (some ⟨g, 0, none⟩) l.length cap ∧ B ≤ g ∧ w.heap[g]? = some (.cells cur 5 (0, 0)) ∧ l.length ≤ cap ∧ cap ≤ maxLen ∧ cur.size = cap * 1 ∧ cur.toList.take (l.length * 1) = Lib.byteCells l := by
      rcases hown.2 with ⟨_, hz⟩ | ⟨g, cap, cur, hv, r⟩
      · exact absurd hz hl0
      · exact ⟨g, cap, cur, hv, r⟩
    have c1 : w.drew.cell? ⟨b, 1, none⟩ = some (.slice (some ⟨g, 0, none⟩) l.length cap) := by
      have : w.drew.heap[b]? = some (.cells #[p, .slice (some ⟨g, 0, none⟩) l.length cap, .int .i64 d] 60 (0, 0)) := hbk
      rw [Lib.cell_of_heap this]; rfl
    have hSD : (Builtin.unsafeSliceData_ #[56] 85 #[.slice (some ⟨g, 0, none⟩) l.length cap]).run Tryd.prog w.drew = .ok (.pointer (some ⟨g, 0, none⟩)) w.drew :=
      Lib.run_unsafeSliceData_row _ _ _ _ _ _ (by omega)
    have hUS : (Builtin.unsafeString_ #[85, 3] 9 #[.pointer (some ⟨g, 0, none⟩), .int .i64 l.length]).run Tryd.prog w.drew = .ok (.string ⟨l.toArray⟩) (w.drew.freeze ⟨g, 0, none⟩ l.length) := by
      refine Lib.run_unsafeString_row w.drew 85 3 9 5 Tryd.underlying85 Tryd.cellsByte g cur.size (by have hg' : w.drew.heap[g]? = some (.cells cur 5 (0, 0)) := hg; simp [World.shape?, hg']) l h0 (by omega) (by unfold maxLen at hcm; omega) ?_
      intro j x hx
      exact hown.cells (g := g) rfl j (.int .u8 x.toNat) (by simp [Lib.byteCells, hx])
    have HG : Hid (w.heap[g]? = some (.cells cur 5 (0, 0))) := hg
    clear hown hbk hne hnil hg htake
    go_enter Tryd.func25, Tryd.ntmps25
    go_wp2
    go_region
    all_goals (go_wp2; go_ret; exact ⟨rfl, Lib.below_freeze (Below.drew (Below.refl B w)) (p := ⟨g, 0, none⟩) hbg _, Lib.OthersKept.freeze ((Lib.OthersKept.refl _ _ w).drew) ⟨g, 0, none⟩ _ ⟨_, _, HG.out⟩⟩)
set_option maxRecDepth 100000 in
set_option maxHeartbeats 8000000 in
theorem print_ok (p : Pr) (w : World) (hin : p.In w) (ht : Tabs w) (hnt : NumT w) (hck : checkZ p = (0, 0, 0)) (hw16 : p.widen.length ≤ 16) (hf : ∀ f ∈ p.funcs, FnPr w f) (hlen : (txP p).length ≤ 65536) :
    Calls Tryd.prog 14 #[p.val] w fun e w' => e = .returned (.tuple #[sB (txP p), fltV 0 0 0]) ∧ Below w.heap.size w w' := by
  have HC : Hid (∀ w', Below w.heap.size w w' → Calls Tryd.prog 15 #[p.val] w' fun e w'' => e = .returned (fltV 0 0 0) ∧ Below w'.heap.size w' w'') := fun w' hb => by
    have := check_any p w' (hin.stay hb) (ht.stay hb)
    rw [hck] at this; exact this
  have HP : Hid (∀ b w', Below w.heap.size w w' → PgT w.heap.size b [] 0 w' → Calls Tryd.prog 23 #[.pointer (some ⟨b, 0, none⟩), p.val] w' fun e w'' => e = .returned (.tuple #[]) ∧ PgT w.heap.size b (txP p) 0 w'' ∧ Below w.heap.size w' w'' ∧ Oth b w' w'') := fun b w' hb hp => program_any w b w' p hb hp hin hnt hw16 hf (by omega)
  clear hin ht hnt hck hf
  unfold Pr.val at HC HP ⊢
  have hb1 := ((Below.refl _ w).alloc (Nat.le_refl _) (.cells #[.slice p.wa p.widen.length p.wc, .slice p.fa p.funcs.length p.fc] 26)).alloc (by simp) (.cells #[.int .i64 0, .int .i64 0, .int .i64 0] 33)
  go_enter Tryd.func14, Tryd.ntmps14
  go_wp2_with fail
  refine (HC.out _ hb1).mono ?_
  rintro e w1 ⟨rfl, hbc⟩
  obtain ⟨k1, k2⟩ := heap3 hbc
  have hb2 := Below.on hb1 hbc
  have hs1 : w.heap.size + 1 + 1 ≤ w1.heap.size := by have := hbc.size; simp at this; omega
  have c0 : w1.cell? ⟨w.heap.size, 0, none⟩ = some (.slice p.wa p.widen.length p.wc) := by rw [Lib.cell_of_heap k1]; rfl
  have c1 : w1.cell? ⟨w.heap.size, 1, none⟩ = some (.slice p.fa p.funcs.length p.fc) := by rw [Lib.cell_of_heap k1]; rfl
  have K2 : Hid (w1.heap[w.heap.size + 1]? = some (.cells #[.int .i64 0, .int .i64 0, .int .i64 0] 33 (0, 0))) := k2
  have hlt0 : w.heap.size < w1.heap.size := by omega
  have hlt1 : w.heap.size + 1 < w1.heap.size := by omega
  clear k1 k2 hbc hb1
  go_wp2_with fail
  have hbx := ((Below.refl _ w1).alloc (Nat.le_refl _) (.cells #[.int .i64 0, .int .i64 0, .int .i64 0] 33)).alloc (by simp) (.cells #[.pointer none, .slice none 0 0, .int .i64 0] 60)
  have hbn : ((w1.alloc (.cells #[.int .i64 0, .int .i64 0, .int .i64 0] 33)).alloc (.cells #[.pointer none, .slice none 0 0, .int .i64 0] 60)).heap[w1.heap.size + 1]? = some (.cells #[.pointer none, .slice none 0 0, .int .i64 0] 60 (0, 0)) := by
    have := heap_alloc_new (w1.alloc (.cells #[.int .i64 0, .int .i64 0, .int .i64 0] 33)) (.cells #[.pointer none, .slice none 0 0, .int .i64 0] 60)
    rwa [World.size_alloc] at this
  have hpg : PgT w.heap.size (w1.heap.size + 1) [] 0 ((w1.alloc (.cells #[.int .i64 0, .int .i64 0, .int .i64 0] 33)).alloc (.cells #[.pointer none, .slice none 0 0, .int .i64 0] 60)) :=
    .inl ⟨by omega, .slice none 0 0, hbn, World.ownsRow_nil _ _ _ _, by simp [Value.ownBlock], fun _ => rfl⟩
  have K3 : Hid (((w1.alloc (.cells #[.int .i64 0, .int .i64 0, .int .i64 0] 33)).alloc (.cells #[.pointer none, .slice none 0 0, .int .i64 0] 60)).heap[w.heap.size + 1]? = some (.cells #[.int .i64 0, .int .i64 0, .int .i64 0] 33 (0, 0))) := (hbx.block _ hlt1).trans K2.out
  have hbb := Below.on hb2 hbx
  refine (HP.out _ _ hbb hpg).mono ?_
  rintro e w2 ⟨rfl, hp2, hb3, ho3⟩
  have HP2 : Hid (PgT w.heap.size (w1.heap.size + 1) (txP p) 0 w2) := hp2
  have K4 : w2.heap[w.heap.size + 1]? = some (.cells #[.int .i64 0, .int .i64 0, .int .i64 0] 33 (0, 0)) := ho3 _ _ K3.out (by simp; omega) (fun c fz e => by cases e)
  have hb4 : Below w.heap.size w w2 := hbb.trans hb3
  clear hp2 hb3 ho3 hbn hpg hbx hbb c0 c1 K3 K2 hb2
  go_wp2_with fail
  refine (len_any _ _ _ _ _ HP2.out).mono ?_
  rintro e w3 ⟨rfl, rfl⟩
  have HL : Hid (((Lib.byteCells (txP p)).length : Int) ≤ 65536) := by show _ ≤ _; rw [Lib.byteCells_length]; omega
  have hll := HL.out
  generalize ((Lib.byteCells (txP p)).length : Int) = ln at hll ⊢
  have hll2 : ¬ 65536 < ln := by omega
  go_wp2_with fail
  refine (string_oth _ _ (txP p) _ _ HP2.out).mono ?_
  rintro e w4 ⟨rfl, hb5, ho5⟩
  have K5 : w4.heap[w.heap.size + 1]? = some (.cells #[.int .i64 0, .int .i64 0, .int .i64 0] 33 (0, 0)) := ho5 _ _ K4 (by simp; omega) (fun c fz e => by cases e)
  have r0 : w4.cell? ⟨w.heap.size + 1, 0, none⟩ = some (.int .i64 0) := by rw [Lib.cell_of_heap K5]; rfl
  have r1 : w4.cell? ⟨w.heap.size + 1, 1, none⟩ = some (.int .i64 0) := by rw [Lib.cell_of_heap K5]; rfl
  have r2 : w4.cell? ⟨w.heap.size + 1, 2, none⟩ = some (.int .i64 0) := by rw [Lib.cell_of_heap K5]; rfl
  have q0 : w4.frozen? ⟨w.heap.size + 1, 0, none⟩ = false := Lib.frozen_of_heap K5 0
  have q1 : w4.frozen? ⟨w.heap.size + 1, 1, none⟩ = false := Lib.frozen_of_heap K5 1
  have q2 : w4.frozen? ⟨w.heap.size + 1, 2, none⟩ = false := Lib.frozen_of_heap K5 2
  have hb6 := hb4.trans hb5
  clear K4 K5 ho5 hb5 hb4
  go_wp2_with fail
  refine bodyPost_ret (v := .tuple #[sB (txP p), fltV 0 0 0]) (by simp [results, Tryd.results14, go_sem, r0, r1, r2]) rfl ⟨rfl, below_set3 hb6 (by omega) _ _ _⟩
end Go.Proofs.YtbpemackmadhgaaDoor

/- tree.Print where the text is too long, and where Check finds something wrong. -/
namespace Go.Proofs.YtbpemackmadhgaaDoor
open Go.RowKit Go.Sort

set_option maxRecDepth 100000 in
set_option maxHeartbeats 8000000 in
theorem print_long (p : Pr) (w : World) (hin : p.In w) (ht : Tabs w) (hnt : NumT w) (hck : checkZ p = (0, 0, 0)) (hw16 : p.widen.length ≤ 16) (hf : ∀ f ∈ p.funcs, FnPr w f) (hlen : 65536 < (txP p).length) (hlen2 : (txP p).length ≤ 140737488355328) :
    Calls Tryd.prog 14 #[p.val] w fun e w' => e = .returned (.tuple #[sB [], fltV 4 0 0]) ∧ Below w.heap.size w w' := by
  have HC : Hid (∀ w', Below w.heap.size w w' → Calls Tryd.prog 15 #[p.val] w' fun e w'' => e = .returned (fltV 0 0 0) ∧ Below w'.heap.size w' w'') := fun w' hb => by
    have := check_any p w' (hin.stay hb) (ht.stay hb)
    rw [hck] at this; exact this
  have HP : Hid (∀ b w', Below w.heap.size w w' → PgT w.heap.size b [] 0 w' → Calls Tryd.prog 23 #[.pointer (some ⟨b, 0, none⟩), p.val] w' fun e w'' => e = .returned (.tuple #[]) ∧ PgT w.heap.size b (txP p) 0 w'' ∧ Below w.heap.size w' w'' ∧ Oth b w' w'') := fun b w' hb hp => program_any w b w' p hb hp hin hnt hw16 hf hlen2
  clear hin ht hnt hck hf
  unfold Pr.val at HC HP ⊢
  have hb1 := ((Below.refl _ w).alloc (Nat.le_refl _) (.cells #[.slice p.wa p.widen.length p.wc, .slice p.fa p.funcs.length p.fc] 26)).alloc (by simp) (.cells #[.int .i64 0, .int .i64 0, .int .i64 0] 33)
  go_enter Tryd.func14, Tryd.ntmps14
  go_wp2_with fail
  refine (HC.out _ hb1).mono ?_
  rintro e w1 ⟨rfl, hbc⟩
  obtain ⟨k1, k2⟩ := heap3 hbc
  have hb2 := Below.on hb1 hbc
  have hs1 : w.heap.size + 1 + 1 ≤ w1.heap.size := by have := hbc.size; simp at this; omega
  have c0 : w1.cell? ⟨w.heap.size, 0, none⟩ = some (.slice p.wa p.widen.length p.wc) := by rw [Lib.cell_of_heap k1]; rfl
  have c1 : w1.cell? ⟨w.heap.size, 1, none⟩ = some (.slice p.fa p.funcs.length p.fc) := by rw [Lib.cell_of_heap k1]; rfl
  have K2 : Hid (w1.heap[w.heap.size + 1]? = some (.cells #[.int .i64 0, .int .i64 0, .int .i64 0] 33 (0, 0))) := k2
  have hlt0 : w.heap.size < w1.heap.size := by omega
  have hlt1 : w.heap.size + 1 < w1.heap.size := by omega
  clear k1 k2 hbc hb1
  go_wp2_with fail
  have hbx := ((Below.refl _ w1).alloc (Nat.le_refl _) (.cells #[.int .i64 0, .int .i64 0, .int .i64 0] 33)).alloc (by simp) (.cells #[.pointer none, .slice none 0 0, .int .i64 0] 60)
  have hbn : ((w1.alloc (.cells #[.int .i64 0, .int .i64 0, .int .i64 0] 33)).alloc (.cells #[.pointer none, .slice none 0 0, .int .i64 0] 60)).heap[w1.heap.size + 1]? = some (.cells #[.pointer none, .slice none 0 0, .int .i64 0] 60 (0, 0)) := by
    have := heap_alloc_new (w1.alloc (.cells #[.int .i64 0, .int .i64 0, .int .i64 0] 33)) (.cells #[.pointer none, .slice none 0 0, .int .i64 0] 60)
    rwa [World.size_alloc] at this
  have hpg : PgT w.heap.size (w1.heap.size + 1) [] 0 ((w1.alloc (.cells #[.int .i64 0, .int .i64 0, .int .i64 0] 33)).alloc (.cells #[.pointer none, .slice none 0 0, .int .i64 0] 60)) :=
    .inl ⟨by omega, .slice none 0 0, hbn, World.ownsRow_nil _ _ _ _, by simp [Value.ownBlock], fun _ => rfl⟩
  have K3 : Hid (((w1.alloc (.cells #[.int .i64 0, .int .i64 0, .int .i64 0] 33)).alloc (.cells #[.pointer none, .slice none 0 0, .int .i64 0] 60)).heap[w.heap.size + 1]? = some (.cells #[.int .i64 0, .int .i64 0, .int .i64 0] 33 (0, 0))) := (hbx.block _ hlt1).trans K2.out
  have hbb := Below.on hb2 hbx
  refine (HP.out _ _ hbb hpg).mono ?_
  rintro e w2 ⟨rfl, hp2, hb3, ho3⟩
  have HP2 : Hid (PgT w.heap.size (w1.heap.size + 1) (txP p) 0 w2) := hp2
  have K4 : w2.heap[w.heap.size + 1]? = some (.cells #[.int .i64 0, .int .i64 0, .int .i64 0] 33 (0, 0)) := ho3 _ _ K3.out (by simp; omega) (fun c fz e => by cases e)
  have hb4 : Below w.heap.size w w2 := hbb.trans hb3
  clear hp2 hb3 ho3 hbn hpg hbx hbb c0 c1 K3 K2 hb2
  go_wp2_with fail
  refine (len_any _ _ _ _ _ HP2.out).mono ?_
  rintro e w3 ⟨rfl, rfl⟩
  have HL : Hid (65536 < ((Lib.byteCells (txP p)).length : Int)) := by show _ < _; rw [Lib.byteCells_length]; omega
  have hll := HL.out
  generalize ((Lib.byteCells (txP p)).length : Int) = ln at hll ⊢
  have r0 : w3.cell? ⟨w.heap.size + 1, 0, none⟩ = some (.int .i64 0) := by rw [Lib.cell_of_heap K4]; rfl
  have r1 : w3.cell? ⟨w.heap.size + 1, 1, none⟩ = some (.int .i64 0) := by rw [Lib.cell_of_heap K4]; rfl
  have r2 : w3.cell? ⟨w.heap.size + 1, 2, none⟩ = some (.int .i64 0) := by rw [Lib.cell_of_heap K4]; rfl
  have q0 : w3.frozen? ⟨w.heap.size + 1, 0, none⟩ = false := Lib.frozen_of_heap K4 0
  have q1 : w3.frozen? ⟨w.heap.size + 1, 1, none⟩ = false := Lib.frozen_of_heap K4 1
  have q2 : w3.frozen? ⟨w.heap.size + 1, 2, none⟩ = false := Lib.frozen_of_heap K4 2
  clear K4
  go_wp2_with fail
  refine bodyPost_ret (v := .tuple #[sB [], fltV 4 0 0]) (by simp [results, Tryd.results14, go_sem, r0, r1, r2]) rfl ⟨rfl, below_set3 hb4 (by omega) _ _ _⟩

set_option maxRecDepth 100000 in
set_option maxHeartbeats 8000000 in
theorem print_bad (p : Pr) (w : World) (hin : p.In w) (ht : Tabs w) (hck : (checkZ p).1 ≠ 0) :
    Calls Tryd.prog 14 #[p.val] w fun e w' => e = .returned (.tuple #[sB [], fltV (checkZ p).1 (checkZ p).2.1 (checkZ p).2.2]) ∧ Below w.heap.size w w' := by
  have HC : Hid (∀ w', Below w.heap.size w w' → Calls Tryd.prog 15 #[p.val] w' fun e w'' => e = .returned (fltV (checkZ p).1 (checkZ p).2.1 (checkZ p).2.2) ∧ Below w'.heap.size w' w'') := fun w' hb => check_any p w' (hin.stay hb) (ht.stay hb)
  clear hin ht
  generalize (checkZ p).1 = e0 at *
  generalize (checkZ p).2.1 = e1 at *
  generalize (checkZ p).2.2 = e2 at *
  have hcb : (e0 != 0) = true := by simpa using hck
  unfold Pr.val at HC ⊢
  have hb1 := ((Below.refl _ w).alloc (Nat.le_refl _) (.cells #[.slice p.wa p.widen.length p.wc, .slice p.fa p.funcs.length p.fc] 26)).alloc (by simp) (.cells #[.int .i64 0, .int .i64 0, .int .i64 0] 33)
  go_enter Tryd.func14, Tryd.ntmps14
  go_wp2_with fail
  refine (HC.out _ hb1).mono ?_
  rintro e w1 ⟨rfl, hbc⟩
  obtain ⟨k1, k2⟩ := heap3 hbc
  have hb2 := Below.on hb1 hbc
  have hs1 : w.heap.size + 1 + 1 ≤ w1.heap.size := by have := hbc.size; simp at this; omega
  have r0 : w1.cell? ⟨w.heap.size + 1, 0, none⟩ = some (.int .i64 0) := by rw [Lib.cell_of_heap k2]; rfl
  have r1 : w1.cell? ⟨w.heap.size + 1, 1, none⟩ = some (.int .i64 0) := by rw [Lib.cell_of_heap k2]; rfl
  have r2 : w1.cell? ⟨w.heap.size + 1, 2, none⟩ = some (.int .i64 0) := by rw [Lib.cell_of_heap k2]; rfl
  have hne1 : w.heap.size + 1 ≠ w1.heap.size := by omega
  have hne2 : w1.heap.size ≠ w.heap.size + 1 := by omega
  have g0 : (w1.alloc (.cells #[.int .i64 e0, .int .i64 e1, .int .i64 e2] 33)).cell? ⟨w.heap.size + 1, 0, none⟩ = some (.int .i64 0) := (World.cell?_alloc_past _ _ _ (by show w.heap.size + 1 < _; omega)).trans r0
  have g1 : (w1.alloc (.cells #[.int .i64 e0, .int .i64 e1, .int .i64 e2] 33)).cell? ⟨w.heap.size + 1, 1, none⟩ = some (.int .i64 0) := (World.cell?_alloc_past _ _ _ (by show w.heap.size + 1 < _; omega)).trans r1
  have g2 : (w1.alloc (.cells #[.int .i64 e0, .int .i64 e1, .int .i64 e2] 33)).cell? ⟨w.heap.size + 1, 2, none⟩ = some (.int .i64 0) := (World.cell?_alloc_past _ _ _ (by show w.heap.size + 1 < _; omega)).trans r2
  obtain ⟨W2, hW2⟩ : ∃ W2, w1.alloc (.cells #[.int .i64 e0, .int .i64 e1, .int .i64 e2] 33) = W2 := ⟨_, rfl⟩
  have HW2 := show Hid _ from hW2
  have s0 : W2.cell? ⟨w1.heap.size, 0, none⟩ = some (.int .i64 e0) := by rw [← hW2, World.cell?_alloc_at _ _ _ _ rfl]; rfl
  have s1 : W2.cell? ⟨w1.heap.size, 1, none⟩ = some (.int .i64 e1) := by rw [← hW2, World.cell?_alloc_at _ _ _ _ rfl]; rfl
  have s2 : W2.cell? ⟨w1.heap.size, 2, none⟩ = some (.int .i64 e2) := by rw [← hW2, World.cell?_alloc_at _ _ _ _ rfl]; rfl
  have kk : W2.heap[w.heap.size + 1]? = some (.cells #[.int .i64 0, .int .i64 0, .int .i64 0] 33 (0, 0)) := by rw [← hW2, Below.heap_alloc _ _ _ (by omega)]; exact k2
  rw [hW2] at g0 g1 g2
  have q0 : W2.frozen? ⟨w.heap.size + 1, 0, none⟩ = false := Lib.frozen_of_heap kk 0
  have q1 : W2.frozen? ⟨w.heap.size + 1, 1, none⟩ = false := Lib.frozen_of_heap kk 1
  have q2 : W2.frozen? ⟨w.heap.size + 1, 2, none⟩ = false := Lib.frozen_of_heap kk 2
  have hb3 : Below w.heap.size w W2 := by rw [← hW2]; exact hb2.alloc (by omega) _
  clear hW2 kk k1 k2 hbc hb1 r0 r1 r2
  go_wp2_with fail
  rw [HW2.out]
  clear HW2
  have d0 : W2.drew.cell? ⟨w.heap.size + 1, 0, none⟩ = some (.int .i64 0) := g0
  have d1 : W2.drew.cell? ⟨w.heap.size + 1, 1, none⟩ = some (.int .i64 0) := g1
  have d2 : W2.drew.cell? ⟨w.heap.size + 1, 2, none⟩ = some (.int .i64 0) := g2
  go_region
  all_goals go_wp2_with fail
  all_goals refine bodyPost_ret (v := .tuple #[sB [], fltV e0 e1 e2]) (by simp [results, Tryd.results14, go_sem, g0, g1, g2]) rfl ⟨rfl, ?_⟩
  all_goals first | exact below_set3 hb3.drew (by omega) _ _ _ | exact (below_set3 hb3 (by omega) _ _ _).drew
end Go.Proofs.YtbpemackmadhgaaDoor

/- Every statement of a right program is written; tree.Print for every program. -/
namespace Go.Proofs.YtbpemackmadhgaaDoor
open Go.RowKit Go.Sort

theorem stmt_prints {w0 : World} (ht : Tabs w0) (hnt : NumT w0) (k : Nat) : ∀ (s : St) (lv : Nat) (at_ : Int), s.sz ≤ k → s.In w0 → (chkT s lv at_).1 = 0 → s.V ≤ 5000 → StmtD w0 (2 * lv) s := by
  induction k with
  | zero => intro s lv at_ hk; have := s.sz_eq; omega
  | succ k ih =>
    intro s lv at_ hk hin hc hV
    obtain ⟨cs, ⟨ab, cb⟩, ⟨ac, cc⟩, ⟨ae, ce⟩⟩ := chkT_ok hc
    obtain ⟨hlv, hk1, hk2, hnm, hoa, hob⟩ := chkS_ok cs
    have hz := s.sz_eq
    have hv := s.V_eq
    have hi := St.in_iff.1 hin
    have hlv' : lv ≤ 32 := by omega
    have sb : ∀ x ∈ s.body, StmtD w0 (2 * lv + 2) x := fun x hx => by
      obtain ⟨a, ha⟩ := chkSs_ok cb x hx
      exact ih x (lv + 1) a (by have := ssz_mem hx; omega) (hi.2.2.2.2.2.1.2 x hx) (by exact_mod_cast ha) (by have := vSs_mem hx; omega)
    have se : ∀ x ∈ s.els, StmtD w0 (2 * lv + 2) x := fun x hx => by
      obtain ⟨a, ha⟩ := chkSs_ok ce x hx
      exact ih x (lv + 1) a (by have := ssz_mem hx; omega) (hi.2.2.2.2.2.2.1.2 x hx) (by exact_mod_cast ha) (by have := vSs_mem hx; omega)
    have sc : ∀ c ∈ s.cases, ∀ x ∈ c.body, StmtD w0 (2 * lv + 2) x := fun c hcm x hx => by
      obtain ⟨a1, ha1⟩ := chkCs_ok cc c hcm
      obtain ⟨a, ha⟩ := chkSs_ok ha1 x hx
      have h1 := csz_mem hcm
      have h2 := c.sz_eq
      have h3 := vCs_mem hcm
      have h4 := c.V_eq
      exact ih x (lv + 1) a (by have := ssz_mem hx; omega) ((Ca.in_iff.1 (hi.2.2.2.2.2.2.2.2 c hcm)).2.2 x hx) (by exact_mod_cast ha) (by have := vSs_mem hx; omega)
    have za : OkE s.a → s.a.sz ≤ 1000000 := fun h => by have := okE_zE h; omega
    have zb : OkE s.b → s.b.sz ≤ 1000000 := fun h => by have := okE_zE h; omega
    have hcase : s.kind = 1 ∨ s.kind = 2 ∨ s.kind = 3 ∨ s.kind = 4 ∨ s.kind = 5 ∨ s.kind = 6 ∨ s.kind = 7 ∨ s.kind = 8 ∨ s.kind = 9 ∨ s.kind = 10 := by omega
    rcases hcase with h | h | h | h | h | h | h | h | h | h <;> rw [h] at hoa hob
    · exact stmtD_le (stmt1 w0 s h hin ht hnt (hoa rfl) (za (hoa rfl))) (by omega)
    · exact stmtD_le (stmt2 w0 s h hin hnt) (by omega)
    · exact stmtD_le (stmt3 w0 s h hin ht hnt (hoa rfl) (za (hoa rfl))) (by omega)
    · exact stmtD_le (stmt4 w0 s h hin ht hnt (hoa rfl) (za (hoa rfl)) (hob rfl) (zb (hob rfl))) (by omega)
    · exact stmt5 w0 s h hin ht hnt (hoa rfl) (za (hoa rfl)) (2 * lv) (by omega) (fun x hx => stmtD_le (sb x hx) (by omega)) (fun x hx => stmtD_le (se x hx) (by omega))
    · exact stmt6 w0 s h hin ht hnt (hoa rfl) (za (hoa rfl)) (2 * lv) (by omega) sc se
    · exact stmt7 w0 s h hin ht hnt (hoa rfl) (za (hoa rfl)) (hob rfl) (zb (hob rfl)) (2 * lv) (by omega) (fun x hx => stmtD_le (sb x hx) (by omega))
    · exact stmtD_le (stmt8 w0 s h) (by omega)
    · exact stmtD_le (stmt9 w0 s h hin ht hnt (hoa rfl) (za (hoa rfl))) (by omega)
    · exact stmtD_le (stmt10 w0 s h hin ht hnt (hoa rfl) (za (hoa rfl))) (by omega)

theorem chkFs_ok : ∀ {l : List Fu} {i : Int}, (chkFs l i).1 = 0 → chkFs l i = (0, 0, 0) ∧ ∀ f ∈ l, (chkF f).1 = 0
  | [], _, _ => ⟨rfl, fun f hf => by cases hf⟩
  | f :: r, i, h => by
    rw [chkFs] at h ⊢
    split at h
    · exact absurd h (by assumption)
    · rename_i h0
      obtain ⟨h1, h2⟩ := chkFs_ok h
      rw [if_neg h0]
      refine ⟨h1, fun g hg => ?_⟩
      rcases List.mem_cons.1 hg with rfl | hg
      · simpa using h0
      · exact h2 g hg
theorem check_ok {p : Pr} (h : (checkZ p).1 = 0) : checkZ p = (0, 0, 0) ∧ wholeZ p = 0 ∧ ∀ f ∈ p.funcs, (chkF f).1 = 0 := by
  unfold checkZ at h ⊢
  split at h
  · exact absurd h (by assumption)
  · rename_i h0
    obtain ⟨h1, h2⟩ := chkFs_ok h
    rw [if_neg h0]
    exact ⟨h1, by simpa using h0, h2⟩
theorem parsZ_ok : ∀ {l : List Pa}, parsZ l = 0 → ∀ q ∈ l, nameZ q.name = true
  | [], _, q, hq => by cases hq
  | p :: r, h, q, hq => by
    rw [parsZ] at h
    split at h
    · omega
    · rename_i h0
      split at h
      · omega
      · rcases List.mem_cons.1 hq with rfl | hq
        · simpa using h0
        · exact parsZ_ok h q hq
theorem chkF_ok {f : Fu} (h : (chkF f).1 = 0) : nameZ f.name = true ∧ f.params.length ≤ 8 ∧ (∀ q ∈ f.params, nameZ q.name = true) ∧ (chkSs f.body 1 0).1 = 0 := by
  unfold chkF at h
  split at h
  · exact absurd h (by assumption)
  · rename_i h0
    have h1 : headZ f = 0 := by simpa using h0
    unfold headZ at h1
    split at h1
    · omega
    · rename_i h2
      split at h1
      · omega
      · exact ⟨by simpa using h2, by omega, parsZ_ok h1, h⟩
theorem pa_len {q : Pa} (hq : q.Ok) (h : nameZ q.name = true) : (paB q).length ≤ 100 := by
  have h1 := nm_len h
  have h2 := Lib.itoa_length_le q.lo hq.2.1.1 hq.2.1.2
  have h3 := Lib.itoa_length_le q.hi hq.2.2.1 hq.2.2.2
  simp only [paB, List.length_append, List.length_cons, List.length_nil]
  omega
end Go.Proofs.YtbpemackmadhgaaDoor

/- tree.Print for every program. -/
namespace Go.Proofs.YtbpemackmadhgaaDoor
open Go.RowKit Go.Sort

theorem com_len (l : List (List UInt8)) (c : Nat) (h : ∀ t ∈ l, t.length ≤ c) : (comB l).length ≤ l.length * (c + 2) := by
  refine Nat.le_trans (comB_len l) ?_
  induction l with
  | nil => simp
  | cons t r ih =>
    rw [List.map_cons, List.sum_cons, List.length_cons, Nat.add_mul]
    have := h t (by simp)
    have := ih (fun x hx => h x (by simp [hx]))
    omega
theorem txF_len {w : World} {f : Fu} (hin : f.In w) (h : (chkF f).1 = 0) : (txF f).length ≤ 1000 + 1000 * vSs f.body := by
  obtain ⟨h1, h2, h3, h4⟩ := chkF_ok h
  have a1 := nm_len h1
  have a2 := (txS_len (w := w) _).2 f.body 1 0 1 (Nat.le_refl _) hin.2.2.2.2.2.2.2 (by exact_mod_cast h4) (by omega)
  have a3 := com_len (f.params.map paB) 100 (fun t ht => by
    obtain ⟨q, hq, rfl⟩ := List.mem_map.1 ht
    exact pa_len (hin.2.2.2.2.2.1 q hq) (h3 q hq))
  rw [List.length_map] at a3
  have a4 : f.params.length * (100 + 2) ≤ 8 * 102 := Nat.mul_le_mul h2 (Nat.le_refl _)
  simp only [txF, List.length_append, lineB_len, List.length_cons, List.length_nil]
  omega
theorem txFs_len {w : World} : ∀ {l : List Fu}, (∀ f ∈ l, f.In w) → (∀ f ∈ l, (chkF f).1 = 0) → (txFs l).length ≤ 1000 * l.length + 1000 * (l.map fun f => vSs f.body).sum
  | [], _, _ => by simp [txFs]
  | f :: r, hin, h => by
    have a1 := txF_len (hin f (by simp)) (h f (by simp))
    have a2 := txFs_len (l := r) (fun g hg => hin g (by simp [hg])) (fun g hg => h g (by simp [hg]))
    rw [txFs, List.length_append, List.map_cons, List.sum_cons, List.length_cons]
    omega
theorem txW_len {l : List Int} (h : l.length ≤ 16) (h64 : ∀ z ∈ l, I64 z) : (txW l).length ≤ 1000 := by
  unfold txW
  split
  · simp
  · have a3 := com_len (l.map Lib.itoa) 21 (fun t ht => by
      obtain ⟨z, hz, rfl⟩ := List.mem_map.1 ht
      exact Lib.itoa_length_le z (h64 z hz).1 (h64 z hz).2)
    rw [List.length_map] at a3
    have a4 : l.length * (21 + 2) ≤ 16 * 23 := Nat.mul_le_mul h (Nat.le_refl _)
    simp only [List.length_append, lineB_len, List.length_cons, List.length_nil]
    omega
theorem txP_len {w : World} {p : Pr} (hin : p.In w) (h : (checkZ p).1 = 0) : (txP p).length ≤ 100000000 := by
  obtain ⟨_, h1, h2⟩ := check_ok h
  obtain ⟨a1, a2, a3⟩ := whole_ok h1
  have b1 := txW_len a1 hin.2.2.2.2.1
  have b2 := txFs_len hin.haveF.2 h2
  unfold txP
  rw [List.length_append]
  omega
theorem fn_prints {w : World} (ht : Tabs w) (hnt : NumT w) {p : Pr} (hin : p.In w) (h : (checkZ p).1 = 0) : ∀ f ∈ p.funcs, FnPr w f := fun f hf => by
  obtain ⟨_, h1, h2⟩ := check_ok h
  obtain ⟨a1, a2, a3⟩ := whole_ok h1
  obtain ⟨c1, c2, c3, c4⟩ := chkF_ok (h2 f hf)
  have hfi := hin.haveF.2 f hf
  have hs := sum_mem hf
  refine ⟨fun s hs' => ?_, fun q hq => Nat.le_trans (pa_len (hfi.2.2.2.2.2.1 q hq) (c3 q hq)) (by decide), c2⟩
  obtain ⟨a, ha⟩ := chkSs_ok c4 s hs'
  exact stmt_prints ht hnt _ s 1 a (Nat.le_refl _) (hfi.2.2.2.2.2.2.2 s hs') (by exact_mod_cast ha) (by have := vSs_mem hs'; omega)

/-- What tree.Print answers. -/
def prT (p : Pr) : List UInt8 := if (checkZ p).1 = 0 then (if (txP p).length ≤ 65536 then txP p else []) else []
def prF (p : Pr) : Int × Int × Int := if (checkZ p).1 = 0 then (if (txP p).length ≤ 65536 then (0, 0, 0) else (4, 0, 0)) else checkZ p
theorem print_any (p : Pr) (w : World) (hin : p.In w) (ht : Tabs w) (hnt : NumT w) :
    Calls Tryd.prog 14 #[p.val] w fun e w' => e = .returned (.tuple #[sB (prT p), fltV (prF p).1 (prF p).2.1 (prF p).2.2]) ∧ Below w.heap.size w w' := by
  by_cases h : (checkZ p).1 = 0
  · obtain ⟨h0, h1, h2⟩ := check_ok h
    have hl := txP_len hin h
    by_cases h3 : (txP p).length ≤ 65536
    · have := print_ok p w hin ht hnt h0 (whole_ok h1).1 (fn_prints ht hnt hin h) h3
      simpa only [prT, prF, if_pos h, if_pos h3] using this
    · have := print_long p w hin ht hnt h0 (whole_ok h1).1 (fn_prints ht hnt hin h) (by omega) (by omega)
      simpa only [prT, prF, if_pos h, if_neg h3] using this
  · have := print_bad p w hin ht h
    simpa only [prT, prF, if_neg h] using this

/-- Counts that are not past the limit are exact. -/
theorem cntE_le (k : Nat) : (∀ (x : Ex) (n : Int), x.sz ≤ k → cntE x n ≤ n + x.sz) ∧ (∀ (l : List Ex) (n : Int), szL l ≤ k → cntL l n ≤ n + szL l) := by
  induction k with
  | zero =>
    refine ⟨fun x n hk => by have := x.sz_args; omega, fun l n hk => ?_⟩
    cases l with
    | nil => simp [cntL, szL]
    | cons x r => rw [szL] at hk; have := x.sz_args; omega
  | succ k ih =>
    have h1 : ∀ (x : Ex) (n : Int), x.sz ≤ k + 1 → cntE x n ≤ n + x.sz := fun x n hk => by
      rw [cntE_args]
      have := ih.2 x.args (n + 1) (by have := x.sz_args; omega)
      have := x.sz_args
      omega
    refine ⟨h1, fun l => ?_⟩
    induction l with
    | nil => intro n _; simp [cntL, szL]
    | cons x r ihr =>
      intro n hk
      rw [szL] at hk ⊢
      rw [cntL]
      split
      · omega
      · have a2 := h1 x n (by omega)
        have a3 := ihr (cntE x n) (by omega)
        omega
theorem cntZ_leV (x : Ex) (n : Int) : cntZ x n ≤ n + zE x := by
  unfold cntZ zE
  split
  · simp
  · exact (cntE_le _).1 x n (Nat.le_refl _)
theorem cntS_le (k : Nat) : (∀ (s : St) (n : Int), s.sz ≤ k → cntS s n ≤ n + s.V) ∧ (∀ (l : List St) (n : Int), ssz l ≤ k → cntSs l n ≤ n + vSs l) := by
  have step : ∀ k, (∀ (s : St) (n : Int), s.sz ≤ k → cntS s n ≤ n + s.V) → ∀ (l : List St) (n : Int), ssz l ≤ k → cntSs l n ≤ n + vSs l := by
    intro k h1 l
    induction l with
    | nil => intro n _; simp only [cntSs, vSs]; omega
    | cons x r ihr =>
      intro n hk
      rw [ssz] at hk
      rw [vSs, cntSs]
      split
      · omega
      · have a1 := h1 x n (by omega)
        have a2 := ihr (cntS x n) (by omega)
        omega
  induction k with
  | zero =>
    have h0 : ∀ (s : St) (n : Int), s.sz ≤ 0 → cntS s n ≤ n + s.V := fun s n hk => by have := s.sz_eq; omega
    exact ⟨h0, step 0 h0⟩
  | succ k ih =>
    have h1 : ∀ (s : St) (n : Int), s.sz ≤ k + 1 → cntS s n ≤ n + s.V := by
      intro s n hk
      have hz := s.sz_eq
      have hc : ∀ (l : List Ca) (n : Int), csz l ≤ k → cntCs l n ≤ n + vCs l := by
        intro l
        induction l with
        | nil => intro n _; simp only [cntCs, vCs]; omega
        | cons c r ihr =>
          intro n hk
          rw [csz] at hk
          rw [cntCs, vCs, cntC_eq, c.V_eq]
          have a1 := ih.2 c.body n (by have := c.sz_eq; omega)
          have a2 := ihr (cntSs c.body n) (by omega)
          omega
      have e : cntS s n = cntSs s.els (cntCs s.cases (cntSs s.body (cntZ s.b (cntZ s.a (n + (1 + (s.cases.length : Int))))))) := by
        cases s; simp only [cntS, St.els, St.cases, St.body, St.a, St.b]
      rw [e, s.V_eq]
      have a1 := cntZ_leV s.a (n + (1 + (s.cases.length : Int)))
      have a2 := cntZ_leV s.b (cntZ s.a (n + (1 + (s.cases.length : Int))))
      have a3 := ih.2 s.body (cntZ s.b (cntZ s.a (n + (1 + (s.cases.length : Int))))) (by omega)
      have a4 := hc s.cases (cntSs s.body (cntZ s.b (cntZ s.a (n + (1 + (s.cases.length : Int)))))) (by omega)
      have a5 := ih.2 s.els (cntCs s.cases (cntSs s.body (cntZ s.b (cntZ s.a (n + (1 + (s.cases.length : Int))))))) (by omega)
      omega
    exact ⟨h1, step (k + 1) h1⟩
theorem cntF_le : ∀ (l : List Fu) (n : Int), cntF l n ≤ n + (l.map fun f => vSs f.body).sum
  | [], n => by simp [cntF]
  | f :: r, n => by
    have a1 := (cntS_le _).2 f.body n (Nat.le_refl _)
    have a2 := cntF_le r (cntSs f.body n)
    rw [cntF, List.map_cons, List.sum_cons]
    omega
theorem nodes_exact {p : Pr} (h : (checkZ p).1 = 0) : nodesZ p = (p.funcs.map fun f => vSs f.body).sum := by
  obtain ⟨_, h1, _⟩ := check_ok h
  have hn := (whole_ok h1).2.2
  have a1 := cntF_le p.funcs 0
  have a2 := (cntF_V p.funcs 0).2 (by omega)
  unfold nodesZ
  omega
end Go.Proofs.YtbpemackmadhgaaDoor

/- The parts of a right program, by themselves. -/
namespace Go.Proofs.YtbpemackmadhgaaDoor
open Go.RowKit Go.Sort

/-- A program's thresholds alone; a function alone. -/
def pW (p : Pr) : Pr := ⟨p.wa, p.wc, p.widen, none, 0, []⟩
def pO (f : Fu) (b o : Nat) : Pr := ⟨none, 0, [], some ⟨b, o, none⟩, 1, [f]⟩
theorem pW_in {w : World} {p : Pr} (h : p.In w) : (pW p).In w := by
  obtain ⟨h1, h2, h3, h4, h5, _⟩ := h
  exact ⟨h1, h2, h3, h4, h5, Nat.le_refl _, by show 0 * 64 ≤ _; decide, fun _ => rfl, fun i cs hi => by simp [pW] at hi, by simp [pW]⟩
theorem pO_in {w : World} {f : Fu} {b o : Nat} (hf : f.In w) (hc : ∀ j v, f.cells[j]? = some v → w.cell? ⟨b, o + j, none⟩ = some v) : (pO f b o).In w := by
  refine ⟨Nat.le_refl _, by show 0 * 8 ≤ _; decide, fun _ => rfl, fun i cs hi => by simp [pO] at hi, by simp [pO], Nat.le_refl _, by show 1 * 64 ≤ _; decide, fun h => by simp [pO] at h, fun i cs hi => ?_, by simp [pO, hf]⟩
  match i, hi with
  | 0, hi =>
    obtain rfl : f.cells = cs := by simpa [pO] using hi
    exact ⟨b, o, rfl, fun j v hj => by simpa using hc j v hj⟩
  | n + 1, hi => simp [pO] at hi
theorem whole_parts {p : Pr} (h : wholeZ p = 0) : p.widen.length ≤ 16 ∧ hasZ (-9223372036854775808) p.widen = false ∧ riseB p.widen = true := by
  unfold wholeZ at h
  split at h
  · omega
  split at h
  · omega
  rename_i h1 h2
  split at h
  · omega
  rename_i h3
  exact ⟨by omega, by simpa using h2, by simpa using h3⟩
theorem pW_check {p : Pr} (h : (checkZ p).1 = 0) : checkZ (pW p) = (0, 0, 0) := by
  obtain ⟨h1, h2, h3⟩ := whole_parts (check_ok h).2.1
  have : wholeZ (pW p) = 0 := by
    unfold wholeZ
    have hn : nodesZ (pW p) = 0 := by unfold nodesZ pW cntF; decide
    have e1 : (pW p).widen = p.widen := rfl
    have e2 : (pW p).funcs = [] := rfl
    have h1' : ¬ 16 < p.widen.length := by omega
    simp [hn, e1, e2, h1', h2, h3]
  unfold checkZ
  rw [this]
  rfl
theorem pO_nodes {f : Fu} {b o : Nat} (h : vSs f.body ≤ 4096) : nodesZ (pO f b o) = vSs f.body := by
  have a1 := cntF_le [f] 0
  have a2 : (cntF [f] 0) = cntSs f.body 0 := rfl
  have a3 := (cntS_V _).2 f.body 0 (Nat.le_refl _)
  have a4 : ([f].map fun f => vSs f.body).sum = vSs f.body := by simp
  unfold nodesZ
  show min (cntF [f] 0) 4097 = _
  omega
theorem pO_check {f : Fu} {b o : Nat} (h : (chkF f).1 = 0) (hv : vSs f.body ≤ 4096) : checkZ (pO f b o) = (0, 0, 0) := by
  have : wholeZ (pO f b o) = 0 := by
    unfold wholeZ
    have e1 : (pO f b o).widen = [] := rfl
    have e2 : (pO f b o).funcs = [f] := rfl
    have h1' : ¬ (4096 : Int) < vSs f.body := by omega
    simp [pO_nodes hv, e1, e2, hasZ, riseB]
    omega
  unfold checkZ
  rw [this]
  show (if (0 : Int) ≠ 0 then _ else chkFs [f] 0) = _
  rw [if_neg (by decide), chkFs, if_neg (by simp [h]), chkFs]
theorem pr_ok {p : Pr} (h : checkZ p = (0, 0, 0)) (hl : (txP p).length ≤ 65536) : prT p = txP p ∧ prF p = (0, 0, 0) := by
  have h0 : (checkZ p).1 = 0 := by rw [h]
  simp only [prT, prF, if_pos h0, if_pos hl, and_self]
theorem pW_tx (p : Pr) : txP (pW p) = txW p.widen := by simp [txP, pW, txFs]
theorem pO_tx (f : Fu) (b o : Nat) : txP (pO f b o) = txF f := by simp [txP, pO, txFs, txW]
theorem txF_ne (f : Fu) : 0 < (txF f).length := by simp only [txF, List.length_append, lineB_len, List.length_cons, List.length_nil]; omega
/-- What a program's Print answers has no fault just where it is its text. -/
theorem pr_fault {p : Pr} (h : (prF p).1 ≠ 0) : prT p = [] ∧ ((checkZ p).1 ≠ 0 ∧ prF p = checkZ p ∨ checkZ p = (0, 0, 0) ∧ prF p = (4, 0, 0)) := by
  by_cases h0 : (checkZ p).1 = 0
  · by_cases hl : (txP p).length ≤ 65536
    · simp only [prF, if_pos h0, if_pos hl] at h; exact absurd rfl h
    · simp only [prT, prF, if_pos h0, if_neg hl]; exact ⟨trivial, .inr ⟨(check_ok h0).1, trivial⟩⟩
  · simp only [prT, prF, if_neg h0]; exact ⟨trivial, .inl ⟨h0, trivial⟩⟩
theorem pr_right {p : Pr} (h : (prF p).1 = 0) : (checkZ p).1 = 0 ∧ (txP p).length ≤ 65536 ∧ prT p = txP p ∧ prF p = (0, 0, 0) := by
  by_cases h0 : (checkZ p).1 = 0
  · by_cases hl : (txP p).length ≤ 65536
    · exact ⟨h0, hl, pr_ok (check_ok h0).1 hl⟩
    · simp only [prF, if_pos h0, if_neg hl] at h; omega
  · simp only [prF, if_neg h0] at h; exact absurd h h0
theorem equalIn_ft (a b c a' b' c' : Int) (w : World) : (Op.equalIn 10000 33 (.agg #[.int .i64 a, .int .i64 b, .int .i64 c]) (.agg #[.int .i64 a', .int .i64 b', .int .i64 c'])).run Tryd.prog w = .ok (a == a' && (b == b' && c == c')) w := by
  have u2 := Tryd.underlying3
  have a2 := Tryd.isAgg3
  have z2 := Tryd.sizeOf3
  have u9 := Tryd.underlying31
  have a9 := Tryd.isAgg31
  have z9 := Tryd.sizeOf31
  have hS : Tryd.prog.underlying 33 = some (.struct (Tryd.prog.fieldsOf 33)) := by kernel_rfl
  have hp : Tryd.prog.stoodInHeld 33 = false := by kernel_rfl
  rw [show (10000 : Nat) = 9999 + 1 from rfl, run_equalIn_agg w 9999 33 _ _ hS hp]
  simp only [Program.fieldsOf, Tryd.underlying33]
  go_simp
  by_cases h1 : a = a' <;> by_cases h2 : b = b' <;> by_cases h3 : c = c' <;> simp [h1, h2, h3]
end Go.Proofs.YtbpemackmadhgaaDoor

/- The two programs of the statements' first question, and what the plain functions say of them. -/
namespace Go.Proofs.YtbpemackmadhgaaDoor
open Go.RowKit Go.Sort

def zEx : Ex := .mk 0 0 ⟨#[]⟩ none 0 []
def aX : Ex := .mk 2 0 ⟨#[110]⟩ none 0 []
def aNeg (B : Nat) : Ex := .mk 5 0 ⟨#[]⟩ (some ⟨B + 1 + 1 + 1, 0, none⟩) 1 [aX]
def aRet (B : Nat) : St := .mk 9 ⟨#[]⟩ 0 (aNeg B) zEx none 0 [] none 0 [] none 0 []
def aLet : St := .mk 1 ⟨#[]⟩ 1 zEx zEx none 0 [] none 0 [] none 0 []
def aPa : Pa := ⟨⟨#[110]⟩, 0, 10⟩
def aFn (B : Nat) (l : List St) : Fu := ⟨⟨#[102]⟩, some ⟨B + 1 + 1, 0, none⟩, 1, [aPa], some ⟨B + 1 + 1 + 1 + 1, 0, none⟩, 2, l⟩
def aPr (B g : Nat) (l : List St) : Pr := ⟨some ⟨B + 1, 0, none⟩, 2, [-5, 0], some ⟨g, 0, none⟩, 1, [aFn B l]⟩
theorem zE_z : zeroE zEx = true := by simp [zeroE, zEx, Ex.kind, Ex.n, Ex.name, Ex.args]
theorem zE_neg (B : Nat) : zeroE (aNeg B) = false := by simp [zeroE, aNeg, Ex.kind]
theorem us_z : usesE zEx = 0 := by simp [usesE, zEx, Ex.name, Ex.n]; decide
theorem us_x : usesE aX = 1 := by simp [usesE, aX, Ex.name, Ex.n]; decide
theorem us_neg (B : Nat) : usesE (aNeg B) = 0 := by simp [usesE, aNeg, Ex.name, Ex.n]; decide
theorem us_ret (B : Nat) : usesS (aRet B) = 4 := by
  simp [usesS, aRet, St.name, St.n, St.a, St.b, St.body, St.els, St.cases, zE_z, zE_neg]; decide
theorem us_let : usesS aLet = 2 := by
  simp [usesS, aLet, St.name, St.n, St.a, St.b, St.body, St.els, St.cases, zE_z]; decide
theorem nm_n : nameZ ⟨#[110]⟩ = true := by decide
theorem nm_f : nameZ ⟨#[102]⟩ = true := by decide
theorem self_x : selfE aX = 0 := by unfold selfE; rw [us_x]; decide
theorem self_neg (B : Nat) : selfE (aNeg B) = 0 := by
  unfold selfE; rw [us_neg]
  show (if isE 5 = false then (5 : Int) else if (bits .andNot .i64 0 (formE 5).fields != 0) = true then 5 else if ((formE 5).args != -1 && (((1 : Nat) : Int) != (formE 5).args)) = true then 5 else if (bits .and .i64 (formE 5).fields 1 != 0 && !nameZ ⟨#[]⟩) = true then 8 else if (0 : Int) < 0 then 1 else 0) = 0
  decide
theorem chk_x (lv : Int) (h : lv ≤ 32) : chkE aX lv = 0 := by
  rw [chkE_eq, if_neg (by omega), self_x]; rfl
theorem chk_neg (B : Nat) (lv : Int) (h : lv ≤ 31) : chkE (aNeg B) lv = 0 := by
  rw [chkE_eq, if_neg (by omega), self_neg, if_neg (by simp)]
  show chkL [aX] (lv + 1) = 0
  rw [chkL, chk_x _ (by omega)]; rfl
theorem selfS_ret (B : Nat) : selfS (aRet B) = 0 := by
  unfold selfS; rw [us_ret]
  show (if isS 9 = false then (5 : Int) else if (bits .andNot .i64 4 (fldS 9) != 0) = true then 5 else if (bits .and .i64 (fldS 9) 1 != 0 && !nameZ ⟨#[]⟩) = true then 8 else if (decide ((0 : Int) < 0) || leastC []) = true then 1 else if ((9 : Int) == 10 && (5 : Int) != 4) = true then 5 else 0) = 0
  decide
theorem selfS_let : selfS aLet = 5 := by unfold selfS; rw [us_let]; decide
theorem chkS_ret (B : Nat) : chkS (aRet B) 1 = 0 := by
  unfold chkS; rw [if_neg (by omega), selfS_ret, if_neg (by simp)]
  show (if _ then _ else _) = _
  rw [show (aRet B).a = aNeg B from rfl, chk_neg B _ (by omega)]
  show (if (bits .and .i64 (fldS 9) 4 != 0 && (0 : Int) != 0) = true then (0 : Int) else if (bits .and .i64 (fldS 9) 8 != 0) = true then chkE zEx 2 else 0) = 0
  rw [if_neg (by decide), if_neg (by decide)]
theorem chkS_let : chkS aLet 1 = 5 := by unfold chkS; rw [if_neg (by omega), selfS_let]; rfl
theorem chkT_ret (B : Nat) (at_ : Int) : chkT (aRet B) 1 at_ = (0, at_ + 1) := by
  rw [chkT_eq, chkS_ret, if_neg (by simp)]; rfl
theorem chkT_let (at_ : Int) : chkT aLet 1 at_ = (5, at_ + 1) := by
  rw [chkT_eq, chkS_let]; rfl
theorem chkSs_q (B : Nat) : chkSs [aRet B] 1 0 = (0, 1) := by
  rw [chkSs, chkT_ret]; rfl
theorem chkSs_p (B : Nat) : chkSs [aRet B, aLet] 1 0 = (5, 2) := by
  rw [chkSs, chkT_ret, thenZ, if_neg (by simp), chkSs, chkT_let]; rfl
theorem head_a (B : Nat) (l : List St) : headZ (aFn B l) = 0 := by
  unfold headZ; rw [show (aFn B l).name = ⟨#[102]⟩ from rfl, nm_f]
  show (if _ then _ else _) = _
  rw [if_neg (by simp), if_neg (by show ¬ 8 < 1; omega)]
  show parsZ [aPa] = 0
  rw [parsZ, show aPa.name = ⟨#[110]⟩ from rfl, nm_n]; decide
theorem cnt_ret (B : Nat) : cntS (aRet B) 0 = 3 := by
  rw [cntS_eq]
  show cntB _ (cntZ zEx (cntZ (aNeg B) (0 + (1 + 0)))) = 3
  rw [cntZ, cntZ, zE_neg, zE_z]; rfl
theorem cnt_let : cntS aLet 3 = 4 := by
  rw [cntS_eq]
  show cntB _ (cntZ zEx (cntZ zEx (3 + (1 + 0)))) = 4
  rw [cntZ, cntZ, zE_z]; rfl
theorem nodes_q (B g : Nat) : nodesZ (aPr B g [aRet B]) = 3 := by
  unfold nodesZ
  show min (cntF [aFn B [aRet B]] 0) 4097 = 3
  rw [cntF, cntF]
  show min (cntSs [aRet B] 0) 4097 = 3
  rw [cntSs, if_neg (by omega), cnt_ret]; rfl
theorem nodes_p (B g : Nat) : nodesZ (aPr B g [aRet B, aLet]) = 4 := by
  unfold nodesZ
  show min (cntF [aFn B [aRet B, aLet]] 0) 4097 = 4
  rw [cntF, cntF]
  show min (cntSs [aRet B, aLet] 0) 4097 = 4
  rw [cntSs, if_neg (by omega), cnt_ret, cntSs, if_neg (by omega), cnt_let]; rfl
theorem chkF_q (B : Nat) : chkF (aFn B [aRet B]) = (0, 1) := by unfold chkF; rw [head_a, if_neg (by simp)]; exact chkSs_q B
theorem chkF_p (B : Nat) : chkF (aFn B [aRet B, aLet]) = (5, 2) := by unfold chkF; rw [head_a, if_neg (by simp)]; exact chkSs_p B
theorem check_q (B g : Nat) : checkZ (aPr B g [aRet B]) = (0, 0, 0) := by
  have hw : wholeZ (aPr B g [aRet B]) = 0 := by unfold wholeZ; rw [nodes_q]; rfl
  unfold checkZ; rw [hw, if_neg (by simp)]
  show chkFs [aFn B [aRet B]] 0 = _
  rw [chkFs, chkF_q]; rfl
theorem check_p (B g : Nat) : checkZ (aPr B g [aRet B, aLet]) = (5, 0, 2) := by
  have hw : wholeZ (aPr B g [aRet B, aLet]) = 0 := by unfold wholeZ; rw [nodes_p]; rfl
  unfold checkZ; rw [hw, if_neg (by simp)]
  show chkFs [aFn B [aRet B, aLet]] 0 = _
  rw [chkFs, chkF_p]; rfl
theorem ok_neg (B : Nat) : OkE (aNeg B) := ⟨1, chk_neg B 1 (by omega)⟩
def awText : List UInt8 := [119, 105, 100, 101, 110, 32, 45, 53, 44, 32, 48, 59, 10, 102, 110, 32, 102, 40, 110, 32, 105, 110, 32, 48, 46, 46, 49, 48, 41, 32, 123, 10, 32, 32, 114, 101, 116, 117, 114, 110, 32, 45, 110, 59, 10, 125, 10]
theorem text_q (B g : Nat) : txP (aPr B g [aRet B]) = awText := by
  have h0 : txE aX = [110] := by rw [txE_eq]; decide
  have h1 : txE (aNeg B) = [45, 110] := by
    rw [txE_eq]; show txOf 5 0 ⟨#[]⟩ [2] [txE aX] = _
    rw [h0]; decide
  have h2 : txS (aRet B) 1 = lineB 1 ([114, 101, 116, 117, 114, 110, 32] ++ txE (aNeg B) ++ [59]) := by unfold aRet; simp [txS]
  show txW [-5, 0] ++ txFs [aFn B [aRet B]] = _
  rw [txFs, txFs]
  unfold txF
  show txW [-5, 0] ++ (lineB 0 _ ++ txSs [aRet B] 1 ++ _ ++ []) = _
  rw [txSs, txSs, h2, h1]
  show txW [-5, 0] ++ (lineB 0 ([102, 110, 32] ++ [102] ++ [40] ++ comB [paB aPa] ++ [41, 32, 123]) ++ (lineB 1 ([114, 101, 116, 117, 114, 110, 32] ++ [45, 110] ++ [59]) ++ []) ++ lineB 0 [125] ++ []) = awText
  decide +kernel
theorem samE_refl_x : samE aX aX = true := by rw [samE_eq]; simp [aX, Ex.kind, Ex.n, Ex.name, Ex.args, samEs]
theorem samE_z : samE zEx zEx = true := by rw [samE_eq]; simp [zEx, Ex.kind, Ex.n, Ex.name, Ex.args, samEs]
theorem samE_neg (B : Nat) : samE (aNeg B) (aNeg B) = true := by rw [samE_eq]; simp [aNeg, Ex.kind, Ex.n, Ex.name, Ex.args, samEs, samE_refl_x]
theorem samS_ret (B : Nat) : samS (aRet B) (aRet B) = true := by rw [samS_eq]; simp [aRet, St.kind, St.name, St.n, St.a, St.b, St.body, St.els, St.cases, samE_neg, samE_z, samSs, samCs]
theorem same_qq (B g : Nat) : samPr (aPr B g [aRet B]) (aPr B g [aRet B]) = true := by
  simp [samPr, aPr, samI, samFs, samF, aFn, samPs, samP, samSs, samS_ret]
theorem same_pq (B g g' : Nat) : samPr (aPr B g [aRet B, aLet]) (aPr B g' [aRet B]) = false := by
  simp [samPr, aPr, samFs, samF, aFn, samSs]
end Go.Proofs.YtbpemackmadhgaaDoor

/- The statements' own first question: answers that the document fixes. -/
namespace Go.Proofs.YtbpemackmadhgaaDoor
open Go.RowKit Go.Sort

theorem flat_at (sz : Nat) : ∀ (rows : List (List Value)), (∀ r ∈ rows, r.length = sz) → ∀ (i j : Nat) cs v, rows[i]? = some cs → cs[j]? = some v → rows.flatten[i * sz + j]? = some v
  | [], _, i, j, cs, v, hi, _ => by simp at hi
  | r :: rs, h, 0, j, cs, v, hi, hj => by
    simp only [List.getElem?_cons_zero, Option.some.injEq] at hi
    subst hi
    have hlt := (List.getElem?_eq_some_iff.1 hj).1
    rw [List.flatten_cons, Nat.zero_mul, Nat.zero_add, List.getElem?_append_left hlt]; exact hj
  | r :: rs, h, i + 1, j, cs, v, hi, hj => by
    have hr := h r (by simp)
    rw [List.flatten_cons, List.getElem?_append_right (by rw [hr, Nat.succ_mul]; omega), hr, show (i + 1) * sz + j - sz = i * sz + j from by rw [Nat.succ_mul]; omega]
    exact flat_at sz rs (fun x hx => h x (by simp [hx])) i j cs v (by simpa using hi) hj
theorem rowIn_block {W : World} {g sz : Nat} {rows : List (List Value)} {arr : Array Value} {t : TypeId} {fz : Nat × Nat} (h : W.heap[g]? = some (.cells arr t fz)) (hf : arr.toList = rows.flatten ∨ ∃ rest, arr.toList = rows.flatten ++ rest) (hl : ∀ r ∈ rows, r.length = sz) : RowIn W (some ⟨g, 0, none⟩) sz rows := by
  intro i cs hi
  refine ⟨g, 0, rfl, fun j v hj => ?_⟩
  have h1 := flat_at sz rows hl i j cs v hi hj
  rw [Lib.cell_of_heap h, Nat.zero_add, ← Array.getElem?_toList]
  rcases hf with hf | ⟨rest, hf⟩
  · rw [hf]; exact h1
  · rw [hf, List.getElem?_append_left (List.getElem?_eq_some_iff.1 h1).1]; exact h1
theorem rowIn_nil {W : World} {a : Option Addr} {sz : Nat} : RowIn W a sz [] := fun i cs h => by simp at h

/-- The blocks in which the first question's lists lie. -/
structure Lay (W : World) (B : Nat) : Prop where
  l1 : W.heap[B + 1]? = some (.cells #[.int .i64 (-5), .int .i64 0] 2 (0, 0))
  l2 : W.heap[B + 1 + 1]? = some (.cells #[.string ⟨#[110]⟩, .int .i64 0, .int .i64 10] 41 (0, 0))
  l3 : W.heap[B + 1 + 1 + 1]? = some (.cells #[.int .i64 2, .int .i64 0, .string ⟨#[110]⟩, .slice none 0 0] 39 (0, 0))
  l4 : W.heap[B + 1 + 1 + 1 + 1]? = some (.cells #[.int .i64 9, .string ⟨#[]⟩, .int .i64 0, .int .i64 5, .int .i64 0, .string ⟨#[]⟩, .slice (some ⟨B + 1 + 1 + 1, 0, none⟩) 1 1, .int .i64 0, .int .i64 0, .string ⟨#[]⟩, .slice none 0 0, .slice none 0 0, .slice none 0 0, .slice none 0 0, .int .i64 1, .string ⟨#[]⟩, .int .i64 1, .int .i64 0, .int .i64 0, .string ⟨#[]⟩, .slice none 0 0, .int .i64 0, .int .i64 0, .string ⟨#[]⟩, .slice none 0 0, .slice none 0 0, .slice none 0 0, .slice none 0 0] 46 (0, 0))
theorem Lay.stay {W W' : World} {B : Nat} (h : Lay W B) (hb : Below W.heap.size W W') : Lay W' B := by
  have k : ∀ {g : Nat} {o : Obj}, W.heap[g]? = some o → W'.heap[g]? = some o := fun e => (hb.block _ (Array.getElem?_eq_some_iff.1 e).1).trans e
  exact ⟨k h.l1, k h.l2, k h.l3, k h.l4⟩
theorem i0 : I64 0 := ⟨by decide, by decide⟩
theorem i1 : I64 1 := ⟨by decide, by decide⟩
theorem i2 : I64 2 := ⟨by decide, by decide⟩
theorem i5 : I64 5 := ⟨by decide, by decide⟩
theorem i9 : I64 9 := ⟨by decide, by decide⟩
theorem i10 : I64 10 := ⟨by decide, by decide⟩
theorem im5 : I64 (-5) := ⟨by decide, by decide⟩
theorem n0 : (0 : Nat) ≤ 140737488351232 := by decide
theorem n1 : (1 : Nat) ≤ 140737488351232 := by decide
theorem lenE (l : List Ex) : ∀ r ∈ l.map Ex.cells, r.length = 4 := by intro r hr; obtain ⟨x, _, rfl⟩ := List.mem_map.1 hr; rfl
theorem lenS (l : List St) : ∀ r ∈ l.map St.cells, r.length = 14 := by intro r hr; obtain ⟨x, _, rfl⟩ := List.mem_map.1 hr; rfl
theorem lenP (l : List Pa) : ∀ r ∈ l.map Pa.cells, r.length = 3 := by intro r hr; obtain ⟨x, _, rfl⟩ := List.mem_map.1 hr; rfl
theorem lenF (l : List Fu) : ∀ r ∈ l.map Fu.cells, r.length = 3 := by intro r hr; obtain ⟨x, _, rfl⟩ := List.mem_map.1 hr; rfl
theorem lenI (l : List Int) : ∀ r ∈ l.map (fun z => ([.int .i64 z] : List Value)), r.length = 1 := by intro r hr; obtain ⟨x, _, rfl⟩ := List.mem_map.1 hr; rfl
theorem zEx_in (W : World) : zEx.In W := Ex.in_iff.2 ⟨i0, i0, n0, Nat.le_refl _, n0, fun _ => rfl, rowIn_nil, fun y hy => by cases hy⟩
theorem aX_in (W : World) : aX.In W := Ex.in_iff.2 ⟨i2, i0, n1, Nat.le_refl _, n0, fun _ => rfl, rowIn_nil, fun y hy => by cases hy⟩
theorem aNeg_in {W : World} {B : Nat} (h : Lay W B) : (aNeg B).In W :=
  Ex.in_iff.2 ⟨i5, i0, n0, Nat.le_refl _, (by show 1 * 56 ≤ 140737488351232; decide), (fun e => by cases e), rowIn_block (rows := [aX.cells]) h.l3 (.inl rfl) (lenE [aX]), fun y hy => by
    rcases List.mem_singleton.1 (show y ∈ [aX] from hy) with rfl
    exact aX_in W⟩
theorem have_nil (W : World) : Have W none 0 [] := ⟨⟨Nat.le_refl _, n0, fun _ => rfl, rowIn_nil⟩, fun y hy => by cases hy⟩
theorem aRet_in {W : World} {B : Nat} (h : Lay W B) : (aRet B).In W := St.in_iff.2 ⟨i9, n0, i0, aNeg_in h, zEx_in W, have_nil W, have_nil W, ⟨Nat.le_refl _, n0, fun _ => rfl, rowIn_nil⟩, fun y hy => by cases hy⟩
theorem aLet_in (W : World) : aLet.In W := St.in_iff.2 ⟨i1, n0, i1, zEx_in W, zEx_in W, have_nil W, have_nil W, ⟨Nat.le_refl _, n0, fun _ => rfl, rowIn_nil⟩, fun y hy => by cases hy⟩
theorem body_q {W : World} {B : Nat} (h : Lay W B) : Have W (some ⟨B + 1 + 1 + 1 + 1, 0, none⟩) 2 [aRet B] :=
  ⟨⟨by show 1 ≤ 2; decide, by decide, (fun e => by cases e), rowIn_block (rows := [(aRet B).cells]) h.l4 (.inr ⟨aLet.cells, rfl⟩) (lenS [aRet B])⟩, fun s hs => by rcases List.mem_singleton.1 hs with rfl; exact aRet_in h⟩
theorem body_p {W : World} {B : Nat} (h : Lay W B) : Have W (some ⟨B + 1 + 1 + 1 + 1, 0, none⟩) 2 [aRet B, aLet] :=
  ⟨⟨by show 2 ≤ 2; decide, by decide, (fun e => by cases e), rowIn_block (rows := [(aRet B).cells, aLet.cells]) h.l4 (.inl rfl) (lenS [aRet B, aLet])⟩, fun s hs => by
    rcases List.mem_cons.1 hs with rfl | hs
    · exact aRet_in h
    · rcases List.mem_singleton.1 hs with rfl; exact aLet_in W⟩
theorem aFn_in {W : World} {B : Nat} (h : Lay W B) {l : List St} (hl : Have W (some ⟨B + 1 + 1 + 1 + 1, 0, none⟩) 2 l) : (aFn B l).In W :=
  ⟨n1, Nat.le_refl _, (by show 1 * 32 ≤ 140737488351232; decide), (fun e => by cases e), rowIn_block (rows := [aPa.cells]) h.l2 (.inl rfl) (lenP [aPa]), (fun q hq => by rcases List.mem_singleton.1 (show q ∈ [aPa] from hq) with rfl; exact ⟨n1, i0, i10⟩), hl⟩
theorem aPr_in {W : World} {B g : Nat} (h : Lay W B) {l : List St} (hl : Have W (some ⟨B + 1 + 1 + 1 + 1, 0, none⟩) 2 l) (hg : W.heap[g]? = some (.cells #[.string ⟨#[102]⟩, .slice (some ⟨B + 1 + 1, 0, none⟩) 1 1, .slice (some ⟨B + 1 + 1 + 1 + 1, 0, none⟩) l.length 2] 48 (0, 0))) : (aPr B g l).In W :=
  ⟨Nat.le_refl _, (by show 2 * 8 ≤ 140737488351232; decide), (fun e => by cases e), rowIn_block (rows := [[.int .i64 (-5)], [.int .i64 0]]) h.l1 (.inl rfl) (lenI [-5, 0]), (fun z hz => by
    rcases List.mem_cons.1 (show z ∈ [(-5 : Int), 0] from hz) with rfl | hz
    · exact im5
    · rcases List.mem_singleton.1 hz with rfl; exact i0), Nat.le_refl _, (by show 1 * 64 ≤ 140737488351232; decide), (fun e => by cases e), rowIn_block (rows := [(aFn B l).cells]) hg (.inl rfl) (lenF [aFn B l]), (fun f hf => by
    rcases List.mem_singleton.1 (show f ∈ [aFn B l] from hf) with rfl; exact aFn_in h hl)⟩
/-- The first question's text, printed. -/
theorem awPrint (W : World) (B g : Nat) (h : Lay W B) (hg : W.heap[g]? = some (.cells #[.string ⟨#[102]⟩, .slice (some ⟨B + 1 + 1, 0, none⟩) 1 1, .slice (some ⟨B + 1 + 1 + 1 + 1, 0, none⟩) 1 2] 48 (0, 0))) (ht : Tabs W) (hnt : NumT W) :
    Calls Tryd.prog 14 #[(aPr B g [aRet B]).val] W fun e w' => e = .returned (.tuple #[sB awText, fltV 0 0 0]) ∧ Below W.heap.size W w' := by
  have := print_ok (aPr B g [aRet B]) W (aPr_in h (body_q h) hg) ht hnt (check_q B g) (by show 2 ≤ 16; decide) (fun f hf => by
    rcases List.mem_singleton.1 (show f ∈ [aFn B [aRet B]] from hf) with rfl
    refine ⟨fun s hs => ?_, fun q hq => ?_, by show 1 ≤ 8; decide⟩
    · rcases List.mem_singleton.1 (show s ∈ [aRet B] from hs) with rfl
      exact stmtD_le (stmt9 W (aRet B) rfl (aRet_in h) ht hnt (ok_neg B) (by show (aNeg B).sz ≤ _; rw [Ex.sz_args]; show szL [aX] + 1 ≤ _; decide)) (by decide)
    · rcases List.mem_singleton.1 (show q ∈ [aPa] from hq) with rfl
      decide +kernel) (by rw [text_q]; decide)
  rwa [text_q] at this
end Go.Proofs.YtbpemackmadhgaaDoor

/- The statements' own first question answers yes. -/
namespace Go.Proofs.YtbpemackmadhgaaDoor
open Go.RowKit Go.Sort

theorem equalIn_flt (a b c a' b' c' : Int) (w : World) : (Op.equalIn 10000 33 (fltV a b c) (fltV a' b' c')).run Tryd.prog w = .ok (a == a' && (b == b' && c == c')) w := by
  have u3 := Tryd.underlying3
  have a3 := Tryd.isAgg3
  have z3 := Tryd.sizeOf3
  have u31 := Tryd.underlying31
  have a31 := Tryd.isAgg31
  have z31 := Tryd.sizeOf31
  have hS : Tryd.prog.underlying 33 = some (.struct (Tryd.prog.fieldsOf 33)) := by kernel_rfl
  have hp : Tryd.prog.stoodInHeld 33 = false := by kernel_rfl
  unfold fltV
  rw [show (10000 : Nat) = 9999 + 1 from rfl, run_equalIn_agg w 9999 33 _ _ hS hp]
  simp only [Program.fieldsOf, Tryd.underlying33]
  go_simp
  by_cases h1 : a = a' <;> by_cases h2 : b = b' <;> by_cases h3 : c = c' <;> simp [h1, h2, h3]

theorem keep_heap {W : World} {k : Nat} {o : Obj} (h : W.heap[k]? = some o) (o' : Obj) : (W.alloc o').heap[k]? = some o := (Lib.alloc_old W o' k (Array.getElem?_eq_some_iff.1 h).1).trans h
theorem new_heap {W : World} {k : Nat} (o : Obj) (h : W.heap.size = k) : (W.alloc o).heap[k]? = some o := by rw [← h]; exact heap_alloc_new W o
theorem set_keep {W : World} {k : Nat} {o : Obj} (a : Addr) (v : Value) (h : W.heap[k]? = some o) (hk : k ≠ a.block) : (W.setCell a v).drew.heap[k]? = some o := (Below.heap_setCell W a v k hk).trans h
theorem set_same {W : World} {b : Nat} {cs : Array Value} {T : TypeId} {fz : Nat × Nat} (h : W.heap[b]? = some (.cells cs T fz)) (i : Nat) (v : Value) : (W.setCell ⟨b, i, none⟩ v).drew.heap[b]? = some (.cells (cs.setIfInBounds i v) T fz) := by
  show (W.setCell ⟨b, i, none⟩ v).heap[b]? = _
  simp [World.setCell, Array.getElem?_modify, h]
/-- The world in which the first question's first program lies. -/
def awW (w : World) : World := ((((((w.alloc (.cells #[.int .i64 2, .int .i64 0, .string ⟨#[110]⟩, .slice none 0 0] 39)).alloc (.cells #[.int .i64 (-5), .int .i64 0] 2)).alloc (.cells #[.string ⟨#[110]⟩, .int .i64 0, .int .i64 10] 41)).alloc (.cells #[.int .i64 2, .int .i64 0, .string ⟨#[110]⟩, .slice none 0 0] 39)).alloc (.cells #[.int .i64 9, .string ⟨#[]⟩, .int .i64 0, .int .i64 5, .int .i64 0, .string ⟨#[]⟩, .slice (some ⟨w.heap.size + 1 + 1 + 1, 0, none⟩) 1 1, .int .i64 0, .int .i64 0, .string ⟨#[]⟩, .slice none 0 0, .slice none 0 0, .slice none 0 0, .slice none 0 0, .int .i64 1, .string ⟨#[]⟩, .int .i64 1, .int .i64 0, .int .i64 0, .string ⟨#[]⟩, .slice none 0 0, .int .i64 0, .int .i64 0, .string ⟨#[]⟩, .slice none 0 0, .slice none 0 0, .slice none 0 0, .slice none 0 0] 46)).alloc (.cells #[.string ⟨#[102]⟩, .slice (some ⟨w.heap.size + 1 + 1, 0, none⟩) 1 1, .slice (some ⟨w.heap.size + 1 + 1 + 1 + 1, 0, none⟩) 2 2] 48)).alloc (.cells #[.slice (some ⟨w.heap.size + 1, 0, none⟩) 2 2, .slice (some ⟨w.heap.size + 1 + 1 + 1 + 1 + 1, 0, none⟩) 1 1] 26)
theorem awW_facts (w : World) : Lay (awW w) w.heap.size ∧ (awW w).heap[w.heap.size + 1 + 1 + 1 + 1 + 1]? = some (.cells #[.string ⟨#[102]⟩, .slice (some ⟨w.heap.size + 1 + 1, 0, none⟩) 1 1, .slice (some ⟨w.heap.size + 1 + 1 + 1 + 1, 0, none⟩) 2 2] 48 (0, 0)) ∧ (awW w).heap[w.heap.size + 1 + 1 + 1 + 1 + 1 + 1]? = some (.cells #[.slice (some ⟨w.heap.size + 1, 0, none⟩) 2 2, .slice (some ⟨w.heap.size + 1 + 1 + 1 + 1 + 1, 0, none⟩) 1 1] 26 (0, 0)) ∧ Below w.heap.size w (awW w) ∧ (awW w).heap.size = w.heap.size + 1 + 1 + 1 + 1 + 1 + 1 + 1 := by
  unfold awW
  refine ⟨⟨?_, ?_, ?_, ?_⟩, ?_, ?_, ?_, by simp⟩
  · exact keep_heap (keep_heap (keep_heap (keep_heap (keep_heap (new_heap _ (by simp)) _) _) _) _) _
  · exact keep_heap (keep_heap (keep_heap (keep_heap (new_heap _ (by simp)) _) _) _) _
  · exact keep_heap (keep_heap (keep_heap (new_heap _ (by simp)) _) _) _
  · exact keep_heap (keep_heap (new_heap _ (by simp)) _) _
  · exact keep_heap (new_heap _ (by simp)) _
  · exact new_heap _ (by simp)
  · exact Below.one (Below.one (Below.one (Below.one (Below.one (Below.one (Below.one (Below.refl _ w) _) _) _) _) _) _) _

set_option maxRecDepth 100000 in
set_option maxHeartbeats 16000000 in
theorem awake_any (w : World) (ht : Tabs w) (hnt : NumT w) : Calls Tryd.prog 7 #[] w fun e w' => e = .returned (.bool true) ∧ Below w.heap.size w w' := by
  obtain ⟨lay, k5, k6, hb0, hs0⟩ := awW_facts w
  have HT : Hid (Tabs w) := ht
  have HN : Hid (NumT w) := hnt
  clear ht hnt
  go_enter Tryd.func7, Tryd.ntmps7
  go_wp2_with fail
  obtain ⟨W7, hW7⟩ : ∃ W7, awW w = W7 := ⟨_, rfl⟩
  rw [hW7] at lay k5 k6 hb0 hs0
  unfold awW at hW7
  rw [hW7]
  clear hW7
  obtain ⟨B, hB⟩ : ∃ B, w.heap.size = B := ⟨_, rfl⟩
  have HB : Hid (w.heap.size = B) := hB
  rw [hB] at lay k5 k6 hs0 ⊢
  have hck := check_any (aPr B (B + 1 + 1 + 1 + 1 + 1) [aRet B, aLet]) W7 (aPr_in lay (body_p lay) k5) (HT.out.stay hb0)
  rw [check_p] at hck
  have HCK : Hid (Calls Tryd.prog 15 #[.agg #[.slice (some ⟨B + 1, 0, none⟩) 2 2, .slice (some ⟨B + 1 + 1 + 1 + 1 + 1, 0, none⟩) 1 1]] W7 fun e w' => e = .returned (fltV 5 0 2) ∧ Below W7.heap.size W7 w') := hck
  clear hck hB
  refine HCK.out.mono ?_
  rintro e w1 ⟨rfl, hb1⟩
  have lay1 := lay.stay hb1
  have K5 := (hb1.block (B + 1 + 1 + 1 + 1 + 1) (by omega)).trans k5
  have K6 := (hb1.block (B + 1 + 1 + 1 + 1 + 1 + 1) (by omega)).trans k6
  have hbw := Below.on hb0 hb1
  have HLAY : Hid (Lay w1 B) := lay1
  have p0 : w1.cell? ⟨B + 1 + 1 + 1 + 1 + 1 + 1, 0, none⟩ = some (.slice (some ⟨B + 1, 0, none⟩) 2 2) := by rw [Lib.cell_of_heap K6]; rfl
  have p1 : w1.cell? ⟨B + 1 + 1 + 1 + 1 + 1 + 1, 1, none⟩ = some (.slice (some ⟨B + 1 + 1 + 1 + 1 + 1, 0, none⟩) 1 1) := by rw [Lib.cell_of_heap K6]; rfl
  have f0 : w1.cell? ⟨B + 1 + 1 + 1 + 1 + 1, 0, none⟩ = some (.string ⟨#[102]⟩) := by rw [Lib.cell_of_heap K5]; rfl
  have f1 : w1.cell? ⟨B + 1 + 1 + 1 + 1 + 1, 1, none⟩ = some (.slice (some ⟨B + 1 + 1, 0, none⟩) 1 1) := by rw [Lib.cell_of_heap K5]; rfl
  have f2 : w1.cell? ⟨B + 1 + 1 + 1 + 1 + 1, 2, none⟩ = some (.slice (some ⟨B + 1 + 1 + 1 + 1, 0, none⟩) 2 2) := by rw [Lib.cell_of_heap K5]; rfl
  have hs1 : B + 1 + 1 + 1 + 1 + 1 + 1 < w1.heap.size := by have := hb1.size; omega
  have hs2 : B + 1 + 1 + 1 + 1 + 1 < w1.heap.size := by omega
  have g0 : ∀ o1 o2, ((w1.alloc o1).alloc o2).cell? ⟨B + 1 + 1 + 1 + 1 + 1, 0, none⟩ = some (.string ⟨#[102]⟩) := fun o1 o2 => by rw [Lib.cell_of_heap (keep_heap (keep_heap K5 o1) o2)]; rfl
  have g1 : ∀ o1 o2, ((w1.alloc o1).alloc o2).cell? ⟨B + 1 + 1 + 1 + 1 + 1, 1, none⟩ = some (.slice (some ⟨B + 1 + 1, 0, none⟩) 1 1) := fun o1 o2 => by rw [Lib.cell_of_heap (keep_heap (keep_heap K5 o1) o2)]; rfl
  have g2 : ∀ o1 o2, ((w1.alloc o1).alloc o2).cell? ⟨B + 1 + 1 + 1 + 1 + 1, 2, none⟩ = some (.slice (some ⟨B + 1 + 1 + 1 + 1, 0, none⟩) 2 2) := fun o1 o2 => by rw [Lib.cell_of_heap (keep_heap (keep_heap K5 o1) o2)]; rfl
  have HK5 : Hid (w1.heap[B + 1 + 1 + 1 + 1 + 1]? = some (.cells #[.string ⟨#[102]⟩, .slice (some ⟨B + 1 + 1, 0, none⟩) 1 1, .slice (some ⟨B + 1 + 1 + 1 + 1, 0, none⟩) 2 2] 48 (0, 0))) := K5
  have HK6 : Hid (w1.heap[B + 1 + 1 + 1 + 1 + 1 + 1]? = some (.cells #[.slice (some ⟨B + 1, 0, none⟩) 2 2, .slice (some ⟨B + 1 + 1 + 1 + 1 + 1, 0, none⟩) 1 1] 26 (0, 0))) := K6
  clear lay lay1 k5 k6 K5 K6 hb0 hb1 HCK hs0
  go_wp2_with fail
  clear f0 f1 f2 g0 g1 g2 p0
  obtain ⟨W3, hW3⟩ : ∃ W3, (((w1.alloc (.cells #[.int .i64 5, .int .i64 0, .int .i64 2] 33)).alloc (.cells #[.slice (some ⟨B + 1, 0, none⟩) 2 2, .slice (some ⟨w1.heap.size + 1 + 1, 0, none⟩) 1 1] 26)).alloc (.cells #[.string ⟨#[102]⟩, .slice (some ⟨B + 1 + 1, 0, none⟩) 1 1, .slice (some ⟨B + 1 + 1 + 1 + 1, 0, none⟩) 2 2] 48)) = W3 := ⟨_, rfl⟩
  have hb3 : Below w1.heap.size w1 W3 := by rw [← hW3]; exact Below.one (Below.one (Below.one (Below.refl _ w1) _) _) _
  obtain ⟨S, hS⟩ : ∃ S, w1.heap.size = S := ⟨_, rfl⟩
  have k7 : W3.heap[S]? = some (.cells #[.int .i64 5, .int .i64 0, .int .i64 2] 33 (0, 0)) := by rw [← hW3]; exact keep_heap (keep_heap (new_heap _ hS) _) _
  have k8 : W3.heap[S + 1]? = some (.cells #[.slice (some ⟨B + 1, 0, none⟩) 2 2, .slice (some ⟨S + 1 + 1, 0, none⟩) 1 1] 26 (0, 0)) := by rw [← hW3, hS]; exact keep_heap (new_heap _ (by simp [hS])) _
  have k9 : W3.heap[S + 1 + 1]? = some (.cells #[.string ⟨#[102]⟩, .slice (some ⟨B + 1 + 1, 0, none⟩) 1 1, .slice (some ⟨B + 1 + 1 + 1 + 1, 0, none⟩) 2 2] 48 (0, 0)) := by rw [← hW3]; exact new_heap _ (by simp [hS])
  have k5 := (hb3.block (B + 1 + 1 + 1 + 1 + 1) (by omega)).trans HK5.out
  have k6 := (hb3.block (B + 1 + 1 + 1 + 1 + 1 + 1) (by omega)).trans HK6.out
  have hS3 : W3.heap.size = S + 1 + 1 + 1 := by rw [← hW3]; simp [hS]
  rw [hW3]
  rw [hS] at hs1 hs2 ⊢
  have e0 : W3.drew.cell? ⟨S + 1, 1, none⟩ = some (.slice (some ⟨S + 1 + 1, 0, none⟩) 1 1) := by
    have : W3.drew.heap[S + 1]? = _ := k8
    rw [Lib.cell_of_heap this]; rfl
  have e1 : W3.drew.cell? ⟨B + 1 + 1 + 1 + 1 + 1 + 1, 1, none⟩ = some (.slice (some ⟨B + 1 + 1 + 1 + 1 + 1, 0, none⟩) 1 1) := by
    have : W3.drew.heap[B + 1 + 1 + 1 + 1 + 1 + 1]? = _ := k6
    rw [Lib.cell_of_heap this]; rfl
  have e2 : W3.drew.cell? ⟨B + 1 + 1 + 1 + 1 + 1, 2, none⟩ = some (.slice (some ⟨B + 1 + 1 + 1 + 1, 0, none⟩) 2 2) := by
    have : W3.drew.heap[B + 1 + 1 + 1 + 1 + 1]? = _ := k5
    rw [Lib.cell_of_heap this]; rfl
  have e3 : W3.drew.cell? ⟨S + 1 + 1, 2, none⟩ = some (.slice (some ⟨B + 1 + 1 + 1 + 1, 0, none⟩) 2 2) := by
    have : W3.drew.heap[S + 1 + 1]? = _ := k9
    rw [Lib.cell_of_heap this]; rfl
  have e4 : W3.frozen? ⟨S + 1 + 1, 2, none⟩ = false := by simp [World.frozen?, k9]
  have HH : Hid (Below w1.heap.size w1 W3 ∧ Lay w1 B ∧ Below w.heap.size w w1 ∧ w1.heap.size = S ∧ W3.heap.size = S + 1 + 1 + 1) := ⟨hb3, HLAY.out, hbw, hS, hS3⟩
  have K5 := show Hid _ from k5
  have K6 := show Hid _ from k6
  have K7 := show Hid _ from k7
  have K8 := show Hid _ from k8
  have K9 := show Hid _ from k9
  clear hb3 hS hS3 hW3 HLAY hbw k5 k6 k7 k8 k9 p1 HK5 HK6
  go_region
  obtain ⟨W4, hW4⟩ : ∃ W4, (W3.setCell ⟨S + 1 + 1, 2, none⟩ (.slice (some ⟨B + 1 + 1 + 1 + 1, 0, none⟩) 1 2)).drew = W4 := ⟨_, rfl⟩
  rw [hW4]
  have k5 := set_keep ⟨S + 1 + 1, 2, none⟩ (.slice (some ⟨B + 1 + 1 + 1 + 1, 0, none⟩) 1 2) K5.out (by show _ ≠ S + 1 + 1; omega)
  have k6 := set_keep ⟨S + 1 + 1, 2, none⟩ (.slice (some ⟨B + 1 + 1 + 1 + 1, 0, none⟩) 1 2) K6.out (by show _ ≠ S + 1 + 1; omega)
  have k7 := set_keep ⟨S + 1 + 1, 2, none⟩ (.slice (some ⟨B + 1 + 1 + 1 + 1, 0, none⟩) 1 2) K7.out (by show _ ≠ S + 1 + 1; omega)
  have k8 := set_keep ⟨S + 1 + 1, 2, none⟩ (.slice (some ⟨B + 1 + 1 + 1 + 1, 0, none⟩) 1 2) K8.out (by show _ ≠ S + 1 + 1; omega)
  rw [hW4] at k5 k6 k7 k8
  have k9 : W4.heap[S + 1 + 1]? = some (.cells #[.string ⟨#[102]⟩, .slice (some ⟨B + 1 + 1, 0, none⟩) 1 1, .slice (some ⟨B + 1 + 1 + 1 + 1, 0, none⟩) 1 2] 48 (0, 0)) := by rw [← hW4]; exact set_same K9.out 2 _
  obtain ⟨hb3, hlay, hbw, hS, hS3⟩ := HH.out
  have hb4 : Below w1.heap.size w1 W4 := by rw [← hW4]; exact Below.drew (Below.setCell hb3 (by show _ ≤ S + 1 + 1; omega) _)
  have hS4 : W4.heap.size = S + 1 + 1 + 1 := by rw [← hW4]; show (W3.setCell _ _).heap.size = _; simp [World.setCell, hS3]
  have hbw4 : Below w.heap.size w W4 := Below.on hbw hb4
  have hlay4 : Lay W4 B := hlay.stay hb4
  have hpr := awPrint W4 B (S + 1 + 1) hlay4 k9 (HT.out.stay hbw4) (HN.out.stay hbw4)
  have HPR : Hid (Calls Tryd.prog 14 #[.agg #[.slice (some ⟨B + 1, 0, none⟩) 2 2, .slice (some ⟨S + 1 + 1, 0, none⟩) 1 1]] W4 fun e w' => e = .returned (.tuple #[.string ⟨#[119, 105, 100, 101, 110, 32, 45, 53, 44, 32, 48, 59, 10, 102, 110, 32, 102, 40, 110, 32, 105, 110, 32, 48, 46, 46, 49, 48, 41, 32, 123, 10, 32, 32, 114, 101, 116, 117, 114, 110, 32, 45, 110, 59, 10, 125, 10]⟩, .agg #[.int .i64 0, .int .i64 0, .int .i64 0]]) ∧ Below W4.heap.size W4 w') := hpr
  have q0 : W4.cell? ⟨S + 1, 0, none⟩ = some (.slice (some ⟨B + 1, 0, none⟩) 2 2) := by rw [Lib.cell_of_heap k8]; rfl
  have q1 : W4.cell? ⟨S + 1, 1, none⟩ = some (.slice (some ⟨S + 1 + 1, 0, none⟩) 1 1) := by rw [Lib.cell_of_heap k8]; rfl
  clear K5 K6 K7 K8 K9 HH e0 e1 e2 e3 e4 hb3 hlay hbw hpr hW4 hS hS3
  have K5 := show Hid _ from k5
  have K6 := show Hid _ from k6
  have K7 := show Hid _ from k7
  have K8 := show Hid _ from k8
  have K9 := show Hid _ from k9
  have HH : Hid (Below w.heap.size w W4 ∧ Lay W4 B ∧ W4.heap.size = S + 1 + 1 + 1) := ⟨hbw4, hlay4, hS4⟩
  clear k5 k6 k7 k8 k9 hbw4 hlay4 hS4 hb4
  go_wp2_with fail
  refine HPR.out.mono ?_
  rintro e w5 ⟨rfl, hb5⟩
  clear q0 q1 HPR
  obtain ⟨hbw4, hlay4, hS4⟩ := HH.out
  have hbw5 := Below.on hbw4 hb5
  have hlay5 := hlay4.stay hb5
  have k5 := (hb5.block (B + 1 + 1 + 1 + 1 + 1) (by omega)).trans K5.out
  have k6 := (hb5.block (B + 1 + 1 + 1 + 1 + 1 + 1) (by omega)).trans K6.out
  have k7 := (hb5.block S (by omega)).trans K7.out
  have k8 := (hb5.block (S + 1) (by omega)).trans K8.out
  have k9 := (hb5.block (S + 1 + 1) (by omega)).trans K9.out
  have hs5 := hb5.size
  rw [hS4] at hs5
  have s5 : S + 1 < w5.heap.size := by omega
  have s6 : S < w5.heap.size := by omega
  have s7 : B + 1 + 1 + 1 + 1 + 1 + 1 < w5.heap.size := by omega
  clear K5 K6 K7 K8 K9 HH hb5 hbw4 hlay4 hS4 hs5 hs1 hs2
  have a0 : w5.cell? ⟨S, 0, none⟩ = some (.int .i64 5) := by rw [Lib.cell_of_heap k7]; rfl
  have a1 : w5.cell? ⟨S, 1, none⟩ = some (.int .i64 0) := by rw [Lib.cell_of_heap k7]; rfl
  have a2 : w5.cell? ⟨S, 2, none⟩ = some (.int .i64 2) := by rw [Lib.cell_of_heap k7]; rfl
  have q0 : w5.cell? ⟨S + 1, 0, none⟩ = some (.slice (some ⟨B + 1, 0, none⟩) 2 2) := by rw [Lib.cell_of_heap k8]; rfl
  have q1 : w5.cell? ⟨S + 1, 1, none⟩ = some (.slice (some ⟨S + 1 + 1, 0, none⟩) 1 1) := by rw [Lib.cell_of_heap k8]; rfl
  have hq := equalIn_flt
  have hg : ∀ (w : World) (op : BinOp) (a b : Operand) (xs ys : Array Value), (eqGuard op 33 a b (.agg xs) (.agg ys)).run Tryd.prog w = .ok () w := fun w op a b xs ys => run_eqGuard_agg w op 33 a b xs ys (by kernel_rfl)
  unfold fltV at hq
  have K5 := show Hid _ from k5
  have K6 := show Hid _ from k6
  have K8 := show Hid _ from k8
  have K9 := show Hid _ from k9
  have HQ : Hid ((aPr B (S + 1 + 1) [aRet B]).In w5) := aPr_in hlay5 (body_q hlay5) k9
  have HP : Hid ((aPr B (B + 1 + 1 + 1 + 1 + 1) [aRet B, aLet]).In w5) := aPr_in hlay5 (body_p hlay5) k5
  have HH : Hid (Below w.heap.size w w5) := hbw5
  have g0 : Hid (w5.cell? ⟨B + 1 + 1 + 1 + 1 + 1 + 1, 0, none⟩ = some (.slice (some ⟨B + 1, 0, none⟩) 2 2)) := by rw [Lib.cell_of_heap k6]; rfl
  have g1 : Hid (w5.cell? ⟨B + 1 + 1 + 1 + 1 + 1 + 1, 1, none⟩ = some (.slice (some ⟨B + 1 + 1 + 1 + 1 + 1, 0, none⟩) 1 1)) := by rw [Lib.cell_of_heap k6]; rfl
  have HN1 : Hid (∀ w', Below w5.heap.size w5 w' → Calls Tryd.prog 8 #[.agg #[.slice (some ⟨B + 1, 0, none⟩) 2 2, .slice (some ⟨S + 1 + 1, 0, none⟩) 1 1]] w' fun e w'' => e = .returned (.int .i64 3) ∧ Below w'.heap.size w' w'') := fun w' hb => by
    have := nodes_any (aPr B (S + 1 + 1) [aRet B]) w' (HQ.out.stay hb)
    rw [nodes_q] at this; exact this
  have HS1 : Hid (∀ w', Below w5.heap.size w5 w' → Calls Tryd.prog 12 #[.agg #[.slice (some ⟨B + 1, 0, none⟩) 2 2, .slice (some ⟨S + 1 + 1, 0, none⟩) 1 1], .agg #[.slice (some ⟨B + 1, 0, none⟩) 2 2, .slice (some ⟨S + 1 + 1, 0, none⟩) 1 1]] w' fun e w'' => e = .returned (.bool true) ∧ Below w'.heap.size w' w'') := fun w' hb => by
    have := same_any (aPr B (S + 1 + 1) [aRet B]) (aPr B (S + 1 + 1) [aRet B]) w' (HQ.out.stay hb) (HQ.out.stay hb)
    rw [same_qq] at this; exact this
  have HS2 : Hid (∀ w', Below w5.heap.size w5 w' → Calls Tryd.prog 12 #[.agg #[.slice (some ⟨B + 1, 0, none⟩) 2 2, .slice (some ⟨B + 1 + 1 + 1 + 1 + 1, 0, none⟩) 1 1], .agg #[.slice (some ⟨B + 1, 0, none⟩) 2 2, .slice (some ⟨S + 1 + 1, 0, none⟩) 1 1]] w' fun e w'' => e = .returned (.bool false) ∧ Below w'.heap.size w' w'') := fun w' hb => by
    have := same_any (aPr B (B + 1 + 1 + 1 + 1 + 1) [aRet B, aLet]) (aPr B (S + 1 + 1) [aRet B]) w' (HP.out.stay hb) (HQ.out.stay hb)
    rw [same_pq] at this; exact this
  have g2 := show Hid _ from q0
  have g3 := show Hid _ from q1
  clear k5 k6 k7 k8 k9 hbw5 hlay5 HQ HP
  go_wp2_with fail
  have hba := Below.one (Below.refl w5.heap.size w5) (.cells #[.int .i64 0, .int .i64 0, .int .i64 0] 33)
  refine (HN1.out _ hba).mono ?_
  rintro e w6 ⟨rfl, hb6⟩
  have hb6' := Below.on hba hb6
  clear q0 q1 a0 a1 a2 hq hg hb6 hba HN1
  have q0 := (hb6'.cell (p := ⟨S + 1, 0, none⟩) s5).trans g2.out
  have q1 := (hb6'.cell (p := ⟨S + 1, 1, none⟩) s5).trans g3.out
  go_wp2_with fail
  refine (HS1.out _ hb6').mono ?_
  rintro e w7 ⟨rfl, hb7⟩
  have hb7' := Below.on hb6' hb7
  clear q0 q1 hb6' hb7 HS1
  have q0 := (hb7'.cell (p := ⟨S + 1, 0, none⟩) s5).trans g2.out
  have q1 := (hb7'.cell (p := ⟨S + 1, 1, none⟩) s5).trans g3.out
  have p0 := (hb7'.cell (p := ⟨B + 1 + 1 + 1 + 1 + 1 + 1, 0, none⟩) s7).trans g0.out
  have p1 := (hb7'.cell (p := ⟨B + 1 + 1 + 1 + 1 + 1 + 1, 1, none⟩) s7).trans g1.out
  go_wp2_with fail
  refine (HS2.out _ hb7').mono ?_
  rintro e w8 ⟨rfl, hb8⟩
  have hb8' := Below.on HH.out (Below.on hb7' hb8)
  clear q0 q1 p0 p1 hb7' hb8 HS2
  go_wp2_with fail
  go_ret
  exact ⟨rfl, hb8'⟩
end Go.Proofs.YtbpemackmadhgaaDoor

/- The statement of joined texts, at a program that lies in memory. -/
namespace Go.Proofs.YtbpemackmadhgaaDoor
open Go.RowKit Go.Sort

theorem sum_take_le (l : List Fu) (j : Nat) : ((l.take j).map fun f => vSs f.body).sum ≤ (l.map fun f => vSs f.body).sum := by
  induction l generalizing j with
  | nil => simp
  | cons x r ih =>
    cases j with
    | zero => simp
    | succ j => rw [List.take_succ_cons, List.map_cons, List.sum_cons, List.map_cons, List.sum_cons]; have := ih j; omega
theorem cat_two (l t : List UInt8) : Hid ((⟨l.toArray⟩ : ByteArray) ++ ⟨t.toArray⟩ = ⟨(l ++ t).toArray⟩) := by
  show _ = _
  apply ByteArray.ext
  simp
theorem txF_le {l : List Fu} {f : Fu} (h : f ∈ l) : (txF f).length ≤ (txFs l).length := by
  induction l with
  | nil => cases h
  | cons g r ih =>
    rw [txFs, List.length_append]
    rcases List.mem_cons.1 h with rfl | h
    · omega
    · have := ih h; omega

set_option maxRecDepth 100000 in
set_option maxHeartbeats 8000000 in
theorem treeJoins_any (p : Pr) (w : World) (hp : p.In w) (ht : Tabs w) (hnt : NumT w) : Calls Tryd.prog 6 #[p.val] w fun e w' => e = .returned (.bool true) ∧ Below w.heap.size w w' := by
  have HA : Hid (∀ w', Below w.heap.size w w' → Calls Tryd.prog 7 #[] w' fun e w'' => e = .returned (.bool true) ∧ Below w'.heap.size w' w'') := fun w' h => awake_any w' (ht.stay h) (hnt.stay h)
  have HP : Hid (∀ w', Below w.heap.size w w' → Calls Tryd.prog 14 #[p.val] w' fun e w'' => e = .returned (.tuple #[sB (prT p), fltV (prF p).1 (prF p).2.1 (prF p).2.2]) ∧ Below w'.heap.size w' w'') := fun w' h => print_any p w' (hp.stay h) (ht.stay h) (hnt.stay h)
  have HCK : Hid (∀ w', Below w.heap.size w w' → Calls Tryd.prog 15 #[p.val] w' fun e w'' => e = .returned (fltV (checkZ p).1 (checkZ p).2.1 (checkZ p).2.2) ∧ Below w'.heap.size w' w'') := fun w' h => check_any p w' (hp.stay h) (ht.stay h)
  have HPW : Hid (∀ w', Below w.heap.size w w' → Calls Tryd.prog 14 #[(pW p).val] w' fun e w'' => e = .returned (.tuple #[sB (prT (pW p)), fltV (prF (pW p)).1 (prF (pW p)).2.1 (prF (pW p)).2.2]) ∧ Below w'.heap.size w' w'') := fun w' h => print_any (pW p) w' (pW_in (hp.stay h)) (ht.stay h) (hnt.stay h)
  have HPO : Hid (∀ (f : Fu) (b o : Nat) w', Below w.heap.size w w' → (pO f b o).In w' → Calls Tryd.prog 14 #[(pO f b o).val] w' fun e w'' => e = .returned (.tuple #[sB (prT (pO f b o)), fltV (prF (pO f b o)).1 (prF (pO f b o)).2.1 (prF (pO f b o)).2.2]) ∧ Below w'.heap.size w' w'') := fun f b o w' h hi => print_any _ w' hi (ht.stay h) (hnt.stay h)
  have HNO : Hid (∀ (f : Fu) (b o : Nat) w', (pO f b o).In w' → Calls Tryd.prog 8 #[(pO f b o).val] w' fun e w'' => e = .returned (.int .i64 (nodesZ (pO f b o))) ∧ Below w'.heap.size w' w'') := fun f b o w' hi => nodes_any _ w' hi
  have HND : Hid (∀ w', Below w.heap.size w w' → Calls Tryd.prog 8 #[p.val] w' fun e w'' => e = .returned (.int .i64 (nodesZ p)) ∧ Below w'.heap.size w' w'') := fun w' h => nodes_any p w' (hp.stay h)
  have XP : Hid (∀ w', Below w.heap.size w w' → p.In w') := fun w' h => hp.stay h
  have q3 := hp.haveF.1.1
  have q4 := hp.haveF.1.2.1
  have q5 := hp.1
  have q6 := hp.2.1
  clear hp ht hnt
  unfold Pr.val at *
  obtain ⟨W1, hW1⟩ : ∃ W1, w.alloc (.cells #[.slice p.wa p.widen.length p.wc, .slice p.fa p.funcs.length p.fc] 26) = W1 := ⟨_, rfl⟩
  have B1 : Hid (Below w.heap.size w W1) := by rw [← hW1]; exact (Below.refl _ w).alloc (Nat.le_refl _) _
  obtain ⟨Z, hZ⟩ : ∃ Z, w.heap.size = Z := ⟨_, rfl⟩
  have hbk : W1.heap[Z]? = some (.cells #[.slice p.wa p.widen.length p.wc, .slice p.fa p.funcs.length p.fc] 26 (0, 0)) := by rw [← hW1, ← hZ]; exact heap_alloc_new _ _
  have P0 : Hid (∀ w', Below W1.heap.size W1 w' → w'.cell? ⟨Z, 0, none⟩ = some (.slice p.wa p.widen.length p.wc)) := fun w' h => seen (by rw [Lib.cell_of_heap hbk]; rfl) w' h
  have P1 : Hid (∀ w', Below W1.heap.size W1 w' → w'.cell? ⟨Z, 1, none⟩ = some (.slice p.fa p.funcs.length p.fc)) := fun w' h => seen (by rw [Lib.cell_of_heap hbk]; rfl) w' h
  have HW1 := show Hid _ from hW1
  have HZ := show Hid _ from hZ
  clear hW1 hbk hZ
  go_enter Tryd.func6, Tryd.ntmps6
  go_wp2_with fail
  rw [HW1.out, HZ.out]
  clear HW1
  refine (HA.out _ B1.out).mono ?_
  rintro e w2 ⟨rfl, hb2⟩
  have p0 := P0.out _ hb2
  have p1 := P1.out _ hb2
  go_wp2_with fail
  refine (HP.out _ (Below.on B1.out hb2)).mono ?_
  rintro e w3 ⟨rfl, hb3⟩
  have hb3' := Below.on hb2 hb3
  clear p0 p1 hb2 hb3 HA HP
  by_cases hE : (prF p).1 = 0
  · obtain ⟨h0, hl, hT, hF⟩ := pr_right hE
    rw [hT, hF]
    obtain ⟨_, hwh, hfs⟩ := check_ok h0
    have hwo := whole_ok hwh
    have HLEN : Hid ((txW p.widen).length + (txFs p.funcs).length ≤ 65536) := by show _ ≤ _; simpa [txP] using hl
    have HPW2 : Hid (∀ w', Below w.heap.size w w' → Calls Tryd.prog 14 #[.agg #[.slice p.wa p.widen.length p.wc, .slice none 0 0]] w' fun e w'' => e = .returned (.tuple #[sB (txW p.widen), fltV 0 0 0]) ∧ Below w'.heap.size w' w'') := fun w' h => by
      have := HPW.out w' h
      obtain ⟨t1, t2⟩ := pr_ok (pW_check h0) (by rw [pW_tx]; have := HLEN.out; omega)
      rw [t1, t2, pW_tx] at this
      exact this
    have HPO2 : Hid (∀ f ∈ p.funcs, ∀ (b o : Nat) w', Below w.heap.size w w' → (pO f b o).In w' → Calls Tryd.prog 14 #[.agg #[.slice none 0 0, .slice (some ⟨b, o, none⟩) 1 1]] w' fun e w'' => e = .returned (.tuple #[sB (txF f), fltV 0 0 0]) ∧ Below w'.heap.size w' w'') := fun f hf b o w' h hi => by
      have := HPO.out f b o w' h hi
      have hle : (txF f).length ≤ (txFs p.funcs).length := txF_le hf
      obtain ⟨t1, t2⟩ := pr_ok (pO_check (b := b) (o := o) (hfs f hf) (Nat.le_trans (sum_mem hf) hwo.2.2)) (by rw [pO_tx]; have := HLEN.out; omega)
      rw [t1, t2, pO_tx] at this
      exact this
    have HNO2 : Hid (∀ f ∈ p.funcs, ∀ (b o : Nat) w', (pO f b o).In w' → Calls Tryd.prog 8 #[.agg #[.slice none 0 0, .slice (some ⟨b, o, none⟩) 1 1]] w' fun e w'' => e = .returned (.int .i64 (vSs f.body)) ∧ Below w'.heap.size w' w'') := fun f hf b o w' hi => by
      have := HNO.out f b o w' hi
      rw [pO_nodes (Nat.le_trans (sum_mem hf) hwo.2.2)] at this
      exact this
    have HSUM : Hid ((p.funcs.map fun f => vSs f.body).sum ≤ 4096) := hwo.2.2
    rw [nodes_exact h0] at HND
    clear HPW HPO HNO hT hF h0 hl hwh hfs hwo hE HCK
    obtain ⟨W4, hW4⟩ : ∃ W4, w3.alloc (.cells #[.int .i64 0, .int .i64 0, .int .i64 0] 33) = W4 := ⟨_, rfl⟩
    have hb4 : Below w3.heap.size w3 W4 := by rw [← hW4]; exact (Below.refl _ _).alloc (Nat.le_refl _) _
    have hb4' := Below.on hb3' hb4
    have p0 : ∀ w', Below W4.heap.size W4 w' → w'.cell? ⟨Z, 0, none⟩ = some (.slice p.wa p.widen.length p.wc) := fun w' h => P0.out _ (Below.on hb4' h)
    have p0' := p0 W4 (Below.refl _ _)
    have HW4 := show Hid _ from hW4
    rw [← hW4] at p0'
    clear hW4 hb4 hb3' p0
    go_wp2_with fail
    rw [HW4.out]
    clear HW4 p0'
    refine (HPW2.out _ (Below.on B1.out hb4')).mono ?_
    rintro e w5 ⟨rfl, hb5⟩
    have hb5' := Below.on hb4' hb5
    obtain ⟨W6, hW6⟩ : ∃ W6, w5.alloc (.cells #[.int .i64 0, .int .i64 0, .int .i64 0] 33) = W6 := ⟨_, rfl⟩
    have hb6 : Below w5.heap.size w5 W6 := by rw [← hW6]; exact (Below.refl _ _).alloc (Nat.le_refl _) _
    have B6 : Hid (Below W1.heap.size W1 W6) := Below.on hb5' hb6
    have G0 : Hid (∀ w', Below W6.heap.size W6 w' → w'.cell? ⟨w5.heap.size, 0, none⟩ = some (.int .i64 0)) := fun w' h => seen (by rw [← hW6, World.cell?_alloc_at _ _ _ _ rfl]; rfl) w' h
    have p1 := P1.out _ B6.out
    have HW6 := show Hid _ from hW6
    rw [← hW6] at p1
    clear hW6 hb6 hb4' hb5 hb5'
    go_wp2_with fail
    rw [HW6.out]
    clear HW6 p1
    go_loopw [5, 7, 45] (fun t5 t7 t45 wr => ∃ (j : Nat), j ≤ p.funcs.length ∧ t45 = .int .i64 j ∧ t5 = .string ⟨(txW p.widen ++ txFs (p.funcs.take j)).toArray⟩ ∧ t7 = .int .i64 ((p.funcs.take j).map fun f => vSs f.body).sum ∧ Below W6.heap.size W6 wr) (fun _ _ t45 _ => p.funcs.length - (intOf t45).toNat)
    case atStart => exact ⟨0, Nat.zero_le _, rfl, by simp [txFs, sB], rfl, Below.refl _ _⟩
    case round =>
      obtain ⟨j, hj, rfl, rfl, rfl, hb⟩ := hrel
      by_cases hlt : j < p.funcs.length
      · have hli : (j : Int) < (p.funcs.length : Int) := by omega
        have hli0 : (0 : Int) ≤ (j : Int) := by omega
        have hbw : Below w.heap.size w wr := Below.on B1.out (Below.on B6.out hb)
        obtain ⟨b, o, ea, hcell⟩ := rowF_cells (XP.out wr hbw).haveF.1.2.2 hlt
        have p1 := P1.out wr (Below.on B6.out hb)
        rw [ea] at p1
        have HM : Hid (p.funcs[j] ∈ p.funcs) := List.getElem_mem hlt
        have HIO : Hid (∀ w', Below wr.heap.size wr w' → (pO p.funcs[j] b (o + j * 3)).In w') := fun w' h => pO_in ((XP.out w' (Below.on hbw h)).haveF.2 _ (List.getElem_mem hlt)) (fun i v e => by rw [Nat.add_assoc]; exact seen (hcell i v e) w' h)
        have HT : Hid (txFs (p.funcs.take (j + 1)) = txFs (p.funcs.take j) ++ txF p.funcs[j]) := txFs_take p.funcs j hlt
        have HLE : Hid ((txFs (p.funcs.take (j + 1))).length ≤ (txFs p.funcs).length) := txFs_le p.funcs (j + 1)
        have HS : Hid (((p.funcs.take (j + 1)).map fun f => vSs f.body).sum = ((p.funcs.take j).map fun f => vSs f.body).sum + vSs p.funcs[j].body) := by
          show _ = _
          rw [List.take_succ_eq_append_getElem hlt, List.map_append, List.sum_append]; simp
        have HSL : Hid (((p.funcs.take (j + 1)).map fun f => vSs f.body).sum ≤ (p.funcs.map fun f => vSs f.body).sum) := sum_take_le p.funcs (j + 1)
        have HNE : Hid (0 < (txF p.funcs[j]).length) := txF_ne _
        generalize p.funcs[j] = f at *
        clear hcell ea
        obtain ⟨lj, hlj⟩ : ∃ lj, txW p.widen ++ txFs (p.funcs.take j) = lj := ⟨_, rfl⟩
        obtain ⟨nj, hnj⟩ : ∃ nj, ((p.funcs.take j).map fun f => vSs f.body).sum = nj := ⟨_, rfl⟩
        obtain ⟨tf, htf⟩ : ∃ tf, txF f = tf := ⟨_, rfl⟩
        obtain ⟨vf, hvf⟩ : ∃ vf, vSs f.body = vf := ⟨_, rfl⟩
        have hbnd : lj.length + tf.length ≤ 65536 ∧ nj + vf ≤ 4096 := by
          have h1 := HLE.out
          have h2 := HLEN.out
          have h3 := congrArg List.length hlj
          have h4 := HS.out
          have h5 := HSL.out
          have h6 := HSUM.out
          rw [HT.out] at h1
          simp only [List.length_append] at h1 h3
          rw [htf] at h1
          rw [hnj, hvf] at h4
          omega
        have HRW : Hid (txW p.widen ++ txFs (p.funcs.take (j + 1)) = lj ++ tf ∧ ((p.funcs.take (j + 1)).map fun f => vSs f.body).sum = nj + vf) := by
          refine ⟨?_, ?_⟩
          · rw [HT.out, ← List.append_assoc, hlj, htf]
          · rw [HS.out, hnj, hvf]
        rw [hlj, hnj]
        have HPO3 : Hid (∀ w', Below wr.heap.size wr w' → Calls Tryd.prog 14 #[.agg #[.slice none 0 0, .slice (some ⟨b, o + j * 3, none⟩) 1 1]] w' fun e w'' => e = .returned (.tuple #[sB tf, fltV 0 0 0]) ∧ Below w'.heap.size w' w'') := fun w' h => by
          rw [← htf]; exact HPO2.out f HM.out b (o + j * 3) w' (Below.on hbw h) (HIO.out w' h)
        have HNO3 : Hid (∀ w', Below wr.heap.size wr w' → Calls Tryd.prog 8 #[.agg #[.slice none 0 0, .slice (some ⟨b, o + j * 3, none⟩) 1 1]] w' fun e w'' => e = .returned (.int .i64 vf) ∧ Below w'.heap.size w' w'') := fun w' h => by
          rw [← hvf]; exact HNO2.out f HM.out b (o + j * 3) w' (HIO.out w' h)
        have hemp : tf.isEmpty = false := by
          have := HNE.out
          rw [htf] at this
          cases tf with
          | nil => simp at this
          | cons a r => rfl
        have hlb := hbnd.1
        have hnb := hbnd.2
        clear hlj hnj htf hvf hbnd HT HLE HS HSL HNE
        obtain ⟨W7, hW7⟩ : ∃ W7, wr.alloc (.cells #[.slice none 0 0, .slice (some ⟨b, o + j * 3, none⟩) 1 1] 26) = W7 := ⟨_, rfl⟩
        have hb7 : Below wr.heap.size wr W7 := by rw [← hW7]; exact (Below.refl _ _).alloc (Nat.le_refl _) _
        have c0 : ∀ w', Below W7.heap.size W7 w' → w'.cell? ⟨wr.heap.size, 0, none⟩ = some (.slice none 0 0) := fun w' h => seen (by rw [← hW7, World.cell?_alloc_at _ _ _ _ rfl]; rfl) w' h
        have c1 : ∀ w', Below W7.heap.size W7 w' → w'.cell? ⟨wr.heap.size, 1, none⟩ = some (.slice (some ⟨b, o + j * 3, none⟩) 1 1) := fun w' h => seen (by rw [← hW7, World.cell?_alloc_at _ _ _ _ rfl]; rfl) w' h
        have HC0 := show Hid _ from c0
        have HC1 := show Hid _ from c1
        have HW7 := show Hid _ from hW7
        clear hW7 c0 c1
        go_wp2_with fail
        rw [HW7.out]
        clear HW7 p1
        refine (HPO3.out W7 hb7).mono ?_
        rintro e w8 ⟨rfl, hb8⟩
        have hb8' := Below.on hb7 hb8
        obtain ⟨W9, hW9⟩ : ∃ W9, w8.alloc (.cells #[.int .i64 0, .int .i64 0, .int .i64 0] 33) = W9 := ⟨_, rfl⟩
        have hb9 : Below w8.heap.size w8 W9 := by rw [← hW9]; exact (Below.refl _ _).alloc (Nat.le_refl _) _
        have c0 := HC0.out _ (Below.on hb8 hb9)
        have c1 := HC1.out _ (Below.on hb8 hb9)
        have HW9 := show Hid _ from hW9
        rw [← hW9] at c0 c1
        have hb9' := Below.on hb8' hb9
        clear hW9 hb9 hb8 hb7 hb8'
        go_wp2_with fail
        rw [HW9.out]
        clear HW9 c0 c1 hemp
        refine (HNO3.out W9 hb9').mono ?_
        rintro e wA ⟨rfl, hbA⟩
        have hbA' := Below.on hb9' hbA
        have HCAT := cat_two lj tf
        clear hbA hb9'
        go_wp2_with fail
        go_roundw
        case rel => exact ⟨j + 1, by omega, by go_num, by rw [HRW.out.1, HCAT.out], by rw [HRW.out.2]; go_num, Below.on hb hbA'⟩
        case measure => simp [intOf]; omega
      · obtain rfl : j = p.funcs.length := by omega
        have hbw : Below w.heap.size w wr := Below.on B1.out (Below.on B6.out hb)
        have g0 := G0.out _ hb
        have p0 := P0.out _ (Below.on B6.out hb)
        have p1 := P1.out _ (Below.on B6.out hb)
        rw [List.take_length, show txW p.widen ++ txFs p.funcs = txP p from rfl]
        generalize txP p = T at *
        generalize (p.funcs.map fun f => vSs f.body).sum = N at *
        go_wp2_with fail
        refine (HND.out _ hbw).mono ?_
        rintro e wB ⟨rfl, hbB⟩
        clear g0 p0 p1
        go_wp2_with fail
        go_ret
        exact ⟨by simp, Below.on hbw hbB⟩
  · obtain ⟨hT, hcs⟩ := pr_fault hE
    rw [hT]
    rcases hcs with ⟨hc0, hF⟩ | ⟨hc0, hF⟩
    · rw [hF]
      generalize (checkZ p).1 = e0 at *
      generalize (checkZ p).2.1 = e1 at *
      generalize (checkZ p).2.2 = e2 at *
      have he0 : (e0 != 0) = true := by simpa using hc0
      obtain ⟨W4, hW4⟩ : ∃ W4, w3.alloc (.cells #[.int .i64 e0, .int .i64 e1, .int .i64 e2] 33) = W4 := ⟨_, rfl⟩
      have hb4 : Below w3.heap.size w3 W4 := by rw [← hW4]; exact (Below.refl _ _).alloc (Nat.le_refl _) _
      have hb4' := Below.on hb3' hb4
      have s0 := fun d os => seen (by rw [← hW4, World.cell?_alloc_at _ _ _ _ rfl]; rfl : W4.cell? ⟨w3.heap.size, 0, none⟩ = some (.int .i64 e0)) _ (below_regrown W4 d os)
      have s1 := fun d os => seen (by rw [← hW4, World.cell?_alloc_at _ _ _ _ rfl]; rfl : W4.cell? ⟨w3.heap.size, 1, none⟩ = some (.int .i64 e1)) _ (below_regrown W4 d os)
      have s2 := fun d os => seen (by rw [← hW4, World.cell?_alloc_at _ _ _ _ rfl]; rfl : W4.cell? ⟨w3.heap.size, 2, none⟩ = some (.int .i64 e2)) _ (below_regrown W4 d os)
      have p0 := fun d os => P0.out _ (Below.on hb4' (below_regrown W4 d os))
      have p1 := fun d os => P1.out _ (Below.on hb4' (below_regrown W4 d os))
      have HC2 : Hid (∀ w', Below W4.heap.size W4 w' → Calls Tryd.prog 15 #[.agg #[.slice p.wa p.widen.length p.wc, .slice p.fa p.funcs.length p.fc]] w' fun e w'' => e = .returned (fltV e0 e1 e2) ∧ Below w'.heap.size w' w'') := fun w' h => HCK.out w' (Below.on B1.out (Below.on hb4' h))
      have hq : ∀ w, (Op.equalIn 10000 33 (.agg #[.int .i64 e0, .int .i64 e1, .int .i64 e2]) (.agg #[.int .i64 e0, .int .i64 e1, .int .i64 e2])).run Tryd.prog w = .ok true w := fun w => by rw [equalIn_ft]; simp
      have hg : ∀ (w : World) (op : BinOp) (a b : Operand) (xs ys : Array Value), (eqGuard op 33 a b (.agg xs) (.agg ys)).run Tryd.prog w = .ok () w := fun w op a b xs ys => run_eqGuard_agg w op 33 a b xs ys (by kernel_rfl)
      have HW4 := show Hid _ from hW4
      clear hW4 hb4
      go_wp2_with fail
      rw [HW4.out]
      clear HW4
      refine wp_region_quiet_below (by kernel_rfl) (by kernel_rfl) ?_
      repeat (go_big_quiet_step ((go_at_call 15; exact Calls.regrown_of (HC2.out _ (below_regrown _ _ _)))))
      refine wpQuiet_nil ?_
      intro _ hw'
      obtain ⟨⟨dq, osq⟩, hw''⟩ := hw'
      subst hw''
      have hbq := below_regrown W4 dq osq
      clear s0 s1 s2 p0 p1 hq hg
      go_wp2_with fail
      go_ret
      exact ⟨rfl, Below.on B1.out (Below.on hb4' hbq)⟩
    · rw [hF]
      rw [hc0] at HCK
      clear hT hF hc0 hE
      obtain ⟨W4, hW4⟩ : ∃ W4, w3.alloc (.cells #[.int .i64 4, .int .i64 0, .int .i64 0] 33) = W4 := ⟨_, rfl⟩
      have hb4 : Below w3.heap.size w3 W4 := by rw [← hW4]; exact (Below.refl _ _).alloc (Nat.le_refl _) _
      have hb4' := Below.on hb3' hb4
      have s0 := fun d os => seen (by rw [← hW4, World.cell?_alloc_at _ _ _ _ rfl]; rfl : W4.cell? ⟨w3.heap.size, 0, none⟩ = some (.int .i64 4)) _ (below_regrown W4 d os)
      have s1 := fun d os => seen (by rw [← hW4, World.cell?_alloc_at _ _ _ _ rfl]; rfl : W4.cell? ⟨w3.heap.size, 1, none⟩ = some (.int .i64 0)) _ (below_regrown W4 d os)
      have s2 := fun d os => seen (by rw [← hW4, World.cell?_alloc_at _ _ _ _ rfl]; rfl : W4.cell? ⟨w3.heap.size, 2, none⟩ = some (.int .i64 0)) _ (below_regrown W4 d os)
      have p0 := fun d os => P0.out _ (Below.on hb4' (below_regrown W4 d os))
      have p1 := fun d os => P1.out _ (Below.on hb4' (below_regrown W4 d os))
      have HC2 : Hid (∀ w', Below W4.heap.size W4 w' → Calls Tryd.prog 15 #[.agg #[.slice p.wa p.widen.length p.wc, .slice p.fa p.funcs.length p.fc]] w' fun e w'' => e = .returned (fltV 0 0 0) ∧ Below w'.heap.size w' w'') := fun w' h => HCK.out w' (Below.on B1.out (Below.on hb4' h))
      have hq : ∀ w, (Op.equalIn 10000 33 (.agg #[.int .i64 4, .int .i64 0, .int .i64 0]) (.agg #[.int .i64 4, .int .i64 0, .int .i64 0])).run Tryd.prog w = .ok true w := fun w => by rw [equalIn_ft]; simp
      have hq2 : ∀ w, (Op.equalIn 10000 33 (.agg #[.int .i64 4, .int .i64 0, .int .i64 0]) (.agg #[.int .i64 0, .int .i64 0, .int .i64 0])).run Tryd.prog w = .ok false w := fun w => by rw [equalIn_ft]; simp
      have hg : ∀ (w : World) (op : BinOp) (a b : Operand) (xs ys : Array Value), (eqGuard op 33 a b (.agg xs) (.agg ys)).run Tryd.prog w = .ok () w := fun w op a b xs ys => run_eqGuard_agg w op 33 a b xs ys (by kernel_rfl)
      have HW4 := show Hid _ from hW4
      clear hW4 hb4
      go_wp2_with fail
      rw [HW4.out]
      clear HW4
      refine wp_region_quiet_below (by kernel_rfl) (by kernel_rfl) ?_
      repeat (go_big_quiet_step ((go_at_call 15; exact Calls.regrown_of (HC2.out _ (below_regrown _ _ _)))))
      refine wpQuiet_nil ?_
      intro _ hw'
      obtain ⟨⟨dq, osq⟩, hw''⟩ := hw'
      subst hw''
      have hbq := below_regrown W4 dq osq
      clear s0 s1 s2 p0 p1 hq hq2 hg
      go_wp2_with fail
      go_ret
      exact ⟨rfl, Below.on B1.out (Below.on hb4' hbq)⟩
end Go.Proofs.YtbpemackmadhgaaDoor
