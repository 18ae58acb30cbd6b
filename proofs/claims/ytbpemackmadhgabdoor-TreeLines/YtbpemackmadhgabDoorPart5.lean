/- page.stmt at its other kinds: those of one line, and loops. -/
import Derived.Test.YtbpemackmadhgabDoorPart4
import Derived.Test.YtbpemackmadhgabDoorPart3
import Derived.Test.YtbpemackmadhgabDoorPart2
namespace Go.Proofs.YtbpemackmadhgabDoor
open Go.RowKit Go.Sort

set_option maxRecDepth 100000 in
set_option maxHeartbeats 8000000 in
theorem stmt8 (w0 : World) (s : St) (hk : s.kind = 8)  : StmtPr w0 s := by
  intro b l d w hB hp hd hlen
  have HT : Hid (lineB d (cat [⟨#[98, 114, 101, 97, 107, 59]⟩]) = txS s d) := by
    show _ = _; cases s; simp only [St.kind] at hk; subst hk; simp [txS, cat]
  rw [← HT.out] at hlen ⊢
  have HLEN : Hid ((l ++ lineB d (cat [⟨#[98, 114, 101, 97, 107, 59]⟩])).length ≤ 140737488355328) := hlen
  have HP : Hid (PgT w0.heap.size b l d w) := hp
  have hsw := hB.size
  clear hp hlen HT
  unfold St.val
  rw [hk]
  have hb0 := (Below.refl _ w).alloc (Nat.le_refl _) (.cells #[.int .i64 8, .string s.name, .int .i64 s.n, .int .i64 s.a.kind, .int .i64 s.a.n, .string s.a.name, .slice s.a.a s.a.args.length s.a.cap, .int .i64 s.b.kind, .int .i64 s.b.n, .string s.b.name, .slice s.b.a s.b.args.length s.b.cap, .slice s.ba s.body.length s.bc, .slice s.ea s.els.length s.ec, .slice s.ca s.cases.length s.cc] 53)
  have hB0 : Below w0.heap.size w0 _ := hB.alloc hsw (.cells #[.int .i64 8, .string s.name, .int .i64 s.n, .int .i64 s.a.kind, .int .i64 s.a.n, .string s.a.name, .slice s.a.a s.a.args.length s.a.cap, .int .i64 s.b.kind, .int .i64 s.b.n, .string s.b.name, .slice s.b.a s.b.args.length s.b.cap, .slice s.ba s.body.length s.bc, .slice s.ea s.els.length s.ec, .slice s.ca s.cases.length s.cc] 53)
  obtain ⟨W0, hW0⟩ : ∃ W0, w.alloc (.cells #[.int .i64 8, .string s.name, .int .i64 s.n, .int .i64 s.a.kind, .int .i64 s.a.n, .string s.a.name, .slice s.a.a s.a.args.length s.a.cap, .int .i64 s.b.kind, .int .i64 s.b.n, .string s.b.name, .slice s.b.a s.b.args.length s.b.cap, .slice s.ba s.body.length s.bc, .slice s.ea s.els.length s.ec, .slice s.ca s.cases.length s.cc] 53) = W0 := ⟨_, rfl⟩
  have HW0 := show Hid _ from hW0
  have HSZ : Hid (w.heap.size + 1 = W0.heap.size) := by show _ = _; rw [← hW0]; simp
  rw [hW0] at hb0 hB0
  clear hW0
  go_enter Tryd.func64, Tryd.ntmps64
  go_wp2_with fail
  rw [HW0.out, HSZ.out]
  have hb2 := hb0
  refine (line_new w0.heap.size b l d [⟨#[98, 114, 101, 97, 107, 59]⟩] W0 (HP.out.stay hb2) (by have := hb2.size; omega) (Nat.le_of_ble_eq_true rfl) (by omega) HLEN.out).mono ?_
  rintro e w2 ⟨rfl, hp2, hb3, ho3⟩
  have HP2 : Hid (PgT w0.heap.size b (l ++ lineB d (cat [⟨#[98, 114, 101, 97, 107, 59]⟩])) d w2) := hp2
  clear hp2
  go_wp2_with fail
  go_end0
  exact ⟨rfl, HP2.out, ((hb2.mono hsw).alloc (by have := hb2.size; omega) _).trans hb3, ((oth_below hb2).alloc _).trans ho3⟩

set_option maxRecDepth 100000 in
set_option maxHeartbeats 8000000 in
theorem stmt10 (w0 : World) (s : St) (hk : s.kind = 10) (hin : s.In w0) (ht : Tabs w0) (hnt : NumT w0) (hoa : OkE s.a) (hza : s.a.sz ≤ 1000000) : StmtPr w0 s := by
  intro b l d w hB hp hd hlen
  have HT : Hid (lineB d (cat [⟨(txE s.a).toArray⟩, ⟨#[59]⟩]) = txS s d) := by
    show _ = _; cases s; simp only [St.kind] at hk; subst hk; simp [txS, cat, St.a]
  rw [← HT.out] at hlen ⊢
  have HLEN : Hid ((l ++ lineB d (cat [⟨(txE s.a).toArray⟩, ⟨#[59]⟩])).length ≤ 140737488355328) := hlen
  have HX : Hid (∀ w', Below w0.heap.size w0 w' → Calls Tryd.prog 81 #[.agg #[.int .i64 s.a.kind, .int .i64 s.a.n, .string s.a.name, .slice s.a.a s.a.args.length s.a.cap]] w' fun e w'' => e = .returned (sB (txE s.a)) ∧ Below w'.heap.size w' w'') := fun w' hb => expr_any s.a w' ((St.in_iff.1 hin).2.2.2.1.stay hb) (ht.stay hb) (hnt.stay hb) hoa hza
  have HP : Hid (PgT w0.heap.size b l d w) := hp
  have hsw := hB.size
  clear hin ht hnt hoa hp hlen HT
  unfold St.val
  rw [hk]
  have hb0 := (Below.refl _ w).alloc (Nat.le_refl _) (.cells #[.int .i64 10, .string s.name, .int .i64 s.n, .int .i64 s.a.kind, .int .i64 s.a.n, .string s.a.name, .slice s.a.a s.a.args.length s.a.cap, .int .i64 s.b.kind, .int .i64 s.b.n, .string s.b.name, .slice s.b.a s.b.args.length s.b.cap, .slice s.ba s.body.length s.bc, .slice s.ea s.els.length s.ec, .slice s.ca s.cases.length s.cc] 53)
  have hB0 : Below w0.heap.size w0 _ := hB.alloc hsw (.cells #[.int .i64 10, .string s.name, .int .i64 s.n, .int .i64 s.a.kind, .int .i64 s.a.n, .string s.a.name, .slice s.a.a s.a.args.length s.a.cap, .int .i64 s.b.kind, .int .i64 s.b.n, .string s.b.name, .slice s.b.a s.b.args.length s.b.cap, .slice s.ba s.body.length s.bc, .slice s.ea s.els.length s.ec, .slice s.ca s.cases.length s.cc] 53)
  go_enter Tryd.func64, Tryd.ntmps64
  go_wp2_with fail
  refine (HX.out _ hB0).mono ?_
  rintro e w1 ⟨rfl, hb1⟩
  have hb2 := Below.on hb0 hb1
  go_wp2_with fail
  refine (line_new w0.heap.size b l d [⟨(txE s.a).toArray⟩, ⟨#[59]⟩] w1 (HP.out.stay hb2) (by have := hb2.size; omega) (Nat.le_of_ble_eq_true rfl) (by omega) HLEN.out).mono ?_
  rintro e w2 ⟨rfl, hp2, hb3, ho3⟩
  have HP2 : Hid (PgT w0.heap.size b (l ++ lineB d (cat [⟨(txE s.a).toArray⟩, ⟨#[59]⟩])) d w2) := hp2
  clear hp2
  go_wp2_with fail
  go_end0
  exact ⟨rfl, HP2.out, ((hb2.mono hsw).alloc (by have := hb2.size; omega) _).trans hb3, ((oth_below hb2).alloc _).trans ho3⟩
end Go.Proofs.YtbpemackmadhgabDoor

/- What follows where nothing is wrong with a program: of its parts, and how many they are. -/
namespace Go.Proofs.YtbpemackmadhgabDoor
open Go.RowKit Go.Sort

theorem thenZ_ok {p : Int × Int} {f : Int → Int × Int} (h : (thenZ p f).1 = 0) : p.1 = 0 ∧ (f p.2).1 = 0 := by
  unfold thenZ at h
  split at h
  · exact absurd h (by assumption)
  · rename_i h0; exact ⟨by simpa using h0, h⟩
theorem chkT_ok {s : St} {lv at_ : Int} (h : (chkT s lv at_).1 = 0) : chkS s lv = 0 ∧ (∃ a, (chkSs s.body (lv + 1) a).1 = 0) ∧ (∃ a, (chkCs s.cases (lv + 1) a).1 = 0) ∧ ∃ a, (chkSs s.els (lv + 1) a).1 = 0 := by
  obtain ⟨k, nm, n, a, b, ba, bc, l, ea, ec, e, ca, cc, c⟩ := s
  rw [chkT] at h
  split at h
  · exact absurd h (by assumption)
  · rename_i h0
    obtain ⟨h1, h2⟩ := thenZ_ok h
    obtain ⟨h3, h4⟩ := thenZ_ok h2
    exact ⟨by simpa using h0, ⟨_, h1⟩, ⟨_, h3⟩, ⟨_, h4⟩⟩
theorem chkSs_ok : ∀ {l : List St} {lv at_ : Int}, (chkSs l lv at_).1 = 0 → ∀ x ∈ l, ∃ a, (chkT x lv a).1 = 0
  | [], _, _, _, x, hx => by cases hx
  | s :: r, lv, at_, h, x, hx => by
    rw [chkSs] at h
    obtain ⟨h1, h2⟩ := thenZ_ok h
    rcases List.mem_cons.1 hx with rfl | hx
    · exact ⟨_, h1⟩
    · exact chkSs_ok h2 x hx
theorem chkCs_ok : ∀ {l : List Ca} {lv at_ : Int}, (chkCs l lv at_).1 = 0 → ∀ c ∈ l, ∃ a, (chkSs c.body lv a).1 = 0
  | [], _, _, _, x, hx => by cases hx
  | c :: r, lv, at_, h, x, hx => by
    rw [chkCs] at h
    obtain ⟨h1, h2⟩ := thenZ_ok h
    rcases List.mem_cons.1 hx with rfl | hx
    · rw [chkCa_eq] at h1; exact ⟨_, h1⟩
    · exact chkCs_ok h2 x hx
/-- A statement that is right by itself. -/
theorem chkS_ok {s : St} {lv : Int} (h : chkS s lv = 0) : lv ≤ 32 ∧ 1 ≤ s.kind ∧ s.kind ≤ 10 ∧ ((bits .and .i64 (fldS s.kind.toNat) 1 != 0) = true → nameZ s.name = true) ∧
    ((bits .and .i64 (fldS s.kind.toNat) 4 != 0) = true → OkE s.a) ∧ ((bits .and .i64 (fldS s.kind.toNat) 8 != 0) = true → OkE s.b) := by
  unfold chkS at h
  split at h
  · omega
  split at h
  · rename_i _ h1; exact absurd h h1
  rename_i h0 h1
  have h1' : selfS s = 0 := by simpa using h1
  have hk : isS s.kind = true ∧ ((bits .and .i64 (fldS s.kind.toNat) 1 != 0) = true → nameZ s.name = true) := by
    unfold selfS at h1'
    split at h1'
    · omega
    rename_i hs
    split at h1'
    · omega
    split at h1'
    · omega
    rename_i hn
    refine ⟨by simpa using hs, fun hb => ?_⟩
    rw [hb] at hn
    simpa using hn
  simp only [isS, Bool.and_eq_true, decide_eq_true_eq] at hk
  refine ⟨by omega, hk.1.1, hk.1.2, hk.2, fun hb => ?_, fun hb => ?_⟩
  · split at h
    · rename_i h2; rw [hb] at h2; simp at h2; exact absurd h h2
    · rename_i h2; rw [hb] at h2; simp at h2; exact ⟨_, h2⟩
  · split at h
    · rename_i h2
      rw [Bool.and_eq_true] at h2
      simp at h2; exact absurd h h2.2
    · exact ⟨_, h⟩

def zE (x : Ex) : Nat := if zeroE x then 0 else x.sz
mutual
def St.V : St → Nat | .mk _ _ _ a b _ _ l _ _ e _ _ c => zE a + zE b + vSs l + vSs e + vCs c + c.length + 1
def vSs : List St → Nat | [] => 0 | x :: r => x.V + vSs r
def Ca.V : Ca → Nat | .mk _ _ _ l => vSs l
def vCs : List Ca → Nat | [] => 0 | c :: r => c.V + vCs r
end
theorem St.V_eq (s : St) : s.V = zE s.a + zE s.b + vSs s.body + vSs s.els + vCs s.cases + s.cases.length + 1 := by
  cases s; simp only [St.V, St.a, St.b, St.body, St.els, St.cases]
theorem Ca.V_eq (c : Ca) : c.V = vSs c.body := by cases c; simp only [Ca.V, Ca.body]
theorem vSs_mem {l : List St} {x : St} (h : x ∈ l) : x.V ≤ vSs l := by
  induction l with
  | nil => cases h
  | cons y r ih =>
    rw [vSs]
    rcases List.mem_cons.1 h with rfl | h
    · omega
    · have := ih h; omega
theorem vCs_mem {l : List Ca} {x : Ca} (h : x ∈ l) : x.V ≤ vCs l := by
  induction l with
  | nil => cases h
  | cons y r ih =>
    rw [vCs]
    rcases List.mem_cons.1 h with rfl | h
    · omega
    · have := ih h; omega
theorem cntE_V (k : Nat) : (∀ (x : Ex) (n : Int), x.sz ≤ k → cntE x n ≤ 4096 → n + x.sz ≤ cntE x n) ∧ (∀ (l : List Ex) (n : Int), szL l ≤ k → cntL l n ≤ 4096 → n + szL l ≤ cntL l n) := by
  induction k with
  | zero =>
    refine ⟨fun x n hk => by have := x.sz_args; omega, fun l n hk => ?_⟩
    cases l with
    | nil => simp [cntL, szL]
    | cons x r => rw [szL] at hk; have := x.sz_args; omega
  | succ k ih =>
    have h1 : ∀ (x : Ex) (n : Int), x.sz ≤ k + 1 → cntE x n ≤ 4096 → n + x.sz ≤ cntE x n := fun x n hk h => by
      rw [cntE_args] at h ⊢
      have := ih.2 x.args (n + 1) (by have := x.sz_args; omega) h
      have := x.sz_args
      omega
    refine ⟨h1, fun l => ?_⟩
    induction l with
    | nil => intro n _ _; simp [cntL, szL]
    | cons x r ihr =>
      intro n hk h
      rw [szL] at hk ⊢
      rw [cntL] at h ⊢
      split at h
      · omega
      · rename_i hn
        rw [if_neg hn]
        have a1 := cntL_ge r (cntE x n)
        have a2 := h1 x n (by omega) (by omega)
        have a3 := ihr (cntE x n) (by omega) h
        omega
theorem cntZ_V (x : Ex) (n : Int) : n ≤ cntZ x n ∧ (cntZ x n ≤ 4096 → n + zE x ≤ cntZ x n) := by
  refine ⟨cntZ_ge x n, fun h => ?_⟩
  unfold cntZ zE at *
  split at h
  · rename_i hz; simp [hz]
  · rename_i hz
    have := (cntE_V _).1 x n (Nat.le_refl _) h
    simp [hz]; omega
theorem cntS_V (k : Nat) : (∀ (s : St) (n : Int), s.sz ≤ k → n ≤ cntS s n ∧ (cntS s n ≤ 4096 → n + s.V ≤ cntS s n)) ∧ (∀ (l : List St) (n : Int), ssz l ≤ k → n ≤ cntSs l n ∧ (cntSs l n ≤ 4096 → n + vSs l ≤ cntSs l n)) := by
  have step : ∀ k, (∀ (s : St) (n : Int), s.sz ≤ k → n ≤ cntS s n ∧ (cntS s n ≤ 4096 → n + s.V ≤ cntS s n)) → ∀ (l : List St) (n : Int), ssz l ≤ k → n ≤ cntSs l n ∧ (cntSs l n ≤ 4096 → n + vSs l ≤ cntSs l n) := by
    intro k h1 l
    induction l with
    | nil => intro n _; simp only [cntSs, vSs]; omega
    | cons x r ihr =>
      intro n hk
      rw [ssz] at hk
      rw [vSs, cntSs]
      split
      · omega
      · have a1 := h1 x n (by omega)
        have a2 := ihr (cntS x n) (by omega)
        omega
  induction k with
  | zero =>
    have h0 : ∀ (s : St) (n : Int), s.sz ≤ 0 → n ≤ cntS s n ∧ (cntS s n ≤ 4096 → n + s.V ≤ cntS s n) := fun s n hk => by have := s.sz_eq; omega
    exact ⟨h0, step 0 h0⟩
  | succ k ih =>
    have h1 : ∀ (s : St) (n : Int), s.sz ≤ k + 1 → n ≤ cntS s n ∧ (cntS s n ≤ 4096 → n + s.V ≤ cntS s n) := by
      intro s n hk
      have hz := s.sz_eq
      have hc : ∀ (l : List Ca) (n : Int), csz l ≤ k → n ≤ cntCs l n ∧ (cntCs l n ≤ 4096 → n + vCs l ≤ cntCs l n) := by
        intro l
        induction l with
        | nil => intro n _; simp only [cntCs, vCs]; omega
        | cons c r ihr =>
          intro n hk
          rw [csz] at hk
          rw [cntCs, vCs, cntC_eq, c.V_eq]
          have a1 := ih.2 c.body n (by have := c.sz_eq; omega)
          have a2 := ihr (cntSs c.body n) (by omega)
          omega
      have e : cntS s n = cntSs s.els (cntCs s.cases (cntSs s.body (cntZ s.b (cntZ s.a (n + (1 + (s.cases.length : Int))))))) := by
        cases s; simp only [cntS, St.els, St.cases, St.body, St.a, St.b]
      rw [e, s.V_eq]
      have a1 := cntZ_V s.a (n + (1 + (s.cases.length : Int)))
      have a2 := cntZ_V s.b (cntZ s.a (n + (1 + (s.cases.length : Int))))
      have a3 := ih.2 s.body (cntZ s.b (cntZ s.a (n + (1 + (s.cases.length : Int))))) (by omega)
      have a4 := hc s.cases (cntSs s.body (cntZ s.b (cntZ s.a (n + (1 + (s.cases.length : Int)))))) (by omega)
      have a5 := ih.2 s.els (cntCs s.cases (cntSs s.body (cntZ s.b (cntZ s.a (n + (1 + (s.cases.length : Int))))))) (by omega)
      omega
    exact ⟨h1, step (k + 1) h1⟩
theorem cntF_V : ∀ (l : List Fu) (n : Int), n ≤ cntF l n ∧ (cntF l n ≤ 4096 → n + (l.map fun f => vSs f.body).sum ≤ cntF l n)
  | [], n => ⟨Int.le_refl _, fun _ => by simp [cntF]⟩
  | f :: r, n => by
    have a1 := (cntS_V _).2 f.body n (Nat.le_refl _)
    have a2 := cntF_V r (cntSs f.body n)
    rw [cntF, List.map_cons, List.sum_cons]
    omega
theorem whole_ok {p : Pr} (h : wholeZ p = 0) : p.widen.length ≤ 16 ∧ p.funcs.length ≤ 32 ∧ (p.funcs.map fun f => vSs f.body).sum ≤ 4096 := by
  have hn : p.widen.length ≤ 16 ∧ p.funcs.length ≤ 32 ∧ nodesZ p ≤ 4096 := by
    unfold wholeZ at h
    split at h
    · omega
    split at h
    · omega
    split at h
    · omega
    split at h
    · omega
    split at h
    · omega
    omega
  refine ⟨hn.1, hn.2.1, ?_⟩
  have h2 := hn.2.2
  unfold nodesZ at h2
  have := (cntF_V p.funcs 0).2 (by omega)
  omega
theorem sum_mem {l : List Fu} {f : Fu} (h : f ∈ l) : vSs f.body ≤ (l.map fun f => vSs f.body).sum := by
  induction l with
  | nil => cases h
  | cons y r ih =>
    rw [List.map_cons, List.sum_cons]
    rcases List.mem_cons.1 h with rfl | h
    · omega
    · have := ih h; omega
theorem okE_zE {x : Ex} (h : OkE x) : zE x = x.sz := by
  obtain ⟨kn, hk, h1, _⟩ := selfE_zero h.parts.1
  unfold zE
  rw [if_neg]
  intro hz
  simp only [zeroE, Bool.and_eq_true, beq_iff_eq] at hz
  omega
end Go.Proofs.YtbpemackmadhgabDoor

/- How long the text of a right program is at most. -/
namespace Go.Proofs.YtbpemackmadhgabDoor
open Go.RowKit Go.Sort

theorem lineB_len (d : Nat) (t : List UInt8) : (lineB d t).length = 2 * d + t.length + 1 := by simp [lineB]; omega
theorem txS_eq (s : St) (d : Nat) : txS s d =
    if s.kind = 1 then lineB d ([108, 101, 116, 32] ++ s.name.data.toList ++ [32, 61, 32] ++ txE s.a ++ [59])
    else if s.kind = 2 then lineB d ([108, 101, 116, 32] ++ s.name.data.toList ++ [91] ++ Lib.itoa s.n ++ [93, 59])
    else if s.kind = 3 then lineB d (s.name.data.toList ++ [32, 61, 32] ++ txE s.a ++ [59])
    else if s.kind = 4 then lineB d (s.name.data.toList ++ [91] ++ txE s.a ++ [93, 32, 61, 32] ++ txE s.b ++ [59])
    else if s.kind = 5 then lineB d ([105, 102, 32] ++ txE s.a ++ [32, 123]) ++ txSs s.body (d + 1) ++ (if s.els.length = 0 then [] else lineB d [125, 32, 101, 108, 115, 101, 32, 123] ++ txSs s.els (d + 1)) ++ lineB d [125]
    else if s.kind = 6 then lineB d ([115, 119, 105, 116, 99, 104, 32] ++ txE s.a ++ [32, 123]) ++ txCs s.cases (d + 1) ++ (if s.els.length = 0 then [] else lineB (d + 1) [101, 108, 115, 101, 32, 123] ++ txSs s.els (d + 2) ++ lineB (d + 1) [125]) ++ lineB d [125]
    else if s.kind = 7 then lineB d ([102, 111, 114, 32] ++ s.name.data.toList ++ [32, 105, 110, 32] ++ txE s.a ++ [46, 46] ++ txE s.b ++ [32, 123]) ++ txSs s.body (d + 1) ++ lineB d [125]
    else if s.kind = 8 then lineB d [98, 114, 101, 97, 107, 59]
    else if s.kind = 9 then lineB d ([114, 101, 116, 117, 114, 110, 32] ++ txE s.a ++ [59])
    else lineB d (txE s.a ++ [59]) := by
  cases s; rw [txS]; rfl
theorem txC_eq' (c : Ca) (d : Nat) : txC c d = lineB d ([99, 97, 115, 101, 32] ++ Lib.itoa c.n ++ [32, 123]) ++ txSs c.body (d + 1) ++ lineB d [125] := by
  cases c; simp only [txC, Ca.n, Ca.body]
theorem nm_len {s : ByteArray} (h : nameZ s = true) : s.data.toList.length ≤ 16 := by
  have := nameZ_len h
  rw [Array.length_toList]
  exact this

theorem txS_len {w : World} (k : Nat) : (∀ (s : St) (lv : Nat) (at_ : Int) (d : Nat), s.sz ≤ k → s.In w → (chkT s lv at_).1 = 0 → d ≤ 2 * lv + 20 → (txS s d).length ≤ 1000 * s.V) ∧
    (∀ (l : List St) (lv : Nat) (at_ : Int) (d : Nat), ssz l ≤ k → (∀ x ∈ l, x.In w) → (chkSs l lv at_).1 = 0 → d ≤ 2 * lv + 20 → (txSs l d).length ≤ 1000 * vSs l) := by
  have step : ∀ k, (∀ (s : St) (lv : Nat) (at_ : Int) (d : Nat), s.sz ≤ k → s.In w → (chkT s lv at_).1 = 0 → d ≤ 2 * lv + 20 → (txS s d).length ≤ 1000 * s.V) →
      ∀ (l : List St) (lv : Nat) (at_ : Int) (d : Nat), ssz l ≤ k → (∀ x ∈ l, x.In w) → (chkSs l lv at_).1 = 0 → d ≤ 2 * lv + 20 → (txSs l d).length ≤ 1000 * vSs l := by
    intro k h1 l
    induction l with
    | nil => intro lv at_ d _ _ _ _; simp [txSs]
    | cons x r ihr =>
      intro lv at_ d hk hin hc hd
      rw [ssz] at hk
      rw [chkSs] at hc
      obtain ⟨c1, c2⟩ := thenZ_ok hc
      have a1 := h1 x lv _ d (by omega) (hin x (by simp)) c1 hd
      have a2 := ihr lv _ d (by omega) (fun y hy => hin y (by simp [hy])) c2 hd
      rw [txSs, vSs, List.length_append]; omega
  induction k with
  | zero =>
    have h0 : ∀ (s : St) (lv : Nat) (at_ : Int) (d : Nat), s.sz ≤ 0 → s.In w → (chkT s lv at_).1 = 0 → d ≤ 2 * lv + 20 → (txS s d).length ≤ 1000 * s.V := fun s _ _ _ hk => by have := s.sz_eq; omega
    exact ⟨h0, step 0 h0⟩
  | succ k ih =>
    have h1 : ∀ (s : St) (lv : Nat) (at_ : Int) (d : Nat), s.sz ≤ k + 1 → s.In w → (chkT s lv at_).1 = 0 → d ≤ 2 * lv + 20 → (txS s d).length ≤ 1000 * s.V := by
      intro s lv at_ d hk hin hc hd
      obtain ⟨cs, ⟨ab, cb⟩, ⟨ac, cc⟩, ⟨ae, ce⟩⟩ := chkT_ok hc
      obtain ⟨hlv, hk1, hk2, hnm, hoa, hob⟩ := chkS_ok cs
      have hz := s.sz_eq
      have hi := St.in_iff.1 hin
      have hd2 : d ≤ 84 := by omega
      have lb : (txSs s.body (d + 1)).length ≤ 1000 * vSs s.body := ih.2 s.body (lv + 1) ab (d + 1) (by omega) hi.2.2.2.2.2.1.2 (by exact_mod_cast cb) (by omega)
      have le1 : (txSs s.els (d + 1)).length ≤ 1000 * vSs s.els := ih.2 s.els (lv + 1) ae (d + 1) (by omega) hi.2.2.2.2.2.2.1.2 (by exact_mod_cast ce) (by omega)
      have le2 : (txSs s.els (d + 2)).length ≤ 1000 * vSs s.els := ih.2 s.els (lv + 1) ae (d + 2) (by omega) hi.2.2.2.2.2.2.1.2 (by exact_mod_cast ce) (by omega)
      have lc : (txCs s.cases (d + 1)).length ≤ 1000 * (vCs s.cases + s.cases.length) := by
        have gen : ∀ (l : List Ca) (a : Int), csz l ≤ k → (∀ x ∈ l, x.In w) → (chkCs l ((lv + 1 : Nat) : Int) a).1 = 0 → (txCs l (d + 1)).length ≤ 1000 * (vCs l + l.length) := by
          intro l
          induction l with
          | nil => intro a _ _ _; simp [txCs]
          | cons c r ihr =>
            intro a hk hin hc
            rw [csz] at hk
            rw [chkCs] at hc
            obtain ⟨c1, c2⟩ := thenZ_ok hc
            rw [chkCa_eq] at c1
            have hci := Ca.in_iff.1 (hin c (by simp))
            have a1 := ih.2 c.body (lv + 1) a (d + 1 + 1) (by have := c.sz_eq; omega) hci.2.2 c1 (by omega)
            have a2 := ihr _ (by omega) (fun y hy => hin y (by simp [hy])) c2
            have a3 := Lib.itoa_length_le c.n hci.1.1 hci.1.2
            rw [txCs, vCs, c.V_eq, txC_eq']
            simp only [List.length_append, lineB_len, List.length_cons, List.length_nil]
            omega
        exact gen s.cases ac (by omega) hi.2.2.2.2.2.2.2.2 (by exact_mod_cast cc)
      have la : OkE s.a → (txE s.a).length + 4 ≤ 32 * zE s.a := fun h => by rw [okE_zE h]; exact txE_len _ s.a (Nat.le_refl _) hi.2.2.2.1 h
      have lbb : OkE s.b → (txE s.b).length + 4 ≤ 32 * zE s.b := fun h => by rw [okE_zE h]; exact txE_len _ s.b (Nat.le_refl _) hi.2.2.2.2.1 h
      have ln := Lib.itoa_length_le s.n hi.2.2.1.1 hi.2.2.1.2
      rw [s.V_eq, txS_eq]
      have hcase : s.kind = 1 ∨ s.kind = 2 ∨ s.kind = 3 ∨ s.kind = 4 ∨ s.kind = 5 ∨ s.kind = 6 ∨ s.kind = 7 ∨ s.kind = 8 ∨ s.kind = 9 ∨ s.kind = 10 := by omega
      rcases hcase with h | h | h | h | h | h | h | h | h | h <;> rw [h] at hnm hoa hob ⊢
      · have := la (hoa rfl)
        have := nm_len (hnm rfl)
        rw [if_pos rfl]
        simp only [List.length_append, lineB_len, List.length_cons, List.length_nil]; omega
      · have := nm_len (hnm rfl)
        rw [if_neg (show ¬ (2 : Int) = 1 by decide), if_pos rfl]
        simp only [List.length_append, lineB_len, List.length_cons, List.length_nil]; omega
      · have := la (hoa rfl)
        have := nm_len (hnm rfl)
        rw [if_neg (show ¬ (3 : Int) = 1 by decide), if_neg (show ¬ (3 : Int) = 2 by decide), if_pos rfl]
        simp only [List.length_append, lineB_len, List.length_cons, List.length_nil]; omega
      · have := la (hoa rfl)
        have := lbb (hob rfl)
        have := nm_len (hnm rfl)
        rw [if_neg (show ¬ (4 : Int) = 1 by decide), if_neg (show ¬ (4 : Int) = 2 by decide), if_neg (show ¬ (4 : Int) = 3 by decide), if_pos rfl]
        simp only [List.length_append, lineB_len, List.length_cons, List.length_nil]; omega
      · have := la (hoa rfl)
        rw [if_neg (show ¬ (5 : Int) = 1 by decide), if_neg (show ¬ (5 : Int) = 2 by decide), if_neg (show ¬ (5 : Int) = 3 by decide), if_neg (show ¬ (5 : Int) = 4 by decide), if_pos rfl]
        by_cases h0 : s.els.length = 0
        · rw [if_pos h0]; simp only [List.length_append, lineB_len, List.length_cons, List.length_nil]; omega
        · rw [if_neg h0]; simp only [List.length_append, lineB_len, List.length_cons, List.length_nil]; omega
      · have := la (hoa rfl)
        rw [if_neg (show ¬ (6 : Int) = 1 by decide), if_neg (show ¬ (6 : Int) = 2 by decide), if_neg (show ¬ (6 : Int) = 3 by decide), if_neg (show ¬ (6 : Int) = 4 by decide), if_neg (show ¬ (6 : Int) = 5 by decide), if_pos rfl]
        by_cases h0 : s.els.length = 0
        · rw [if_pos h0]; simp only [List.length_append, lineB_len, List.length_cons, List.length_nil]; omega
        · rw [if_neg h0]; simp only [List.length_append, lineB_len, List.length_cons, List.length_nil]; omega
      · have := la (hoa rfl)
        have := lbb (hob rfl)
        have := nm_len (hnm rfl)
        rw [if_neg (show ¬ (7 : Int) = 1 by decide), if_neg (show ¬ (7 : Int) = 2 by decide), if_neg (show ¬ (7 : Int) = 3 by decide), if_neg (show ¬ (7 : Int) = 4 by decide), if_neg (show ¬ (7 : Int) = 5 by decide), if_neg (show ¬ (7 : Int) = 6 by decide), if_pos rfl]
        simp only [List.length_append, lineB_len, List.length_cons, List.length_nil]; omega
      · rw [if_neg (show ¬ (8 : Int) = 1 by decide), if_neg (show ¬ (8 : Int) = 2 by decide), if_neg (show ¬ (8 : Int) = 3 by decide), if_neg (show ¬ (8 : Int) = 4 by decide), if_neg (show ¬ (8 : Int) = 5 by decide), if_neg (show ¬ (8 : Int) = 6 by decide), if_neg (show ¬ (8 : Int) = 7 by decide), if_pos rfl]
        simp only [lineB_len, List.length_cons, List.length_nil]; omega
      · have := la (hoa rfl)
        rw [if_neg (show ¬ (9 : Int) = 1 by decide), if_neg (show ¬ (9 : Int) = 2 by decide), if_neg (show ¬ (9 : Int) = 3 by decide), if_neg (show ¬ (9 : Int) = 4 by decide), if_neg (show ¬ (9 : Int) = 5 by decide), if_neg (show ¬ (9 : Int) = 6 by decide), if_neg (show ¬ (9 : Int) = 7 by decide), if_neg (show ¬ (9 : Int) = 8 by decide), if_pos rfl]
        simp only [List.length_append, lineB_len, List.length_cons, List.length_nil]; omega
      · have := la (hoa rfl)
        rw [if_neg (show ¬ (10 : Int) = 1 by decide), if_neg (show ¬ (10 : Int) = 2 by decide), if_neg (show ¬ (10 : Int) = 3 by decide), if_neg (show ¬ (10 : Int) = 4 by decide), if_neg (show ¬ (10 : Int) = 5 by decide), if_neg (show ¬ (10 : Int) = 6 by decide), if_neg (show ¬ (10 : Int) = 7 by decide), if_neg (show ¬ (10 : Int) = 8 by decide), if_neg (show ¬ (10 : Int) = 9 by decide)]
        simp only [List.length_append, lineB_len, List.length_cons, List.length_nil]; omega
    exact ⟨h1, step (k + 1) h1⟩
end Go.Proofs.YtbpemackmadhgabDoor

/- tree.Print, where nothing is wrong with the form. -/
namespace Go.Proofs.YtbpemackmadhgabDoor
open Go.RowKit Go.Sort

theorem heap3 {w w1 : World} {c1 c2 : Array Value} {t1 t2 : TypeId} (hb : Below ((w.alloc (.cells c1 t1)).alloc (.cells c2 t2)).heap.size ((w.alloc (.cells c1 t1)).alloc (.cells c2 t2)) w1) :
    w1.heap[w.heap.size]? = some (.cells c1 t1 (0, 0)) ∧ w1.heap[w.heap.size + 1]? = some (.cells c2 t2 (0, 0)) := by
  have h1 : ((w.alloc (.cells c1 t1)).alloc (.cells c2 t2)).heap[w.heap.size]? = some (.cells c1 t1 (0, 0)) := (Lib.alloc_old _ _ _ (by simp)).trans (heap_alloc_new w _)
  have h2 : ((w.alloc (.cells c1 t1)).alloc (.cells c2 t2)).heap[w.heap.size + 1]? = some (.cells c2 t2 (0, 0)) := by
    have := heap_alloc_new (w.alloc (.cells c1 t1)) (.cells c2 t2)
    rwa [World.size_alloc] at this
  exact ⟨(hb.block _ (by simp; omega)).trans h1, (hb.block _ (by simp)).trans h2⟩

set_option maxHeartbeats 2000000 in
set_option maxRecDepth 100000 in
theorem string_oth (B b : Nat) (l : List UInt8) (d : Int) (w : World) (h : Pg B b (Lib.byteCells l) d w) :
    Calls Tryd.prog 26 #[.pointer (some ⟨b, 0, none⟩)] w fun e w' => e = .returned (.string ⟨l.toArray⟩) ∧ Below B w w' ∧ Oth b w w' := by
  obtain ⟨p, h1⟩ := h.some
  clear h
  obtain ⟨hB, v, hbk, hown, hne, hnil⟩ := h1
  rw [Lib.byteCells_length] at hown
  by_cases h0 : l = []
  · subst h0
    obtain rfl := hnil rfl
    have c1 : w.drew.cell? ⟨b, 1, none⟩ = some (.slice none 0 0) := by
      have : w.drew.heap[b]? = some (.cells #[p, .slice none 0 0, .int .i64 d] 68 (0, 0)) := hbk
      rw [Lib.cell_of_heap this]; rfl
    have hSD : (Builtin.unsafeSliceData_ #[64] 89 #[.slice none 0 0]).run Tryd.prog w.drew = .ok (.pointer none) w.drew := rfl
    have hUS : (Builtin.unsafeString_ #[89, 3] 9 #[.pointer none, .int .i64 0]).run Tryd.prog w.drew = .ok (.string .empty) w.drew := rfl
    clear hown hbk hne hnil
    go_enter Tryd.func26, Tryd.ntmps26
    go_wp2
    go_region
    all_goals (go_wp2; go_ret; exact ⟨rfl, Below.drew (Below.refl B w), (Lib.OthersKept.refl _ _ w).drew⟩)
  · have hl0 : l.length ≠ 0 := by simpa using h0
    obtain ⟨g, cap, cur, rfl, hbg, hg, hnc, hcm, hcs, htake⟩ : ∃ g cap cur, v = .slice (some ⟨g, 0, none⟩) l.length cap ∧ B ≤ g ∧ w.heap[g]? = some (.cells cur 5 (0, 0)) ∧ l.length ≤ cap ∧ cap ≤ maxLen ∧ cur.size = cap * 1 ∧ cur.toList.take (l.length * 1) = Lib.byteCells l := by
      rcases hown.2 with ⟨_, hz⟩ | ⟨g, cap, cur, hv, r⟩
      · exact absurd hz hl0
      · exact ⟨g, cap, cur, hv, r⟩
    have c1 : w.drew.cell? ⟨b, 1, none⟩ = some (.slice (some ⟨g, 0, none⟩) l.length cap) := by
      have : w.drew.heap[b]? = some (.cells #[p, .slice (some ⟨g, 0, none⟩) l.length cap, .int .i64 d] 68 (0, 0)) := hbk
      rw [Lib.cell_of_heap this]; rfl
    have hSD : (Builtin.unsafeSliceData_ #[64] 89 #[.slice (some ⟨g, 0, none⟩) l.length cap]).run Tryd.prog w.drew = .ok (.pointer (some ⟨g, 0, none⟩)) w.drew :=
      Lib.run_unsafeSliceData_row _ _ _ _ _ _ (by omega)
    have hUS : (Builtin.unsafeString_ #[89, 3] 9 #[.pointer (some ⟨g, 0, none⟩), .int .i64 l.length]).run Tryd.prog w.drew = .ok (.string ⟨l.toArray⟩) (w.drew.freeze ⟨g, 0, none⟩ l.length) := by
      refine Lib.run_unsafeString_row w.drew 89 3 9 5 Tryd.underlying89 Tryd.cellsByte g cur.size (by have hg' : w.drew.heap[g]? = some (.cells cur 5 (0, 0)) := hg; simp [World.shape?, hg']) l h0 (by omega) (by unfold maxLen at hcm; omega) ?_
      intro j x hx
      exact hown.cells (g := g) rfl j (.int .u8 x.toNat) (by simp [Lib.byteCells, hx])
    have HG : Hid (w.heap[g]? = some (.cells cur 5 (0, 0))) := hg
    clear hown hbk hne hnil hg htake
    go_enter Tryd.func26, Tryd.ntmps26
    go_wp2
    go_region
    all_goals (go_wp2; go_ret; exact ⟨rfl, Lib.below_freeze (Below.drew (Below.refl B w)) (p := ⟨g, 0, none⟩) hbg _, Lib.OthersKept.freeze ((Lib.OthersKept.refl _ _ w).drew) ⟨g, 0, none⟩ _ ⟨_, _, HG.out⟩⟩)
set_option maxRecDepth 100000 in
set_option maxHeartbeats 8000000 in
theorem print_ok (p : Pr) (w : World) (hin : p.In w) (ht : Tabs w) (hnt : NumT w) (hck : checkZ p = (0, 0, 0)) (hw16 : p.widen.length ≤ 16) (hf : ∀ f ∈ p.funcs, FnPr w f) (hlen : (txP p).length ≤ 65536) :
    Calls Tryd.prog 11 #[p.val] w fun e w' => e = .returned (.tuple #[sB (txP p), fltV 0 0 0]) ∧ Below w.heap.size w w' := by
  have HC : Hid (∀ w', Below w.heap.size w w' → Calls Tryd.prog 7 #[p.val] w' fun e w'' => e = .returned (fltV 0 0 0) ∧ Below w'.heap.size w' w'') := fun w' hb => by
    have := check_any p w' (hin.stay hb) (ht.stay hb)
    rw [hck] at this; exact this
  have HP : Hid (∀ b w', Below w.heap.size w w' → PgT w.heap.size b [] 0 w' → Calls Tryd.prog 24 #[.pointer (some ⟨b, 0, none⟩), p.val] w' fun e w'' => e = .returned (.tuple #[]) ∧ PgT w.heap.size b (txP p) 0 w'' ∧ Below w.heap.size w' w'' ∧ Oth b w' w'') := fun b w' hb hp => program_any w b w' p hb hp hin hnt hw16 hf (by omega)
  clear hin ht hnt hck hf
  unfold Pr.val at HC HP ⊢
  have hb1 := ((Below.refl _ w).alloc (Nat.le_refl _) (.cells #[.slice p.wa p.widen.length p.wc, .slice p.fa p.funcs.length p.fc] 25)).alloc (by simp) (.cells #[.int .i64 0, .int .i64 0, .int .i64 0] 29)
  go_enter Tryd.func11, Tryd.ntmps11
  go_wp2_with fail
  refine (HC.out _ hb1).mono ?_
  rintro e w1 ⟨rfl, hbc⟩
  obtain ⟨k1, k2⟩ := heap3 hbc
  have hb2 := Below.on hb1 hbc
  have hs1 : w.heap.size + 1 + 1 ≤ w1.heap.size := by have := hbc.size; simp at this; omega
  have c0 : w1.cell? ⟨w.heap.size, 0, none⟩ = some (.slice p.wa p.widen.length p.wc) := by rw [Lib.cell_of_heap k1]; rfl
  have c1 : w1.cell? ⟨w.heap.size, 1, none⟩ = some (.slice p.fa p.funcs.length p.fc) := by rw [Lib.cell_of_heap k1]; rfl
  have K2 : Hid (w1.heap[w.heap.size + 1]? = some (.cells #[.int .i64 0, .int .i64 0, .int .i64 0] 29 (0, 0))) := k2
  have hlt0 : w.heap.size < w1.heap.size := by omega
  have hlt1 : w.heap.size + 1 < w1.heap.size := by omega
  clear k1 k2 hbc hb1
  go_wp2_with fail
  have hbx := ((Below.refl _ w1).alloc (Nat.le_refl _) (.cells #[.int .i64 0, .int .i64 0, .int .i64 0] 29)).alloc (by simp) (.cells #[.pointer none, .slice none 0 0, .int .i64 0] 68)
  have hbn : ((w1.alloc (.cells #[.int .i64 0, .int .i64 0, .int .i64 0] 29)).alloc (.cells #[.pointer none, .slice none 0 0, .int .i64 0] 68)).heap[w1.heap.size + 1]? = some (.cells #[.pointer none, .slice none 0 0, .int .i64 0] 68 (0, 0)) := by
    have := heap_alloc_new (w1.alloc (.cells #[.int .i64 0, .int .i64 0, .int .i64 0] 29)) (.cells #[.pointer none, .slice none 0 0, .int .i64 0] 68)
    rwa [World.size_alloc] at this
  have hpg : PgT w.heap.size (w1.heap.size + 1) [] 0 ((w1.alloc (.cells #[.int .i64 0, .int .i64 0, .int .i64 0] 29)).alloc (.cells #[.pointer none, .slice none 0 0, .int .i64 0] 68)) :=
    .inl ⟨by omega, .slice none 0 0, hbn, World.ownsRow_nil _ _ _ _, by simp [Value.ownBlock], fun _ => rfl⟩
  have K3 : Hid (((w1.alloc (.cells #[.int .i64 0, .int .i64 0, .int .i64 0] 29)).alloc (.cells #[.pointer none, .slice none 0 0, .int .i64 0] 68)).heap[w.heap.size + 1]? = some (.cells #[.int .i64 0, .int .i64 0, .int .i64 0] 29 (0, 0))) := (hbx.block _ hlt1).trans K2.out
  have hbb := Below.on hb2 hbx
  refine (HP.out _ _ hbb hpg).mono ?_
  rintro e w2 ⟨rfl, hp2, hb3, ho3⟩
  have HP2 : Hid (PgT w.heap.size (w1.heap.size + 1) (txP p) 0 w2) := hp2
  have K4 : w2.heap[w.heap.size + 1]? = some (.cells #[.int .i64 0, .int .i64 0, .int .i64 0] 29 (0, 0)) := ho3 _ _ K3.out (by simp; omega) (fun c fz e => by cases e)
  have hb4 : Below w.heap.size w w2 := hbb.trans hb3
  clear hp2 hb3 ho3 hbn hpg hbx hbb c0 c1 K3 K2 hb2
  go_wp2_with fail
  refine (len_any _ _ _ _ _ HP2.out).mono ?_
  rintro e w3 ⟨rfl, rfl⟩
  have HL : Hid (((Lib.byteCells (txP p)).length : Int) ≤ 65536) := by show _ ≤ _; rw [Lib.byteCells_length]; omega
  have hll := HL.out
  generalize ((Lib.byteCells (txP p)).length : Int) = ln at hll ⊢
  have hll2 : ¬ 65536 < ln := by omega
  go_wp2_with fail
  refine (string_oth _ _ (txP p) _ _ HP2.out).mono ?_
  rintro e w4 ⟨rfl, hb5, ho5⟩
  have K5 : w4.heap[w.heap.size + 1]? = some (.cells #[.int .i64 0, .int .i64 0, .int .i64 0] 29 (0, 0)) := ho5 _ _ K4 (by simp; omega) (fun c fz e => by cases e)
  have r0 : w4.cell? ⟨w.heap.size + 1, 0, none⟩ = some (.int .i64 0) := by rw [Lib.cell_of_heap K5]; rfl
  have r1 : w4.cell? ⟨w.heap.size + 1, 1, none⟩ = some (.int .i64 0) := by rw [Lib.cell_of_heap K5]; rfl
  have r2 : w4.cell? ⟨w.heap.size + 1, 2, none⟩ = some (.int .i64 0) := by rw [Lib.cell_of_heap K5]; rfl
  have q0 : w4.frozen? ⟨w.heap.size + 1, 0, none⟩ = false := Lib.frozen_of_heap K5 0
  have q1 : w4.frozen? ⟨w.heap.size + 1, 1, none⟩ = false := Lib.frozen_of_heap K5 1
  have q2 : w4.frozen? ⟨w.heap.size + 1, 2, none⟩ = false := Lib.frozen_of_heap K5 2
  have hb6 := hb4.trans hb5
  clear K4 K5 ho5 hb5 hb4
  go_wp2_with fail
  refine bodyPost_ret (v := .tuple #[sB (txP p), fltV 0 0 0]) (by simp [results, Tryd.results11, go_sem, r0, r1, r2]) rfl ⟨rfl, below_set3 hb6 (by omega) _ _ _⟩
end Go.Proofs.YtbpemackmadhgabDoor

/- tree.Print where the text is too long, and where Check finds something wrong. -/
namespace Go.Proofs.YtbpemackmadhgabDoor
open Go.RowKit Go.Sort

set_option maxRecDepth 100000 in
set_option maxHeartbeats 8000000 in
theorem print_long (p : Pr) (w : World) (hin : p.In w) (ht : Tabs w) (hnt : NumT w) (hck : checkZ p = (0, 0, 0)) (hw16 : p.widen.length ≤ 16) (hf : ∀ f ∈ p.funcs, FnPr w f) (hlen : 65536 < (txP p).length) (hlen2 : (txP p).length ≤ 140737488355328) :
    Calls Tryd.prog 11 #[p.val] w fun e w' => e = .returned (.tuple #[sB [], fltV 4 0 0]) ∧ Below w.heap.size w w' := by
  have HC : Hid (∀ w', Below w.heap.size w w' → Calls Tryd.prog 7 #[p.val] w' fun e w'' => e = .returned (fltV 0 0 0) ∧ Below w'.heap.size w' w'') := fun w' hb => by
    have := check_any p w' (hin.stay hb) (ht.stay hb)
    rw [hck] at this; exact this
  have HP : Hid (∀ b w', Below w.heap.size w w' → PgT w.heap.size b [] 0 w' → Calls Tryd.prog 24 #[.pointer (some ⟨b, 0, none⟩), p.val] w' fun e w'' => e = .returned (.tuple #[]) ∧ PgT w.heap.size b (txP p) 0 w'' ∧ Below w.heap.size w' w'' ∧ Oth b w' w'') := fun b w' hb hp => program_any w b w' p hb hp hin hnt hw16 hf hlen2
  clear hin ht hnt hck hf
  unfold Pr.val at HC HP ⊢
  have hb1 := ((Below.refl _ w).alloc (Nat.le_refl _) (.cells #[.slice p.wa p.widen.length p.wc, .slice p.fa p.funcs.length p.fc] 25)).alloc (by simp) (.cells #[.int .i64 0, .int .i64 0, .int .i64 0] 29)
  go_enter Tryd.func11, Tryd.ntmps11
  go_wp2_with fail
  refine (HC.out _ hb1).mono ?_
  rintro e w1 ⟨rfl, hbc⟩
  obtain ⟨k1, k2⟩ := heap3 hbc
  have hb2 := Below.on hb1 hbc
  have hs1 : w.heap.size + 1 + 1 ≤ w1.heap.size := by have := hbc.size; simp at this; omega
  have c0 : w1.cell? ⟨w.heap.size, 0, none⟩ = some (.slice p.wa p.widen.length p.wc) := by rw [Lib.cell_of_heap k1]; rfl
  have c1 : w1.cell? ⟨w.heap.size, 1, none⟩ = some (.slice p.fa p.funcs.length p.fc) := by rw [Lib.cell_of_heap k1]; rfl
  have K2 : Hid (w1.heap[w.heap.size + 1]? = some (.cells #[.int .i64 0, .int .i64 0, .int .i64 0] 29 (0, 0))) := k2
  have hlt0 : w.heap.size < w1.heap.size := by omega
  have hlt1 : w.heap.size + 1 < w1.heap.size := by omega
  clear k1 k2 hbc hb1
  go_wp2_with fail
  have hbx := ((Below.refl _ w1).alloc (Nat.le_refl _) (.cells #[.int .i64 0, .int .i64 0, .int .i64 0] 29)).alloc (by simp) (.cells #[.pointer none, .slice none 0 0, .int .i64 0] 68)
  have hbn : ((w1.alloc (.cells #[.int .i64 0, .int .i64 0, .int .i64 0] 29)).alloc (.cells #[.pointer none, .slice none 0 0, .int .i64 0] 68)).heap[w1.heap.size + 1]? = some (.cells #[.pointer none, .slice none 0 0, .int .i64 0] 68 (0, 0)) := by
    have := heap_alloc_new (w1.alloc (.cells #[.int .i64 0, .int .i64 0, .int .i64 0] 29)) (.cells #[.pointer none, .slice none 0 0, .int .i64 0] 68)
    rwa [World.size_alloc] at this
  have hpg : PgT w.heap.size (w1.heap.size + 1) [] 0 ((w1.alloc (.cells #[.int .i64 0, .int .i64 0, .int .i64 0] 29)).alloc (.cells #[.pointer none, .slice none 0 0, .int .i64 0] 68)) :=
    .inl ⟨by omega, .slice none 0 0, hbn, World.ownsRow_nil _ _ _ _, by simp [Value.ownBlock], fun _ => rfl⟩
  have K3 : Hid (((w1.alloc (.cells #[.int .i64 0, .int .i64 0, .int .i64 0] 29)).alloc (.cells #[.pointer none, .slice none 0 0, .int .i64 0] 68)).heap[w.heap.size + 1]? = some (.cells #[.int .i64 0, .int .i64 0, .int .i64 0] 29 (0, 0))) := (hbx.block _ hlt1).trans K2.out
  have hbb := Below.on hb2 hbx
  refine (HP.out _ _ hbb hpg).mono ?_
  rintro e w2 ⟨rfl, hp2, hb3, ho3⟩
  have HP2 : Hid (PgT w.heap.size (w1.heap.size + 1) (txP p) 0 w2) := hp2
  have K4 : w2.heap[w.heap.size + 1]? = some (.cells #[.int .i64 0, .int .i64 0, .int .i64 0] 29 (0, 0)) := ho3 _ _ K3.out (by simp; omega) (fun c fz e => by cases e)
  have hb4 : Below w.heap.size w w2 := hbb.trans hb3
  clear hp2 hb3 ho3 hbn hpg hbx hbb c0 c1 K3 K2 hb2
  go_wp2_with fail
  refine (len_any _ _ _ _ _ HP2.out).mono ?_
  rintro e w3 ⟨rfl, rfl⟩
  have HL : Hid (65536 < ((Lib.byteCells (txP p)).length : Int)) := by show _ < _; rw [Lib.byteCells_length]; omega
  have hll := HL.out
  generalize ((Lib.byteCells (txP p)).length : Int) = ln at hll ⊢
  have r0 : w3.cell? ⟨w.heap.size + 1, 0, none⟩ = some (.int .i64 0) := by rw [Lib.cell_of_heap K4]; rfl
  have r1 : w3.cell? ⟨w.heap.size + 1, 1, none⟩ = some (.int .i64 0) := by rw [Lib.cell_of_heap K4]; rfl
  have r2 : w3.cell? ⟨w.heap.size + 1, 2, none⟩ = some (.int .i64 0) := by rw [Lib.cell_of_heap K4]; rfl
  have q0 : w3.frozen? ⟨w.heap.size + 1, 0, none⟩ = false := Lib.frozen_of_heap K4 0
  have q1 : w3.frozen? ⟨w.heap.size + 1, 1, none⟩ = false := Lib.frozen_of_heap K4 1
  have q2 : w3.frozen? ⟨w.heap.size + 1, 2, none⟩ = false := Lib.frozen_of_heap K4 2
  clear K4
  go_wp2_with fail
  refine bodyPost_ret (v := .tuple #[sB [], fltV 4 0 0]) (by simp [results, Tryd.results11, go_sem, r0, r1, r2]) rfl ⟨rfl, below_set3 hb4 (by omega) _ _ _⟩

set_option maxRecDepth 100000 in
set_option maxHeartbeats 8000000 in
theorem print_bad (p : Pr) (w : World) (hin : p.In w) (ht : Tabs w) (hck : (checkZ p).1 ≠ 0) :
    Calls Tryd.prog 11 #[p.val] w fun e w' => e = .returned (.tuple #[sB [], fltV (checkZ p).1 (checkZ p).2.1 (checkZ p).2.2]) ∧ Below w.heap.size w w' := by
  have HC : Hid (∀ w', Below w.heap.size w w' → Calls Tryd.prog 7 #[p.val] w' fun e w'' => e = .returned (fltV (checkZ p).1 (checkZ p).2.1 (checkZ p).2.2) ∧ Below w'.heap.size w' w'') := fun w' hb => check_any p w' (hin.stay hb) (ht.stay hb)
  clear hin ht
  generalize (checkZ p).1 = e0 at *
  generalize (checkZ p).2.1 = e1 at *
  generalize (checkZ p).2.2 = e2 at *
  have hcb : (e0 != 0) = true := by simpa using hck
  unfold Pr.val at HC ⊢
  have hb1 := ((Below.refl _ w).alloc (Nat.le_refl _) (.cells #[.slice p.wa p.widen.length p.wc, .slice p.fa p.funcs.length p.fc] 25)).alloc (by simp) (.cells #[.int .i64 0, .int .i64 0, .int .i64 0] 29)
  go_enter Tryd.func11, Tryd.ntmps11
  go_wp2_with fail
  refine (HC.out _ hb1).mono ?_
  rintro e w1 ⟨rfl, hbc⟩
  obtain ⟨k1, k2⟩ := heap3 hbc
  have hb2 := Below.on hb1 hbc
  have hs1 : w.heap.size + 1 + 1 ≤ w1.heap.size := by have := hbc.size; simp at this; omega
  have r0 : w1.cell? ⟨w.heap.size + 1, 0, none⟩ = some (.int .i64 0) := by rw [Lib.cell_of_heap k2]; rfl
  have r1 : w1.cell? ⟨w.heap.size + 1, 1, none⟩ = some (.int .i64 0) := by rw [Lib.cell_of_heap k2]; rfl
  have r2 : w1.cell? ⟨w.heap.size + 1, 2, none⟩ = some (.int .i64 0) := by rw [Lib.cell_of_heap k2]; rfl
  have hne1 : w.heap.size + 1 ≠ w1.heap.size := by omega
  have hne2 : w1.heap.size ≠ w.heap.size + 1 := by omega
  have g0 : (w1.alloc (.cells #[.int .i64 e0, .int .i64 e1, .int .i64 e2] 29)).cell? ⟨w.heap.size + 1, 0, none⟩ = some (.int .i64 0) := (World.cell?_alloc_past _ _ _ (by show w.heap.size + 1 < _; omega)).trans r0
  have g1 : (w1.alloc (.cells #[.int .i64 e0, .int .i64 e1, .int .i64 e2] 29)).cell? ⟨w.heap.size + 1, 1, none⟩ = some (.int .i64 0) := (World.cell?_alloc_past _ _ _ (by show w.heap.size + 1 < _; omega)).trans r1
  have g2 : (w1.alloc (.cells #[.int .i64 e0, .int .i64 e1, .int .i64 e2] 29)).cell? ⟨w.heap.size + 1, 2, none⟩ = some (.int .i64 0) := (World.cell?_alloc_past _ _ _ (by show w.heap.size + 1 < _; omega)).trans r2
  obtain ⟨W2, hW2⟩ : ∃ W2, w1.alloc (.cells #[.int .i64 e0, .int .i64 e1, .int .i64 e2] 29) = W2 := ⟨_, rfl⟩
  have HW2 := show Hid _ from hW2
  have s0 : W2.cell? ⟨w1.heap.size, 0, none⟩ = some (.int .i64 e0) := by rw [← hW2, World.cell?_alloc_at _ _ _ _ rfl]; rfl
  have s1 : W2.cell? ⟨w1.heap.size, 1, none⟩ = some (.int .i64 e1) := by rw [← hW2, World.cell?_alloc_at _ _ _ _ rfl]; rfl
  have s2 : W2.cell? ⟨w1.heap.size, 2, none⟩ = some (.int .i64 e2) := by rw [← hW2, World.cell?_alloc_at _ _ _ _ rfl]; rfl
  have kk : W2.heap[w.heap.size + 1]? = some (.cells #[.int .i64 0, .int .i64 0, .int .i64 0] 29 (0, 0)) := by rw [← hW2, Below.heap_alloc _ _ _ (by omega)]; exact k2
  rw [hW2] at g0 g1 g2
  have q0 : W2.frozen? ⟨w.heap.size + 1, 0, none⟩ = false := Lib.frozen_of_heap kk 0
  have q1 : W2.frozen? ⟨w.heap.size + 1, 1, none⟩ = false := Lib.frozen_of_heap kk 1
  have q2 : W2.frozen? ⟨w.heap.size + 1, 2, none⟩ = false := Lib.frozen_of_heap kk 2
  have hb3 : Below w.heap.size w W2 := by rw [← hW2]; exact hb2.alloc (by omega) _
  clear hW2 kk k1 k2 hbc hb1 r0 r1 r2
  go_wp2_with fail
  rw [HW2.out]
  clear HW2
  have d0 : W2.drew.cell? ⟨w.heap.size + 1, 0, none⟩ = some (.int .i64 0) := g0
  have d1 : W2.drew.cell? ⟨w.heap.size + 1, 1, none⟩ = some (.int .i64 0) := g1
  have d2 : W2.drew.cell? ⟨w.heap.size + 1, 2, none⟩ = some (.int .i64 0) := g2
  go_region
  all_goals go_wp2_with fail
  all_goals refine bodyPost_ret (v := .tuple #[sB [], fltV e0 e1 e2]) (by simp [results, Tryd.results11, go_sem, g0, g1, g2]) rfl ⟨rfl, ?_⟩
  all_goals first | exact below_set3 hb3.drew (by omega) _ _ _ | exact (below_set3 hb3 (by omega) _ _ _).drew
end Go.Proofs.YtbpemackmadhgabDoor

/- Every statement of a right program is written; tree.Print for every program. -/
namespace Go.Proofs.YtbpemackmadhgabDoor
open Go.RowKit Go.Sort

theorem stmt_prints {w0 : World} (ht : Tabs w0) (hnt : NumT w0) (k : Nat) : ∀ (s : St) (lv : Nat) (at_ : Int), s.sz ≤ k → s.In w0 → (chkT s lv at_).1 = 0 → s.V ≤ 5000 → StmtD w0 (2 * lv) s := by
  induction k with
  | zero => intro s lv at_ hk; have := s.sz_eq; omega
  | succ k ih =>
    intro s lv at_ hk hin hc hV
    obtain ⟨cs, ⟨ab, cb⟩, ⟨ac, cc⟩, ⟨ae, ce⟩⟩ := chkT_ok hc
    obtain ⟨hlv, hk1, hk2, hnm, hoa, hob⟩ := chkS_ok cs
    have hz := s.sz_eq
    have hv := s.V_eq
    have hi := St.in_iff.1 hin
    have hlv' : lv ≤ 32 := by omega
    have sb : ∀ x ∈ s.body, StmtD w0 (2 * lv + 2) x := fun x hx => by
      obtain ⟨a, ha⟩ := chkSs_ok cb x hx
      exact ih x (lv + 1) a (by have := ssz_mem hx; omega) (hi.2.2.2.2.2.1.2 x hx) (by exact_mod_cast ha) (by have := vSs_mem hx; omega)
    have se : ∀ x ∈ s.els, StmtD w0 (2 * lv + 2) x := fun x hx => by
      obtain ⟨a, ha⟩ := chkSs_ok ce x hx
      exact ih x (lv + 1) a (by have := ssz_mem hx; omega) (hi.2.2.2.2.2.2.1.2 x hx) (by exact_mod_cast ha) (by have := vSs_mem hx; omega)
    have sc : ∀ c ∈ s.cases, ∀ x ∈ c.body, StmtD w0 (2 * lv + 2) x := fun c hcm x hx => by
      obtain ⟨a1, ha1⟩ := chkCs_ok cc c hcm
      obtain ⟨a, ha⟩ := chkSs_ok ha1 x hx
      have h1 := csz_mem hcm
      have h2 := c.sz_eq
      have h3 := vCs_mem hcm
      have h4 := c.V_eq
      exact ih x (lv + 1) a (by have := ssz_mem hx; omega) ((Ca.in_iff.1 (hi.2.2.2.2.2.2.2.2 c hcm)).2.2 x hx) (by exact_mod_cast ha) (by have := vSs_mem hx; omega)
    have za : OkE s.a → s.a.sz ≤ 1000000 := fun h => by have := okE_zE h; omega
    have zb : OkE s.b → s.b.sz ≤ 1000000 := fun h => by have := okE_zE h; omega
    have hcase : s.kind = 1 ∨ s.kind = 2 ∨ s.kind = 3 ∨ s.kind = 4 ∨ s.kind = 5 ∨ s.kind = 6 ∨ s.kind = 7 ∨ s.kind = 8 ∨ s.kind = 9 ∨ s.kind = 10 := by omega
    rcases hcase with h | h | h | h | h | h | h | h | h | h <;> rw [h] at hoa hob
    · exact stmtD_le (stmt1 w0 s h hin ht hnt (hoa rfl) (za (hoa rfl))) (by omega)
    · exact stmtD_le (stmt2 w0 s h hin hnt) (by omega)
    · exact stmtD_le (stmt3 w0 s h hin ht hnt (hoa rfl) (za (hoa rfl))) (by omega)
    · exact stmtD_le (stmt4 w0 s h hin ht hnt (hoa rfl) (za (hoa rfl)) (hob rfl) (zb (hob rfl))) (by omega)
    · exact stmt5 w0 s h hin ht hnt (hoa rfl) (za (hoa rfl)) (2 * lv) (by omega) (fun x hx => stmtD_le (sb x hx) (by omega)) (fun x hx => stmtD_le (se x hx) (by omega))
    · exact stmt6 w0 s h hin ht hnt (hoa rfl) (za (hoa rfl)) (2 * lv) (by omega) sc se
    · exact stmt7 w0 s h hin ht hnt (hoa rfl) (za (hoa rfl)) (hob rfl) (zb (hob rfl)) (2 * lv) (by omega) (fun x hx => stmtD_le (sb x hx) (by omega))
    · exact stmtD_le (stmt8 w0 s h) (by omega)
    · exact stmtD_le (stmt9 w0 s h hin ht hnt (hoa rfl) (za (hoa rfl))) (by omega)
    · exact stmtD_le (stmt10 w0 s h hin ht hnt (hoa rfl) (za (hoa rfl))) (by omega)

theorem chkFs_ok : ∀ {l : List Fu} {i : Int}, (chkFs l i).1 = 0 → chkFs l i = (0, 0, 0) ∧ ∀ f ∈ l, (chkF f).1 = 0
  | [], _, _ => ⟨rfl, fun f hf => by cases hf⟩
  | f :: r, i, h => by
    rw [chkFs] at h ⊢
    split at h
    · exact absurd h (by assumption)
    · rename_i h0
      obtain ⟨h1, h2⟩ := chkFs_ok h
      rw [if_neg h0]
      refine ⟨h1, fun g hg => ?_⟩
      rcases List.mem_cons.1 hg with rfl | hg
      · simpa using h0
      · exact h2 g hg
theorem check_ok {p : Pr} (h : (checkZ p).1 = 0) : checkZ p = (0, 0, 0) ∧ wholeZ p = 0 ∧ ∀ f ∈ p.funcs, (chkF f).1 = 0 := by
  unfold checkZ at h ⊢
  split at h
  · exact absurd h (by assumption)
  · rename_i h0
    obtain ⟨h1, h2⟩ := chkFs_ok h
    rw [if_neg h0]
    exact ⟨h1, by simpa using h0, h2⟩
theorem parsZ_ok : ∀ {l : List Pa}, parsZ l = 0 → ∀ q ∈ l, nameZ q.name = true
  | [], _, q, hq => by cases hq
  | p :: r, h, q, hq => by
    rw [parsZ] at h
    split at h
    · omega
    · rename_i h0
      split at h
      · omega
      · rcases List.mem_cons.1 hq with rfl | hq
        · simpa using h0
        · exact parsZ_ok h q hq
theorem chkF_ok {f : Fu} (h : (chkF f).1 = 0) : nameZ f.name = true ∧ f.params.length ≤ 8 ∧ (∀ q ∈ f.params, nameZ q.name = true) ∧ (chkSs f.body 1 0).1 = 0 := by
  unfold chkF at h
  split at h
  · exact absurd h (by assumption)
  · rename_i h0
    have h1 : headZ f = 0 := by simpa using h0
    unfold headZ at h1
    split at h1
    · omega
    · rename_i h2
      split at h1
      · omega
      · exact ⟨by simpa using h2, by omega, parsZ_ok h1, h⟩
theorem pa_len {q : Pa} (hq : q.Ok) (h : nameZ q.name = true) : (paB q).length ≤ 100 := by
  have h1 := nm_len h
  have h2 := Lib.itoa_length_le q.lo hq.2.1.1 hq.2.1.2
  have h3 := Lib.itoa_length_le q.hi hq.2.2.1 hq.2.2.2
  simp only [paB, List.length_append, List.length_cons, List.length_nil]
  omega
end Go.Proofs.YtbpemackmadhgabDoor

/- tree.Print for every program. -/
namespace Go.Proofs.YtbpemackmadhgabDoor
open Go.RowKit Go.Sort

theorem com_len (l : List (List UInt8)) (c : Nat) (h : ∀ t ∈ l, t.length ≤ c) : (comB l).length ≤ l.length * (c + 2) := by
  refine Nat.le_trans (comB_len l) ?_
  induction l with
  | nil => simp
  | cons t r ih =>
    rw [List.map_cons, List.sum_cons, List.length_cons, Nat.add_mul]
    have := h t (by simp)
    have := ih (fun x hx => h x (by simp [hx]))
    omega
theorem txF_len {w : World} {f : Fu} (hin : f.In w) (h : (chkF f).1 = 0) : (txF f).length ≤ 1000 + 1000 * vSs f.body := by
  obtain ⟨h1, h2, h3, h4⟩ := chkF_ok h
  have a1 := nm_len h1
  have a2 := (txS_len (w := w) _).2 f.body 1 0 1 (Nat.le_refl _) hin.2.2.2.2.2.2.2 (by exact_mod_cast h4) (by omega)
  have a3 := com_len (f.params.map paB) 100 (fun t ht => by
    obtain ⟨q, hq, rfl⟩ := List.mem_map.1 ht
    exact pa_len (hin.2.2.2.2.2.1 q hq) (h3 q hq))
  rw [List.length_map] at a3
  have a4 : f.params.length * (100 + 2) ≤ 8 * 102 := Nat.mul_le_mul h2 (Nat.le_refl _)
  simp only [txF, List.length_append, lineB_len, List.length_cons, List.length_nil]
  omega
theorem txFs_len {w : World} : ∀ {l : List Fu}, (∀ f ∈ l, f.In w) → (∀ f ∈ l, (chkF f).1 = 0) → (txFs l).length ≤ 1000 * l.length + 1000 * (l.map fun f => vSs f.body).sum
  | [], _, _ => by simp [txFs]
  | f :: r, hin, h => by
    have a1 := txF_len (hin f (by simp)) (h f (by simp))
    have a2 := txFs_len (l := r) (fun g hg => hin g (by simp [hg])) (fun g hg => h g (by simp [hg]))
    rw [txFs, List.length_append, List.map_cons, List.sum_cons, List.length_cons]
    omega
theorem txW_len {l : List Int} (h : l.length ≤ 16) (h64 : ∀ z ∈ l, I64 z) : (txW l).length ≤ 1000 := by
  unfold txW
  split
  · simp
  · have a3 := com_len (l.map Lib.itoa) 21 (fun t ht => by
      obtain ⟨z, hz, rfl⟩ := List.mem_map.1 ht
      exact Lib.itoa_length_le z (h64 z hz).1 (h64 z hz).2)
    rw [List.length_map] at a3
    have a4 : l.length * (21 + 2) ≤ 16 * 23 := Nat.mul_le_mul h (Nat.le_refl _)
    simp only [List.length_append, lineB_len, List.length_cons, List.length_nil]
    omega
theorem txP_len {w : World} {p : Pr} (hin : p.In w) (h : (checkZ p).1 = 0) : (txP p).length ≤ 100000000 := by
  obtain ⟨_, h1, h2⟩ := check_ok h
  obtain ⟨a1, a2, a3⟩ := whole_ok h1
  have b1 := txW_len a1 hin.2.2.2.2.1
  have b2 := txFs_len hin.haveF.2 h2
  unfold txP
  rw [List.length_append]
  omega
theorem fn_prints {w : World} (ht : Tabs w) (hnt : NumT w) {p : Pr} (hin : p.In w) (h : (checkZ p).1 = 0) : ∀ f ∈ p.funcs, FnPr w f := fun f hf => by
  obtain ⟨_, h1, h2⟩ := check_ok h
  obtain ⟨a1, a2, a3⟩ := whole_ok h1
  obtain ⟨c1, c2, c3, c4⟩ := chkF_ok (h2 f hf)
  have hfi := hin.haveF.2 f hf
  have hs := sum_mem hf
  refine ⟨fun s hs' => ?_, fun q hq => Nat.le_trans (pa_len (hfi.2.2.2.2.2.1 q hq) (c3 q hq)) (by decide), c2⟩
  obtain ⟨a, ha⟩ := chkSs_ok c4 s hs'
  exact stmt_prints ht hnt _ s 1 a (Nat.le_refl _) (hfi.2.2.2.2.2.2.2 s hs') (by exact_mod_cast ha) (by have := vSs_mem hs'; omega)

/-- What tree.Print answers. -/
def prT (p : Pr) : List UInt8 := if (checkZ p).1 = 0 then (if (txP p).length ≤ 65536 then txP p else []) else []
def prF (p : Pr) : Int × Int × Int := if (checkZ p).1 = 0 then (if (txP p).length ≤ 65536 then (0, 0, 0) else (4, 0, 0)) else checkZ p
theorem print_any (p : Pr) (w : World) (hin : p.In w) (ht : Tabs w) (hnt : NumT w) :
    Calls Tryd.prog 11 #[p.val] w fun e w' => e = .returned (.tuple #[sB (prT p), fltV (prF p).1 (prF p).2.1 (prF p).2.2]) ∧ Below w.heap.size w w' := by
  by_cases h : (checkZ p).1 = 0
  · obtain ⟨h0, h1, h2⟩ := check_ok h
    have hl := txP_len hin h
    by_cases h3 : (txP p).length ≤ 65536
    · have := print_ok p w hin ht hnt h0 (whole_ok h1).1 (fn_prints ht hnt hin h) h3
      simpa only [prT, prF, if_pos h, if_pos h3] using this
    · have := print_long p w hin ht hnt h0 (whole_ok h1).1 (fn_prints ht hnt hin h) (by omega) (by omega)
      simpa only [prT, prF, if_pos h, if_neg h3] using this
  · have := print_bad p w hin ht h
    simpa only [prT, prF, if_neg h] using this

/-- Counts that are not past the limit are exact. -/
theorem cntE_le (k : Nat) : (∀ (x : Ex) (n : Int), x.sz ≤ k → cntE x n ≤ n + x.sz) ∧ (∀ (l : List Ex) (n : Int), szL l ≤ k → cntL l n ≤ n + szL l) := by
  induction k with
  | zero =>
    refine ⟨fun x n hk => by have := x.sz_args; omega, fun l n hk => ?_⟩
    cases l with
    | nil => simp [cntL, szL]
    | cons x r => rw [szL] at hk; have := x.sz_args; omega
  | succ k ih =>
    have h1 : ∀ (x : Ex) (n : Int), x.sz ≤ k + 1 → cntE x n ≤ n + x.sz := fun x n hk => by
      rw [cntE_args]
      have := ih.2 x.args (n + 1) (by have := x.sz_args; omega)
      have := x.sz_args
      omega
    refine ⟨h1, fun l => ?_⟩
    induction l with
    | nil => intro n _; simp [cntL, szL]
    | cons x r ihr =>
      intro n hk
      rw [szL] at hk ⊢
      rw [cntL]
      split
      · omega
      · have a2 := h1 x n (by omega)
        have a3 := ihr (cntE x n) (by omega)
        omega
theorem cntZ_leV (x : Ex) (n : Int) : cntZ x n ≤ n + zE x := by
  unfold cntZ zE
  split
  · simp
  · exact (cntE_le _).1 x n (Nat.le_refl _)
theorem cntS_le (k : Nat) : (∀ (s : St) (n : Int), s.sz ≤ k → cntS s n ≤ n + s.V) ∧ (∀ (l : List St) (n : Int), ssz l ≤ k → cntSs l n ≤ n + vSs l) := by
  have step : ∀ k, (∀ (s : St) (n : Int), s.sz ≤ k → cntS s n ≤ n + s.V) → ∀ (l : List St) (n : Int), ssz l ≤ k → cntSs l n ≤ n + vSs l := by
    intro k h1 l
    induction l with
    | nil => intro n _; simp only [cntSs, vSs]; omega
    | cons x r ihr =>
      intro n hk
      rw [ssz] at hk
      rw [vSs, cntSs]
      split
      · omega
      · have a1 := h1 x n (by omega)
        have a2 := ihr (cntS x n) (by omega)
        omega
  induction k with
  | zero =>
    have h0 : ∀ (s : St) (n : Int), s.sz ≤ 0 → cntS s n ≤ n + s.V := fun s n hk => by have := s.sz_eq; omega
    exact ⟨h0, step 0 h0⟩
  | succ k ih =>
    have h1 : ∀ (s : St) (n : Int), s.sz ≤ k + 1 → cntS s n ≤ n + s.V := by
      intro s n hk
      have hz := s.sz_eq
      have hc : ∀ (l : List Ca) (n : Int), csz l ≤ k → cntCs l n ≤ n + vCs l := by
        intro l
        induction l with
        | nil => intro n _; simp only [cntCs, vCs]; omega
        | cons c r ihr =>
          intro n hk
          rw [csz] at hk
          rw [cntCs, vCs, cntC_eq, c.V_eq]
          have a1 := ih.2 c.body n (by have := c.sz_eq; omega)
          have a2 := ihr (cntSs c.body n) (by omega)
          omega
      have e : cntS s n = cntSs s.els (cntCs s.cases (cntSs s.body (cntZ s.b (cntZ s.a (n + (1 + (s.cases.length : Int))))))) := by
        cases s; simp only [cntS, St.els, St.cases, St.body, St.a, St.b]
      rw [e, s.V_eq]
      have a1 := cntZ_leV s.a (n + (1 + (s.cases.length : Int)))
      have a2 := cntZ_leV s.b (cntZ s.a (n + (1 + (s.cases.length : Int))))
      have a3 := ih.2 s.body (cntZ s.b (cntZ s.a (n + (1 + (s.cases.length : Int))))) (by omega)
      have a4 := hc s.cases (cntSs s.body (cntZ s.b (cntZ s.a (n + (1 + (s.cases.length : Int)))))) (by omega)
      have a5 := ih.2 s.els (cntCs s.cases (cntSs s.body (cntZ s.b (cntZ s.a (n + (1 + (s.cases.length : Int))))))) (by omega)
      omega
    exact ⟨h1, step (k + 1) h1⟩
theorem cntF_le : ∀ (l : List Fu) (n : Int), cntF l n ≤ n + (l.map fun f => vSs f.body).sum
  | [], n => by simp [cntF]
  | f :: r, n => by
    have a1 := (cntS_le _).2 f.body n (Nat.le_refl _)
    have a2 := cntF_le r (cntSs f.body n)
    rw [cntF, List.map_cons, List.sum_cons]
    omega
theorem nodes_exact {p : Pr} (h : (checkZ p).1 = 0) : nodesZ p = (p.funcs.map fun f => vSs f.body).sum := by
  obtain ⟨_, h1, _⟩ := check_ok h
  have hn := (whole_ok h1).2.2
  have a1 := cntF_le p.funcs 0
  have a2 := (cntF_V p.funcs 0).2 (by omega)
  unfold nodesZ
  omega
end Go.Proofs.YtbpemackmadhgabDoor

/- A text's lines: their blanks, and what stands in them. -/
namespace Go.Proofs.YtbpemackmadhgabDoor
open Go.RowKit Go.Sort

/-- No end of a line. -/
def Flat (l : List UInt8) : Prop := ∀ c ∈ l, c ≠ 10
theorem Flat.app {a b : List UInt8} (h : Flat a) (k : Flat b) : Flat (a ++ b) := fun c hc => by
  rcases List.mem_append.1 hc with hc | hc
  · exact h c hc
  · exact k c hc
theorem flat_dec (u : Nat) : Flat (Lib.decDigits u) := by
  induction u using Nat.strongRecOn with
  | _ u ih =>
    rw [Lib.decDigits]
    split
    · intro c hc
      have hd : ∀ d : Nat, d < 10 → (UInt8.ofNat (48 + d)) ≠ 10 := by decide
      rw [List.mem_singleton.1 hc]; exact hd u (by assumption)
    · refine (ih (u / 10) (by omega)).app fun c hc => ?_
      have hd : ∀ d : Nat, d < 10 → (UInt8.ofNat (48 + d)) ≠ 10 := by decide
      rw [List.mem_singleton.1 hc]; exact hd (u % 10) (by omega)
theorem flat_itoa (n : Int) : Flat (Lib.itoa n) := by
  unfold Lib.itoa
  split
  · intro c hc
    rcases List.mem_cons.1 hc with rfl | hc
    · decide
    · exact flat_dec _ c hc
  · exact flat_dec _
theorem lod_plain : ∀ c : UInt8, isLod c = true → c ≠ 10 ∧ c ≠ 32 ∧ c ≠ 125 ∧ c ≠ 123 := by
  have h : ∀ n : Fin 256, isLod (UInt8.ofNat n.val) = true → UInt8.ofNat n.val ≠ 10 ∧ UInt8.ofNat n.val ≠ 32 ∧ UInt8.ofNat n.val ≠ 125 ∧ UInt8.ofNat n.val ≠ 123 := by decide +kernel
  intro c
  have := h ⟨c.toNat, c.toNat_lt⟩
  simpa using this
theorem tw_all {p : UInt8 → Bool} : ∀ (l : List UInt8), ∀ x ∈ l.takeWhile p, p x = true
  | [], x, h => by simp at h
  | c :: r, x, h => by
    rw [List.takeWhile_cons] at h
    split at h
    · rcases List.mem_cons.1 h with rfl | h
      · assumption
      · exact tw_all r x h
    · simp at h
/-- Names are flat, and open with a letter. -/
theorem name_flat {s : ByteArray} (h : nameZ s = true) : Flat s.data.toList ∧ ∃ c r, s.data.toList = c :: r ∧ c ≠ 32 ∧ c ≠ 125 := by
  unfold nameZ nameB at h
  split at h
  · cases h
  · rename_i c r hl
    simp only [Bool.and_eq_true, decide_eq_true_eq] at h
    have hr := h.2
    have hall : ∀ x ∈ s.data.toList, isLod x = true := by
      unfold rowLen at hr
      have ht : s.data.toList.takeWhile isLod = s.data.toList := (List.takeWhile_prefix _).eq_of_length hr
      intro x hx
      rw [← ht] at hx
      exact tw_all _ x hx
    refine ⟨fun x hx => (lod_plain x (hall x hx)).1, c, r, hl, ?_, ?_⟩
    · exact (lod_plain c (hall c (by rw [hl]; simp))).2.1
    · exact (lod_plain c (hall c (by rw [hl]; simp))).2.2.1
theorem flat_com : ∀ ts : List (List UInt8), (∀ t ∈ ts, Flat t) → Flat (comB ts)
  | [], _ => by simp [comB, Flat]
  | [x], h => by rw [comB]; exact h x (by simp)
  | x :: y :: r, h => by
    rw [comB]
    exact ((h x (by simp)).app (by unfold Flat; decide)).app (flat_com (y :: r) fun t ht => h t (List.mem_cons_of_mem _ ht))
theorem flat_wi (r least : Int) {t : List UInt8} (h : Flat t) : Flat (wiB r least t) := by
  unfold wiB; split
  · exact (Flat.app (by unfold Flat; decide) h).app (by unfold Flat; decide)
  · exact h
theorem flat_sg (kn : Nat) (h : kn ≤ 20) : Flat (sgE (kn : Int)) := by
  have : ∀ k, k < 21 → ∀ c ∈ (formE k).sign.data.toList, c ≠ 10 := by decide
  unfold sgE; rw [Int.toNat_natCast]; exact this kn (by omega)
theorem flat_getD {ts : List (List UInt8)} (h : ∀ t ∈ ts, Flat t) (i : Nat) : Flat (ts.getD i []) := by
  rw [List.getD_eq_getElem?_getD]
  cases e : ts[i]? with
  | none => simp [Flat]
  | some t => exact h t (List.mem_of_getElem? e)
theorem flat_one {l : List UInt8} (h : ∀ c ∈ l, c ≠ 10) : Flat l := h
theorem flat_E (k : Nat) : ∀ x : Ex, x.sz ≤ k → OkE x → Flat (txE x) := by
  induction k with
  | zero => intro x hk; have := x.sz_pos; omega
  | succ k ih =>
    intro x hk hok
    obtain ⟨h1, h2⟩ := hok.parts
    obtain ⟨kn, e, k1, k2, _, hn, _⟩ := selfE_zero h1
    have ha : ∀ t ∈ x.args.map txE, Flat t := fun t ht => by
      obtain ⟨y, hy, rfl⟩ := List.mem_map.1 ht
      exact ih y (by have := x.sz_args; have := szL_mem hy; omega) (h2 y hy)
    rw [txE_eq]
    unfold txOf
    rw [e]
    split
    · exact flat_itoa _
    have hnm : (kn = 2 ∨ kn = 3 ∨ kn = 4) → Flat x.name.data.toList := fun h => (name_flat (hn (by rcases h with rfl | rfl | rfl <;> decide))).1
    split
    · exact hnm (by omega)
    split
    · exact (((hnm (by omega)).app (flat_one (by decide))).app (flat_getD ha 0)).app (flat_one (by decide))
    split
    · exact (((hnm (by omega)).app (flat_one (by decide))).app (flat_com _ ha)).app (flat_one (by decide))
    split
    · exact (flat_sg kn k2).app (flat_wi _ _ (flat_getD ha 0))
    split
    · exact ((((flat_wi _ _ (flat_getD ha 0)).app (flat_one (by decide))).app (flat_getD ha 1)).app (flat_one (by decide))).app (flat_getD ha 2)
    · exact ((((flat_wi _ _ (flat_getD ha 0)).app (flat_one (by decide))).app (flat_sg kn k2)).app (flat_one (by decide))).app (flat_wi _ _ (flat_getD ha 1))
theorem flatE {x : Ex} (h : OkE x) : Flat (txE x) := flat_E _ x (Nat.le_refl _) h
/-- A call opens with a name. -/
theorem callE {x : Ex} (h : OkE x) (hk : x.kind = 4) : ∃ c r, txE x = c :: r ∧ c ≠ 32 ∧ c ≠ 125 := by
  obtain ⟨h1, h2⟩ := h.parts
  obtain ⟨kn, e, k1, k2, _, hn, _⟩ := selfE_zero h1
  obtain rfl : kn = 4 := by omega
  obtain ⟨_, c, r, hl, a, b⟩ := name_flat (hn (by decide))
  rw [txE_eq]
  unfold txOf
  rw [hk, if_neg (by decide), if_neg (by decide), if_neg (by decide), if_pos rfl, hl]
  exact ⟨c, _, rfl, a, b⟩

/- What stands in a line. -/
structure Cont (c : List UInt8) (cl op : Bool) : Prop where
  flat : Flat c
  head : ∃ x r, c = x :: r ∧ x ≠ 32 ∧ (x == 125) = cl
  last : ∃ r x, c = r ++ [x] ∧ (x == 123) = op
abbrev Ln := Nat × List UInt8 × Bool × Bool
def b2n (b : Bool) : Nat := if b then 1 else 0
/-- The text of lines. -/
def lnT (ls : List Ln) : List UInt8 := ls.flatMap fun l => lineB l.1 l.2.1
/-- Lines from a depth to a depth. -/
def lnOk : Nat → List Ln → Nat → Prop
  | D, [], E => D = E
  | D, l :: r, E => Cont l.2.1 l.2.2.1 l.2.2.2 ∧ l.1 + b2n l.2.2.1 = D ∧ lnOk (l.1 + b2n l.2.2.2) r E
theorem lnOk.app : ∀ {a b : List Ln} {D E F : Nat}, lnOk D a E → lnOk E b F → lnOk D (a ++ b) F
  | [], b, D, E, F, h, k => by rw [lnOk] at h; subst h; exact k
  | l :: r, b, D, E, F, h, k => by
    rw [lnOk] at h
    rw [List.cons_append, lnOk]
    exact ⟨h.1, h.2.1, h.2.2.app k⟩
theorem lnT_app (a b : List Ln) : lnT (a ++ b) = lnT a ++ lnT b := by unfold lnT; rw [List.flatMap_append]
theorem lnT_one (d : Nat) (c : List UInt8) (x y : Bool) : lnT [(d, c, x, y)] = lineB d c := by simp [lnT]
theorem lnOk_one {d : Nat} {c : List UInt8} {x y : Bool} (h : Cont c x y) : lnOk (d + b2n x) [(d, c, x, y)] (d + b2n y) := by
  rw [lnOk, lnOk]; exact ⟨h, rfl, rfl⟩
/-- A plain line. -/
theorem lnOk_plain {d : Nat} {c : List UInt8} (h : Cont c false false) : lnOk d [(d, c, false, false)] d := lnOk_one h
theorem lnOk_open {d : Nat} {c : List UInt8} (h : Cont c false true) : lnOk d [(d, c, false, true)] (d + 1) := lnOk_one h
theorem lnOk_shut (d : Nat) : lnOk (d + 1) [(d, [125], true, false)] d := lnOk_one ⟨flat_one (by decide), ⟨125, [], rfl, by decide, rfl⟩, ⟨[], 125, rfl, rfl⟩⟩
theorem cont_of {h c : List UInt8} {t : List UInt8} {x y : UInt8} {r q : List UInt8} {cl op : Bool} (f1 : Flat h) (f2 : Flat c) (f3 : Flat t) (e1 : h = x :: r) (hx : x ≠ 32) (hc : (x == 125) = cl) (e2 : t = q ++ [y]) (hy : (y == 123) = op) : Cont (h ++ c ++ t) cl op :=
  ⟨(f1.app f2).app f3, ⟨x, r ++ c ++ t, by rw [e1]; simp, hx, hc⟩, ⟨h ++ c ++ q, y, by rw [e2]; simp, hy⟩⟩
end Go.Proofs.YtbpemackmadhgabDoor

/- The lines of a program's text. -/
namespace Go.Proofs.YtbpemackmadhgabDoor
open Go.RowKit Go.Sort

mutual
def lsS : St → Nat → List Ln
  | .mk k s n a b _ _ l _ _ e _ _ c, d =>
    if k = 1 then [(d, [108, 101, 116, 32] ++ s.data.toList ++ [32, 61, 32] ++ txE a ++ [59], false, false)]
    else if k = 2 then [(d, [108, 101, 116, 32] ++ s.data.toList ++ [91] ++ Lib.itoa n ++ [93, 59], false, false)]
    else if k = 3 then [(d, s.data.toList ++ [32, 61, 32] ++ txE a ++ [59], false, false)]
    else if k = 4 then [(d, s.data.toList ++ [91] ++ txE a ++ [93, 32, 61, 32] ++ txE b ++ [59], false, false)]
    else if k = 5 then [(d, [105, 102, 32] ++ txE a ++ [32, 123], false, true)] ++ lsSs l (d + 1) ++ (if e.length = 0 then [] else [(d, [125, 32, 101, 108, 115, 101, 32, 123], true, true)] ++ lsSs e (d + 1)) ++ [(d, [125], true, false)]
    else if k = 6 then [(d, [115, 119, 105, 116, 99, 104, 32] ++ txE a ++ [32, 123], false, true)] ++ lsCs c (d + 1) ++ (if e.length = 0 then [] else [(d + 1, [101, 108, 115, 101, 32, 123], false, true)] ++ lsSs e (d + 2) ++ [(d + 1, [125], true, false)]) ++ [(d, [125], true, false)]
    else if k = 7 then [(d, [102, 111, 114, 32] ++ s.data.toList ++ [32, 105, 110, 32] ++ txE a ++ [46, 46] ++ txE b ++ [32, 123], false, true)] ++ lsSs l (d + 1) ++ [(d, [125], true, false)]
    else if k = 8 then [(d, [98, 114, 101, 97, 107, 59], false, false)]
    else if k = 9 then [(d, [114, 101, 116, 117, 114, 110, 32] ++ txE a ++ [59], false, false)]
    else [(d, txE a ++ [59], false, false)]
def lsSs : List St → Nat → List Ln
  | [], _ => []
  | s :: r, d => lsS s d ++ lsSs r d
def lsC : Ca → Nat → List Ln
  | .mk n _ _ l, d => [(d, [99, 97, 115, 101, 32] ++ Lib.itoa n ++ [32, 123], false, true)] ++ lsSs l (d + 1) ++ [(d, [125], true, false)]
def lsCs : List Ca → Nat → List Ln
  | [], _ => []
  | c :: r, d => lsC c d ++ lsCs r d
end
theorem lnT_nil : lnT [] = [] := rfl
theorem lnT_ite {P : Prop} [Decidable P] (x : List Ln) : lnT (if P then [] else x) = if P then [] else lnT x := by split <;> rfl
mutual
theorem lsS_tx : ∀ (s : St) (d : Nat), lnT (lsS s d) = txS s d
  | .mk k s n a b ba bc l ea ec e ca cc c, d => by
    rw [lsS, txS]
    split
    · rw [lnT_one]
    split
    · rw [lnT_one]
    split
    · rw [lnT_one]
    split
    · rw [lnT_one]
    split
    · rw [lnT_app, lnT_app, lnT_app, lnT_one, lnT_one, lsSs_tx l, lnT_ite, lnT_app, lnT_one, lsSs_tx e]
    split
    · rw [lnT_app, lnT_app, lnT_app, lnT_one, lnT_one, lsCs_tx c, lnT_ite, lnT_app, lnT_app, lnT_one, lnT_one, lsSs_tx e]
    split
    · rw [lnT_app, lnT_app, lnT_one, lnT_one, lsSs_tx l]
    split
    · rw [lnT_one]
    split
    · rw [lnT_one]
    · rw [lnT_one]
theorem lsSs_tx : ∀ (l : List St) (d : Nat), lnT (lsSs l d) = txSs l d
  | [], _ => by rw [lsSs, txSs, lnT_nil]
  | s :: r, d => by rw [lsSs, txSs, lnT_app, lsS_tx s, lsSs_tx r]
theorem lsC_tx : ∀ (c : Ca) (d : Nat), lnT (lsC c d) = txC c d
  | .mk n ba bc l, d => by rw [lsC, txC, lnT_app, lnT_app, lnT_one, lnT_one, lsSs_tx l]
theorem lsCs_tx : ∀ (l : List Ca) (d : Nat), lnT (lsCs l d) = txCs l d
  | [], _ => by rw [lsCs, txCs, lnT_nil]
  | c :: r, d => by rw [lsCs, txCs, lnT_app, lsC_tx c, lsCs_tx r]
end
/- How many lines, as the law counts them. -/
mutual
def ctS : St → Nat
  | .mk k _ _ _ _ _ _ l _ _ e _ _ c => 1 + (if k = 5 then 1 + ctSs l + ctSs e + (if 0 < e.length then 1 else 0) else if k = 7 then 1 + ctSs l else if k = 6 then 1 + ctCs c + (if 0 < e.length then 2 + ctSs e else 0) else 0)
def ctSs : List St → Nat | [] => 0 | s :: r => ctS s + ctSs r
def ctC : Ca → Nat | .mk _ _ _ l => 2 + ctSs l
def ctCs : List Ca → Nat | [] => 0 | c :: r => ctC c + ctCs r
end
mutual
theorem lsS_ct : ∀ (s : St) (d : Nat), (lsS s d).length = ctS s
  | .mk k s n a b ba bc l ea ec e ca cc c, d => by
    rw [lsS, ctS]
    by_cases h5 : k = 5
    · subst h5
      rw [if_neg (by decide), if_neg (by decide), if_neg (by decide), if_neg (by decide), if_pos rfl, if_pos rfl]
      cases e with
      | nil => simp [lsSs_ct l, ctSs]; omega
      | cons x r =>
        rw [if_neg (by simp), if_pos (by simp)]
        simp only [List.length_append, List.length_cons, List.length_nil, lsSs_ct l, lsSs_ct (x :: r)]; omega
    · by_cases h7 : k = 7
      · subst h7
        rw [if_neg (by decide), if_neg (by decide), if_neg (by decide), if_neg (by decide), if_neg (by decide), if_neg (by decide), if_pos rfl, if_neg (by decide), if_pos rfl]
        simp only [List.length_append, List.length_cons, List.length_nil, lsSs_ct l]; omega
      · by_cases h6 : k = 6
        · subst h6
          cases e with
          | nil => simp [lsCs_ct c]; omega
          | cons x r =>
            have := lsSs_ct (x :: r) (d + 2)
            simp [lsCs_ct c, this]; omega
        · rw [if_neg h5, if_neg h7, if_neg h6, if_neg h5, if_neg h6, if_neg h7]
          split
          · rfl
          split
          · rfl
          split
          · rfl
          split
          · rfl
          split
          · rfl
          split
          · rfl
          · rfl
theorem lsSs_ct : ∀ (l : List St) (d : Nat), (lsSs l d).length = ctSs l
  | [], _ => by rw [lsSs, ctSs]; rfl
  | s :: r, d => by rw [lsSs, ctSs, List.length_append, lsS_ct s, lsSs_ct r]
theorem lsC_ct : ∀ (c : Ca) (d : Nat), (lsC c d).length = ctC c
  | .mk n ba bc l, d => by rw [lsC, ctC]; simp only [List.length_append, List.length_cons, List.length_nil, lsSs_ct l]; omega
theorem lsCs_ct : ∀ (l : List Ca) (d : Nat), (lsCs l d).length = ctCs l
  | [], _ => by rw [lsCs, ctCs]; rfl
  | c :: r, d => by rw [lsCs, ctCs, List.length_append, lsC_ct c, lsCs_ct r]
end
end Go.Proofs.YtbpemackmadhgabDoor

/- The lines of a program that has a form go from depth 0 to depth 0. -/
namespace Go.Proofs.YtbpemackmadhgabDoor
open Go.RowKit Go.Sort

theorem chkS_call {s : St} {lv : Int} (h : chkS s lv = 0) (hk : s.kind = 10) : s.a.kind = 4 := by
  unfold chkS at h
  split at h
  · omega
  split at h
  · rename_i _ h1; exact absurd h h1
  rename_i _ h1
  have h1' : selfS s = 0 := by simpa using h1
  unfold selfS at h1'
  split at h1'
  · omega
  split at h1'
  · omega
  split at h1'
  · omega
  split at h1'
  · omega
  split at h1'
  · omega
  rename_i h5
  rw [hk] at h5
  simpa using h5
theorem lsS_form (s : St) (d : Nat) : lsS s d =
    if s.kind = 1 then [(d, [108, 101, 116, 32] ++ s.name.data.toList ++ [32, 61, 32] ++ txE s.a ++ [59], false, false)]
    else if s.kind = 2 then [(d, [108, 101, 116, 32] ++ s.name.data.toList ++ [91] ++ Lib.itoa s.n ++ [93, 59], false, false)]
    else if s.kind = 3 then [(d, s.name.data.toList ++ [32, 61, 32] ++ txE s.a ++ [59], false, false)]
    else if s.kind = 4 then [(d, s.name.data.toList ++ [91] ++ txE s.a ++ [93, 32, 61, 32] ++ txE s.b ++ [59], false, false)]
    else if s.kind = 5 then [(d, [105, 102, 32] ++ txE s.a ++ [32, 123], false, true)] ++ lsSs s.body (d + 1) ++ (if s.els.length = 0 then [] else [(d, [125, 32, 101, 108, 115, 101, 32, 123], true, true)] ++ lsSs s.els (d + 1)) ++ [(d, [125], true, false)]
    else if s.kind = 6 then [(d, [115, 119, 105, 116, 99, 104, 32] ++ txE s.a ++ [32, 123], false, true)] ++ lsCs s.cases (d + 1) ++ (if s.els.length = 0 then [] else [(d + 1, [101, 108, 115, 101, 32, 123], false, true)] ++ lsSs s.els (d + 2) ++ [(d + 1, [125], true, false)]) ++ [(d, [125], true, false)]
    else if s.kind = 7 then [(d, [102, 111, 114, 32] ++ s.name.data.toList ++ [32, 105, 110, 32] ++ txE s.a ++ [46, 46] ++ txE s.b ++ [32, 123], false, true)] ++ lsSs s.body (d + 1) ++ [(d, [125], true, false)]
    else if s.kind = 8 then [(d, [98, 114, 101, 97, 107, 59], false, false)]
    else if s.kind = 9 then [(d, [114, 101, 116, 117, 114, 110, 32] ++ txE s.a ++ [59], false, false)]
    else [(d, txE s.a ++ [59], false, false)] := by
  cases s; rw [lsS]; rfl
theorem F1 {l : List UInt8} (h : l.all (fun c => c != 10) = true) : Flat l := fun c hc => by
  have := List.all_eq_true.1 h c hc; simpa using this
theorem last_two (a : List UInt8) (x y : UInt8) : a ++ [x, y] = (a ++ [x]) ++ [y] := by simp
theorem lsS_step (s : St) (d : Nat) (lv : Int) (h0 : chkS s lv = 0) (HB : lnOk (d + 1) (lsSs s.body (d + 1)) (d + 1)) (HC : lnOk (d + 1) (lsCs s.cases (d + 1)) (d + 1)) (HE1 : lnOk (d + 1) (lsSs s.els (d + 1)) (d + 1)) (HE2 : lnOk (d + 2) (lsSs s.els (d + 2)) (d + 2)) : lnOk d (lsS s d) d := by
  obtain ⟨_, k1, k2, hn, ha, hb⟩ := chkS_ok h0
  have hcall := chkS_call h0
  rw [lsS_form]
  split
  · rename_i hk
    rw [hk] at hn ha
    have n1 := (name_flat (hn (by decide))).1
    have a1 := flatE (ha (by decide))
    exact lnOk_plain ⟨((((F1 (by decide)).app n1).app (F1 (by decide))).app a1).app (F1 (by decide)), ⟨108, _, rfl, by decide, rfl⟩, ⟨_, 59, rfl, rfl⟩⟩
  split
  · rename_i hk
    rw [hk] at hn
    have n1 := (name_flat (hn (by decide))).1
    exact lnOk_plain ⟨((((F1 (by decide)).app n1).app (F1 (by decide))).app (flat_itoa _)).app (F1 (by decide)), ⟨108, _, rfl, by decide, rfl⟩, ⟨_, 59, last_two _ _ _, rfl⟩⟩
  split
  · rename_i hk
    rw [hk] at hn ha
    obtain ⟨n1, x, r, hl, hx1, hx2⟩ := name_flat (hn (by decide))
    have a1 := flatE (ha (by decide))
    exact lnOk_plain ⟨((n1.app (F1 (by decide))).app a1).app (F1 (by decide)), ⟨x, r ++ [32, 61, 32] ++ txE s.a ++ [59], by rw [hl]; rfl, hx1, beq_false_of_ne hx2⟩, ⟨_, 59, rfl, rfl⟩⟩
  split
  · rename_i hk
    rw [hk] at hn ha hb
    obtain ⟨n1, x, r, hl, hx1, hx2⟩ := name_flat (hn (by decide))
    have a1 := flatE (ha (by decide))
    have b1 := flatE (hb (by decide))
    exact lnOk_plain ⟨((((n1.app (F1 (by decide))).app a1).app (F1 (by decide))).app b1).app (F1 (by decide)), ⟨x, r ++ [91] ++ txE s.a ++ [93, 32, 61, 32] ++ txE s.b ++ [59], by rw [hl]; rfl, hx1, beq_false_of_ne hx2⟩, ⟨_, 59, rfl, rfl⟩⟩
  split
  · rename_i hk
    rw [hk] at ha
    have a1 := flatE (ha (by decide))
    refine (((lnOk_open ⟨((F1 (by decide)).app a1).app (F1 (by decide)), ⟨105, _, rfl, by decide, rfl⟩, ⟨_, 123, last_two _ _ _, rfl⟩⟩).app HB).app ?_).app (lnOk_shut d)
    split
    · rfl
    · have hc : Cont [125, 32, 101, 108, 115, 101, 32, 123] true true := ⟨F1 (by decide), ⟨125, _, rfl, by decide, rfl⟩, ⟨[125, 32, 101, 108, 115, 101, 32], 123, rfl, rfl⟩⟩
      exact (lnOk_one hc : lnOk (d + 1) _ (d + 1)).app HE1
  split
  · rename_i hk
    rw [hk] at ha
    have a1 := flatE (ha (by decide))
    refine (((lnOk_open ⟨((F1 (by decide)).app a1).app (F1 (by decide)), ⟨115, _, rfl, by decide, rfl⟩, ⟨_, 123, last_two _ _ _, rfl⟩⟩).app HC).app ?_).app (lnOk_shut d)
    split
    · rfl
    · have hc : Cont [101, 108, 115, 101, 32, 123] false true := ⟨F1 (by decide), ⟨101, _, rfl, by decide, rfl⟩, ⟨[101, 108, 115, 101, 32], 123, rfl, rfl⟩⟩
      exact ((lnOk_open hc).app HE2).app (lnOk_shut (d + 1))
  split
  · rename_i hk
    rw [hk] at hn ha hb
    have n1 := (name_flat (hn (by decide))).1
    have a1 := flatE (ha (by decide))
    have b1 := flatE (hb (by decide))
    exact ((lnOk_open ⟨((((((F1 (by decide)).app n1).app (F1 (by decide))).app a1).app (F1 (by decide))).app b1).app (F1 (by decide)), ⟨102, _, rfl, by decide, rfl⟩, ⟨_, 123, last_two _ _ _, rfl⟩⟩).app HB).app (lnOk_shut d)
  split
  · exact lnOk_plain ⟨F1 (by decide), ⟨98, _, rfl, by decide, rfl⟩, ⟨[98, 114, 101, 97, 107], 59, rfl, rfl⟩⟩
  split
  · rename_i hk
    rw [hk] at ha
    have a1 := flatE (ha (by decide))
    exact lnOk_plain ⟨((F1 (by decide)).app a1).app (F1 (by decide)), ⟨114, _, rfl, by decide, rfl⟩, ⟨_, 59, rfl, rfl⟩⟩
  · have hk : s.kind = 10 := by omega
    rw [hk] at ha
    have oa := ha (by decide)
    have a1 := flatE oa
    obtain ⟨x, r, hl, hx1, hx2⟩ := callE oa (hcall hk)
    exact lnOk_plain ⟨a1.app (F1 (by decide)), ⟨x, r ++ [59], by rw [hl]; rfl, hx1, beq_false_of_ne hx2⟩, ⟨_, 59, rfl, rfl⟩⟩
mutual
theorem lsS_ok : ∀ (s : St) (d : Nat) (lv m : Int), (chkT s lv m).1 = 0 → lnOk d (lsS s d) d
  | .mk k nm n a b ba bc l ea ec e ca cc c, d, lv, m, h => by
    obtain ⟨h0, ⟨x1, hb⟩, ⟨x2, hc⟩, x3, he⟩ := chkT_ok h
    exact lsS_step (.mk k nm n a b ba bc l ea ec e ca cc c) d lv h0 (lsSs_ok l (d + 1) _ _ hb) (lsCs_ok c (d + 1) _ _ hc) (lsSs_ok e (d + 1) _ _ he) (lsSs_ok e (d + 2) _ _ he)
theorem lsSs_ok : ∀ (l : List St) (d : Nat) (lv m : Int), (chkSs l lv m).1 = 0 → lnOk d (lsSs l d) d
  | [], d, _, _, _ => by rw [lsSs, lnOk]
  | s :: r, d, lv, m, h => by
    rw [chkSs] at h
    obtain ⟨h1, h2⟩ := thenZ_ok h
    rw [lsSs]
    exact (lsS_ok s d _ _ h1).app (lsSs_ok r d _ _ h2)
theorem lsC_ok : ∀ (c : Ca) (d : Nat) (lv m : Int), (chkCa c lv m).1 = 0 → lnOk d (lsC c d) d
  | .mk n ba bc l, d, lv, m, h => by
    rw [chkCa] at h
    rw [lsC]
    exact ((lnOk_open ⟨((F1 (by decide)).app (flat_itoa n)).app (F1 (by decide)), ⟨99, _, rfl, by decide, rfl⟩, ⟨_, 123, last_two _ _ _, rfl⟩⟩).app (lsSs_ok l (d + 1) _ _ h)).app (lnOk_shut d)
theorem lsCs_ok : ∀ (l : List Ca) (d : Nat) (lv m : Int), (chkCs l lv m).1 = 0 → lnOk d (lsCs l d) d
  | [], d, _, _, _ => by rw [lsCs, lnOk]
  | c :: r, d, lv, m, h => by
    rw [chkCs] at h
    obtain ⟨h1, h2⟩ := thenZ_ok h
    rw [lsCs]
    exact (lsC_ok c d _ _ h1).app (lsCs_ok r d _ _ h2)
end
def lsF (f : Fu) : List Ln := [(0, [102, 110, 32] ++ f.name.data.toList ++ [40] ++ comB (f.params.map paB) ++ [41, 32, 123], false, true)] ++ lsSs f.body 1 ++ [(0, [125], true, false)]
def lsFs : List Fu → List Ln | [] => [] | f :: r => lsF f ++ lsFs r
def lsW (l : List Int) : List Ln := if l.length = 0 then [] else [(0, [119, 105, 100, 101, 110, 32] ++ comB (l.map Lib.itoa) ++ [59], false, false)]
def lsP (p : Pr) : List Ln := lsW p.widen ++ lsFs p.funcs
theorem lsFs_tx : ∀ l : List Fu, lnT (lsFs l) = txFs l
  | [] => rfl
  | f :: r => by rw [lsFs, txFs, lnT_app, lsFs_tx r, lsF, txF, lnT_app, lnT_app, lnT_one, lnT_one, lsSs_tx]
theorem lsP_tx (p : Pr) : lnT (lsP p) = txP p := by
  rw [lsP, lnT_app, lsFs_tx, txP, lsW, txW, lnT_ite, lnT_one]
theorem lsFs_ok : ∀ l : List Fu, (∀ f ∈ l, (chkF f).1 = 0) → lnOk 0 (lsFs l) 0
  | [], _ => by rw [lsFs, lnOk]
  | f :: r, h => by
    obtain ⟨a1, a2, a3, a4⟩ := chkF_ok (h f (by simp))
    rw [lsFs]
    have hp : Flat (comB (f.params.map paB)) := flat_com _ fun t ht => by
      obtain ⟨q, hq, rfl⟩ := List.mem_map.1 ht
      unfold paB
      exact ((((name_flat (a3 q hq)).1.app (F1 (by decide))).app (flat_itoa _)).app (F1 (by decide))).app (flat_itoa _)
    refine lnOk.app ?_ (lsFs_ok r fun x hx => h x (List.mem_cons_of_mem _ hx))
    rw [lsF]
    refine ((lnOk_open (d := 0) ⟨((((F1 (by decide)).app (name_flat a1).1).app (F1 (by decide))).app hp).app (F1 (by decide)), ⟨102, _, rfl, by decide, rfl⟩, ⟨[102, 110, 32] ++ f.name.data.toList ++ [40] ++ comB (f.params.map paB) ++ [41, 32], 123, by simp, rfl⟩⟩).app (lsSs_ok f.body 1 _ _ a4)).app (lnOk_shut 0)
theorem lsP_ok {p : Pr} (h : (checkZ p).1 = 0) : lnOk 0 (lsP p) 0 := by
  rw [lsP]
  refine lnOk.app ?_ (lsFs_ok _ (check_ok h).2.2)
  rw [lsW]
  split
  · rfl
  · exact lnOk_plain ⟨((F1 (by decide)).app (flat_com _ fun t ht => by obtain ⟨z, _, rfl⟩ := List.mem_map.1 ht; exact flat_itoa z)).app (F1 (by decide)), ⟨119, _, rfl, by decide, rfl⟩, ⟨_, 59, rfl, rfl⟩⟩
def ctFs : List Fu → Nat | [] => 0 | f :: r => 2 + ctSs f.body + ctFs r
def ctP (p : Pr) : Nat := (if 0 < p.widen.length then 1 else 0) + ctFs p.funcs
theorem lsFs_ct : ∀ l : List Fu, (lsFs l).length = ctFs l
  | [] => rfl
  | f :: r => by rw [lsFs, ctFs, List.length_append, lsFs_ct r, lsF]; simp only [List.length_append, List.length_cons, List.length_nil, lsSs_ct]; omega
theorem lsP_ct (p : Pr) : (lsP p).length = ctP p := by
  rw [lsP, ctP, List.length_append, lsFs_ct, lsW]
  by_cases h : p.widen.length = 0
  · rw [if_pos h, if_neg (by omega)]; rfl
  · rw [if_neg h, if_pos (by omega)]; rfl
end Go.Proofs.YtbpemackmadhgabDoor

/- Copies: programs without their addresses; the blocks in which a program lies; programs of which each list has a block of its own, with room for one more. -/
namespace Go.Proofs.YtbpemackmadhgabDoor
open Go.RowKit

/- Without addresses. -/
mutual
def Ex.er : Ex → Ex | .mk k n s _ _ l => .mk k n s none 0 (erL l)
def erL : List Ex → List Ex | [] => [] | x :: r => x.er :: erL r
end
mutual
def St.er : St → St | .mk k s n a b _ _ l _ _ e _ _ c => .mk k s n a.er b.er none 0 (erS l) none 0 (erS e) none 0 (erC c)
def Ca.er : Ca → Ca | .mk n _ _ l => .mk n none 0 (erS l)
def erS : List St → List St | [] => [] | x :: r => x.er :: erS r
def erC : List Ca → List Ca | [] => [] | x :: r => x.er :: erC r
end
def Fu.er (f : Fu) : Fu := ⟨f.name, none, 0, f.params, none, 0, erS f.body⟩
def Pr.er (p : Pr) : Pr := ⟨none, 0, p.widen, none, 0, p.funcs.map Fu.er⟩
theorem erL_map (l : List Ex) : erL l = l.map Ex.er := by induction l <;> simp_all [erL]
theorem erS_map (l : List St) : erS l = l.map St.er := by induction l <;> simp_all [erS]
theorem erC_map (l : List Ca) : erC l = l.map Ca.er := by induction l <;> simp_all [erC]
theorem Ex.er_eq (x : Ex) : x.er = .mk x.kind x.n x.name none 0 (erL x.args) := by cases x; simp only [Ex.er, Ex.kind, Ex.n, Ex.name, Ex.args]
theorem St.er_eq (s : St) : s.er = .mk s.kind s.name s.n s.a.er s.b.er none 0 (erS s.body) none 0 (erS s.els) none 0 (erC s.cases) := by
  cases s; simp only [St.er, St.kind, St.name, St.n, St.a, St.b, St.body, St.els, St.cases]
theorem Ca.er_eq (c : Ca) : c.er = .mk c.n none 0 (erS c.body) := by cases c; simp only [Ca.er, Ca.n, Ca.body]

theorem samE_er (k : Nat) : (∀ x y : Ex, x.sz ≤ k → x.er = y.er → samE x y = true) ∧ (∀ l t : List Ex, szL l ≤ k → erL l = erL t → samEs l t = true) := by
  induction k with
  | zero =>
    refine ⟨fun x y hk => by have := x.sz_args; omega, fun l t hk h => ?_⟩
    cases l with
    | nil => cases t with
      | nil => simp [samEs]
      | cons y t => simp [erL] at h
    | cons x r => rw [szL] at hk; have := x.sz_args; omega
  | succ k ih =>
    have h1 : ∀ x y : Ex, x.sz ≤ k + 1 → x.er = y.er → samE x y = true := fun x y hk h => by
      rw [x.er_eq, y.er_eq] at h
      injection h with e1 e2 e3 _ _ e6
      rw [samE_eq, e1, e2, e3, ih.2 _ _ (by have := x.sz_args; omega) e6]
      simp
    refine ⟨h1, fun l => ?_⟩
    induction l with
    | nil => intro t _ h; cases t with
      | nil => simp [samEs]
      | cons y t => simp [erL] at h
    | cons x r ihr =>
      intro t hk h
      cases t with
      | nil => simp [erL] at h
      | cons y t =>
        rw [szL] at hk
        simp only [erL, List.cons.injEq] at h
        rw [samEs, h1 x y (by omega) h.1, ihr t (by omega) h.2]; rfl

theorem samS_er (k : Nat) : (∀ x y : St, x.sz ≤ k → x.er = y.er → samS x y = true) ∧ (∀ l t : List St, ssz l ≤ k → erS l = erS t → samSs l t = true) ∧ (∀ l t : List Ca, csz l ≤ k → erC l = erC t → samCs l t = true) := by
  induction k with
  | zero =>
    refine ⟨fun x y hk => by have := x.sz_eq; omega, fun l t hk h => ?_, fun l t hk h => ?_⟩
    · cases l with
      | nil => cases t with
        | nil => simp [samSs]
        | cons y t => simp [erS] at h
      | cons x r => rw [ssz] at hk; have := x.sz_eq; omega
    · cases l with
      | nil => cases t with
        | nil => simp [samCs]
        | cons y t => simp [erC] at h
      | cons x r => rw [csz] at hk; have := x.sz_eq; omega
  | succ k ih =>
    have h1 : ∀ x y : St, x.sz ≤ k + 1 → x.er = y.er → samS x y = true := fun x y hk h => by
      rw [x.er_eq, y.er_eq] at h
      have hz := x.sz_eq
      injection h with e1 e2 e3 e4 e5 _ _ e6 _ _ e7 _ _ e8
      rw [samS_eq, e1, e2, e3, (samE_er _).1 _ _ (Nat.le_refl _) e4, (samE_er _).1 _ _ (Nat.le_refl _) e5, ih.2.1 _ _ (by omega) e6, ih.2.1 _ _ (by omega) e7, ih.2.2 _ _ (by omega) e8]
      simp
    refine ⟨h1, fun l => ?_, fun l => ?_⟩
    · induction l with
      | nil => intro t _ h; cases t with
        | nil => simp [samSs]
        | cons y t => simp [erS] at h
      | cons x r ihr =>
        intro t hk h
        cases t with
        | nil => simp [erS] at h
        | cons y t =>
          rw [ssz] at hk
          simp only [erS, List.cons.injEq] at h
          rw [samSs, h1 x y (by omega) h.1, ihr t (by omega) h.2]; rfl
    · induction l with
      | nil => intro t _ h; cases t with
        | nil => simp [samCs]
        | cons y t => simp [erC] at h
      | cons x r ihr =>
        intro t hk h
        cases t with
        | nil => simp [erC] at h
        | cons y t =>
          rw [csz] at hk
          simp only [erC, List.cons.injEq] at h
          have h2 := h.1
          rw [x.er_eq, y.er_eq] at h2
          injection h2 with e1 _ _ e4
          rw [samCs, samC_eq, e1, ih.2.1 _ _ (by have := x.sz_eq; omega) e4, ihr t (by omega) h.2]; simp
theorem samI_self (l : List Int) : samI l l = true := by induction l <;> simp_all [samI]
theorem samPs_self (l : List Pa) : samPs l l = true := by induction l <;> simp_all [samPs, samP]
theorem samPr_er {p q : Pr} (h : p.er = q.er) : samPr p q = true := by
  unfold Pr.er at h
  injection h with _ _ e1 _ _ e2
  unfold samPr
  rw [e1, samI_self, Bool.true_and]
  generalize p.funcs = l at e2
  generalize q.funcs = t at e2
  induction l generalizing t with
  | nil => cases t with
    | nil => rfl
    | cons y t => simp at e2
  | cons x r ih =>
    cases t with
    | nil => simp at e2
    | cons y t =>
      simp only [List.map_cons, List.cons.injEq] at e2
      rw [samFs, ih t e2.2, Bool.and_true]
      have := e2.1
      unfold Fu.er at this
      injection this with f1 _ _ f2 _ _ f3
      unfold samF
      rw [f1, f2, samPs_self, (samS_er _).2.1 _ _ (Nat.le_refl _) f3]; simp

/-- The blocks of a program's lists. -/
def blk : Option Addr → Nat | some a => a.block | none => 0
mutual
def Ex.bl : Ex → List Nat | .mk _ _ _ a _ l => blk a :: blL l
def blL : List Ex → List Nat | [] => [] | x :: r => x.bl ++ blL r
end
mutual
def St.bl : St → List Nat | .mk _ _ _ a b ba _ l ea _ e ca _ c => a.bl ++ (b.bl ++ (blk ba :: blS l ++ (blk ea :: blS e ++ (blk ca :: blC c))))
def Ca.bl : Ca → List Nat | .mk _ a _ l => blk a :: blS l
def blS : List St → List Nat | [] => [] | x :: r => x.bl ++ blS r
def blC : List Ca → List Nat | [] => [] | x :: r => x.bl ++ blC r
end
def Fu.bl (f : Fu) : List Nat := blk f.pa :: blk f.ba :: blS f.body
def Pr.bl (p : Pr) : List Nat := blk p.wa :: blk p.fa :: p.funcs.flatMap Fu.bl
theorem Ex.bl_eq (x : Ex) : x.bl = blk x.a :: blL x.args := by cases x; simp only [Ex.bl, Ex.a, Ex.args]
theorem St.bl_eq (s : St) : s.bl = s.a.bl ++ (s.b.bl ++ (blk s.ba :: blS s.body ++ (blk s.ea :: blS s.els ++ (blk s.ca :: blC s.cases)))) := by
  cases s; simp only [St.bl, St.a, St.b, St.ba, St.body, St.ea, St.els, St.ca, St.cases]
theorem Ca.bl_eq (c : Ca) : c.bl = blk c.ba :: blS c.body := by cases c; simp only [Ca.bl, Ca.ba, Ca.body]
theorem blL_map (l : List Ex) : blL l = l.flatMap Ex.bl := by induction l <;> simp_all [blL]
theorem blS_map (l : List St) : blS l = l.flatMap St.bl := by induction l <;> simp_all [blS]
theorem blC_map (l : List Ca) : blC l = l.flatMap Ca.bl := by induction l <;> simp_all [blC]

/-- A list has a block of its own, with room for one more, and that one is there. -/
def RowCp (W : World) (a : Option Addr) (c n B : Nat) (T : TypeId) (cs : List Value) : Prop := ∃ g, a = some ⟨g, 0, none⟩ ∧ c = n + 1 ∧ c * B ≤ 140737488351232 ∧ W.heap[g]? = some (.cells ⟨cs⟩ T (0, 0))
theorem RowCp.keep {W W' : World} {a : Option Addr} {c n B : Nat} {T : TypeId} {cs : List Value} (h : RowCp W a c n B T cs) (hk : W'.heap[blk a]? = W.heap[blk a]?) : RowCp W' a c n B T cs := by
  obtain ⟨g, rfl, h1, h2, h3⟩ := h
  exact ⟨g, rfl, h1, h2, hk.trans h3⟩
theorem flatC_at {α : Type} {f : α → List Value} {k : Nat} (hf : ∀ x, (f x).length = k) (r : List Value) : ∀ (l : List α) (i : Nat) (x : α) (j : Nat), l[i]? = some x → j < k → (l.flatMap f ++ r)[i * k + j]? = (f x)[j]?
  | [], i, x, j, h, _ => by simp at h
  | y :: l, 0, x, j, h, hj => by
    simp at h; subst h
    rw [List.flatMap_cons, List.append_assoc, List.getElem?_append_left (by rw [hf]; omega)]; simp
  | y :: l, i + 1, x, j, h, hj => by
    rw [List.flatMap_cons, List.append_assoc, List.getElem?_append_right (by rw [hf, Nat.add_mul]; omega), hf]
    have := flatC_at hf r l i x j (by simpa using h) hj
    rw [← this]; congr 1; rw [Nat.add_mul]; omega
theorem RowCp.row {W : World} {a : Option Addr} {c n B : Nat} {T : TypeId} {α : Type} {f : α → List Value} {k : Nat} {l : List α} {r : List Value} (h : RowCp W a c n B T (l.flatMap f ++ r)) (hf : ∀ x, (f x).length = k) : RowIn W a k (l.map f) := by
  obtain ⟨g, rfl, _, _, h3⟩ := h
  intro i cs hi
  rw [List.getElem?_map, Option.map_eq_some_iff] at hi
  obtain ⟨x, hx, rfl⟩ := hi
  refine ⟨g, 0, rfl, fun j v hj => ?_⟩
  have hjl := (List.getElem?_eq_some_iff.1 hj).1
  rw [hf] at hjl
  have := flatC_at hf r l i x j hx hjl
  rw [hj] at this
  simp [World.cell?, h3, this]

def senE : List Value := [.int .i64 (-77), .int .i64 0, .string ⟨#[]⟩, .slice none 0 0]
def senS : List Value := [.int .i64 (-77), .string ⟨#[]⟩, .int .i64 0, .int .i64 0, .int .i64 0, .string ⟨#[]⟩, .slice none 0 0, .int .i64 0, .int .i64 0, .string ⟨#[]⟩, .slice none 0 0, .slice none 0 0, .slice none 0 0, .slice none 0 0]
def senC : List Value := [.int .i64 (-77), .slice none 0 0]
def senP : List Value := [.string ⟨#[63]⟩, .int .i64 0, .int .i64 0]
def senF : List Value := [.string ⟨#[63]⟩, .slice none 0 0, .slice none 0 0]
mutual
def Ex.Cp (W : World) : Ex → Prop
  | .mk k n s a c l => I64 k ∧ I64 n ∧ s.size ≤ 140737488351232 ∧ RowCp W a c l.length 56 48 (l.flatMap Ex.cells ++ senE) ∧ CpL W l
def CpL (W : World) : List Ex → Prop
  | [] => True
  | x :: r => x.Cp W ∧ CpL W r
end
mutual
def St.Cp (W : World) : St → Prop
  | .mk k s n a b ba bc l ea ec e ca cc c => I64 k ∧ s.size ≤ 140737488351232 ∧ I64 n ∧ a.Cp W ∧ b.Cp W ∧ RowCp W ba bc l.length 216 53 (l.flatMap St.cells ++ senS) ∧ RowCp W ea ec e.length 216 53 (e.flatMap St.cells ++ senS) ∧ RowCp W ca cc c.length 32 59 (c.flatMap Ca.cells ++ senC) ∧ CpS W l ∧ CpS W e ∧ CpC W c
def Ca.Cp (W : World) : Ca → Prop
  | .mk n a c l => I64 n ∧ RowCp W a c l.length 216 53 (l.flatMap St.cells ++ senS) ∧ CpS W l
def CpS (W : World) : List St → Prop
  | [] => True
  | x :: r => x.Cp W ∧ CpS W r
def CpC (W : World) : List Ca → Prop
  | [] => True
  | x :: r => x.Cp W ∧ CpC W r
end
theorem cpL_mem {W : World} {l : List Ex} : CpL W l ↔ ∀ x ∈ l, x.Cp W := by induction l <;> simp_all [CpL]
theorem cpS_mem {W : World} {l : List St} : CpS W l ↔ ∀ x ∈ l, x.Cp W := by induction l <;> simp_all [CpS]
theorem cpC_mem {W : World} {l : List Ca} : CpC W l ↔ ∀ x ∈ l, x.Cp W := by induction l <;> simp_all [CpC]
theorem Ex.cp_iff {W : World} {x : Ex} : x.Cp W ↔ I64 x.kind ∧ I64 x.n ∧ x.name.size ≤ 140737488351232 ∧ RowCp W x.a x.cap x.args.length 56 48 (x.args.flatMap Ex.cells ++ senE) ∧ ∀ y ∈ x.args, y.Cp W := by
  cases x; simp only [Ex.Cp, Ex.kind, Ex.n, Ex.name, Ex.a, Ex.cap, Ex.args, cpL_mem]
theorem St.cp_iff {W : World} {s : St} : s.Cp W ↔ I64 s.kind ∧ s.name.size ≤ 140737488351232 ∧ I64 s.n ∧ s.a.Cp W ∧ s.b.Cp W ∧ RowCp W s.ba s.bc s.body.length 216 53 (s.body.flatMap St.cells ++ senS) ∧ RowCp W s.ea s.ec s.els.length 216 53 (s.els.flatMap St.cells ++ senS) ∧ RowCp W s.ca s.cc s.cases.length 32 59 (s.cases.flatMap Ca.cells ++ senC) ∧
    (∀ x ∈ s.body, x.Cp W) ∧ (∀ x ∈ s.els, x.Cp W) ∧ ∀ x ∈ s.cases, x.Cp W := by
  cases s; simp only [St.Cp, St.kind, St.name, St.n, St.a, St.b, St.ba, St.bc, St.body, St.ea, St.ec, St.els, St.ca, St.cc, St.cases, cpS_mem, cpC_mem]
theorem Ca.cp_iff {W : World} {c : Ca} : c.Cp W ↔ I64 c.n ∧ RowCp W c.ba c.bc c.body.length 216 53 (c.body.flatMap St.cells ++ senS) ∧ ∀ x ∈ c.body, x.Cp W := by
  cases c; simp only [Ca.Cp, Ca.n, Ca.ba, Ca.bc, Ca.body, cpS_mem]

theorem Ex.Cp.toIn {W : World} : ∀ (k : Nat) (x : Ex), x.sz ≤ k → x.Cp W → x.In W := by
  intro k
  induction k with
  | zero => intro x hk; have := x.sz_args; omega
  | succ k ih =>
    intro x hk h
    obtain ⟨h1, h2, h3, h4, h5⟩ := Ex.cp_iff.1 h
    have hr := h4.row (k := 4) (fun x => rfl)
    obtain ⟨g, e, e1, e2, _⟩ := h4
    refine Ex.in_iff.2 ⟨h1, h2, h3, by omega, e2, fun h => (by rw [e] at h; cases h), hr, fun y hy => ih y ?_ (h5 y hy)⟩
    have := x.sz_args; have := szL_mem hy; omega
theorem Ex.Cp.in {W : World} {x : Ex} (h : x.Cp W) : x.In W := Ex.Cp.toIn _ x (Nat.le_refl _) h
theorem cp_in {W : World} (k : Nat) : (∀ s : St, s.sz ≤ k → s.Cp W → s.In W) ∧ (∀ c : Ca, c.sz ≤ k → c.Cp W → c.In W) := by
  induction k with
  | zero => exact ⟨fun s h => by have := s.sz_eq; omega, fun c h => by have := c.sz_eq; omega⟩
  | succ k ih =>
    have lies : ∀ {a : Option Addr} {c : Nat} {l : List St}, RowCp W a c l.length 216 53 (l.flatMap St.cells ++ senS) → Lies W a c l := fun {a c l} h => by
      have hr := h.row (k := 14) (fun x => rfl)
      obtain ⟨g, e, e1, e2, _⟩ := h
      exact ⟨by omega, e2, fun h => (by rw [e] at h; cases h), hr⟩
    refine ⟨fun s hk h => ?_, fun c hk h => ?_⟩
    · obtain ⟨h1, h2, h3, h4, h5, h6, h7, h8, h9, h10, h11⟩ := St.cp_iff.1 h
      have := s.sz_eq
      have hr := h8.row (k := 2) (fun x => rfl)
      obtain ⟨g, e, e1, e2, _⟩ := h8
      refine St.in_iff.2 ⟨h1, h2, h3, h4.in, h5.in, ⟨lies h6, fun x hx => ih.1 x ?_ (h9 x hx)⟩, ⟨lies h7, fun x hx => ih.1 x ?_ (h10 x hx)⟩, ⟨by omega, e2, fun h => (by rw [e] at h; cases h), hr⟩, fun x hx => ih.2 x ?_ (h11 x hx)⟩
      · have := ssz_mem hx; omega
      · have := ssz_mem hx; omega
      · have := csz_mem hx; omega
    · obtain ⟨h1, h2, h3⟩ := Ca.cp_iff.1 h
      have := c.sz_eq
      refine Ca.in_iff.2 ⟨h1, lies h2, fun x hx => ih.1 x ?_ (h3 x hx)⟩
      have := ssz_mem hx; omega
theorem St.Cp.in {W : World} {s : St} (h : s.Cp W) : s.In W := (cp_in _).1 s (Nat.le_refl _) h

/-- What lies in blocks that are as they were is there as it was. -/
theorem Ex.Cp.keep {W W' : World} : ∀ (k : Nat) (x : Ex), x.sz ≤ k → x.Cp W → (∀ b ∈ x.bl, W'.heap[b]? = W.heap[b]?) → x.Cp W' := by
  intro k
  induction k with
  | zero => intro x hk; have := x.sz_args; omega
  | succ k ih =>
    intro x hk h hb
    obtain ⟨h1, h2, h3, h4, h5⟩ := Ex.cp_iff.1 h
    rw [x.bl_eq] at hb
    refine Ex.cp_iff.2 ⟨h1, h2, h3, h4.keep (hb _ (List.mem_cons_self ..)), fun y hy => ih y ?_ (h5 y hy) (fun b hbb => hb b (List.mem_cons_of_mem _ ?_))⟩
    · have := x.sz_args; have := szL_mem hy; omega
    · rw [blL_map]; exact List.mem_flatMap.2 ⟨y, hy, hbb⟩
theorem Ex.Cp.kept {W W' : World} {x : Ex} (h : x.Cp W) (hb : ∀ b ∈ x.bl, W'.heap[b]? = W.heap[b]?) : x.Cp W' := Ex.Cp.keep _ x (Nat.le_refl _) h hb
theorem cp_keep {W W' : World} (k : Nat) : (∀ s : St, s.sz ≤ k → s.Cp W → (∀ b ∈ s.bl, W'.heap[b]? = W.heap[b]?) → s.Cp W') ∧ (∀ c : Ca, c.sz ≤ k → c.Cp W → (∀ b ∈ c.bl, W'.heap[b]? = W.heap[b]?) → c.Cp W') := by
  induction k with
  | zero => exact ⟨fun s h => by have := s.sz_eq; omega, fun c h => by have := c.sz_eq; omega⟩
  | succ k ih =>
    refine ⟨fun s hk h hb => ?_, fun c hk h hb => ?_⟩
    · obtain ⟨h1, h2, h3, h4, h5, h6, h7, h8, h9, h10, h11⟩ := St.cp_iff.1 h
      have := s.sz_eq
      rw [s.bl_eq] at hb
      simp only [List.mem_append, List.mem_cons, List.cons_append] at hb
      refine St.cp_iff.2 ⟨h1, h2, h3, h4.kept fun b h => hb b (by simp [h]), h5.kept fun b h => hb b (by simp [h]), h6.keep (hb _ (by simp)), h7.keep (hb _ (by simp)), h8.keep (hb _ (by simp)), fun x hx => ih.1 x ?_ (h9 x hx) fun b h => hb b ?_, fun x hx => ih.1 x ?_ (h10 x hx) fun b h => hb b ?_, fun x hx => ih.2 x ?_ (h11 x hx) fun b h => hb b ?_⟩
      · have := ssz_mem hx; omega
      · have : b ∈ blS s.body := by rw [blS_map]; exact List.mem_flatMap.2 ⟨x, hx, h⟩
        simp [this]
      · have := ssz_mem hx; omega
      · have : b ∈ blS s.els := by rw [blS_map]; exact List.mem_flatMap.2 ⟨x, hx, h⟩
        simp [this]
      · have := csz_mem hx; omega
      · have : b ∈ blC s.cases := by rw [blC_map]; exact List.mem_flatMap.2 ⟨x, hx, h⟩
        simp [this]
    · obtain ⟨h1, h2, h3⟩ := Ca.cp_iff.1 h
      have := c.sz_eq
      rw [c.bl_eq] at hb
      refine Ca.cp_iff.2 ⟨h1, h2.keep (hb _ (List.mem_cons_self ..)), fun x hx => ih.1 x ?_ (h3 x hx) fun b h => hb b (List.mem_cons_of_mem _ ?_)⟩
      · have := ssz_mem hx; omega
      · rw [blS_map]; exact List.mem_flatMap.2 ⟨x, hx, h⟩
theorem St.Cp.kept {W W' : World} {s : St} (h : s.Cp W) (hb : ∀ b ∈ s.bl, W'.heap[b]? = W.heap[b]?) : s.Cp W' := (cp_keep _).1 s (Nat.le_refl _) h hb
theorem Ca.Cp.kept {W W' : World} {c : Ca} (h : c.Cp W) (hb : ∀ b ∈ c.bl, W'.heap[b]? = W.heap[b]?) : c.Cp W' := (cp_keep _).2 c (Nat.le_refl _) h hb
end Go.Proofs.YtbpemackmadhgabDoor

/- The two programs of the statements' first question, and what the plain functions say of them. -/
namespace Go.Proofs.YtbpemackmadhgabDoor
open Go.RowKit Go.Sort

def zEx : Ex := .mk 0 0 ⟨#[]⟩ none 0 []
def aX : Ex := .mk 2 0 ⟨#[110]⟩ none 0 []
def aNeg (B : Nat) : Ex := .mk 5 0 ⟨#[]⟩ (some ⟨B + 1 + 1 + 1, 0, none⟩) 1 [aX]
def aRet (B : Nat) : St := .mk 9 ⟨#[]⟩ 0 (aNeg B) zEx none 0 [] none 0 [] none 0 []
def aLet : St := .mk 1 ⟨#[]⟩ 1 zEx zEx none 0 [] none 0 [] none 0 []
def aPa : Pa := ⟨⟨#[110]⟩, 0, 10⟩
def aFn (B : Nat) (l : List St) : Fu := ⟨⟨#[102]⟩, some ⟨B + 1 + 1, 0, none⟩, 1, [aPa], some ⟨B + 1 + 1 + 1 + 1, 0, none⟩, 2, l⟩
def aPr (B g : Nat) (l : List St) : Pr := ⟨some ⟨B + 1, 0, none⟩, 2, [-5, 0], some ⟨g, 0, none⟩, 1, [aFn B l]⟩
theorem zE_z : zeroE zEx = true := by simp [zeroE, zEx, Ex.kind, Ex.n, Ex.name, Ex.args]
theorem zE_neg (B : Nat) : zeroE (aNeg B) = false := by simp [zeroE, aNeg, Ex.kind]
theorem us_z : usesE zEx = 0 := by simp [usesE, zEx, Ex.name, Ex.n]; decide
theorem us_x : usesE aX = 1 := by simp [usesE, aX, Ex.name, Ex.n]; decide
theorem us_neg (B : Nat) : usesE (aNeg B) = 0 := by simp [usesE, aNeg, Ex.name, Ex.n]; decide
theorem us_ret (B : Nat) : usesS (aRet B) = 4 := by
  simp [usesS, aRet, St.name, St.n, St.a, St.b, St.body, St.els, St.cases, zE_z, zE_neg]; decide
theorem us_let : usesS aLet = 2 := by
  simp [usesS, aLet, St.name, St.n, St.a, St.b, St.body, St.els, St.cases, zE_z]; decide
theorem nm_n : nameZ ⟨#[110]⟩ = true := by decide
theorem nm_f : nameZ ⟨#[102]⟩ = true := by decide
theorem self_x : selfE aX = 0 := by unfold selfE; rw [us_x]; decide
theorem self_neg (B : Nat) : selfE (aNeg B) = 0 := by
  unfold selfE; rw [us_neg]
  show (if isE 5 = false then (5 : Int) else if (bits .andNot .i64 0 (formE 5).fields != 0) = true then 5 else if ((formE 5).args != -1 && (((1 : Nat) : Int) != (formE 5).args)) = true then 5 else if (bits .and .i64 (formE 5).fields 1 != 0 && !nameZ ⟨#[]⟩) = true then 8 else if (0 : Int) < 0 then 1 else 0) = 0
  decide
theorem chk_x (lv : Int) (h : lv ≤ 32) : chkE aX lv = 0 := by
  rw [chkE_eq, if_neg (by omega), self_x]; rfl
theorem chk_neg (B : Nat) (lv : Int) (h : lv ≤ 31) : chkE (aNeg B) lv = 0 := by
  rw [chkE_eq, if_neg (by omega), self_neg, if_neg (by simp)]
  show chkL [aX] (lv + 1) = 0
  rw [chkL, chk_x _ (by omega)]; rfl
theorem selfS_ret (B : Nat) : selfS (aRet B) = 0 := by
  unfold selfS; rw [us_ret]
  show (if isS 9 = false then (5 : Int) else if (bits .andNot .i64 4 (fldS 9) != 0) = true then 5 else if (bits .and .i64 (fldS 9) 1 != 0 && !nameZ ⟨#[]⟩) = true then 8 else if (decide ((0 : Int) < 0) || leastC []) = true then 1 else if ((9 : Int) == 10 && (5 : Int) != 4) = true then 5 else 0) = 0
  decide
theorem selfS_let : selfS aLet = 5 := by unfold selfS; rw [us_let]; decide
theorem chkS_ret (B : Nat) : chkS (aRet B) 1 = 0 := by
  unfold chkS; rw [if_neg (by omega), selfS_ret, if_neg (by simp)]
  show (if _ then _ else _) = _
  rw [show (aRet B).a = aNeg B from rfl, chk_neg B _ (by omega)]
  show (if (bits .and .i64 (fldS 9) 4 != 0 && (0 : Int) != 0) = true then (0 : Int) else if (bits .and .i64 (fldS 9) 8 != 0) = true then chkE zEx 2 else 0) = 0
  rw [if_neg (by decide), if_neg (by decide)]
theorem chkS_let : chkS aLet 1 = 5 := by unfold chkS; rw [if_neg (by omega), selfS_let]; rfl
theorem chkT_ret (B : Nat) (at_ : Int) : chkT (aRet B) 1 at_ = (0, at_ + 1) := by
  rw [chkT_eq, chkS_ret, if_neg (by simp)]; rfl
theorem chkT_let (at_ : Int) : chkT aLet 1 at_ = (5, at_ + 1) := by
  rw [chkT_eq, chkS_let]; rfl
theorem chkSs_q (B : Nat) : chkSs [aRet B] 1 0 = (0, 1) := by
  rw [chkSs, chkT_ret]; rfl
theorem chkSs_p (B : Nat) : chkSs [aRet B, aLet] 1 0 = (5, 2) := by
  rw [chkSs, chkT_ret, thenZ, if_neg (by simp), chkSs, chkT_let]; rfl
theorem head_a (B : Nat) (l : List St) : headZ (aFn B l) = 0 := by
  unfold headZ; rw [show (aFn B l).name = ⟨#[102]⟩ from rfl, nm_f]
  show (if _ then _ else _) = _
  rw [if_neg (by simp), if_neg (by show ¬ 8 < 1; omega)]
  show parsZ [aPa] = 0
  rw [parsZ, show aPa.name = ⟨#[110]⟩ from rfl, nm_n]; decide
theorem cnt_ret (B : Nat) : cntS (aRet B) 0 = 3 := by
  rw [cntS_eq]
  show cntB _ (cntZ zEx (cntZ (aNeg B) (0 + (1 + 0)))) = 3
  rw [cntZ, cntZ, zE_neg, zE_z]; rfl
theorem cnt_let : cntS aLet 3 = 4 := by
  rw [cntS_eq]
  show cntB _ (cntZ zEx (cntZ zEx (3 + (1 + 0)))) = 4
  rw [cntZ, cntZ, zE_z]; rfl
theorem nodes_q (B g : Nat) : nodesZ (aPr B g [aRet B]) = 3 := by
  unfold nodesZ
  show min (cntF [aFn B [aRet B]] 0) 4097 = 3
  rw [cntF, cntF]
  show min (cntSs [aRet B] 0) 4097 = 3
  rw [cntSs, if_neg (by omega), cnt_ret]; rfl
theorem nodes_p (B g : Nat) : nodesZ (aPr B g [aRet B, aLet]) = 4 := by
  unfold nodesZ
  show min (cntF [aFn B [aRet B, aLet]] 0) 4097 = 4
  rw [cntF, cntF]
  show min (cntSs [aRet B, aLet] 0) 4097 = 4
  rw [cntSs, if_neg (by omega), cnt_ret, cntSs, if_neg (by omega), cnt_let]; rfl
theorem chkF_q (B : Nat) : chkF (aFn B [aRet B]) = (0, 1) := by unfold chkF; rw [head_a, if_neg (by simp)]; exact chkSs_q B
theorem chkF_p (B : Nat) : chkF (aFn B [aRet B, aLet]) = (5, 2) := by unfold chkF; rw [head_a, if_neg (by simp)]; exact chkSs_p B
theorem check_q (B g : Nat) : checkZ (aPr B g [aRet B]) = (0, 0, 0) := by
  have hw : wholeZ (aPr B g [aRet B]) = 0 := by unfold wholeZ; rw [nodes_q]; rfl
  unfold checkZ; rw [hw, if_neg (by simp)]
  show chkFs [aFn B [aRet B]] 0 = _
  rw [chkFs, chkF_q]; rfl
theorem check_p (B g : Nat) : checkZ (aPr B g [aRet B, aLet]) = (5, 0, 2) := by
  have hw : wholeZ (aPr B g [aRet B, aLet]) = 0 := by unfold wholeZ; rw [nodes_p]; rfl
  unfold checkZ; rw [hw, if_neg (by simp)]
  show chkFs [aFn B [aRet B, aLet]] 0 = _
  rw [chkFs, chkF_p]; rfl
theorem ok_neg (B : Nat) : OkE (aNeg B) := ⟨1, chk_neg B 1 (by omega)⟩
def awText : List UInt8 := [119, 105, 100, 101, 110, 32, 45, 53, 44, 32, 48, 59, 10, 102, 110, 32, 102, 40, 110, 32, 105, 110, 32, 48, 46, 46, 49, 48, 41, 32, 123, 10, 32, 32, 114, 101, 116, 117, 114, 110, 32, 45, 110, 59, 10, 125, 10]
theorem text_q (B g : Nat) : txP (aPr B g [aRet B]) = awText := by
  have h0 : txE aX = [110] := by rw [txE_eq]; decide
  have h1 : txE (aNeg B) = [45, 110] := by
    rw [txE_eq]; show txOf 5 0 ⟨#[]⟩ [2] [txE aX] = _
    rw [h0]; decide
  have h2 : txS (aRet B) 1 = lineB 1 ([114, 101, 116, 117, 114, 110, 32] ++ txE (aNeg B) ++ [59]) := by unfold aRet; simp [txS]
  show txW [-5, 0] ++ txFs [aFn B [aRet B]] = _
  rw [txFs, txFs]
  unfold txF
  show txW [-5, 0] ++ (lineB 0 _ ++ txSs [aRet B] 1 ++ _ ++ []) = _
  rw [txSs, txSs, h2, h1]
  show txW [-5, 0] ++ (lineB 0 ([102, 110, 32] ++ [102] ++ [40] ++ comB [paB aPa] ++ [41, 32, 123]) ++ (lineB 1 ([114, 101, 116, 117, 114, 110, 32] ++ [45, 110] ++ [59]) ++ []) ++ lineB 0 [125] ++ []) = awText
  decide +kernel
theorem samE_refl_x : samE aX aX = true := by rw [samE_eq]; simp [aX, Ex.kind, Ex.n, Ex.name, Ex.args, samEs]
theorem samE_z : samE zEx zEx = true := by rw [samE_eq]; simp [zEx, Ex.kind, Ex.n, Ex.name, Ex.args, samEs]
theorem samE_neg (B : Nat) : samE (aNeg B) (aNeg B) = true := by rw [samE_eq]; simp [aNeg, Ex.kind, Ex.n, Ex.name, Ex.args, samEs, samE_refl_x]
theorem samS_ret (B : Nat) : samS (aRet B) (aRet B) = true := by rw [samS_eq]; simp [aRet, St.kind, St.name, St.n, St.a, St.b, St.body, St.els, St.cases, samE_neg, samE_z, samSs, samCs]
theorem same_qq (B g : Nat) : samPr (aPr B g [aRet B]) (aPr B g [aRet B]) = true := by
  simp [samPr, aPr, samI, samFs, samF, aFn, samPs, samP, samSs, samS_ret]
theorem same_pq (B g g' : Nat) : samPr (aPr B g [aRet B, aLet]) (aPr B g' [aRet B]) = false := by
  simp [samPr, aPr, samFs, samF, aFn, samSs]
end Go.Proofs.YtbpemackmadhgabDoor

/- The statements' own first question: answers that the document fixes. -/
namespace Go.Proofs.YtbpemackmadhgabDoor
open Go.RowKit Go.Sort

theorem flat_at (sz : Nat) : ∀ (rows : List (List Value)), (∀ r ∈ rows, r.length = sz) → ∀ (i j : Nat) cs v, rows[i]? = some cs → cs[j]? = some v → rows.flatten[i * sz + j]? = some v
  | [], _, i, j, cs, v, hi, _ => by simp at hi
  | r :: rs, h, 0, j, cs, v, hi, hj => by
    simp only [List.getElem?_cons_zero, Option.some.injEq] at hi
    subst hi
    have hlt := (List.getElem?_eq_some_iff.1 hj).1
    rw [List.flatten_cons, Nat.zero_mul, Nat.zero_add, List.getElem?_append_left hlt]; exact hj
  | r :: rs, h, i + 1, j, cs, v, hi, hj => by
    have hr := h r (by simp)
    rw [List.flatten_cons, List.getElem?_append_right (by rw [hr, Nat.succ_mul]; omega), hr, show (i + 1) * sz + j - sz = i * sz + j from by rw [Nat.succ_mul]; omega]
    exact flat_at sz rs (fun x hx => h x (by simp [hx])) i j cs v (by simpa using hi) hj
theorem rowIn_block {W : World} {g sz : Nat} {rows : List (List Value)} {arr : Array Value} {t : TypeId} {fz : Nat × Nat} (h : W.heap[g]? = some (.cells arr t fz)) (hf : arr.toList = rows.flatten ∨ ∃ rest, arr.toList = rows.flatten ++ rest) (hl : ∀ r ∈ rows, r.length = sz) : RowIn W (some ⟨g, 0, none⟩) sz rows := by
  intro i cs hi
  refine ⟨g, 0, rfl, fun j v hj => ?_⟩
  have h1 := flat_at sz rows hl i j cs v hi hj
  rw [Lib.cell_of_heap h, Nat.zero_add, ← Array.getElem?_toList]
  rcases hf with hf | ⟨rest, hf⟩
  · rw [hf]; exact h1
  · rw [hf, List.getElem?_append_left (List.getElem?_eq_some_iff.1 h1).1]; exact h1
theorem rowIn_nil {W : World} {a : Option Addr} {sz : Nat} : RowIn W a sz [] := fun i cs h => by simp at h

/-- The blocks in which the first question's lists lie. -/
structure Lay (W : World) (B : Nat) : Prop where
  l1 : W.heap[B + 1]? = some (.cells #[.int .i64 (-5), .int .i64 0] 2 (0, 0))
  l2 : W.heap[B + 1 + 1]? = some (.cells #[.string ⟨#[110]⟩, .int .i64 0, .int .i64 10] 50 (0, 0))
  l3 : W.heap[B + 1 + 1 + 1]? = some (.cells #[.int .i64 2, .int .i64 0, .string ⟨#[110]⟩, .slice none 0 0] 48 (0, 0))
  l4 : W.heap[B + 1 + 1 + 1 + 1]? = some (.cells #[.int .i64 9, .string ⟨#[]⟩, .int .i64 0, .int .i64 5, .int .i64 0, .string ⟨#[]⟩, .slice (some ⟨B + 1 + 1 + 1, 0, none⟩) 1 1, .int .i64 0, .int .i64 0, .string ⟨#[]⟩, .slice none 0 0, .slice none 0 0, .slice none 0 0, .slice none 0 0, .int .i64 1, .string ⟨#[]⟩, .int .i64 1, .int .i64 0, .int .i64 0, .string ⟨#[]⟩, .slice none 0 0, .int .i64 0, .int .i64 0, .string ⟨#[]⟩, .slice none 0 0, .slice none 0 0, .slice none 0 0, .slice none 0 0] 53 (0, 0))
theorem Lay.stay {W W' : World} {B : Nat} (h : Lay W B) (hb : Below W.heap.size W W') : Lay W' B := by
  have k : ∀ {g : Nat} {o : Obj}, W.heap[g]? = some o → W'.heap[g]? = some o := fun e => (hb.block _ (Array.getElem?_eq_some_iff.1 e).1).trans e
  exact ⟨k h.l1, k h.l2, k h.l3, k h.l4⟩
theorem i0 : I64 0 := ⟨by decide, by decide⟩
theorem i1 : I64 1 := ⟨by decide, by decide⟩
theorem i2 : I64 2 := ⟨by decide, by decide⟩
theorem i5 : I64 5 := ⟨by decide, by decide⟩
theorem i9 : I64 9 := ⟨by decide, by decide⟩
theorem i10 : I64 10 := ⟨by decide, by decide⟩
theorem im5 : I64 (-5) := ⟨by decide, by decide⟩
theorem n0 : (0 : Nat) ≤ 140737488351232 := by decide
theorem n1 : (1 : Nat) ≤ 140737488351232 := by decide
theorem lenE (l : List Ex) : ∀ r ∈ l.map Ex.cells, r.length = 4 := by intro r hr; obtain ⟨x, _, rfl⟩ := List.mem_map.1 hr; rfl
theorem lenS (l : List St) : ∀ r ∈ l.map St.cells, r.length = 14 := by intro r hr; obtain ⟨x, _, rfl⟩ := List.mem_map.1 hr; rfl
theorem lenP (l : List Pa) : ∀ r ∈ l.map Pa.cells, r.length = 3 := by intro r hr; obtain ⟨x, _, rfl⟩ := List.mem_map.1 hr; rfl
theorem lenF (l : List Fu) : ∀ r ∈ l.map Fu.cells, r.length = 3 := by intro r hr; obtain ⟨x, _, rfl⟩ := List.mem_map.1 hr; rfl
theorem lenI (l : List Int) : ∀ r ∈ l.map (fun z => ([.int .i64 z] : List Value)), r.length = 1 := by intro r hr; obtain ⟨x, _, rfl⟩ := List.mem_map.1 hr; rfl
theorem zEx_in (W : World) : zEx.In W := Ex.in_iff.2 ⟨i0, i0, n0, Nat.le_refl _, n0, fun _ => rfl, rowIn_nil, fun y hy => by cases hy⟩
theorem aX_in (W : World) : aX.In W := Ex.in_iff.2 ⟨i2, i0, n1, Nat.le_refl _, n0, fun _ => rfl, rowIn_nil, fun y hy => by cases hy⟩
theorem aNeg_in {W : World} {B : Nat} (h : Lay W B) : (aNeg B).In W :=
  Ex.in_iff.2 ⟨i5, i0, n0, Nat.le_refl _, (by show 1 * 56 ≤ 140737488351232; decide), (fun e => by cases e), rowIn_block (rows := [aX.cells]) h.l3 (.inl rfl) (lenE [aX]), fun y hy => by
    rcases List.mem_singleton.1 (show y ∈ [aX] from hy) with rfl
    exact aX_in W⟩
theorem have_nil (W : World) : Have W none 0 [] := ⟨⟨Nat.le_refl _, n0, fun _ => rfl, rowIn_nil⟩, fun y hy => by cases hy⟩
theorem aRet_in {W : World} {B : Nat} (h : Lay W B) : (aRet B).In W := St.in_iff.2 ⟨i9, n0, i0, aNeg_in h, zEx_in W, have_nil W, have_nil W, ⟨Nat.le_refl _, n0, fun _ => rfl, rowIn_nil⟩, fun y hy => by cases hy⟩
theorem aLet_in (W : World) : aLet.In W := St.in_iff.2 ⟨i1, n0, i1, zEx_in W, zEx_in W, have_nil W, have_nil W, ⟨Nat.le_refl _, n0, fun _ => rfl, rowIn_nil⟩, fun y hy => by cases hy⟩
theorem body_q {W : World} {B : Nat} (h : Lay W B) : Have W (some ⟨B + 1 + 1 + 1 + 1, 0, none⟩) 2 [aRet B] :=
  ⟨⟨by show 1 ≤ 2; decide, by decide, (fun e => by cases e), rowIn_block (rows := [(aRet B).cells]) h.l4 (.inr ⟨aLet.cells, rfl⟩) (lenS [aRet B])⟩, fun s hs => by rcases List.mem_singleton.1 hs with rfl; exact aRet_in h⟩
theorem body_p {W : World} {B : Nat} (h : Lay W B) : Have W (some ⟨B + 1 + 1 + 1 + 1, 0, none⟩) 2 [aRet B, aLet] :=
  ⟨⟨by show 2 ≤ 2; decide, by decide, (fun e => by cases e), rowIn_block (rows := [(aRet B).cells, aLet.cells]) h.l4 (.inl rfl) (lenS [aRet B, aLet])⟩, fun s hs => by
    rcases List.mem_cons.1 hs with rfl | hs
    · exact aRet_in h
    · rcases List.mem_singleton.1 hs with rfl; exact aLet_in W⟩
theorem aFn_in {W : World} {B : Nat} (h : Lay W B) {l : List St} (hl : Have W (some ⟨B + 1 + 1 + 1 + 1, 0, none⟩) 2 l) : (aFn B l).In W :=
  ⟨n1, Nat.le_refl _, (by show 1 * 32 ≤ 140737488351232; decide), (fun e => by cases e), rowIn_block (rows := [aPa.cells]) h.l2 (.inl rfl) (lenP [aPa]), (fun q hq => by rcases List.mem_singleton.1 (show q ∈ [aPa] from hq) with rfl; exact ⟨n1, i0, i10⟩), hl⟩
theorem aPr_in {W : World} {B g : Nat} (h : Lay W B) {l : List St} (hl : Have W (some ⟨B + 1 + 1 + 1 + 1, 0, none⟩) 2 l) (hg : W.heap[g]? = some (.cells #[.string ⟨#[102]⟩, .slice (some ⟨B + 1 + 1, 0, none⟩) 1 1, .slice (some ⟨B + 1 + 1 + 1 + 1, 0, none⟩) l.length 2] 36 (0, 0))) : (aPr B g l).In W :=
  ⟨Nat.le_refl _, (by show 2 * 8 ≤ 140737488351232; decide), (fun e => by cases e), rowIn_block (rows := [[.int .i64 (-5)], [.int .i64 0]]) h.l1 (.inl rfl) (lenI [-5, 0]), (fun z hz => by
    rcases List.mem_cons.1 (show z ∈ [(-5 : Int), 0] from hz) with rfl | hz
    · exact im5
    · rcases List.mem_singleton.1 hz with rfl; exact i0), Nat.le_refl _, (by show 1 * 64 ≤ 140737488351232; decide), (fun e => by cases e), rowIn_block (rows := [(aFn B l).cells]) hg (.inl rfl) (lenF [aFn B l]), (fun f hf => by
    rcases List.mem_singleton.1 (show f ∈ [aFn B l] from hf) with rfl; exact aFn_in h hl)⟩
/-- The first question's text, printed. -/
theorem awPrint (W : World) (B g : Nat) (h : Lay W B) (hg : W.heap[g]? = some (.cells #[.string ⟨#[102]⟩, .slice (some ⟨B + 1 + 1, 0, none⟩) 1 1, .slice (some ⟨B + 1 + 1 + 1 + 1, 0, none⟩) 1 2] 36 (0, 0))) (ht : Tabs W) (hnt : NumT W) :
    Calls Tryd.prog 11 #[(aPr B g [aRet B]).val] W fun e w' => e = .returned (.tuple #[sB awText, fltV 0 0 0]) ∧ Below W.heap.size W w' := by
  have := print_ok (aPr B g [aRet B]) W (aPr_in h (body_q h) hg) ht hnt (check_q B g) (by show 2 ≤ 16; decide) (fun f hf => by
    rcases List.mem_singleton.1 (show f ∈ [aFn B [aRet B]] from hf) with rfl
    refine ⟨fun s hs => ?_, fun q hq => ?_, by show 1 ≤ 8; decide⟩
    · rcases List.mem_singleton.1 (show s ∈ [aRet B] from hs) with rfl
      exact stmtD_le (stmt9 W (aRet B) rfl (aRet_in h) ht hnt (ok_neg B) (by show (aNeg B).sz ≤ _; rw [Ex.sz_args]; show szL [aX] + 1 ≤ _; decide)) (by decide)
    · rcases List.mem_singleton.1 (show q ∈ [aPa] from hq) with rfl
      decide +kernel) (by rw [text_q]; decide)
  rwa [text_q] at this
end Go.Proofs.YtbpemackmadhgabDoor
