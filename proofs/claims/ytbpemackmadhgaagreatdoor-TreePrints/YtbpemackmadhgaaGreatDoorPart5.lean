/- page.stmt at its other kinds: those of one line, and loops. -/
import Derived.Test.YtbpemackmadhgaaGreatDoorPart4
import Derived.Test.YtbpemackmadhgaaGreatDoorPart3
import Derived.Test.YtbpemackmadhgaaGreatDoorPart2
import Derived.Test.YtbpemackmadhgaaGreatDoorPart1
import Derived.Deep.CutBlock
import Derived.Lib.ItoaMem
import Derived.Lib.ItoaLen
import Derived.Deep.RegionHeld
namespace Go.Proofs.YtbpemackmadhgaaGreatDoor
open Go.RowKit Go.Sort

set_option maxRecDepth 100000 in
set_option maxHeartbeats 8000000 in
theorem stmt8 (w0 : World) (s : St) (hk : s.kind = 8)  : StmtPr w0 s := by
  intro b l d w hB hp hd hlen
  have HT : Hid (lineB d (cat [⟨#[98, 114, 101, 97, 107, 59]⟩]) = txS s d) := by
    show _ = _; cases s; simp only [St.kind] at hk; subst hk; simp [txS, cat]
  rw [← HT.out] at hlen ⊢
  have HLEN : Hid ((l ++ lineB d (cat [⟨#[98, 114, 101, 97, 107, 59]⟩])).length ≤ 140737488355328) := hlen
  have HP : Hid (PgT w0.heap.size b l d w) := hp
  have hsw := hB.size
  clear hp hlen HT
  unfold St.val
  rw [hk]
  have hb0 := (Below.refl _ w).alloc (Nat.le_refl _) (.cells #[.int .i64 8, .string s.name, .int .i64 s.n, .int .i64 s.a.kind, .int .i64 s.a.n, .string s.a.name, .slice s.a.a s.a.args.length s.a.cap, .int .i64 s.b.kind, .int .i64 s.b.n, .string s.b.name, .slice s.b.a s.b.args.length s.b.cap, .slice s.ba s.body.length s.bc, .slice s.ea s.els.length s.ec, .slice s.ca s.cases.length s.cc] 43)
  have hB0 : Below w0.heap.size w0 _ := hB.alloc hsw (.cells #[.int .i64 8, .string s.name, .int .i64 s.n, .int .i64 s.a.kind, .int .i64 s.a.n, .string s.a.name, .slice s.a.a s.a.args.length s.a.cap, .int .i64 s.b.kind, .int .i64 s.b.n, .string s.b.name, .slice s.b.a s.b.args.length s.b.cap, .slice s.ba s.body.length s.bc, .slice s.ea s.els.length s.ec, .slice s.ca s.cases.length s.cc] 43)
  obtain ⟨W0, hW0⟩ : ∃ W0, w.alloc (.cells #[.int .i64 8, .string s.name, .int .i64 s.n, .int .i64 s.a.kind, .int .i64 s.a.n, .string s.a.name, .slice s.a.a s.a.args.length s.a.cap, .int .i64 s.b.kind, .int .i64 s.b.n, .string s.b.name, .slice s.b.a s.b.args.length s.b.cap, .slice s.ba s.body.length s.bc, .slice s.ea s.els.length s.ec, .slice s.ca s.cases.length s.cc] 43) = W0 := ⟨_, rfl⟩
  have HW0 := show Hid _ from hW0
  have HSZ : Hid (w.heap.size + 1 = W0.heap.size) := by show _ = _; rw [← hW0]; simp
  rw [hW0] at hb0 hB0
  clear hW0
  go_enter Tryz.func62, Tryz.ntmps62
  go_wp2_with fail
  rw [HW0.out, HSZ.out]
  have hb2 := hb0
  refine (line_new w0.heap.size b l d [⟨#[98, 114, 101, 97, 107, 59]⟩] W0 (HP.out.stay hb2) (by have := hb2.size; omega) (Nat.le_of_ble_eq_true rfl) (by omega) HLEN.out).mono ?_
  rintro e w2 ⟨rfl, hp2, hb3, ho3⟩
  have HP2 : Hid (PgT w0.heap.size b (l ++ lineB d (cat [⟨#[98, 114, 101, 97, 107, 59]⟩])) d w2) := hp2
  clear hp2
  go_wp2_with fail
  go_end0
  exact ⟨rfl, HP2.out, ((hb2.mono hsw).alloc (by have := hb2.size; omega) _).trans hb3, ((oth_below hb2).alloc _).trans ho3⟩

set_option maxRecDepth 100000 in
set_option maxHeartbeats 8000000 in
theorem stmt10 (w0 : World) (s : St) (hk : s.kind = 10) (hin : s.In w0) (ht : Tabs w0) (hnt : NumT w0) (hoa : OkE s.a) (hza : s.a.sz ≤ 1000000) : StmtPr w0 s := by
  intro b l d w hB hp hd hlen
  have HT : Hid (lineB d (cat [⟨(txE s.a).toArray⟩, ⟨#[59]⟩]) = txS s d) := by
    show _ = _; cases s; simp only [St.kind] at hk; subst hk; simp [txS, cat, St.a]
  rw [← HT.out] at hlen ⊢
  have HLEN : Hid ((l ++ lineB d (cat [⟨(txE s.a).toArray⟩, ⟨#[59]⟩])).length ≤ 140737488355328) := hlen
  have HX : Hid (∀ w', Below w0.heap.size w0 w' → Calls Tryz.prog 88 #[.agg #[.int .i64 s.a.kind, .int .i64 s.a.n, .string s.a.name, .slice s.a.a s.a.args.length s.a.cap]] w' fun e w'' => e = .returned (sB (txE s.a)) ∧ Below w'.heap.size w' w'') := fun w' hb => expr_any s.a w' ((St.in_iff.1 hin).2.2.2.1.stay hb) (ht.stay hb) (hnt.stay hb) hoa hza
  have HP : Hid (PgT w0.heap.size b l d w) := hp
  have hsw := hB.size
  clear hin ht hnt hoa hp hlen HT
  unfold St.val
  rw [hk]
  have hb0 := (Below.refl _ w).alloc (Nat.le_refl _) (.cells #[.int .i64 10, .string s.name, .int .i64 s.n, .int .i64 s.a.kind, .int .i64 s.a.n, .string s.a.name, .slice s.a.a s.a.args.length s.a.cap, .int .i64 s.b.kind, .int .i64 s.b.n, .string s.b.name, .slice s.b.a s.b.args.length s.b.cap, .slice s.ba s.body.length s.bc, .slice s.ea s.els.length s.ec, .slice s.ca s.cases.length s.cc] 43)
  have hB0 : Below w0.heap.size w0 _ := hB.alloc hsw (.cells #[.int .i64 10, .string s.name, .int .i64 s.n, .int .i64 s.a.kind, .int .i64 s.a.n, .string s.a.name, .slice s.a.a s.a.args.length s.a.cap, .int .i64 s.b.kind, .int .i64 s.b.n, .string s.b.name, .slice s.b.a s.b.args.length s.b.cap, .slice s.ba s.body.length s.bc, .slice s.ea s.els.length s.ec, .slice s.ca s.cases.length s.cc] 43)
  go_enter Tryz.func62, Tryz.ntmps62
  go_wp2_with fail
  refine (HX.out _ hB0).mono ?_
  rintro e w1 ⟨rfl, hb1⟩
  have hb2 := Below.on hb0 hb1
  go_wp2_with fail
  refine (line_new w0.heap.size b l d [⟨(txE s.a).toArray⟩, ⟨#[59]⟩] w1 (HP.out.stay hb2) (by have := hb2.size; omega) (Nat.le_of_ble_eq_true rfl) (by omega) HLEN.out).mono ?_
  rintro e w2 ⟨rfl, hp2, hb3, ho3⟩
  have HP2 : Hid (PgT w0.heap.size b (l ++ lineB d (cat [⟨(txE s.a).toArray⟩, ⟨#[59]⟩])) d w2) := hp2
  clear hp2
  go_wp2_with fail
  go_end0
  exact ⟨rfl, HP2.out, ((hb2.mono hsw).alloc (by have := hb2.size; omega) _).trans hb3, ((oth_below hb2).alloc _).trans ho3⟩
end Go.Proofs.YtbpemackmadhgaaGreatDoor

/- What follows where nothing is wrong with a program: of its parts, and how many they are. -/
namespace Go.Proofs.YtbpemackmadhgaaGreatDoor
open Go.RowKit Go.Sort

theorem thenZ_ok {p : Int × Int} {f : Int → Int × Int} (h : (thenZ p f).1 = 0) : p.1 = 0 ∧ (f p.2).1 = 0 := by
  unfold thenZ at h
  split at h
  · exact absurd h (by assumption)
  · rename_i h0; exact ⟨by simpa using h0, h⟩
theorem chkT_ok {s : St} {lv at_ : Int} (h : (chkT s lv at_).1 = 0) : chkS s lv = 0 ∧ (∃ a, (chkSs s.body (lv + 1) a).1 = 0) ∧ (∃ a, (chkCs s.cases (lv + 1) a).1 = 0) ∧ ∃ a, (chkSs s.els (lv + 1) a).1 = 0 := by
  obtain ⟨k, nm, n, a, b, ba, bc, l, ea, ec, e, ca, cc, c⟩ := s
  rw [chkT] at h
  split at h
  · exact absurd h (by assumption)
  · rename_i h0
    obtain ⟨h1, h2⟩ := thenZ_ok h
    obtain ⟨h3, h4⟩ := thenZ_ok h2
    exact ⟨by simpa using h0, ⟨_, h1⟩, ⟨_, h3⟩, ⟨_, h4⟩⟩
theorem chkSs_ok : ∀ {l : List St} {lv at_ : Int}, (chkSs l lv at_).1 = 0 → ∀ x ∈ l, ∃ a, (chkT x lv a).1 = 0
  | [], _, _, _, x, hx => by cases hx
  | s :: r, lv, at_, h, x, hx => by
    rw [chkSs] at h
    obtain ⟨h1, h2⟩ := thenZ_ok h
    rcases List.mem_cons.1 hx with rfl | hx
    · exact ⟨_, h1⟩
    · exact chkSs_ok h2 x hx
theorem chkCs_ok : ∀ {l : List Ca} {lv at_ : Int}, (chkCs l lv at_).1 = 0 → ∀ c ∈ l, ∃ a, (chkSs c.body lv a).1 = 0
  | [], _, _, _, x, hx => by cases hx
  | c :: r, lv, at_, h, x, hx => by
    rw [chkCs] at h
    obtain ⟨h1, h2⟩ := thenZ_ok h
    rcases List.mem_cons.1 hx with rfl | hx
    · rw [chkCa_eq] at h1; exact ⟨_, h1⟩
    · exact chkCs_ok h2 x hx
/-- A statement that is right by itself. -/
theorem chkS_ok {s : St} {lv : Int} (h : chkS s lv = 0) : lv ≤ 32 ∧ 1 ≤ s.kind ∧ s.kind ≤ 10 ∧ ((bits .and .i64 (fldS s.kind.toNat) 1 != 0) = true → nameZ s.name = true) ∧
    ((bits .and .i64 (fldS s.kind.toNat) 4 != 0) = true → OkE s.a) ∧ ((bits .and .i64 (fldS s.kind.toNat) 8 != 0) = true → OkE s.b) := by
  unfold chkS at h
  split at h
  · omega
  split at h
  · rename_i _ h1; exact absurd h h1
  rename_i h0 h1
  have h1' : selfS s = 0 := by simpa using h1
  have hk : isS s.kind = true ∧ ((bits .and .i64 (fldS s.kind.toNat) 1 != 0) = true → nameZ s.name = true) := by
    unfold selfS at h1'
    split at h1'
    · omega
    rename_i hs
    split at h1'
    · omega
    split at h1'
    · omega
    rename_i hn
    refine ⟨by simpa using hs, fun hb => ?_⟩
    rw [hb] at hn
    simpa using hn
  simp only [isS, Bool.and_eq_true, decide_eq_true_eq] at hk
  refine ⟨by omega, hk.1.1, hk.1.2, hk.2, fun hb => ?_, fun hb => ?_⟩
  · split at h
    · rename_i h2; rw [hb] at h2; simp at h2; exact absurd h h2
    · rename_i h2; rw [hb] at h2; simp at h2; exact ⟨_, h2⟩
  · split at h
    · rename_i h2
      rw [Bool.and_eq_true] at h2
      simp at h2; exact absurd h h2.2
    · exact ⟨_, h⟩

def zE (x : Ex) : Nat := if zeroE x then 0 else x.sz
mutual
def St.V : St → Nat | .mk _ _ _ a b _ _ l _ _ e _ _ c => zE a + zE b + vSs l + vSs e + vCs c + c.length + 1
def vSs : List St → Nat | [] => 0 | x :: r => x.V + vSs r
def Ca.V : Ca → Nat | .mk _ _ _ l => vSs l
def vCs : List Ca → Nat | [] => 0 | c :: r => c.V + vCs r
end
theorem St.V_eq (s : St) : s.V = zE s.a + zE s.b + vSs s.body + vSs s.els + vCs s.cases + s.cases.length + 1 := by
  cases s; simp only [St.V, St.a, St.b, St.body, St.els, St.cases]
theorem Ca.V_eq (c : Ca) : c.V = vSs c.body := by cases c; simp only [Ca.V, Ca.body]
theorem vSs_mem {l : List St} {x : St} (h : x ∈ l) : x.V ≤ vSs l := by
  induction l with
  | nil => cases h
  | cons y r ih =>
    rw [vSs]
    rcases List.mem_cons.1 h with rfl | h
    · omega
    · have := ih h; omega
theorem vCs_mem {l : List Ca} {x : Ca} (h : x ∈ l) : x.V ≤ vCs l := by
  induction l with
  | nil => cases h
  | cons y r ih =>
    rw [vCs]
    rcases List.mem_cons.1 h with rfl | h
    · omega
    · have := ih h; omega
theorem cntE_V (k : Nat) : (∀ (x : Ex) (n : Int), x.sz ≤ k → cntE x n ≤ 4096 → n + x.sz ≤ cntE x n) ∧ (∀ (l : List Ex) (n : Int), szL l ≤ k → cntL l n ≤ 4096 → n + szL l ≤ cntL l n) := by
  induction k with
  | zero =>
    refine ⟨fun x n hk => by have := x.sz_args; omega, fun l n hk => ?_⟩
    cases l with
    | nil => simp [cntL, szL]
    | cons x r => rw [szL] at hk; have := x.sz_args; omega
  | succ k ih =>
    have h1 : ∀ (x : Ex) (n : Int), x.sz ≤ k + 1 → cntE x n ≤ 4096 → n + x.sz ≤ cntE x n := fun x n hk h => by
      rw [cntE_args] at h ⊢
      have := ih.2 x.args (n + 1) (by have := x.sz_args; omega) h
      have := x.sz_args
      omega
    refine ⟨h1, fun l => ?_⟩
    induction l with
    | nil => intro n _ _; simp [cntL, szL]
    | cons x r ihr =>
      intro n hk h
      rw [szL] at hk ⊢
      rw [cntL] at h ⊢
      split at h
      · omega
      · rename_i hn
        rw [if_neg hn]
        have a1 := cntL_ge r (cntE x n)
        have a2 := h1 x n (by omega) (by omega)
        have a3 := ihr (cntE x n) (by omega) h
        omega
theorem cntZ_V (x : Ex) (n : Int) : n ≤ cntZ x n ∧ (cntZ x n ≤ 4096 → n + zE x ≤ cntZ x n) := by
  refine ⟨cntZ_ge x n, fun h => ?_⟩
  unfold cntZ zE at *
  split at h
  · rename_i hz; simp [hz]
  · rename_i hz
    have := (cntE_V _).1 x n (Nat.le_refl _) h
    simp [hz]; omega
theorem cntS_V (k : Nat) : (∀ (s : St) (n : Int), s.sz ≤ k → n ≤ cntS s n ∧ (cntS s n ≤ 4096 → n + s.V ≤ cntS s n)) ∧ (∀ (l : List St) (n : Int), ssz l ≤ k → n ≤ cntSs l n ∧ (cntSs l n ≤ 4096 → n + vSs l ≤ cntSs l n)) := by
  have step : ∀ k, (∀ (s : St) (n : Int), s.sz ≤ k → n ≤ cntS s n ∧ (cntS s n ≤ 4096 → n + s.V ≤ cntS s n)) → ∀ (l : List St) (n : Int), ssz l ≤ k → n ≤ cntSs l n ∧ (cntSs l n ≤ 4096 → n + vSs l ≤ cntSs l n) := by
    intro k h1 l
    induction l with
    | nil => intro n _; simp only [cntSs, vSs]; omega
    | cons x r ihr =>
      intro n hk
      rw [ssz] at hk
      rw [vSs, cntSs]
      split
      · omega
      · have a1 := h1 x n (by omega)
        have a2 := ihr (cntS x n) (by omega)
        omega
  induction k with
  | zero =>
    have h0 : ∀ (s : St) (n : Int), s.sz ≤ 0 → n ≤ cntS s n ∧ (cntS s n ≤ 4096 → n + s.V ≤ cntS s n) := fun s n hk => by have := s.sz_eq; omega
    exact ⟨h0, step 0 h0⟩
  | succ k ih =>
    have h1 : ∀ (s : St) (n : Int), s.sz ≤ k + 1 → n ≤ cntS s n ∧ (cntS s n ≤ 4096 → n + s.V ≤ cntS s n) := by
      intro s n hk
      have hz := s.sz_eq
      have hc : ∀ (l : List Ca) (n : Int), csz l ≤ k → n ≤ cntCs l n ∧ (cntCs l n ≤ 4096 → n + vCs l ≤ cntCs l n) := by
        intro l
        induction l with
        | nil => intro n _; simp only [cntCs, vCs]; omega
        | cons c r ihr =>
          intro n hk
          rw [csz] at hk
          rw [cntCs, vCs, cntC_eq, c.V_eq]
          have a1 := ih.2 c.body n (by have := c.sz_eq; omega)
          have a2 := ihr (cntSs c.body n) (by omega)
          omega
      have e : cntS s n = cntSs s.els (cntCs s.cases (cntSs s.body (cntZ s.b (cntZ s.a (n + (1 + (s.cases.length : Int))))))) := by
        cases s; simp only [cntS, St.els, St.cases, St.body, St.a, St.b]
      rw [e, s.V_eq]
      have a1 := cntZ_V s.a (n + (1 + (s.cases.length : Int)))
      have a2 := cntZ_V s.b (cntZ s.a (n + (1 + (s.cases.length : Int))))
      have a3 := ih.2 s.body (cntZ s.b (cntZ s.a (n + (1 + (s.cases.length : Int))))) (by omega)
      have a4 := hc s.cases (cntSs s.body (cntZ s.b (cntZ s.a (n + (1 + (s.cases.length : Int)))))) (by omega)
      have a5 := ih.2 s.els (cntCs s.cases (cntSs s.body (cntZ s.b (cntZ s.a (n + (1 + (s.cases.length : Int))))))) (by omega)
      omega
    exact ⟨h1, step (k + 1) h1⟩
theorem cntF_V : ∀ (l : List Fu) (n : Int), n ≤ cntF l n ∧ (cntF l n ≤ 4096 → n + (l.map fun f => vSs f.body).sum ≤ cntF l n)
  | [], n => ⟨Int.le_refl _, fun _ => by simp [cntF]⟩
  | f :: r, n => by
    have a1 := (cntS_V _).2 f.body n (Nat.le_refl _)
    have a2 := cntF_V r (cntSs f.body n)
    rw [cntF, List.map_cons, List.sum_cons]
    omega
theorem whole_ok {p : Pr} (h : wholeZ p = 0) : p.widen.length ≤ 16 ∧ p.funcs.length ≤ 32 ∧ (p.funcs.map fun f => vSs f.body).sum ≤ 4096 := by
  have hn : p.widen.length ≤ 16 ∧ p.funcs.length ≤ 32 ∧ nodesZ p ≤ 4096 := by
    unfold wholeZ at h
    split at h
    · omega
    split at h
    · omega
    split at h
    · omega
    split at h
    · omega
    split at h
    · omega
    omega
  refine ⟨hn.1, hn.2.1, ?_⟩
  have h2 := hn.2.2
  unfold nodesZ at h2
  have := (cntF_V p.funcs 0).2 (by omega)
  omega
theorem sum_mem {l : List Fu} {f : Fu} (h : f ∈ l) : vSs f.body ≤ (l.map fun f => vSs f.body).sum := by
  induction l with
  | nil => cases h
  | cons y r ih =>
    rw [List.map_cons, List.sum_cons]
    rcases List.mem_cons.1 h with rfl | h
    · omega
    · have := ih h; omega
theorem okE_zE {x : Ex} (h : OkE x) : zE x = x.sz := by
  obtain ⟨kn, hk, h1, _⟩ := selfE_zero h.parts.1
  unfold zE
  rw [if_neg]
  intro hz
  simp only [zeroE, Bool.and_eq_true, beq_iff_eq] at hz
  omega
end Go.Proofs.YtbpemackmadhgaaGreatDoor

/- How long the text of a right program is at most. -/
namespace Go.Proofs.YtbpemackmadhgaaGreatDoor
open Go.RowKit Go.Sort

theorem lineB_len (d : Nat) (t : List UInt8) : (lineB d t).length = 2 * d + t.length + 1 := by simp [lineB]; omega
theorem txS_eq (s : St) (d : Nat) : txS s d =
    if s.kind = 1 then lineB d ([108, 101, 116, 32] ++ s.name.data.toList ++ [32, 61, 32] ++ txE s.a ++ [59])
    else if s.kind = 2 then lineB d ([108, 101, 116, 32] ++ s.name.data.toList ++ [91] ++ Lib.itoa s.n ++ [93, 59])
    else if s.kind = 3 then lineB d (s.name.data.toList ++ [32, 61, 32] ++ txE s.a ++ [59])
    else if s.kind = 4 then lineB d (s.name.data.toList ++ [91] ++ txE s.a ++ [93, 32, 61, 32] ++ txE s.b ++ [59])
    else if s.kind = 5 then lineB d ([105, 102, 32] ++ txE s.a ++ [32, 123]) ++ txSs s.body (d + 1) ++ (if s.els.length = 0 then [] else lineB d [125, 32, 101, 108, 115, 101, 32, 123] ++ txSs s.els (d + 1)) ++ lineB d [125]
    else if s.kind = 6 then lineB d ([115, 119, 105, 116, 99, 104, 32] ++ txE s.a ++ [32, 123]) ++ txCs s.cases (d + 1) ++ (if s.els.length = 0 then [] else lineB (d + 1) [101, 108, 115, 101, 32, 123] ++ txSs s.els (d + 2) ++ lineB (d + 1) [125]) ++ lineB d [125]
    else if s.kind = 7 then lineB d ([102, 111, 114, 32] ++ s.name.data.toList ++ [32, 105, 110, 32] ++ txE s.a ++ [46, 46] ++ txE s.b ++ [32, 123]) ++ txSs s.body (d + 1) ++ lineB d [125]
    else if s.kind = 8 then lineB d [98, 114, 101, 97, 107, 59]
    else if s.kind = 9 then lineB d ([114, 101, 116, 117, 114, 110, 32] ++ txE s.a ++ [59])
    else lineB d (txE s.a ++ [59]) := by
  cases s; rw [txS]; rfl
theorem txC_eq' (c : Ca) (d : Nat) : txC c d = lineB d ([99, 97, 115, 101, 32] ++ Lib.itoa c.n ++ [32, 123]) ++ txSs c.body (d + 1) ++ lineB d [125] := by
  cases c; simp only [txC, Ca.n, Ca.body]
theorem nm_len {s : ByteArray} (h : nameZ s = true) : s.data.toList.length ≤ 16 := by
  have := nameZ_len h
  rw [Array.length_toList]
  exact this

theorem txS_len {w : World} (k : Nat) : (∀ (s : St) (lv : Nat) (at_ : Int) (d : Nat), s.sz ≤ k → s.In w → (chkT s lv at_).1 = 0 → d ≤ 2 * lv + 20 → (txS s d).length ≤ 1000 * s.V) ∧
    (∀ (l : List St) (lv : Nat) (at_ : Int) (d : Nat), ssz l ≤ k → (∀ x ∈ l, x.In w) → (chkSs l lv at_).1 = 0 → d ≤ 2 * lv + 20 → (txSs l d).length ≤ 1000 * vSs l) := by
  have step : ∀ k, (∀ (s : St) (lv : Nat) (at_ : Int) (d : Nat), s.sz ≤ k → s.In w → (chkT s lv at_).1 = 0 → d ≤ 2 * lv + 20 → (txS s d).length ≤ 1000 * s.V) →
      ∀ (l : List St) (lv : Nat) (at_ : Int) (d : Nat), ssz l ≤ k → (∀ x ∈ l, x.In w) → (chkSs l lv at_).1 = 0 → d ≤ 2 * lv + 20 → (txSs l d).length ≤ 1000 * vSs l := by
    intro k h1 l
    induction l with
    | nil => intro lv at_ d _ _ _ _; simp [txSs]
    | cons x r ihr =>
      intro lv at_ d hk hin hc hd
      rw [ssz] at hk
      rw [chkSs] at hc
      obtain ⟨c1, c2⟩ := thenZ_ok hc
      have a1 := h1 x lv _ d (by omega) (hin x (by simp)) c1 hd
      have a2 := ihr lv _ d (by omega) (fun y hy => hin y (by simp [hy])) c2 hd
      rw [txSs, vSs, List.length_append]; omega
  induction k with
  | zero =>
    have h0 : ∀ (s : St) (lv : Nat) (at_ : Int) (d : Nat), s.sz ≤ 0 → s.In w → (chkT s lv at_).1 = 0 → d ≤ 2 * lv + 20 → (txS s d).length ≤ 1000 * s.V := fun s _ _ _ hk => by have := s.sz_eq; omega
    exact ⟨h0, step 0 h0⟩
  | succ k ih =>
    have h1 : ∀ (s : St) (lv : Nat) (at_ : Int) (d : Nat), s.sz ≤ k + 1 → s.In w → (chkT s lv at_).1 = 0 → d ≤ 2 * lv + 20 → (txS s d).length ≤ 1000 * s.V := by
      intro s lv at_ d hk hin hc hd
      obtain ⟨cs, ⟨ab, cb⟩, ⟨ac, cc⟩, ⟨ae, ce⟩⟩ := chkT_ok hc
      obtain ⟨hlv, hk1, hk2, hnm, hoa, hob⟩ := chkS_ok cs
      have hz := s.sz_eq
      have hi := St.in_iff.1 hin
      have hd2 : d ≤ 84 := by omega
      have lb : (txSs s.body (d + 1)).length ≤ 1000 * vSs s.body := ih.2 s.body (lv + 1) ab (d + 1) (by omega) hi.2.2.2.2.2.1.2 (by exact_mod_cast cb) (by omega)
      have le1 : (txSs s.els (d + 1)).length ≤ 1000 * vSs s.els := ih.2 s.els (lv + 1) ae (d + 1) (by omega) hi.2.2.2.2.2.2.1.2 (by exact_mod_cast ce) (by omega)
      have le2 : (txSs s.els (d + 2)).length ≤ 1000 * vSs s.els := ih.2 s.els (lv + 1) ae (d + 2) (by omega) hi.2.2.2.2.2.2.1.2 (by exact_mod_cast ce) (by omega)
      have lc : (txCs s.cases (d + 1)).length ≤ 1000 * (vCs s.cases + s.cases.length) := by
        have gen : ∀ (l : List Ca) (a : Int), csz l ≤ k → (∀ x ∈ l, x.In w) → (chkCs l ((lv + 1 : Nat) : Int) a).1 = 0 → (txCs l (d + 1)).length ≤ 1000 * (vCs l + l.length) := by
          intro l
          induction l with
          | nil => intro a _ _ _; simp [txCs]
          | cons c r ihr =>
            intro a hk hin hc
            rw [csz] at hk
            rw [chkCs] at hc
            obtain ⟨c1, c2⟩ := thenZ_ok hc
            rw [chkCa_eq] at c1
            have hci := Ca.in_iff.1 (hin c (by simp))
            have a1 := ih.2 c.body (lv + 1) a (d + 1 + 1) (by have := c.sz_eq; omega) hci.2.2 c1 (by omega)
            have a2 := ihr _ (by omega) (fun y hy => hin y (by simp [hy])) c2
            have a3 := Lib.itoa_length_le c.n hci.1.1 hci.1.2
            rw [txCs, vCs, c.V_eq, txC_eq']
            simp only [List.length_append, lineB_len, List.length_cons, List.length_nil]
            omega
        exact gen s.cases ac (by omega) hi.2.2.2.2.2.2.2.2 (by exact_mod_cast cc)
      have la : OkE s.a → (txE s.a).length + 4 ≤ 32 * zE s.a := fun h => by rw [okE_zE h]; exact txE_len _ s.a (Nat.le_refl _) hi.2.2.2.1 h
      have lbb : OkE s.b → (txE s.b).length + 4 ≤ 32 * zE s.b := fun h => by rw [okE_zE h]; exact txE_len _ s.b (Nat.le_refl _) hi.2.2.2.2.1 h
      have ln := Lib.itoa_length_le s.n hi.2.2.1.1 hi.2.2.1.2
      rw [s.V_eq, txS_eq]
      have hcase : s.kind = 1 ∨ s.kind = 2 ∨ s.kind = 3 ∨ s.kind = 4 ∨ s.kind = 5 ∨ s.kind = 6 ∨ s.kind = 7 ∨ s.kind = 8 ∨ s.kind = 9 ∨ s.kind = 10 := by omega
      rcases hcase with h | h | h | h | h | h | h | h | h | h <;> rw [h] at hnm hoa hob ⊢
      · have := la (hoa rfl)
        have := nm_len (hnm rfl)
        rw [if_pos rfl]
        simp only [List.length_append, lineB_len, List.length_cons, List.length_nil]; omega
      · have := nm_len (hnm rfl)
        rw [if_neg (show ¬ (2 : Int) = 1 by decide), if_pos rfl]
        simp only [List.length_append, lineB_len, List.length_cons, List.length_nil]; omega
      · have := la (hoa rfl)
        have := nm_len (hnm rfl)
        rw [if_neg (show ¬ (3 : Int) = 1 by decide), if_neg (show ¬ (3 : Int) = 2 by decide), if_pos rfl]
        simp only [List.length_append, lineB_len, List.length_cons, List.length_nil]; omega
      · have := la (hoa rfl)
        have := lbb (hob rfl)
        have := nm_len (hnm rfl)
        rw [if_neg (show ¬ (4 : Int) = 1 by decide), if_neg (show ¬ (4 : Int) = 2 by decide), if_neg (show ¬ (4 : Int) = 3 by decide), if_pos rfl]
        simp only [List.length_append, lineB_len, List.length_cons, List.length_nil]; omega
      · have := la (hoa rfl)
        rw [if_neg (show ¬ (5 : Int) = 1 by decide), if_neg (show ¬ (5 : Int) = 2 by decide), if_neg (show ¬ (5 : Int) = 3 by decide), if_neg (show ¬ (5 : Int) = 4 by decide), if_pos rfl]
        by_cases h0 : s.els.length = 0
        · rw [if_pos h0]; simp only [List.length_append, lineB_len, List.length_cons, List.length_nil]; omega
        · rw [if_neg h0]; simp only [List.length_append, lineB_len, List.length_cons, List.length_nil]; omega
      · have := la (hoa rfl)
        rw [if_neg (show ¬ (6 : Int) = 1 by decide), if_neg (show ¬ (6 : Int) = 2 by decide), if_neg (show ¬ (6 : Int) = 3 by decide), if_neg (show ¬ (6 : Int) = 4 by decide), if_neg (show ¬ (6 : Int) = 5 by decide), if_pos rfl]
        by_cases h0 : s.els.length = 0
        · rw [if_pos h0]; simp only [List.length_append, lineB_len, List.length_cons, List.length_nil]; omega
        · rw [if_neg h0]; simp only [List.length_append, lineB_len, List.length_cons, List.length_nil]; omega
      · have := la (hoa rfl)
        have := lbb (hob rfl)
        have := nm_len (hnm rfl)
        rw [if_neg (show ¬ (7 : Int) = 1 by decide), if_neg (show ¬ (7 : Int) = 2 by decide), if_neg (show ¬ (7 : Int) = 3 by decide), if_neg (show ¬ (7 : Int) = 4 by decide), if_neg (show ¬ (7 : Int) = 5 by decide), if_neg (show ¬ (7 : Int) = 6 by decide), if_pos rfl]
        simp only [List.length_append, lineB_len, List.length_cons, List.length_nil]; omega
      · rw [if_neg (show ¬ (8 : Int) = 1 by decide), if_neg (show ¬ (8 : Int) = 2 by decide), if_neg (show ¬ (8 : Int) = 3 by decide), if_neg (show ¬ (8 : Int) = 4 by decide), if_neg (show ¬ (8 : Int) = 5 by decide), if_neg (show ¬ (8 : Int) = 6 by decide), if_neg (show ¬ (8 : Int) = 7 by decide), if_pos rfl]
        simp only [lineB_len, List.length_cons, List.length_nil]; omega
      · have := la (hoa rfl)
        rw [if_neg (show ¬ (9 : Int) = 1 by decide), if_neg (show ¬ (9 : Int) = 2 by decide), if_neg (show ¬ (9 : Int) = 3 by decide), if_neg (show ¬ (9 : Int) = 4 by decide), if_neg (show ¬ (9 : Int) = 5 by decide), if_neg (show ¬ (9 : Int) = 6 by decide), if_neg (show ¬ (9 : Int) = 7 by decide), if_neg (show ¬ (9 : Int) = 8 by decide), if_pos rfl]
        simp only [List.length_append, lineB_len, List.length_cons, List.length_nil]; omega
      · have := la (hoa rfl)
        rw [if_neg (show ¬ (10 : Int) = 1 by decide), if_neg (show ¬ (10 : Int) = 2 by decide), if_neg (show ¬ (10 : Int) = 3 by decide), if_neg (show ¬ (10 : Int) = 4 by decide), if_neg (show ¬ (10 : Int) = 5 by decide), if_neg (show ¬ (10 : Int) = 6 by decide), if_neg (show ¬ (10 : Int) = 7 by decide), if_neg (show ¬ (10 : Int) = 8 by decide), if_neg (show ¬ (10 : Int) = 9 by decide)]
        simp only [List.length_append, lineB_len, List.length_cons, List.length_nil]; omega
    exact ⟨h1, step (k + 1) h1⟩
end Go.Proofs.YtbpemackmadhgaaGreatDoor

/- tree.Print, where nothing is wrong with the form. -/
namespace Go.Proofs.YtbpemackmadhgaaGreatDoor
open Go.RowKit Go.Sort

theorem heap3 {w w1 : World} {c1 c2 : Array Value} {t1 t2 : TypeId} (hb : Below ((w.alloc (.cells c1 t1)).alloc (.cells c2 t2)).heap.size ((w.alloc (.cells c1 t1)).alloc (.cells c2 t2)) w1) :
    w1.heap[w.heap.size]? = some (.cells c1 t1 (0, 0)) ∧ w1.heap[w.heap.size + 1]? = some (.cells c2 t2 (0, 0)) := by
  have h1 : ((w.alloc (.cells c1 t1)).alloc (.cells c2 t2)).heap[w.heap.size]? = some (.cells c1 t1 (0, 0)) := (Lib.alloc_old _ _ _ (by simp)).trans (heap_alloc_new w _)
  have h2 : ((w.alloc (.cells c1 t1)).alloc (.cells c2 t2)).heap[w.heap.size + 1]? = some (.cells c2 t2 (0, 0)) := by
    have := heap_alloc_new (w.alloc (.cells c1 t1)) (.cells c2 t2)
    rwa [World.size_alloc] at this
  exact ⟨(hb.block _ (by simp; omega)).trans h1, (hb.block _ (by simp)).trans h2⟩

set_option maxHeartbeats 2000000 in
set_option maxRecDepth 100000 in
theorem string_oth (B b : Nat) (l : List UInt8) (d : Int) (w : World) (h : Pg B b (Lib.byteCells l) d w) :
    Calls Tryz.prog 19 #[.pointer (some ⟨b, 0, none⟩)] w fun e w' => e = .returned (.string ⟨l.toArray⟩) ∧ Below B w w' ∧ Oth b w w' := by
  obtain ⟨p, h1⟩ := h.some
  clear h
  obtain ⟨hB, v, hbk, hown, hne, hnil⟩ := h1
  rw [Lib.byteCells_length] at hown
  by_cases h0 : l = []
  · subst h0
    obtain rfl := hnil rfl
    have c1 : w.drew.cell? ⟨b, 1, none⟩ = some (.slice none 0 0) := by
      have : w.drew.heap[b]? = some (.cells #[p, .slice none 0 0, .int .i64 d] 61 (0, 0)) := hbk
      rw [Lib.cell_of_heap this]; rfl
    have hSD : (Builtin.unsafeSliceData_ #[57] 86 #[.slice none 0 0]).run Tryz.prog w.drew = .ok (.pointer none) w.drew := rfl
    have hUS : (Builtin.unsafeString_ #[86, 3] 9 #[.pointer none, .int .i64 0]).run Tryz.prog w.drew = .ok (.string .empty) w.drew := rfl
    clear hown hbk hne hnil
    go_enter Tryz.func19, Tryz.ntmps19
    go_wp2
    go_region
    all_goals (go_wp2; go_ret; exact ⟨rfl, Below.drew (Below.refl B w), (Lib.OthersKept.refl _ _ w).drew⟩)
  · have hl0 : l.length ≠ 0 := by simpa using h0
    obtain ⟨g, cap, cur, rfl, hbg, hg, hnc, hcm, hcs, htake⟩ : ∃ g cap cur, v = .slice (some ⟨g, 0, none⟩) l.length cap ∧ B ≤ g ∧ w.heap[g]? = some (.cells cur 5 (0, 0)) ∧ l.length ≤ cap ∧ cap ≤ maxLen ∧ cur.size = cap * 1 ∧ cur.toList.take (l.length * 1) = Lib.byteCells l := by
      rcases hown.2 with ⟨_, hz⟩ | ⟨g, cap, cur, hv, r⟩
      · exact absurd hz hl0
      · exact ⟨g, cap, cur, hv, r⟩
    have c1 : w.drew.cell? ⟨b, 1, none⟩ = some (.slice (some ⟨g, 0, none⟩) l.length cap) := by
      have : w.drew.heap[b]? = some (.cells #[p, .slice (some ⟨g, 0, none⟩) l.length cap, .int .i64 d] 61 (0, 0)) := hbk
      rw [Lib.cell_of_heap this]; rfl
    have hSD : (Builtin.unsafeSliceData_ #[57] 86 #[.slice (some ⟨g, 0, none⟩) l.length cap]).run Tryz.prog w.drew = .ok (.pointer (some ⟨g, 0, none⟩)) w.drew :=
      Lib.run_unsafeSliceData_row _ _ _ _ _ _ (by omega)
    have hUS : (Builtin.unsafeString_ #[86, 3] 9 #[.pointer (some ⟨g, 0, none⟩), .int .i64 l.length]).run Tryz.prog w.drew = .ok (.string ⟨l.toArray⟩) (w.drew.freeze ⟨g, 0, none⟩ l.length) := by
      refine Lib.run_unsafeString_row w.drew 86 3 9 5 Tryz.underlying86 Tryz.cellsByte g cur.size (by have hg' : w.drew.heap[g]? = some (.cells cur 5 (0, 0)) := hg; simp [World.shape?, hg']) l h0 (by omega) (by unfold maxLen at hcm; omega) ?_
      intro j x hx
      exact hown.cells (g := g) rfl j (.int .u8 x.toNat) (by simp [Lib.byteCells, hx])
    have HG : Hid (w.heap[g]? = some (.cells cur 5 (0, 0))) := hg
    clear hown hbk hne hnil hg htake
    go_enter Tryz.func19, Tryz.ntmps19
    go_wp2
    go_region
    all_goals (go_wp2; go_ret; exact ⟨rfl, Lib.below_freeze (Below.drew (Below.refl B w)) (p := ⟨g, 0, none⟩) hbg _, Lib.OthersKept.freeze ((Lib.OthersKept.refl _ _ w).drew) ⟨g, 0, none⟩ _ ⟨_, _, HG.out⟩⟩)
set_option maxRecDepth 100000 in
set_option maxHeartbeats 8000000 in
theorem print_ok (p : Pr) (w : World) (hin : p.In w) (ht : Tabs w) (hnt : NumT w) (hck : checkZ p = (0, 0, 0)) (hw16 : p.widen.length ≤ 16) (hf : ∀ f ∈ p.funcs, FnPr w f) (hlen : (txP p).length ≤ 65536) :
    Calls Tryz.prog 8 #[p.val] w fun e w' => e = .returned (.tuple #[sB (txP p), fltV 0 0 0]) ∧ Below w.heap.size w w' := by
  have HC : Hid (∀ w', Below w.heap.size w w' → Calls Tryz.prog 6 #[p.val] w' fun e w'' => e = .returned (fltV 0 0 0) ∧ Below w'.heap.size w' w'') := fun w' hb => by
    have := check_any p w' (hin.stay hb) (ht.stay hb)
    rw [hck] at this; exact this
  have HP : Hid (∀ b w', Below w.heap.size w w' → PgT w.heap.size b [] 0 w' → Calls Tryz.prog 17 #[.pointer (some ⟨b, 0, none⟩), p.val] w' fun e w'' => e = .returned (.tuple #[]) ∧ PgT w.heap.size b (txP p) 0 w'' ∧ Below w.heap.size w' w'' ∧ Oth b w' w'') := fun b w' hb hp => program_any w b w' p hb hp hin hnt hw16 hf (by omega)
  clear hin ht hnt hck hf
  unfold Pr.val at HC HP ⊢
  have hb1 := ((Below.refl _ w).alloc (Nat.le_refl _) (.cells #[.slice p.wa p.widen.length p.wc, .slice p.fa p.funcs.length p.fc] 25)).alloc (by simp) (.cells #[.int .i64 0, .int .i64 0, .int .i64 0] 29)
  go_enter Tryz.func8, Tryz.ntmps8
  go_wp2_with fail
  refine (HC.out _ hb1).mono ?_
  rintro e w1 ⟨rfl, hbc⟩
  obtain ⟨k1, k2⟩ := heap3 hbc
  have hb2 := Below.on hb1 hbc
  have hs1 : w.heap.size + 1 + 1 ≤ w1.heap.size := by have := hbc.size; simp at this; omega
  have c0 : w1.cell? ⟨w.heap.size, 0, none⟩ = some (.slice p.wa p.widen.length p.wc) := by rw [Lib.cell_of_heap k1]; rfl
  have c1 : w1.cell? ⟨w.heap.size, 1, none⟩ = some (.slice p.fa p.funcs.length p.fc) := by rw [Lib.cell_of_heap k1]; rfl
  have K2 : Hid (w1.heap[w.heap.size + 1]? = some (.cells #[.int .i64 0, .int .i64 0, .int .i64 0] 29 (0, 0))) := k2
  have hlt0 : w.heap.size < w1.heap.size := by omega
  have hlt1 : w.heap.size + 1 < w1.heap.size := by omega
  clear k1 k2 hbc hb1
  go_wp2_with fail
  have hbx := ((Below.refl _ w1).alloc (Nat.le_refl _) (.cells #[.int .i64 0, .int .i64 0, .int .i64 0] 29)).alloc (by simp) (.cells #[.pointer none, .slice none 0 0, .int .i64 0] 61)
  have hbn : ((w1.alloc (.cells #[.int .i64 0, .int .i64 0, .int .i64 0] 29)).alloc (.cells #[.pointer none, .slice none 0 0, .int .i64 0] 61)).heap[w1.heap.size + 1]? = some (.cells #[.pointer none, .slice none 0 0, .int .i64 0] 61 (0, 0)) := by
    have := heap_alloc_new (w1.alloc (.cells #[.int .i64 0, .int .i64 0, .int .i64 0] 29)) (.cells #[.pointer none, .slice none 0 0, .int .i64 0] 61)
    rwa [World.size_alloc] at this
  have hpg : PgT w.heap.size (w1.heap.size + 1) [] 0 ((w1.alloc (.cells #[.int .i64 0, .int .i64 0, .int .i64 0] 29)).alloc (.cells #[.pointer none, .slice none 0 0, .int .i64 0] 61)) :=
    .inl ⟨by omega, .slice none 0 0, hbn, World.ownsRow_nil _ _ _ _, by simp [Value.ownBlock], fun _ => rfl⟩
  have K3 : Hid (((w1.alloc (.cells #[.int .i64 0, .int .i64 0, .int .i64 0] 29)).alloc (.cells #[.pointer none, .slice none 0 0, .int .i64 0] 61)).heap[w.heap.size + 1]? = some (.cells #[.int .i64 0, .int .i64 0, .int .i64 0] 29 (0, 0))) := (hbx.block _ hlt1).trans K2.out
  have hbb := Below.on hb2 hbx
  refine (HP.out _ _ hbb hpg).mono ?_
  rintro e w2 ⟨rfl, hp2, hb3, ho3⟩
  have HP2 : Hid (PgT w.heap.size (w1.heap.size + 1) (txP p) 0 w2) := hp2
  have K4 : w2.heap[w.heap.size + 1]? = some (.cells #[.int .i64 0, .int .i64 0, .int .i64 0] 29 (0, 0)) := ho3 _ _ K3.out (by simp; omega) (fun c fz e => by cases e)
  have hb4 : Below w.heap.size w w2 := hbb.trans hb3
  clear hp2 hb3 ho3 hbn hpg hbx hbb c0 c1 K3 K2 hb2
  go_wp2_with fail
  refine (len_any _ _ _ _ _ HP2.out).mono ?_
  rintro e w3 ⟨rfl, rfl⟩
  have HL : Hid (((Lib.byteCells (txP p)).length : Int) ≤ 65536) := by show _ ≤ _; rw [Lib.byteCells_length]; omega
  have hll := HL.out
  generalize ((Lib.byteCells (txP p)).length : Int) = ln at hll ⊢
  have hll2 : ¬ 65536 < ln := by omega
  go_wp2_with fail
  refine (string_oth _ _ (txP p) _ _ HP2.out).mono ?_
  rintro e w4 ⟨rfl, hb5, ho5⟩
  have K5 : w4.heap[w.heap.size + 1]? = some (.cells #[.int .i64 0, .int .i64 0, .int .i64 0] 29 (0, 0)) := ho5 _ _ K4 (by simp; omega) (fun c fz e => by cases e)
  have r0 : w4.cell? ⟨w.heap.size + 1, 0, none⟩ = some (.int .i64 0) := by rw [Lib.cell_of_heap K5]; rfl
  have r1 : w4.cell? ⟨w.heap.size + 1, 1, none⟩ = some (.int .i64 0) := by rw [Lib.cell_of_heap K5]; rfl
  have r2 : w4.cell? ⟨w.heap.size + 1, 2, none⟩ = some (.int .i64 0) := by rw [Lib.cell_of_heap K5]; rfl
  have q0 : w4.frozen? ⟨w.heap.size + 1, 0, none⟩ = false := Lib.frozen_of_heap K5 0
  have q1 : w4.frozen? ⟨w.heap.size + 1, 1, none⟩ = false := Lib.frozen_of_heap K5 1
  have q2 : w4.frozen? ⟨w.heap.size + 1, 2, none⟩ = false := Lib.frozen_of_heap K5 2
  have hb6 := hb4.trans hb5
  clear K4 K5 ho5 hb5 hb4
  go_wp2_with fail
  refine bodyPost_ret (v := .tuple #[sB (txP p), fltV 0 0 0]) (by simp [results, Tryz.results8, go_sem, r0, r1, r2]) rfl ⟨rfl, below_set3 hb6 (by omega) _ _ _⟩
end Go.Proofs.YtbpemackmadhgaaGreatDoor

/- tree.Print where the text is too long, and where Check finds something wrong. -/
namespace Go.Proofs.YtbpemackmadhgaaGreatDoor
open Go.RowKit Go.Sort

set_option maxRecDepth 100000 in
set_option maxHeartbeats 8000000 in
theorem print_long (p : Pr) (w : World) (hin : p.In w) (ht : Tabs w) (hnt : NumT w) (hck : checkZ p = (0, 0, 0)) (hw16 : p.widen.length ≤ 16) (hf : ∀ f ∈ p.funcs, FnPr w f) (hlen : 65536 < (txP p).length) (hlen2 : (txP p).length ≤ 140737488355328) :
    Calls Tryz.prog 8 #[p.val] w fun e w' => e = .returned (.tuple #[sB [], fltV 4 0 0]) ∧ Below w.heap.size w w' := by
  have HC : Hid (∀ w', Below w.heap.size w w' → Calls Tryz.prog 6 #[p.val] w' fun e w'' => e = .returned (fltV 0 0 0) ∧ Below w'.heap.size w' w'') := fun w' hb => by
    have := check_any p w' (hin.stay hb) (ht.stay hb)
    rw [hck] at this; exact this
  have HP : Hid (∀ b w', Below w.heap.size w w' → PgT w.heap.size b [] 0 w' → Calls Tryz.prog 17 #[.pointer (some ⟨b, 0, none⟩), p.val] w' fun e w'' => e = .returned (.tuple #[]) ∧ PgT w.heap.size b (txP p) 0 w'' ∧ Below w.heap.size w' w'' ∧ Oth b w' w'') := fun b w' hb hp => program_any w b w' p hb hp hin hnt hw16 hf hlen2
  clear hin ht hnt hck hf
  unfold Pr.val at HC HP ⊢
  have hb1 := ((Below.refl _ w).alloc (Nat.le_refl _) (.cells #[.slice p.wa p.widen.length p.wc, .slice p.fa p.funcs.length p.fc] 25)).alloc (by simp) (.cells #[.int .i64 0, .int .i64 0, .int .i64 0] 29)
  go_enter Tryz.func8, Tryz.ntmps8
  go_wp2_with fail
  refine (HC.out _ hb1).mono ?_
  rintro e w1 ⟨rfl, hbc⟩
  obtain ⟨k1, k2⟩ := heap3 hbc
  have hb2 := Below.on hb1 hbc
  have hs1 : w.heap.size + 1 + 1 ≤ w1.heap.size := by have := hbc.size; simp at this; omega
  have c0 : w1.cell? ⟨w.heap.size, 0, none⟩ = some (.slice p.wa p.widen.length p.wc) := by rw [Lib.cell_of_heap k1]; rfl
  have c1 : w1.cell? ⟨w.heap.size, 1, none⟩ = some (.slice p.fa p.funcs.length p.fc) := by rw [Lib.cell_of_heap k1]; rfl
  have K2 : Hid (w1.heap[w.heap.size + 1]? = some (.cells #[.int .i64 0, .int .i64 0, .int .i64 0] 29 (0, 0))) := k2
  have hlt0 : w.heap.size < w1.heap.size := by omega
  have hlt1 : w.heap.size + 1 < w1.heap.size := by omega
  clear k1 k2 hbc hb1
  go_wp2_with fail
  have hbx := ((Below.refl _ w1).alloc (Nat.le_refl _) (.cells #[.int .i64 0, .int .i64 0, .int .i64 0] 29)).alloc (by simp) (.cells #[.pointer none, .slice none 0 0, .int .i64 0] 61)
  have hbn : ((w1.alloc (.cells #[.int .i64 0, .int .i64 0, .int .i64 0] 29)).alloc (.cells #[.pointer none, .slice none 0 0, .int .i64 0] 61)).heap[w1.heap.size + 1]? = some (.cells #[.pointer none, .slice none 0 0, .int .i64 0] 61 (0, 0)) := by
    have := heap_alloc_new (w1.alloc (.cells #[.int .i64 0, .int .i64 0, .int .i64 0] 29)) (.cells #[.pointer none, .slice none 0 0, .int .i64 0] 61)
    rwa [World.size_alloc] at this
  have hpg : PgT w.heap.size (w1.heap.size + 1) [] 0 ((w1.alloc (.cells #[.int .i64 0, .int .i64 0, .int .i64 0] 29)).alloc (.cells #[.pointer none, .slice none 0 0, .int .i64 0] 61)) :=
    .inl ⟨by omega, .slice none 0 0, hbn, World.ownsRow_nil _ _ _ _, by simp [Value.ownBlock], fun _ => rfl⟩
  have K3 : Hid (((w1.alloc (.cells #[.int .i64 0, .int .i64 0, .int .i64 0] 29)).alloc (.cells #[.pointer none, .slice none 0 0, .int .i64 0] 61)).heap[w.heap.size + 1]? = some (.cells #[.int .i64 0, .int .i64 0, .int .i64 0] 29 (0, 0))) := (hbx.block _ hlt1).trans K2.out
  have hbb := Below.on hb2 hbx
  refine (HP.out _ _ hbb hpg).mono ?_
  rintro e w2 ⟨rfl, hp2, hb3, ho3⟩
  have HP2 : Hid (PgT w.heap.size (w1.heap.size + 1) (txP p) 0 w2) := hp2
  have K4 : w2.heap[w.heap.size + 1]? = some (.cells #[.int .i64 0, .int .i64 0, .int .i64 0] 29 (0, 0)) := ho3 _ _ K3.out (by simp; omega) (fun c fz e => by cases e)
  have hb4 : Below w.heap.size w w2 := hbb.trans hb3
  clear hp2 hb3 ho3 hbn hpg hbx hbb c0 c1 K3 K2 hb2
  go_wp2_with fail
  refine (len_any _ _ _ _ _ HP2.out).mono ?_
  rintro e w3 ⟨rfl, rfl⟩
  have HL : Hid (65536 < ((Lib.byteCells (txP p)).length : Int)) := by show _ < _; rw [Lib.byteCells_length]; omega
  have hll := HL.out
  generalize ((Lib.byteCells (txP p)).length : Int) = ln at hll ⊢
  have r0 : w3.cell? ⟨w.heap.size + 1, 0, none⟩ = some (.int .i64 0) := by rw [Lib.cell_of_heap K4]; rfl
  have r1 : w3.cell? ⟨w.heap.size + 1, 1, none⟩ = some (.int .i64 0) := by rw [Lib.cell_of_heap K4]; rfl
  have r2 : w3.cell? ⟨w.heap.size + 1, 2, none⟩ = some (.int .i64 0) := by rw [Lib.cell_of_heap K4]; rfl
  have q0 : w3.frozen? ⟨w.heap.size + 1, 0, none⟩ = false := Lib.frozen_of_heap K4 0
  have q1 : w3.frozen? ⟨w.heap.size + 1, 1, none⟩ = false := Lib.frozen_of_heap K4 1
  have q2 : w3.frozen? ⟨w.heap.size + 1, 2, none⟩ = false := Lib.frozen_of_heap K4 2
  clear K4
  go_wp2_with fail
  refine bodyPost_ret (v := .tuple #[sB [], fltV 4 0 0]) (by simp [results, Tryz.results8, go_sem, r0, r1, r2]) rfl ⟨rfl, below_set3 hb4 (by omega) _ _ _⟩

set_option maxRecDepth 100000 in
set_option maxHeartbeats 8000000 in
theorem print_bad (p : Pr) (w : World) (hin : p.In w) (ht : Tabs w) (hck : (checkZ p).1 ≠ 0) :
    Calls Tryz.prog 8 #[p.val] w fun e w' => e = .returned (.tuple #[sB [], fltV (checkZ p).1 (checkZ p).2.1 (checkZ p).2.2]) ∧ Below w.heap.size w w' := by
  have HC : Hid (∀ w', Below w.heap.size w w' → Calls Tryz.prog 6 #[p.val] w' fun e w'' => e = .returned (fltV (checkZ p).1 (checkZ p).2.1 (checkZ p).2.2) ∧ Below w'.heap.size w' w'') := fun w' hb => check_any p w' (hin.stay hb) (ht.stay hb)
  clear hin ht
  generalize (checkZ p).1 = e0 at *
  generalize (checkZ p).2.1 = e1 at *
  generalize (checkZ p).2.2 = e2 at *
  have hcb : (e0 != 0) = true := by simpa using hck
  unfold Pr.val at HC ⊢
  have hb1 := ((Below.refl _ w).alloc (Nat.le_refl _) (.cells #[.slice p.wa p.widen.length p.wc, .slice p.fa p.funcs.length p.fc] 25)).alloc (by simp) (.cells #[.int .i64 0, .int .i64 0, .int .i64 0] 29)
  go_enter Tryz.func8, Tryz.ntmps8
  go_wp2_with fail
  refine (HC.out _ hb1).mono ?_
  rintro e w1 ⟨rfl, hbc⟩
  obtain ⟨k1, k2⟩ := heap3 hbc
  have hb2 := Below.on hb1 hbc
  have hs1 : w.heap.size + 1 + 1 ≤ w1.heap.size := by have := hbc.size; simp at this; omega
  have r0 : w1.cell? ⟨w.heap.size + 1, 0, none⟩ = some (.int .i64 0) := by rw [Lib.cell_of_heap k2]; rfl
  have r1 : w1.cell? ⟨w.heap.size + 1, 1, none⟩ = some (.int .i64 0) := by rw [Lib.cell_of_heap k2]; rfl
  have r2 : w1.cell? ⟨w.heap.size + 1, 2, none⟩ = some (.int .i64 0) := by rw [Lib.cell_of_heap k2]; rfl
  have hne1 : w.heap.size + 1 ≠ w1.heap.size := by omega
  have hne2 : w1.heap.size ≠ w.heap.size + 1 := by omega
  have g0 : (w1.alloc (.cells #[.int .i64 e0, .int .i64 e1, .int .i64 e2] 29)).cell? ⟨w.heap.size + 1, 0, none⟩ = some (.int .i64 0) := (World.cell?_alloc_past _ _ _ (by show w.heap.size + 1 < _; omega)).trans r0
  have g1 : (w1.alloc (.cells #[.int .i64 e0, .int .i64 e1, .int .i64 e2] 29)).cell? ⟨w.heap.size + 1, 1, none⟩ = some (.int .i64 0) := (World.cell?_alloc_past _ _ _ (by show w.heap.size + 1 < _; omega)).trans r1
  have g2 : (w1.alloc (.cells #[.int .i64 e0, .int .i64 e1, .int .i64 e2] 29)).cell? ⟨w.heap.size + 1, 2, none⟩ = some (.int .i64 0) := (World.cell?_alloc_past _ _ _ (by show w.heap.size + 1 < _; omega)).trans r2
  obtain ⟨W2, hW2⟩ : ∃ W2, w1.alloc (.cells #[.int .i64 e0, .int .i64 e1, .int .i64 e2] 29) = W2 := ⟨_, rfl⟩
  have HW2 := show Hid _ from hW2
  have s0 : W2.cell? ⟨w1.heap.size, 0, none⟩ = some (.int .i64 e0) := by rw [← hW2, World.cell?_alloc_at _ _ _ _ rfl]; rfl
  have s1 : W2.cell? ⟨w1.heap.size, 1, none⟩ = some (.int .i64 e1) := by rw [← hW2, World.cell?_alloc_at _ _ _ _ rfl]; rfl
  have s2 : W2.cell? ⟨w1.heap.size, 2, none⟩ = some (.int .i64 e2) := by rw [← hW2, World.cell?_alloc_at _ _ _ _ rfl]; rfl
  have kk : W2.heap[w.heap.size + 1]? = some (.cells #[.int .i64 0, .int .i64 0, .int .i64 0] 29 (0, 0)) := by rw [← hW2, Below.heap_alloc _ _ _ (by omega)]; exact k2
  rw [hW2] at g0 g1 g2
  have q0 : W2.frozen? ⟨w.heap.size + 1, 0, none⟩ = false := Lib.frozen_of_heap kk 0
  have q1 : W2.frozen? ⟨w.heap.size + 1, 1, none⟩ = false := Lib.frozen_of_heap kk 1
  have q2 : W2.frozen? ⟨w.heap.size + 1, 2, none⟩ = false := Lib.frozen_of_heap kk 2
  have hb3 : Below w.heap.size w W2 := by rw [← hW2]; exact hb2.alloc (by omega) _
  clear hW2 kk k1 k2 hbc hb1 r0 r1 r2
  go_wp2_with fail
  rw [HW2.out]
  clear HW2
  have d0 : W2.drew.cell? ⟨w.heap.size + 1, 0, none⟩ = some (.int .i64 0) := g0
  have d1 : W2.drew.cell? ⟨w.heap.size + 1, 1, none⟩ = some (.int .i64 0) := g1
  have d2 : W2.drew.cell? ⟨w.heap.size + 1, 2, none⟩ = some (.int .i64 0) := g2
  go_region
  all_goals go_wp2_with fail
  all_goals refine bodyPost_ret (v := .tuple #[sB [], fltV e0 e1 e2]) (by simp [results, Tryz.results8, go_sem, g0, g1, g2]) rfl ⟨rfl, ?_⟩
  all_goals first | exact below_set3 hb3.drew (by omega) _ _ _ | exact (below_set3 hb3 (by omega) _ _ _).drew
end Go.Proofs.YtbpemackmadhgaaGreatDoor

/- Every statement of a right program is written; tree.Print for every program. -/
namespace Go.Proofs.YtbpemackmadhgaaGreatDoor
open Go.RowKit Go.Sort

theorem stmt_prints {w0 : World} (ht : Tabs w0) (hnt : NumT w0) (k : Nat) : ∀ (s : St) (lv : Nat) (at_ : Int), s.sz ≤ k → s.In w0 → (chkT s lv at_).1 = 0 → s.V ≤ 5000 → StmtD w0 (2 * lv) s := by
  induction k with
  | zero => intro s lv at_ hk; have := s.sz_eq; omega
  | succ k ih =>
    intro s lv at_ hk hin hc hV
    obtain ⟨cs, ⟨ab, cb⟩, ⟨ac, cc⟩, ⟨ae, ce⟩⟩ := chkT_ok hc
    obtain ⟨hlv, hk1, hk2, hnm, hoa, hob⟩ := chkS_ok cs
    have hz := s.sz_eq
    have hv := s.V_eq
    have hi := St.in_iff.1 hin
    have hlv' : lv ≤ 32 := by omega
    have sb : ∀ x ∈ s.body, StmtD w0 (2 * lv + 2) x := fun x hx => by
      obtain ⟨a, ha⟩ := chkSs_ok cb x hx
      exact ih x (lv + 1) a (by have := ssz_mem hx; omega) (hi.2.2.2.2.2.1.2 x hx) (by exact_mod_cast ha) (by have := vSs_mem hx; omega)
    have se : ∀ x ∈ s.els, StmtD w0 (2 * lv + 2) x := fun x hx => by
      obtain ⟨a, ha⟩ := chkSs_ok ce x hx
      exact ih x (lv + 1) a (by have := ssz_mem hx; omega) (hi.2.2.2.2.2.2.1.2 x hx) (by exact_mod_cast ha) (by have := vSs_mem hx; omega)
    have sc : ∀ c ∈ s.cases, ∀ x ∈ c.body, StmtD w0 (2 * lv + 2) x := fun c hcm x hx => by
      obtain ⟨a1, ha1⟩ := chkCs_ok cc c hcm
      obtain ⟨a, ha⟩ := chkSs_ok ha1 x hx
      have h1 := csz_mem hcm
      have h2 := c.sz_eq
      have h3 := vCs_mem hcm
      have h4 := c.V_eq
      exact ih x (lv + 1) a (by have := ssz_mem hx; omega) ((Ca.in_iff.1 (hi.2.2.2.2.2.2.2.2 c hcm)).2.2 x hx) (by exact_mod_cast ha) (by have := vSs_mem hx; omega)
    have za : OkE s.a → s.a.sz ≤ 1000000 := fun h => by have := okE_zE h; omega
    have zb : OkE s.b → s.b.sz ≤ 1000000 := fun h => by have := okE_zE h; omega
    have hcase : s.kind = 1 ∨ s.kind = 2 ∨ s.kind = 3 ∨ s.kind = 4 ∨ s.kind = 5 ∨ s.kind = 6 ∨ s.kind = 7 ∨ s.kind = 8 ∨ s.kind = 9 ∨ s.kind = 10 := by omega
    rcases hcase with h | h | h | h | h | h | h | h | h | h <;> rw [h] at hoa hob
    · exact stmtD_le (stmt1 w0 s h hin ht hnt (hoa rfl) (za (hoa rfl))) (by omega)
    · exact stmtD_le (stmt2 w0 s h hin hnt) (by omega)
    · exact stmtD_le (stmt3 w0 s h hin ht hnt (hoa rfl) (za (hoa rfl))) (by omega)
    · exact stmtD_le (stmt4 w0 s h hin ht hnt (hoa rfl) (za (hoa rfl)) (hob rfl) (zb (hob rfl))) (by omega)
    · exact stmt5 w0 s h hin ht hnt (hoa rfl) (za (hoa rfl)) (2 * lv) (by omega) (fun x hx => stmtD_le (sb x hx) (by omega)) (fun x hx => stmtD_le (se x hx) (by omega))
    · exact stmt6 w0 s h hin ht hnt (hoa rfl) (za (hoa rfl)) (2 * lv) (by omega) sc se
    · exact stmt7 w0 s h hin ht hnt (hoa rfl) (za (hoa rfl)) (hob rfl) (zb (hob rfl)) (2 * lv) (by omega) (fun x hx => stmtD_le (sb x hx) (by omega))
    · exact stmtD_le (stmt8 w0 s h) (by omega)
    · exact stmtD_le (stmt9 w0 s h hin ht hnt (hoa rfl) (za (hoa rfl))) (by omega)
    · exact stmtD_le (stmt10 w0 s h hin ht hnt (hoa rfl) (za (hoa rfl))) (by omega)

theorem chkFs_ok : ∀ {l : List Fu} {i : Int}, (chkFs l i).1 = 0 → chkFs l i = (0, 0, 0) ∧ ∀ f ∈ l, (chkF f).1 = 0
  | [], _, _ => ⟨rfl, fun f hf => by cases hf⟩
  | f :: r, i, h => by
    rw [chkFs] at h ⊢
    split at h
    · exact absurd h (by assumption)
    · rename_i h0
      obtain ⟨h1, h2⟩ := chkFs_ok h
      rw [if_neg h0]
      refine ⟨h1, fun g hg => ?_⟩
      rcases List.mem_cons.1 hg with rfl | hg
      · simpa using h0
      · exact h2 g hg
theorem check_ok {p : Pr} (h : (checkZ p).1 = 0) : checkZ p = (0, 0, 0) ∧ wholeZ p = 0 ∧ ∀ f ∈ p.funcs, (chkF f).1 = 0 := by
  unfold checkZ at h ⊢
  split at h
  · exact absurd h (by assumption)
  · rename_i h0
    obtain ⟨h1, h2⟩ := chkFs_ok h
    rw [if_neg h0]
    exact ⟨h1, by simpa using h0, h2⟩
theorem parsZ_ok : ∀ {l : List Pa}, parsZ l = 0 → ∀ q ∈ l, nameZ q.name = true
  | [], _, q, hq => by cases hq
  | p :: r, h, q, hq => by
    rw [parsZ] at h
    split at h
    · omega
    · rename_i h0
      split at h
      · omega
      · rcases List.mem_cons.1 hq with rfl | hq
        · simpa using h0
        · exact parsZ_ok h q hq
theorem chkF_ok {f : Fu} (h : (chkF f).1 = 0) : nameZ f.name = true ∧ f.params.length ≤ 8 ∧ (∀ q ∈ f.params, nameZ q.name = true) ∧ (chkSs f.body 1 0).1 = 0 := by
  unfold chkF at h
  split at h
  · exact absurd h (by assumption)
  · rename_i h0
    have h1 : headZ f = 0 := by simpa using h0
    unfold headZ at h1
    split at h1
    · omega
    · rename_i h2
      split at h1
      · omega
      · exact ⟨by simpa using h2, by omega, parsZ_ok h1, h⟩
theorem pa_len {q : Pa} (hq : q.Ok) (h : nameZ q.name = true) : (paB q).length ≤ 100 := by
  have h1 := nm_len h
  have h2 := Lib.itoa_length_le q.lo hq.2.1.1 hq.2.1.2
  have h3 := Lib.itoa_length_le q.hi hq.2.2.1 hq.2.2.2
  simp only [paB, List.length_append, List.length_cons, List.length_nil]
  omega
end Go.Proofs.YtbpemackmadhgaaGreatDoor

/- tree.Print for every program. -/
namespace Go.Proofs.YtbpemackmadhgaaGreatDoor
open Go.RowKit Go.Sort

theorem com_len (l : List (List UInt8)) (c : Nat) (h : ∀ t ∈ l, t.length ≤ c) : (comB l).length ≤ l.length * (c + 2) := by
  refine Nat.le_trans (comB_len l) ?_
  induction l with
  | nil => simp
  | cons t r ih =>
    rw [List.map_cons, List.sum_cons, List.length_cons, Nat.add_mul]
    have := h t (by simp)
    have := ih (fun x hx => h x (by simp [hx]))
    omega
theorem txF_len {w : World} {f : Fu} (hin : f.In w) (h : (chkF f).1 = 0) : (txF f).length ≤ 1000 + 1000 * vSs f.body := by
  obtain ⟨h1, h2, h3, h4⟩ := chkF_ok h
  have a1 := nm_len h1
  have a2 := (txS_len (w := w) _).2 f.body 1 0 1 (Nat.le_refl _) hin.2.2.2.2.2.2.2 (by exact_mod_cast h4) (by omega)
  have a3 := com_len (f.params.map paB) 100 (fun t ht => by
    obtain ⟨q, hq, rfl⟩ := List.mem_map.1 ht
    exact pa_len (hin.2.2.2.2.2.1 q hq) (h3 q hq))
  rw [List.length_map] at a3
  have a4 : f.params.length * (100 + 2) ≤ 8 * 102 := Nat.mul_le_mul h2 (Nat.le_refl _)
  simp only [txF, List.length_append, lineB_len, List.length_cons, List.length_nil]
  omega
theorem txFs_len {w : World} : ∀ {l : List Fu}, (∀ f ∈ l, f.In w) → (∀ f ∈ l, (chkF f).1 = 0) → (txFs l).length ≤ 1000 * l.length + 1000 * (l.map fun f => vSs f.body).sum
  | [], _, _ => by simp [txFs]
  | f :: r, hin, h => by
    have a1 := txF_len (hin f (by simp)) (h f (by simp))
    have a2 := txFs_len (l := r) (fun g hg => hin g (by simp [hg])) (fun g hg => h g (by simp [hg]))
    rw [txFs, List.length_append, List.map_cons, List.sum_cons, List.length_cons]
    omega
theorem txW_len {l : List Int} (h : l.length ≤ 16) (h64 : ∀ z ∈ l, I64 z) : (txW l).length ≤ 1000 := by
  unfold txW
  split
  · simp
  · have a3 := com_len (l.map Lib.itoa) 21 (fun t ht => by
      obtain ⟨z, hz, rfl⟩ := List.mem_map.1 ht
      exact Lib.itoa_length_le z (h64 z hz).1 (h64 z hz).2)
    rw [List.length_map] at a3
    have a4 : l.length * (21 + 2) ≤ 16 * 23 := Nat.mul_le_mul h (Nat.le_refl _)
    simp only [List.length_append, lineB_len, List.length_cons, List.length_nil]
    omega
theorem txP_len {w : World} {p : Pr} (hin : p.In w) (h : (checkZ p).1 = 0) : (txP p).length ≤ 100000000 := by
  obtain ⟨_, h1, h2⟩ := check_ok h
  obtain ⟨a1, a2, a3⟩ := whole_ok h1
  have b1 := txW_len a1 hin.2.2.2.2.1
  have b2 := txFs_len hin.haveF.2 h2
  unfold txP
  rw [List.length_append]
  omega
theorem fn_prints {w : World} (ht : Tabs w) (hnt : NumT w) {p : Pr} (hin : p.In w) (h : (checkZ p).1 = 0) : ∀ f ∈ p.funcs, FnPr w f := fun f hf => by
  obtain ⟨_, h1, h2⟩ := check_ok h
  obtain ⟨a1, a2, a3⟩ := whole_ok h1
  obtain ⟨c1, c2, c3, c4⟩ := chkF_ok (h2 f hf)
  have hfi := hin.haveF.2 f hf
  have hs := sum_mem hf
  refine ⟨fun s hs' => ?_, fun q hq => Nat.le_trans (pa_len (hfi.2.2.2.2.2.1 q hq) (c3 q hq)) (by decide), c2⟩
  obtain ⟨a, ha⟩ := chkSs_ok c4 s hs'
  exact stmt_prints ht hnt _ s 1 a (Nat.le_refl _) (hfi.2.2.2.2.2.2.2 s hs') (by exact_mod_cast ha) (by have := vSs_mem hs'; omega)

/-- What tree.Print answers. -/
def prT (p : Pr) : List UInt8 := if (checkZ p).1 = 0 then (if (txP p).length ≤ 65536 then txP p else []) else []
def prF (p : Pr) : Int × Int × Int := if (checkZ p).1 = 0 then (if (txP p).length ≤ 65536 then (0, 0, 0) else (4, 0, 0)) else checkZ p
theorem print_any (p : Pr) (w : World) (hin : p.In w) (ht : Tabs w) (hnt : NumT w) :
    Calls Tryz.prog 8 #[p.val] w fun e w' => e = .returned (.tuple #[sB (prT p), fltV (prF p).1 (prF p).2.1 (prF p).2.2]) ∧ Below w.heap.size w w' := by
  by_cases h : (checkZ p).1 = 0
  · obtain ⟨h0, h1, h2⟩ := check_ok h
    have hl := txP_len hin h
    by_cases h3 : (txP p).length ≤ 65536
    · have := print_ok p w hin ht hnt h0 (whole_ok h1).1 (fn_prints ht hnt hin h) h3
      simpa only [prT, prF, if_pos h, if_pos h3] using this
    · have := print_long p w hin ht hnt h0 (whole_ok h1).1 (fn_prints ht hnt hin h) (by omega) (by omega)
      simpa only [prT, prF, if_pos h, if_neg h3] using this
  · have := print_bad p w hin ht h
    simpa only [prT, prF, if_neg h] using this

/-- Counts that are not past the limit are exact. -/
theorem cntE_le (k : Nat) : (∀ (x : Ex) (n : Int), x.sz ≤ k → cntE x n ≤ n + x.sz) ∧ (∀ (l : List Ex) (n : Int), szL l ≤ k → cntL l n ≤ n + szL l) := by
  induction k with
  | zero =>
    refine ⟨fun x n hk => by have := x.sz_args; omega, fun l n hk => ?_⟩
    cases l with
    | nil => simp [cntL, szL]
    | cons x r => rw [szL] at hk; have := x.sz_args; omega
  | succ k ih =>
    have h1 : ∀ (x : Ex) (n : Int), x.sz ≤ k + 1 → cntE x n ≤ n + x.sz := fun x n hk => by
      rw [cntE_args]
      have := ih.2 x.args (n + 1) (by have := x.sz_args; omega)
      have := x.sz_args
      omega
    refine ⟨h1, fun l => ?_⟩
    induction l with
    | nil => intro n _; simp [cntL, szL]
    | cons x r ihr =>
      intro n hk
      rw [szL] at hk ⊢
      rw [cntL]
      split
      · omega
      · have a2 := h1 x n (by omega)
        have a3 := ihr (cntE x n) (by omega)
        omega
theorem cntZ_leV (x : Ex) (n : Int) : cntZ x n ≤ n + zE x := by
  unfold cntZ zE
  split
  · simp
  · exact (cntE_le _).1 x n (Nat.le_refl _)
theorem cntS_le (k : Nat) : (∀ (s : St) (n : Int), s.sz ≤ k → cntS s n ≤ n + s.V) ∧ (∀ (l : List St) (n : Int), ssz l ≤ k → cntSs l n ≤ n + vSs l) := by
  have step : ∀ k, (∀ (s : St) (n : Int), s.sz ≤ k → cntS s n ≤ n + s.V) → ∀ (l : List St) (n : Int), ssz l ≤ k → cntSs l n ≤ n + vSs l := by
    intro k h1 l
    induction l with
    | nil => intro n _; simp only [cntSs, vSs]; omega
    | cons x r ihr =>
      intro n hk
      rw [ssz] at hk
      rw [vSs, cntSs]
      split
      · omega
      · have a1 := h1 x n (by omega)
        have a2 := ihr (cntS x n) (by omega)
        omega
  induction k with
  | zero =>
    have h0 : ∀ (s : St) (n : Int), s.sz ≤ 0 → cntS s n ≤ n + s.V := fun s n hk => by have := s.sz_eq; omega
    exact ⟨h0, step 0 h0⟩
  | succ k ih =>
    have h1 : ∀ (s : St) (n : Int), s.sz ≤ k + 1 → cntS s n ≤ n + s.V := by
      intro s n hk
      have hz := s.sz_eq
      have hc : ∀ (l : List Ca) (n : Int), csz l ≤ k → cntCs l n ≤ n + vCs l := by
        intro l
        induction l with
        | nil => intro n _; simp only [cntCs, vCs]; omega
        | cons c r ihr =>
          intro n hk
          rw [csz] at hk
          rw [cntCs, vCs, cntC_eq, c.V_eq]
          have a1 := ih.2 c.body n (by have := c.sz_eq; omega)
          have a2 := ihr (cntSs c.body n) (by omega)
          omega
      have e : cntS s n = cntSs s.els (cntCs s.cases (cntSs s.body (cntZ s.b (cntZ s.a (n + (1 + (s.cases.length : Int))))))) := by
        cases s; simp only [cntS, St.els, St.cases, St.body, St.a, St.b]
      rw [e, s.V_eq]
      have a1 := cntZ_leV s.a (n + (1 + (s.cases.length : Int)))
      have a2 := cntZ_leV s.b (cntZ s.a (n + (1 + (s.cases.length : Int))))
      have a3 := ih.2 s.body (cntZ s.b (cntZ s.a (n + (1 + (s.cases.length : Int))))) (by omega)
      have a4 := hc s.cases (cntSs s.body (cntZ s.b (cntZ s.a (n + (1 + (s.cases.length : Int)))))) (by omega)
      have a5 := ih.2 s.els (cntCs s.cases (cntSs s.body (cntZ s.b (cntZ s.a (n + (1 + (s.cases.length : Int))))))) (by omega)
      omega
    exact ⟨h1, step (k + 1) h1⟩
theorem cntF_le : ∀ (l : List Fu) (n : Int), cntF l n ≤ n + (l.map fun f => vSs f.body).sum
  | [], n => by simp [cntF]
  | f :: r, n => by
    have a1 := (cntS_le _).2 f.body n (Nat.le_refl _)
    have a2 := cntF_le r (cntSs f.body n)
    rw [cntF, List.map_cons, List.sum_cons]
    omega
theorem nodes_exact {p : Pr} (h : (checkZ p).1 = 0) : nodesZ p = (p.funcs.map fun f => vSs f.body).sum := by
  obtain ⟨_, h1, _⟩ := check_ok h
  have hn := (whole_ok h1).2.2
  have a1 := cntF_le p.funcs 0
  have a2 := (cntF_V p.funcs 0).2 (by omega)
  unfold nodesZ
  omega
end Go.Proofs.YtbpemackmadhgaaGreatDoor

/- The document's own Name: a text is a name just where scan's is; nothing that lay has turned. -/
namespace Go.Proofs.YtbpemackmadhgaaGreatDoor
open Go.RowKit

set_option maxHeartbeats 400000 in
theorem rLetter_any (n : Int) (w : World) (h0 : 0 ≤ n) (h1 : n ≤ 255) :
    Calls Tryz.prog 79 #[.int .u8 n] w fun e w' => e = .returned (.bool (letB n)) ∧ w' = w := by
  by_cases h : 97 ≤ n
  · go_enter Tryz.func79, Tryz.ntmps79
    go_wp2
    go_ret
    exact ⟨ret_bool (by simp [letB, h]), rfl⟩
  · go_enter Tryz.func79, Tryz.ntmps79
    go_wp2
    go_ret
    exact ⟨ret_bool (by simp [letB]; omega), rfl⟩

set_option maxHeartbeats 400000 in
theorem rDigit_any (n : Int) (w : World) (h0 : 0 ≤ n) (h1 : n ≤ 255) :
    Calls Tryz.prog 80 #[.int .u8 n] w fun e w' => e = .returned (.bool (digB n)) ∧ w' = w := by
  by_cases h : 48 ≤ n
  · go_enter Tryz.func80, Tryz.ntmps80
    go_wp2
    go_ret
    exact ⟨ret_bool (by simp [digB, h]), rfl⟩
  · go_enter Tryz.func80, Tryz.ntmps80
    go_wp2
    go_ret
    exact ⟨ret_bool (by simp [digB]; omega), rfl⟩

def anyIs (s : ByteArray) (xs : List ByteArray) : Bool := xs.any (fun x => x.toList == s.toList)
theorem anyIs_drop_hit (s : ByteArray) (xs : List ByteArray) (k : Nat) (h : k < xs.length) (hx : (xs[k].toList == s.toList) = true) : anyIs s (xs.drop k) = true := by
  rw [List.drop_eq_getElem_cons h]; simp only [anyIs, List.any_cons, hx, Bool.true_or]
theorem anyIs_drop_miss (s : ByteArray) (xs : List ByteArray) (k : Nat) (h : k < xs.length) (hx : (xs[k].toList == s.toList) = false) : anyIs s (xs.drop k) = anyIs s (xs.drop (k + 1)) := by
  rw [List.drop_eq_getElem_cons h]; simp only [anyIs, List.any_cons, hx, Bool.false_or]

set_option maxHeartbeats 1000000 in
theorem in_any (s : ByteArray) (xs : List ByteArray) (b cap : Nat) (w : World) (hl : xs.length ≤ 1000) (hc : ∀ j (h : j < xs.length), w.cell? ⟨b, j, none⟩ = some (.string xs[j])) :
    Calls Tryz.prog 81 #[.string s, .slice (some ⟨b, 0, none⟩) xs.length cap] w fun e w' => e = .returned (.bool (anyIs s xs)) ∧ w' = w := by
  go_enter Tryz.func81, Tryz.ntmps81
  go_wp2
  go_loop [5] (fun i => ∃ k : Nat, k ≤ xs.length ∧ i = .int .i64 k ∧ Hid (anyIs s (xs.drop k) = anyIs s xs)) (fun i => xs.length - (intOf i).toNat)
  case atStart => exact ⟨0, Nat.zero_le _, rfl, rfl⟩
  case round =>
    obtain ⟨k, hk, rfl, HI⟩ := hrel
    by_cases hlt : k < xs.length
    · have hcell := hc k hlt
      cases hx : (xs[k].toList == s.toList) with
      | true =>
        have HE := HI.out.symm.trans (anyIs_drop_hit s xs k hlt hx)
        have HE' : Hid (anyIs s xs = true) := HE
        clear HE hc HI
        go_wp2
        go_ret
        exact ⟨ret_bool (by rw [HE'.out]), rfl⟩
      | false =>
        have HE : Hid (anyIs s (xs.drop (k + 1)) = anyIs s xs) := (anyIs_drop_miss s xs k hlt hx).symm.trans HI.out
        clear hc HI
        go_wp2
        go_round
        case rel => exact ⟨k + 1, by omega, by go_num, HE⟩
        case measure => simp [intOf]; omega
    · have HE : Hid (anyIs s xs = false) := by
        have := HI.out; rw [List.drop_eq_nil_of_le (by omega)] at this; exact this.symm
      clear hc HI
      go_wp2
      go_ret
      exact ⟨ret_bool (by rw [HE.out]), rfl⟩

def wordsB : List ByteArray := [⟨#[119, 105, 100, 101, 110]⟩, ⟨#[102, 110]⟩, ⟨#[108, 101, 116]⟩, ⟨#[102, 111, 114]⟩, ⟨#[105, 110]⟩, ⟨#[105, 102]⟩, ⟨#[101, 108, 115, 101]⟩, ⟨#[115, 119, 105, 116, 99, 104]⟩, ⟨#[99, 97, 115, 101]⟩, ⟨#[98, 114, 101, 97, 107]⟩, ⟨#[114, 101, 116, 117, 114, 110]⟩]
def rStrCells (xs : List ByteArray) : Array Value := (xs.map Value.string).toArray

theorem new_cells (w : World) (xs : List ByteArray) : ∀ j (h : j < xs.length), (w.alloc (.cells (rStrCells xs) 9)).cell? ⟨w.heap.size, j, none⟩ = some (.string xs[j]) := by
  intro j h
  rw [World.cell?_alloc_at _ _ _ _ rfl]
  simp [rStrCells, h]

set_option maxHeartbeats 400000 in
theorem words_any (w : World) : Calls Tryz.prog 82 #[] w fun e w' => e = .returned (.slice (some ⟨w.heap.size, 0, none⟩) 11 11) ∧ w' = w.alloc (.cells (rStrCells wordsB) 9) := by
  go_enter Tryz.func82, Tryz.ntmps82
  go_wp2
  go_ret
  exact ⟨rfl, rfl⟩

def wordList : List (List UInt8) := [[119, 105, 100, 101, 110], [102, 110], [108, 101, 116], [102, 111, 114], [105, 110], [105, 102], [101, 108, 115, 101], [115, 119, 105, 116, 99, 104], [99, 97, 115, 101], [98, 114, 101, 97, 107], [114, 101, 116, 117, 114, 110]]
theorem wordB_eq (l : List UInt8) : wordB l = wordList.any (fun x => x == l) := by
  simp [wordB, wordList, Bool.or_assoc, Bool.beq_comm (a := l)]
theorem anyIs_words (s : ByteArray) : anyIs s wordsB = wordB s.data.toList := by
  rw [wordB_eq]
  simp only [anyIs, wordsB, wordList, List.any_cons, List.any_nil, ba_list]

set_option maxHeartbeats 400000 in
theorem rWord_any (s : ByteArray) (w : World) :
    Calls Tryz.prog 52 #[.string s] w fun e w' => e = .returned (.bool (wordB s.data.toList)) ∧ Below w.heap.size w w' := by
  have h26 : Calls Tryz.prog 81 #[.string s, .slice (some ⟨w.heap.size, 0, none⟩) 11 11] (w.alloc (.cells (rStrCells wordsB) 9)) fun e w' => e = .returned (.bool (wordB s.data.toList)) ∧ w' = w.alloc (.cells (rStrCells wordsB) 9) := by
    rw [← anyIs_words]; exact in_any s wordsB w.heap.size 11 _ (by decide) (new_cells w wordsB)
  go_enter Tryz.func52, Tryz.ntmps52
  go_wp2_with (first | (go_at_call 82; refine (words_any _).mono ?_; rintro e w' ⟨rfl, rfl⟩) | (go_at_call 81; refine h26.mono ?_; rintro e w' ⟨rfl, rfl⟩))
  go_ret
  exact ⟨rfl, (Below.refl _ w).alloc (Nat.le_refl _) _⟩

def plainB (l : List UInt8) : Bool := match l with | [] => false | c :: _ => isLet c && decide (rowLen isLod l = l.length)
theorem plainB_cons {l : List UInt8} (h : 0 < l.length) : plainB l = (isLet l[0] && decide (rowLen isLod l = l.length)) := by
  cases l with
  | nil => simp at h
  | cons c r => rfl
theorem nameB_eq (l : List UInt8) : nameB l = (decide (l.length ≤ 16) && plainB l && !wordB l) := by
  cases l with
  | nil => rfl
  | cons c r =>
    simp only [nameB, plainB]
    cases decide ((c :: r).length ≤ 16) <;> cases wordB (c :: r) <;> cases isLet c <;> cases decide (rowLen isLod (c :: r) = (c :: r).length) <;> rfl

theorem beq_nat {a b : Nat} (h : a ≠ b) : ((a : Int) == (b : Int)) = false := by rw [beq_eq_false_iff_ne]; omega

set_option maxHeartbeats 1000000 in
theorem plain_any (s : ByteArray) (w : World) (hs : s.size ≤ maxLen) :
    Calls Tryz.prog 51 #[.string s] w fun e w' => e = .returned (.bool (plainB s.data.toList)) ∧ w' = w := by
  unfold maxLen at hs
  have hlen := ba_len s
  have HLen : Hid (s.data.toList.length = s.size) := hlen
  clear hlen
  go_enter Tryz.func51, Tryz.ntmps51
  go_wp2
  go_loop [3] (fun i => ∃ k : Nat, k ≤ s.size ∧ i = .int .i64 k ∧ k ≤ rowLen isLod s.data.toList ∧ Hid (0 < k → ∃ h : 0 < s.data.toList.length, isLet s.data.toList[0] = true)) (fun i => s.size - (intOf i).toNat)
  case atStart => exact ⟨0, Nat.zero_le _, rfl, Nat.zero_le _, fun h => by omega⟩
  case round =>
    obtain ⟨k, hk, rfl, hr, HL⟩ := hrel
    by_cases hlt : k < s.size
    · have c0 : (0 : Int) ≤ s[k].toNat := by omega
      have h35 : ∀ b, letB s[k].toNat = b → ∀ w, Calls Tryz.prog 79 #[.int .u8 s[k].toNat] w fun e w' => e = .returned (.bool b) ∧ w' = w := fun b hb w => by rw [← hb]; exact rLetter_any _ w c0 (u8_le _)
      have h36 : ∀ b, digB s[k].toNat = b → ∀ w, Calls Tryz.prog 80 #[.int .u8 s[k].toNat] w fun e w' => e = .returned (.bool b) ∧ w' = w := fun b hb w => by rw [← hb]; exact rDigit_any _ w c0 (u8_le _)
      have hl0 : 0 < s.data.toList.length := by rw [HLen.out]; omega
      cases hb1 : letB s[k].toNat with
      | true =>
        have g35 := h35 true hb1
        have hit := rowLen_hit isLod s.data.toList k hr hlt (by show (letB _ || digB _) = true; rw [show letB (s.data.toList[k].toNat) = true from hb1]; rfl)
        have HL' : Hid (0 < k + 1 → ∃ h : 0 < s.data.toList.length, isLet s.data.toList[0] = true) := fun _ => by
          rcases Nat.eq_zero_or_pos k with h | h
          · subst h; exact ⟨hl0, hb1⟩
          · exact HL.out h
        clear h35 h36 hb1 hl0
        go_wp2_with (go_at_call 79; refine (g35 _).mono ?_; rintro e w' ⟨rfl, rfl⟩)
        go_round
        case rel => exact ⟨k + 1, by omega, by go_num, hit, HL'⟩
        case measure => simp [intOf]; omega
      | false =>
        have g35 := h35 false hb1
        by_cases hk0 : k = 0
        · have HE : Hid (plainB s.data.toList = false) := by
            show plainB s.data.toList = false
            rw [plainB_cons hl0]
            subst hk0
            rw [show isLet s.data.toList[0] = false from hb1]; rfl
          have hz : ((k : Int) == 0) = true := by rw [hk0]; rfl
          clear h35 h36 hb1 hl0 hk0
          go_wp2_with (go_at_call 79; refine (g35 _).mono ?_; rintro e w' ⟨rfl, rfl⟩)
          go_ret
          exact ⟨ret_bool (by rw [HE.out]), rfl⟩
        · have hz : ((k : Int) == 0) = false := beq_nat hk0
          cases hb2 : digB s[k].toNat with
          | true =>
            have g36 := h36 true hb2
            have hit := rowLen_hit isLod s.data.toList k hr hlt (by show (letB _ || digB _) = true; rw [show digB (s.data.toList[k].toNat) = true from hb2]; simp)
            have HL' : Hid (0 < k + 1 → ∃ h : 0 < s.data.toList.length, isLet s.data.toList[0] = true) := fun _ => HL.out (by omega)
            clear h35 h36 hb1 hb2 hl0 hk0
            go_wp2_with (first | (go_at_call 79; refine (g35 _).mono ?_; rintro e w' ⟨rfl, rfl⟩) | (go_at_call 80; refine (g36 _).mono ?_; rintro e w' ⟨rfl, rfl⟩))
            go_round
            case rel => exact ⟨k + 1, by omega, by go_num, hit, HL'⟩
            case measure => simp [intOf]; omega
          | false =>
            have g36 := h36 false hb2
            have hend := rowLen_miss isLod s.data.toList k hr hlt (by show (letB _ || digB _) = false; rw [show letB (s.data.toList[k].toNat) = false from hb1, show digB (s.data.toList[k].toNat) = false from hb2]; rfl)
            have HE : Hid (plainB s.data.toList = false) := by
              show plainB s.data.toList = false
              rw [plainB_cons hl0, hend, HLen.out]
              rw [show decide (k = s.size) = false from by simp only [decide_eq_false_iff_not]; omega]; simp
            clear h35 h36 hb1 hb2 hl0 hk0 hend
            go_wp2_with (first | (go_at_call 79; refine (g35 _).mono ?_; rintro e w' ⟨rfl, rfl⟩) | (go_at_call 80; refine (g36 _).mono ?_; rintro e w' ⟨rfl, rfl⟩))
            go_ret
            exact ⟨ret_bool (by rw [HE.out]), rfl⟩
    · have hks : k = s.size := by omega
      have HE : Hid (decide (0 < (s.size : Int)) = plainB s.data.toList) := by
        show decide (0 < (s.size : Int)) = plainB s.data.toList
        have hle := rowLen_le isLod s.data.toList
        rw [HLen.out] at hle
        by_cases h0 : 0 < s.size
        · obtain ⟨hl0, h1⟩ := HL.out (by omega)
          rw [plainB_cons hl0, h1, HLen.out, show decide (rowLen isLod s.data.toList = s.size) = true from by simp only [decide_eq_true_eq]; omega]
          simp only [Bool.and_self, decide_eq_true_eq]; omega
        · have he : s.data.toList = [] := by apply List.eq_nil_of_length_eq_zero; rw [HLen.out]; omega
          rw [he, show decide (0 < (s.size : Int)) = false from by simp only [decide_eq_false_iff_not]; omega]; rfl
      clear hks
      go_wp2
      go_ret
      exact ⟨ret_bool (by rw [← HE.out]; simp), rfl⟩

set_option maxHeartbeats 1000000 in
theorem rName_long (s : ByteArray) (w : World) (h : ¬ (s.size : Int) ≤ 16) :
    Calls Tryz.prog 33 #[.string s] w fun e w' => e = .returned (.bool false) ∧ Below w.heap.size w w' := by
  go_enter Tryz.func33, Tryz.ntmps33
  go_wp2
  go_ret
  exact ⟨rfl, Below.refl _ _⟩

set_option maxHeartbeats 1000000 in
theorem rName_unplain (s : ByteArray) (w : World) (h : (s.size : Int) ≤ 16) (hp : plainB s.data.toList = false) :
    Calls Tryz.prog 33 #[.string s] w fun e w' => e = .returned (.bool false) ∧ Below w.heap.size w w' := by
  have h31 : ∀ w, Calls Tryz.prog 51 #[.string s] w fun e w' => e = .returned (.bool false) ∧ w' = w := fun w => by rw [← hp]; exact plain_any s w (by unfold maxLen; omega)
  clear hp
  go_enter Tryz.func33, Tryz.ntmps33
  go_wp2_with (go_at_call 51; refine (h31 _).mono ?_; rintro e w' ⟨rfl, rfl⟩)
  go_ret
  exact ⟨rfl, Below.refl _ _⟩

set_option maxHeartbeats 1000000 in
theorem rName_plain (s : ByteArray) (b : Bool) (w : World) (h : (s.size : Int) ≤ 16) (hp : plainB s.data.toList = true) (hb : wordB s.data.toList = b) :
    Calls Tryz.prog 33 #[.string s] w fun e w' => e = .returned (.bool (!b)) ∧ Below w.heap.size w w' := by
  have h31 : ∀ w, Calls Tryz.prog 51 #[.string s] w fun e w' => e = .returned (.bool true) ∧ w' = w := fun w => by rw [← hp]; exact plain_any s w (by unfold maxLen; omega)
  have h17 : ∀ w, Calls Tryz.prog 52 #[.string s] w fun e w' => e = .returned (.bool b) ∧ Below w.heap.size w w' := fun w => by rw [← hb]; exact rWord_any s w
  clear hp hb
  cases b
  all_goals
    go_enter Tryz.func33, Tryz.ntmps33
    go_wp2_with (first | (go_at_call 51; refine (h31 _).mono ?_; rintro e w' ⟨rfl, rfl⟩) | (go_at_call 52; refine (h17 _).mono ?_; rintro e w1 ⟨rfl, hb1⟩))
    go_ret
    exact ⟨rfl, hb1⟩

theorem rName_any (s : ByteArray) (w : World) :
    Calls Tryz.prog 33 #[.string s] w fun e w' => e = .returned (.bool (nameB s.data.toList)) ∧ Below w.heap.size w w' := by
  have hlen := ba_len s
  rw [nameB_eq]
  by_cases h : s.size ≤ 16
  · rw [show decide (s.data.toList.length ≤ 16) = true from by simp only [decide_eq_true_eq]; omega]
    cases hp : plainB s.data.toList with
    | true => exact rName_plain s _ w (by omega) hp rfl
    | false => exact rName_unplain s w (by omega) hp
  · rw [show decide (s.data.toList.length ≤ 16) = false from by simp only [decide_eq_false_iff_not]; omega]
    exact rName_long s w (by omega)

end Go.Proofs.YtbpemackmadhgaaGreatDoor

/- The document's own way to say a form: arguments, names, fields; that it is the program's. -/
namespace Go.Proofs.YtbpemackmadhgaaGreatDoor
open Go.RowKit Go.Sort

def argsZ (k : Int) : Int := if k = 1 ∨ k = 2 then 0 else if k = 3 ∨ k = 5 ∨ k = 6 then 1 else if k = 4 then -1 else if 7 ≤ k ∧ k ≤ 19 then 2 else if k = 20 then 3 else -2
def namedZ (k : Int) : Bool := k == 2 || k == 3 || k == 4
theorem form_args : ∀ k : Fin 21, 0 < k.val → (formE k.val).args = argsZ k.val := by decide
theorem form_named : ∀ k : Fin 21, 0 < k.val → (bits .and .i64 (formE k.val).fields 1 != 0) = namedZ k.val := by decide
theorem form_uses : ∀ (k : Fin 21) (e n : Bool), 0 < k.val → (bits .andNot .i64 (orZ (bitZ 1 e) (bitZ 2 n)) (formE k.val).fields != 0) = (n && (k.val : Int) != 1 || e && !namedZ k.val) := by decide
theorem args_val : ∀ k : Fin 21, 0 < k.val → argsZ k.val = -1 ∨ (0 ≤ argsZ k.val ∧ argsZ k.val ≤ 3) := by decide
/-- A form that may not be, as the document's own text says it. -/
def formBad (x : Ex) : Bool := argsZ x.kind == -2 || decide (0 ≤ argsZ x.kind) && (x.args.length : Int) != argsZ x.kind || x.n != 0 && x.kind != 1 || !x.name.toList.isEmpty && !namedZ x.kind
theorem isE_fin {k : Int} (h : isE k = true) : ∃ q : Fin 21, 0 < q.val ∧ k = q.val := by
  simp [isE] at h
  exact ⟨⟨k.toNat, by omega⟩, by show 0 < k.toNat; omega, by show k = (k.toNat : Int); omega⟩
theorem argsZ_not {k : Int} (h : isE k = false) : argsZ k = -2 := by
  simp [isE] at h
  unfold argsZ
  rw [if_neg (by omega), if_neg (by omega), if_neg (by omega), if_neg (by omega), if_neg (by omega)]
theorem selfE_ref (x : Ex) : selfE x = if formBad x = true then 5 else if (namedZ x.kind && !nameZ x.name) = true then 8 else if x.n < 0 then 1 else 0 := by
  cases h : isE x.kind
  · simp only [selfE, h, if_true, formBad, argsZ_not h]; rfl
  · obtain ⟨q, h0, hq⟩ := isE_fin h
    have h' : isE (q.val : Int) = true := hq ▸ h
    have e1 := form_args q h0
    have e2 := form_named q h0
    have e3 := form_uses q (!x.name.toList.isEmpty) (x.n != 0) h0
    have e4 := args_val q h0
    unfold selfE formBad
    simp only [h', Bool.true_eq_false, if_false, hq, Int.toNat_natCast, e1, e2]
    rw [show usesE x = orZ (bitZ 1 (!x.name.toList.isEmpty)) (bitZ 2 (x.n != 0)) from rfl, e3]
    generalize argsZ q.val = A at e4 ⊢
    generalize (x.args.length : Int) = L
    generalize namedZ q.val = N
    generalize (x.n != 0) = n0
    generalize ((q.val : Int) != 1) = k1
    generalize x.name.toList.isEmpty = em
    have e5 : (A == -2) = false := by rw [beq_eq_false_iff_ne]; omega
    have e6 : (A != -1) = decide (0 ≤ A) := by
      rcases e4 with rfl | e
      · rfl
      · rw [decide_eq_true e.1, bne_iff_ne]; omega
    rw [e5, e6]
    generalize (decide (0 ≤ A) && L != A) = g
    cases g <;> cases n0 <;> cases k1 <;> cases em <;> cases N <;> rfl

/-- Which fields of a statement count: Name, N, A, B, Body, Else, Cases. -/
def cB (k : Int) (i : Nat) : Bool := isS k && (bits .and .i64 (fldS k.toNat) (2 ^ i : Nat) != 0)
theorem stmt_uses : ∀ (k : Fin 11) (b0 b1 b2 b3 b4 b5 b6 : Bool), 0 < k.val → (bits .andNot .i64 (orZ (orZ (orZ (orZ (orZ (orZ (bitZ 1 b0) (bitZ 2 b1)) (bitZ 4 b2)) (bitZ 8 b3)) (bitZ 16 b4)) (bitZ 32 b5)) (bitZ 64 b6)) (fldS k.val) != 0) =
    !((cB k.val 0 || !b0) && (cB k.val 1 || !b1) && (cB k.val 2 || !b2) && (cB k.val 3 || !b3) && (cB k.val 4 || !b4) && (cB k.val 5 || !b5) && (cB k.val 6 || !b6)) := by decide +kernel
theorem isS_fin {k : Int} (h : isS k = true) : ∃ q : Fin 11, 0 < q.val ∧ k = q.val := by
  simp [isS] at h
  exact ⟨⟨k.toNat, by omega⟩, by show 0 < k.toNat; omega, by show k = (k.toNat : Int); omega⟩
/-- A statement's form is right, by its own fields. -/
def okS (s : St) : Bool := isS s.kind && (cB s.kind 0 || s.name.toList.isEmpty) && (cB s.kind 1 || s.n == 0) && (cB s.kind 2 || zeroE s.a) && (cB s.kind 3 || zeroE s.b) && (cB s.kind 4 || s.body.isEmpty) && (cB s.kind 5 || s.els.isEmpty) && (cB s.kind 6 || s.cases.isEmpty)
theorem len_empty {α : Type} (l : List α) : decide (0 < l.length) = !l.isEmpty := by cases l <;> simp
theorem selfS_ref (s : St) : selfS s = if okS s = false then 5 else if (cB s.kind 0 && !nameZ s.name) = true then 8 else if (decide (s.n < 0) || leastC s.cases) = true then 1 else if (s.kind == 10 && s.a.kind != 4) = true then 5 else 0 := by
  cases h : isS s.kind
  · simp only [selfS, okS, h, if_true, Bool.false_and]
  · obtain ⟨q, h0, hq⟩ := isS_fin h
    have e3 := stmt_uses q (!s.name.toList.isEmpty) (s.n != 0) (!zeroE s.a) (!zeroE s.b) (decide (0 < s.body.length)) (decide (0 < s.els.length)) (decide (0 < s.cases.length)) h0
    have h' : isS (q.val : Int) = true := hq ▸ h
    have e0 : (bits .and .i64 (fldS q.val) 1 != 0) = cB q.val 0 := by
      unfold cB; rw [← hq, h, hq, Int.toNat_natCast]; rfl
    unfold selfS okS
    simp only [h', Bool.true_eq_false, if_false, hq, Int.toNat_natCast, e0]
    rw [show usesS s = orZ (orZ (orZ (orZ (orZ (orZ (bitZ 1 (!s.name.toList.isEmpty)) (bitZ 2 (s.n != 0))) (bitZ 4 (!zeroE s.a))) (bitZ 8 (!zeroE s.b))) (bitZ 16 (decide (0 < s.body.length)))) (bitZ 32 (decide (0 < s.els.length)))) (bitZ 64 (decide (0 < s.cases.length))) from rfl, e3]
    rw [len_empty, len_empty, len_empty]
    simp only [Bool.not_not, bne, Bool.true_and]
    cases ((cB q.val 0 || s.name.toList.isEmpty) && (cB q.val 1 || s.n == 0) && (cB q.val 2 || zeroE s.a) && (cB q.val 3 || zeroE s.b) && (cB q.val 4 || s.body.isEmpty) && (cB q.val 5 || s.els.isEmpty) && (cB q.val 6 || s.cases.isEmpty)) <;> rfl
end Go.Proofs.YtbpemackmadhgaaGreatDoor

/- Is an expression one of zeros? The document's own answer. -/
namespace Go.Proofs.YtbpemackmadhgaaGreatDoor
open Go.RowKit

set_option maxRecDepth 100000 in
set_option maxHeartbeats 2000000 in
theorem rzero_any (x : Ex) (w : World) : Calls Tryz.prog 77 #[x.val] w fun e w' => e = .returned (.bool (zeroE x)) ∧ Below w.heap.size w w' := by
  obtain ⟨kd, n, s, a, c, l⟩ := x
  unfold Ex.val zeroE
  simp only [Ex.kind, Ex.n, Ex.name, Ex.a, Ex.cap, Ex.args]
  have hb := (Below.refl _ w).alloc (Nat.le_refl _) (.cells #[.int .i64 kd, .int .i64 n, .string s, .slice a l.length c] 36)
  cases h1 : (kd == 0)
  · go_enter Tryz.func77, Tryz.ntmps77
    go_wp2_with fail
    go_ret
    exact ⟨rfl, hb⟩
  · cases h2 : (n == 0)
    · go_enter Tryz.func77, Tryz.ntmps77
      go_wp2_with fail
      go_ret
      exact ⟨ret_bool (by simp), hb⟩
    · have e : s.toList.isEmpty = (s.toList == []) := by cases s.toList <;> rfl
      cases h3 : (s.toList == [])
      · go_enter Tryz.func77, Tryz.ntmps77
        go_wp2_with fail
        go_ret
        exact ⟨ret_bool (by rw [e, h3]; rfl), hb⟩
      · go_enter Tryz.func77, Tryz.ntmps77
        go_wp2_with fail
        go_ret
        refine ⟨ret_bool ?_, hb⟩
        rw [e, h3]
        cases l
        · rfl
        · simp; omega
end Go.Proofs.YtbpemackmadhgaaGreatDoor

/- The document's own small questions on forms: args, named, counts, lowest. -/
namespace Go.Proofs.YtbpemackmadhgaaGreatDoor
open Go.RowKit Go.Sort

theorem kindE_of {k : Int} (h : isE k = true) : (7 ≤ k ∧ k ≤ 19) ∨ k = 1 ∨ k = 2 ∨ k = 3 ∨ k = 4 ∨ k = 5 ∨ k = 6 ∨ k = 20 := by
  simp [isE] at h; omega
theorem kindS_of {k : Int} (h : isS k = true) : k = 1 ∨ k = 2 ∨ k = 3 ∨ k = 4 ∨ k = 5 ∨ k = 6 ∨ k = 7 ∨ k = 8 ∨ k = 9 ∨ k = 10 := by
  simp [isS] at h; omega
theorem beq_no {a b : Int} (h : a ≠ b) : (a == b) = false := by rw [beq_eq_false_iff_ne]; exact h

set_option maxHeartbeats 1000000 in
theorem args_mid (k : Int) (w : World) (h0 : 7 ≤ k) (h1 : k ≤ 19) : Calls Tryz.prog 83 #[.int .i64 k] w fun e w' => e = .returned (.int .i64 2) ∧ w' = w := by
  have e1 := beq_no (show k ≠ 1 by omega)
  have e2 := beq_no (show k ≠ 2 by omega)
  have e3 := beq_no (show k ≠ 3 by omega)
  have e4 := beq_no (show k ≠ 4 by omega)
  have e5 := beq_no (show k ≠ 5 by omega)
  have e6 := beq_no (show k ≠ 6 by omega)
  go_enter Tryz.func83, Tryz.ntmps83
  go_wp2_with fail
  go_ret
  exact ⟨rfl, rfl⟩
set_option maxHeartbeats 1000000 in
theorem args_low (k : Int) (w : World) (h : k < 1) : Calls Tryz.prog 83 #[.int .i64 k] w fun e w' => e = .returned (.int .i64 (-2)) ∧ w' = w := by
  have e1 := beq_no (show k ≠ 1 by omega)
  have e2 := beq_no (show k ≠ 2 by omega)
  have e3 := beq_no (show k ≠ 3 by omega)
  have e4 := beq_no (show k ≠ 4 by omega)
  have e5 := beq_no (show k ≠ 5 by omega)
  have e6 := beq_no (show k ≠ 6 by omega)
  have e7 := beq_no (show k ≠ 20 by omega)
  go_enter Tryz.func83, Tryz.ntmps83
  go_wp2_with fail
  go_ret
  exact ⟨rfl, rfl⟩
set_option maxHeartbeats 1000000 in
theorem args_high (k : Int) (w : World) (h : 20 < k) : Calls Tryz.prog 83 #[.int .i64 k] w fun e w' => e = .returned (.int .i64 (-2)) ∧ w' = w := by
  have e1 := beq_no (show k ≠ 1 by omega)
  have e2 := beq_no (show k ≠ 2 by omega)
  have e3 := beq_no (show k ≠ 3 by omega)
  have e4 := beq_no (show k ≠ 4 by omega)
  have e5 := beq_no (show k ≠ 5 by omega)
  have e6 := beq_no (show k ≠ 6 by omega)
  have e7 := beq_no (show k ≠ 20 by omega)
  go_enter Tryz.func83, Tryz.ntmps83
  go_wp2_with fail
  go_ret
  exact ⟨rfl, rfl⟩
set_option maxHeartbeats 4000000 in
theorem args_any (k : Int) (w : World) : Calls Tryz.prog 83 #[.int .i64 k] w fun e w' => e = .returned (.int .i64 (argsZ k)) ∧ w' = w := by
  cases hk : isE k
  · rw [argsZ_not hk]
    simp [isE] at hk
    by_cases h : k < 1
    · exact args_low k w h
    · exact args_high k w (by omega)
  · rcases kindE_of hk with h | rfl | rfl | rfl | rfl | rfl | rfl | rfl
    · have e : argsZ k = 2 := by
        unfold argsZ; rw [if_neg (by omega), if_neg (by omega), if_neg (by omega), if_pos h]
      rw [e]; exact args_mid k w h.1 h.2
    all_goals
      clear hk
      go_enter Tryz.func83, Tryz.ntmps83
      go_wp2_with fail
      go_ret
      exact ⟨rfl, rfl⟩

set_option maxHeartbeats 1000000 in
theorem named_any (k : Int) (w : World) : Calls Tryz.prog 84 #[.int .i64 k] w fun e w' => e = .returned (.bool (namedZ k)) ∧ w' = w := by
  cases e2 : (k == 2)
  · cases e3 : (k == 3)
    · go_enter Tryz.func84, Tryz.ntmps84
      go_wp2_with fail
      go_ret
      exact ⟨ret_bool (by unfold namedZ; rw [e2, e3]; rfl), rfl⟩
    · go_enter Tryz.func84, Tryz.ntmps84
      go_wp2_with fail
      go_ret
      exact ⟨ret_bool (by unfold namedZ; rw [e2, e3]; rfl), rfl⟩
  · go_enter Tryz.func84, Tryz.ntmps84
    go_wp2_with fail
    go_ret
    exact ⟨ret_bool (by unfold namedZ; rw [e2]; rfl), rfl⟩

def cV (k : Int) : Value := .agg #[.bool (cB k 0), .bool (cB k 1), .bool (cB k 2), .bool (cB k 3), .bool (cB k 4), .bool (cB k 5), .bool (cB k 6)]
theorem cV_not {k : Int} (h : isS k = false) : cV k = .agg #[.bool false, .bool false, .bool false, .bool false, .bool false, .bool false, .bool false] := by
  simp [cV, cB, h]
set_option maxHeartbeats 4000000 in
theorem counts_any (k : Int) (w : World) : Calls Tryz.prog 53 #[.int .i64 k] w fun e w' => e = .returned (cV k) ∧ Below w.heap.size w w' := by
  have hb : ∀ o, Below w.heap.size w (w.alloc o) := fun o => (Below.refl _ w).alloc (Nat.le_refl _) o
  have HB : Hid (∀ o, Below w.heap.size w (w.alloc o)) := hb
  clear hb
  cases hk : isS k
  · rw [cV_not hk]
    simp [isS] at hk
    have e1 := beq_no (show k ≠ 1 by omega)
    have e2 := beq_no (show k ≠ 2 by omega)
    have e3 := beq_no (show k ≠ 3 by omega)
    have e4 := beq_no (show k ≠ 4 by omega)
    have e5 := beq_no (show k ≠ 5 by omega)
    have e6 := beq_no (show k ≠ 6 by omega)
    have e7 := beq_no (show k ≠ 7 by omega)
    have e9 := beq_no (show k ≠ 9 by omega)
    have e10 := beq_no (show k ≠ 10 by omega)
    clear hk
    go_enter Tryz.func53, Tryz.ntmps53
    go_wp2_with fail
    refine bodyPost_ret (v := .agg #[.bool false, .bool false, .bool false, .bool false, .bool false, .bool false, .bool false]) (by simp [results, Tryz.results53, go_sem]) rfl ⟨rfl, HB.out _⟩
  · rcases kindS_of hk with rfl | rfl | rfl | rfl | rfl | rfl | rfl | rfl | rfl | rfl
    · clear hk
      rw [show cV 1 = .agg #[.bool true, .bool false, .bool true, .bool false, .bool false, .bool false, .bool false] from rfl]
      go_enter Tryz.func53, Tryz.ntmps53
      go_wp2_with fail
      refine bodyPost_ret (v := .agg #[.bool true, .bool false, .bool true, .bool false, .bool false, .bool false, .bool false]) (by simp [results, Tryz.results53, go_sem]) rfl ⟨rfl, HB.out _⟩
    · clear hk
      rw [show cV 2 = .agg #[.bool true, .bool true, .bool false, .bool false, .bool false, .bool false, .bool false] from rfl]
      go_enter Tryz.func53, Tryz.ntmps53
      go_wp2_with fail
      refine bodyPost_ret (v := .agg #[.bool true, .bool true, .bool false, .bool false, .bool false, .bool false, .bool false]) (by simp [results, Tryz.results53, go_sem]) rfl ⟨rfl, HB.out _⟩
    · clear hk
      rw [show cV 3 = .agg #[.bool true, .bool false, .bool true, .bool false, .bool false, .bool false, .bool false] from rfl]
      go_enter Tryz.func53, Tryz.ntmps53
      go_wp2_with fail
      refine bodyPost_ret (v := .agg #[.bool true, .bool false, .bool true, .bool false, .bool false, .bool false, .bool false]) (by simp [results, Tryz.results53, go_sem]) rfl ⟨rfl, HB.out _⟩
    · clear hk
      rw [show cV 4 = .agg #[.bool true, .bool false, .bool true, .bool true, .bool false, .bool false, .bool false] from rfl]
      go_enter Tryz.func53, Tryz.ntmps53
      go_wp2_with fail
      refine bodyPost_ret (v := .agg #[.bool true, .bool false, .bool true, .bool true, .bool false, .bool false, .bool false]) (by simp [results, Tryz.results53, go_sem]) rfl ⟨rfl, HB.out _⟩
    · clear hk
      rw [show cV 5 = .agg #[.bool false, .bool false, .bool true, .bool false, .bool true, .bool true, .bool false] from rfl]
      go_enter Tryz.func53, Tryz.ntmps53
      go_wp2_with fail
      refine bodyPost_ret (v := .agg #[.bool false, .bool false, .bool true, .bool false, .bool true, .bool true, .bool false]) (by simp [results, Tryz.results53, go_sem]) rfl ⟨rfl, HB.out _⟩
    · clear hk
      rw [show cV 6 = .agg #[.bool false, .bool false, .bool true, .bool false, .bool false, .bool true, .bool true] from rfl]
      go_enter Tryz.func53, Tryz.ntmps53
      go_wp2_with fail
      refine bodyPost_ret (v := .agg #[.bool false, .bool false, .bool true, .bool false, .bool false, .bool true, .bool true]) (by simp [results, Tryz.results53, go_sem]) rfl ⟨rfl, HB.out _⟩
    · clear hk
      rw [show cV 7 = .agg #[.bool true, .bool false, .bool true, .bool true, .bool true, .bool false, .bool false] from rfl]
      go_enter Tryz.func53, Tryz.ntmps53
      go_wp2_with fail
      refine bodyPost_ret (v := .agg #[.bool true, .bool false, .bool true, .bool true, .bool true, .bool false, .bool false]) (by simp [results, Tryz.results53, go_sem]) rfl ⟨rfl, HB.out _⟩
    · clear hk
      rw [show cV 8 = .agg #[.bool false, .bool false, .bool false, .bool false, .bool false, .bool false, .bool false] from rfl]
      go_enter Tryz.func53, Tryz.ntmps53
      go_wp2_with fail
      refine bodyPost_ret (v := .agg #[.bool false, .bool false, .bool false, .bool false, .bool false, .bool false, .bool false]) (by simp [results, Tryz.results53, go_sem]) rfl ⟨rfl, HB.out _⟩
    · clear hk
      rw [show cV 9 = .agg #[.bool false, .bool false, .bool true, .bool false, .bool false, .bool false, .bool false] from rfl]
      go_enter Tryz.func53, Tryz.ntmps53
      go_wp2_with fail
      refine bodyPost_ret (v := .agg #[.bool false, .bool false, .bool true, .bool false, .bool false, .bool false, .bool false]) (by simp [results, Tryz.results53, go_sem]) rfl ⟨rfl, HB.out _⟩
    · clear hk
      rw [show cV 10 = .agg #[.bool false, .bool false, .bool true, .bool false, .bool false, .bool false, .bool false] from rfl]
      go_enter Tryz.func53, Tryz.ntmps53
      go_wp2_with fail
      refine bodyPost_ret (v := .agg #[.bool false, .bool false, .bool true, .bool false, .bool false, .bool false, .bool false]) (by simp [results, Tryz.results53, go_sem]) rfl ⟨rfl, HB.out _⟩

set_option maxRecDepth 100000 in
set_option maxHeartbeats 1000000 in
theorem lowest_any (l : List Ca) (a : Option Addr) (c : Nat) (w : World) (hin : LiesC w a c l) : Calls Tryz.prog 55 #[.slice a l.length c] w fun e w' => e = .returned (.bool (leastC l)) ∧ Below w.heap.size w w' := by
  obtain ⟨hl, hc, _, hrow⟩ := hin
  have HR : Hid (RowIn w a 2 (List.map Ca.cells l)) := hrow
  clear hrow
  go_enter Tryz.func55, Tryz.ntmps55
  go_wp2_with fail
  go_loopw [3] (fun t7 wr => ∃ (j : Nat), j ≤ l.length ∧ t7 = .int .i64 j ∧ leastC (l.drop j) = leastC l ∧ Below w.heap.size w wr) (fun t7 _ => l.length - (intOf t7).toNat)
  case atStart => exact ⟨0, Nat.zero_le _, rfl, rfl, Below.refl _ w⟩
  case round =>
    obtain ⟨j, hj, rfl, hcnt, hb⟩ := hrel
    have HC : Hid (leastC (l.drop j) = leastC l) := hcnt
    clear hcnt
    have hws := hb.size
    by_cases hlt : j < l.length
    · obtain ⟨b, o, rfl, c0, c1⟩ := rowC_at (HR.out.below hb) hlt
      have hli : (j : Int) < (l.length : Int) := by omega
      have HD : Hid (leastC (l.drop j) = (l[j].n == -9223372036854775808 || leastC (l.drop (j + 1)))) := leastC_drop hlt
      generalize l[j] = s at *
      cases hm : (s.n == -9223372036854775808)
      · go_wp2_with fail
        go_roundw
        case rel => exact ⟨j + 1, by omega, by go_num, by rw [← HC.out, HD.out, hm]; rfl, hb⟩
        case measure => simp [intOf]; omega
      · go_wp2_with fail
        go_ret
        exact ⟨ret_bool (by rw [← HC.out, HD.out, hm]; rfl), hb⟩
    · go_wp2_with fail
      go_ret
      exact ⟨ret_bool (by rw [← HC.out, List.drop_eq_nil_of_le (by omega)]; rfl), hb⟩
end Go.Proofs.YtbpemackmadhgaaGreatDoor

/- Texts as lists of bytes. -/
namespace Go.Proofs.YtbpemackmadhgaaGreatDoor
open Go.RowKit Go.Sort

abbrev tb (l : List UInt8) : ByteArray := ⟨l.toArray⟩
theorem tb_size (l : List UInt8) : (tb l).size = l.length := by simp [ByteArray.size]
theorem tb_app (l t : List UInt8) : tb l ++ tb t = tb (l ++ t) := by
  apply ByteArray.ext; simp
theorem tb_of (s : ByteArray) : tb s.data.toList = s := by apply ByteArray.ext; simp
theorem retS {a b : ByteArray} (h : a = b) : Ending.returned (.string a) = .returned (.string b) := by rw [h]

end Go.Proofs.YtbpemackmadhgaaGreatDoor

/- The document's own Number: a number's digits. -/
namespace Go.Proofs.YtbpemackmadhgaaGreatDoor
open Go.RowKit Go.Sort

theorem u8_dig {n : Int} (h0 : 0 ≤ n) (h1 : n < 10) : UInt8.ofNat (48 + n.toNat) = UInt8.ofNat (48 + n).toNat := by
  congr 1; omega

theorem run_byte (n : Int) (h0 : 0 ≤ n) (h1 : n < 10) (W : World) (g : Nat) (hc : W.cell? ⟨g, 0, none⟩ = some (.int .u8 (48 + n))) :
    (convert 57 9 (.slice (some ⟨g, 0, none⟩) 1 1)).run Tryz.prog W = .ok (.string (tb [UInt8.ofNat (48 + n.toNat)])) W :=
  run_convert_bytes_back W 57 9 5 ⟨g, 0, none⟩ 1 [UInt8.ofNat (48 + n.toNat)] Tryz.underlying57 Tryz.underlying5 Tryz.underlying9 fun j hj => by
    obtain rfl : j = 0 := by simpa using hj
    show W.cell? ⟨g, 0, none⟩ = _
    rw [hc]
    have : (48 + n.toNat) % 256 = 48 + n.toNat := Nat.mod_eq_of_lt (by omega)
    simp [UInt8.toNat_ofNat, this]
    omega

set_option maxRecDepth 100000 in
set_option maxHeartbeats 1000000 in
theorem rnum_small (u : Nat) (w : World) (h : u < 10) : Calls Tryz.prog 20 #[.int .i64 u] w fun e w' => e = .returned (.string (tb (Lib.decDigits u))) ∧ Below w.heap.size w w' := by
  have hb := (Below.refl _ w).alloc (Nat.le_refl _) (.cells #[.int .u8 (48 + u)] 5)
  rw [Lib.decDigits_one h]
  have e1 := beq_no (show (u : Int) ≠ -9223372036854775808 by omega)
  have hr := run_byte u (by omega) (by omega) (w.alloc (.cells #[.int .u8 (48 + u)] 5)) w.heap.size (by rw [World.cell?_alloc_at _ _ _ _ rfl]; rfl)
  go_enter Tryz.func20, Tryz.ntmps20
  go_wp2_with fail
  go_ret
  exact ⟨retS (by simp), hb⟩

set_option maxRecDepth 100000 in
set_option maxHeartbeats 400000 in
theorem rnum_big (n q m : Int) (w : World) (A Z : ByteArray) (h : 10 ≤ n) (h2 : n ≤ 9223372036854775807) (hq : n / 10 = q) (hm : n % 10 = m) (hA : A.size ≤ 21) (hZ : Z.size ≤ 21)
    (ih : ∀ w, Calls Tryz.prog 20 #[.int .i64 q] w fun e w' => e = .returned (.string A) ∧ Below w.heap.size w w')
    (hr : ∀ (W : World) (g : Nat), W.cell? ⟨g, 0, none⟩ = some (.int .u8 (48 + m)) → (convert 57 9 (.slice (some ⟨g, 0, none⟩) 1 1)).run Tryz.prog W = .ok (.string Z) W) :
    Calls Tryz.prog 20 #[.int .i64 n] w fun e w' => e = .returned (.string (A ++ Z)) ∧ Below w.heap.size w w' := by
  have IH : Hid (∀ w, Calls Tryz.prog 20 #[.int .i64 q] w fun e w' => e = .returned (.string A) ∧ Below w.heap.size w w') := ih
  have e1 := beq_no (show n ≠ -9223372036854775808 by omega)
  have q1 : n.tdiv 10 = q := by rw [Int.tdiv_eq_ediv_of_nonneg (by omega)]; exact hq
  have q2 : n.tmod 10 = m := by rw [Int.tmod_eq_emod_of_nonneg (by omega)]; exact hm
  have hq0 : 0 ≤ q := by omega
  have hq1 : q ≤ 9223372036854775807 := by omega
  have hm0 : 0 ≤ m := by omega
  have hm1 : m < 10 := by omega
  have w1 : IntKind.i64.wrap q = q := by rw [IntKind.wrap_i64]; omega
  have w2 : IntKind.i64.wrap m = m := by rw [IntKind.wrap_i64]; omega
  have w3 : IntKind.i64.wrap (48 + m) = 48 + m := by rw [IntKind.wrap_i64]; omega
  have w4 : IntKind.u8.wrap (48 + m) = 48 + m := by rw [IntKind.wrap_u8]; omega
  clear ih
  go_enter Tryz.func20, Tryz.ntmps20
  go_wp2_with fail
  go_region_held (fun w' => Below w.heap.size w w') (first | assumption | exact Below.drew (Below.refl _ _) | exact Below.on (by assumption) (by assumption) | exact Below.one (by assumption) _)
    (first | (go_at_call 20; with_reducible refine (IH.out _).mono ?_; rintro e w' ⟨rfl, hb⟩; have hcl := fun (g : Nat) (h : g < _) => hb.cell (p := ⟨g, 0, none⟩) h))
  all_goals go_wp2_with fail
  all_goals go_ret
  all_goals exact ⟨rfl, by first | assumption | exact Below.on (by assumption) (by assumption) | exact Below.one (by assumption) _⟩
theorem rnum_nat (k : Nat) : ∀ (u : Nat) (w : World), u < k → u ≤ 9223372036854775807 → Calls Tryz.prog 20 #[.int .i64 u] w fun e w' => e = .returned (.string (tb (Lib.decDigits u))) ∧ Below w.heap.size w w' := by
  induction k with
  | zero => intro u w h; omega
  | succ k ih =>
    intro u w hk h2
    by_cases h : u < 10
    · exact rnum_small u w h
    · have hD : tb (Lib.decDigits u) = tb (Lib.decDigits (u / 10)) ++ tb [UInt8.ofNat (48 + u % 10)] := by
        rw [Lib.decDigits, dif_neg h, tb_app]
      rw [hD]
      refine rnum_big u ((u / 10 : Nat) : Int) ((u % 10 : Nat) : Int) w _ _ (by omega) (by omega) (by omega) (by omega) ?_ (by rw [tb_size]; simp) (fun w' => ih (u / 10) w' (by omega) (by omega)) ?_
      · rw [tb_size, ← Lib.itoa_nonneg]; exact Lib.itoa_length_le _ (by omega) (by omega)
      · exact fun W g hc => run_byte ((u % 10 : Nat) : Int) (by omega) (by omega) W g hc
set_option maxRecDepth 100000 in
set_option maxHeartbeats 400000 in
theorem rnum_neg (n : Int) (w : World) (A : ByteArray) (h : n < 0) (h2 : -9223372036854775807 ≤ n) (hA : A.size ≤ 21)
    (ih : ∀ w, Calls Tryz.prog 20 #[.int .i64 (-n)] w fun e w' => e = .returned (.string A) ∧ Below w.heap.size w w') :
    Calls Tryz.prog 20 #[.int .i64 n] w fun e w' => e = .returned (.string (tb [45] ++ A)) ∧ Below w.heap.size w w' := by
  have IH : Hid (∀ w, Calls Tryz.prog 20 #[.int .i64 (-n)] w fun e w' => e = .returned (.string A) ∧ Below w.heap.size w w') := ih
  have e1 := beq_no (show n ≠ -9223372036854775808 by omega)
  have w1 : IntKind.i64.wrap (-n) = -n := by rw [IntKind.wrap_i64]; omega
  clear ih
  go_enter Tryz.func20, Tryz.ntmps20
  go_wp2_with fail
  refine (IH.out _).mono ?_
  rintro e w' ⟨rfl, hb⟩
  go_wp2_with fail
  go_ret
  exact ⟨rfl, hb⟩
set_option maxRecDepth 100000 in
theorem rnum_least (w : World) : Calls Tryz.prog 20 #[.int .i64 (-9223372036854775808)] w fun e w' => e = .returned (.string (tb [45, 57, 50, 50, 51, 51, 55, 50, 48, 51, 54, 56, 53, 52, 55, 55, 53, 56, 48, 56])) ∧ Below w.heap.size w w' := by
  go_enter Tryz.func20, Tryz.ntmps20
  go_wp2_with fail
  go_ret
  exact ⟨rfl, Below.refl _ _⟩
theorem least_text : Lib.itoa (-9223372036854775808) = [45, 57, 50, 50, 51, 51, 55, 50, 48, 51, 54, 56, 53, 52, 55, 55, 53, 56, 48, 56] := by
  have h : ∀ u v : Nat, ¬ u < 10 → u / 10 = v → Lib.decDigits u = Lib.decDigits v ++ [UInt8.ofNat (48 + u % 10)] := fun u v h1 h2 => by rw [Lib.decDigits, dif_neg h1, h2]
  show 45 :: Lib.decDigits 9223372036854775808 = _
  rw [h 9223372036854775808 922337203685477580 (by omega) rfl, h 922337203685477580 92233720368547758 (by omega) rfl, h 92233720368547758 9223372036854775 (by omega) rfl, h 9223372036854775 922337203685477 (by omega) rfl, h 922337203685477 92233720368547 (by omega) rfl, h 92233720368547 9223372036854 (by omega) rfl, h 9223372036854 922337203685 (by omega) rfl, h 922337203685 92233720368 (by omega) rfl, h 92233720368 9223372036 (by omega) rfl, h 9223372036 922337203 (by omega) rfl, h 922337203 92233720 (by omega) rfl, h 92233720 9223372 (by omega) rfl, h 9223372 922337 (by omega) rfl, h 922337 92233 (by omega) rfl, h 92233 9223 (by omega) rfl, h 9223 922 (by omega) rfl, h 922 92 (by omega) rfl, h 92 9 (by omega) rfl, Lib.decDigits_one (by omega)]
  rfl
theorem rnum_any (n : Int) (w : World) (h : I64 n) : Calls Tryz.prog 20 #[.int .i64 n] w fun e w' => e = .returned (.string (tb (Lib.itoa n))) ∧ Below w.heap.size w w' := by
  obtain ⟨h1, h2⟩ := h
  by_cases h0 : n < 0
  · by_cases he : n = -9223372036854775808
    · subst he; rw [least_text]; exact rnum_least w
    · obtain ⟨u, rfl⟩ : ∃ u : Nat, n = -(u : Int) := ⟨(-n).toNat, by omega⟩
      rw [Lib.itoa_neg u (by omega), show tb (45 :: Lib.decDigits u) = tb [45] ++ tb (Lib.decDigits u) from (tb_app [45] _).symm]
      refine rnum_neg _ w _ h0 (by omega) ?_ fun w' => ?_
      · rw [tb_size, ← Lib.itoa_nonneg]; exact Lib.itoa_length_le _ (by omega) (by omega)
      · rw [Int.neg_neg]; exact rnum_nat _ u w' (Nat.lt_succ_self _) (by omega)
  · obtain ⟨u, rfl⟩ : ∃ u : Nat, n = (u : Int) := ⟨n.toNat, by omega⟩
    rw [Lib.itoa_nonneg]; exact rnum_nat _ u w (Nat.lt_succ_self _) (by omega)
end Go.Proofs.YtbpemackmadhgaaGreatDoor

/- The document's own Rank, Sign and line. -/
namespace Go.Proofs.YtbpemackmadhgaaGreatDoor
open Go.RowKit Go.Sort

theorem kinds_all {k : Int} (h : isE k = true) : k = 1 ∨ k = 2 ∨ k = 3 ∨ k = 4 ∨ k = 5 ∨ k = 6 ∨ k = 7 ∨ k = 8 ∨ k = 9 ∨ k = 10 ∨ k = 11 ∨ k = 12 ∨ k = 13 ∨ k = 14 ∨ k = 15 ∨ k = 16 ∨ k = 17 ∨ k = 18 ∨ k = 19 ∨ k = 20 := by
  simp [isE] at h; omega
set_option maxHeartbeats 4000000 in
theorem rrank_any (k : Int) (w : World) (hk : isE k = true) : Calls Tryz.prog 91 #[.int .i64 k] w fun e w' => e = .returned (.int .i64 (rkE k)) ∧ w' = w := by
  rcases kinds_all hk with rfl | rfl | rfl | rfl | rfl | rfl | rfl | rfl | rfl | rfl | rfl | rfl | rfl | rfl | rfl | rfl | rfl | rfl | rfl | rfl
  all_goals
    clear hk
    go_enter Tryz.func91, Tryz.ntmps91
    go_wp2_with fail
    go_ret
    exact ⟨rfl, rfl⟩
set_option maxHeartbeats 4000000 in
theorem rsign_any (k : Int) (w : World) (h0 : 7 ≤ k) (h1 : k ≤ 19) : Calls Tryz.prog 94 #[.int .i64 k] w fun e w' => e = .returned (.string (tb (sgE k))) ∧ Below w.heap.size w w' := by
  have HB : Hid (∀ o, Below w.heap.size w (w.alloc o)) := fun o => (Below.refl _ w).alloc (Nat.le_refl _) o
  have h : k = 7 ∨ k = 8 ∨ k = 9 ∨ k = 10 ∨ k = 11 ∨ k = 12 ∨ k = 13 ∨ k = 14 ∨ k = 15 ∨ k = 16 ∨ k = 17 ∨ k = 18 ∨ k = 19 := by omega
  clear h0 h1
  rcases h with rfl | rfl | rfl | rfl | rfl | rfl | rfl | rfl | rfl | rfl | rfl | rfl | rfl
  all_goals
    go_enter Tryz.func94, Tryz.ntmps94
    go_wp2_with fail
    go_ret
    exact ⟨rfl, HB.out _⟩

theorem repl_two' (j : Nat) : tb (List.replicate (2 * j) (32 : UInt8)) ++ (⟨#[32, 32]⟩ : ByteArray) = tb (List.replicate (2 * (j + 1)) 32) := by
  rw [show (⟨#[32, 32]⟩ : ByteArray) = tb [32, 32] from rfl, tb_app]
  congr 2
  exact repl_two j
set_option maxRecDepth 100000 in
set_option maxHeartbeats 1000000 in
theorem rline_any (t : List UInt8) (d : Nat) (w : World) (hd : d ≤ 100) (ht : t.length ≤ 1000000000) : Calls Tryz.prog 21 #[.string (tb t), .int .i64 d] w fun e w' => e = .returned (.string (tb (lineB d t))) ∧ w' = w := by
  have HE : Hid (tb (lineB d t) = tb (List.replicate (2 * d) 32) ++ tb t ++ tb [10]) := by
    show _ = _; rw [tb_app, tb_app]; rfl
  rw [HE.out]
  have hs := tb_size t
  generalize tb t = T at *
  have hT : T.size ≤ 1000000000 := by omega
  clear hs ht HE
  go_enter Tryz.func21, Tryz.ntmps21
  go_wp2_with fail
  go_loopw [5, 6] (fun t5 t6 wr => ∃ (j : Nat), j ≤ d ∧ t5 = .string (tb (List.replicate (2 * j) 32)) ∧ t6 = .int .i64 j ∧ wr = w) (fun _ t6 _ => d - (intOf t6).toNat)
  case atStart => exact ⟨0, Nat.zero_le _, rfl, rfl, rfl⟩
  case round =>
    obtain ⟨j, hj, rfl, rfl, hwr⟩ := hrel
    obtain rfl := hwr.symm
    have hsz : (tb (List.replicate (2 * j) (32 : UInt8))).size ≤ 200 := by rw [tb_size]; simp; omega
    have HN : Hid (tb (List.replicate (2 * j) (32 : UInt8)) ++ (⟨#[32, 32]⟩ : ByteArray) = tb (List.replicate (2 * (j + 1)) 32)) := repl_two' j
    by_cases hlt : j < d
    · have hli : (j : Int) < (d : Int) := by omega
      generalize tb (List.replicate (2 * j) (32 : UInt8)) = R at *
      go_wp2_with fail
      go_roundw
      case rel => exact ⟨j + 1, by omega, by rw [HN.out], by go_num, trivial⟩
      case measure => simp [intOf]; omega
    · have hli : ¬ (j : Int) < (d : Int) := by omega
      obtain rfl : j = d := by omega
      obtain ⟨R, HRE⟩ : ∃ R, Hid (tb (List.replicate (2 * j) (32 : UInt8)) = R) := ⟨_, rfl⟩
      rw [HRE.out] at hsz
      rw [HRE.out]
      go_wp2_with fail
      go_ret
      exact ⟨retS (by rw [HRE.out]), rfl⟩
end Go.Proofs.YtbpemackmadhgaaGreatDoor

/- The document's own look at a function's head. -/
namespace Go.Proofs.YtbpemackmadhgaaGreatDoor
open Go.RowKit Go.Sort

/-- A block that holds these cells. -/
def BoxL (W : World) (B : Nat) (cs : List Value) : Prop := ∀ (i : Nat) v, cs[i]? = some v → W.cell? ⟨B, i, none⟩ = some v
theorem BoxL.below {n : Nat} {W W' : World} {B : Nat} {cs : List Value} (h : BoxL W B cs) (hb : Below n W W') (hB : B < n) : BoxL W' B cs := fun i v hi => (hb.cell (p := ⟨B, i, none⟩) hB).trans (h i v hi)
theorem boxL_new (w : World) (cs : Array Value) (t : TypeId) : BoxL (w.alloc (.cells cs t)) w.heap.size cs.toList := by
  intro i v h
  rw [World.cell?_alloc_at _ _ _ _ rfl]; simpa using h

set_option maxRecDepth 100000 in
set_option maxHeartbeats 2000000 in
theorem face_any (f : Fu) (w : World) (hin : f.In w) : Calls Tryz.prog 15 #[f.val] w fun e w' => e = .returned (.int .i64 (headZ f)) ∧ Below w.heap.size w w' := by
  obtain ⟨_, hl, hc, _, hrow, _, _⟩ := hin
  have HR : Hid (RowIn w f.pa 3 (List.map Pa.cells f.params)) := hrow
  have HN : Hid (∀ s w, Calls Tryz.prog 33 #[.string s] w fun e w' => e = .returned (.bool (nameZ s)) ∧ Below w.heap.size w w') := fun s w => rName_any s w
  have HE : Hid (headZ f = if nameZ f.name = false then 8 else if 8 < f.params.length then 3 else parsZ f.params) := (rfl : headZ f = _)
  clear hrow
  generalize headZ f = res at HE ⊢
  have hb0 := (Below.refl _ w).alloc (Nat.le_refl _) (.cells #[.string f.name, .slice f.pa f.params.length f.pc, .slice f.ba f.body.length f.bc] 45)
  have HBX := boxL_new w #[.string f.name, .slice f.pa f.params.length f.pc, .slice f.ba f.body.length f.bc] 45
  unfold Fu.val
  go_enter Tryz.func15, Tryz.ntmps15
  go_wp2_with fail
  refine (HN.out _ _).mono ?_
  rintro r w1 ⟨rfl, hb1⟩
  have hb2 : Below w.heap.size w w1 := hb0.trans (hb1.mono (by simp))
  have BX : Hid (BoxL w1 w.heap.size [.string f.name, .slice f.pa f.params.length f.pc, .slice f.ba f.body.length f.bc]) := HBX.below hb1 (by simp)
  have hs1 : w.heap.size < w1.heap.size := by have := hb1.size; simp at this; omega
  clear hb0 hb1 HBX
  have c1 := BX.out 1 _ rfl
  cases e1 : nameZ f.name
  · go_wp2_with fail
    go_ret
    exact ⟨ret_int (by rw [HE.out, e1]; rfl), hb2⟩
  · by_cases e2 : 8 < f.params.length
    · have e2' : (8 : Int) < (f.params.length : Int) := by omega
      go_wp2_with fail
      go_ret
      exact ⟨ret_int (by rw [HE.out, e1]; simp [e2]), hb2⟩
    · have HF : Hid (res = parsZ f.params) := (by rw [HE.out, e1]; simp [e2] : res = parsZ f.params)
      have e2' : ¬ (8 : Int) < (f.params.length : Int) := by omega
      clear HE
      go_wp2_with fail
      go_loopw [3] (fun t16 wr => ∃ (j : Nat), j ≤ f.params.length ∧ t16 = .int .i64 j ∧ parsZ (f.params.drop j) = res ∧ Below w.heap.size w wr ∧ w.heap.size < wr.heap.size ∧ BoxL wr w.heap.size [.string f.name, .slice f.pa f.params.length f.pc, .slice f.ba f.body.length f.bc]) (fun t16 _ => f.params.length - (intOf t16).toNat)
      case atStart => exact ⟨0, Nat.zero_le _, rfl, HF.out.symm, hb2, hs1, BX.out⟩
      case round =>
        obtain ⟨j, hj, rfl, hcnt, hb, hsr, hbx⟩ := hrel
        have HC : Hid (parsZ (f.params.drop j) = res) := hcnt
        have HBX : Hid (BoxL wr w.heap.size [.string f.name, .slice f.pa f.params.length f.pc, .slice f.ba f.body.length f.bc]) := hbx
        have c1 := hbx 1 _ rfl
        clear hcnt e1 hbx
        by_cases hlt : j < f.params.length
        · obtain ⟨b, o, hpa, d0, d1, d2⟩ := rowP_at (HR.out.below hb) hlt
          have hbr : b < w.heap.size := by
            obtain ⟨b', o', hpa', g0, _, _⟩ := rowP_at HR.out hlt
            rw [hpa] at hpa'
            cases hpa'
            exact lt_of_cell g0
          have HPA : Hid (f.pa = some ⟨b, o, none⟩) := hpa
          rw [hpa] at c1
          clear hpa
          have hli : (j : Int) < (f.params.length : Int) := by omega
          have HD : Hid (parsZ (f.params.drop j) = if nameZ f.params[j].name = false then 8 else if (f.params[j].lo == -9223372036854775808 || f.params[j].hi == -9223372036854775808) = true then 1 else parsZ (f.params.drop (j + 1))) := parsZ_drop hlt
          generalize f.params[j] = p at *
          go_wp2_with fail
          refine (HN.out _ _).mono ?_
          rintro r w2 ⟨rfl, hb3⟩
          have k1 : w2.cell? ⟨b, o + j * 3 + 1, none⟩ = some (.int .i64 p.lo) := (hb3.cell (p := ⟨b, o + j * 3 + 1, none⟩) (by show b < _; omega)).trans d1
          have k2 : w2.cell? ⟨b, o + j * 3 + 2, none⟩ = some (.int .i64 p.hi) := (hb3.cell (p := ⟨b, o + j * 3 + 2, none⟩) (by show b < _; omega)).trans d2
          have HBX2 : Hid (BoxL w2 w.heap.size [.string f.name, .slice f.pa f.params.length f.pc, .slice f.ba f.body.length f.bc]) := HBX.out.below hb3 hsr
          have hb4 : Below w.heap.size w w2 := hb.trans (hb3.mono (by omega))
          have hs2 : w.heap.size < w2.heap.size := by have := hb3.size; omega
          have c1' := HBX2.out 1 _ rfl
          rw [HPA.out] at c1'
          clear hb3 d0 d1 d2 c1 hb HBX
          cases e3 : nameZ p.name
          · go_wp2_with fail
            go_ret
            exact ⟨ret_int (by rw [← HC.out, HD.out, e3]; rfl), hb4⟩
          · cases e4 : (p.lo == -9223372036854775808)
            · cases e5 : (p.hi == -9223372036854775808)
              · go_wp2_with fail
                go_roundw
                case rel => exact ⟨j + 1, by omega, by go_num, by rw [← HC.out, HD.out, e3, e4, e5]; rfl, hb4, hs2, HBX2.out⟩
                case measure => simp [intOf]; omega
              · go_wp2_with fail
                go_ret
                exact ⟨ret_int (by rw [← HC.out, HD.out, e3, e4, e5]; rfl), hb4⟩
            · go_wp2_with fail
              go_ret
              exact ⟨ret_int (by rw [← HC.out, HD.out, e3, e4]; rfl), hb4⟩
        · have hli : ¬ (j : Int) < (f.params.length : Int) := by omega
          go_wp2_with fail
          go_ret
          exact ⟨ret_int (by rw [← HC.out, List.drop_eq_nil_of_le (by omega), parsZ]), hb⟩
end Go.Proofs.YtbpemackmadhgaaGreatDoor

/- The document's own within and list. -/
namespace Go.Proofs.YtbpemackmadhgaaGreatDoor
open Go.RowKit Go.Sort

theorem comB_snoc : ∀ (l : List (List UInt8)) (x : List UInt8), comB (l ++ [x]) = (if l = [] then [] else comB l ++ [44, 32]) ++ x
  | [], x => by simp [comB]
  | [a], x => by simp [comB]
  | a :: b :: r, x => by
    have ih := comB_snoc (b :: r) x
    rw [if_neg (by simp)] at ih
    rw [List.cons_append, List.cons_append, comB, ← List.cons_append, ih, if_neg (by simp), comB]
    simp
theorem comB_take (l : List (List UInt8)) (j : Nat) (h : j < l.length) : comB (l.take (j + 1)) = (if j = 0 then [] else comB (l.take j) ++ [44, 32]) ++ l[j] := by
  rw [List.take_succ_eq_append_getElem h, comB_snoc]
  cases j with
  | zero => simp
  | succ j =>
    have : l.take (j + 1) ≠ [] := by
      intro e; have := congrArg List.length e; simp at this; subst this; simp at h
    rw [if_neg this, if_neg (by omega)]

theorem comB_le (l : List (List UInt8)) (j : Nat) : (comB (l.take j)).length ≤ (comB l).length := by
  rcases Nat.lt_or_ge j l.length with h | h
  · have key : ∀ n, (comB (l.take j)).length ≤ (comB (l.take (j + n))).length := fun n => by
      induction n with
      | zero => exact Nat.le_refl _
      | succ n ih =>
        rcases Nat.lt_or_ge (j + n) l.length with h2 | h2
        · refine Nat.le_trans ih ?_
          rw [← Nat.add_assoc, comB_take l (j + n) h2]
          split
          · rename_i e
            have hz : comB (l.take (j + n)) = [] := by rw [e]; simp [comB]
            rw [hz]; simp
          · simp only [List.length_append]; omega
        · rw [List.take_of_length_le h2] at ih
          rw [List.take_of_length_le (show l.length ≤ j + (n + 1) by omega)]; exact ih
    have := key (l.length - j)
    rwa [show j + (l.length - j) = l.length by omega, List.take_length] at this
  · rw [List.take_of_length_le h]; exact Nat.le_refl _
set_option maxRecDepth 100000 in
set_option maxHeartbeats 1000000 in
theorem rwithin_of (x : Ex) (r : Int) (w : World) (hx : isE x.kind = true) (hl : (txE x).length ≤ 1000000000)
    (hX : ∀ w', Below w.heap.size w w' → Calls Tryz.prog 63 #[x.val] w' fun e w'' => e = .returned (.string (tb (txE x))) ∧ Below w'.heap.size w' w'') :
    Calls Tryz.prog 93 #[x.val, .int .i64 r] w fun e w' => e = .returned (.string (tb (wiB (rkE x.kind) r (txE x)))) ∧ Below w.heap.size w w' := by
  have HX : Hid (∀ w', Below w.heap.size w w' → Calls Tryz.prog 63 #[x.val] w' fun e w'' => e = .returned (.string (tb (txE x))) ∧ Below w'.heap.size w' w'') := hX
  have HR : Hid (∀ w, Calls Tryz.prog 91 #[.int .i64 x.kind] w fun e w' => e = .returned (.int .i64 (rkE x.kind)) ∧ w' = w) := fun w => rrank_any x.kind w hx
  have HT : Hid (tb (wiB (rkE x.kind) r (txE x)) = if rkE x.kind < r then tb [40] ++ tb (txE x) ++ tb [41] else tb (txE x)) := by
    show _ = _
    unfold wiB
    split
    · rw [tb_app, tb_app]
    · rfl
  rw [HT.out]
  have hs := tb_size (txE x)
  generalize tb (txE x) = T at *
  have hT : T.size ≤ 1000000000 := by omega
  generalize rkE x.kind = k at HR ⊢
  have hb1 := (Below.refl _ w).alloc (Nat.le_refl _) (.cells #[.int .i64 x.kind, .int .i64 x.n, .string x.name, .slice x.a x.args.length x.cap] 36)
  clear hs hl hX HT hx
  unfold Ex.val at HX ⊢
  by_cases h : k < r
  · rw [if_pos h]
    go_enter Tryz.func93, Tryz.ntmps93
    go_wp2_with (go_at_call 91; refine (HR.out _).mono ?_; rintro e w' ⟨rfl, rfl⟩)
    refine (HX.out _ hb1).mono ?_
    rintro e w2 ⟨rfl, hb2⟩
    go_wp2_with fail
    go_ret
    exact ⟨retS (by first | rfl | simp only [ByteArray.append_assoc]), hb1.trans (hb2.mono (by simp))⟩
  · rw [if_neg h]
    go_enter Tryz.func93, Tryz.ntmps93
    go_wp2_with (go_at_call 91; refine (HR.out _).mono ?_; rintro e w' ⟨rfl, rfl⟩)
    refine (HX.out _ hb1).mono ?_
    rintro e w2 ⟨rfl, hb2⟩
    go_wp2_with fail
    go_ret
    exact ⟨rfl, hb1.trans (hb2.mono (by simp))⟩

set_option maxRecDepth 100000 in
set_option maxHeartbeats 1000000 in
theorem rlist_of (l : List Ex) (a : Option Addr) (c : Nat) (w : World) (h1 : l.length ≤ c) (h2 : c * 56 ≤ 140737488351232) (hrow : RowIn w a 4 (l.map Ex.cells)) (hl : (comB (l.map txE)).length ≤ 1000000000)
    (hX : ∀ x ∈ l, ∀ w', Below w.heap.size w w' → Calls Tryz.prog 63 #[x.val] w' fun e w'' => e = .returned (.string (tb (txE x))) ∧ Below w'.heap.size w' w'') :
    Calls Tryz.prog 92 #[.slice a l.length c] w fun e w' => e = .returned (.string (tb (comB (l.map txE)))) ∧ Below w.heap.size w w' := by
  have HX : Hid (∀ x ∈ l, ∀ w', Below w.heap.size w w' → Calls Tryz.prog 63 #[x.val] w' fun e w'' => e = .returned (.string (tb (txE x))) ∧ Below w'.heap.size w' w'') := hX
  have HR : Hid (RowIn w a 4 (l.map Ex.cells)) := hrow
  have HL : Hid (∀ j, (comB ((l.map txE).take j)).length ≤ 1000000000) := fun j => Nat.le_trans (comB_le _ j) hl
  clear hX hrow hl
  go_enter Tryz.func92, Tryz.ntmps92
  go_wp2_with fail
  go_loopw [3, 4] (fun t3 t4 wr => ∃ (j : Nat), j ≤ l.length ∧ t3 = .string (tb (comB ((l.map txE).take j))) ∧ t4 = .int .i64 j ∧ Below w.heap.size w wr) (fun _ t4 _ => l.length - (intOf t4).toNat)
  case atStart => exact ⟨0, Nat.zero_le _, rfl, rfl, Below.refl _ w⟩
  case round =>
    obtain ⟨j, hj, rfl, rfl, hb⟩ := hrel
    have hsz : (tb (comB ((l.map txE).take j))).size ≤ 1000000000 := by rw [tb_size]; exact HL.out j
    by_cases hlt : j < l.length
    · have hli : (j : Int) < (l.length : Int) := by omega
      obtain ⟨g, o, rfl, c0, c1, c2, c3⟩ := row_at (HR.out.below hb) hlt
      have HY := HX.out l[j] (List.getElem_mem hlt) wr hb
      have HN : Hid (tb (comB ((l.map txE).take (j + 1))) = (if j = 0 then tb [] else tb (comB ((l.map txE).take j)) ++ tb [44, 32]) ++ tb (txE l[j])) := by
        show _ = _
        rw [comB_take (l.map txE) j (by simpa using hlt), List.getElem_map]
        split
        · rw [tb_app]
        · rw [tb_app, tb_app]
      have hsn : (tb (comB ((l.map txE).take (j + 1)))).size ≤ 1000000000 := by rw [tb_size]; exact HL.out (j + 1)
      have HZ : Hid (j = 0 → tb (comB ((l.map txE).take j)) = ⟨#[]⟩) := fun h => by subst h; simp [comB]
      generalize tb (comB ((l.map txE).take j)) = R at *
      generalize l[j] = y at *
      have hts : (tb (txE y)).size ≤ 1000000000 := by
        have := congrArg ByteArray.size HN.out
        rw [ByteArray.size_append] at this
        omega
      generalize tb (txE y) = T at *
      have HYY : Hid (Calls Tryz.prog 63 #[y.val] wr fun e w'' => e = .returned (.string T) ∧ Below wr.heap.size wr w'') := HY
      unfold Ex.val at HYY
      clear HY hsn
      by_cases hj0 : j = 0
      · subst hj0
        obtain rfl := HZ.out rfl
        rw [if_pos rfl] at HN
        simp only [Nat.zero_mul, Nat.add_zero] at c0 c1 c2 c3
        go_wp2_with fail
        refine HYY.out.mono ?_
        rintro e w2 ⟨rfl, hb2⟩
        clear c0 c1 c2 c3
        go_wp2_with fail
        go_roundw
        case rel => exact ⟨1, by omega, congrArg Value.string HN.out.symm, rfl, hb.trans (hb2.mono hb.size)⟩
        case measure => simp [intOf]; omega
      · rw [if_neg hj0] at HN
        have hjp : (0 : Int) < (j : Int) := by omega
        go_wp2_with fail
        refine HYY.out.mono ?_
        rintro e w2 ⟨rfl, hb2⟩
        clear c0 c1 c2 c3
        go_wp2_with fail
        go_roundw
        case rel => exact ⟨j + 1, by omega, congrArg Value.string HN.out.symm, by go_num, hb.trans (hb2.mono hb.size)⟩
        case measure => simp [intOf]; omega
    · have hli : ¬ (j : Int) < (l.length : Int) := by omega
      have HF : Hid (tb (comB ((l.map txE).take j)) = tb (comB (l.map txE))) := by show _ = _; rw [List.take_of_length_le (by simp; omega)]
      generalize tb (comB ((l.map txE).take j)) = R at *
      go_wp2_with fail
      go_ret
      exact ⟨retS HF.out, hb⟩
end Go.Proofs.YtbpemackmadhgaaGreatDoor
