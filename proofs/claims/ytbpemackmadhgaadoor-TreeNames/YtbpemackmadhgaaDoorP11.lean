/- A page's body of statements; a return. -/
import Derived.Test.YtbpemackmadhgaaDoorP10
import Derived.Test.YtbpemackmadhgaaDoorM3
namespace Go.Proofs.YtbpemackmadhgaaDoor
open Go.RowKit Go.Sort

/-- line at pieces that have just been laid. -/
theorem line_new (B b : Nat) (l : List UInt8) (d : Nat) (xs : List ByteArray) (W : World) (h : PgT B b l d W) (hB : B ≤ W.heap.size) (hn : xs.length ≤ 1000) (hd : d ≤ 100) (hlen : (l ++ lineB d (cat xs)).length ≤ 140737488355328) :
    Calls Tryd.prog 36 #[.pointer (some ⟨b, 0, none⟩), .slice (some ⟨W.heap.size, 0, none⟩) xs.length xs.length] (W.alloc (.cells (xs.map Value.string).toArray 9)) fun e w' => e = .returned (.tuple #[]) ∧ PgT B b (l ++ lineB d (cat xs)) d w' ∧ Below B (W.alloc (.cells (xs.map Value.string).toArray 9)) w' ∧ Oth b (W.alloc (.cells (xs.map Value.string).toArray 9)) w' := by
  have hlt : b < W.heap.size := by obtain ⟨p, h1⟩ := h.some; exact h1.lt
  have hb := (Below.refl _ W).alloc (Nat.le_refl _) (.cells (xs.map Value.string).toArray 9)
  refine line_any B b l d xs W.heap.size xs.length _ (h.stay hb) (by simp; omega) ⟨_, _, heap_alloc_new W _, fun j x hj => by simp [hj]⟩ (by omega) hn hd hlen

/-- What page.stmt does at a statement, in every world behind w0. -/
abbrev StmtPr (w0 : World) (s : St) : Prop := ∀ (b : Nat) (l : List UInt8) (d : Nat) (w : World), Below w0.heap.size w0 w → PgT w0.heap.size b l d w → d ≤ 60 → (l ++ txS s d).length ≤ 140737488355328 →
  Calls Tryd.prog 57 #[.pointer (some ⟨b, 0, none⟩), s.val] w fun e w' => e = .returned (.tuple #[]) ∧ PgT w0.heap.size b (l ++ txS s d) d w' ∧ Below w0.heap.size w w' ∧ Oth b w w'

theorem box_oth {W W' : World} {b B1 : Nat} {cs : Array Value} (h : W.heap[B1]? = some (.cells cs 46 (0, 0))) (hb : B1 ≠ b) (ho : Oth b W W') : W'.heap[B1]? = some (.cells cs 46 (0, 0)) :=
  ho B1 _ h (by simpa using hb) (fun c fz e => by cases e)

set_option maxRecDepth 100000 in
set_option maxHeartbeats 8000000 in
theorem body_any (w0 : World) (b : Nat) (l : List UInt8) (d : Nat) (list : List St) (a : Option Addr) (c : Nat) (w : World) (hB : Below w0.heap.size w0 w) (hp : PgT w0.heap.size b l d w) (hd : d ≤ 50) (hin : Have w0 a c list) (hs : ∀ s ∈ list, StmtPr w0 s) (hlen : (l ++ txSs list (d + 1)).length ≤ 140737488355328) :
    Calls Tryd.prog 42 #[.pointer (some ⟨b, 0, none⟩), .slice a list.length c] w fun e w' => e = .returned (.tuple #[]) ∧ PgT w0.heap.size b (l ++ txSs list (d + 1)) d w' ∧ Below w0.heap.size w w' ∧ Oth b w w' := by
  obtain ⟨⟨hl, hc, _, hrow⟩, hsub⟩ := hin
  have HR : Hid (RowIn w0 a 14 (List.map St.cells list)) := hrow
  have HS : Hid (∀ s ∈ list, StmtPr w0 s) := hs
  have HB : Hid (Below w0.heap.size w0 w) := hB
  have HLEN : Hid (l.length + (txSs list (d + 1)).length ≤ 140737488355328) := by show _ ≤ _; simpa using hlen
  obtain ⟨p, h1⟩ := hp.some
  have hBb := h1.1
  have hblt := h1.lt
  have c2 : w.cell? ⟨b, 2, none⟩ = some (.int .i64 d) := by
    obtain ⟨ao, cp, hbk, _⟩ := h1.slice
    rw [Lib.cell_of_heap hbk]; rfl
  have q2 := h1.frozen 2
  have HP1 : Hid (PgT w0.heap.size b l (d + 1) (w.setCell ⟨b, 2, none⟩ (.int .i64 (d + 1)))) := by
    show Pg _ _ _ _ _
    rcases hp with h | h
    · exact .inl (h.deep _)
    · exact .inr (h.deep _)
  have HB1 : Hid (Below w0.heap.size w (w.setCell ⟨b, 2, none⟩ (.int .i64 (d + 1)))) := (Below.refl _ w).setCell (p := ⟨b, 2, none⟩) hBb _
  have HO1 : Hid (Oth b w (w.setCell ⟨b, 2, none⟩ (.int .i64 (d + 1)))) := (Lib.OthersKept.refl _ (some b) w).setCell ⟨b, 2, none⟩ rfl _
  clear hrow hsub hs hB hlen hp h1
  go_enter Tryd.func42, Tryd.ntmps42
  go_wp2_with fail
  go_loopw [15] (fun t15 wr => ∃ (j : Nat), j ≤ list.length ∧ t15 = .int .i64 j ∧ PgT w0.heap.size b (l ++ txSs (list.take j) (d + 1)) (d + 1) wr ∧ Below w0.heap.size w wr ∧ Oth b w wr) (fun t15 _ => list.length - (intOf t15).toNat)
  case atStart => exact ⟨0, Nat.zero_le _, rfl, by simpa [txSs] using HP1.out, HB1.out, HO1.out⟩
  case round =>
    obtain ⟨j, hj, rfl, hpg, hb, ho⟩ := hrel
    have HPG : Hid (PgT w0.heap.size b (l ++ txSs (list.take j) (d + 1)) (d + 1) wr) := hpg
    clear hpg c2 q2 HP1 HB1 HO1
    have hws := hb.size
    have hws0 := HB.out.size
    have hb0 : Below w0.heap.size w0 wr := HB.out.trans hb
    by_cases hlt : j < list.length
    · obtain ⟨rb, o, rfl, hcell⟩ := rowS_at (HR.out.below hb0) hlt
      have c0 := hcell 0 _ rfl
      have c1 := hcell 1 _ rfl
      have c2 := hcell 2 _ rfl
      have c3 := hcell 3 _ rfl
      have c4 := hcell 4 _ rfl
      have c5 := hcell 5 _ rfl
      have c6 := hcell 6 _ rfl
      have c7 := hcell 7 _ rfl
      have c8 := hcell 8 _ rfl
      have c9 := hcell 9 _ rfl
      have c10 := hcell 10 _ rfl
      have c11 := hcell 11 _ rfl
      have c12 := hcell 12 _ rfl
      have c13 := hcell 13 _ rfl
      simp only [← Nat.add_assoc, Nat.add_zero] at c0 c1 c2 c3 c4 c5 c6 c7 c8 c9 c10 c11 c12 c13
      clear hcell
      have hli : (j : Int) < (list.length : Int) := by omega
      have HT : Hid (txSs (list.take (j + 1)) (d + 1) = txSs (list.take j) (d + 1) ++ txS list[j] (d + 1)) := txSs_take list (d + 1) j hlt
      have HLE : Hid ((txSs (list.take (j + 1)) (d + 1)).length ≤ (txSs list (d + 1)).length) := txSs_le list (d + 1) (j + 1)
      have HST : Hid (StmtPr w0 list[j]) := HS.out list[j] (List.getElem_mem hlt)
      generalize list[j] = s at *
      have hb1 := (Below.refl _ wr).alloc (Nat.le_refl _) (.cells #[.int .i64 s.kind, .string s.name, .int .i64 s.n, .int .i64 s.a.kind, .int .i64 s.a.n, .string s.a.name, .slice s.a.a s.a.args.length s.a.cap, .int .i64 s.b.kind, .int .i64 s.b.n, .string s.b.name, .slice s.b.a s.b.args.length s.b.cap, .slice s.ba s.body.length s.bc, .slice s.ea s.els.length s.ec, .slice s.ca s.cases.length s.cc] 46)
      have HPG1 := HPG.out.stay hb1
      have HO1 : Oth b wr _ := oth_below hb1
      have hb2 : Below w0.heap.size w _ := hb.alloc (by omega) (.cells #[.int .i64 s.kind, .string s.name, .int .i64 s.n, .int .i64 s.a.kind, .int .i64 s.a.n, .string s.a.name, .slice s.a.a s.a.args.length s.a.cap, .int .i64 s.b.kind, .int .i64 s.b.n, .string s.b.name, .slice s.b.a s.b.args.length s.b.cap, .slice s.ba s.body.length s.bc, .slice s.ea s.els.length s.ec, .slice s.ca s.cases.length s.cc] 46)
      go_wp2_with fail
      refine (HST.out b _ (d + 1) _ (HB.out.trans hb2) HPG1 (by omega) (by have := HLE.out; have := HLEN.out; rw [HT.out] at *; simp only [List.length_append] at *; omega)).mono ?_
      rintro e w1 ⟨rfl, hp1, hbs, hos⟩
      have HPG2 : Hid (PgT w0.heap.size b (l ++ txSs (list.take (j + 1)) (d + 1)) (d + 1) w1) := by
        show PgT _ _ _ _ _; rw [HT.out, ← List.append_assoc]; exact hp1
      clear hp1 HPG1
      go_wp2_with fail
      go_roundw
      case rel => exact ⟨j + 1, by omega, by go_num, HPG2.out, hb2.trans hbs, (ho.trans HO1).trans hos⟩
      case measure => simp [intOf]; omega
    · obtain rfl : j = list.length := by omega
      have HPG3 : Hid (PgT w0.heap.size b (l ++ txSs list (d + 1)) (d + 1) wr) := by
        show PgT _ _ _ _ _; have := HPG.out; rwa [List.take_length] at this
      obtain ⟨p, h1⟩ := HPG3.out.some
      have c2 : wr.cell? ⟨b, 2, none⟩ = some (.int .i64 ((d + 1 : Nat) : Int)) := by
        obtain ⟨ao, cp, hbk, _⟩ := h1.slice
        rw [Lib.cell_of_heap hbk]; rfl
      have q2 := h1.frozen 2
      have HP4 : Hid (PgT w0.heap.size b (l ++ txSs list (d + 1)) d (wr.setCell ⟨b, 2, none⟩ (.int .i64 d))) := by
        show Pg _ _ _ _ _
        rcases HPG3.out with h | h
        · exact .inl (h.deep _)
        · exact .inr (h.deep _)
      clear h1
      go_wp2_with fail
      go_end0
      exact ⟨rfl, HP4.out, hb.setCell (p := ⟨b, 2, none⟩) hBb _, ho.setCell ⟨b, 2, none⟩ rfl _⟩

set_option maxRecDepth 100000 in
set_option maxHeartbeats 8000000 in
theorem stmt9 (w0 : World) (s : St) (hk : s.kind = 9) (hin : s.In w0) (ht : Tabs w0) (hnt : NumT w0) (hok : OkE s.a) (hsz : s.a.sz ≤ 1000000) : StmtPr w0 s := by
  intro b l d w hB hp hd hlen
  have HT : Hid (lineB d (cat [⟨#[114, 101, 116, 117, 114, 110, 32]⟩, ⟨(txE s.a).toArray⟩, ⟨#[59]⟩]) = txS s d) := by
    show _ = _; cases s; simp only [St.kind] at hk; subst hk; simp [txS, cat, St.a]
  rw [← HT.out] at hlen ⊢
  have HLEN : Hid ((l ++ lineB d (cat [⟨#[114, 101, 116, 117, 114, 110, 32]⟩, ⟨(txE s.a).toArray⟩, ⟨#[59]⟩])).length ≤ 140737488355328) := hlen
  have HX : Hid (∀ w', Below w0.heap.size w0 w' → Calls Tryd.prog 68 #[.agg #[.int .i64 s.a.kind, .int .i64 s.a.n, .string s.a.name, .slice s.a.a s.a.args.length s.a.cap]] w' fun e w'' => e = .returned (sB (txE s.a)) ∧ Below w'.heap.size w' w'') := fun w' hb => expr_any s.a w' ((St.in_iff.1 hin).2.2.2.1.stay hb) (ht.stay hb) (hnt.stay hb) hok hsz
  have HP : Hid (PgT w0.heap.size b l d w) := hp
  have hsw := hB.size
  clear hin ht hnt hok hp hlen HT
  unfold St.val
  rw [hk]
  go_enter Tryd.func57, Tryd.ntmps57
  go_wp2_with fail
  have hb0 := (Below.refl _ w).alloc (Nat.le_refl _) (.cells #[.int .i64 9, .string s.name, .int .i64 s.n, .int .i64 s.a.kind, .int .i64 s.a.n, .string s.a.name, .slice s.a.a s.a.args.length s.a.cap, .int .i64 s.b.kind, .int .i64 s.b.n, .string s.b.name, .slice s.b.a s.b.args.length s.b.cap, .slice s.ba s.body.length s.bc, .slice s.ea s.els.length s.ec, .slice s.ca s.cases.length s.cc] 46)
  have hB0 : Below w0.heap.size w0 _ := hB.alloc hsw (.cells #[.int .i64 9, .string s.name, .int .i64 s.n, .int .i64 s.a.kind, .int .i64 s.a.n, .string s.a.name, .slice s.a.a s.a.args.length s.a.cap, .int .i64 s.b.kind, .int .i64 s.b.n, .string s.b.name, .slice s.b.a s.b.args.length s.b.cap, .slice s.ba s.body.length s.bc, .slice s.ea s.els.length s.ec, .slice s.ca s.cases.length s.cc] 46)
  refine (HX.out _ hB0).mono ?_
  rintro e w1 ⟨rfl, hb1⟩
  have hb2 := Below.on hb0 hb1
  go_wp2_with fail
  refine (line_new w0.heap.size b l d [⟨#[114, 101, 116, 117, 114, 110, 32]⟩, ⟨(txE s.a).toArray⟩, ⟨#[59]⟩] w1 (HP.out.stay hb2) (by have := hb2.size; omega) (Nat.le_of_ble_eq_true rfl) (by omega) HLEN.out).mono ?_
  rintro e w2 ⟨rfl, hp2, hb3, ho3⟩
  have HP2 : Hid (PgT w0.heap.size b (l ++ lineB d (cat [⟨#[114, 101, 116, 117, 114, 110, 32]⟩, ⟨(txE s.a).toArray⟩, ⟨#[59]⟩])) d w2) := hp2
  clear hp2
  go_wp2_with fail
  go_end0
  exact ⟨rfl, HP2.out, ((hb2.mono hsw).alloc (by have := hb2.size; omega) _).trans hb3, ((oth_below hb2).alloc _).trans ho3⟩
end Go.Proofs.YtbpemackmadhgaaDoor
