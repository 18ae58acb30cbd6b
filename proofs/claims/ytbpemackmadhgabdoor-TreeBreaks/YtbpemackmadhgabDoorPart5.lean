/- page.choices, and page.stmt at a switch. -/
import Derived.Test.YtbpemackmadhgabDoorPart4
import Derived.Test.YtbpemackmadhgabDoorPart3
import Derived.Deep.CutRange
import Derived.Test.YtbpemackmadhgabDoorPart2
namespace Go.Proofs.YtbpemackmadhgabDoor
open Go.RowKit Go.Sort

theorem txCs_take (l : List Ca) (d j : Nat) (h : j < l.length) : txCs (l.take (j + 1)) d = txCs (l.take j) d ++ txC l[j] d := by
  induction l generalizing j with
  | nil => simp at h
  | cons x r ih =>
    cases j with
    | zero => simp [txCs]
    | succ j =>
      have := ih j (by simpa using h)
      rw [List.take_succ_cons, List.take_succ_cons, txCs, txCs, this]; simp
theorem txCs_le (l : List Ca) (d j : Nat) : (txCs (l.take j) d).length ≤ (txCs l d).length := by
  induction l generalizing j with
  | nil => simp
  | cons x r ih =>
    cases j with
    | zero => simp [txCs]
    | succ j => rw [List.take_succ_cons, txCs, txCs]; simp only [List.length_append]; have := ih j; omega
theorem txC_eq (y : Ca) (d : Nat) : txC y (d + 1) = lineB (d + 1) (cat [⟨#[99, 97, 115, 101, 32]⟩, ⟨(Lib.itoa y.n).toArray⟩, ⟨#[32, 123]⟩]) ++ txSs y.body (d + 1 + 1) ++ lineB (d + 1) (cat [⟨#[125]⟩]) := by
  cases y; simp [txC, cat, Ca.n, Ca.body]
def txSw (s : St) (d : Nat) : List UInt8 := lineB d (cat [⟨#[115, 119, 105, 116, 99, 104, 32]⟩, ⟨(txE s.a).toArray⟩, ⟨#[32, 123]⟩]) ++ txCs s.cases (d + 1) ++ (if s.els.length = 0 then [] else lineB (d + 1) (cat [⟨#[101, 108, 115, 101, 32, 123]⟩]) ++ txSs s.els (d + 1 + 1) ++ lineB (d + 1) (cat [⟨#[125]⟩])) ++ lineB d (cat [⟨#[125]⟩])
theorem pg_deep {B b : Nat} {l : List UInt8} {d d' : Nat} {w : World} (h : PgT B b l d w) : PgT B b l d' (w.setCell ⟨b, 2, none⟩ (.int .i64 d')) := by
  rcases h with h | h
  · exact .inl (h.deep _)
  · exact .inr (h.deep _)
theorem pg_cell {B b : Nat} {l : List UInt8} {d : Nat} {w : World} (h : PgT B b l d w) : w.cell? ⟨b, 2, none⟩ = some (.int .i64 d) ∧ w.frozen? ⟨b, 2, none⟩ = false ∧ B ≤ b ∧ b < w.heap.size := by
  obtain ⟨p, h1⟩ := h.some
  refine ⟨?_, h1.frozen 2, h1.1, h1.lt⟩
  obtain ⟨ao, cp, hbk, _⟩ := h1.slice
  rw [Lib.cell_of_heap hbk]; rfl

set_option maxRecDepth 100000 in
set_option maxHeartbeats 8000000 in
theorem choices_any (w0 : World) (D : Nat) (s : St) (hin : s.In w0) (ht : Tabs w0) (hnt : NumT w0) (hoa : OkE s.a) (hza : s.a.sz ≤ 1000000) (hD : D ≤ 88) (hs : ∀ c ∈ s.cases, ∀ x ∈ c.body, StmtD w0 (D + 2) x) (hs2 : ∀ x ∈ s.els, StmtD w0 (D + 2) x)
    (b : Nat) (l : List UInt8) (d : Nat) (w : World) (hB : Below w0.heap.size w0 w) (hp : PgT w0.heap.size b l d w) (hd : d ≤ D) (hlen : (l ++ txSw s d).length ≤ 140737488355328) :
    Calls Tryd.prog 83 #[.pointer (some ⟨b, 0, none⟩), s.val] w fun e w' => e = .returned (.tuple #[]) ∧ PgT w0.heap.size b (l ++ txSw s d) d w' ∧ Below w0.heap.size w w' ∧ Oth b w w' := by
  have HL : Hid ((l ++ txSw s d).length ≤ 140737488355328) := hlen
  obtain ⟨W0, hW0⟩ : ∃ W0, w.alloc (.cells #[.int .i64 s.kind, .string s.name, .int .i64 s.n, .int .i64 s.a.kind, .int .i64 s.a.n, .string s.a.name, .slice s.a.a s.a.args.length s.a.cap, .int .i64 s.b.kind, .int .i64 s.b.n, .string s.b.name, .slice s.b.a s.b.args.length s.b.cap, .slice s.ba s.body.length s.bc, .slice s.ea s.els.length s.ec, .slice s.ca s.cases.length s.cc] 53) = W0 := ⟨_, rfl⟩
  have hbx : Below w.heap.size w W0 := by rw [← hW0]; exact (Below.refl _ w).alloc (Nat.le_refl _) _
  have hbk : W0.heap[w.heap.size]? = some (.cells #[.int .i64 s.kind, .string s.name, .int .i64 s.n, .int .i64 s.a.kind, .int .i64 s.a.n, .string s.a.name, .slice s.a.a s.a.args.length s.a.cap, .int .i64 s.b.kind, .int .i64 s.b.n, .string s.b.name, .slice s.b.a s.b.args.length s.b.cap, .slice s.ba s.body.length s.bc, .slice s.ea s.els.length s.ec, .slice s.ca s.cases.length s.cc] 53 (0, 0)) := by rw [← hW0]; exact heap_alloc_new w _
  have hsw := hB.size
  have hB0 : Below w0.heap.size w0 W0 := hB.trans (hbx.mono hsw)
  have hsx : w0.heap.size ≤ W0.heap.size := hB0.size
  have hblt : b < w.heap.size := (pg_cell hp).2.2.2
  have hBb : w0.heap.size ≤ b := (pg_cell hp).2.2.1
  have hne : w.heap.size ≠ b := by omega
  have hne' : b ≠ w.heap.size := by omega
  have HPX : Hid (PgT w0.heap.size b l d W0) := hp.stay hbx
  have HOX : Hid (Oth b w W0) := oth_below hbx
  have HBX : Hid (Below w0.heap.size w W0) := hbx.mono hsw
  have HBB0 : Hid (Below w0.heap.size w0 W0) := hB0
  have HXA : Hid (Calls Tryd.prog 81 #[.agg #[.int .i64 s.a.kind, .int .i64 s.a.n, .string s.a.name, .slice s.a.a s.a.args.length s.a.cap]] W0 fun e w'' => e = .returned (sB (txE s.a)) ∧ Below W0.heap.size W0 w'') := expr_any s.a W0 ((St.in_iff.1 hin).2.2.2.1.stay hB0) (ht.stay hB0) (hnt.stay hB0) hoa hza
  have HY12 : Hid (∀ w', Oth b W0 w' → w'.cell? ⟨w.heap.size, 12, none⟩ = some (.slice s.ea s.els.length s.ec)) := fun w' ho => oth_cell hbk (by decide) hne ho rfl
  have HY13 : Hid (∀ w', Oth b W0 w' → w'.cell? ⟨w.heap.size, 13, none⟩ = some (.slice s.ca s.cases.length s.cc)) := fun w' ho => oth_cell hbk (by decide) hne ho rfl
  have HIN : Hid (s.In w0) := hin
  have HNT : Hid (NumT w0) := hnt
  have HSS : Hid (∀ c ∈ s.cases, ∀ x ∈ c.body, StmtD w0 (D + 2) x) := hs
  have HSE : Hid (∀ x ∈ s.els, StmtD w0 (D + 2) x) := hs2
  obtain ⟨hel, hec, _, _⟩ := (St.in_iff.1 hin).2.2.2.2.2.2.1.1
  obtain ⟨hcl, hcc, _, _⟩ := (St.in_iff.1 hin).2.2.2.2.2.2.2.1
  have HW0 := show Hid _ from hW0
  clear hW0 hin ht hnt hoa hza hp hlen hbx hbk hblt hB0 hB hs hs2
  obtain ⟨res, hres⟩ : ∃ res, l ++ txSw s d = res := ⟨_, rfl⟩
  have HRES : Hid (l ++ txSw s d = res) := hres
  rw [hres] at HL ⊢
  clear hres
  have HF1 : Hid ((l ++ lineB d (cat [⟨#[115, 119, 105, 116, 99, 104, 32]⟩, ⟨(txE s.a).toArray⟩, ⟨#[32, 123]⟩])).length ≤ 140737488355328 ∧ (l ++ lineB d (cat [⟨#[115, 119, 105, 116, 99, 104, 32]⟩, ⟨(txE s.a).toArray⟩, ⟨#[32, 123]⟩])).length + (txCs s.cases (d + 1)).length ≤ 140737488355328) := by
    have h := HL.out
    rw [← HRES.out, txSw] at h
    simp only [List.length_append] at h
    refine ⟨?_, ?_⟩ <;> simp only [List.length_append] <;> omega
  unfold St.val
  go_enter Tryd.func83, Tryd.ntmps83
  go_wp2_with fail
  rw [HW0.out]
  clear HW0
  refine HXA.out.mono ?_
  rintro e w1 ⟨rfl, hb1⟩
  have hs1 := hb1.size
  go_wp2_with fail
  refine (line_new w0.heap.size b l d [⟨#[115, 119, 105, 116, 99, 104, 32]⟩, ⟨(txE s.a).toArray⟩, ⟨#[32, 123]⟩] w1 (HPX.out.stay hb1) (by omega) (Nat.le_of_ble_eq_true rfl) (by omega) HF1.out.1).mono ?_
  rintro e w2 ⟨rfl, hp2, hb2, ho2⟩
  obtain ⟨l1, hl1⟩ : ∃ l1, (l ++ lineB d (cat [⟨#[115, 119, 105, 116, 99, 104, 32]⟩, ⟨(txE s.a).toArray⟩, ⟨#[32, 123]⟩])) = l1 := ⟨_, rfl⟩
  rw [hl1] at hp2 HF1
  have HL1 : Hid ((l ++ lineB d (cat [⟨#[115, 119, 105, 116, 99, 104, 32]⟩, ⟨(txE s.a).toArray⟩, ⟨#[32, 123]⟩])) = l1) := hl1
  clear hl1
  obtain ⟨c2, q2, _, _⟩ := pg_cell hp2
  have HP2 : Hid (PgT w0.heap.size b l1 (d + 1) (w2.setCell ⟨b, 2, none⟩ (.int .i64 ((d + 1 : Nat) : Int)))) := pg_deep hp2
  have HO2 : Hid (Oth b W0 w2) := ((oth_below hb1).alloc _).trans ho2
  have HB2 : Hid (Below w0.heap.size W0 w2) := ((hb1.mono hsx).alloc (by omega) _).trans hb2
  have y13 := HY13.out _ HO2.out
  clear hp2 hb1 hb2 ho2 hs1 HXA
  go_wp2_with fail
  go_loopw [22] (fun t22 wr => ∃ (j : Nat), j ≤ s.cases.length ∧ t22 = .int .i64 j ∧ PgT w0.heap.size b (l1 ++ txCs (s.cases.take j) (d + 1)) (d + 1) wr ∧ Below w0.heap.size W0 wr ∧ Oth b W0 wr) (fun t22 _ => s.cases.length - (intOf t22).toNat)
  case atStart => exact ⟨0, Nat.zero_le _, rfl, by simpa [txCs] using HP2.out, HB2.out.setCell (p := ⟨b, 2, none⟩) hBb _, HO2.out.setCell ⟨b, 2, none⟩ rfl _⟩
  case round =>
    clear HP2 HO2 HB2 y13 c2 q2
    obtain ⟨j, hj, rfl, hpg, hb, ho⟩ := hrel
    have HPG : Hid (PgT w0.heap.size b (l1 ++ txCs (s.cases.take j) (d + 1)) (d + 1) wr) := hpg
    have HBR : Hid (Below w0.heap.size W0 wr) := hb
    have HOR : Hid (Oth b W0 wr) := ho
    have hwb : b < wr.heap.size := (pg_cell hpg).2.2.2
    have hs0 : w0.heap.size ≤ wr.heap.size := (HBB0.out.trans hb).size
    clear hpg hb ho
    by_cases hlt : j < s.cases.length
    · have hli : (j : Int) < (s.cases.length : Int) := by omega
      obtain ⟨rb, ro, hca, hcell⟩ := rowC_cells ((St.in_iff.1 (HIN.out.stay (HBB0.out.trans HBR.out))).2.2.2.2.2.2.2.1.2.2.2) hlt
      have k0 := hcell 0 _ rfl
      have k1 := hcell 1 _ rfl
      simp only [← Nat.add_assoc, Nat.add_zero] at k0 k1
      have HCI : Hid (s.cases[j].In w0) := (St.in_iff.1 HIN.out).2.2.2.2.2.2.2.2 _ (List.getElem_mem hlt)
      have HCS : Hid (∀ x ∈ s.cases[j].body, StmtD w0 (D + 2) x) := HSS.out _ (List.getElem_mem hlt)
      have HT : Hid (txCs (s.cases.take (j + 1)) (d + 1) = txCs (s.cases.take j) (d + 1) ++ txC s.cases[j] (d + 1)) := txCs_take s.cases (d + 1) j hlt
      have HLE : Hid ((txCs (s.cases.take (j + 1)) (d + 1)).length ≤ (txCs s.cases (d + 1)).length) := txCs_le s.cases (d + 1) (j + 1)
      generalize s.cases[j] = y at *
      rw [hca]
      clear hcell
      obtain ⟨lj, hlj⟩ : ∃ lj, l1 ++ txCs (s.cases.take j) (d + 1) = lj := ⟨_, rfl⟩
      rw [hlj] at HPG
      have HLJ : Hid (l1 ++ txCs (s.cases.take j) (d + 1) = lj) := hlj
      clear hlj
      have HF2 : Hid ((lj ++ lineB (d + 1) (cat [⟨#[99, 97, 115, 101, 32]⟩, ⟨(Lib.itoa y.n).toArray⟩, ⟨#[32, 123]⟩])).length ≤ 140737488355328 ∧ ((lj ++ lineB (d + 1) (cat [⟨#[99, 97, 115, 101, 32]⟩, ⟨(Lib.itoa y.n).toArray⟩, ⟨#[32, 123]⟩])) ++ txSs y.body (d + 1 + 1)).length ≤ 140737488355328 ∧ (((lj ++ lineB (d + 1) (cat [⟨#[99, 97, 115, 101, 32]⟩, ⟨(Lib.itoa y.n).toArray⟩, ⟨#[32, 123]⟩])) ++ txSs y.body (d + 1 + 1)) ++ lineB (d + 1) (cat [⟨#[125]⟩])).length ≤ 140737488355328) := by
        have h1 := HLE.out
        have h2 := HF1.out.2
        have h3 := congrArg List.length HLJ.out
        rw [HT.out, txC_eq] at h1
        simp only [List.length_append] at h1 h2 h3
        refine ⟨?_, ?_, ?_⟩ <;> simp only [List.length_append] <;> omega
      obtain ⟨W4, hW4⟩ : ∃ W4, wr.alloc (.cells #[.int .i64 y.n, .slice y.ba y.body.length y.bc] 59) = W4 := ⟨_, rfl⟩
      have hb4 : Below wr.heap.size wr W4 := by rw [← hW4]; exact (Below.refl _ wr).alloc (Nat.le_refl _) _
      have hk4 : W4.heap[wr.heap.size]? = some (.cells #[.int .i64 y.n, .slice y.ba y.body.length y.bc] 59 (0, 0)) := by rw [← hW4]; exact heap_alloc_new wr _
      have hn4 : wr.heap.size ≠ b := by omega
      have HZ1 : Hid (∀ w', Oth b W4 w' → w'.cell? ⟨wr.heap.size, 1, none⟩ = some (.slice y.ba y.body.length y.bc)) := fun w' ho => oth_cell hk4 (by decide) hn4 ho rfl
      have HB4 : Hid (Below w0.heap.size W0 W4) := HBR.out.trans (hb4.mono hs0)
      have HO4 : Hid (Oth b W0 W4) := HOR.out.trans (oth_below hb4)
      have HP4 : Hid (PgT w0.heap.size b lj (d + 1) W4) := HPG.out.stay hb4
      have hs4 : w0.heap.size ≤ W4.heap.size := (HBB0.out.trans HB4.out).size
      have HQN : Hid (Calls Tryd.prog 42 #[.int .i64 y.n] W4 fun e w'' => e = .returned (sB (Lib.itoa y.n)) ∧ Below W4.heap.size W4 w'') := number_any y.n W4 (Ca.in_iff.1 HCI.out).1 (HNT.out.stay (HBB0.out.trans HB4.out))
      have HW4 := show Hid _ from hW4
      clear hW4 hb4 hk4 hn4 hca
      go_wp2_with fail
      rw [HW4.out]
      clear HW4 k0 k1
      refine HQN.out.mono ?_
      rintro e w5 ⟨rfl, hb5⟩
      have hs5 := hb5.size
      go_wp2_with fail
      refine (line_new w0.heap.size b lj (d + 1) [⟨#[99, 97, 115, 101, 32]⟩, ⟨(Lib.itoa y.n).toArray⟩, ⟨#[32, 123]⟩] w5 (HP4.out.stay hb5) (by omega) (Nat.le_of_ble_eq_true rfl) (by omega) HF2.out.1).mono ?_
      rintro e w6 ⟨rfl, hp6, hb6, ho6⟩
      have HP6 : Hid (PgT w0.heap.size b (lj ++ lineB (d + 1) (cat [⟨#[99, 97, 115, 101, 32]⟩, ⟨(Lib.itoa y.n).toArray⟩, ⟨#[32, 123]⟩])) (d + 1) w6) := hp6
      have HO6' : Hid (Oth b W4 w6) := ((oth_below hb5).alloc _).trans ho6
      have HB6 : Hid (Below w0.heap.size W0 w6) := HB4.out.trans (((hb5.mono hs4).alloc (by omega) _).trans hb6)
      have z1 := HZ1.out _ HO6'.out
      have HO6 : Hid (Oth b W0 w6) := HO4.out.trans HO6'.out
      clear hp6 hb5 hb6 ho6 hs5 HQN
      go_wp2_with fail
      refine (bodyD w0 (D + 2) b _ (d + 1) y.body y.ba y.bc w6 (HBB0.out.trans HB6.out) HP6.out (by omega) (by omega) (Ca.in_iff.1 HCI.out).2 HCS.out HF2.out.2.1).mono ?_
      rintro e w7 ⟨rfl, hp7, hb7, ho7⟩
      have HP7 : Hid (PgT w0.heap.size b ((lj ++ lineB (d + 1) (cat [⟨#[99, 97, 115, 101, 32]⟩, ⟨(Lib.itoa y.n).toArray⟩, ⟨#[32, 123]⟩])) ++ txSs y.body (d + 1 + 1)) (d + 1) w7) := hp7
      have HO7 : Hid (Oth b W0 w7) := HO6.out.trans ho7
      have HB7 : Hid (Below w0.heap.size W0 w7) := HB6.out.trans hb7
      have hs7 : w0.heap.size ≤ w7.heap.size := (HBB0.out.trans HB7.out).size
      clear hp7 hb7 ho7 z1
      go_wp2_with fail
      refine (line_new w0.heap.size b _ (d + 1) [⟨#[125]⟩] w7 HP7.out hs7 (Nat.le_of_ble_eq_true rfl) (by omega) HF2.out.2.2).mono ?_
      rintro e w8 ⟨rfl, hp8, hb8, ho8⟩
      have HP8 : Hid (PgT w0.heap.size b (l1 ++ txCs (s.cases.take (j + 1)) (d + 1)) (d + 1) w8) := by
        show PgT _ _ _ _ _
        rw [HT.out, txC_eq, ← List.append_assoc, HLJ.out, ← List.append_assoc, ← List.append_assoc]; exact hp8
      have HB8 : Hid (Below w0.heap.size W0 w8) := HB7.out.trans (((Below.refl _ w7).alloc hs7 _).trans hb8)
      have HO8 : Hid (Oth b W0 w8) := HO7.out.trans (((Lib.OthersKept.refl _ _ w7).alloc _).trans ho8)
      clear hp8 hb8 ho8
      go_wp2_with fail
      go_roundw
      case rel => exact ⟨j + 1, by omega, by go_num, HP8.out, HB8.out, HO8.out⟩
      case measure => simp [intOf]; omega
    · obtain rfl : j = s.cases.length := by omega
      obtain ⟨l2, hl2⟩ : ∃ l2, l1 ++ txCs s.cases (d + 1) = l2 := ⟨_, rfl⟩
      have HL2 : Hid (l1 ++ txCs s.cases (d + 1) = l2) := hl2
      have HP9 : Hid (PgT w0.heap.size b l2 (d + 1) wr) := by
        show PgT _ _ _ _ _; have := HPG.out; rw [List.take_length, hl2] at this; exact this
      clear hl2 HPG
      have y12 := HY12.out _ HOR.out
      by_cases he : 0 < s.els.length
      · have hei : (0 : Int) < (s.els.length : Int) := by omega
        have HEQ : Hid ((((l2 ++ lineB (d + 1) (cat [⟨#[101, 108, 115, 101, 32, 123]⟩])) ++ txSs s.els (d + 1 + 1)) ++ lineB (d + 1) (cat [⟨#[125]⟩])) ++ lineB d (cat [⟨#[125]⟩]) = res) := by
          show _ = _
          rw [← HRES.out, txSw, if_neg (by omega), ← HL2.out, ← HL1.out]
          simp only [List.append_assoc]
        have HF3 : Hid ((l2 ++ lineB (d + 1) (cat [⟨#[101, 108, 115, 101, 32, 123]⟩])).length ≤ 140737488355328 ∧ ((l2 ++ lineB (d + 1) (cat [⟨#[101, 108, 115, 101, 32, 123]⟩])) ++ txSs s.els (d + 1 + 1)).length ≤ 140737488355328 ∧ (((l2 ++ lineB (d + 1) (cat [⟨#[101, 108, 115, 101, 32, 123]⟩])) ++ txSs s.els (d + 1 + 1)) ++ lineB (d + 1) (cat [⟨#[125]⟩])).length ≤ 140737488355328 ∧ ((((l2 ++ lineB (d + 1) (cat [⟨#[101, 108, 115, 101, 32, 123]⟩])) ++ txSs s.els (d + 1 + 1)) ++ lineB (d + 1) (cat [⟨#[125]⟩])) ++ lineB d (cat [⟨#[125]⟩])).length ≤ 140737488355328) := by
          have h := HL.out
          rw [← HEQ.out] at h
          simp only [List.length_append] at h
          refine ⟨?_, ?_, ?_, ?_⟩ <;> simp only [List.length_append] <;> omega
        go_wp2_with fail
        refine (line_new w0.heap.size b _ (d + 1) [⟨#[101, 108, 115, 101, 32, 123]⟩] wr HP9.out hs0 (Nat.le_of_ble_eq_true rfl) (by omega) HF3.out.1).mono ?_
        rintro e w4 ⟨rfl, hp4, hb4, ho4⟩
        have HP4 : Hid (PgT w0.heap.size b (l2 ++ lineB (d + 1) (cat [⟨#[101, 108, 115, 101, 32, 123]⟩])) (d + 1) w4) := hp4
        have HO4 : Hid (Oth b W0 w4) := HOR.out.trans (((Lib.OthersKept.refl _ _ wr).alloc _).trans ho4)
        have HB4 : Hid (Below w0.heap.size W0 w4) := HBR.out.trans (((Below.refl _ wr).alloc hs0 _).trans hb4)
        have z12 := HY12.out _ HO4.out
        clear hp4 hb4 ho4 y12
        go_wp2_with fail
        refine (bodyD w0 (D + 2) b _ (d + 1) s.els s.ea s.ec w4 (HBB0.out.trans HB4.out) HP4.out (by omega) (by omega) (St.in_iff.1 HIN.out).2.2.2.2.2.2.1 HSE.out HF3.out.2.1).mono ?_
        rintro e w5 ⟨rfl, hp5, hb5, ho5⟩
        have HP5 : Hid (PgT w0.heap.size b ((l2 ++ lineB (d + 1) (cat [⟨#[101, 108, 115, 101, 32, 123]⟩])) ++ txSs s.els (d + 1 + 1)) (d + 1) w5) := hp5
        have HO5 : Hid (Oth b W0 w5) := HO4.out.trans ho5
        have HB5 : Hid (Below w0.heap.size W0 w5) := HB4.out.trans hb5
        have hs5 : w0.heap.size ≤ w5.heap.size := (HBB0.out.trans HB5.out).size
        clear hp5 hb5 ho5 z12
        go_wp2_with fail
        refine (line_new w0.heap.size b _ (d + 1) [⟨#[125]⟩] w5 HP5.out hs5 (Nat.le_of_ble_eq_true rfl) (by omega) HF3.out.2.2.1).mono ?_
        rintro e w6 ⟨rfl, hp6, hb6, ho6⟩
        obtain ⟨c2, q2, _, _⟩ := pg_cell hp6
        have HP6 : Hid (PgT w0.heap.size b ((((l2 ++ lineB (d + 1) (cat [⟨#[101, 108, 115, 101, 32, 123]⟩])) ++ txSs s.els (d + 1 + 1)) ++ lineB (d + 1) (cat [⟨#[125]⟩]))) d (w6.setCell ⟨b, 2, none⟩ (.int .i64 (d : Int)))) := pg_deep hp6
        have HO6 : Hid (Oth b W0 (w6.setCell ⟨b, 2, none⟩ (.int .i64 (d : Int)))) := (HO5.out.trans (((Lib.OthersKept.refl _ _ w5).alloc _).trans ho6)).setCell ⟨b, 2, none⟩ rfl _
        have HB6 : Hid (Below w0.heap.size W0 (w6.setCell ⟨b, 2, none⟩ (.int .i64 (d : Int)))) := (HB5.out.trans (((Below.refl _ w5).alloc hs5 _).trans hb6)).setCell (p := ⟨b, 2, none⟩) hBb _
        clear hp6 hb6 ho6
        go_upto_region 15 with fail
        obtain ⟨W7, hW7⟩ : ∃ W7, w6.setCell ⟨b, 2, none⟩ (.int .i64 (d : Int)) = W7 := ⟨_, rfl⟩
        rw [hW7] at HP6 HO6 HB6 ⊢
        have hs7 : w0.heap.size ≤ W7.heap.size := (HBB0.out.trans HB6.out).size
        clear hW7 c2 q2
        go_wp2_with fail
        refine (line_new w0.heap.size b _ d [⟨#[125]⟩] W7 HP6.out hs7 (Nat.le_of_ble_eq_true rfl) (by omega) HF3.out.2.2.2).mono ?_
        rintro e w8 ⟨rfl, hp8, hb8, ho8⟩
        have HP8 : Hid (PgT w0.heap.size b res d w8) := by show PgT _ _ _ _ _; rw [← HEQ.out]; exact hp8
        clear hp8
        go_wp2_with fail
        go_end0
        exact ⟨rfl, HP8.out, HBX.out.trans (HB6.out.trans (((Below.refl _ W7).alloc hs7 _).trans hb8)), HOX.out.trans (HO6.out.trans (((Lib.OthersKept.refl _ _ W7).alloc _).trans ho8))⟩
      · have hei : ¬ (0 : Int) < (s.els.length : Int) := by omega
        have HEQ : Hid (l2 ++ lineB d (cat [⟨#[125]⟩]) = res) := by
          show _ = _
          rw [← HRES.out, txSw, if_pos (by omega), ← HL2.out, ← HL1.out]
          simp only [List.append_assoc, List.nil_append]
        have HF3 : Hid ((l2 ++ lineB d (cat [⟨#[125]⟩])).length ≤ 140737488355328) := by show _ ≤ _; rw [HEQ.out]; exact HL.out
        obtain ⟨c2, q2, _, _⟩ := pg_cell HP9.out
        have HP6 : Hid (PgT w0.heap.size b l2 d (wr.setCell ⟨b, 2, none⟩ (.int .i64 (d : Int)))) := pg_deep HP9.out
        have HO6 : Hid (Oth b W0 (wr.setCell ⟨b, 2, none⟩ (.int .i64 (d : Int)))) := HOR.out.setCell ⟨b, 2, none⟩ rfl _
        have HB6 : Hid (Below w0.heap.size W0 (wr.setCell ⟨b, 2, none⟩ (.int .i64 (d : Int)))) := HBR.out.setCell (p := ⟨b, 2, none⟩) hBb _
        go_upto_region 15 with fail
        obtain ⟨W7, hW7⟩ : ∃ W7, wr.setCell ⟨b, 2, none⟩ (.int .i64 (d : Int)) = W7 := ⟨_, rfl⟩
        rw [hW7] at HP6 HO6 HB6 ⊢
        have hs7 : w0.heap.size ≤ W7.heap.size := (HBB0.out.trans HB6.out).size
        clear hW7 c2 q2 y12
        go_wp2_with fail
        refine (line_new w0.heap.size b _ d [⟨#[125]⟩] W7 HP6.out hs7 (Nat.le_of_ble_eq_true rfl) (by omega) HF3.out).mono ?_
        rintro e w8 ⟨rfl, hp8, hb8, ho8⟩
        have HP8 : Hid (PgT w0.heap.size b res d w8) := by show PgT _ _ _ _ _; rw [← HEQ.out]; exact hp8
        clear hp8
        go_wp2_with fail
        go_end0
        exact ⟨rfl, HP8.out, HBX.out.trans (HB6.out.trans (((Below.refl _ W7).alloc hs7 _).trans hb8)), HOX.out.trans (HO6.out.trans (((Lib.OthersKept.refl _ _ W7).alloc _).trans ho8))⟩

set_option maxRecDepth 100000 in
set_option maxHeartbeats 8000000 in
theorem stmt6 (w0 : World) (s : St) (hk : s.kind = 6) (hin : s.In w0) (ht : Tabs w0) (hnt : NumT w0) (hoa : OkE s.a) (hza : s.a.sz ≤ 1000000) (D : Nat) (hD : D ≤ 88) (hs : ∀ c ∈ s.cases, ∀ x ∈ c.body, StmtD w0 (D + 2) x) (hs2 : ∀ x ∈ s.els, StmtD w0 (D + 2) x) : StmtD w0 D s := by
  intro b l d w hB hp hd hlen
  have HT : Hid (txSw s d = txS s d) := by
    show _ = _; cases s; simp only [St.kind] at hk; subst hk; simp [txSw, txS, cat, St.a, St.els, St.cases]
  rw [← HT.out] at hlen ⊢
  obtain ⟨W0, hW0⟩ : ∃ W0, w.alloc (.cells #[.int .i64 6, .string s.name, .int .i64 s.n, .int .i64 s.a.kind, .int .i64 s.a.n, .string s.a.name, .slice s.a.a s.a.args.length s.a.cap, .int .i64 s.b.kind, .int .i64 s.b.n, .string s.b.name, .slice s.b.a s.b.args.length s.b.cap, .slice s.ba s.body.length s.bc, .slice s.ea s.els.length s.ec, .slice s.ca s.cases.length s.cc] 53) = W0 := ⟨_, rfl⟩
  have hbx : Below w.heap.size w W0 := by rw [← hW0]; exact (Below.refl _ w).alloc (Nat.le_refl _) _
  have hsw := hB.size
  have hB0 : Below w0.heap.size w0 W0 := hB.trans (hbx.mono hsw)
  have HQ := show Hid _ from choices_any w0 D s hin ht hnt hoa hza hD hs hs2 b l d W0 hB0 (hp.stay hbx) hd hlen
  have HBX : Hid (Below w0.heap.size w W0 ∧ Oth b w W0) := ⟨hbx.mono hsw, oth_below hbx⟩
  have HW0 := show Hid _ from hW0
  clear hW0 hin ht hnt hoa hza hp hlen hbx hB0 hB hs hs2 HT
  unfold St.val at HQ ⊢
  rw [hk] at HQ ⊢
  generalize txSw s d = tx at HQ ⊢
  go_enter Tryd.func64, Tryd.ntmps64
  go_wp2_with fail
  rw [HW0.out]
  refine Calls.mono (show Calls Tryd.prog _ _ _ _ from HQ.out) ?_
  rintro e w2 ⟨rfl, hp2, hb2, ho2⟩
  have HP2 : Hid (PgT w0.heap.size b (l ++ tx) d w2) := hp2
  clear hp2 HQ
  go_wp2_with fail
  go_end0
  exact ⟨rfl, HP2.out, HBX.out.1.trans hb2, HBX.out.2.trans ho2⟩
end Go.Proofs.YtbpemackmadhgabDoor

/- page.stmt at its other kinds: those of one line, and loops. -/
namespace Go.Proofs.YtbpemackmadhgabDoor
open Go.RowKit Go.Sort

set_option maxRecDepth 100000 in
set_option maxHeartbeats 8000000 in
theorem stmt7 (w0 : World) (s : St) (hk : s.kind = 7) (hin : s.In w0) (ht : Tabs w0) (hnt : NumT w0) (hoa : OkE s.a) (hza : s.a.sz ≤ 1000000) (hob : OkE s.b) (hzb : s.b.sz ≤ 1000000) (D : Nat) (hD : D ≤ 89) (hs : ∀ x ∈ s.body, StmtD w0 (D + 1) x) : StmtD w0 D s := by
  intro b l d w hB hp hd hlen
  have HT : Hid (lineB d (cat [⟨#[102, 111, 114, 32]⟩, s.name, ⟨#[32, 105, 110, 32]⟩, ⟨(txE s.a).toArray⟩, ⟨#[46, 46]⟩, ⟨(txE s.b).toArray⟩, ⟨#[32, 123]⟩]) ++ txSs s.body (d + 1) ++ lineB d (cat [⟨#[125]⟩]) = txS s d) := by
    show _ = _; cases s; simp only [St.kind] at hk; subst hk; simp [txS, cat, St.a, St.b, St.name, St.body]
  rw [← HT.out] at hlen ⊢
  have HLEN : Hid ((l ++ lineB d (cat [⟨#[102, 111, 114, 32]⟩, s.name, ⟨#[32, 105, 110, 32]⟩, ⟨(txE s.a).toArray⟩, ⟨#[46, 46]⟩, ⟨(txE s.b).toArray⟩, ⟨#[32, 123]⟩])).length ≤ 140737488355328) := by show _ ≤ _; simp only [List.length_append] at *; omega
  have HLN2 : Hid (((l ++ lineB d (cat [⟨#[102, 111, 114, 32]⟩, s.name, ⟨#[32, 105, 110, 32]⟩, ⟨(txE s.a).toArray⟩, ⟨#[46, 46]⟩, ⟨(txE s.b).toArray⟩, ⟨#[32, 123]⟩])) ++ txSs s.body (d + 1)).length ≤ 140737488355328) := by show _ ≤ _; simp only [List.length_append] at *; omega
  have HLN3 : Hid ((((l ++ lineB d (cat [⟨#[102, 111, 114, 32]⟩, s.name, ⟨#[32, 105, 110, 32]⟩, ⟨(txE s.a).toArray⟩, ⟨#[46, 46]⟩, ⟨(txE s.b).toArray⟩, ⟨#[32, 123]⟩])) ++ txSs s.body (d + 1)) ++ lineB d (cat [⟨#[125]⟩])).length ≤ 140737488355328) := by show _ ≤ _; simp only [List.length_append] at *; omega
  obtain ⟨W0, hW0⟩ : ∃ W0, w.alloc (.cells #[.int .i64 7, .string s.name, .int .i64 s.n, .int .i64 s.a.kind, .int .i64 s.a.n, .string s.a.name, .slice s.a.a s.a.args.length s.a.cap, .int .i64 s.b.kind, .int .i64 s.b.n, .string s.b.name, .slice s.b.a s.b.args.length s.b.cap, .slice s.ba s.body.length s.bc, .slice s.ea s.els.length s.ec, .slice s.ca s.cases.length s.cc] 53) = W0 := ⟨_, rfl⟩
  have hbx : Below w.heap.size w W0 := by rw [← hW0]; exact (Below.refl _ w).alloc (Nat.le_refl _) _
  have hbk : W0.heap[w.heap.size]? = some (.cells #[.int .i64 7, .string s.name, .int .i64 s.n, .int .i64 s.a.kind, .int .i64 s.a.n, .string s.a.name, .slice s.a.a s.a.args.length s.a.cap, .int .i64 s.b.kind, .int .i64 s.b.n, .string s.b.name, .slice s.b.a s.b.args.length s.b.cap, .slice s.ba s.body.length s.bc, .slice s.ea s.els.length s.ec, .slice s.ca s.cases.length s.cc] 53 (0, 0)) := by rw [← hW0]; exact heap_alloc_new w _
  have hsw := hB.size
  have hB0 : Below w0.heap.size w0 W0 := hB.trans (hbx.mono hsw)
  have hsx : w0.heap.size ≤ W0.heap.size := hB0.size
  have hblt : b < w.heap.size := by obtain ⟨q, h1⟩ := hp.some; exact h1.lt
  have hne : w.heap.size ≠ b := by omega
  have HPX : Hid (PgT w0.heap.size b l d W0) := hp.stay hbx
  have HOX : Hid (Oth b w W0) := oth_below hbx
  have HBX : Hid (Below w0.heap.size w W0) := hbx.mono hsw
  have HXA : Hid (∀ w', Below W0.heap.size W0 w' → Calls Tryd.prog 81 #[.agg #[.int .i64 s.a.kind, .int .i64 s.a.n, .string s.a.name, .slice s.a.a s.a.args.length s.a.cap]] w' fun e w'' => e = .returned (sB (txE s.a)) ∧ Below w'.heap.size w' w'') := fun w' h => expr_any s.a w' ((St.in_iff.1 hin).2.2.2.1.stay (hB0.trans (h.mono hsx))) (ht.stay (hB0.trans (h.mono hsx))) (hnt.stay (hB0.trans (h.mono hsx))) hoa hza
  have HXB : Hid (∀ w', Below W0.heap.size W0 w' → Calls Tryd.prog 81 #[.agg #[.int .i64 s.b.kind, .int .i64 s.b.n, .string s.b.name, .slice s.b.a s.b.args.length s.b.cap]] w' fun e w'' => e = .returned (sB (txE s.b)) ∧ Below w'.heap.size w' w'') := fun w' h => expr_any s.b w' ((St.in_iff.1 hin).2.2.2.2.1.stay (hB0.trans (h.mono hsx))) (ht.stay (hB0.trans (h.mono hsx))) (hnt.stay (hB0.trans (h.mono hsx))) hob hzb
  have y1 : ∀ w', Oth b W0 w' → w'.cell? ⟨w.heap.size, 1, none⟩ = some (.string s.name) := fun w' ho => oth_cell hbk (by decide) hne ho rfl
  have y3 : ∀ w', Oth b W0 w' → w'.cell? ⟨w.heap.size, 3, none⟩ = some (.int .i64 s.a.kind) := fun w' ho => oth_cell hbk (by decide) hne ho rfl
  have y4 : ∀ w', Oth b W0 w' → w'.cell? ⟨w.heap.size, 4, none⟩ = some (.int .i64 s.a.n) := fun w' ho => oth_cell hbk (by decide) hne ho rfl
  have y5 : ∀ w', Oth b W0 w' → w'.cell? ⟨w.heap.size, 5, none⟩ = some (.string s.a.name) := fun w' ho => oth_cell hbk (by decide) hne ho rfl
  have y6 : ∀ w', Oth b W0 w' → w'.cell? ⟨w.heap.size, 6, none⟩ = some (.slice s.a.a s.a.args.length s.a.cap) := fun w' ho => oth_cell hbk (by decide) hne ho rfl
  have y7 : ∀ w', Oth b W0 w' → w'.cell? ⟨w.heap.size, 7, none⟩ = some (.int .i64 s.b.kind) := fun w' ho => oth_cell hbk (by decide) hne ho rfl
  have y8 : ∀ w', Oth b W0 w' → w'.cell? ⟨w.heap.size, 8, none⟩ = some (.int .i64 s.b.n) := fun w' ho => oth_cell hbk (by decide) hne ho rfl
  have y9 : ∀ w', Oth b W0 w' → w'.cell? ⟨w.heap.size, 9, none⟩ = some (.string s.b.name) := fun w' ho => oth_cell hbk (by decide) hne ho rfl
  have y10 : ∀ w', Oth b W0 w' → w'.cell? ⟨w.heap.size, 10, none⟩ = some (.slice s.b.a s.b.args.length s.b.cap) := fun w' ho => oth_cell hbk (by decide) hne ho rfl
  have HY11 : Hid (∀ w', Oth b W0 w' → w'.cell? ⟨w.heap.size, 11, none⟩ = some (.slice s.ba s.body.length s.bc)) := fun w' ho => oth_cell hbk (by decide) hne ho rfl
  have HIN : Hid (s.In w0) := hin
  have HSS : Hid (∀ x ∈ s.body, StmtD w0 (D + 1) x) := hs
  have HBB0 : Hid (Below w0.heap.size w0 W0) := hB0
  have HW0 := show Hid _ from hW0
  have hdrew : Below W0.heap.size W0 W0.drew := Below.drew (Below.refl _ _)
  clear hW0 hin ht hnt hp hlen hbx hbk hblt hB0 hB hoa hza hob hzb hs
  unfold St.val
  rw [hk]
  go_enter Tryd.func64, Tryd.ntmps64
  go_wp2_with fail
  rw [HW0.out]
  clear HW0
  go_region_held3 (fun w' => Oth b W0 w') (first | exact oth_below (by assumption) | exact Lib.OthersKept.trans (by assumption) (oth_below (by assumption)) | exact Lib.OthersKept.alloc (by assumption) _ | assumption)
    (first
      | (go_at_call_of 81 (s.a.kind); refine (HXA.out _ (by assumption)).mono ?_; rintro e w' ⟨rfl, hb⟩; have hB : Below W0.heap.size W0 w' := Below.on (by assumption) hb)
      | (go_at_call_of 81 (s.b.kind); refine (HXB.out _ (by assumption)).mono ?_; rintro e w' ⟨rfl, hb⟩; have hB : Below W0.heap.size W0 w' := Below.on (by assumption) hb)
      | (go_at_call 39; refine (line_in (xs := [⟨#[102, 111, 114, 32]⟩, s.name, ⟨#[32, 105, 110, 32]⟩, ⟨(txE s.a).toArray⟩, ⟨#[46, 46]⟩, ⟨(txE s.b).toArray⟩, ⟨#[32, 123]⟩]) HPX.out (by assumption) hsx (Nat.le_of_ble_eq_true rfl) (by omega) HLEN.out).mono ?_; rintro e w' ⟨rfl, hpl, hbl, hol⟩))
  all_goals (have z11 := HY11.out _ hol; clear y1 y3 y4 y5 y6 y7 y8 y9 y10)
  all_goals go_wp2_with fail
  all_goals
    refine (bodyD w0 (D + 1) b _ d s.body s.ba s.bc w' (HBB0.out.trans hbl.out) hpl.out (by omega) (by omega) (St.in_iff.1 HIN.out).2.2.2.2.2.1 HSS.out HLN2.out).mono ?_
    rintro e w2 ⟨rfl, hp2, hb2, ho2⟩
    have HP2 : Hid (PgT w0.heap.size b ((l ++ lineB d (cat [⟨#[102, 111, 114, 32]⟩, s.name, ⟨#[32, 105, 110, 32]⟩, ⟨(txE s.a).toArray⟩, ⟨#[46, 46]⟩, ⟨(txE s.b).toArray⟩, ⟨#[32, 123]⟩])) ++ txSs s.body (d + 1)) d w2) := hp2
    have hs2 : w0.heap.size ≤ w2.heap.size := ((HBB0.out.trans hbl.out).trans hb2).size
    clear hp2 z11
    go_wp2_with fail
    refine (line_new w0.heap.size b _ d [⟨#[125]⟩] w2 HP2.out hs2 (Nat.le_of_ble_eq_true rfl) (by omega) HLN3.out).mono ?_
    rintro e w3 ⟨rfl, hp3, hb3, ho3⟩
    have HP3 : Hid (PgT w0.heap.size b (l ++ (lineB d (cat [⟨#[102, 111, 114, 32]⟩, s.name, ⟨#[32, 105, 110, 32]⟩, ⟨(txE s.a).toArray⟩, ⟨#[46, 46]⟩, ⟨(txE s.b).toArray⟩, ⟨#[32, 123]⟩]) ++ txSs s.body (d + 1) ++ lineB d (cat [⟨#[125]⟩]))) d w3) := by
      show PgT _ _ _ _ _; rw [← List.append_assoc, ← List.append_assoc]; exact hp3
    clear hp3
    go_wp2_with fail
    go_end0
    exact ⟨rfl, HP3.out, ((HBX.out.trans hbl.out).trans hb2).trans (((Below.refl _ w2).alloc hs2 _).trans hb3), ((HOX.out.trans hol).trans ho2).trans (((Lib.OthersKept.refl _ _ w2).alloc _).trans ho3)⟩
end Go.Proofs.YtbpemackmadhgabDoor

/- page.stmt at its other kinds: those of one line, and loops. -/
namespace Go.Proofs.YtbpemackmadhgabDoor
open Go.RowKit Go.Sort

set_option maxRecDepth 100000 in
set_option maxHeartbeats 8000000 in
theorem stmt8 (w0 : World) (s : St) (hk : s.kind = 8)  : StmtPr w0 s := by
  intro b l d w hB hp hd hlen
  have HT : Hid (lineB d (cat [⟨#[98, 114, 101, 97, 107, 59]⟩]) = txS s d) := by
    show _ = _; cases s; simp only [St.kind] at hk; subst hk; simp [txS, cat]
  rw [← HT.out] at hlen ⊢
  have HLEN : Hid ((l ++ lineB d (cat [⟨#[98, 114, 101, 97, 107, 59]⟩])).length ≤ 140737488355328) := hlen
  have HP : Hid (PgT w0.heap.size b l d w) := hp
  have hsw := hB.size
  clear hp hlen HT
  unfold St.val
  rw [hk]
  have hb0 := (Below.refl _ w).alloc (Nat.le_refl _) (.cells #[.int .i64 8, .string s.name, .int .i64 s.n, .int .i64 s.a.kind, .int .i64 s.a.n, .string s.a.name, .slice s.a.a s.a.args.length s.a.cap, .int .i64 s.b.kind, .int .i64 s.b.n, .string s.b.name, .slice s.b.a s.b.args.length s.b.cap, .slice s.ba s.body.length s.bc, .slice s.ea s.els.length s.ec, .slice s.ca s.cases.length s.cc] 53)
  have hB0 : Below w0.heap.size w0 _ := hB.alloc hsw (.cells #[.int .i64 8, .string s.name, .int .i64 s.n, .int .i64 s.a.kind, .int .i64 s.a.n, .string s.a.name, .slice s.a.a s.a.args.length s.a.cap, .int .i64 s.b.kind, .int .i64 s.b.n, .string s.b.name, .slice s.b.a s.b.args.length s.b.cap, .slice s.ba s.body.length s.bc, .slice s.ea s.els.length s.ec, .slice s.ca s.cases.length s.cc] 53)
  obtain ⟨W0, hW0⟩ : ∃ W0, w.alloc (.cells #[.int .i64 8, .string s.name, .int .i64 s.n, .int .i64 s.a.kind, .int .i64 s.a.n, .string s.a.name, .slice s.a.a s.a.args.length s.a.cap, .int .i64 s.b.kind, .int .i64 s.b.n, .string s.b.name, .slice s.b.a s.b.args.length s.b.cap, .slice s.ba s.body.length s.bc, .slice s.ea s.els.length s.ec, .slice s.ca s.cases.length s.cc] 53) = W0 := ⟨_, rfl⟩
  have HW0 := show Hid _ from hW0
  have HSZ : Hid (w.heap.size + 1 = W0.heap.size) := by show _ = _; rw [← hW0]; simp
  rw [hW0] at hb0 hB0
  clear hW0
  go_enter Tryd.func64, Tryd.ntmps64
  go_wp2_with fail
  rw [HW0.out, HSZ.out]
  have hb2 := hb0
  refine (line_new w0.heap.size b l d [⟨#[98, 114, 101, 97, 107, 59]⟩] W0 (HP.out.stay hb2) (by have := hb2.size; omega) (Nat.le_of_ble_eq_true rfl) (by omega) HLEN.out).mono ?_
  rintro e w2 ⟨rfl, hp2, hb3, ho3⟩
  have HP2 : Hid (PgT w0.heap.size b (l ++ lineB d (cat [⟨#[98, 114, 101, 97, 107, 59]⟩])) d w2) := hp2
  clear hp2
  go_wp2_with fail
  go_end0
  exact ⟨rfl, HP2.out, ((hb2.mono hsw).alloc (by have := hb2.size; omega) _).trans hb3, ((oth_below hb2).alloc _).trans ho3⟩

set_option maxRecDepth 100000 in
set_option maxHeartbeats 8000000 in
theorem stmt10 (w0 : World) (s : St) (hk : s.kind = 10) (hin : s.In w0) (ht : Tabs w0) (hnt : NumT w0) (hoa : OkE s.a) (hza : s.a.sz ≤ 1000000) : StmtPr w0 s := by
  intro b l d w hB hp hd hlen
  have HT : Hid (lineB d (cat [⟨(txE s.a).toArray⟩, ⟨#[59]⟩]) = txS s d) := by
    show _ = _; cases s; simp only [St.kind] at hk; subst hk; simp [txS, cat, St.a]
  rw [← HT.out] at hlen ⊢
  have HLEN : Hid ((l ++ lineB d (cat [⟨(txE s.a).toArray⟩, ⟨#[59]⟩])).length ≤ 140737488355328) := hlen
  have HX : Hid (∀ w', Below w0.heap.size w0 w' → Calls Tryd.prog 81 #[.agg #[.int .i64 s.a.kind, .int .i64 s.a.n, .string s.a.name, .slice s.a.a s.a.args.length s.a.cap]] w' fun e w'' => e = .returned (sB (txE s.a)) ∧ Below w'.heap.size w' w'') := fun w' hb => expr_any s.a w' ((St.in_iff.1 hin).2.2.2.1.stay hb) (ht.stay hb) (hnt.stay hb) hoa hza
  have HP : Hid (PgT w0.heap.size b l d w) := hp
  have hsw := hB.size
  clear hin ht hnt hoa hp hlen HT
  unfold St.val
  rw [hk]
  have hb0 := (Below.refl _ w).alloc (Nat.le_refl _) (.cells #[.int .i64 10, .string s.name, .int .i64 s.n, .int .i64 s.a.kind, .int .i64 s.a.n, .string s.a.name, .slice s.a.a s.a.args.length s.a.cap, .int .i64 s.b.kind, .int .i64 s.b.n, .string s.b.name, .slice s.b.a s.b.args.length s.b.cap, .slice s.ba s.body.length s.bc, .slice s.ea s.els.length s.ec, .slice s.ca s.cases.length s.cc] 53)
  have hB0 : Below w0.heap.size w0 _ := hB.alloc hsw (.cells #[.int .i64 10, .string s.name, .int .i64 s.n, .int .i64 s.a.kind, .int .i64 s.a.n, .string s.a.name, .slice s.a.a s.a.args.length s.a.cap, .int .i64 s.b.kind, .int .i64 s.b.n, .string s.b.name, .slice s.b.a s.b.args.length s.b.cap, .slice s.ba s.body.length s.bc, .slice s.ea s.els.length s.ec, .slice s.ca s.cases.length s.cc] 53)
  go_enter Tryd.func64, Tryd.ntmps64
  go_wp2_with fail
  refine (HX.out _ hB0).mono ?_
  rintro e w1 ⟨rfl, hb1⟩
  have hb2 := Below.on hb0 hb1
  go_wp2_with fail
  refine (line_new w0.heap.size b l d [⟨(txE s.a).toArray⟩, ⟨#[59]⟩] w1 (HP.out.stay hb2) (by have := hb2.size; omega) (Nat.le_of_ble_eq_true rfl) (by omega) HLEN.out).mono ?_
  rintro e w2 ⟨rfl, hp2, hb3, ho3⟩
  have HP2 : Hid (PgT w0.heap.size b (l ++ lineB d (cat [⟨(txE s.a).toArray⟩, ⟨#[59]⟩])) d w2) := hp2
  clear hp2
  go_wp2_with fail
  go_end0
  exact ⟨rfl, HP2.out, ((hb2.mono hsw).alloc (by have := hb2.size; omega) _).trans hb3, ((oth_below hb2).alloc _).trans ho3⟩
end Go.Proofs.YtbpemackmadhgabDoor

/- What follows where nothing is wrong with a program: of its parts, and how many they are. -/
namespace Go.Proofs.YtbpemackmadhgabDoor
open Go.RowKit Go.Sort

theorem thenZ_ok {p : Int × Int} {f : Int → Int × Int} (h : (thenZ p f).1 = 0) : p.1 = 0 ∧ (f p.2).1 = 0 := by
  unfold thenZ at h
  split at h
  · exact absurd h (by assumption)
  · rename_i h0; exact ⟨by simpa using h0, h⟩
theorem chkT_ok {s : St} {lv at_ : Int} (h : (chkT s lv at_).1 = 0) : chkS s lv = 0 ∧ (∃ a, (chkSs s.body (lv + 1) a).1 = 0) ∧ (∃ a, (chkCs s.cases (lv + 1) a).1 = 0) ∧ ∃ a, (chkSs s.els (lv + 1) a).1 = 0 := by
  obtain ⟨k, nm, n, a, b, ba, bc, l, ea, ec, e, ca, cc, c⟩ := s
  rw [chkT] at h
  split at h
  · exact absurd h (by assumption)
  · rename_i h0
    obtain ⟨h1, h2⟩ := thenZ_ok h
    obtain ⟨h3, h4⟩ := thenZ_ok h2
    exact ⟨by simpa using h0, ⟨_, h1⟩, ⟨_, h3⟩, ⟨_, h4⟩⟩
theorem chkSs_ok : ∀ {l : List St} {lv at_ : Int}, (chkSs l lv at_).1 = 0 → ∀ x ∈ l, ∃ a, (chkT x lv a).1 = 0
  | [], _, _, _, x, hx => by cases hx
  | s :: r, lv, at_, h, x, hx => by
    rw [chkSs] at h
    obtain ⟨h1, h2⟩ := thenZ_ok h
    rcases List.mem_cons.1 hx with rfl | hx
    · exact ⟨_, h1⟩
    · exact chkSs_ok h2 x hx
theorem chkCs_ok : ∀ {l : List Ca} {lv at_ : Int}, (chkCs l lv at_).1 = 0 → ∀ c ∈ l, ∃ a, (chkSs c.body lv a).1 = 0
  | [], _, _, _, x, hx => by cases hx
  | c :: r, lv, at_, h, x, hx => by
    rw [chkCs] at h
    obtain ⟨h1, h2⟩ := thenZ_ok h
    rcases List.mem_cons.1 hx with rfl | hx
    · rw [chkCa_eq] at h1; exact ⟨_, h1⟩
    · exact chkCs_ok h2 x hx
/-- A statement that is right by itself. -/
theorem chkS_ok {s : St} {lv : Int} (h : chkS s lv = 0) : lv ≤ 32 ∧ 1 ≤ s.kind ∧ s.kind ≤ 10 ∧ ((bits .and .i64 (fldS s.kind.toNat) 1 != 0) = true → nameZ s.name = true) ∧
    ((bits .and .i64 (fldS s.kind.toNat) 4 != 0) = true → OkE s.a) ∧ ((bits .and .i64 (fldS s.kind.toNat) 8 != 0) = true → OkE s.b) := by
  unfold chkS at h
  split at h
  · omega
  split at h
  · rename_i _ h1; exact absurd h h1
  rename_i h0 h1
  have h1' : selfS s = 0 := by simpa using h1
  have hk : isS s.kind = true ∧ ((bits .and .i64 (fldS s.kind.toNat) 1 != 0) = true → nameZ s.name = true) := by
    unfold selfS at h1'
    split at h1'
    · omega
    rename_i hs
    split at h1'
    · omega
    split at h1'
    · omega
    rename_i hn
    refine ⟨by simpa using hs, fun hb => ?_⟩
    rw [hb] at hn
    simpa using hn
  simp only [isS, Bool.and_eq_true, decide_eq_true_eq] at hk
  refine ⟨by omega, hk.1.1, hk.1.2, hk.2, fun hb => ?_, fun hb => ?_⟩
  · split at h
    · rename_i h2; rw [hb] at h2; simp at h2; exact absurd h h2
    · rename_i h2; rw [hb] at h2; simp at h2; exact ⟨_, h2⟩
  · split at h
    · rename_i h2
      rw [Bool.and_eq_true] at h2
      simp at h2; exact absurd h h2.2
    · exact ⟨_, h⟩

def zE (x : Ex) : Nat := if zeroE x then 0 else x.sz
mutual
def St.V : St → Nat | .mk _ _ _ a b _ _ l _ _ e _ _ c => zE a + zE b + vSs l + vSs e + vCs c + c.length + 1
def vSs : List St → Nat | [] => 0 | x :: r => x.V + vSs r
def Ca.V : Ca → Nat | .mk _ _ _ l => vSs l
def vCs : List Ca → Nat | [] => 0 | c :: r => c.V + vCs r
end
theorem St.V_eq (s : St) : s.V = zE s.a + zE s.b + vSs s.body + vSs s.els + vCs s.cases + s.cases.length + 1 := by
  cases s; simp only [St.V, St.a, St.b, St.body, St.els, St.cases]
theorem Ca.V_eq (c : Ca) : c.V = vSs c.body := by cases c; simp only [Ca.V, Ca.body]
theorem vSs_mem {l : List St} {x : St} (h : x ∈ l) : x.V ≤ vSs l := by
  induction l with
  | nil => cases h
  | cons y r ih =>
    rw [vSs]
    rcases List.mem_cons.1 h with rfl | h
    · omega
    · have := ih h; omega
theorem vCs_mem {l : List Ca} {x : Ca} (h : x ∈ l) : x.V ≤ vCs l := by
  induction l with
  | nil => cases h
  | cons y r ih =>
    rw [vCs]
    rcases List.mem_cons.1 h with rfl | h
    · omega
    · have := ih h; omega
theorem cntE_V (k : Nat) : (∀ (x : Ex) (n : Int), x.sz ≤ k → cntE x n ≤ 4096 → n + x.sz ≤ cntE x n) ∧ (∀ (l : List Ex) (n : Int), szL l ≤ k → cntL l n ≤ 4096 → n + szL l ≤ cntL l n) := by
  induction k with
  | zero =>
    refine ⟨fun x n hk => by have := x.sz_args; omega, fun l n hk => ?_⟩
    cases l with
    | nil => simp [cntL, szL]
    | cons x r => rw [szL] at hk; have := x.sz_args; omega
  | succ k ih =>
    have h1 : ∀ (x : Ex) (n : Int), x.sz ≤ k + 1 → cntE x n ≤ 4096 → n + x.sz ≤ cntE x n := fun x n hk h => by
      rw [cntE_args] at h ⊢
      have := ih.2 x.args (n + 1) (by have := x.sz_args; omega) h
      have := x.sz_args
      omega
    refine ⟨h1, fun l => ?_⟩
    induction l with
    | nil => intro n _ _; simp [cntL, szL]
    | cons x r ihr =>
      intro n hk h
      rw [szL] at hk ⊢
      rw [cntL] at h ⊢
      split at h
      · omega
      · rename_i hn
        rw [if_neg hn]
        have a1 := cntL_ge r (cntE x n)
        have a2 := h1 x n (by omega) (by omega)
        have a3 := ihr (cntE x n) (by omega) h
        omega
theorem cntZ_V (x : Ex) (n : Int) : n ≤ cntZ x n ∧ (cntZ x n ≤ 4096 → n + zE x ≤ cntZ x n) := by
  refine ⟨cntZ_ge x n, fun h => ?_⟩
  unfold cntZ zE at *
  split at h
  · rename_i hz; simp [hz]
  · rename_i hz
    have := (cntE_V _).1 x n (Nat.le_refl _) h
    simp [hz]; omega
theorem cntS_V (k : Nat) : (∀ (s : St) (n : Int), s.sz ≤ k → n ≤ cntS s n ∧ (cntS s n ≤ 4096 → n + s.V ≤ cntS s n)) ∧ (∀ (l : List St) (n : Int), ssz l ≤ k → n ≤ cntSs l n ∧ (cntSs l n ≤ 4096 → n + vSs l ≤ cntSs l n)) := by
  have step : ∀ k, (∀ (s : St) (n : Int), s.sz ≤ k → n ≤ cntS s n ∧ (cntS s n ≤ 4096 → n + s.V ≤ cntS s n)) → ∀ (l : List St) (n : Int), ssz l ≤ k → n ≤ cntSs l n ∧ (cntSs l n ≤ 4096 → n + vSs l ≤ cntSs l n) := by
    intro k h1 l
    induction l with
    | nil => intro n _; simp only [cntSs, vSs]; omega
    | cons x r ihr =>
      intro n hk
      rw [ssz] at hk
      rw [vSs, cntSs]
      split
      · omega
      · have a1 := h1 x n (by omega)
        have a2 := ihr (cntS x n) (by omega)
        omega
  induction k with
  | zero =>
    have h0 : ∀ (s : St) (n : Int), s.sz ≤ 0 → n ≤ cntS s n ∧ (cntS s n ≤ 4096 → n + s.V ≤ cntS s n) := fun s n hk => by have := s.sz_eq; omega
    exact ⟨h0, step 0 h0⟩
  | succ k ih =>
    have h1 : ∀ (s : St) (n : Int), s.sz ≤ k + 1 → n ≤ cntS s n ∧ (cntS s n ≤ 4096 → n + s.V ≤ cntS s n) := by
      intro s n hk
      have hz := s.sz_eq
      have hc : ∀ (l : List Ca) (n : Int), csz l ≤ k → n ≤ cntCs l n ∧ (cntCs l n ≤ 4096 → n + vCs l ≤ cntCs l n) := by
        intro l
        induction l with
        | nil => intro n _; simp only [cntCs, vCs]; omega
        | cons c r ihr =>
          intro n hk
          rw [csz] at hk
          rw [cntCs, vCs, cntC_eq, c.V_eq]
          have a1 := ih.2 c.body n (by have := c.sz_eq; omega)
          have a2 := ihr (cntSs c.body n) (by omega)
          omega
      have e : cntS s n = cntSs s.els (cntCs s.cases (cntSs s.body (cntZ s.b (cntZ s.a (n + (1 + (s.cases.length : Int))))))) := by
        cases s; simp only [cntS, St.els, St.cases, St.body, St.a, St.b]
      rw [e, s.V_eq]
      have a1 := cntZ_V s.a (n + (1 + (s.cases.length : Int)))
      have a2 := cntZ_V s.b (cntZ s.a (n + (1 + (s.cases.length : Int))))
      have a3 := ih.2 s.body (cntZ s.b (cntZ s.a (n + (1 + (s.cases.length : Int))))) (by omega)
      have a4 := hc s.cases (cntSs s.body (cntZ s.b (cntZ s.a (n + (1 + (s.cases.length : Int)))))) (by omega)
      have a5 := ih.2 s.els (cntCs s.cases (cntSs s.body (cntZ s.b (cntZ s.a (n + (1 + (s.cases.length : Int))))))) (by omega)
      omega
    exact ⟨h1, step (k + 1) h1⟩
theorem cntF_V : ∀ (l : List Fu) (n : Int), n ≤ cntF l n ∧ (cntF l n ≤ 4096 → n + (l.map fun f => vSs f.body).sum ≤ cntF l n)
  | [], n => ⟨Int.le_refl _, fun _ => by simp [cntF]⟩
  | f :: r, n => by
    have a1 := (cntS_V _).2 f.body n (Nat.le_refl _)
    have a2 := cntF_V r (cntSs f.body n)
    rw [cntF, List.map_cons, List.sum_cons]
    omega
theorem whole_ok {p : Pr} (h : wholeZ p = 0) : p.widen.length ≤ 16 ∧ p.funcs.length ≤ 32 ∧ (p.funcs.map fun f => vSs f.body).sum ≤ 4096 := by
  have hn : p.widen.length ≤ 16 ∧ p.funcs.length ≤ 32 ∧ nodesZ p ≤ 4096 := by
    unfold wholeZ at h
    split at h
    · omega
    split at h
    · omega
    split at h
    · omega
    split at h
    · omega
    split at h
    · omega
    omega
  refine ⟨hn.1, hn.2.1, ?_⟩
  have h2 := hn.2.2
  unfold nodesZ at h2
  have := (cntF_V p.funcs 0).2 (by omega)
  omega
theorem sum_mem {l : List Fu} {f : Fu} (h : f ∈ l) : vSs f.body ≤ (l.map fun f => vSs f.body).sum := by
  induction l with
  | nil => cases h
  | cons y r ih =>
    rw [List.map_cons, List.sum_cons]
    rcases List.mem_cons.1 h with rfl | h
    · omega
    · have := ih h; omega
theorem okE_zE {x : Ex} (h : OkE x) : zE x = x.sz := by
  obtain ⟨kn, hk, h1, _⟩ := selfE_zero h.parts.1
  unfold zE
  rw [if_neg]
  intro hz
  simp only [zeroE, Bool.and_eq_true, beq_iff_eq] at hz
  omega
end Go.Proofs.YtbpemackmadhgabDoor

/- How long the text of a right program is at most. -/
namespace Go.Proofs.YtbpemackmadhgabDoor
open Go.RowKit Go.Sort

theorem lineB_len (d : Nat) (t : List UInt8) : (lineB d t).length = 2 * d + t.length + 1 := by simp [lineB]; omega
theorem txS_eq (s : St) (d : Nat) : txS s d =
    if s.kind = 1 then lineB d ([108, 101, 116, 32] ++ s.name.data.toList ++ [32, 61, 32] ++ txE s.a ++ [59])
    else if s.kind = 2 then lineB d ([108, 101, 116, 32] ++ s.name.data.toList ++ [91] ++ Lib.itoa s.n ++ [93, 59])
    else if s.kind = 3 then lineB d (s.name.data.toList ++ [32, 61, 32] ++ txE s.a ++ [59])
    else if s.kind = 4 then lineB d (s.name.data.toList ++ [91] ++ txE s.a ++ [93, 32, 61, 32] ++ txE s.b ++ [59])
    else if s.kind = 5 then lineB d ([105, 102, 32] ++ txE s.a ++ [32, 123]) ++ txSs s.body (d + 1) ++ (if s.els.length = 0 then [] else lineB d [125, 32, 101, 108, 115, 101, 32, 123] ++ txSs s.els (d + 1)) ++ lineB d [125]
    else if s.kind = 6 then lineB d ([115, 119, 105, 116, 99, 104, 32] ++ txE s.a ++ [32, 123]) ++ txCs s.cases (d + 1) ++ (if s.els.length = 0 then [] else lineB (d + 1) [101, 108, 115, 101, 32, 123] ++ txSs s.els (d + 2) ++ lineB (d + 1) [125]) ++ lineB d [125]
    else if s.kind = 7 then lineB d ([102, 111, 114, 32] ++ s.name.data.toList ++ [32, 105, 110, 32] ++ txE s.a ++ [46, 46] ++ txE s.b ++ [32, 123]) ++ txSs s.body (d + 1) ++ lineB d [125]
    else if s.kind = 8 then lineB d [98, 114, 101, 97, 107, 59]
    else if s.kind = 9 then lineB d ([114, 101, 116, 117, 114, 110, 32] ++ txE s.a ++ [59])
    else lineB d (txE s.a ++ [59]) := by
  cases s; rw [txS]; rfl
theorem txC_eq' (c : Ca) (d : Nat) : txC c d = lineB d ([99, 97, 115, 101, 32] ++ Lib.itoa c.n ++ [32, 123]) ++ txSs c.body (d + 1) ++ lineB d [125] := by
  cases c; simp only [txC, Ca.n, Ca.body]
theorem nm_len {s : ByteArray} (h : nameZ s = true) : s.data.toList.length ≤ 16 := by
  have := nameZ_len h
  rw [Array.length_toList]
  exact this

theorem txS_len {w : World} (k : Nat) : (∀ (s : St) (lv : Nat) (at_ : Int) (d : Nat), s.sz ≤ k → s.In w → (chkT s lv at_).1 = 0 → d ≤ 2 * lv + 20 → (txS s d).length ≤ 1000 * s.V) ∧
    (∀ (l : List St) (lv : Nat) (at_ : Int) (d : Nat), ssz l ≤ k → (∀ x ∈ l, x.In w) → (chkSs l lv at_).1 = 0 → d ≤ 2 * lv + 20 → (txSs l d).length ≤ 1000 * vSs l) := by
  have step : ∀ k, (∀ (s : St) (lv : Nat) (at_ : Int) (d : Nat), s.sz ≤ k → s.In w → (chkT s lv at_).1 = 0 → d ≤ 2 * lv + 20 → (txS s d).length ≤ 1000 * s.V) →
      ∀ (l : List St) (lv : Nat) (at_ : Int) (d : Nat), ssz l ≤ k → (∀ x ∈ l, x.In w) → (chkSs l lv at_).1 = 0 → d ≤ 2 * lv + 20 → (txSs l d).length ≤ 1000 * vSs l := by
    intro k h1 l
    induction l with
    | nil => intro lv at_ d _ _ _ _; simp [txSs]
    | cons x r ihr =>
      intro lv at_ d hk hin hc hd
      rw [ssz] at hk
      rw [chkSs] at hc
      obtain ⟨c1, c2⟩ := thenZ_ok hc
      have a1 := h1 x lv _ d (by omega) (hin x (by simp)) c1 hd
      have a2 := ihr lv _ d (by omega) (fun y hy => hin y (by simp [hy])) c2 hd
      rw [txSs, vSs, List.length_append]; omega
  induction k with
  | zero =>
    have h0 : ∀ (s : St) (lv : Nat) (at_ : Int) (d : Nat), s.sz ≤ 0 → s.In w → (chkT s lv at_).1 = 0 → d ≤ 2 * lv + 20 → (txS s d).length ≤ 1000 * s.V := fun s _ _ _ hk => by have := s.sz_eq; omega
    exact ⟨h0, step 0 h0⟩
  | succ k ih =>
    have h1 : ∀ (s : St) (lv : Nat) (at_ : Int) (d : Nat), s.sz ≤ k + 1 → s.In w → (chkT s lv at_).1 = 0 → d ≤ 2 * lv + 20 → (txS s d).length ≤ 1000 * s.V := by
      intro s lv at_ d hk hin hc hd
      obtain ⟨cs, ⟨ab, cb⟩, ⟨ac, cc⟩, ⟨ae, ce⟩⟩ := chkT_ok hc
      obtain ⟨hlv, hk1, hk2, hnm, hoa, hob⟩ := chkS_ok cs
      have hz := s.sz_eq
      have hi := St.in_iff.1 hin
      have hd2 : d ≤ 84 := by omega
      have lb : (txSs s.body (d + 1)).length ≤ 1000 * vSs s.body := ih.2 s.body (lv + 1) ab (d + 1) (by omega) hi.2.2.2.2.2.1.2 (by exact_mod_cast cb) (by omega)
      have le1 : (txSs s.els (d + 1)).length ≤ 1000 * vSs s.els := ih.2 s.els (lv + 1) ae (d + 1) (by omega) hi.2.2.2.2.2.2.1.2 (by exact_mod_cast ce) (by omega)
      have le2 : (txSs s.els (d + 2)).length ≤ 1000 * vSs s.els := ih.2 s.els (lv + 1) ae (d + 2) (by omega) hi.2.2.2.2.2.2.1.2 (by exact_mod_cast ce) (by omega)
      have lc : (txCs s.cases (d + 1)).length ≤ 1000 * (vCs s.cases + s.cases.length) := by
        have gen : ∀ (l : List Ca) (a : Int), csz l ≤ k → (∀ x ∈ l, x.In w) → (chkCs l ((lv + 1 : Nat) : Int) a).1 = 0 → (txCs l (d + 1)).length ≤ 1000 * (vCs l + l.length) := by
          intro l
          induction l with
          | nil => intro a _ _ _; simp [txCs]
          | cons c r ihr =>
            intro a hk hin hc
            rw [csz] at hk
            rw [chkCs] at hc
            obtain ⟨c1, c2⟩ := thenZ_ok hc
            rw [chkCa_eq] at c1
            have hci := Ca.in_iff.1 (hin c (by simp))
            have a1 := ih.2 c.body (lv + 1) a (d + 1 + 1) (by have := c.sz_eq; omega) hci.2.2 c1 (by omega)
            have a2 := ihr _ (by omega) (fun y hy => hin y (by simp [hy])) c2
            have a3 := Lib.itoa_length_le c.n hci.1.1 hci.1.2
            rw [txCs, vCs, c.V_eq, txC_eq']
            simp only [List.length_append, lineB_len, List.length_cons, List.length_nil]
            omega
        exact gen s.cases ac (by omega) hi.2.2.2.2.2.2.2.2 (by exact_mod_cast cc)
      have la : OkE s.a → (txE s.a).length + 4 ≤ 32 * zE s.a := fun h => by rw [okE_zE h]; exact txE_len _ s.a (Nat.le_refl _) hi.2.2.2.1 h
      have lbb : OkE s.b → (txE s.b).length + 4 ≤ 32 * zE s.b := fun h => by rw [okE_zE h]; exact txE_len _ s.b (Nat.le_refl _) hi.2.2.2.2.1 h
      have ln := Lib.itoa_length_le s.n hi.2.2.1.1 hi.2.2.1.2
      rw [s.V_eq, txS_eq]
      have hcase : s.kind = 1 ∨ s.kind = 2 ∨ s.kind = 3 ∨ s.kind = 4 ∨ s.kind = 5 ∨ s.kind = 6 ∨ s.kind = 7 ∨ s.kind = 8 ∨ s.kind = 9 ∨ s.kind = 10 := by omega
      rcases hcase with h | h | h | h | h | h | h | h | h | h <;> rw [h] at hnm hoa hob ⊢
      · have := la (hoa rfl)
        have := nm_len (hnm rfl)
        rw [if_pos rfl]
        simp only [List.length_append, lineB_len, List.length_cons, List.length_nil]; omega
      · have := nm_len (hnm rfl)
        rw [if_neg (show ¬ (2 : Int) = 1 by decide), if_pos rfl]
        simp only [List.length_append, lineB_len, List.length_cons, List.length_nil]; omega
      · have := la (hoa rfl)
        have := nm_len (hnm rfl)
        rw [if_neg (show ¬ (3 : Int) = 1 by decide), if_neg (show ¬ (3 : Int) = 2 by decide), if_pos rfl]
        simp only [List.length_append, lineB_len, List.length_cons, List.length_nil]; omega
      · have := la (hoa rfl)
        have := lbb (hob rfl)
        have := nm_len (hnm rfl)
        rw [if_neg (show ¬ (4 : Int) = 1 by decide), if_neg (show ¬ (4 : Int) = 2 by decide), if_neg (show ¬ (4 : Int) = 3 by decide), if_pos rfl]
        simp only [List.length_append, lineB_len, List.length_cons, List.length_nil]; omega
      · have := la (hoa rfl)
        rw [if_neg (show ¬ (5 : Int) = 1 by decide), if_neg (show ¬ (5 : Int) = 2 by decide), if_neg (show ¬ (5 : Int) = 3 by decide), if_neg (show ¬ (5 : Int) = 4 by decide), if_pos rfl]
        by_cases h0 : s.els.length = 0
        · rw [if_pos h0]; simp only [List.length_append, lineB_len, List.length_cons, List.length_nil]; omega
        · rw [if_neg h0]; simp only [List.length_append, lineB_len, List.length_cons, List.length_nil]; omega
      · have := la (hoa rfl)
        rw [if_neg (show ¬ (6 : Int) = 1 by decide), if_neg (show ¬ (6 : Int) = 2 by decide), if_neg (show ¬ (6 : Int) = 3 by decide), if_neg (show ¬ (6 : Int) = 4 by decide), if_neg (show ¬ (6 : Int) = 5 by decide), if_pos rfl]
        by_cases h0 : s.els.length = 0
        · rw [if_pos h0]; simp only [List.length_append, lineB_len, List.length_cons, List.length_nil]; omega
        · rw [if_neg h0]; simp only [List.length_append, lineB_len, List.length_cons, List.length_nil]; omega
      · have := la (hoa rfl)
        have := lbb (hob rfl)
        have := nm_len (hnm rfl)
        rw [if_neg (show ¬ (7 : Int) = 1 by decide), if_neg (show ¬ (7 : Int) = 2 by decide), if_neg (show ¬ (7 : Int) = 3 by decide), if_neg (show ¬ (7 : Int) = 4 by decide), if_neg (show ¬ (7 : Int) = 5 by decide), if_neg (show ¬ (7 : Int) = 6 by decide), if_pos rfl]
        simp only [List.length_append, lineB_len, List.length_cons, List.length_nil]; omega
      · rw [if_neg (show ¬ (8 : Int) = 1 by decide), if_neg (show ¬ (8 : Int) = 2 by decide), if_neg (show ¬ (8 : Int) = 3 by decide), if_neg (show ¬ (8 : Int) = 4 by decide), if_neg (show ¬ (8 : Int) = 5 by decide), if_neg (show ¬ (8 : Int) = 6 by decide), if_neg (show ¬ (8 : Int) = 7 by decide), if_pos rfl]
        simp only [lineB_len, List.length_cons, List.length_nil]; omega
      · have := la (hoa rfl)
        rw [if_neg (show ¬ (9 : Int) = 1 by decide), if_neg (show ¬ (9 : Int) = 2 by decide), if_neg (show ¬ (9 : Int) = 3 by decide), if_neg (show ¬ (9 : Int) = 4 by decide), if_neg (show ¬ (9 : Int) = 5 by decide), if_neg (show ¬ (9 : Int) = 6 by decide), if_neg (show ¬ (9 : Int) = 7 by decide), if_neg (show ¬ (9 : Int) = 8 by decide), if_pos rfl]
        simp only [List.length_append, lineB_len, List.length_cons, List.length_nil]; omega
      · have := la (hoa rfl)
        rw [if_neg (show ¬ (10 : Int) = 1 by decide), if_neg (show ¬ (10 : Int) = 2 by decide), if_neg (show ¬ (10 : Int) = 3 by decide), if_neg (show ¬ (10 : Int) = 4 by decide), if_neg (show ¬ (10 : Int) = 5 by decide), if_neg (show ¬ (10 : Int) = 6 by decide), if_neg (show ¬ (10 : Int) = 7 by decide), if_neg (show ¬ (10 : Int) = 8 by decide), if_neg (show ¬ (10 : Int) = 9 by decide)]
        simp only [List.length_append, lineB_len, List.length_cons, List.length_nil]; omega
    exact ⟨h1, step (k + 1) h1⟩
end Go.Proofs.YtbpemackmadhgabDoor

/- tree.Print, where nothing is wrong with the form. -/
namespace Go.Proofs.YtbpemackmadhgabDoor
open Go.RowKit Go.Sort

theorem heap3 {w w1 : World} {c1 c2 : Array Value} {t1 t2 : TypeId} (hb : Below ((w.alloc (.cells c1 t1)).alloc (.cells c2 t2)).heap.size ((w.alloc (.cells c1 t1)).alloc (.cells c2 t2)) w1) :
    w1.heap[w.heap.size]? = some (.cells c1 t1 (0, 0)) ∧ w1.heap[w.heap.size + 1]? = some (.cells c2 t2 (0, 0)) := by
  have h1 : ((w.alloc (.cells c1 t1)).alloc (.cells c2 t2)).heap[w.heap.size]? = some (.cells c1 t1 (0, 0)) := (Lib.alloc_old _ _ _ (by simp)).trans (heap_alloc_new w _)
  have h2 : ((w.alloc (.cells c1 t1)).alloc (.cells c2 t2)).heap[w.heap.size + 1]? = some (.cells c2 t2 (0, 0)) := by
    have := heap_alloc_new (w.alloc (.cells c1 t1)) (.cells c2 t2)
    rwa [World.size_alloc] at this
  exact ⟨(hb.block _ (by simp; omega)).trans h1, (hb.block _ (by simp)).trans h2⟩

set_option maxHeartbeats 2000000 in
set_option maxRecDepth 100000 in
theorem string_oth (B b : Nat) (l : List UInt8) (d : Int) (w : World) (h : Pg B b (Lib.byteCells l) d w) :
    Calls Tryd.prog 26 #[.pointer (some ⟨b, 0, none⟩)] w fun e w' => e = .returned (.string ⟨l.toArray⟩) ∧ Below B w w' ∧ Oth b w w' := by
  obtain ⟨p, h1⟩ := h.some
  clear h
  obtain ⟨hB, v, hbk, hown, hne, hnil⟩ := h1
  rw [Lib.byteCells_length] at hown
  by_cases h0 : l = []
  · subst h0
    obtain rfl := hnil rfl
    have c1 : w.drew.cell? ⟨b, 1, none⟩ = some (.slice none 0 0) := by
      have : w.drew.heap[b]? = some (.cells #[p, .slice none 0 0, .int .i64 d] 68 (0, 0)) := hbk
      rw [Lib.cell_of_heap this]; rfl
    have hSD : (Builtin.unsafeSliceData_ #[64] 89 #[.slice none 0 0]).run Tryd.prog w.drew = .ok (.pointer none) w.drew := rfl
    have hUS : (Builtin.unsafeString_ #[89, 3] 9 #[.pointer none, .int .i64 0]).run Tryd.prog w.drew = .ok (.string .empty) w.drew := rfl
    clear hown hbk hne hnil
    go_enter Tryd.func26, Tryd.ntmps26
    go_wp2
    go_region
    all_goals (go_wp2; go_ret; exact ⟨rfl, Below.drew (Below.refl B w), (Lib.OthersKept.refl _ _ w).drew⟩)
  · have hl0 : l.length ≠ 0 := by simpa using h0
    obtain ⟨g, cap, cur, rfl, hbg, hg, hnc, hcm, hcs, htake⟩ : ∃ g cap cur, v = .slice (some ⟨g, 0, none⟩) l.length cap ∧ B ≤ g ∧ w.heap[g]? = some (.cells cur 5 (0, 0)) ∧ l.length ≤ cap ∧ cap ≤ maxLen ∧ cur.size = cap * 1 ∧ cur.toList.take (l.length * 1) = Lib.byteCells l := by
      rcases hown.2 with ⟨_, hz⟩ | ⟨g, cap, cur, hv, r⟩
      · exact absurd hz hl0
      · exact ⟨g, cap, cur, hv, r⟩
    have c1 : w.drew.cell? ⟨b, 1, none⟩ = some (.slice (some ⟨g, 0, none⟩) l.length cap) := by
      have : w.drew.heap[b]? = some (.cells #[p, .slice (some ⟨g, 0, none⟩) l.length cap, .int .i64 d] 68 (0, 0)) := hbk
      rw [Lib.cell_of_heap this]; rfl
    have hSD : (Builtin.unsafeSliceData_ #[64] 89 #[.slice (some ⟨g, 0, none⟩) l.length cap]).run Tryd.prog w.drew = .ok (.pointer (some ⟨g, 0, none⟩)) w.drew :=
      Lib.run_unsafeSliceData_row _ _ _ _ _ _ (by omega)
    have hUS : (Builtin.unsafeString_ #[89, 3] 9 #[.pointer (some ⟨g, 0, none⟩), .int .i64 l.length]).run Tryd.prog w.drew = .ok (.string ⟨l.toArray⟩) (w.drew.freeze ⟨g, 0, none⟩ l.length) := by
      refine Lib.run_unsafeString_row w.drew 89 3 9 5 Tryd.underlying89 Tryd.cellsByte g cur.size (by have hg' : w.drew.heap[g]? = some (.cells cur 5 (0, 0)) := hg; simp [World.shape?, hg']) l h0 (by omega) (by unfold maxLen at hcm; omega) ?_
      intro j x hx
      exact hown.cells (g := g) rfl j (.int .u8 x.toNat) (by simp [Lib.byteCells, hx])
    have HG : Hid (w.heap[g]? = some (.cells cur 5 (0, 0))) := hg
    clear hown hbk hne hnil hg htake
    go_enter Tryd.func26, Tryd.ntmps26
    go_wp2
    go_region
    all_goals (go_wp2; go_ret; exact ⟨rfl, Lib.below_freeze (Below.drew (Below.refl B w)) (p := ⟨g, 0, none⟩) hbg _, Lib.OthersKept.freeze ((Lib.OthersKept.refl _ _ w).drew) ⟨g, 0, none⟩ _ ⟨_, _, HG.out⟩⟩)
set_option maxRecDepth 100000 in
set_option maxHeartbeats 8000000 in
theorem print_ok (p : Pr) (w : World) (hin : p.In w) (ht : Tabs w) (hnt : NumT w) (hck : checkZ p = (0, 0, 0)) (hw16 : p.widen.length ≤ 16) (hf : ∀ f ∈ p.funcs, FnPr w f) (hlen : (txP p).length ≤ 65536) :
    Calls Tryd.prog 11 #[p.val] w fun e w' => e = .returned (.tuple #[sB (txP p), fltV 0 0 0]) ∧ Below w.heap.size w w' := by
  have HC : Hid (∀ w', Below w.heap.size w w' → Calls Tryd.prog 7 #[p.val] w' fun e w'' => e = .returned (fltV 0 0 0) ∧ Below w'.heap.size w' w'') := fun w' hb => by
    have := check_any p w' (hin.stay hb) (ht.stay hb)
    rw [hck] at this; exact this
  have HP : Hid (∀ b w', Below w.heap.size w w' → PgT w.heap.size b [] 0 w' → Calls Tryd.prog 24 #[.pointer (some ⟨b, 0, none⟩), p.val] w' fun e w'' => e = .returned (.tuple #[]) ∧ PgT w.heap.size b (txP p) 0 w'' ∧ Below w.heap.size w' w'' ∧ Oth b w' w'') := fun b w' hb hp => program_any w b w' p hb hp hin hnt hw16 hf (by omega)
  clear hin ht hnt hck hf
  unfold Pr.val at HC HP ⊢
  have hb1 := ((Below.refl _ w).alloc (Nat.le_refl _) (.cells #[.slice p.wa p.widen.length p.wc, .slice p.fa p.funcs.length p.fc] 25)).alloc (by simp) (.cells #[.int .i64 0, .int .i64 0, .int .i64 0] 29)
  go_enter Tryd.func11, Tryd.ntmps11
  go_wp2_with fail
  refine (HC.out _ hb1).mono ?_
  rintro e w1 ⟨rfl, hbc⟩
  obtain ⟨k1, k2⟩ := heap3 hbc
  have hb2 := Below.on hb1 hbc
  have hs1 : w.heap.size + 1 + 1 ≤ w1.heap.size := by have := hbc.size; simp at this; omega
  have c0 : w1.cell? ⟨w.heap.size, 0, none⟩ = some (.slice p.wa p.widen.length p.wc) := by rw [Lib.cell_of_heap k1]; rfl
  have c1 : w1.cell? ⟨w.heap.size, 1, none⟩ = some (.slice p.fa p.funcs.length p.fc) := by rw [Lib.cell_of_heap k1]; rfl
  have K2 : Hid (w1.heap[w.heap.size + 1]? = some (.cells #[.int .i64 0, .int .i64 0, .int .i64 0] 29 (0, 0))) := k2
  have hlt0 : w.heap.size < w1.heap.size := by omega
  have hlt1 : w.heap.size + 1 < w1.heap.size := by omega
  clear k1 k2 hbc hb1
  go_wp2_with fail
  have hbx := ((Below.refl _ w1).alloc (Nat.le_refl _) (.cells #[.int .i64 0, .int .i64 0, .int .i64 0] 29)).alloc (by simp) (.cells #[.pointer none, .slice none 0 0, .int .i64 0] 68)
  have hbn : ((w1.alloc (.cells #[.int .i64 0, .int .i64 0, .int .i64 0] 29)).alloc (.cells #[.pointer none, .slice none 0 0, .int .i64 0] 68)).heap[w1.heap.size + 1]? = some (.cells #[.pointer none, .slice none 0 0, .int .i64 0] 68 (0, 0)) := by
    have := heap_alloc_new (w1.alloc (.cells #[.int .i64 0, .int .i64 0, .int .i64 0] 29)) (.cells #[.pointer none, .slice none 0 0, .int .i64 0] 68)
    rwa [World.size_alloc] at this
  have hpg : PgT w.heap.size (w1.heap.size + 1) [] 0 ((w1.alloc (.cells #[.int .i64 0, .int .i64 0, .int .i64 0] 29)).alloc (.cells #[.pointer none, .slice none 0 0, .int .i64 0] 68)) :=
    .inl ⟨by omega, .slice none 0 0, hbn, World.ownsRow_nil _ _ _ _, by simp [Value.ownBlock], fun _ => rfl⟩
  have K3 : Hid (((w1.alloc (.cells #[.int .i64 0, .int .i64 0, .int .i64 0] 29)).alloc (.cells #[.pointer none, .slice none 0 0, .int .i64 0] 68)).heap[w.heap.size + 1]? = some (.cells #[.int .i64 0, .int .i64 0, .int .i64 0] 29 (0, 0))) := (hbx.block _ hlt1).trans K2.out
  have hbb := Below.on hb2 hbx
  refine (HP.out _ _ hbb hpg).mono ?_
  rintro e w2 ⟨rfl, hp2, hb3, ho3⟩
  have HP2 : Hid (PgT w.heap.size (w1.heap.size + 1) (txP p) 0 w2) := hp2
  have K4 : w2.heap[w.heap.size + 1]? = some (.cells #[.int .i64 0, .int .i64 0, .int .i64 0] 29 (0, 0)) := ho3 _ _ K3.out (by simp; omega) (fun c fz e => by cases e)
  have hb4 : Below w.heap.size w w2 := hbb.trans hb3
  clear hp2 hb3 ho3 hbn hpg hbx hbb c0 c1 K3 K2 hb2
  go_wp2_with fail
  refine (len_any _ _ _ _ _ HP2.out).mono ?_
  rintro e w3 ⟨rfl, rfl⟩
  have HL : Hid (((Lib.byteCells (txP p)).length : Int) ≤ 65536) := by show _ ≤ _; rw [Lib.byteCells_length]; omega
  have hll := HL.out
  generalize ((Lib.byteCells (txP p)).length : Int) = ln at hll ⊢
  have hll2 : ¬ 65536 < ln := by omega
  go_wp2_with fail
  refine (string_oth _ _ (txP p) _ _ HP2.out).mono ?_
  rintro e w4 ⟨rfl, hb5, ho5⟩
  have K5 : w4.heap[w.heap.size + 1]? = some (.cells #[.int .i64 0, .int .i64 0, .int .i64 0] 29 (0, 0)) := ho5 _ _ K4 (by simp; omega) (fun c fz e => by cases e)
  have r0 : w4.cell? ⟨w.heap.size + 1, 0, none⟩ = some (.int .i64 0) := by rw [Lib.cell_of_heap K5]; rfl
  have r1 : w4.cell? ⟨w.heap.size + 1, 1, none⟩ = some (.int .i64 0) := by rw [Lib.cell_of_heap K5]; rfl
  have r2 : w4.cell? ⟨w.heap.size + 1, 2, none⟩ = some (.int .i64 0) := by rw [Lib.cell_of_heap K5]; rfl
  have q0 : w4.frozen? ⟨w.heap.size + 1, 0, none⟩ = false := Lib.frozen_of_heap K5 0
  have q1 : w4.frozen? ⟨w.heap.size + 1, 1, none⟩ = false := Lib.frozen_of_heap K5 1
  have q2 : w4.frozen? ⟨w.heap.size + 1, 2, none⟩ = false := Lib.frozen_of_heap K5 2
  have hb6 := hb4.trans hb5
  clear K4 K5 ho5 hb5 hb4
  go_wp2_with fail
  refine bodyPost_ret (v := .tuple #[sB (txP p), fltV 0 0 0]) (by simp [results, Tryd.results11, go_sem, r0, r1, r2]) rfl ⟨rfl, below_set3 hb6 (by omega) _ _ _⟩
end Go.Proofs.YtbpemackmadhgabDoor

/- tree.Print where the text is too long, and where Check finds something wrong. -/
namespace Go.Proofs.YtbpemackmadhgabDoor
open Go.RowKit Go.Sort

set_option maxRecDepth 100000 in
set_option maxHeartbeats 8000000 in
theorem print_long (p : Pr) (w : World) (hin : p.In w) (ht : Tabs w) (hnt : NumT w) (hck : checkZ p = (0, 0, 0)) (hw16 : p.widen.length ≤ 16) (hf : ∀ f ∈ p.funcs, FnPr w f) (hlen : 65536 < (txP p).length) (hlen2 : (txP p).length ≤ 140737488355328) :
    Calls Tryd.prog 11 #[p.val] w fun e w' => e = .returned (.tuple #[sB [], fltV 4 0 0]) ∧ Below w.heap.size w w' := by
  have HC : Hid (∀ w', Below w.heap.size w w' → Calls Tryd.prog 7 #[p.val] w' fun e w'' => e = .returned (fltV 0 0 0) ∧ Below w'.heap.size w' w'') := fun w' hb => by
    have := check_any p w' (hin.stay hb) (ht.stay hb)
    rw [hck] at this; exact this
  have HP : Hid (∀ b w', Below w.heap.size w w' → PgT w.heap.size b [] 0 w' → Calls Tryd.prog 24 #[.pointer (some ⟨b, 0, none⟩), p.val] w' fun e w'' => e = .returned (.tuple #[]) ∧ PgT w.heap.size b (txP p) 0 w'' ∧ Below w.heap.size w' w'' ∧ Oth b w' w'') := fun b w' hb hp => program_any w b w' p hb hp hin hnt hw16 hf hlen2
  clear hin ht hnt hck hf
  unfold Pr.val at HC HP ⊢
  have hb1 := ((Below.refl _ w).alloc (Nat.le_refl _) (.cells #[.slice p.wa p.widen.length p.wc, .slice p.fa p.funcs.length p.fc] 25)).alloc (by simp) (.cells #[.int .i64 0, .int .i64 0, .int .i64 0] 29)
  go_enter Tryd.func11, Tryd.ntmps11
  go_wp2_with fail
  refine (HC.out _ hb1).mono ?_
  rintro e w1 ⟨rfl, hbc⟩
  obtain ⟨k1, k2⟩ := heap3 hbc
  have hb2 := Below.on hb1 hbc
  have hs1 : w.heap.size + 1 + 1 ≤ w1.heap.size := by have := hbc.size; simp at this; omega
  have c0 : w1.cell? ⟨w.heap.size, 0, none⟩ = some (.slice p.wa p.widen.length p.wc) := by rw [Lib.cell_of_heap k1]; rfl
  have c1 : w1.cell? ⟨w.heap.size, 1, none⟩ = some (.slice p.fa p.funcs.length p.fc) := by rw [Lib.cell_of_heap k1]; rfl
  have K2 : Hid (w1.heap[w.heap.size + 1]? = some (.cells #[.int .i64 0, .int .i64 0, .int .i64 0] 29 (0, 0))) := k2
  have hlt0 : w.heap.size < w1.heap.size := by omega
  have hlt1 : w.heap.size + 1 < w1.heap.size := by omega
  clear k1 k2 hbc hb1
  go_wp2_with fail
  have hbx := ((Below.refl _ w1).alloc (Nat.le_refl _) (.cells #[.int .i64 0, .int .i64 0, .int .i64 0] 29)).alloc (by simp) (.cells #[.pointer none, .slice none 0 0, .int .i64 0] 68)
  have hbn : ((w1.alloc (.cells #[.int .i64 0, .int .i64 0, .int .i64 0] 29)).alloc (.cells #[.pointer none, .slice none 0 0, .int .i64 0] 68)).heap[w1.heap.size + 1]? = some (.cells #[.pointer none, .slice none 0 0, .int .i64 0] 68 (0, 0)) := by
    have := heap_alloc_new (w1.alloc (.cells #[.int .i64 0, .int .i64 0, .int .i64 0] 29)) (.cells #[.pointer none, .slice none 0 0, .int .i64 0] 68)
    rwa [World.size_alloc] at this
  have hpg : PgT w.heap.size (w1.heap.size + 1) [] 0 ((w1.alloc (.cells #[.int .i64 0, .int .i64 0, .int .i64 0] 29)).alloc (.cells #[.pointer none, .slice none 0 0, .int .i64 0] 68)) :=
    .inl ⟨by omega, .slice none 0 0, hbn, World.ownsRow_nil _ _ _ _, by simp [Value.ownBlock], fun _ => rfl⟩
  have K3 : Hid (((w1.alloc (.cells #[.int .i64 0, .int .i64 0, .int .i64 0] 29)).alloc (.cells #[.pointer none, .slice none 0 0, .int .i64 0] 68)).heap[w.heap.size + 1]? = some (.cells #[.int .i64 0, .int .i64 0, .int .i64 0] 29 (0, 0))) := (hbx.block _ hlt1).trans K2.out
  have hbb := Below.on hb2 hbx
  refine (HP.out _ _ hbb hpg).mono ?_
  rintro e w2 ⟨rfl, hp2, hb3, ho3⟩
  have HP2 : Hid (PgT w.heap.size (w1.heap.size + 1) (txP p) 0 w2) := hp2
  have K4 : w2.heap[w.heap.size + 1]? = some (.cells #[.int .i64 0, .int .i64 0, .int .i64 0] 29 (0, 0)) := ho3 _ _ K3.out (by simp; omega) (fun c fz e => by cases e)
  have hb4 : Below w.heap.size w w2 := hbb.trans hb3
  clear hp2 hb3 ho3 hbn hpg hbx hbb c0 c1 K3 K2 hb2
  go_wp2_with fail
  refine (len_any _ _ _ _ _ HP2.out).mono ?_
  rintro e w3 ⟨rfl, rfl⟩
  have HL : Hid (65536 < ((Lib.byteCells (txP p)).length : Int)) := by show _ < _; rw [Lib.byteCells_length]; omega
  have hll := HL.out
  generalize ((Lib.byteCells (txP p)).length : Int) = ln at hll ⊢
  have r0 : w3.cell? ⟨w.heap.size + 1, 0, none⟩ = some (.int .i64 0) := by rw [Lib.cell_of_heap K4]; rfl
  have r1 : w3.cell? ⟨w.heap.size + 1, 1, none⟩ = some (.int .i64 0) := by rw [Lib.cell_of_heap K4]; rfl
  have r2 : w3.cell? ⟨w.heap.size + 1, 2, none⟩ = some (.int .i64 0) := by rw [Lib.cell_of_heap K4]; rfl
  have q0 : w3.frozen? ⟨w.heap.size + 1, 0, none⟩ = false := Lib.frozen_of_heap K4 0
  have q1 : w3.frozen? ⟨w.heap.size + 1, 1, none⟩ = false := Lib.frozen_of_heap K4 1
  have q2 : w3.frozen? ⟨w.heap.size + 1, 2, none⟩ = false := Lib.frozen_of_heap K4 2
  clear K4
  go_wp2_with fail
  refine bodyPost_ret (v := .tuple #[sB [], fltV 4 0 0]) (by simp [results, Tryd.results11, go_sem, r0, r1, r2]) rfl ⟨rfl, below_set3 hb4 (by omega) _ _ _⟩

set_option maxRecDepth 100000 in
set_option maxHeartbeats 8000000 in
theorem print_bad (p : Pr) (w : World) (hin : p.In w) (ht : Tabs w) (hck : (checkZ p).1 ≠ 0) :
    Calls Tryd.prog 11 #[p.val] w fun e w' => e = .returned (.tuple #[sB [], fltV (checkZ p).1 (checkZ p).2.1 (checkZ p).2.2]) ∧ Below w.heap.size w w' := by
  have HC : Hid (∀ w', Below w.heap.size w w' → Calls Tryd.prog 7 #[p.val] w' fun e w'' => e = .returned (fltV (checkZ p).1 (checkZ p).2.1 (checkZ p).2.2) ∧ Below w'.heap.size w' w'') := fun w' hb => check_any p w' (hin.stay hb) (ht.stay hb)
  clear hin ht
  generalize (checkZ p).1 = e0 at *
  generalize (checkZ p).2.1 = e1 at *
  generalize (checkZ p).2.2 = e2 at *
  have hcb : (e0 != 0) = true := by simpa using hck
  unfold Pr.val at HC ⊢
  have hb1 := ((Below.refl _ w).alloc (Nat.le_refl _) (.cells #[.slice p.wa p.widen.length p.wc, .slice p.fa p.funcs.length p.fc] 25)).alloc (by simp) (.cells #[.int .i64 0, .int .i64 0, .int .i64 0] 29)
  go_enter Tryd.func11, Tryd.ntmps11
  go_wp2_with fail
  refine (HC.out _ hb1).mono ?_
  rintro e w1 ⟨rfl, hbc⟩
  obtain ⟨k1, k2⟩ := heap3 hbc
  have hb2 := Below.on hb1 hbc
  have hs1 : w.heap.size + 1 + 1 ≤ w1.heap.size := by have := hbc.size; simp at this; omega
  have r0 : w1.cell? ⟨w.heap.size + 1, 0, none⟩ = some (.int .i64 0) := by rw [Lib.cell_of_heap k2]; rfl
  have r1 : w1.cell? ⟨w.heap.size + 1, 1, none⟩ = some (.int .i64 0) := by rw [Lib.cell_of_heap k2]; rfl
  have r2 : w1.cell? ⟨w.heap.size + 1, 2, none⟩ = some (.int .i64 0) := by rw [Lib.cell_of_heap k2]; rfl
  have hne1 : w.heap.size + 1 ≠ w1.heap.size := by omega
  have hne2 : w1.heap.size ≠ w.heap.size + 1 := by omega
  have g0 : (w1.alloc (.cells #[.int .i64 e0, .int .i64 e1, .int .i64 e2] 29)).cell? ⟨w.heap.size + 1, 0, none⟩ = some (.int .i64 0) := (World.cell?_alloc_past _ _ _ (by show w.heap.size + 1 < _; omega)).trans r0
  have g1 : (w1.alloc (.cells #[.int .i64 e0, .int .i64 e1, .int .i64 e2] 29)).cell? ⟨w.heap.size + 1, 1, none⟩ = some (.int .i64 0) := (World.cell?_alloc_past _ _ _ (by show w.heap.size + 1 < _; omega)).trans r1
  have g2 : (w1.alloc (.cells #[.int .i64 e0, .int .i64 e1, .int .i64 e2] 29)).cell? ⟨w.heap.size + 1, 2, none⟩ = some (.int .i64 0) := (World.cell?_alloc_past _ _ _ (by show w.heap.size + 1 < _; omega)).trans r2
  obtain ⟨W2, hW2⟩ : ∃ W2, w1.alloc (.cells #[.int .i64 e0, .int .i64 e1, .int .i64 e2] 29) = W2 := ⟨_, rfl⟩
  have HW2 := show Hid _ from hW2
  have s0 : W2.cell? ⟨w1.heap.size, 0, none⟩ = some (.int .i64 e0) := by rw [← hW2, World.cell?_alloc_at _ _ _ _ rfl]; rfl
  have s1 : W2.cell? ⟨w1.heap.size, 1, none⟩ = some (.int .i64 e1) := by rw [← hW2, World.cell?_alloc_at _ _ _ _ rfl]; rfl
  have s2 : W2.cell? ⟨w1.heap.size, 2, none⟩ = some (.int .i64 e2) := by rw [← hW2, World.cell?_alloc_at _ _ _ _ rfl]; rfl
  have kk : W2.heap[w.heap.size + 1]? = some (.cells #[.int .i64 0, .int .i64 0, .int .i64 0] 29 (0, 0)) := by rw [← hW2, Below.heap_alloc _ _ _ (by omega)]; exact k2
  rw [hW2] at g0 g1 g2
  have q0 : W2.frozen? ⟨w.heap.size + 1, 0, none⟩ = false := Lib.frozen_of_heap kk 0
  have q1 : W2.frozen? ⟨w.heap.size + 1, 1, none⟩ = false := Lib.frozen_of_heap kk 1
  have q2 : W2.frozen? ⟨w.heap.size + 1, 2, none⟩ = false := Lib.frozen_of_heap kk 2
  have hb3 : Below w.heap.size w W2 := by rw [← hW2]; exact hb2.alloc (by omega) _
  clear hW2 kk k1 k2 hbc hb1 r0 r1 r2
  go_wp2_with fail
  rw [HW2.out]
  clear HW2
  have d0 : W2.drew.cell? ⟨w.heap.size + 1, 0, none⟩ = some (.int .i64 0) := g0
  have d1 : W2.drew.cell? ⟨w.heap.size + 1, 1, none⟩ = some (.int .i64 0) := g1
  have d2 : W2.drew.cell? ⟨w.heap.size + 1, 2, none⟩ = some (.int .i64 0) := g2
  go_region
  all_goals go_wp2_with fail
  all_goals refine bodyPost_ret (v := .tuple #[sB [], fltV e0 e1 e2]) (by simp [results, Tryd.results11, go_sem, g0, g1, g2]) rfl ⟨rfl, ?_⟩
  all_goals first | exact below_set3 hb3.drew (by omega) _ _ _ | exact (below_set3 hb3 (by omega) _ _ _).drew
end Go.Proofs.YtbpemackmadhgabDoor

/- Every statement of a right program is written; tree.Print for every program. -/
namespace Go.Proofs.YtbpemackmadhgabDoor
open Go.RowKit Go.Sort

theorem stmt_prints {w0 : World} (ht : Tabs w0) (hnt : NumT w0) (k : Nat) : ∀ (s : St) (lv : Nat) (at_ : Int), s.sz ≤ k → s.In w0 → (chkT s lv at_).1 = 0 → s.V ≤ 5000 → StmtD w0 (2 * lv) s := by
  induction k with
  | zero => intro s lv at_ hk; have := s.sz_eq; omega
  | succ k ih =>
    intro s lv at_ hk hin hc hV
    obtain ⟨cs, ⟨ab, cb⟩, ⟨ac, cc⟩, ⟨ae, ce⟩⟩ := chkT_ok hc
    obtain ⟨hlv, hk1, hk2, hnm, hoa, hob⟩ := chkS_ok cs
    have hz := s.sz_eq
    have hv := s.V_eq
    have hi := St.in_iff.1 hin
    have hlv' : lv ≤ 32 := by omega
    have sb : ∀ x ∈ s.body, StmtD w0 (2 * lv + 2) x := fun x hx => by
      obtain ⟨a, ha⟩ := chkSs_ok cb x hx
      exact ih x (lv + 1) a (by have := ssz_mem hx; omega) (hi.2.2.2.2.2.1.2 x hx) (by exact_mod_cast ha) (by have := vSs_mem hx; omega)
    have se : ∀ x ∈ s.els, StmtD w0 (2 * lv + 2) x := fun x hx => by
      obtain ⟨a, ha⟩ := chkSs_ok ce x hx
      exact ih x (lv + 1) a (by have := ssz_mem hx; omega) (hi.2.2.2.2.2.2.1.2 x hx) (by exact_mod_cast ha) (by have := vSs_mem hx; omega)
    have sc : ∀ c ∈ s.cases, ∀ x ∈ c.body, StmtD w0 (2 * lv + 2) x := fun c hcm x hx => by
      obtain ⟨a1, ha1⟩ := chkCs_ok cc c hcm
      obtain ⟨a, ha⟩ := chkSs_ok ha1 x hx
      have h1 := csz_mem hcm
      have h2 := c.sz_eq
      have h3 := vCs_mem hcm
      have h4 := c.V_eq
      exact ih x (lv + 1) a (by have := ssz_mem hx; omega) ((Ca.in_iff.1 (hi.2.2.2.2.2.2.2.2 c hcm)).2.2 x hx) (by exact_mod_cast ha) (by have := vSs_mem hx; omega)
    have za : OkE s.a → s.a.sz ≤ 1000000 := fun h => by have := okE_zE h; omega
    have zb : OkE s.b → s.b.sz ≤ 1000000 := fun h => by have := okE_zE h; omega
    have hcase : s.kind = 1 ∨ s.kind = 2 ∨ s.kind = 3 ∨ s.kind = 4 ∨ s.kind = 5 ∨ s.kind = 6 ∨ s.kind = 7 ∨ s.kind = 8 ∨ s.kind = 9 ∨ s.kind = 10 := by omega
    rcases hcase with h | h | h | h | h | h | h | h | h | h <;> rw [h] at hoa hob
    · exact stmtD_le (stmt1 w0 s h hin ht hnt (hoa rfl) (za (hoa rfl))) (by omega)
    · exact stmtD_le (stmt2 w0 s h hin hnt) (by omega)
    · exact stmtD_le (stmt3 w0 s h hin ht hnt (hoa rfl) (za (hoa rfl))) (by omega)
    · exact stmtD_le (stmt4 w0 s h hin ht hnt (hoa rfl) (za (hoa rfl)) (hob rfl) (zb (hob rfl))) (by omega)
    · exact stmt5 w0 s h hin ht hnt (hoa rfl) (za (hoa rfl)) (2 * lv) (by omega) (fun x hx => stmtD_le (sb x hx) (by omega)) (fun x hx => stmtD_le (se x hx) (by omega))
    · exact stmt6 w0 s h hin ht hnt (hoa rfl) (za (hoa rfl)) (2 * lv) (by omega) sc se
    · exact stmt7 w0 s h hin ht hnt (hoa rfl) (za (hoa rfl)) (hob rfl) (zb (hob rfl)) (2 * lv) (by omega) (fun x hx => stmtD_le (sb x hx) (by omega))
    · exact stmtD_le (stmt8 w0 s h) (by omega)
    · exact stmtD_le (stmt9 w0 s h hin ht hnt (hoa rfl) (za (hoa rfl))) (by omega)
    · exact stmtD_le (stmt10 w0 s h hin ht hnt (hoa rfl) (za (hoa rfl))) (by omega)

theorem chkFs_ok : ∀ {l : List Fu} {i : Int}, (chkFs l i).1 = 0 → chkFs l i = (0, 0, 0) ∧ ∀ f ∈ l, (chkF f).1 = 0
  | [], _, _ => ⟨rfl, fun f hf => by cases hf⟩
  | f :: r, i, h => by
    rw [chkFs] at h ⊢
    split at h
    · exact absurd h (by assumption)
    · rename_i h0
      obtain ⟨h1, h2⟩ := chkFs_ok h
      rw [if_neg h0]
      refine ⟨h1, fun g hg => ?_⟩
      rcases List.mem_cons.1 hg with rfl | hg
      · simpa using h0
      · exact h2 g hg
theorem check_ok {p : Pr} (h : (checkZ p).1 = 0) : checkZ p = (0, 0, 0) ∧ wholeZ p = 0 ∧ ∀ f ∈ p.funcs, (chkF f).1 = 0 := by
  unfold checkZ at h ⊢
  split at h
  · exact absurd h (by assumption)
  · rename_i h0
    obtain ⟨h1, h2⟩ := chkFs_ok h
    rw [if_neg h0]
    exact ⟨h1, by simpa using h0, h2⟩
theorem parsZ_ok : ∀ {l : List Pa}, parsZ l = 0 → ∀ q ∈ l, nameZ q.name = true
  | [], _, q, hq => by cases hq
  | p :: r, h, q, hq => by
    rw [parsZ] at h
    split at h
    · omega
    · rename_i h0
      split at h
      · omega
      · rcases List.mem_cons.1 hq with rfl | hq
        · simpa using h0
        · exact parsZ_ok h q hq
theorem chkF_ok {f : Fu} (h : (chkF f).1 = 0) : nameZ f.name = true ∧ f.params.length ≤ 8 ∧ (∀ q ∈ f.params, nameZ q.name = true) ∧ (chkSs f.body 1 0).1 = 0 := by
  unfold chkF at h
  split at h
  · exact absurd h (by assumption)
  · rename_i h0
    have h1 : headZ f = 0 := by simpa using h0
    unfold headZ at h1
    split at h1
    · omega
    · rename_i h2
      split at h1
      · omega
      · exact ⟨by simpa using h2, by omega, parsZ_ok h1, h⟩
theorem pa_len {q : Pa} (hq : q.Ok) (h : nameZ q.name = true) : (paB q).length ≤ 100 := by
  have h1 := nm_len h
  have h2 := Lib.itoa_length_le q.lo hq.2.1.1 hq.2.1.2
  have h3 := Lib.itoa_length_le q.hi hq.2.2.1 hq.2.2.2
  simp only [paB, List.length_append, List.length_cons, List.length_nil]
  omega
end Go.Proofs.YtbpemackmadhgabDoor

/- tree.Print for every program. -/
namespace Go.Proofs.YtbpemackmadhgabDoor
open Go.RowKit Go.Sort

theorem com_len (l : List (List UInt8)) (c : Nat) (h : ∀ t ∈ l, t.length ≤ c) : (comB l).length ≤ l.length * (c + 2) := by
  refine Nat.le_trans (comB_len l) ?_
  induction l with
  | nil => simp
  | cons t r ih =>
    rw [List.map_cons, List.sum_cons, List.length_cons, Nat.add_mul]
    have := h t (by simp)
    have := ih (fun x hx => h x (by simp [hx]))
    omega
theorem txF_len {w : World} {f : Fu} (hin : f.In w) (h : (chkF f).1 = 0) : (txF f).length ≤ 1000 + 1000 * vSs f.body := by
  obtain ⟨h1, h2, h3, h4⟩ := chkF_ok h
  have a1 := nm_len h1
  have a2 := (txS_len (w := w) _).2 f.body 1 0 1 (Nat.le_refl _) hin.2.2.2.2.2.2.2 (by exact_mod_cast h4) (by omega)
  have a3 := com_len (f.params.map paB) 100 (fun t ht => by
    obtain ⟨q, hq, rfl⟩ := List.mem_map.1 ht
    exact pa_len (hin.2.2.2.2.2.1 q hq) (h3 q hq))
  rw [List.length_map] at a3
  have a4 : f.params.length * (100 + 2) ≤ 8 * 102 := Nat.mul_le_mul h2 (Nat.le_refl _)
  simp only [txF, List.length_append, lineB_len, List.length_cons, List.length_nil]
  omega
theorem txFs_len {w : World} : ∀ {l : List Fu}, (∀ f ∈ l, f.In w) → (∀ f ∈ l, (chkF f).1 = 0) → (txFs l).length ≤ 1000 * l.length + 1000 * (l.map fun f => vSs f.body).sum
  | [], _, _ => by simp [txFs]
  | f :: r, hin, h => by
    have a1 := txF_len (hin f (by simp)) (h f (by simp))
    have a2 := txFs_len (l := r) (fun g hg => hin g (by simp [hg])) (fun g hg => h g (by simp [hg]))
    rw [txFs, List.length_append, List.map_cons, List.sum_cons, List.length_cons]
    omega
theorem txW_len {l : List Int} (h : l.length ≤ 16) (h64 : ∀ z ∈ l, I64 z) : (txW l).length ≤ 1000 := by
  unfold txW
  split
  · simp
  · have a3 := com_len (l.map Lib.itoa) 21 (fun t ht => by
      obtain ⟨z, hz, rfl⟩ := List.mem_map.1 ht
      exact Lib.itoa_length_le z (h64 z hz).1 (h64 z hz).2)
    rw [List.length_map] at a3
    have a4 : l.length * (21 + 2) ≤ 16 * 23 := Nat.mul_le_mul h (Nat.le_refl _)
    simp only [List.length_append, lineB_len, List.length_cons, List.length_nil]
    omega
theorem txP_len {w : World} {p : Pr} (hin : p.In w) (h : (checkZ p).1 = 0) : (txP p).length ≤ 100000000 := by
  obtain ⟨_, h1, h2⟩ := check_ok h
  obtain ⟨a1, a2, a3⟩ := whole_ok h1
  have b1 := txW_len a1 hin.2.2.2.2.1
  have b2 := txFs_len hin.haveF.2 h2
  unfold txP
  rw [List.length_append]
  omega
theorem fn_prints {w : World} (ht : Tabs w) (hnt : NumT w) {p : Pr} (hin : p.In w) (h : (checkZ p).1 = 0) : ∀ f ∈ p.funcs, FnPr w f := fun f hf => by
  obtain ⟨_, h1, h2⟩ := check_ok h
  obtain ⟨a1, a2, a3⟩ := whole_ok h1
  obtain ⟨c1, c2, c3, c4⟩ := chkF_ok (h2 f hf)
  have hfi := hin.haveF.2 f hf
  have hs := sum_mem hf
  refine ⟨fun s hs' => ?_, fun q hq => Nat.le_trans (pa_len (hfi.2.2.2.2.2.1 q hq) (c3 q hq)) (by decide), c2⟩
  obtain ⟨a, ha⟩ := chkSs_ok c4 s hs'
  exact stmt_prints ht hnt _ s 1 a (Nat.le_refl _) (hfi.2.2.2.2.2.2.2 s hs') (by exact_mod_cast ha) (by have := vSs_mem hs'; omega)

/-- What tree.Print answers. -/
def prT (p : Pr) : List UInt8 := if (checkZ p).1 = 0 then (if (txP p).length ≤ 65536 then txP p else []) else []
def prF (p : Pr) : Int × Int × Int := if (checkZ p).1 = 0 then (if (txP p).length ≤ 65536 then (0, 0, 0) else (4, 0, 0)) else checkZ p
theorem print_any (p : Pr) (w : World) (hin : p.In w) (ht : Tabs w) (hnt : NumT w) :
    Calls Tryd.prog 11 #[p.val] w fun e w' => e = .returned (.tuple #[sB (prT p), fltV (prF p).1 (prF p).2.1 (prF p).2.2]) ∧ Below w.heap.size w w' := by
  by_cases h : (checkZ p).1 = 0
  · obtain ⟨h0, h1, h2⟩ := check_ok h
    have hl := txP_len hin h
    by_cases h3 : (txP p).length ≤ 65536
    · have := print_ok p w hin ht hnt h0 (whole_ok h1).1 (fn_prints ht hnt hin h) h3
      simpa only [prT, prF, if_pos h, if_pos h3] using this
    · have := print_long p w hin ht hnt h0 (whole_ok h1).1 (fn_prints ht hnt hin h) (by omega) (by omega)
      simpa only [prT, prF, if_pos h, if_neg h3] using this
  · have := print_bad p w hin ht h
    simpa only [prT, prF, if_neg h] using this

/-- Counts that are not past the limit are exact. -/
theorem cntE_le (k : Nat) : (∀ (x : Ex) (n : Int), x.sz ≤ k → cntE x n ≤ n + x.sz) ∧ (∀ (l : List Ex) (n : Int), szL l ≤ k → cntL l n ≤ n + szL l) := by
  induction k with
  | zero =>
    refine ⟨fun x n hk => by have := x.sz_args; omega, fun l n hk => ?_⟩
    cases l with
    | nil => simp [cntL, szL]
    | cons x r => rw [szL] at hk; have := x.sz_args; omega
  | succ k ih =>
    have h1 : ∀ (x : Ex) (n : Int), x.sz ≤ k + 1 → cntE x n ≤ n + x.sz := fun x n hk => by
      rw [cntE_args]
      have := ih.2 x.args (n + 1) (by have := x.sz_args; omega)
      have := x.sz_args
      omega
    refine ⟨h1, fun l => ?_⟩
    induction l with
    | nil => intro n _; simp [cntL, szL]
    | cons x r ihr =>
      intro n hk
      rw [szL] at hk ⊢
      rw [cntL]
      split
      · omega
      · have a2 := h1 x n (by omega)
        have a3 := ihr (cntE x n) (by omega)
        omega
theorem cntZ_leV (x : Ex) (n : Int) : cntZ x n ≤ n + zE x := by
  unfold cntZ zE
  split
  · simp
  · exact (cntE_le _).1 x n (Nat.le_refl _)
theorem cntS_le (k : Nat) : (∀ (s : St) (n : Int), s.sz ≤ k → cntS s n ≤ n + s.V) ∧ (∀ (l : List St) (n : Int), ssz l ≤ k → cntSs l n ≤ n + vSs l) := by
  have step : ∀ k, (∀ (s : St) (n : Int), s.sz ≤ k → cntS s n ≤ n + s.V) → ∀ (l : List St) (n : Int), ssz l ≤ k → cntSs l n ≤ n + vSs l := by
    intro k h1 l
    induction l with
    | nil => intro n _; simp only [cntSs, vSs]; omega
    | cons x r ihr =>
      intro n hk
      rw [ssz] at hk
      rw [vSs, cntSs]
      split
      · omega
      · have a1 := h1 x n (by omega)
        have a2 := ihr (cntS x n) (by omega)
        omega
  induction k with
  | zero =>
    have h0 : ∀ (s : St) (n : Int), s.sz ≤ 0 → cntS s n ≤ n + s.V := fun s n hk => by have := s.sz_eq; omega
    exact ⟨h0, step 0 h0⟩
  | succ k ih =>
    have h1 : ∀ (s : St) (n : Int), s.sz ≤ k + 1 → cntS s n ≤ n + s.V := by
      intro s n hk
      have hz := s.sz_eq
      have hc : ∀ (l : List Ca) (n : Int), csz l ≤ k → cntCs l n ≤ n + vCs l := by
        intro l
        induction l with
        | nil => intro n _; simp only [cntCs, vCs]; omega
        | cons c r ihr =>
          intro n hk
          rw [csz] at hk
          rw [cntCs, vCs, cntC_eq, c.V_eq]
          have a1 := ih.2 c.body n (by have := c.sz_eq; omega)
          have a2 := ihr (cntSs c.body n) (by omega)
          omega
      have e : cntS s n = cntSs s.els (cntCs s.cases (cntSs s.body (cntZ s.b (cntZ s.a (n + (1 + (s.cases.length : Int))))))) := by
        cases s; simp only [cntS, St.els, St.cases, St.body, St.a, St.b]
      rw [e, s.V_eq]
      have a1 := cntZ_leV s.a (n + (1 + (s.cases.length : Int)))
      have a2 := cntZ_leV s.b (cntZ s.a (n + (1 + (s.cases.length : Int))))
      have a3 := ih.2 s.body (cntZ s.b (cntZ s.a (n + (1 + (s.cases.length : Int))))) (by omega)
      have a4 := hc s.cases (cntSs s.body (cntZ s.b (cntZ s.a (n + (1 + (s.cases.length : Int)))))) (by omega)
      have a5 := ih.2 s.els (cntCs s.cases (cntSs s.body (cntZ s.b (cntZ s.a (n + (1 + (s.cases.length : Int))))))) (by omega)
      omega
    exact ⟨h1, step (k + 1) h1⟩
theorem cntF_le : ∀ (l : List Fu) (n : Int), cntF l n ≤ n + (l.map fun f => vSs f.body).sum
  | [], n => by simp [cntF]
  | f :: r, n => by
    have a1 := (cntS_le _).2 f.body n (Nat.le_refl _)
    have a2 := cntF_le r (cntSs f.body n)
    rw [cntF, List.map_cons, List.sum_cons]
    omega
theorem nodes_exact {p : Pr} (h : (checkZ p).1 = 0) : nodesZ p = (p.funcs.map fun f => vSs f.body).sum := by
  obtain ⟨_, h1, _⟩ := check_ok h
  have hn := (whole_ok h1).2.2
  have a1 := cntF_le p.funcs 0
  have a2 := (cntF_V p.funcs 0).2 (by omega)
  unfold nodesZ
  omega
end Go.Proofs.YtbpemackmadhgabDoor

/- What is told of a program hangs on its addresses in nothing. -/
namespace Go.Proofs.YtbpemackmadhgabDoor
open Go.RowKit Go.Sort

theorem erL_length (l : List Ex) : (erL l).length = l.length := by rw [erL_map, List.length_map]
theorem erS_length (l : List St) : (erS l).length = l.length := by rw [erS_map, List.length_map]
theorem erC_length (l : List Ca) : (erC l).length = l.length := by rw [erC_map, List.length_map]
theorem Ex.er_kind (x : Ex) : x.er.kind = x.kind := by cases x; rfl
theorem Ex.er_n (x : Ex) : x.er.n = x.n := by cases x; rfl
theorem Ex.er_name (x : Ex) : x.er.name = x.name := by cases x; rfl
theorem Ex.er_args (x : Ex) : x.er.args = erL x.args := by cases x; rfl
theorem St.er_kind (x : St) : x.er.kind = x.kind := by cases x; rfl
theorem St.er_n (x : St) : x.er.n = x.n := by cases x; rfl
theorem St.er_name (x : St) : x.er.name = x.name := by cases x; rfl
theorem St.er_a (x : St) : x.er.a = x.a.er := by cases x; rfl
theorem St.er_b (x : St) : x.er.b = x.b.er := by cases x; rfl
theorem St.er_body (x : St) : x.er.body = erS x.body := by cases x; rfl
theorem St.er_els (x : St) : x.er.els = erS x.els := by cases x; rfl
theorem St.er_cases (x : St) : x.er.cases = erC x.cases := by cases x; rfl
theorem Ca.er_n (x : Ca) : x.er.n = x.n := by cases x; rfl
theorem Ca.er_body (x : Ca) : x.er.body = erS x.body := by cases x; rfl
theorem zeroE_er (x : Ex) : zeroE x.er = zeroE x := by
  unfold zeroE
  rw [x.er_kind, x.er_n, x.er_name, x.er_args]
  congr 1
  cases x.args <;> rfl
theorem usesE_er (x : Ex) : usesE x.er = usesE x := by unfold usesE; rw [x.er_n, x.er_name]
theorem selfE_er (x : Ex) : selfE x.er = selfE x := by
  unfold selfE
  rw [usesE_er, x.er_kind, x.er_n, x.er_name, x.er_args, erL_length]
theorem chkE_er (k : Nat) : (∀ (x : Ex) (lv : Int), x.sz ≤ k → chkE x.er lv = chkE x lv) ∧ (∀ (l : List Ex) (lv : Int), szL l ≤ k → chkL (erL l) lv = chkL l lv) := by
  induction k with
  | zero =>
    refine ⟨fun x n hk => by have := x.sz_args; omega, fun l n hk => ?_⟩
    cases l with
    | nil => rfl
    | cons x r => rw [szL] at hk; have := x.sz_args; omega
  | succ k ih =>
    have h1 : ∀ (x : Ex) (lv : Int), x.sz ≤ k + 1 → chkE x.er lv = chkE x lv := fun x lv hk => by
      rw [chkE_eq, chkE_eq, selfE_er, x.er_args, ih.2 x.args (lv + 1) (by have := x.sz_args; omega)]
    refine ⟨h1, fun l => ?_⟩
    induction l with
    | nil => intro lv _; rfl
    | cons x r ihr =>
      intro lv hk
      rw [szL] at hk
      rw [erL, chkL, chkL, h1 x lv (by omega), ihr lv (by omega)]
theorem txE_er (k : Nat) : (∀ (x : Ex), x.sz ≤ k → txE x.er = txE x) := by
  induction k with
  | zero => intro x hk; have := x.sz_args; omega
  | succ k ih =>
    intro x hk
    rw [txE_eq, txE_eq x, x.er_kind, x.er_n, x.er_name, x.er_args, erL_map, List.map_map, List.map_map]
    congr 1
    · exact List.map_congr_left fun y _ => y.er_kind
    · exact List.map_congr_left fun y hy => ih y (by have := x.sz_args; have := szL_mem hy; omega)
theorem cntE_er (k : Nat) : (∀ (x : Ex) (n : Int), x.sz ≤ k → cntE x.er n = cntE x n) ∧ (∀ (l : List Ex) (n : Int), szL l ≤ k → cntL (erL l) n = cntL l n) := by
  induction k with
  | zero =>
    refine ⟨fun x n hk => by have := x.sz_args; omega, fun l n hk => ?_⟩
    cases l with
    | nil => rfl
    | cons x r => rw [szL] at hk; have := x.sz_args; omega
  | succ k ih =>
    have h1 : ∀ (x : Ex) (n : Int), x.sz ≤ k + 1 → cntE x.er n = cntE x n := fun x n hk => by
      rw [cntE_args, cntE_args, x.er_args, ih.2 x.args (n + 1) (by have := x.sz_args; omega)]
    refine ⟨h1, fun l => ?_⟩
    induction l with
    | nil => intro n _; rfl
    | cons x r ihr =>
      intro n hk
      rw [szL] at hk
      rw [erL, cntL, cntL, h1 x n (by omega), ihr _ (by omega)]
theorem cntZ_er (x : Ex) (n : Int) : cntZ x.er n = cntZ x n := by unfold cntZ; rw [zeroE_er, (cntE_er _).1 x n (Nat.le_refl _)]
theorem leastC_er (l : List Ca) : leastC (erC l) = leastC l := by
  unfold leastC
  rw [erC_map, List.any_map]
  congr 1
  funext c
  simp only [Function.comp, c.er_n]
theorem usesS_er (s : St) : usesS s.er = usesS s := by
  unfold usesS
  rw [s.er_name, s.er_n, s.er_a, s.er_b, s.er_body, s.er_els, s.er_cases, zeroE_er, zeroE_er, erS_length, erS_length, erC_length]
theorem selfS_er (s : St) : selfS s.er = selfS s := by
  unfold selfS
  rw [usesS_er, s.er_kind, s.er_name, s.er_n, s.er_a, s.er_cases, leastC_er, Ex.er_kind]
theorem chkS_er (s : St) (lv : Int) : chkS s.er lv = chkS s lv := by
  unfold chkS
  rw [selfS_er, s.er_kind, s.er_a, s.er_b, (chkE_er _).1 s.a _ (Nat.le_refl _), (chkE_er _).1 s.b _ (Nat.le_refl _)]
theorem chkT_eq2 (s : St) (lv at_ : Int) : chkT s lv at_ = if chkS s lv ≠ 0 then (chkS s lv, at_ + 1) else thenZ (chkSs s.body (lv + 1) (at_ + 1)) fun m => thenZ (chkCs s.cases (lv + 1) m) fun m => chkSs s.els (lv + 1) m := by
  cases s; simp only [chkT, St.body, St.cases, St.els]
theorem cntS_eq2 (s : St) (n : Int) : cntS s n = cntSs s.els (cntCs s.cases (cntSs s.body (cntZ s.b (cntZ s.a (n + (1 + (s.cases.length : Int))))))) := by
  cases s; simp only [cntS, St.els, St.cases, St.body, St.a, St.b]
theorem st_er (k : Nat) :
    (∀ (s : St), s.sz ≤ k → (∀ lv a, chkT s.er lv a = chkT s lv a) ∧ (∀ n, cntS s.er n = cntS s n) ∧ (∀ d, txS s.er d = txS s d)) ∧
    (∀ (l : List St), ssz l ≤ k → (∀ lv a, chkSs (erS l) lv a = chkSs l lv a) ∧ (∀ n, cntSs (erS l) n = cntSs l n) ∧ (∀ d, txSs (erS l) d = txSs l d)) ∧
    (∀ (l : List Ca), csz l ≤ k → (∀ lv a, chkCs (erC l) lv a = chkCs l lv a) ∧ (∀ n, cntCs (erC l) n = cntCs l n) ∧ (∀ d, txCs (erC l) d = txCs l d)) := by
  induction k with
  | zero =>
    refine ⟨fun s hk => by have := s.sz_eq; omega, fun l hk => ?_, fun l hk => ?_⟩
    · cases l with
      | nil => exact ⟨fun _ _ => rfl, fun _ => rfl, fun _ => rfl⟩
      | cons x r => rw [ssz] at hk; have := x.sz_eq; omega
    · cases l with
      | nil => exact ⟨fun _ _ => rfl, fun _ => rfl, fun _ => rfl⟩
      | cons x r => rw [csz] at hk; have := x.sz_eq; omega
  | succ k ih =>
    have h1 : ∀ (s : St), s.sz ≤ k + 1 → (∀ lv a, chkT s.er lv a = chkT s lv a) ∧ (∀ n, cntS s.er n = cntS s n) ∧ (∀ d, txS s.er d = txS s d) := fun s hk => by
      have hz := s.sz_eq
      obtain ⟨b1, b2, b3⟩ := ih.2.1 s.body (by omega)
      obtain ⟨e1, e2, e3⟩ := ih.2.1 s.els (by omega)
      obtain ⟨c1, c2, c3⟩ := ih.2.2 s.cases (by omega)
      refine ⟨fun lv a => ?_, fun n => ?_, fun d => ?_⟩
      · rw [chkT_eq2, chkT_eq2 s, chkS_er, s.er_body, s.er_els, s.er_cases]
        simp only [b1, c1, e1]
      · rw [cntS_eq2, cntS_eq2 s, s.er_body, s.er_els, s.er_cases, s.er_a, s.er_b, cntZ_er, cntZ_er, erC_length, b2, c2, e2]
      · rw [txS_eq, txS_eq s, s.er_kind, s.er_name, s.er_n, s.er_a, s.er_b, s.er_body, s.er_els, s.er_cases, erS_length, txE_er _ s.a (Nat.le_refl _), txE_er _ s.b (Nat.le_refl _), b3, c3, e3, e3]
    refine ⟨h1, fun l => ?_, fun l => ?_⟩
    · induction l with
      | nil => intro _; exact ⟨fun _ _ => rfl, fun _ => rfl, fun _ => rfl⟩
      | cons x r ihr =>
        intro hk
        rw [ssz] at hk
        obtain ⟨a1, a2, a3⟩ := h1 x (by omega)
        obtain ⟨b1, b2, b3⟩ := ihr (by omega)
        refine ⟨fun lv a => ?_, fun n => ?_, fun d => ?_⟩
        · rw [erS, chkSs, chkSs]; simp only [a1, b1]
        · rw [erS, cntSs, cntSs]; simp only [a2, b2]
        · rw [erS, txSs, txSs, a3, b3]
    · induction l with
      | nil => intro _; exact ⟨fun _ _ => rfl, fun _ => rfl, fun _ => rfl⟩
      | cons c r ihr =>
        intro hk
        rw [csz] at hk
        obtain ⟨a1, a2, a3⟩ := ih.2.1 c.body (by have := c.sz_eq; omega)
        obtain ⟨b1, b2, b3⟩ := ihr (by omega)
        refine ⟨fun lv a => ?_, fun n => ?_, fun d => ?_⟩
        · rw [erC, chkCs, chkCs, chkCa_eq, chkCa_eq, c.er_body]; simp only [a1, b1]
        · rw [erC, cntCs, cntCs, cntC_eq, cntC_eq, c.er_body]; simp only [a2, b2]
        · rw [erC, txCs, txCs, txC_eq', txC_eq' c, c.er_body, c.er_n, a3, b3]
theorem Fu.er_chk (f : Fu) : chkF f.er = chkF f := by
  have := ((st_er _).2.1 f.body (Nat.le_refl _)).1
  unfold chkF headZ
  show (if (if nameZ f.name = false then (8 : Int) else if 8 < f.params.length then 3 else parsZ f.params) ≠ 0 then ((if nameZ f.name = false then (8 : Int) else if 8 < f.params.length then 3 else parsZ f.params), 0) else chkSs (erS f.body) 1 0) = _
  rw [this]
theorem Fu.er_tx (f : Fu) : txF f.er = txF f := by
  have := ((st_er _).2.1 f.body (Nat.le_refl _)).2.2 1
  show lineB 0 ([102, 110, 32] ++ f.name.data.toList ++ [40] ++ comB (f.params.map paB) ++ [41, 32, 123]) ++ txSs (erS f.body) 1 ++ lineB 0 [125] = _
  rw [this]; rfl
theorem fs_er : ∀ (l : List Fu), (∀ i, chkFs (l.map Fu.er) i = chkFs l i) ∧ (∀ n, cntF (l.map Fu.er) n = cntF l n) ∧ txFs (l.map Fu.er) = txFs l
  | [] => ⟨fun _ => rfl, fun _ => rfl, rfl⟩
  | f :: r => by
    obtain ⟨b1, b2, b3⟩ := fs_er r
    refine ⟨fun i => ?_, fun n => ?_, ?_⟩
    · rw [List.map_cons, chkFs, chkFs, f.er_chk, b1]
    · rw [List.map_cons, cntF, cntF, b2]
      congr 1
      exact ((st_er _).2.1 f.body (Nat.le_refl _)).2.1 n
    · rw [List.map_cons, txFs, txFs, f.er_tx, b3]
theorem Pr.er_all (p : Pr) : checkZ p.er = checkZ p ∧ nodesZ p.er = nodesZ p ∧ txP p.er = txP p := by
  obtain ⟨b1, b2, b3⟩ := fs_er p.funcs
  have hn : nodesZ p.er = nodesZ p := by
    show min (cntF (p.funcs.map Fu.er) 0) 4097 = _
    rw [b2]; rfl
  refine ⟨?_, hn, ?_⟩
  · have hw : wholeZ p.er = wholeZ p := by
      have e1 : p.er.widen = p.widen := rfl
      have e2 : p.er.funcs.length = p.funcs.length := List.length_map ..
      unfold wholeZ
      rw [hn, e1, e2]
    unfold checkZ
    rw [hw]
    show (if wholeZ p ≠ 0 then _ else chkFs (p.funcs.map Fu.er) 0) = _
    rw [b1]
  · show txW p.widen ++ txFs (p.funcs.map Fu.er) = _
    rw [b3]; rfl
/-- Programs that are alike but for their addresses are answered alike. -/
theorem er_same {p q : Pr} (h : p.er = q.er) : checkZ p = checkZ q ∧ nodesZ p = nodesZ q ∧ prT p = prT q ∧ prF p = prF q := by
  obtain ⟨a1, a2, a3⟩ := p.er_all
  obtain ⟨b1, b2, b3⟩ := q.er_all
  have c1 : checkZ p = checkZ q := by rw [← a1, h, b1]
  have c2 : nodesZ p = nodesZ q := by rw [← a2, h, b2]
  have c3 : txP p = txP q := by rw [← a3, h, b3]
  refine ⟨c1, c2, ?_, ?_⟩
  · unfold prT; rw [c1, c3]
  · unfold prF; rw [c1, c3]
end Go.Proofs.YtbpemackmadhgabDoor

/- A statement without its kind: which one it is, and what is told of it. -/
namespace Go.Proofs.YtbpemackmadhgabDoor
open Go.RowKit Go.Sort

/- How many statements there are. -/
mutual
def cnS : St → Nat | .mk _ _ _ _ _ _ _ l _ _ e _ _ c => cnL l + cnC c + cnL e + 1
def cnA : Ca → Nat | .mk _ _ _ l => cnL l
def cnL : List St → Nat | [] => 0 | x :: r => cnS x + cnL r
def cnC : List Ca → Nat | [] => 0 | x :: r => cnA x + cnC r
end
/- The statement number k without its kind. -/
mutual
def tuS : St → Int → St | .mk kd nm n a b ba bc l ea ec e ca cc c, k => .mk (if k = 1 then 0 else kd) nm n a b ba bc (tuL l (k - 1)) ea ec (tuL e (k - 1 - cnL l - cnC c)) ca cc (tuC c (k - 1 - cnL l))
def tuA : Ca → Int → Ca | .mk n ba bc l, k => .mk n ba bc (tuL l k)
def tuL : List St → Int → List St | [], _ => [] | x :: r, k => tuS x k :: tuL r (k - cnS x)
def tuC : List Ca → Int → List Ca | [], _ => [] | x :: r, k => tuA x k :: tuC r (k - cnA x)
end
theorem cnS_eq (s : St) : cnS s = cnL s.body + cnC s.cases + cnL s.els + 1 := by cases s; simp only [cnS, St.body, St.cases, St.els]
theorem cnA_eq (c : Ca) : cnA c = cnL c.body := by cases c; simp only [cnA, Ca.body]
theorem tuS_kind (s : St) (k : Int) : (tuS s k).kind = if k = 1 then 0 else s.kind := by cases s; simp only [tuS, St.kind]
theorem tuS_name (s : St) (k : Int) : (tuS s k).name = s.name := by cases s; simp only [tuS, St.name]
theorem tuS_n (s : St) (k : Int) : (tuS s k).n = s.n := by cases s; simp only [tuS, St.n]
theorem tuS_a (s : St) (k : Int) : (tuS s k).a = s.a := by cases s; simp only [tuS, St.a]
theorem tuS_b (s : St) (k : Int) : (tuS s k).b = s.b := by cases s; simp only [tuS, St.b]
theorem tuS_ba (s : St) (k : Int) : (tuS s k).ba = s.ba := by cases s; simp only [tuS, St.ba]
theorem tuS_bc (s : St) (k : Int) : (tuS s k).bc = s.bc := by cases s; simp only [tuS, St.bc]
theorem tuS_body (s : St) (k : Int) : (tuS s k).body = tuL s.body (k - 1) := by cases s; simp only [tuS, St.body]
theorem tuS_ea (s : St) (k : Int) : (tuS s k).ea = s.ea := by cases s; simp only [tuS, St.ea]
theorem tuS_ec (s : St) (k : Int) : (tuS s k).ec = s.ec := by cases s; simp only [tuS, St.ec]
theorem tuS_els (s : St) (k : Int) : (tuS s k).els = tuL s.els (k - 1 - cnL s.body - cnC s.cases) := by cases s; simp only [tuS, St.els, St.body, St.cases]
theorem tuS_ca (s : St) (k : Int) : (tuS s k).ca = s.ca := by cases s; simp only [tuS, St.ca]
theorem tuS_cc (s : St) (k : Int) : (tuS s k).cc = s.cc := by cases s; simp only [tuS, St.cc]
theorem tuS_cases (s : St) (k : Int) : (tuS s k).cases = tuC s.cases (k - 1 - cnL s.body) := by cases s; simp only [tuS, St.cases, St.body]
theorem tuA_n (c : Ca) (k : Int) : (tuA c k).n = c.n := by cases c; simp only [tuA, Ca.n]
theorem tuA_ba (c : Ca) (k : Int) : (tuA c k).ba = c.ba := by cases c; simp only [tuA, Ca.ba]
theorem tuA_bc (c : Ca) (k : Int) : (tuA c k).bc = c.bc := by cases c; simp only [tuA, Ca.bc]
theorem tuA_body (c : Ca) (k : Int) : (tuA c k).body = tuL c.body k := by cases c; simp only [tuA, Ca.body]
theorem tuL_length : ∀ (l : List St) (k : Int), (tuL l k).length = l.length
  | [], _ => by simp only [tuL]
  | x :: r, k => by simp only [tuL, List.length_cons, tuL_length r]
theorem tuC_length : ∀ (l : List Ca) (k : Int), (tuC l k).length = l.length
  | [], _ => by simp only [tuC]
  | x :: r, k => by simp only [tuC, List.length_cons, tuC_length r]
theorem tuA_cells (c : Ca) (k : Int) : (tuA c k).cells = c.cells := by
  unfold Ca.cells; rw [tuA_n, tuA_ba, tuA_bc, tuA_body, tuL_length]
theorem tuC_cells : ∀ (l : List Ca) (k : Int), (tuC l k).flatMap Ca.cells = l.flatMap Ca.cells
  | [], _ => by simp only [tuC]
  | x :: r, k => by rw [tuC, List.flatMap_cons, List.flatMap_cons, tuA_cells, tuC_cells r]
theorem tuL_at : ∀ (l : List St) (k : Int) (j : Nat) (h : j < l.length), (tuL l k)[j]? = some (tuS l[j] (k - cnL (l.take j)))
  | x :: r, k, 0, _ => by simp [tuL, cnL]
  | x :: r, k, j + 1, h => by
    rw [tuL, List.getElem?_cons_succ, tuL_at r _ j (by simpa using h)]
    simp only [List.getElem_cons_succ, List.take_succ_cons, cnL]
    congr 2
    omega
theorem tuC_at : ∀ (l : List Ca) (k : Int) (j : Nat) (h : j < l.length), (tuC l k)[j]? = some (tuA l[j] (k - cnC (l.take j)))
  | x :: r, k, 0, _ => by simp [tuC, cnC]
  | x :: r, k, j + 1, h => by
    rw [tuC, List.getElem?_cons_succ, tuC_at r _ j (by simpa using h)]
    simp only [List.getElem_cons_succ, List.take_succ_cons, cnC]
    congr 2
    omega
theorem cnL_take : ∀ (l : List St) (j : Nat) (h : j < l.length), cnL (l.take (j + 1)) = cnL (l.take j) + cnS l[j]
  | x :: r, 0, _ => by simp [cnL]
  | x :: r, j + 1, h => by
    rw [List.take_succ_cons, cnL, cnL_take r j (by simpa using h), List.take_succ_cons, cnL, List.getElem_cons_succ]; omega
theorem cnC_take : ∀ (l : List Ca) (j : Nat) (h : j < l.length), cnC (l.take (j + 1)) = cnC (l.take j) + cnA l[j]
  | x :: r, 0, _ => by simp [cnC]
  | x :: r, j + 1, h => by
    rw [List.take_succ_cons, cnC, cnC_take r j (by simpa using h), List.take_succ_cons, cnC, List.getElem_cons_succ]; omega
mutual
theorem cnS_le : ∀ s : St, cnS s ≤ s.sz
  | .mk _ _ _ _ _ _ _ l _ _ e _ _ c => by rw [cnS, St.sz]; have := cnL_le l; have := cnL_le e; have := cnC_le c; omega
theorem cnA_le : ∀ c : Ca, cnA c ≤ c.sz
  | .mk _ _ _ l => by rw [cnA, Ca.sz]; have := cnL_le l; omega
theorem cnL_le : ∀ l : List St, cnL l ≤ ssz l
  | [] => by rw [cnL, ssz]; omega
  | x :: r => by rw [cnL, ssz]; have := cnS_le x; have := cnL_le r; omega
theorem cnC_le : ∀ l : List Ca, cnC l ≤ csz l
  | [] => by rw [cnC, csz]; omega
  | x :: r => by rw [cnC, csz]; have := cnA_le x; have := cnC_le r; omega
end
mutual
theorem tuS_bl : ∀ (s : St) (k : Int), (tuS s k).bl = s.bl
  | .mk kd nm n a b ba bc l ea ec e ca cc c, k => by
    rw [St.bl_eq, St.bl_eq, tuS_a, tuS_b, tuS_ba, tuS_body, tuS_ea, tuS_els, tuS_ca, tuS_cases]
    simp only [St.body, St.els, St.cases]
    rw [tuL_bl l, tuL_bl e, tuC_bl c]
theorem tuA_bl : ∀ (c : Ca) (k : Int), (tuA c k).bl = c.bl
  | .mk n ba bc l, k => by
    rw [Ca.bl_eq, Ca.bl_eq, tuA_ba, tuA_body]
    simp only [Ca.body]
    rw [tuL_bl l]
theorem tuL_bl : ∀ (l : List St) (k : Int), blS (tuL l k) = blS l
  | [], _ => by simp only [tuL]
  | x :: r, k => by rw [blS_map, blS_map, tuL, List.flatMap_cons, List.flatMap_cons, tuS_bl x, ← blS_map, ← blS_map, tuL_bl r]
theorem tuC_bl : ∀ (l : List Ca) (k : Int), blC (tuC l k) = blC l
  | [], _ => by simp only [tuC]
  | x :: r, k => by rw [blC_map, blC_map, tuC, List.flatMap_cons, List.flatMap_cons, tuA_bl x, ← blC_map, ← blC_map, tuC_bl r]
end
mutual
theorem tuS_out : ∀ (s : St) (k : Int), (k < 1 ∨ (cnS s : Int) < k) → tuS s k = s
  | .mk kd nm n a b ba bc l ea ec e ca cc c, k, h => by
    rw [cnS] at h
    rw [tuS, tuL_out l _ (by omega), tuL_out e _ (by omega), tuC_out c _ (by omega), if_neg (by omega)]
theorem tuA_out : ∀ (c : Ca) (k : Int), (k < 1 ∨ (cnA c : Int) < k) → tuA c k = c
  | .mk n ba bc l, k, h => by
    rw [cnA] at h
    rw [tuA, tuL_out l _ h]
theorem tuL_out : ∀ (l : List St) (k : Int), (k < 1 ∨ (cnL l : Int) < k) → tuL l k = l
  | [], _, _ => by simp only [tuL]
  | x :: r, k, h => by
    rw [cnL] at h
    rw [tuL, tuS_out x _ (by omega), tuL_out r _ (by omega)]
theorem tuC_out : ∀ (l : List Ca) (k : Int), (k < 1 ∨ (cnC l : Int) < k) → tuC l k = l
  | [], _, _ => by simp only [tuC]
  | x :: r, k, h => by
    rw [cnC] at h
    rw [tuC, tuA_out x _ (by omega), tuC_out r _ (by omega)]
end
mutual
theorem cntS_tu : ∀ (s : St) (k n : Int), cntS (tuS s k) n = cntS s n
  | .mk kd nm m a b ba bc l ea ec e ca cc c, k, n => by
    rw [tuS, cntS, cntS, tuC_length, cntSs_tu l, cntCs_tu c, cntSs_tu e]
theorem cntC_tu : ∀ (c : Ca) (k n : Int), cntC (tuA c k) n = cntC c n
  | .mk m ba bc l, k, n => by rw [tuA, cntC, cntC, cntSs_tu l]
theorem cntSs_tu : ∀ (l : List St) (k n : Int), cntSs (tuL l k) n = cntSs l n
  | [], _, _ => by simp only [tuL]
  | x :: r, k, n => by rw [tuL, cntSs, cntSs, cntS_tu x, cntSs_tu r]
theorem cntCs_tu : ∀ (l : List Ca) (k n : Int), cntCs (tuC l k) n = cntCs l n
  | [], _, _ => by simp only [tuC]
  | x :: r, k, n => by rw [tuC, cntCs, cntCs, cntC_tu x, cntCs_tu r]
end
theorem thenZ_zero {p : Int × Int} {f : Int → Int × Int} (h : p.1 = 0) : thenZ p f = f p.2 := by unfold thenZ; rw [if_neg (by simpa using h)]
theorem thenZ_bad {p : Int × Int} {f : Int → Int × Int} (h : p.1 ≠ 0) : thenZ p f = p := by unfold thenZ; rw [if_pos h]
theorem chkT_form (s : St) (lv m : Int) : chkT s lv m = if chkS s lv ≠ 0 then (chkS s lv, m + 1) else thenZ (chkSs s.body (lv + 1) (m + 1)) fun m => thenZ (chkCs s.cases (lv + 1) m) fun m => chkSs s.els (lv + 1) m := by
  cases s; simp only [chkT, St.body, St.cases, St.els]
mutual
theorem cnT_at : ∀ (s : St) (lv m : Int), (chkT s lv m).1 = 0 → (chkT s lv m).2 = m + cnS s
  | .mk kd nm n a b ba bc l ea ec e ca cc c, lv, m, h => by
    rw [chkT_form] at h ⊢
    rw [cnS]
    by_cases h0 : chkS (.mk kd nm n a b ba bc l ea ec e ca cc c) lv = 0
    · rw [if_neg (by simpa using h0)] at h ⊢
      simp only [St.body, St.cases, St.els] at h ⊢
      obtain ⟨b1, h⟩ := thenZ_ok h
      have b2 := cnL_at l _ _ b1
      rw [thenZ_zero b1]
      obtain ⟨c1, h⟩ := thenZ_ok h
      have c2 := cnC_at c _ _ c1
      rw [thenZ_zero c1, cnL_at e _ _ h, c2, b2]
      omega
    · rw [if_pos h0] at h; exact absurd h h0
theorem cnA_at : ∀ (c : Ca) (lv m : Int), (chkCa c lv m).1 = 0 → (chkCa c lv m).2 = m + cnA c
  | .mk n ba bc l, lv, m, h => by rw [chkCa] at h ⊢; rw [cnA]; exact cnL_at l _ _ h
theorem cnL_at : ∀ (l : List St) (lv m : Int), (chkSs l lv m).1 = 0 → (chkSs l lv m).2 = m + cnL l
  | [], lv, m, h => by rw [chkSs, cnL]; simp
  | x :: r, lv, m, h => by
    rw [chkSs] at h ⊢
    rw [cnL]
    obtain ⟨b1, h⟩ := thenZ_ok h
    rw [thenZ_zero b1, cnL_at r _ _ h, cnT_at x _ _ b1]
    omega
theorem cnC_at : ∀ (l : List Ca) (lv m : Int), (chkCs l lv m).1 = 0 → (chkCs l lv m).2 = m + cnC l
  | [], lv, m, h => by rw [chkCs, cnC]; simp
  | x :: r, lv, m, h => by
    rw [chkCs] at h ⊢
    rw [cnC]
    obtain ⟨b1, h⟩ := thenZ_ok h
    rw [thenZ_zero b1, cnC_at r _ _ h, cnA_at x _ _ b1]
    omega
end
theorem leastC_tu : ∀ (l : List Ca) (k : Int), leastC (tuC l k) = leastC l
  | [], _ => by simp only [tuC]
  | x :: r, k => by
    have := leastC_tu r (k - cnA x)
    unfold leastC at this ⊢
    rw [tuC, List.any_cons, List.any_cons, this, tuA_n]
theorem chkS_tu (s : St) (k lv : Int) (hk : k ≠ 1) : chkS (tuS s k) lv = chkS s lv := by
  have hs : selfS (tuS s k) = selfS s := by
    unfold selfS usesS
    rw [tuS_kind, if_neg hk, tuS_name, tuS_n, tuS_a, tuS_b, tuS_body, tuS_els, tuS_cases, leastC_tu, tuL_length, tuL_length, tuC_length]
  unfold chkS
  rw [hs, tuS_kind, if_neg hk, tuS_a, tuS_b]
theorem chkS_zero {s : St} {lv : Int} (h : chkS s lv = 0) : chkS (tuS s 1) lv = 5 ∧ isS s.kind = true := by
  have hl : ¬ 32 < lv := fun e => by rw [chkS, if_pos e] at h; exact absurd h (by decide)
  rw [chkS, if_neg hl] at h
  have h1 : selfS (tuS s 1) = 5 := by
    unfold selfS
    rw [if_pos (by rw [tuS_kind, if_pos rfl]; rfl)]
  have h2 : isS s.kind = true := by
    cases e : isS s.kind with
    | true => rfl
    | false =>
      have : selfS s = 5 := by unfold selfS; rw [if_pos e]
      rw [if_pos (by rw [this]; decide), this] at h
      exact absurd h (by decide)
  refine ⟨?_, h2⟩
  rw [chkS, if_neg hl, if_pos (by rw [h1]; decide), h1]
theorem tuT_step (s : St) (lv m k : Int) (h : (chkT s lv m).1 = 0) (h1 : 1 ≤ k) (h2 : k ≤ cnS s)
    (H : ∀ m k : Int, (chkSs s.body (lv + 1) m).1 = 0 → 1 ≤ k → k ≤ cnL s.body → chkSs (tuL s.body k) (lv + 1) m = (5, m + k))
    (HC : ∀ m k : Int, (chkCs s.cases (lv + 1) m).1 = 0 → 1 ≤ k → k ≤ cnC s.cases → chkCs (tuC s.cases k) (lv + 1) m = (5, m + k))
    (HE : ∀ m k : Int, (chkSs s.els (lv + 1) m).1 = 0 → 1 ≤ k → k ≤ cnL s.els → chkSs (tuL s.els k) (lv + 1) m = (5, m + k)) : chkT (tuS s k) lv m = (5, m + k) := by
  rw [cnS_eq] at h2
  rw [chkT_form] at h
  by_cases h0 : chkS s lv = 0
  · rw [if_neg (by simpa using h0)] at h
    obtain ⟨b1, h⟩ := thenZ_ok h
    have b2 := cnL_at _ _ _ b1
    rw [b2] at h
    obtain ⟨c1, h⟩ := thenZ_ok h
    have c2 := cnC_at _ _ _ c1
    rw [c2] at h
    by_cases hk : k = 1
    · subst hk
      rw [chkT_form, (chkS_zero h0).1, if_pos (by decide)]
    · rw [chkT_form, chkS_tu s k lv hk, if_neg (by simpa using h0), tuS_body, tuS_cases, tuS_els]
      by_cases k1 : k - 1 ≤ cnL s.body
      · rw [H _ (k - 1) b1 (by omega) k1, thenZ_bad (by simp)]; congr 1; omega
      · rw [tuL_out s.body (k - 1) (.inr (by omega)), thenZ_zero b1, b2]
        by_cases k2 : k - 1 - cnL s.body ≤ cnC s.cases
        · rw [HC _ _ c1 (by omega) k2, thenZ_bad (by simp)]; congr 1; omega
        · rw [tuC_out s.cases _ (.inr (by omega)), thenZ_zero c1, c2, HE _ _ h (by omega) (by omega)]; congr 1; omega
  · rw [if_pos h0] at h; exact absurd h h0
mutual
theorem tuT_chk : ∀ (s : St) (lv m k : Int), (chkT s lv m).1 = 0 → 1 ≤ k → k ≤ cnS s → chkT (tuS s k) lv m = (5, m + k)
  | .mk kd nm n a b ba bc l ea ec e ca cc c, lv, m, k, h, h1, h2 =>
    tuT_step (.mk kd nm n a b ba bc l ea ec e ca cc c) lv m k h h1 h2 (fun m k => tuL_chk l (lv + 1) m k) (fun m k => tuC_chk c (lv + 1) m k) (fun m k => tuL_chk e (lv + 1) m k)
theorem tuA_chk : ∀ (c : Ca) (lv m k : Int), (chkCa c lv m).1 = 0 → 1 ≤ k → k ≤ cnA c → chkCa (tuA c k) lv m = (5, m + k)
  | .mk n ba bc l, lv, m, k, h, h1, h2 => by
    rw [chkCa] at h; rw [cnA] at h2; rw [tuA, chkCa]
    exact tuL_chk l _ _ _ h h1 h2
theorem tuL_chk : ∀ (l : List St) (lv m k : Int), (chkSs l lv m).1 = 0 → 1 ≤ k → k ≤ cnL l → chkSs (tuL l k) lv m = (5, m + k)
  | [], lv, m, k, h, h1, h2 => by rw [cnL] at h2; omega
  | x :: r, lv, m, k, h, h1, h2 => by
    rw [cnL] at h2
    rw [chkSs] at h
    obtain ⟨b1, h⟩ := thenZ_ok h
    rw [tuL, chkSs]
    by_cases k1 : k ≤ cnS x
    · rw [tuT_chk x lv m k b1 h1 k1, thenZ_bad (by simp)]
    · rw [tuS_out x k (.inr (by omega)), thenZ_zero b1, tuL_chk r _ _ _ h (by omega) (by omega), cnT_at x _ _ b1]
      congr 1; omega
theorem tuC_chk : ∀ (l : List Ca) (lv m k : Int), (chkCs l lv m).1 = 0 → 1 ≤ k → k ≤ cnC l → chkCs (tuC l k) lv m = (5, m + k)
  | [], lv, m, k, h, h1, h2 => by rw [cnC] at h2; omega
  | x :: r, lv, m, k, h, h1, h2 => by
    rw [cnC] at h2
    rw [chkCs] at h
    obtain ⟨b1, h⟩ := thenZ_ok h
    rw [tuC, chkCs]
    by_cases k1 : k ≤ cnA x
    · rw [tuA_chk x lv m k b1 h1 k1, thenZ_bad (by simp)]
    · rw [tuA_out x k (.inr (by omega)), thenZ_zero b1, tuC_chk r _ _ _ h (by omega) (by omega), cnA_at x _ _ b1]
      congr 1; omega
end
theorem tuT_samStep (s t : St) (lv m k : Int) (h : (chkT s lv m).1 = 0) (hs : samS s t = true) (h1 : 1 ≤ k) (h2 : k ≤ cnS s)
    (H : ∀ (t : List St) (m k : Int), (chkSs s.body (lv + 1) m).1 = 0 → samSs s.body t = true → 1 ≤ k → k ≤ cnL s.body → samSs (tuL s.body k) t = false)
    (HC : ∀ (t : List Ca) (m k : Int), (chkCs s.cases (lv + 1) m).1 = 0 → samCs s.cases t = true → 1 ≤ k → k ≤ cnC s.cases → samCs (tuC s.cases k) t = false)
    (HE : ∀ (t : List St) (m k : Int), (chkSs s.els (lv + 1) m).1 = 0 → samSs s.els t = true → 1 ≤ k → k ≤ cnL s.els → samSs (tuL s.els k) t = false) : samS (tuS s k) t = false := by
  rw [cnS_eq] at h2
  rw [chkT_form] at h
  by_cases h0 : chkS s lv = 0
  · rw [if_neg (by simpa using h0)] at h
    obtain ⟨b1, h⟩ := thenZ_ok h
    have b2 := cnL_at _ _ _ b1
    rw [b2] at h
    obtain ⟨c1, h⟩ := thenZ_ok h
    have c2 := cnC_at _ _ _ c1
    rw [c2] at h
    rw [samS_eq] at hs ⊢
    simp only [Bool.and_eq_true] at hs
    obtain ⟨s1, s2, s3, s4, s5, s6, s7, s8⟩ := hs
    rw [tuS_kind, tuS_name, tuS_n, tuS_a, tuS_b, tuS_body, tuS_els, tuS_cases]
    by_cases hk : k = 1
    · subst hk
      have hi := (chkS_zero h0).2
      have hkd : s.kind ≠ 0 := fun e => by rw [e] at hi; exact absurd hi (by decide)
      rw [if_pos rfl, show ((0 : Int) == t.kind) = false from by rw [← eq_of_beq s1]; exact beq_false_of_ne (Ne.symm hkd)]; rfl
    · by_cases k1 : k - 1 ≤ cnL s.body
      · rw [H _ _ (k - 1) b1 s6 (by omega) k1]; simp
      · by_cases k2 : k - 1 - cnL s.body ≤ cnC s.cases
        · rw [HC _ _ _ c1 s8 (by omega) k2]; simp
        · rw [HE _ _ _ h s7 (by omega) (by omega)]; simp
  · rw [if_pos h0] at h; exact absurd h h0
mutual
theorem tuT_sam : ∀ (s t : St) (lv m k : Int), (chkT s lv m).1 = 0 → samS s t = true → 1 ≤ k → k ≤ cnS s → samS (tuS s k) t = false
  | .mk kd nm n a b ba bc l ea ec e ca cc c, t, lv, m, k, h, hs, h1, h2 =>
    tuT_samStep (.mk kd nm n a b ba bc l ea ec e ca cc c) t lv m k h hs h1 h2 (fun t m k => tuL_sam l t (lv + 1) m k) (fun t m k => tuC_sam c t (lv + 1) m k) (fun t m k => tuL_sam e t (lv + 1) m k)
theorem tuA_sam : ∀ (c t : Ca) (lv m k : Int), (chkCa c lv m).1 = 0 → samC c t = true → 1 ≤ k → k ≤ cnA c → samC (tuA c k) t = false
  | .mk n ba bc l, t, lv, m, k, h, hs, h1, h2 => by
    rw [chkCa] at h; rw [cnA] at h2; rw [samC] at hs; rw [tuA, samC]
    simp only [Bool.and_eq_true] at hs
    rw [tuL_sam l _ _ _ _ h hs.2 h1 h2, Bool.and_false]
theorem tuL_sam : ∀ (l t : List St) (lv m k : Int), (chkSs l lv m).1 = 0 → samSs l t = true → 1 ≤ k → k ≤ cnL l → samSs (tuL l k) t = false
  | [], t, lv, m, k, h, hs, h1, h2 => by rw [cnL] at h2; omega
  | x :: r, [], lv, m, k, h, hs, h1, h2 => by simp [samSs] at hs
  | x :: r, y :: t, lv, m, k, h, hs, h1, h2 => by
    rw [cnL] at h2
    rw [chkSs] at h
    obtain ⟨b1, h⟩ := thenZ_ok h
    rw [samSs, Bool.and_eq_true] at hs
    rw [tuL, samSs]
    by_cases k1 : k ≤ cnS x
    · rw [tuT_sam x y lv m k b1 hs.1 h1 k1, Bool.false_and]
    · rw [tuL_sam r t _ _ _ h hs.2 (by omega) (by omega), Bool.and_false]
theorem tuC_sam : ∀ (l t : List Ca) (lv m k : Int), (chkCs l lv m).1 = 0 → samCs l t = true → 1 ≤ k → k ≤ cnC l → samCs (tuC l k) t = false
  | [], t, lv, m, k, h, hs, h1, h2 => by rw [cnC] at h2; omega
  | x :: r, [], lv, m, k, h, hs, h1, h2 => by simp [samCs] at hs
  | x :: r, y :: t, lv, m, k, h, hs, h1, h2 => by
    rw [cnC] at h2
    rw [chkCs] at h
    obtain ⟨b1, h⟩ := thenZ_ok h
    rw [samCs, Bool.and_eq_true] at hs
    rw [tuC, samCs]
    by_cases k1 : k ≤ cnA x
    · rw [tuA_sam x y lv m k b1 hs.1 h1 k1, Bool.false_and]
    · rw [tuC_sam r t _ _ _ h hs.2 (by omega) (by omega), Bool.and_false]
end
end Go.Proofs.YtbpemackmadhgabDoor
