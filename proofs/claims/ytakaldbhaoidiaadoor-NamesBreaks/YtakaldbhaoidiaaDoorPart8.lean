/- NamesBreaks, walked (a part). -/
import Derived.Test.YtakaldbhaoidiaaDoorPart7
namespace Go.Proofs.YtakaldbhaoidiaaDoor
open Go.RowKit Go.Sort

set_option maxRecDepth 100000 in
set_option maxHeartbeats 8000000 in
theorem namesBreaks_any (p : Pr) (i : Int) (w : World) (hin : p.In w) (_hi : I64 i) (ht : Tabs w) : Calls Tryd.prog 3 #[p.val, .int .i64 i] w fun e w' => e = .returned (.bool true) ∧ Below w.heap.size w w' := by
  have hb0 := (Below.refl _ w).alloc (Nat.le_refl _) (.cells #[.slice p.wa p.widen.length p.wc, .slice p.fa p.funcs.length p.fc] 25)
  have HNC : Hid (∀ w', Below w.heap.size w w' → Calls Tryd.prog 5 #[p.val] w' fun e w'' => e = .returned (fltV (namZ p).1 (namZ p).2.1 (namZ p).2.2) ∧ Below w'.heap.size w' w'') := fun w' hb => ncheck_any p w' (hin.stay hb) (ht.stay hb)
  have HCP : Hid ((namZ p).1 = 0 → ∀ w', Below w.heap.size w w' → Calls Tryd.prog 6 #[p.val] w' fun e w'' => (∃ q : Pr, e = .returned q.val ∧ q.Cp w'' ∧ q.er = p.er ∧ q.bl.Nodup ∧ (∀ b ∈ q.bl, w'.heap.size ≤ b ∧ b < w''.heap.size)) ∧ Below w'.heap.size w' w'') := fun hb w' h => copy_any p w' (hin.stay h) (few_check (nam_right hb).1)
  have HAW := Hid.mk2 (awake4_any _ (ht.stay hb0))
  have HT := Hid.mk2 ht
  have HIN := Hid.mk2 hin
  have HLE : Hid (∀ q : Pr, q.er = p.er → q.funcs.length = p.funcs.length) := fun q h => by
    have := congrArg (fun x => x.funcs.length) h
    simpa [Pr.er] using this
  clear hin ht
  unfold Pr.val at HNC HCP ⊢
  generalize hnz : namZ p = nz at HNC HCP ⊢
  obtain ⟨n1, n2, n3⟩ := nz
  have HNZ := Hid.mk2 hnz
  clear hnz
  simp only at HNC HCP
  have hq := equalIn_flt
  have hg := eqGuard_flt
  have hfd := field0_flt
  unfold fltV at hq HNC
  go_enter Tryd.func3, Tryd.ntmps3
  go_wp2_with fail
  refine HAW.out.mono ?_
  rintro e w1 ⟨rfl, hb1⟩
  have hbw1 : Below w.heap.size w w1 := hb0.trans (hb1.mono hb0.size)
  have P : Hid (∀ w', Below w1.heap.size w1 w' → w'.cell? ⟨w.heap.size, 0, none⟩ = some (.slice p.wa p.widen.length p.wc) ∧ w'.cell? ⟨w.heap.size, 1, none⟩ = some (.slice p.fa p.funcs.length p.fc)) := fun w' hb => by
    have h0 := heap_alloc_new w (.cells #[.slice p.wa p.widen.length p.wc, .slice p.fa p.funcs.length p.fc] 25)
    have h1 := keep_h (keep_h h0 hb1) hb
    exact ⟨by rw [Lib.cell_of_heap h1]; rfl, by rw [Lib.cell_of_heap h1]; rfl⟩
  have PH : Hid (∀ w', Below w1.heap.size w1 w' → w'.heap[w.heap.size]? = some (.cells #[.slice p.wa p.widen.length p.wc, .slice p.fa p.funcs.length p.fc] 25 (0, 0))) := fun w' hb => by
    have h0 := heap_alloc_new w (.cells #[.slice p.wa p.widen.length p.wc, .slice p.fa p.funcs.length p.fc] 25)
    exact keep_h (keep_h h0 hb1) hb
  obtain ⟨c0, c1⟩ := P.out _ (Below.refl _ _)
  have HB1 := Hid.mk2 hbw1
  clear hb0 hb1 hbw1 HAW
  by_cases hz : n1 = 0
  · subst hz
    by_cases hi1 : i < 0
    · go_wp2_with (go_at_call 5; refine (HNC.out _ HB1.out).mono ?_; rintro e w2 ⟨rfl, hb2⟩)
      go_ret
      exact ⟨rfl, Below.on HB1.out hb2⟩
    by_cases hi2 : (p.funcs.length : Int) ≤ i
    · go_wp2_with (go_at_call 5; refine (HNC.out _ HB1.out).mono ?_; rintro e w2 ⟨rfl, hb2⟩; obtain ⟨d0, d1⟩ := P.out _ hb2)
      go_ret
      exact ⟨rfl, Below.on HB1.out hb2⟩
    obtain ⟨k, rfl⟩ : ∃ k : Nat, i = (k : Int) := ⟨i.toNat, by omega⟩
    have HK : Hid (k < p.funcs.length) := by show k < _; omega
    have HCP2 := Hid.mk2 (HCP.out rfl)
    clear HCP
    go_upto_region 5 with (go_at_call 5; refine (HNC.out _ HB1.out).mono ?_; rintro e w2 ⟨rfl, hb2⟩; obtain ⟨d0, d1⟩ := P.out _ hb2)
    have HB2 := Hid.mk2 (Below.on HB1.out hb2)
    have HBX := Hid.mk2 hb2
    clear c0 c1 hb2
    go_upto_region 6 with (go_at_call 6; refine (HCP2.out _ HB2.out).mono ?_; rintro e w5 ⟨⟨q, rfl, hcp, her, hnd, hbl⟩, hb5⟩)
    clear d0 d1 HCP2
    have hb6 : Below w5.heap.size w5 (w5.alloc (.cells #[.slice q.wa q.widen.length q.wc, .slice q.fa q.funcs.length q.fc] 25)) := Below.one (Below.refl _ _) _
    have hkq : k < q.funcs.length := by rw [HLE.out q her]; exact HK.out
    have hc6 := hcp.stay hb6
    obtain ⟨gF, hfa, hfc, hgF, hH, hcn, hcb, hfz⟩ := cp_cells hc6 hkq
    have hY := heap_alloc_new w5 (.cells #[.slice q.wa q.widen.length q.wc, .slice q.fa q.funcs.length q.fc] 25)
    have hP := PH.out _ (Below.on HBX.out (Below.on hb5 hb6))
    have HX := Hid.mk2 (And.intro hc6 (And.intro her (And.intro hnd (And.intro hbl (And.intro (Below.on (Below.on HB2.out hb5) hb6) (And.intro hgF (And.intro hkq (And.intro hH (And.intro hfa (And.intro hfc hP))))))))))
    have HY := Hid.mk2 hY
    have h0q : (namZ q).1 = 0 := by rw [(er_names her).2.1, HNZ.out]
    have hcq := (nam_right h0q).1
    have hfq : q.funcs[k].In (w5.alloc (.cells #[.slice q.wa q.widen.length q.wc, .slice q.fa q.funcs.length q.fc] 25)) := (hc6.2.2.2 _ (List.getElem_mem hkq)).in
    have hroom := (check_room hcq).2 q.funcs[k] (List.getElem_mem hkq)
    have hqs := nuL_q q.funcs[k].body
    have HLA := Hid.mk2 (last_any q.funcs[k].body q.funcs[k].ba q.funcs[k].bc _ ⟨hfq.2.2.2.2.2.2.1, hfq.2.2.2.2.2.2.2⟩ hroom.1)
    have hnu : nuL q.funcs[k].body ≤ 12288 := by omega
    obtain ⟨gB, hba, hbc, hbb, hBh⟩ := (hc6.2.2.2 _ (List.getElem_mem hkq)).2.2.2.1
    have hgB : gB ∈ q.bl ∧ gB ≠ gF := by
      have hin : gB ∈ q.funcs.flatMap Fu.bl := List.mem_flatMap.2 ⟨q.funcs[k], List.getElem_mem hkq, by unfold Fu.bl; rw [hba]; simp [blk]⟩
      have hnd' := hnd
      unfold Pr.bl at hnd'
      rw [hfa] at hnd'
      have h2 := (List.nodup_cons.1 (List.nodup_cons.1 hnd').2).1
      exact ⟨by unfold Pr.bl; exact List.mem_cons_of_mem _ (List.mem_cons_of_mem _ hin), fun e => h2 (by rw [e] at hin; exact hin)⟩
    have HGB := Hid.mk2 (And.intro hBh (And.intro hgB (And.intro hba (And.intro hbc hbb))))
    have hblen : q.funcs[k].body.length ≤ 12288 := by have := len_nu q.funcs[k].body; omega
    rw [hba] at hcb HLA
    have HAS := Hid.mk2 (fun a c g j => ask_four h0q hkq a c g j)
    have HH0 := Hid.mk2 h0q
    have HNS := Hid.mk2 hfq.1
    have HWF : Hid (w.heap.size < gF) := Nat.lt_of_lt_of_le (Array.getElem?_eq_some_iff.1 (PH.out _ HBX.out)).1 (HX.out.2.2.2.1 gF HX.out.2.2.2.2.2.1).1
    have HBL : Hid (∀ b ∈ q.bl, w.heap.size ≤ b ∧ b < w5.heap.size) := fun b hb => ⟨Nat.le_trans HB2.out.size (HX.out.2.2.2.1 b hb).1, (HX.out.2.2.2.1 b hb).2⟩
    clear hcp her hnd hbl hb5 hb6 hc6 hgF hH hY hP h0q hcq hfq hroom hqs hba hbc hbb hBh hgB
    generalize w5.alloc (.cells #[.slice q.wa q.widen.length q.wc, .slice q.fa q.funcs.length q.fc] 25) = W6 at *
    generalize w5.heap.size = Y at *
    have q1 : W6.cell? ⟨Y, 1, none⟩ = some (.slice (some ⟨gF, 0, none⟩) q.funcs.length q.fc) := by rw [Lib.cell_of_heap HY.out, hfa]; rfl
    have hlk : (k : Int) < (q.funcs.length : Int) := by omega
    clear hfa hfc
    go_upto_region 9 with (go_at_call 7; refine HLA.out.mono ?_; rintro e w7 ⟨rfl, hb7⟩)
    have hcn7 := (hb7.cell (p := ⟨gF, k * 3, none⟩) (lt_of_cell hcn)).trans hcn
    have HCL := Hid.mk2 (lcall_any q.funcs[k].name)
    unfold St.val lcS lcE zEx at HCL
    simp only [St.kind, St.name, St.n, St.a, St.b, St.ba, St.bc, St.body, St.ea, St.ec, St.els, St.ca, St.cc, St.cases, Ex.kind, Ex.n, Ex.name, Ex.a, Ex.cap, Ex.args, List.length_nil] at HCL
    go_upto_region 10 with (go_at_call 8; refine (HCL.out _).mono ?_; rintro e w8 ⟨rfl, hb8⟩)
    show Code.wp _ _ _ _ ((w8.alloc (.cells #[.int .i64 1, .int .i64 0, .string ⟨#[]⟩, .slice none 0 0] 40)).alloc (.cells ⟨tC q.funcs[k].name w8.heap.size⟩ 44))
    have hb9 : Below W6.heap.size W6 ((w8.alloc (.cells #[.int .i64 1, .int .i64 0, .string ⟨#[]⟩, .slice none 0 0] 40)).alloc (.cells ⟨tC q.funcs[k].name w8.heap.size⟩ 44)) := Below.one (Below.one (Below.on hb7 hb8) _) _
    have hT9 := heap_alloc_new (w8.alloc (.cells #[.int .i64 1, .int .i64 0, .string ⟨#[]⟩, .slice none 0 0] 40)) (.cells ⟨tC q.funcs[k].name w8.heap.size⟩ 44)
    rw [World.size_alloc] at hT9
    have hA9 := keep_heap (heap_alloc_new w8 (.cells #[.int .i64 1, .int .i64 0, .string ⟨#[]⟩, .slice none 0 0] 40)) (.cells ⟨tC q.funcs[k].name w8.heap.size⟩ 44)
    have hsz78 : W6.heap.size ≤ w8.heap.size := Nat.le_trans hb7.size hb8.size
    obtain ⟨x1, x2, x3, x4, x5, x6, -, x8, x9, x10, x11⟩ := HX.out
    have HNB : Hid (NB w W6 q p q.funcs[k].name k gF Y (w8.heap.size + 1) w8.heap.size ((w8.alloc (.cells #[.int .i64 1, .int .i64 0, .string ⟨#[]⟩, .slice none 0 0] 40)).alloc (.cells ⟨tC q.funcs[k].name w8.heap.size⟩ 44))) := by
      refine ⟨Below.on x5 hb9, hT9, hA9, keep_h HY.out hb9, keep_h x11 hb9, fun b hb _ => hb9.block b (by have := (x4 b hb).2; have := (Array.getElem?_eq_some_iff.1 HY.out).1; omega), ?_⟩
      refine ⟨q.funcs[k].ba, q.funcs[k].bc, q.funcs[k].body.length, ?_⟩
      rw [keep_h x8 hb9, cells_with hkq, set_same]
    clear x1 x2 x3 x4 x5 x6 x8 x9 x10 x11 hb9 hT9 hA9 hcn7 hb7 hb8 hcn hcb hfz q1 HLA HCL
    generalize (w8.alloc (.cells #[.int .i64 1, .int .i64 0, .string ⟨#[]⟩, .slice none 0 0] 40)).alloc (.cells ⟨tC q.funcs[k].name w8.heap.size⟩ 44) = W9 at *
    have HGA : Hid (Y < w8.heap.size) := by
      have h1 := (Array.getElem?_eq_some_iff.1 HY.out).1
      have h2 := hsz78
      show _ < _
      omega
    clear hsz78
    generalize w8.heap.size = gA at *
    go_loopw [61] (fun t61 wr => ∃ j : Nat, j ≤ 4 ∧ t61 = .int .i64 j ∧ NB w W6 q p q.funcs[k].name k gF Y (gA + 1) gA wr) (fun t61 _ => 4 - (intOf t61).toNat)
    case atStart => exact ⟨0, by omega, rfl, HNB.out⟩
    case round =>
      obtain ⟨j, hj, rfl, hN⟩ := hrel
      have HN := Hid.mk2 hN
      by_cases hlt : j < 4
      · have hli : (j : Int) < 4 := by omega
        have hcl : ∀ r v, r < 15 → (xC q.funcs[k].name gA j)[r]? = some v → wr.cell? ⟨gA + 1, j * 15 + r, none⟩ = some v := fun r v hr hv => by
          rw [Lib.cell_of_heap hN.hT]
          show (tC q.funcs[k].name gA).toArray[j * 15 + r]? = _
          rw [List.getElem?_toArray, tC_at _ _ _ _ hlt hr, hv]
        have hxa := fun a c => HAS.out a c gA j
        obtain ⟨x, hx⟩ : ∃ x, x = xN q.funcs[k].name gA j := ⟨_, rfl⟩
        unfold xC at hcl
        rw [← hx] at hcl hxa
        have HXA := Hid.mk2 hxa
        have HXX := Hid.mk2 hx
        have d0 := hcl 0 (.int .i64 x.kind) (by omega) rfl
        have d1 := hcl 1 (.string x.name) (by omega) rfl
        have d2 := hcl 2 (.int .i64 x.n) (by omega) rfl
        have d3 := hcl 3 (.int .i64 x.a.kind) (by omega) rfl
        have d4 := hcl 4 (.int .i64 x.a.n) (by omega) rfl
        have d5 := hcl 5 (.string x.a.name) (by omega) rfl
        have d6 := hcl 6 (.slice x.a.a x.a.args.length x.a.cap) (by omega) rfl
        have d7 := hcl 7 (.int .i64 x.b.kind) (by omega) rfl
        have d8 := hcl 8 (.int .i64 x.b.n) (by omega) rfl
        have d9 := hcl 9 (.string x.b.name) (by omega) rfl
        have d10 := hcl 10 (.slice x.b.a x.b.args.length x.b.cap) (by omega) rfl
        have d11 := hcl 11 (.slice x.ba x.body.length x.bc) (by omega) rfl
        have d12 := hcl 12 (.slice x.ea x.els.length x.ec) (by omega) rfl
        have d13 := hcl 13 (.slice x.ca x.cases.length x.cc) (by omega) rfl
        have d14 := hcl 14 (.int .i64 (eN j)) (by omega) rfl
        have d0' : wr.cell? ⟨gA + 1, j * 15, none⟩ = some (.int .i64 x.kind) := d0
        clear d0
        clear hcl hx hxa hN
        go_upto_region 12 with fail
        clear d0' d1 d2 d3 d4 d5 d6 d7 d8 d9 d10 d11 d12 d13 d14
        have h10 := heap_alloc_new wr (.cells #[.int .i64 x.kind, .string x.name, .int .i64 x.n, .int .i64 x.a.kind, .int .i64 x.a.n, .string x.a.name, .slice x.a.a x.a.args.length x.a.cap, .int .i64 x.b.kind, .int .i64 x.b.n, .string x.b.name, .slice x.b.a x.b.args.length x.b.cap, .slice x.ba x.body.length x.bc, .slice x.ea x.els.length x.ec, .slice x.ca x.cases.length x.cc, .int .i64 (eN j)] 44)
        have hb10 := Below.one (Below.refl _ wr) (.cells #[.int .i64 x.kind, .string x.name, .int .i64 x.n, .int .i64 x.a.kind, .int .i64 x.a.n, .string x.a.name, .slice x.a.a x.a.args.length x.a.cap, .int .i64 x.b.kind, .int .i64 x.b.n, .string x.b.name, .slice x.b.a x.b.args.length x.b.cap, .slice x.ba x.body.length x.bc, .slice x.ea x.els.length x.ec, .slice x.ca x.cases.length x.cc, .int .i64 (eN j)] 44)
        have HN1 : Hid (NB w W6 q p q.funcs[k].name k gF Y (gA + 1) gA (wr.alloc (.cells #[.int .i64 x.kind, .string x.name, .int .i64 x.n, .int .i64 x.a.kind, .int .i64 x.a.n, .string x.a.name, .slice x.a.a x.a.args.length x.a.cap, .int .i64 x.b.kind, .int .i64 x.b.n, .string x.b.name, .slice x.b.a x.b.args.length x.b.cap, .slice x.ba x.body.length x.bc, .slice x.ea x.els.length x.ec, .slice x.ca x.cases.length x.cc, .int .i64 (eN j)] 44)) ) := HN.out.stay (fun b hb => by have h1 := (HX.out.2.2.2.1 b hb).2; have h2 := (Array.getElem?_eq_some_iff.1 HN.out.hY).1; omega) hb10
        have H10 := Hid.mk2 h10
        clear h10 hb10
        generalize wr.alloc (.cells #[.int .i64 x.kind, .string x.name, .int .i64 x.n, .int .i64 x.a.kind, .int .i64 x.a.n, .string x.a.name, .slice x.a.a x.a.args.length x.a.cap, .int .i64 x.b.kind, .int .i64 x.b.n, .string x.b.name, .slice x.b.a x.b.args.length x.b.cap, .slice x.ba x.body.length x.bc, .slice x.ea x.els.length x.ec, .slice x.ca x.cases.length x.cc, .int .i64 (eN j)] 44) = W1 at *
        have HBF : Hid (wr.heap.size ≠ gF) := by
          have h1 := (HBL.out gF HX.out.2.2.2.2.2.1).2
          have h2 := (Array.getElem?_eq_some_iff.1 HN.out.hY).1
          show _ ≠ _
          omega
        generalize wr.heap.size = B10 at *
        go_cut [] from 65 to 74 (fun wx => ∃ (av : Option Addr) (cv : Nat), NB w W6 q p q.funcs[k].name k gF Y (gA + 1) gA wx ∧ (q.setF k (q.funcs[k].more av cv x)).In wx ∧ wx.heap[B10]? = W1.heap[B10]?)
        case first =>
          have f0 : W1.cell? ⟨B10, 0, none⟩ = some (.int .i64 x.kind) := by rw [Lib.cell_of_heap H10.out]; rfl
          have f1 : W1.cell? ⟨B10, 1, none⟩ = some (.string x.name) := by rw [Lib.cell_of_heap H10.out]; rfl
          have f2 : W1.cell? ⟨B10, 2, none⟩ = some (.int .i64 x.n) := by rw [Lib.cell_of_heap H10.out]; rfl
          have f3 : W1.cell? ⟨B10, 3, none⟩ = some (.int .i64 x.a.kind) := by rw [Lib.cell_of_heap H10.out]; rfl
          have f4 : W1.cell? ⟨B10, 4, none⟩ = some (.int .i64 x.a.n) := by rw [Lib.cell_of_heap H10.out]; rfl
          have f5 : W1.cell? ⟨B10, 5, none⟩ = some (.string x.a.name) := by rw [Lib.cell_of_heap H10.out]; rfl
          have f6 : W1.cell? ⟨B10, 6, none⟩ = some (.slice x.a.a x.a.args.length x.a.cap) := by rw [Lib.cell_of_heap H10.out]; rfl
          have f7 : W1.cell? ⟨B10, 7, none⟩ = some (.int .i64 x.b.kind) := by rw [Lib.cell_of_heap H10.out]; rfl
          have f8 : W1.cell? ⟨B10, 8, none⟩ = some (.int .i64 x.b.n) := by rw [Lib.cell_of_heap H10.out]; rfl
          have f9 : W1.cell? ⟨B10, 9, none⟩ = some (.string x.b.name) := by rw [Lib.cell_of_heap H10.out]; rfl
          have f10 : W1.cell? ⟨B10, 10, none⟩ = some (.slice x.b.a x.b.args.length x.b.cap) := by rw [Lib.cell_of_heap H10.out]; rfl
          have f11 : W1.cell? ⟨B10, 11, none⟩ = some (.slice x.ba x.body.length x.bc) := by rw [Lib.cell_of_heap H10.out]; rfl
          have f12 : W1.cell? ⟨B10, 12, none⟩ = some (.slice x.ea x.els.length x.ec) := by rw [Lib.cell_of_heap H10.out]; rfl
          have f13 : W1.cell? ⟨B10, 13, none⟩ = some (.slice x.ca x.cases.length x.cc) := by rw [Lib.cell_of_heap H10.out]; rfl
          have hB10 : B10 < W1.heap.size := (Array.getElem?_eq_some_iff.1 H10.out).1
          obtain ⟨i0, hi, hz0, hz1, hz2⟩ := info_parts Tryd.infoStm
          have HI := Hid.mk2 (And.intro hi (And.intro hz0 (And.intro hz1 hz2)))
          clear hi hz0 hz1 hz2
          have oE : ∀ W : World, (W.alloc (.cells #[] 43)).ownsRow W.heap.size 43 14 (.slice (some ⟨W.heap.size, 0, none⟩) 0 0) 0 [] := fun W => ⟨rfl, .inr ⟨W.heap.size, 0, #[], rfl, Nat.le_refl _, heap_alloc_new _ _, Nat.le_refl _, by unfold maxLen; omega, rfl, rfl⟩⟩
          have OA : Hid ((W1.alloc (.cells #[] 43)).drew.ownsRow W1.heap.size 43 14 (.slice (some ⟨W1.heap.size, 0, none⟩) 0 0) 0 []) := oE W1
          have OB : Hid (((W1.alloc (.cells #[] 43)).alloc (.cells #[.int .i64 x.kind, .string x.name, .int .i64 x.n, .int .i64 x.a.kind, .int .i64 x.a.n, .string x.a.name, .slice x.a.a x.a.args.length x.a.cap, .int .i64 x.b.kind, .int .i64 x.b.n, .string x.b.name, .slice x.b.a x.b.args.length x.b.cap, .slice x.ba x.body.length x.bc, .slice x.ea x.els.length x.ec, .slice x.ca x.cases.length x.cc] 43)).drew.ownsRow W1.heap.size 43 14 (.slice (some ⟨W1.heap.size, 0, none⟩) 0 0) 0 []) := (oE W1).alloc _
          have OC : Hid (((W1.alloc (.cells #[.int .i64 x.kind, .string x.name, .int .i64 x.n, .int .i64 x.a.kind, .int .i64 x.a.n, .string x.a.name, .slice x.a.a x.a.args.length x.a.cap, .int .i64 x.b.kind, .int .i64 x.b.n, .string x.b.name, .slice x.b.a x.b.args.length x.b.cap, .slice x.ba x.body.length x.bc, .slice x.ea x.els.length x.ec, .slice x.ca x.cases.length x.cc] 43)).alloc (.cells #[] 43)).drew.ownsRow W1.heap.size 43 14 (.slice (some ⟨W1.heap.size + 1, 0, none⟩) 0 0) 0 []) := by
            have h := oE (W1.alloc (.cells #[.int .i64 x.kind, .string x.name, .int .i64 x.n, .int .i64 x.a.kind, .int .i64 x.a.n, .string x.a.name, .slice x.a.a x.a.args.length x.a.cap, .int .i64 x.b.kind, .int .i64 x.b.n, .string x.b.name, .slice x.b.a x.b.args.length x.b.cap, .slice x.ba x.body.length x.bc, .slice x.ea x.els.length x.ec, .slice x.ca x.cases.length x.cc] 43))
            rw [World.size_alloc] at h
            exact sown_mono h (by omega)
          clear oE
          have hBW : W1.heap[gB]? = some (.cells ⟨q.funcs[k].body.flatMap St.cells ++ senS⟩ 43 (0, 0)) := by
            obtain ⟨y1, y2, _⟩ := HGB.out
            exact (HN1.out.hK gB y2.1 y2.2).trans y1
          have HL1 : Hid ((q.funcs[k].body.flatMap St.cells).length = q.funcs[k].body.length * 14) := flat_len (f := St.cells) (k := 14) (fun x => rfl) _
          have HO1 := Hid.mk2 (one_cells q.funcs[k].body)
          have HO2 := Hid.mk2 (one_st x)
          have HM1 : Hid (0 + q.funcs[k].body.length ≤ maxLen) := by show _ ≤ _; unfold maxLen; omega
          have HM2 : Hid ((0 + q.funcs[k].body.length) * 216 ≤ 140737488355328) := by show _ ≤ _; omega
          have HM3 : Hid (0 + q.funcs[k].body.length + 1 ≤ maxLen) := by show _ ≤ _; unfold maxLen; omega
          have HM4 : Hid ((0 + q.funcs[k].body.length + 1) * 216 ≤ 140737488355328) := by show _ ≤ _; omega
          have NA : Hid (∀ j u, (q.funcs[k].body.flatMap St.cells)[j]? = some u → ((W1.alloc (.cells #[] 43)).drew).cell? ((⟨gB, 0, none⟩ : Addr).add j) = some u) := news_at (W := (W1.alloc (.cells #[] 43))) (keep_heap hBW _)
          have NB' : Hid (∀ j u, (q.funcs[k].body.flatMap St.cells)[j]? = some u → ((W1.alloc (.cells #[] 43)).alloc (.cells #[.int .i64 x.kind, .string x.name, .int .i64 x.n, .int .i64 x.a.kind, .int .i64 x.a.n, .string x.a.name, .slice x.a.a x.a.args.length x.a.cap, .int .i64 x.b.kind, .int .i64 x.b.n, .string x.b.name, .slice x.b.a x.b.args.length x.b.cap, .slice x.ba x.body.length x.bc, .slice x.ea x.els.length x.ec, .slice x.ca x.cases.length x.cc] 43)).drew.cell? ((⟨gB, 0, none⟩ : Addr).add j) = some u) := news_at (W := ((W1.alloc (.cells #[] 43)).alloc (.cells #[.int .i64 x.kind, .string x.name, .int .i64 x.n, .int .i64 x.a.kind, .int .i64 x.a.n, .string x.a.name, .slice x.a.a x.a.args.length x.a.cap, .int .i64 x.b.kind, .int .i64 x.b.n, .string x.b.name, .slice x.b.a x.b.args.length x.b.cap, .slice x.ba x.body.length x.bc, .slice x.ea x.els.length x.ec, .slice x.ca x.cases.length x.cc] 43))) (keep_heap (keep_heap hBW _) _)
          have NC : Hid (∀ j u, (q.funcs[k].body.flatMap St.cells)[j]? = some u → ((W1.alloc (.cells #[.int .i64 x.kind, .string x.name, .int .i64 x.n, .int .i64 x.a.kind, .int .i64 x.a.n, .string x.a.name, .slice x.a.a x.a.args.length x.a.cap, .int .i64 x.b.kind, .int .i64 x.b.n, .string x.b.name, .slice x.b.a x.b.args.length x.b.cap, .slice x.ba x.body.length x.bc, .slice x.ea x.els.length x.ec, .slice x.ca x.cases.length x.cc] 43)).alloc (.cells #[] 43)).drew.cell? ((⟨gB, 0, none⟩ : Addr).add j) = some u) := news_at (W := ((W1.alloc (.cells #[.int .i64 x.kind, .string x.name, .int .i64 x.n, .int .i64 x.a.kind, .int .i64 x.a.n, .string x.a.name, .slice x.a.a x.a.args.length x.a.cap, .int .i64 x.b.kind, .int .i64 x.b.n, .string x.b.name, .slice x.b.a x.b.args.length x.b.cap, .slice x.ba x.body.length x.bc, .slice x.ea x.els.length x.ec, .slice x.ca x.cases.length x.cc] 43)).alloc (.cells #[] 43))) (keep_heap (keep_heap hBW _) _)
          have SA : Hid (W1.heap.size ≤ (W1.alloc (.cells #[] 43)).drew.heap.size) := by show _ ≤ (W1.alloc _).heap.size; simp
          have SB : Hid (W1.heap.size ≤ ((W1.alloc (.cells #[] 43)).alloc (.cells #[.int .i64 x.kind, .string x.name, .int .i64 x.n, .int .i64 x.a.kind, .int .i64 x.a.n, .string x.a.name, .slice x.a.a x.a.args.length x.a.cap, .int .i64 x.b.kind, .int .i64 x.b.n, .string x.b.name, .slice x.b.a x.b.args.length x.b.cap, .slice x.ba x.body.length x.bc, .slice x.ea x.els.length x.ec, .slice x.ca x.cases.length x.cc] 43)).drew.heap.size) := by show _ ≤ ((W1.alloc _).alloc _).heap.size; simp; omega
          have SC : Hid (W1.heap.size ≤ ((W1.alloc (.cells #[.int .i64 x.kind, .string x.name, .int .i64 x.n, .int .i64 x.a.kind, .int .i64 x.a.n, .string x.a.name, .slice x.a.a x.a.args.length x.a.cap, .int .i64 x.b.kind, .int .i64 x.b.n, .string x.b.name, .slice x.b.a x.b.args.length x.b.cap, .slice x.ba x.body.length x.bc, .slice x.ea x.els.length x.ec, .slice x.ca x.cases.length x.cc] 43)).alloc (.cells #[] 43)).drew.heap.size) := by show _ ≤ ((W1.alloc _).alloc _).heap.size; simp; omega
          have HF14 : Hid (∀ W' : World, W'.heap[B10]? = W1.heap[B10]? → W'.cell? ⟨B10, 0, none⟩ = some (.int .i64 x.kind) ∧ W'.cell? ⟨B10, 1, none⟩ = some (.string x.name) ∧ W'.cell? ⟨B10, 2, none⟩ = some (.int .i64 x.n) ∧ W'.cell? ⟨B10, 3, none⟩ = some (.int .i64 x.a.kind) ∧ W'.cell? ⟨B10, 4, none⟩ = some (.int .i64 x.a.n) ∧ W'.cell? ⟨B10, 5, none⟩ = some (.string x.a.name) ∧ W'.cell? ⟨B10, 6, none⟩ = some (.slice x.a.a x.a.args.length x.a.cap) ∧ W'.cell? ⟨B10, 7, none⟩ = some (.int .i64 x.b.kind) ∧ W'.cell? ⟨B10, 8, none⟩ = some (.int .i64 x.b.n) ∧ W'.cell? ⟨B10, 9, none⟩ = some (.string x.b.name) ∧ W'.cell? ⟨B10, 10, none⟩ = some (.slice x.b.a x.b.args.length x.b.cap) ∧ W'.cell? ⟨B10, 11, none⟩ = some (.slice x.ba x.body.length x.bc) ∧ W'.cell? ⟨B10, 12, none⟩ = some (.slice x.ea x.els.length x.ec) ∧ W'.cell? ⟨B10, 13, none⟩ = some (.slice x.ca x.cases.length x.cc)) := fun W' h => ⟨by rw [Lib.cell_of_heap (h.trans H10.out)]; rfl, by rw [Lib.cell_of_heap (h.trans H10.out)]; rfl, by rw [Lib.cell_of_heap (h.trans H10.out)]; rfl, by rw [Lib.cell_of_heap (h.trans H10.out)]; rfl, by rw [Lib.cell_of_heap (h.trans H10.out)]; rfl, by rw [Lib.cell_of_heap (h.trans H10.out)]; rfl, by rw [Lib.cell_of_heap (h.trans H10.out)]; rfl, by rw [Lib.cell_of_heap (h.trans H10.out)]; rfl, by rw [Lib.cell_of_heap (h.trans H10.out)]; rfl, by rw [Lib.cell_of_heap (h.trans H10.out)]; rfl, by rw [Lib.cell_of_heap (h.trans H10.out)]; rfl, by rw [Lib.cell_of_heap (h.trans H10.out)]; rfl, by rw [Lib.cell_of_heap (h.trans H10.out)]; rfl, by rw [Lib.cell_of_heap (h.trans H10.out)]; rfl⟩
          obtain ⟨aF, cF, nF, hFF⟩ := HN1.out.hF
          have HC4 : Hid (∀ W' : World, W'.heap[gF]? = W1.heap[gF]? → W'.cell? ⟨gF, k * 3 + 2, none⟩ = some (.slice aF nF cF)) := fun W' h => by
            rw [Lib.cell_of_heap (h.trans hFF)]
            show ((q.funcs.flatMap Fu.cells ++ senF).set (k * 3 + 2) (.slice aF nF cF)).toArray[k * 3 + 2]? = _
            have hl : (q.funcs.flatMap Fu.cells).length = q.funcs.length * 3 := flat_len (f := Fu.cells) (k := 3) (fun x => rfl) q.funcs
            rw [List.getElem?_toArray, List.getElem?_set_self (by rw [List.length_append]; omega)]
          have HC5 : Hid (∀ W' : World, W'.heap[gF]? = W1.heap[gF]? → W'.frozen? ⟨gF, k * 3 + 2, none⟩ = false) := fun W' h => Lib.frozen_of_heap (h.trans hFF) _
          have HFF := Hid.mk2 hFF
          clear hFF
          have hgF1 : gF < W1.heap.size := (Array.getElem?_eq_some_iff.1 HFF.out).1
          have X3B : Hid (∀ (w3 : World) (c : Nat), ((W1.alloc (.cells #[] 43)).alloc (.cells #[.int .i64 x.kind, .string x.name, .int .i64 x.n, .int .i64 x.a.kind, .int .i64 x.a.n, .string x.a.name, .slice x.a.a x.a.args.length x.a.cap, .int .i64 x.b.kind, .int .i64 x.b.n, .string x.b.name, .slice x.b.a x.b.args.length x.b.cap, .slice x.ba x.body.length x.bc, .slice x.ea x.els.length x.ec, .slice x.ca x.cases.length x.cc] 43)).drew.grownBy w3 (Value.slice (some ⟨W1.heap.size, 0, none⟩) 0 c).ownBlock → w3.heap[W1.heap.size + 1]? = some (.cells #[.int .i64 x.kind, .string x.name, .int .i64 x.n, .int .i64 x.a.kind, .int .i64 x.a.n, .string x.a.name, .slice x.a.a x.a.args.length x.a.cap, .int .i64 x.b.kind, .int .i64 x.b.n, .string x.b.name, .slice x.b.a x.b.args.length x.b.cap, .slice x.ba x.body.length x.bc, .slice x.ea x.els.length x.ec, .slice x.ca x.cases.length x.cc] 43)) := fun w3 c g => by
            have h1 := heap_alloc_new (W1.alloc (.cells #[] 43)) (.cells #[.int .i64 x.kind, .string x.name, .int .i64 x.n, .int .i64 x.a.kind, .int .i64 x.a.n, .string x.a.name, .slice x.a.a x.a.args.length x.a.cap, .int .i64 x.b.kind, .int .i64 x.b.n, .string x.b.name, .slice x.b.a x.b.args.length x.b.cap, .slice x.ba x.body.length x.bc, .slice x.ea x.els.length x.ec, .slice x.ca x.cases.length x.cc] 43)
            rw [World.size_alloc] at h1
            exact (g.block (W1.heap.size + 1) (by show _ < ((W1.alloc _).alloc _).heap.size; simp) (by simp [Value.ownBlock])).trans h1
          have X3C : Hid (∀ (w3 : World) (c : Nat), ((W1.alloc (.cells #[.int .i64 x.kind, .string x.name, .int .i64 x.n, .int .i64 x.a.kind, .int .i64 x.a.n, .string x.a.name, .slice x.a.a x.a.args.length x.a.cap, .int .i64 x.b.kind, .int .i64 x.b.n, .string x.b.name, .slice x.b.a x.b.args.length x.b.cap, .slice x.ba x.body.length x.bc, .slice x.ea x.els.length x.ec, .slice x.ca x.cases.length x.cc] 43)).alloc (.cells #[] 43)).drew.grownBy w3 (Value.slice (some ⟨W1.heap.size + 1, 0, none⟩) 0 c).ownBlock → w3.heap[W1.heap.size]? = some (.cells #[.int .i64 x.kind, .string x.name, .int .i64 x.n, .int .i64 x.a.kind, .int .i64 x.a.n, .string x.a.name, .slice x.a.a x.a.args.length x.a.cap, .int .i64 x.b.kind, .int .i64 x.b.n, .string x.b.name, .slice x.b.a x.b.args.length x.b.cap, .slice x.ba x.body.length x.bc, .slice x.ea x.els.length x.ec, .slice x.ca x.cases.length x.cc] 43)) := fun w3 c g => by
            have h1 := keep_heap (heap_alloc_new W1 (.cells #[.int .i64 x.kind, .string x.name, .int .i64 x.n, .int .i64 x.a.kind, .int .i64 x.a.n, .string x.a.name, .slice x.a.a x.a.args.length x.a.cap, .int .i64 x.b.kind, .int .i64 x.b.n, .string x.b.name, .slice x.b.a x.b.args.length x.b.cap, .slice x.ba x.body.length x.bc, .slice x.ea x.els.length x.ec, .slice x.ca x.cases.length x.cc] 43)) (.cells #[] 43)
            exact (g.block W1.heap.size (by show _ < ((W1.alloc _).alloc _).heap.size; simp; omega) (by simp [Value.ownBlock])).trans h1
          go_region_law (first | (refine step_append_own _ (by rfl) _ _ 34 (by rfl) W1.heap.size 43 i0 zSt 14 216 Tryd.underlying34 HI.out.1 HI.out.2.1 HI.out.2.2.1 HI.out.2.2.2 rfl (by decide) _ _ _ (by rfl) OA.out ⟨gB, 0, none⟩ _ _ (q.funcs[k].body.flatMap St.cells) (by rfl) HL1.out NA.out HO1.out HM1.out HM2.out SA.out ?_; intro v3 w3 own3 grow3; have B3 := Below.grown (Below.drew (Below.one (Below.refl _ W1) _)) grow3 SA.out (sown_base OA.out); have S3 := Nat.le_trans SA.out grow3.size; have SZ3 := fun (o : Obj) => size_more S3 o;  obtain ⟨g0, g1, g2, g3, g4, g5, g6, g7, g8, g9, g10, g11, g12, g13⟩ := HF14.out w3 (B3.block B10 hB10)) | (refine step_append_own _ (by rfl) _ _ 34 (by rfl) W1.heap.size 43 i0 zSt 14 216 Tryd.underlying34 HI.out.1 HI.out.2.1 HI.out.2.2.1 HI.out.2.2.2 rfl (by decide) _ _ _ (by rfl) OB.out ⟨gB, 0, none⟩ _ _ (q.funcs[k].body.flatMap St.cells) (by rfl) HL1.out NB'.out HO1.out HM1.out HM2.out SB.out ?_; intro v3 w3 own3 grow3; have B3 := Below.grown (Below.drew (Below.one (Below.one (Below.refl _ W1) _) _)) grow3 SB.out (sown_base OB.out); have S3 := Nat.le_trans SB.out grow3.size; have SZ3 := fun (o : Obj) => size_more S3 o; have X3b := X3B.out w3 _ grow3;  obtain ⟨g0, g1, g2, g3, g4, g5, g6, g7, g8, g9, g10, g11, g12, g13⟩ := HF14.out w3 (B3.block B10 hB10)) | (refine step_append_own _ (by rfl) _ _ 34 (by rfl) W1.heap.size 43 i0 zSt 14 216 Tryd.underlying34 HI.out.1 HI.out.2.1 HI.out.2.2.1 HI.out.2.2.2 rfl (by decide) _ _ _ (by rfl) OC.out ⟨gB, 0, none⟩ _ _ (q.funcs[k].body.flatMap St.cells) (by rfl) HL1.out NC.out HO1.out HM1.out HM2.out SC.out ?_; intro v3 w3 own3 grow3; have B3 := Below.grown (Below.drew (Below.one (Below.one (Below.refl _ W1) _) _)) grow3 SC.out (sown_base OC.out); have S3 := Nat.le_trans SC.out grow3.size; have SZ3 := fun (o : Obj) => size_more S3 o; have X3c := X3C.out w3 _ grow3;  obtain ⟨g0, g1, g2, g3, g4, g5, g6, g7, g8, g9, g10, g11, g12, g13⟩ := HF14.out w3 (B3.block B10 hB10)) | (refine step_append_own _ (by rfl) _ _ 34 (by rfl) W1.heap.size 43 i0 zSt 14 216 Tryd.underlying34 HI.out.1 HI.out.2.1 HI.out.2.2.1 HI.out.2.2.2 rfl (by decide) _ _ _ (by rfl) (own3.alloc _) ⟨w3.heap.size, 0, none⟩ 1 1 x.cells (by rfl) (by rfl) (news_all (heap_alloc_new w3 _)) HO2.out HM3.out HM4.out (SZ3 _) ?_; intro v4 w4 own4 grow4; obtain ⟨av, cv, hv4⟩ := sown_form own4; subst hv4; have B4 := Below.grown (Below.one B3 _) grow4 (SZ3 _) (sown_base own3); have u1 : w4.cell? ⟨gF, k * 3 + 2, none⟩ = some (.slice aF nF cF) := HC4.out w4 (B4.block gF hgF1); have u2 : w4.frozen? ⟨gF, k * 3 + 2, none⟩ = false := HC5.out w4 (B4.block gF hgF1)) | (refine step_append_own _ (by rfl) _ _ 34 (by rfl) W1.heap.size 43 i0 zSt 14 216 Tryd.underlying34 HI.out.1 HI.out.2.1 HI.out.2.2.1 HI.out.2.2.2 rfl (by decide) _ _ _ (by rfl) own3 ⟨W1.heap.size + 1, 0, none⟩ 1 1 x.cells (by rfl) (by rfl) (news_all X3b) HO2.out HM3.out HM4.out S3 ?_; intro v4 w4 own4 grow4; obtain ⟨av, cv, hv4⟩ := sown_form own4; subst hv4; have B4 := Below.grown B3 grow4 S3 (sown_base own3); have u1 : w4.cell? ⟨gF, k * 3 + 2, none⟩ = some (.slice aF nF cF) := HC4.out w4 (B4.block gF hgF1); have u2 : w4.frozen? ⟨gF, k * 3 + 2, none⟩ = false := HC5.out w4 (B4.block gF hgF1)) | (refine step_append_own _ (by rfl) _ _ 34 (by rfl) W1.heap.size 43 i0 zSt 14 216 Tryd.underlying34 HI.out.1 HI.out.2.1 HI.out.2.2.1 HI.out.2.2.2 rfl (by decide) _ _ _ (by rfl) own3 ⟨W1.heap.size, 0, none⟩ 1 1 x.cells (by rfl) (by rfl) (news_all X3c) HO2.out HM3.out HM4.out S3 ?_; intro v4 w4 own4 grow4; obtain ⟨av, cv, hv4⟩ := sown_form own4; subst hv4; have B4 := Below.grown B3 grow4 S3 (sown_base own3); have u1 : w4.cell? ⟨gF, k * 3 + 2, none⟩ = some (.slice aF nF cF) := HC4.out w4 (B4.block gF hgF1); have u2 : w4.frozen? ⟨gF, k * 3 + 2, none⟩ = false := HC5.out w4 (B4.block gF hgF1)))
          all_goals
            obtain ⟨hN5, hin5⟩ := NB.more HN1.out HX.out.1 HX.out.2.2.1 hkq HX.out.2.2.2.2.2.2.2.2.1 HBL.out (fun e => by have h1 := (HBL.out gF HX.out.2.2.2.2.2.1).2; have h2 := HGA.out; omega) (fun e => by have h1 := (HBL.out gF HX.out.2.2.2.2.2.1).2; have h2 := HGA.out; omega) HWF.out HX.out.2.2.2.2.2.1 hblen B4 (fun W h => by rw [HXX.out]; exact xN_in HNS.out (h.trans HN1.out.hA) j) own4
            have HR := Hid.mk2 (And.intro hN5 (And.intro hin5 ((Below.heap_setCell w4 ⟨gF, k * 3 + 2, none⟩ (.slice av (q.funcs[k].body.length + 1) cv) B10 HBF.out).trans (B4.block B10 hB10))))
            clear hN5 hin5 own3 own4 grow3 grow4 B3 B4 u1 u2 f0 f1 f2 f3 f4 f5 f6 f7 f8 f9 f10 f11 f12 f13 g0 g1 g2 g3 g4 g5 g6 g7 g8 g9 g10 g11 g12 g13 S3 SZ3 HF14 HC4 HC5
            go_wp2_with fail
            go_meet
            case rel => exact ⟨av, cv, HR.out.1, HR.out.2.1, HR.out.2.2⟩
        case rest =>
          obtain ⟨av, cv, hN5, hin5, hB5⟩ := hcut
          have HN5 := Hid.mk2 hN5
          have hval : (q.setF k (q.funcs[k].more av cv x)).val = .agg #[.slice q.wa q.widen.length q.wc, .slice q.fa q.funcs.length q.fc] := by
            unfold Pr.val Pr.setF
            simp
          have hck := ncheck_any _ _ hin5 (HT.out.stay hN5.below)
          have htc := fun w' hb => check_any _ w' (hin5.stay hb) (HT.out.stay (Below.on hN5.below hb))
          rw [hval] at hck htc
          unfold fltV at hck htc
          have HAX := Hid.mk2 (HXA.out av cv)
          generalize namZ (q.setF k (q.funcs[k].more av cv x)) = nz at *
          generalize checkZ (q.setF k (q.funcs[k].more av cv x)) = cz at *
          obtain ⟨m1, m2, m3⟩ := nz
          obtain ⟨c1, c2, c3⟩ := cz
          have HCK := Hid.mk2 hck
          have HTC := Hid.mk2 htc
          have HB5 := Hid.mk2 (hB5.trans H10.out)
          clear hck htc hin5 hval hB5
          have v0 : wc.cell? ⟨Y, 0, none⟩ = some (.slice q.wa q.widen.length q.wc) := by rw [Lib.cell_of_heap hN5.hY]; rfl
          have v1 : wc.cell? ⟨Y, 1, none⟩ = some (.slice q.fa q.funcs.length q.fc) := by rw [Lib.cell_of_heap hN5.hY]; rfl
          clear hN5
          go_upto_region 14 with (go_at_call 5; refine HCK.out.mono ?_; rintro e w6 ⟨rfl, hb6⟩)
          have B6 := Below.one hb6 (.cells #[.int .i64 m1, .int .i64 m2, .int .i64 m3] 29)
          have hfl := heap_alloc_new w6 (.cells #[.int .i64 m1, .int .i64 m2, .int .i64 m3] 29)
          have HT6 := Hid.mk2 (HTC.out _ B6)
          have hN6 := HN5.out.stay (fun b hb => by have h1 := (HX.out.2.2.2.1 b hb).2; have h2 := (Array.getElem?_eq_some_iff.1 HN5.out.hY).1; omega) B6
          have HB6 := Hid.mk2 (keep_h HB5.out B6)
          clear v0 v1 hb6 HCK HTC
          generalize w6.alloc (.cells #[.int .i64 m1, .int .i64 m2, .int .i64 m3] 29) = W6b at *
          generalize w6.heap.size = gG at *
          have v0 : W6b.cell? ⟨Y, 0, none⟩ = some (.slice q.wa q.widen.length q.wc) := by rw [Lib.cell_of_heap hN6.hY]; rfl
          have v1 : W6b.cell? ⟨Y, 1, none⟩ = some (.slice q.fa q.funcs.length q.fc) := by rw [Lib.cell_of_heap hN6.hY]; rfl
          have HN6 := Hid.mk2 hN6
          have HFL := Hid.mk2 hfl
          clear hN6 hfl B6
          rcases HAX.out with h3 | ⟨h0, hor⟩
          · subst h3
            clear HAX
            go_wp2_with (go_at_call 9; refine HT6.out.mono ?_; rintro e w7 ⟨rfl, hb7⟩)
            go_ret
            exact ⟨rfl, Below.on HN6.out.below hb7⟩
          · subst h0
            clear HAX
            go_upto_region 16 with (go_at_call 9; refine HT6.out.mono ?_; rintro e w7 ⟨rfl, hb7⟩)
            have HN7 := Hid.mk2 (HN6.out.stay (fun b hb => by have h1 := (HX.out.2.2.2.1 b hb).2; have h2 := (Array.getElem?_eq_some_iff.1 HN6.out.hY).1; omega) hb7)
            have HF7 := Hid.mk2 (keep_h HFL.out hb7)
            have HB7 := Hid.mk2 (keep_h HB6.out hb7)
            clear v0 v1 hb7
            have y0 : w7.cell? ⟨gG, 0, none⟩ = some (.int .i64 m1) := by rw [Lib.cell_of_heap HF7.out]; rfl
            have y1 : w7.cell? ⟨gG, 1, none⟩ = some (.int .i64 m2) := by rw [Lib.cell_of_heap HF7.out]; rfl
            have y2 : w7.cell? ⟨gG, 2, none⟩ = some (.int .i64 m3) := by rw [Lib.cell_of_heap HF7.out]; rfl
            have y3 : w7.cell? ⟨B10, 14, none⟩ = some (.int .i64 (eN j)) := by rw [Lib.cell_of_heap HB7.out]; rfl
            by_cases heq : (m1, m2, m3) = (eN j, (k : Int), (nuL q.funcs[k].body : Int) + 1)
            · simp only [Prod.mk.injEq] at heq
              obtain ⟨rfl, rfl, rfl⟩ := heq
              clear hor
              go_wp2_with fail
              go_roundw
              case rel => exact ⟨j + 1, by omega, by go_num, HN7.out⟩
              case measure => simp [intOf]; omega
            · have hkn : (knP q.funcs[k].params nob || knS q.funcs[k].body nob) = true := hor.resolve_left heq
              rw [kn_er HX.out.2.1 hkq HK.out] at hkn
              have hip := HIN.out.stay HN7.out.below
              obtain ⟨pb, po, hpf, b0, b1, b2⟩ := fn_cells hip HK.out
              have hcp := (nam_right (p := p) (by rw [HNZ.out])).1
              have hrp := (check_room hcp).2 p.funcs[k] (List.getElem_mem HK.out)
              have hqp := nuL_q p.funcs[k].body
              have hlp := len_nu p.funcs[k].body
              have hKN := known_any p.funcs[k] nob w7 (hip.2.2.2.2.2.2.2.2.2 _ (List.getElem_mem HK.out)) (by omega) (by omega)
              have hkl0 := HK.out
              have HKN : Hid (Calls Tryd.prog 10 #[.agg #[.string p.funcs[k].name, .slice p.funcs[k].pa p.funcs[k].params.length p.funcs[k].pc, .slice p.funcs[k].ba p.funcs[k].body.length p.funcs[k].bc], .string nob] w7 fun e w' => e = .returned (.bool true) ∧ Below w7.heap.size w7 w') := hKN.mono fun e w' h => ⟨h.1.trans (congrArg (fun b => Ending.returned (Value.bool b)) hkn), h.2⟩
              unfold nob at HKN
              have z1 : w7.cell? ⟨w.heap.size, 1, none⟩ = some (.slice (some ⟨pb, po, none⟩) p.funcs.length p.fc) := by rw [Lib.cell_of_heap HN7.out.hZ, hpf]; rfl
              have hkl : (k : Int) < (p.funcs.length : Int) := by have := HK.out; omega
              have hne : (m1 == eN j && (m2 == (k : Int) && m3 == (nuL q.funcs[k].body : Int) + 1)) = false := by
                simp only [Prod.mk.injEq] at heq
                simpa using heq
              have hqq : ∀ w, (Op.equalIn 10000 29 (.agg #[.int .i64 m1, .int .i64 m2, .int .i64 m3]) (.agg #[.int .i64 (eN j), .int .i64 (k : Int), .int .i64 ((nuL q.funcs[k].body : Int) + 1)])).run Tryd.prog w = .ok false w := fun w => by
                have := equalIn_flt m1 m2 m3 (eN j) (k : Int) ((nuL q.funcs[k].body : Int) + 1) w
                rw [hne] at this
                exact this
              have hnl : (p.funcs.length : Int) < 9223372036854775807 := by have := (check_room hcp).1; omega
              clear hor heq hkn hip hcp hrp hqp hlp hKN hpf hne hq
              go_wp2_with (go_at_call 10; refine HKN.out.mono ?_; rintro e w8b ⟨rfl, hb8b⟩)
              go_roundw
              case rel => exact ⟨j + 1, by omega, by go_num, HN7.out.stay (fun b hb => by have h1 := (HX.out.2.2.2.1 b hb).2; have h2 := (Array.getElem?_eq_some_iff.1 HN7.out.hY).1; omega) hb8b⟩
              case measure => simp [intOf]; omega
      · have hj4 : 4 = j := by omega
        subst hj4
        have hli : ¬ ((4 : Nat) : Int) < 4 := by omega
        by_cases hk0 : k = 0
        · have hk1 : ((k : Int) == 0) = true := by simp [hk0]
          clear hk0 hlt hj hN
          go_wp2_with fail
          go_ret
          exact ⟨rfl, HN.out.below⟩
        · have hk1 := beq_no (show (k : Int) ≠ 0 by omega)
          have hq0 : 0 < q.funcs.length := by omega
          have HCA : Hid (∀ (av : Option Addr) (cv : Nat), (checkZ (q.setF k (q.funcs[k].more av cv (xCall (q.funcs[0]'hq0).name)))).1 = 0 → namZ (q.setF k (q.funcs[k].more av cv (xCall (q.funcs[0]'hq0).name))) = (0, 0, 0) ∧ ∃ r, clN (q.setF k (q.funcs[k].more av cv (xCall (q.funcs[0]'hq0).name))) k = 0 :: r) := fun av cv h2 => last_call hkq (by omega) av cv HH0.out h2
          go_upto_region 21 with fail
          go_cut [] from 100 to 113 (fun wx => ∃ (av : Option Addr) (cv : Nat), NB w W6 q p q.funcs[k].name k gF Y (gA + 1) gA wx ∧ (q.setF k (q.funcs[k].more av cv (xCall (q.funcs[0]'hq0).name))).In wx)
          case first =>
            have hip := HIN.out.stay HN.out.below
            have hp0 : 0 < p.funcs.length := by have h := HK.out; omega
            obtain ⟨pb, po, hpf, b0, -, -⟩ := fn_cells hip hp0
            have hnm := name_er HX.out.2.1 hq0 hp0
            rw [← hnm] at b0
            have b0' : wr.cell? ⟨pb, po, none⟩ = some (.string (q.funcs[0]'hq0).name) := by simpa using b0
            have a1 : wr.cell? ⟨w.heap.size, 1, none⟩ = some (.slice (some ⟨pb, po, none⟩) p.funcs.length p.fc) := by rw [Lib.cell_of_heap HN.out.hZ, ← hpf]; rfl
            have hpl : (0 : Int) < (p.funcs.length : Int) := by omega
            have HPC : Hid (∀ W' : World, Below wr.heap.size wr W' → W'.cell? ⟨w.heap.size, 1, none⟩ = some (.slice (some ⟨pb, po, none⟩) p.funcs.length p.fc) ∧ W'.cell? ⟨pb, po, none⟩ = some (.string (q.funcs[0]'hq0).name)) := fun W' h => ⟨(h.cell (p := ⟨w.heap.size, 1, none⟩) (lt_of_cell a1)).trans a1, (h.cell (p := ⟨pb, po, none⟩) (lt_of_cell b0')).trans b0'⟩
            have HS0 : Hid ((q.funcs[0]'hq0).name.size ≤ 140737488351232) := (HX.out.1.2.2.2 _ (List.getElem_mem hq0)).in.1
            clear hip hpf b0 hnm
            obtain ⟨s0, hs0⟩ : ∃ s0, s0 = (q.funcs[0]'hq0).name := ⟨_, rfl⟩
            rw [← hs0] at b0' HPC HS0
            have hwl : w.heap.size < wr.heap.size := lt_of_cell a1
            have hpb : pb < wr.heap.size := lt_of_cell b0'
            obtain ⟨a1', b0''⟩ := HPC.out ((wr.alloc (.cells #[] 43)).drew) (Below.drew (Below.one (Below.refl _ wr) _))
            have HSE := Hid.mk2 hs0
            clear hs0 HCA
            obtain ⟨x, hx⟩ : ∃ x, x = xCall s0 := ⟨_, rfl⟩
            have HXX := Hid.mk2 hx
            have hxc : x.cells = [.int .i64 10, .string ⟨#[]⟩, .int .i64 0, .int .i64 4, .int .i64 0, .string s0, .slice none 0 0, .int .i64 0, .int .i64 0, .string ⟨#[]⟩, .slice none 0 0, .slice none 0 0, .slice none 0 0, .slice none 0 0] := by rw [hx]; rfl
            have HXC := Hid.mk2 hxc
            clear hx hxc
            have HCL := Hid.mk2 (lcall_any s0)
            unfold St.val lcS lcE zEx at HCL
            simp only [St.kind, St.name, St.n, St.a, St.b, St.ba, St.bc, St.body, St.ea, St.ec, St.els, St.ca, St.cc, St.cases, Ex.kind, Ex.n, Ex.name, Ex.a, Ex.cap, Ex.args, List.length_nil] at HCL
            obtain ⟨i0, hi, hz0, hz1, hz2⟩ := info_parts Tryd.infoStm
            have HI := Hid.mk2 (And.intro hi (And.intro hz0 (And.intro hz1 hz2)))
            clear hi hz0 hz1 hz2
            have OA : Hid ((wr.alloc (.cells #[] 43)).drew.ownsRow wr.heap.size 43 14 (.slice (some ⟨wr.heap.size, 0, none⟩) 0 0) 0 []) := ⟨rfl, .inr ⟨wr.heap.size, 0, #[], rfl, Nat.le_refl _, heap_alloc_new _ _, Nat.le_refl _, by unfold maxLen; omega, rfl, rfl⟩⟩
            have hBW : wr.heap[gB]? = some (.cells ⟨q.funcs[k].body.flatMap St.cells ++ senS⟩ 43 (0, 0)) := by
              obtain ⟨y1, y2, _⟩ := HGB.out
              exact (HN.out.hK gB y2.1 y2.2).trans y1
            have HL1 : Hid ((q.funcs[k].body.flatMap St.cells).length = q.funcs[k].body.length * 14) := flat_len (f := St.cells) (k := 14) (fun x => rfl) _
            have HO1 := Hid.mk2 (one_cells q.funcs[k].body)
            have HO2 := Hid.mk2 (one_st x)
            rw [HXC.out] at HO2
            have HM1 : Hid (0 + q.funcs[k].body.length ≤ maxLen) := by show _ ≤ _; unfold maxLen; omega
            have HM2 : Hid ((0 + q.funcs[k].body.length) * 216 ≤ 140737488355328) := by show _ ≤ _; omega
            have HM3 : Hid (0 + q.funcs[k].body.length + 1 ≤ maxLen) := by show _ ≤ _; unfold maxLen; omega
            have HM4 : Hid ((0 + q.funcs[k].body.length + 1) * 216 ≤ 140737488355328) := by show _ ≤ _; omega
            have NA : Hid (∀ j u, (q.funcs[k].body.flatMap St.cells)[j]? = some u → ((wr.alloc (.cells #[] 43)).drew).cell? ((⟨gB, 0, none⟩ : Addr).add j) = some u) := news_at (W := (wr.alloc (.cells #[] 43))) (keep_heap hBW _)
            have SA : Hid (wr.heap.size ≤ (wr.alloc (.cells #[] 43)).drew.heap.size) := by show _ ≤ (wr.alloc _).heap.size; simp
            obtain ⟨aF, cF, nF, hFF⟩ := HN.out.hF
            have HC4 : Hid (∀ W' : World, W'.heap[gF]? = wr.heap[gF]? → W'.cell? ⟨gF, k * 3 + 2, none⟩ = some (.slice aF nF cF)) := fun W' h => by
              rw [Lib.cell_of_heap (h.trans hFF)]
              show ((q.funcs.flatMap Fu.cells ++ senF).set (k * 3 + 2) (.slice aF nF cF)).toArray[k * 3 + 2]? = _
              have hl : (q.funcs.flatMap Fu.cells).length = q.funcs.length * 3 := flat_len (f := Fu.cells) (k := 3) (fun x => rfl) q.funcs
              rw [List.getElem?_toArray, List.getElem?_set_self (by rw [List.length_append]; omega)]
            have HC5 : Hid (∀ W' : World, W'.heap[gF]? = wr.heap[gF]? → W'.frozen? ⟨gF, k * 3 + 2, none⟩ = false) := fun W' h => Lib.frozen_of_heap (h.trans hFF) _
            have HFF := Hid.mk2 hFF
            clear hFF hBW
            have hgF1 : gF < wr.heap.size := (Array.getElem?_eq_some_iff.1 HFF.out).1
            go_region_law (first | (refine step_append_own _ (by rfl) _ _ 34 (by rfl) wr.heap.size 43 i0 zSt 14 216 Tryd.underlying34 HI.out.1 HI.out.2.1 HI.out.2.2.1 HI.out.2.2.2 rfl (by decide) _ _ _ (by rfl) OA.out ⟨gB, 0, none⟩ _ _ (q.funcs[k].body.flatMap St.cells) (by rfl) HL1.out NA.out HO1.out HM1.out HM2.out SA.out ?_; intro v3 w3 own3 grow3; have B3 := Below.grown (Below.drew (Below.one (Below.refl _ wr) _)) grow3 SA.out (sown_base OA.out); have S3 := Nat.le_trans SA.out grow3.size; obtain ⟨g0, g1⟩ := HPC.out w3 B3) | (refine step_append_own _ (by rfl) _ _ 34 (by rfl) wr.heap.size 43 i0 zSt 14 216 Tryd.underlying34 HI.out.1 HI.out.2.1 HI.out.2.2.1 HI.out.2.2.2 rfl (by decide) _ _ _ (by rfl) (own9.alloc _) ⟨w9.heap.size, 0, none⟩ 1 1 [.int .i64 10, .string ⟨#[]⟩, .int .i64 0, .int .i64 4, .int .i64 0, .string s0, .slice none 0 0, .int .i64 0, .int .i64 0, .string ⟨#[]⟩, .slice none 0 0, .slice none 0 0, .slice none 0 0, .slice none 0 0] (by rfl) (by rfl) (news_all (heap_alloc_new w9 _)) HO2.out HM3.out HM4.out (SZ9 _) ?_; intro v4 w4 own4 grow4; obtain ⟨av, cv, hv4⟩ := sown_form own4; subst hv4; have B4 := Below.grown (Below.one (Below.on B3 hb9) _) grow4 (SZ9 _) (sown_base own9); have u1 : w4.cell? ⟨gF, k * 3 + 2, none⟩ = some (.slice aF nF cF) := HC4.out w4 (B4.block gF hgF1); have u2 : w4.frozen? ⟨gF, k * 3 + 2, none⟩ = false := HC5.out w4 (B4.block gF hgF1)) | (go_simp; go_at_call 8; refine (HCL.out _).mono ?_; rintro e w9 ⟨rfl, hb9⟩; have own9 := own_stay own3 hb9; have S9 := Nat.le_trans S3 hb9.size; have SZ9 := fun (o : Obj) => size_more S9 o))
            all_goals
              obtain ⟨hN5, hin5⟩ := NB.more (x := x) HN.out HX.out.1 HX.out.2.2.1 hkq HX.out.2.2.2.2.2.2.2.2.1 HBL.out (fun e => by have h1 := (HBL.out gF HX.out.2.2.2.2.2.1).2; have h2 := HGA.out; omega) (fun e => by have h1 := (HBL.out gF HX.out.2.2.2.2.2.1).2; have h2 := HGA.out; omega) HWF.out HX.out.2.2.2.2.2.1 hblen B4 (fun W h => by rw [HXX.out]; exact xN_in HS0.out (h.trans HN.out.hA) 1) (by rw [HXC.out]; exact own4)
              have HR := Hid.mk2 (And.intro hN5 hin5)
              clear hN5 hin5 own3 own4 own9 grow3 grow4 B3 B4 u1 u2 g0 g1 S3 S9 SZ9 HC4 HC5 hb9
              go_wp2_with fail
              go_meet
              case rel => exact ⟨av, cv, HR.out.1, by have h := HR.out.2; rw [HXX.out, HSE.out] at h; exact h⟩
          case rest =>
            obtain ⟨av, cv, hN5, hin5⟩ := hcut
            have hval : (q.setF k (q.funcs[k].more av cv (xCall (q.funcs[0]'hq0).name))).val = .agg #[.slice q.wa q.widen.length q.wc, .slice q.fa q.funcs.length q.fc] := by
              unfold Pr.val Pr.setF
              simp
            have hcl := ncalls_any _ (k : Int) _ hin5 (HT.out.stay hN5.below)
            have htc := fun w' hb => check_any _ w' (hin5.stay hb) (HT.out.stay (Below.on hN5.below hb))
            have hck := fun w' hb => ncheck_any _ w' (hin5.stay hb) (HT.out.stay (Below.on hN5.below hb))
            rw [hval] at hcl htc hck
            unfold fltV at htc hck
            have HAC := Hid.mk2 (HCA.out av cv)
            generalize namZ (q.setF k (q.funcs[k].more av cv (xCall (q.funcs[0]'hq0).name))) = nz at *
            generalize checkZ (q.setF k (q.funcs[k].more av cv (xCall (q.funcs[0]'hq0).name))) = cz at *
            generalize clN (q.setF k (q.funcs[k].more av cv (xCall (q.funcs[0]'hq0).name))) (k : Int) = cl at *
            obtain ⟨m1, m2, m3⟩ := nz
            obtain ⟨c1, c2, c3⟩ := cz
            have HCL2 := Hid.mk2 hcl
            have HTC := Hid.mk2 htc
            have HCK := Hid.mk2 hck
            have HN5 := Hid.mk2 hN5
            have HBQ : Hid (∀ w', Below wc.heap.size wc w' → w'.cell? ⟨Y, 0, none⟩ = some (.slice q.wa q.widen.length q.wc) ∧ w'.cell? ⟨Y, 1, none⟩ = some (.slice q.fa q.funcs.length q.fc)) := fun w' hb => by
              have h1 := keep_h HN5.out.hY hb
              exact ⟨by rw [Lib.cell_of_heap h1]; rfl, by rw [Lib.cell_of_heap h1]; rfl⟩
            clear hcl htc hck hin5 hval hN5
            obtain ⟨v0, v1⟩ := HBQ.out _ (Below.refl _ _)
            go_upto_region 23 with (go_at_call 11; refine HCL2.out.mono ?_; rintro e w6 ⟨⟨vl, rfl, hown⟩, hb6⟩)
            have HOW := Hid.mk2 hown
            clear v0 v1 hown
            obtain ⟨v0, v1⟩ := HBQ.out _ hb6
            by_cases hc0 : c1 = 0
            · subst hc0
              obtain ⟨hm, r, hr⟩ := HAC.out rfl
              simp only [Prod.mk.injEq] at hm
              obtain ⟨rfl, rfl, rfl⟩ := hm
              subst hr
              obtain ⟨gl, capl, rfl, hl0⟩ := rown_cell HOW.out (j := 0) (u := .int .i64 0) (by simp) (by simp)
              have hlen : (0 : Int) < (((0 : Int) :: r).length : Int) := by simp
              generalize ((0 : Int) :: r).length = nl at *
              clear HAC HOW HCL2
              have hu : undef = Value.tuple #[] := rfl
              go_wp2_with (first | (go_at_call 9; refine (HTC.out _ hb6).mono ?_; rintro e w7 ⟨rfl, hb7⟩; obtain ⟨y0, y1⟩ := HBQ.out _ (Below.on hb6 hb7); have hl1 := (hb7.cell (p := ⟨gl, 0, none⟩) (lt_of_cell hl0)).trans hl0) | (go_at_call 5; refine (HCK.out _ (Below.on hb6 hb7)).mono ?_; rintro e w8 ⟨rfl, hb8⟩; have hl2 := (hb8.cell (p := ⟨gl, 0, none⟩) (lt_of_cell hl1)).trans hl1))
              go_ret
              exact ⟨rfl, Below.on HN5.out.below (Below.on (Below.on hb6 hb7) hb8)⟩
            · have hc1 := beq_no hc0
              have hc2 : (c1 != 0) = true := by simp [hc0]
              have hu : undef = Value.tuple #[] := rfl
              clear hc0 HAC HOW HCL2
              go_wp2_with (go_at_call 9; refine (HTC.out _ hb6).mono ?_; rintro e w7 ⟨rfl, hb7⟩)
              go_ret
              exact ⟨rfl, Below.on HN5.out.below (Below.on hb6 hb7)⟩
  · have hz1 := beq_no hz
    have hz2 : (n1 != 0) = true := by simp [hz]
    have hu : undef = Value.tuple #[] := rfl
    clear hz
    go_wp2_with (go_at_call 5; refine (HNC.out _ HB1.out).mono ?_; rintro e w2 ⟨rfl, hb2⟩)
    go_ret
    exact ⟨rfl, Below.on HB1.out hb2⟩
end Go.Proofs.YtakaldbhaoidiaaDoor
