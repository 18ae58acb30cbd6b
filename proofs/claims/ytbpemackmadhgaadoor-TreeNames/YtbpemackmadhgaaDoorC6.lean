/- checkStmts, walked. -/
import Derived.Test.YtbpemackmadhgaaDoorC5
namespace Go.Proofs.YtbpemackmadhgaaDoor
open Go.RowKit Go.Sort

theorem ret_two {a b c d : Int} (h : (a, b) = (c, d)) : Ending.returned (.tuple #[.int .i64 a, .int .i64 b]) = .returned (.tuple #[.int .i64 c, .int .i64 d]) := by cases h; rfl

set_option maxRecDepth 100000 in
set_option maxHeartbeats 8000000 in
theorem checkStmts_k (k : Nat) : ∀ (l : List St) (a : Option Addr) (c : Nat) (lv at_ : Int) (w : World), ssz l < k → Have w a c l → Tabs w → 0 ≤ lv → lv ≤ 40 → 0 ≤ at_ → at_ + ssz l ≤ 1000000000 →
    Calls Tryd.prog 46 #[.slice a l.length c, .int .i64 lv, .int .i64 at_] w fun e w' => e = .returned (.tuple #[.int .i64 (chkSs l lv at_).1, .int .i64 (chkSs l lv at_).2]) ∧ Below w.heap.size w w' := by
  induction k with
  | zero => intro l a c lv at_ w hk; omega
  | succ k ih =>
    intro l a c lv at_ w hk hin ht h0 h1 h2 h3
    obtain ⟨⟨hl, hc, _, hrow⟩, hsub⟩ := hin
    have IH : Hid (∀ (l : List St) (a : Option Addr) (c : Nat) (lv at_ : Int) (w : World), ssz l < k → Have w a c l → Tabs w → 0 ≤ lv → lv ≤ 40 → 0 ≤ at_ → at_ + ssz l ≤ 1000000000 →
      Calls Tryd.prog 46 #[.slice a l.length c, .int .i64 lv, .int .i64 at_] w fun e w' => e = .returned (.tuple #[.int .i64 (chkSs l lv at_).1, .int .i64 (chkSs l lv at_).2]) ∧ Below w.heap.size w w') := ih
    have HS : Hid (∀ x ∈ l, x.In w) := hsub
    have HR : Hid (RowIn w a 14 (List.map St.cells l)) := hrow
    have HT : Hid (Tabs w) := ht
    obtain ⟨R, hR⟩ : ∃ R, chkSs l lv at_ = R := ⟨_, rfl⟩
    rw [hR]
    clear ih hsub hrow ht
    go_enter Tryd.func46, Tryd.ntmps46
    go_wp2_with fail
    go_loopw [2, 16] (fun t2 t16 wr => ∃ (j : Nat) (m : Int), j ≤ l.length ∧ t2 = .int .i64 m ∧ t16 = .int .i64 j ∧ 0 ≤ m ∧ m + ssz (l.drop j) ≤ 1000000000 ∧ chkSs (l.drop j) lv m = R ∧ Below w.heap.size w wr) (fun _ t16 _ => l.length - (intOf t16).toNat)
    case atStart => exact ⟨0, at_, Nat.zero_le _, rfl, rfl, h2, h3, hR, Below.refl _ w⟩
    case round =>
      obtain ⟨j, m, hj, rfl, rfl, hm0, hm1, hcnt, hb⟩ := hrel
      have HC : Hid (chkSs (l.drop j) lv m = R) := hcnt
      clear hcnt hR
      have hws := hb.size
      by_cases hlt : j < l.length
      · obtain ⟨b, o, rfl, hcell⟩ := rowS_at (HR.out.below hb) hlt
        have c0 := hcell 0 _ rfl
        have c1 := hcell 1 _ rfl
        have c2 := hcell 2 _ rfl
        have c3 := hcell 3 _ rfl
        have c4 := hcell 4 _ rfl
        have c5 := hcell 5 _ rfl
        have c6 := hcell 6 _ rfl
        have c7 := hcell 7 _ rfl
        have c8 := hcell 8 _ rfl
        have c9 := hcell 9 _ rfl
        have c10 := hcell 10 _ rfl
        have c11 := hcell 11 _ rfl
        have c12 := hcell 12 _ rfl
        have c13 := hcell 13 _ rfl
        simp only [← Nat.add_assoc, Nat.add_zero] at c0 c1 c2 c3 c4 c5 c6 c7 c8 c9 c10 c11 c12 c13
        clear hcell
        have hli : (j : Int) < (l.length : Int) := by omega
        have hsy := ssz_mem (List.getElem_mem hlt)
        have hdr := ssz_drop hlt
        rw [hdr] at hm1
        have HY : Hid (l[j].In w) := HS.out l[j] (List.getElem_mem hlt)
        have HZ : Hid (l[j].sz ≤ k) := (by omega : l[j].sz ≤ k)
        have HD : Hid (chkSs (l.drop j) lv m = thenZ (chkT l[j] lv m) fun m => chkSs (l.drop (j + 1)) lv m) := chkSs_drop hlt
        clear hsy hdr
        generalize l[j] = s at *
        have HQ := chkT_eq s lv m
        have HBX0 : Hid (BoxS _ wr.heap.size s) := boxS_new wr s
        have hb1 := hb.alloc hws (.cells #[.int .i64 s.kind, .string s.name, .int .i64 s.n, .int .i64 s.a.kind, .int .i64 s.a.n, .string s.a.name, .slice s.a.a s.a.args.length s.a.cap, .int .i64 s.b.kind, .int .i64 s.b.n, .string s.b.name, .slice s.b.a s.b.args.length s.b.cap, .slice s.ba s.body.length s.bc, .slice s.ea s.els.length s.ec, .slice s.ca s.cases.length s.cc] 46)
        have hs1 := hb1.size
        have hsz := s.sz_eq
        go_wp2_with fail
        refine (checkStmt_any s lv _ (HY.out.stay hb1) (HT.out.stay hb1) h0 (by omega)).mono ?_
        rintro e w1 ⟨rfl, hbc⟩
        have BX : Hid (BoxS w1 wr.heap.size s) := HBX0.out.below hbc (by simp)
        have hb2 : Below w.heap.size w w1 := hb1.trans (hbc.mono hs1)
        have hs2 : w.heap.size ≤ w1.heap.size := hb2.size
        clear c0 c1 c2 c3 c4 c5 c6 c7 c8 c9 c10 c11 c12 c13 HBX0 hbc hb1 hs1
        have HQ' : Hid (chkT s lv m = if chkS s lv ≠ 0 then (chkS s lv, m + 1) else chkBd (bods s) (lv + 1) (m + 1)) := HQ
        have h32 : Hid (chkS s lv = 0 → lv ≤ 32) := by
          show _ → _; intro h; unfold chkS at h; by_cases h' : 32 < lv
          · rw [if_pos h'] at h; omega
          · omega
        clear HQ
        generalize chkS s lv = v at HQ' h32 ⊢
        cases ev : (v != 0)
        · have ev' : v = 0 := by simpa using ev
          have hlv := h32.out ev'
          have d0 := BX.out 0 _ rfl
          have d1 := BX.out 1 _ rfl
          have d2 := BX.out 2 _ rfl
          have d3 := BX.out 3 _ rfl
          have d4 := BX.out 4 _ rfl
          have d5 := BX.out 5 _ rfl
          have d6 := BX.out 6 _ rfl
          have d7 := BX.out 7 _ rfl
          have d8 := BX.out 8 _ rfl
          have d9 := BX.out 9 _ rfl
          have d10 := BX.out 10 _ rfl
          have d11 := BX.out 11 _ rfl
          have d12 := BX.out 12 _ rfl
          have d13 := BX.out 13 _ rfl
          clear ev
          subst ev'
          have HQ2 : Hid (chkT s lv m = chkBd (bods s) (lv + 1) (m + 1)) := (by rw [HQ'.out]; simp : chkT s lv m = chkBd (bods s) (lv + 1) (m + 1))
          clear HQ' h32
          go_wp2_with fail
          refine (bodies_any s _ (HY.out.stay hb2)).mono ?_
          rintro e w2 ⟨g, cap, rfl, hcl, hbb⟩
          have HCL : Hid (∀ i b, (bods s)[i]? = some b → w2.cell? ⟨g, i, none⟩ = some b.v) := hcl
          have hb3 : Below w.heap.size w w2 := hb2.trans (hbb.mono hs2)
          have HY2 : Hid (s.In w2) := HY.out.stay hb3
          have hbl := bods_len s
          have hcb : s.cases.length * 32 ≤ 140737488351232 := by
            obtain ⟨_, _, _, _, _, _, _, h8, _⟩ := St.in_iff.1 HY.out
            have := h8.1; have := h8.2.1; omega
          have hbz := bsz_bods s
          clear hcl d0 d1 d2 d3 d4 d5 d6 d7 d8 d9 d10 d11 d12 d13 hbb BX hsz
          go_wp2_with fail
          go_loopw [2, 32] (fun t2 t32 wq => ∃ (i : Nat) (q : Int), i ≤ (bods s).length ∧ t2 = .int .i64 q ∧ t32 = .int .i64 i ∧ 0 ≤ q ∧ q + bsz ((bods s).drop i) ≤ m + s.sz ∧ (thenZ (chkBd ((bods s).drop i) (lv + 1) q) fun m => chkSs (l.drop (j + 1)) lv m) = R ∧ Below w2.heap.size w2 wq) (fun _ t32 _ => (bods s).length - (intOf t32).toNat)
          case atStart =>
            refine ⟨0, m + 1, Nat.zero_le _, rfl, rfl, by omega, ?_, ?_, Below.refl _ _⟩
            · rw [List.drop_zero]; omega
            · rw [List.drop_zero, ← HC.out, HD.out, HQ2.out]
          case round =>
            obtain ⟨i, q, hi, rfl, rfl, hq0, hq1, hcq, hbq⟩ := hrel
            have HC2 : Hid ((thenZ (chkBd ((bods s).drop i) (lv + 1) q) fun m => chkSs (l.drop (j + 1)) lv m) = R) := hcq
            clear hcq
            have hwq := hbq.size
            by_cases hlt2 : i < (bods s).length
            · have hmem := List.getElem_mem hlt2
              have hcl := HCL.out i (bods s)[i] (List.getElem?_eq_getElem hlt2)
              have hcl' := (hbq.cell (p := ⟨g, i, none⟩) (lt_of_cell hcl)).trans hcl
              have hdr := bsz_drop hlt2
              rw [hdr] at hq1
              have HH : Hid (Have wr (bods s)[i].a (bods s)[i].c (bods s)[i].l) := (bods_have HY2.out hmem).stay hbq
              have HZ2 : Hid (ssz (bods s)[i].l < k) := (by have := bods_sz hmem; have := HZ.out; omega : ssz (bods s)[i].l < k)
              have HD2 : Hid (chkBd ((bods s).drop i) (lv + 1) q = thenZ (chkSs (bods s)[i].l (lv + 1) q) fun m => chkBd ((bods s).drop (i + 1)) (lv + 1) m) := chkBd_drop hlt2
              have hat := chkSs_at (bods s)[i].l (lv + 1) q
              have hli2 : (i : Int) < (s.cases.length : Int) + 2 := by omega
              unfold Bd.v at hcl'
              clear hcl hmem hdr
              generalize (bods s)[i] = bd at *
              go_wp2_with fail
              refine (IH.out bd.l bd.a bd.c (lv + 1) q _ HZ2.out HH.out (HT.out.stay (hb3.trans (hbq.mono hb3.size))) (by omega) (by omega) hq0 (by omega)).mono ?_
              rintro e w4 ⟨rfl, hb4⟩
              have hb5 : Below w2.heap.size w2 w4 := hbq.trans (hb4.mono hwq)
              generalize chkSs bd.l (lv + 1) q = pr at HD2 hat ⊢
              obtain ⟨p1, p2⟩ := pr
              simp only at HD2 hat ⊢
              cases ep : (p1 != 0)
              · have ep' : p1 = 0 := by simpa using ep
                subst ep'
                go_wp2_with fail
                go_roundw
                case rel => exact ⟨i + 1, p2, by omega, rfl, by go_num, by omega, by omega, by rw [← HC2.out, HD2.out, thenZ_assoc]; simp [thenZ], hb5⟩
                case measure => simp [intOf]; omega
              · go_wp2_with fail
                go_ret2
                refine ⟨ret_two ?_, hb3.trans (hb5.mono hb3.size)⟩
                have ep' : p1 ≠ 0 := by simpa using ep
                rw [← HC2.out, HD2.out, thenZ_assoc]; simp [thenZ, ep']
            · obtain rfl : i = (bods s).length := by omega
              have HC3 : Hid (chkSs (l.drop (j + 1)) lv q = R) := by
                show _ = _; rw [← HC2.out, List.drop_length, chkBd]; simp [thenZ]
              have hz0 : bsz ((bods s).drop (bods s).length) = 0 := by rw [List.drop_length]; rfl
              rw [hz0] at hq1
              clear hz0 HC2
              go_wp2_with fail
              go_roundw
              case rel => exact ⟨j + 1, q, by omega, rfl, by go_num, hq0, by omega, HC3.out, hb3.trans (hbq.mono hb3.size)⟩
              case measure => simp [intOf]; omega
        · go_wp2_with fail
          go_ret2
          refine ⟨ret_two ?_, hb2⟩
          have ev' : v ≠ 0 := by simpa using ev
          rw [← HC.out, HD.out, HQ'.out]; simp [thenZ, ev']
      · go_wp2_with fail
        go_ret2
        refine ⟨ret_two ?_, hb⟩
        rw [← HC.out, List.drop_eq_nil_of_le (by omega), chkSs]
theorem checkStmts_any (l : List St) (a : Option Addr) (c : Nat) (lv at_ : Int) (w : World) (hin : Have w a c l) (ht : Tabs w) (h0 : 0 ≤ lv) (h1 : lv ≤ 40) (h2 : 0 ≤ at_) (h3 : at_ + ssz l ≤ 1000000000) :
    Calls Tryd.prog 46 #[.slice a l.length c, .int .i64 lv, .int .i64 at_] w fun e w' => e = .returned (.tuple #[.int .i64 (chkSs l lv at_).1, .int .i64 (chkSs l lv at_).2]) ∧ Below w.heap.size w w' :=
  checkStmts_k _ l a c lv at_ w (Nat.lt_succ_self _) hin ht h0 h1 h2 h3
end Go.Proofs.YtbpemackmadhgaaDoor
