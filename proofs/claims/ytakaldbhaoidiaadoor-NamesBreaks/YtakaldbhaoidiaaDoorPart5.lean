/- names.look: what is wrong first, or whom each function calls. -/
import Derived.Test.YtakaldbhaoidiaaDoorPart4
import Derived.Shelf.Sort.Plain
import Derived.Ground.Names2Prog
import Derived.Shelf.Slices.CompactI
import Derived.Shelf.Slices.In.SortNone
import Derived.Test.YtakaldbhaoidiaaDoorProg
import Derived.Sort.OwnSortedInts
import Derived.Lib.OwnBridge
import Derived.Test.YtakaldbhaoidiaaDoorPart2
import Derived.Test.YtakaldbhaoidiaaDoorPart1
import Derived.Deep.DeepAppendRoom
import Derived.Deep.AppendLies
import Derived.Lib.QuietBelow
import Derived.Deep.RegionHeld3
import Derived.Deep.DrawnRows
import Derived.Deep.CutRange
namespace Go.Proofs.YtakaldbhaoidiaaDoor
open Go.RowKit Go.Sort

/-- What names.look answers. -/
def LkP (p : Pr) (w : World) (e : Ending) (w' : World) : Prop := Below w.heap.size w w' ∧
  ((namZ p).1 ≠ 0 → e = .returned (.tuple #[.slice none 0 0, fltV (namZ p).1 (namZ p).2.1 (namZ p).2.2])) ∧
  ((namZ p).1 = 0 → namZ p = (0, 0, 0) ∧ ∃ fm cb vs, e = .returned (.tuple #[.slice (some ⟨cb, 0, none⟩) p.funcs.length p.funcs.length, fltV 0 0 0]) ∧ w.heap.size ≤ cb ∧ cb ≠ fm ∧ RowsAt w.heap.size w' fm cb p.funcs p.funcs.length vs)

theorem Tryd.infoRow : (Tryd.prog.info? 48).map (fun i => (i.zero, i.size, i.bytes)) = some (some (.slice none 0 0), 1, 24) := by kernel_rfl
theorem make_rows (W : World) (n : Nat) (h : n ≤ 1000) : (Instr.makeSlice 51 (.int .i64 n) (.int .i64 n)).run Tryd.prog W = .ok (.slice (some ⟨W.heap.size, 0, none⟩) n n) (W.alloc (.cells (Array.replicate n (.slice none 0 0)) 48)) := by
  have hi := Tryd.infoRow
  cases hq : Tryd.prog.info? 48 with
  | none => rw [hq] at hi; cases hi
  | some i =>
    rw [hq] at hi
    simp only [Option.map_some, Option.some.injEq, Prod.mk.injEq] at hi
    obtain ⟨e1, e2, e3⟩ := hi
    have hr := run_makeSlice (P := Tryd.prog) W 51 48 i _ Tryd.underlying51 hq e1 .i64 .i64 n n (by omega) (Int.le_refl _) (by rw [e2]; simp; omega) (by rw [e3]; omega) (by omega)
    rw [hr, e2]
    simp only [Int.toNat_natCast, Nat.mul_one]
    have : madeCells (Value.slice none 0 0).cells n = (Array.replicate n (Value.slice none 0 0)) := by
      apply Array.ext
      · simp [madeCells]
      · intro j h1 h2
        simp [madeCells, Value.cells, Nat.mod_one]
    rw [this]
/-- The world ahead of the first function. -/
theorem look_start (w1 : World) (N : Nat) (fs : List Fu) (o : Obj) :
    Tab (((w1.alloc o).alloc (.map #[] 0)).alloc (.cells (Array.replicate fs.length (.slice none 0 0)) 48)) (w1.heap.size + 1) [] ∧ RowsAt N (((w1.alloc o).alloc (.map #[] 0)).alloc (.cells (Array.replicate fs.length (.slice none 0 0)) 48)) (w1.heap.size + 1) (w1.heap.size + 1 + 1) fs 0 (List.replicate fs.length (.slice none 0 0)) ∧
      Below w1.heap.size w1 (((w1.alloc o).alloc (.map #[] 0)).alloc (.cells (Array.replicate fs.length (.slice none 0 0)) 48)) ∧ (((w1.alloc o).alloc (.map #[] 0)).alloc (.cells (Array.replicate fs.length (.slice none 0 0)) 48)).heap.size = w1.heap.size + 3 := by
  refine ⟨?_, ⟨?_, by simp, fun j hj _ => by simp [hj], fun j f _ hj => by omega⟩, ?_, by simp⟩
  · have := tab_made (w1.alloc o)
    rw [World.size_alloc] at this
    exact this.stay ((Below.refl _ _).alloc (Nat.le_refl _) _)
  · have := heap_alloc_new ((w1.alloc o).alloc (.map #[] 0)) (.cells (Array.replicate fs.length (.slice none 0 0)) 48)
    rw [World.size_alloc, World.size_alloc] at this
    rw [this]; simp
  · exact (((Below.refl _ w1).alloc (Nat.le_refl _) _).alloc (by simp) _).alloc (by simp; omega) _

set_option maxRecDepth 100000 in
set_option maxHeartbeats 4000000 in
theorem look_any (p : Pr) (w : World) (hin : p.In w) (ht : Tabs w) : Calls Tryd.prog 12 #[p.val] w (LkP p w) := by
  have HC : Hid (∀ w', Below w.heap.size w w' → Calls Tryd.prog 9 #[p.val] w' fun e w'' => e = .returned (fltV (checkZ p).1 (checkZ p).2.1 (checkZ p).2.2) ∧ Below w'.heap.size w' w'') := fun w' hb => check_any p w' (hin.stay hb) (ht.stay hb)
  have HE : Hid (namZ p = if (checkZ p).1 ≠ 0 then checkZ p else lkZ p.funcs p.funcs 0) := (rfl : namZ p = _)
  have HZ : Hid ((checkZ p).1 = 0 → p.funcs.length ≤ 32 ∧ ∀ f ∈ p.funcs, qSs f.body ≤ 12288 ∧ f.params.length ≤ 8) := fun h => check_room h
  obtain ⟨_, _, _, _, _, hl, hc, _, hrow, hsub⟩ := hin
  have HR : Hid (RowIn w p.fa 3 (List.map Fu.cells p.funcs)) := hrow
  have HS : Hid (∀ f ∈ p.funcs, f.In w) := hsub
  clear ht hrow hsub
  have HK : Hid (∀ e w', (Below w.heap.size w w' ∧ ((namZ p).1 ≠ 0 → e = .returned (.tuple #[.slice none 0 0, fltV (namZ p).1 (namZ p).2.1 (namZ p).2.2])) ∧
    ((namZ p).1 = 0 → namZ p = (0, 0, 0) ∧ ∃ fm cb vs, e = .returned (.tuple #[.slice (some ⟨cb, 0, none⟩) p.funcs.length p.funcs.length, fltV 0 0 0]) ∧ w.heap.size ≤ cb ∧ cb ≠ fm ∧ RowsAt w.heap.size w' fm cb p.funcs p.funcs.length vs)) → LkP p w e w') := fun e w' h => h
  generalize LkP p w = Q at HK ⊢
  generalize namZ p = res at HE HK
  generalize checkZ p = cz at HC HE HZ
  obtain ⟨c1, c2, c3⟩ := cz
  simp only at HC HE HZ
  have hb1 := ((Below.refl _ w).alloc (Nat.le_refl _) (.cells #[.slice p.wa p.widen.length p.wc, .slice p.fa p.funcs.length p.fc] 25)).alloc (by simp) (.cells #[.int .i64 0, .int .i64 0, .int .i64 0] 29)
  unfold Pr.val at HC ⊢
  go_enter Tryd.func12, Tryd.ntmps12
  go_wp2_with fail
  refine (HC.out _ hb1).mono ?_
  rintro e w1 ⟨rfl, hbw⟩
  obtain ⟨hX, hRs, hF⟩ := two_cells hbw
  have r0 := hRs 0 _ rfl
  have r1 := hRs 1 _ rfl
  have r2 := hRs 2 _ rfl
  have q0 := hF 0
  have q1 := hF 1
  have q2 := hF 2
  have c1' := hX 1 _ rfl
  have hb2 : Below w.heap.size w w1 := hb1.trans (hbw.mono (by simp; omega))
  have hs2 : w.heap.size + 1 + 1 ≤ w1.heap.size := by have := hbw.size; simp at this; omega
  clear hX hRs hF hbw hb1 HC
  cases e1 : (c1 != 0)
  · have e1' : c1 = 0 := by simpa using e1
    have HF : Hid (res = lkZ p.funcs p.funcs 0) := (by rw [HE.out, if_neg (by simp [e1'])] : res = _)
    obtain ⟨hn32, hrm⟩ := HZ.out e1'
    have HRM := Hid.mk' hrm
    clear HZ HE e1' hrm
    have hmm := @run_makeMap Tryd.prog
    have hms := fun W => make_rows W p.funcs.length (by omega)
    have c2' : ∀ A B, ((w1.alloc A).alloc B).cell? ⟨w.heap.size, 1, none⟩ = some (.slice p.fa p.funcs.length p.fc) := fun A B => by
      rw [World.cell?_alloc_past _ _ _ (by simp; omega), World.cell?_alloc_past _ _ _ (by show w.heap.size < w1.heap.size; omega)]; exact c1'
    have c3' : ∀ A B C, (((w1.alloc A).alloc B).alloc C).cell? ⟨w.heap.size, 1, none⟩ = some (.slice p.fa p.funcs.length p.fc) := fun A B C => by
      rw [World.cell?_alloc_past _ _ _ (by simp; omega)]; exact c2' A B
    obtain ⟨HT0, HR0, HB0, HS0⟩ := look_start w1 (w.heap.size + 1 + 1) p.funcs (.cells #[.int .i64 c1, .int .i64 c2, .int .i64 c3] 29)
    have HT0 := Hid.mk' HT0
    have HR0 := Hid.mk' HR0
    have HB0 := Hid.mk' HB0
    have HS0 := Hid.mk' HS0
    go_upto_region 7 with fail
    clear c2' c3' hms hmm c1'
    have hlt1 : w.heap.size + 1 < w1.heap.size := by omega
    have HRES : Hid (∀ W', Fr [w1.heap.size + 1, w1.heap.size + 1 + 1] (((w1.alloc (.cells #[.int .i64 c1, .int .i64 c2, .int .i64 c3] 29)).alloc (.map #[] 0)).alloc (.cells (Array.replicate p.funcs.length (.slice none 0 0)) 48)) W' →
        Below w.heap.size w W' ∧ W'.cell? ⟨w.heap.size + 1, 0, none⟩ = some (.int .i64 0) ∧ W'.cell? ⟨w.heap.size + 1, 1, none⟩ = some (.int .i64 0) ∧ W'.cell? ⟨w.heap.size + 1, 2, none⟩ = some (.int .i64 0) ∧ W'.frozen? ⟨w.heap.size + 1, 0, none⟩ = false ∧ W'.frozen? ⟨w.heap.size + 1, 1, none⟩ = false ∧ W'.frozen? ⟨w.heap.size + 1, 2, none⟩ = false) := fun W' hf => by
      have hx : w.heap.size + 1 ∉ [w1.heap.size + 1, w1.heap.size + 1 + 1] := by simp; omega
      have hb3 : Below w1.heap.size w1 W' := HB0.out.trans (hf.below (fun k hk => by simp at hk; omega) HB0.out.size)
      exact ⟨hb2.trans (hb3.mono hb2.size), (hb3.cell hlt1).trans r0, (hb3.cell hlt1).trans r1, (hb3.cell hlt1).trans r2, (hb3.frozen hlt1).trans q0, (hb3.frozen hlt1).trans q1, (hb3.frozen hlt1).trans q2⟩
    have HSZ5 : Hid (w.heap.size + 1 + 1 ≤ w1.heap.size + 3) := by show _ ≤ _; omega
    rw [← HS0.out] at HSZ5
    clear r0 r1 r2 q0 q1 q2 hb2
    generalize ((w1.alloc (.cells #[.int .i64 c1, .int .i64 c2, .int .i64 c3] 29)).alloc (.map #[] 0)).alloc (.cells (Array.replicate p.funcs.length (.slice none 0 0)) 48) = W5 at *
    have HN : Hid (w1.heap.size + 1 + 1 ≠ w1.heap.size + 1 ∧ w.heap.size ≤ w1.heap.size + 1 ∧ w.heap.size ≤ w1.heap.size + 1 + 1 ∧ w.heap.size + 1 ≠ w1.heap.size + 1 ∧ w.heap.size + 1 ≠ w1.heap.size + 1 + 1) := ⟨by omega, by omega, by omega, by omega, by omega⟩
    generalize w1.heap.size + 1 + 1 = cb at *
    generalize w1.heap.size + 1 = fm at *
    clear HB0 HS0 hlt1 hs2
    go_wp2_with fail
    go_loopw [25] (fun t25 wr => ∃ (j : Nat) (vs : List Value), j ≤ p.funcs.length ∧ t25 = .int .i64 j ∧ lkZ p.funcs (p.funcs.drop j) j = res ∧ Fr [fm, cb] W5 wr ∧ Tab wr fm (ftK p.funcs j) ∧ RowsAt (w.heap.size + 1 + 1) wr fm cb p.funcs j vs) (fun t25 _ => p.funcs.length - (intOf t25).toNat)
    case atStart => exact ⟨0, _, Nat.zero_le _, rfl, by rw [HF.out]; rfl, Fr.refl _ _, HT0.out, HR0.out⟩
    case round =>
      obtain ⟨j, vs, hj, rfl, h1, h2, h3, h4⟩ := hrel
      have HX := Hid.mk' (And.intro h1 (And.intro h2 (And.intro h3 h4)))
      clear h1 h2 h3 h4
      by_cases hlt : j < p.funcs.length
      · have hb3 := (HRES.out _ HX.out.2.1).1
        have HSW : Hid (w.heap.size + 1 + 1 ≤ wr.heap.size) := Nat.le_trans HSZ5.out HX.out.2.1.size
        have hrw := HR.out.below hb3
        obtain ⟨b, o, hfa, c0, c1, c2⟩ := rowF_at hrw hlt
        rw [hfa]
        clear hrw hfa
        have hli : (j : Int) < (p.funcs.length : Int) := by omega
        have HY : Hid (p.funcs[j].In w) := HS.out p.funcs[j] (List.getElem_mem hlt)
        have HSZ := Hid.mk' (HRM.out p.funcs[j] (List.getElem_mem hlt))
        have HD : Hid (lkZ p.funcs (p.funcs.drop j) j = if (fnK p.funcs j p.funcs[j]).e ≠ 0 then ((fnK p.funcs j p.funcs[j]).e, (j : Int), (fnK p.funcs j p.funcs[j]).m) else lkZ p.funcs (p.funcs.drop (j + 1)) (j + 1)) := lkZ_drop hlt
        have HFT : Hid (ftK p.funcs (j + 1) = (p.funcs[j].name.data.toList, (j : Int)) :: ftK p.funcs j) := ftK_succ hlt
        have HPUT : Hid (∀ W v, RowsAt (w.heap.size + 1 + 1) W fm cb p.funcs j vs → W.ownsRow (w.heap.size + 1 + 1) 3 1 v (fnK p.funcs j p.funcs[j]).c.length ((fnK p.funcs j p.funcs[j]).c.map (Value.int .i64)) → fm ∉ ob v → cb ∉ ob v → RowsAt (w.heap.size + 1 + 1) (W.setCell ⟨cb, j, none⟩ v) fm cb p.funcs (j + 1) (vs.set j v)) := fun W v h1 h2 h3 h4 => h1.put hlt h2 h3 h4
        have HNIL : Hid (vs[j]? = some (.slice none 0 0)) := HX.out.2.2.2.2.2.1 j hlt (Nat.le_refl _)
        have HFK : Hid (fnK p.funcs j p.funcs[j] = fnS (ftK p.funcs j) p.funcs[j]) := rfl
        generalize p.funcs[j] = f at *
        generalize fnK p.funcs j f = R at *
        have hb4 := (hb3.alloc hb3.size (.cells #[.string f.name, .slice f.pa f.params.length f.pc, .slice f.ba f.body.length f.bc] 36))
        have hb4' := (Below.refl _ wr).alloc (Nat.le_refl _) (.cells #[.string f.name, .slice f.pa f.params.length f.pc, .slice f.ba f.body.length f.bc] 36)
        have HWS := Hid.mk' (ws_begin (N := w.heap.size) (HX.out.2.2.1.stay hb4') HN.out.2.1)
        have hb5 := hb4.alloc hb4.size (.cells #[.pointer none, .map (some fm), .int .i64 0, .slice none 0 0] 67)
        have HFN := Hid.mk' (nfn_any w _ fm (ftK p.funcs j) f _ HY.out hb5 HWS.out HSZ.out.1 HSZ.out.2)
        have HB5 := Hid.mk' hb5
        clear hb4 hb4' hb5 hb3
        rw [← HFK.out] at HFN
        unfold Fu.val at HFN
        simp only [World.size_alloc] at HFN
        go_wp2_with fail
        refine HFN.out.mono ?_
        rintro e w2 ⟨rfl, a', bs', v', cs', k1, k2, k3, k4⟩
        obtain ⟨va, vc, rfl⟩ := own_form k1.2.2.2.1
        clear HFN
        have HKEEP : Hid (∀ g, g < wr.heap.size → w2.heap[g]? = wr.heap[g]?) := fun g hg => (k3.2.2.2.2 g (by rw [World.size_alloc, World.size_alloc]; omega) (by simp only [List.mem_singleton]; omega)).trans (((Lib.alloc_old _ _ g (by rw [World.size_alloc]; omega)).trans (Lib.alloc_old _ _ g hg)))
        have HF2 : Hid (Fr [fm, cb] W5 w2) := HX.out.2.1.trans ⟨k3.1, k3.2.1, k3.2.2.1, by have h := k3.size; rw [World.size_alloc, World.size_alloc] at h; omega, fun g hg _ => HKEEP.out g hg⟩
        have HK1 := Hid.mk' k1
        have HK2 := Hid.mk' k2
        have HK4 : Hid (∀ g ∈ ob (.slice va cs'.length vc), wr.heap.size ≤ g) := fun g hg => by have h := k4 g hg; omega
        have t2 := k1.cellM
        have t3 := k1.cellV
        have hs2 : wr.heap.size + 1 + 1 ≤ w2.heap.size := by have := k3.size; simpa using this
        have f0 : w2.cell? ⟨wr.heap.size, 0, none⟩ = some (.string f.name) := by
          rw [k3.cell (by rw [World.size_alloc, World.size_alloc]; omega) (by simp only [List.mem_singleton]; omega), World.cell?_alloc_past _ _ _ (by simp), World.cell?_alloc_at _ _ _ _ rfl]; rfl
        clear k1 k2 k3 k4
        cases er : (R.e != 0)
        · have er' : R.e = 0 := by simpa using er
          have HV : Hid (lkZ p.funcs (p.funcs.drop (j + 1)) (j + 1) = res) := by show _ = _; rw [← HX.out.1, HD.out, if_neg (by simpa using er')]
          have HC2 := Hid.mk' (HK2.out er')
          clear er'
          obtain ⟨w3, hput, ht3, ho3⟩ := HK1.out.2.2.1.put f.name (by have := HY.out.1; unfold maxLen; omega) j ⟨by omega, by omega⟩ (by have := ftK_length p.funcs j; omega)
          have hbf : wr.heap.size + 1 ≠ fm := by have h := HK1.out.2.2.2.2.1; simp only [List.nodup_cons, List.mem_cons, not_or] at h; exact h.1.1
          have t3' : w3.cell? ⟨wr.heap.size + 1, 3, none⟩ = some (.slice va cs'.length vc) := (ho3.cell (by omega) hbf).trans t3
          have HR3 : Hid (RowsAt (w.heap.size + 1 + 1) w3 fm cb p.funcs j vs) := HX.out.2.2.2.on HN.out.1 (fun g hg hne => (ho3.2.2.2.2 g (by omega) hne).trans (HKEEP.out g hg))
          have u0 := HR3.out.cell HNIL.out
          have u1 := HR3.out.frozen j
          have HO3 := Hid.mk' ho3
          have HT3 := Hid.mk' ht3
          clear ho3 ht3
          go_wp2_with fail
          go_roundw
          case rel =>
            have hv : fm ∉ ob (.slice va cs'.length vc) := fun hg => HK1.out.2.2.2.2.2.1 fm hg (by simp)
            have hcb : cb ∉ ob (.slice va cs'.length vc) := fun hg => by have h1 := HK4.out cb hg; have h2 := HX.out.2.2.2.lt; omega
            have how := HK1.out.2.2.2.1
            rw [HC2.out] at how
            have how3 := own_keep how (fun g hg => HO3.out.2.2.2.2 g (own_lt how g hg).2 (fun e => hv (by rw [HC2.out, ← e]; exact hg)))
            rw [← HC2.out] at how3
            refine ⟨j + 1, vs.set j (.slice va cs'.length vc), by omega, by go_num, HV.out, ?_, ?_, HPUT.out _ _ HR3.out (by rw [← HC2.out]; exact own_base how3 (fun g hg => Nat.le_trans HSW.out (HK4.out g hg))) hv hcb⟩
            · exact (HF2.out.trans ((Fr.of_only HO3.out).mono (by simp))).set (by simp) _ _
            · rw [HFT.out]
              exact HT3.out.only ((OnlyB.refl cb w3).set _ _) (fun e => HN.out.1 e.symm)
          case measure => simp [intOf]; omega
        · have er' : R.e ≠ 0 := by simpa using er
          have HG : Hid (res = (R.e, (j : Int), R.m)) := by show _ = _; rw [← HX.out.1, HD.out, if_pos er']
          obtain ⟨hb7, r0, r1, r2, q0, q1, q2⟩ := HRES.out _ HF2.out
          have r0' : w2.drew.cell? _ = _ := r0
          have r1' : w2.drew.cell? _ = _ := r1
          have r2' : w2.drew.cell? _ = _ := r2
          have q0' : w2.drew.frozen? _ = _ := q0
          have q1' : w2.drew.frozen? _ = _ := q1
          have q2' : w2.drew.frozen? _ = _ := q2
          have t2' : w2.drew.cell? _ = _ := t2
          have HB7 := Hid.mk' hb7
          clear t3 f0 hb7
          go_upto_region 12 with fail
          go_region
          go_wp2_with fail
          refine bodyPost_ret (v := .tuple #[.slice none 0 0, fltV R.e j R.m]) (by simp [results, Tryd.results12, go_sem, r0, r1, r2]) rfl (HK.out _ _ ⟨Below.drew (below_set3 HB7.out (by omega) _ _ _), ?_, ?_⟩)
          · intro _; rw [HG.out]
          · intro h; rw [HG.out] at h; exact absurd h er'
      · have hli : ¬ (j : Int) < (p.funcs.length : Int) := by omega
        have hjn : j = p.funcs.length := by omega
        have HG : Hid (res = (0, 0, 0)) := by show _ = _; rw [← HX.out.1, List.drop_eq_nil_of_le (by omega), lkZ]
        have HROW : Hid (RowsAt (w.heap.size + 1 + 1) wr fm cb p.funcs p.funcs.length vs) := by have h := HX.out.2.2.2; rw [hjn] at h; exact h
        obtain ⟨hb7, r0, r1, r2, q0, q1, q2⟩ := HRES.out _ HX.out.2.1
        have HB7 := Hid.mk' hb7
        have HX2 := Hid.mk' HX.out.2.1
        clear hb7 HX hjn
        go_wp2_with fail
        refine bodyPost_ret (v := .tuple #[.slice (some ⟨cb, 0, none⟩) p.funcs.length p.funcs.length, fltV 0 0 0]) (by simp [results, Tryd.results12, go_sem, r0, r1, r2]) rfl (HK.out _ _ ⟨below_set3 HB7.out (by omega) _ _ _, ?_, ?_⟩)
        · intro h; rw [HG.out] at h; exact absurd rfl h
        · intro _
          have hc := HN.out.2.2.2.2
          exact ⟨HG.out, fm, cb, vs, rfl, HN.out.2.2.1, HN.out.1, (((HROW.out.set (by omega) hc _ _).set (by omega) hc _ _).set (by omega) hc _ _).lower (by omega)⟩
  · have e1' : c1 ≠ 0 := by simpa using e1
    have HG : Hid (res = (c1, c2, c3)) := (by rw [HE.out, if_pos e1'] : res = _)
    clear HE HZ e1'
    have R : ∀ o, (w1.alloc o).drew.cell? ⟨w.heap.size + 1, 0, none⟩ = some (.int .i64 0) ∧ (w1.alloc o).drew.cell? ⟨w.heap.size + 1, 1, none⟩ = some (.int .i64 0) ∧ (w1.alloc o).drew.cell? ⟨w.heap.size + 1, 2, none⟩ = some (.int .i64 0) ∧ ∀ j, (w1.alloc o).drew.frozen? ⟨w.heap.size + 1, j, none⟩ = w1.frozen? ⟨w.heap.size + 1, j, none⟩ := fun o => by
      have hlt1 : w.heap.size + 1 < w1.heap.size := by omega
      refine ⟨?_, ?_, ?_, fun j => ?_⟩
      · show (w1.alloc o).cell? _ = _
        rw [World.cell?_alloc_past _ _ _ hlt1]; exact r0
      · show (w1.alloc o).cell? _ = _
        rw [World.cell?_alloc_past _ _ _ hlt1]; exact r1
      · show (w1.alloc o).cell? _ = _
        rw [World.cell?_alloc_past _ _ _ hlt1]; exact r2
      · exact ((Below.refl w1.heap.size w1).alloc (Nat.le_refl _) o).frozen hlt1
    obtain ⟨r0', r1', r2', hfz⟩ := R (.cells #[.int .i64 c1, .int .i64 c2, .int .i64 c3] 29)
    have q0' := (hfz 0).trans q0
    have q1' := (hfz 1).trans q1
    have q2' := (hfz 2).trans q2
    have n0 : (w1.alloc (.cells #[.int .i64 c1, .int .i64 c2, .int .i64 c3] 29)).drew.cell? ⟨w1.heap.size, 0, none⟩ = some (.int .i64 c1) := by
      show (w1.alloc _).cell? _ = _
      rw [World.cell?_alloc_at _ _ _ _ rfl]; rfl
    have n1 : (w1.alloc (.cells #[.int .i64 c1, .int .i64 c2, .int .i64 c3] 29)).drew.cell? ⟨w1.heap.size, 1, none⟩ = some (.int .i64 c2) := by
      show (w1.alloc _).cell? _ = _
      rw [World.cell?_alloc_at _ _ _ _ rfl]; rfl
    have n2 : (w1.alloc (.cells #[.int .i64 c1, .int .i64 c2, .int .i64 c3] 29)).drew.cell? ⟨w1.heap.size, 2, none⟩ = some (.int .i64 c3) := by
      show (w1.alloc _).cell? _ = _
      rw [World.cell?_alloc_at _ _ _ _ rfl]; rfl
    have hb7 : Below w.heap.size w (w1.alloc (.cells #[.int .i64 c1, .int .i64 c2, .int .i64 c3] 29)) := hb2.alloc hb2.size _
    clear R hfz c1'
    go_upto_region 3 with fail
    clear r0 r1 r2 q0 q1 q2
    generalize w1.alloc (.cells #[.int .i64 c1, .int .i64 c2, .int .i64 c3] 29) = W6 at *
    have r0 : W6.cell? _ = _ := r0'
    have r1 : W6.cell? _ = _ := r1'
    have r2 : W6.cell? _ = _ := r2'
    have q0 : W6.frozen? _ = _ := q0'
    have q1 : W6.frozen? _ = _ := q1'
    have q2 : W6.frozen? _ = _ := q2'
    have n0' : W6.cell? _ = _ := n0
    have n1' : W6.cell? _ = _ := n1
    have n2' : W6.cell? _ = _ := n2
    have hne : w.heap.size + 1 ≠ w1.heap.size := by omega
    go_region
    go_wp2_with fail
    refine bodyPost_ret (v := .tuple #[.slice none 0 0, fltV c1 c2 c3]) (by simp [results, Tryd.results12, go_sem, r0, r1, r2]) rfl (HK.out _ _ ⟨Below.drew (below_set3 hb7 (by omega) _ _ _), ?_, ?_⟩)
    · intro _; rw [HG.out]
    · intro h; rw [HG.out] at h; exact absurd (show c1 = 0 from h) (by simpa using e1)
end Go.Proofs.YtakaldbhaoidiaaDoor

/- slices.Sort and slices.Compact at lists of int, laid at this program: each one application of what is proved once over any program. -/
namespace Go.Proofs
open Go.Shelf
def Tryd.lays189_ren : Go.Shelf.Ren := ⟨fun | 189 => 16 | 125 => 26 | 257 => 25 | 128 => 43 | 129 => 44 | 294 => 34 | 295 => 35 | 296 => 36 | 297 => 37 | 298 => 38 | 299 => 39 | 216 => 40 | 300 => 41 | 301 => 42 | 328 => 56 | 329 => 57 | 330 => 58 | 331 => 59 | 332 => 60 | 215 => 61 | 343 => 75 | n => n, fun | 28 => 48 | 3 => 3 | 46 => 76 | 0 => 0 | 51 => 98 | 53 => 100 | 4 => 4 | 183 => 91 | 182 => 90 | 131 => 78 | 5 => 5 | 9 => 9 | 218 => 111 | 222 => 115 | 228 => 128 | 229 => 129 | n => n, fun | n => n⟩
theorem Tryd.lays189 : Go.Proofs.Lays.n189 Tryd.prog Tryd.lays189_ren := {
  mixed := by kernel_rfl
  f125 := Tryd.func26.trans (congrArg some (by kernel_rfl))
  f128 := Tryd.func43.trans (congrArg some (by kernel_rfl))
  f129 := Tryd.func44.trans (congrArg some (by kernel_rfl))
  f189 := Tryd.func16.trans (congrArg some (by kernel_rfl))
  f215 := Tryd.func61.trans (congrArg some (by kernel_rfl))
  f216 := Tryd.func40.trans (congrArg some (by kernel_rfl))
  f257 := Tryd.func25.trans (congrArg some (by kernel_rfl))
  f294 := Tryd.func34.trans (congrArg some (by kernel_rfl))
  f295 := Tryd.func35.trans (congrArg some (by kernel_rfl))
  f296 := Tryd.func36.trans (congrArg some (by kernel_rfl))
  f297 := Tryd.func37.trans (congrArg some (by kernel_rfl))
  f298 := Tryd.func38.trans (congrArg some (by kernel_rfl))
  f299 := Tryd.func39.trans (congrArg some (by kernel_rfl))
  f300 := Tryd.func41.trans (congrArg some (by kernel_rfl))
  f301 := Tryd.func42.trans (congrArg some (by kernel_rfl))
  f328 := Tryd.func56.trans (congrArg some (by kernel_rfl))
  f329 := Tryd.func57.trans (congrArg some (by kernel_rfl))
  f330 := Tryd.func58.trans (congrArg some (by kernel_rfl))
  f331 := Tryd.func59.trans (congrArg some (by kernel_rfl))
  f332 := Tryd.func60.trans (congrArg some (by kernel_rfl))
  f343 := Tryd.func75.trans (congrArg some (by kernel_rfl))
  t0 := Tryd.underlying0
  a0 := Tryd.isAgg0
  z0 := Tryd.sizeOf0
  v0 := Tryd.zeroValue0
  t3 := Tryd.underlying3
  a3 := Tryd.isAgg3
  z3 := Tryd.sizeOf3
  v3 := Tryd.zeroValue3
  t4 := Tryd.underlying4
  a4 := Tryd.isAgg4
  z4 := Tryd.sizeOf4
  v4 := Tryd.zeroValue4
  t5 := Tryd.underlying5
  a5 := Tryd.isAgg5
  z5 := Tryd.sizeOf5
  v5 := Tryd.zeroValue5
  t9 := Tryd.underlying9
  a9 := Tryd.isAgg9
  z9 := Tryd.sizeOf9
  v9 := Tryd.zeroValue9
  t28 := Tryd.underlying48
  a28 := Tryd.isAgg48
  z28 := Tryd.sizeOf48
  v28 := Tryd.zeroValue48
  t46 := Tryd.underlying76
  a46 := Tryd.isAgg76
  z46 := Tryd.sizeOf76
  v46 := Tryd.zeroValue76
  t51 := Tryd.underlying98
  a51 := Tryd.isAgg98
  z51 := Tryd.sizeOf98
  v51 := Tryd.zeroValue98
  t53 := Tryd.underlying100
  a53 := Tryd.isAgg100
  z53 := Tryd.sizeOf100
  v53 := Tryd.zeroValue100
  t131 := Tryd.underlying78
  a131 := Tryd.isAgg78
  z131 := Tryd.sizeOf78
  v131 := Tryd.zeroValue78
  t182 := Tryd.underlying90
  a182 := Tryd.isAgg90
  z182 := Tryd.sizeOf90
  v182 := Tryd.zeroValue90
  t183 := Tryd.underlying91
  a183 := Tryd.isAgg91
  z183 := Tryd.sizeOf91
  v183 := Tryd.zeroValue91
  t218 := Tryd.underlying111
  a218 := Tryd.isAgg111
  z218 := Tryd.sizeOf111
  v218 := Tryd.zeroValue111
  t222 := Tryd.underlying115
  a222 := Tryd.isAgg115
  z222 := Tryd.sizeOf115
  v222 := Tryd.zeroValue115
  t228 := Tryd.underlying128
  a228 := Tryd.isAgg128
  z228 := Tryd.sizeOf128
  v228 := Tryd.zeroValue128
  t229 := Tryd.underlying129
  a229 := Tryd.isAgg129
  z229 := Tryd.sizeOf129
  v229 := Tryd.zeroValue129 }
def Tryd.laysNm220_ren : Go.Shelf.Ren := ⟨fun | 20 => 17 | n => n, fun | 22 => 48 | 3 => 3 | 4 => 4 | 0 => 0 | n => n, fun | n => n⟩
theorem Tryd.laysNm220 : Go.Proofs.Lays2.n20 Tryd.prog Tryd.laysNm220_ren := {
  mixed := by kernel_rfl
  f20 := Tryd.func17.trans (congrArg some (by kernel_rfl))
  t0 := Tryd.underlying0
  a0 := Tryd.isAgg0
  z0 := Tryd.sizeOf0
  v0 := Tryd.zeroValue0
  t3 := Tryd.underlying3
  a3 := Tryd.isAgg3
  z3 := Tryd.sizeOf3
  v3 := Tryd.zeroValue3
  t4 := Tryd.underlying4
  a4 := Tryd.isAgg4
  z4 := Tryd.sizeOf4
  v4 := Tryd.zeroValue4
  t22 := Tryd.underlying48
  a22 := Tryd.isAgg48
  z22 := Tryd.sizeOf48
  v22 := Tryd.zeroValue48
  i3 := by kernel_rfl }
end Go.Proofs

/- slices.Sort and slices.Compact, at a row of numbers that the call owns. -/
namespace Go.Proofs.YtakaldbhaoidiaaDoor
open Go.RowKit Go.Sort

/-- The numbers, rising. -/
def sortI (l : List Int) : List Int := l.mergeSort fun x y => decide (x ≤ y)
theorem sortI_length (l : List Int) : (sortI l).length = l.length := List.length_mergeSort l
theorem sort_row {N : Nat} {v : Value} {c : List Int} (W : World) (h : W.ownsRow N 3 1 v c.length (c.map (Value.int .i64))) (hl : c.length ≤ 1000000) :
    Calls Tryd.prog 16 #[v] W fun e W' => e = .returned (.tuple #[]) ∧ W'.ownsRow N 3 1 v c.length ((sortI c).map (Value.int .i64)) ∧ Fr (ob v) W W' := by
  rcases h.2 with ⟨rfl, h0⟩ | ⟨g, cap, cur, rfl, hg, hb, hn, hm, hs, ht⟩
  · have hc : c = [] := List.length_eq_zero_iff.1 h0
    subst hc
    refine (Any.slices_Sort_int_none Tryd.lays189 none 0 W).mono ?_
    rintro e W' ⟨rfl, rfl⟩
    exact ⟨rfl, by simpa [sortI] using h, Fr.refl _ _⟩
  · have hH : Holds (Value.int .i64) W g 0 c.toArray := holds_of_blockI hb (by simpa using ht)
    refine (Any.slices_Sort_int Tryd.lays189 g 0 cap c W hH (Array.getElem?_eq_some_iff.1 hb).1 (by omega)).mono ?_
    rintro e W' ⟨rfl, n, os, rfl⟩
    exact ⟨rfl, ownsRow_sortedI (sortI_length c) hg hb hn hm hs, Fr.of_grown (grownBy_sortedI _)⟩
theorem compact_row {N : Nat} {v : Value} {c : List Int} (W : World) (h : W.ownsRow N 3 1 v c.length (c.map (Value.int .i64))) :
    Calls Tryd.prog 17 #[v] W fun e W' => ∃ v', e = .returned v' ∧ W'.ownsRow N 3 1 v' (Lib.compact c).length ((Lib.compact c).map (Value.int .i64)) ∧ ob v' = ob v ∧ Fr (ob v) W W' := by
  rcases h.2 with ⟨rfl, h0⟩ | ⟨g, cap, cur, rfl, hg, hb, hn, hm, hs, ht⟩
  · have hc : c = [] := List.length_eq_zero_iff.1 h0
    subst hc
    refine (Any.slices_Compact_int_empty Tryd.laysNm220 none 0 W).mono ?_
    rintro e W' ⟨rfl, rfl⟩
    exact ⟨_, rfl, by rw [show Lib.compact ([] : List Int) = [] from rfl]; exact h, rfl, Fr.refl _ _⟩
  · have hH : Holds (Value.int .i64) W g 0 c.toArray := holds_of_blockI hb (by simpa using ht)
    refine (Any.slices_Compact_int Tryd.laysNm220 g 0 cap c W hH (by unfold maxLen at hm; omega) hn).mono ?_
    rintro e W' ⟨rfl, q, rfl⟩
    have hle := Lib.compact_length_le c
    have hc := Lib.ownsRow_putRow (q := q) (k := (Lib.compact c).length) (ys := Lib.compact c ++ List.replicate (c.length - (Lib.compact c).length) 0) h (by simp; omega) hle
    rw [List.take_left] at hc
    refine ⟨_, rfl, hc, rfl, ?_⟩
    refine ⟨rfl, rfl, rfl, by simp [putRow, mapBlock, Sort.ahead], fun k hk hne => ?_⟩
    have hne' : g ≠ k := fun e => hne (by rw [← e]; simp [ob, Value.ownBlock])
    simp [putRow, mapBlock, Sort.ahead, Array.getElem?_modify, hne']
end Go.Proofs.YtakaldbhaoidiaaDoor

/- How many calls a look at a function tells. -/
namespace Go.Proofs.YtakaldbhaoidiaaDoor
open Go.RowKit Go.Sort

mutual
theorem exC_len (ft : List (List UInt8 × Int)) : ∀ x : Ex, (exC ft x).length ≤ x.sz
  | .mk k n s a c l => by
    have h1 := exLC_len ft l
    have h2 := (Ex.mk k n s a c l).sz_args
    simp only [Ex.args] at h2
    rw [exC, List.length_append, h2]
    have h3 : (nmC ft k s.data.toList).length ≤ 1 := by unfold nmC; split <;> simp
    omega
theorem exLC_len (ft : List (List UInt8 × Int)) : ∀ l : List Ex, (exLC ft l).length ≤ szL l
  | [] => by rw [exLC, szL]; simp
  | x :: r => by
    have h1 := exC_len ft x
    have h2 := exLC_len ft r
    rw [exLC, szL, List.length_append]; omega
end
mutual
theorem stS_c (ft : List (List UInt8 × Int)) : ∀ (s : St) (env : Env) (m : Int), (stS ft s env m).c.length ≤ qS s
  | .mk k nm n a b ba bc l ea ec e ca cc c, env, m => by
    have h1 := lsS_c ft l ((lvZ env == 0, []) :: env) m
    have h2 := csS_c ft c env (lsS ft l ((lvZ env == 0, []) :: env) m).m
    have h3 := lsS_c ft e ((lvZ env == 0, []) :: env) (csS ft c env (lsS ft l ((lvZ env == 0, []) :: env) m).m).m
    have h4 := lsS_c ft l (dcEnv ((true, []) :: env) nm.data.toList 3) m
    have e1 := exC_len ft a
    have e2 := exC_len ft b
    rw [stS, qS]
    split
    · first | (dsimp only; omega) | exact Nat.zero_le _ | (simp only [List.length_append]; omega)
    split
    · first | (dsimp only; omega) | exact Nat.zero_le _ | (simp only [List.length_append]; omega)
    split
    · first | (dsimp only; omega) | exact Nat.zero_le _ | (simp only [List.length_append]; omega)
    split
    · first | (dsimp only; omega) | exact Nat.zero_le _ | (simp only [List.length_append]; omega)
    split
    · split
      · first | (dsimp only; omega) | exact Nat.zero_le _ | (simp only [List.length_append]; omega)
      split
      · first | (dsimp only; omega) | exact Nat.zero_le _ | (simp only [List.length_append]; omega)
      split
      · first | (dsimp only; omega) | exact Nat.zero_le _ | (simp only [List.length_append]; omega)
      · first | (dsimp only; omega) | exact Nat.zero_le _ | (simp only [List.length_append]; omega)
    split
    · split
      · first | (dsimp only; omega) | exact Nat.zero_le _ | (simp only [List.length_append]; omega)
      · first | (dsimp only; omega) | exact Nat.zero_le _ | (simp only [List.length_append]; omega)
    split
    · first | (dsimp only; omega) | exact Nat.zero_le _ | (simp only [List.length_append]; omega)
    · first | (dsimp only; omega) | exact Nat.zero_le _ | (simp only [List.length_append]; omega)
theorem lsS_c (ft : List (List UInt8 × Int)) : ∀ (l : List St) (env : Env) (m : Int), (lsS ft l env m).c.length ≤ qSs l
  | [], env, m => by rw [lsS, qSs]; simp
  | s :: r, env, m => by
    have h1 := stS_c ft s env (m + 1)
    have h2 := lsS_c ft r (stS ft s env (m + 1)).env (stS ft s env (m + 1)).m
    rw [lsS, qSs]
    split
    · omega
    · first | (dsimp only; omega) | exact Nat.zero_le _ | (simp only [List.length_append]; omega)
theorem caS_c (ft : List (List UInt8 × Int)) : ∀ (c : Ca) (env : Env) (m : Int), (caS ft c env m).c.length ≤ qC c
  | .mk n ba bc l, env, m => by
    have h1 := lsS_c ft l ((lvZ env == 0, []) :: env) m
    rw [caS, qC]
    omega
theorem csS_c (ft : List (List UInt8 × Int)) : ∀ (l : List Ca) (env : Env) (m : Int), (csS ft l env m).c.length ≤ qCs l
  | [], env, m => by rw [csS, qCs]; simp
  | c :: r, env, m => by
    have h1 := caS_c ft c env m
    have h2 := csS_c ft r env (caS ft c env m).m
    rw [csS, qCs]
    split
    · first | (dsimp only; omega) | exact Nat.zero_le _ | (simp only [List.length_append]; omega)
    · first | (dsimp only; omega) | exact Nat.zero_le _ | (simp only [List.length_append]; omega)
end
theorem fnS_len (ft : List (List UInt8 × Int)) (f : Fu) : (fnS ft f).c.length ≤ qSs f.body := by
  unfold fnS
  split
  · simp
  split
  · simp
  · exact lsS_c ft f.body _ 0
end Go.Proofs.YtakaldbhaoidiaaDoor

/- names.Check and names.Calls. -/
namespace Go.Proofs.YtakaldbhaoidiaaDoor
open Go.RowKit Go.Sort

theorem lkP_flt {p : Pr} {w w' : World} {e : Ending} (h : LkP p w e w') : Below w.heap.size w w' ∧ ∃ a n c, e = .returned (.tuple #[.slice a n c, fltV (namZ p).1 (namZ p).2.1 (namZ p).2.2]) := by
  refine ⟨h.1, ?_⟩
  by_cases h0 : (namZ p).1 = 0
  · obtain ⟨hz, fm, cb, vs, he, _⟩ := h.2.2 h0
    exact ⟨_, _, _, by rw [hz]; exact he⟩
  · exact ⟨_, _, _, h.2.1 h0⟩
set_option maxRecDepth 100000 in
set_option maxHeartbeats 4000000 in
theorem ncheck_any (p : Pr) (w : World) (hin : p.In w) (ht : Tabs w) : Calls Tryd.prog 5 #[p.val] w fun e w' => e = .returned (fltV (namZ p).1 (namZ p).2.1 (namZ p).2.2) ∧ Below w.heap.size w w' := by
  have HL : Hid (∀ w', Below w.heap.size w w' → Calls Tryd.prog 12 #[p.val] w' fun e w'' => Below w'.heap.size w' w'' ∧ ∃ a n c, e = .returned (.tuple #[.slice a n c, fltV (namZ p).1 (namZ p).2.1 (namZ p).2.2])) := fun w' hb => (look_any p w' (hin.stay hb) (ht.stay hb)).mono fun e w'' h => lkP_flt h
  clear hin ht
  generalize namZ p = z at *
  obtain ⟨z1, z2, z3⟩ := z
  simp only at HL ⊢
  have hb1 := ((Below.refl _ w).alloc (Nat.le_refl _) (.cells #[.slice p.wa p.widen.length p.wc, .slice p.fa p.funcs.length p.fc] 25)).alloc (by simp) (.cells #[.int .i64 0, .int .i64 0, .int .i64 0] 29)
  unfold Pr.val at HL ⊢
  go_enter Tryd.func5, Tryd.ntmps5
  go_wp2_with fail
  refine (HL.out _ hb1).mono ?_
  rintro e w1 ⟨hbw, sa, sn, sc, rfl⟩
  obtain ⟨hX, hRs, hF⟩ := two_cells hbw
  have r0 := hRs 0 _ rfl
  have r1 := hRs 1 _ rfl
  have r2 := hRs 2 _ rfl
  have q0 := hF 0
  have q1 := hF 1
  have q2 := hF 2
  have hb2 : Below w.heap.size w w1 := hb1.trans (hbw.mono (by simp; omega))
  have hs2 : w.heap.size + 1 + 1 ≤ w1.heap.size := by have := hbw.size; simp at this; omega
  clear hX hF hRs hbw hb1
  have hlt1 : w.heap.size + 1 < w1.heap.size := by omega
  have hb3 := (Below.refl _ w1).alloc (Nat.le_refl _) (.cells #[.int .i64 z1, .int .i64 z2, .int .i64 z3] 29)
  have r0' := (hb3.cell (p := ⟨w.heap.size + 1, 0, none⟩) hlt1).trans r0
  have r1' := (hb3.cell (p := ⟨w.heap.size + 1, 1, none⟩) hlt1).trans r1
  have r2' := (hb3.cell (p := ⟨w.heap.size + 1, 2, none⟩) hlt1).trans r2
  have q0' := (hb3.frozen (p := ⟨w.heap.size + 1, 0, none⟩) hlt1).trans q0
  have q1' := (hb3.frozen (p := ⟨w.heap.size + 1, 1, none⟩) hlt1).trans q1
  have q2' := (hb3.frozen (p := ⟨w.heap.size + 1, 2, none⟩) hlt1).trans q2
  have n0 : (w1.alloc (.cells #[.int .i64 z1, .int .i64 z2, .int .i64 z3] 29)).cell? ⟨w1.heap.size, 0, none⟩ = some (.int .i64 z1) := by rw [World.cell?_alloc_at _ _ _ _ rfl]; rfl
  have n1 : (w1.alloc (.cells #[.int .i64 z1, .int .i64 z2, .int .i64 z3] 29)).cell? ⟨w1.heap.size, 1, none⟩ = some (.int .i64 z2) := by rw [World.cell?_alloc_at _ _ _ _ rfl]; rfl
  have n2 : (w1.alloc (.cells #[.int .i64 z1, .int .i64 z2, .int .i64 z3] 29)).cell? ⟨w1.heap.size, 2, none⟩ = some (.int .i64 z3) := by rw [World.cell?_alloc_at _ _ _ _ rfl]; rfl
  have hb4 := hb2.alloc hb2.size (.cells #[.int .i64 z1, .int .i64 z2, .int .i64 z3] 29)
  clear r0 r1 r2 q0 q1 q2 hb3 hb2
  go_upto_region 2 with fail
  generalize w1.alloc (.cells #[.int .i64 z1, .int .i64 z2, .int .i64 z3] 29) = W6 at *
  go_wp2_with fail
  exact bodyPost_ret (v := fltV z1 z2 z3) (by simp [results, Tryd.results5, go_sem, r0', r1', r2']) rfl ⟨rfl, below_set3 hb4 (by omega) _ _ _⟩

/-- Which functions are called by the function of a number. -/
def clN (p : Pr) (i : Int) : List Int := if (namZ p).1 ≠ 0 ∨ i < 0 ∨ (p.funcs.length : Int) ≤ i then [] else match p.funcs[i.toNat]? with | some f => Lib.compact (sortI (fnK p.funcs i.toNat f).c) | none => []
theorem nil_owns (W : World) (N : Nat) : W.ownsRow N 3 1 (.slice none 0 0) ([] : List Int).length (([] : List Int).map (Value.int .i64)) := ⟨rfl, .inl ⟨rfl, rfl⟩⟩
set_option maxRecDepth 100000 in
set_option maxHeartbeats 4000000 in
theorem ncalls_any (p : Pr) (i : Int) (w : World) (hin : p.In w) (ht : Tabs w) : Calls Tryd.prog 11 #[p.val, .int .i64 i] w fun e w' => (∃ v, e = .returned v ∧ w'.ownsRow w.heap.size 3 1 v (clN p i).length ((clN p i).map (Value.int .i64))) ∧ Below w.heap.size w w' := by
  have hb1 := (Below.refl _ w).alloc (Nat.le_refl _) (.cells #[.slice p.wa p.widen.length p.wc, .slice p.fa p.funcs.length p.fc] 25)
  have HL := Hid.mk' (look_any p _ (hin.stay hb1) (ht.stay hb1))
  have HCN : Hid (∀ f ∈ p.funcs, (checkZ p).1 = 0 → qSs f.body ≤ 12288) := fun f hf h => ((check_room h).2 f hf).1
  have HCZ : Hid ((namZ p).1 = 0 → (checkZ p).1 = 0) := fun h => by
    unfold namZ at h
    split at h
    · rename_i h0; exact absurd h h0
    · rename_i h0; simpa using h0
  clear hin ht
  unfold Pr.val at HL ⊢
  go_enter Tryd.func11, Tryd.ntmps11
  go_wp2_with fail
  refine HL.out.mono ?_
  rintro e w1 ⟨hbw, hp1, hp2⟩
  have hb2 : Below w.heap.size w w1 := hb1.trans (hbw.mono (by simp))
  clear HL hb1 hbw
  by_cases hz : (namZ p).1 = 0
  · obtain ⟨_, fm, cb, vs, rfl, hcb, hne, hrows⟩ := hp2 hz
    have HZ := Hid.mk' hz
    clear hp1 hp2 hz
    have h00 : ((0 : Int) != 0) = false := rfl
    by_cases hi0 : i < 0
    · have hc : Hid (clN p i = []) := by show _ = _; unfold clN; rw [if_pos (Or.inr (Or.inl hi0))]
      have hb3 := hb2.alloc hb2.size (.cells #[.int .i64 0, .int .i64 0, .int .i64 0] 29)
      clear hrows
      go_wp2_with fail
      go_ret
      exact ⟨⟨_, rfl, by rw [hc.out]; exact nil_owns _ _⟩, hb3⟩
    · by_cases hin2 : (p.funcs.length : Int) ≤ i
      · have hc : Hid (clN p i = []) := by show _ = _; unfold clN; rw [if_pos (Or.inr (Or.inr hin2))]
        have hb3 := hb2.alloc hb2.size (.cells #[.int .i64 0, .int .i64 0, .int .i64 0] 29)
        clear hrows
        go_wp2_with fail
        go_ret
        exact ⟨⟨_, rfl, by rw [hc.out]; exact nil_owns _ _⟩, hb3⟩
      · obtain ⟨k, rfl⟩ : ∃ k : Nat, i = (k : Int) := ⟨i.toNat, by omega⟩
        have hk : k < p.funcs.length := by omega
        have hki : (k : Int) < (p.funcs.length : Int) := by omega
        obtain ⟨v, hv1, hv2, hv3, hv4⟩ := hrows.2.2.2 k p.funcs[k] (List.getElem?_eq_getElem hk) hk
        have hc : Hid (clN p k = Lib.compact (sortI (fnK p.funcs k p.funcs[k]).c)) := by
          show _ = _
          unfold clN
          rw [if_neg (by have := HZ.out; omega), Int.toNat_natCast, List.getElem?_eq_getElem hk]
        have hl : (fnK p.funcs k p.funcs[k]).c.length ≤ 12288 := Nat.le_trans (fnS_len _ _) (HCN.out _ (List.getElem_mem hk) (HCZ.out HZ.out))
        generalize (fnK p.funcs k p.funcs[k]).c = c at *
        have hb3 := hb2.alloc hb2.size (.cells #[.int .i64 0, .int .i64 0, .int .i64 0] 29)
        have hb3' := (Below.refl _ w1).alloc (Nat.le_refl _) (.cells #[.int .i64 0, .int .i64 0, .int .i64 0] 29)
        have c0 := (hb3'.cell (p := ⟨cb, k, none⟩) hrows.lt).trans (hrows.cell hv1)
        have hlt := hrows.lt
        have ho := own_keep (W' := w1.alloc (.cells #[.int .i64 0, .int .i64 0, .int .i64 0] 29)) hv2 (fun g hg => hb3'.block g (own_lt hv2 g hg).2)
        have HS := Hid.mk' (sort_row _ ho (by omega))
        have HB3 := Hid.mk' hb3
        have HV4 := Hid.mk' hv4
        have HGE : Hid (∀ g ∈ ob v, w.heap.size ≤ g) := fun g hg => Nat.le_trans (by simp) ((own_lt hv2 g hg).1)
        obtain ⟨va, vc, rfl⟩ := own_form hv2
        have hlt2 : Hid (cb < (w1.alloc (.cells #[.int .i64 0, .int .i64 0, .int .i64 0] 29)).heap.size) := by show _ < _; simp; omega
        clear hrows hv1 hv2 hv3 hv4 hb3 hb3' hb2 hl hlt
        go_upto_region 4 with fail
        generalize w1.alloc (.cells #[.int .i64 0, .int .i64 0, .int .i64 0] 29) = W6 at *
        go_wp2_with fail
        refine HS.out.mono ?_
        rintro e w2 ⟨rfl, ho2, hf2⟩
        have c1 := (hf2.cell (i := k) hlt2.out HV4.out).trans c0
        have HK2 := Hid.mk' (compact_row (c := sortI c) w2 (by rw [sortI_length]; exact ho2))
        have HB4 : Hid (Below w.heap.size w w2) := HB3.out.trans (hf2.below HGE.out HB3.out.size)
        clear ho2 hf2 HS ho c0
        go_wp2_with fail
        refine HK2.out.mono ?_
        rintro e w3 ⟨v3, rfl, ho3, hob, hf3⟩
        have HB5 : Hid (Below w.heap.size w w3) := HB4.out.trans (hf3.below HGE.out HB4.out.size)
        have HO3 := Hid.mk' ho3
        clear hf3 ho3 hob HK2
        go_wp2_with fail
        go_ret
        exact ⟨⟨_, rfl, by rw [hc.out]; exact own_base HO3.out (fun g hg => Nat.le_trans (by simp) (own_lt HO3.out g hg).1)⟩, HB5.out⟩
  · have he := hp1 hz
    subst he
    have hc : Hid (clN p i = []) := by show _ = _; unfold clN; rw [if_pos (Or.inl hz)]
    have hz' : ((namZ p).1 != 0) = true := by simpa using hz
    have hb3 := hb2.alloc hb2.size (.cells #[.int .i64 (namZ p).1, .int .i64 (namZ p).2.1, .int .i64 (namZ p).2.2] 29)
    clear hz hp1 hp2
    generalize namZ p = z at *
    obtain ⟨z1, z2, z3⟩ := z
    simp only at hz' hb3 ⊢
    go_wp2_with fail
    go_ret
    exact ⟨⟨_, rfl, by rw [hc.out]; exact nil_owns _ _⟩, hb3⟩
end Go.Proofs.YtakaldbhaoidiaaDoor

/- What is told of a program's names hangs on its addresses in nothing. -/
namespace Go.Proofs.YtakaldbhaoidiaaDoor
open Go.RowKit Go.Sort

theorem erL_length (l : List Ex) : (erL l).length = l.length := by rw [erL_map, List.length_map]
theorem erS_length (l : List St) : (erS l).length = l.length := by rw [erS_map, List.length_map]
theorem erC_length (l : List Ca) : (erC l).length = l.length := by rw [erC_map, List.length_map]
theorem Ex.er_kind (x : Ex) : x.er.kind = x.kind := by cases x; rfl
theorem Ex.er_n (x : Ex) : x.er.n = x.n := by cases x; rfl
theorem Ex.er_name (x : Ex) : x.er.name = x.name := by cases x; rfl
theorem Ex.er_args (x : Ex) : x.er.args = erL x.args := by cases x; rfl
theorem St.er_kind (x : St) : x.er.kind = x.kind := by cases x; rfl
theorem St.er_n (x : St) : x.er.n = x.n := by cases x; rfl
theorem St.er_name (x : St) : x.er.name = x.name := by cases x; rfl
theorem St.er_a (x : St) : x.er.a = x.a.er := by cases x; rfl
theorem St.er_b (x : St) : x.er.b = x.b.er := by cases x; rfl
theorem St.er_body (x : St) : x.er.body = erS x.body := by cases x; rfl
theorem St.er_els (x : St) : x.er.els = erS x.els := by cases x; rfl
theorem St.er_cases (x : St) : x.er.cases = erC x.cases := by cases x; rfl
theorem Ca.er_n (x : Ca) : x.er.n = x.n := by cases x; rfl
theorem Ca.er_body (x : Ca) : x.er.body = erS x.body := by cases x; rfl
theorem zeroE_er (x : Ex) : zeroE x.er = zeroE x := by
  unfold zeroE
  rw [x.er_kind, x.er_n, x.er_name, x.er_args]
  congr 1
  cases x.args <;> rfl
theorem usesE_er (x : Ex) : usesE x.er = usesE x := by unfold usesE; rw [x.er_n, x.er_name]
theorem selfE_er (x : Ex) : selfE x.er = selfE x := by
  unfold selfE
  rw [usesE_er, x.er_kind, x.er_n, x.er_name, x.er_args, erL_length]
theorem chkE_er (k : Nat) : (∀ (x : Ex) (lv : Int), x.sz ≤ k → chkE x.er lv = chkE x lv) ∧ (∀ (l : List Ex) (lv : Int), szL l ≤ k → chkL (erL l) lv = chkL l lv) := by
  induction k with
  | zero =>
    refine ⟨fun x n hk => by have := x.sz_args; omega, fun l n hk => ?_⟩
    cases l with
    | nil => rfl
    | cons x r => rw [szL] at hk; have := x.sz_args; omega
  | succ k ih =>
    have h1 : ∀ (x : Ex) (lv : Int), x.sz ≤ k + 1 → chkE x.er lv = chkE x lv := fun x lv hk => by
      rw [chkE_eq, chkE_eq, selfE_er, x.er_args, ih.2 x.args (lv + 1) (by have := x.sz_args; omega)]
    refine ⟨h1, fun l => ?_⟩
    induction l with
    | nil => intro lv _; rfl
    | cons x r ihr =>
      intro lv hk
      rw [szL] at hk
      rw [erL, chkL, chkL, h1 x lv (by omega), ihr lv (by omega)]
theorem cntE_er (k : Nat) : (∀ (x : Ex) (n : Int), x.sz ≤ k → cntE x.er n = cntE x n) ∧ (∀ (l : List Ex) (n : Int), szL l ≤ k → cntL (erL l) n = cntL l n) := by
  induction k with
  | zero =>
    refine ⟨fun x n hk => by have := x.sz_args; omega, fun l n hk => ?_⟩
    cases l with
    | nil => rfl
    | cons x r => rw [szL] at hk; have := x.sz_args; omega
  | succ k ih =>
    have h1 : ∀ (x : Ex) (n : Int), x.sz ≤ k + 1 → cntE x.er n = cntE x n := fun x n hk => by
      rw [cntE_args, cntE_args, x.er_args, ih.2 x.args (n + 1) (by have := x.sz_args; omega)]
    refine ⟨h1, fun l => ?_⟩
    induction l with
    | nil => intro n _; rfl
    | cons x r ihr =>
      intro n hk
      rw [szL] at hk
      rw [erL, cntL, cntL, h1 x n (by omega), ihr _ (by omega)]
theorem cntZ_er (x : Ex) (n : Int) : cntZ x.er n = cntZ x n := by unfold cntZ; rw [zeroE_er, (cntE_er _).1 x n (Nat.le_refl _)]
theorem leastC_er (l : List Ca) : leastC (erC l) = leastC l := by
  unfold leastC
  rw [erC_map, List.any_map]
  congr 1
  funext c
  simp only [Function.comp, c.er_n]
theorem usesS_er (s : St) : usesS s.er = usesS s := by
  unfold usesS
  rw [s.er_name, s.er_n, s.er_a, s.er_b, s.er_body, s.er_els, s.er_cases, zeroE_er, zeroE_er, erS_length, erS_length, erC_length]
theorem selfS_er (s : St) : selfS s.er = selfS s := by
  unfold selfS
  rw [usesS_er, s.er_kind, s.er_name, s.er_n, s.er_a, s.er_cases, leastC_er, Ex.er_kind]
theorem chkS_er (s : St) (lv : Int) : chkS s.er lv = chkS s lv := by
  unfold chkS
  rw [selfS_er, s.er_kind, s.er_a, s.er_b, (chkE_er _).1 s.a _ (Nat.le_refl _), (chkE_er _).1 s.b _ (Nat.le_refl _)]
theorem chkT_eq2 (s : St) (lv at_ : Int) : chkT s lv at_ = if chkS s lv ≠ 0 then (chkS s lv, at_ + 1) else thenZ (chkSs s.body (lv + 1) (at_ + 1)) fun m => thenZ (chkCs s.cases (lv + 1) m) fun m => chkSs s.els (lv + 1) m := by
  cases s; simp only [chkT, St.body, St.cases, St.els]
theorem cntS_eq2 (s : St) (n : Int) : cntS s n = cntSs s.els (cntCs s.cases (cntSs s.body (cntZ s.b (cntZ s.a (n + (1 + (s.cases.length : Int))))))) := by
  cases s; simp only [cntS, St.els, St.cases, St.body, St.a, St.b]
theorem stc_er (k : Nat) :
    (∀ (s : St), s.sz ≤ k → (∀ lv a, chkT s.er lv a = chkT s lv a) ∧ (∀ n, cntS s.er n = cntS s n)) ∧
    (∀ (l : List St), ssz l ≤ k → (∀ lv a, chkSs (erS l) lv a = chkSs l lv a) ∧ (∀ n, cntSs (erS l) n = cntSs l n)) ∧
    (∀ (l : List Ca), csz l ≤ k → (∀ lv a, chkCs (erC l) lv a = chkCs l lv a) ∧ (∀ n, cntCs (erC l) n = cntCs l n)) := by
  induction k with
  | zero =>
    refine ⟨fun s hk => by have := s.sz_eq; omega, fun l hk => ?_, fun l hk => ?_⟩
    · cases l with
      | nil => exact ⟨fun _ _ => rfl, fun _ => rfl⟩
      | cons x r => rw [ssz] at hk; have := x.sz_eq; omega
    · cases l with
      | nil => exact ⟨fun _ _ => rfl, fun _ => rfl⟩
      | cons x r => rw [csz] at hk; have := x.sz_eq; omega
  | succ k ih =>
    have h1 : ∀ (s : St), s.sz ≤ k + 1 → (∀ lv a, chkT s.er lv a = chkT s lv a) ∧ (∀ n, cntS s.er n = cntS s n) := fun s hk => by
      have hz := s.sz_eq
      obtain ⟨b1, b2⟩ := ih.2.1 s.body (by omega)
      obtain ⟨e1, e2⟩ := ih.2.1 s.els (by omega)
      obtain ⟨c1, c2⟩ := ih.2.2 s.cases (by omega)
      refine ⟨fun lv a => ?_, fun n => ?_⟩
      · rw [chkT_eq2, chkT_eq2 s, chkS_er, s.er_body, s.er_els, s.er_cases]
        simp only [b1, c1, e1]
      · rw [cntS_eq2, cntS_eq2 s, s.er_body, s.er_els, s.er_cases, s.er_a, s.er_b, cntZ_er, cntZ_er, erC_length, b2, c2, e2]
    refine ⟨h1, fun l => ?_, fun l => ?_⟩
    · induction l with
      | nil => intro _; exact ⟨fun _ _ => rfl, fun _ => rfl⟩
      | cons x r ihr =>
        intro hk
        rw [ssz] at hk
        obtain ⟨a1, a2⟩ := h1 x (by omega)
        obtain ⟨b1, b2⟩ := ihr (by omega)
        refine ⟨fun lv a => ?_, fun n => ?_⟩
        · rw [erS, chkSs, chkSs]; simp only [a1, b1]
        · rw [erS, cntSs, cntSs]; simp only [a2, b2]
    · induction l with
      | nil => intro _; exact ⟨fun _ _ => rfl, fun _ => rfl⟩
      | cons c r ihr =>
        intro hk
        rw [csz] at hk
        obtain ⟨a1, a2⟩ := ih.2.1 c.body (by have := c.sz_eq; omega)
        obtain ⟨b1, b2⟩ := ihr (by omega)
        refine ⟨fun lv a => ?_, fun n => ?_⟩
        · rw [erC, chkCs, chkCs, chkCa_eq, chkCa_eq, c.er_body]; simp only [a1, b1]
        · rw [erC, cntCs, cntCs, cntC_eq, cntC_eq, c.er_body]; simp only [a2, b2]
theorem Fu.er_chk2 (f : Fu) : chkF f.er = chkF f := by
  have := ((stc_er _).2.1 f.body (Nat.le_refl _)).1
  unfold chkF headZ
  show (if (if nameZ f.name = false then (8 : Int) else if 8 < f.params.length then 3 else parsZ f.params) ≠ 0 then ((if nameZ f.name = false then (8 : Int) else if 8 < f.params.length then 3 else parsZ f.params), 0) else chkSs (erS f.body) 1 0) = _
  rw [this]
theorem fsc_er : ∀ (l : List Fu), (∀ i, chkFs (l.map Fu.er) i = chkFs l i) ∧ (∀ n, cntF (l.map Fu.er) n = cntF l n)
  | [] => ⟨fun _ => rfl, fun _ => rfl⟩
  | f :: r => by
    obtain ⟨b1, b2⟩ := fsc_er r
    refine ⟨fun i => ?_, fun n => ?_⟩
    · rw [List.map_cons, chkFs, chkFs, f.er_chk2, b1]
    · rw [List.map_cons, cntF, cntF, b2]
      congr 1
      exact ((stc_er _).2.1 f.body (Nat.le_refl _)).2 n
theorem Pr.er_chk (p : Pr) : checkZ p.er = checkZ p := by
  obtain ⟨b1, b2⟩ := fsc_er p.funcs
  have hn : nodesZ p.er = nodesZ p := by
    show min (cntF (p.funcs.map Fu.er) 0) 4097 = _
    rw [b2]; rfl
  have hw : wholeZ p.er = wholeZ p := by
    have e1 : p.er.widen = p.widen := rfl
    have e2 : p.er.funcs.length = p.funcs.length := List.length_map ..
    unfold wholeZ
    rw [hn, e1, e2]
  unfold checkZ
  rw [hw]
  show (if wholeZ p ≠ 0 then _ else chkFs (p.funcs.map Fu.er) 0) = _
  rw [b1]
mutual
theorem exZ_er (env : Env) (ft : List (List UInt8 × Int)) : ∀ x : Ex, exZ env ft x.er = exZ env ft x
  | .mk k n s a c l => by rw [Ex.er, exZ, exZ, exLZ_er env ft l]
theorem exLZ_er (env : Env) (ft : List (List UInt8 × Int)) : ∀ l : List Ex, exLZ env ft (erL l) = exLZ env ft l
  | [] => rfl
  | x :: r => by rw [erL, exLZ, exLZ, exZ_er env ft x, exLZ_er env ft r]
end
mutual
theorem exC_er (ft : List (List UInt8 × Int)) : ∀ x : Ex, exC ft x.er = exC ft x
  | .mk k n s a c l => by rw [Ex.er, exC, exC, exLC_er ft l]
theorem exLC_er (ft : List (List UInt8 × Int)) : ∀ l : List Ex, exLC ft (erL l) = exLC ft l
  | [] => rfl
  | x :: r => by rw [erL, exLC, exLC, exC_er ft x, exLC_er ft r]
end
mutual
theorem stS_er (ft : List (List UInt8 × Int)) : ∀ (s : St) (env : Env) (m : Int), stS ft s.er env m = stS ft s env m
  | .mk k nm n a b ba bc l ea ec e ca cc c, env, m => by
    have h1 := fun env m => lsS_er ft l env m
    have h2 := fun env m => lsS_er ft e env m
    have h3 := fun env m => csS_er ft c env m
    rw [St.er, stS, stS]
    simp only [exZ_er, exC_er, h1, h2, h3]
theorem lsS_er (ft : List (List UInt8 × Int)) : ∀ (l : List St) (env : Env) (m : Int), lsS ft (erS l) env m = lsS ft l env m
  | [], env, m => rfl
  | s :: r, env, m => by
    have h1 := fun env m => stS_er ft s env m
    have h2 := fun env m => lsS_er ft r env m
    rw [erS, lsS, lsS]
    simp only [h1, h2]
theorem caS_er (ft : List (List UInt8 × Int)) : ∀ (c : Ca) (env : Env) (m : Int), caS ft c.er env m = caS ft c env m
  | .mk n ba bc l, env, m => by
    have h1 := fun env m => lsS_er ft l env m
    rw [Ca.er, caS, caS, h1]
theorem csS_er (ft : List (List UInt8 × Int)) : ∀ (l : List Ca) (env : Env) (m : Int), csS ft (erC l) env m = csS ft l env m
  | [], env, m => rfl
  | c :: r, env, m => by
    have h1 := fun env m => caS_er ft c env m
    have h2 := fun env m => csS_er ft r env m
    rw [erC, csS, csS]
    simp only [h1, h2]
end
theorem fnS_er (ft : List (List UInt8 × Int)) (f : Fu) : fnS ft f.er = fnS ft f := by
  unfold fnS
  show (if tabHas ft f.name.data.toList = true then _ else if (paS f.params [(false, [])]).1 ≠ 0 then _ else lsS ft (erS f.body) (paS f.params [(false, [])]).2 0) = _
  rw [lsS_er]
  rfl
theorem ftK_er (fs : List Fu) : ∀ k, ftK (fs.map Fu.er) k = ftK fs k
  | 0 => rfl
  | k + 1 => by
    rw [ftK, ftK, ftK_er fs k, List.getElem?_map]
    cases fs[k]? <;> rfl
theorem fnK_er (fs : List Fu) (k : Nat) (f : Fu) : fnK (fs.map Fu.er) k f.er = fnK fs k f := by unfold fnK; rw [ftK_er, fnS_er]
theorem lkZ_er (fs : List Fu) : ∀ (l : List Fu) (k : Nat), lkZ (fs.map Fu.er) (l.map Fu.er) k = lkZ fs l k
  | [], k => rfl
  | f :: r, k => by rw [List.map_cons, lkZ, lkZ, fnK_er, lkZ_er fs r]
theorem Pr.er_nam (p : Pr) : namZ p.er = namZ p := by
  unfold namZ
  rw [p.er_chk]
  show (if (checkZ p).1 ≠ 0 then checkZ p else lkZ (p.funcs.map Fu.er) (p.funcs.map Fu.er) 0) = _
  rw [lkZ_er]
theorem Pr.er_cl (p : Pr) (i : Int) : clN p.er i = clN p i := by
  unfold clN
  have e2 : p.er.funcs.length = p.funcs.length := List.length_map ..
  rw [p.er_nam, e2]
  congr 1
  show (match (p.funcs.map Fu.er)[i.toNat]? with | some f => Lib.compact (sortI (fnK (p.funcs.map Fu.er) i.toNat f).c) | none => []) = _
  rw [List.getElem?_map]
  cases p.funcs[i.toNat]? with
  | none => rfl
  | some f => show Lib.compact (sortI (fnK (p.funcs.map Fu.er) i.toNat f.er).c) = _; rw [fnK_er]
/-- Programs that are alike but for their addresses are answered alike. -/
theorem er_names {p q : Pr} (h : p.er = q.er) : checkZ p = checkZ q ∧ namZ p = namZ q ∧ ∀ i, clN p i = clN q i :=
  ⟨by rw [← p.er_chk, h, q.er_chk], by rw [← p.er_nam, h, q.er_nam], fun i => by rw [← p.er_cl, h, q.er_cl]⟩
end Go.Proofs.YtakaldbhaoidiaaDoor

/- Rows that lie in a block; small numbers; the zero expression. -/
namespace Go.Proofs.YtakaldbhaoidiaaDoor
open Go.RowKit Go.Sort

def zEx : Ex := .mk 0 0 ⟨#[]⟩ none 0 []
theorem flat_at (sz : Nat) : ∀ (rows : List (List Value)), (∀ r ∈ rows, r.length = sz) → ∀ (i j : Nat) cs v, rows[i]? = some cs → cs[j]? = some v → rows.flatten[i * sz + j]? = some v
  | [], _, i, j, cs, v, hi, _ => by simp at hi
  | r :: rs, h, 0, j, cs, v, hi, hj => by
    simp only [List.getElem?_cons_zero, Option.some.injEq] at hi
    subst hi
    have hlt := (List.getElem?_eq_some_iff.1 hj).1
    rw [List.flatten_cons, Nat.zero_mul, Nat.zero_add, List.getElem?_append_left hlt]; exact hj
  | r :: rs, h, i + 1, j, cs, v, hi, hj => by
    have hr := h r (by simp)
    rw [List.flatten_cons, List.getElem?_append_right (by rw [hr, Nat.succ_mul]; omega), hr, show (i + 1) * sz + j - sz = i * sz + j from by rw [Nat.succ_mul]; omega]
    exact flat_at sz rs (fun x hx => h x (by simp [hx])) i j cs v (by simpa using hi) hj
theorem rowIn_block {W : World} {g sz : Nat} {rows : List (List Value)} {arr : Array Value} {t : TypeId} {fz : Nat × Nat} (h : W.heap[g]? = some (.cells arr t fz)) (hf : arr.toList = rows.flatten ∨ ∃ rest, arr.toList = rows.flatten ++ rest) (hl : ∀ r ∈ rows, r.length = sz) : RowIn W (some ⟨g, 0, none⟩) sz rows := by
  intro i cs hi
  refine ⟨g, 0, rfl, fun j v hj => ?_⟩
  have h1 := flat_at sz rows hl i j cs v hi hj
  rw [Lib.cell_of_heap h, Nat.zero_add, ← Array.getElem?_toList]
  rcases hf with hf | ⟨rest, hf⟩
  · rw [hf]; exact h1
  · rw [hf, List.getElem?_append_left (List.getElem?_eq_some_iff.1 h1).1]; exact h1
theorem rowIn_nil {W : World} {a : Option Addr} {sz : Nat} : RowIn W a sz [] := fun i cs h => by simp at h

theorem i0 : I64 0 := ⟨by decide, by decide⟩
theorem i1 : I64 1 := ⟨by decide, by decide⟩
theorem i2 : I64 2 := ⟨by decide, by decide⟩
theorem i5 : I64 5 := ⟨by decide, by decide⟩
theorem i9 : I64 9 := ⟨by decide, by decide⟩
theorem i10 : I64 10 := ⟨by decide, by decide⟩
theorem im5 : I64 (-5) := ⟨by decide, by decide⟩
theorem n0 : (0 : Nat) ≤ 140737488351232 := by decide
theorem n1 : (1 : Nat) ≤ 140737488351232 := by decide
theorem lenE (l : List Ex) : ∀ r ∈ l.map Ex.cells, r.length = 4 := by intro r hr; obtain ⟨x, _, rfl⟩ := List.mem_map.1 hr; rfl
theorem lenS (l : List St) : ∀ r ∈ l.map St.cells, r.length = 14 := by intro r hr; obtain ⟨x, _, rfl⟩ := List.mem_map.1 hr; rfl
theorem lenP (l : List Pa) : ∀ r ∈ l.map Pa.cells, r.length = 3 := by intro r hr; obtain ⟨x, _, rfl⟩ := List.mem_map.1 hr; rfl
theorem lenF (l : List Fu) : ∀ r ∈ l.map Fu.cells, r.length = 3 := by intro r hr; obtain ⟨x, _, rfl⟩ := List.mem_map.1 hr; rfl
theorem lenI (l : List Int) : ∀ r ∈ l.map (fun z => ([.int .i64 z] : List Value)), r.length = 1 := by intro r hr; obtain ⟨x, _, rfl⟩ := List.mem_map.1 hr; rfl
theorem zEx_in (W : World) : zEx.In W := Ex.in_iff.2 ⟨i0, i0, n0, Nat.le_refl _, n0, fun _ => rfl, rowIn_nil, fun y hy => by cases hy⟩
theorem have_nil (W : World) : Have W none 0 [] := ⟨⟨Nat.le_refl _, n0, fun _ => rfl, rowIn_nil⟩, fun y hy => by cases hy⟩
end Go.Proofs.YtakaldbhaoidiaaDoor

/- The programs of the statements' first question (layer 4), and what the plain functions say of them. -/
namespace Go.Proofs.YtakaldbhaoidiaaDoor
open Go.RowKit Go.Sort

/-- A call of a function without arguments, as a statement. -/
def lcE (s : ByteArray) : Ex := .mk 4 0 s none 0 []
def lcS (s : ByteArray) : St := .mk 10 ⟨#[]⟩ 0 (lcE s) zEx none 0 [] none 0 [] none 0 []
def pF : Fu := ⟨⟨#[102]⟩, none, 0, [], none, 0, []⟩
def pG (G : Nat) : Fu := ⟨⟨#[103]⟩, none, 0, [], some ⟨G, 0, none⟩, 2, [lcS ⟨#[102]⟩, lcS ⟨#[102]⟩]⟩
def qF (G : Nat) : Fu := ⟨⟨#[102]⟩, none, 0, [], some ⟨G, 0, none⟩, 1, [lcS ⟨#[102]⟩]⟩
def awP (G F : Nat) : Pr := ⟨none, 0, [], some ⟨F, 0, none⟩, 2, [pF, pG G]⟩
def awQ (G F : Nat) : Pr := ⟨none, 0, [], some ⟨F, 0, none⟩, 1, [qF G]⟩
theorem aw_np (G F : Nat) : namZ (awP G F) = (0, 0, 0) := by kernel_rfl
theorem aw_nq (G F : Nat) : namZ (awQ G F) = (8, 0, 1) := by kernel_rfl
theorem aw_c (G F : Nat) : (fnK (awP G F).funcs 1 (pG G)).c = [0, 0] := by kernel_rfl
theorem sort00 : sortI [0, 0] = [0, 0] := List.mergeSort_of_pairwise (by simp)
theorem compact00 : Lib.compact ([0, 0] : List Int) = [0] := by kernel_rfl
theorem aw_cl (G F : Nat) : clN (awP G F) 1 = [0] := by
  unfold clN
  rw [aw_np]
  show (if (0 : Int) ≠ 0 ∨ (1 : Int) < 0 ∨ (2 : Int) ≤ 1 then [] else Lib.compact (sortI (fnK (awP G F).funcs 1 (pG G)).c)) = _
  rw [if_neg (by omega), aw_c, sort00, compact00]
end Go.Proofs.YtakaldbhaoidiaaDoor

/- A function's body within an if: what names' looks come to. -/
namespace Go.Proofs.YtakaldbhaoidiaaDoor
open Go.RowKit Go.Sort

/-- Scopes in which the same is known. -/
def EnvEq (env env' : Env) : Prop := env ≠ [] ∧ env' ≠ [] ∧ (∀ s, envAt env s = envAt env' s) ∧ lvZ env = lvZ env'
theorem EnvEq.push {env env' : Env} (h : EnvEq env env') (fl : Bool) : EnvEq ((fl, []) :: env) ((fl, []) :: env') := ⟨by simp, by simp, fun s => h.2.2.1 s, rfl⟩
theorem dcEnv_at {env : Env} (h : env ≠ []) (s t : List UInt8) (k : Int) : envAt (dcEnv env s k) t = if envAt env s ≠ 0 then envAt env t else if s = t then k else envAt env t := by
  unfold dcEnv
  split
  · rfl
  · match env, h with
    | f :: r, _ =>
      rw [envPut, envAt, envAt, tabHas_cons, tabAt_cons]
      by_cases e : s = t
      · rw [if_pos e, if_pos e, if_pos e]; rfl
      · rw [if_neg e, if_neg e, if_neg e]
theorem dcEnv_lv (env : Env) (s : List UInt8) (k : Int) : lvZ (dcEnv env s k) = lvZ env := by
  unfold dcEnv
  split
  · rfl
  · cases env <;> rfl
theorem dcEnv_ne {env : Env} (h : env ≠ []) (s : List UInt8) (k : Int) : dcEnv env s k ≠ [] := by
  unfold dcEnv
  split
  · exact h
  · cases env with
    | nil => exact absurd rfl h
    | cons f r => simp [envPut]
theorem EnvEq.dc {env env' : Env} (h : EnvEq env env') (s : List UInt8) (k : Int) : EnvEq (dcEnv env s k) (dcEnv env' s k) := by
  obtain ⟨h1, h2, h3, h4⟩ := h
  exact ⟨dcEnv_ne h1 s k, dcEnv_ne h2 s k, fun t => by rw [dcEnv_at h1, dcEnv_at h2, h3, h3], by rw [dcEnv_lv, dcEnv_lv, h4]⟩
mutual
theorem exZ_env {env env' : Env} (h : ∀ s, envAt env s = envAt env' s) (ft : List (List UInt8 × Int)) : ∀ x : Ex, exZ env' ft x = exZ env ft x
  | .mk k n s a c l => by
    have : nmZ env' ft k s.data.toList = nmZ env ft k s.data.toList := by unfold nmZ; rw [h]
    rw [exZ, exZ, this, exLZ_env h ft l]
theorem exLZ_env {env env' : Env} (h : ∀ s, envAt env s = envAt env' s) (ft : List (List UInt8 × Int)) : ∀ l : List Ex, exLZ env' ft l = exLZ env ft l
  | [] => rfl
  | x :: r => by rw [exLZ, exLZ, exZ_env h ft x, exLZ_env h ft r]
end
/-- The same, but for the statements' numbers. -/
def SEq (d : Int) (R R' : SR) : Prop := R'.e = R.e ∧ R'.m = R.m + d ∧ R'.c = R.c ∧ EnvEq R.env R'.env
set_option maxHeartbeats 4000000 in
mutual
theorem stS_env (ft : List (List UInt8 × Int)) (d : Int) : ∀ (s : St) (env env' : Env) (m : Int), EnvEq env env' → SEq d (stS ft s env m) (stS ft s env' (m + d))
  | .mk k nm n a b ba bc l ea ec e ca cc c, env, env', m, h => by
    have hz : ∀ x, exZ env' ft x = exZ env ft x := exZ_env h.2.2.1 ft
    have hd : dcZ env' nm.data.toList = dcZ env nm.data.toList := by unfold dcZ; rw [h.2.2.1]
    have hd3 : dcZ ((true, []) :: env') nm.data.toList = dcZ ((true, []) :: env) nm.data.toList := hd
    have hat : envAt env' nm.data.toList = envAt env nm.data.toList := (h.2.2.1 _).symm
    have hl := h.2.2.2
    have h1 := lsS_env ft d l _ _ m (h.push (lvZ env == 0))
    have h2 := csS_env ft d c env env' (lsS ft l ((lvZ env == 0, []) :: env) m).m h
    have h3 := lsS_env ft d e _ _ (csS ft c env (lsS ft l ((lvZ env == 0, []) :: env) m).m).m (h.push (lvZ env == 0))
    have h4 := lsS_env ft d l _ _ m ((h.push true).dc nm.data.toList 3)
    rw [stS, stS, hz, hz, hd, hd3, hat, ← hl]
    obtain ⟨a1, a2, a3, a4⟩ := h1
    rw [a1, a2, a3]
    obtain ⟨b1, b2, b3, b4⟩ := h2
    rw [b1, b2, b3]
    obtain ⟨c1, c2, c3, c4⟩ := h3
    rw [c1, c2, c3]
    obtain ⟨d1, d2, d3, d4⟩ := h4
    rw [d1, d2, d3]
    split
    · exact ⟨rfl, rfl, rfl, h.dc _ _⟩
    split
    · exact ⟨rfl, rfl, rfl, h.dc _ _⟩
    split
    · exact ⟨rfl, rfl, rfl, h⟩
    split
    · exact ⟨rfl, rfl, rfl, h⟩
    split
    · split
      · exact ⟨rfl, rfl, rfl, h⟩
      split
      · exact ⟨rfl, rfl, rfl, h⟩
      split
      · exact ⟨rfl, rfl, rfl, h⟩
      · exact ⟨rfl, rfl, rfl, h⟩
    split
    · split
      · exact ⟨rfl, rfl, rfl, h⟩
      · exact ⟨rfl, rfl, rfl, h⟩
    split
    · exact ⟨rfl, rfl, rfl, h⟩
    · exact ⟨rfl, rfl, rfl, h⟩
theorem lsS_env (ft : List (List UInt8 × Int)) (d : Int) : ∀ (l : List St) (env env' : Env) (m : Int), EnvEq env env' → SEq d (lsS ft l env m) (lsS ft l env' (m + d))
  | [], env, env', m, h => by rw [lsS, lsS]; exact ⟨rfl, rfl, rfl, h⟩
  | s :: r, env, env', m, h => by
    have h1 := stS_env ft d s env env' (m + 1) h
    have h2 := lsS_env ft d r _ _ (stS ft s env (m + 1)).m h1.2.2.2
    rw [lsS, lsS, show m + d + 1 = m + 1 + d by omega]
    have h1' := h1
    obtain ⟨a1, a2, a3, a4⟩ := h1
    rw [← a2] at h2
    obtain ⟨b1, b2, b3, b4⟩ := h2
    rw [a1, b1, b2, b3, a3]
    split
    · exact h1'
    · exact ⟨rfl, rfl, rfl, b4⟩
theorem caS_env (ft : List (List UInt8 × Int)) (d : Int) : ∀ (c : Ca) (env env' : Env) (m : Int), EnvEq env env' → (caS ft c env' (m + d)).e = (caS ft c env m).e ∧ (caS ft c env' (m + d)).m = (caS ft c env m).m + d ∧ (caS ft c env' (m + d)).c = (caS ft c env m).c
  | .mk n ba bc l, env, env', m, h => by
    have h1 := lsS_env ft d l _ _ m (h.push (lvZ env == 0))
    rw [caS, caS, ← h.2.2.2]
    exact ⟨h1.1, h1.2.1, h1.2.2.1⟩
theorem csS_env (ft : List (List UInt8 × Int)) (d : Int) : ∀ (l : List Ca) (env env' : Env) (m : Int), EnvEq env env' → SEq d (csS ft l env m) (csS ft l env' (m + d))
  | [], env, env', m, h => by rw [csS, csS]; exact ⟨rfl, rfl, rfl, h⟩
  | c :: r, env, env', m, h => by
    have h1 := caS_env ft d c env env' m h
    have h2 := csS_env ft d r env env' (caS ft c env m).m h
    rw [csS, csS]
    obtain ⟨a1, a2, a3⟩ := h1
    rw [a1, a2, a3]
    obtain ⟨b1, b2, b3, b4⟩ := h2
    rw [b1, b2, b3]
    split
    · exact ⟨rfl, rfl, rfl, h⟩
    · exact ⟨rfl, rfl, rfl, h⟩
end
theorem lsS_pos (ft : List (List UInt8 × Int)) (l : List St) (env : Env) (h : (lsS ft l env 0).e ≠ 0) : 0 < (lsS ft l env 0).m := by
  cases l with
  | nil => rw [lsS] at h; exact absurd rfl h
  | cons s r =>
    have h1 := stS_m ft s env (0 + 1)
    have h2 := lsS_m ft r (stS ft s env (0 + 1)).env (stS ft s env (0 + 1)).m
    rw [lsS]
    split
    · omega
    · show 0 < (lsS ft r (stS ft s env (0 + 1)).env (stS ft s env (0 + 1)).m).m
      omega
/-- A body within an if. -/
def wNum : Ex := .mk 1 1 ⟨#[]⟩ none 0 []
def wS (ba : Option Addr) (bc : Nat) (l : List St) : St := .mk 5 ⟨#[]⟩ 0 wNum zEx ba bc l none 0 [] none 0 []
def Fu.wrap (f : Fu) (a : Option Addr) (c : Nat) : Fu := ⟨f.name, f.pa, f.pc, f.params, a, c, [wS f.ba f.bc f.body]⟩
theorem fn_wrap (ft : List (List UInt8 × Int)) (f : Fu) (a : Option Addr) (c : Nat) : (fnS ft (f.wrap a c)).e = (fnS ft f).e ∧ (fnS ft (f.wrap a c)).c = (if (fnS ft f).e = 0 then (fnS ft f).c else []) ∧ ((fnS ft f).e ≠ 0 → (fnS ft (f.wrap a c)).m = if 0 < (fnS ft f).m then (fnS ft f).m + 1 else (fnS ft f).m) := by
  unfold fnS
  show (if tabHas ft f.name.data.toList = true then (⟨9, 0, [], []⟩ : SR) else if (paS f.params [(false, [])]).1 ≠ 0 then _ else lsS ft [wS f.ba f.bc f.body] (paS f.params [(false, [])]).2 0).e = _ ∧ (if tabHas ft f.name.data.toList = true then (⟨9, 0, [], []⟩ : SR) else if (paS f.params [(false, [])]).1 ≠ 0 then _ else lsS ft [wS f.ba f.bc f.body] (paS f.params [(false, [])]).2 0).c = _ ∧ (_ → (if tabHas ft f.name.data.toList = true then (⟨9, 0, [], []⟩ : SR) else if (paS f.params [(false, [])]).1 ≠ 0 then _ else lsS ft [wS f.ba f.bc f.body] (paS f.params [(false, [])]).2 0).m = _)
  split
  · exact ⟨rfl, rfl, fun _ => rfl⟩
  split
  · rename_i h0
    exact ⟨rfl, (by first | rfl | rw [if_neg h0]), fun _ => rfl⟩
  · obtain ⟨f', _, _, hp⟩ := paS_tail f.params (false, []) []
    rw [hp]
    have hq : EnvEq (f' :: []) ((lvZ (f' :: []) == 0, []) :: f' :: []) := by
      refine ⟨by simp, by simp, fun s => rfl, ?_⟩
      obtain ⟨fb, fl⟩ := f'
      cases fb <;> rfl
    have hE := lsS_env ft 1 f.body _ _ 0 hq
    have hpos := lsS_pos ft f.body (f' :: [])
    have hw : stS ft (wS f.ba f.bc f.body) (f' :: []) (0 + 1) = (if (lsS ft f.body ((lvZ (f' :: []) == 0, []) :: f' :: []) (0 + 1)).e ≠ 0 then ⟨(lsS ft f.body ((lvZ (f' :: []) == 0, []) :: f' :: []) (0 + 1)).e, (lsS ft f.body ((lvZ (f' :: []) == 0, []) :: f' :: []) (0 + 1)).m, f' :: [], []⟩ else ⟨0, (lsS ft f.body ((lvZ (f' :: []) == 0, []) :: f' :: []) (0 + 1)).m, f' :: [], (lsS ft f.body ((lvZ (f' :: []) == 0, []) :: f' :: []) (0 + 1)).c⟩) := by
      unfold wS wNum
      rw [stS, if_neg (by decide), if_neg (by decide), if_neg (by decide), if_neg (by decide), if_pos (by decide)]
      have hx : exZ (f' :: []) ft (.mk 1 1 ⟨#[]⟩ none 0 []) = 0 := by rw [exZ]; rfl
      have hc : exC ft (.mk 1 1 ⟨#[]⟩ none 0 []) = [] := by rw [exC]; rfl
      rw [hx, hc, if_neg (by simp)]
      split
      · rfl
      · rw [csS, lsS, if_neg (by simp)]
        simp
    rw [lsS, hw]
    generalize lsS ft f.body ((lvZ (f' :: []) == 0, []) :: f' :: []) (0 + 1) = T at *
    generalize lsS ft f.body (f' :: []) 0 = L at *
    obtain ⟨a1, a2, a3, _⟩ := hE
    by_cases h0 : T.e = 0
    · rw [if_neg (show ¬ T.e ≠ 0 by simpa using h0)]
      rw [if_neg (by simp), lsS]
      rw [h0] at a1
      refine ⟨a1, ?_, fun h => absurd a1.symm h⟩
      rw [← a1, if_pos rfl, a3]
      simp
    · rw [if_pos (show T.e ≠ 0 from h0), if_pos (show T.e ≠ 0 from h0)]
      rw [a1] at h0 ⊢
      refine ⟨rfl, by rw [if_neg h0], fun _ => ?_⟩
      rw [if_pos (hpos h0)]
      exact a2
end Go.Proofs.YtakaldbhaoidiaaDoor

/- Two faults held against each other; blocks that stay. -/
namespace Go.Proofs.YtakaldbhaoidiaaDoor
open Go.RowKit Go.Sort

theorem equalIn_flt (a b c a' b' c' : Int) (w : World) : (Op.equalIn 10000 29 (fltV a b c) (fltV a' b' c')).run Tryd.prog w = .ok (a == a' && (b == b' && c == c')) w := by
  have u3 := Tryd.underlying3
  have a3 := Tryd.isAgg3
  have z3 := Tryd.sizeOf3
  have u31 := Tryd.underlying27
  have a31 := Tryd.isAgg27
  have z31 := Tryd.sizeOf27
  have hS : Tryd.prog.underlying 29 = some (.struct (Tryd.prog.fieldsOf 29)) := by kernel_rfl
  have hp : Tryd.prog.stoodInHeld 29 = false := by kernel_rfl
  unfold fltV
  rw [show (10000 : Nat) = 9999 + 1 from rfl, run_equalIn_agg w 9999 29 _ _ hS hp]
  simp only [Program.fieldsOf, Tryd.underlying29]
  go_simp
  by_cases h1 : a = a' <;> by_cases h2 : b = b' <;> by_cases h3 : c = c' <;> simp [h1, h2, h3]

theorem keep_heap {W : World} {k : Nat} {o : Obj} (h : W.heap[k]? = some o) (o' : Obj) : (W.alloc o').heap[k]? = some o := (Lib.alloc_old W o' k (Array.getElem?_eq_some_iff.1 h).1).trans h
theorem new_heap {W : World} {k : Nat} (o : Obj) (h : W.heap.size = k) : (W.alloc o).heap[k]? = some o := by rw [← h]; exact heap_alloc_new W o
theorem eqGuard_flt (w : World) (op : BinOp) (a b : Operand) (xs ys : Array Value) : (eqGuard op 29 a b (.agg xs) (.agg ys)).run Tryd.prog w = .ok () w := run_eqGuard_agg w op 29 a b xs ys (by kernel_rfl)
theorem Below.on {A B C : World} (h : Below A.heap.size A B) (k : Below B.heap.size B C) : Below A.heap.size A C := h.trans (k.mono h.size)
theorem Below.one {A B : World} (h : Below A.heap.size A B) (o : Obj) : Below A.heap.size A (B.alloc o) := h.alloc h.size o
/-- Of a world W0 that is behind: what its blocks hold is told in every world behind it. -/
theorem seen {W0 : World} {p : Addr} {v : Value} (h : W0.cell? p = some v) : ∀ w', Below W0.heap.size W0 w' → w'.cell? p = some v := fun _ hb => (hb.cell (lt_of_cell h)).trans h
end Go.Proofs.YtakaldbhaoidiaaDoor

/- The document's own copies: expressions. -/
namespace Go.Proofs.YtakaldbhaoidiaaDoor
open Go.RowKit

theorem Tryd.infoEx : (Tryd.prog.info? 40).map (fun i => (i.zero, i.size, i.bytes)) = some (some (.agg #[.int .i64 0, .int .i64 0, .string ⟨#[]⟩, .slice none 0 0]), 4, 56) := by kernel_rfl

/- No list has more than 2^20 elements. -/
mutual
def Ex.Few : Ex → Prop | .mk _ _ _ _ _ l => l.length ≤ 1048576 ∧ FewL l
def FewL : List Ex → Prop | [] => True | x :: r => x.Few ∧ FewL r
end
theorem fewL_mem {l : List Ex} : FewL l ↔ ∀ x ∈ l, x.Few := by induction l <;> simp_all [FewL]
theorem Ex.few_iff {x : Ex} : x.Few ↔ x.args.length ≤ 1048576 ∧ ∀ y ∈ x.args, y.Few := by cases x; simp only [Ex.Few, Ex.args, fewL_mem]

theorem owns_heap {W W' : World} {base : Nat} {e : TypeId} {sz G n cap : Nat} {xs : List Value} (h : W.ownsRow base e sz (.slice (some ⟨G, 0, none⟩) n cap) n xs) (hk : W'.heap[G]? = W.heap[G]?) : W'.ownsRow base e sz (.slice (some ⟨G, 0, none⟩) n cap) n xs := by
  refine ⟨h.1, ?_⟩
  rcases h.2 with h | ⟨g, cap, cur, h1, h2, h3, h4⟩
  · exact .inl h
  · cases h1
    exact .inr ⟨_, _, cur, rfl, h2, hk.trans h3, h4⟩
theorem owns_lt {W : World} {base : Nat} {e : TypeId} {sz G n cap : Nat} {xs : List Value} (h : W.ownsRow base e sz (.slice (some ⟨G, 0, none⟩) n cap) n xs) : G < W.heap.size := by
  rcases h.2 with ⟨h, _⟩ | ⟨g, cap, cur, h1, h2, h3, _⟩
  · cases h
  · cases h1; exact (Array.getElem?_eq_some_iff.1 h3).1
/-- A row that is full is its block. -/
theorem owns_full {W : World} {base : Nat} {e : TypeId} {sz G n : Nat} {xs : List Value} (h : W.ownsRow base e sz (.slice (some ⟨G, 0, none⟩) n n) n xs) : W.heap[G]? = some (.cells ⟨xs⟩ e (0, 0)) := by
  rcases h.2 with ⟨h, _⟩ | ⟨g, cap, cur, h1, h2, h3, h4, h5, h6, h7⟩
  · cases h
  · cases h1
    rw [h3]
    congr 2
    rw [← h7, List.take_of_length_le (by rw [Array.length_toList, h6]; exact Nat.le_refl _)]
theorem set_cell {W : World} {b : Nat} {cs : Array Value} {T : TypeId} {fz : Nat × Nat} (h : W.heap[b]? = some (.cells cs T fz)) (i : Nat) (v : Value) : (W.setCell ⟨b, i, none⟩ v).heap[b]? = some (.cells (cs.setIfInBounds i v) T fz) := by
  simp [World.setCell, Array.getElem?_modify, h]
theorem erL_len {l t : List Ex} (h : erL l = erL t) : l.length = t.length := by
  have := congrArg List.length h
  simpa [erL_map] using this

/-- What comes of a list of expressions. -/
def CpR (w w' : World) (l : List Ex) (e : Ending) : Prop := ∃ (g : Nat) (l' : List Ex), e = .returned (.slice (some ⟨g, 0, none⟩) l.length (l.length + 1)) ∧ RowCp w' (some ⟨g, 0, none⟩) (l.length + 1) l'.length 56 40 (l'.flatMap Ex.cells ++ senE) ∧ (∀ x ∈ l', x.Cp w') ∧ erL l' = erL l ∧ (g :: blL l').Nodup ∧ (∀ b ∈ g :: blL l', w.heap.size ≤ b ∧ b < w'.heap.size)

set_option maxRecDepth 100000 in
set_option maxHeartbeats 8000000 in
theorem exprsOf_step (n : Nat) (ih : ∀ (l : List Ex) (a : Option Addr) (c : Nat) (w : World), szL l < n → HaveE w a c l → l.length ≤ 1048576 → (∀ x ∈ l, x.Few) → Calls Tryd.prog 19 #[.slice a l.length c] w fun e w' => CpR w w' l e ∧ Below w.heap.size w w')
    (l : List Ex) (a : Option Addr) (c : Nat) (w : World) (hk : szL l ≤ n) (hin : HaveE w a c l) (hf0 : l.length ≤ 1048576) (hf : ∀ x ∈ l, x.Few) :
    Calls Tryd.prog 19 #[.slice a l.length c] w fun e w' => CpR w w' l e ∧ Below w.heap.size w w' := by
  obtain ⟨i0, hi, hz0, hz1, hz2⟩ := info_parts Tryd.infoEx
  have HI : Hid (Tryd.prog.info? 40 = some i0) := hi
  have IH : Hid (∀ (l : List Ex) (a : Option Addr) (c : Nat) (w : World), szL l < n → HaveE w a c l → l.length ≤ 1048576 → (∀ x ∈ l, x.Few) → Calls Tryd.prog 19 #[.slice a l.length c] w fun e w' => CpR w w' l e ∧ Below w.heap.size w w') := ih
  have HA : Hid (HaveE w a c l) := hin
  have hl := hin.1
  have hc := hin.2.1
  have HK : Hid (szL l ≤ n) := hk
  have HF : Hid (∀ x ∈ l, x.Few) := hf
  clear ih hin hk hf hi
  go_enter Tryd.func19, Tryd.ntmps19
  go_wp2_with (at_make; refine wpList_make_own _ rfl _ _ 38 rfl w.heap.size 40 i0 _ 4 Tryd.underlying38 HI.out hz0 hz1 _ _ _ (l.length + 1) rfl rfl (by omega) (by rw [hz2]; omega) (by unfold maxLen; omega) (Nat.le_refl _) ?_; intro w0 hown0 hgrow0)
  obtain ⟨G, hG⟩ : ∃ G, w.heap.size = G := ⟨_, rfl⟩
  have hb0 : Below w.heap.size w w0 := (Below.refl _ w).grown hgrow0 (Nat.le_refl _) (fun k hk => by cases hk)
  have HO0 : Hid (w0.ownsRow w.heap.size 40 4 (.slice (some ⟨w.heap.size, 0, none⟩) 0 (l.length + 1)) 0 []) := hown0
  clear hown0 hgrow0
  rw [hG] at hb0 HO0 ⊢
  have HG : Hid (w.heap.size = G) := hG
  clear hG
  go_wp2_with fail
  go_loopw [3, 4] (fun t3 t4 wr => ∃ (l' : List Ex), t4 = .int .i64 l'.length ∧ l'.length ≤ l.length ∧ t3 = .slice (some ⟨G, 0, none⟩) l'.length (l.length + 1) ∧ wr.ownsRow G 40 4 (.slice (some ⟨G, 0, none⟩) l'.length (l.length + 1)) l'.length (l'.flatMap Ex.cells) ∧ (∀ x ∈ l', x.Cp wr) ∧ erL l' = erL (l.take l'.length) ∧ (blL l').Nodup ∧ (∀ b ∈ blL l', G < b ∧ b < wr.heap.size) ∧ Below G w wr) (fun _ t4 _ => l.length - (intOf t4).toNat)
  case atStart => exact ⟨[], rfl, Nat.zero_le _, rfl, HO0.out, by simp, by simp, by simp [blL], by simp [blL], hb0⟩
  case round =>
    clear HO0 hb0
    obtain ⟨l', rfl, hle, rfl, hown, hcp, her, hnd, hbd, hb⟩ := hrel
    obtain ⟨j, hj⟩ : ∃ j, l'.length = j := ⟨_, rfl⟩
    have HJ : Hid (l'.length = j) := hj
    rw [hj] at hown hle her ⊢
    have HO : Hid (wr.ownsRow G 40 4 (.slice (some ⟨G, 0, none⟩) j (l.length + 1)) j (l'.flatMap Ex.cells)) := hown
    have HR : Hid ((∀ x ∈ l', x.Cp wr) ∧ erL l' = erL (l.take j) ∧ (blL l').Nodup ∧ (∀ b ∈ blL l', G < b ∧ b < wr.heap.size)) := ⟨hcp, her, hnd, hbd⟩
    have BW : Hid (Below G w wr) := hb
    clear hown hcp her hnd hbd hb hj
    by_cases hlt : j < l.length
    · have hli : (j : Int) < (l.length : Int) := by omega
      have hbw : Below w.heap.size w wr := HG.out ▸ BW.out
      obtain ⟨b, o, rfl, c0, c1, c2, c3⟩ := row_at (HA.out.2.2.1.below hbw) hlt
      have XI : Hid (∀ w', Below w.heap.size w w' → l[j].In w') := fun w' h => (HA.out.2.2.2 l[j] (List.getElem_mem hlt)).stay h
      have XF : Hid (l[j].Few) := HF.out _ (List.getElem_mem hlt)
      have HZ : Hid (szL l[j].args < n) := by
        have h1 := szL_mem (List.getElem_mem hlt)
        have h2 := (l[j]).sz_args
        have h3 := HK.out
        show _ < _
        omega
      have HT : Hid (erL (l.take (j + 1)) = erL (l.take j) ++ [l[j].er]) := by
        show _ = _
        rw [erL_map, erL_map, List.take_succ_eq_append_getElem hlt, List.map_append]; rfl
      generalize l[j] = x at *
      have HQ : Hid (∀ w', Below wr.heap.size wr w' → Calls Tryd.prog 19 #[.slice x.a x.args.length x.cap] w' fun e w'' => CpR w' w'' x.args e ∧ Below w'.heap.size w' w'') := fun w' h => IH.out x.args x.a x.cap w' HZ.out (XI.out _ (Below.on hbw h)).have (Ex.few_iff.1 XF.out).1 (Ex.few_iff.1 XF.out).2
      go_wp2_with fail
      refine (HQ.out _ (Below.one (Below.refl _ _) _)).mono ?_
      rintro e w2 ⟨⟨g', l'', rfl, hrow, hcp2, her2, hnd2, hbd2⟩, hb2⟩
      clear c0 c1 c2 c3
      obtain ⟨X, hX⟩ : ∃ X, wr.heap.size = X := ⟨_, rfl⟩
      have h2X : w2.heap[X]? = some (.cells #[.int .i64 x.kind, .int .i64 x.n, .string x.name, .slice x.a x.args.length x.cap] 40 (0, 0)) := by
        rw [← hX, hb2.block _ (by simp)]; exact heap_alloc_new _ _
      have k0 : w2.cell? ⟨X, 0, none⟩ = some (.int .i64 x.kind) := by rw [Lib.cell_of_heap h2X]; rfl
      have k1 : w2.cell? ⟨X, 1, none⟩ = some (.int .i64 x.n) := by rw [Lib.cell_of_heap h2X]; rfl
      have k2 : w2.cell? ⟨X, 2, none⟩ = some (.string x.name) := by rw [Lib.cell_of_heap h2X]; rfl
      have k3 : w2.cell? ⟨X, 3, none⟩ = some (.slice x.a x.args.length x.cap) := by rw [Lib.cell_of_heap h2X]; rfl
      have kf : w2.frozen? ⟨X, 3, none⟩ = false := by simp [World.frozen?, h2X]
      have hs2 : X < w2.heap.size := (Array.getElem?_eq_some_iff.1 h2X).1
      rw [hX]
      have HX : Hid (wr.heap.size = X ∧ X < w2.heap.size) := ⟨hX, hs2⟩
      have hsw : ((wr.alloc (.cells #[.int .i64 x.kind, .int .i64 x.n, .string x.name, .slice x.a x.args.length x.cap] 40))).heap.size = X + 1 := by rw [World.size_alloc, hX]
      rw [hsw] at hbd2
      have HB2 : Hid (∀ k, k < X → w2.heap[k]? = wr.heap[k]?) := fun k hk => (hb2.block k (by rw [hsw]; omega)).trans (Below.heap_alloc _ _ _ (by omega))
      have BW2 : Hid (Below G w w2) := by
        have : Below w.heap.size w w2 := Below.on (Below.one hbw _) hb2
        exact HG.out ▸ this
      have hGX : G < X := by
        have := owns_lt HO.out
        omega
      have HGX : Hid (G < X) := hGX
      have H2 : Hid (RowCp w2 (some ⟨g', 0, none⟩) (x.args.length + 1) l''.length 56 40 (l''.flatMap Ex.cells ++ senE) ∧ (∀ x ∈ l'', x.Cp w2) ∧ erL l'' = erL x.args ∧ (g' :: blL l'').Nodup ∧ (∀ b ∈ g' :: blL l'', X + 1 ≤ b ∧ b < w2.heap.size)) := ⟨hrow, hcp2, her2, hnd2, hbd2⟩
      have HO4 : Hid (((w2.setCell ⟨X, 3, none⟩ (.slice (some ⟨g', 0, none⟩) x.args.length (x.args.length + 1))).alloc (.cells #[.int .i64 x.kind, .int .i64 x.n, .string x.name, .slice (some ⟨g', 0, none⟩) x.args.length (x.args.length + 1)] 40)).ownsRow G 40 4 (.slice (some ⟨G, 0, none⟩) j (l.length + 1)) j (l'.flatMap Ex.cells)) :=
        owns_heap HO.out (by rw [Below.heap_alloc _ _ _ (by simp [World.setCell]; omega), Below.heap_setCell _ _ _ _ (by show G ≠ X; omega), HB2.out _ hGX])
      have HN : Hid (∀ i u, ([.int .i64 x.kind, .int .i64 x.n, .string x.name, .slice (some ⟨g', 0, none⟩) x.args.length (x.args.length + 1)] : List Value)[i]? = some u → ((w2.setCell ⟨X, 3, none⟩ (.slice (some ⟨g', 0, none⟩) x.args.length (x.args.length + 1))).alloc (.cells #[.int .i64 x.kind, .int .i64 x.n, .string x.name, .slice (some ⟨g', 0, none⟩) x.args.length (x.args.length + 1)] 40)).cell? ((⟨w2.heap.size, 0, none⟩ : Addr).add i) = some u) := by
        have := heap_alloc_new (w2.setCell ⟨X, 3, none⟩ (.slice (some ⟨g', 0, none⟩) x.args.length (x.args.length + 1))) (.cells #[.int .i64 x.kind, .int .i64 x.n, .string x.name, .slice (some ⟨g', 0, none⟩) x.args.length (x.args.length + 1)] 40)
        rw [show (w2.setCell ⟨X, 3, none⟩ (.slice (some ⟨g', 0, none⟩) x.args.length (x.args.length + 1))).heap.size = w2.heap.size by simp [World.setCell]] at this
        exact World.news_of_block this
      have H1 : Hid (∀ u ∈ ([.int .i64 x.kind, .int .i64 x.n, .string x.name, .slice (some ⟨g', 0, none⟩) x.args.length (x.args.length + 1)] : List Value), u.oneCell' = true) := fun u hu => by
        simp at hu; rcases hu with rfl | rfl | rfl | rfl <;> rfl
      clear hrow hcp2 her2 hnd2 hbd2 hsw hb2 hX hs2 hGX h2X
      go_wp2_with (at_builtin; refine wpList_append_own_spare _ rfl _ _ 38 rfl G 40 i0 4 Tryd.underlying38 HI.out hz1 G j (l.length + 1) (l'.flatMap Ex.cells) rfl HO4.out ⟨w2.heap.size, 0, none⟩ 1 1 [.int .i64 x.kind, .int .i64 x.n, .string x.name, .slice (some ⟨g', 0, none⟩) x.args.length (x.args.length + 1)] rfl rfl HN.out H1.out (by omega) ?_; intro w5 hown5 hgrow5)
      have HO5 : Hid (w5.ownsRow G 40 4 (.slice (some ⟨G, 0, none⟩) (j + 1) (l.length + 1)) (j + 1) (l'.flatMap Ex.cells ++ [.int .i64 x.kind, .int .i64 x.n, .string x.name, .slice (some ⟨g', 0, none⟩) x.args.length (x.args.length + 1)])) := hown5
      have HK5 : Hid (∀ k, k < w2.heap.size → k ≠ X → k ≠ G → w5.heap[k]? = w2.heap[k]?) := fun k h1 h2 h3 => by
        rw [hgrow5.block k (by simp [World.setCell]; omega) (by simpa using h3), Below.heap_alloc _ _ _ (by simpa [World.setCell] using h1), Below.heap_setCell _ _ _ _ h2]
      have HS5 : Hid (w2.heap.size < w5.heap.size) := by
        have := hgrow5.size
        simp [World.setCell] at this
        show _ < _
        omega
      have BW5 : Hid (Below G w w5) := by
        have h1 := HGX.out
        have h2 := HX.out
        exact ((BW2.out.setCell (p := ⟨X, 3, none⟩) (by show G ≤ X; omega) _).alloc (by simp [World.setCell]; omega) _).grown hgrow5 (by simp [World.setCell]; omega) (fun k hk => by simp at hk; omega)
      clear hown5 hgrow5 HO4 HN H1 k0 k1 k2 k3 kf
      go_wp2_with fail
      go_roundw
      case rel =>
        obtain ⟨hrow, hcp2, her2, hnd2, hbd2⟩ := H2.out
        obtain ⟨hcp, her, hnd, hbd⟩ := HR.out
        have hx := HX.out
        have hgx := HGX.out
        have hs5 := HS5.out
        have hlen : l''.length = x.args.length := erL_len her2
        have hbl : blL (l' ++ [.mk x.kind x.n x.name (some ⟨g', 0, none⟩) (x.args.length + 1) l'']) = blL l' ++ (g' :: blL l'') := by
          rw [blL_map, List.flatMap_append, ← blL_map]; simp [Ex.bl, blk]
        have hkeep : ∀ b ∈ g' :: blL l'', w5.heap[b]? = w2.heap[b]? := fun b hb => HK5.out b (hbd2 b hb).2 (by have := (hbd2 b hb).1; omega) (by have := (hbd2 b hb).1; omega)
        have hxin := Ex.in_iff.1 (XI.out _ (Below.refl _ _))
        refine ⟨l' ++ [.mk x.kind x.n x.name (some ⟨g', 0, none⟩) (x.args.length + 1) l''], ?_, ?_, ?_, ?_, ?_, ?_, ?_, ?_, BW5.out⟩
        · have := HJ.out; simp; omega
        · have := HJ.out; simp; omega
        · have := HJ.out; simp; omega
        · have h5 := HO5.out
          rw [show (l' ++ [Ex.mk x.kind x.n x.name (some ⟨g', 0, none⟩) (x.args.length + 1) l'']).length = j + 1 by have := HJ.out; simp; omega, List.flatMap_append]
          simpa [Ex.cells, Ex.kind, Ex.n, Ex.name, Ex.a, Ex.cap, Ex.args, hlen] using h5
        · intro y hy
          rcases List.mem_append.1 hy with hy | hy
          · refine (hcp y hy).kept fun b hb => ?_
            have hb' := hbd b (by rw [blL_map]; exact List.mem_flatMap.2 ⟨y, hy, hb⟩)
            rw [HK5.out b (by omega) (by omega) (by omega), HB2.out b (by omega)]
          · obtain rfl := List.mem_singleton.1 hy
            refine Ex.cp_iff.2 ⟨hxin.1, hxin.2.1, hxin.2.2.1, ?_, fun z hz => (hcp2 z hz).kept fun b hb => hkeep b (List.mem_cons_of_mem _ (by rw [blL_map]; exact List.mem_flatMap.2 ⟨z, hz, hb⟩))⟩
            exact hrow.keep (hkeep _ (List.mem_cons_self ..))
        · have hj := HJ.out
          rw [show (l' ++ [Ex.mk x.kind x.n x.name (some ⟨g', 0, none⟩) (x.args.length + 1) l'']).length = j + 1 by simp; omega, HT.out, ← her, erL_map, erL_map, List.map_append]
          simp only [List.map_cons, List.map_nil, Ex.er]
          rw [x.er_eq, her2]
        · rw [hbl, List.nodup_append]
          refine ⟨hnd, hnd2, fun a ha b hb => ?_⟩
          have := hbd a ha
          have := hbd2 b hb
          omega
        · intro b hb
          rw [hbl] at hb
          rcases List.mem_append.1 hb with hb | hb
          · have := hbd b hb; omega
          · have := hbd2 b hb; omega
      case measure => simp [intOf]; omega
    · obtain rfl : j = l.length := by omega
      have HO4 : Hid ((wr.alloc (.cells #[.int .i64 (-77), .int .i64 0, .string ⟨#[]⟩, .slice none 0 0] 40)).ownsRow G 40 4 (.slice (some ⟨G, 0, none⟩) l.length (l.length + 1)) l.length (l'.flatMap Ex.cells)) := HO.out.alloc _
      have HN : Hid (∀ i u, senE[i]? = some u → (wr.alloc (.cells #[.int .i64 (-77), .int .i64 0, .string ⟨#[]⟩, .slice none 0 0] 40)).cell? ((⟨wr.heap.size, 0, none⟩ : Addr).add i) = some u) := World.news_of_block (heap_alloc_new wr _)
      have H1 : Hid (∀ u ∈ senE, u.oneCell' = true) := fun u hu => by
        simp [senE] at hu; rcases hu with rfl | rfl | rfl | rfl <;> rfl
      go_wp2_with (at_builtin; refine wpList_append_own_spare _ rfl _ _ 38 rfl G 40 i0 4 Tryd.underlying38 HI.out hz1 G l.length (l.length + 1) (l'.flatMap Ex.cells) rfl HO4.out ⟨wr.heap.size, 0, none⟩ 1 1 senE rfl rfl HN.out H1.out (by omega) ?_; intro w5 hown5 hgrow5)
      have HO5 : Hid (w5.ownsRow G 40 4 (.slice (some ⟨G, 0, none⟩) (l.length + 1) (l.length + 1)) (l.length + 1) (l'.flatMap Ex.cells ++ senE)) := hown5
      have hGX : G < wr.heap.size := by
        exact owns_lt HO.out
      have HK5 : Hid (G < wr.heap.size ∧ wr.heap.size < w5.heap.size ∧ ∀ k, k < wr.heap.size → k ≠ G → w5.heap[k]? = wr.heap[k]?) := by
        refine ⟨hGX, by have := hgrow5.size; simp at this; omega, fun k h1 h3 => ?_⟩
        rw [hgrow5.block k (by simp; omega) (by simpa using h3), Below.heap_alloc _ _ _ h1]
      have BW5 : Hid (Below G w w5) := (BW.out.alloc (by omega) _).grown hgrow5 (by simp; omega) (fun k hk => by simp at hk; omega)
      clear hown5 hgrow5 HO4 HN H1 hGX
      go_wp2_with fail
      go_ret
      obtain ⟨hcp, her, hnd, hbd⟩ := HR.out
      obtain ⟨hgx, hs5, hk5⟩ := HK5.out
      have hw : w.heap.size = G := HG.out
      refine ⟨⟨G, l', rfl, ⟨G, rfl, by rw [HJ.out], by omega, owns_full HO5.out⟩, fun y hy => (hcp y hy).kept fun b hb => ?_, by rw [her, List.take_length], ?_, ?_⟩, by rw [hw]; exact BW5.out⟩
      · have := hbd b (by rw [blL_map]; exact List.mem_flatMap.2 ⟨y, hy, hb⟩)
        exact hk5 b this.2 (by omega)
      · refine List.nodup_cons.2 ⟨fun h => ?_, hnd⟩
        have := hbd _ h; omega
      · intro b hb
        rcases List.mem_cons.1 hb with rfl | hb
        · omega
        · have := hbd b hb; omega
theorem exprsOf_k (n : Nat) : ∀ (l : List Ex) (a : Option Addr) (c : Nat) (w : World), szL l < n → HaveE w a c l → l.length ≤ 1048576 → (∀ x ∈ l, x.Few) → Calls Tryd.prog 19 #[.slice a l.length c] w fun e w' => CpR w w' l e ∧ Below w.heap.size w w' := by
  induction n with
  | zero => intro l a c w h; omega
  | succ n ih => exact fun l a c w h => exprsOf_step n ih l a c w (by omega)
theorem exprsOf_any (l : List Ex) (a : Option Addr) (c : Nat) (w : World) (hin : HaveE w a c l) (hf0 : l.length ≤ 1048576) (hf : ∀ x ∈ l, x.Few) : Calls Tryd.prog 19 #[.slice a l.length c] w fun e w' => CpR w w' l e ∧ Below w.heap.size w w' := exprsOf_k (szL l + 1) l a c w (by omega) hin hf0 hf
end Go.Proofs.YtakaldbhaoidiaaDoor

/- Two expressions side by side. -/
namespace Go.Proofs.YtakaldbhaoidiaaDoor
open Go.RowKit

theorem ex_two {w : World} {bz : Nat} {x y : Ex} (h : ∀ (i : Nat) v, (x.cells ++ y.cells)[i]? = some v → w.cell? ⟨bz, i, none⟩ = some v) (hx : x.In w) (hy : y.In w) : HaveE w (some ⟨bz, 0, none⟩) 2 [x, y] := by
  refine ⟨Nat.le_refl _, by decide, fun i cs hi => ⟨bz, 0, rfl, fun j v hj => ?_⟩, by simp [hx, hy]⟩
  match i, hi with
  | 0, hi =>
    obtain rfl : x.cells = cs := by simpa using hi
    have hl := (List.getElem?_eq_some_iff.1 hj).1
    simpa using h j v (by rw [List.getElem?_append_left hl]; exact hj)
  | 1, hi =>
    obtain rfl : y.cells = cs := by simpa using hi
    have := h (4 + j) v (by rw [List.getElem?_append_right (by simp [Ex.cells])]; simpa [Ex.cells] using hj)
    simpa using this
  | n + 2, hi => simp at hi
end Go.Proofs.YtakaldbhaoidiaaDoor

/- The document's own copies: statements, the tools. -/
namespace Go.Proofs.YtakaldbhaoidiaaDoor
open Go.RowKit

theorem Tryd.infoSt : (Tryd.prog.info? 43).map (fun i => (i.zero, i.size, i.bytes)) = some (some (.agg #[.int .i64 0, .string ⟨#[]⟩, .int .i64 0, .int .i64 0, .int .i64 0, .string ⟨#[]⟩, .slice none 0 0, .int .i64 0, .int .i64 0, .string ⟨#[]⟩, .slice none 0 0, .slice none 0 0, .slice none 0 0, .slice none 0 0]), 14, 216) := by kernel_rfl
theorem Tryd.infoCa : (Tryd.prog.info? 58).map (fun i => (i.zero, i.size, i.bytes)) = some (some (.agg #[.int .i64 0, .slice none 0 0]), 2, 32) := by kernel_rfl

mutual
def St.Few : St → Prop | .mk _ _ _ a b _ _ l _ _ e _ _ c => a.Few ∧ b.Few ∧ l.length ≤ 1048576 ∧ FewS l ∧ e.length ≤ 1048576 ∧ FewS e ∧ c.length ≤ 1048576 ∧ FewC c
def Ca.Few : Ca → Prop | .mk _ _ _ l => l.length ≤ 1048576 ∧ FewS l
def FewS : List St → Prop | [] => True | x :: r => x.Few ∧ FewS r
def FewC : List Ca → Prop | [] => True | x :: r => x.Few ∧ FewC r
end
theorem fewS_mem {l : List St} : FewS l ↔ ∀ x ∈ l, x.Few := by induction l <;> simp_all [FewS]
theorem fewC_mem {l : List Ca} : FewC l ↔ ∀ x ∈ l, x.Few := by induction l <;> simp_all [FewC]
theorem St.few_iff {s : St} : s.Few ↔ s.a.Few ∧ s.b.Few ∧ s.body.length ≤ 1048576 ∧ (∀ x ∈ s.body, x.Few) ∧ s.els.length ≤ 1048576 ∧ (∀ x ∈ s.els, x.Few) ∧ s.cases.length ≤ 1048576 ∧ ∀ x ∈ s.cases, x.Few := by
  cases s; simp only [St.Few, St.a, St.b, St.body, St.els, St.cases, fewS_mem, fewC_mem]
theorem Ca.few_iff {c : Ca} : c.Few ↔ c.body.length ≤ 1048576 ∧ ∀ x ∈ c.body, x.Few := by cases c; simp only [Ca.Few, Ca.body, fewS_mem]
theorem erS_len {l t : List St} (h : erS l = erS t) : l.length = t.length := by
  have := congrArg List.length h
  simpa [erS_map] using this
theorem erC_len {l t : List Ca} (h : erC l = erC t) : l.length = t.length := by
  have := congrArg List.length h
  simpa [erC_map] using this

/-- Every block but one is as it was. -/
def Kp (X : Nat) (W W' : World) : Prop := W.heap.size ≤ W'.heap.size ∧ ∀ k, k < W.heap.size → k ≠ X → W'.heap[k]? = W.heap[k]?
theorem Kp.refl (X : Nat) (W : World) : Kp X W W := ⟨Nat.le_refl _, fun _ _ _ => rfl⟩
theorem Kp.trans {X : Nat} {A B C : World} (h : Kp X A B) (k : Kp X B C) : Kp X A C := ⟨Nat.le_trans h.1 k.1, fun i h1 h2 => (k.2 i (Nat.lt_of_lt_of_le h1 h.1) h2).trans (h.2 i h1 h2)⟩
theorem Kp.below {X : Nat} {A B C : World} (h : Kp X A B) (k : Below B.heap.size B C) : Kp X A C := h.trans ⟨k.size, fun i h1 _ => k.block i h1⟩
theorem Kp.set {X : Nat} {A B : World} (h : Kp X A B) (i : Nat) (v : Value) : Kp X A (B.setCell ⟨X, i, none⟩ v) := h.trans ⟨by simp [World.setCell], fun k _ h2 => Below.heap_setCell _ _ _ _ h2⟩
theorem Kp.alloc {X : Nat} {A B : World} (h : Kp X A B) (o : Obj) : Kp X A (B.alloc o) := h.trans ⟨by simp, fun k h1 _ => Below.heap_alloc _ _ _ h1⟩
theorem Kp.grown {X : Nat} {A B C : World} (h : Kp X A B) (hg : B.grownBy C (some X)) : Kp X A C := h.trans ⟨hg.size, fun k h1 h2 => hg.block k h1 (by simpa using h2)⟩
theorem Kp.none {X : Nat} {A B C : World} (h : Kp X A B) (hg : B.grownBy C none) : Kp X A C := h.trans ⟨hg.size, fun k h1 _ => hg.block k h1 (by simp)⟩
theorem set_list {W : World} {b : Nat} {l : List Value} {T : TypeId} {fz : Nat × Nat} (h : W.heap[b]? = some (.cells ⟨l⟩ T fz)) (i : Nat) (v : Value) : (W.setCell ⟨b, i, none⟩ v).heap[b]? = some (.cells ⟨l.set i v⟩ T fz) := by
  rw [set_cell h]; simp
theorem size_set (W : World) (a : Addr) (v : Value) : (W.setCell a v).heap.size = W.heap.size := by simp [World.setCell]

theorem bel_alloc {C : Nat} {A B : World} (hC : C < A.heap.size) (h : Below C A B) (o : Obj) : Below C A (B.alloc o) := h.alloc (Nat.le_trans (Nat.le_of_lt hC) h.size) o
theorem bel_grown {C : Nat} {A B B' : World} (hC : C < A.heap.size) (h : Below C A B) (hg : B.grownBy B' (some C)) : Below C A B' := h.grown hg (Nat.le_trans (Nat.le_of_lt hC) h.size) (fun k hk => by simp at hk; omega)
theorem bel_call {C : Nat} {A B : World} (hC : C < A.heap.size) (h : Below A.drew.heap.size A.drew B) : Below C A B := (Below.drew (Below.refl C A)).trans (h.mono (Nat.le_of_lt hC))
theorem step_append_spare {P : Program} (w : World) {ops : Array Oper} {o : Oper} {a : Act} {K : Act → World → Prop} {Q : Exit → Act → World → Prop} {E : Prop} (hgd : o.guard = none) (s x : Operand) (t : TypeId)
    (ho : o.op = .call { callee := .builtin .append, args := #[s, x], argTypes := #[t, t] })
    (base : Nat) (e : TypeId) (i : TypeInfo) (size : Nat) (ht : P.underlying t = some (.slice e)) (hi : P.info? e = some i) (hsize : i.size = size)
    (g n cap : Nat) (xs : List Value) (hs : a.eval s = .slice (some ⟨g, 0, none⟩) n cap) (hown : w.ownsRow base e size (.slice (some ⟨g, 0, none⟩) n cap) n xs)
    (ad : Addr) (m c : Nat) (news : List Value) (hx : a.eval x = .slice (some ad) m c) (hl : news.length = m * size) (hnews : ∀ j u, news[j]? = some u → w.cell? (ad.add j) = some u) (h1 : ∀ u ∈ news, u.oneCell' = true)
    (hroom : n + m ≤ cap)
    (h : ∀ w', w'.ownsRow base e size (.slice (some ⟨g, 0, none⟩) (n + m) cap) (n + m) (xs ++ news) → w.grownBy w' (some g) → K (a.put o.dst (.slice (some ⟨g, 0, none⟩) (n + m) cap)) w') :
    if Region.wanted o (yielded ops a.tmps) = true then Oper.wp P o a w K Q else E := by
  have hw : Region.wanted o (yielded ops a.tmps) = true := by simp [Region.wanted, hgd]
  rw [if_pos hw]
  exact wp_append_own_spare w s x t ho base e i size ht hi hsize g n cap xs hs hown ad m c news hx hl hnews h1 hroom h

/-- What comes of a list of statements. -/
def CpRS (w w' : World) (l : List St) (e : Ending) : Prop := ∃ (g : Nat) (l' : List St), e = .returned (.slice (some ⟨g, 0, none⟩) l.length (l.length + 1)) ∧ RowCp w' (some ⟨g, 0, none⟩) (l.length + 1) l'.length 216 43 (l'.flatMap St.cells ++ senS) ∧ (∀ x ∈ l', x.Cp w') ∧ erS l' = erS l ∧ (g :: blS l').Nodup ∧ (∀ b ∈ g :: blS l', w.heap.size ≤ b ∧ b < w'.heap.size)
abbrev StOfOk (n : Nat) : Prop := ∀ (l : List St) (a : Option Addr) (c : Nat) (w : World), ssz l < n → Have w a c l → l.length ≤ 1048576 → (∀ x ∈ l, x.Few) → Calls Tryd.prog 13 #[.slice a l.length c] w fun e w' => CpRS w w' l e ∧ Below w.heap.size w w'
end Go.Proofs.YtakaldbhaoidiaaDoor
