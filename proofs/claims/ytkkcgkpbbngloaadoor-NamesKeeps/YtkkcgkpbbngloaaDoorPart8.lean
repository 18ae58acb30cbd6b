/- names.look: what is wrong first, or whom each function calls. -/
import Derived.Test.YtkkcgkpbbngloaaDoorPart7
import Derived.Shelf.Sort.Plain
import Derived.Ground.Names2Prog
import Derived.Shelf.Slices.CompactI
import Derived.Shelf.Slices.In.SortNone
import Derived.Test.YtkkcgkpbbngloaaDoorProg
import Derived.Sort.OwnSortedInts
import Derived.Lib.OwnBridge
import Derived.Test.YtkkcgkpbbngloaaDoorPart3
import Derived.Test.YtkkcgkpbbngloaaDoorPart1
import Derived.Test.YtkkcgkpbbngloaaDoorPart4
import Derived.Test.YtkkcgkpbbngloaaDoorPart5
import Derived.Deep.RegionHeld3
namespace Go.Proofs.YtkkcgkpbbngloaaDoor
open Go.RowKit Go.Sort

/-- What names.look answers. -/
def LkP (p : Pr) (w : World) (e : Ending) (w' : World) : Prop := Below w.heap.size w w' ∧
  ((namZ p).1 ≠ 0 → e = .returned (.tuple #[.slice none 0 0, fltV (namZ p).1 (namZ p).2.1 (namZ p).2.2])) ∧
  ((namZ p).1 = 0 → namZ p = (0, 0, 0) ∧ ∃ fm cb vs, e = .returned (.tuple #[.slice (some ⟨cb, 0, none⟩) p.funcs.length p.funcs.length, fltV 0 0 0]) ∧ w.heap.size ≤ cb ∧ cb ≠ fm ∧ RowsAt w.heap.size w' fm cb p.funcs p.funcs.length vs)

theorem Tryd.infoRow : (Tryd.prog.info? 49).map (fun i => (i.zero, i.size, i.bytes)) = some (some (.slice none 0 0), 1, 24) := by kernel_rfl
theorem make_rows (W : World) (n : Nat) (h : n ≤ 1000) : (Instr.makeSlice 54 (.int .i64 n) (.int .i64 n)).run Tryd.prog W = .ok (.slice (some ⟨W.heap.size, 0, none⟩) n n) (W.alloc (.cells (Array.replicate n (.slice none 0 0)) 49)) := by
  have hi := Tryd.infoRow
  cases hq : Tryd.prog.info? 49 with
  | none => rw [hq] at hi; cases hi
  | some i =>
    rw [hq] at hi
    simp only [Option.map_some, Option.some.injEq, Prod.mk.injEq] at hi
    obtain ⟨e1, e2, e3⟩ := hi
    have hr := run_makeSlice (P := Tryd.prog) W 54 49 i _ Tryd.underlying54 hq e1 .i64 .i64 n n (by omega) (Int.le_refl _) (by rw [e2]; simp; omega) (by rw [e3]; omega) (by omega)
    rw [hr, e2]
    simp only [Int.toNat_natCast, Nat.mul_one]
    have : madeCells (Value.slice none 0 0).cells n = (Array.replicate n (Value.slice none 0 0)) := by
      apply Array.ext
      · simp [madeCells]
      · intro j h1 h2
        simp [madeCells, Value.cells, Nat.mod_one]
    rw [this]
/-- The world ahead of the first function. -/
theorem look_start (w1 : World) (N : Nat) (fs : List Fu) (o : Obj) :
    Tab (((w1.alloc o).alloc (.map #[] 0)).alloc (.cells (Array.replicate fs.length (.slice none 0 0)) 49)) (w1.heap.size + 1) [] ∧ RowsAt N (((w1.alloc o).alloc (.map #[] 0)).alloc (.cells (Array.replicate fs.length (.slice none 0 0)) 49)) (w1.heap.size + 1) (w1.heap.size + 1 + 1) fs 0 (List.replicate fs.length (.slice none 0 0)) ∧
      Below w1.heap.size w1 (((w1.alloc o).alloc (.map #[] 0)).alloc (.cells (Array.replicate fs.length (.slice none 0 0)) 49)) ∧ (((w1.alloc o).alloc (.map #[] 0)).alloc (.cells (Array.replicate fs.length (.slice none 0 0)) 49)).heap.size = w1.heap.size + 3 := by
  refine ⟨?_, ⟨?_, by simp, fun j hj _ => by simp [hj], fun j f _ hj => by omega⟩, ?_, by simp⟩
  · have := tab_made (w1.alloc o)
    rw [World.size_alloc] at this
    exact this.stay ((Below.refl _ _).alloc (Nat.le_refl _) _)
  · have := heap_alloc_new ((w1.alloc o).alloc (.map #[] 0)) (.cells (Array.replicate fs.length (.slice none 0 0)) 49)
    rw [World.size_alloc, World.size_alloc] at this
    rw [this]; simp
  · exact (((Below.refl _ w1).alloc (Nat.le_refl _) _).alloc (by simp) _).alloc (by simp; omega) _

set_option maxRecDepth 100000 in
set_option maxHeartbeats 4000000 in
theorem look_any (p : Pr) (w : World) (hin : p.In w) (ht : Tabs w) : Calls Tryd.prog 19 #[p.val] w (LkP p w) := by
  have HC : Hid (∀ w', Below w.heap.size w w' → Calls Tryd.prog 9 #[p.val] w' fun e w'' => e = .returned (fltV (checkZ p).1 (checkZ p).2.1 (checkZ p).2.2) ∧ Below w'.heap.size w' w'') := fun w' hb => check_any p w' (hin.stay hb) (ht.stay hb)
  have HE : Hid (namZ p = if (checkZ p).1 ≠ 0 then checkZ p else lkZ p.funcs p.funcs 0) := (rfl : namZ p = _)
  have HZ : Hid ((checkZ p).1 = 0 → p.funcs.length ≤ 32 ∧ ∀ f ∈ p.funcs, qSs f.body ≤ 12288 ∧ f.params.length ≤ 8) := fun h => check_room h
  obtain ⟨_, _, _, _, _, hl, hc, _, hrow, hsub⟩ := hin
  have HR : Hid (RowIn w p.fa 3 (List.map Fu.cells p.funcs)) := hrow
  have HS : Hid (∀ f ∈ p.funcs, f.In w) := hsub
  clear ht hrow hsub
  have HK : Hid (∀ e w', (Below w.heap.size w w' ∧ ((namZ p).1 ≠ 0 → e = .returned (.tuple #[.slice none 0 0, fltV (namZ p).1 (namZ p).2.1 (namZ p).2.2])) ∧
    ((namZ p).1 = 0 → namZ p = (0, 0, 0) ∧ ∃ fm cb vs, e = .returned (.tuple #[.slice (some ⟨cb, 0, none⟩) p.funcs.length p.funcs.length, fltV 0 0 0]) ∧ w.heap.size ≤ cb ∧ cb ≠ fm ∧ RowsAt w.heap.size w' fm cb p.funcs p.funcs.length vs)) → LkP p w e w') := fun e w' h => h
  generalize LkP p w = Q at HK ⊢
  generalize namZ p = res at HE HK
  generalize checkZ p = cz at HC HE HZ
  obtain ⟨c1, c2, c3⟩ := cz
  simp only at HC HE HZ
  have hb1 := ((Below.refl _ w).alloc (Nat.le_refl _) (.cells #[.slice p.wa p.widen.length p.wc, .slice p.fa p.funcs.length p.fc] 26)).alloc (by simp) (.cells #[.int .i64 0, .int .i64 0, .int .i64 0] 29)
  unfold Pr.val at HC ⊢
  go_enter Tryd.func19, Tryd.ntmps19
  go_wp2_with fail
  refine (HC.out _ hb1).mono ?_
  rintro e w1 ⟨rfl, hbw⟩
  obtain ⟨hX, hRs, hF⟩ := two_cells hbw
  have r0 := hRs 0 _ rfl
  have r1 := hRs 1 _ rfl
  have r2 := hRs 2 _ rfl
  have q0 := hF 0
  have q1 := hF 1
  have q2 := hF 2
  have c1' := hX 1 _ rfl
  have hb2 : Below w.heap.size w w1 := hb1.trans (hbw.mono (by simp; omega))
  have hs2 : w.heap.size + 1 + 1 ≤ w1.heap.size := by have := hbw.size; simp at this; omega
  clear hX hRs hF hbw hb1 HC
  cases e1 : (c1 != 0)
  · have e1' : c1 = 0 := by simpa using e1
    have HF : Hid (res = lkZ p.funcs p.funcs 0) := (by rw [HE.out, if_neg (by simp [e1'])] : res = _)
    obtain ⟨hn32, hrm⟩ := HZ.out e1'
    have HRM := Hid.mk' hrm
    clear HZ HE e1' hrm
    have hmm := @run_makeMap Tryd.prog
    have hms := fun W => make_rows W p.funcs.length (by omega)
    have c2' : ∀ A B, ((w1.alloc A).alloc B).cell? ⟨w.heap.size, 1, none⟩ = some (.slice p.fa p.funcs.length p.fc) := fun A B => by
      rw [World.cell?_alloc_past _ _ _ (by simp; omega), World.cell?_alloc_past _ _ _ (by show w.heap.size < w1.heap.size; omega)]; exact c1'
    have c3' : ∀ A B C, (((w1.alloc A).alloc B).alloc C).cell? ⟨w.heap.size, 1, none⟩ = some (.slice p.fa p.funcs.length p.fc) := fun A B C => by
      rw [World.cell?_alloc_past _ _ _ (by simp; omega)]; exact c2' A B
    obtain ⟨HT0, HR0, HB0, HS0⟩ := look_start w1 (w.heap.size + 1 + 1) p.funcs (.cells #[.int .i64 c1, .int .i64 c2, .int .i64 c3] 29)
    have HT0 := Hid.mk' HT0
    have HR0 := Hid.mk' HR0
    have HB0 := Hid.mk' HB0
    have HS0 := Hid.mk' HS0
    go_upto_region 7 with fail
    clear c2' c3' hms hmm c1'
    have hlt1 : w.heap.size + 1 < w1.heap.size := by omega
    have HRES : Hid (∀ W', Fr [w1.heap.size + 1, w1.heap.size + 1 + 1] (((w1.alloc (.cells #[.int .i64 c1, .int .i64 c2, .int .i64 c3] 29)).alloc (.map #[] 0)).alloc (.cells (Array.replicate p.funcs.length (.slice none 0 0)) 49)) W' →
        Below w.heap.size w W' ∧ W'.cell? ⟨w.heap.size + 1, 0, none⟩ = some (.int .i64 0) ∧ W'.cell? ⟨w.heap.size + 1, 1, none⟩ = some (.int .i64 0) ∧ W'.cell? ⟨w.heap.size + 1, 2, none⟩ = some (.int .i64 0) ∧ W'.frozen? ⟨w.heap.size + 1, 0, none⟩ = false ∧ W'.frozen? ⟨w.heap.size + 1, 1, none⟩ = false ∧ W'.frozen? ⟨w.heap.size + 1, 2, none⟩ = false) := fun W' hf => by
      have hx : w.heap.size + 1 ∉ [w1.heap.size + 1, w1.heap.size + 1 + 1] := by simp; omega
      have hb3 : Below w1.heap.size w1 W' := HB0.out.trans (hf.below (fun k hk => by simp at hk; omega) HB0.out.size)
      exact ⟨hb2.trans (hb3.mono hb2.size), (hb3.cell hlt1).trans r0, (hb3.cell hlt1).trans r1, (hb3.cell hlt1).trans r2, (hb3.frozen hlt1).trans q0, (hb3.frozen hlt1).trans q1, (hb3.frozen hlt1).trans q2⟩
    have HSZ5 : Hid (w.heap.size + 1 + 1 ≤ w1.heap.size + 3) := by show _ ≤ _; omega
    rw [← HS0.out] at HSZ5
    clear r0 r1 r2 q0 q1 q2 hb2
    generalize ((w1.alloc (.cells #[.int .i64 c1, .int .i64 c2, .int .i64 c3] 29)).alloc (.map #[] 0)).alloc (.cells (Array.replicate p.funcs.length (.slice none 0 0)) 49) = W5 at *
    have HN : Hid (w1.heap.size + 1 + 1 ≠ w1.heap.size + 1 ∧ w.heap.size ≤ w1.heap.size + 1 ∧ w.heap.size ≤ w1.heap.size + 1 + 1 ∧ w.heap.size + 1 ≠ w1.heap.size + 1 ∧ w.heap.size + 1 ≠ w1.heap.size + 1 + 1) := ⟨by omega, by omega, by omega, by omega, by omega⟩
    generalize w1.heap.size + 1 + 1 = cb at *
    generalize w1.heap.size + 1 = fm at *
    clear HB0 HS0 hlt1 hs2
    go_wp2_with fail
    go_loopw [25] (fun t25 wr => ∃ (j : Nat) (vs : List Value), j ≤ p.funcs.length ∧ t25 = .int .i64 j ∧ lkZ p.funcs (p.funcs.drop j) j = res ∧ Fr [fm, cb] W5 wr ∧ Tab wr fm (ftK p.funcs j) ∧ RowsAt (w.heap.size + 1 + 1) wr fm cb p.funcs j vs) (fun t25 _ => p.funcs.length - (intOf t25).toNat)
    case atStart => exact ⟨0, _, Nat.zero_le _, rfl, by rw [HF.out]; rfl, Fr.refl _ _, HT0.out, HR0.out⟩
    case round =>
      obtain ⟨j, vs, hj, rfl, h1, h2, h3, h4⟩ := hrel
      have HX := Hid.mk' (And.intro h1 (And.intro h2 (And.intro h3 h4)))
      clear h1 h2 h3 h4
      by_cases hlt : j < p.funcs.length
      · have hb3 := (HRES.out _ HX.out.2.1).1
        have HSW : Hid (w.heap.size + 1 + 1 ≤ wr.heap.size) := Nat.le_trans HSZ5.out HX.out.2.1.size
        have hrw := HR.out.below hb3
        obtain ⟨b, o, hfa, c0, c1, c2⟩ := rowF_at hrw hlt
        rw [hfa]
        clear hrw hfa
        have hli : (j : Int) < (p.funcs.length : Int) := by omega
        have HY : Hid (p.funcs[j].In w) := HS.out p.funcs[j] (List.getElem_mem hlt)
        have HSZ := Hid.mk' (HRM.out p.funcs[j] (List.getElem_mem hlt))
        have HD : Hid (lkZ p.funcs (p.funcs.drop j) j = if (fnK p.funcs j p.funcs[j]).e ≠ 0 then ((fnK p.funcs j p.funcs[j]).e, (j : Int), (fnK p.funcs j p.funcs[j]).m) else lkZ p.funcs (p.funcs.drop (j + 1)) (j + 1)) := lkZ_drop hlt
        have HFT : Hid (ftK p.funcs (j + 1) = (p.funcs[j].name.data.toList, (j : Int)) :: ftK p.funcs j) := ftK_succ hlt
        have HPUT : Hid (∀ W v, RowsAt (w.heap.size + 1 + 1) W fm cb p.funcs j vs → W.ownsRow (w.heap.size + 1 + 1) 3 1 v (fnK p.funcs j p.funcs[j]).c.length ((fnK p.funcs j p.funcs[j]).c.map (Value.int .i64)) → fm ∉ ob v → cb ∉ ob v → RowsAt (w.heap.size + 1 + 1) (W.setCell ⟨cb, j, none⟩ v) fm cb p.funcs (j + 1) (vs.set j v)) := fun W v h1 h2 h3 h4 => h1.put hlt h2 h3 h4
        have HNIL : Hid (vs[j]? = some (.slice none 0 0)) := HX.out.2.2.2.2.2.1 j hlt (Nat.le_refl _)
        have HFK : Hid (fnK p.funcs j p.funcs[j] = fnS (ftK p.funcs j) p.funcs[j]) := rfl
        generalize p.funcs[j] = f at *
        generalize fnK p.funcs j f = R at *
        have hb4 := (hb3.alloc hb3.size (.cells #[.string f.name, .slice f.pa f.params.length f.pc, .slice f.ba f.body.length f.bc] 37))
        have hb4' := (Below.refl _ wr).alloc (Nat.le_refl _) (.cells #[.string f.name, .slice f.pa f.params.length f.pc, .slice f.ba f.body.length f.bc] 37)
        have HWS := Hid.mk' (ws_begin (N := w.heap.size) (HX.out.2.2.1.stay hb4') HN.out.2.1)
        have hb5 := hb4.alloc hb4.size (.cells #[.pointer none, .map (some fm), .int .i64 0, .slice none 0 0] 74)
        have HFN := Hid.mk' (nfn_any w _ fm (ftK p.funcs j) f _ HY.out hb5 HWS.out HSZ.out.1 HSZ.out.2)
        have HB5 := Hid.mk' hb5
        clear hb4 hb4' hb5 hb3
        rw [← HFK.out] at HFN
        unfold Fu.val at HFN
        simp only [World.size_alloc] at HFN
        go_wp2_with fail
        refine HFN.out.mono ?_
        rintro e w2 ⟨rfl, a', bs', v', cs', k1, k2, k3, k4⟩
        obtain ⟨va, vc, rfl⟩ := own_form k1.2.2.2.1
        clear HFN
        have HKEEP : Hid (∀ g, g < wr.heap.size → w2.heap[g]? = wr.heap[g]?) := fun g hg => (k3.2.2.2.2 g (by rw [World.size_alloc, World.size_alloc]; omega) (by simp only [List.mem_singleton]; omega)).trans (((Lib.alloc_old _ _ g (by rw [World.size_alloc]; omega)).trans (Lib.alloc_old _ _ g hg)))
        have HF2 : Hid (Fr [fm, cb] W5 w2) := HX.out.2.1.trans ⟨k3.1, k3.2.1, k3.2.2.1, by have h := k3.size; rw [World.size_alloc, World.size_alloc] at h; omega, fun g hg _ => HKEEP.out g hg⟩
        have HK1 := Hid.mk' k1
        have HK2 := Hid.mk' k2
        have HK4 : Hid (∀ g ∈ ob (.slice va cs'.length vc), wr.heap.size ≤ g) := fun g hg => by have h := k4 g hg; omega
        have t2 := k1.cellM
        have t3 := k1.cellV
        have hs2 : wr.heap.size + 1 + 1 ≤ w2.heap.size := by have := k3.size; simpa using this
        have f0 : w2.cell? ⟨wr.heap.size, 0, none⟩ = some (.string f.name) := by
          rw [k3.cell (by rw [World.size_alloc, World.size_alloc]; omega) (by simp only [List.mem_singleton]; omega), World.cell?_alloc_past _ _ _ (by simp), World.cell?_alloc_at _ _ _ _ rfl]; rfl
        clear k1 k2 k3 k4
        cases er : (R.e != 0)
        · have er' : R.e = 0 := by simpa using er
          have HV : Hid (lkZ p.funcs (p.funcs.drop (j + 1)) (j + 1) = res) := by show _ = _; rw [← HX.out.1, HD.out, if_neg (by simpa using er')]
          have HC2 := Hid.mk' (HK2.out er')
          clear er'
          obtain ⟨w3, hput, ht3, ho3⟩ := HK1.out.2.2.1.put f.name (by have := HY.out.1; unfold maxLen; omega) j ⟨by omega, by omega⟩ (by have := ftK_length p.funcs j; omega)
          have hbf : wr.heap.size + 1 ≠ fm := by have h := HK1.out.2.2.2.2.1; simp only [List.nodup_cons, List.mem_cons, not_or] at h; exact h.1.1
          have t3' : w3.cell? ⟨wr.heap.size + 1, 3, none⟩ = some (.slice va cs'.length vc) := (ho3.cell (by omega) hbf).trans t3
          have HR3 : Hid (RowsAt (w.heap.size + 1 + 1) w3 fm cb p.funcs j vs) := HX.out.2.2.2.on HN.out.1 (fun g hg hne => (ho3.2.2.2.2 g (by omega) hne).trans (HKEEP.out g hg))
          have u0 := HR3.out.cell HNIL.out
          have u1 := HR3.out.frozen j
          have HO3 := Hid.mk' ho3
          have HT3 := Hid.mk' ht3
          clear ho3 ht3
          go_wp2_with fail
          go_roundw
          case rel =>
            have hv : fm ∉ ob (.slice va cs'.length vc) := fun hg => HK1.out.2.2.2.2.2.1 fm hg (by simp)
            have hcb : cb ∉ ob (.slice va cs'.length vc) := fun hg => by have h1 := HK4.out cb hg; have h2 := HX.out.2.2.2.lt; omega
            have how := HK1.out.2.2.2.1
            rw [HC2.out] at how
            have how3 := own_keep how (fun g hg => HO3.out.2.2.2.2 g (own_lt how g hg).2 (fun e => hv (by rw [HC2.out, ← e]; exact hg)))
            rw [← HC2.out] at how3
            refine ⟨j + 1, vs.set j (.slice va cs'.length vc), by omega, by go_num, HV.out, ?_, ?_, HPUT.out _ _ HR3.out (by rw [← HC2.out]; exact own_base how3 (fun g hg => Nat.le_trans HSW.out (HK4.out g hg))) hv hcb⟩
            · exact (HF2.out.trans ((Fr.of_only HO3.out).mono (by simp))).set (by simp) _ _
            · rw [HFT.out]
              exact HT3.out.only ((OnlyB.refl cb w3).set _ _) (fun e => HN.out.1 e.symm)
          case measure => simp [intOf]; omega
        · have er' : R.e ≠ 0 := by simpa using er
          have HG : Hid (res = (R.e, (j : Int), R.m)) := by show _ = _; rw [← HX.out.1, HD.out, if_pos er']
          obtain ⟨hb7, r0, r1, r2, q0, q1, q2⟩ := HRES.out _ HF2.out
          have r0' : w2.drew.cell? _ = _ := r0
          have r1' : w2.drew.cell? _ = _ := r1
          have r2' : w2.drew.cell? _ = _ := r2
          have q0' : w2.drew.frozen? _ = _ := q0
          have q1' : w2.drew.frozen? _ = _ := q1
          have q2' : w2.drew.frozen? _ = _ := q2
          have t2' : w2.drew.cell? _ = _ := t2
          have HB7 := Hid.mk' hb7
          clear t3 f0 hb7
          go_upto_region 12 with fail
          go_region
          go_wp2_with fail
          refine bodyPost_ret (v := .tuple #[.slice none 0 0, fltV R.e j R.m]) (by simp [results, Tryd.results19, go_sem, r0, r1, r2]) rfl (HK.out _ _ ⟨Below.drew (below_set3 HB7.out (by omega) _ _ _), ?_, ?_⟩)
          · intro _; rw [HG.out]
          · intro h; rw [HG.out] at h; exact absurd h er'
      · have hli : ¬ (j : Int) < (p.funcs.length : Int) := by omega
        have hjn : j = p.funcs.length := by omega
        have HG : Hid (res = (0, 0, 0)) := by show _ = _; rw [← HX.out.1, List.drop_eq_nil_of_le (by omega), lkZ]
        have HROW : Hid (RowsAt (w.heap.size + 1 + 1) wr fm cb p.funcs p.funcs.length vs) := by have h := HX.out.2.2.2; rw [hjn] at h; exact h
        obtain ⟨hb7, r0, r1, r2, q0, q1, q2⟩ := HRES.out _ HX.out.2.1
        have HB7 := Hid.mk' hb7
        have HX2 := Hid.mk' HX.out.2.1
        clear hb7 HX hjn
        go_wp2_with fail
        refine bodyPost_ret (v := .tuple #[.slice (some ⟨cb, 0, none⟩) p.funcs.length p.funcs.length, fltV 0 0 0]) (by simp [results, Tryd.results19, go_sem, r0, r1, r2]) rfl (HK.out _ _ ⟨below_set3 HB7.out (by omega) _ _ _, ?_, ?_⟩)
        · intro h; rw [HG.out] at h; exact absurd rfl h
        · intro _
          have hc := HN.out.2.2.2.2
          exact ⟨HG.out, fm, cb, vs, rfl, HN.out.2.2.1, HN.out.1, (((HROW.out.set (by omega) hc _ _).set (by omega) hc _ _).set (by omega) hc _ _).lower (by omega)⟩
  · have e1' : c1 ≠ 0 := by simpa using e1
    have HG : Hid (res = (c1, c2, c3)) := (by rw [HE.out, if_pos e1'] : res = _)
    clear HE HZ e1'
    have R : ∀ o, (w1.alloc o).drew.cell? ⟨w.heap.size + 1, 0, none⟩ = some (.int .i64 0) ∧ (w1.alloc o).drew.cell? ⟨w.heap.size + 1, 1, none⟩ = some (.int .i64 0) ∧ (w1.alloc o).drew.cell? ⟨w.heap.size + 1, 2, none⟩ = some (.int .i64 0) ∧ ∀ j, (w1.alloc o).drew.frozen? ⟨w.heap.size + 1, j, none⟩ = w1.frozen? ⟨w.heap.size + 1, j, none⟩ := fun o => by
      have hlt1 : w.heap.size + 1 < w1.heap.size := by omega
      refine ⟨?_, ?_, ?_, fun j => ?_⟩
      · show (w1.alloc o).cell? _ = _
        rw [World.cell?_alloc_past _ _ _ hlt1]; exact r0
      · show (w1.alloc o).cell? _ = _
        rw [World.cell?_alloc_past _ _ _ hlt1]; exact r1
      · show (w1.alloc o).cell? _ = _
        rw [World.cell?_alloc_past _ _ _ hlt1]; exact r2
      · exact ((Below.refl w1.heap.size w1).alloc (Nat.le_refl _) o).frozen hlt1
    obtain ⟨r0', r1', r2', hfz⟩ := R (.cells #[.int .i64 c1, .int .i64 c2, .int .i64 c3] 29)
    have q0' := (hfz 0).trans q0
    have q1' := (hfz 1).trans q1
    have q2' := (hfz 2).trans q2
    have n0 : (w1.alloc (.cells #[.int .i64 c1, .int .i64 c2, .int .i64 c3] 29)).drew.cell? ⟨w1.heap.size, 0, none⟩ = some (.int .i64 c1) := by
      show (w1.alloc _).cell? _ = _
      rw [World.cell?_alloc_at _ _ _ _ rfl]; rfl
    have n1 : (w1.alloc (.cells #[.int .i64 c1, .int .i64 c2, .int .i64 c3] 29)).drew.cell? ⟨w1.heap.size, 1, none⟩ = some (.int .i64 c2) := by
      show (w1.alloc _).cell? _ = _
      rw [World.cell?_alloc_at _ _ _ _ rfl]; rfl
    have n2 : (w1.alloc (.cells #[.int .i64 c1, .int .i64 c2, .int .i64 c3] 29)).drew.cell? ⟨w1.heap.size, 2, none⟩ = some (.int .i64 c3) := by
      show (w1.alloc _).cell? _ = _
      rw [World.cell?_alloc_at _ _ _ _ rfl]; rfl
    have hb7 : Below w.heap.size w (w1.alloc (.cells #[.int .i64 c1, .int .i64 c2, .int .i64 c3] 29)) := hb2.alloc hb2.size _
    clear R hfz c1'
    go_upto_region 3 with fail
    clear r0 r1 r2 q0 q1 q2
    generalize w1.alloc (.cells #[.int .i64 c1, .int .i64 c2, .int .i64 c3] 29) = W6 at *
    have r0 : W6.cell? _ = _ := r0'
    have r1 : W6.cell? _ = _ := r1'
    have r2 : W6.cell? _ = _ := r2'
    have q0 : W6.frozen? _ = _ := q0'
    have q1 : W6.frozen? _ = _ := q1'
    have q2 : W6.frozen? _ = _ := q2'
    have n0' : W6.cell? _ = _ := n0
    have n1' : W6.cell? _ = _ := n1
    have n2' : W6.cell? _ = _ := n2
    have hne : w.heap.size + 1 ≠ w1.heap.size := by omega
    go_region
    go_wp2_with fail
    refine bodyPost_ret (v := .tuple #[.slice none 0 0, fltV c1 c2 c3]) (by simp [results, Tryd.results19, go_sem, r0, r1, r2]) rfl (HK.out _ _ ⟨Below.drew (below_set3 hb7 (by omega) _ _ _), ?_, ?_⟩)
    · intro _; rw [HG.out]
    · intro h; rw [HG.out] at h; exact absurd (show c1 = 0 from h) (by simpa using e1)
end Go.Proofs.YtkkcgkpbbngloaaDoor

/- slices.Sort and slices.Compact at lists of int, laid at this program: each one application of what is proved once over any program. -/
namespace Go.Proofs
open Go.Shelf
def Tryd.lays189_ren : Go.Shelf.Ren := ⟨fun | 189 => 23 | 125 => 37 | 257 => 36 | 128 => 60 | 129 => 61 | 294 => 51 | 295 => 52 | 296 => 53 | 297 => 54 | 298 => 55 | 299 => 56 | 216 => 57 | 300 => 58 | 301 => 59 | 328 => 73 | 329 => 74 | 330 => 75 | 331 => 76 | 332 => 77 | 215 => 78 | 343 => 92 | n => n, fun | 28 => 49 | 3 => 3 | 46 => 83 | 0 => 0 | 51 => 110 | 53 => 112 | 4 => 4 | 183 => 103 | 182 => 102 | 131 => 91 | 5 => 5 | 9 => 9 | 218 => 123 | 222 => 127 | 228 => 139 | 229 => 140 | n => n, fun | n => n⟩
theorem Tryd.lays189 : Go.Proofs.Lays.n189 Tryd.prog Tryd.lays189_ren := {
  mixed := by kernel_rfl
  f125 := Tryd.func37.trans (congrArg some (by kernel_rfl))
  f128 := Tryd.func60.trans (congrArg some (by kernel_rfl))
  f129 := Tryd.func61.trans (congrArg some (by kernel_rfl))
  f189 := Tryd.func23.trans (congrArg some (by kernel_rfl))
  f215 := Tryd.func78.trans (congrArg some (by kernel_rfl))
  f216 := Tryd.func57.trans (congrArg some (by kernel_rfl))
  f257 := Tryd.func36.trans (congrArg some (by kernel_rfl))
  f294 := Tryd.func51.trans (congrArg some (by kernel_rfl))
  f295 := Tryd.func52.trans (congrArg some (by kernel_rfl))
  f296 := Tryd.func53.trans (congrArg some (by kernel_rfl))
  f297 := Tryd.func54.trans (congrArg some (by kernel_rfl))
  f298 := Tryd.func55.trans (congrArg some (by kernel_rfl))
  f299 := Tryd.func56.trans (congrArg some (by kernel_rfl))
  f300 := Tryd.func58.trans (congrArg some (by kernel_rfl))
  f301 := Tryd.func59.trans (congrArg some (by kernel_rfl))
  f328 := Tryd.func73.trans (congrArg some (by kernel_rfl))
  f329 := Tryd.func74.trans (congrArg some (by kernel_rfl))
  f330 := Tryd.func75.trans (congrArg some (by kernel_rfl))
  f331 := Tryd.func76.trans (congrArg some (by kernel_rfl))
  f332 := Tryd.func77.trans (congrArg some (by kernel_rfl))
  f343 := Tryd.func92.trans (congrArg some (by kernel_rfl))
  t0 := Tryd.underlying0
  a0 := Tryd.isAgg0
  z0 := Tryd.sizeOf0
  v0 := Tryd.zeroValue0
  t3 := Tryd.underlying3
  a3 := Tryd.isAgg3
  z3 := Tryd.sizeOf3
  v3 := Tryd.zeroValue3
  t4 := Tryd.underlying4
  a4 := Tryd.isAgg4
  z4 := Tryd.sizeOf4
  v4 := Tryd.zeroValue4
  t5 := Tryd.underlying5
  a5 := Tryd.isAgg5
  z5 := Tryd.sizeOf5
  v5 := Tryd.zeroValue5
  t9 := Tryd.underlying9
  a9 := Tryd.isAgg9
  z9 := Tryd.sizeOf9
  v9 := Tryd.zeroValue9
  t28 := Tryd.underlying49
  a28 := Tryd.isAgg49
  z28 := Tryd.sizeOf49
  v28 := Tryd.zeroValue49
  t46 := Tryd.underlying83
  a46 := Tryd.isAgg83
  z46 := Tryd.sizeOf83
  v46 := Tryd.zeroValue83
  t51 := Tryd.underlying110
  a51 := Tryd.isAgg110
  z51 := Tryd.sizeOf110
  v51 := Tryd.zeroValue110
  t53 := Tryd.underlying112
  a53 := Tryd.isAgg112
  z53 := Tryd.sizeOf112
  v53 := Tryd.zeroValue112
  t131 := Tryd.underlying91
  a131 := Tryd.isAgg91
  z131 := Tryd.sizeOf91
  v131 := Tryd.zeroValue91
  t182 := Tryd.underlying102
  a182 := Tryd.isAgg102
  z182 := Tryd.sizeOf102
  v182 := Tryd.zeroValue102
  t183 := Tryd.underlying103
  a183 := Tryd.isAgg103
  z183 := Tryd.sizeOf103
  v183 := Tryd.zeroValue103
  t218 := Tryd.underlying123
  a218 := Tryd.isAgg123
  z218 := Tryd.sizeOf123
  v218 := Tryd.zeroValue123
  t222 := Tryd.underlying127
  a222 := Tryd.isAgg127
  z222 := Tryd.sizeOf127
  v222 := Tryd.zeroValue127
  t228 := Tryd.underlying139
  a228 := Tryd.isAgg139
  z228 := Tryd.sizeOf139
  v228 := Tryd.zeroValue139
  t229 := Tryd.underlying140
  a229 := Tryd.isAgg140
  z229 := Tryd.sizeOf140
  v229 := Tryd.zeroValue140 }
def Tryd.laysNm220_ren : Go.Shelf.Ren := ⟨fun | 20 => 24 | n => n, fun | 22 => 49 | 3 => 3 | 4 => 4 | 0 => 0 | n => n, fun | n => n⟩
theorem Tryd.laysNm220 : Go.Proofs.Lays2.n20 Tryd.prog Tryd.laysNm220_ren := {
  mixed := by kernel_rfl
  f20 := Tryd.func24.trans (congrArg some (by kernel_rfl))
  t0 := Tryd.underlying0
  a0 := Tryd.isAgg0
  z0 := Tryd.sizeOf0
  v0 := Tryd.zeroValue0
  t3 := Tryd.underlying3
  a3 := Tryd.isAgg3
  z3 := Tryd.sizeOf3
  v3 := Tryd.zeroValue3
  t4 := Tryd.underlying4
  a4 := Tryd.isAgg4
  z4 := Tryd.sizeOf4
  v4 := Tryd.zeroValue4
  t22 := Tryd.underlying49
  a22 := Tryd.isAgg49
  z22 := Tryd.sizeOf49
  v22 := Tryd.zeroValue49
  i3 := by kernel_rfl }
end Go.Proofs

/- slices.Sort and slices.Compact, at a row of numbers that the call owns. -/
namespace Go.Proofs.YtkkcgkpbbngloaaDoor
open Go.RowKit Go.Sort

/-- The numbers, rising. -/
def sortI (l : List Int) : List Int := l.mergeSort fun x y => decide (x ≤ y)
theorem sortI_length (l : List Int) : (sortI l).length = l.length := List.length_mergeSort l
theorem sort_row {N : Nat} {v : Value} {c : List Int} (W : World) (h : W.ownsRow N 3 1 v c.length (c.map (Value.int .i64))) (hl : c.length ≤ 1000000) :
    Calls Tryd.prog 23 #[v] W fun e W' => e = .returned (.tuple #[]) ∧ W'.ownsRow N 3 1 v c.length ((sortI c).map (Value.int .i64)) ∧ Fr (ob v) W W' := by
  rcases h.2 with ⟨rfl, h0⟩ | ⟨g, cap, cur, rfl, hg, hb, hn, hm, hs, ht⟩
  · have hc : c = [] := List.length_eq_zero_iff.1 h0
    subst hc
    refine (Any.slices_Sort_int_none Tryd.lays189 none 0 W).mono ?_
    rintro e W' ⟨rfl, rfl⟩
    exact ⟨rfl, by simpa [sortI] using h, Fr.refl _ _⟩
  · have hH : Holds (Value.int .i64) W g 0 c.toArray := holds_of_blockI hb (by simpa using ht)
    refine (Any.slices_Sort_int Tryd.lays189 g 0 cap c W hH (Array.getElem?_eq_some_iff.1 hb).1 (by omega)).mono ?_
    rintro e W' ⟨rfl, n, os, rfl⟩
    exact ⟨rfl, ownsRow_sortedI (sortI_length c) hg hb hn hm hs, Fr.of_grown (grownBy_sortedI _)⟩
theorem compact_row {N : Nat} {v : Value} {c : List Int} (W : World) (h : W.ownsRow N 3 1 v c.length (c.map (Value.int .i64))) :
    Calls Tryd.prog 24 #[v] W fun e W' => ∃ v', e = .returned v' ∧ W'.ownsRow N 3 1 v' (Lib.compact c).length ((Lib.compact c).map (Value.int .i64)) ∧ ob v' = ob v ∧ Fr (ob v) W W' := by
  rcases h.2 with ⟨rfl, h0⟩ | ⟨g, cap, cur, rfl, hg, hb, hn, hm, hs, ht⟩
  · have hc : c = [] := List.length_eq_zero_iff.1 h0
    subst hc
    refine (Any.slices_Compact_int_empty Tryd.laysNm220 none 0 W).mono ?_
    rintro e W' ⟨rfl, rfl⟩
    exact ⟨_, rfl, by rw [show Lib.compact ([] : List Int) = [] from rfl]; exact h, rfl, Fr.refl _ _⟩
  · have hH : Holds (Value.int .i64) W g 0 c.toArray := holds_of_blockI hb (by simpa using ht)
    refine (Any.slices_Compact_int Tryd.laysNm220 g 0 cap c W hH (by unfold maxLen at hm; omega) hn).mono ?_
    rintro e W' ⟨rfl, q, rfl⟩
    have hle := Lib.compact_length_le c
    have hc := Lib.ownsRow_putRow (q := q) (k := (Lib.compact c).length) (ys := Lib.compact c ++ List.replicate (c.length - (Lib.compact c).length) 0) h (by simp; omega) hle
    rw [List.take_left] at hc
    refine ⟨_, rfl, hc, rfl, ?_⟩
    refine ⟨rfl, rfl, rfl, by simp [putRow, mapBlock, Sort.ahead], fun k hk hne => ?_⟩
    have hne' : g ≠ k := fun e => hne (by rw [← e]; simp [ob, Value.ownBlock])
    simp [putRow, mapBlock, Sort.ahead, Array.getElem?_modify, hne']
end Go.Proofs.YtkkcgkpbbngloaaDoor

/- How many calls a look at a function tells. -/
namespace Go.Proofs.YtkkcgkpbbngloaaDoor
open Go.RowKit Go.Sort

mutual
theorem exC_len (ft : List (List UInt8 × Int)) : ∀ x : Ex, (exC ft x).length ≤ x.sz
  | .mk k n s a c l => by
    have h1 := exLC_len ft l
    have h2 := (Ex.mk k n s a c l).sz_args
    simp only [Ex.args] at h2
    rw [exC, List.length_append, h2]
    have h3 : (nmC ft k s.data.toList).length ≤ 1 := by unfold nmC; split <;> simp
    omega
theorem exLC_len (ft : List (List UInt8 × Int)) : ∀ l : List Ex, (exLC ft l).length ≤ szL l
  | [] => by rw [exLC, szL]; simp
  | x :: r => by
    have h1 := exC_len ft x
    have h2 := exLC_len ft r
    rw [exLC, szL, List.length_append]; omega
end
mutual
theorem stS_c (ft : List (List UInt8 × Int)) : ∀ (s : St) (env : Env) (m : Int), (stS ft s env m).c.length ≤ qS s
  | .mk k nm n a b ba bc l ea ec e ca cc c, env, m => by
    have h1 := lsS_c ft l ((lvZ env == 0, []) :: env) m
    have h2 := csS_c ft c env (lsS ft l ((lvZ env == 0, []) :: env) m).m
    have h3 := lsS_c ft e ((lvZ env == 0, []) :: env) (csS ft c env (lsS ft l ((lvZ env == 0, []) :: env) m).m).m
    have h4 := lsS_c ft l (dcEnv ((true, []) :: env) nm.data.toList 3) m
    have e1 := exC_len ft a
    have e2 := exC_len ft b
    rw [stS, qS]
    split
    · first | (dsimp only; omega) | exact Nat.zero_le _ | (simp only [List.length_append]; omega)
    split
    · first | (dsimp only; omega) | exact Nat.zero_le _ | (simp only [List.length_append]; omega)
    split
    · first | (dsimp only; omega) | exact Nat.zero_le _ | (simp only [List.length_append]; omega)
    split
    · first | (dsimp only; omega) | exact Nat.zero_le _ | (simp only [List.length_append]; omega)
    split
    · split
      · first | (dsimp only; omega) | exact Nat.zero_le _ | (simp only [List.length_append]; omega)
      split
      · first | (dsimp only; omega) | exact Nat.zero_le _ | (simp only [List.length_append]; omega)
      split
      · first | (dsimp only; omega) | exact Nat.zero_le _ | (simp only [List.length_append]; omega)
      · first | (dsimp only; omega) | exact Nat.zero_le _ | (simp only [List.length_append]; omega)
    split
    · split
      · first | (dsimp only; omega) | exact Nat.zero_le _ | (simp only [List.length_append]; omega)
      · first | (dsimp only; omega) | exact Nat.zero_le _ | (simp only [List.length_append]; omega)
    split
    · first | (dsimp only; omega) | exact Nat.zero_le _ | (simp only [List.length_append]; omega)
    · first | (dsimp only; omega) | exact Nat.zero_le _ | (simp only [List.length_append]; omega)
theorem lsS_c (ft : List (List UInt8 × Int)) : ∀ (l : List St) (env : Env) (m : Int), (lsS ft l env m).c.length ≤ qSs l
  | [], env, m => by rw [lsS, qSs]; simp
  | s :: r, env, m => by
    have h1 := stS_c ft s env (m + 1)
    have h2 := lsS_c ft r (stS ft s env (m + 1)).env (stS ft s env (m + 1)).m
    rw [lsS, qSs]
    split
    · omega
    · first | (dsimp only; omega) | exact Nat.zero_le _ | (simp only [List.length_append]; omega)
theorem caS_c (ft : List (List UInt8 × Int)) : ∀ (c : Ca) (env : Env) (m : Int), (caS ft c env m).c.length ≤ qC c
  | .mk n ba bc l, env, m => by
    have h1 := lsS_c ft l ((lvZ env == 0, []) :: env) m
    rw [caS, qC]
    omega
theorem csS_c (ft : List (List UInt8 × Int)) : ∀ (l : List Ca) (env : Env) (m : Int), (csS ft l env m).c.length ≤ qCs l
  | [], env, m => by rw [csS, qCs]; simp
  | c :: r, env, m => by
    have h1 := caS_c ft c env m
    have h2 := csS_c ft r env (caS ft c env m).m
    rw [csS, qCs]
    split
    · first | (dsimp only; omega) | exact Nat.zero_le _ | (simp only [List.length_append]; omega)
    · first | (dsimp only; omega) | exact Nat.zero_le _ | (simp only [List.length_append]; omega)
end
theorem fnS_len (ft : List (List UInt8 × Int)) (f : Fu) : (fnS ft f).c.length ≤ qSs f.body := by
  unfold fnS
  split
  · simp
  split
  · simp
  · exact lsS_c ft f.body _ 0
end Go.Proofs.YtkkcgkpbbngloaaDoor

/- names.Check and names.Calls. -/
namespace Go.Proofs.YtkkcgkpbbngloaaDoor
open Go.RowKit Go.Sort

theorem lkP_flt {p : Pr} {w w' : World} {e : Ending} (h : LkP p w e w') : Below w.heap.size w w' ∧ ∃ a n c, e = .returned (.tuple #[.slice a n c, fltV (namZ p).1 (namZ p).2.1 (namZ p).2.2]) := by
  refine ⟨h.1, ?_⟩
  by_cases h0 : (namZ p).1 = 0
  · obtain ⟨hz, fm, cb, vs, he, _⟩ := h.2.2 h0
    exact ⟨_, _, _, by rw [hz]; exact he⟩
  · exact ⟨_, _, _, h.2.1 h0⟩
set_option maxRecDepth 100000 in
set_option maxHeartbeats 4000000 in
theorem ncheck_any (p : Pr) (w : World) (hin : p.In w) (ht : Tabs w) : Calls Tryd.prog 8 #[p.val] w fun e w' => e = .returned (fltV (namZ p).1 (namZ p).2.1 (namZ p).2.2) ∧ Below w.heap.size w w' := by
  have HL : Hid (∀ w', Below w.heap.size w w' → Calls Tryd.prog 19 #[p.val] w' fun e w'' => Below w'.heap.size w' w'' ∧ ∃ a n c, e = .returned (.tuple #[.slice a n c, fltV (namZ p).1 (namZ p).2.1 (namZ p).2.2])) := fun w' hb => (look_any p w' (hin.stay hb) (ht.stay hb)).mono fun e w'' h => lkP_flt h
  clear hin ht
  generalize namZ p = z at *
  obtain ⟨z1, z2, z3⟩ := z
  simp only at HL ⊢
  have hb1 := ((Below.refl _ w).alloc (Nat.le_refl _) (.cells #[.slice p.wa p.widen.length p.wc, .slice p.fa p.funcs.length p.fc] 26)).alloc (by simp) (.cells #[.int .i64 0, .int .i64 0, .int .i64 0] 29)
  unfold Pr.val at HL ⊢
  go_enter Tryd.func8, Tryd.ntmps8
  go_wp2_with fail
  refine (HL.out _ hb1).mono ?_
  rintro e w1 ⟨hbw, sa, sn, sc, rfl⟩
  obtain ⟨hX, hRs, hF⟩ := two_cells hbw
  have r0 := hRs 0 _ rfl
  have r1 := hRs 1 _ rfl
  have r2 := hRs 2 _ rfl
  have q0 := hF 0
  have q1 := hF 1
  have q2 := hF 2
  have hb2 : Below w.heap.size w w1 := hb1.trans (hbw.mono (by simp; omega))
  have hs2 : w.heap.size + 1 + 1 ≤ w1.heap.size := by have := hbw.size; simp at this; omega
  clear hX hF hRs hbw hb1
  have hlt1 : w.heap.size + 1 < w1.heap.size := by omega
  have hb3 := (Below.refl _ w1).alloc (Nat.le_refl _) (.cells #[.int .i64 z1, .int .i64 z2, .int .i64 z3] 29)
  have r0' := (hb3.cell (p := ⟨w.heap.size + 1, 0, none⟩) hlt1).trans r0
  have r1' := (hb3.cell (p := ⟨w.heap.size + 1, 1, none⟩) hlt1).trans r1
  have r2' := (hb3.cell (p := ⟨w.heap.size + 1, 2, none⟩) hlt1).trans r2
  have q0' := (hb3.frozen (p := ⟨w.heap.size + 1, 0, none⟩) hlt1).trans q0
  have q1' := (hb3.frozen (p := ⟨w.heap.size + 1, 1, none⟩) hlt1).trans q1
  have q2' := (hb3.frozen (p := ⟨w.heap.size + 1, 2, none⟩) hlt1).trans q2
  have n0 : (w1.alloc (.cells #[.int .i64 z1, .int .i64 z2, .int .i64 z3] 29)).cell? ⟨w1.heap.size, 0, none⟩ = some (.int .i64 z1) := by rw [World.cell?_alloc_at _ _ _ _ rfl]; rfl
  have n1 : (w1.alloc (.cells #[.int .i64 z1, .int .i64 z2, .int .i64 z3] 29)).cell? ⟨w1.heap.size, 1, none⟩ = some (.int .i64 z2) := by rw [World.cell?_alloc_at _ _ _ _ rfl]; rfl
  have n2 : (w1.alloc (.cells #[.int .i64 z1, .int .i64 z2, .int .i64 z3] 29)).cell? ⟨w1.heap.size, 2, none⟩ = some (.int .i64 z3) := by rw [World.cell?_alloc_at _ _ _ _ rfl]; rfl
  have hb4 := hb2.alloc hb2.size (.cells #[.int .i64 z1, .int .i64 z2, .int .i64 z3] 29)
  clear r0 r1 r2 q0 q1 q2 hb3 hb2
  go_upto_region 2 with fail
  generalize w1.alloc (.cells #[.int .i64 z1, .int .i64 z2, .int .i64 z3] 29) = W6 at *
  go_wp2_with fail
  exact bodyPost_ret (v := fltV z1 z2 z3) (by simp [results, Tryd.results8, go_sem, r0', r1', r2']) rfl ⟨rfl, below_set3 hb4 (by omega) _ _ _⟩

/-- Which functions are called by the function of a number. -/
def clN (p : Pr) (i : Int) : List Int := if (namZ p).1 ≠ 0 ∨ i < 0 ∨ (p.funcs.length : Int) ≤ i then [] else match p.funcs[i.toNat]? with | some f => Lib.compact (sortI (fnK p.funcs i.toNat f).c) | none => []
theorem nil_owns (W : World) (N : Nat) : W.ownsRow N 3 1 (.slice none 0 0) ([] : List Int).length (([] : List Int).map (Value.int .i64)) := ⟨rfl, .inl ⟨rfl, rfl⟩⟩
set_option maxRecDepth 100000 in
set_option maxHeartbeats 4000000 in
theorem ncalls_any (p : Pr) (i : Int) (w : World) (hin : p.In w) (ht : Tabs w) : Calls Tryd.prog 14 #[p.val, .int .i64 i] w fun e w' => (∃ v, e = .returned v ∧ w'.ownsRow w.heap.size 3 1 v (clN p i).length ((clN p i).map (Value.int .i64))) ∧ Below w.heap.size w w' := by
  have hb1 := (Below.refl _ w).alloc (Nat.le_refl _) (.cells #[.slice p.wa p.widen.length p.wc, .slice p.fa p.funcs.length p.fc] 26)
  have HL := Hid.mk' (look_any p _ (hin.stay hb1) (ht.stay hb1))
  have HCN : Hid (∀ f ∈ p.funcs, (checkZ p).1 = 0 → qSs f.body ≤ 12288) := fun f hf h => ((check_room h).2 f hf).1
  have HCZ : Hid ((namZ p).1 = 0 → (checkZ p).1 = 0) := fun h => by
    unfold namZ at h
    split at h
    · rename_i h0; exact absurd h h0
    · rename_i h0; simpa using h0
  clear hin ht
  unfold Pr.val at HL ⊢
  go_enter Tryd.func14, Tryd.ntmps14
  go_wp2_with fail
  refine HL.out.mono ?_
  rintro e w1 ⟨hbw, hp1, hp2⟩
  have hb2 : Below w.heap.size w w1 := hb1.trans (hbw.mono (by simp))
  clear HL hb1 hbw
  by_cases hz : (namZ p).1 = 0
  · obtain ⟨_, fm, cb, vs, rfl, hcb, hne, hrows⟩ := hp2 hz
    have HZ := Hid.mk' hz
    clear hp1 hp2 hz
    have h00 : ((0 : Int) != 0) = false := rfl
    by_cases hi0 : i < 0
    · have hc : Hid (clN p i = []) := by show _ = _; unfold clN; rw [if_pos (Or.inr (Or.inl hi0))]
      have hb3 := hb2.alloc hb2.size (.cells #[.int .i64 0, .int .i64 0, .int .i64 0] 29)
      clear hrows
      go_wp2_with fail
      go_ret
      exact ⟨⟨_, rfl, by rw [hc.out]; exact nil_owns _ _⟩, hb3⟩
    · by_cases hin2 : (p.funcs.length : Int) ≤ i
      · have hc : Hid (clN p i = []) := by show _ = _; unfold clN; rw [if_pos (Or.inr (Or.inr hin2))]
        have hb3 := hb2.alloc hb2.size (.cells #[.int .i64 0, .int .i64 0, .int .i64 0] 29)
        clear hrows
        go_wp2_with fail
        go_ret
        exact ⟨⟨_, rfl, by rw [hc.out]; exact nil_owns _ _⟩, hb3⟩
      · obtain ⟨k, rfl⟩ : ∃ k : Nat, i = (k : Int) := ⟨i.toNat, by omega⟩
        have hk : k < p.funcs.length := by omega
        have hki : (k : Int) < (p.funcs.length : Int) := by omega
        obtain ⟨v, hv1, hv2, hv3, hv4⟩ := hrows.2.2.2 k p.funcs[k] (List.getElem?_eq_getElem hk) hk
        have hc : Hid (clN p k = Lib.compact (sortI (fnK p.funcs k p.funcs[k]).c)) := by
          show _ = _
          unfold clN
          rw [if_neg (by have := HZ.out; omega), Int.toNat_natCast, List.getElem?_eq_getElem hk]
        have hl : (fnK p.funcs k p.funcs[k]).c.length ≤ 12288 := Nat.le_trans (fnS_len _ _) (HCN.out _ (List.getElem_mem hk) (HCZ.out HZ.out))
        generalize (fnK p.funcs k p.funcs[k]).c = c at *
        have hb3 := hb2.alloc hb2.size (.cells #[.int .i64 0, .int .i64 0, .int .i64 0] 29)
        have hb3' := (Below.refl _ w1).alloc (Nat.le_refl _) (.cells #[.int .i64 0, .int .i64 0, .int .i64 0] 29)
        have c0 := (hb3'.cell (p := ⟨cb, k, none⟩) hrows.lt).trans (hrows.cell hv1)
        have hlt := hrows.lt
        have ho := own_keep (W' := w1.alloc (.cells #[.int .i64 0, .int .i64 0, .int .i64 0] 29)) hv2 (fun g hg => hb3'.block g (own_lt hv2 g hg).2)
        have HS := Hid.mk' (sort_row _ ho (by omega))
        have HB3 := Hid.mk' hb3
        have HV4 := Hid.mk' hv4
        have HGE : Hid (∀ g ∈ ob v, w.heap.size ≤ g) := fun g hg => Nat.le_trans (by simp) ((own_lt hv2 g hg).1)
        obtain ⟨va, vc, rfl⟩ := own_form hv2
        have hlt2 : Hid (cb < (w1.alloc (.cells #[.int .i64 0, .int .i64 0, .int .i64 0] 29)).heap.size) := by show _ < _; simp; omega
        clear hrows hv1 hv2 hv3 hv4 hb3 hb3' hb2 hl hlt
        go_upto_region 4 with fail
        generalize w1.alloc (.cells #[.int .i64 0, .int .i64 0, .int .i64 0] 29) = W6 at *
        go_wp2_with fail
        refine HS.out.mono ?_
        rintro e w2 ⟨rfl, ho2, hf2⟩
        have c1 := (hf2.cell (i := k) hlt2.out HV4.out).trans c0
        have HK2 := Hid.mk' (compact_row (c := sortI c) w2 (by rw [sortI_length]; exact ho2))
        have HB4 : Hid (Below w.heap.size w w2) := HB3.out.trans (hf2.below HGE.out HB3.out.size)
        clear ho2 hf2 HS ho c0
        go_wp2_with fail
        refine HK2.out.mono ?_
        rintro e w3 ⟨v3, rfl, ho3, hob, hf3⟩
        have HB5 : Hid (Below w.heap.size w w3) := HB4.out.trans (hf3.below HGE.out HB4.out.size)
        have HO3 := Hid.mk' ho3
        clear hf3 ho3 hob HK2
        go_wp2_with fail
        go_ret
        exact ⟨⟨_, rfl, by rw [hc.out]; exact own_base HO3.out (fun g hg => Nat.le_trans (by simp) (own_lt HO3.out g hg).1)⟩, HB5.out⟩
  · have he := hp1 hz
    subst he
    have hc : Hid (clN p i = []) := by show _ = _; unfold clN; rw [if_pos (Or.inl hz)]
    have hz' : ((namZ p).1 != 0) = true := by simpa using hz
    have hb3 := hb2.alloc hb2.size (.cells #[.int .i64 (namZ p).1, .int .i64 (namZ p).2.1, .int .i64 (namZ p).2.2] 29)
    clear hz hp1 hp2
    generalize namZ p = z at *
    obtain ⟨z1, z2, z3⟩ := z
    simp only at hz' hb3 ⊢
    go_wp2_with fail
    go_ret
    exact ⟨⟨_, rfl, by rw [hc.out]; exact nil_owns _ _⟩, hb3⟩
end Go.Proofs.YtkkcgkpbbngloaaDoor

/- What is told of a program's names hangs on its addresses in nothing. -/
namespace Go.Proofs.YtkkcgkpbbngloaaDoor
open Go.RowKit Go.Sort

theorem erL_length (l : List Ex) : (erL l).length = l.length := by rw [erL_map, List.length_map]
theorem erS_length (l : List St) : (erS l).length = l.length := by rw [erS_map, List.length_map]
theorem erC_length (l : List Ca) : (erC l).length = l.length := by rw [erC_map, List.length_map]
theorem Ex.er_kind (x : Ex) : x.er.kind = x.kind := by cases x; rfl
theorem Ex.er_n (x : Ex) : x.er.n = x.n := by cases x; rfl
theorem Ex.er_name (x : Ex) : x.er.name = x.name := by cases x; rfl
theorem Ex.er_args (x : Ex) : x.er.args = erL x.args := by cases x; rfl
theorem St.er_kind (x : St) : x.er.kind = x.kind := by cases x; rfl
theorem St.er_n (x : St) : x.er.n = x.n := by cases x; rfl
theorem St.er_name (x : St) : x.er.name = x.name := by cases x; rfl
theorem St.er_a (x : St) : x.er.a = x.a.er := by cases x; rfl
theorem St.er_b (x : St) : x.er.b = x.b.er := by cases x; rfl
theorem St.er_body (x : St) : x.er.body = erS x.body := by cases x; rfl
theorem St.er_els (x : St) : x.er.els = erS x.els := by cases x; rfl
theorem St.er_cases (x : St) : x.er.cases = erC x.cases := by cases x; rfl
theorem Ca.er_n (x : Ca) : x.er.n = x.n := by cases x; rfl
theorem Ca.er_body (x : Ca) : x.er.body = erS x.body := by cases x; rfl
theorem zeroE_er (x : Ex) : zeroE x.er = zeroE x := by
  unfold zeroE
  rw [x.er_kind, x.er_n, x.er_name, x.er_args]
  congr 1
  cases x.args <;> rfl
theorem usesE_er (x : Ex) : usesE x.er = usesE x := by unfold usesE; rw [x.er_n, x.er_name]
theorem selfE_er (x : Ex) : selfE x.er = selfE x := by
  unfold selfE
  rw [usesE_er, x.er_kind, x.er_n, x.er_name, x.er_args, erL_length]
theorem chkE_er (k : Nat) : (∀ (x : Ex) (lv : Int), x.sz ≤ k → chkE x.er lv = chkE x lv) ∧ (∀ (l : List Ex) (lv : Int), szL l ≤ k → chkL (erL l) lv = chkL l lv) := by
  induction k with
  | zero =>
    refine ⟨fun x n hk => by have := x.sz_args; omega, fun l n hk => ?_⟩
    cases l with
    | nil => rfl
    | cons x r => rw [szL] at hk; have := x.sz_args; omega
  | succ k ih =>
    have h1 : ∀ (x : Ex) (lv : Int), x.sz ≤ k + 1 → chkE x.er lv = chkE x lv := fun x lv hk => by
      rw [chkE_eq, chkE_eq, selfE_er, x.er_args, ih.2 x.args (lv + 1) (by have := x.sz_args; omega)]
    refine ⟨h1, fun l => ?_⟩
    induction l with
    | nil => intro lv _; rfl
    | cons x r ihr =>
      intro lv hk
      rw [szL] at hk
      rw [erL, chkL, chkL, h1 x lv (by omega), ihr lv (by omega)]
theorem cntE_er (k : Nat) : (∀ (x : Ex) (n : Int), x.sz ≤ k → cntE x.er n = cntE x n) ∧ (∀ (l : List Ex) (n : Int), szL l ≤ k → cntL (erL l) n = cntL l n) := by
  induction k with
  | zero =>
    refine ⟨fun x n hk => by have := x.sz_args; omega, fun l n hk => ?_⟩
    cases l with
    | nil => rfl
    | cons x r => rw [szL] at hk; have := x.sz_args; omega
  | succ k ih =>
    have h1 : ∀ (x : Ex) (n : Int), x.sz ≤ k + 1 → cntE x.er n = cntE x n := fun x n hk => by
      rw [cntE_args, cntE_args, x.er_args, ih.2 x.args (n + 1) (by have := x.sz_args; omega)]
    refine ⟨h1, fun l => ?_⟩
    induction l with
    | nil => intro n _; rfl
    | cons x r ihr =>
      intro n hk
      rw [szL] at hk
      rw [erL, cntL, cntL, h1 x n (by omega), ihr _ (by omega)]
theorem cntZ_er (x : Ex) (n : Int) : cntZ x.er n = cntZ x n := by unfold cntZ; rw [zeroE_er, (cntE_er _).1 x n (Nat.le_refl _)]
theorem leastC_er (l : List Ca) : leastC (erC l) = leastC l := by
  unfold leastC
  rw [erC_map, List.any_map]
  congr 1
  funext c
  simp only [Function.comp, c.er_n]
theorem usesS_er (s : St) : usesS s.er = usesS s := by
  unfold usesS
  rw [s.er_name, s.er_n, s.er_a, s.er_b, s.er_body, s.er_els, s.er_cases, zeroE_er, zeroE_er, erS_length, erS_length, erC_length]
theorem selfS_er (s : St) : selfS s.er = selfS s := by
  unfold selfS
  rw [usesS_er, s.er_kind, s.er_name, s.er_n, s.er_a, s.er_cases, leastC_er, Ex.er_kind]
theorem chkS_er (s : St) (lv : Int) : chkS s.er lv = chkS s lv := by
  unfold chkS
  rw [selfS_er, s.er_kind, s.er_a, s.er_b, (chkE_er _).1 s.a _ (Nat.le_refl _), (chkE_er _).1 s.b _ (Nat.le_refl _)]
theorem chkT_eq2 (s : St) (lv at_ : Int) : chkT s lv at_ = if chkS s lv ≠ 0 then (chkS s lv, at_ + 1) else thenZ (chkSs s.body (lv + 1) (at_ + 1)) fun m => thenZ (chkCs s.cases (lv + 1) m) fun m => chkSs s.els (lv + 1) m := by
  cases s; simp only [chkT, St.body, St.cases, St.els]
theorem cntS_eq2 (s : St) (n : Int) : cntS s n = cntSs s.els (cntCs s.cases (cntSs s.body (cntZ s.b (cntZ s.a (n + (1 + (s.cases.length : Int))))))) := by
  cases s; simp only [cntS, St.els, St.cases, St.body, St.a, St.b]
theorem stc_er (k : Nat) :
    (∀ (s : St), s.sz ≤ k → (∀ lv a, chkT s.er lv a = chkT s lv a) ∧ (∀ n, cntS s.er n = cntS s n)) ∧
    (∀ (l : List St), ssz l ≤ k → (∀ lv a, chkSs (erS l) lv a = chkSs l lv a) ∧ (∀ n, cntSs (erS l) n = cntSs l n)) ∧
    (∀ (l : List Ca), csz l ≤ k → (∀ lv a, chkCs (erC l) lv a = chkCs l lv a) ∧ (∀ n, cntCs (erC l) n = cntCs l n)) := by
  induction k with
  | zero =>
    refine ⟨fun s hk => by have := s.sz_eq; omega, fun l hk => ?_, fun l hk => ?_⟩
    · cases l with
      | nil => exact ⟨fun _ _ => rfl, fun _ => rfl⟩
      | cons x r => rw [ssz] at hk; have := x.sz_eq; omega
    · cases l with
      | nil => exact ⟨fun _ _ => rfl, fun _ => rfl⟩
      | cons x r => rw [csz] at hk; have := x.sz_eq; omega
  | succ k ih =>
    have h1 : ∀ (s : St), s.sz ≤ k + 1 → (∀ lv a, chkT s.er lv a = chkT s lv a) ∧ (∀ n, cntS s.er n = cntS s n) := fun s hk => by
      have hz := s.sz_eq
      obtain ⟨b1, b2⟩ := ih.2.1 s.body (by omega)
      obtain ⟨e1, e2⟩ := ih.2.1 s.els (by omega)
      obtain ⟨c1, c2⟩ := ih.2.2 s.cases (by omega)
      refine ⟨fun lv a => ?_, fun n => ?_⟩
      · rw [chkT_eq2, chkT_eq2 s, chkS_er, s.er_body, s.er_els, s.er_cases]
        simp only [b1, c1, e1]
      · rw [cntS_eq2, cntS_eq2 s, s.er_body, s.er_els, s.er_cases, s.er_a, s.er_b, cntZ_er, cntZ_er, erC_length, b2, c2, e2]
    refine ⟨h1, fun l => ?_, fun l => ?_⟩
    · induction l with
      | nil => intro _; exact ⟨fun _ _ => rfl, fun _ => rfl⟩
      | cons x r ihr =>
        intro hk
        rw [ssz] at hk
        obtain ⟨a1, a2⟩ := h1 x (by omega)
        obtain ⟨b1, b2⟩ := ihr (by omega)
        refine ⟨fun lv a => ?_, fun n => ?_⟩
        · rw [erS, chkSs, chkSs]; simp only [a1, b1]
        · rw [erS, cntSs, cntSs]; simp only [a2, b2]
    · induction l with
      | nil => intro _; exact ⟨fun _ _ => rfl, fun _ => rfl⟩
      | cons c r ihr =>
        intro hk
        rw [csz] at hk
        obtain ⟨a1, a2⟩ := ih.2.1 c.body (by have := c.sz_eq; omega)
        obtain ⟨b1, b2⟩ := ihr (by omega)
        refine ⟨fun lv a => ?_, fun n => ?_⟩
        · rw [erC, chkCs, chkCs, chkCa_eq, chkCa_eq, c.er_body]; simp only [a1, b1]
        · rw [erC, cntCs, cntCs, cntC_eq, cntC_eq, c.er_body]; simp only [a2, b2]
theorem Fu.er_chk2 (f : Fu) : chkF f.er = chkF f := by
  have := ((stc_er _).2.1 f.body (Nat.le_refl _)).1
  unfold chkF headZ
  show (if (if nameZ f.name = false then (8 : Int) else if 8 < f.params.length then 3 else parsZ f.params) ≠ 0 then ((if nameZ f.name = false then (8 : Int) else if 8 < f.params.length then 3 else parsZ f.params), 0) else chkSs (erS f.body) 1 0) = _
  rw [this]
theorem fsc_er : ∀ (l : List Fu), (∀ i, chkFs (l.map Fu.er) i = chkFs l i) ∧ (∀ n, cntF (l.map Fu.er) n = cntF l n)
  | [] => ⟨fun _ => rfl, fun _ => rfl⟩
  | f :: r => by
    obtain ⟨b1, b2⟩ := fsc_er r
    refine ⟨fun i => ?_, fun n => ?_⟩
    · rw [List.map_cons, chkFs, chkFs, f.er_chk2, b1]
    · rw [List.map_cons, cntF, cntF, b2]
      congr 1
      exact ((stc_er _).2.1 f.body (Nat.le_refl _)).2 n
theorem Pr.er_chk (p : Pr) : checkZ p.er = checkZ p := by
  obtain ⟨b1, b2⟩ := fsc_er p.funcs
  have hn : nodesZ p.er = nodesZ p := by
    show min (cntF (p.funcs.map Fu.er) 0) 4097 = _
    rw [b2]; rfl
  have hw : wholeZ p.er = wholeZ p := by
    have e1 : p.er.widen = p.widen := rfl
    have e2 : p.er.funcs.length = p.funcs.length := List.length_map ..
    unfold wholeZ
    rw [hn, e1, e2]
  unfold checkZ
  rw [hw]
  show (if wholeZ p ≠ 0 then _ else chkFs (p.funcs.map Fu.er) 0) = _
  rw [b1]
mutual
theorem exZ_er (env : Env) (ft : List (List UInt8 × Int)) : ∀ x : Ex, exZ env ft x.er = exZ env ft x
  | .mk k n s a c l => by rw [Ex.er, exZ, exZ, exLZ_er env ft l]
theorem exLZ_er (env : Env) (ft : List (List UInt8 × Int)) : ∀ l : List Ex, exLZ env ft (erL l) = exLZ env ft l
  | [] => rfl
  | x :: r => by rw [erL, exLZ, exLZ, exZ_er env ft x, exLZ_er env ft r]
end
mutual
theorem exC_er (ft : List (List UInt8 × Int)) : ∀ x : Ex, exC ft x.er = exC ft x
  | .mk k n s a c l => by rw [Ex.er, exC, exC, exLC_er ft l]
theorem exLC_er (ft : List (List UInt8 × Int)) : ∀ l : List Ex, exLC ft (erL l) = exLC ft l
  | [] => rfl
  | x :: r => by rw [erL, exLC, exLC, exC_er ft x, exLC_er ft r]
end
mutual
theorem stS_er (ft : List (List UInt8 × Int)) : ∀ (s : St) (env : Env) (m : Int), stS ft s.er env m = stS ft s env m
  | .mk k nm n a b ba bc l ea ec e ca cc c, env, m => by
    have h1 := fun env m => lsS_er ft l env m
    have h2 := fun env m => lsS_er ft e env m
    have h3 := fun env m => csS_er ft c env m
    rw [St.er, stS, stS]
    simp only [exZ_er, exC_er, h1, h2, h3]
theorem lsS_er (ft : List (List UInt8 × Int)) : ∀ (l : List St) (env : Env) (m : Int), lsS ft (erS l) env m = lsS ft l env m
  | [], env, m => rfl
  | s :: r, env, m => by
    have h1 := fun env m => stS_er ft s env m
    have h2 := fun env m => lsS_er ft r env m
    rw [erS, lsS, lsS]
    simp only [h1, h2]
theorem caS_er (ft : List (List UInt8 × Int)) : ∀ (c : Ca) (env : Env) (m : Int), caS ft c.er env m = caS ft c env m
  | .mk n ba bc l, env, m => by
    have h1 := fun env m => lsS_er ft l env m
    rw [Ca.er, caS, caS, h1]
theorem csS_er (ft : List (List UInt8 × Int)) : ∀ (l : List Ca) (env : Env) (m : Int), csS ft (erC l) env m = csS ft l env m
  | [], env, m => rfl
  | c :: r, env, m => by
    have h1 := fun env m => caS_er ft c env m
    have h2 := fun env m => csS_er ft r env m
    rw [erC, csS, csS]
    simp only [h1, h2]
end
theorem fnS_er (ft : List (List UInt8 × Int)) (f : Fu) : fnS ft f.er = fnS ft f := by
  unfold fnS
  show (if tabHas ft f.name.data.toList = true then _ else if (paS f.params [(false, [])]).1 ≠ 0 then _ else lsS ft (erS f.body) (paS f.params [(false, [])]).2 0) = _
  rw [lsS_er]
  rfl
theorem ftK_er (fs : List Fu) : ∀ k, ftK (fs.map Fu.er) k = ftK fs k
  | 0 => rfl
  | k + 1 => by
    rw [ftK, ftK, ftK_er fs k, List.getElem?_map]
    cases fs[k]? <;> rfl
theorem fnK_er (fs : List Fu) (k : Nat) (f : Fu) : fnK (fs.map Fu.er) k f.er = fnK fs k f := by unfold fnK; rw [ftK_er, fnS_er]
theorem lkZ_er (fs : List Fu) : ∀ (l : List Fu) (k : Nat), lkZ (fs.map Fu.er) (l.map Fu.er) k = lkZ fs l k
  | [], k => rfl
  | f :: r, k => by rw [List.map_cons, lkZ, lkZ, fnK_er, lkZ_er fs r]
theorem Pr.er_nam (p : Pr) : namZ p.er = namZ p := by
  unfold namZ
  rw [p.er_chk]
  show (if (checkZ p).1 ≠ 0 then checkZ p else lkZ (p.funcs.map Fu.er) (p.funcs.map Fu.er) 0) = _
  rw [lkZ_er]
theorem Pr.er_cl (p : Pr) (i : Int) : clN p.er i = clN p i := by
  unfold clN
  have e2 : p.er.funcs.length = p.funcs.length := List.length_map ..
  rw [p.er_nam, e2]
  congr 1
  show (match (p.funcs.map Fu.er)[i.toNat]? with | some f => Lib.compact (sortI (fnK (p.funcs.map Fu.er) i.toNat f).c) | none => []) = _
  rw [List.getElem?_map]
  cases p.funcs[i.toNat]? with
  | none => rfl
  | some f => show Lib.compact (sortI (fnK (p.funcs.map Fu.er) i.toNat f.er).c) = _; rw [fnK_er]
/-- Programs that are alike but for their addresses are answered alike. -/
theorem er_names {p q : Pr} (h : p.er = q.er) : checkZ p = checkZ q ∧ namZ p = namZ q ∧ ∀ i, clN p i = clN q i :=
  ⟨by rw [← p.er_chk, h, q.er_chk], by rw [← p.er_nam, h, q.er_nam], fun i => by rw [← p.er_cl, h, q.er_cl]⟩
end Go.Proofs.YtkkcgkpbbngloaaDoor

/- Rows that lie in a block; small numbers; the zero expression. -/
namespace Go.Proofs.YtkkcgkpbbngloaaDoor
open Go.RowKit Go.Sort

def zEx : Ex := .mk 0 0 ⟨#[]⟩ none 0 []
theorem flat_at (sz : Nat) : ∀ (rows : List (List Value)), (∀ r ∈ rows, r.length = sz) → ∀ (i j : Nat) cs v, rows[i]? = some cs → cs[j]? = some v → rows.flatten[i * sz + j]? = some v
  | [], _, i, j, cs, v, hi, _ => by simp at hi
  | r :: rs, h, 0, j, cs, v, hi, hj => by
    simp only [List.getElem?_cons_zero, Option.some.injEq] at hi
    subst hi
    have hlt := (List.getElem?_eq_some_iff.1 hj).1
    rw [List.flatten_cons, Nat.zero_mul, Nat.zero_add, List.getElem?_append_left hlt]; exact hj
  | r :: rs, h, i + 1, j, cs, v, hi, hj => by
    have hr := h r (by simp)
    rw [List.flatten_cons, List.getElem?_append_right (by rw [hr, Nat.succ_mul]; omega), hr, show (i + 1) * sz + j - sz = i * sz + j from by rw [Nat.succ_mul]; omega]
    exact flat_at sz rs (fun x hx => h x (by simp [hx])) i j cs v (by simpa using hi) hj
theorem rowIn_block {W : World} {g sz : Nat} {rows : List (List Value)} {arr : Array Value} {t : TypeId} {fz : Nat × Nat} (h : W.heap[g]? = some (.cells arr t fz)) (hf : arr.toList = rows.flatten ∨ ∃ rest, arr.toList = rows.flatten ++ rest) (hl : ∀ r ∈ rows, r.length = sz) : RowIn W (some ⟨g, 0, none⟩) sz rows := by
  intro i cs hi
  refine ⟨g, 0, rfl, fun j v hj => ?_⟩
  have h1 := flat_at sz rows hl i j cs v hi hj
  rw [Lib.cell_of_heap h, Nat.zero_add, ← Array.getElem?_toList]
  rcases hf with hf | ⟨rest, hf⟩
  · rw [hf]; exact h1
  · rw [hf, List.getElem?_append_left (List.getElem?_eq_some_iff.1 h1).1]; exact h1
theorem rowIn_nil {W : World} {a : Option Addr} {sz : Nat} : RowIn W a sz [] := fun i cs h => by simp at h

theorem i0 : I64 0 := ⟨by decide, by decide⟩
theorem i1 : I64 1 := ⟨by decide, by decide⟩
theorem i2 : I64 2 := ⟨by decide, by decide⟩
theorem i5 : I64 5 := ⟨by decide, by decide⟩
theorem i9 : I64 9 := ⟨by decide, by decide⟩
theorem i10 : I64 10 := ⟨by decide, by decide⟩
theorem im5 : I64 (-5) := ⟨by decide, by decide⟩
theorem n0 : (0 : Nat) ≤ 140737488351232 := by decide
theorem n1 : (1 : Nat) ≤ 140737488351232 := by decide
theorem lenE (l : List Ex) : ∀ r ∈ l.map Ex.cells, r.length = 4 := by intro r hr; obtain ⟨x, _, rfl⟩ := List.mem_map.1 hr; rfl
theorem lenS (l : List St) : ∀ r ∈ l.map St.cells, r.length = 14 := by intro r hr; obtain ⟨x, _, rfl⟩ := List.mem_map.1 hr; rfl
theorem lenP (l : List Pa) : ∀ r ∈ l.map Pa.cells, r.length = 3 := by intro r hr; obtain ⟨x, _, rfl⟩ := List.mem_map.1 hr; rfl
theorem lenF (l : List Fu) : ∀ r ∈ l.map Fu.cells, r.length = 3 := by intro r hr; obtain ⟨x, _, rfl⟩ := List.mem_map.1 hr; rfl
theorem lenI (l : List Int) : ∀ r ∈ l.map (fun z => ([.int .i64 z] : List Value)), r.length = 1 := by intro r hr; obtain ⟨x, _, rfl⟩ := List.mem_map.1 hr; rfl
theorem zEx_in (W : World) : zEx.In W := Ex.in_iff.2 ⟨i0, i0, n0, Nat.le_refl _, n0, fun _ => rfl, rowIn_nil, fun y hy => by cases hy⟩
theorem have_nil (W : World) : Have W none 0 [] := ⟨⟨Nat.le_refl _, n0, fun _ => rfl, rowIn_nil⟩, fun y hy => by cases hy⟩
end Go.Proofs.YtkkcgkpbbngloaaDoor

/- The programs of the statements' first question (layer 4), and what the plain functions say of them. -/
namespace Go.Proofs.YtkkcgkpbbngloaaDoor
open Go.RowKit Go.Sort

/-- A call of a function without arguments, as a statement. -/
def lcE (s : ByteArray) : Ex := .mk 4 0 s none 0 []
def lcS (s : ByteArray) : St := .mk 10 ⟨#[]⟩ 0 (lcE s) zEx none 0 [] none 0 [] none 0 []
def pF : Fu := ⟨⟨#[102]⟩, none, 0, [], none, 0, []⟩
def pG (G : Nat) : Fu := ⟨⟨#[103]⟩, none, 0, [], some ⟨G, 0, none⟩, 2, [lcS ⟨#[102]⟩, lcS ⟨#[102]⟩]⟩
def qF (G : Nat) : Fu := ⟨⟨#[102]⟩, none, 0, [], some ⟨G, 0, none⟩, 1, [lcS ⟨#[102]⟩]⟩
def awP (G F : Nat) : Pr := ⟨none, 0, [], some ⟨F, 0, none⟩, 2, [pF, pG G]⟩
def awQ (G F : Nat) : Pr := ⟨none, 0, [], some ⟨F, 0, none⟩, 1, [qF G]⟩
theorem aw_np (G F : Nat) : namZ (awP G F) = (0, 0, 0) := by kernel_rfl
theorem aw_nq (G F : Nat) : namZ (awQ G F) = (8, 0, 1) := by kernel_rfl
theorem aw_c (G F : Nat) : (fnK (awP G F).funcs 1 (pG G)).c = [0, 0] := by kernel_rfl
theorem sort00 : sortI [0, 0] = [0, 0] := List.mergeSort_of_pairwise (by simp)
theorem compact00 : Lib.compact ([0, 0] : List Int) = [0] := by kernel_rfl
theorem aw_cl (G F : Nat) : clN (awP G F) 1 = [0] := by
  unfold clN
  rw [aw_np]
  show (if (0 : Int) ≠ 0 ∨ (1 : Int) < 0 ∨ (2 : Int) ≤ 1 then [] else Lib.compact (sortI (fnK (awP G F).funcs 1 (pG G)).c)) = _
  rw [if_neg (by omega), aw_c, sort00, compact00]
end Go.Proofs.YtkkcgkpbbngloaaDoor

/- The statements' own first question (layer 4): answers that the document fixes. -/
namespace Go.Proofs.YtkkcgkpbbngloaaDoor
open Go.RowKit Go.Sort

theorem i4 : I64 4 := ⟨by decide, by decide⟩
theorem lcE_in (W : World) (s : ByteArray) (h : s.size ≤ 140737488351232) : (lcE s).In W := Ex.in_iff.2 ⟨i4, i0, h, Nat.le_refl _, n0, fun _ => rfl, rowIn_nil, (fun y hy => by cases hy)⟩
theorem lcS_in (W : World) (s : ByteArray) (h : s.size ≤ 140737488351232) : (lcS s).In W := St.in_iff.2 ⟨i10, n0, i0, lcE_in W s h, zEx_in W, have_nil W, have_nil W, ⟨Nat.le_refl _, n0, fun _ => rfl, rowIn_nil⟩, (fun y hy => by cases hy)⟩
set_option maxRecDepth 100000 in
set_option maxHeartbeats 4000000 in
theorem lcall_any (s : ByteArray) (w : World) : Calls Tryd.prog 12 #[.string s] w fun e w' => e = .returned (lcS s).val ∧ Below w.heap.size w w' := by
  have hb := (Below.refl _ w).alloc (Nat.le_refl _) (.cells #[.int .i64 10, .string ⟨#[]⟩, .int .i64 0, .int .i64 4, .int .i64 0, .string s, .slice none 0 0, .int .i64 0, .int .i64 0, .string ⟨#[]⟩, .slice none 0 0, .slice none 0 0, .slice none 0 0, .slice none 0 0] 44)
  go_enter Tryd.func12, Tryd.ntmps12
  go_wp2_with fail
  exact bodyPost_ret (v := (lcS s).val) (by simp [results, Tryd.results12, go_sem]; rfl) rfl ⟨rfl, hb⟩
theorem pF_in (W : World) : pF.In W := ⟨n1, Nat.le_refl _, n0, fun _ => rfl, rowIn_nil, (fun q hq => by cases hq), have_nil W⟩
theorem body_in {W : World} {G n : Nat} {l : List St} {arr : Array Value} {t : TypeId} (hg : W.heap[G]? = some (.cells arr t (0, 0))) (ha : arr.toList = (l.map St.cells).flatten) (hn : l.length ≤ n) (hn2 : n ≤ 1000) (hl : ∀ x ∈ l, x.In W) : Have W (some ⟨G, 0, none⟩) n l :=
  ⟨⟨hn, by omega, (fun e => by cases e), rowIn_block hg (.inl ha) (lenS l)⟩, hl⟩
theorem fn_in {W : World} {s : ByteArray} {a : Option Addr} {c : Nat} {l : List St} (hs : s.size ≤ 140737488351232) (h : Have W a c l) : Fu.In W ⟨s, none, 0, [], a, c, l⟩ := ⟨hs, Nat.le_refl _, n0, fun _ => rfl, rowIn_nil, (fun q hq => by cases hq), h⟩
theorem pr_in {W : World} {F n : Nat} {l : List Fu} {arr : Array Value} {t : TypeId} (hg : W.heap[F]? = some (.cells arr t (0, 0))) (ha : arr.toList = (l.map Fu.cells).flatten) (hn : l.length ≤ n) (hn2 : n ≤ 1000) (hl : ∀ x ∈ l, x.In W) : Pr.In W ⟨none, 0, [], some ⟨F, 0, none⟩, n, l⟩ :=
  ⟨Nat.le_refl _, n0, fun _ => rfl, rowIn_nil, (fun z hz => by cases hz), hn, by show n * 64 ≤ 140737488351232; omega, (fun e => by cases e), rowIn_block hg (.inl ha) (lenF l), hl⟩
theorem keep_h {W W' : World} {k : Nat} {o : Obj} (h : W.heap[k]? = some o) (hb : Below W.heap.size W W') : W'.heap[k]? = some o := (hb.block k (Array.getElem?_eq_some_iff.1 h).1).trans h
theorem awP_in {W : World} {G F : Nat} (h1 : W.heap[G]? = some (.cells ([lcS ⟨#[102]⟩, lcS ⟨#[102]⟩].map St.cells).flatten.toArray 44 (0, 0))) (h2 : W.heap[F]? = some (.cells ([pF, pG G].map Fu.cells).flatten.toArray 37 (0, 0))) : (awP G F).In W :=
  pr_in h2 rfl (Nat.le_refl _) (by decide) (fun x hx => by
    rcases List.mem_cons.1 hx with rfl | hx
    · exact pF_in W
    · rcases List.mem_singleton.1 hx with rfl
      exact fn_in n1 (body_in h1 rfl (Nat.le_refl _) (by decide) (fun x hx => by
        have : x = lcS ⟨#[102]⟩ := by simpa using hx
        subst this; exact lcS_in W _ n1)))
theorem awQ_in {W : World} {G F : Nat} (h1 : W.heap[G]? = some (.cells ([lcS ⟨#[102]⟩].map St.cells).flatten.toArray 44 (0, 0))) (h2 : W.heap[F]? = some (.cells ([qF G].map Fu.cells).flatten.toArray 37 (0, 0))) : (awQ G F).In W :=
  pr_in h2 rfl (Nat.le_refl _) (by decide) (fun x hx => by
    rcases List.mem_singleton.1 hx with rfl
    exact fn_in n1 (body_in h1 rfl (Nat.le_refl _) (by decide) (fun x hx => by
        have : x = lcS ⟨#[102]⟩ := by simpa using hx
        subst this; exact lcS_in W _ n1)))
set_option maxRecDepth 100000 in
set_option maxHeartbeats 4000000 in
theorem awake4_any (w : World) (ht : Tabs w) : Calls Tryd.prog 7 #[] w fun e w' => e = .returned (.bool true) ∧ Below w.heap.size w w' := by
  have HT := Hid.mk' ht
  have HL : Hid (∀ w', Calls Tryd.prog 12 #[.string ⟨#[102]⟩] w' fun e w'' => e = .returned (lcS ⟨#[102]⟩).val ∧ Below w'.heap.size w' w'') := fun w' => lcall_any _ w'
  clear ht
  unfold St.val lcS lcE zEx at HL
  simp only [St.kind, St.name, St.n, St.a, St.b, St.ba, St.bc, St.body, St.ea, St.ec, St.els, St.ca, St.cc, St.cases, Ex.kind, Ex.n, Ex.name, Ex.a, Ex.cap, Ex.args, List.length_nil] at HL
  go_enter Tryd.func7, Tryd.ntmps7
  go_wp2_with fail
  refine (HL.out _).mono ?_
  rintro e w1 ⟨rfl, hb1⟩
  go_wp2_with fail
  refine (HL.out _).mono ?_
  rintro e w2 ⟨rfl, hb2⟩
  go_wp2_with fail
  have hbw2 : Below w.heap.size w w2 := hb1.trans (hb2.mono hb1.size)
  have k1 := keep_heap (keep_heap (new_heap (W := w2) (.cells #[.int .i64 10, .string ⟨#[]⟩, .int .i64 0, .int .i64 4, .int .i64 0, .string ⟨#[102]⟩, .slice none 0 0, .int .i64 0, .int .i64 0, .string ⟨#[]⟩, .slice none 0 0, .slice none 0 0, .slice none 0 0, .slice none 0 0, .int .i64 10, .string ⟨#[]⟩, .int .i64 0, .int .i64 4, .int .i64 0, .string ⟨#[102]⟩, .slice none 0 0, .int .i64 0, .int .i64 0, .string ⟨#[]⟩, .slice none 0 0, .slice none 0 0, .slice none 0 0, .slice none 0 0] 44) rfl) (.cells #[.string ⟨#[102]⟩, .slice none 0 0, .slice none 0 0, .string ⟨#[103]⟩, .slice none 0 0, .slice (some ⟨w2.heap.size, 0, none⟩) 2 2] 37)) (.cells #[.slice none 0 0, .slice (some ⟨w2.heap.size + 1, 0, none⟩) 2 2] 26)
  have k2 := keep_heap (new_heap (W := w2.alloc (.cells #[.int .i64 10, .string ⟨#[]⟩, .int .i64 0, .int .i64 4, .int .i64 0, .string ⟨#[102]⟩, .slice none 0 0, .int .i64 0, .int .i64 0, .string ⟨#[]⟩, .slice none 0 0, .slice none 0 0, .slice none 0 0, .slice none 0 0, .int .i64 10, .string ⟨#[]⟩, .int .i64 0, .int .i64 4, .int .i64 0, .string ⟨#[102]⟩, .slice none 0 0, .int .i64 0, .int .i64 0, .string ⟨#[]⟩, .slice none 0 0, .slice none 0 0, .slice none 0 0, .slice none 0 0] 44)) (k := w2.heap.size + 1) (.cells #[.string ⟨#[102]⟩, .slice none 0 0, .slice none 0 0, .string ⟨#[103]⟩, .slice none 0 0, .slice (some ⟨w2.heap.size, 0, none⟩) 2 2] 37) (by simp)) (.cells #[.slice none 0 0, .slice (some ⟨w2.heap.size + 1, 0, none⟩) 2 2] 26)
  have k3 := new_heap (W := (w2.alloc (.cells #[.int .i64 10, .string ⟨#[]⟩, .int .i64 0, .int .i64 4, .int .i64 0, .string ⟨#[102]⟩, .slice none 0 0, .int .i64 0, .int .i64 0, .string ⟨#[]⟩, .slice none 0 0, .slice none 0 0, .slice none 0 0, .slice none 0 0, .int .i64 10, .string ⟨#[]⟩, .int .i64 0, .int .i64 4, .int .i64 0, .string ⟨#[102]⟩, .slice none 0 0, .int .i64 0, .int .i64 0, .string ⟨#[]⟩, .slice none 0 0, .slice none 0 0, .slice none 0 0, .slice none 0 0] 44)).alloc (.cells #[.string ⟨#[102]⟩, .slice none 0 0, .slice none 0 0, .string ⟨#[103]⟩, .slice none 0 0, .slice (some ⟨w2.heap.size, 0, none⟩) 2 2] 37)) (k := w2.heap.size + 1 + 1) (.cells #[.slice none 0 0, .slice (some ⟨w2.heap.size + 1, 0, none⟩) 2 2] 26) (by simp)
  have hb3 := ((hbw2.alloc hbw2.size (.cells #[.int .i64 10, .string ⟨#[]⟩, .int .i64 0, .int .i64 4, .int .i64 0, .string ⟨#[102]⟩, .slice none 0 0, .int .i64 0, .int .i64 0, .string ⟨#[]⟩, .slice none 0 0, .slice none 0 0, .slice none 0 0, .slice none 0 0, .int .i64 10, .string ⟨#[]⟩, .int .i64 0, .int .i64 4, .int .i64 0, .string ⟨#[102]⟩, .slice none 0 0, .int .i64 0, .int .i64 0, .string ⟨#[]⟩, .slice none 0 0, .slice none 0 0, .slice none 0 0, .slice none 0 0] 44)).alloc (by have := hbw2.size; simp; omega) (.cells #[.string ⟨#[102]⟩, .slice none 0 0, .slice none 0 0, .string ⟨#[103]⟩, .slice none 0 0, .slice (some ⟨w2.heap.size, 0, none⟩) 2 2] 37)).alloc (by have := hbw2.size; simp; omega) (.cells #[.slice none 0 0, .slice (some ⟨w2.heap.size + 1, 0, none⟩) 2 2] 26)
  generalize ((w2.alloc (.cells #[.int .i64 10, .string ⟨#[]⟩, .int .i64 0, .int .i64 4, .int .i64 0, .string ⟨#[102]⟩, .slice none 0 0, .int .i64 0, .int .i64 0, .string ⟨#[]⟩, .slice none 0 0, .slice none 0 0, .slice none 0 0, .slice none 0 0, .int .i64 10, .string ⟨#[]⟩, .int .i64 0, .int .i64 4, .int .i64 0, .string ⟨#[102]⟩, .slice none 0 0, .int .i64 0, .int .i64 0, .string ⟨#[]⟩, .slice none 0 0, .slice none 0 0, .slice none 0 0, .slice none 0 0] 44)).alloc (.cells #[.string ⟨#[102]⟩, .slice none 0 0, .slice none 0 0, .string ⟨#[103]⟩, .slice none 0 0, .slice (some ⟨w2.heap.size, 0, none⟩) 2 2] 37)).alloc (.cells #[.slice none 0 0, .slice (some ⟨w2.heap.size + 1, 0, none⟩) 2 2] 26) = W3 at *
  have K1 := Hid.mk' k1
  have K2 := Hid.mk' k2
  have K3 := Hid.mk' k3
  have HB3 := Hid.mk' hb3
  clear k1 k2 k3 hb1 hb2 hbw2 hb3
  generalize w2.heap.size + 1 + 1 = P at *
  generalize w2.heap.size + 1 = F at *
  generalize w2.heap.size = G at *
  refine (HL.out _).mono ?_
  rintro e w4 ⟨rfl, hb4⟩
  have k1 := keep_h K1.out hb4
  have k2 := keep_h K2.out hb4
  have k3 := keep_h K3.out hb4
  have hbw4 : Below w.heap.size w w4 := HB3.out.trans (hb4.mono HB3.out.size)
  have k4 := keep_heap (keep_heap (new_heap (W := w4) (.cells #[.int .i64 10, .string ⟨#[]⟩, .int .i64 0, .int .i64 4, .int .i64 0, .string ⟨#[102]⟩, .slice none 0 0, .int .i64 0, .int .i64 0, .string ⟨#[]⟩, .slice none 0 0, .slice none 0 0, .slice none 0 0, .slice none 0 0] 44) rfl) (.cells #[.string ⟨#[102]⟩, .slice none 0 0, .slice (some ⟨w4.heap.size, 0, none⟩) 1 1] 37)) (.cells #[.slice none 0 0, .slice (some ⟨w4.heap.size + 1, 0, none⟩) 1 1] 26)
  have k5 := keep_heap (new_heap (W := w4.alloc (.cells #[.int .i64 10, .string ⟨#[]⟩, .int .i64 0, .int .i64 4, .int .i64 0, .string ⟨#[102]⟩, .slice none 0 0, .int .i64 0, .int .i64 0, .string ⟨#[]⟩, .slice none 0 0, .slice none 0 0, .slice none 0 0, .slice none 0 0] 44)) (k := w4.heap.size + 1) (.cells #[.string ⟨#[102]⟩, .slice none 0 0, .slice (some ⟨w4.heap.size, 0, none⟩) 1 1] 37) (by simp)) (.cells #[.slice none 0 0, .slice (some ⟨w4.heap.size + 1, 0, none⟩) 1 1] 26)
  have k6 := new_heap (W := (w4.alloc (.cells #[.int .i64 10, .string ⟨#[]⟩, .int .i64 0, .int .i64 4, .int .i64 0, .string ⟨#[102]⟩, .slice none 0 0, .int .i64 0, .int .i64 0, .string ⟨#[]⟩, .slice none 0 0, .slice none 0 0, .slice none 0 0, .slice none 0 0] 44)).alloc (.cells #[.string ⟨#[102]⟩, .slice none 0 0, .slice (some ⟨w4.heap.size, 0, none⟩) 1 1] 37)) (k := w4.heap.size + 1 + 1) (.cells #[.slice none 0 0, .slice (some ⟨w4.heap.size + 1, 0, none⟩) 1 1] 26) (by simp)
  have hb5 := (((Below.refl _ w4).alloc (Nat.le_refl _) (.cells #[.int .i64 10, .string ⟨#[]⟩, .int .i64 0, .int .i64 4, .int .i64 0, .string ⟨#[102]⟩, .slice none 0 0, .int .i64 0, .int .i64 0, .string ⟨#[]⟩, .slice none 0 0, .slice none 0 0, .slice none 0 0, .slice none 0 0] 44)).alloc (by simp) (.cells #[.string ⟨#[102]⟩, .slice none 0 0, .slice (some ⟨w4.heap.size, 0, none⟩) 1 1] 37)).alloc (by simp; omega) (.cells #[.slice none 0 0, .slice (some ⟨w4.heap.size + 1, 0, none⟩) 1 1] 26)
  have k1 := keep_h k1 hb5
  have k2 := keep_h k2 hb5
  have k3 := keep_h k3 hb5
  have hb6 := hbw4.trans (hb5.mono hbw4.size)
  have KK := Hid.mk' (And.intro k1 (And.intro k2 (And.intro k3 (And.intro k4 (And.intro k5 (And.intro k6 hb6))))))
  clear k1 k2 k3 k4 k5 k6 hb4 hb5 hb6 hbw4 K1 K2 K3 HB3
  go_upto_region 3 with fail
  generalize ((w4.alloc (.cells #[.int .i64 10, .string ⟨#[]⟩, .int .i64 0, .int .i64 4, .int .i64 0, .string ⟨#[102]⟩, .slice none 0 0, .int .i64 0, .int .i64 0, .string ⟨#[]⟩, .slice none 0 0, .slice none 0 0, .slice none 0 0, .slice none 0 0] 44)).alloc (.cells #[.string ⟨#[102]⟩, .slice none 0 0, .slice (some ⟨w4.heap.size, 0, none⟩) 1 1] 37)).alloc (.cells #[.slice none 0 0, .slice (some ⟨w4.heap.size + 1, 0, none⟩) 1 1] 26) = W5 at *
  generalize w4.heap.size + 1 + 1 = P2 at *
  generalize w4.heap.size + 1 = F2 at *
  generalize w4.heap.size = G2 at *
  obtain ⟨k1, k2, k3, k4, k5, k6, hb6⟩ := KK.out
  have HP : Hid ((awP G F).In W5) := awP_in k1 k2
  have HQ : Hid ((awQ G2 F2).In W5) := awQ_in k4 k5
  have c0 : W5.cell? ⟨P, 0, none⟩ = some (.slice none 0 0) := by rw [Lib.cell_of_heap k3]; rfl
  have c1 : W5.cell? ⟨P, 1, none⟩ = some (.slice (some ⟨F, 0, none⟩) 2 2) := by rw [Lib.cell_of_heap k3]; rfl
  have C : Hid (∀ w', Below W5.heap.size W5 w' → w'.cell? ⟨P, 0, none⟩ = some (.slice none 0 0) ∧ w'.cell? ⟨P, 1, none⟩ = some (.slice (some ⟨F, 0, none⟩) 2 2) ∧ w'.cell? ⟨P2, 0, none⟩ = some (.slice none 0 0) ∧ w'.cell? ⟨P2, 1, none⟩ = some (.slice (some ⟨F2, 0, none⟩) 1 1)) := fun w' hb =>
    ⟨by rw [Lib.cell_of_heap (keep_h k3 hb)]; rfl, by rw [Lib.cell_of_heap (keep_h k3 hb)]; rfl, by rw [Lib.cell_of_heap (keep_h k6 hb)]; rfl, by rw [Lib.cell_of_heap (keep_h k6 hb)]; rfl⟩
  have HCL : Hid (Calls Tryd.prog 14 #[.agg #[.slice none 0 0, .slice (some ⟨F, 0, none⟩) 2 2], .int .i64 1] W5 fun e w' => (∃ v, e = .returned v ∧ w'.ownsRow W5.heap.size 3 1 v 1 [.int .i64 0]) ∧ Below W5.heap.size W5 w') := by
    have := ncalls_any (awP G F) 1 W5 HP.out (HT.out.stay hb6)
    rw [aw_cl] at this; exact this
  have HC1 : Hid (∀ w', Below W5.heap.size W5 w' → Calls Tryd.prog 8 #[.agg #[.slice none 0 0, .slice (some ⟨F, 0, none⟩) 2 2]] w' fun e w'' => e = .returned (fltV 0 0 0) ∧ Below w'.heap.size w' w'') := fun w' hb => by
    have := ncheck_any (awP G F) w' (HP.out.stay hb) (HT.out.stay (hb6.trans (hb.mono hb6.size)))
    rw [aw_np] at this; exact this
  have HC2 : Hid (∀ w', Below W5.heap.size W5 w' → Calls Tryd.prog 8 #[.agg #[.slice none 0 0, .slice (some ⟨F2, 0, none⟩) 1 1]] w' fun e w'' => e = .returned (fltV 8 0 1) ∧ Below w'.heap.size w' w'') := fun w' hb => by
    have := ncheck_any (awQ G2 F2) w' (HQ.out.stay hb) (HT.out.stay (hb6.trans (hb.mono hb6.size)))
    rw [aw_nq] at this; exact this
  have HB6 := Hid.mk' hb6
  clear k1 k2 k3 k4 k5 k6 hb6 KK HP HQ HL
  go_wp2_with fail
  refine HCL.out.mono ?_
  rintro e w6 ⟨⟨v, rfl, ho⟩, hb7⟩
  obtain ⟨va, vc, rfl⟩ := own_form (xs := [.int .i64 0]) ho
  clear HCL c0 c1
  obtain ⟨c0, c1, _, _⟩ := C.out _ hb7
  have hq := equalIn_flt
  have hg := eqGuard_flt
  unfold fltV at hq HC1 HC2
  go_wp2_with fail
  refine (HC1.out _ hb7).mono ?_
  rintro e w7 ⟨rfl, hb8⟩
  have hb8' := hb7.trans (hb8.mono hb7.size)
  clear c0 c1 HC1
  obtain ⟨_, _, c2, c3⟩ := C.out _ hb8'
  go_wp2_with fail
  refine (HC2.out _ hb8').mono ?_
  rintro e w8 ⟨rfl, hb9⟩
  have hb9' := hb8'.trans (hb9.mono hb8'.size)
  have hof : w8.ownsRow W5.heap.size 3 1 (.slice va 1 vc) 1 [.int .i64 0] := own_keep ho (fun g hg => ((hb8.block g (own_lt ho g hg).2).symm ▸ hb9.block g (Nat.lt_of_lt_of_le (own_lt ho g hg).2 hb8.size)))
  clear c2 c3 HC2
  rcases hof.2 with ⟨e0, _⟩ | ⟨g, cap, cur, e0, hg1, hg2, hg3, hg4, hg5, hg6⟩
  · cases e0
  cases e0
  have d0 : w8.cell? ⟨g, 0, none⟩ = some (.int .i64 0) := by
    have := hof.cellAt 0 (by decide)
    simpa using this
  have HB9 : Hid (Below w.heap.size w w8) := HB6.out.trans (hb9'.mono HB6.out.size)
  clear hof hg1 hg2 hg3 hg4 hg5 hg6 ho
  go_wp2_with fail
  go_ret
  exact ⟨rfl, HB9.out⟩
end Go.Proofs.YtkkcgkpbbngloaaDoor

/- NamesKeeps: what is handed in stays. -/
namespace Go.Proofs.YtkkcgkpbbngloaaDoor
open Go.RowKit Go.Sort

/-- What is asked of the copy q of p. -/
structure AskN (q p : Pr) (i : Int) (w' : World) : Prop where
  chk : Calls Tryd.prog 8 #[.agg #[.slice q.wa q.widen.length q.wc, .slice q.fa q.funcs.length q.fc]] w' fun e w'' => e = .returned (fltV (namZ p).1 (namZ p).2.1 (namZ p).2.2) ∧ Below w'.heap.size w' w''
  cal : Calls Tryd.prog 14 #[.agg #[.slice q.wa q.widen.length q.wc, .slice q.fa q.funcs.length q.fc], .int .i64 i] w' fun e w'' => (∃ a c, e = .returned (.slice a (clN p i).length c)) ∧ Below w'.heap.size w' w''
  rsm : Calls Tryd.prog 16 #[.agg #[.slice q.wa q.widen.length q.wc, .slice q.fa q.funcs.length q.fc], .agg #[.slice p.wa p.widen.length p.wc, .slice p.fa p.funcs.length p.fc]] w' fun e w'' => e = .returned (.bool true) ∧ Below w'.heap.size w' w''
  room : Calls Tryd.prog 17 #[.agg #[.slice q.wa q.widen.length q.wc, .slice q.fa q.funcs.length q.fc]] w' fun e w'' => e = .returned (.bool true) ∧ Below w'.heap.size w' w''
  spl : Calls Tryd.prog 18 #[.agg #[.slice q.wa q.widen.length q.wc, .slice q.fa q.funcs.length q.fc]] w' fun e w'' => e = .returned (.tuple #[]) ∧ Only q.bl w' w''
theorem ncalls_len (p : Pr) (i : Int) (w : World) (hin : p.In w) (ht : Tabs w) : Calls Tryd.prog 14 #[p.val, .int .i64 i] w fun e w' => (∃ a c, e = .returned (.slice a (clN p i).length c)) ∧ Below w.heap.size w w' :=
  (ncalls_any p i w hin ht).mono fun e w' h => by
    obtain ⟨⟨v, rfl, ho⟩, hb⟩ := h
    obtain ⟨a, c, rfl⟩ := own_form ho
    exact ⟨⟨a, c, rfl⟩, hb⟩
theorem askN {q p : Pr} {i : Int} {w' : World} (hq : q.Cp w') (hp : p.In w') (her : q.er = p.er) (hnd : q.bl.Nodup) (ht : Tabs w') : AskN q p i w' := by
  obtain ⟨_, e2, e3⟩ := er_names her
  have es := samPr_er her
  refine ⟨?_, ?_, ?_, room_any q w' hq, spoil_any q w' hq hnd⟩
  · have := ncheck_any q w' hq.in ht; rw [e2] at this; exact this
  · have := ncalls_len q i w' hq.in ht; rw [e3] at this; exact this
  · have := rsame_any q p w' hq.in hp; rw [es] at this; exact this

set_option maxRecDepth 100000 in
set_option maxHeartbeats 8000000 in
theorem namesKeeps_any (p : Pr) (i : Int) (w : World) (hp : p.In w) (_hi : I64 i) (ht : Tabs w) : Calls Tryd.prog 6 #[p.val, .int .i64 i] w fun e w' => e = .returned (.bool true) ∧ Below w.heap.size w w' := by
  have HA : Hid (∀ w', Below w.heap.size w w' → Calls Tryd.prog 7 #[] w' fun e w'' => e = .returned (.bool true) ∧ Below w'.heap.size w' w'') := fun w' h => awake4_any w' (ht.stay h)
  have HB1 : Hid (∀ w', Below w.heap.size w w' → Calls Tryd.prog 15 #[p.val] w' fun e w'' => e = .returned (.bool (bigZ p)) ∧ Below w'.heap.size w' w'') := fun w' h => big_any p w' (hp.stay h)
  have HCP : Hid (bigZ p = false → ∀ w', Below w.heap.size w w' → Calls Tryd.prog 10 #[p.val] w' fun e w'' => (∃ q : Pr, e = .returned q.val ∧ q.Cp w'' ∧ q.er = p.er ∧ q.bl.Nodup ∧ (∀ b ∈ q.bl, w'.heap.size ≤ b ∧ b < w''.heap.size)) ∧ Below w'.heap.size w' w'') := fun hb w' h => copy_any p w' (hp.stay h) (few_of_big hb)
  have HPC : Hid (∀ w', Below w.heap.size w w' → Calls Tryd.prog 8 #[p.val] w' fun e w'' => e = .returned (fltV (namZ p).1 (namZ p).2.1 (namZ p).2.2) ∧ Below w'.heap.size w' w'') := fun w' h => ncheck_any p w' (hp.stay h) (ht.stay h)
  have HPN : Hid (∀ w', Below w.heap.size w w' → Calls Tryd.prog 14 #[p.val, .int .i64 i] w' fun e w'' => (∃ a c, e = .returned (.slice a (clN p i).length c)) ∧ Below w'.heap.size w' w'') := fun w' h => ncalls_len p i w' (hp.stay h) (ht.stay h)
  have HQ : Hid (∀ (q : Pr) (w' : World), Below w.heap.size w w' → q.Cp w' → q.er = p.er → q.bl.Nodup → AskN q p i w') := fun q w' h hq her hnd => askN hq (hp.stay h) her hnd (ht.stay h)
  clear hp ht
  unfold Pr.val at *
  obtain ⟨W1, hW1⟩ : ∃ W1, w.alloc (.cells #[.slice p.wa p.widen.length p.wc, .slice p.fa p.funcs.length p.fc] 26) = W1 := ⟨_, rfl⟩
  obtain ⟨Z, hZ⟩ : ∃ Z, w.heap.size = Z := ⟨_, rfl⟩
  have P0 : Hid (∀ w', Below W1.heap.size W1 w' → w'.cell? ⟨Z, 0, none⟩ = some (.slice p.wa p.widen.length p.wc)) := fun w' h => hZ ▸ new_at (by rw [hW1]; exact h) rfl
  have P1 : Hid (∀ w', Below W1.heap.size W1 w' → w'.cell? ⟨Z, 1, none⟩ = some (.slice p.fa p.funcs.length p.fc)) := fun w' h => hZ ▸ new_at (by rw [hW1]; exact h) rfl
  have HW1 := show Hid _ from hW1
  have HZ := show Hid _ from hZ
  have B1 : Hid (Below w.heap.size w W1 ∧ Z < W1.heap.size) := ⟨by rw [← hW1]; exact Below.one (Below.refl _ _) _, by rw [← hW1, ← hZ]; simp⟩
  clear hZ hW1
  go_enter Tryd.func6, Tryd.ntmps6
  go_wp2_with fail
  rw [HW1.out, HZ.out]
  clear HW1
  refine (HA.out _ B1.out.1).mono ?_
  rintro e w2 ⟨rfl, hb2⟩
  have p0 := P0.out _ hb2
  have p1 := P1.out _ hb2
  go_wp2_with fail
  refine (HB1.out _ (Below.on B1.out.1 hb2)).mono ?_
  rintro e w3 ⟨rfl, hb3⟩
  have hb3' := Below.on hb2 hb3
  clear p0 p1 hb2 hb3
  cases hbp : bigZ p with
  | true =>
    go_wp2_with fail
    go_ret
    exact ⟨rfl, Below.on B1.out.1 hb3'⟩
  | false =>
    have HCP2 := show Hid _ from HCP.out hbp
    have p0 := P0.out _ hb3'
    have p1 := P1.out _ hb3'
    clear HCP HA HB1
    go_wp2_with fail
    refine (HCP2.out _ (Below.on B1.out.1 hb3')).mono ?_
    rintro e w4 ⟨⟨q, rfl, hcp, her, hnd, hbl⟩, hb4⟩
    have hb4' := Below.on hb3' hb4
    clear p0 p1 HCP2
    go_wp2_with fail
    have hb5 : Below w4.heap.size w4 (w4.alloc (.cells #[.slice q.wa q.widen.length q.wc, .slice q.fa q.funcs.length q.fc] 26)) := Below.one (Below.refl _ _) _
    obtain ⟨W5, hW5⟩ : ∃ W5, w4.alloc (.cells #[.slice q.wa q.widen.length q.wc, .slice q.fa q.funcs.length q.fc] 26) = W5 := ⟨_, rfl⟩
    obtain ⟨Y, hY⟩ : ∃ Y, w4.heap.size = Y := ⟨_, rfl⟩
    have Q0 : Hid (∀ w', Below W5.heap.size W5 w' → w'.cell? ⟨Y, 0, none⟩ = some (.slice q.wa q.widen.length q.wc)) := fun w' h => hY ▸ new_at (by rw [hW5]; exact h) rfl
    have Q1 : Hid (∀ w', Below W5.heap.size W5 w' → w'.cell? ⟨Y, 1, none⟩ = some (.slice q.fa q.funcs.length q.fc)) := fun w' h => hY ▸ new_at (by rw [hW5]; exact h) rfl
    rw [hW5] at hb5
    have hY5 : Y < W5.heap.size := by rw [← hW5, ← hY]; simp
    have P0' : Hid (∀ w', Below W5.heap.size W5 w' → w'.cell? ⟨Z, 0, none⟩ = some (.slice p.wa p.widen.length p.wc)) := fun w' h => P0.out w' (Below.on hb4' (Below.on hb5 h))
    have P1' : Hid (∀ w', Below W5.heap.size W5 w' → w'.cell? ⟨Z, 1, none⟩ = some (.slice p.fa p.funcs.length p.fc)) := fun w' h => P1.out w' (Below.on hb4' (Below.on hb5 h))
    have B5 : Hid (Below w.heap.size w W5) := Below.on B1.out.1 (Below.on hb4' hb5)
    have HQ5 : Hid (∀ w', Below W5.heap.size W5 w' → AskN q p i w') := fun w' h => HQ.out q w' (Below.on B5.out h) (hcp.stay (Below.on hb5 h)) her hnd
    have HBL : Hid ((∀ b ∈ q.bl, w.heap.size ≤ b) ∧ Z ∉ q.bl ∧ ∀ b, W5.heap.size ≤ b → b ∉ q.bl) := by
      have s1 := B1.out.1.size
      have s2 := hb3'.size
      have s3 := hb5.size
      have s4 := B1.out.2
      exact ⟨fun b hb => by have := (hbl b hb).1; omega, fun h => by have := (hbl Z h).1; omega, fun b hb h => by have := (hbl b h).2; omega⟩
    rw [hW5, hY]
    clear P0 P1 HQ hcp her hnd hbl hb5 hb4' hb4 hb3' hW5 hY B1 hbp
    refine (HQ5.out _ (Below.refl _ _)).chk.mono ?_
    rintro e w6 ⟨rfl, hb6⟩
    have q0 : ∀ o, (w6.alloc o).cell? ⟨Y, 0, none⟩ = some (.slice q.wa q.widen.length q.wc) := fun o => Q0.out _ (Below.one hb6 _)
    have q1 : ∀ o, (w6.alloc o).cell? ⟨Y, 1, none⟩ = some (.slice q.fa q.funcs.length q.fc) := fun o => Q1.out _ (Below.one hb6 _)
    go_wp2_with fail
    have b7 : Below W5.heap.size W5 (w6.alloc (.cells #[.int .i64 (namZ p).1, .int .i64 (namZ p).2.1, .int .i64 (namZ p).2.2] 29)) := Below.one hb6 _
    obtain ⟨W7, hW7⟩ : ∃ W7, w6.alloc (.cells #[.int .i64 (namZ p).1, .int .i64 (namZ p).2.1, .int .i64 (namZ p).2.2] 29) = W7 := ⟨_, rfl⟩
    obtain ⟨X, hX⟩ : ∃ X, w6.heap.size = X := ⟨_, rfl⟩
    have F0 : Hid (∀ w', Below W7.heap.size W7 w' → w'.cell? ⟨X, 0, none⟩ = some (.int .i64 (namZ p).1)) := fun w' h => hX ▸ new_at (by rw [hW7]; exact h) rfl
    have F1 : Hid (∀ w', Below W7.heap.size W7 w' → w'.cell? ⟨X, 1, none⟩ = some (.int .i64 (namZ p).2.1)) := fun w' h => hX ▸ new_at (by rw [hW7]; exact h) rfl
    have F2 : Hid (∀ w', Below W7.heap.size W7 w' → w'.cell? ⟨X, 2, none⟩ = some (.int .i64 (namZ p).2.2)) := fun w' h => hX ▸ new_at (by rw [hW7]; exact h) rfl
    have HX : Hid (W5.heap.size ≤ X) := by rw [← hX]; exact hb6.size
    rw [hW7] at b7
    have B7 := show Hid _ from b7
    rw [hW7, hX]
    clear hW7 hX hb6 q0 q1
    refine (HQ5.out _ b7).cal.mono ?_
    rintro e w8 ⟨⟨va, vc, rfl⟩, hb8⟩
    have b5 := Below.on b7 hb8
    have b9 := hb8
    clear b7 hb8
    have q0 := Q0.out _ b5
    have q1 := Q1.out _ b5
    have p0 := P0'.out _ b5
    have p1 := P1'.out _ b5
    go_wp2_with fail
    refine (HQ5.out _ b5).rsm.mono ?_
    rintro e w12 ⟨rfl, hb12⟩
    have c9 := Below.on b9 hb12
    have c5 := Below.on b5 hb12
    clear q0 q1 p0 p1 b5 b9 hb12
    have q0 := Q0.out _ c5
    have q1 := Q1.out _ c5
    go_wp2_with fail
    refine (HQ5.out _ c5).room.mono ?_
    rintro e w13 ⟨rfl, hb13⟩
    have d9 := Below.on c9 hb13
    have d5 := Below.on c5 hb13
    clear q0 q1 c5 c9 hb13
    have q0 := Q0.out _ d5
    have q1 := Q1.out _ d5
    go_wp2_with fail
    refine (HQ5.out _ d5).spl.mono ?_
    rintro e w14 ⟨rfl, ho⟩
    have hN : Below w.heap.size w w14 := (Below.on B5.out d5).trans (ho.below HBL.out.1 (Below.on B5.out d5).size)
    have k0 := ho.cell HBL.out.2.1 (P0'.out _ d5)
    have k1 := ho.cell HBL.out.2.1 (P1'.out _ d5)
    have l0 := ho.cell (HBL.out.2.2 X HX.out) (F0.out _ d9)
    have l1 := ho.cell (HBL.out.2.2 X HX.out) (F1.out _ d9)
    have l2 := ho.cell (HBL.out.2.2 X HX.out) (F2.out _ d9)
    have HN := Hid.mk' hN
    have p0 := seen k0
    have p1 := seen k1
    have f0 := seen l0
    have f1 := seen l1
    have f2 := seen l2
    clear q0 q1 d5 d9 ho Q0 Q1 P0' P1' F0 F1 F2 HQ5 HBL B7 HX hN k0 k1 l0 l1 l2
    have hg := eqGuard_flt
    generalize (namZ p).1 = z1 at *
    generalize (namZ p).2.1 = z2 at *
    generalize (namZ p).2.2 = z3 at *
    generalize (clN p i).length = cn at *
    have hqt : ∀ w, (Op.equalIn 10000 29 (.agg #[.int .i64 z1, .int .i64 z2, .int .i64 z3]) (.agg #[.int .i64 z1, .int .i64 z2, .int .i64 z3])).run Tryd.prog w = .ok true w := fun w => by rw [show (Value.agg #[.int .i64 z1, .int .i64 z2, .int .i64 z3]) = fltV z1 z2 z3 from rfl, equalIn_flt]; simp
    unfold fltV at HPC
    go_wp2_with fail
    go_region_held3 (fun w' => Below w14.heap.size w14 w') (first | exact Below.drew (Below.refl _ _) | exact Below.on (by assumption) (by assumption) | exact Below.one (by assumption) _)
      (first
        | (go_at_call 8; refine (HPC.out _ (Below.on HN.out (by assumption))).mono ?_; rintro e w' ⟨rfl, hb⟩)
        | (go_at_call 14; refine (HPN.out _ (Below.on HN.out (by assumption))).mono ?_; rintro e w' ⟨⟨xa, xc, rfl⟩, hb⟩))
    all_goals go_wp2_with fail
    all_goals go_ret
    all_goals exact ⟨rfl, Below.on HN.out (by assumption)⟩
end Go.Proofs.YtkkcgkpbbngloaaDoor
