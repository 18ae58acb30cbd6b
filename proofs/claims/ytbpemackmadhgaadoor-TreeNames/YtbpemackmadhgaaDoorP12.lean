/- A program's text gathered; tree.Print where Check finds nothing wrong. -/
import Derived.Test.YtbpemackmadhgaaDoorP11
import Derived.Test.YtbpemackmadhgaaDoorS8
namespace Go.Proofs.YtbpemackmadhgaaDoor
open Go.RowKit Go.Sort

theorem oth_cell {W W' : World} {b k j : Nat} {cs : Array Value} {t : TypeId} {fz : Nat × Nat} {v : Value} (h : W.heap[k]? = some (.cells cs t fz)) (ht : t ≠ 5) (hk : k ≠ b) (ho : Oth b W W') (hv : cs[j]? = some v) : W'.cell? ⟨k, j, none⟩ = some v := by
  have := ho k _ h (by simpa using hk) (fun c fz' e => ht (by cases e; rfl))
  rw [Lib.cell_of_heap this]; exact hv
/-- line, in a world behind one in which the page lies. -/
theorem line_in {B b : Nat} {l : List UInt8} {d : Nat} {xs : List ByteArray} {W0 W : World} (h : PgT B b l d W0) (hb : Below W0.heap.size W0 W) (hB : B ≤ W0.heap.size) (hn : xs.length ≤ 1000) (hd : d ≤ 100) (hlen : (l ++ lineB d (cat xs)).length ≤ 140737488355328) :
    Calls Tryd.prog 36 #[.pointer (some ⟨b, 0, none⟩), .slice (some ⟨W.heap.size, 0, none⟩) xs.length xs.length] (W.alloc (.cells (xs.map Value.string).toArray 9)) fun e w' => e = .returned (.tuple #[]) ∧ Hid (PgT B b (l ++ lineB d (cat xs)) d w') ∧ Hid (Below B W0 w') ∧ Oth b W0 w' :=
  (line_new B b l d xs W (h.stay hb) (by have := hb.size; omega) hn hd hlen).mono fun _ _ ⟨he, hp, hb', ho⟩ => ⟨he, hp, ((hb.mono hB).alloc (by have := hb.size; omega) _).trans hb', ((oth_below hb).alloc _).trans ho⟩
theorem comB_one (l : List Int) : comB ((l.map fun x => (⟨(Lib.itoa x).toArray⟩ : ByteArray)).map (·.data.toList)) = comB (l.map Lib.itoa) := by rw [List.map_map]; rfl
theorem comB_pa (l : List Pa) : comB ((l.map fun x => (⟨(paB x).toArray⟩ : ByteArray)).map (·.data.toList)) = comB (l.map paB) := by rw [List.map_map]; rfl
theorem strs_len {α : Type} {w : World} {v : Value} {l : List α} {f : α → ByteArray} (h : Strs w v (l.map f)) : ∃ va vc, v = .slice va l.length vc ∧ Hid (Strs w (.slice va l.length vc) (l.map f)) := by
  obtain ⟨va, vc, hv, hcap, hcc⟩ := h
  have e : (l.map f).length = l.length := List.length_map ..
  rw [e] at hv
  exact ⟨va, vc, hv, ⟨va, vc, by rw [e], hcap, hcc⟩⟩

/-- What is asked of a function that is to be written. -/
def FnPr (w0 : World) (f : Fu) : Prop := (∀ s ∈ f.body, StmtPr w0 s) ∧ (∀ q ∈ f.params, (paB q).length ≤ 100000) ∧ f.params.length ≤ 8


set_option maxRecDepth 100000 in
set_option maxHeartbeats 16000000 in
theorem program_any (w0 : World) (b : Nat) (w : World) (p : Pr) (hB : Below w0.heap.size w0 w) (hp : PgT w0.heap.size b [] 0 w) (hin : p.In w0) (hnt : NumT w0) (hw16 : p.widen.length ≤ 16) (hf : ∀ f ∈ p.funcs, FnPr w0 f) (hlen : (txP p).length ≤ 140737488355328) :
    Calls Tryd.prog 23 #[.pointer (some ⟨b, 0, none⟩), p.val] w fun e w' => e = .returned (.tuple #[]) ∧ PgT w0.heap.size b (txP p) 0 w' ∧ Below w0.heap.size w w' ∧ Oth b w w' := by
  have HB : Hid (Below w0.heap.size w0 w) := hB
  have HNT : Hid (NumT w0) := hnt
  have HF : Hid (∀ f ∈ p.funcs, FnPr w0 f) := hf
  have HP : Hid (PgT w0.heap.size b [] 0 w) := hp
  have hsw := hB.size
  have hth := hin.thr
  obtain ⟨_, _, _, _, hw64, hfl, hfc, _, hrow, hsub⟩ := hin
  have HR : Hid (RowIn w0 p.fa 3 (List.map Fu.cells p.funcs)) := hrow
  have HFS : Hid (∀ f ∈ p.funcs, f.In w0) := hsub
  have HW : Hid (Thr w0 p.wa p.wc p.widen) := hth
  have HW64 : Hid (∀ z ∈ p.widen, I64 z) := hw64
  have hblt : b < w.heap.size := by obtain ⟨q, h1⟩ := hp.some; exact h1.lt
  have HTP : Hid (txP p = txW p.widen ++ txFs p.funcs) := (rfl : txP p = _)
  have HLEN : Hid ((txW p.widen).length + (txFs p.funcs).length ≤ 140737488355328) := by show _ ≤ _; simpa [txP] using hlen
  clear hB hnt hf hp hrow hsub hth hw64 hlen
  obtain ⟨l1, hl1⟩ : ∃ l1, txW p.widen = l1 := ⟨_, rfl⟩
  rw [hl1] at HTP HLEN
  have HL1 : Hid (txW p.widen = l1) := hl1
  clear hl1
  unfold Pr.val
  by_cases hw : 0 < p.widen.length
  · have HX : Hid (lineB 0 (cat [⟨#[119, 105, 100, 101, 110, 32]⟩, ⟨(comB (p.widen.map Lib.itoa)).toArray⟩, ⟨#[59]⟩]) = l1) := by
      show _ = _; rw [← HL1.out, txW, if_neg (by omega)]; simp [cat]
    have HLX : Hid (([] ++ lineB 0 (cat [⟨#[119, 105, 100, 101, 110, 32]⟩, ⟨(comB (p.widen.map Lib.itoa)).toArray⟩, ⟨#[59]⟩])).length ≤ 140737488355328) := by
      show _ ≤ _; rw [HX.out]; have := HLEN.out; simp; omega
    have HLC : Hid ((comB (p.widen.map Lib.itoa)).length ≤ 140737488355328) := by show _ ≤ _; have := HLX.out; simp [lineB, cat] at this; omega
    have HLM : Hid ((p.widen.map fun x => (⟨(Lib.itoa x).toArray⟩ : ByteArray)).length ≤ 1000000) := by show _ ≤ _; rw [List.length_map]; omega
    have hwi : (0 : Int) < (p.widen.length : Int) := by omega
    go_enter Tryd.func23, Tryd.ntmps23
    go_wp2_with fail
    have hb0 := (Below.refl _ w).alloc (Nat.le_refl _) (.cells #[.slice p.wa p.widen.length p.wc, .slice p.fa p.funcs.length p.fc] 26)
    have hbk : (w.alloc (.cells #[.slice p.wa p.widen.length p.wc, .slice p.fa p.funcs.length p.fc] 26)).heap[w.heap.size]? = some (.cells #[.slice p.wa p.widen.length p.wc, .slice p.fa p.funcs.length p.fc] 26 (0, 0)) := heap_alloc_new w _
    have hbw : Below w0.heap.size w0 _ := HB.out.trans (hb0.mono hsw)
    refine (eachint64_any p.widen p.wa p.wc _ (by omega) (HW.out.2.2.below hbw) (fun x hx w'' hb' => number_any x w'' (HW64.out x hx) ((HNT.out.stay hbw).stay hb'))).mono ?_
    rintro e w1 ⟨v, rfl, hs, hb1⟩
    obtain ⟨va, vc, rfl, hs'⟩ := strs_len hs
    have HBK : Hid (w1.heap[w.heap.size]? = some (.cells #[.slice p.wa p.widen.length p.wc, .slice p.fa p.funcs.length p.fc] 26 (0, 0))) := (hb1.block w.heap.size (by simp)).trans hbk
    have hb2 := Below.on hb0 hb1
    clear hs hbk hb1
    go_wp2_with fail
    refine (commas_of hs'.out (comB_one p.widen) HLM.out HLC.out).mono ?_
    rintro e w2 ⟨rfl, hb3⟩
    have HBK2 : Hid (w2.heap[w.heap.size]? = some (.cells #[.slice p.wa p.widen.length p.wc, .slice p.fa p.funcs.length p.fc] 26 (0, 0))) := (hb3.block w.heap.size (Array.getElem?_eq_some_iff.1 HBK.out).1).trans HBK.out
    have hb4 := Below.on hb2 hb3
    clear hs' hb3
    go_wp2_with fail
    refine (line_in (W0 := w2) (xs := [⟨#[119, 105, 100, 101, 110, 32]⟩, ⟨(comB (p.widen.map Lib.itoa)).toArray⟩, ⟨#[59]⟩]) (HP.out.stay hb4) (Below.refl _ _) (by have := hb4.size; omega) (Nat.le_of_ble_eq_true rfl) (by decide) HLX.out).mono ?_
    rintro e w3 ⟨rfl, hp3, hb5, ho3⟩
    have HPG : Hid (PgT w0.heap.size b l1 0 w3) := by show PgT _ _ _ _ _; have := hp3.out; rw [HX.out] at this; simpa using this
    have hb1 : Below w0.heap.size w w3 := (hb4.mono hsw).trans hb5.out
    have hoA : Oth b w w3 := (oth_below hb4).trans ho3
    have c1 : w3.cell? ⟨w.heap.size, 1, none⟩ = some (.slice p.fa p.funcs.length p.fc) := oth_cell HBK2.out (by decide) (by omega) ho3 rfl
    clear hp3 hb5 ho3 hb0 hb2 hb4 hbw
    go_wp2_with fail
    go_loopw [20] (fun t20 wr => ∃ (j : Nat), j ≤ p.funcs.length ∧ t20 = .int .i64 j ∧ Hid (PgT w0.heap.size b (l1 ++ txFs (p.funcs.take j)) 0 wr) ∧ Below w0.heap.size w wr ∧ Oth b w wr) (fun t20 _ => p.funcs.length - (intOf t20).toNat)
    case atStart => exact ⟨0, Nat.zero_le _, rfl, by show PgT _ _ _ _ _; simpa [txFs] using HPG.out, hb1, hoA⟩
    case round =>
      obtain ⟨j, hj, rfl, HPJ, hbj, hoj⟩ := hrel
      clear HPG hb1 c1 hoA
      have hwj := hbj.size
      have hbj0 : Below w0.heap.size w0 wr := HB.out.trans hbj
      by_cases hlt : j < p.funcs.length
      · obtain ⟨rb, o, hfa, k0, k1, k2⟩ := rowF_at (HR.out.below hbj0) hlt
        rw [hfa]
        have hli : (j : Int) < (p.funcs.length : Int) := by omega
        have HT : Hid (txFs (p.funcs.take (j + 1)) = txFs (p.funcs.take j) ++ txF p.funcs[j]) := txFs_take p.funcs j hlt
        have HLE : Hid ((txFs (p.funcs.take (j + 1))).length ≤ (txFs p.funcs).length) := txFs_le p.funcs (j + 1)
        have HFN : Hid (FnPr w0 p.funcs[j]) := HF.out p.funcs[j] (List.getElem_mem hlt)
        have HFI : Hid (p.funcs[j].In w0) := HFS.out p.funcs[j] (List.getElem_mem hlt)
        generalize p.funcs[j] = f at *
        have hblt : b < wr.heap.size := by obtain ⟨q, h1⟩ := HPJ.out.some; exact h1.lt
        have HLF : Hid ((l1 ++ txFs (p.funcs.take j)).length + (txF f).length ≤ 140737488355328) := by
          show _ ≤ _; have := HLE.out; have := HLEN.out; rw [HT.out] at *; simp only [List.length_append] at *; omega
        have HTF : Hid (txF f = lineB 0 (cat [⟨#[102, 110, 32]⟩, f.name, ⟨#[40]⟩, ⟨(comB (f.params.map paB)).toArray⟩, ⟨#[41, 32, 123]⟩]) ++ txSs f.body 1 ++ lineB 0 (cat [⟨#[125]⟩])) := by show _ = _; simp [txF, cat]
        obtain ⟨lj, HLJ⟩ : ∃ lj, l1 ++ txFs (p.funcs.take j) = lj := ⟨_, rfl⟩
        rw [HLJ] at HPJ HLF
        have HLJH : Hid (l1 ++ txFs (p.funcs.take j) = lj) := HLJ
        clear HLJ
        go_wp2_with fail
        obtain ⟨W0, hW0⟩ : ∃ W0, wr.alloc (.cells #[.string f.name, .slice f.pa f.params.length f.pc, .slice f.ba f.body.length f.bc] 48) = W0 := ⟨_, rfl⟩
        have hbx : Below wr.heap.size wr W0 := by rw [← hW0]; exact (Below.refl _ wr).alloc (Nat.le_refl _) _
        have hbk : W0.heap[wr.heap.size]? = some (.cells #[.string f.name, .slice f.pa f.params.length f.pc, .slice f.ba f.body.length f.bc] 48 (0, 0)) := by rw [← hW0]; exact heap_alloc_new wr _
        rw [hW0]
        have HBX : Hid (Below w0.heap.size w W0) := hbj.trans (hbx.mono (by omega))
        have HOX : Hid (Oth b w W0) := hoj.trans (oth_below hbx)
        have HPX : Hid (PgT w0.heap.size b lj 0 W0) := HPJ.out.stay hbx
        have hsx : w0.heap.size ≤ W0.heap.size := by have := hbx.size; omega
        have hne : wr.heap.size ≠ b := by omega
        have y0 : ∀ w', Oth b W0 w' → w'.cell? ⟨wr.heap.size, 0, none⟩ = some (.string f.name) := fun w' ho => oth_cell hbk (by decide) hne ho rfl
        have y1 : ∀ w', Oth b W0 w' → w'.cell? ⟨wr.heap.size, 1, none⟩ = some (.slice f.pa f.params.length f.pc) := fun w' ho => oth_cell hbk (by decide) hne ho rfl
        have HY2 : Hid (∀ w', Oth b W0 w' → w'.cell? ⟨wr.heap.size, 2, none⟩ = some (.slice f.ba f.body.length f.bc)) := fun w' ho => oth_cell hbk (by decide) hne ho rfl
        have hdrew : Below W0.heap.size W0 W0.drew := Below.drew (Below.refl _ _)
        have HEA : Hid (∀ w', Below W0.heap.size W0 w' → Calls Tryd.prog 40 #[.slice f.pa f.params.length f.pc, .func (.func 41) #[] #[]] w' fun e w'' => ∃ va vc, e = .returned (.slice va f.params.length vc) ∧ Hid (Strs w'' (.slice va f.params.length vc) (f.params.map fun x => ⟨(paB x).toArray⟩)) ∧ Below w'.heap.size w' w'') := fun w' hb => by
          have hbw : Below w0.heap.size w0 w' := (HB.out.trans HBX.out).trans (hb.mono hsx)
          obtain ⟨_, _, _, _, hpr, hpo, _⟩ := HFI.out
          refine (eachParam_any f.params f.pa f.pc w' (by have := HFN.out.2.2; omega) (hpr.below hbw) (fun x hx w'' hb' => param_any x w'' (hpo x hx) ((HNT.out.stay hbw).stay hb') (HFN.out.2.1 x hx))).mono fun e w'' ⟨v, he, hs, hb'⟩ => ?_
          obtain ⟨va, vc, rfl, hs'⟩ := strs_len hs
          exact ⟨va, vc, he, hs', hb'⟩
        have HLM : Hid ((f.params.map fun x => (⟨(paB x).toArray⟩ : ByteArray)).length ≤ 1000000) := by show _ ≤ _; rw [List.length_map]; have := HFN.out.2.2; omega
        have HL1 : Hid ((lj ++ lineB 0 (cat [⟨#[102, 110, 32]⟩, f.name, ⟨#[40]⟩, ⟨(comB (f.params.map paB)).toArray⟩, ⟨#[41, 32, 123]⟩])).length ≤ 140737488355328) := by
          show _ ≤ _; have := HLF.out; rw [HTF.out] at this; simp only [List.length_append] at *; omega
        have HL0 : Hid ((comB (f.params.map paB)).length ≤ 140737488355328) := by
          show _ ≤ _; have := HL1.out; simp [lineB, cat] at this; omega
        clear hW0 hbx hbk k0 k1 k2
        go_region_held3 (fun w' => Oth b W0 w') (first | exact oth_below (by assumption) | exact Lib.OthersKept.trans (by assumption) (oth_below (by assumption)) | exact Lib.OthersKept.alloc (by assumption) _ | assumption)
          (first
            | (go_at_call 40; refine (HEA.out _ (by assumption)).mono ?_; rintro e w' ⟨va, vc, rfl, hs, hb⟩; have hB : Below W0.heap.size W0 w' := Below.on (by assumption) hb)
            | (go_at_call 37; refine (commas_of hs.out (comB_pa f.params) HLM.out HL0.out).mono ?_; rintro e w' ⟨rfl, hb⟩; have hB : Below W0.heap.size W0 w' := Below.on (by assumption) hb)
            | (go_at_call 36; refine (line_in (xs := [⟨#[102, 110, 32]⟩, f.name, ⟨#[40]⟩, ⟨(comB (f.params.map paB)).toArray⟩, ⟨#[41, 32, 123]⟩]) HPX.out (by assumption) hsx (Nat.le_of_ble_eq_true rfl) (by decide) HL1.out).mono ?_; rintro e w' ⟨rfl, hpl, hbl, hol⟩))
        have y2 := HY2.out _ hol
        have HL2 : Hid (((lj ++ lineB 0 (cat [⟨#[102, 110, 32]⟩, f.name, ⟨#[40]⟩, ⟨(comB (f.params.map paB)).toArray⟩, ⟨#[41, 32, 123]⟩])) ++ txSs f.body (0 + 1)).length ≤ 140737488355328) := by
          show _ ≤ _; have := HLF.out; rw [HTF.out] at this; simp only [List.length_append, Nat.zero_add] at *; omega
        have HBL : Hid (Below w0.heap.size w0 w') := (HB.out.trans HBX.out).trans hbl.out
        clear y0 y1 hs
        go_wp2_with fail
        refine (body_any w0 b _ 0 f.body f.ba f.bc w' HBL.out hpl.out (by omega) HFI.out.2.2.2.2.2.2 HFN.out.1 HL2.out).mono ?_
        rintro e w2 ⟨rfl, hp2, hb2, ho2⟩
        have HP2 : Hid (PgT w0.heap.size b ((lj ++ lineB 0 (cat [⟨#[102, 110, 32]⟩, f.name, ⟨#[40]⟩, ⟨(comB (f.params.map paB)).toArray⟩, ⟨#[41, 32, 123]⟩])) ++ txSs f.body (0 + 1)) 0 w2) := hp2
        have hs2 : w0.heap.size ≤ w2.heap.size := (HBL.out.trans hb2).size
        have HL3 : Hid ((((lj ++ lineB 0 (cat [⟨#[102, 110, 32]⟩, f.name, ⟨#[40]⟩, ⟨(comB (f.params.map paB)).toArray⟩, ⟨#[41, 32, 123]⟩])) ++ txSs f.body (0 + 1)) ++ lineB 0 (cat [⟨#[125]⟩])).length ≤ 140737488355328) := by
          show _ ≤ _; have := HLF.out; rw [HTF.out] at this; simp only [List.length_append, Nat.zero_add] at *; omega
        clear hp2 y2
        go_wp2_with fail
        refine (line_new w0.heap.size b _ 0 [⟨#[125]⟩] w2 HP2.out hs2 (Nat.le_of_ble_eq_true rfl) (by decide) HL3.out).mono ?_
        rintro e w3 ⟨rfl, hp3, hb3, ho3⟩
        have HP3 : Hid (PgT w0.heap.size b (lj ++ txF f) 0 w3) := by
          show PgT _ _ _ _ _; rw [HTF.out, ← List.append_assoc, ← List.append_assoc]; exact hp3
        have hb4 : Below w0.heap.size w w3 := ((HBX.out.trans hbl.out).trans hb2).trans (((Below.refl _ w2).alloc hs2 _).trans hb3)
        have ho4 : Oth b w w3 := ((HOX.out.trans hol).trans ho2).trans (((Lib.OthersKept.refl _ _ w2).alloc _).trans ho3)
        clear hp3
        go_wp2_with fail
        go_roundw
        case rel => exact ⟨j + 1, by omega, by go_num, by show PgT _ _ _ _ _; rw [HT.out, ← List.append_assoc, HLJH.out]; exact HP3.out, hb4, ho4⟩
        case measure => simp [intOf]; omega
      · obtain rfl : j = p.funcs.length := by omega
        go_wp2_with fail
        go_end0
        refine ⟨rfl, ?_, hbj, hoj⟩
        have := HPJ.out
        rw [List.take_length] at this
        rw [HTP.out]; exact this
  · have HX : Hid (l1 = []) := by show _ = _; rw [← HL1.out, txW, if_pos (by omega)]
    have hwi : ¬ (0 : Int) < (p.widen.length : Int) := by omega
    have hb0 := (Below.refl _ w).alloc (Nat.le_refl _) (.cells #[.slice p.wa p.widen.length p.wc, .slice p.fa p.funcs.length p.fc] 26)
    have HPG : Hid (PgT w0.heap.size b l1 0 (w.alloc (.cells #[.slice p.wa p.widen.length p.wc, .slice p.fa p.funcs.length p.fc] 26))) := by show PgT _ _ _ _ _; rw [HX.out]; exact HP.out.stay hb0
    have hb1 : Below w0.heap.size w _ := hb0.mono hsw
    have hoA : Oth b w _ := oth_below hb0
    go_enter Tryd.func23, Tryd.ntmps23
    go_wp2_with fail
    go_loopw [20] (fun t20 wr => ∃ (j : Nat), j ≤ p.funcs.length ∧ t20 = .int .i64 j ∧ Hid (PgT w0.heap.size b (l1 ++ txFs (p.funcs.take j)) 0 wr) ∧ Below w0.heap.size w wr ∧ Oth b w wr) (fun t20 _ => p.funcs.length - (intOf t20).toNat)
    case atStart => exact ⟨0, Nat.zero_le _, rfl, by show PgT _ _ _ _ _; simpa [txFs] using HPG.out, hb1, hoA⟩
    case round =>
      obtain ⟨j, hj, rfl, HPJ, hbj, hoj⟩ := hrel
      clear HPG hb1 hb0 hoA
      have hwj := hbj.size
      have hbj0 : Below w0.heap.size w0 wr := HB.out.trans hbj
      by_cases hlt : j < p.funcs.length
      · obtain ⟨rb, o, hfa, k0, k1, k2⟩ := rowF_at (HR.out.below hbj0) hlt
        rw [hfa]
        have hli : (j : Int) < (p.funcs.length : Int) := by omega
        have HT : Hid (txFs (p.funcs.take (j + 1)) = txFs (p.funcs.take j) ++ txF p.funcs[j]) := txFs_take p.funcs j hlt
        have HLE : Hid ((txFs (p.funcs.take (j + 1))).length ≤ (txFs p.funcs).length) := txFs_le p.funcs (j + 1)
        have HFN : Hid (FnPr w0 p.funcs[j]) := HF.out p.funcs[j] (List.getElem_mem hlt)
        have HFI : Hid (p.funcs[j].In w0) := HFS.out p.funcs[j] (List.getElem_mem hlt)
        generalize p.funcs[j] = f at *
        have hblt : b < wr.heap.size := by obtain ⟨q, h1⟩ := HPJ.out.some; exact h1.lt
        have HLF : Hid ((l1 ++ txFs (p.funcs.take j)).length + (txF f).length ≤ 140737488355328) := by
          show _ ≤ _; have := HLE.out; have := HLEN.out; rw [HT.out] at *; simp only [List.length_append] at *; omega
        have HTF : Hid (txF f = lineB 0 (cat [⟨#[102, 110, 32]⟩, f.name, ⟨#[40]⟩, ⟨(comB (f.params.map paB)).toArray⟩, ⟨#[41, 32, 123]⟩]) ++ txSs f.body 1 ++ lineB 0 (cat [⟨#[125]⟩])) := by show _ = _; simp [txF, cat]
        obtain ⟨lj, HLJ⟩ : ∃ lj, l1 ++ txFs (p.funcs.take j) = lj := ⟨_, rfl⟩
        rw [HLJ] at HPJ HLF
        have HLJH : Hid (l1 ++ txFs (p.funcs.take j) = lj) := HLJ
        clear HLJ
        go_wp2_with fail
        obtain ⟨W0, hW0⟩ : ∃ W0, wr.alloc (.cells #[.string f.name, .slice f.pa f.params.length f.pc, .slice f.ba f.body.length f.bc] 48) = W0 := ⟨_, rfl⟩
        have hbx : Below wr.heap.size wr W0 := by rw [← hW0]; exact (Below.refl _ wr).alloc (Nat.le_refl _) _
        have hbk : W0.heap[wr.heap.size]? = some (.cells #[.string f.name, .slice f.pa f.params.length f.pc, .slice f.ba f.body.length f.bc] 48 (0, 0)) := by rw [← hW0]; exact heap_alloc_new wr _
        rw [hW0]
        have HBX : Hid (Below w0.heap.size w W0) := hbj.trans (hbx.mono (by omega))
        have HOX : Hid (Oth b w W0) := hoj.trans (oth_below hbx)
        have HPX : Hid (PgT w0.heap.size b lj 0 W0) := HPJ.out.stay hbx
        have hsx : w0.heap.size ≤ W0.heap.size := by have := hbx.size; omega
        have hne : wr.heap.size ≠ b := by omega
        have y0 : ∀ w', Oth b W0 w' → w'.cell? ⟨wr.heap.size, 0, none⟩ = some (.string f.name) := fun w' ho => oth_cell hbk (by decide) hne ho rfl
        have y1 : ∀ w', Oth b W0 w' → w'.cell? ⟨wr.heap.size, 1, none⟩ = some (.slice f.pa f.params.length f.pc) := fun w' ho => oth_cell hbk (by decide) hne ho rfl
        have HY2 : Hid (∀ w', Oth b W0 w' → w'.cell? ⟨wr.heap.size, 2, none⟩ = some (.slice f.ba f.body.length f.bc)) := fun w' ho => oth_cell hbk (by decide) hne ho rfl
        have hdrew : Below W0.heap.size W0 W0.drew := Below.drew (Below.refl _ _)
        have HEA : Hid (∀ w', Below W0.heap.size W0 w' → Calls Tryd.prog 40 #[.slice f.pa f.params.length f.pc, .func (.func 41) #[] #[]] w' fun e w'' => ∃ va vc, e = .returned (.slice va f.params.length vc) ∧ Hid (Strs w'' (.slice va f.params.length vc) (f.params.map fun x => ⟨(paB x).toArray⟩)) ∧ Below w'.heap.size w' w'') := fun w' hb => by
          have hbw : Below w0.heap.size w0 w' := (HB.out.trans HBX.out).trans (hb.mono hsx)
          obtain ⟨_, _, _, _, hpr, hpo, _⟩ := HFI.out
          refine (eachParam_any f.params f.pa f.pc w' (by have := HFN.out.2.2; omega) (hpr.below hbw) (fun x hx w'' hb' => param_any x w'' (hpo x hx) ((HNT.out.stay hbw).stay hb') (HFN.out.2.1 x hx))).mono fun e w'' ⟨v, he, hs, hb'⟩ => ?_
          obtain ⟨va, vc, rfl, hs'⟩ := strs_len hs
          exact ⟨va, vc, he, hs', hb'⟩
        have HLM : Hid ((f.params.map fun x => (⟨(paB x).toArray⟩ : ByteArray)).length ≤ 1000000) := by show _ ≤ _; rw [List.length_map]; have := HFN.out.2.2; omega
        have HL1 : Hid ((lj ++ lineB 0 (cat [⟨#[102, 110, 32]⟩, f.name, ⟨#[40]⟩, ⟨(comB (f.params.map paB)).toArray⟩, ⟨#[41, 32, 123]⟩])).length ≤ 140737488355328) := by
          show _ ≤ _; have := HLF.out; rw [HTF.out] at this; simp only [List.length_append] at *; omega
        have HL0 : Hid ((comB (f.params.map paB)).length ≤ 140737488355328) := by
          show _ ≤ _; have := HL1.out; simp [lineB, cat] at this; omega
        clear hW0 hbx hbk k0 k1 k2
        go_region_held3 (fun w' => Oth b W0 w') (first | exact oth_below (by assumption) | exact Lib.OthersKept.trans (by assumption) (oth_below (by assumption)) | exact Lib.OthersKept.alloc (by assumption) _ | assumption)
          (first
            | (go_at_call 40; refine (HEA.out _ (by assumption)).mono ?_; rintro e w' ⟨va, vc, rfl, hs, hb⟩; have hB : Below W0.heap.size W0 w' := Below.on (by assumption) hb)
            | (go_at_call 37; refine (commas_of hs.out (comB_pa f.params) HLM.out HL0.out).mono ?_; rintro e w' ⟨rfl, hb⟩; have hB : Below W0.heap.size W0 w' := Below.on (by assumption) hb)
            | (go_at_call 36; refine (line_in (xs := [⟨#[102, 110, 32]⟩, f.name, ⟨#[40]⟩, ⟨(comB (f.params.map paB)).toArray⟩, ⟨#[41, 32, 123]⟩]) HPX.out (by assumption) hsx (Nat.le_of_ble_eq_true rfl) (by decide) HL1.out).mono ?_; rintro e w' ⟨rfl, hpl, hbl, hol⟩))
        have y2 := HY2.out _ hol
        have HL2 : Hid (((lj ++ lineB 0 (cat [⟨#[102, 110, 32]⟩, f.name, ⟨#[40]⟩, ⟨(comB (f.params.map paB)).toArray⟩, ⟨#[41, 32, 123]⟩])) ++ txSs f.body (0 + 1)).length ≤ 140737488355328) := by
          show _ ≤ _; have := HLF.out; rw [HTF.out] at this; simp only [List.length_append, Nat.zero_add] at *; omega
        have HBL : Hid (Below w0.heap.size w0 w') := (HB.out.trans HBX.out).trans hbl.out
        clear y0 y1 hs
        go_wp2_with fail
        refine (body_any w0 b _ 0 f.body f.ba f.bc w' HBL.out hpl.out (by omega) HFI.out.2.2.2.2.2.2 HFN.out.1 HL2.out).mono ?_
        rintro e w2 ⟨rfl, hp2, hb2, ho2⟩
        have HP2 : Hid (PgT w0.heap.size b ((lj ++ lineB 0 (cat [⟨#[102, 110, 32]⟩, f.name, ⟨#[40]⟩, ⟨(comB (f.params.map paB)).toArray⟩, ⟨#[41, 32, 123]⟩])) ++ txSs f.body (0 + 1)) 0 w2) := hp2
        have hs2 : w0.heap.size ≤ w2.heap.size := (HBL.out.trans hb2).size
        have HL3 : Hid ((((lj ++ lineB 0 (cat [⟨#[102, 110, 32]⟩, f.name, ⟨#[40]⟩, ⟨(comB (f.params.map paB)).toArray⟩, ⟨#[41, 32, 123]⟩])) ++ txSs f.body (0 + 1)) ++ lineB 0 (cat [⟨#[125]⟩])).length ≤ 140737488355328) := by
          show _ ≤ _; have := HLF.out; rw [HTF.out] at this; simp only [List.length_append, Nat.zero_add] at *; omega
        clear hp2 y2
        go_wp2_with fail
        refine (line_new w0.heap.size b _ 0 [⟨#[125]⟩] w2 HP2.out hs2 (Nat.le_of_ble_eq_true rfl) (by decide) HL3.out).mono ?_
        rintro e w3 ⟨rfl, hp3, hb3, ho3⟩
        have HP3 : Hid (PgT w0.heap.size b (lj ++ txF f) 0 w3) := by
          show PgT _ _ _ _ _; rw [HTF.out, ← List.append_assoc, ← List.append_assoc]; exact hp3
        have hb4 : Below w0.heap.size w w3 := ((HBX.out.trans hbl.out).trans hb2).trans (((Below.refl _ w2).alloc hs2 _).trans hb3)
        have ho4 : Oth b w w3 := ((HOX.out.trans hol).trans ho2).trans (((Lib.OthersKept.refl _ _ w2).alloc _).trans ho3)
        clear hp3
        go_wp2_with fail
        go_roundw
        case rel => exact ⟨j + 1, by omega, by go_num, by show PgT _ _ _ _ _; rw [HT.out, ← List.append_assoc, HLJH.out]; exact HP3.out, hb4, ho4⟩
        case measure => simp [intOf]; omega
      · obtain rfl : j = p.funcs.length := by omega
        go_wp2_with fail
        go_end0
        refine ⟨rfl, ?_, hbj, hoj⟩
        have := HPJ.out
        rw [List.take_length] at this
        rw [HTP.out]; exact this
end Go.Proofs.YtbpemackmadhgaaDoor
