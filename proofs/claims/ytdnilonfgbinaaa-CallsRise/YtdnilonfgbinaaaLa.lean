/- CallsOf. -/
import Derived.Test.YtdnilonfgbinaaaKy
import Derived.Test.YtdnilonfgbinaaaEd
import Derived.Test.YtdnilonfgbinaaaDf
namespace Go.Proofs.Ytdnilonfgbinaaa
open Go.RowKit Go.Sort

theorem samF_refl (f : Fn) : samF f f = true := by simp [samF, samPs_refl, samXs_refl]
theorem samFs_er : ∀ (l t : List Fn), samFs (l.map Fn.er) (t.map Fn.er) = samFs l t
  | [], [] => rfl
  | [], _ :: _ => rfl
  | _ :: _, [] => rfl
  | x :: l, y :: t => by rw [List.map_cons, List.map_cons, samFs, samFs, samFs_er l t]; rfl
theorem samFs_refl : ∀ l, samFs l l = true
  | [] => rfl
  | x :: l => by rw [samFs, samFs_refl l, samF_refl]; rfl
theorem samM_er (p q : Mo) : samM p.er q.er = samM p q := by unfold samM; simp only [Mo.er, samFs_er]
theorem samM_same {p q : Mo} (h : p.er = q.er) : samM p q = true := by
  rw [← samM_er, h]; simp [samM, samI_refl, samFs_refl]
theorem er_fn {l l' : List Fn} (h : l.map Fn.er = l'.map Fn.er) {k : Nat} {f : Fn} (hf : l[k]? = some f) : ∃ f', l'[k]? = some f' ∧ f'.code = f.code := by
  have h1 : (l.map Fn.er)[k]? = some f.er := by rw [List.getElem?_map, hf]; rfl
  rw [h, List.getElem?_map] at h1
  cases h2 : l'[k]? with
  | none => rw [h2] at h1; cases h1
  | some f' =>
    rw [h2] at h1
    injection h1 with h1
    have h3 := congrArg Fn.code h1
    exact ⟨f', rfl, h3⟩
theorem er_funcs {q m : Mo} (h : q.er = m.er) : q.funcs.map Fn.er = m.funcs.map Fn.er := congrArg Mo.funcs h
theorem er_len {q m : Mo} (h : q.er = m.er) : q.funcs.length = m.funcs.length := by
  have := congrArg List.length (er_funcs h)
  simpa using this
theorem cal_er {q m : Mo} (h : q.er = m.er) {z : Int} {y : Nat} (hc : Cal q z y) : Cal m z y := by
  obtain ⟨fn, f, rs, u, rfl, h1, h2, h3⟩ := hc
  obtain ⟨f', h4, h5⟩ := er_fn (er_funcs h) h1
  exact ⟨fn, f', rs, u, rfl, h4, by rw [h5]; exact h2, by rw [h5, ← er_len h]; exact h3⟩
theorem isOf_er {q m : Mo} (h : q.er = m.er) {z : Int} {ks : List Nat} (hk : IsOf q z ks) : IsOf m z ks := ⟨hk.1, fun y => (hk.2 y).trans ⟨cal_er h, cal_er h.symm⟩⟩
theorem own_off {W : World} {N n sz g : Nat} {T : TypeId} {v : Value} {xs : List Value} (h : W.ownsRow N T sz v n xs) (hne : v.ownBlock ≠ some g) (i : Nat) (u : Value) : (W.setCell ⟨g, i, none⟩ u).ownsRow N T sz v n xs := by
  refine ⟨h.1, ?_⟩
  rcases h.2 with h0 | ⟨k, cap, cur, rfl, h1, h2, h3⟩
  · exact .inl h0
  · exact .inr ⟨k, cap, cur, rfl, h1, (Below.heap_setCell _ _ _ _ (fun e => hne (by simp [Value.ownBlock, e]))).trans h2, h3⟩
theorem IsOf.small {m : Mo} {z : Int} {ks : List Nat} (h : IsOf m z ks) : ks.length ≤ 1024 := by
  cases ks with
  | nil => simp
  | cons y t =>
    obtain ⟨fn, f, rs, u, rfl, h1, h2, h3⟩ := (h.2 y).1 (List.mem_cons_self ..)
    have := subU_len (a := y :: t) (b := (cls f.code rs m.funcs.length).map Prod.snd) (h.1.imp fun h => Nat.ne_of_lt h) fun x hx => by
      obtain ⟨u', hu⟩ := (cal_at h1 h2 x).1 ((h.2 x).1 hx)
      exact List.mem_map.2 ⟨_, hu, rfl⟩
    rw [List.length_map] at this
    exact Nat.le_trans this (Nat.le_trans (clU_len f.code rs m.funcs.length rs.length) h2.len)
/-- What a law holds while it writes over what was told: the row, and the document's own answer, which lies elsewhere. -/
structure LO (Wb : World) (n : Nat) (vl vq : Value) (qs : List Nat) (W : World) : Prop where
  l : ∃ xs, W.ownsRow Wb.heap.size 3 1 vl n xs
  q : On Wb.heap.size qs vq W
  ap : Apart vq vl
  b : Below Wb.heap.size Wb W
section
variable {Wb W W' : World} {n : Nat} {vl vq : Value} {qs : List Nat}
theorem LO.stay (h : LO Wb n vl vq qs W) (hb : Below W.heap.size W W') : LO Wb n vl vq qs W' := by
  obtain ⟨xs, hx⟩ := h.l
  exact ⟨⟨xs, own_stay hx hb⟩, own_stay h.q hb, h.ap, Below.on h.b hb⟩
theorem LO.at {a : Option Addr} {c i : Nat} (h : LO Wb n (.slice a n c) vq qs W) (hi : i < n) : ∃ g u, a = some ⟨g, 0, none⟩ ∧ W.cell? ⟨g, i, none⟩ = some u ∧ W.frozen? ⟨g, i, none⟩ = false := by
  obtain ⟨xs, hx⟩ := h.l
  have hl : i < xs.length := by have := hx.1; omega
  obtain ⟨g, rfl, hc, _⟩ := own_cell hx (j := i) (u := xs[i]) (List.getElem?_eq_getElem hl)
  exact ⟨g, _, rfl, hc, World.ownsRow.frozenAt hx i⟩
theorem LO.put {g c : Nat} (h : LO Wb n (.slice (some ⟨g, 0, none⟩) n c) vq qs W) (i : Nat) (u : Value) : LO Wb n (.slice (some ⟨g, 0, none⟩) n c) vq qs (W.setCell ⟨g, i, none⟩ u) := by
  obtain ⟨xs, hx⟩ := h.l
  obtain ⟨cur, hc, hN⟩ := own_blk hx
  refine ⟨⟨_, (World.ownsRow.stored hx i u).1⟩, own_off h.q (fun e => ?_) _ _, h.ap, h.b.setCell (by simp only; omega) _⟩
  rcases h.ap with e2 | e2
  · rw [e2] at e; cases e
  · exact e2 (by rw [e]; rfl)
theorem LO.app (h : LO Wb n vl vq qs W) (hn : n ≤ 1000000) (z : Int) (ty : TypeId) :
    ∃ v' W', (Builtin.append_ #[27, 27] ty #[vl, .slice (some ⟨W.heap.size, 0, none⟩) 1 1]).run Try.prog (W.alloc (.cells #[.int .i64 z] 3)) = .ok v' W' ∧ On Wb.heap.size qs vq W' ∧ Below Wb.heap.size Wb W' := by
  obtain ⟨xs, hx⟩ := h.l
  obtain ⟨v', W', h1, h2, h3⟩ := app_one (t := 27) Try.underlying27 Try.infoN rfl (by decide) hx h.b.size (by unfold maxLen; omega) (by omega) #[.int .i64 z] rfl (by simp [Value.oneCell']) ty
  exact ⟨v', W', h1, h.q.kept h3 h.ap, h.b.grown h3 h.b.size (fun k e => own_base hx k e)⟩
end
theorem AllIn.refl (w : World) : AllIn w w := fun _ _ h => h
set_option maxRecDepth 100000 in
set_option maxHeartbeats 4000000 in
theorem callsOf_law (m : Mo) (z : Int) (w : World) (hm : m.In w) : Calls Try.prog 3 #[m.val, .int .i64 z] w fun e w' => e = .returned (.bool true) ∧ Below w.heap.size w w' := by
  have HB0 := Hid.mk' (Below.one (Below.refl _ w) (moB m))
  have HX0 := Hid.mk' (heap_alloc_new w (moB m))
  have HMI := Hid.mk' hm
  have HCP : Hid (∀ w', Below w.heap.size w w' → Calls Try.prog 6 #[m.val] w' fun e w2 => ∃ q : Mo, e = .returned q.val ∧ q.In w2 ∧ q.er = m.er ∧ Below w'.heap.size w' w2) := fun w' hb => copy_any m w' (hm.stay hb)
  have HRO : Hid (∀ w', Below w.heap.size w w' → Calls Try.prog 8 #[m.val, .int .i64 z] w' (OfP m z w')) := fun w' hb => rof_any w m z w' hm ((AllIn.refl w).below hb)
  have HRS : Hid (∀ q : Mo, ∀ w', Below w.heap.size w w' → q.In w' → Calls Try.prog 9 #[q.val, m.val] w' fun e w2 => e = .returned (.bool (samM q m)) ∧ Below w'.heap.size w' w2) := fun q w' hb hq => rsame_any q m w' hq (hm.stay hb)
  have c0 := cell_of_obj HX0.out (j := 0) (v := .slice m.ta m.ths.length m.tc) rfl
  have c1 := cell_of_obj HX0.out (j := 1) (v := .slice m.fa m.funcs.length m.fc) rfl
  have HFX := Hid.mk' fixed_any
  have hml := hm.2.2.1.1
  clear hm
  obtain ⟨mta, mtc, mths, mfa, mfc, mfs⟩ := m
  simp only [moB, Mo.val] at *
  go_enter Try.func3, Try.ntmps3
  go_wp2_with fail
  refine (HCP.out _ HB0.out).mono ?_
  rintro e w1 ⟨⟨qta, qtc, qths, qfa, qfc, qfs⟩, rfl, hqi, hqe, hb1⟩
  simp only at *
  have HQE := Hid.mk' hqe
  have HB1 := Hid.mk' (Below.on HB0.out hb1)
  have HX1 := Hid.mk' (blk_stay HX0.out hb1)
  have hbq := Below.one (Below.refl _ w1) (.cells #[.slice qta qths.length qtc, .slice qfa qfs.length qfc] 25)
  have HBb := Hid.mk' (Below.on HB1.out hbq)
  have HXb := Hid.mk' (blk_stay HX1.out hbq)
  have HXq := Hid.mk' (heap_alloc_new w1 (.cells #[.slice qta qths.length qtc, .slice qfa qfs.length qfc] 25))
  have HQI := Hid.mk' (hqi.stay hbq)
  have d0 := cell_of_obj HXq.out (j := 0) (v := .slice qta qths.length qtc) rfl
  have d1 := cell_of_obj HXq.out (j := 1) (v := .slice qfa qfs.length qfc) rfl
  clear hqi hqe hb1 hbq HB0 HX0 HB1 HX1 HCP c0 c1
  go_wp2_with fail
  generalize w1.heap.size = G at *
  generalize w1.alloc (.cells #[.slice qta qths.length qtc, .slice qfa qfs.length qfc] 25) = Wb at *
  have HOF : Hid (∀ w', Below Wb.heap.size Wb w' → Calls Try.prog 7 #[.agg #[.slice qta qths.length qtc, .slice qfa qfs.length qfc], .int .i64 z] w' (OfP ⟨qta, qtc, qths, qfa, qfc, qfs⟩ z w')) := fun w' hb => of_any Wb ⟨qta, qtc, qths, qfa, qfc, qfs⟩ z w' HQI.out ((AllIn.refl Wb).below hb)
  refine (HOF.out _ (Below.refl _ _)).mono ?_
  rintro e w2 ⟨v2, ks, rfl, hof, on2, bb2⟩
  obtain ⟨a2, c2, rfl⟩ := gown_form on2
  have HO1 := Hid.mk' (isOf_er HQE.out hof)
  have HON2 := Hid.mk' on2
  have HB2 := Hid.mk' bb2
  have hb2x := blk_stay HXb.out bb2
  have x0 := cell_of_obj hb2x (j := 0) (v := .slice mta mths.length mtc) rfl
  have x1 := cell_of_obj hb2x (j := 1) (v := .slice mfa mfs.length mfc) rfl
  clear hof on2 bb2 hb2x d0 d1
  go_wp2_with fail
  refine (HRO.out _ (HBb.out.trans (HB2.out.mono HBb.out.size))).mono ?_
  rintro e w3 ⟨v3, ks', rfl, hof3, on3, bb3⟩
  obtain rfl := hof3.one HO1.out
  obtain ⟨a3, c3, rfl⟩ := gown_form on3
  have hkl : ks'.length ≤ 1024 := hof3.small
  have HL3 : Hid (LO Wb ks'.length (.slice a2 ks'.length c2) (.slice a3 ks'.length c3) ks' w3) := ⟨⟨_, own_stay HON2.out bb3⟩, own_mono on3 HB2.out.size, apart_new on3 HON2.out (Nat.le_refl _), Below.on HB2.out bb3⟩
  have HS3 : Hid (Lst w3 a2 (ks'.map nV)) := (own_lst HON2.out).stay bb3
  have hbx := blk_stay HXb.out HL3.out.b
  have hbq := blk_stay HXq.out HL3.out.b
  have x0 := cell_of_obj hbx (j := 0) (v := .slice mta mths.length mtc) rfl
  have x1 := cell_of_obj hbx (j := 1) (v := .slice mfa mfs.length mfc) rfl
  have d0 := cell_of_obj hbq (j := 0) (v := .slice qta qths.length qtc) rfl
  have d1 := cell_of_obj hbq (j := 1) (v := .slice qfa qfs.length qfc) rfl
  have HSM := Hid.mk' (HRS.out ⟨qta, qtc, qths, qfa, qfc, qfs⟩ w3 (HBb.out.trans (HL3.out.b.mono HBb.out.size)) (HQI.out.stay HL3.out.b))
  rw [samM_same HQE.out] at HSM
  clear hof3 on3 bb3 HON2 HB2 hbx hbq HRS HRO
  go_wp2_with fail
  refine HSM.out.mono ?_
  rintro e w4 ⟨rfl, bb4⟩
  have HL4 := Hid.mk' (HL3.out.stay bb4)
  have HS4 := Hid.mk' (HS3.out.stay bb4)
  clear bb4 HL3 HS3 HSM x0 x1 d0 d1
  go_wp2_with fail
  refine (HFX.out _).mono ?_
  rintro e w5 ⟨rfl, bb5⟩
  have HL5 := Hid.mk' (HL4.out.stay bb5)
  have HSA := Hid.mk' (sameInts_any ks' ks' a2 a3 c2 c3 w5 (HS4.out.stay bb5) (own_lst HL5.out.q) (by omega))
  rw [decide_eq_true rfl] at HSA
  clear bb5 HL4 HS4
  go_wp2_with fail
  refine HSA.out.mono ?_
  rintro e w6 ⟨rfl, bb6⟩
  have HL6 := Hid.mk' (HL5.out.stay bb6)
  clear bb6 HL5 HSA
  go_wp2_with fail
  go_loopw [9] (fun t9 wr => ∃ i : Nat, t9 = .int .i64 (i : Int) ∧ i ≤ ks'.length ∧ LO Wb ks'.length (.slice a2 ks'.length c2) (.slice a3 ks'.length c3) ks' wr) (fun t9 _ => ks'.length - (intOf t9).toNat)
  case atStart => exact ⟨0, rfl, Nat.zero_le _, HL6.out⟩
  case round =>
    obtain ⟨i, rfl, hil, hli⟩ := hrel
    have HLI := Hid.mk' hli
    clear hli HL6
    by_cases hlt : i < ks'.length
    · obtain ⟨g, u, rfl, e0, f0⟩ := HLI.out.at hlt
      have hlti : (i : Int) < (ks'.length : Int) := by omega
      have HPU := Hid.mk' (fun u => HLI.out.put i u)
      go_wp2_with fail
      go_roundw
      case rel => exact ⟨i + 1, by go_num, hlt, HPU.out _⟩
      case measure => simp [intOf]; omega
    · have HAP := Hid.mk' (HLI.out.app (by omega) 5 27)
      go_wp2_with (at_builtin; refine wpl_app rfl _ _ 27 27 _ _ rfl rfl rfl HAP.out ?_; rintro v7 W7 ⟨oq7, b7⟩; have HOQ := Hid.mk' oq7; have HB7 := Hid.mk' b7; have hbq := blk_stay HXq.out b7; have d0 := cell_of_obj hbq (j := 0) (v := .slice qta qths.length qtc) rfl; have d1 := cell_of_obj hbq (j := 1) (v := .slice qfa qfs.length qfc) rfl; clear oq7 b7 hbq)
      refine (HOF.out _ HB7.out).mono ?_
      rintro e w8 ⟨v8, ks2, rfl, hof8, on8, bb8⟩
      obtain rfl := (isOf_er HQE.out hof8).one HO1.out
      obtain ⟨a8, c8, rfl⟩ := gown_form on8
      have HSB := Hid.mk' (sameInts_any ks2 ks2 a8 a3 c8 c3 w8 (own_lst on8) ((own_lst HOQ.out).stay bb8) (by omega))
      rw [decide_eq_true rfl] at HSB
      have HB8 : Hid (Below w.heap.size w w8) := HBb.out.trans ((Below.on HB7.out bb8).mono HBb.out.size)
      clear hof8 on8 bb8 d0 d1
      go_wp2_with fail
      refine HSB.out.mono ?_
      rintro e w9 ⟨rfl, bb9⟩
      go_wp2_with fail
      go_ret
      exact ⟨rfl, Below.on HB8.out bb9⟩
end Go.Proofs.Ytdnilonfgbinaaa
