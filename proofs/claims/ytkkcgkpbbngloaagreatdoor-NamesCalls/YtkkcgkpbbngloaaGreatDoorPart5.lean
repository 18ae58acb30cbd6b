/- The document's own look at names: a name made known, a function called. -/
import Derived.Test.YtkkcgkpbbngloaaGreatDoorPart4
namespace Go.Proofs.YtkkcgkpbbngloaaGreatDoor
open Go.RowKit Go.Sort

theorem Tryz.infoVar : (Tryz.prog.info? 89).map (fun i => (i.zero, i.size, i.bytes)) = some (some (.agg #[.string ⟨#[]⟩, .int .u8 0]), 2, 24) := by kernel_rfl
theorem var_cells (w : World) (s : ByteArray) (k : Int) : ∀ j u, ([.string s, .int .u8 k] : List Value)[j]? = some u → (w.alloc (.cells #[.string s, .int .u8 k] 89)).cell? ((⟨w.heap.size, 0, none⟩ : Addr).add j) = some u := by
  intro j u hj
  match j, hj with
  | 0, hj => cases hj; exact World.cell?_alloc_at _ _ _ _ rfl
  | 1, hj => cases hj; exact World.cell?_alloc_at _ _ _ _ rfl
  | j + 2, hj => simp at hj
theorem kC_app (K : Kn) (s : ByteArray) (k : Int) : kC (K ++ [(s, k)]) = kC K ++ [.string s, .int .u8 k] := by unfold kC; rw [List.flatMap_append]; rfl
/-- The row of variables one longer. -/
theorem RS.app {N b : Nat} {w : World} {p : Pr} {fn n lp : Int} {kv : Value} {K : Kn} {e : Int} {cv : Value} {cl : List Bool} (h : RS N w b p fn n lp kv K e cv cl) {s : ByteArray} {k : Int} {o : Obj} {w2 : World} {v' : Value}
    (ho : w2.ownsRow N 89 2 v' (K.length + 1) (kC K ++ [.string s, .int .u8 k])) (hg : (w.alloc o).grownBy w2 kv.ownBlock) (hat : v'.ownBlock = kv.ownBlock ∨ v'.ownBlock = some (w.heap.size + 1)) :
    w2.heap[b]? = w.heap[b]? ∧ RS N (w2.setCell ⟨b, 5, none⟩ v') b p fn n lp v' (K ++ [(s, k)]) e cv cl ∧ Fr (b :: ob kv) w (w2.setCell ⟨b, 5, none⟩ v') ∧ ∀ g ∈ ob v', g ∈ ob kv ∨ w.heap.size ≤ g := by
  have hfr : Fr (ob kv) w w2 := ((Fr.refl _ w).alloc _).trans (Fr.of_grown hg)
  obtain ⟨k1, k2, k3, k4, k5, k6, k7⟩ := h
  have hb := (Array.getElem?_eq_some_iff.1 k1).1
  have hblk := hfr.2.2.2.2 b hb k5
  have hnew : ∀ g ∈ ob v', g ∈ ob kv ∨ w.heap.size ≤ g := fun g hx => by
    rcases hat with e | e
    · left; unfold ob at hx ⊢; rw [← e]; exact hx
    · right
      have : g = w.heap.size + 1 := by unfold ob at hx; rw [e] at hx; simpa using hx
      omega
  have hset : Fr [b] w2 (w2.setCell ⟨b, 5, none⟩ v') := (Fr.refl _ w2).set (by simp) _ _
  have hbv : b ∉ ob v' := fun hx => by
    rcases hnew b hx with h' | h'
    · exact k5 h'
    · omega
  refine ⟨hblk, ⟨?_, ?_, ?_, k4, hbv, k6, fun g hx => ?_⟩, ?_, hnew⟩
  · have h2 := hblk.trans k1
    simp [World.setCell, Array.getElem?_modify, h2]
  · rw [kC_app, List.length_append]
    exact gown_keep ho (fun g hx => hset.2.2.2.2 g (gown_lt ho g hx).2 (fun hy => hbv (by have e : g = b := (by simpa using hy); rw [← e]; exact hx)))
  · have k3' := gown_keep k3 (fun g hx => hfr.2.2.2.2 g (gown_lt k3 g hx).2 (fun hy => k7 g hy hx))
    exact gown_keep k3' (fun g hx => hset.2.2.2.2 g (gown_lt k3' g hx).2 (fun hy => k6 (by have e : g = b := (by simpa using hy); rw [← e]; exact hx)))
  · rcases hnew g hx with h' | h'
    · exact k7 g h'
    · intro hy; have := (gown_lt k3 g hy).2; omega
  · exact (hfr.mono fun _ h => List.mem_cons_of_mem _ h).set (by simp) _ _
set_option maxRecDepth 100000 in
set_option maxHeartbeats 4000000 in
theorem rfresh_any (s : ByteArray) (k : Int) {N b : Nat} {w : World} {p : Pr} {fn n lp : Int} {kv : Value} {K : Kn} {cv : Value} {cl : List Bool} (h : RS N w b p fn n lp kv K 0 cv cl) (hK : K.length ≤ 900000) (hN : N ≤ w.heap.size) :
    Calls Tryz.prog 21 #[.pointer (some ⟨b, 0, none⟩), .string s, .int .u8 k] w fun r w' => r = .returned (.tuple #[]) ∧ ∃ kv', RS N w' b p fn n lp kv' (K ++ [(s, k)]) (if kdZ K s ≠ 0 then 9 else 0) cv cl ∧ Fr (b :: ob kv) w w' ∧ ∀ g ∈ ob kv', g ∈ ob kv ∨ w.heap.size ≤ g := by
  have HKD := Hid.mk' (rkind_any s h (by omega))
  have HW := Hid.mk' (rwrong_any 9 h)
  have hK2 := hK
  obtain ⟨i0, hi, hz0, hz1, hz2⟩ := info_parts Tryz.infoVar
  have H0 := Hid.mk' h
  obtain ⟨ao, cap, rfl⟩ := gown_form h.2.1
  clear h hK
  cases hk : (kdZ K s != 0)
  · have HE : Hid ((if kdZ K s ≠ 0 then (9 : Int) else 0) = 0) := by show _ = _; rw [if_neg (by simpa using hk)]
    rw [HE.out]
    generalize kdZ K s = kd at *
    have hov := H0.out.2.1
    have c5 := H0.out.cell (j := 5) rfl
    have hnew := var_cells w s k
    have hlt := H0.out.lt
    go_enter Tryz.func21, Tryz.ntmps21
    go_wp2_with fail
    refine HKD.out.mono ?_
    rintro r w1 ⟨rfl, rfl⟩
    clear HKD HW
    go_wp2_with (at_builtin; refine wpList_append_own_at _ rfl _ _ 52 rfl N 89 i0 (.agg #[.string ⟨#[]⟩, .int .u8 0]) 2 24 Tryz.underlying52 hi hz0 hz1 hz2 rfl (by decide) _ _ _ rfl (hov.alloc _) ⟨w1.heap.size, 0, none⟩ 1 1 [.string s, .int .u8 k] rfl rfl hnew ?c2 ?c3 ?c4 ?c5 ?_)
    case c2 => intro u hu; simp at hu; rcases hu with rfl | rfl <;> rfl
    case c3 => unfold maxLen; omega
    case c4 => omega
    case c5 => simp; omega
    intro v' w2 hown' hgrow _ hat
    obtain ⟨hb2, hp⟩ := H0.out.app hown' hgrow hat
    have hb3 := hb2.trans H0.out.1
    have d5 : w2.cell? ⟨b, 5, none⟩ = some (.slice ao K.length cap) := by rw [Lib.cell_of_heap hb3]; rfl
    have f5 : w2.frozen? ⟨b, 5, none⟩ = false := Lib.frozen_of_heap hb3 5
    have HP := Hid.mk' hp
    obtain ⟨va, vc, rfl⟩ := gown_form hown'
    clear hown' hgrow hat hp hb2 hb3 hov hnew c5
    go_wp2_with fail
    go_end0
    exact ⟨rfl, _, HP.out⟩
  · have HE : Hid ((if kdZ K s ≠ 0 then (9 : Int) else 0) = 9) := by show _ = _; rw [if_pos (by simpa using hk)]
    rw [HE.out]
    generalize kdZ K s = kd at *
    go_enter Tryz.func21, Tryz.ntmps21
    go_wp2_with fail
    refine HKD.out.mono ?_
    rintro r w1 ⟨rfl, rfl⟩
    clear HKD
    go_wp2_with fail
    refine HW.out.mono ?_
    rintro r w3 ⟨rfl, h3, hf3⟩
    have H3 := Hid.mk' h3
    have HF3 := Hid.mk' hf3
    have hov := h3.2.1
    have c5 := h3.cell (j := 5) rfl
    have hnew := var_cells w3 s k
    have hlt := h3.lt
    have hN3 : N ≤ w3.heap.size := Nat.le_trans hN hf3.size
    clear HW h3 hf3
    go_wp2_with (at_builtin; refine wpList_append_own_at _ rfl _ _ 52 rfl N 89 i0 (.agg #[.string ⟨#[]⟩, .int .u8 0]) 2 24 Tryz.underlying52 hi hz0 hz1 hz2 rfl (by decide) _ _ _ rfl (hov.alloc _) ⟨w3.heap.size, 0, none⟩ 1 1 [.string s, .int .u8 k] rfl rfl hnew ?c2 ?c3 ?c4 ?c5 ?_)
    case c2 => intro u hu; simp at hu; rcases hu with rfl | rfl <;> rfl
    case c3 => unfold maxLen; omega
    case c4 => omega
    case c5 => simp; omega
    intro v' w2 hown' hgrow _ hat
    obtain ⟨hb2, hp⟩ := H3.out.app hown' hgrow hat
    have hb3 := hb2.trans H3.out.1
    have d5 : w2.cell? ⟨b, 5, none⟩ = some (.slice ao K.length cap) := by rw [Lib.cell_of_heap hb3]; rfl
    have f5 : w2.frozen? ⟨b, 5, none⟩ = false := Lib.frozen_of_heap hb3 5
    have HP := Hid.mk' hp
    obtain ⟨va, vc, rfl⟩ := gown_form hown'
    clear hown' hgrow hat hp hb2 hb3 hov hnew c5
    go_wp2_with fail
    go_end0
    exact ⟨rfl, _, HP.out.1, (HF3.out.mono (by simp)).trans HP.out.2.1, fun g hg => (HP.out.2.2 g hg).imp id (fun h => Nat.le_trans HF3.out.size h)⟩
/-- The functions ahead, as the table has them. -/
def RelF (ft : List (List UInt8 × Int)) (fs : List Fu) (k : Nat) : Prop :=
  (∀ s : List UInt8, tabHas ft s = true → ∃ (i : Nat) (f : Fu), i < k ∧ fs[i]? = some f ∧ f.name.data.toList = s) ∧ ∀ (i : Nat) (f : Fu), i < k → fs[i]? = some f → tabHas ft f.name.data.toList = true ∧ tabAt ft f.name.data.toList = i
/-- Calls marked. -/
def mark (cl : List Bool) (l : List Int) : List Bool := l.foldl (fun c i => c.set i.toNat true) cl
theorem mark_append (cl : List Bool) (l m : List Int) : mark cl (l ++ m) = mark (mark cl l) m := by unfold mark; rw [List.foldl_append]
theorem mark_length (cl : List Bool) (l : List Int) : (mark cl l).length = cl.length := by
  induction l generalizing cl with
  | nil => rfl
  | cons i r ih => show (mark (cl.set i.toNat true) r).length = _; rw [ih, List.length_set]
theorem RS.call {N b : Nat} {w : World} {p : Pr} {fn n lp : Int} {kv : Value} {K : Kn} {e : Int} {cv : Value} {cl : List Bool} (h : RS N w b p fn n lp kv K e cv cl) {i : Nat} (_hi : i < cl.length) {g cap : Nat} (hv : cv = .slice (some ⟨g, 0, none⟩) cl.length cap) :
    RS N (w.setCell ⟨g, i, none⟩ (.bool true)) b p fn n lp kv K e cv (cl.set i true) ∧ Fr (ob cv) w (w.setCell ⟨g, i, none⟩ (.bool true)) := by
  have hob : ob cv = [g] := by rw [hv]; rfl
  have hset : Fr [g] w (w.setCell ⟨g, i, none⟩ (.bool true)) := (Fr.refl _ w).set (by simp) _ _
  obtain ⟨k1, k2, k3, k4, k5, k6, k7⟩ := h
  rw [hob] at k6 k7
  refine ⟨⟨?_, ?_, ?_, k4, k5, by rw [hob]; exact k6, by rw [hob]; exact k7⟩, by rw [hob]; exact hset⟩
  · exact (hset.2.2.2.2 b (Array.getElem?_eq_some_iff.1 k1).1 k6).trans k1
  · exact gown_keep k2 (fun x hx => hset.2.2.2.2 x (gown_lt k2 x hx).2 (k7 x hx))
  · rcases k3.2 with ⟨e0, _⟩ | ⟨g', cap', cur, e0, h1, h2, h3, h4, h5, h6⟩
    · rw [hv] at e0; cases e0
    · rw [hv] at e0
      cases e0
      refine ⟨by simp, .inr ⟨g, cap, cur.setIfInBounds i (.bool true), by rw [hv, List.length_set], h1, ?_, by rw [List.length_set]; exact h3, h4, by simpa using h5, ?_⟩⟩
      · simp [World.setCell, Array.getElem?_modify, h2]
      · rw [List.length_set, Array.toList_setIfInBounds, List.take_set, h6, List.map_set]
set_option maxRecDepth 100000 in
set_option maxHeartbeats 4000000 in
theorem rcalled_any (s : ByteArray) (w0 : World) (k : Nat) (ft : List (List UInt8 × Int)) {b : Nat} {w : World} {p : Pr} {n lp : Int} {kv : Value} {K : Kn} {cv : Value} {cl : List Bool} (h : RS w0.heap.size w b p k n lp kv K 0 cv cl) (hin : p.In w0) (hB : Below w0.heap.size w0 w) (hk : k ≤ p.funcs.length) (hcl : cl.length = p.funcs.length) (hf : RelF ft p.funcs k) (hn : p.funcs.length ≤ 1000) :
    Calls Tryz.prog 103 #[.pointer (some ⟨b, 0, none⟩), .string s] w fun r w' => r = .returned (.tuple #[]) ∧ ∃ cl', RS w0.heap.size w' b p k n lp kv K (clZ ft s.data.toList) cv cl' ∧ (clZ ft s.data.toList = 0 → cl' = mark cl [tabAt ft s.data.toList]) ∧ cl'.length = cl.length ∧ Fr (b :: ob cv) w w' := by
  have HW := Hid.mk' (rwrong_any 8 h)
  have H0 := Hid.mk' h
  have HF := Hid.mk' hf
  have HR : Hid (RowIn w p.fa 3 (List.map Fu.cells p.funcs)) := hin.2.2.2.2.2.2.2.2.1.below hB
  have c2 := h.cell (j := 2) rfl
  have c1 := h.cell (j := 1) rfl
  have c7 := h.cell (j := 7) rfl
  have HCL := Hid.mk' (And.intro hcl hn)
  clear h hf hB hin
  go_enter Tryz.func103, Tryz.ntmps103
  go_wp2_with fail
  go_loopw [4] (fun t4 wr => ∃ (j : Nat), j ≤ k ∧ t4 = .int .i64 j ∧ (∀ i, i < j → ∀ f, p.funcs[i]? = some f → f.name.data.toList ≠ s.data.toList) ∧ wr = w) (fun t4 _ => k - (intOf t4).toNat)
  case atStart => exact ⟨0, Nat.zero_le _, rfl, fun i hi => by omega, rfl⟩
  case round =>
    obtain ⟨j, hj, rfl, h1, rfl⟩ := hrel
    have HX := Hid.mk' h1
    have hn := HCL.out.2
    clear h1
    by_cases hlt : j < k
    · have hli : (j : Int) < (k : Int) := by omega
      have hjn : j < p.funcs.length := by omega
      have hjl : (j : Int) < (p.funcs.length : Int) := by omega
      obtain ⟨g, o, hfa, d0, _, _⟩ := rowF_at HR.out hjn
      rw [hfa] at c1
      have HG : Hid (p.funcs[j]? = some p.funcs[j]) := List.getElem?_eq_getElem hjn
      generalize p.funcs[j] = f at *
      cases hs : (f.name.toList == s.toList)
      · have HV : Hid (∀ i, i < j + 1 → ∀ f, p.funcs[i]? = some f → f.name.data.toList ≠ s.data.toList) := fun i hi f' hf' => by
          by_cases e : i = j
          · subst e
            rw [HG.out] at hf'
            cases hf'
            rw [← ba_list, ← ba_list]; simpa using hs
          · exact HX.out i (by omega) f' hf'
        go_wp2_with fail
        go_roundw
        case rel => exact ⟨j + 1, by omega, by go_num, HV.out, by first | rfl | trivial⟩
        case measure => simp [intOf]; omega
      · have he : f.name.data.toList = s.data.toList := by rw [← ba_list, ← ba_list]; simpa using hs
        obtain ⟨ha, hb⟩ := HF.out.2 j f hlt HG.out
        rw [he] at ha hb
        have hz : clZ ft s.data.toList = 0 := by unfold clZ; rw [ha]; rfl
        have hjc : j < cl.length := by rw [HCL.out.1]; exact hjn
        obtain ⟨gc, cap, hcv, hcap, e1, e2⟩ := gown_cell (j := j) H0.out.2.2.1 (List.getElem?_eq_getElem (by simpa using hjc))
        have HP := Hid.mk' (H0.out.call hjc hcv)
        have hjc' : (j : Int) < (cl.length : Int) := by omega
        rw [hcv] at c7
        have HZ := Hid.mk' (And.intro hz hb)
        clear he ha hb hz
        go_wp2_with fail
        exact bodyPost_ret (v := .tuple #[]) (by simp [results, Tryz.results103, go_sem]) rfl ⟨rfl, cl.set j true, by rw [HZ.out.1]; exact HP.out.1, fun _ => by rw [HZ.out.2]; rfl, by simp, HP.out.2.mono fun _ h => List.mem_cons_of_mem _ h⟩
    · have hli : ¬ (j : Int) < (k : Int) := by omega
      have hz : clZ ft s.data.toList = 8 := by
        unfold clZ
        rw [if_neg]
        intro ht
        obtain ⟨i, f, hi, hf, hs⟩ := HF.out.1 _ ht
        exact HX.out i (by omega) f hf hs
      have HZ := Hid.mk' hz
      clear hz
      go_wp2_with fail
      refine HW.out.mono ?_
      rintro r w2 ⟨rfl, h2, hf2⟩
      go_wp2_with fail
      go_end0
      exact ⟨rfl, cl, by rw [HZ.out]; exact h2, fun h => absurd (HZ.out.symm.trans h) (by decide), rfl, hf2.mono (by simp)⟩
end Go.Proofs.YtkkcgkpbbngloaaGreatDoor

/- The document's own look at names: an expression. -/
namespace Go.Proofs.YtkkcgkpbbngloaaGreatDoor
open Go.RowKit Go.Sort

/-- A kind as the program has it. -/
def cod (k : Int) : Int := if k = 97 then 2 else if k = 108 then 3 else if k = 0 then 0 else 1
/-- The same variables are known. -/
def RelK (env : Env) (K : Kn) : Prop := (∀ s : ByteArray, cod (kdZ K s) = envAt env s.data.toList) ∧ ∀ x ∈ K, x.2 = 112 ∨ x.2 = 118 ∨ x.2 = 97 ∨ x.2 = 108
theorem us_rd (k : Int) : usZ k false = rdZ (cod k) := by
  by_cases h : k = 97
  · subst h; rfl
  by_cases h2 : k = 0
  · subst h2; rfl
  by_cases h3 : k = 108
  · subst h3; rfl
  have hb : (k == 97) = false := by simpa using h
  unfold usZ rdZ cod
  rw [hb, if_neg h2, if_neg h, if_neg h3, if_neg h2]; rfl
theorem us_ix (k : Int) : usZ k true = ixZ (cod k) := by
  by_cases h : k = 97
  · subst h; rfl
  by_cases h2 : k = 0
  · subst h2; rfl
  by_cases h3 : k = 108
  · subst h3; rfl
  have hb : (k == 97) = false := by simpa using h
  unfold usZ ixZ cod
  rw [hb, if_neg h2, if_neg h, if_neg h3, if_neg h2]; rfl
/-- What a look at an expression leaves. -/
def EP (N b : Nat) (p : Pr) (k : Nat) (n lp : Int) (kv : Value) (K : Kn) (cv : Value) (cl : List Bool) (r : Int) (c : List Int) (w w' : World) : Prop :=
  ∃ cl', RS N w' b p k n lp kv K r cv cl' ∧ (r = 0 → cl' = mark cl c) ∧ cl'.length = cl.length ∧ Fr (b :: ob cv) w w'
theorem exLC_drop {ft : List (List UInt8 × Int)} {l : List Ex} {j : Nat} (h : j < l.length) : exLC ft (l.drop j) = exC ft l[j] ++ exLC ft (l.drop (j + 1)) := by
  rw [List.drop_eq_getElem_cons h, exLC]
abbrev ExK (w0 : World) (b : Nat) (p : Pr) (k : Nat) (ft : List (List UInt8 × Int)) (q : Nat) : Prop := ∀ (x : Ex) (env : Env) (n lp : Int) (kv : Value) (K : Kn) (cv : Value) (cl : List Bool) (w : World), x.sz ≤ q → x.In w0 → Below w0.heap.size w0 w → RS w0.heap.size w b p k n lp kv K 0 cv cl → RelK env K → K.length ≤ 1000000 → cl.length = p.funcs.length →
  Calls Tryz.prog 88 #[.pointer (some ⟨b, 0, none⟩), x.val] w fun r w' => r = .returned (.tuple #[]) ∧ EP w0.heap.size b p k n lp kv K cv cl (exZ env ft x) (exC ft x) w w'
set_option maxRecDepth 100000 in
set_option maxHeartbeats 4000000 in
theorem rex_step (w0 : World) (b : Nat) (p : Pr) (k : Nat) (ft : List (List UInt8 × Int)) (q : Nat) (hp : p.In w0) (hkp : k ≤ p.funcs.length) (hf : RelF ft p.funcs k) (hn : p.funcs.length ≤ 1000) (ih : ExK w0 b p k ft q) : ExK w0 b p k ft (q + 1) := by
  intro x env n lp kv K cv cl w hk hin hB h hr hK hcl
  obtain ⟨_, _, _, hl, hc, _, hrow, hsub⟩ := Ex.in_iff.1 hin
  have IH := Hid.mk' ih
  have HS : Hid (∀ (y : Ex), y ∈ x.args → Ex.In w0 y) := hsub
  have HR : Hid (RowIn w0 x.a 4 (List.map Ex.cells x.args)) := hrow
  have HSZ : Hid (szL x.args ≤ q) := by have := x.sz_args; show _ ≤ _; omega
  have hb1 := (Below.refl _ w).alloc (Nat.le_refl _) (.cells #[.int .i64 x.kind, .int .i64 x.n, .string x.name, .slice x.a x.args.length x.cap] 41)
  have h1 := h.stay hb1
  have HBW : Hid (Below w0.heap.size w0 w) := hB
  have HB1 := Hid.mk' hb1
  have hbB : w.heap.size ∉ b :: ob cv := fun hx => by
    rcases List.mem_cons.1 hx with e | hx
    · have := h.lt; omega
    · have := (gown_lt h.2.2.1 _ hx).2; omega
  have HXC : Hid (∀ W', Fr (b :: ob cv) (w.alloc (.cells #[.int .i64 x.kind, .int .i64 x.n, .string x.name, .slice x.a x.args.length x.cap] 41)) W' → W'.cell? ⟨w.heap.size, 0, none⟩ = some (.int .i64 x.kind) ∧ W'.cell? ⟨w.heap.size, 2, none⟩ = some (.string x.name) ∧ W'.cell? ⟨w.heap.size, 3, none⟩ = some (.slice x.a x.args.length x.cap)) := fun W' hf => by
    refine ⟨?_, ?_, ?_⟩ <;> rw [hf.cell (by simp) hbB, World.cell?_alloc_at _ _ _ _ rfl] <;> rfl
  have HFIN : Hid (∀ W', Fr (b :: ob cv) (w.alloc (.cells #[.int .i64 x.kind, .int .i64 x.n, .string x.name, .slice x.a x.args.length x.cap] 41)) W' → Fr (b :: ob cv) w W' ∧ Below w0.heap.size w0 W') := fun W' hf => by
    have h1 : Fr (b :: ob cv) w W' := (Fr.of_below hb1).trans hf
    exact ⟨h1, hB.trans (h1.below (fun g hg => by
      rcases List.mem_cons.1 hg with rfl | hg
      · exact h.2.2.2.1
      · exact (gown_lt h.2.2.1 g hg).1) hB.size)⟩
  have HREL := Hid.mk' hr
  have HKL := Hid.mk' (And.intro hK (And.intro hcl hn))
  have H1 := Hid.mk' h1
  have HU0 := Hid.mk' (ruses_any x.name false h1 hK)
  have HU1 := Hid.mk' (ruses_any x.name true h1 hK)
  have HCA := Hid.mk' (rcalled_any x.name w0 k ft h1 hp (hB.trans (hb1.mono hB.size)) hkp hcl hf hn)
  have HZ : Hid (exZ env ft x = if nmZ env ft x.kind x.name.data.toList ≠ 0 then nmZ env ft x.kind x.name.data.toList else exLZ env ft x.args) := exZ_eq env ft x
  have HC : Hid (exC ft x = nmC ft x.kind x.name.data.toList ++ exLC ft x.args) := exC_eq ft x
  have HFR := Hid.mk' (Fr.refl (b :: ob cv) (w.alloc (.cells #[.int .i64 x.kind, .int .i64 x.n, .string x.name, .slice x.a x.args.length x.cap] 41)))
  clear h h1 hb1 hr hf hrow hsub ih hin hK hcl hn hB hp hk
  unfold Ex.val
  go_enter Tryz.func88, Tryz.ntmps88
  go_upto_region 1 with fail
  generalize w.alloc (.cells #[.int .i64 x.kind, .int .i64 x.n, .string x.name, .slice x.a x.args.length x.cap] 41) = W1 at *
  obtain ⟨x0, x2, _⟩ := HXC.out _ HFR.out
  generalize w.heap.size = B at *
  go_upto_block 0 with fail
  go_cut [] from 7 to 24 (fun wx => EP w0.heap.size b p k n lp kv K cv cl (nmZ env ft x.kind x.name.data.toList) (nmC ft x.kind x.name.data.toList) W1 wx)
  case first =>
    by_cases k2 : x.kind = 2
    · have HN : Hid (usZ (kdZ K x.name) false = nmZ env ft x.kind x.name.data.toList ∧ nmC ft x.kind x.name.data.toList = []) := ⟨by rw [us_rd, HREL.out.1]; unfold nmZ; rw [if_pos k2], by unfold nmC; rw [if_neg (by omega)]⟩
      have b2 : (x.kind == 2) = true := by simpa using k2
      clear k2
      go_wp2_with fail
      refine HU0.out.mono ?_
      rintro r w2 ⟨rfl, h2, hf2⟩
      rw [HN.out.1] at h2
      go_wp2_with fail
      go_meet
      case rel => exact ⟨cl, h2, fun _ => by rw [HN.out.2]; rfl, rfl, hf2.mono (by simp)⟩
    · by_cases k3 : x.kind = 3
      · have HN : Hid (usZ (kdZ K x.name) true = nmZ env ft x.kind x.name.data.toList ∧ nmC ft x.kind x.name.data.toList = []) := ⟨by rw [us_ix, HREL.out.1]; unfold nmZ; rw [if_neg k2, if_pos k3], by unfold nmC; rw [if_neg (by omega)]⟩
        have b2 : (x.kind == 2) = false := by simpa using k2
        have b3 : (x.kind == 3) = true := by simpa using k3
        clear k2 k3
        go_wp2_with fail
        refine HU1.out.mono ?_
        rintro r w2 ⟨rfl, h2, hf2⟩
        rw [HN.out.1] at h2
        go_wp2_with fail
        go_meet
        case rel => exact ⟨cl, h2, fun _ => by rw [HN.out.2]; rfl, rfl, hf2.mono (by simp)⟩
      · by_cases k4 : x.kind = 4
        · have HN : Hid (clZ ft x.name.data.toList = nmZ env ft x.kind x.name.data.toList ∧ nmC ft x.kind x.name.data.toList = [tabAt ft x.name.data.toList]) := ⟨by unfold nmZ; rw [if_neg k2, if_neg k3, if_pos k4], by unfold nmC; rw [if_pos k4]⟩
          have b2 : (x.kind == 2) = false := by simpa using k2
          have b3 : (x.kind == 3) = false := by simpa using k3
          have b4 : (x.kind == 4) = true := by simpa using k4
          clear k2 k3 k4
          go_wp2_with fail
          refine HCA.out.mono ?_
          rintro r w2 ⟨rfl, cl', h2, h3, h4, h5⟩
          rw [HN.out.1] at h2 h3
          go_wp2_with fail
          go_meet
          case rel => exact ⟨cl', h2, fun e => by rw [HN.out.2]; exact h3 e, h4, h5⟩
        · have HN : Hid (nmZ env ft x.kind x.name.data.toList = 0 ∧ nmC ft x.kind x.name.data.toList = []) := ⟨by unfold nmZ; rw [if_neg k2, if_neg k3, if_neg k4], by unfold nmC; rw [if_neg k4]⟩
          have b2 : (x.kind == 2) = false := by simpa using k2
          have b3 : (x.kind == 3) = false := by simpa using k3
          have b4 : (x.kind == 4) = false := by simpa using k4
          clear k2 k3 k4
          go_wp2_with fail
          go_meet
          case rel => exact ⟨cl, by rw [HN.out.1]; exact H1.out, fun _ => by rw [HN.out.2]; rfl, rfl, HFR.out⟩
  case rest =>
    obtain ⟨cl1, hr1, hr2, hr3, hr4⟩ := hcut
    have HQ : Hid ((if nmZ env ft x.kind x.name.data.toList ≠ 0 then nmZ env ft x.kind x.name.data.toList else exLZ env ft (x.args.drop 0)) = exZ env ft x) := by show _ = _; rw [List.drop_zero, HZ.out]
    have HM : Hid (nmZ env ft x.kind x.name.data.toList = 0 → mark cl1 (exLC ft (x.args.drop 0)) = mark cl (exC ft x)) := fun e => by rw [List.drop_zero, HC.out, mark_append, hr2 e]
    have HS1 := Hid.mk' (And.intro hr1 (And.intro hr3 hr4))
    generalize nmZ env ft x.kind x.name.data.toList = e1 at *
    generalize nmC ft x.kind x.name.data.toList = c1 at *
    obtain ⟨RES, HRES⟩ : ∃ R, Hid (exZ env ft x = R) := ⟨_, rfl⟩
    obtain ⟨CL, HCL⟩ : ∃ R, Hid (mark cl (exC ft x) = R) := ⟨_, rfl⟩
    rw [HRES.out] at HQ
    rw [HCL.out] at HM
    have HEP : Hid (∀ cl' w', RS w0.heap.size w' b p k n lp kv K RES cv cl' → (RES = 0 → cl' = CL) → cl'.length = cl.length → Fr (b :: ob cv) W1 w' → EP w0.heap.size b p k n lp kv K cv cl (exZ env ft x) (exC ft x) w w') := fun cl' w' a1 a2 a3 a4 => ⟨cl', by rw [HRES.out]; exact a1, fun e => by rw [HCL.out]; exact a2 (HRES.out.symm.trans e), a3, (HFIN.out _ a4).1⟩
    clear hr1 hr2 hr3 hr4 x0 x2 HU0 HU1 HCA HZ HC H1 HFR
    go_wp2_with fail
    go_loopw [4] (fun t4 wr => ∃ (j : Nat) (ej : Int) (clj : List Bool), j ≤ x.args.length ∧ t4 = .int .i64 j ∧ RS w0.heap.size wr b p k n lp kv K ej cv clj ∧ clj.length = cl.length ∧ Fr (b :: ob cv) W1 wr ∧ (if ej ≠ 0 then ej else exLZ env ft (x.args.drop j)) = RES ∧ (ej = 0 → RES = 0 → mark clj (exLC ft (x.args.drop j)) = CL)) (fun t4 _ => x.args.length - (intOf t4).toNat)
    case atStart => exact ⟨0, e1, cl1, Nat.zero_le _, rfl, HS1.out.1, HS1.out.2.1, HS1.out.2.2, HQ.out, fun e _ => HM.out e⟩
    case round =>
      obtain ⟨j, ej, clj, hj, rfl, g1, g2, g3, g4, g5⟩ := hrel
      have HG := Hid.mk' (And.intro g1 (And.intro g2 (And.intro g3 (And.intro g4 g5))))
      obtain ⟨_, _, x3⟩ := HXC.out _ g3
      have c6 := g1.cell (j := 6) rfl
      have hBr := (HFIN.out _ g3).2
      have HBR := Hid.mk' hBr
      clear g1 g2 g3 g4 g5 hBr
      by_cases hlt : j < x.args.length
      · have hli : (j : Int) < (x.args.length : Int) := by omega
        by_cases hej : ej = 0
        · subst hej
          obtain ⟨g, o, hxa, d0, d1, d2, d3⟩ := row_at (HR.out.below HBR.out) hlt
          rw [hxa] at x3
          clear hxa
          have hsy := szL_mem (List.getElem_mem hlt)
          have HY : Hid (Ex.In w0 x.args[j]) := HS.out x.args[j] (List.getElem_mem hlt)
          have HYZ : Hid (x.args[j].sz ≤ q) := Nat.le_trans hsy HSZ.out
          have HD : Hid (exLZ env ft (x.args.drop j) = if exZ env ft x.args[j] ≠ 0 then exZ env ft x.args[j] else exLZ env ft (x.args.drop (j + 1))) := exLZ_drop hlt
          have HDC : Hid (exLC ft (x.args.drop j) = exC ft x.args[j] ++ exLC ft (x.args.drop (j + 1))) := exLC_drop hlt
          clear hsy
          generalize x.args[j] = y at *
          have HCY := Hid.mk' (IH.out y env n lp kv K cv clj wr HYZ.out HY.out HBR.out HG.out.1 HREL.out HKL.out.1 (HG.out.2.1.trans HKL.out.2.1))
          unfold Ex.val at HCY
          go_wp2_with fail
          refine HCY.out.mono ?_
          rintro r w3 ⟨rfl, cl3, m1, m2, m3, m4⟩
          have HM3 := Hid.mk' (And.intro m1 (And.intro m2 (And.intro m3 m4)))
          clear m1 m2 m3 m4 HCY x3 c6 d0 d1 d2 d3
          go_wp2_with fail
          go_roundw
          case rel =>
            refine ⟨j + 1, exZ env ft y, cl3, by omega, by go_num, HM3.out.1, HM3.out.2.2.1.trans HG.out.2.1, HG.out.2.2.1.trans HM3.out.2.2.2, ?_, fun e hR => ?_⟩
            · have hq := HG.out.2.2.2.1
              rw [if_neg (by simp), HD.out] at hq
              exact hq
            · have hq := HG.out.2.2.2.2 (by first | rfl | trivial) hR
              rw [HDC.out, mark_append, ← HM3.out.2.1 e] at hq
              exact hq
          case measure => simp [intOf]; omega
        · have hb0 : (ej == 0) = false := by simpa using hej
          have HF : Hid (ej = RES) := by have hq := HG.out.2.2.2.1; rw [if_pos hej] at hq; exact hq
          clear hej
          go_wp2_with fail
          go_end0
          exact ⟨rfl, HEP.out clj _ (by rw [← HF.out]; exact HG.out.1) (fun e => by rw [HF.out.trans e] at hb0; simp at hb0) HG.out.2.1 HG.out.2.2.1⟩
      · have hli : ¬ (j : Int) < (x.args.length : Int) := by omega
        have HF : Hid (ej = RES) := by
          have hq := HG.out.2.2.2.1
          rw [List.drop_eq_nil_of_le (by omega), exLZ] at hq
          split at hq
          · exact hq
          · rename_i h0; show ej = RES; rw [← hq]; simpa using h0
        have HF2 : Hid (RES = 0 → clj = CL) := fun e => by
          have hq := HG.out.2.2.2.2 (HF.out.trans e) e
          rw [List.drop_eq_nil_of_le (by omega), exLC] at hq
          exact hq
        go_wp2_with fail
        go_end0
        exact ⟨rfl, HEP.out clj _ (by rw [← HF.out]; exact HG.out.1) HF2.out HG.out.2.1 HG.out.2.2.1⟩
theorem rex_all (w0 : World) (b : Nat) (p : Pr) (k : Nat) (ft : List (List UInt8 × Int)) (hp : p.In w0) (hkp : k ≤ p.funcs.length) (hf : RelF ft p.funcs k) (hn : p.funcs.length ≤ 1000) : ∀ q, ExK w0 b p k ft q
  | 0 => fun x _ _ _ _ _ _ _ _ hk => by have := x.sz_args; omega
  | q + 1 => rex_step w0 b p k ft q hp hkp hf hn (rex_all w0 b p k ft hp hkp hf hn q)
end Go.Proofs.YtkkcgkpbbngloaaGreatDoor

/- The document's own look at names: what a statement has itself. -/
namespace Go.Proofs.YtkkcgkpbbngloaaGreatDoor
open Go.RowKit Go.Sort

/-- What is wrong with a statement's own name, or with its place. -/
def h1Z (env : Env) (s : St) : Int := if s.kind = 3 then wrZ (envAt env s.name.data.toList) else if s.kind = 4 then ixZ (envAt env s.name.data.toList) else if s.kind = 8 then lvZ env else 0
/-- What is wrong with what a statement has itself. -/
def hdZ (env : Env) (ft : List (List UInt8 × Int)) (s : St) : Int :=
  if h1Z env s ≠ 0 then h1Z env s else if s.kind = 8 ∨ s.kind = 2 then 0 else if exZ env ft s.a ≠ 0 then exZ env ft s.a else if s.kind = 4 ∨ s.kind = 7 then exZ env ft s.b else 0
def hdC (ft : List (List UInt8 × Int)) (s : St) : List Int := if s.kind = 8 ∨ s.kind = 2 then [] else exC ft s.a ++ (if s.kind = 4 ∨ s.kind = 7 then exC ft s.b else [])
theorem wr_us (k : Int) : wrZ (cod k) = if usZ k false ≠ 0 then usZ k false else if k = 108 then 31 else 0 := by
  by_cases h : k = 97
  · subst h; rfl
  by_cases h2 : k = 0
  · subst h2; rfl
  by_cases h3 : k = 108
  · subst h3; rfl
  have hb : (k == 97) = false := by simpa using h
  unfold wrZ usZ rdZ cod
  rw [hb, if_neg h2, if_neg h, if_neg h3, if_neg h2, if_neg h3]; rfl
theorem EP.of {N b : Nat} {p : Pr} {k : Nat} {n lp : Int} {kv : Value} {K : Kn} {cv : Value} {cl : List Bool} {r : Int} {w W1 w' : World} (h : RS N w' b p k n lp kv K r cv cl) (c : List Int) (hc : r = 0 → c = []) (h1 : Fr (b :: ob cv) w W1) (h2 : Fr (b :: ob cv) W1 w') : EP N b p k n lp kv K cv cl r c w w' :=
  ⟨cl, h, fun e => by rw [hc e]; rfl, rfl, h1.trans h2⟩
set_option maxRecDepth 100000 in
set_option maxHeartbeats 4000000 in
theorem rhead_any (w0 : World) (b : Nat) (p : Pr) (k : Nat) (ft : List (List UInt8 × Int)) (hp : p.In w0) (hkp : k ≤ p.funcs.length) (hf : RelF ft p.funcs k) (hn : p.funcs.length ≤ 1000)
    (s : St) (env : Env) (n lp : Int) (kv : Value) (K : Kn) (cv : Value) (cl : List Bool) (w : World) (hin : s.In w0) (hB : Below w0.heap.size w0 w) (h : RS w0.heap.size w b p k n lp kv K 0 cv cl) (hr : RelK env K) (hlv : lvZ env = if lp = 0 then 32 else 0) (hK : K.length ≤ 1000000) (hcl : cl.length = p.funcs.length) :
    Calls Tryz.prog 60 #[.pointer (some ⟨b, 0, none⟩), s.val] w fun r w' => r = .returned (.tuple #[]) ∧ EP w0.heap.size b p k n lp kv K cv cl (hdZ env ft s) (hdC ft s) w w' := by
  obtain ⟨_, _, _, hia, hib, _, _, _, _⟩ := St.in_iff.1 hin
  have hb1 := (Below.refl _ w).alloc (Nat.le_refl _) (.cells s.cells.toArray 44)
  have h1 := h.stay hb1
  have hbB : w.heap.size ∉ b :: ob cv := fun hx => by
    rcases List.mem_cons.1 hx with e | hx
    · have := h.lt; omega
    · have := (gown_lt h.2.2.1 _ hx).2; omega
  have HXC : Hid (∀ W', Fr (b :: ob cv) (w.alloc (.cells s.cells.toArray 44)) W' → ∀ j u, s.cells[j]? = some u → W'.cell? ⟨w.heap.size, j, none⟩ = some u) := fun W' hf j u hu => by
    rw [hf.cell (by simp) hbB, World.cell?_alloc_at _ _ _ _ rfl]; simpa using hu
  have HFIN : Hid (∀ W', Fr (b :: ob cv) (w.alloc (.cells s.cells.toArray 44)) W' → Fr (b :: ob cv) w W' ∧ Below w0.heap.size w0 W') := fun W' hf => by
    have h1 : Fr (b :: ob cv) w W' := (Fr.of_below hb1).trans hf
    exact ⟨h1, hB.trans (h1.below (fun g hg => by
      rcases List.mem_cons.1 hg with rfl | hg
      · exact h.2.2.2.1
      · exact (gown_lt h.2.2.1 g hg).1) hB.size)⟩
  have HEX : Hid (∀ (x : Ex) cl w', x.In w0 → Below w0.heap.size w0 w' → RS w0.heap.size w' b p k n lp kv K 0 cv cl → cl.length = p.funcs.length → Calls Tryz.prog 88 #[.pointer (some ⟨b, 0, none⟩), x.val] w' fun r w'' => r = .returned (.tuple #[]) ∧ EP w0.heap.size b p k n lp kv K cv cl (exZ env ft x) (exC ft x) w' w'') := fun x cl w' hx hB' h' hc' => rex_all w0 b p k ft hp hkp hf hn x.sz x env n lp kv K cv cl w' (Nat.le_refl _) hx hB' h' hr hK hc'
  have HREL := Hid.mk' hr
  have HIN := Hid.mk' (And.intro hia (And.intro hib hcl))
  have H1 := Hid.mk' h1
  have HU0 := Hid.mk' (ruses_any s.name false h1 hK)
  have HU1 := Hid.mk' (ruses_any s.name true h1 hK)
  have HKD : Hid (∀ w' e, RS w0.heap.size w' b p k n lp kv K e cv cl → Calls Tryz.prog 32 #[.pointer (some ⟨b, 0, none⟩), .string s.name] w' fun r w'' => r = .returned (.int .u8 (kdZ K s.name)) ∧ w'' = w') := fun w' e h' => rkind_any s.name h' hK
  have HLV := Hid.mk' hlv
  have HFR := Hid.mk' (Fr.refl (b :: ob cv) (w.alloc (.cells s.cells.toArray 44)))
  have HE1 : Hid (h1Z env s = if s.kind = 3 then wrZ (envAt env s.name.data.toList) else if s.kind = 4 then ixZ (envAt env s.name.data.toList) else if s.kind = 8 then lvZ env else 0) := (rfl : h1Z env s = _)
  have HHD : Hid (hdZ env ft s = if h1Z env s ≠ 0 then h1Z env s else if s.kind = 8 ∨ s.kind = 2 then 0 else if exZ env ft s.a ≠ 0 then exZ env ft s.a else if s.kind = 4 ∨ s.kind = 7 then exZ env ft s.b else 0) := (rfl : hdZ env ft s = _)
  have HHC : Hid (hdC ft s = if s.kind = 8 ∨ s.kind = 2 then [] else exC ft s.a ++ (if s.kind = 4 ∨ s.kind = 7 then exC ft s.b else [])) := (rfl : hdC ft s = _)
  clear h h1 hb1 hr hf hin hK hcl hn hB hp hlv hia hib
  unfold St.cells at HXC HFIN H1 HU0 HU1 HFR
  unfold St.val
  go_enter Tryz.func60, Tryz.ntmps60
  go_upto_region 1 with fail
  generalize w.alloc (.cells #[.int .i64 s.kind, .string s.name, .int .i64 s.n, .int .i64 s.a.kind, .int .i64 s.a.n, .string s.a.name, .slice s.a.a s.a.args.length s.a.cap, .int .i64 s.b.kind, .int .i64 s.b.n, .string s.b.name, .slice s.b.a s.b.args.length s.b.cap, .slice s.ba s.body.length s.bc, .slice s.ea s.els.length s.ec, .slice s.ca s.cases.length s.cc] 44) = W1 at *
  have x0 := HXC.out _ HFR.out 0 _ rfl
  have x1 := HXC.out _ HFR.out 1 _ rfl
  have c4 := H1.out.cell (j := 4) rfl
  generalize w.heap.size = B at *
  go_upto_block 0 with fail
  go_cut [] from 6 to 33 (fun wx => RS w0.heap.size wx b p k n lp kv K (h1Z env s) cv cl ∧ Fr (b :: ob cv) W1 wx)
  case first =>
    by_cases k3 : s.kind = 3
    · have HN : Hid (h1Z env s = if usZ (kdZ K s.name) false ≠ 0 then usZ (kdZ K s.name) false else if kdZ K s.name = 108 then 31 else 0) := by show _ = _; rw [HE1.out, if_pos k3, ← HREL.out.1, wr_us]
      have b3 : (s.kind == 3) = true := by simpa using k3
      have HUL : Hid (kdZ K s.name = 108 → usZ (kdZ K s.name) false = 0) := fun e => by rw [e]; rfl
      clear k3 HE1
      generalize usZ (kdZ K s.name) false = us at *
      generalize kdZ K s.name = kd at *
      go_wp2_with fail
      refine HU0.out.mono ?_
      rintro r w2 ⟨rfl, h2, hf2⟩
      have hf2' : Fr (b :: ob cv) W1 w2 := hf2.mono (by simp)
      have H2 := Hid.mk' h2
      have HF2 := Hid.mk' hf2'
      clear x0 x1
      have x0 := HXC.out _ HF2.out 0 _ rfl
      have x1 := HXC.out _ HF2.out 1 _ rfl
      clear h2 hf2 hf2'
      go_wp2_with fail
      refine (HKD.out _ _ H2.out).mono ?_
      rintro r w3 ⟨rfl, hw3⟩
      obtain rfl := hw3.symm
      cases hl : (kd == 108)
      · have HV : Hid (h1Z env s = us) := by
          show _ = _
          rw [HN.out, if_neg (show ¬ kd = 108 by simpa using hl)]
          split
          · rfl
          · rename_i h0; exact (by simpa using h0 : us = 0).symm
        go_wp2_with fail
        go_meet
        case rel => exact ⟨by rw [HV.out]; exact H2.out, HF2.out⟩
      · have hl' : kd = 108 := by simpa using hl
        have hu := HUL.out hl'
        have HV : Hid (h1Z env s = 31) := by show _ = _; rw [HN.out, hu, if_neg (by simp), if_pos hl']
        have h3 := H2.out
        rw [hu] at h3
        have HW := Hid.mk' (rwrong_any 31 h3)
        clear hl' hu h3
        go_wp2_with fail
        refine HW.out.mono ?_
        rintro r w4 ⟨rfl, h4, hf4⟩
        go_wp2_with fail
        go_meet
        case rel => exact ⟨by rw [HV.out]; exact h4, HF2.out.trans (hf4.mono (by simp))⟩
    · by_cases k4 : s.kind = 4
      · have HN : Hid (h1Z env s = usZ (kdZ K s.name) true) := by show _ = _; rw [HE1.out, if_neg k3, if_pos k4, ← HREL.out.1, us_ix]
        have b3 : (s.kind == 3) = false := by simpa using k3
        have b4 : (s.kind == 4) = true := by simpa using k4
        clear k3 k4 HE1
        go_wp2_with fail
        refine HU1.out.mono ?_
        rintro r w2 ⟨rfl, h2, hf2⟩
        go_wp2_with fail
        go_meet
        case rel => exact ⟨by rw [HN.out]; exact h2, hf2.mono (by simp)⟩
      · have b3 : (s.kind == 3) = false := by simpa using k3
        have b4 : (s.kind == 4) = false := by simpa using k4
        by_cases k8 : s.kind = 8
        · have b8 : (s.kind == 8) = true := by simpa using k8
          by_cases hlp : lp = 0
          · have HN : Hid (h1Z env s = 32) := by show _ = _; rw [HE1.out, if_neg k3, if_neg k4, if_pos k8, HLV.out, if_pos hlp]
            have hlb : (lp == 0) = true := by simpa using hlp
            have HW := Hid.mk' (rwrong_any 32 H1.out)
            clear k3 k4 k8 HE1 hlp
            go_wp2_with fail
            refine HW.out.mono ?_
            rintro r w2 ⟨rfl, h2, hf2⟩
            go_wp2_with fail
            go_meet
            case rel => exact ⟨by rw [HN.out]; exact h2, hf2.mono (by simp)⟩
          · have HN : Hid (h1Z env s = 0) := by show _ = _; rw [HE1.out, if_neg k3, if_neg k4, if_pos k8, HLV.out, if_neg hlp]
            have hlb : (lp == 0) = false := by simpa using hlp
            clear k3 k4 k8 HE1 hlp
            go_wp2_with fail
            go_meet
            case rel => exact ⟨by rw [HN.out]; exact H1.out, HFR.out⟩
        · have HN : Hid (h1Z env s = 0) := by show _ = _; rw [HE1.out, if_neg k3, if_neg k4, if_neg k8]
          have b8 : (s.kind == 8) = false := by simpa using k8
          clear k3 k4 k8 HE1
          go_wp2_with fail
          go_meet
          case rel => exact ⟨by rw [HN.out]; exact H1.out, HFR.out⟩
  case rest =>
    obtain ⟨hr1, hr2⟩ := hcut
    have HS1 := Hid.mk' (And.intro hr1 hr2)
    have HO : Hid (s.kind = 2 → h1Z env s = 0) := fun e => by rw [HE1.out, if_neg (by omega), if_neg (by omega), if_neg (by omega)]
    clear x0 x1 c4 HU0 HU1 HKD H1 HFR HE1
    generalize h1Z env s = e1 at *
    have x0 := HXC.out _ hr2 0 _ rfl
    have x1 := HXC.out _ hr2 1 _ rfl
    have x3 := HXC.out _ hr2 3 _ rfl
    have x4 := HXC.out _ hr2 4 _ rfl
    have x5 := HXC.out _ hr2 5 _ rfl
    have x6 := HXC.out _ hr2 6 _ rfl
    have x7 := HXC.out _ hr2 7 _ rfl
    have x8 := HXC.out _ hr2 8 _ rfl
    have x9 := HXC.out _ hr2 9 _ rfl
    have x10 := HXC.out _ hr2 10 _ rfl
    have c6 := hr1.cell (j := 6) rfl
    clear hr1 hr2
    by_cases k8 : s.kind = 8
    · have HV : Hid (hdZ env ft s = e1 ∧ hdC ft s = []) := ⟨by
        rw [HHD.out, if_pos (Or.inl k8)]
        split
        · rfl
        · rename_i h0; exact (by simpa using h0 : e1 = 0).symm, by rw [HHC.out, if_pos (Or.inl k8)]⟩
      have b1 : (s.kind != 8) = false := by simpa using k8
      have b2 : (s.kind == 4) = false := by rw [beq_eq_false_iff_ne]; omega
      have b3 : (s.kind == 7) = false := by rw [beq_eq_false_iff_ne]; omega
      clear k8 HHD HHC
      go_wp2_with fail
      go_end0
      exact ⟨rfl, by rw [HV.out.1, HV.out.2]; exact EP.of HS1.out.1 [] (fun _ => rfl) (HFIN.out _ HS1.out.2).1 (Fr.refl _ _)⟩
    · have b1 : (s.kind != 8) = true := by simpa using k8
      by_cases k2 : s.kind = 2
      · have h10 := HO.out k2
        subst h10
        have HV : Hid (hdZ env ft s = 0 ∧ hdC ft s = []) := ⟨by rw [HHD.out, if_neg (by simp), if_pos (Or.inr k2)], by rw [HHC.out, if_pos (Or.inr k2)]⟩
        have b2 : (s.kind != 2) = false := by simpa using k2
        have b3 : (s.kind == 4) = false := by rw [beq_eq_false_iff_ne]; omega
        have b4 : (s.kind == 7) = false := by rw [beq_eq_false_iff_ne]; omega
        clear k8 k2 HHD HHC
        go_wp2_with fail
        go_end0
        exact ⟨rfl, by rw [HV.out.1, HV.out.2]; exact EP.of HS1.out.1 [] (fun _ => rfl) (HFIN.out _ HS1.out.2).1 (Fr.refl _ _)⟩
      · have b2 : (s.kind != 2) = true := by simpa using k2
        by_cases he : e1 = 0
        · subst he
          have HCA := Hid.mk' (HEX.out s.a cl wc HIN.out.1 (HFIN.out _ HS1.out.2).2 HS1.out.1 HIN.out.2.2)
          unfold Ex.val at HCA
          by_cases k47 : s.kind = 4 ∨ s.kind = 7
          · have HHD2 : Hid (hdZ env ft s = if exZ env ft s.a ≠ 0 then exZ env ft s.a else exZ env ft s.b) := by show _ = _; rw [HHD.out, if_neg (by simp), if_neg (by omega), if_pos k47]
            have HHC2 : Hid (hdC ft s = exC ft s.a ++ exC ft s.b) := by show _ = _; rw [HHC.out, if_neg (by omega), if_pos k47]
            have HK47 := Hid.mk' k47
            clear k8 k2 k47 HHD HHC
            go_upto_region 12 with fail
            go_wp2_with fail
            refine HCA.out.mono ?_
            rintro r w4 ⟨rfl, cl4, m1, m2, m3, m4⟩
            have hfr4 := HS1.out.2.trans m4
            clear x0 x1 x3 x4 x5 x6 x7 x8 x9 x10 c6
            have x0 := HXC.out _ hfr4 0 _ rfl
            have x1 := HXC.out _ hfr4 1 _ rfl
            have x3 := HXC.out _ hfr4 3 _ rfl
            have x4 := HXC.out _ hfr4 4 _ rfl
            have x5 := HXC.out _ hfr4 5 _ rfl
            have x6 := HXC.out _ hfr4 6 _ rfl
            have x7 := HXC.out _ hfr4 7 _ rfl
            have x8 := HXC.out _ hfr4 8 _ rfl
            have x9 := HXC.out _ hfr4 9 _ rfl
            have x10 := HXC.out _ hfr4 10 _ rfl
            have c6 := m1.cell (j := 6) rfl
            have HM := Hid.mk' (And.intro m1 (And.intro m2 (And.intro m3 (And.intro m4 hfr4))))
            clear m1 m2 m3 m4 hfr4 HCA
            by_cases hea : exZ env ft s.a = 0
            · have HEA : Hid (exZ env ft s.a = 0) := hea
              have m1 := HM.out.1
              rw [hea] at m1
              have HCB := Hid.mk' (HEX.out s.b cl4 w4 HIN.out.2.1 (HFIN.out _ HM.out.2.2.2.2).2 m1 (HM.out.2.2.1.trans HIN.out.2.2))
              unfold Ex.val at HCB
              rw [hea] at c6
              clear m1 hea
              have fin : Hid (∀ w5, EP w0.heap.size b p k n lp kv K cv cl4 (exZ env ft s.b) (exC ft s.b) w4 w5 → EP w0.heap.size b p k n lp kv K cv cl (hdZ env ft s) (hdC ft s) w w5) := fun w5 ⟨cl5, a1, a2, a3, a4⟩ => by
                have hz : hdZ env ft s = exZ env ft s.b := by rw [HHD2.out, if_neg (by simpa using HEA.out)]
                refine ⟨cl5, by rw [hz]; exact a1, fun e => ?_, a3.trans HM.out.2.2.1, ((HFIN.out _ HM.out.2.2.2.2).1).trans a4⟩
                rw [HHC2.out, mark_append, ← HM.out.2.1 HEA.out]
                exact a2 (hz.symm.trans e)
              rcases HK47.out with k4 | k7
              · have b4 : (s.kind == 4) = true := by simpa using k4
                clear k4
                go_wp2_with fail
                refine HCB.out.mono ?_
                rintro r w5 ⟨rfl, h5⟩
                go_wp2_with fail
                go_end0
                exact ⟨rfl, fin.out _ h5⟩
              · have b4 : (s.kind == 4) = false := by rw [beq_eq_false_iff_ne]; omega
                have b7 : (s.kind == 7) = true := by simpa using k7
                clear k7
                go_wp2_with fail
                refine HCB.out.mono ?_
                rintro r w5 ⟨rfl, h5⟩
                go_wp2_with fail
                go_end0
                exact ⟨rfl, fin.out _ h5⟩
            · have hb0 : (exZ env ft s.a == 0) = false := by simpa using hea
              have fin : Hid (EP w0.heap.size b p k n lp kv K cv cl (hdZ env ft s) (hdC ft s) w w4) := by
                have hz : hdZ env ft s = exZ env ft s.a := by rw [HHD2.out, if_pos hea]
                exact ⟨cl4, by rw [hz]; exact HM.out.1, fun e => absurd (hz.symm.trans e) hea, HM.out.2.2.1, (HFIN.out _ HM.out.2.2.2.2).1⟩
              clear hea
              rcases HK47.out with k4 | k7
              · have b4 : (s.kind == 4) = true := by simpa using k4
                clear k4
                go_wp2_with fail
                go_end0
                exact ⟨rfl, fin.out⟩
              · have b4 : (s.kind == 4) = false := by rw [beq_eq_false_iff_ne]; omega
                have b7 : (s.kind == 7) = true := by simpa using k7
                clear k7
                go_wp2_with fail
                go_end0
                exact ⟨rfl, fin.out⟩
          · have HHD2 : Hid (hdZ env ft s = exZ env ft s.a) := by
              show _ = _
              rw [HHD.out, if_neg (by simp), if_neg (by omega), if_neg k47]
              split
              · rfl
              · rename_i h0; exact (by simpa using h0 : exZ env ft s.a = 0).symm
            have HHC2 : Hid (hdC ft s = exC ft s.a) := by show _ = _; rw [HHC.out, if_neg (by omega), if_neg k47, List.append_nil]
            have b4 : (s.kind == 4) = false := by rw [beq_eq_false_iff_ne]; omega
            have b7 : (s.kind == 7) = false := by rw [beq_eq_false_iff_ne]; omega
            clear k8 k2 k47 HHD HHC
            go_upto_region 12 with fail
            go_wp2_with fail
            refine HCA.out.mono ?_
            rintro r w4 ⟨rfl, cl4, m1, m2, m3, m4⟩
            have hfr4 := HS1.out.2.trans m4
            clear x0 x1 x3 x4 x5 x6 x7 x8 x9 x10 c6
            have x0 := HXC.out _ hfr4 0 _ rfl
            have x1 := HXC.out _ hfr4 1 _ rfl
            have x3 := HXC.out _ hfr4 3 _ rfl
            have x4 := HXC.out _ hfr4 4 _ rfl
            have x5 := HXC.out _ hfr4 5 _ rfl
            have x6 := HXC.out _ hfr4 6 _ rfl
            have x7 := HXC.out _ hfr4 7 _ rfl
            have x8 := HXC.out _ hfr4 8 _ rfl
            have x9 := HXC.out _ hfr4 9 _ rfl
            have x10 := HXC.out _ hfr4 10 _ rfl
            have HM := Hid.mk' (And.intro m1 (And.intro m2 (And.intro m3 hfr4)))
            clear m1 m2 m3 m4 hfr4 HCA
            go_wp2_with fail
            go_end0
            exact ⟨rfl, cl4, by rw [HHD2.out]; exact HM.out.1, fun e => by rw [HHC2.out]; exact HM.out.2.1 (HHD2.out.symm.trans e), HM.out.2.2.1, (HFIN.out _ HM.out.2.2.2).1⟩
        · have HV : Hid (hdZ env ft s = e1) := by show _ = _; rw [HHD.out, if_pos he]
          have hb0 : (e1 == 0) = false := by simpa using he
          have fin : Hid (EP w0.heap.size b p k n lp kv K cv cl (hdZ env ft s) (hdC ft s) w wc) := ⟨cl, by rw [HV.out]; exact HS1.out.1, fun e => absurd (HV.out.symm.trans e) he, rfl, (HFIN.out _ HS1.out.2).1⟩
          clear k8 k2 HHD HHC he
          cases b4 : (s.kind == 4)
          · cases b7 : (s.kind == 7)
            · go_wp2_with fail
              go_end0
              exact ⟨rfl, fin.out⟩
            · go_wp2_with fail
              go_end0
              exact ⟨rfl, fin.out⟩
          · go_wp2_with fail
            go_end0
            exact ⟨rfl, fin.out⟩
end Go.Proofs.YtkkcgkpbbngloaaGreatDoor

/- The document's own look at names: statements, one after the other. -/
namespace Go.Proofs.YtkkcgkpbbngloaaGreatDoor
open Go.RowKit Go.Sort

theorem cod_zero (k : Int) : cod k = 0 ↔ k = 0 := by
  unfold cod
  split
  · omega
  split
  · omega
  split <;> omega
theorem dc_kd {env : Env} {K : Kn} (h : RelK env K) (s : ByteArray) : dcZ env s.data.toList = if kdZ K s ≠ 0 then 9 else 0 := by
  unfold dcZ
  rw [← h.1 s]
  by_cases h0 : kdZ K s = 0
  · rw [if_neg (by simpa using (cod_zero _).2 h0), if_neg (by simpa using h0)]
  · rw [if_pos (fun e => h0 ((cod_zero _).1 e)), if_pos h0]
theorem kdZ_none {K : Kn} (hk : ∀ x ∈ K, x.2 ≠ 0) {s : ByteArray} (h : kdZ K s = 0) : ∀ x ∈ K, x.1.data.toList ≠ s.data.toList := by
  induction K with
  | nil => intro x hx; cases hx
  | cons y r ih =>
    rw [kdZ] at h
    split at h
    · exact absurd h (hk y (by simp))
    · rename_i hn
      intro x hx
      rcases List.mem_cons.1 hx with rfl | hx
      · exact hn
      · exact ih (fun x hx => hk x (by simp [hx])) h x hx
theorem RelK.push {env : Env} {K : Kn} (h : RelK env K) (fl : Bool) : RelK ((fl, []) :: env) K := ⟨fun s => by rw [h.1 s]; rfl, h.2⟩
theorem RelK.put {f : Bool × List (List UInt8 × Int)} {env : Env} {K : Kn} (h : RelK (f :: env) K) (s : ByteArray) (kk : Int) (hk : kk = 112 ∨ kk = 118 ∨ kk = 97 ∨ kk = 108) (h0 : dcZ (f :: env) s.data.toList = 0) :
    RelK (dcEnv (f :: env) s.data.toList (cod kk)) (K ++ [(s, kk)]) := by
  have hs : envAt (f :: env) s.data.toList = 0 := by
    unfold dcZ at h0
    split at h0
    · omega
    · rename_i h1; simpa using h1
  have hks : kdZ K s = 0 := by have := h.1 s; rw [hs] at this; exact (cod_zero _).1 this
  have hnz : ∀ x ∈ K, x.2 ≠ 0 := fun x hx => by have := h.2 x hx; omega
  refine ⟨fun t => ?_, fun x hx => ?_⟩
  · have he : envAt (dcEnv (f :: env) s.data.toList (cod kk)) t.data.toList = if s.data.toList = t.data.toList then cod kk else envAt (f :: env) t.data.toList := by
      unfold dcEnv
      rw [if_neg (by simpa using hs), envPut, envAt, envAt, tabHas_cons, tabAt_cons]
      by_cases e : s.data.toList = t.data.toList
      · rw [if_pos e, if_pos e, if_pos e]; rfl
      · rw [if_neg e, if_neg e, if_neg e]
    rw [he, kdZ_append]
    by_cases ht : kdZ K t = 0
    · rw [if_pos ⟨ht, kdZ_none hnz ht⟩, kdZ, kdZ]
      by_cases e : s.data.toList = t.data.toList
      · rw [if_pos e, if_pos e]
      · rw [if_neg e, if_neg e, ← h.1 t, ht]
    · have e : s.data.toList ≠ t.data.toList := fun e => ht (by
        have h1 := h.1 s
        have h2 := h.1 t
        rw [← e, ← h1, hks] at h2
        exact (cod_zero _).1 h2)
      rw [if_neg (fun hx => ht hx.1), if_neg e, h.1 t]
  · rcases List.mem_append.1 hx with hx | hx
    · exact h.2 x hx
    · rw [List.mem_singleton.1 hx]; exact hk
/-- What a look at a list of statements leaves. -/
def AP (N b : Nat) (p : Pr) (k : Nat) (lp : Int) (kv : Value) (K : Kn) (cv : Value) (cl : List Bool) (R : SR) (w w' : World) : Prop :=
  ∃ kv' cl', RS N w' b p k R.m lp kv' K R.e cv cl' ∧ (R.e = 0 → cl' = mark cl R.c) ∧ cl'.length = cl.length ∧ Fr (b :: (ob kv ++ ob cv)) w w' ∧ ∀ g ∈ ob kv', g ∈ ob kv ∨ w.heap.size ≤ g
/-- What a look at a statement leaves. -/
def SP (N b : Nat) (p : Pr) (k : Nat) (lp : Int) (kv : Value) (K : Kn) (cv : Value) (cl : List Bool) (R : SR) (w w' : World) : Prop :=
  ∃ kv' K' cl', RS N w' b p k R.m lp kv' K' R.e cv cl' ∧ (R.e = 0 → cl' = mark cl R.c ∧ RelK R.env K') ∧ (∃ L, K' = K ++ L ∧ L.length ≤ 1) ∧ cl'.length = cl.length ∧ Fr (b :: (ob kv ++ ob cv)) w w' ∧ ∀ g ∈ ob kv', g ∈ ob kv ∨ w.heap.size ≤ g
abbrev AlK (w0 : World) (b : Nat) (p : Pr) (k : Nat) (ft : List (List UInt8 × Int)) (q : Nat) : Prop := ∀ (l : List St) (la : Option Addr) (lc : Nat) (f : Bool × List (List UInt8 × Int)) (env : Env) (n lp : Int) (kv : Value) (K : Kn) (cv : Value) (cl : List Bool) (w : World), qSs l ≤ q → Have w0 la lc l → Below w0.heap.size w0 w → RS w0.heap.size w b p k n lp kv K 0 cv cl → RelK (f :: env) K → (lvZ (f :: env) = if lp = 0 then 32 else 0) → 0 ≤ lp → lp + qSs l ≤ 1000000000 → K.length + qSs l ≤ 900000 → 0 ≤ n → n + qSs l ≤ 1000000000 → cl.length = p.funcs.length →
  Calls Tryz.prog 22 #[.pointer (some ⟨b, 0, none⟩), .slice la l.length lc] w fun r w' => r = .returned (.tuple #[]) ∧ AP w0.heap.size b p k lp kv K cv cl (lsS ft l (f :: env) n) w w'
abbrev StK (w0 : World) (b : Nat) (p : Pr) (k : Nat) (ft : List (List UInt8 × Int)) (q : Nat) : Prop := ∀ (s : St) (f : Bool × List (List UInt8 × Int)) (env : Env) (n lp : Int) (kv : Value) (K : Kn) (cv : Value) (cl : List Bool) (w : World), qS s ≤ q → s.In w0 → Below w0.heap.size w0 w → RS w0.heap.size w b p k n lp kv K 0 cv cl → RelK (f :: env) K → (lvZ (f :: env) = if lp = 0 then 32 else 0) → 0 ≤ lp → lp + qS s ≤ 1000000000 → K.length + qS s ≤ 900000 → 0 ≤ n → n + qS s ≤ 1000000000 → cl.length = p.funcs.length →
  Calls Tryz.prog 34 #[.pointer (some ⟨b, 0, none⟩), s.val] w fun r w' => r = .returned (.tuple #[]) ∧ SP w0.heap.size b p k lp kv K cv cl (stS ft s (f :: env) (n + 1)) w w'
theorem app_sub {b : Nat} {A C A' : List Nat} {m : Nat} (h : ∀ g ∈ A', g ∈ A ∨ m ≤ g) : ∀ x ∈ b :: (A' ++ C), x ∈ b :: (A ++ C) ∨ m ≤ x := fun x hx => by
  rcases List.mem_cons.1 hx with rfl | hx
  · exact Or.inl (by simp)
  rcases List.mem_append.1 hx with hx | hx
  · rcases h x hx with h' | h'
    · exact Or.inl (by simp [h'])
    · exact Or.inr h'
  · exact Or.inl (by simp [hx])
theorem rs_ge {N b : Nat} {w : World} {p : Pr} {fn n lp : Int} {kv : Value} {K : Kn} {e : Int} {cv : Value} {cl : List Bool} (h : RS N w b p fn n lp kv K e cv cl) : ∀ g ∈ b :: (ob kv ++ ob cv), N ≤ g := fun g hg => by
  rcases List.mem_cons.1 hg with rfl | hg
  · exact h.2.2.2.1
  rcases List.mem_append.1 hg with hg | hg
  · exact (gown_lt h.2.1 g hg).1
  · exact (gown_lt h.2.2.1 g hg).1
set_option maxRecDepth 100000 in
set_option maxHeartbeats 4000000 in
theorem rall_step (w0 : World) (b : Nat) (p : Pr) (k : Nat) (ft : List (List UInt8 × Int)) (q : Nat) (ih : StK w0 b p k ft q) : AlK w0 b p k ft q := by
  intro l la lc f env n lp kv K cv cl w hq hin hB h hr hlv hl0 hl1 hK hn0 hn1 hcl
  have IH := Hid.mk' ih
  obtain ⟨⟨h1, h2, h3, h4⟩, h5⟩ := hin
  have HIN := Hid.mk' (And.intro h4 h5)
  obtain ⟨ao, cap, rfl⟩ := gown_form h.2.1
  have c5 := h.cell (j := 5) rfl
  have HBW := Hid.mk' hB
  have HNB := Hid.mk' (And.intro hl0 (And.intro hl1 (And.intro hK (And.intro hn0 (And.intro hn1 (And.intro hcl hq))))))
  have hKl : K.length ≤ 900000 := by omega
  obtain ⟨R, HR⟩ : ∃ R, Hid (lsS ft l (f :: env) n = R) := ⟨_, rfl⟩
  have HFIN : Hid (∀ kv' K' cl' w', RS w0.heap.size w' b p k R.m lp kv' K' R.e cv cl' → (∃ L, K' = K ++ L) → (R.e = 0 → cl' = mark cl R.c) → cl'.length = cl.length → Fr (b :: (ob (.slice ao K.length cap) ++ ob cv)) w w' → (∀ g ∈ ob kv', g ∈ ob (.slice ao K.length cap) ∨ w.heap.size ≤ g) → ∀ va vc, kv' = .slice va K'.length vc → AP w0.heap.size b p k lp (.slice ao K.length cap) K cv cl (lsS ft l (f :: env) n) w (w'.setCell ⟨b, 5, none⟩ (.slice va K.length vc))) := fun kv' K' cl' w' a1 a2 a3 a4 a5 a6 va vc hv => by
    obtain ⟨L, rfl⟩ := a2
    have hc := a1.cut K.length (by simp) hv
    rw [List.take_left] at hc
    rw [HR.out]
    refine ⟨_, cl', hc, a3, a4, a5.set (by simp) _ _, fun g hg => a6 g ?_⟩
    rw [hv]
    have : ob (.slice va K.length vc) = ob (.slice va (K ++ L).length vc) := by unfold ob Value.ownBlock; cases va <;> rfl
    rw [← this]; exact hg
  have HST := Hid.mk' (And.intro h (And.intro hr hlv))
  clear h hr hlv h4 h5 hB hl0 hl1 hK hn0 hn1 hcl hq ih h3
  go_enter Tryz.func22, Tryz.ntmps22
  go_wp2_with fail
  go_loopw [5] (fun t5 wr => ∃ (j : Nat) (ej nj : Int) (kj : Value) (Kj : Kn) (clj : List Bool) (fj : Bool × List (List UInt8 × Int)), j ≤ l.length ∧ t5 = .int .i64 j ∧ RS w0.heap.size wr b p k nj lp kj Kj ej cv clj ∧ (∃ L, Kj = K ++ L) ∧ Kj.length + qSs (l.drop j) ≤ 900000 ∧ 0 ≤ nj ∧ nj + qSs (l.drop j) ≤ 1000000000 ∧ clj.length = cl.length ∧ Fr (b :: (ob (.slice ao K.length cap) ++ ob cv)) w wr ∧ (∀ g ∈ ob kj, g ∈ ob (.slice ao K.length cap) ∨ w.heap.size ≤ g) ∧ fj.1 = f.1 ∧ (ej ≠ 0 → R.e = ej ∧ R.m = nj) ∧ (ej = 0 → RelK (fj :: env) Kj ∧ (lsS ft (l.drop j) (fj :: env) nj).e = R.e ∧ (lsS ft (l.drop j) (fj :: env) nj).m = R.m ∧ (R.e = 0 → mark clj (lsS ft (l.drop j) (fj :: env) nj).c = mark cl R.c))) (fun t5 _ => l.length - (intOf t5).toNat)
  case atStart => exact ⟨0, 0, n, _, K, cl, f, Nat.zero_le _, rfl, HST.out.1, ⟨[], by simp⟩, by rw [List.drop_zero]; exact HNB.out.2.2.1, HNB.out.2.2.2.1, by rw [List.drop_zero]; exact HNB.out.2.2.2.2.1, rfl, Fr.refl _ _, fun g hg => Or.inl hg, rfl, fun h => absurd rfl h, fun _ => ⟨HST.out.2.1, by rw [List.drop_zero, HR.out], by rw [List.drop_zero, HR.out], fun _ => by rw [List.drop_zero, HR.out]⟩⟩
  case round =>
    obtain ⟨j, ej, nj, kj, Kj, clj, fj, hj, rfl, a1, a2, a3, a4, a5, a6, a7, a8, a9, a10, a11⟩ := hrel
    have HA := Hid.mk' (And.intro a1 (And.intro a2 (And.intro a3 (And.intro a4 (And.intro a5 (And.intro a6 (And.intro a7 (And.intro a8 a9))))))))
    have HA10 := Hid.mk' a10
    have HA11 := Hid.mk' a11
    have c6 := a1.cell (j := 6) rfl
    have d5 := a1.cell (j := 5) rfl
    have q5 := a1.frozen 5
    have HBR : Hid (Below w0.heap.size w0 wr) := HBW.out.trans (a7.below (rs_ge HST.out.1) HBW.out.size)
    obtain ⟨kja, kjc, rfl⟩ := gown_form a1.2.1
    have hkc : Kj.length ≤ kjc := by
      rcases a1.2.1.2 with ⟨e0, e1⟩ | ⟨g, cp, cur, e0, _, _, e3, _⟩
      · omega
      · injection e0 with _ _ e2; omega
    have hKle : K.length ≤ Kj.length := by obtain ⟨L, rfl⟩ := a2; simp
    clear a1 a2 a3 a4 a5 a6 a7 a8 a9 a10 a11
    by_cases hlt : j < l.length
    · have hli : (j : Int) < (l.length : Int) := by omega
      by_cases hej : ej = 0
      · subst hej
        obtain ⟨e1, e2, e3, e4⟩ := HA11.out rfl
        obtain ⟨g, o, rfl, hcs⟩ := rowS_at (HIN.out.1.below HBR.out) hlt
        have HD : Hid (lsS ft (l.drop j) (fj :: env) nj = if (stS ft l[j] (fj :: env) (nj + 1)).e ≠ 0 then stS ft l[j] (fj :: env) (nj + 1) else ⟨(lsS ft (l.drop (j + 1)) (stS ft l[j] (fj :: env) (nj + 1)).env (stS ft l[j] (fj :: env) (nj + 1)).m).e, (lsS ft (l.drop (j + 1)) (stS ft l[j] (fj :: env) (nj + 1)).env (stS ft l[j] (fj :: env) (nj + 1)).m).m, (lsS ft (l.drop (j + 1)) (stS ft l[j] (fj :: env) (nj + 1)).env (stS ft l[j] (fj :: env) (nj + 1)).m).env, (stS ft l[j] (fj :: env) (nj + 1)).c ++ (lsS ft (l.drop (j + 1)) (stS ft l[j] (fj :: env) (nj + 1)).env (stS ft l[j] (fj :: env) (nj + 1)).m).c⟩) := lsS_drop hlt
        have HQD : Hid (qSs (l.drop j) = qS l[j] + qSs (l.drop (j + 1))) := qSs_drop hlt
        have HQM : Hid (qS l[j] ≤ q ∧ qS l[j] ≤ qSs l) := ⟨Nat.le_trans (qSs_mem (List.getElem_mem hlt)) HNB.out.2.2.2.2.2.2, qSs_mem (List.getElem_mem hlt)⟩
        have HQP : Hid (1 ≤ qS l[j]) := qS_pos _
        have HTL := Hid.mk' (stS_tail ft l[j] fj env (nj + 1))
        have HSM := Hid.mk' (stS_m ft l[j] (fj :: env) (nj + 1))
        have hlvj : lvZ (fj :: env) = if lp = 0 then 32 else 0 := by rw [← HST.out.2.2]; show (if fj.1 = true then (0 : Int) else 32) = if f.1 = true then 0 else 32; rw [HA.out.2.2.2.2.2.2.2.2]
        have HCL := Hid.mk' (IH.out l[j] fj env nj lp (.slice kja Kj.length kjc) Kj cv clj wr HQM.out.1 (HIN.out.2 _ (List.getElem_mem hlt)) HBR.out HA.out.1 e1 hlvj HNB.out.1 (by have := HQM.out.2; have := HNB.out.2.1; omega) (by have := HQD.out; have := HA.out.2.2.1; omega) HA.out.2.2.2.1 (by have := HQD.out; have := HA.out.2.2.2.2.1; omega) (HA.out.2.2.2.2.2.1.trans HNB.out.2.2.2.2.2.1))
        have HE := Hid.mk' (And.intro e2 (And.intro e3 e4))
        clear e1 e2 e3 e4 hlvj
        generalize l[j] = y at *
        generalize stS ft y (fj :: env) (nj + 1) = T at *
        unfold St.val at HCL
        have t0 : wr.cell? ⟨g, o + j * 14, none⟩ = some (.int .i64 y.kind) := by have := hcs 0 _ rfl; simpa only [← Nat.add_assoc, Nat.add_zero] using this
        have t1 : wr.cell? ⟨g, o + j * 14 + 1, none⟩ = some (.string y.name) := by have := hcs 1 _ rfl; simpa only [← Nat.add_assoc, Nat.add_zero] using this
        have t2 : wr.cell? ⟨g, o + j * 14 + 2, none⟩ = some (.int .i64 y.n) := by have := hcs 2 _ rfl; simpa only [← Nat.add_assoc, Nat.add_zero] using this
        have t3 : wr.cell? ⟨g, o + j * 14 + 3, none⟩ = some (.int .i64 y.a.kind) := by have := hcs 3 _ rfl; simpa only [← Nat.add_assoc, Nat.add_zero] using this
        have t4 : wr.cell? ⟨g, o + j * 14 + 4, none⟩ = some (.int .i64 y.a.n) := by have := hcs 4 _ rfl; simpa only [← Nat.add_assoc, Nat.add_zero] using this
        have t5 : wr.cell? ⟨g, o + j * 14 + 5, none⟩ = some (.string y.a.name) := by have := hcs 5 _ rfl; simpa only [← Nat.add_assoc, Nat.add_zero] using this
        have t6 : wr.cell? ⟨g, o + j * 14 + 6, none⟩ = some (.slice y.a.a y.a.args.length y.a.cap) := by have := hcs 6 _ rfl; simpa only [← Nat.add_assoc, Nat.add_zero] using this
        have t7 : wr.cell? ⟨g, o + j * 14 + 7, none⟩ = some (.int .i64 y.b.kind) := by have := hcs 7 _ rfl; simpa only [← Nat.add_assoc, Nat.add_zero] using this
        have t8 : wr.cell? ⟨g, o + j * 14 + 8, none⟩ = some (.int .i64 y.b.n) := by have := hcs 8 _ rfl; simpa only [← Nat.add_assoc, Nat.add_zero] using this
        have t9 : wr.cell? ⟨g, o + j * 14 + 9, none⟩ = some (.string y.b.name) := by have := hcs 9 _ rfl; simpa only [← Nat.add_assoc, Nat.add_zero] using this
        have t10 : wr.cell? ⟨g, o + j * 14 + 10, none⟩ = some (.slice y.b.a y.b.args.length y.b.cap) := by have := hcs 10 _ rfl; simpa only [← Nat.add_assoc, Nat.add_zero] using this
        have t11 : wr.cell? ⟨g, o + j * 14 + 11, none⟩ = some (.slice y.ba y.body.length y.bc) := by have := hcs 11 _ rfl; simpa only [← Nat.add_assoc, Nat.add_zero] using this
        have t12 : wr.cell? ⟨g, o + j * 14 + 12, none⟩ = some (.slice y.ea y.els.length y.ec) := by have := hcs 12 _ rfl; simpa only [← Nat.add_assoc, Nat.add_zero] using this
        have t13 : wr.cell? ⟨g, o + j * 14 + 13, none⟩ = some (.slice y.ca y.cases.length y.cc) := by have := hcs 13 _ rfl; simpa only [← Nat.add_assoc, Nat.add_zero] using this
        clear hcs
        go_wp2_with fail
        refine HCL.out.mono ?_
        rintro r w3 ⟨rfl, kv3, K3, cl3, m1, m2, m3, m4, m5, m6⟩
        have HM := Hid.mk' (And.intro m1 (And.intro m2 (And.intro m3 (And.intro m4 (And.intro m5 m6)))))
        clear m1 m2 m3 m4 m5 m6 HCL c6 d5 q5 t0 t1 t2 t3 t4 t5 t6 t7 t8 t9 t10 t11 t12 t13
        go_wp2_with fail
        go_roundw
        case rel =>
          obtain ⟨f', hf1, _, hf3⟩ := HTL.out
          obtain ⟨m1, m2, ⟨L2, m3, m3'⟩, m4, m5, m6⟩ := HM.out
          obtain ⟨⟨L1, hL1⟩, b3, b4, b5, b6, b7, b8, b9⟩ := HA.out.2
          have hK3 : K3.length ≤ Kj.length + 1 := by rw [m3, List.length_append]; omega
          refine ⟨j + 1, T.e, T.m, kv3, K3, cl3, f', by omega, by go_num, m1, ⟨L1 ++ L2, by rw [m3, hL1, List.append_assoc]⟩, by have := HQD.out; have := HQP.out; omega, Int.le_trans (Int.le_trans b4 (by omega)) HSM.out.1, by have := HSM.out.2; have := HQD.out; omega, m4.trans b6, b7.trans' m5 (app_sub b8), fun g hg => ?_, hf1.trans b9, fun he => ?_, fun he => ?_⟩
          · rcases m6 g hg with h' | h'
            · exact b8 g h'
            · exact Or.inr (Nat.le_trans b7.size h')
          · obtain ⟨e2, e3, _⟩ := HE.out
            rw [HD.out, if_pos he] at e2 e3
            exact ⟨e2.symm, e3.symm⟩
          · obtain ⟨e2, e3, e4⟩ := HE.out
            rw [HD.out, if_neg (by simpa using he)] at e2 e3 e4
            rw [hf3] at e2 e3 e4
            obtain ⟨m21, m22⟩ := m2 he
            rw [hf3] at m22
            refine ⟨m22, e2, e3, fun hr => ?_⟩
            have := e4 hr
            rw [mark_append, ← m21] at this
            exact this
        case measure => simp [intOf]; omega
      · have hne : (ej == 0) = false := beq_no hej
        obtain ⟨e1, e2⟩ := HA10.out hej
        have HP := Hid.mk' (HFIN.out _ Kj clj wr (by rw [e1, e2]; exact HA.out.1) HA.out.2.1 (fun h => absurd (e1.symm.trans h) hej) HA.out.2.2.2.2.2.1 HA.out.2.2.2.2.2.2.1 HA.out.2.2.2.2.2.2.2.1 kja kjc rfl)
        clear hej e1 e2
        go_wp2_with fail
        go_end0
        exact ⟨rfl, HP.out⟩
    · have hli : ¬ (j : Int) < (l.length : Int) := by omega
      have HV : Hid (R.e = ej ∧ R.m = nj ∧ (R.e = 0 → clj = mark cl R.c)) := by
        by_cases hej : ej = 0
        · obtain ⟨_, e2, e3, e4⟩ := HA11.out hej
          rw [List.drop_eq_nil_of_le (by omega), lsS] at e2 e3 e4
          exact ⟨by rw [← e2, hej], e3.symm, fun h => by have := e4 h; exact this⟩
        · obtain ⟨e1, e2⟩ := HA10.out hej
          exact ⟨e1, e2, fun h => absurd (e1.symm.trans h) hej⟩
      have HP := Hid.mk' (HFIN.out _ Kj clj wr (by rw [HV.out.1, HV.out.2.1]; exact HA.out.1) HA.out.2.1 HV.out.2.2 HA.out.2.2.2.2.2.1 HA.out.2.2.2.2.2.2.1 HA.out.2.2.2.2.2.2.2.1 kja kjc rfl)
      go_wp2_with fail
      go_end0
      exact ⟨rfl, HP.out⟩
end Go.Proofs.YtkkcgkpbbngloaaGreatDoor

/- The document's own look at names: lists behind a fault; what statements come to, by their heads. -/
namespace Go.Proofs.YtkkcgkpbbngloaaGreatDoor
open Go.RowKit Go.Sort

set_option maxRecDepth 100000 in
set_option maxHeartbeats 4000000 in
theorem rall_bad (la : Option Addr) (ln lc : Nat) {N b : Nat} {w : World} {p : Pr} {fn n lp : Int} {kv : Value} {K : Kn} {e : Int} {cv : Value} {cl : List Bool} (h : RS N w b p fn n lp kv K e cv cl) (he : e ≠ 0) (hK : K.length ≤ 1000000) :
    Calls Tryz.prog 22 #[.pointer (some ⟨b, 0, none⟩), .slice la ln lc] w fun r w' => r = .returned (.tuple #[]) ∧ RS N w' b p fn n lp kv K e cv cl ∧ Fr [b] w w' := by
  obtain ⟨ao, cap, rfl⟩ := gown_form h.2.1
  have c5 := h.cell (j := 5) rfl
  have q5 := h.frozen 5
  have c6 := h.cell (j := 6) rfl
  have hkc : K.length ≤ cap := by
    rcases h.2.1.2 with ⟨e0, e1⟩ | ⟨g, cp, cur, e0, _, _, e3, _⟩
    · omega
    · injection e0 with _ _ e2; omega
  have hc := h.cut K.length (Nat.le_refl _) rfl
  rw [List.take_length] at hc
  have HP := Hid.mk' (And.intro hc ((Fr.refl [b] w).set (g := b) (by simp) 5 (.slice ao K.length cap)))
  have hb0 : (e == 0) = false := by simpa using he
  have hkl := hK
  clear h hc he hK
  go_enter Tryz.func22, Tryz.ntmps22
  go_wp2_with fail
  go_loopw [5] (fun t5 wr => t5 = .int .i64 0 ∧ wr = w) (fun _ _ => 0)
  case atStart => exact ⟨rfl, rfl⟩
  case round =>
    obtain ⟨rfl, rfl⟩ := hrel
    by_cases h0 : (0 : Int) < (ln : Int)
    · go_wp2_with fail
      go_end0
      exact ⟨rfl, HP.out⟩
    · go_wp2_with fail
      go_end0
      exact ⟨rfl, HP.out⟩
/-- A statement whose head is wrong. -/
theorem st_bad (ft : List (List UInt8 × Int)) (s : St) (env : Env) (m : Int) (h : hdZ env ft s ≠ 0) : (stS ft s env m).e = hdZ env ft s ∧ (stS ft s env m).m = m := by
  obtain ⟨k, nm, nn, a, b, ba, bc, l, ea, ec, el, ca, cc, cs⟩ := s
  have hh : hdZ env ft (.mk k nm nn a b ba bc l ea ec el ca cc cs) = if (if k = 3 then wrZ (envAt env nm.data.toList) else if k = 4 then ixZ (envAt env nm.data.toList) else if k = 8 then lvZ env else 0) ≠ 0 then (if k = 3 then wrZ (envAt env nm.data.toList) else if k = 4 then ixZ (envAt env nm.data.toList) else if k = 8 then lvZ env else 0) else if k = 8 ∨ k = 2 then 0 else if exZ env ft a ≠ 0 then exZ env ft a else if k = 4 ∨ k = 7 then exZ env ft b else 0 := rfl
  rw [hh] at h ⊢
  rw [stS]
  by_cases k1 : k = 1
  · subst k1
    simp only [orF] at h ⊢
    grind
  by_cases k2 : k = 2
  · subst k2
    exact absurd rfl h
  by_cases k3 : k = 3
  · subst k3
    simp only [orF] at h ⊢
    grind
  by_cases k4 : k = 4
  · subst k4
    simp only [orF] at h ⊢
    grind
  by_cases k56 : k = 5 ∨ k = 6
  · rw [if_neg k1, if_neg k2, if_neg k3, if_neg k4, if_pos k56]
    grind
  by_cases k7 : k = 7
  · subst k7
    simp only [orF] at h ⊢
    grind
  by_cases k8 : k = 8
  · subst k8
    grind
  · rw [if_neg k1, if_neg k2, if_neg k3, if_neg k4, if_neg k56, if_neg k7, if_neg k8]
    grind
/-- A statement that is all head. -/
theorem st_only (ft : List (List UInt8 × Int)) (s : St) (env : Env) (m : Int) (h : hdZ env ft s = 0) (h1 : s.kind ≠ 1) (h2 : s.kind ≠ 2) (h5 : s.kind ≠ 5) (h6 : s.kind ≠ 6) (h7 : s.kind ≠ 7) : stS ft s env m = ⟨0, m, env, hdC ft s⟩ := by
  obtain ⟨k, nm, nn, a, b, ba, bc, l, ea, ec, el, ca, cc, cs⟩ := s
  have hh : hdZ env ft (.mk k nm nn a b ba bc l ea ec el ca cc cs) = if (if k = 3 then wrZ (envAt env nm.data.toList) else if k = 4 then ixZ (envAt env nm.data.toList) else if k = 8 then lvZ env else 0) ≠ 0 then (if k = 3 then wrZ (envAt env nm.data.toList) else if k = 4 then ixZ (envAt env nm.data.toList) else if k = 8 then lvZ env else 0) else if k = 8 ∨ k = 2 then 0 else if exZ env ft a ≠ 0 then exZ env ft a else if k = 4 ∨ k = 7 then exZ env ft b else 0 := rfl
  have hc : hdC ft (.mk k nm nn a b ba bc l ea ec el ca cc cs) = if k = 8 ∨ k = 2 then [] else exC ft a ++ (if k = 4 ∨ k = 7 then exC ft b else []) := rfl
  simp only [St.kind] at h1 h2 h5 h6 h7
  rw [hh] at h
  rw [hc, stS, if_neg h1, if_neg h2]
  by_cases k3 : k = 3
  · subst k3
    simp only [orF] at h ⊢
    grind
  by_cases k4 : k = 4
  · subst k4
    simp only [orF] at h ⊢
    grind
  rw [if_neg k3, if_neg k4, if_neg (by omega), if_neg h7]
  by_cases k8 : k = 8
  · subst k8
    grind
  · rw [if_neg k8]
    grind
theorem st_let (ft : List (List UInt8 × Int)) (s : St) (env : Env) (m : Int) (h : hdZ env ft s = 0) (h1 : s.kind = 1) : stS ft s env m = ⟨dcZ env s.name.data.toList, m, dcEnv env s.name.data.toList 1, hdC ft s⟩ := by
  obtain ⟨k, nm, nn, a, b, ba, bc, l, ea, ec, el, ca, cc, cs⟩ := s
  simp only [St.kind] at h1
  subst h1
  have hh : hdZ env ft (.mk 1 nm nn a b ba bc l ea ec el ca cc cs) = if exZ env ft a ≠ 0 then exZ env ft a else 0 := rfl
  have hc : hdC ft (.mk 1 nm nn a b ba bc l ea ec el ca cc cs) = exC ft a ++ [] := rfl
  rw [hh] at h
  rw [hc, stS]
  simp only [orF, St.name]
  grind
theorem st_arr (ft : List (List UInt8 × Int)) (s : St) (env : Env) (m : Int) (h1 : s.kind = 2) : stS ft s env m = ⟨dcZ env s.name.data.toList, m, dcEnv env s.name.data.toList 2, hdC ft s⟩ := by
  obtain ⟨k, nm, nn, a, b, ba, bc, l, ea, ec, el, ca, cc, cs⟩ := s
  simp only [St.kind] at h1
  subst h1
  have hc : hdC ft (.mk 2 nm nn a b ba bc l ea ec el ca cc cs) = [] := rfl
  rw [hc, stS]
  rfl
theorem st_for (ft : List (List UInt8 × Int)) (s : St) (env : Env) (m : Int) (h : hdZ env ft s = 0) (h1 : s.kind = 7) : (dcZ env s.name.data.toList ≠ 0 → stS ft s env m = ⟨dcZ env s.name.data.toList, m, env, []⟩) ∧
    (dcZ env s.name.data.toList = 0 → stS ft s env m = ⟨(lsS ft s.body (dcEnv ((true, []) :: env) s.name.data.toList 3) m).e, (lsS ft s.body (dcEnv ((true, []) :: env) s.name.data.toList 3) m).m, env, hdC ft s ++ (lsS ft s.body (dcEnv ((true, []) :: env) s.name.data.toList 3) m).c⟩) := by
  obtain ⟨k, nm, nn, a, b, ba, bc, l, ea, ec, el, ca, cc, cs⟩ := s
  simp only [St.kind] at h1
  subst h1
  have hh : hdZ env ft (.mk 7 nm nn a b ba bc l ea ec el ca cc cs) = if exZ env ft a ≠ 0 then exZ env ft a else exZ env ft b := rfl
  have hc : hdC ft (.mk 7 nm nn a b ba bc l ea ec el ca cc cs) = exC ft a ++ exC ft b := rfl
  have hd : dcZ ((true, []) :: env) nm.data.toList = dcZ env nm.data.toList := rfl
  rw [hh] at h
  have ha : exZ env ft a = 0 := by by_cases h0 : exZ env ft a = 0; exact h0; rw [if_pos h0] at h; exact absurd h h0
  rw [if_neg (by simpa using ha)] at h
  refine ⟨fun h0 => ?_, fun h0 => ?_⟩
  · rw [stS]
    simp only [orF, St.name, hd, ha, h, ne_eq, not_true_eq_false, if_false] at h0 ⊢
    grind
  · rw [hc, stS]
    simp only [orF, St.name, St.body, hd, ha, h, ne_eq, not_true_eq_false, if_false] at h0 ⊢
    grind
theorem st_if (ft : List (List UInt8 × Int)) (s : St) (env : Env) (m : Int) (h : hdZ env ft s = 0) (h1 : s.kind = 5 ∨ s.kind = 6) : hdC ft s = exC ft s.a ∧ stS ft s env m =
      (if (lsS ft s.body ((lvZ env == 0, []) :: env) m).e ≠ 0 then ⟨(lsS ft s.body ((lvZ env == 0, []) :: env) m).e, (lsS ft s.body ((lvZ env == 0, []) :: env) m).m, env, []⟩
       else if (csS ft s.cases env (lsS ft s.body ((lvZ env == 0, []) :: env) m).m).e ≠ 0 then ⟨(csS ft s.cases env (lsS ft s.body ((lvZ env == 0, []) :: env) m).m).e, (csS ft s.cases env (lsS ft s.body ((lvZ env == 0, []) :: env) m).m).m, env, []⟩
       else ⟨(lsS ft s.els ((lvZ env == 0, []) :: env) (csS ft s.cases env (lsS ft s.body ((lvZ env == 0, []) :: env) m).m).m).e, (lsS ft s.els ((lvZ env == 0, []) :: env) (csS ft s.cases env (lsS ft s.body ((lvZ env == 0, []) :: env) m).m).m).m, env,
          exC ft s.a ++ (lsS ft s.body ((lvZ env == 0, []) :: env) m).c ++ (csS ft s.cases env (lsS ft s.body ((lvZ env == 0, []) :: env) m).m).c ++ (lsS ft s.els ((lvZ env == 0, []) :: env) (csS ft s.cases env (lsS ft s.body ((lvZ env == 0, []) :: env) m).m).m).c⟩) := by
  obtain ⟨k, nm, nn, a, b, ba, bc, l, ea, ec, el, ca, cc, cs⟩ := s
  simp only [St.kind] at h1
  have hh0 : hdZ env ft (.mk k nm nn a b ba bc l ea ec el ca cc cs) = if (if k = 3 then wrZ (envAt env nm.data.toList) else if k = 4 then ixZ (envAt env nm.data.toList) else if k = 8 then lvZ env else 0) ≠ 0 then (if k = 3 then wrZ (envAt env nm.data.toList) else if k = 4 then ixZ (envAt env nm.data.toList) else if k = 8 then lvZ env else 0) else if k = 8 ∨ k = 2 then 0 else if exZ env ft a ≠ 0 then exZ env ft a else if k = 4 ∨ k = 7 then exZ env ft b else 0 := rfl
  have hc0 : hdC ft (.mk k nm nn a b ba bc l ea ec el ca cc cs) = if k = 8 ∨ k = 2 then [] else exC ft a ++ (if k = 4 ∨ k = 7 then exC ft b else []) := rfl
  have n3 : ¬ k = 3 := by omega
  have n4 : ¬ k = 4 := by omega
  have n8 : ¬ k = 8 := by omega
  have n82 : ¬ (k = 8 ∨ k = 2) := by omega
  have n47 : ¬ (k = 4 ∨ k = 7) := by omega
  have hh : hdZ env ft (.mk k nm nn a b ba bc l ea ec el ca cc cs) = exZ env ft a := by
    rw [hh0, if_neg n3, if_neg n4, if_neg n8, if_neg (by simp), if_neg n82, if_neg n47]
    split
    · rfl
    · rename_i h0; exact (by simpa using h0 : exZ env ft a = 0).symm
  have hc : hdC ft (.mk k nm nn a b ba bc l ea ec el ca cc cs) = exC ft a := by
    rw [hc0, if_neg n82, if_neg n47, List.append_nil]
  rw [hh] at h
  refine ⟨hc, ?_⟩
  rw [stS, if_neg (by omega), if_neg (by omega), if_neg (by omega), if_neg (by omega), if_pos h1, if_neg (by simpa using h)]
  rfl
end Go.Proofs.YtkkcgkpbbngloaaGreatDoor

/- The document's own look at a statement: heads that are wrong, names that are made known, statements that are all head. -/
namespace Go.Proofs.YtkkcgkpbbngloaaGreatDoor
open Go.RowKit Go.Sort

set_option maxRecDepth 100000 in
set_option maxHeartbeats 4000000 in
theorem rst_bad (w0 : World) (b : Nat) (p : Pr) (k : Nat) (ft : List (List UInt8 × Int)) (q : Nat) (hp : p.In w0) (hkp : k ≤ p.funcs.length) (hf : RelF ft p.funcs k) (hn : p.funcs.length ≤ 1000) (iha : AlK w0 b p k ft q)
    (s : St) (f : Bool × List (List UInt8 × Int)) (env : Env) (n lp : Int) (kv : Value) (K : Kn) (cv : Value) (cl : List Bool) (w : World) (hq : qS s ≤ q + 1) (hin : s.In w0) (hB : Below w0.heap.size w0 w) (h : RS w0.heap.size w b p k n lp kv K 0 cv cl) (hr : RelK (f :: env) K) (hlv : lvZ (f :: env) = if lp = 0 then 32 else 0) (hl0 : 0 ≤ lp) (hl1 : lp + qS s ≤ 1000000000) (hK : K.length + qS s ≤ 900000) (hn0 : 0 ≤ n) (hn1 : n + qS s ≤ 1000000000) (hcl : cl.length = p.funcs.length) (hh : hdZ (f :: env) ft s ≠ 0) :
    Calls Tryz.prog 34 #[.pointer (some ⟨b, 0, none⟩), s.val] w fun r w' => r = .returned (.tuple #[]) ∧ SP w0.heap.size b p k lp kv K cv cl (stS ft s (f :: env) (n + 1)) w w' := by
  have hinS := St.in_iff.1 hin
  have hb1 := (Below.refl _ w).alloc (Nat.le_refl _) (.cells s.cells.toArray 44)
  have h1 := h.stay hb1
  have hbB : w.heap.size ∉ b :: (ob kv ++ ob cv) := fun hx => by
    rcases List.mem_cons.1 hx with e | hx
    · have := h.lt; omega
    rcases List.mem_append.1 hx with hx | hx
    · have := (gown_lt h.2.1 _ hx).2; omega
    · have := (gown_lt h.2.2.1 _ hx).2; omega
  have HXC : Hid (∀ W', Fr (b :: (ob kv ++ ob cv)) (w.alloc (.cells s.cells.toArray 44)) W' → ∀ j u, s.cells[j]? = some u → W'.cell? ⟨w.heap.size, j, none⟩ = some u) := fun W' hf j u hu => by
    rw [hf.cell (by simp) hbB, World.cell?_alloc_at _ _ _ _ rfl]; simpa using hu
  have HFIN : Hid (∀ W', Fr (b :: (ob kv ++ ob cv)) (w.alloc (.cells s.cells.toArray 44)) W' → Fr (b :: (ob kv ++ ob cv)) w W' ∧ Below w0.heap.size w0 W' ∧ w.heap.size ≤ W'.heap.size) := fun W' hf => by
    have h1 : Fr (b :: (ob kv ++ ob cv)) w W' := (Fr.of_below hb1).trans hf
    exact ⟨h1, hB.trans (h1.below (rs_ge h) hB.size), h1.size⟩
  have hsub : ∀ x ∈ b :: ob cv, x ∈ b :: (ob kv ++ ob cv) := fun x hx => by
    rcases List.mem_cons.1 hx with rfl | hx
    · simp
    · simp [hx]
  have HSUB := Hid.mk' hsub
  have hsubk : ∀ x ∈ b :: ob kv, x ∈ b :: (ob kv ++ ob cv) := fun x hx => by
    rcases List.mem_cons.1 hx with rfl | hx
    · simp
    · simp [hx]
  have HSUBK := Hid.mk' hsubk
  have hK0 : K.length ≤ 900000 := by omega
  have HH : Hid (∀ W2, Below w0.heap.size w0 W2 → RS w0.heap.size W2 b p k (n + 1) lp kv K 0 cv cl → Calls Tryz.prog 60 #[.pointer (some ⟨b, 0, none⟩), s.val] W2 fun r w' => r = .returned (.tuple #[]) ∧ EP w0.heap.size b p k (n + 1) lp kv K cv cl (hdZ (f :: env) ft s) (hdC ft s) W2 w') := fun W2 hB2 h2 => rhead_any w0 b p k ft hp hkp hf hn s (f :: env) (n + 1) lp kv K cv cl W2 hin hB2 h2 hr hlv (by omega) hcl
  have hnn : n ≤ 1000000000 := by omega
  have HNB := Hid.mk' (And.intro hl0 (And.intro hl1 (And.intro hK (And.intro hn0 (And.intro hn1 (And.intro hcl hq))))))
  have HREL := Hid.mk' (And.intro hr hlv)
  have HINS := Hid.mk' hinS
  have IHA := Hid.mk' iha
  have H1 := Hid.mk' h1
  have c3 := h1.cell (j := 3) rfl
  have q3 := h1.frozen 3
  have HFR := Hid.mk' (Fr.refl (b :: (ob kv ++ ob cv)) (w.alloc (.cells s.cells.toArray 44)))
  clear h h1 hb1 hr hf hin hK hcl hn hB hp hlv hinS hbB hsub hsubk hl1 hn1 hq iha hl0
  unfold St.cells at HXC HFIN H1 HFR c3 q3
  unfold St.val at HH ⊢
  go_enter Tryz.func34, Tryz.ntmps34
  go_upto_region 1 with fail
  have HW1 : Hid (w.heap.size ≤ (w.alloc (.cells #[.int .i64 s.kind, .string s.name, .int .i64 s.n, .int .i64 s.a.kind, .int .i64 s.a.n, .string s.a.name, .slice s.a.a s.a.args.length s.a.cap, .int .i64 s.b.kind, .int .i64 s.b.n, .string s.b.name, .slice s.b.a s.b.args.length s.b.cap, .slice s.ba s.body.length s.bc, .slice s.ea s.els.length s.ec, .slice s.ca s.cases.length s.cc] 44)).heap.size) := by show _ ≤ _; simp
  generalize w.alloc (.cells #[.int .i64 s.kind, .string s.name, .int .i64 s.n, .int .i64 s.a.kind, .int .i64 s.a.n, .string s.a.name, .slice s.a.a s.a.args.length s.a.cap, .int .i64 s.b.kind, .int .i64 s.b.n, .string s.b.name, .slice s.b.a s.b.args.length s.b.cap, .slice s.ba s.body.length s.bc, .slice s.ea s.els.length s.ec, .slice s.ca s.cases.length s.cc] 44) = W1 at *
  have HF2 : Hid (Fr (b :: (ob kv ++ ob cv)) W1 (W1.setCell ⟨b, 3, none⟩ (.int .i64 (n + 1)))) := HFR.out.set (by simp) _ _
  have H2 := Hid.mk' (H1.out.setN (n + 1))
  go_upto_region 2 with fail
  clear c3 q3
  generalize W1.setCell ⟨b, 3, none⟩ (.int .i64 (n + 1)) = W2 at *
  have x0 := HXC.out _ HF2.out 0 _ rfl
  have x1 := HXC.out _ HF2.out 1 _ rfl
  have x2 := HXC.out _ HF2.out 2 _ rfl
  have x3 := HXC.out _ HF2.out 3 _ rfl
  have x4 := HXC.out _ HF2.out 4 _ rfl
  have x5 := HXC.out _ HF2.out 5 _ rfl
  have x6 := HXC.out _ HF2.out 6 _ rfl
  have x7 := HXC.out _ HF2.out 7 _ rfl
  have x8 := HXC.out _ HF2.out 8 _ rfl
  have x9 := HXC.out _ HF2.out 9 _ rfl
  have x10 := HXC.out _ HF2.out 10 _ rfl
  have x11 := HXC.out _ HF2.out 11 _ rfl
  have x12 := HXC.out _ HF2.out 12 _ rfl
  have x13 := HXC.out _ HF2.out 13 _ rfl
  generalize hBB : w.heap.size = B at HXC HFIN x0 x1 x2 x3 x4 x5 x6 x7 x8 x9 x10 x11 x12 x13 ⊢
  have HBB := Hid.mk' hBB
  clear hBB
  go_wp2_with fail
  refine (HH.out _ (HFIN.out _ HF2.out).2.1 H2.out).mono ?_
  rintro r w3 ⟨rfl, cl3, m1, m2, m3, m4⟩
  have hf3 := HF2.out.trans (m4.mono HSUB.out)
  have c6 := m1.cell (j := 6) rfl
  have HM := Hid.mk' (And.intro m1 (And.intro m2 (And.intro m3 hf3)))
  clear m1 m2 m3 m4 hf3 H1 H2 HFR HF2 HH
  clear x0 x1 x2 x3 x4 x5 x6 x7 x8 x9 x10 x11 x12 x13
  have HB := Hid.mk' (st_bad ft s (f :: env) (n + 1) hh)
  generalize hdZ (f :: env) ft s = hz at *
  have hzb : (hz != 0) = true := by simpa using hh
  have HHH := Hid.mk' hh
  clear hh
  go_wp2_with fail
  exact bodyPost_ret (v := .tuple #[]) (by simp [results, Tryz.results34, go_sem]) rfl ⟨rfl, kv, K, cl3, by rw [HB.out.1, HB.out.2]; exact HM.out.1, fun e => absurd (HB.out.1.symm.trans e) HHH.out, ⟨[], by simp, by simp⟩, HM.out.2.2.1, (HFIN.out _ HM.out.2.2.2).1, fun g hg => Or.inl hg⟩
set_option maxRecDepth 100000 in
set_option maxHeartbeats 4000000 in
theorem rst_let (w0 : World) (b : Nat) (p : Pr) (k : Nat) (ft : List (List UInt8 × Int)) (q : Nat) (hp : p.In w0) (hkp : k ≤ p.funcs.length) (hf : RelF ft p.funcs k) (hn : p.funcs.length ≤ 1000) (iha : AlK w0 b p k ft q)
    (s : St) (f : Bool × List (List UInt8 × Int)) (env : Env) (n lp : Int) (kv : Value) (K : Kn) (cv : Value) (cl : List Bool) (w : World) (hq : qS s ≤ q + 1) (hin : s.In w0) (hB : Below w0.heap.size w0 w) (h : RS w0.heap.size w b p k n lp kv K 0 cv cl) (hr : RelK (f :: env) K) (hlv : lvZ (f :: env) = if lp = 0 then 32 else 0) (hl0 : 0 ≤ lp) (hl1 : lp + qS s ≤ 1000000000) (hK : K.length + qS s ≤ 900000) (hn0 : 0 ≤ n) (hn1 : n + qS s ≤ 1000000000) (hcl : cl.length = p.funcs.length) (hh : hdZ (f :: env) ft s = 0) (hk : s.kind = 1) :
    Calls Tryz.prog 34 #[.pointer (some ⟨b, 0, none⟩), s.val] w fun r w' => r = .returned (.tuple #[]) ∧ SP w0.heap.size b p k lp kv K cv cl (stS ft s (f :: env) (n + 1)) w w' := by
  have hinS := St.in_iff.1 hin
  have hb1 := (Below.refl _ w).alloc (Nat.le_refl _) (.cells s.cells.toArray 44)
  have h1 := h.stay hb1
  have hbB : w.heap.size ∉ b :: (ob kv ++ ob cv) := fun hx => by
    rcases List.mem_cons.1 hx with e | hx
    · have := h.lt; omega
    rcases List.mem_append.1 hx with hx | hx
    · have := (gown_lt h.2.1 _ hx).2; omega
    · have := (gown_lt h.2.2.1 _ hx).2; omega
  have HXC : Hid (∀ W', Fr (b :: (ob kv ++ ob cv)) (w.alloc (.cells s.cells.toArray 44)) W' → ∀ j u, s.cells[j]? = some u → W'.cell? ⟨w.heap.size, j, none⟩ = some u) := fun W' hf j u hu => by
    rw [hf.cell (by simp) hbB, World.cell?_alloc_at _ _ _ _ rfl]; simpa using hu
  have HFIN : Hid (∀ W', Fr (b :: (ob kv ++ ob cv)) (w.alloc (.cells s.cells.toArray 44)) W' → Fr (b :: (ob kv ++ ob cv)) w W' ∧ Below w0.heap.size w0 W' ∧ w.heap.size ≤ W'.heap.size) := fun W' hf => by
    have h1 : Fr (b :: (ob kv ++ ob cv)) w W' := (Fr.of_below hb1).trans hf
    exact ⟨h1, hB.trans (h1.below (rs_ge h) hB.size), h1.size⟩
  have hsub : ∀ x ∈ b :: ob cv, x ∈ b :: (ob kv ++ ob cv) := fun x hx => by
    rcases List.mem_cons.1 hx with rfl | hx
    · simp
    · simp [hx]
  have HSUB := Hid.mk' hsub
  have hsubk : ∀ x ∈ b :: ob kv, x ∈ b :: (ob kv ++ ob cv) := fun x hx => by
    rcases List.mem_cons.1 hx with rfl | hx
    · simp
    · simp [hx]
  have HSUBK := Hid.mk' hsubk
  have hK0 : K.length ≤ 900000 := by omega
  have HH : Hid (∀ W2, Below w0.heap.size w0 W2 → RS w0.heap.size W2 b p k (n + 1) lp kv K 0 cv cl → Calls Tryz.prog 60 #[.pointer (some ⟨b, 0, none⟩), s.val] W2 fun r w' => r = .returned (.tuple #[]) ∧ EP w0.heap.size b p k (n + 1) lp kv K cv cl (hdZ (f :: env) ft s) (hdC ft s) W2 w') := fun W2 hB2 h2 => rhead_any w0 b p k ft hp hkp hf hn s (f :: env) (n + 1) lp kv K cv cl W2 hin hB2 h2 hr hlv (by omega) hcl
  have hnn : n ≤ 1000000000 := by omega
  have HNB := Hid.mk' (And.intro hl0 (And.intro hl1 (And.intro hK (And.intro hn0 (And.intro hn1 (And.intro hcl hq))))))
  have HREL := Hid.mk' (And.intro hr hlv)
  have HINS := Hid.mk' hinS
  have IHA := Hid.mk' iha
  have H1 := Hid.mk' h1
  have c3 := h1.cell (j := 3) rfl
  have q3 := h1.frozen 3
  have HFR := Hid.mk' (Fr.refl (b :: (ob kv ++ ob cv)) (w.alloc (.cells s.cells.toArray 44)))
  have HKK := Hid.mk' hk
  clear hk
  clear h h1 hb1 hr hf hin hK hcl hn hB hp hlv hinS hbB hsub hsubk hl1 hn1 hq iha hl0
  unfold St.cells at HXC HFIN H1 HFR c3 q3
  unfold St.val at HH ⊢
  go_enter Tryz.func34, Tryz.ntmps34
  go_upto_region 1 with fail
  have HW1 : Hid (w.heap.size ≤ (w.alloc (.cells #[.int .i64 s.kind, .string s.name, .int .i64 s.n, .int .i64 s.a.kind, .int .i64 s.a.n, .string s.a.name, .slice s.a.a s.a.args.length s.a.cap, .int .i64 s.b.kind, .int .i64 s.b.n, .string s.b.name, .slice s.b.a s.b.args.length s.b.cap, .slice s.ba s.body.length s.bc, .slice s.ea s.els.length s.ec, .slice s.ca s.cases.length s.cc] 44)).heap.size) := by show _ ≤ _; simp
  generalize w.alloc (.cells #[.int .i64 s.kind, .string s.name, .int .i64 s.n, .int .i64 s.a.kind, .int .i64 s.a.n, .string s.a.name, .slice s.a.a s.a.args.length s.a.cap, .int .i64 s.b.kind, .int .i64 s.b.n, .string s.b.name, .slice s.b.a s.b.args.length s.b.cap, .slice s.ba s.body.length s.bc, .slice s.ea s.els.length s.ec, .slice s.ca s.cases.length s.cc] 44) = W1 at *
  have HF2 : Hid (Fr (b :: (ob kv ++ ob cv)) W1 (W1.setCell ⟨b, 3, none⟩ (.int .i64 (n + 1)))) := HFR.out.set (by simp) _ _
  have H2 := Hid.mk' (H1.out.setN (n + 1))
  go_upto_region 2 with fail
  clear c3 q3
  generalize W1.setCell ⟨b, 3, none⟩ (.int .i64 (n + 1)) = W2 at *
  have x0 := HXC.out _ HF2.out 0 _ rfl
  have x1 := HXC.out _ HF2.out 1 _ rfl
  have x2 := HXC.out _ HF2.out 2 _ rfl
  have x3 := HXC.out _ HF2.out 3 _ rfl
  have x4 := HXC.out _ HF2.out 4 _ rfl
  have x5 := HXC.out _ HF2.out 5 _ rfl
  have x6 := HXC.out _ HF2.out 6 _ rfl
  have x7 := HXC.out _ HF2.out 7 _ rfl
  have x8 := HXC.out _ HF2.out 8 _ rfl
  have x9 := HXC.out _ HF2.out 9 _ rfl
  have x10 := HXC.out _ HF2.out 10 _ rfl
  have x11 := HXC.out _ HF2.out 11 _ rfl
  have x12 := HXC.out _ HF2.out 12 _ rfl
  have x13 := HXC.out _ HF2.out 13 _ rfl
  generalize hBB : w.heap.size = B at HXC HFIN x0 x1 x2 x3 x4 x5 x6 x7 x8 x9 x10 x11 x12 x13 ⊢
  have HBB := Hid.mk' hBB
  clear hBB
  go_wp2_with fail
  refine (HH.out _ (HFIN.out _ HF2.out).2.1 H2.out).mono ?_
  rintro r w3 ⟨rfl, cl3, m1, m2, m3, m4⟩
  have hf3 := HF2.out.trans (m4.mono HSUB.out)
  have c6 := m1.cell (j := 6) rfl
  have HM := Hid.mk' (And.intro m1 (And.intro m2 (And.intro m3 hf3)))
  clear m1 m2 m3 m4 hf3 H1 H2 HFR HF2 HH
  clear x0 x1 x2 x3 x4 x5 x6 x7 x8 x9 x10 x11 x12 x13
  have hz0 := hh
  rw [hh] at HM c6
  have HB := Hid.mk' (st_let ft s (f :: env) (n + 1) hh HKK.out)
  have HFS := Hid.mk' (rfresh_any s.name 118 HM.out.1 hK0 (Nat.le_trans (HFIN.out _ HM.out.2.2.2).2.1.size (Nat.le_refl _)))
  rw [← dc_kd HREL.out.1] at HFS
  have HPUT := Hid.mk' (fun h0 => HREL.out.1.put s.name 118 (by omega) h0)
  have HZ0 := Hid.mk' hh
  have x0 := HXC.out _ HM.out.2.2.2 0 _ rfl
  have x1 := HXC.out _ HM.out.2.2.2 1 _ rfl
  have x2 := HXC.out _ HM.out.2.2.2 2 _ rfl
  have x3 := HXC.out _ HM.out.2.2.2 3 _ rfl
  have x4 := HXC.out _ HM.out.2.2.2 4 _ rfl
  have x5 := HXC.out _ HM.out.2.2.2 5 _ rfl
  have x6 := HXC.out _ HM.out.2.2.2 6 _ rfl
  have x7 := HXC.out _ HM.out.2.2.2 7 _ rfl
  have x8 := HXC.out _ HM.out.2.2.2 8 _ rfl
  have x9 := HXC.out _ HM.out.2.2.2 9 _ rfl
  have x10 := HXC.out _ HM.out.2.2.2 10 _ rfl
  have x11 := HXC.out _ HM.out.2.2.2 11 _ rfl
  have x12 := HXC.out _ HM.out.2.2.2 12 _ rfl
  have x13 := HXC.out _ HM.out.2.2.2 13 _ rfl
  have b1 : (s.kind == 1) = true := by rw [HKK.out]; rfl
  clear hh hz0
  go_wp2_with fail
  refine HFS.out.mono ?_
  rintro r w5 ⟨rfl, kv5, g1, g2, g3⟩
  have HG := Hid.mk' (And.intro g1 (And.intro g2 g3))
  clear g1 g2 g3 HFS
  go_wp2_with fail
  go_end0
  rw [HB.out]
  refine ⟨rfl, kv5, _, cl3, HG.out.1, fun e => ⟨HM.out.2.1 (by first | rfl | trivial), HPUT.out e⟩, ⟨_, rfl, by simp⟩, HM.out.2.2.1, (HFIN.out _ (HM.out.2.2.2.trans (HG.out.2.1.mono HSUBK.out))).1, fun g hg => ?_⟩
  rcases HG.out.2.2 g hg with h' | h'
  · exact Or.inl h'
  · exact Or.inr (by rw [HBB.out]; exact Nat.le_trans (HFIN.out _ HM.out.2.2.2).2.2 h')
set_option maxRecDepth 100000 in
set_option maxHeartbeats 4000000 in
theorem rst_arr (w0 : World) (b : Nat) (p : Pr) (k : Nat) (ft : List (List UInt8 × Int)) (q : Nat) (hp : p.In w0) (hkp : k ≤ p.funcs.length) (hf : RelF ft p.funcs k) (hn : p.funcs.length ≤ 1000) (iha : AlK w0 b p k ft q)
    (s : St) (f : Bool × List (List UInt8 × Int)) (env : Env) (n lp : Int) (kv : Value) (K : Kn) (cv : Value) (cl : List Bool) (w : World) (hq : qS s ≤ q + 1) (hin : s.In w0) (hB : Below w0.heap.size w0 w) (h : RS w0.heap.size w b p k n lp kv K 0 cv cl) (hr : RelK (f :: env) K) (hlv : lvZ (f :: env) = if lp = 0 then 32 else 0) (hl0 : 0 ≤ lp) (hl1 : lp + qS s ≤ 1000000000) (hK : K.length + qS s ≤ 900000) (hn0 : 0 ≤ n) (hn1 : n + qS s ≤ 1000000000) (hcl : cl.length = p.funcs.length) (hh : hdZ (f :: env) ft s = 0) (hk : s.kind = 2) :
    Calls Tryz.prog 34 #[.pointer (some ⟨b, 0, none⟩), s.val] w fun r w' => r = .returned (.tuple #[]) ∧ SP w0.heap.size b p k lp kv K cv cl (stS ft s (f :: env) (n + 1)) w w' := by
  have hinS := St.in_iff.1 hin
  have hb1 := (Below.refl _ w).alloc (Nat.le_refl _) (.cells s.cells.toArray 44)
  have h1 := h.stay hb1
  have hbB : w.heap.size ∉ b :: (ob kv ++ ob cv) := fun hx => by
    rcases List.mem_cons.1 hx with e | hx
    · have := h.lt; omega
    rcases List.mem_append.1 hx with hx | hx
    · have := (gown_lt h.2.1 _ hx).2; omega
    · have := (gown_lt h.2.2.1 _ hx).2; omega
  have HXC : Hid (∀ W', Fr (b :: (ob kv ++ ob cv)) (w.alloc (.cells s.cells.toArray 44)) W' → ∀ j u, s.cells[j]? = some u → W'.cell? ⟨w.heap.size, j, none⟩ = some u) := fun W' hf j u hu => by
    rw [hf.cell (by simp) hbB, World.cell?_alloc_at _ _ _ _ rfl]; simpa using hu
  have HFIN : Hid (∀ W', Fr (b :: (ob kv ++ ob cv)) (w.alloc (.cells s.cells.toArray 44)) W' → Fr (b :: (ob kv ++ ob cv)) w W' ∧ Below w0.heap.size w0 W' ∧ w.heap.size ≤ W'.heap.size) := fun W' hf => by
    have h1 : Fr (b :: (ob kv ++ ob cv)) w W' := (Fr.of_below hb1).trans hf
    exact ⟨h1, hB.trans (h1.below (rs_ge h) hB.size), h1.size⟩
  have hsub : ∀ x ∈ b :: ob cv, x ∈ b :: (ob kv ++ ob cv) := fun x hx => by
    rcases List.mem_cons.1 hx with rfl | hx
    · simp
    · simp [hx]
  have HSUB := Hid.mk' hsub
  have hsubk : ∀ x ∈ b :: ob kv, x ∈ b :: (ob kv ++ ob cv) := fun x hx => by
    rcases List.mem_cons.1 hx with rfl | hx
    · simp
    · simp [hx]
  have HSUBK := Hid.mk' hsubk
  have hK0 : K.length ≤ 900000 := by omega
  have HH : Hid (∀ W2, Below w0.heap.size w0 W2 → RS w0.heap.size W2 b p k (n + 1) lp kv K 0 cv cl → Calls Tryz.prog 60 #[.pointer (some ⟨b, 0, none⟩), s.val] W2 fun r w' => r = .returned (.tuple #[]) ∧ EP w0.heap.size b p k (n + 1) lp kv K cv cl (hdZ (f :: env) ft s) (hdC ft s) W2 w') := fun W2 hB2 h2 => rhead_any w0 b p k ft hp hkp hf hn s (f :: env) (n + 1) lp kv K cv cl W2 hin hB2 h2 hr hlv (by omega) hcl
  have hnn : n ≤ 1000000000 := by omega
  have HNB := Hid.mk' (And.intro hl0 (And.intro hl1 (And.intro hK (And.intro hn0 (And.intro hn1 (And.intro hcl hq))))))
  have HREL := Hid.mk' (And.intro hr hlv)
  have HINS := Hid.mk' hinS
  have IHA := Hid.mk' iha
  have H1 := Hid.mk' h1
  have c3 := h1.cell (j := 3) rfl
  have q3 := h1.frozen 3
  have HFR := Hid.mk' (Fr.refl (b :: (ob kv ++ ob cv)) (w.alloc (.cells s.cells.toArray 44)))
  have HKK := Hid.mk' hk
  clear hk
  clear h h1 hb1 hr hf hin hK hcl hn hB hp hlv hinS hbB hsub hsubk hl1 hn1 hq iha hl0
  unfold St.cells at HXC HFIN H1 HFR c3 q3
  unfold St.val at HH ⊢
  go_enter Tryz.func34, Tryz.ntmps34
  go_upto_region 1 with fail
  have HW1 : Hid (w.heap.size ≤ (w.alloc (.cells #[.int .i64 s.kind, .string s.name, .int .i64 s.n, .int .i64 s.a.kind, .int .i64 s.a.n, .string s.a.name, .slice s.a.a s.a.args.length s.a.cap, .int .i64 s.b.kind, .int .i64 s.b.n, .string s.b.name, .slice s.b.a s.b.args.length s.b.cap, .slice s.ba s.body.length s.bc, .slice s.ea s.els.length s.ec, .slice s.ca s.cases.length s.cc] 44)).heap.size) := by show _ ≤ _; simp
  generalize w.alloc (.cells #[.int .i64 s.kind, .string s.name, .int .i64 s.n, .int .i64 s.a.kind, .int .i64 s.a.n, .string s.a.name, .slice s.a.a s.a.args.length s.a.cap, .int .i64 s.b.kind, .int .i64 s.b.n, .string s.b.name, .slice s.b.a s.b.args.length s.b.cap, .slice s.ba s.body.length s.bc, .slice s.ea s.els.length s.ec, .slice s.ca s.cases.length s.cc] 44) = W1 at *
  have HF2 : Hid (Fr (b :: (ob kv ++ ob cv)) W1 (W1.setCell ⟨b, 3, none⟩ (.int .i64 (n + 1)))) := HFR.out.set (by simp) _ _
  have H2 := Hid.mk' (H1.out.setN (n + 1))
  go_upto_region 2 with fail
  clear c3 q3
  generalize W1.setCell ⟨b, 3, none⟩ (.int .i64 (n + 1)) = W2 at *
  have x0 := HXC.out _ HF2.out 0 _ rfl
  have x1 := HXC.out _ HF2.out 1 _ rfl
  have x2 := HXC.out _ HF2.out 2 _ rfl
  have x3 := HXC.out _ HF2.out 3 _ rfl
  have x4 := HXC.out _ HF2.out 4 _ rfl
  have x5 := HXC.out _ HF2.out 5 _ rfl
  have x6 := HXC.out _ HF2.out 6 _ rfl
  have x7 := HXC.out _ HF2.out 7 _ rfl
  have x8 := HXC.out _ HF2.out 8 _ rfl
  have x9 := HXC.out _ HF2.out 9 _ rfl
  have x10 := HXC.out _ HF2.out 10 _ rfl
  have x11 := HXC.out _ HF2.out 11 _ rfl
  have x12 := HXC.out _ HF2.out 12 _ rfl
  have x13 := HXC.out _ HF2.out 13 _ rfl
  generalize hBB : w.heap.size = B at HXC HFIN x0 x1 x2 x3 x4 x5 x6 x7 x8 x9 x10 x11 x12 x13 ⊢
  have HBB := Hid.mk' hBB
  clear hBB
  go_wp2_with fail
  refine (HH.out _ (HFIN.out _ HF2.out).2.1 H2.out).mono ?_
  rintro r w3 ⟨rfl, cl3, m1, m2, m3, m4⟩
  have hf3 := HF2.out.trans (m4.mono HSUB.out)
  have c6 := m1.cell (j := 6) rfl
  have HM := Hid.mk' (And.intro m1 (And.intro m2 (And.intro m3 hf3)))
  clear m1 m2 m3 m4 hf3 H1 H2 HFR HF2 HH
  clear x0 x1 x2 x3 x4 x5 x6 x7 x8 x9 x10 x11 x12 x13
  have hz0 := hh
  rw [hh] at HM c6
  have HB := Hid.mk' (st_arr ft s (f :: env) (n + 1) HKK.out)
  have HFS := Hid.mk' (rfresh_any s.name 97 HM.out.1 hK0 (Nat.le_trans (HFIN.out _ HM.out.2.2.2).2.1.size (Nat.le_refl _)))
  rw [← dc_kd HREL.out.1] at HFS
  have HPUT := Hid.mk' (fun h0 => HREL.out.1.put s.name 97 (by omega) h0)
  have HZ0 := Hid.mk' hh
  have x0 := HXC.out _ HM.out.2.2.2 0 _ rfl
  have x1 := HXC.out _ HM.out.2.2.2 1 _ rfl
  have x2 := HXC.out _ HM.out.2.2.2 2 _ rfl
  have x3 := HXC.out _ HM.out.2.2.2 3 _ rfl
  have x4 := HXC.out _ HM.out.2.2.2 4 _ rfl
  have x5 := HXC.out _ HM.out.2.2.2 5 _ rfl
  have x6 := HXC.out _ HM.out.2.2.2 6 _ rfl
  have x7 := HXC.out _ HM.out.2.2.2 7 _ rfl
  have x8 := HXC.out _ HM.out.2.2.2 8 _ rfl
  have x9 := HXC.out _ HM.out.2.2.2 9 _ rfl
  have x10 := HXC.out _ HM.out.2.2.2 10 _ rfl
  have x11 := HXC.out _ HM.out.2.2.2 11 _ rfl
  have x12 := HXC.out _ HM.out.2.2.2 12 _ rfl
  have x13 := HXC.out _ HM.out.2.2.2 13 _ rfl
  have b1 : (s.kind == 1) = false := by rw [HKK.out]; rfl
  have b2 : (s.kind == 2) = true := by rw [HKK.out]; rfl
  clear hh hz0
  go_wp2_with fail
  refine HFS.out.mono ?_
  rintro r w5 ⟨rfl, kv5, g1, g2, g3⟩
  have HG := Hid.mk' (And.intro g1 (And.intro g2 g3))
  clear g1 g2 g3 HFS
  go_wp2_with fail
  go_end0
  rw [HB.out]
  refine ⟨rfl, kv5, _, cl3, HG.out.1, fun e => ⟨HM.out.2.1 (by first | rfl | trivial), HPUT.out e⟩, ⟨_, rfl, by simp⟩, HM.out.2.2.1, (HFIN.out _ (HM.out.2.2.2.trans (HG.out.2.1.mono HSUBK.out))).1, fun g hg => ?_⟩
  rcases HG.out.2.2 g hg with h' | h'
  · exact Or.inl h'
  · exact Or.inr (by rw [HBB.out]; exact Nat.le_trans (HFIN.out _ HM.out.2.2.2).2.2 h')
set_option maxRecDepth 100000 in
set_option maxHeartbeats 4000000 in
theorem rst_only (w0 : World) (b : Nat) (p : Pr) (k : Nat) (ft : List (List UInt8 × Int)) (q : Nat) (hp : p.In w0) (hkp : k ≤ p.funcs.length) (hf : RelF ft p.funcs k) (hn : p.funcs.length ≤ 1000) (iha : AlK w0 b p k ft q)
    (s : St) (f : Bool × List (List UInt8 × Int)) (env : Env) (n lp : Int) (kv : Value) (K : Kn) (cv : Value) (cl : List Bool) (w : World) (hq : qS s ≤ q + 1) (hin : s.In w0) (hB : Below w0.heap.size w0 w) (h : RS w0.heap.size w b p k n lp kv K 0 cv cl) (hr : RelK (f :: env) K) (hlv : lvZ (f :: env) = if lp = 0 then 32 else 0) (hl0 : 0 ≤ lp) (hl1 : lp + qS s ≤ 1000000000) (hK : K.length + qS s ≤ 900000) (hn0 : 0 ≤ n) (hn1 : n + qS s ≤ 1000000000) (hcl : cl.length = p.funcs.length) (hh : hdZ (f :: env) ft s = 0) (n1 : s.kind ≠ 1) (n2 : s.kind ≠ 2) (n5 : s.kind ≠ 5) (n6 : s.kind ≠ 6) (n7 : s.kind ≠ 7) :
    Calls Tryz.prog 34 #[.pointer (some ⟨b, 0, none⟩), s.val] w fun r w' => r = .returned (.tuple #[]) ∧ SP w0.heap.size b p k lp kv K cv cl (stS ft s (f :: env) (n + 1)) w w' := by
  have hinS := St.in_iff.1 hin
  have hb1 := (Below.refl _ w).alloc (Nat.le_refl _) (.cells s.cells.toArray 44)
  have h1 := h.stay hb1
  have hbB : w.heap.size ∉ b :: (ob kv ++ ob cv) := fun hx => by
    rcases List.mem_cons.1 hx with e | hx
    · have := h.lt; omega
    rcases List.mem_append.1 hx with hx | hx
    · have := (gown_lt h.2.1 _ hx).2; omega
    · have := (gown_lt h.2.2.1 _ hx).2; omega
  have HXC : Hid (∀ W', Fr (b :: (ob kv ++ ob cv)) (w.alloc (.cells s.cells.toArray 44)) W' → ∀ j u, s.cells[j]? = some u → W'.cell? ⟨w.heap.size, j, none⟩ = some u) := fun W' hf j u hu => by
    rw [hf.cell (by simp) hbB, World.cell?_alloc_at _ _ _ _ rfl]; simpa using hu
  have HFIN : Hid (∀ W', Fr (b :: (ob kv ++ ob cv)) (w.alloc (.cells s.cells.toArray 44)) W' → Fr (b :: (ob kv ++ ob cv)) w W' ∧ Below w0.heap.size w0 W' ∧ w.heap.size ≤ W'.heap.size) := fun W' hf => by
    have h1 : Fr (b :: (ob kv ++ ob cv)) w W' := (Fr.of_below hb1).trans hf
    exact ⟨h1, hB.trans (h1.below (rs_ge h) hB.size), h1.size⟩
  have hsub : ∀ x ∈ b :: ob cv, x ∈ b :: (ob kv ++ ob cv) := fun x hx => by
    rcases List.mem_cons.1 hx with rfl | hx
    · simp
    · simp [hx]
  have HSUB := Hid.mk' hsub
  have hsubk : ∀ x ∈ b :: ob kv, x ∈ b :: (ob kv ++ ob cv) := fun x hx => by
    rcases List.mem_cons.1 hx with rfl | hx
    · simp
    · simp [hx]
  have HSUBK := Hid.mk' hsubk
  have hK0 : K.length ≤ 900000 := by omega
  have HH : Hid (∀ W2, Below w0.heap.size w0 W2 → RS w0.heap.size W2 b p k (n + 1) lp kv K 0 cv cl → Calls Tryz.prog 60 #[.pointer (some ⟨b, 0, none⟩), s.val] W2 fun r w' => r = .returned (.tuple #[]) ∧ EP w0.heap.size b p k (n + 1) lp kv K cv cl (hdZ (f :: env) ft s) (hdC ft s) W2 w') := fun W2 hB2 h2 => rhead_any w0 b p k ft hp hkp hf hn s (f :: env) (n + 1) lp kv K cv cl W2 hin hB2 h2 hr hlv (by omega) hcl
  have hnn : n ≤ 1000000000 := by omega
  have HNB := Hid.mk' (And.intro hl0 (And.intro hl1 (And.intro hK (And.intro hn0 (And.intro hn1 (And.intro hcl hq))))))
  have HREL := Hid.mk' (And.intro hr hlv)
  have HINS := Hid.mk' hinS
  have IHA := Hid.mk' iha
  have H1 := Hid.mk' h1
  have c3 := h1.cell (j := 3) rfl
  have q3 := h1.frozen 3
  have HFR := Hid.mk' (Fr.refl (b :: (ob kv ++ ob cv)) (w.alloc (.cells s.cells.toArray 44)))
  clear h h1 hb1 hr hf hin hK hcl hn hB hp hlv hinS hbB hsub hsubk hl1 hn1 hq iha hl0
  unfold St.cells at HXC HFIN H1 HFR c3 q3
  unfold St.val at HH ⊢
  go_enter Tryz.func34, Tryz.ntmps34
  go_upto_region 1 with fail
  have HW1 : Hid (w.heap.size ≤ (w.alloc (.cells #[.int .i64 s.kind, .string s.name, .int .i64 s.n, .int .i64 s.a.kind, .int .i64 s.a.n, .string s.a.name, .slice s.a.a s.a.args.length s.a.cap, .int .i64 s.b.kind, .int .i64 s.b.n, .string s.b.name, .slice s.b.a s.b.args.length s.b.cap, .slice s.ba s.body.length s.bc, .slice s.ea s.els.length s.ec, .slice s.ca s.cases.length s.cc] 44)).heap.size) := by show _ ≤ _; simp
  generalize w.alloc (.cells #[.int .i64 s.kind, .string s.name, .int .i64 s.n, .int .i64 s.a.kind, .int .i64 s.a.n, .string s.a.name, .slice s.a.a s.a.args.length s.a.cap, .int .i64 s.b.kind, .int .i64 s.b.n, .string s.b.name, .slice s.b.a s.b.args.length s.b.cap, .slice s.ba s.body.length s.bc, .slice s.ea s.els.length s.ec, .slice s.ca s.cases.length s.cc] 44) = W1 at *
  have HF2 : Hid (Fr (b :: (ob kv ++ ob cv)) W1 (W1.setCell ⟨b, 3, none⟩ (.int .i64 (n + 1)))) := HFR.out.set (by simp) _ _
  have H2 := Hid.mk' (H1.out.setN (n + 1))
  go_upto_region 2 with fail
  clear c3 q3
  generalize W1.setCell ⟨b, 3, none⟩ (.int .i64 (n + 1)) = W2 at *
  have x0 := HXC.out _ HF2.out 0 _ rfl
  have x1 := HXC.out _ HF2.out 1 _ rfl
  have x2 := HXC.out _ HF2.out 2 _ rfl
  have x3 := HXC.out _ HF2.out 3 _ rfl
  have x4 := HXC.out _ HF2.out 4 _ rfl
  have x5 := HXC.out _ HF2.out 5 _ rfl
  have x6 := HXC.out _ HF2.out 6 _ rfl
  have x7 := HXC.out _ HF2.out 7 _ rfl
  have x8 := HXC.out _ HF2.out 8 _ rfl
  have x9 := HXC.out _ HF2.out 9 _ rfl
  have x10 := HXC.out _ HF2.out 10 _ rfl
  have x11 := HXC.out _ HF2.out 11 _ rfl
  have x12 := HXC.out _ HF2.out 12 _ rfl
  have x13 := HXC.out _ HF2.out 13 _ rfl
  generalize hBB : w.heap.size = B at HXC HFIN x0 x1 x2 x3 x4 x5 x6 x7 x8 x9 x10 x11 x12 x13 ⊢
  have HBB := Hid.mk' hBB
  clear hBB
  go_wp2_with fail
  refine (HH.out _ (HFIN.out _ HF2.out).2.1 H2.out).mono ?_
  rintro r w3 ⟨rfl, cl3, m1, m2, m3, m4⟩
  have hf3 := HF2.out.trans (m4.mono HSUB.out)
  have c6 := m1.cell (j := 6) rfl
  have HM := Hid.mk' (And.intro m1 (And.intro m2 (And.intro m3 hf3)))
  clear m1 m2 m3 m4 hf3 H1 H2 HFR HF2 HH
  clear x0 x1 x2 x3 x4 x5 x6 x7 x8 x9 x10 x11 x12 x13
  have hz0 := hh
  rw [hh] at HM c6
  have HB := Hid.mk' (st_only ft s (f :: env) (n + 1) hh n1 n2 n5 n6 n7)
  have x0 := HXC.out _ HM.out.2.2.2 0 _ rfl
  have x1 := HXC.out _ HM.out.2.2.2 1 _ rfl
  have x2 := HXC.out _ HM.out.2.2.2 2 _ rfl
  have x3 := HXC.out _ HM.out.2.2.2 3 _ rfl
  have x4 := HXC.out _ HM.out.2.2.2 4 _ rfl
  have x5 := HXC.out _ HM.out.2.2.2 5 _ rfl
  have x6 := HXC.out _ HM.out.2.2.2 6 _ rfl
  have x7 := HXC.out _ HM.out.2.2.2 7 _ rfl
  have x8 := HXC.out _ HM.out.2.2.2 8 _ rfl
  have x9 := HXC.out _ HM.out.2.2.2 9 _ rfl
  have x10 := HXC.out _ HM.out.2.2.2 10 _ rfl
  have x11 := HXC.out _ HM.out.2.2.2 11 _ rfl
  have x12 := HXC.out _ HM.out.2.2.2 12 _ rfl
  have x13 := HXC.out _ HM.out.2.2.2 13 _ rfl
  have b1 : (s.kind == 1) = false := by simpa using n1
  have b2 : (s.kind == 2) = false := by simpa using n2
  have b5 : (s.kind == 5) = false := by simpa using n5
  have b6 : (s.kind == 6) = false := by simpa using n6
  have b7 : (s.kind == 7) = false := by simpa using n7
  clear hh hz0 n1 n2 n5 n6 n7
  go_wp2_with fail
  go_end0
  rw [HB.out]
  exact ⟨rfl, kv, K, cl3, HM.out.1, fun _ => ⟨HM.out.2.1 (by first | rfl | trivial), HREL.out.1⟩, ⟨[], by simp, by simp⟩, HM.out.2.2.1, (HFIN.out _ HM.out.2.2.2).1, fun g hg => Or.inl hg⟩
end Go.Proofs.YtkkcgkpbbngloaaGreatDoor

/- The document's own look at a statement: a loop. -/
namespace Go.Proofs.YtkkcgkpbbngloaaGreatDoor
open Go.RowKit Go.Sort

set_option maxRecDepth 100000 in
set_option maxHeartbeats 4000000 in
theorem rst_for (w0 : World) (b : Nat) (p : Pr) (k : Nat) (ft : List (List UInt8 × Int)) (q : Nat) (hp : p.In w0) (hkp : k ≤ p.funcs.length) (hf : RelF ft p.funcs k) (hn : p.funcs.length ≤ 1000) (iha : AlK w0 b p k ft q)
    (s : St) (f : Bool × List (List UInt8 × Int)) (env : Env) (n lp : Int) (kv : Value) (K : Kn) (cv : Value) (cl : List Bool) (w : World) (hq : qS s ≤ q + 1) (hin : s.In w0) (hB : Below w0.heap.size w0 w) (h : RS w0.heap.size w b p k n lp kv K 0 cv cl) (hr : RelK (f :: env) K) (hlv : lvZ (f :: env) = if lp = 0 then 32 else 0) (hl0 : 0 ≤ lp) (hl1 : lp + qS s ≤ 1000000000) (hK : K.length + qS s ≤ 900000) (hn0 : 0 ≤ n) (hn1 : n + qS s ≤ 1000000000) (hcl : cl.length = p.funcs.length) (hh : hdZ (f :: env) ft s = 0) (hk : s.kind = 7) :
    Calls Tryz.prog 34 #[.pointer (some ⟨b, 0, none⟩), s.val] w fun r w' => r = .returned (.tuple #[]) ∧ SP w0.heap.size b p k lp kv K cv cl (stS ft s (f :: env) (n + 1)) w w' := by
  have hinS := St.in_iff.1 hin
  have hb1 := (Below.refl _ w).alloc (Nat.le_refl _) (.cells s.cells.toArray 44)
  have h1 := h.stay hb1
  have hbB : w.heap.size ∉ b :: (ob kv ++ ob cv) := fun hx => by
    rcases List.mem_cons.1 hx with e | hx
    · have := h.lt; omega
    rcases List.mem_append.1 hx with hx | hx
    · have := (gown_lt h.2.1 _ hx).2; omega
    · have := (gown_lt h.2.2.1 _ hx).2; omega
  have HXC : Hid (∀ W', Fr (b :: (ob kv ++ ob cv)) (w.alloc (.cells s.cells.toArray 44)) W' → ∀ j u, s.cells[j]? = some u → W'.cell? ⟨w.heap.size, j, none⟩ = some u) := fun W' hf j u hu => by
    rw [hf.cell (by simp) hbB, World.cell?_alloc_at _ _ _ _ rfl]; simpa using hu
  have HFIN : Hid (∀ W', Fr (b :: (ob kv ++ ob cv)) (w.alloc (.cells s.cells.toArray 44)) W' → Fr (b :: (ob kv ++ ob cv)) w W' ∧ Below w0.heap.size w0 W' ∧ w.heap.size ≤ W'.heap.size) := fun W' hf => by
    have h1 : Fr (b :: (ob kv ++ ob cv)) w W' := (Fr.of_below hb1).trans hf
    exact ⟨h1, hB.trans (h1.below (rs_ge h) hB.size), h1.size⟩
  have hsub : ∀ x ∈ b :: ob cv, x ∈ b :: (ob kv ++ ob cv) := fun x hx => by
    rcases List.mem_cons.1 hx with rfl | hx
    · simp
    · simp [hx]
  have HSUB := Hid.mk' hsub
  have hsubk : ∀ x ∈ b :: ob kv, x ∈ b :: (ob kv ++ ob cv) := fun x hx => by
    rcases List.mem_cons.1 hx with rfl | hx
    · simp
    · simp [hx]
  have HSUBK := Hid.mk' hsubk
  have hK0 : K.length ≤ 900000 := by omega
  have HH : Hid (∀ W2, Below w0.heap.size w0 W2 → RS w0.heap.size W2 b p k (n + 1) lp kv K 0 cv cl → Calls Tryz.prog 60 #[.pointer (some ⟨b, 0, none⟩), s.val] W2 fun r w' => r = .returned (.tuple #[]) ∧ EP w0.heap.size b p k (n + 1) lp kv K cv cl (hdZ (f :: env) ft s) (hdC ft s) W2 w') := fun W2 hB2 h2 => rhead_any w0 b p k ft hp hkp hf hn s (f :: env) (n + 1) lp kv K cv cl W2 hin hB2 h2 hr hlv (by omega) hcl
  have hnn : n ≤ 1000000000 := by omega
  have HNB := Hid.mk' (And.intro hl0 (And.intro hl1 (And.intro hK (And.intro hn0 (And.intro hn1 (And.intro hcl hq))))))
  have HREL := Hid.mk' (And.intro hr hlv)
  have HINS := Hid.mk' hinS
  have IHA := Hid.mk' iha
  have H1 := Hid.mk' h1
  have c3 := h1.cell (j := 3) rfl
  have q3 := h1.frozen 3
  have HFR := Hid.mk' (Fr.refl (b :: (ob kv ++ ob cv)) (w.alloc (.cells s.cells.toArray 44)))
  have HKK := Hid.mk' hk
  clear hk
  clear h h1 hb1 hr hf hin hK hcl hn hB hp hlv hinS hbB hsub hsubk hl1 hn1 hq iha hl0
  unfold St.cells at HXC HFIN H1 HFR c3 q3
  unfold St.val at HH ⊢
  go_enter Tryz.func34, Tryz.ntmps34
  go_upto_region 1 with fail
  have HW1 : Hid (w.heap.size ≤ (w.alloc (.cells #[.int .i64 s.kind, .string s.name, .int .i64 s.n, .int .i64 s.a.kind, .int .i64 s.a.n, .string s.a.name, .slice s.a.a s.a.args.length s.a.cap, .int .i64 s.b.kind, .int .i64 s.b.n, .string s.b.name, .slice s.b.a s.b.args.length s.b.cap, .slice s.ba s.body.length s.bc, .slice s.ea s.els.length s.ec, .slice s.ca s.cases.length s.cc] 44)).heap.size) := by show _ ≤ _; simp
  generalize w.alloc (.cells #[.int .i64 s.kind, .string s.name, .int .i64 s.n, .int .i64 s.a.kind, .int .i64 s.a.n, .string s.a.name, .slice s.a.a s.a.args.length s.a.cap, .int .i64 s.b.kind, .int .i64 s.b.n, .string s.b.name, .slice s.b.a s.b.args.length s.b.cap, .slice s.ba s.body.length s.bc, .slice s.ea s.els.length s.ec, .slice s.ca s.cases.length s.cc] 44) = W1 at *
  have HF2 : Hid (Fr (b :: (ob kv ++ ob cv)) W1 (W1.setCell ⟨b, 3, none⟩ (.int .i64 (n + 1)))) := HFR.out.set (by simp) _ _
  have H2 := Hid.mk' (H1.out.setN (n + 1))
  go_upto_region 2 with fail
  clear c3 q3
  generalize W1.setCell ⟨b, 3, none⟩ (.int .i64 (n + 1)) = W2 at *
  have x0 := HXC.out _ HF2.out 0 _ rfl
  have x1 := HXC.out _ HF2.out 1 _ rfl
  have x2 := HXC.out _ HF2.out 2 _ rfl
  have x3 := HXC.out _ HF2.out 3 _ rfl
  have x4 := HXC.out _ HF2.out 4 _ rfl
  have x5 := HXC.out _ HF2.out 5 _ rfl
  have x6 := HXC.out _ HF2.out 6 _ rfl
  have x7 := HXC.out _ HF2.out 7 _ rfl
  have x8 := HXC.out _ HF2.out 8 _ rfl
  have x9 := HXC.out _ HF2.out 9 _ rfl
  have x10 := HXC.out _ HF2.out 10 _ rfl
  have x11 := HXC.out _ HF2.out 11 _ rfl
  have x12 := HXC.out _ HF2.out 12 _ rfl
  have x13 := HXC.out _ HF2.out 13 _ rfl
  generalize hBB : w.heap.size = B at HXC HFIN x0 x1 x2 x3 x4 x5 x6 x7 x8 x9 x10 x11 x12 x13 ⊢
  have HBB := Hid.mk' hBB
  clear hBB
  go_wp2_with fail
  refine (HH.out _ (HFIN.out _ HF2.out).2.1 H2.out).mono ?_
  rintro r w3 ⟨rfl, cl3, m1, m2, m3, m4⟩
  have hf3 := HF2.out.trans (m4.mono HSUB.out)
  have c6 := m1.cell (j := 6) rfl
  have HM := Hid.mk' (And.intro m1 (And.intro m2 (And.intro m3 hf3)))
  clear m1 m2 m3 m4 hf3 H1 H2 HFR HF2 HH
  clear x0 x1 x2 x3 x4 x5 x6 x7 x8 x9 x10 x11 x12 x13
  have hz0 := hh
  rw [hh] at HM c6
  have HB := Hid.mk' (st_for ft s (f :: env) (n + 1) hh HKK.out)
  obtain ⟨ka, kc, hkv⟩ := gown_form HM.out.1.2.1
  subst hkv
  have hkc : K.length ≤ kc := by
    rcases HM.out.1.2.1.2 with ⟨e0, e1⟩ | ⟨g, cp, cur, e0, _, _, e3, _⟩
    · omega
    · injection e0 with _ _ e2; omega
  have HFS := Hid.mk' (rfresh_any s.name 108 HM.out.1 hK0 (Nat.le_trans (HFIN.out _ HM.out.2.2.2).2.1.size (Nat.le_refl _)))
  rw [← dc_kd HREL.out.1] at HFS
  have c5 := HM.out.1.cell (j := 5) rfl
  have x0 := HXC.out _ HM.out.2.2.2 0 _ rfl
  have x1 := HXC.out _ HM.out.2.2.2 1 _ rfl
  have x2 := HXC.out _ HM.out.2.2.2 2 _ rfl
  have x3 := HXC.out _ HM.out.2.2.2 3 _ rfl
  have x4 := HXC.out _ HM.out.2.2.2 4 _ rfl
  have x5 := HXC.out _ HM.out.2.2.2 5 _ rfl
  have x6 := HXC.out _ HM.out.2.2.2 6 _ rfl
  have x7 := HXC.out _ HM.out.2.2.2 7 _ rfl
  have x8 := HXC.out _ HM.out.2.2.2 8 _ rfl
  have x9 := HXC.out _ HM.out.2.2.2 9 _ rfl
  have x10 := HXC.out _ HM.out.2.2.2 10 _ rfl
  have x11 := HXC.out _ HM.out.2.2.2 11 _ rfl
  have x12 := HXC.out _ HM.out.2.2.2 12 _ rfl
  have x13 := HXC.out _ HM.out.2.2.2 13 _ rfl
  have b1 : (s.kind == 1) = false := by rw [HKK.out]; rfl
  have b2 : (s.kind == 2) = false := by rw [HKK.out]; rfl
  have b7 : (s.kind == 7) = true := by rw [HKK.out]; rfl
  have HQB : Hid (qSs s.body + 1 ≤ qS s) := by have := qS_eq s; show _ ≤ _; omega
  clear hh hz0
  go_wp2_with fail
  refine HFS.out.mono ?_
  rintro r w5 ⟨rfl, kv5, g1, g2, g3⟩
  have hf5 := HM.out.2.2.2.trans (g2.mono HSUBK.out)
  have hge5 : ∀ g ∈ ob kv5, g ∈ ob (.slice ka K.length kc) ∨ W1.heap.size ≤ g := fun g hg => by
    rcases g3 g hg with h' | h'
    · exact Or.inl h'
    · exact Or.inr (Nat.le_trans HM.out.2.2.2.size h')
  have HG := Hid.mk' (And.intro g1 (And.intro hf5 hge5))
  have c4 := g1.cell (j := 4) rfl
  have q4 := g1.frozen 4
  clear x0 x1 x2 x3 x4 x5 x6 x7 x8 x9 x10 x11 x12 x13 c5 c6 g1 g2 g3 hf5 hge5 HFS
  have hlp0 := HNB.out.1
  have hlp1 : lp ≤ 1000000000 := by have := HNB.out.2.1; omega
  have H6 := Hid.mk' (HG.out.1.setL (lp + 1))
  have HF6 : Hid (Fr (b :: (ob (.slice ka K.length kc) ++ ob cv)) W1 (w5.setCell ⟨b, 4, none⟩ (.int .i64 (lp + 1)))) := HG.out.2.1.set (by simp) _ _
  go_upto_region 13 with fail
  clear c4 q4
  generalize w5.setCell ⟨b, 4, none⟩ (.int .i64 (lp + 1)) = W6 at *
  have x11 := HXC.out _ HF6.out 11 _ rfl
  by_cases hdc : dcZ (f :: env) s.name.data.toList = 0
  · have HB2 := Hid.mk' (HB.out.2 hdc)
    have hrel3 := ((HREL.out.1.push true).put s.name 108 (by omega) (show dcZ ((true, []) :: f :: env) s.name.data.toList = 0 from hdc))
    obtain ⟨f3, hf31, _, hf33⟩ := dcEnv_tail (true, []) (f :: env) s.name.data.toList 3
    rw [show cod 108 = 3 from rfl, hf33] at hrel3
    rw [hf33] at HB2
    have h6 := H6.out
    rw [hdc] at h6
    have hlen : (K ++ [(s.name, (108 : Int))]).length = K.length + 1 := by simp
    have HAL := Hid.mk' (IHA.out s.body s.ba s.bc f3 (f :: env) (n + 1) (lp + 1) kv5 (K ++ [(s.name, 108)]) cv cl3 W6 (by have := HQB.out; have := HNB.out.2.2.2.2.2.2; omega) HINS.out.2.2.2.2.2.1 (HFIN.out _ HF6.out).2.1 h6 hrel3 (by show (if f3.1 = true then (0 : Int) else 32) = _; rw [hf31, if_pos rfl, if_neg (by omega)]) (by omega) (by have := HQB.out; have := HNB.out.2.1; omega) (by rw [hlen]; have := HQB.out; have := HNB.out.2.2.1; omega) (by omega) (by have := HQB.out; have := HNB.out.2.2.2.2.1; omega) (HM.out.2.2.1.trans HNB.out.2.2.2.2.2.1))
    have HHM := Hid.mk' (HM.out.2.1 (by first | rfl | trivial))
    clear hrel3 hf31 hf33 h6 hdc
    generalize lsS ft s.body (f3 :: f :: env) (n + 1) = T at *
    go_wp2_with fail
    refine HAL.out.mono ?_
    rintro r w7 ⟨rfl, kv7, cl7, a1, a2, a3, a4, a5⟩
    have hf7 := HF6.out.trans' a4 (app_sub (C := ob cv) (m := W1.heap.size) (A := ob (.slice ka K.length kc)) (b := b) (A' := ob kv5) HG.out.2.2)
    have hge7 : ∀ g ∈ ob kv7, g ∈ ob (.slice ka K.length kc) ∨ W1.heap.size ≤ g := fun g hg => by
      rcases a5 g hg with h' | h'
      · exact HG.out.2.2 g h'
      · exact Or.inr (Nat.le_trans HF6.out.size h')
    obtain ⟨va, vc, hv7⟩ := gown_form a1.2.1
    subst hv7
    have hvc : (K ++ [(s.name, (108 : Int))]).length ≤ vc := by
      rcases a1.2.1.2 with ⟨e0, e1⟩ | ⟨g, cp, cur, e0, _, _, e3, _⟩
      · rw [hlen] at e1; omega
      · injection e0 with _ _ e2; omega
    have c4 := a1.cell (j := 4) rfl
    have q4 := a1.frozen 4
    have h8 := a1.setL lp
    have hf8 : Fr (b :: (ob (.slice ka K.length kc) ++ ob cv)) W1 (w7.setCell ⟨b, 4, none⟩ (.int .i64 lp)) := hf7.set (by simp) _ _
    have HFN := Hid.mk' (And.intro h8 (And.intro hf8 (And.intro hge7 (And.intro a2 a3))))
    rw [hlen] at hvc
    have hvk : K.length ≤ vc := by omega
    clear a1 a2 a3 a4 a5 hf7 hge7 h8 hf8 HAL x11
    have hsl : lp + 1 - 1 = lp := by omega
    go_upto_region 15 with fail
    clear c4 q4
    generalize w7.setCell ⟨b, 4, none⟩ (.int .i64 lp) = W8 at *
    have c5 := HFN.out.1.cell (j := 5) rfl
    have q5 := HFN.out.1.frozen 5
    rw [hlen] at c5
    have hcut := HFN.out.1.cut K.length (by simp) rfl
    rw [List.take_left] at hcut
    have HCUT := Hid.mk' hcut
    have HF9 : Hid (Fr (b :: (ob (.slice ka K.length kc) ++ ob cv)) W1 (W8.setCell ⟨b, 5, none⟩ (.slice va K.length vc))) := HFN.out.2.1.set (by simp) _ _
    clear hcut
    go_wp2_with fail
    go_end0
    rw [HB2.out]
    refine ⟨rfl, _, K, cl7, HCUT.out, fun e => ⟨?_, HREL.out.1⟩, ⟨[], by simp, by simp⟩, HFN.out.2.2.2.2.trans HM.out.2.2.1, (HFIN.out _ HF9.out).1, fun g hg => ?_⟩
    · show cl7 = mark cl (hdC ft s ++ T.c)
      rw [mark_append, ← HHM.out]
      exact HFN.out.2.2.2.1 e
    · have hob : ob (.slice va K.length vc) = ob (.slice va (K ++ [(s.name, (108 : Int))]).length vc) := by unfold ob Value.ownBlock; cases va <;> rfl
      rw [hob] at hg
      rcases HFN.out.2.2.1 g hg with h' | h'
      · exact Or.inl h'
      · exact Or.inr (Nat.le_trans HW1.out h')
  · have HB2 := Hid.mk' (HB.out.1 hdc)
    have HBAD := Hid.mk' (rall_bad s.ba s.body.length s.bc H6.out hdc (by simp; omega))
    have HDC := Hid.mk' hdc
    generalize dcZ (f :: env) s.name.data.toList = dz at *
    clear hdc
    have hlen : (K ++ [(s.name, (108 : Int))]).length = K.length + 1 := by simp
    go_wp2_with fail
    refine HBAD.out.mono ?_
    rintro r w7 ⟨rfl, a1, a4⟩
    have hf7 := HF6.out.trans (a4.mono (by simp))
    obtain ⟨va, vc, hv7⟩ := gown_form a1.2.1
    subst hv7
    have hvc : (K ++ [(s.name, (108 : Int))]).length ≤ vc := by
      rcases a1.2.1.2 with ⟨e0, e1⟩ | ⟨g, cp, cur, e0, _, _, e3, _⟩
      · rw [hlen] at e1; omega
      · injection e0 with _ _ e2; omega
    have c4 := a1.cell (j := 4) rfl
    have q4 := a1.frozen 4
    have h8 := a1.setL lp
    have hf8 : Fr (b :: (ob (.slice ka K.length kc) ++ ob cv)) W1 (w7.setCell ⟨b, 4, none⟩ (.int .i64 lp)) := hf7.set (by simp) _ _
    have HFN := Hid.mk' (And.intro h8 hf8)
    rw [hlen] at hvc
    have hvk : K.length ≤ vc := by omega
    clear a1 a4 hf7 h8 hf8 HBAD x11
    have hsl : lp + 1 - 1 = lp := by omega
    go_upto_region 15 with fail
    clear c4 q4
    generalize w7.setCell ⟨b, 4, none⟩ (.int .i64 lp) = W8 at *
    have c5 := HFN.out.1.cell (j := 5) rfl
    have q5 := HFN.out.1.frozen 5
    rw [hlen] at c5
    have hcut := HFN.out.1.cut K.length (by simp) rfl
    rw [List.take_left] at hcut
    have HCUT := Hid.mk' hcut
    have HF9 : Hid (Fr (b :: (ob (.slice ka K.length kc) ++ ob cv)) W1 (W8.setCell ⟨b, 5, none⟩ (.slice va K.length vc))) := HFN.out.2.set (by simp) _ _
    clear hcut
    go_wp2_with fail
    go_end0
    rw [HB2.out]
    refine ⟨rfl, _, K, cl3, HCUT.out, fun e => absurd e HDC.out, ⟨[], by simp, by simp⟩, HM.out.2.2.1, (HFIN.out _ HF9.out).1, fun g hg => ?_⟩
    have hob : ob (.slice va K.length vc) = ob (.slice va (K ++ [(s.name, (108 : Int))]).length vc) := by unfold ob Value.ownBlock; cases va <;> rfl
    rw [hob] at hg
    rcases HG.out.2.2 g hg with h' | h'
    · exact Or.inl h'
    · exact Or.inr (Nat.le_trans HW1.out h')
end Go.Proofs.YtkkcgkpbbngloaaGreatDoor
