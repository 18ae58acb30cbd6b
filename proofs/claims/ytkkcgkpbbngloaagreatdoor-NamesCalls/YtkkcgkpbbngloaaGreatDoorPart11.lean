/- How many calls a look at a function tells. -/
import Derived.Test.YtkkcgkpbbngloaaGreatDoorPart4
import Derived.Test.YtkkcgkpbbngloaaGreatDoorPart10
import Derived.Test.YtkkcgkpbbngloaaGreatDoorPart1
import Derived.Test.YtkkcgkpbbngloaaGreatDoorPart6
import Derived.Laws.OwnMore
namespace Go.Proofs.YtkkcgkpbbngloaaGreatDoor
open Go.RowKit Go.Sort

mutual
theorem exC_len (ft : List (List UInt8 × Int)) : ∀ x : Ex, (exC ft x).length ≤ x.sz
  | .mk k n s a c l => by
    have h1 := exLC_len ft l
    have h2 := (Ex.mk k n s a c l).sz_args
    simp only [Ex.args] at h2
    rw [exC, List.length_append, h2]
    have h3 : (nmC ft k s.data.toList).length ≤ 1 := by unfold nmC; split <;> simp
    omega
theorem exLC_len (ft : List (List UInt8 × Int)) : ∀ l : List Ex, (exLC ft l).length ≤ szL l
  | [] => by rw [exLC, szL]; simp
  | x :: r => by
    have h1 := exC_len ft x
    have h2 := exLC_len ft r
    rw [exLC, szL, List.length_append]; omega
end
mutual
theorem stS_c (ft : List (List UInt8 × Int)) : ∀ (s : St) (env : Env) (m : Int), (stS ft s env m).c.length ≤ qS s
  | .mk k nm n a b ba bc l ea ec e ca cc c, env, m => by
    have h1 := lsS_c ft l ((lvZ env == 0, []) :: env) m
    have h2 := csS_c ft c env (lsS ft l ((lvZ env == 0, []) :: env) m).m
    have h3 := lsS_c ft e ((lvZ env == 0, []) :: env) (csS ft c env (lsS ft l ((lvZ env == 0, []) :: env) m).m).m
    have h4 := lsS_c ft l (dcEnv ((true, []) :: env) nm.data.toList 3) m
    have e1 := exC_len ft a
    have e2 := exC_len ft b
    rw [stS, qS]
    split
    · first | (dsimp only; omega) | exact Nat.zero_le _ | (simp only [List.length_append]; omega)
    split
    · first | (dsimp only; omega) | exact Nat.zero_le _ | (simp only [List.length_append]; omega)
    split
    · first | (dsimp only; omega) | exact Nat.zero_le _ | (simp only [List.length_append]; omega)
    split
    · first | (dsimp only; omega) | exact Nat.zero_le _ | (simp only [List.length_append]; omega)
    split
    · split
      · first | (dsimp only; omega) | exact Nat.zero_le _ | (simp only [List.length_append]; omega)
      split
      · first | (dsimp only; omega) | exact Nat.zero_le _ | (simp only [List.length_append]; omega)
      split
      · first | (dsimp only; omega) | exact Nat.zero_le _ | (simp only [List.length_append]; omega)
      · first | (dsimp only; omega) | exact Nat.zero_le _ | (simp only [List.length_append]; omega)
    split
    · split
      · first | (dsimp only; omega) | exact Nat.zero_le _ | (simp only [List.length_append]; omega)
      · first | (dsimp only; omega) | exact Nat.zero_le _ | (simp only [List.length_append]; omega)
    split
    · first | (dsimp only; omega) | exact Nat.zero_le _ | (simp only [List.length_append]; omega)
    · first | (dsimp only; omega) | exact Nat.zero_le _ | (simp only [List.length_append]; omega)
theorem lsS_c (ft : List (List UInt8 × Int)) : ∀ (l : List St) (env : Env) (m : Int), (lsS ft l env m).c.length ≤ qSs l
  | [], env, m => by rw [lsS, qSs]; simp
  | s :: r, env, m => by
    have h1 := stS_c ft s env (m + 1)
    have h2 := lsS_c ft r (stS ft s env (m + 1)).env (stS ft s env (m + 1)).m
    rw [lsS, qSs]
    split
    · omega
    · first | (dsimp only; omega) | exact Nat.zero_le _ | (simp only [List.length_append]; omega)
theorem caS_c (ft : List (List UInt8 × Int)) : ∀ (c : Ca) (env : Env) (m : Int), (caS ft c env m).c.length ≤ qC c
  | .mk n ba bc l, env, m => by
    have h1 := lsS_c ft l ((lvZ env == 0, []) :: env) m
    rw [caS, qC]
    omega
theorem csS_c (ft : List (List UInt8 × Int)) : ∀ (l : List Ca) (env : Env) (m : Int), (csS ft l env m).c.length ≤ qCs l
  | [], env, m => by rw [csS, qCs]; simp
  | c :: r, env, m => by
    have h1 := caS_c ft c env m
    have h2 := csS_c ft r env (caS ft c env m).m
    rw [csS, qCs]
    split
    · first | (dsimp only; omega) | exact Nat.zero_le _ | (simp only [List.length_append]; omega)
    · first | (dsimp only; omega) | exact Nat.zero_le _ | (simp only [List.length_append]; omega)
end
theorem fnS_len (ft : List (List UInt8 × Int)) (f : Fu) : (fnS ft f).c.length ≤ qSs f.body := by
  unfold fnS
  split
  · simp
  split
  · simp
  · exact lsS_c ft f.body _ 0
end Go.Proofs.YtkkcgkpbbngloaaGreatDoor

/- names.Check and names.Calls. -/
namespace Go.Proofs.YtkkcgkpbbngloaaGreatDoor
open Go.RowKit Go.Sort

theorem lkP_flt {p : Pr} {w w' : World} {e : Ending} (h : LkP p w e w') : Below w.heap.size w w' ∧ ∃ a n c, e = .returned (.tuple #[.slice a n c, fltV (namZ p).1 (namZ p).2.1 (namZ p).2.2]) := by
  refine ⟨h.1, ?_⟩
  by_cases h0 : (namZ p).1 = 0
  · obtain ⟨hz, fm, cb, vs, he, _⟩ := h.2.2 h0
    exact ⟨_, _, _, by rw [hz]; exact he⟩
  · exact ⟨_, _, _, h.2.1 h0⟩
set_option maxRecDepth 100000 in
set_option maxHeartbeats 4000000 in
theorem ncheck_any (p : Pr) (w : World) (hin : p.In w) (ht : Tabs w) : Calls Tryz.prog 6 #[p.val] w fun e w' => e = .returned (fltV (namZ p).1 (namZ p).2.1 (namZ p).2.2) ∧ Below w.heap.size w w' := by
  have HL : Hid (∀ w', Below w.heap.size w w' → Calls Tryz.prog 11 #[p.val] w' fun e w'' => Below w'.heap.size w' w'' ∧ ∃ a n c, e = .returned (.tuple #[.slice a n c, fltV (namZ p).1 (namZ p).2.1 (namZ p).2.2])) := fun w' hb => (look_any p w' (hin.stay hb) (ht.stay hb)).mono fun e w'' h => lkP_flt h
  clear hin ht
  generalize namZ p = z at *
  obtain ⟨z1, z2, z3⟩ := z
  simp only at HL ⊢
  have hb1 := ((Below.refl _ w).alloc (Nat.le_refl _) (.cells #[.slice p.wa p.widen.length p.wc, .slice p.fa p.funcs.length p.fc] 25)).alloc (by simp) (.cells #[.int .i64 0, .int .i64 0, .int .i64 0] 29)
  unfold Pr.val at HL ⊢
  go_enter Tryz.func6, Tryz.ntmps6
  go_wp2_with fail
  refine (HL.out _ hb1).mono ?_
  rintro e w1 ⟨hbw, sa, sn, sc, rfl⟩
  obtain ⟨hX, hRs, hF⟩ := two_cells hbw
  have r0 := hRs 0 _ rfl
  have r1 := hRs 1 _ rfl
  have r2 := hRs 2 _ rfl
  have q0 := hF 0
  have q1 := hF 1
  have q2 := hF 2
  have hb2 : Below w.heap.size w w1 := hb1.trans (hbw.mono (by simp; omega))
  have hs2 : w.heap.size + 1 + 1 ≤ w1.heap.size := by have := hbw.size; simp at this; omega
  clear hX hF hRs hbw hb1
  have hlt1 : w.heap.size + 1 < w1.heap.size := by omega
  have hb3 := (Below.refl _ w1).alloc (Nat.le_refl _) (.cells #[.int .i64 z1, .int .i64 z2, .int .i64 z3] 29)
  have r0' := (hb3.cell (p := ⟨w.heap.size + 1, 0, none⟩) hlt1).trans r0
  have r1' := (hb3.cell (p := ⟨w.heap.size + 1, 1, none⟩) hlt1).trans r1
  have r2' := (hb3.cell (p := ⟨w.heap.size + 1, 2, none⟩) hlt1).trans r2
  have q0' := (hb3.frozen (p := ⟨w.heap.size + 1, 0, none⟩) hlt1).trans q0
  have q1' := (hb3.frozen (p := ⟨w.heap.size + 1, 1, none⟩) hlt1).trans q1
  have q2' := (hb3.frozen (p := ⟨w.heap.size + 1, 2, none⟩) hlt1).trans q2
  have n0 : (w1.alloc (.cells #[.int .i64 z1, .int .i64 z2, .int .i64 z3] 29)).cell? ⟨w1.heap.size, 0, none⟩ = some (.int .i64 z1) := by rw [World.cell?_alloc_at _ _ _ _ rfl]; rfl
  have n1 : (w1.alloc (.cells #[.int .i64 z1, .int .i64 z2, .int .i64 z3] 29)).cell? ⟨w1.heap.size, 1, none⟩ = some (.int .i64 z2) := by rw [World.cell?_alloc_at _ _ _ _ rfl]; rfl
  have n2 : (w1.alloc (.cells #[.int .i64 z1, .int .i64 z2, .int .i64 z3] 29)).cell? ⟨w1.heap.size, 2, none⟩ = some (.int .i64 z3) := by rw [World.cell?_alloc_at _ _ _ _ rfl]; rfl
  have hb4 := hb2.alloc hb2.size (.cells #[.int .i64 z1, .int .i64 z2, .int .i64 z3] 29)
  clear r0 r1 r2 q0 q1 q2 hb3 hb2
  go_upto_region 2 with fail
  generalize w1.alloc (.cells #[.int .i64 z1, .int .i64 z2, .int .i64 z3] 29) = W6 at *
  go_wp2_with fail
  exact bodyPost_ret (v := fltV z1 z2 z3) (by simp [results, Tryz.results6, go_sem, r0', r1', r2']) rfl ⟨rfl, below_set3 hb4 (by omega) _ _ _⟩

/-- Which functions are called by the function of a number. -/
def clN (p : Pr) (i : Int) : List Int := if (namZ p).1 ≠ 0 ∨ i < 0 ∨ (p.funcs.length : Int) ≤ i then [] else match p.funcs[i.toNat]? with | some f => Lib.compact (sortI (fnK p.funcs i.toNat f).c) | none => []
theorem nil_owns (W : World) (N : Nat) : W.ownsRow N 3 1 (.slice none 0 0) ([] : List Int).length (([] : List Int).map (Value.int .i64)) := ⟨rfl, .inl ⟨rfl, rfl⟩⟩
set_option maxRecDepth 100000 in
set_option maxHeartbeats 4000000 in
theorem ncalls_any (p : Pr) (i : Int) (w : World) (hin : p.In w) (ht : Tabs w) : Calls Tryz.prog 9 #[p.val, .int .i64 i] w fun e w' => (∃ v, e = .returned v ∧ w'.ownsRow w.heap.size 3 1 v (clN p i).length ((clN p i).map (Value.int .i64))) ∧ Below w.heap.size w w' := by
  have hb1 := (Below.refl _ w).alloc (Nat.le_refl _) (.cells #[.slice p.wa p.widen.length p.wc, .slice p.fa p.funcs.length p.fc] 25)
  have HL := Hid.mk' (look_any p _ (hin.stay hb1) (ht.stay hb1))
  have HCN : Hid (∀ f ∈ p.funcs, (checkZ p).1 = 0 → qSs f.body ≤ 12288) := fun f hf h => ((check_room h).2 f hf).1
  have HCZ : Hid ((namZ p).1 = 0 → (checkZ p).1 = 0) := fun h => by
    unfold namZ at h
    split at h
    · rename_i h0; exact absurd h h0
    · rename_i h0; simpa using h0
  clear hin ht
  unfold Pr.val at HL ⊢
  go_enter Tryz.func9, Tryz.ntmps9
  go_wp2_with fail
  refine HL.out.mono ?_
  rintro e w1 ⟨hbw, hp1, hp2⟩
  have hb2 : Below w.heap.size w w1 := hb1.trans (hbw.mono (by simp))
  clear HL hb1 hbw
  by_cases hz : (namZ p).1 = 0
  · obtain ⟨_, fm, cb, vs, rfl, hcb, hne, hrows⟩ := hp2 hz
    have HZ := Hid.mk' hz
    clear hp1 hp2 hz
    have h00 : ((0 : Int) != 0) = false := rfl
    by_cases hi0 : i < 0
    · have hc : Hid (clN p i = []) := by show _ = _; unfold clN; rw [if_pos (Or.inr (Or.inl hi0))]
      have hb3 := hb2.alloc hb2.size (.cells #[.int .i64 0, .int .i64 0, .int .i64 0] 29)
      clear hrows
      go_wp2_with fail
      go_ret
      exact ⟨⟨_, rfl, by rw [hc.out]; exact nil_owns _ _⟩, hb3⟩
    · by_cases hin2 : (p.funcs.length : Int) ≤ i
      · have hc : Hid (clN p i = []) := by show _ = _; unfold clN; rw [if_pos (Or.inr (Or.inr hin2))]
        have hb3 := hb2.alloc hb2.size (.cells #[.int .i64 0, .int .i64 0, .int .i64 0] 29)
        clear hrows
        go_wp2_with fail
        go_ret
        exact ⟨⟨_, rfl, by rw [hc.out]; exact nil_owns _ _⟩, hb3⟩
      · obtain ⟨k, rfl⟩ : ∃ k : Nat, i = (k : Int) := ⟨i.toNat, by omega⟩
        have hk : k < p.funcs.length := by omega
        have hki : (k : Int) < (p.funcs.length : Int) := by omega
        obtain ⟨v, hv1, hv2, hv3, hv4⟩ := hrows.2.2.2 k p.funcs[k] (List.getElem?_eq_getElem hk) hk
        have hc : Hid (clN p k = Lib.compact (sortI (fnK p.funcs k p.funcs[k]).c)) := by
          show _ = _
          unfold clN
          rw [if_neg (by have := HZ.out; omega), Int.toNat_natCast, List.getElem?_eq_getElem hk]
        have hl : (fnK p.funcs k p.funcs[k]).c.length ≤ 12288 := Nat.le_trans (fnS_len _ _) (HCN.out _ (List.getElem_mem hk) (HCZ.out HZ.out))
        generalize (fnK p.funcs k p.funcs[k]).c = c at *
        have hb3 := hb2.alloc hb2.size (.cells #[.int .i64 0, .int .i64 0, .int .i64 0] 29)
        have hb3' := (Below.refl _ w1).alloc (Nat.le_refl _) (.cells #[.int .i64 0, .int .i64 0, .int .i64 0] 29)
        have c0 := (hb3'.cell (p := ⟨cb, k, none⟩) hrows.lt).trans (hrows.cell hv1)
        have hlt := hrows.lt
        have ho := own_keep (W' := w1.alloc (.cells #[.int .i64 0, .int .i64 0, .int .i64 0] 29)) hv2 (fun g hg => hb3'.block g (own_lt hv2 g hg).2)
        have HS := Hid.mk' (sort_row _ ho (by omega))
        have HB3 := Hid.mk' hb3
        have HV4 := Hid.mk' hv4
        have HGE : Hid (∀ g ∈ ob v, w.heap.size ≤ g) := fun g hg => Nat.le_trans (by simp) ((own_lt hv2 g hg).1)
        obtain ⟨va, vc, rfl⟩ := own_form hv2
        have hlt2 : Hid (cb < (w1.alloc (.cells #[.int .i64 0, .int .i64 0, .int .i64 0] 29)).heap.size) := by show _ < _; simp; omega
        clear hrows hv1 hv2 hv3 hv4 hb3 hb3' hb2 hl hlt
        go_upto_region 4 with fail
        generalize w1.alloc (.cells #[.int .i64 0, .int .i64 0, .int .i64 0] 29) = W6 at *
        go_wp2_with fail
        refine HS.out.mono ?_
        rintro e w2 ⟨rfl, ho2, hf2⟩
        have c1 := (hf2.cell (i := k) hlt2.out HV4.out).trans c0
        have HK2 := Hid.mk' (compact_row (c := sortI c) w2 (by rw [sortI_length]; exact ho2))
        have HB4 : Hid (Below w.heap.size w w2) := HB3.out.trans (hf2.below HGE.out HB3.out.size)
        clear ho2 hf2 HS ho c0
        go_wp2_with fail
        refine HK2.out.mono ?_
        rintro e w3 ⟨v3, rfl, ho3, hob, hf3⟩
        have HB5 : Hid (Below w.heap.size w w3) := HB4.out.trans (hf3.below HGE.out HB4.out.size)
        have HO3 := Hid.mk' ho3
        clear hf3 ho3 hob HK2
        go_wp2_with fail
        go_ret
        exact ⟨⟨_, rfl, by rw [hc.out]; exact own_base HO3.out (fun g hg => Nat.le_trans (by simp) (own_lt HO3.out g hg).1)⟩, HB5.out⟩
  · have he := hp1 hz
    subst he
    have hc : Hid (clN p i = []) := by show _ = _; unfold clN; rw [if_pos (Or.inl hz)]
    have hz' : ((namZ p).1 != 0) = true := by simpa using hz
    have hb3 := hb2.alloc hb2.size (.cells #[.int .i64 (namZ p).1, .int .i64 (namZ p).2.1, .int .i64 (namZ p).2.2] 29)
    clear hz hp1 hp2
    generalize namZ p = z at *
    obtain ⟨z1, z2, z3⟩ := z
    simp only at hz' hb3 ⊢
    go_wp2_with fail
    go_ret
    exact ⟨⟨_, rfl, by rw [hc.out]; exact nil_owns _ _⟩, hb3⟩
end Go.Proofs.YtkkcgkpbbngloaaGreatDoor

/- Numbers sorted, each once: the places at which a row of marks is set. -/
namespace Go.Proofs.YtkkcgkpbbngloaaGreatDoor
open Go.RowKit Go.Sort

/-- Two rising lists of the same numbers are one. -/
theorem rising_eq : ∀ {l m : List Int}, l.Pairwise (· < ·) → m.Pairwise (· < ·) → (∀ x, x ∈ l ↔ x ∈ m) → l = m
  | [], [], _, _, _ => rfl
  | [], b :: m, _, _, h => by have := (h b).2 (by simp); cases this
  | a :: l, [], _, _, h => by have := (h a).1 (by simp); cases this
  | a :: l, b :: m, h1, h2, h => by
    rw [List.pairwise_cons] at h1 h2
    have e : a = b := by
      have ha := (h a).1 (by simp)
      have hb := (h b).2 (by simp)
      rcases List.mem_cons.1 ha with e | ha
      · exact e
      rcases List.mem_cons.1 hb with e | hb
      · exact e.symm
      have := h2.1 a ha
      have := h1.1 b hb
      omega
    subst e
    congr 1
    refine rising_eq h1.2 h2.2 fun x => ⟨fun hx => ?_, fun hx => ?_⟩
    · have := (h x).1 (by simp [hx])
      rcases List.mem_cons.1 this with e | h'
      · have := h1.1 x hx; omega
      · exact h'
    · have := (h x).2 (by simp [hx])
      rcases List.mem_cons.1 this with e | h'
      · have := h2.1 x hx; omega
      · exact h'
theorem compactUp_rising (d : Array Int) (hs : ∀ i j, i ≤ j → j < d.size → d[i]! ≤ d[j]!) : ∀ m, m ≤ d.size → (Lib.compactUpTo d m).Pairwise (· < ·) ∧ ∀ x, x ∈ Lib.compactUpTo d m ↔ ∃ i, i < m ∧ d[i]! = x
  | 0, _ => by
    have : Lib.compactUpTo d 0 = [] := rfl
    rw [this]
    exact ⟨List.Pairwise.nil, fun x => ⟨fun h => (by cases h), fun ⟨i, h, _⟩ => by omega⟩⟩
  | m + 1, hm => by
    obtain ⟨h1, h2⟩ := compactUp_rising d hs m (by omega)
    rw [Lib.compactUpTo_succ]
    by_cases hk : Lib.keeps d m = true
    · rw [if_pos hk]
      refine ⟨?_, fun x => ?_⟩
      · rw [List.pairwise_append]
        refine ⟨h1, by simp, fun a ha b hb => ?_⟩
        rw [List.mem_singleton] at hb
        subst hb
        obtain ⟨i, hi, rfl⟩ := (h2 a).1 ha
        have hle := hs i (m - 1) (by omega) (by omega)
        have hle2 := hs (m - 1) m (by omega) (by omega)
        have hne : d[m]! ≠ d[m - 1]! := by
          unfold Lib.keeps at hk
          have hm0 : m ≠ 0 := by omega
          simpa [hm0] using hk
        omega
      · rw [List.mem_append, h2, List.mem_singleton]
        constructor
        · rintro (⟨i, hi, e⟩ | e)
          · exact ⟨i, by omega, e⟩
          · exact ⟨m, by omega, e.symm⟩
        · rintro ⟨i, hi, e⟩
          by_cases him : i = m
          · exact Or.inr (by rw [← e, him])
          · exact Or.inl ⟨i, by omega, e⟩
    · rw [if_neg hk, List.append_nil]
      refine ⟨h1, fun x => ?_⟩
      rw [h2]
      constructor
      · rintro ⟨i, hi, e⟩; exact ⟨i, by omega, e⟩
      · rintro ⟨i, hi, e⟩
        by_cases him : i = m
        · subst him
          have hm0 : i ≠ 0 ∧ d[i]! = d[i - 1]! := by
            unfold Lib.keeps at hk
            by_cases h0 : i = 0
            · subst h0; simp at hk
            · exact ⟨h0, by simpa [h0] using hk⟩
          exact ⟨i - 1, by omega, by rw [← hm0.2]; exact e⟩
        · exact ⟨i, by omega, e⟩
theorem sort_le (c : List Int) : ∀ i j, i ≤ j → j < (sortI c).toArray.size → (sortI c).toArray[i]! ≤ (sortI c).toArray[j]! := by
  have hp : (sortI c).Pairwise (fun a b => decide (a ≤ b) = true) := List.pairwise_mergeSort (fun a b c h1 h2 => by simp at *; omega) (fun a b => by simp; omega) c
  intro i j hij hj
  have hj' : j < (sortI c).length := by simpa using hj
  by_cases e : i = j
  · subst e; exact Int.le_refl _
  · have := List.pairwise_iff_getElem.1 hp i j (by omega) hj' (by omega)
    simp [getElem!_pos, hj', show i < (sortI c).length by omega]
    simpa using this
theorem compact_sort (c : List Int) : (Lib.compact (sortI c)).Pairwise (· < ·) ∧ ∀ x, x ∈ Lib.compact (sortI c) ↔ x ∈ c := by
  have h := compactUp_rising (sortI c).toArray (sort_le c) (sortI c).length (by simp)
  unfold Lib.compact
  refine ⟨h.1, fun x => ?_⟩
  rw [h.2]
  have hm : x ∈ sortI c ↔ x ∈ c := List.mem_mergeSort
  rw [← hm, List.mem_iff_getElem]
  constructor
  · rintro ⟨i, hi, e⟩; exact ⟨i, hi, by simpa [getElem!_pos, hi] using e⟩
  · rintro ⟨i, hi, e⟩; exact ⟨i, hi, by simpa [getElem!_pos, hi] using e⟩
/-- The places at which marks are set. -/
def idxB (cl : List Bool) : Nat → List Int
  | 0 => []
  | j + 1 => idxB cl j ++ (if cl.getD j false = true then [(j : Int)] else [])
theorem idxB_rising (cl : List Bool) : ∀ j, (idxB cl j).Pairwise (· < ·) ∧ ∀ x, x ∈ idxB cl j ↔ ∃ i : Nat, i < j ∧ (i : Int) = x ∧ cl.getD i false = true
  | 0 => ⟨List.Pairwise.nil, fun x => ⟨fun h => (by cases h), fun ⟨i, h, _⟩ => by omega⟩⟩
  | j + 1 => by
    obtain ⟨h1, h2⟩ := idxB_rising cl j
    rw [idxB]
    by_cases hk : cl.getD j false = true
    · rw [if_pos hk]
      refine ⟨?_, fun x => ?_⟩
      · rw [List.pairwise_append]
        refine ⟨h1, by simp, fun a ha b hb => ?_⟩
        rw [List.mem_singleton] at hb
        subst hb
        obtain ⟨i, hi, rfl, _⟩ := (h2 a).1 ha
        omega
      · rw [List.mem_append, h2, List.mem_singleton]
        constructor
        · rintro (⟨i, hi, e⟩ | e)
          · exact ⟨i, by omega, e⟩
          · exact ⟨j, by omega, e.symm, hk⟩
        · rintro ⟨i, hi, e, hb⟩
          by_cases him : i = j
          · exact Or.inr (by rw [← e, him])
          · exact Or.inl ⟨i, by omega, e, hb⟩
    · rw [if_neg hk, List.append_nil]
      refine ⟨h1, fun x => ?_⟩
      rw [h2]
      constructor
      · rintro ⟨i, hi, e⟩; exact ⟨i, by omega, e⟩
      · rintro ⟨i, hi, e, hb⟩
        by_cases him : i = j
        · subst him; exact absurd hb hk
        · exact ⟨i, by omega, e, hb⟩
theorem mark_at (l : List Int) : ∀ (cl : List Bool) (i : Nat), (∀ x ∈ l, 0 ≤ x ∧ x < cl.length) → ((mark cl l).getD i false = true ↔ cl.getD i false = true ∨ (i : Int) ∈ l) := by
  induction l with
  | nil => intro cl i _; simp [mark]
  | cons a r ih =>
    intro cl i h
    have ha := h a (by simp)
    show (mark (cl.set a.toNat true) r).getD i false = true ↔ _
    rw [ih _ i (fun x hx => by rw [List.length_set]; exact h x (by simp [hx]))]
    have hs : (cl.set a.toNat true).getD i false = true ↔ cl.getD i false = true ∨ (i : Int) = a := by
      by_cases e : i = a.toNat
      · subst e
        have : a.toNat < cl.length := by omega
        simp [List.getD, this]
        omega
      · have : (cl.set a.toNat true).getD i false = cl.getD i false := by simp [List.getD, List.getElem?_set_ne (Ne.symm e)]
        rw [this]
        constructor
        · exact Or.inl
        · rintro (h | h)
          · exact h
          · omega
    rw [hs, List.mem_cons]
    constructor
    · rintro ((h | h) | h)
      · exact Or.inl h
      · exact Or.inr (Or.inl h)
      · exact Or.inr (Or.inr h)
    · rintro (h | h | h)
      · exact Or.inl (Or.inl h)
      · exact Or.inl (Or.inr h)
      · exact Or.inr h
/-- Numbers sorted, each once, are the places of their marks. -/
theorem compact_marks (c : List Int) (n : Nat) (h : ∀ x ∈ c, 0 ≤ x ∧ x < n) : Lib.compact (sortI c) = idxB (mark (List.replicate n false) c) n := by
  obtain ⟨a1, a2⟩ := compact_sort c
  obtain ⟨b1, b2⟩ := idxB_rising (mark (List.replicate n false) c) n
  refine rising_eq a1 b1 fun x => ?_
  rw [a2, b2]
  constructor
  · intro hx
    have := h x hx
    refine ⟨x.toNat, by omega, by omega, (mark_at c _ _ (by simpa using h)).2 (Or.inr (by rw [show ((x.toNat : Nat) : Int) = x by omega]; exact hx))⟩
  · rintro ⟨i, hi, rfl, hb⟩
    rcases (mark_at c _ _ (by simpa using h)).1 hb with h' | h'
    · simp [List.getD, List.getElem?_replicate] at h'
      split at h' <;> simp at h'
    · exact h'
end Go.Proofs.YtkkcgkpbbngloaaGreatDoor

/- Whom a right function calls: functions ahead. -/
namespace Go.Proofs.YtkkcgkpbbngloaaGreatDoor
open Go.RowKit Go.Sort

/-- A number that the table has. -/
def InT (ft : List (List UInt8 × Int)) (z : Int) : Prop := ∃ s, tabHas ft s = true ∧ tabAt ft s = z
theorem in_app {ft : List (List UInt8 × Int)} {l m : List Int} (h1 : ∀ z ∈ l, InT ft z) (h2 : ∀ z ∈ m, InT ft z) : ∀ z ∈ l ++ m, InT ft z := fun z hz => by
  rcases List.mem_append.1 hz with h | h
  · exact h1 z h
  · exact h2 z h
mutual
theorem exC_in (env : Env) (ft : List (List UInt8 × Int)) : ∀ x : Ex, exZ env ft x = 0 → ∀ z ∈ exC ft x, InT ft z
  | .mk k n s a c l => by
    intro h
    rw [exZ] at h
    have h0 : nmZ env ft k s.data.toList = 0 := by
      by_cases h0 : nmZ env ft k s.data.toList = 0
      · exact h0
      · rw [if_pos h0] at h; exact absurd h h0
    rw [if_neg (by simpa using h0)] at h
    rw [exC]
    refine in_app (fun z hz => ?_) (exLC_in env ft l h)
    unfold nmC at hz
    split at hz
    · rename_i k4
      rw [List.mem_singleton] at hz
      refine ⟨s.data.toList, ?_, hz.symm⟩
      unfold nmZ at h0
      rw [if_neg (by omega), if_neg (by omega), if_pos k4] at h0
      unfold clZ at h0
      split at h0
      · assumption
      · omega
    · cases hz
theorem exLC_in (env : Env) (ft : List (List UInt8 × Int)) : ∀ l : List Ex, exLZ env ft l = 0 → ∀ z ∈ exLC ft l, InT ft z
  | [] => fun _ z hz => by rw [exLC] at hz; cases hz
  | x :: r => by
    intro h
    rw [exLZ] at h
    have h0 : exZ env ft x = 0 := by
      by_cases h0 : exZ env ft x = 0
      · exact h0
      · rw [if_pos h0] at h; exact absurd h h0
    rw [if_neg (by simpa using h0)] at h
    rw [exLC]
    exact in_app (exC_in env ft x h0) (exLC_in env ft r h)
end
theorem orF_zero : ∀ {l : List Int}, orF l = 0 → ∀ x ∈ l, x = 0
  | [], _, x, hx => by cases hx
  | a :: r, h, x, hx => by
    rw [orF] at h
    have h0 : a = 0 := by
      by_cases h0 : a = 0
      · exact h0
      · rw [if_pos h0] at h; exact absurd h h0
    rw [if_neg (by simpa using h0)] at h
    rcases List.mem_cons.1 hx with rfl | hx
    · exact h0
    · exact orF_zero h x hx
mutual
theorem stS_in (ft : List (List UInt8 × Int)) : ∀ (s : St) (env : Env) (m : Int), (stS ft s env m).e = 0 → ∀ z ∈ (stS ft s env m).c, InT ft z
  | .mk k nm n a b ba bc l ea ec e ca cc c, env, m => by
    have h1 := fun env m => lsS_in ft l env m
    have h2 := fun env m => csS_in ft c env m
    have h3 := fun env m => lsS_in ft e env m
    have ha := exC_in env ft a
    have hb := exC_in env ft b
    rw [stS]
    split
    · intro h; exact ha (orF_zero h _ (by simp))
    split
    · intro _ z hz; cases hz
    split
    · intro h; exact ha (orF_zero h _ (by simp))
    split
    · intro h; exact in_app (ha (orF_zero h _ (by simp))) (hb (orF_zero h _ (by simp)))
    split
    · split
      · rename_i h0; intro h; exact absurd h h0
      split
      · rename_i h0; intro h; exact absurd h h0
      split
      · rename_i h0; intro h; exact absurd h h0
      · rename_i g1 g2 g3
        intro h
        exact in_app (in_app (in_app (ha (by simpa using g1)) (h1 _ _ (by simpa using g2))) (h2 _ _ (by simpa using g3))) (h3 _ _ h)
    split
    · split
      · rename_i h0; intro h; exact absurd h h0
      · rename_i g1
        intro h
        have g1' := orF_zero (by simpa using g1)
        exact in_app (in_app (ha (g1' _ (by simp))) (hb (g1' _ (by simp)))) (h1 _ _ h)
    split
    · intro _ z hz; cases hz
    · intro h; exact ha h
theorem lsS_in (ft : List (List UInt8 × Int)) : ∀ (l : List St) (env : Env) (m : Int), (lsS ft l env m).e = 0 → ∀ z ∈ (lsS ft l env m).c, InT ft z
  | [], env, m => by rw [lsS]; intro _ z hz; cases hz
  | s :: r, env, m => by
    have h1 := stS_in ft s env (m + 1)
    have h2 := fun env m => lsS_in ft r env m
    rw [lsS]
    split
    · exact h1
    · rename_i g1
      intro h
      exact in_app (h1 (by simpa using g1)) (h2 _ _ h)
theorem caS_in (ft : List (List UInt8 × Int)) : ∀ (c : Ca) (env : Env) (m : Int), (caS ft c env m).e = 0 → ∀ z ∈ (caS ft c env m).c, InT ft z
  | .mk n ba bc l, env, m => by
    have h1 := fun env m => lsS_in ft l env m
    rw [caS]
    exact h1 _ _
theorem csS_in (ft : List (List UInt8 × Int)) : ∀ (l : List Ca) (env : Env) (m : Int), (csS ft l env m).e = 0 → ∀ z ∈ (csS ft l env m).c, InT ft z
  | [], env, m => by rw [csS]; intro _ z hz; cases hz
  | c :: r, env, m => by
    have h1 := caS_in ft c env m
    have h2 := fun env m => csS_in ft r env m
    rw [csS]
    split
    · rename_i h0; intro h; exact absurd h h0
    · rename_i g1
      intro h
      exact in_app (h1 (by simpa using g1)) (h2 _ _ h)
end
theorem fnS_in (ft : List (List UInt8 × Int)) (f : Fu) (h : (fnS ft f).e = 0) : ∀ z ∈ (fnS ft f).c, InT ft z := by
  unfold fnS at h ⊢
  split
  · intro z hz; cases hz
  split
  · intro z hz; cases hz
  · rename_i g1 g2
    rw [if_neg g1, if_neg g2] at h
    exact lsS_in ft f.body _ 0 h
/-- Which functions are all right, where names are. -/
theorem lk_all {fs : List Fu} : ∀ (d k : Nat), k + d = fs.length → (lkZ fs (fs.drop k) k).1 = 0 → ∀ (j : Nat) (f : Fu), k ≤ j → fs[j]? = some f → (fnK fs j f).e = 0
  | 0, k, hd, _, j, f, hj, hf => by have := (List.getElem?_eq_some_iff.1 hf).1; omega
  | d + 1, k, hd, h, j, f, hj, hf => by
    rw [lkZ_drop (by omega)] at h
    have h0 : (fnK fs k fs[k]).e = 0 := by
      by_cases h0 : (fnK fs k fs[k]).e = 0
      · exact h0
      · rw [if_pos h0] at h; exact absurd h h0
    rw [if_neg (by simpa using h0)] at h
    by_cases e : j = k
    · subst e
      rw [List.getElem?_eq_getElem (by omega)] at hf
      rw [← Option.some.inj hf]; exact h0
    · exact lk_all d (k + 1) (by omega) h j f (by omega) hf
theorem nam_all {p : Pr} (h : (namZ p).1 = 0) : (checkZ p).1 = 0 ∧ ∀ (j : Nat) (f : Fu), p.funcs[j]? = some f → (fnK p.funcs j f).e = 0 := by
  have hc : (checkZ p).1 = 0 := by
    unfold namZ at h
    split at h
    · rename_i h0; exact absurd h h0
    · rename_i h0; simpa using h0
  refine ⟨hc, fun j f hf => ?_⟩
  unfold namZ at h
  rw [if_neg (by simpa using hc)] at h
  exact lk_all p.funcs.length 0 (by omega) (by rw [List.drop_zero]; exact h) j f (by omega) hf
/-- What a right function calls lies ahead of it. -/
theorem calls_ahead {p : Pr} (h : (namZ p).1 = 0) {k : Nat} (hk : k < p.funcs.length) : ∀ z ∈ (fnK p.funcs k p.funcs[k]).c, 0 ≤ z ∧ z < p.funcs.length := fun z hz => by
  obtain ⟨_, ha⟩ := nam_all h
  have hr := relF_ftK (Nat.le_of_lt hk) (fun j f _ hf => ha j f hf)
  obtain ⟨s, h1, h2⟩ := fnS_in (ftK p.funcs k) p.funcs[k] (ha k _ (List.getElem?_eq_getElem hk)) z hz
  obtain ⟨i, f, hi, hf, rfl⟩ := hr.1 s h1
  have := (hr.2 i f hi hf).2
  omega
/-- Whom the function of a number calls, by its marks. -/
theorem clN_marks {p : Pr} (h : (namZ p).1 = 0) {k : Nat} (hk : k < p.funcs.length) : clN p k = idxB (mark (List.replicate p.funcs.length false) (fnK p.funcs k p.funcs[k]).c) p.funcs.length := by
  unfold clN
  rw [if_neg (by omega), Int.toNat_natCast, List.getElem?_eq_getElem hk]
  exact compact_marks _ _ (calls_ahead h hk)
end Go.Proofs.YtkkcgkpbbngloaaGreatDoor

/- The document's own Calls: what the program's are. -/
namespace Go.Proofs.YtkkcgkpbbngloaaGreatDoor
open Go.RowKit Go.Sort

theorem idxB_len (cl : List Bool) : ∀ j, (idxB cl j).length ≤ j
  | 0 => Nat.le_refl _
  | j + 1 => by
    rw [idxB, List.length_append]
    have := idxB_len cl j
    split
    · simp; omega
    · simp; omega
set_option maxRecDepth 100000 in
set_option maxHeartbeats 4000000 in
theorem rncalls_any (p : Pr) (i : Int) (w : World) (hin : p.In w) : Calls Tryz.prog 8 #[p.val, .int .i64 i] w fun e w' => (∃ v, e = .returned v ∧ w'.ownsRow w.heap.size 3 1 v (clN p i).length ((clN p i).map (Value.int .i64))) ∧ Below w.heap.size w w' := by
  have hb1 := (Below.refl _ w).alloc (Nat.le_refl _) (.cells #[.slice p.wa p.widen.length p.wc, .slice p.fa p.funcs.length p.fc] 25)
  have HC := Hid.mk' (rncheck_any p _ (hin.stay hb1))
  have HL : Hid ((namZ p).1 = 0 → ∀ (k : Nat) (hk : k < p.funcs.length) w', Below w.heap.size w w' → Calls Tryz.prog 13 #[p.val, .int .i64 k] w' (LkR p k (fnK p.funcs k p.funcs[k]) w')) := fun h0 k hk w' hb => rlook_any p k w' (hin.stay hb) (nam_all h0).1 hk (fun j f _ hf => (nam_all h0).2 j f hf)
  have HN : Hid ((namZ p).1 = 0 → p.funcs.length ≤ 32) := fun h => (check_room (nam_all h).1).1
  clear hin
  unfold Pr.val at HC HL ⊢
  go_enter Tryz.func8, Tryz.ntmps8
  go_wp2_with fail
  refine HC.out.mono ?_
  rintro e w1 ⟨rfl, hbw⟩
  have HPX : Hid (∀ W', Below w1.heap.size w1 W' → Below w.heap.size w W' ∧ W'.cell? ⟨w.heap.size, 0, none⟩ = some (.slice p.wa p.widen.length p.wc) ∧ W'.cell? ⟨w.heap.size, 1, none⟩ = some (.slice p.fa p.funcs.length p.fc)) := fun W' hb => by
    have h0 := heap_alloc_new w (.cells #[.slice p.wa p.widen.length p.wc, .slice p.fa p.funcs.length p.fc] 25)
    have e1 := (hbw.block _ (by simp)).trans h0
    have e2 := (hb.block _ (Array.getElem?_eq_some_iff.1 e1).1).trans e1
    refine ⟨(hb1.trans (hbw.mono (by simp))).trans (hb.mono (by have := hbw.size; simp at this; omega)), ?_, ?_⟩
    · rw [Lib.cell_of_heap e2]; rfl
    · rw [Lib.cell_of_heap e2]; rfl
  clear HC hb1 hbw
  by_cases hz : (namZ p).1 = 0
  · have hzz : namZ p = (0, 0, 0) ∨ True := Or.inr trivial
    clear hzz
    have HZ := Hid.mk' hz
    have hn32 := HN.out hz
    have HL2 := Hid.mk' (HL.out hz)
    rw [hz]
    clear hz HN HL
    generalize (namZ p).2.1 = z2
    generalize (namZ p).2.2 = z3
    have hb3 := (Below.refl _ w1).alloc (Nat.le_refl _) (.cells #[.int .i64 0, .int .i64 z2, .int .i64 z3] 29)
    have HB3 := Hid.mk' hb3
    obtain ⟨hbq, p0, p1⟩ := HPX.out _ hb3
    have n0 : (w1.alloc (.cells #[.int .i64 0, .int .i64 z2, .int .i64 z3] 29)).cell? ⟨w1.heap.size, 0, none⟩ = some (.int .i64 0) := by rw [World.cell?_alloc_at _ _ _ _ rfl]; rfl
    clear hb3
    go_upto_region 2 with fail
    generalize w1.alloc (.cells #[.int .i64 0, .int .i64 z2, .int .i64 z3] 29) = W2 at *
    by_cases hi0 : i < 0
    · have hc : Hid (clN p i = []) := by show _ = _; unfold clN; rw [if_pos (Or.inr (Or.inl hi0))]
      go_wp2_with fail
      go_ret
      exact ⟨⟨_, rfl, by rw [hc.out]; exact nil_owns _ _⟩, hbq⟩
    · by_cases hin2 : (p.funcs.length : Int) ≤ i
      · have hc : Hid (clN p i = []) := by show _ = _; unfold clN; rw [if_pos (Or.inr (Or.inr hin2))]
        go_wp2_with fail
        go_ret
        exact ⟨⟨_, rfl, by rw [hc.out]; exact nil_owns _ _⟩, hbq⟩
      · obtain ⟨k, rfl⟩ : ∃ k : Nat, i = (k : Int) := ⟨i.toNat, by omega⟩
        have hk : k < p.funcs.length := by omega
        have hki : (k : Int) < (p.funcs.length : Int) := by omega
        have HLK := Hid.mk' (HL2.out k hk W2 hbq)
        have hc := clN_marks HZ.out hk
        have he := (nam_all HZ.out).2 k p.funcs[k] (List.getElem?_eq_getElem hk)
        generalize fnK p.funcs k p.funcs[k] = R at *
        have HCM := Hid.mk' hc
        have HRE := Hid.mk' he
        have hk0 : ¬ ((k : Int) < 0) := by omega
        clear hc he hi0 hin2 HL2
        go_wp2_with fail
        refine HLK.out.mono ?_
        rintro e w5 ⟨hb5, g, rfl, hrs⟩
        obtain ⟨nn, lp, kv, K, cv, hrs⟩ := hrs HRE.out
        rw [if_neg (by simpa using HRE.out)]
        have HRS := Hid.mk' hrs
        have HB5 := Hid.mk' (HB3.out.trans (hb5.mono HB3.out.size))
        generalize hcl : mark (List.replicate p.funcs.length false) R.c = cl at *
        have hcll : cl.length = p.funcs.length := by rw [← hcl, mark_length]; simp
        clear hb5 hrs HLK p0 p1 n0 hbq hcl
        have hb6 := ((Below.refl _ w5).alloc (Nat.le_refl _) (.cells #[.int .i64 0, .int .i64 0, .int .i64 0] 29)).alloc (by simp) (.cells #[] 3)
        have hnew := heap_alloc_new (w5.alloc (.cells #[.int .i64 0, .int .i64 0, .int .i64 0] 29)) (.cells #[] 3)
        rw [World.size_alloc] at hnew
        have HO6 : Hid (((w5.alloc (.cells #[.int .i64 0, .int .i64 0, .int .i64 0] 29)).alloc (.cells #[] 3)).ownsRow w.heap.size 3 1 (.slice (some ⟨w5.heap.size + 1, 0, none⟩) 0 0) 0 []) := by
          refine ⟨rfl, .inr ⟨w5.heap.size + 1, 0, #[], rfl, ?_, hnew, Nat.le_refl _, by unfold maxLen; omega, rfl, rfl⟩⟩
          have := (HPX.out _ HB5.out).1.size
          omega
        have HB6 := Hid.mk' hb6
        obtain ⟨i0, hi, hz0, hz1, hz2⟩ := info_parts Tryz.infoInt
        clear hb6 hnew
        go_upto_region 6 with fail
        generalize (w5.alloc (.cells #[.int .i64 0, .int .i64 0, .int .i64 0] 29)).alloc (.cells #[] 3) = W6 at *
        generalize hg6 : w5.heap.size + 1 = g6 at *
        have HG6 : Hid (w5.heap.size ≤ g6) := by show _ ≤ _; omega
        clear hg6
        obtain ⟨ca, cc, hcv⟩ := gown_form HRS.out.2.2.1
        subst hcv
        have hlen0 : idxB cl 0 = [] := rfl
        clear hlen0
        go_wp2_with fail
        go_loopw [8, 9] (fun t8 t9 wr => ∃ (j : Nat) (vo : Value), j ≤ p.funcs.length ∧ t9 = .int .i64 j ∧ t8 = vo ∧ wr.ownsRow w.heap.size 3 1 vo (idxB cl j).length ((idxB cl j).map (Value.int .i64)) ∧ (∀ g ∈ ob vo, w5.heap.size ≤ g) ∧ Below w5.heap.size w5 wr) (fun _ t9 _ => p.funcs.length - (intOf t9).toNat)
        case atStart => exact ⟨0, _, Nat.zero_le _, rfl, rfl, HO6.out, fun g hg => by
          have : g = g6 := by simpa [ob, Value.ownBlock] using hg
          rw [this]; exact HG6.out, HB6.out⟩
        case round =>
          obtain ⟨j, vo, hj, rfl, rfl, a1, a2, a3⟩ := hrel
          have hrs := HRS.out.stay a3
          have c7 := hrs.cell (j := 7) rfl
          rw [hcll] at c7
          have HA := Hid.mk' (And.intro a1 (And.intro a2 a3))
          by_cases hlt : j < p.funcs.length
          · have hli : (j : Int) < (p.funcs.length : Int) := by omega
            have hjc : j < cl.length := by omega
            obtain ⟨gc, cap, hcv, hcap, e1, _⟩ := gown_cell (j := j) (u := .bool cl[j]) hrs.2.2.1 (by simp [hjc])
            injection hcv with hca _ hcc
            subst hca
            have HI : Hid (idxB cl (j + 1) = idxB cl j ++ (if cl[j] = true then [(j : Int)] else [])) := by
              show _ = _
              rw [idxB]
              simp [List.getD, hjc]
            obtain ⟨va, vc, hvo⟩ := gown_form a1
            subst hvo
            have hov := a1
            have hsw : w.heap.size ≤ wr.heap.size := (HPX.out _ (HB5.out.trans (a3.mono HB5.out.size))).1.size
            have hil : (idxB cl j).length ≤ 1000 := by
              have := idxB_len cl j; omega
            clear a1 a2 a3 hrs
            cases hb : cl[j]
            · rw [hb] at e1 HI
              have HV : Hid (idxB cl (j + 1) = idxB cl j) := by show _ = _; rw [HI.out]; simp
              go_wp2_with fail
              go_roundw
              case rel => exact ⟨j + 1, _, by omega, by go_num, rfl, by rw [HV.out]; exact HA.out.1, HA.out.2.1, HA.out.2.2⟩
              case measure => simp [intOf]; omega
            · rw [hb] at e1 HI
              have HV : Hid (idxB cl (j + 1) = idxB cl j ++ [(j : Int)]) := by show _ = _; rw [HI.out]; simp
              have hnew : ∀ j2 u, ([.int .i64 j] : List Value)[j2]? = some u → (wr.alloc (.cells #[.int .i64 j] 3)).cell? ((⟨wr.heap.size, 0, none⟩ : Addr).add j2) = some u := new_cell _ _ _
              go_wp2_with (at_builtin; refine wpList_append_own_at _ rfl _ _ 32 rfl w.heap.size 3 i0 (.int .i64 0) 1 8 Tryz.underlying32 hi hz0 hz1 hz2 rfl (by decide) _ _ _ rfl (hov.alloc _) ⟨wr.heap.size, 0, none⟩ 1 1 [.int .i64 j] rfl rfl hnew ?c2 ?c3 ?c4 ?c5 ?_)
              case c2 => first | rfl | (intro u hu; simp at hu; subst hu; rfl)
              case c3 => unfold maxLen; omega
              case c4 => omega
              case c5 => first | omega | (simp; omega)
              intro v' w2 hown' hgrow _ hat
              have HW2 := Hid.mk' (And.intro hown' (And.intro hgrow hat))
              clear hown' hgrow hat hov hnew c7 e1
              go_wp2_with fail
              go_roundw
              case rel =>
                obtain ⟨o1, o2, o3⟩ := HW2.out
                obtain ⟨b1, b2, b3⟩ := HA.out
                have hfr : Fr (ob (.slice va (idxB cl j).length vc)) wr w2 := ((Fr.refl _ wr).alloc _).trans (Fr.of_grown o2)
                refine ⟨j + 1, v', by omega, by go_num, rfl, ?_, fun g hg => ?_, b3.trans (hfr.below b2 b3.size)⟩
                · rw [HV.out, List.length_append, List.map_append]; exact o1
                · rcases o3 with e | e
                  · exact b2 g (by unfold ob at hg ⊢; rw [← e]; exact hg)
                  · have : g = wr.heap.size + 1 := by unfold ob at hg; rw [e] at hg; simpa using hg
                    have := b3.size
                    omega
              case measure => simp [intOf]; omega
          · have hli : ¬ (j : Int) < (p.funcs.length : Int) := by omega
            have hjn : j = p.funcs.length := by omega
            have HV : Hid (clN p k = idxB cl j) := by show _ = _; rw [HCM.out, hjn]
            clear a1 a2 a3 hrs hjn
            go_wp2_with fail
            go_ret
            exact ⟨⟨_, rfl, by rw [HV.out]; exact HA.out.1⟩, (HPX.out _ (HB5.out.trans (HA.out.2.2.mono HB5.out.size))).1⟩
  · have hc : Hid (clN p i = []) := by show _ = _; unfold clN; rw [if_pos (Or.inl hz)]
    have hz' : ((namZ p).1 != 0) = true := by simpa using hz
    clear hz HL HN
    generalize (namZ p).1 = z1 at *
    generalize (namZ p).2.1 = z2
    generalize (namZ p).2.2 = z3
    have hb3 := (HPX.out _ ((Below.refl _ w1).alloc (Nat.le_refl _) (.cells #[.int .i64 z1, .int .i64 z2, .int .i64 z3] 29))).1
    go_wp2_with fail
    go_ret
    exact ⟨⟨_, rfl, by rw [hc.out]; exact nil_owns _ _⟩, hb3⟩
end Go.Proofs.YtkkcgkpbbngloaaGreatDoor

/- Rows that lie in a block; small numbers; the zero expression. -/
namespace Go.Proofs.YtkkcgkpbbngloaaGreatDoor
open Go.RowKit Go.Sort

def zEx : Ex := .mk 0 0 ⟨#[]⟩ none 0 []
theorem flat_at (sz : Nat) : ∀ (rows : List (List Value)), (∀ r ∈ rows, r.length = sz) → ∀ (i j : Nat) cs v, rows[i]? = some cs → cs[j]? = some v → rows.flatten[i * sz + j]? = some v
  | [], _, i, j, cs, v, hi, _ => by simp at hi
  | r :: rs, h, 0, j, cs, v, hi, hj => by
    simp only [List.getElem?_cons_zero, Option.some.injEq] at hi
    subst hi
    have hlt := (List.getElem?_eq_some_iff.1 hj).1
    rw [List.flatten_cons, Nat.zero_mul, Nat.zero_add, List.getElem?_append_left hlt]; exact hj
  | r :: rs, h, i + 1, j, cs, v, hi, hj => by
    have hr := h r (by simp)
    rw [List.flatten_cons, List.getElem?_append_right (by rw [hr, Nat.succ_mul]; omega), hr, show (i + 1) * sz + j - sz = i * sz + j from by rw [Nat.succ_mul]; omega]
    exact flat_at sz rs (fun x hx => h x (by simp [hx])) i j cs v (by simpa using hi) hj
theorem rowIn_block {W : World} {g sz : Nat} {rows : List (List Value)} {arr : Array Value} {t : TypeId} {fz : Nat × Nat} (h : W.heap[g]? = some (.cells arr t fz)) (hf : arr.toList = rows.flatten ∨ ∃ rest, arr.toList = rows.flatten ++ rest) (hl : ∀ r ∈ rows, r.length = sz) : RowIn W (some ⟨g, 0, none⟩) sz rows := by
  intro i cs hi
  refine ⟨g, 0, rfl, fun j v hj => ?_⟩
  have h1 := flat_at sz rows hl i j cs v hi hj
  rw [Lib.cell_of_heap h, Nat.zero_add, ← Array.getElem?_toList]
  rcases hf with hf | ⟨rest, hf⟩
  · rw [hf]; exact h1
  · rw [hf, List.getElem?_append_left (List.getElem?_eq_some_iff.1 h1).1]; exact h1
theorem rowIn_nil {W : World} {a : Option Addr} {sz : Nat} : RowIn W a sz [] := fun i cs h => by simp at h

theorem i0 : I64 0 := ⟨by decide, by decide⟩
theorem i1 : I64 1 := ⟨by decide, by decide⟩
theorem i2 : I64 2 := ⟨by decide, by decide⟩
theorem i5 : I64 5 := ⟨by decide, by decide⟩
theorem i9 : I64 9 := ⟨by decide, by decide⟩
theorem i10 : I64 10 := ⟨by decide, by decide⟩
theorem im5 : I64 (-5) := ⟨by decide, by decide⟩
theorem n0 : (0 : Nat) ≤ 140737488351232 := by decide
theorem n1 : (1 : Nat) ≤ 140737488351232 := by decide
theorem lenE (l : List Ex) : ∀ r ∈ l.map Ex.cells, r.length = 4 := by intro r hr; obtain ⟨x, _, rfl⟩ := List.mem_map.1 hr; rfl
theorem lenS (l : List St) : ∀ r ∈ l.map St.cells, r.length = 14 := by intro r hr; obtain ⟨x, _, rfl⟩ := List.mem_map.1 hr; rfl
theorem lenP (l : List Pa) : ∀ r ∈ l.map Pa.cells, r.length = 3 := by intro r hr; obtain ⟨x, _, rfl⟩ := List.mem_map.1 hr; rfl
theorem lenF (l : List Fu) : ∀ r ∈ l.map Fu.cells, r.length = 3 := by intro r hr; obtain ⟨x, _, rfl⟩ := List.mem_map.1 hr; rfl
theorem lenI (l : List Int) : ∀ r ∈ l.map (fun z => ([.int .i64 z] : List Value)), r.length = 1 := by intro r hr; obtain ⟨x, _, rfl⟩ := List.mem_map.1 hr; rfl
theorem zEx_in (W : World) : zEx.In W := Ex.in_iff.2 ⟨i0, i0, n0, Nat.le_refl _, n0, fun _ => rfl, rowIn_nil, fun y hy => by cases hy⟩
theorem have_nil (W : World) : Have W none 0 [] := ⟨⟨Nat.le_refl _, n0, fun _ => rfl, rowIn_nil⟩, fun y hy => by cases hy⟩
end Go.Proofs.YtkkcgkpbbngloaaGreatDoor

/- The programs of the statements' first question (layer 4), and what the plain functions say of them. -/
namespace Go.Proofs.YtkkcgkpbbngloaaGreatDoor
open Go.RowKit Go.Sort

/-- A call of a function without arguments, as a statement. -/
def lcE (s : ByteArray) : Ex := .mk 4 0 s none 0 []
def lcS (s : ByteArray) : St := .mk 10 ⟨#[]⟩ 0 (lcE s) zEx none 0 [] none 0 [] none 0 []
def pF : Fu := ⟨⟨#[102]⟩, none, 0, [], none, 0, []⟩
def pG (G : Nat) : Fu := ⟨⟨#[103]⟩, none, 0, [], some ⟨G, 0, none⟩, 2, [lcS ⟨#[102]⟩, lcS ⟨#[102]⟩]⟩
def qF (G : Nat) : Fu := ⟨⟨#[102]⟩, none, 0, [], some ⟨G, 0, none⟩, 1, [lcS ⟨#[102]⟩]⟩
def awP (G F : Nat) : Pr := ⟨none, 0, [], some ⟨F, 0, none⟩, 2, [pF, pG G]⟩
def awQ (G F : Nat) : Pr := ⟨none, 0, [], some ⟨F, 0, none⟩, 1, [qF G]⟩
theorem aw_np (G F : Nat) : namZ (awP G F) = (0, 0, 0) := by kernel_rfl
theorem aw_nq (G F : Nat) : namZ (awQ G F) = (8, 0, 1) := by kernel_rfl
theorem aw_c (G F : Nat) : (fnK (awP G F).funcs 1 (pG G)).c = [0, 0] := by kernel_rfl
theorem sort00 : sortI [0, 0] = [0, 0] := List.mergeSort_of_pairwise (by simp)
theorem compact00 : Lib.compact ([0, 0] : List Int) = [0] := by kernel_rfl
theorem aw_cl (G F : Nat) : clN (awP G F) 1 = [0] := by
  unfold clN
  rw [aw_np]
  show (if (0 : Int) ≠ 0 ∨ (1 : Int) < 0 ∨ (2 : Int) ≤ 1 then [] else Lib.compact (sortI (fnK (awP G F).funcs 1 (pG G)).c)) = _
  rw [if_neg (by omega), aw_c, sort00, compact00]
end Go.Proofs.YtkkcgkpbbngloaaGreatDoor

/- The statements' own first question (layer 4): answers that the document fixes. -/
namespace Go.Proofs.YtkkcgkpbbngloaaGreatDoor
open Go.RowKit Go.Sort

theorem i4 : I64 4 := ⟨by decide, by decide⟩
theorem lcE_in (W : World) (s : ByteArray) (h : s.size ≤ 140737488351232) : (lcE s).In W := Ex.in_iff.2 ⟨i4, i0, h, Nat.le_refl _, n0, fun _ => rfl, rowIn_nil, (fun y hy => by cases hy)⟩
theorem lcS_in (W : World) (s : ByteArray) (h : s.size ≤ 140737488351232) : (lcS s).In W := St.in_iff.2 ⟨i10, n0, i0, lcE_in W s h, zEx_in W, have_nil W, have_nil W, ⟨Nat.le_refl _, n0, fun _ => rfl, rowIn_nil⟩, (fun y hy => by cases hy)⟩
set_option maxRecDepth 100000 in
set_option maxHeartbeats 4000000 in
theorem lcall_any (s : ByteArray) (w : World) : Calls Tryz.prog 10 #[.string s] w fun e w' => e = .returned (lcS s).val ∧ Below w.heap.size w w' := by
  have hb := (Below.refl _ w).alloc (Nat.le_refl _) (.cells #[.int .i64 10, .string ⟨#[]⟩, .int .i64 0, .int .i64 4, .int .i64 0, .string s, .slice none 0 0, .int .i64 0, .int .i64 0, .string ⟨#[]⟩, .slice none 0 0, .slice none 0 0, .slice none 0 0, .slice none 0 0] 44)
  go_enter Tryz.func10, Tryz.ntmps10
  go_wp2_with fail
  exact bodyPost_ret (v := (lcS s).val) (by simp [results, Tryz.results10, go_sem]; rfl) rfl ⟨rfl, hb⟩
theorem pF_in (W : World) : pF.In W := ⟨n1, Nat.le_refl _, n0, fun _ => rfl, rowIn_nil, (fun q hq => by cases hq), have_nil W⟩
theorem body_in {W : World} {G n : Nat} {l : List St} {arr : Array Value} {t : TypeId} (hg : W.heap[G]? = some (.cells arr t (0, 0))) (ha : arr.toList = (l.map St.cells).flatten) (hn : l.length ≤ n) (hn2 : n ≤ 1000) (hl : ∀ x ∈ l, x.In W) : Have W (some ⟨G, 0, none⟩) n l :=
  ⟨⟨hn, by omega, (fun e => by cases e), rowIn_block hg (.inl ha) (lenS l)⟩, hl⟩
theorem fn_in {W : World} {s : ByteArray} {a : Option Addr} {c : Nat} {l : List St} (hs : s.size ≤ 140737488351232) (h : Have W a c l) : Fu.In W ⟨s, none, 0, [], a, c, l⟩ := ⟨hs, Nat.le_refl _, n0, fun _ => rfl, rowIn_nil, (fun q hq => by cases hq), h⟩
theorem pr_in {W : World} {F n : Nat} {l : List Fu} {arr : Array Value} {t : TypeId} (hg : W.heap[F]? = some (.cells arr t (0, 0))) (ha : arr.toList = (l.map Fu.cells).flatten) (hn : l.length ≤ n) (hn2 : n ≤ 1000) (hl : ∀ x ∈ l, x.In W) : Pr.In W ⟨none, 0, [], some ⟨F, 0, none⟩, n, l⟩ :=
  ⟨Nat.le_refl _, n0, fun _ => rfl, rowIn_nil, (fun z hz => by cases hz), hn, by show n * 64 ≤ 140737488351232; omega, (fun e => by cases e), rowIn_block hg (.inl ha) (lenF l), hl⟩
theorem keep_h {W W' : World} {k : Nat} {o : Obj} (h : W.heap[k]? = some o) (hb : Below W.heap.size W W') : W'.heap[k]? = some o := (hb.block k (Array.getElem?_eq_some_iff.1 h).1).trans h
theorem awP_in {W : World} {G F : Nat} (h1 : W.heap[G]? = some (.cells ([lcS ⟨#[102]⟩, lcS ⟨#[102]⟩].map St.cells).flatten.toArray 44 (0, 0))) (h2 : W.heap[F]? = some (.cells ([pF, pG G].map Fu.cells).flatten.toArray 38 (0, 0))) : (awP G F).In W :=
  pr_in h2 rfl (Nat.le_refl _) (by decide) (fun x hx => by
    rcases List.mem_cons.1 hx with rfl | hx
    · exact pF_in W
    · rcases List.mem_singleton.1 hx with rfl
      exact fn_in n1 (body_in h1 rfl (Nat.le_refl _) (by decide) (fun x hx => by
        have : x = lcS ⟨#[102]⟩ := by simpa using hx
        subst this; exact lcS_in W _ n1)))
theorem awQ_in {W : World} {G F : Nat} (h1 : W.heap[G]? = some (.cells ([lcS ⟨#[102]⟩].map St.cells).flatten.toArray 44 (0, 0))) (h2 : W.heap[F]? = some (.cells ([qF G].map Fu.cells).flatten.toArray 38 (0, 0))) : (awQ G F).In W :=
  pr_in h2 rfl (Nat.le_refl _) (by decide) (fun x hx => by
    rcases List.mem_singleton.1 hx with rfl
    exact fn_in n1 (body_in h1 rfl (Nat.le_refl _) (by decide) (fun x hx => by
        have : x = lcS ⟨#[102]⟩ := by simpa using hx
        subst this; exact lcS_in W _ n1)))
set_option maxRecDepth 100000 in
set_option maxHeartbeats 4000000 in
theorem awake4_any (w : World) (ht : Tabs w) : Calls Tryz.prog 5 #[] w fun e w' => e = .returned (.bool true) ∧ Below w.heap.size w w' := by
  have HT := Hid.mk' ht
  have HL : Hid (∀ w', Calls Tryz.prog 10 #[.string ⟨#[102]⟩] w' fun e w'' => e = .returned (lcS ⟨#[102]⟩).val ∧ Below w'.heap.size w' w'') := fun w' => lcall_any _ w'
  clear ht
  unfold St.val lcS lcE zEx at HL
  simp only [St.kind, St.name, St.n, St.a, St.b, St.ba, St.bc, St.body, St.ea, St.ec, St.els, St.ca, St.cc, St.cases, Ex.kind, Ex.n, Ex.name, Ex.a, Ex.cap, Ex.args, List.length_nil] at HL
  go_enter Tryz.func5, Tryz.ntmps5
  go_wp2_with fail
  refine (HL.out _).mono ?_
  rintro e w1 ⟨rfl, hb1⟩
  go_wp2_with fail
  refine (HL.out _).mono ?_
  rintro e w2 ⟨rfl, hb2⟩
  go_wp2_with fail
  have hbw2 : Below w.heap.size w w2 := hb1.trans (hb2.mono hb1.size)
  have k1 := keep_heap (keep_heap (new_heap (W := w2) (.cells #[.int .i64 10, .string ⟨#[]⟩, .int .i64 0, .int .i64 4, .int .i64 0, .string ⟨#[102]⟩, .slice none 0 0, .int .i64 0, .int .i64 0, .string ⟨#[]⟩, .slice none 0 0, .slice none 0 0, .slice none 0 0, .slice none 0 0, .int .i64 10, .string ⟨#[]⟩, .int .i64 0, .int .i64 4, .int .i64 0, .string ⟨#[102]⟩, .slice none 0 0, .int .i64 0, .int .i64 0, .string ⟨#[]⟩, .slice none 0 0, .slice none 0 0, .slice none 0 0, .slice none 0 0] 44) rfl) (.cells #[.string ⟨#[102]⟩, .slice none 0 0, .slice none 0 0, .string ⟨#[103]⟩, .slice none 0 0, .slice (some ⟨w2.heap.size, 0, none⟩) 2 2] 38)) (.cells #[.slice none 0 0, .slice (some ⟨w2.heap.size + 1, 0, none⟩) 2 2] 25)
  have k2 := keep_heap (new_heap (W := w2.alloc (.cells #[.int .i64 10, .string ⟨#[]⟩, .int .i64 0, .int .i64 4, .int .i64 0, .string ⟨#[102]⟩, .slice none 0 0, .int .i64 0, .int .i64 0, .string ⟨#[]⟩, .slice none 0 0, .slice none 0 0, .slice none 0 0, .slice none 0 0, .int .i64 10, .string ⟨#[]⟩, .int .i64 0, .int .i64 4, .int .i64 0, .string ⟨#[102]⟩, .slice none 0 0, .int .i64 0, .int .i64 0, .string ⟨#[]⟩, .slice none 0 0, .slice none 0 0, .slice none 0 0, .slice none 0 0] 44)) (k := w2.heap.size + 1) (.cells #[.string ⟨#[102]⟩, .slice none 0 0, .slice none 0 0, .string ⟨#[103]⟩, .slice none 0 0, .slice (some ⟨w2.heap.size, 0, none⟩) 2 2] 38) (by simp)) (.cells #[.slice none 0 0, .slice (some ⟨w2.heap.size + 1, 0, none⟩) 2 2] 25)
  have k3 := new_heap (W := (w2.alloc (.cells #[.int .i64 10, .string ⟨#[]⟩, .int .i64 0, .int .i64 4, .int .i64 0, .string ⟨#[102]⟩, .slice none 0 0, .int .i64 0, .int .i64 0, .string ⟨#[]⟩, .slice none 0 0, .slice none 0 0, .slice none 0 0, .slice none 0 0, .int .i64 10, .string ⟨#[]⟩, .int .i64 0, .int .i64 4, .int .i64 0, .string ⟨#[102]⟩, .slice none 0 0, .int .i64 0, .int .i64 0, .string ⟨#[]⟩, .slice none 0 0, .slice none 0 0, .slice none 0 0, .slice none 0 0] 44)).alloc (.cells #[.string ⟨#[102]⟩, .slice none 0 0, .slice none 0 0, .string ⟨#[103]⟩, .slice none 0 0, .slice (some ⟨w2.heap.size, 0, none⟩) 2 2] 38)) (k := w2.heap.size + 1 + 1) (.cells #[.slice none 0 0, .slice (some ⟨w2.heap.size + 1, 0, none⟩) 2 2] 25) (by simp)
  have hb3 := ((hbw2.alloc hbw2.size (.cells #[.int .i64 10, .string ⟨#[]⟩, .int .i64 0, .int .i64 4, .int .i64 0, .string ⟨#[102]⟩, .slice none 0 0, .int .i64 0, .int .i64 0, .string ⟨#[]⟩, .slice none 0 0, .slice none 0 0, .slice none 0 0, .slice none 0 0, .int .i64 10, .string ⟨#[]⟩, .int .i64 0, .int .i64 4, .int .i64 0, .string ⟨#[102]⟩, .slice none 0 0, .int .i64 0, .int .i64 0, .string ⟨#[]⟩, .slice none 0 0, .slice none 0 0, .slice none 0 0, .slice none 0 0] 44)).alloc (by have := hbw2.size; simp; omega) (.cells #[.string ⟨#[102]⟩, .slice none 0 0, .slice none 0 0, .string ⟨#[103]⟩, .slice none 0 0, .slice (some ⟨w2.heap.size, 0, none⟩) 2 2] 38)).alloc (by have := hbw2.size; simp; omega) (.cells #[.slice none 0 0, .slice (some ⟨w2.heap.size + 1, 0, none⟩) 2 2] 25)
  generalize ((w2.alloc (.cells #[.int .i64 10, .string ⟨#[]⟩, .int .i64 0, .int .i64 4, .int .i64 0, .string ⟨#[102]⟩, .slice none 0 0, .int .i64 0, .int .i64 0, .string ⟨#[]⟩, .slice none 0 0, .slice none 0 0, .slice none 0 0, .slice none 0 0, .int .i64 10, .string ⟨#[]⟩, .int .i64 0, .int .i64 4, .int .i64 0, .string ⟨#[102]⟩, .slice none 0 0, .int .i64 0, .int .i64 0, .string ⟨#[]⟩, .slice none 0 0, .slice none 0 0, .slice none 0 0, .slice none 0 0] 44)).alloc (.cells #[.string ⟨#[102]⟩, .slice none 0 0, .slice none 0 0, .string ⟨#[103]⟩, .slice none 0 0, .slice (some ⟨w2.heap.size, 0, none⟩) 2 2] 38)).alloc (.cells #[.slice none 0 0, .slice (some ⟨w2.heap.size + 1, 0, none⟩) 2 2] 25) = W3 at *
  have K1 := Hid.mk' k1
  have K2 := Hid.mk' k2
  have K3 := Hid.mk' k3
  have HB3 := Hid.mk' hb3
  clear k1 k2 k3 hb1 hb2 hbw2 hb3
  generalize w2.heap.size + 1 + 1 = P at *
  generalize w2.heap.size + 1 = F at *
  generalize w2.heap.size = G at *
  refine (HL.out _).mono ?_
  rintro e w4 ⟨rfl, hb4⟩
  have k1 := keep_h K1.out hb4
  have k2 := keep_h K2.out hb4
  have k3 := keep_h K3.out hb4
  have hbw4 : Below w.heap.size w w4 := HB3.out.trans (hb4.mono HB3.out.size)
  have k4 := keep_heap (keep_heap (new_heap (W := w4) (.cells #[.int .i64 10, .string ⟨#[]⟩, .int .i64 0, .int .i64 4, .int .i64 0, .string ⟨#[102]⟩, .slice none 0 0, .int .i64 0, .int .i64 0, .string ⟨#[]⟩, .slice none 0 0, .slice none 0 0, .slice none 0 0, .slice none 0 0] 44) rfl) (.cells #[.string ⟨#[102]⟩, .slice none 0 0, .slice (some ⟨w4.heap.size, 0, none⟩) 1 1] 38)) (.cells #[.slice none 0 0, .slice (some ⟨w4.heap.size + 1, 0, none⟩) 1 1] 25)
  have k5 := keep_heap (new_heap (W := w4.alloc (.cells #[.int .i64 10, .string ⟨#[]⟩, .int .i64 0, .int .i64 4, .int .i64 0, .string ⟨#[102]⟩, .slice none 0 0, .int .i64 0, .int .i64 0, .string ⟨#[]⟩, .slice none 0 0, .slice none 0 0, .slice none 0 0, .slice none 0 0] 44)) (k := w4.heap.size + 1) (.cells #[.string ⟨#[102]⟩, .slice none 0 0, .slice (some ⟨w4.heap.size, 0, none⟩) 1 1] 38) (by simp)) (.cells #[.slice none 0 0, .slice (some ⟨w4.heap.size + 1, 0, none⟩) 1 1] 25)
  have k6 := new_heap (W := (w4.alloc (.cells #[.int .i64 10, .string ⟨#[]⟩, .int .i64 0, .int .i64 4, .int .i64 0, .string ⟨#[102]⟩, .slice none 0 0, .int .i64 0, .int .i64 0, .string ⟨#[]⟩, .slice none 0 0, .slice none 0 0, .slice none 0 0, .slice none 0 0] 44)).alloc (.cells #[.string ⟨#[102]⟩, .slice none 0 0, .slice (some ⟨w4.heap.size, 0, none⟩) 1 1] 38)) (k := w4.heap.size + 1 + 1) (.cells #[.slice none 0 0, .slice (some ⟨w4.heap.size + 1, 0, none⟩) 1 1] 25) (by simp)
  have hb5 := (((Below.refl _ w4).alloc (Nat.le_refl _) (.cells #[.int .i64 10, .string ⟨#[]⟩, .int .i64 0, .int .i64 4, .int .i64 0, .string ⟨#[102]⟩, .slice none 0 0, .int .i64 0, .int .i64 0, .string ⟨#[]⟩, .slice none 0 0, .slice none 0 0, .slice none 0 0, .slice none 0 0] 44)).alloc (by simp) (.cells #[.string ⟨#[102]⟩, .slice none 0 0, .slice (some ⟨w4.heap.size, 0, none⟩) 1 1] 38)).alloc (by simp; omega) (.cells #[.slice none 0 0, .slice (some ⟨w4.heap.size + 1, 0, none⟩) 1 1] 25)
  have k1 := keep_h k1 hb5
  have k2 := keep_h k2 hb5
  have k3 := keep_h k3 hb5
  have hb6 := hbw4.trans (hb5.mono hbw4.size)
  have KK := Hid.mk' (And.intro k1 (And.intro k2 (And.intro k3 (And.intro k4 (And.intro k5 (And.intro k6 hb6))))))
  clear k1 k2 k3 k4 k5 k6 hb4 hb5 hb6 hbw4 K1 K2 K3 HB3
  go_upto_region 3 with fail
  generalize ((w4.alloc (.cells #[.int .i64 10, .string ⟨#[]⟩, .int .i64 0, .int .i64 4, .int .i64 0, .string ⟨#[102]⟩, .slice none 0 0, .int .i64 0, .int .i64 0, .string ⟨#[]⟩, .slice none 0 0, .slice none 0 0, .slice none 0 0, .slice none 0 0] 44)).alloc (.cells #[.string ⟨#[102]⟩, .slice none 0 0, .slice (some ⟨w4.heap.size, 0, none⟩) 1 1] 38)).alloc (.cells #[.slice none 0 0, .slice (some ⟨w4.heap.size + 1, 0, none⟩) 1 1] 25) = W5 at *
  generalize w4.heap.size + 1 + 1 = P2 at *
  generalize w4.heap.size + 1 = F2 at *
  generalize w4.heap.size = G2 at *
  obtain ⟨k1, k2, k3, k4, k5, k6, hb6⟩ := KK.out
  have HP : Hid ((awP G F).In W5) := awP_in k1 k2
  have HQ : Hid ((awQ G2 F2).In W5) := awQ_in k4 k5
  have c0 : W5.cell? ⟨P, 0, none⟩ = some (.slice none 0 0) := by rw [Lib.cell_of_heap k3]; rfl
  have c1 : W5.cell? ⟨P, 1, none⟩ = some (.slice (some ⟨F, 0, none⟩) 2 2) := by rw [Lib.cell_of_heap k3]; rfl
  have C : Hid (∀ w', Below W5.heap.size W5 w' → w'.cell? ⟨P, 0, none⟩ = some (.slice none 0 0) ∧ w'.cell? ⟨P, 1, none⟩ = some (.slice (some ⟨F, 0, none⟩) 2 2) ∧ w'.cell? ⟨P2, 0, none⟩ = some (.slice none 0 0) ∧ w'.cell? ⟨P2, 1, none⟩ = some (.slice (some ⟨F2, 0, none⟩) 1 1)) := fun w' hb =>
    ⟨by rw [Lib.cell_of_heap (keep_h k3 hb)]; rfl, by rw [Lib.cell_of_heap (keep_h k3 hb)]; rfl, by rw [Lib.cell_of_heap (keep_h k6 hb)]; rfl, by rw [Lib.cell_of_heap (keep_h k6 hb)]; rfl⟩
  have HCL : Hid (Calls Tryz.prog 9 #[.agg #[.slice none 0 0, .slice (some ⟨F, 0, none⟩) 2 2], .int .i64 1] W5 fun e w' => (∃ v, e = .returned v ∧ w'.ownsRow W5.heap.size 3 1 v 1 [.int .i64 0]) ∧ Below W5.heap.size W5 w') := by
    have := ncalls_any (awP G F) 1 W5 HP.out (HT.out.stay hb6)
    rw [aw_cl] at this; exact this
  have HC1 : Hid (∀ w', Below W5.heap.size W5 w' → Calls Tryz.prog 6 #[.agg #[.slice none 0 0, .slice (some ⟨F, 0, none⟩) 2 2]] w' fun e w'' => e = .returned (fltV 0 0 0) ∧ Below w'.heap.size w' w'') := fun w' hb => by
    have := ncheck_any (awP G F) w' (HP.out.stay hb) (HT.out.stay (hb6.trans (hb.mono hb6.size)))
    rw [aw_np] at this; exact this
  have HC2 : Hid (∀ w', Below W5.heap.size W5 w' → Calls Tryz.prog 6 #[.agg #[.slice none 0 0, .slice (some ⟨F2, 0, none⟩) 1 1]] w' fun e w'' => e = .returned (fltV 8 0 1) ∧ Below w'.heap.size w' w'') := fun w' hb => by
    have := ncheck_any (awQ G2 F2) w' (HQ.out.stay hb) (HT.out.stay (hb6.trans (hb.mono hb6.size)))
    rw [aw_nq] at this; exact this
  have HB6 := Hid.mk' hb6
  clear k1 k2 k3 k4 k5 k6 hb6 KK HP HQ HL
  go_wp2_with fail
  refine HCL.out.mono ?_
  rintro e w6 ⟨⟨v, rfl, ho⟩, hb7⟩
  obtain ⟨va, vc, rfl⟩ := own_form (xs := [.int .i64 0]) ho
  clear HCL c0 c1
  obtain ⟨c0, c1, _, _⟩ := C.out _ hb7
  have hq := equalIn_flt
  have hg := eqGuard_flt
  unfold fltV at hq HC1 HC2
  go_wp2_with fail
  refine (HC1.out _ hb7).mono ?_
  rintro e w7 ⟨rfl, hb8⟩
  have hb8' := hb7.trans (hb8.mono hb7.size)
  clear c0 c1 HC1
  obtain ⟨_, _, c2, c3⟩ := C.out _ hb8'
  go_wp2_with fail
  refine (HC2.out _ hb8').mono ?_
  rintro e w8 ⟨rfl, hb9⟩
  have hb9' := hb8'.trans (hb9.mono hb8'.size)
  have hof : w8.ownsRow W5.heap.size 3 1 (.slice va 1 vc) 1 [.int .i64 0] := own_keep ho (fun g hg => ((hb8.block g (own_lt ho g hg).2).symm ▸ hb9.block g (Nat.lt_of_lt_of_le (own_lt ho g hg).2 hb8.size)))
  clear c2 c3 HC2
  rcases hof.2 with ⟨e0, _⟩ | ⟨g, cap, cur, e0, hg1, hg2, hg3, hg4, hg5, hg6⟩
  · cases e0
  cases e0
  have d0 : w8.cell? ⟨g, 0, none⟩ = some (.int .i64 0) := by
    have := hof.cellAt 0 (by decide)
    simpa using this
  have HB9 : Hid (Below w.heap.size w w8) := HB6.out.trans (hb9'.mono HB6.out.size)
  clear hof hg1 hg2 hg3 hg4 hg5 hg6 ho
  go_wp2_with fail
  go_ret
  exact ⟨rfl, HB9.out⟩
end Go.Proofs.YtkkcgkpbbngloaaGreatDoor

/- NamesCalls: which functions are called; what comes out is its owner's. -/
namespace Go.Proofs.YtkkcgkpbbngloaaGreatDoor
open Go.RowKit Go.Sort

theorem clN_len (p : Pr) (i : Int) : (clN p i).length ≤ 12288 := by
  unfold clN
  split
  · simp
  · rename_i h
    have hz : (namZ p).1 = 0 := by
      by_cases h0 : (namZ p).1 = 0
      · exact h0
      · exact absurd (Or.inl h0) h
    split
    · rename_i f hf
      have h1 := Lib.compact_length_le (sortI (fnK p.funcs i.toNat f).c)
      rw [sortI_length] at h1
      have h2 := fnS_len (ftK p.funcs i.toNat) f
      have h3 := ((check_room (nam_all hz).1).2 f (List.mem_of_getElem? hf)).1
      have h4 : (fnK p.funcs i.toNat f).c.length ≤ qSs f.body := h2
      omega
    · simp
/-- A row from a place on. -/
def Rest (xs : List Value) (c : List Int) (j : Nat) : Prop := ∀ i, j ≤ i → xs[i]? = (c.map (Value.int .i64))[i]?
set_option maxRecDepth 100000 in
set_option maxHeartbeats 8000000 in
theorem namesCalls_any (p : Pr) (i : Int) (w : World) (hin : p.In w) (_hi : I64 i) (ht : Tabs w) : Calls Tryz.prog 4 #[p.val, .int .i64 i] w fun e w' => e = .returned (.bool true) ∧ Below w.heap.size w w' := by
  have hb1 := (Below.refl _ w).alloc (Nat.le_refl _) (.cells #[.slice p.wa p.widen.length p.wc, .slice p.fa p.funcs.length p.fc] 25)
  have HA := Hid.mk' (awake4_any _ (ht.stay hb1))
  have HR : Hid (∀ w', Below w.heap.size w w' → Calls Tryz.prog 8 #[p.val, .int .i64 i] w' fun e w'' => (∃ v, e = .returned v ∧ w''.ownsRow w'.heap.size 3 1 v (clN p i).length ((clN p i).map (Value.int .i64))) ∧ Below w'.heap.size w' w'') := fun w' h => rncalls_any p i w' (hin.stay h)
  have HN : Hid (∀ w', Below w.heap.size w w' → Calls Tryz.prog 9 #[p.val, .int .i64 i] w' fun e w'' => (∃ v, e = .returned v ∧ w''.ownsRow w'.heap.size 3 1 v (clN p i).length ((clN p i).map (Value.int .i64))) ∧ Below w'.heap.size w' w'') := fun w' h => ncalls_any p i w' (hin.stay h) (ht.stay h)
  have hcl := clN_len p i
  clear hin ht
  generalize clN p i = c at *
  unfold Pr.val at HR HN ⊢
  go_enter Tryz.func4, Tryz.ntmps4
  go_wp2_with fail
  refine HA.out.mono ?_
  rintro e w1 ⟨rfl, hbw⟩
  have HPX : Hid (∀ W', Below w1.heap.size w1 W' → Below w.heap.size w W' ∧ W'.cell? ⟨w.heap.size, 0, none⟩ = some (.slice p.wa p.widen.length p.wc) ∧ W'.cell? ⟨w.heap.size, 1, none⟩ = some (.slice p.fa p.funcs.length p.fc)) := fun W' hb => by
    have h0 := heap_alloc_new w (.cells #[.slice p.wa p.widen.length p.wc, .slice p.fa p.funcs.length p.fc] 25)
    have e1 := (hbw.block _ (by simp)).trans h0
    have e2 := (hb.block _ (Array.getElem?_eq_some_iff.1 e1).1).trans e1
    refine ⟨(hb1.trans (hbw.mono (by simp))).trans (hb.mono (by have := hbw.size; simp at this; omega)), ?_, ?_⟩
    · rw [Lib.cell_of_heap e2]; rfl
    · rw [Lib.cell_of_heap e2]; rfl
  clear HA hb1 hbw
  obtain ⟨hbq, p0, p1⟩ := HPX.out _ (Below.refl _ _)
  have HR1 := Hid.mk' (HR.out _ hbq)
  clear HR hbq
  go_wp2_with fail
  refine HR1.out.mono ?_
  rintro e w3 ⟨⟨vw, rfl, how⟩, hb3⟩
  obtain ⟨wa, wc, hvw⟩ := own_form how
  subst hvw
  have HOW := Hid.mk' how
  have HB3 := Hid.mk' hb3
  obtain ⟨i0, hi0, hz0, hz1, hz2⟩ := info_parts Tryz.infoInt
  clear p0 p1 HR1 how hb3
  go_wp2_with fail
  go_loopw [14] (fun t14 wr => ∃ t : Nat, t ≤ 3 ∧ t14 = .int .i64 t ∧ Below w3.heap.size w3 wr) (fun t14 _ => 3 - (intOf t14).toNat)
  case atStart => exact ⟨0, by omega, rfl, Below.refl _ _⟩
  case round =>
    obtain ⟨t, ht, rfl, hbr⟩ := hrel
    have HBR := Hid.mk' hbr
    by_cases hlt : t < 3
    · have hli : (t : Int) < 3 := by omega
      obtain ⟨hbq, p0, p1⟩ := HPX.out _ (HB3.out.trans (hbr.mono HB3.out.size))
      have HN1 := Hid.mk' (HN.out _ hbq)
      clear hbr hbq
      go_wp2_with fail
      refine HN1.out.mono ?_
      rintro e w4 ⟨⟨vl, rfl, hol⟩, hb4⟩
      obtain ⟨M, hM⟩ : ∃ M, wr.heap.size = M := ⟨_, rfl⟩
      rw [hM] at hol
      have HM : Hid (w3.heap.size ≤ M ∧ M ≤ w4.heap.size) := ⟨by rw [← hM]; exact HBR.out.size, by rw [← hM]; exact hb4.size⟩
      have HB34 : Hid (∀ W', Below M w4 W' → Below w3.heap.size w3 W') := fun W' hW => (HBR.out.trans (hb4.mono HBR.out.size)).trans (hW.mono (by rw [← hM]; exact HBR.out.size))
      obtain ⟨la, lc, hvl⟩ := own_form hol
      subst hvl
      have HOL := Hid.mk' hol
      have HB4 := Hid.mk' hb4
      have HWK : Hid (∀ W', Fr (ob (.slice la c.length lc)) w4 W' → W'.ownsRow w1.heap.size 3 1 (.slice wa c.length wc) c.length (c.map (Value.int .i64))) := fun W' hf => own_keep HOW.out (fun g hg => by
        have h1 := (own_lt HOW.out g hg).2
        have h2 := HBR.out.size
        have h3 := HB4.out.size
        have h4 := HM.out.1
        rw [hf.2.2.2.2 g (by omega) (fun hy => by have := (own_lt HOL.out g hy).1; omega), HB4.out.block g (by omega), HBR.out.block g h1])
      clear p0 p1 HN1 hol hb4 hM
      go_wp2_with fail
      go_loopw [27] (fun t27 wr => ∃ (j : Nat) (xs : List Value), j ≤ c.length ∧ t27 = .int .i64 j ∧ wr.ownsRow M 3 1 (.slice la c.length lc) c.length xs ∧ Rest xs c j ∧ Fr (ob (.slice la c.length lc)) w4 wr) (fun t27 _ => c.length - (intOf t27).toNat)
      case atStart => exact ⟨0, _, Nat.zero_le _, rfl, HOL.out, fun _ _ => rfl, Fr.refl _ _⟩
      case round =>
        obtain ⟨j, xs, hj, rfl, a1, a2, a3⟩ := hrel
        have HA := Hid.mk' (And.intro a1 (And.intro a2 a3))
        have how := HWK.out _ a3
        by_cases hlj : j < c.length
        · have hlij : (j : Int) < (c.length : Int) := by omega
          obtain ⟨gl, cap1, hv1, hc1, e1, f1⟩ := gown_cell (j := j) (u := .int .i64 c[j]) a1 (by rw [a2 j (Nat.le_refl _)]; simp [hlj])
          injection hv1 with hla _ hlc
          subst hla
          subst hlc
          obtain ⟨gw, cap2, hv2, hc2, e2, _⟩ := gown_cell (j := j) (u := .int .i64 c[j]) how (by simp [hlj])
          injection hv2 with hwa _ hwc
          subst hwa
          subst hwc
          clear a1 a2 a3 how
          generalize c[j] = z at *
          have e1' : wr.drew.cell? _ = _ := e1
          have e2' : wr.drew.cell? _ = _ := e2
          have f1' : wr.drew.frozen? _ = _ := f1
          go_upto_region 13 with fail
          go_region
          clear e1 e2 e2' f1
          have HD := Hid.mk' (And.intro (gown_keep (W' := wr.drew) HA.out.1 (fun g _ => rfl)) (HA.out.2.2.trans (Fr.of_below (S := ob (.slice (some ⟨gl, 0, none⟩) c.length lc)) (Below.drew (Below.refl _ wr)))))
          generalize wr.drew = W5 at *
          go_wp2_with fail
          go_roundw
          case rel =>
            have hst := (World.ownsRow.stored HD.out.1 j (.int .i64 (-7 - (t : Int)))).1
            refine ⟨j + 1, _, by omega, by go_num, hst, fun i hi => ?_, HD.out.2.set (by simp [ob, Value.ownBlock]) _ _⟩
            rw [List.getElem?_set_ne (by omega)]
            exact HA.out.2.1 i (by omega)
          case measure => simp [intOf]; omega
        · have hlij : ¬ (j : Int) < (c.length : Int) := by omega
          have HBM : Hid (Below M w4 wr) := a3.below (fun g hg => (own_lt HOL.out g hg).1) HM.out.2
          clear a1 a2 a3 how
          go_wp2_with fail
          go_loopw [7, 45] (fun t7 t45 wr => ∃ (s : Nat) (v : Value) (xs : List Value), s ≤ 5 ∧ t45 = .int .i64 s ∧ t7 = v ∧ wr.ownsRow M 3 1 v (c.length + s) xs ∧ Below M w4 wr) (fun _ t45 _ => 5 - (intOf t45).toNat)
          case atStart => exact ⟨0, _, xs, by omega, rfl, rfl, HA.out.1, HBM.out⟩
          case round =>
            obtain ⟨s, v, ys, hs, rfl, rfl, b1, b2⟩ := hrel
            have HBB := Hid.mk' (And.intro b1 b2)
            by_cases hls : s < 5
            · have hlis : (s : Int) < 5 := by omega
              obtain ⟨va, vc, hv⟩ := gown_form b1
              subst hv
              have hov := b1
              have hMs : M ≤ wr.heap.size := Nat.le_trans HM.out.2 b2.size
              have hnew : ∀ j2 u, ([.int .i64 (-9)] : List Value)[j2]? = some u → (wr.alloc (.cells #[.int .i64 (-9)] 3)).cell? ((⟨wr.heap.size, 0, none⟩ : Addr).add j2) = some u := new_cell _ _ _
              clear b1 b2
              go_wp2_with (at_builtin; refine wpList_append_own_at _ rfl _ _ 32 rfl M 3 i0 (.int .i64 0) 1 8 Tryz.underlying32 hi0 hz0 hz1 hz2 rfl (by decide) _ _ _ rfl (hov.alloc _) ⟨wr.heap.size, 0, none⟩ 1 1 [.int .i64 (-9)] rfl rfl hnew ?c2 ?c3 ?c4 ?c5 ?_)
              case c2 => first | rfl | (intro u hu; simp at hu; subst hu; rfl)
              case c3 => unfold maxLen; omega
              case c4 => omega
              case c5 => first | omega | (simp; omega)
              intro v' w2 hown' hgrow _ hat
              have HW2 := Hid.mk' (And.intro hown' hgrow)
              clear hown' hgrow hat hov hnew
              go_wp2_with fail
              go_roundw
              case rel =>
                obtain ⟨o1, o2⟩ := HW2.out
                obtain ⟨b1, b2⟩ := HBB.out
                have hfr : Fr (ob (.slice va (c.length + s) vc)) wr w2 := ((Fr.refl _ wr).alloc _).trans (Fr.of_grown o2)
                exact ⟨s + 1, v', _, by omega, by go_num, rfl, o1, b2.trans (hfr.below (fun g hg => (gown_lt b1 g hg).1) (Nat.le_trans HM.out.2 b2.size))⟩
              case measure => simp [intOf]; omega
            · have hlis : ¬ (s : Int) < 5 := by omega
              have HF := Hid.mk' (HB34.out _ b2)
              clear b1 b2
              go_wp2_with fail
              go_roundw
              case rel => exact ⟨t + 1, by omega, by go_num, HF.out⟩
              case measure => simp [intOf]; omega
    · have hli : ¬ (t : Int) < 3 := by omega
      have hfin := (HPX.out _ (HB3.out.trans (hbr.mono HB3.out.size))).1
      go_wp2_with fail
      go_ret
      exact ⟨rfl, hfin⟩
end Go.Proofs.YtkkcgkpbbngloaaGreatDoor
