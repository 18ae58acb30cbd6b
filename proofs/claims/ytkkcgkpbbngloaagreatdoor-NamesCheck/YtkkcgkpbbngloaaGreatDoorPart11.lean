/- How many calls a look at a function tells. -/
import Derived.Test.YtkkcgkpbbngloaaGreatDoorPart4
import Derived.Test.YtkkcgkpbbngloaaGreatDoorPart10
import Derived.Test.YtkkcgkpbbngloaaGreatDoorPart1
import Derived.Test.YtkkcgkpbbngloaaGreatDoorPart6
import Derived.Deep.RegionHeld3
namespace Go.Proofs.YtkkcgkpbbngloaaGreatDoor
open Go.RowKit Go.Sort

mutual
theorem exC_len (ft : List (List UInt8 × Int)) : ∀ x : Ex, (exC ft x).length ≤ x.sz
  | .mk k n s a c l => by
    have h1 := exLC_len ft l
    have h2 := (Ex.mk k n s a c l).sz_args
    simp only [Ex.args] at h2
    rw [exC, List.length_append, h2]
    have h3 : (nmC ft k s.data.toList).length ≤ 1 := by unfold nmC; split <;> simp
    omega
theorem exLC_len (ft : List (List UInt8 × Int)) : ∀ l : List Ex, (exLC ft l).length ≤ szL l
  | [] => by rw [exLC, szL]; simp
  | x :: r => by
    have h1 := exC_len ft x
    have h2 := exLC_len ft r
    rw [exLC, szL, List.length_append]; omega
end
mutual
theorem stS_c (ft : List (List UInt8 × Int)) : ∀ (s : St) (env : Env) (m : Int), (stS ft s env m).c.length ≤ qS s
  | .mk k nm n a b ba bc l ea ec e ca cc c, env, m => by
    have h1 := lsS_c ft l ((lvZ env == 0, []) :: env) m
    have h2 := csS_c ft c env (lsS ft l ((lvZ env == 0, []) :: env) m).m
    have h3 := lsS_c ft e ((lvZ env == 0, []) :: env) (csS ft c env (lsS ft l ((lvZ env == 0, []) :: env) m).m).m
    have h4 := lsS_c ft l (dcEnv ((true, []) :: env) nm.data.toList 3) m
    have e1 := exC_len ft a
    have e2 := exC_len ft b
    rw [stS, qS]
    split
    · first | (dsimp only; omega) | exact Nat.zero_le _ | (simp only [List.length_append]; omega)
    split
    · first | (dsimp only; omega) | exact Nat.zero_le _ | (simp only [List.length_append]; omega)
    split
    · first | (dsimp only; omega) | exact Nat.zero_le _ | (simp only [List.length_append]; omega)
    split
    · first | (dsimp only; omega) | exact Nat.zero_le _ | (simp only [List.length_append]; omega)
    split
    · split
      · first | (dsimp only; omega) | exact Nat.zero_le _ | (simp only [List.length_append]; omega)
      split
      · first | (dsimp only; omega) | exact Nat.zero_le _ | (simp only [List.length_append]; omega)
      split
      · first | (dsimp only; omega) | exact Nat.zero_le _ | (simp only [List.length_append]; omega)
      · first | (dsimp only; omega) | exact Nat.zero_le _ | (simp only [List.length_append]; omega)
    split
    · split
      · first | (dsimp only; omega) | exact Nat.zero_le _ | (simp only [List.length_append]; omega)
      · first | (dsimp only; omega) | exact Nat.zero_le _ | (simp only [List.length_append]; omega)
    split
    · first | (dsimp only; omega) | exact Nat.zero_le _ | (simp only [List.length_append]; omega)
    · first | (dsimp only; omega) | exact Nat.zero_le _ | (simp only [List.length_append]; omega)
theorem lsS_c (ft : List (List UInt8 × Int)) : ∀ (l : List St) (env : Env) (m : Int), (lsS ft l env m).c.length ≤ qSs l
  | [], env, m => by rw [lsS, qSs]; simp
  | s :: r, env, m => by
    have h1 := stS_c ft s env (m + 1)
    have h2 := lsS_c ft r (stS ft s env (m + 1)).env (stS ft s env (m + 1)).m
    rw [lsS, qSs]
    split
    · omega
    · first | (dsimp only; omega) | exact Nat.zero_le _ | (simp only [List.length_append]; omega)
theorem caS_c (ft : List (List UInt8 × Int)) : ∀ (c : Ca) (env : Env) (m : Int), (caS ft c env m).c.length ≤ qC c
  | .mk n ba bc l, env, m => by
    have h1 := lsS_c ft l ((lvZ env == 0, []) :: env) m
    rw [caS, qC]
    omega
theorem csS_c (ft : List (List UInt8 × Int)) : ∀ (l : List Ca) (env : Env) (m : Int), (csS ft l env m).c.length ≤ qCs l
  | [], env, m => by rw [csS, qCs]; simp
  | c :: r, env, m => by
    have h1 := caS_c ft c env m
    have h2 := csS_c ft r env (caS ft c env m).m
    rw [csS, qCs]
    split
    · first | (dsimp only; omega) | exact Nat.zero_le _ | (simp only [List.length_append]; omega)
    · first | (dsimp only; omega) | exact Nat.zero_le _ | (simp only [List.length_append]; omega)
end
theorem fnS_len (ft : List (List UInt8 × Int)) (f : Fu) : (fnS ft f).c.length ≤ qSs f.body := by
  unfold fnS
  split
  · simp
  split
  · simp
  · exact lsS_c ft f.body _ 0
end Go.Proofs.YtkkcgkpbbngloaaGreatDoor

/- names.Check and names.Calls. -/
namespace Go.Proofs.YtkkcgkpbbngloaaGreatDoor
open Go.RowKit Go.Sort

theorem lkP_flt {p : Pr} {w w' : World} {e : Ending} (h : LkP p w e w') : Below w.heap.size w w' ∧ ∃ a n c, e = .returned (.tuple #[.slice a n c, fltV (namZ p).1 (namZ p).2.1 (namZ p).2.2]) := by
  refine ⟨h.1, ?_⟩
  by_cases h0 : (namZ p).1 = 0
  · obtain ⟨hz, fm, cb, vs, he, _⟩ := h.2.2 h0
    exact ⟨_, _, _, by rw [hz]; exact he⟩
  · exact ⟨_, _, _, h.2.1 h0⟩
set_option maxRecDepth 100000 in
set_option maxHeartbeats 4000000 in
theorem ncheck_any (p : Pr) (w : World) (hin : p.In w) (ht : Tabs w) : Calls Tryz.prog 6 #[p.val] w fun e w' => e = .returned (fltV (namZ p).1 (namZ p).2.1 (namZ p).2.2) ∧ Below w.heap.size w w' := by
  have HL : Hid (∀ w', Below w.heap.size w w' → Calls Tryz.prog 11 #[p.val] w' fun e w'' => Below w'.heap.size w' w'' ∧ ∃ a n c, e = .returned (.tuple #[.slice a n c, fltV (namZ p).1 (namZ p).2.1 (namZ p).2.2])) := fun w' hb => (look_any p w' (hin.stay hb) (ht.stay hb)).mono fun e w'' h => lkP_flt h
  clear hin ht
  generalize namZ p = z at *
  obtain ⟨z1, z2, z3⟩ := z
  simp only at HL ⊢
  have hb1 := ((Below.refl _ w).alloc (Nat.le_refl _) (.cells #[.slice p.wa p.widen.length p.wc, .slice p.fa p.funcs.length p.fc] 25)).alloc (by simp) (.cells #[.int .i64 0, .int .i64 0, .int .i64 0] 29)
  unfold Pr.val at HL ⊢
  go_enter Tryz.func6, Tryz.ntmps6
  go_wp2_with fail
  refine (HL.out _ hb1).mono ?_
  rintro e w1 ⟨hbw, sa, sn, sc, rfl⟩
  obtain ⟨hX, hRs, hF⟩ := two_cells hbw
  have r0 := hRs 0 _ rfl
  have r1 := hRs 1 _ rfl
  have r2 := hRs 2 _ rfl
  have q0 := hF 0
  have q1 := hF 1
  have q2 := hF 2
  have hb2 : Below w.heap.size w w1 := hb1.trans (hbw.mono (by simp; omega))
  have hs2 : w.heap.size + 1 + 1 ≤ w1.heap.size := by have := hbw.size; simp at this; omega
  clear hX hF hRs hbw hb1
  have hlt1 : w.heap.size + 1 < w1.heap.size := by omega
  have hb3 := (Below.refl _ w1).alloc (Nat.le_refl _) (.cells #[.int .i64 z1, .int .i64 z2, .int .i64 z3] 29)
  have r0' := (hb3.cell (p := ⟨w.heap.size + 1, 0, none⟩) hlt1).trans r0
  have r1' := (hb3.cell (p := ⟨w.heap.size + 1, 1, none⟩) hlt1).trans r1
  have r2' := (hb3.cell (p := ⟨w.heap.size + 1, 2, none⟩) hlt1).trans r2
  have q0' := (hb3.frozen (p := ⟨w.heap.size + 1, 0, none⟩) hlt1).trans q0
  have q1' := (hb3.frozen (p := ⟨w.heap.size + 1, 1, none⟩) hlt1).trans q1
  have q2' := (hb3.frozen (p := ⟨w.heap.size + 1, 2, none⟩) hlt1).trans q2
  have n0 : (w1.alloc (.cells #[.int .i64 z1, .int .i64 z2, .int .i64 z3] 29)).cell? ⟨w1.heap.size, 0, none⟩ = some (.int .i64 z1) := by rw [World.cell?_alloc_at _ _ _ _ rfl]; rfl
  have n1 : (w1.alloc (.cells #[.int .i64 z1, .int .i64 z2, .int .i64 z3] 29)).cell? ⟨w1.heap.size, 1, none⟩ = some (.int .i64 z2) := by rw [World.cell?_alloc_at _ _ _ _ rfl]; rfl
  have n2 : (w1.alloc (.cells #[.int .i64 z1, .int .i64 z2, .int .i64 z3] 29)).cell? ⟨w1.heap.size, 2, none⟩ = some (.int .i64 z3) := by rw [World.cell?_alloc_at _ _ _ _ rfl]; rfl
  have hb4 := hb2.alloc hb2.size (.cells #[.int .i64 z1, .int .i64 z2, .int .i64 z3] 29)
  clear r0 r1 r2 q0 q1 q2 hb3 hb2
  go_upto_region 2 with fail
  generalize w1.alloc (.cells #[.int .i64 z1, .int .i64 z2, .int .i64 z3] 29) = W6 at *
  go_wp2_with fail
  exact bodyPost_ret (v := fltV z1 z2 z3) (by simp [results, Tryz.results6, go_sem, r0', r1', r2']) rfl ⟨rfl, below_set3 hb4 (by omega) _ _ _⟩

/-- Which functions are called by the function of a number. -/
def clN (p : Pr) (i : Int) : List Int := if (namZ p).1 ≠ 0 ∨ i < 0 ∨ (p.funcs.length : Int) ≤ i then [] else match p.funcs[i.toNat]? with | some f => Lib.compact (sortI (fnK p.funcs i.toNat f).c) | none => []
theorem nil_owns (W : World) (N : Nat) : W.ownsRow N 3 1 (.slice none 0 0) ([] : List Int).length (([] : List Int).map (Value.int .i64)) := ⟨rfl, .inl ⟨rfl, rfl⟩⟩
set_option maxRecDepth 100000 in
set_option maxHeartbeats 4000000 in
theorem ncalls_any (p : Pr) (i : Int) (w : World) (hin : p.In w) (ht : Tabs w) : Calls Tryz.prog 9 #[p.val, .int .i64 i] w fun e w' => (∃ v, e = .returned v ∧ w'.ownsRow w.heap.size 3 1 v (clN p i).length ((clN p i).map (Value.int .i64))) ∧ Below w.heap.size w w' := by
  have hb1 := (Below.refl _ w).alloc (Nat.le_refl _) (.cells #[.slice p.wa p.widen.length p.wc, .slice p.fa p.funcs.length p.fc] 25)
  have HL := Hid.mk' (look_any p _ (hin.stay hb1) (ht.stay hb1))
  have HCN : Hid (∀ f ∈ p.funcs, (checkZ p).1 = 0 → qSs f.body ≤ 12288) := fun f hf h => ((check_room h).2 f hf).1
  have HCZ : Hid ((namZ p).1 = 0 → (checkZ p).1 = 0) := fun h => by
    unfold namZ at h
    split at h
    · rename_i h0; exact absurd h h0
    · rename_i h0; simpa using h0
  clear hin ht
  unfold Pr.val at HL ⊢
  go_enter Tryz.func9, Tryz.ntmps9
  go_wp2_with fail
  refine HL.out.mono ?_
  rintro e w1 ⟨hbw, hp1, hp2⟩
  have hb2 : Below w.heap.size w w1 := hb1.trans (hbw.mono (by simp))
  clear HL hb1 hbw
  by_cases hz : (namZ p).1 = 0
  · obtain ⟨_, fm, cb, vs, rfl, hcb, hne, hrows⟩ := hp2 hz
    have HZ := Hid.mk' hz
    clear hp1 hp2 hz
    have h00 : ((0 : Int) != 0) = false := rfl
    by_cases hi0 : i < 0
    · have hc : Hid (clN p i = []) := by show _ = _; unfold clN; rw [if_pos (Or.inr (Or.inl hi0))]
      have hb3 := hb2.alloc hb2.size (.cells #[.int .i64 0, .int .i64 0, .int .i64 0] 29)
      clear hrows
      go_wp2_with fail
      go_ret
      exact ⟨⟨_, rfl, by rw [hc.out]; exact nil_owns _ _⟩, hb3⟩
    · by_cases hin2 : (p.funcs.length : Int) ≤ i
      · have hc : Hid (clN p i = []) := by show _ = _; unfold clN; rw [if_pos (Or.inr (Or.inr hin2))]
        have hb3 := hb2.alloc hb2.size (.cells #[.int .i64 0, .int .i64 0, .int .i64 0] 29)
        clear hrows
        go_wp2_with fail
        go_ret
        exact ⟨⟨_, rfl, by rw [hc.out]; exact nil_owns _ _⟩, hb3⟩
      · obtain ⟨k, rfl⟩ : ∃ k : Nat, i = (k : Int) := ⟨i.toNat, by omega⟩
        have hk : k < p.funcs.length := by omega
        have hki : (k : Int) < (p.funcs.length : Int) := by omega
        obtain ⟨v, hv1, hv2, hv3, hv4⟩ := hrows.2.2.2 k p.funcs[k] (List.getElem?_eq_getElem hk) hk
        have hc : Hid (clN p k = Lib.compact (sortI (fnK p.funcs k p.funcs[k]).c)) := by
          show _ = _
          unfold clN
          rw [if_neg (by have := HZ.out; omega), Int.toNat_natCast, List.getElem?_eq_getElem hk]
        have hl : (fnK p.funcs k p.funcs[k]).c.length ≤ 12288 := Nat.le_trans (fnS_len _ _) (HCN.out _ (List.getElem_mem hk) (HCZ.out HZ.out))
        generalize (fnK p.funcs k p.funcs[k]).c = c at *
        have hb3 := hb2.alloc hb2.size (.cells #[.int .i64 0, .int .i64 0, .int .i64 0] 29)
        have hb3' := (Below.refl _ w1).alloc (Nat.le_refl _) (.cells #[.int .i64 0, .int .i64 0, .int .i64 0] 29)
        have c0 := (hb3'.cell (p := ⟨cb, k, none⟩) hrows.lt).trans (hrows.cell hv1)
        have hlt := hrows.lt
        have ho := own_keep (W' := w1.alloc (.cells #[.int .i64 0, .int .i64 0, .int .i64 0] 29)) hv2 (fun g hg => hb3'.block g (own_lt hv2 g hg).2)
        have HS := Hid.mk' (sort_row _ ho (by omega))
        have HB3 := Hid.mk' hb3
        have HV4 := Hid.mk' hv4
        have HGE : Hid (∀ g ∈ ob v, w.heap.size ≤ g) := fun g hg => Nat.le_trans (by simp) ((own_lt hv2 g hg).1)
        obtain ⟨va, vc, rfl⟩ := own_form hv2
        have hlt2 : Hid (cb < (w1.alloc (.cells #[.int .i64 0, .int .i64 0, .int .i64 0] 29)).heap.size) := by show _ < _; simp; omega
        clear hrows hv1 hv2 hv3 hv4 hb3 hb3' hb2 hl hlt
        go_upto_region 4 with fail
        generalize w1.alloc (.cells #[.int .i64 0, .int .i64 0, .int .i64 0] 29) = W6 at *
        go_wp2_with fail
        refine HS.out.mono ?_
        rintro e w2 ⟨rfl, ho2, hf2⟩
        have c1 := (hf2.cell (i := k) hlt2.out HV4.out).trans c0
        have HK2 := Hid.mk' (compact_row (c := sortI c) w2 (by rw [sortI_length]; exact ho2))
        have HB4 : Hid (Below w.heap.size w w2) := HB3.out.trans (hf2.below HGE.out HB3.out.size)
        clear ho2 hf2 HS ho c0
        go_wp2_with fail
        refine HK2.out.mono ?_
        rintro e w3 ⟨v3, rfl, ho3, hob, hf3⟩
        have HB5 : Hid (Below w.heap.size w w3) := HB4.out.trans (hf3.below HGE.out HB4.out.size)
        have HO3 := Hid.mk' ho3
        clear hf3 ho3 hob HK2
        go_wp2_with fail
        go_ret
        exact ⟨⟨_, rfl, by rw [hc.out]; exact own_base HO3.out (fun g hg => Nat.le_trans (by simp) (own_lt HO3.out g hg).1)⟩, HB5.out⟩
  · have he := hp1 hz
    subst he
    have hc : Hid (clN p i = []) := by show _ = _; unfold clN; rw [if_pos (Or.inl hz)]
    have hz' : ((namZ p).1 != 0) = true := by simpa using hz
    have hb3 := hb2.alloc hb2.size (.cells #[.int .i64 (namZ p).1, .int .i64 (namZ p).2.1, .int .i64 (namZ p).2.2] 29)
    clear hz hp1 hp2
    generalize namZ p = z at *
    obtain ⟨z1, z2, z3⟩ := z
    simp only at hz' hb3 ⊢
    go_wp2_with fail
    go_ret
    exact ⟨⟨_, rfl, by rw [hc.out]; exact nil_owns _ _⟩, hb3⟩
end Go.Proofs.YtkkcgkpbbngloaaGreatDoor

/- Rows that lie in a block; small numbers; the zero expression. -/
namespace Go.Proofs.YtkkcgkpbbngloaaGreatDoor
open Go.RowKit Go.Sort

def zEx : Ex := .mk 0 0 ⟨#[]⟩ none 0 []
theorem flat_at (sz : Nat) : ∀ (rows : List (List Value)), (∀ r ∈ rows, r.length = sz) → ∀ (i j : Nat) cs v, rows[i]? = some cs → cs[j]? = some v → rows.flatten[i * sz + j]? = some v
  | [], _, i, j, cs, v, hi, _ => by simp at hi
  | r :: rs, h, 0, j, cs, v, hi, hj => by
    simp only [List.getElem?_cons_zero, Option.some.injEq] at hi
    subst hi
    have hlt := (List.getElem?_eq_some_iff.1 hj).1
    rw [List.flatten_cons, Nat.zero_mul, Nat.zero_add, List.getElem?_append_left hlt]; exact hj
  | r :: rs, h, i + 1, j, cs, v, hi, hj => by
    have hr := h r (by simp)
    rw [List.flatten_cons, List.getElem?_append_right (by rw [hr, Nat.succ_mul]; omega), hr, show (i + 1) * sz + j - sz = i * sz + j from by rw [Nat.succ_mul]; omega]
    exact flat_at sz rs (fun x hx => h x (by simp [hx])) i j cs v (by simpa using hi) hj
theorem rowIn_block {W : World} {g sz : Nat} {rows : List (List Value)} {arr : Array Value} {t : TypeId} {fz : Nat × Nat} (h : W.heap[g]? = some (.cells arr t fz)) (hf : arr.toList = rows.flatten ∨ ∃ rest, arr.toList = rows.flatten ++ rest) (hl : ∀ r ∈ rows, r.length = sz) : RowIn W (some ⟨g, 0, none⟩) sz rows := by
  intro i cs hi
  refine ⟨g, 0, rfl, fun j v hj => ?_⟩
  have h1 := flat_at sz rows hl i j cs v hi hj
  rw [Lib.cell_of_heap h, Nat.zero_add, ← Array.getElem?_toList]
  rcases hf with hf | ⟨rest, hf⟩
  · rw [hf]; exact h1
  · rw [hf, List.getElem?_append_left (List.getElem?_eq_some_iff.1 h1).1]; exact h1
theorem rowIn_nil {W : World} {a : Option Addr} {sz : Nat} : RowIn W a sz [] := fun i cs h => by simp at h

theorem i0 : I64 0 := ⟨by decide, by decide⟩
theorem i1 : I64 1 := ⟨by decide, by decide⟩
theorem i2 : I64 2 := ⟨by decide, by decide⟩
theorem i5 : I64 5 := ⟨by decide, by decide⟩
theorem i9 : I64 9 := ⟨by decide, by decide⟩
theorem i10 : I64 10 := ⟨by decide, by decide⟩
theorem im5 : I64 (-5) := ⟨by decide, by decide⟩
theorem n0 : (0 : Nat) ≤ 140737488351232 := by decide
theorem n1 : (1 : Nat) ≤ 140737488351232 := by decide
theorem lenE (l : List Ex) : ∀ r ∈ l.map Ex.cells, r.length = 4 := by intro r hr; obtain ⟨x, _, rfl⟩ := List.mem_map.1 hr; rfl
theorem lenS (l : List St) : ∀ r ∈ l.map St.cells, r.length = 14 := by intro r hr; obtain ⟨x, _, rfl⟩ := List.mem_map.1 hr; rfl
theorem lenP (l : List Pa) : ∀ r ∈ l.map Pa.cells, r.length = 3 := by intro r hr; obtain ⟨x, _, rfl⟩ := List.mem_map.1 hr; rfl
theorem lenF (l : List Fu) : ∀ r ∈ l.map Fu.cells, r.length = 3 := by intro r hr; obtain ⟨x, _, rfl⟩ := List.mem_map.1 hr; rfl
theorem lenI (l : List Int) : ∀ r ∈ l.map (fun z => ([.int .i64 z] : List Value)), r.length = 1 := by intro r hr; obtain ⟨x, _, rfl⟩ := List.mem_map.1 hr; rfl
theorem zEx_in (W : World) : zEx.In W := Ex.in_iff.2 ⟨i0, i0, n0, Nat.le_refl _, n0, fun _ => rfl, rowIn_nil, fun y hy => by cases hy⟩
theorem have_nil (W : World) : Have W none 0 [] := ⟨⟨Nat.le_refl _, n0, fun _ => rfl, rowIn_nil⟩, fun y hy => by cases hy⟩
end Go.Proofs.YtkkcgkpbbngloaaGreatDoor

/- The programs of the statements' first question (layer 4), and what the plain functions say of them. -/
namespace Go.Proofs.YtkkcgkpbbngloaaGreatDoor
open Go.RowKit Go.Sort

/-- A call of a function without arguments, as a statement. -/
def lcE (s : ByteArray) : Ex := .mk 4 0 s none 0 []
def lcS (s : ByteArray) : St := .mk 10 ⟨#[]⟩ 0 (lcE s) zEx none 0 [] none 0 [] none 0 []
def pF : Fu := ⟨⟨#[102]⟩, none, 0, [], none, 0, []⟩
def pG (G : Nat) : Fu := ⟨⟨#[103]⟩, none, 0, [], some ⟨G, 0, none⟩, 2, [lcS ⟨#[102]⟩, lcS ⟨#[102]⟩]⟩
def qF (G : Nat) : Fu := ⟨⟨#[102]⟩, none, 0, [], some ⟨G, 0, none⟩, 1, [lcS ⟨#[102]⟩]⟩
def awP (G F : Nat) : Pr := ⟨none, 0, [], some ⟨F, 0, none⟩, 2, [pF, pG G]⟩
def awQ (G F : Nat) : Pr := ⟨none, 0, [], some ⟨F, 0, none⟩, 1, [qF G]⟩
theorem aw_np (G F : Nat) : namZ (awP G F) = (0, 0, 0) := by kernel_rfl
theorem aw_nq (G F : Nat) : namZ (awQ G F) = (8, 0, 1) := by kernel_rfl
theorem aw_c (G F : Nat) : (fnK (awP G F).funcs 1 (pG G)).c = [0, 0] := by kernel_rfl
theorem sort00 : sortI [0, 0] = [0, 0] := List.mergeSort_of_pairwise (by simp)
theorem compact00 : Lib.compact ([0, 0] : List Int) = [0] := by kernel_rfl
theorem aw_cl (G F : Nat) : clN (awP G F) 1 = [0] := by
  unfold clN
  rw [aw_np]
  show (if (0 : Int) ≠ 0 ∨ (1 : Int) < 0 ∨ (2 : Int) ≤ 1 then [] else Lib.compact (sortI (fnK (awP G F).funcs 1 (pG G)).c)) = _
  rw [if_neg (by omega), aw_c, sort00, compact00]
end Go.Proofs.YtkkcgkpbbngloaaGreatDoor

/- The statements' own first question (layer 4): answers that the document fixes. -/
namespace Go.Proofs.YtkkcgkpbbngloaaGreatDoor
open Go.RowKit Go.Sort

theorem i4 : I64 4 := ⟨by decide, by decide⟩
theorem lcE_in (W : World) (s : ByteArray) (h : s.size ≤ 140737488351232) : (lcE s).In W := Ex.in_iff.2 ⟨i4, i0, h, Nat.le_refl _, n0, fun _ => rfl, rowIn_nil, (fun y hy => by cases hy)⟩
theorem lcS_in (W : World) (s : ByteArray) (h : s.size ≤ 140737488351232) : (lcS s).In W := St.in_iff.2 ⟨i10, n0, i0, lcE_in W s h, zEx_in W, have_nil W, have_nil W, ⟨Nat.le_refl _, n0, fun _ => rfl, rowIn_nil⟩, (fun y hy => by cases hy)⟩
set_option maxRecDepth 100000 in
set_option maxHeartbeats 4000000 in
theorem lcall_any (s : ByteArray) (w : World) : Calls Tryz.prog 10 #[.string s] w fun e w' => e = .returned (lcS s).val ∧ Below w.heap.size w w' := by
  have hb := (Below.refl _ w).alloc (Nat.le_refl _) (.cells #[.int .i64 10, .string ⟨#[]⟩, .int .i64 0, .int .i64 4, .int .i64 0, .string s, .slice none 0 0, .int .i64 0, .int .i64 0, .string ⟨#[]⟩, .slice none 0 0, .slice none 0 0, .slice none 0 0, .slice none 0 0] 44)
  go_enter Tryz.func10, Tryz.ntmps10
  go_wp2_with fail
  exact bodyPost_ret (v := (lcS s).val) (by simp [results, Tryz.results10, go_sem]; rfl) rfl ⟨rfl, hb⟩
theorem pF_in (W : World) : pF.In W := ⟨n1, Nat.le_refl _, n0, fun _ => rfl, rowIn_nil, (fun q hq => by cases hq), have_nil W⟩
theorem body_in {W : World} {G n : Nat} {l : List St} {arr : Array Value} {t : TypeId} (hg : W.heap[G]? = some (.cells arr t (0, 0))) (ha : arr.toList = (l.map St.cells).flatten) (hn : l.length ≤ n) (hn2 : n ≤ 1000) (hl : ∀ x ∈ l, x.In W) : Have W (some ⟨G, 0, none⟩) n l :=
  ⟨⟨hn, by omega, (fun e => by cases e), rowIn_block hg (.inl ha) (lenS l)⟩, hl⟩
theorem fn_in {W : World} {s : ByteArray} {a : Option Addr} {c : Nat} {l : List St} (hs : s.size ≤ 140737488351232) (h : Have W a c l) : Fu.In W ⟨s, none, 0, [], a, c, l⟩ := ⟨hs, Nat.le_refl _, n0, fun _ => rfl, rowIn_nil, (fun q hq => by cases hq), h⟩
theorem pr_in {W : World} {F n : Nat} {l : List Fu} {arr : Array Value} {t : TypeId} (hg : W.heap[F]? = some (.cells arr t (0, 0))) (ha : arr.toList = (l.map Fu.cells).flatten) (hn : l.length ≤ n) (hn2 : n ≤ 1000) (hl : ∀ x ∈ l, x.In W) : Pr.In W ⟨none, 0, [], some ⟨F, 0, none⟩, n, l⟩ :=
  ⟨Nat.le_refl _, n0, fun _ => rfl, rowIn_nil, (fun z hz => by cases hz), hn, by show n * 64 ≤ 140737488351232; omega, (fun e => by cases e), rowIn_block hg (.inl ha) (lenF l), hl⟩
theorem keep_h {W W' : World} {k : Nat} {o : Obj} (h : W.heap[k]? = some o) (hb : Below W.heap.size W W') : W'.heap[k]? = some o := (hb.block k (Array.getElem?_eq_some_iff.1 h).1).trans h
theorem awP_in {W : World} {G F : Nat} (h1 : W.heap[G]? = some (.cells ([lcS ⟨#[102]⟩, lcS ⟨#[102]⟩].map St.cells).flatten.toArray 44 (0, 0))) (h2 : W.heap[F]? = some (.cells ([pF, pG G].map Fu.cells).flatten.toArray 38 (0, 0))) : (awP G F).In W :=
  pr_in h2 rfl (Nat.le_refl _) (by decide) (fun x hx => by
    rcases List.mem_cons.1 hx with rfl | hx
    · exact pF_in W
    · rcases List.mem_singleton.1 hx with rfl
      exact fn_in n1 (body_in h1 rfl (Nat.le_refl _) (by decide) (fun x hx => by
        have : x = lcS ⟨#[102]⟩ := by simpa using hx
        subst this; exact lcS_in W _ n1)))
theorem awQ_in {W : World} {G F : Nat} (h1 : W.heap[G]? = some (.cells ([lcS ⟨#[102]⟩].map St.cells).flatten.toArray 44 (0, 0))) (h2 : W.heap[F]? = some (.cells ([qF G].map Fu.cells).flatten.toArray 38 (0, 0))) : (awQ G F).In W :=
  pr_in h2 rfl (Nat.le_refl _) (by decide) (fun x hx => by
    rcases List.mem_singleton.1 hx with rfl
    exact fn_in n1 (body_in h1 rfl (Nat.le_refl _) (by decide) (fun x hx => by
        have : x = lcS ⟨#[102]⟩ := by simpa using hx
        subst this; exact lcS_in W _ n1)))
set_option maxRecDepth 100000 in
set_option maxHeartbeats 4000000 in
theorem awake4_any (w : World) (ht : Tabs w) : Calls Tryz.prog 5 #[] w fun e w' => e = .returned (.bool true) ∧ Below w.heap.size w w' := by
  have HT := Hid.mk' ht
  have HL : Hid (∀ w', Calls Tryz.prog 10 #[.string ⟨#[102]⟩] w' fun e w'' => e = .returned (lcS ⟨#[102]⟩).val ∧ Below w'.heap.size w' w'') := fun w' => lcall_any _ w'
  clear ht
  unfold St.val lcS lcE zEx at HL
  simp only [St.kind, St.name, St.n, St.a, St.b, St.ba, St.bc, St.body, St.ea, St.ec, St.els, St.ca, St.cc, St.cases, Ex.kind, Ex.n, Ex.name, Ex.a, Ex.cap, Ex.args, List.length_nil] at HL
  go_enter Tryz.func5, Tryz.ntmps5
  go_wp2_with fail
  refine (HL.out _).mono ?_
  rintro e w1 ⟨rfl, hb1⟩
  go_wp2_with fail
  refine (HL.out _).mono ?_
  rintro e w2 ⟨rfl, hb2⟩
  go_wp2_with fail
  have hbw2 : Below w.heap.size w w2 := hb1.trans (hb2.mono hb1.size)
  have k1 := keep_heap (keep_heap (new_heap (W := w2) (.cells #[.int .i64 10, .string ⟨#[]⟩, .int .i64 0, .int .i64 4, .int .i64 0, .string ⟨#[102]⟩, .slice none 0 0, .int .i64 0, .int .i64 0, .string ⟨#[]⟩, .slice none 0 0, .slice none 0 0, .slice none 0 0, .slice none 0 0, .int .i64 10, .string ⟨#[]⟩, .int .i64 0, .int .i64 4, .int .i64 0, .string ⟨#[102]⟩, .slice none 0 0, .int .i64 0, .int .i64 0, .string ⟨#[]⟩, .slice none 0 0, .slice none 0 0, .slice none 0 0, .slice none 0 0] 44) rfl) (.cells #[.string ⟨#[102]⟩, .slice none 0 0, .slice none 0 0, .string ⟨#[103]⟩, .slice none 0 0, .slice (some ⟨w2.heap.size, 0, none⟩) 2 2] 38)) (.cells #[.slice none 0 0, .slice (some ⟨w2.heap.size + 1, 0, none⟩) 2 2] 25)
  have k2 := keep_heap (new_heap (W := w2.alloc (.cells #[.int .i64 10, .string ⟨#[]⟩, .int .i64 0, .int .i64 4, .int .i64 0, .string ⟨#[102]⟩, .slice none 0 0, .int .i64 0, .int .i64 0, .string ⟨#[]⟩, .slice none 0 0, .slice none 0 0, .slice none 0 0, .slice none 0 0, .int .i64 10, .string ⟨#[]⟩, .int .i64 0, .int .i64 4, .int .i64 0, .string ⟨#[102]⟩, .slice none 0 0, .int .i64 0, .int .i64 0, .string ⟨#[]⟩, .slice none 0 0, .slice none 0 0, .slice none 0 0, .slice none 0 0] 44)) (k := w2.heap.size + 1) (.cells #[.string ⟨#[102]⟩, .slice none 0 0, .slice none 0 0, .string ⟨#[103]⟩, .slice none 0 0, .slice (some ⟨w2.heap.size, 0, none⟩) 2 2] 38) (by simp)) (.cells #[.slice none 0 0, .slice (some ⟨w2.heap.size + 1, 0, none⟩) 2 2] 25)
  have k3 := new_heap (W := (w2.alloc (.cells #[.int .i64 10, .string ⟨#[]⟩, .int .i64 0, .int .i64 4, .int .i64 0, .string ⟨#[102]⟩, .slice none 0 0, .int .i64 0, .int .i64 0, .string ⟨#[]⟩, .slice none 0 0, .slice none 0 0, .slice none 0 0, .slice none 0 0, .int .i64 10, .string ⟨#[]⟩, .int .i64 0, .int .i64 4, .int .i64 0, .string ⟨#[102]⟩, .slice none 0 0, .int .i64 0, .int .i64 0, .string ⟨#[]⟩, .slice none 0 0, .slice none 0 0, .slice none 0 0, .slice none 0 0] 44)).alloc (.cells #[.string ⟨#[102]⟩, .slice none 0 0, .slice none 0 0, .string ⟨#[103]⟩, .slice none 0 0, .slice (some ⟨w2.heap.size, 0, none⟩) 2 2] 38)) (k := w2.heap.size + 1 + 1) (.cells #[.slice none 0 0, .slice (some ⟨w2.heap.size + 1, 0, none⟩) 2 2] 25) (by simp)
  have hb3 := ((hbw2.alloc hbw2.size (.cells #[.int .i64 10, .string ⟨#[]⟩, .int .i64 0, .int .i64 4, .int .i64 0, .string ⟨#[102]⟩, .slice none 0 0, .int .i64 0, .int .i64 0, .string ⟨#[]⟩, .slice none 0 0, .slice none 0 0, .slice none 0 0, .slice none 0 0, .int .i64 10, .string ⟨#[]⟩, .int .i64 0, .int .i64 4, .int .i64 0, .string ⟨#[102]⟩, .slice none 0 0, .int .i64 0, .int .i64 0, .string ⟨#[]⟩, .slice none 0 0, .slice none 0 0, .slice none 0 0, .slice none 0 0] 44)).alloc (by have := hbw2.size; simp; omega) (.cells #[.string ⟨#[102]⟩, .slice none 0 0, .slice none 0 0, .string ⟨#[103]⟩, .slice none 0 0, .slice (some ⟨w2.heap.size, 0, none⟩) 2 2] 38)).alloc (by have := hbw2.size; simp; omega) (.cells #[.slice none 0 0, .slice (some ⟨w2.heap.size + 1, 0, none⟩) 2 2] 25)
  generalize ((w2.alloc (.cells #[.int .i64 10, .string ⟨#[]⟩, .int .i64 0, .int .i64 4, .int .i64 0, .string ⟨#[102]⟩, .slice none 0 0, .int .i64 0, .int .i64 0, .string ⟨#[]⟩, .slice none 0 0, .slice none 0 0, .slice none 0 0, .slice none 0 0, .int .i64 10, .string ⟨#[]⟩, .int .i64 0, .int .i64 4, .int .i64 0, .string ⟨#[102]⟩, .slice none 0 0, .int .i64 0, .int .i64 0, .string ⟨#[]⟩, .slice none 0 0, .slice none 0 0, .slice none 0 0, .slice none 0 0] 44)).alloc (.cells #[.string ⟨#[102]⟩, .slice none 0 0, .slice none 0 0, .string ⟨#[103]⟩, .slice none 0 0, .slice (some ⟨w2.heap.size, 0, none⟩) 2 2] 38)).alloc (.cells #[.slice none 0 0, .slice (some ⟨w2.heap.size + 1, 0, none⟩) 2 2] 25) = W3 at *
  have K1 := Hid.mk' k1
  have K2 := Hid.mk' k2
  have K3 := Hid.mk' k3
  have HB3 := Hid.mk' hb3
  clear k1 k2 k3 hb1 hb2 hbw2 hb3
  generalize w2.heap.size + 1 + 1 = P at *
  generalize w2.heap.size + 1 = F at *
  generalize w2.heap.size = G at *
  refine (HL.out _).mono ?_
  rintro e w4 ⟨rfl, hb4⟩
  have k1 := keep_h K1.out hb4
  have k2 := keep_h K2.out hb4
  have k3 := keep_h K3.out hb4
  have hbw4 : Below w.heap.size w w4 := HB3.out.trans (hb4.mono HB3.out.size)
  have k4 := keep_heap (keep_heap (new_heap (W := w4) (.cells #[.int .i64 10, .string ⟨#[]⟩, .int .i64 0, .int .i64 4, .int .i64 0, .string ⟨#[102]⟩, .slice none 0 0, .int .i64 0, .int .i64 0, .string ⟨#[]⟩, .slice none 0 0, .slice none 0 0, .slice none 0 0, .slice none 0 0] 44) rfl) (.cells #[.string ⟨#[102]⟩, .slice none 0 0, .slice (some ⟨w4.heap.size, 0, none⟩) 1 1] 38)) (.cells #[.slice none 0 0, .slice (some ⟨w4.heap.size + 1, 0, none⟩) 1 1] 25)
  have k5 := keep_heap (new_heap (W := w4.alloc (.cells #[.int .i64 10, .string ⟨#[]⟩, .int .i64 0, .int .i64 4, .int .i64 0, .string ⟨#[102]⟩, .slice none 0 0, .int .i64 0, .int .i64 0, .string ⟨#[]⟩, .slice none 0 0, .slice none 0 0, .slice none 0 0, .slice none 0 0] 44)) (k := w4.heap.size + 1) (.cells #[.string ⟨#[102]⟩, .slice none 0 0, .slice (some ⟨w4.heap.size, 0, none⟩) 1 1] 38) (by simp)) (.cells #[.slice none 0 0, .slice (some ⟨w4.heap.size + 1, 0, none⟩) 1 1] 25)
  have k6 := new_heap (W := (w4.alloc (.cells #[.int .i64 10, .string ⟨#[]⟩, .int .i64 0, .int .i64 4, .int .i64 0, .string ⟨#[102]⟩, .slice none 0 0, .int .i64 0, .int .i64 0, .string ⟨#[]⟩, .slice none 0 0, .slice none 0 0, .slice none 0 0, .slice none 0 0] 44)).alloc (.cells #[.string ⟨#[102]⟩, .slice none 0 0, .slice (some ⟨w4.heap.size, 0, none⟩) 1 1] 38)) (k := w4.heap.size + 1 + 1) (.cells #[.slice none 0 0, .slice (some ⟨w4.heap.size + 1, 0, none⟩) 1 1] 25) (by simp)
  have hb5 := (((Below.refl _ w4).alloc (Nat.le_refl _) (.cells #[.int .i64 10, .string ⟨#[]⟩, .int .i64 0, .int .i64 4, .int .i64 0, .string ⟨#[102]⟩, .slice none 0 0, .int .i64 0, .int .i64 0, .string ⟨#[]⟩, .slice none 0 0, .slice none 0 0, .slice none 0 0, .slice none 0 0] 44)).alloc (by simp) (.cells #[.string ⟨#[102]⟩, .slice none 0 0, .slice (some ⟨w4.heap.size, 0, none⟩) 1 1] 38)).alloc (by simp; omega) (.cells #[.slice none 0 0, .slice (some ⟨w4.heap.size + 1, 0, none⟩) 1 1] 25)
  have k1 := keep_h k1 hb5
  have k2 := keep_h k2 hb5
  have k3 := keep_h k3 hb5
  have hb6 := hbw4.trans (hb5.mono hbw4.size)
  have KK := Hid.mk' (And.intro k1 (And.intro k2 (And.intro k3 (And.intro k4 (And.intro k5 (And.intro k6 hb6))))))
  clear k1 k2 k3 k4 k5 k6 hb4 hb5 hb6 hbw4 K1 K2 K3 HB3
  go_upto_region 3 with fail
  generalize ((w4.alloc (.cells #[.int .i64 10, .string ⟨#[]⟩, .int .i64 0, .int .i64 4, .int .i64 0, .string ⟨#[102]⟩, .slice none 0 0, .int .i64 0, .int .i64 0, .string ⟨#[]⟩, .slice none 0 0, .slice none 0 0, .slice none 0 0, .slice none 0 0] 44)).alloc (.cells #[.string ⟨#[102]⟩, .slice none 0 0, .slice (some ⟨w4.heap.size, 0, none⟩) 1 1] 38)).alloc (.cells #[.slice none 0 0, .slice (some ⟨w4.heap.size + 1, 0, none⟩) 1 1] 25) = W5 at *
  generalize w4.heap.size + 1 + 1 = P2 at *
  generalize w4.heap.size + 1 = F2 at *
  generalize w4.heap.size = G2 at *
  obtain ⟨k1, k2, k3, k4, k5, k6, hb6⟩ := KK.out
  have HP : Hid ((awP G F).In W5) := awP_in k1 k2
  have HQ : Hid ((awQ G2 F2).In W5) := awQ_in k4 k5
  have c0 : W5.cell? ⟨P, 0, none⟩ = some (.slice none 0 0) := by rw [Lib.cell_of_heap k3]; rfl
  have c1 : W5.cell? ⟨P, 1, none⟩ = some (.slice (some ⟨F, 0, none⟩) 2 2) := by rw [Lib.cell_of_heap k3]; rfl
  have C : Hid (∀ w', Below W5.heap.size W5 w' → w'.cell? ⟨P, 0, none⟩ = some (.slice none 0 0) ∧ w'.cell? ⟨P, 1, none⟩ = some (.slice (some ⟨F, 0, none⟩) 2 2) ∧ w'.cell? ⟨P2, 0, none⟩ = some (.slice none 0 0) ∧ w'.cell? ⟨P2, 1, none⟩ = some (.slice (some ⟨F2, 0, none⟩) 1 1)) := fun w' hb =>
    ⟨by rw [Lib.cell_of_heap (keep_h k3 hb)]; rfl, by rw [Lib.cell_of_heap (keep_h k3 hb)]; rfl, by rw [Lib.cell_of_heap (keep_h k6 hb)]; rfl, by rw [Lib.cell_of_heap (keep_h k6 hb)]; rfl⟩
  have HCL : Hid (Calls Tryz.prog 9 #[.agg #[.slice none 0 0, .slice (some ⟨F, 0, none⟩) 2 2], .int .i64 1] W5 fun e w' => (∃ v, e = .returned v ∧ w'.ownsRow W5.heap.size 3 1 v 1 [.int .i64 0]) ∧ Below W5.heap.size W5 w') := by
    have := ncalls_any (awP G F) 1 W5 HP.out (HT.out.stay hb6)
    rw [aw_cl] at this; exact this
  have HC1 : Hid (∀ w', Below W5.heap.size W5 w' → Calls Tryz.prog 6 #[.agg #[.slice none 0 0, .slice (some ⟨F, 0, none⟩) 2 2]] w' fun e w'' => e = .returned (fltV 0 0 0) ∧ Below w'.heap.size w' w'') := fun w' hb => by
    have := ncheck_any (awP G F) w' (HP.out.stay hb) (HT.out.stay (hb6.trans (hb.mono hb6.size)))
    rw [aw_np] at this; exact this
  have HC2 : Hid (∀ w', Below W5.heap.size W5 w' → Calls Tryz.prog 6 #[.agg #[.slice none 0 0, .slice (some ⟨F2, 0, none⟩) 1 1]] w' fun e w'' => e = .returned (fltV 8 0 1) ∧ Below w'.heap.size w' w'') := fun w' hb => by
    have := ncheck_any (awQ G2 F2) w' (HQ.out.stay hb) (HT.out.stay (hb6.trans (hb.mono hb6.size)))
    rw [aw_nq] at this; exact this
  have HB6 := Hid.mk' hb6
  clear k1 k2 k3 k4 k5 k6 hb6 KK HP HQ HL
  go_wp2_with fail
  refine HCL.out.mono ?_
  rintro e w6 ⟨⟨v, rfl, ho⟩, hb7⟩
  obtain ⟨va, vc, rfl⟩ := own_form (xs := [.int .i64 0]) ho
  clear HCL c0 c1
  obtain ⟨c0, c1, _, _⟩ := C.out _ hb7
  have hq := equalIn_flt
  have hg := eqGuard_flt
  unfold fltV at hq HC1 HC2
  go_wp2_with fail
  refine (HC1.out _ hb7).mono ?_
  rintro e w7 ⟨rfl, hb8⟩
  have hb8' := hb7.trans (hb8.mono hb7.size)
  clear c0 c1 HC1
  obtain ⟨_, _, c2, c3⟩ := C.out _ hb8'
  go_wp2_with fail
  refine (HC2.out _ hb8').mono ?_
  rintro e w8 ⟨rfl, hb9⟩
  have hb9' := hb8'.trans (hb9.mono hb8'.size)
  have hof : w8.ownsRow W5.heap.size 3 1 (.slice va 1 vc) 1 [.int .i64 0] := own_keep ho (fun g hg => ((hb8.block g (own_lt ho g hg).2).symm ▸ hb9.block g (Nat.lt_of_lt_of_le (own_lt ho g hg).2 hb8.size)))
  clear c2 c3 HC2
  rcases hof.2 with ⟨e0, _⟩ | ⟨g, cap, cur, e0, hg1, hg2, hg3, hg4, hg5, hg6⟩
  · cases e0
  cases e0
  have d0 : w8.cell? ⟨g, 0, none⟩ = some (.int .i64 0) := by
    have := hof.cellAt 0 (by decide)
    simpa using this
  have HB9 : Hid (Below w.heap.size w w8) := HB6.out.trans (hb9'.mono HB6.out.size)
  clear hof hg1 hg2 hg3 hg4 hg5 hg6 ho
  go_wp2_with fail
  go_ret
  exact ⟨rfl, HB9.out⟩
end Go.Proofs.YtkkcgkpbbngloaaGreatDoor

/- NamesCheck: which name is used wrongly first. -/
namespace Go.Proofs.YtkkcgkpbbngloaaGreatDoor
open Go.RowKit Go.Sort

set_option maxRecDepth 100000 in
set_option maxHeartbeats 4000000 in
theorem namesCheck_any (p : Pr) (w : World) (hin : p.In w) (ht : Tabs w) : Calls Tryz.prog 3 #[p.val] w fun e w' => e = .returned (.bool true) ∧ Below w.heap.size w w' := by
  have HA : Hid (∀ w', Below w.heap.size w w' → Calls Tryz.prog 5 #[] w' fun e w'' => e = .returned (.bool true) ∧ Below w'.heap.size w' w'') := fun w' h => awake4_any w' (ht.stay h)
  have HN : Hid (∀ w', Below w.heap.size w w' → Calls Tryz.prog 6 #[p.val] w' fun e w'' => e = .returned (fltV (namZ p).1 (namZ p).2.1 (namZ p).2.2) ∧ Below w'.heap.size w' w'') := fun w' h => ncheck_any p w' (hin.stay h) (ht.stay h)
  have HR : Hid (∀ w', Below w.heap.size w w' → Calls Tryz.prog 7 #[p.val] w' fun e w'' => e = .returned (fltV (namZ p).1 (namZ p).2.1 (namZ p).2.2) ∧ Below w'.heap.size w' w'') := fun w' h => rncheck_any p w' (hin.stay h)
  clear hin ht
  generalize (namZ p).1 = n0 at *
  generalize (namZ p).2.1 = n1 at *
  generalize (namZ p).2.2 = n2 at *
  have hq : ∀ w, (Op.equalIn 10000 29 (.agg #[.int .i64 n0, .int .i64 n1, .int .i64 n2]) (.agg #[.int .i64 n0, .int .i64 n1, .int .i64 n2])).run Tryz.prog w = .ok true w := fun w => by
    have := equalIn_flt n0 n1 n2 n0 n1 n2 w
    simpa using this
  have hg := eqGuard_flt
  unfold Pr.val at *
  obtain ⟨W1, hW1⟩ : ∃ W1, w.alloc (.cells #[.slice p.wa p.widen.length p.wc, .slice p.fa p.funcs.length p.fc] 25) = W1 := ⟨_, rfl⟩
  have HW1 := show Hid _ from hW1
  have hb1 : Below w.heap.size w W1 := by rw [← hW1]; exact (Below.refl _ w).alloc (Nat.le_refl _) _
  have c0 : ∀ w', Below W1.heap.size W1 w' → w'.cell? ⟨w.heap.size, 0, none⟩ = some (.slice p.wa p.widen.length p.wc) := fun w' h => by
    refine (h.cell (p := ⟨w.heap.size, 0, none⟩) (by rw [← hW1]; simp)).trans ?_
    rw [← hW1, World.cell?_alloc_at _ _ _ _ rfl]; rfl
  have c1 : ∀ w', Below W1.heap.size W1 w' → w'.cell? ⟨w.heap.size, 1, none⟩ = some (.slice p.fa p.funcs.length p.fc) := fun w' h => by
    refine (h.cell (p := ⟨w.heap.size, 1, none⟩) (by rw [← hW1]; simp)).trans ?_
    rw [← hW1, World.cell?_alloc_at _ _ _ _ rfl]; rfl
  clear hW1
  go_enter Tryz.func3, Tryz.ntmps3
  go_wp2_with fail
  rw [HW1.out]
  clear HW1
  go_region_held3 (fun w' => Below W1.heap.size W1 w') (first | exact Below.drew (Below.refl _ _) | exact Below.on (by assumption) (by assumption) | exact Below.one (by assumption) _)
    (first
      | (go_at_call 5; refine (HA.out _ (Below.on hb1 (by assumption))).mono ?_; rintro e w' ⟨rfl, hb⟩)
      | (go_at_call 6; refine (HN.out _ (Below.on hb1 (by assumption))).mono ?_; rintro e w' ⟨rfl, hb⟩)
      | (go_at_call 7; refine (HR.out _ (Below.on hb1 (by assumption))).mono ?_; rintro e w' ⟨rfl, hb⟩))
  all_goals go_wp2_with fail
  all_goals go_ret
  all_goals exact ⟨rfl, Below.on hb1 (by assumption)⟩
end Go.Proofs.YtkkcgkpbbngloaaGreatDoor
