/- The document's own sameness of modules. -/
import Derived.Test.YtgiokognngllcaaDoorGgab
import Derived.Test.YtgiokognngllcaaDoorGgaa
import Derived.Deep.RegionLaw
import Derived.Lib.SmallJoins
namespace Go.Proofs.YtgiokognngllcaaDoor
open Go.RowKit Go.Sort

theorem samM_false {p q : Mo} (h : samI p.ths q.ths = false ∨ samFs p.funcs q.funcs = false) : samM p q = false := by
  unfold samM
  rcases h with h | h <;> simp [h]
set_option maxRecDepth 100000 in
set_option maxHeartbeats 8000000 in
theorem rsame_any (p q : Mo) (w : World) (hx : p.In w) (hy : q.In w) : Calls Tryd.prog 11 #[p.val, q.val] w fun e w' => e = .returned (.bool (samM p q)) ∧ Below w.heap.size w w' := by
  have hb := Below.one (Below.one (Below.refl _ w) (.cells #[.slice p.ta p.ths.length p.tc, .slice p.fa p.funcs.length p.fc] 36)) (.cells #[.slice q.ta q.ths.length q.tc, .slice q.fa q.funcs.length q.fc] 36)
  obtain ⟨hX, hY⟩ := two_new w #[.slice p.ta p.ths.length p.tc, .slice p.fa p.funcs.length p.fc] #[.slice q.ta q.ths.length q.tc, .slice q.fa q.funcs.length q.fc] 36
  have a0 := hX 0 (.slice p.ta p.ths.length p.tc) rfl
  have a1 := hX 1 (.slice p.fa p.funcs.length p.fc) rfl
  have b0 := hY 0 (.slice q.ta q.ths.length q.tc) rfl
  have b1 := hY 1 (.slice q.fa q.funcs.length q.fc) rfl
  clear hX hY
  have HP := Hid.mk' (hx.1.stay hb)
  have HQ := Hid.mk' (hy.1.stay hb)
  have HC := Hid.mk' (hx.2.2.1.stay hb)
  have HD := Hid.mk' (hy.2.2.1.stay hb)
  have HXI := Hid.mk' hx.2.2.2
  have HYI := Hid.mk' hy.2.2.2
  have s1 := hx.1.1
  have s2 := hx.2.2.1.1
  have t1 := hy.1.1
  have t2 := hy.2.2.1.1
  have HF := Hid.mk' (samM_false (p := p) (q := q))
  have HR : Hid (samM p q = (samI p.ths q.ths && samFs p.funcs q.funcs)) := (rfl : samM p q = _)
  generalize samM p q = res at *
  clear hx hy
  obtain ⟨ta, tc, ths, fa, fc, funcs⟩ := p
  obtain ⟨ta', tc', ths', fa', fc', funcs'⟩ := q
  unfold Mo.val
  simp only at *
  by_cases e4 : ths.length = ths'.length
  · by_cases e5 : funcs.length = funcs'.length
    · have hz := HR.out
      subst hz
      have HL4 := Hid.mk' e4
      have HL5 := Hid.mk' e5
      clear HF HR
      simp only [← e4, ← e5] at hb a0 a1 b0 b1 HP HQ HC HD ⊢
      clear e4 e5 t1 t2
      go_enter Tryd.func11, Tryd.ntmps11
      go_wp2_with fail
      generalize (w.alloc (.cells #[.slice ta ths.length tc, .slice fa funcs.length fc] 36)).alloc (.cells #[.slice ta' ths.length tc', .slice fa' funcs.length fc'] 36) = W at *
      go_loopw [5] (fun t5 wr => ∃ (j nq : Nat), j ≤ ths.length ∧ t5 = .int .i64 j ∧ samI (ths.drop j) (ths'.drop j) = samI ths ths' ∧ wr = W.drewN nq) (fun t5 _ => ths.length - (intOf t5).toNat)
      case atStart => exact ⟨0, 0, Nat.zero_le _, rfl, rfl, rfl⟩
      case round =>
        obtain ⟨j, nq, hj, rfl, hcnt, rfl⟩ := hrel
        have HCN := Hid.mk' hcnt
        clear hcnt
        by_cases hlt : j < ths.length
        · have hlt' : j < ths'.length := by have := HL4.out; omega
          obtain ⟨b, o, rfl, c0⟩ := thr_at HP.out hlt
          obtain ⟨b', o', rfl, d0⟩ := thr_at HQ.out hlt'
          have hli : (j : Int) < (ths.length : Int) := by omega
          have HDj := Hid.mk' (samI_drop hlt hlt')
          generalize ths[j] = x at *
          generalize ths'[j] = y at *
          clear hlt'
          go_wp2_with fail
          go_quiet (fail)
          cases ev : (x == y)
          · rw [ev] at HDj
            have ev' : (x != y) = true := by simp [bne, ev]
            go_wp2_with fail
            go_ret
            exact ⟨ret_bool (by rw [← HCN.out, HDj.out]; rfl), (hb.drewN _).drewN _⟩
          · rw [ev] at HDj
            have ev' : (x != y) = false := by simp [bne, ev]
            go_wp2_with fail
            go_roundw
            case rel => exact ⟨j + 1, _, by omega, by go_num, by rw [← HCN.out, HDj.out]; rfl, rfl⟩
            case measure => simp [intOf]; omega
        · have hps : samI ths ths' = true := by
            rw [← HCN.out, List.drop_eq_nil_of_le (by omega), List.drop_eq_nil_of_le (by have := HL4.out; omega)]; rfl
          have HPS := Hid.mk' hps
          have hli : ¬ ((j : Int) < (ths.length : Int)) := by omega
          clear HCN hps
          go_wp2_with fail
          have hbW := hb.drewN nq
          replace a1 := cell_kept_below a1 ((Below.refl _ W).drewN nq)
          replace b1 := cell_kept_below b1 ((Below.refl _ W).drewN nq)
          replace HC := Hid.mk' (HC.out.stay ((Below.refl _ W).drewN nq))
          replace HD := Hid.mk' (HD.out.stay ((Below.refl _ W).drewN nq))
          clear a0 b0 hb HP HQ
          generalize W.drewN nq = V at *
          go_loopw [6] (fun t6 wr => ∃ (j : Nat), j ≤ funcs.length ∧ t6 = .int .i64 j ∧ samFs (funcs.drop j) (funcs'.drop j) = samFs funcs funcs' ∧ Below V.heap.size V wr) (fun t6 _ => funcs.length - (intOf t6).toNat)
          case atStart => exact ⟨0, Nat.zero_le _, rfl, rfl, Below.refl _ _⟩
          case round =>
            obtain ⟨i, hi, rfl, hcnt, hbr⟩ := hrel
            have HCN := Hid.mk' hcnt
            clear hcnt
            have hbw := Below.on hbW hbr
            by_cases hlt : i < funcs.length
            · have hlt' : i < funcs'.length := by have := HL5.out; omega
              obtain ⟨b, o, rfl, c0, c1, c2, c3, c4⟩ := fns_at (HC.out.stay hbr) hlt
              obtain ⟨b', o', rfl, d0, d1, d2, d3, d4⟩ := fns_at (HD.out.stay hbr) hlt'
              have hli : (i : Int) < (funcs.length : Int) := by omega
              have HDj := Hid.mk' (samFs_drop hlt hlt')
              have HS : Hid (∀ w', Below w.heap.size w w' → Calls Tryd.prog 31 #[funcs[i].val, funcs'[i].val] w' fun e w'' => e = .returned (.bool (samF funcs[i] funcs'[i])) ∧ Below w'.heap.size w' w'') := fun w' hb => rsameFunc_any _ _ w' ((HXI.out _ (List.getElem_mem hlt)).stay hb) ((HYI.out _ (List.getElem_mem hlt')).stay hb)
              unfold Fn.val at HS
              generalize funcs[i] = x at *
              generalize funcs'[i] = y at *
              clear hlt'
              have hbg := Hid.mk' fun d os => Below.on hbw (below_regrown wr d os)
              have e1 := fun d os => cell_regrown (cell_kept_below a1 hbr) d os
              have e2 := fun d os => cell_regrown (cell_kept_below b1 hbr) d os
              replace c0 := fun d os => cell_regrown c0 d os
              replace c1 := fun d os => cell_regrown c1 d os
              replace c2 := fun d os => cell_regrown c2 d os
              replace c3 := fun d os => cell_regrown c3 d os
              replace c4 := fun d os => cell_regrown c4 d os
              replace d0 := fun d os => cell_regrown d0 d os
              replace d1 := fun d os => cell_regrown d1 d os
              replace d2 := fun d os => cell_regrown d2 d os
              replace d3 := fun d os => cell_regrown d3 d os
              replace d4 := fun d os => cell_regrown d4 d os
              have f1 := cell_kept_below a1 hbr
              have f2 := cell_kept_below b1 hbr
              generalize samF x y = sf at *
              go_wp2_with fail
              refine wp_region_quiet_below (by kernel_rfl) (by kernel_rfl) ?_
              repeat (go_big_quiet_step (first | (go_at_call 31; with_reducible exact Calls.regrown_of (HS.out _ (hbg.out _ _)))))
              refine wpQuiet_nil ?_
              rintro _ ⟨⟨dq, osq⟩, rfl⟩
              clear c0 c1 c2 c3 c4 d0 d1 d2 d3 d4 e1 e2 f1 f2
              cases sf
              · go_wp2_with fail
                go_ret
                exact ⟨ret_bool (by rw [← HCN.out, HDj.out, HPS.out]; rfl), hbg.out _ _⟩
              · go_wp2_with fail
                go_roundw
                case rel => exact ⟨i + 1, by omega, by go_num, by rw [← HCN.out, HDj.out]; rfl, Below.on hbr (below_regrown wr dq osq)⟩
                case measure => simp [intOf]; omega
            · have hps : samFs funcs funcs' = true := by
                rw [← HCN.out, List.drop_eq_nil_of_le (by omega), List.drop_eq_nil_of_le (by have := HL5.out; omega)]; rfl
              have HXS := Hid.mk' hps
              have hli : ¬ ((i : Int) < (funcs.length : Int)) := by omega
              have f1 := cell_kept_below a1 hbr
              clear HCN hps
              go_wp2_with fail
              go_ret
              exact ⟨ret_bool (by rw [HPS.out, HXS.out]; rfl), hbw⟩
    · have hz := HF.out (.inr (samFs_len e5))
      subst hz
      have e4' : ((ths.length : Int) != (ths'.length : Int)) = false := by simp only [bne_eq_false_iff_eq]; omega
      have e5' : ((funcs.length : Int) != (funcs'.length : Int)) = true := by simp only [bne_iff_ne]; omega
      clear e4
      go_enter Tryd.func11, Tryd.ntmps11
      go_wp2_with fail
      go_ret
      exact ⟨rfl, hb⟩
  · have hz := HF.out (.inl (samI_len e4))
    subst hz
    have e4' : ((ths.length : Int) != (ths'.length : Int)) = true := by simp only [bne_iff_ne]; omega
    go_enter Tryd.func11, Tryd.ntmps11
    go_wp2_with fail
    go_ret
    exact ⟨rfl, hb⟩
end Go.Proofs.YtgiokognngllcaaDoor

/- Same modules; rows that the call owns, in plain words. -/
namespace Go.Proofs.YtgiokognngllcaaDoor
open Go.RowKit
theorem samI_refl : ∀ l, samI l l = true
  | [] => rfl
  | x :: l => by rw [samI, samI_refl l]; simp
theorem samPs_refl : ∀ l, samPs l l = true
  | [] => rfl
  | x :: l => by rw [samPs, samPs_refl l]; simp [samP]
theorem samXs_refl : ∀ l, samXs l l = true
  | [] => rfl
  | x :: l => by rw [samXs, samXs_refl l]; simp [samX]
end Go.Proofs.YtgiokognngllcaaDoor

/- Where instructions lead, what can be reached, edges and blocks: plain. -/
namespace Go.Proofs.YtgiokognngllcaaDoor

/-- A number that is an instruction's. -/
def tgt (n : Nat) (z : Int) : List Nat := if 0 ≤ z ∧ z < n then [z.toNat] else []
def nxL (n : Nat) (x : Is) (u : Nat) : List Nat :=
  if x.op = 14 ∨ x.op = 18 then tgt n x.n
  else if x.op = 15 ∨ x.op = 16 ∨ x.op = 17 then tgt n ((u : Int) + 1) ++ (if x.n = (u : Int) + 1 then [] else tgt n x.n)
  else if 1 ≤ x.op ∧ x.op ≤ 19 then tgt n ((u : Int) + 1) else []
def nxt (l : List Is) (u : Nat) : List Nat :=
  match l[u]? with
  | some x => nxL l.length x u
  | none => []
/-- By any number. -/
def nxZ (l : List Is) (z : Int) : List Nat := if z < 0 then [] else nxt l z.toNat
theorem nxZ_nat (l : List Is) (u : Nat) : nxZ l (u : Int) = nxt l u := by unfold nxZ; rw [if_neg (by omega)]; rfl
theorem nxt_at {l : List Is} {u : Nat} (h : u < l.length) : nxt l u = nxL l.length l[u] u := by unfold nxt; rw [List.getElem?_eq_getElem h]
theorem nxt_none {l : List Is} {u : Nat} (h : l.length ≤ u) : nxt l u = [] := by unfold nxt; rw [List.getElem?_eq_none h]
theorem nxZ_none {l : List Is} {z : Int} (h : z < 0 ∨ (l.length : Int) ≤ z) : nxZ l z = [] := by
  unfold nxZ
  split
  · rfl
  · exact nxt_none (by omega)
theorem tgt_lt {n v : Nat} {z : Int} (h : v ∈ tgt n z) : v < n ∧ (v : Int) = z := by
  unfold tgt at h
  split at h
  · rw [List.mem_singleton] at h; omega
  · cases h
theorem tgt_len (n : Nat) (z : Int) : (tgt n z).length ≤ 1 := by unfold tgt; split <;> simp
theorem tgt_nd (n : Nat) (z : Int) : (tgt n z).Nodup := by unfold tgt; split <;> simp
theorem nxL_lt {n u v : Nat} {x : Is} (h : v ∈ nxL n x u) : v < n := by
  unfold nxL at h
  split at h
  · exact (tgt_lt h).1
  · split at h
    · rcases List.mem_append.1 h with h | h
      · exact (tgt_lt h).1
      · split at h
        · cases h
        · exact (tgt_lt h).1
    · split at h
      · exact (tgt_lt h).1
      · cases h
theorem nxt_lt {l : List Is} {u v : Nat} (h : v ∈ nxt l u) : v < l.length := by
  unfold nxt at h
  split at h
  · exact nxL_lt h
  · cases h
theorem nxL_len (n u : Nat) (x : Is) : (nxL n x u).length ≤ 2 := by
  unfold nxL
  have h1 := tgt_len n x.n
  have h2 := tgt_len n ((u : Int) + 1)
  split
  · omega
  · split
    · rw [List.length_append]; split <;> simp <;> omega
    · split
      · omega
      · simp
theorem nxt_len (l : List Is) (u : Nat) : (nxt l u).length ≤ 2 := by
  unfold nxt
  split
  · exact nxL_len _ _ _
  · simp
theorem nxZ_len (l : List Is) (z : Int) : (nxZ l z).length ≤ 2 := by
  unfold nxZ
  split
  · simp
  · exact nxt_len _ _
theorem nxZ_lt {l : List Is} {z : Int} {v : Nat} (h : v ∈ nxZ l z) : v < l.length := by
  unfold nxZ at h
  split at h
  · cases h
  · exact nxt_lt h
theorem nxL_nd (n u : Nat) (x : Is) : (nxL n x u).Nodup := by
  unfold nxL
  split
  · exact tgt_nd _ _
  · split
    · split
      · rw [List.append_nil]; exact tgt_nd _ _
      · rename_i h
        refine List.nodup_append.2 ⟨tgt_nd _ _, tgt_nd _ _, fun a ha b hb e => h ?_⟩
        have := (tgt_lt ha).2
        have := (tgt_lt hb).2
        omega
    · split
      · exact tgt_nd _ _
      · exact List.nodup_nil
theorem nxt_nd (l : List Is) (u : Nat) : (nxt l u).Nodup := by
  unfold nxt
  split
  · exact nxL_nd _ _ _
  · exact List.nodup_nil

/-- What can be reached. -/
inductive Rch (l : List Is) : Nat → Prop
  | zero : Rch l 0
  | step {u v : Nat} : Rch l u → v ∈ nxt l u → Rch l v
theorem Rch.lt {l : List Is} (h0 : 0 < l.length) {v : Nat} (h : Rch l v) : v < l.length := by
  cases h with
  | zero => exact h0
  | step _ h => exact nxt_lt h
/-- A list that says of each one whether it can be reached. -/
def IsR (l : List Is) (rs : List Bool) : Prop := ((l.length = 0 ∨ 1024 < l.length) ∧ rs = []) ∨ (0 < l.length ∧ l.length ≤ 1024 ∧ rs.length = l.length ∧ ∀ v, rs[v]? = some true ↔ Rch l v)
theorem IsR.one {l : List Is} {a b : List Bool} (ha : IsR l a) (hb : IsR l b) : a = b := by
  rcases ha with ⟨h1, rfl⟩ | ⟨h1, h2, h3, h4⟩
  · rcases hb with ⟨_, rfl⟩ | ⟨g1, g2, _⟩
    · rfl
    · omega
  · rcases hb with ⟨g1, rfl⟩ | ⟨g1, g2, g3, g4⟩
    · omega
    · refine List.ext_getElem (by omega) fun i hi hj => ?_
      have e : a[i]? = some true ↔ b[i]? = some true := (h4 i).trans (g4 i).symm
      rw [List.getElem?_eq_getElem hi, List.getElem?_eq_getElem hj] at e
      cases ha : a[i] <;> cases hb : b[i] <;> simp_all
theorem IsR.len {l : List Is} {rs : List Bool} (h : IsR l rs) : rs.length ≤ 1024 := by
  rcases h with ⟨_, rfl⟩ | ⟨h1, h2, h3, _⟩
  · simp
  · omega
theorem IsR.le {l : List Is} {rs : List Bool} (h : IsR l rs) : rs.length ≤ l.length := by
  rcases h with ⟨_, rfl⟩ | ⟨h1, h2, h3, _⟩
  · simp
  · omega
/-- What is closed and holds nothing that can't be reached is what can be reached. -/
theorem isR_of {l : List Is} {rs : List Bool} (h0 : 0 < l.length) (h1 : l.length ≤ 1024) (hl : rs.length = l.length) (hz : rs[0]? = some true) (hc : ∀ u v, rs[u]? = some true → v ∈ nxt l u → rs[v]? = some true) (hr : ∀ v, rs[v]? = some true → Rch l v) : IsR l rs := by
  refine .inr ⟨h0, h1, hl, fun v => ⟨hr v, fun h => ?_⟩⟩
  induction h with
  | zero => exact hz
  | step _ hv ih => exact hc _ _ ih hv

/-- Edges; of those ahead of u; of one u the first so many. -/
def edB (l : List Is) (rs : List Bool) (u : Nat) : List (Nat × Nat) := if rs[u]? = some true then (nxt l u).map fun v => (u, v) else []
def edU (l : List Is) (rs : List Bool) (u : Nat) : List (Nat × Nat) := (List.range u).flatMap (edB l rs)
def edg (l : List Is) (rs : List Bool) : List (Nat × Nat) := edU l rs rs.length
theorem edU_succ (l : List Is) (rs : List Bool) (u : Nat) : edU l rs (u + 1) = edU l rs u ++ edB l rs u := by
  unfold edU; rw [List.range_succ, List.flatMap_append]; simp
theorem edB_no {l : List Is} {rs : List Bool} {u : Nat} (h : rs[u]? = some false) : edB l rs u = [] := by unfold edB; rw [if_neg (by rw [h]; simp)]
theorem edB_yes {l : List Is} {rs : List Bool} {u : Nat} (h : rs[u]? = some true) : edB l rs u = (nxt l u).map fun v => (u, v) := by unfold edB; rw [if_pos h]
theorem edU_pre (l : List Is) (rs : List Bool) {u n : Nat} (h : u ≤ n) : edU l rs u <+: edU l rs n := by
  induction n with
  | zero => obtain rfl : u = 0 := by omega
            exact List.prefix_refl _
  | succ n ih =>
    rcases Nat.lt_or_ge u (n + 1) with hlt | hge
    · rw [edU_succ]
      exact (ih (by omega)).trans (List.prefix_append _ _)
    · obtain rfl : u = n + 1 := by omega
      exact List.prefix_refl _
theorem mem_edU {l : List Is} {rs : List Bool} {n u v : Nat} : (u, v) ∈ edU l rs n ↔ u < n ∧ rs[u]? = some true ∧ v ∈ nxt l u := by
  unfold edU
  rw [List.mem_flatMap]
  constructor
  · rintro ⟨k, hk, h⟩
    unfold edB at h
    split at h
    · rename_i hr
      obtain ⟨y, hy, e⟩ := List.mem_map.1 h
      injection e with e1 e2
      subst e1 e2
      exact ⟨List.mem_range.1 hk, hr, hy⟩
    · cases h
  · rintro ⟨h1, h2, h3⟩
    exact ⟨u, List.mem_range.2 h1, by rw [edB_yes h2]; exact List.mem_map.2 ⟨v, h3, rfl⟩⟩
theorem mem_edg {l : List Is} {rs : List Bool} {u v : Nat} : (u, v) ∈ edg l rs ↔ rs[u]? = some true ∧ v ∈ nxt l u := by
  unfold edg
  rw [mem_edU]
  constructor
  · exact fun h => h.2
  · exact fun h => ⟨(List.getElem?_eq_some_iff.1 h.1).1, h⟩
end Go.Proofs.YtgiokognngllcaaDoor

/- Lists of numbers and of yes and no in memory; are they the same? -/
namespace Go.Proofs.YtgiokognngllcaaDoor
open Go.RowKit Go.Sort

theorem cell_of_obj {W : World} {b : Nat} {cs : Array Value} {T : TypeId} {fz : Nat × Nat} (h : W.heap[b]? = some (.cells cs T fz)) {j : Nat} {v : Value} (hj : cs[j]? = some v) : W.cell? ⟨b, j, none⟩ = some v := by
  rw [Lib.cell_of_heap h]; exact hj
theorem blk_stay {W W' : World} {k : Nat} {o : Obj} (h : W.heap[k]? = some o) (hb : Below W.heap.size W W') : W'.heap[k]? = some o := (hb.block _ (Array.getElem?_eq_some_iff.1 h).1).trans h
def nV (k : Nat) : Value := .int .i64 (k : Int)
def bV (b : Bool) : Value := .bool b
/-- A list lies at an address, a cell each. -/
def Lst (W : World) (a : Option Addr) (xs : List Value) : Prop := ∀ j u, xs[j]? = some u → ∃ b o, a = some ⟨b, o, none⟩ ∧ W.cell? ⟨b, o + j, none⟩ = some u
theorem Lst.stay {W W' : World} {a : Option Addr} {xs : List Value} (h : Lst W a xs) (hb : Below W.heap.size W W') : Lst W' a xs := by
  intro j u hj
  obtain ⟨b, o, e, hc⟩ := h j u hj
  exact ⟨b, o, e, cell_kept_below hc hb⟩
theorem own_lst {W : World} {N n : Nat} {T : TypeId} {a : Option Addr} {c : Nat} {xs : List Value} (h : W.ownsRow N T 1 (.slice a n c) n xs) : Lst W a xs := by
  intro j u hj
  rcases h.2 with ⟨e, h0⟩ | ⟨g, cap, cur, e, _, _⟩
  · have := h.1
    have := (List.getElem?_eq_some_iff.1 hj).1
    omega
  · cases e
    refine ⟨g, 0, rfl, ?_⟩
    have := h.cells (g := g) rfl j u hj
    rwa [Addr.add_lit] at this
theorem lst_n {W : World} {a : Option Addr} {l : List Nat} (h : Lst W a (l.map nV)) {j : Nat} (hj : j < l.length) : ∃ b o, a = some ⟨b, o, none⟩ ∧ W.cell? ⟨b, o + j, none⟩ = some (.int .i64 (l[j] : Nat)) := h j (nV l[j]) (by rw [List.getElem?_map, List.getElem?_eq_getElem hj]; rfl)
theorem lst_b {W : World} {a : Option Addr} {l : List Bool} (h : Lst W a (l.map bV)) {j : Nat} (hj : j < l.length) : ∃ b o, a = some ⟨b, o, none⟩ ∧ W.cell? ⟨b, o + j, none⟩ = some (.bool l[j]) := h j (bV l[j]) (by rw [List.getElem?_map, List.getElem?_eq_getElem hj]; rfl)
theorem lst_i {W : World} {a : Option Addr} {l : List Int} (h : Lst W a (l.map (Value.int .i64))) {j : Nat} (hj : j < l.length) : ∃ b o, a = some ⟨b, o, none⟩ ∧ W.cell? ⟨b, o + j, none⟩ = some (.int .i64 l[j]) := h j (.int .i64 l[j]) (by rw [List.getElem?_map, List.getElem?_eq_getElem hj]; rfl)
theorem lst_new (W : World) (cs : Array Value) (T : TypeId) (xs : List Value) (h : cs.toList = xs) : Lst (W.alloc (.cells cs T)) (some ⟨W.heap.size, 0, none⟩) xs := by
  intro j u hj
  refine ⟨_, 0, rfl, ?_⟩
  rw [Nat.zero_add]
  exact new_cell _ _ _ _ _ (by rw [← hj, ← h, Array.getElem?_toList])

set_option maxRecDepth 100000 in
set_option maxHeartbeats 2000000 in
theorem index_any (l : List Nat) (z : Int) (a : Option Addr) (c : Nat) (w : World) (h : Lst w a (l.map nV)) (hl : l.length ≤ 1000000) : Calls Tryd.prog 44 #[.slice a l.length c, .int .i64 z] w fun e w' => ∃ r : Int, e = .returned (.int .i64 r) ∧ (0 ≤ r ↔ ∃ k ∈ l, (k : Int) = z) ∧ w' = w := by
  have HH := Hid.mk' h
  clear h
  go_enter Tryd.func44, Tryd.ntmps44
  go_wp2_with fail
  go_loop [8] (fun t => ∃ (j : Nat), j ≤ l.length ∧ t = .int .i64 j ∧ ∀ k ∈ l.take j, (k : Int) ≠ z) (fun t => l.length - (intOf t).toNat)
  case atStart => exact ⟨0, Nat.zero_le _, rfl, by simp⟩
  case round =>
    obtain ⟨j, hj, rfl, hn⟩ := hrel
    have HN := Hid.mk' hn
    clear hn
    by_cases hlt : j < l.length
    · obtain ⟨b, o, rfl, c0⟩ := lst_n HH.out hlt
      have hli : (j : Int) < (l.length : Int) := by omega
      have HT := Hid.mk' (List.take_succ_eq_append_getElem hlt)
      have HM : Hid (l[j] ∈ l) := List.getElem_mem hlt
      generalize l[j] = x at *
      cases ev : (z == (x : Int))
      · go_wp2_with fail
        go_round
        case rel => exact ⟨j + 1, by omega, by go_num, by
          intro k hk
          rw [HT.out, List.mem_append, List.mem_singleton] at hk
          rcases hk with hk | rfl
          · exact HN.out k hk
          · intro e; rw [e] at ev; simp at ev⟩
        case measure => simp [intOf]; omega
      · go_wp2_with fail
        go_ret
        exact ⟨_, rfl, ⟨fun _ => ⟨x, HM.out, (beq_iff_eq.1 ev).symm⟩, fun _ => by omega⟩, rfl⟩
    · go_wp2_with fail
      go_ret
      refine ⟨_, rfl, ⟨fun h => by omega, fun ⟨k, hk, e⟩ => ?_⟩, rfl⟩
      exact absurd e (HN.out k (by rw [List.take_of_length_le (by omega)]; exact hk))
theorem contains_any (l : List Nat) (k : Nat) (a : Option Addr) (c : Nat) (w : World) (h : Lst w a (l.map nV)) (hl : l.length ≤ 1000000) : Calls Tryd.prog 32 #[.slice a l.length c, .int .i64 (k : Int)] w fun e w' => e = .returned (.bool (decide (k ∈ l))) ∧ w' = w := by
  have HI := Hid.mk' (index_any l k a c w h hl)
  have HE : Hid ((∃ x ∈ l, (x : Int) = (k : Int)) ↔ k ∈ l) := by
    constructor
    · rintro ⟨x, hx, e⟩
      obtain rfl : x = k := by omega
      exact hx
    · exact fun h => ⟨k, h, rfl⟩
  clear h
  go_enter Tryd.func32, Tryd.ntmps32
  go_wp2_with (go_at_call 44; refine HI.out.mono ?_; rintro e w1 ⟨r, rfl, hr0, rfl⟩; have HR := Hid.mk' hr0; clear hr0)
  go_ret
  refine ⟨ret_bool ?_, rfl⟩
  have hr := HR.out
  rw [HE.out] at hr
  exact decide_eq_decide.2 hr

theorem done_eq {α : Type} {xs ys : List α} {j : Nat} (hl : xs.length = ys.length) (h : xs.take j = ys.take j) (hj : ¬ j < xs.length) : xs = ys := by
  rw [List.take_of_length_le (by omega), List.take_of_length_le (by omega)] at h
  exact h
theorem next_eq {α : Type} {xs ys : List α} {j : Nat} (h : xs.take j = ys.take j) (h1 : j < xs.length) (h2 : j < ys.length) (e : xs[j] = ys[j]) : xs.take (j + 1) = ys.take (j + 1) := by
  rw [List.take_succ_eq_append_getElem h1, List.take_succ_eq_append_getElem h2, h, e]
theorem part_ne {α : Type} {xs ys : List α} {j : Nat} (h1 : j < xs.length) (h2 : j < ys.length) (e : xs[j] ≠ ys[j]) : xs ≠ ys := fun h => e (by subst h; rfl)
set_option maxRecDepth 100000 in
set_option maxHeartbeats 2000000 in
theorem sameInts_any (xs ys : List Nat) (a a' : Option Addr) (c c' : Nat) (w : World) (h : Lst w a (xs.map nV)) (h' : Lst w a' (ys.map nV)) (hl : xs.length ≤ 1000000) : Calls Tryd.prog 30 #[.slice a xs.length c, .slice a' ys.length c'] w fun e w' => e = .returned (.bool (decide (xs = ys))) ∧ Below w.heap.size w w' := by
  have HH := Hid.mk' h
  have HH' := Hid.mk' h'
  have hb0 := Below.refl w.heap.size w
  clear h h'
  by_cases hll : xs.length = ys.length
  · have HL := Hid.mk' hll
    have hq : ((xs.length : Int) != (ys.length : Int)) = false := bne_no (by omega)
    clear hll
    go_enter Tryd.func30, Tryd.ntmps30
    go_wp2_with fail
    go_loopw [5] (fun t wr => ∃ (j : Nat), j ≤ xs.length ∧ t = .int .i64 j ∧ xs.take j = ys.take j ∧ Below w.heap.size w wr) (fun t _ => xs.length - (intOf t).toNat)
    case atStart => exact ⟨0, Nat.zero_le _, rfl, by simp, hb0⟩
    case round =>
      obtain ⟨j, hj, rfl, hn, hb⟩ := hrel
      have HN := Hid.mk' hn
      clear hn
      by_cases hlt : j < xs.length
      · have hlt' : j < ys.length := by have := HL.out; omega
        obtain ⟨b, o, rfl, c0⟩ := lst_n (HH.out.stay hb) hlt
        obtain ⟨b', o', rfl, c0'⟩ := lst_n (HH'.out.stay hb) hlt'
        have hli : (j : Int) < (xs.length : Int) := by omega
        have hli' : (j : Int) < (ys.length : Int) := by omega
        have HE := Hid.mk' (next_eq HN.out hlt hlt')
        have HP := Hid.mk' (part_ne hlt hlt')
        generalize xs[j] = x at *
        generalize ys[j] = y at *
        clear hlt'
        by_cases e : x = y
        · have hq2 : ((x : Int) != (y : Int)) = false := bne_no (by omega)
          have HE2 := Hid.mk' (HE.out e)
          clear e HE HP
          go_upto_region 6 with fail
          go_region
          go_wp2_with fail
          go_roundw
          case rel => exact ⟨j + 1, by omega, by go_num, HE2.out, hb.drewN _⟩
          case measure => simp [intOf]; omega
        · have hq2 : ((x : Int) != (y : Int)) = true := bne_of (by omega)
          have HE2 := Hid.mk' (HP.out e)
          clear e HE HP
          go_upto_region 6 with fail
          go_region
          go_wp2_with fail
          go_ret
          exact ⟨ret_bool (by rw [decide_eq_false HE2.out]), hb.drewN _⟩
      · go_wp2_with fail
        go_ret
        exact ⟨ret_bool (by rw [decide_eq_true (done_eq HL.out HN.out hlt)]), hb⟩
  · have hq : ((xs.length : Int) != (ys.length : Int)) = true := bne_of (by omega)
    have HE2 : Hid (¬ xs = ys) := fun e => hll (by rw [e])
    clear hll
    go_enter Tryd.func30, Tryd.ntmps30
    go_wp2_with fail
    go_ret
    exact ⟨ret_bool (by rw [decide_eq_false HE2.out]), hb0⟩
end Go.Proofs.YtgiokognngllcaaDoor

/- Where an instruction leads: flow.named, flow.Next. -/
namespace Go.Proofs.YtgiokognngllcaaDoor
open Go.RowKit Go.Sort

def nmL (x : Is) (b : Int) : List Int :=
  if x.op = 14 ∨ x.op = 18 then [x.n] else if x.op = 15 ∨ x.op = 16 ∨ x.op = 17 then [b, x.n] else if 1 ≤ x.op ∧ x.op ≤ 19 then [b] else []
/-- One number more, if it is an instruction's and not told yet. -/
def pk (n : Nat) (acc : List Nat) (z : Int) : List Nat := if 0 ≤ z ∧ z < n ∧ z.toNat ∉ acc then acc ++ [z.toNat] else acc
theorem pk_nil (n : Nat) (z : Int) : pk n [] z = tgt n z := by
  unfold pk tgt
  by_cases h : 0 ≤ z ∧ z < n
  · rw [if_pos ⟨h.1, h.2, by simp⟩, if_pos h]; rfl
  · rw [if_neg (fun g => h ⟨g.1, g.2.1⟩), if_neg h]
theorem nm_nx (n u : Nat) (x : Is) : (nmL x ((u : Int) + 1)).foldl (pk n) [] = nxL n x u := by
  unfold nmL nxL
  split
  · simp [pk_nil]
  · split
    · simp only [List.foldl, pk_nil]
      unfold pk
      by_cases h : x.n = (u : Int) + 1
      · rw [if_pos h, h, List.append_nil, if_neg]
        rintro ⟨h1, h2, h3⟩
        exact h3 (by unfold tgt; rw [if_pos ⟨h1, h2⟩]; simp)
      · rw [if_neg h]
        unfold tgt
        by_cases h2 : 0 ≤ x.n ∧ x.n < n
        · rw [if_pos h2, if_pos]
          refine ⟨h2.1, h2.2, ?_⟩
          split
          · rw [List.mem_singleton]; omega
          · simp
        · rw [if_neg h2, if_neg (fun g => h2 ⟨g.1, g.2.1⟩), List.append_nil]
    · split
      · simp [pk_nil]
      · rfl
theorem nmL_len (x : Is) (b : Int) : (nmL x b).length ≤ 2 := by unfold nmL; split <;> (try split) <;> (try split) <;> simp

def NmP (L : List Int) (w : World) (e : Ending) (w' : World) : Prop := ∃ a c, e = .returned (.slice a L.length c) ∧ Lst w' a (L.map (Value.int .i64)) ∧ Below w.heap.size w w'
theorem lst_nil (W : World) (a : Option Addr) : Lst W a [] := fun j u h => by simp at h
set_option maxRecDepth 100000 in
set_option maxHeartbeats 2000000 in
theorem named_any (x : Is) (b : Int) (w : World) : Calls Tryd.prog 63 #[x.val, .int .i64 b] w (NmP (nmL x b) w) := by
  have x0 := new_cell w #[.int .i64 x.op, .int .i64 x.a, .int .i64 x.b, .int .i64 x.c, .int .i64 x.n] 52 0 (.int .i64 x.op) rfl
  have x4 := new_cell w #[.int .i64 x.op, .int .i64 x.a, .int .i64 x.b, .int .i64 x.c, .int .i64 x.n] 52 4 (.int .i64 x.n) rfl
  have HB := Hid.mk' (Below.one (Below.refl _ w) (oX x))
  have HZ : Hid (∀ (W : World) (k : Nat) (cs : Array Value) xs, W.heap.size = k → cs.toList = xs → Lst (W.alloc (.cells cs 2)) (some ⟨k, 0, none⟩) xs) := fun W k cs xs e h => by subst e; exact lst_new W cs _ xs h
  have HQ : Hid ((x.op = 14 → nmL x b = [x.n]) ∧ (x.op = 18 → nmL x b = [x.n]) ∧ (x.op = 15 → nmL x b = [b, x.n]) ∧ (x.op = 16 → nmL x b = [b, x.n]) ∧ (x.op = 17 → nmL x b = [b, x.n]) ∧ (¬ (0 ≤ x.op ∧ x.op ≤ 19) → nmL x b = []) ∧ (x.op = 0 → nmL x b = []) ∧
      ((1 ≤ x.op ∧ x.op ≤ 19) → x.op ≠ 14 → x.op ≠ 18 → x.op ≠ 15 → x.op ≠ 16 → x.op ≠ 17 → nmL x b = [b])) := by
    refine ⟨?_, ?_, ?_, ?_, ?_, ?_, ?_, ?_⟩
    · intro h; unfold nmL; rw [if_pos (by omega)]
    · intro h; unfold nmL; rw [if_pos (by omega)]
    · intro h; unfold nmL; rw [if_neg (by omega), if_pos (by omega)]
    · intro h; unfold nmL; rw [if_neg (by omega), if_pos (by omega)]
    · intro h; unfold nmL; rw [if_neg (by omega), if_pos (by omega)]
    · intro h; unfold nmL; rw [if_neg (by omega), if_neg (by omega), if_neg (by omega)]
    · intro h; unfold nmL; rw [if_neg (by omega), if_neg (by omega), if_neg (by omega)]
    · intro h h1 h2 h3 h4 h5; unfold nmL; rw [if_neg (by omega), if_neg (by omega), if_pos h]
  obtain ⟨r14, r18, r15, r16, r17, rn, r0, ro⟩ := HQ.out
  have HK := Hid.mk' (known_any x.op)
  unfold Is.val
  unfold oX at HB
  generalize nmL x b = L at *
  clear HQ
  have HW := Hid.mk' (And.intro rn ro)
  clear rn ro
  by_cases h0 : x.op = 0
  · have hL := r0 h0
    subst hL
    have q0 : (x.op == 0) = true := by simp [h0]
    clear h0 r14 r18 r15 r16 r17 r0
    go_enter Tryd.func63, Tryd.ntmps63
    go_wp2_with fail
    go_ret
    exact ⟨_, _, rfl, lst_nil _ _, HB.out⟩
  have q0 : (x.op == 0) = false := beq_no h0
  have h0 := Hid.mk' h0
  clear r0
  by_cases h1 : x.op = 14
  · have hL := r14 h1
    subst hL
    have q1 : (x.op == 14) = true := by simp [h1]
    clear h1 r14 r18 r15 r16 r17
    go_enter Tryd.func63, Tryd.ntmps63
    go_wp2_with fail
    go_ret
    exact ⟨_, _, rfl, HZ.out _ _ _ _ (by simp) rfl, Below.one HB.out _⟩
  have q1 : (x.op == 14) = false := beq_no h1
  have h1 := Hid.mk' h1
  clear r14
  by_cases h2 : x.op = 18
  · have hL := r18 h2
    subst hL
    have q2 : (x.op == 18) = true := by simp [h2]
    clear h2 r18 r15 r16 r17
    go_enter Tryd.func63, Tryd.ntmps63
    go_wp2_with fail
    go_ret
    exact ⟨_, _, rfl, HZ.out _ _ _ _ (by simp) rfl, Below.one HB.out _⟩
  have q2 : (x.op == 18) = false := beq_no h2
  have h2 := Hid.mk' h2
  clear r18
  by_cases h3 : x.op = 15
  · have hL := r15 h3
    subst hL
    have q3 : (x.op == 15) = true := by simp [h3]
    clear h3 r15 r16 r17
    go_enter Tryd.func63, Tryd.ntmps63
    go_wp2_with fail
    go_ret
    exact ⟨_, _, rfl, HZ.out _ _ _ _ (by simp) rfl, Below.one HB.out _⟩
  have q3 : (x.op == 15) = false := beq_no h3
  have h3 := Hid.mk' h3
  clear r15
  by_cases h4 : x.op = 16
  · have hL := r16 h4
    subst hL
    have q4 : (x.op == 16) = true := by simp [h4]
    clear h4 r16 r17
    go_enter Tryd.func63, Tryd.ntmps63
    go_wp2_with fail
    go_ret
    exact ⟨_, _, rfl, HZ.out _ _ _ _ (by simp) rfl, Below.one HB.out _⟩
  have q4 : (x.op == 16) = false := beq_no h4
  have h4 := Hid.mk' h4
  clear r16
  by_cases h5 : x.op = 17
  · have hL := r17 h5
    subst hL
    have q5 : (x.op == 17) = true := by simp [h5]
    clear h5 r17
    go_enter Tryd.func63, Tryd.ntmps63
    go_wp2_with fail
    go_ret
    exact ⟨_, _, rfl, HZ.out _ _ _ _ (by simp) rfl, Below.one HB.out _⟩
  have q5 : (x.op == 17) = false := beq_no h5
  have h5 := Hid.mk' h5
  clear r17
  by_cases h6 : 0 ≤ x.op ∧ x.op ≤ 19
  · have hL := HW.out.2 (by have := h0.out; omega) h1.out h2.out h3.out h4.out h5.out
    subst hL
    have hk : knB x.op = true := by simp [knB]; omega
    rw [hk] at HK
    clear h6 hk
    go_enter Tryd.func63, Tryd.ntmps63
    go_wp2_with (go_at_call 80; refine (HK.out _).mono ?_; rintro e w1 ⟨rfl, rfl⟩)
    go_ret
    exact ⟨_, _, rfl, HZ.out _ _ _ _ (by simp) rfl, Below.one HB.out _⟩
  · have hL := HW.out.1 h6
    subst hL
    have hk : knB x.op = false := by simp [knB]; omega
    rw [hk] at HK
    clear h6 hk
    go_enter Tryd.func63, Tryd.ntmps63
    go_wp2_with (go_at_call 80; refine (HK.out _).mono ?_; rintro e w1 ⟨rfl, rfl⟩)
    go_ret
    exact ⟨_, _, rfl, lst_nil _ _, HB.out⟩
end Go.Proofs.YtgiokognngllcaaDoor
