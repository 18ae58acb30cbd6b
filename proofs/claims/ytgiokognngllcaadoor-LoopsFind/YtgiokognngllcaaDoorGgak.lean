/- Edges told to a body that appends to rows which a block F holds: what such a body keeps. -/
import Derived.Test.YtgiokognngllcaaDoorGgag
import Derived.OrdersHeld
import Derived.Deep.RegionHeld
import Derived.OrdersIn
import Derived.Test.YtgiokognngllcaaDoorGgai
namespace Go.Proofs.YtgiokognngllcaaDoor
open Go.RowKit Go.Shelf
attribute [local go_sem] Oper.semAt_some

/-- The blocks of the rows that the cells of F hold. -/
def dS (F : Nat) (W : World) (k : Nat) : Prop := ∃ cs T fz, W.heap[F]? = some (.cells cs T fz) ∧ ∃ v ∈ cs.toList, v.ownBlock = some k
theorem dS.same {F k : Nat} {W W' : World} (h : dS F W' k) (hb : W'.heap[F]? = W.heap[F]?) : dS F W k := by
  obtain ⟨cs, T, fz, h1, h2⟩ := h
  exact ⟨cs, T, fz, hb ▸ h1, h2⟩
structure KpF (A B F i : Nat) (W W' : World) : Prop where
  size : W.heap.size ≤ W'.heap.size
  made : ∀ (k : Nat) (o : Obj), (A ≤ k ∧ k < B) → W.heap[k]? = some o → W'.heap[k]? = some o
  high : ∀ (k : Nat) (o : Obj), i ≤ k → ¬ dS F W k → W.heap[k]? = some o → W'.heap[k]? = some o
  grow : ∀ k, dS F W' k → dS F W k ∨ (W.heap.size ≤ k ∧ k < W'.heap.size)
def DOk (F : Nat) (W : World) : Prop := ∀ k, dS F W k → k < W.heap.size
/-- A row that none of them is. -/
def Fresh (F : Nat) (v : Value) (W : World) : Prop := ∀ k, v.ownBlock = some k → ¬ dS F W k
theorem KpF.trans {A B F i : Nat} {X Y Z : World} (h : KpF A B F i X Y) (k : KpF A B F i Y Z) : KpF A B F i X Z := by
  refine ⟨Nat.le_trans h.size k.size, fun j o hj h1 => k.made j o hj (h.made j o hj h1), fun j o hj hd h1 => k.high j o hj (fun hy => ?_) (h.high j o hj hd h1), fun j hj => ?_⟩
  · have hl := (Array.getElem?_eq_some_iff.1 h1).1
    rcases h.grow j hy with h2 | h2
    · exact hd h2
    · omega
  · have := h.size
    have := k.size
    rcases k.grow j hj with h2 | h2
    · rcases h.grow j h2 with h3 | h3
      · exact .inl h3
      · exact .inr ⟨h3.1, by omega⟩
    · exact .inr ⟨by omega, h2.2⟩
theorem KpF.refl (A B F i : Nat) (W : World) : KpF A B F i W W := ⟨Nat.le_refl _, fun _ _ _ h => h, fun _ _ _ _ h => h, fun _ h => .inl h⟩
theorem KpF.put {A B F i l : Nat} (hB : B ≤ l) (hl : l < i) (hF : F ≠ l) (W : World) (o' : Obj) : KpF A B F i W (W.putObj l o') :=
  ⟨by simp, fun k o hk h => (World.putObj_heap_other (by omega)).trans h, fun k o hk _ h => (World.putObj_heap_other (by omega)).trans h, fun k h => .inl (h.same (World.putObj_heap_other (by omega)))⟩
theorem KpF.below {A B F i : Nat} {W W' : World} (hF : F < W.heap.size) (h : Below W.heap.size W W') : KpF A B F i W W' :=
  ⟨h.size, fun _ _ _ hk => blk_stay hk h, fun _ _ _ _ hk => blk_stay hk h, fun _ hd => .inl (hd.same (h.block _ hF))⟩
theorem KpF.low {A B F i : Nat} {W W' : World} (h : KpF A B F i W W') : KpE A B W'.heap.size W W' :=
  ⟨h.size, fun k o hk h1 => by
    rcases hk with hk | hk
    · exact h.made k o hk h1
    · have := (Array.getElem?_eq_some_iff.1 h1).1
      have := h.size
      omega⟩
theorem DOk.below {F : Nat} {W W' : World} (h : DOk F W) (hF : F < W.heap.size) (hb : Below W.heap.size W W') : DOk F W' := fun k hk => Nat.lt_of_lt_of_le (h k (hk.same (hb.block _ hF))) hb.size
theorem DOk.keep {A B F i : Nat} {W W' : World} (h : DOk F W) (hk : KpF A B F i W W') : DOk F W' := fun k hd => by
  have := hk.size
  rcases hk.grow k hd with h1 | h1
  · have := h k h1; omega
  · exact h1.2
theorem fresh_row {F n sz : Nat} {T : TypeId} {v : Value} {xs : List Value} {W W' : World} (h : DOk F W) (hF : F < W.heap.size) (hb : Below W.heap.size W W') (ho : W'.ownsRow W.heap.size T sz v n xs) : Fresh F v W' := fun k e hd => by
  have h1 := h k (hd.same (hb.block _ hF))
  have h2 := own_base ho k e
  omega
theorem Fresh.keep {A B F i N n sz : Nat} {T : TypeId} {v : Value} {xs : List Value} {W W' : World} (h : Fresh F v W) (ho : W.ownsRow N T sz v n xs) (hk : KpF A B F i W W') : Fresh F v W' := fun k e hd => by
  rcases hk.grow k hd with h1 | h1
  · exact h k e h1
  · have := (ho.lt k e).2
    omega
theorem own_highF {A B F i N n sz : Nat} {T : TypeId} {v : Value} {xs : List Value} {W W' : World} (h : W.ownsRow N T sz v n xs) (hN : i ≤ N) (hf : Fresh F v W) (hk : KpF A B F i W W') : W'.ownsRow N T sz v n xs := by
  refine ⟨h.1, ?_⟩
  rcases h.2 with h0 | ⟨g, cap, cur, rfl, h1, h2, h3⟩
  · exact .inl h0
  · exact .inr ⟨g, cap, cur, rfl, h1, hk.high g _ (by omega) (hf g rfl) h2, h3⟩
set_option maxRecDepth 100000 in
set_option maxHeartbeats 4000000 in
theorem edges1_f (lq A B F B1 B2 : Nat) (rs : List Bool) (l : List Is) (ra : Option Addr) (rc : Nat) (ca : Option Addr) (cc : Nat) (hrl : rs.length ≤ 1024) (J Jx : List (Nat × Nat) → World → Prop) (W : World) (hJ : OwnFrom W.heap.size J)
    (hY : ∀ pre x W1, J pre W1 → (pre ++ [x]) <+: edg l rs → YieldAt Fence.wide 0 Tryd.prog lq (encE x) W1 fun e W' =>
      KpF A B F W.heap.size W1 W' ∧ ((e = .returned (.bool true) ∧ J (pre ++ [x]) W') ∨ (e = .returned (.bool false) ∧ Jx (pre ++ [x]) W')))
    (hE : EdAt A B B1 B2 rs l ra rc ca cc W) (hF : F < W.heap.size) (hD : DOk F W) (h0 : J [] W) :
    CallsIn Fence.wide 1 Tryd.prog 53 #[.func (.yield lq) #[] #[], .pointer (some ⟨B1, 0, none⟩), .pointer (some ⟨B2, 0, none⟩)] W fun e W' => (∃ v, e = .returned v) ∧
      (J (edg l rs) W' ∨ ∃ pre, pre <+: edg l rs ∧ Jx pre W') := by
  have HN : Hid (∀ (u : Nat) w', Iss w' ca l → Calls Tryd.prog 54 #[.agg #[.string ⟨#[]⟩, .slice none 0 0, .int .i64 0, .int .i64 0, .slice ca rs.length cc], .int .i64 (u : Int)] w' (NxP (nxt l u) w')) := fun u w' hi => by
    have := next_any ⟨⟨#[]⟩, none, 0, [], 0, 0, ca, cc, l⟩ u w' hi
    rw [nxZ_nat] at this
    unfold Fn.val at this
    simp only [hE.n] at this
    exact this
  have HJ := Hid.mk' hJ
  have HY := Hid.mk' hY
  have HE := Hid.mk' hE
  have HF := Hid.mk' hF
  have HD0 := Hid.mk' hD
  have c0 := cell_of_obj hE.b1 (j := 0) (v := .slice ra rs.length rc) rfl
  have HSS : Hid (W.heap.size ≤ W.heap.size) := Nat.le_refl _
  clear hJ hY hE hF hD
  refine callsIn_of_wp Tryd.func53 rfl trivial ?_ rfl
  simp only [Tryd.ntmps53, List.size_toArray, List.length_cons, List.length_nil, Nat.reduceAdd, Nat.reduceSub, Array.replicate_succ, Array.replicate_zero, List.push_toArray, List.append_toArray, List.nil_append, List.cons_append]
  gi_wp2_with fail
  clear c0
  gi_loopw [10] (fun t wr => ∃ (u : Nat), t = .int .i64 u ∧ u ≤ rs.length ∧ W.heap.size ≤ wr.heap.size ∧ DOk F wr ∧ EdAt A B B1 B2 rs l ra rc ca cc wr ∧ J (edU l rs u) wr) (fun t _ => rs.length - (intOf t).toNat)
  case atStart => exact ⟨0, rfl, Nat.zero_le _, HSS.out, HD0.out, HE.out, h0⟩
  case round =>
    obtain ⟨u, rfl, hu, hsz, hdo, hed, hJs⟩ := hrel
    have HDO := Hid.mk' hdo
    clear hdo HD0
    clear HE
    have HE := Hid.mk' hed
    have HSZ := Hid.mk' hsz
    have HJS := Hid.mk' hJs
    clear hed hsz hJs
    by_cases hlt : u < rs.length
    · obtain ⟨bu, hbu⟩ : ∃ b, rs[u]? = some b := ⟨_, List.getElem?_eq_getElem hlt⟩
      obtain ⟨gr, rfl, d0, k1, k2⟩ := ob_at HE.out.r hbu
      clear k1 k2
      have hlti : (u : Int) < (rs.length : Int) := by omega
      have HBU := Hid.mk' hbu
      clear hbu
      cases bu
      · have HES : Hid (edU l rs (u + 1) = edU l rs u) := (by rw [edU_succ, edB_no HBU.out, List.append_nil] : _ = _)
        gi_wp2_with fail
        go_roundw
        case rel => exact ⟨u + 1, by go_num, by omega, HSZ.out, HDO.out, HE.out, by rw [HES.out]; exact HJS.out⟩
        case measure => simp [intOf]; omega
      · have z0 := cell_of_obj HE.out.b2 (j := 0) (v := .string ⟨#[]⟩) rfl
        have z1 := cell_of_obj HE.out.b2 (j := 1) (v := .slice none 0 0) rfl
        have z2 := cell_of_obj HE.out.b2 (j := 2) (v := .int .i64 0) rfl
        have z3 := cell_of_obj HE.out.b2 (j := 3) (v := .int .i64 0) rfl
        have z4 := cell_of_obj HE.out.b2 (j := 4) (v := .slice ca rs.length cc) rfl
        have HIS := Hid.mk' (row_iss HE.out.c (by rw [HE.out.n]; omega))
        gi_wp2_with fail
        refine ⟨trivial, ?_⟩
        refine (callsIn_wide.2 (HN.out u _ HIS.out)).mono ?_
        rintro e W2 ⟨v2, rfl, on2, bb2⟩
        obtain ⟨a2, c2, rfl⟩ := gown_form on2
        have HE2 := Hid.mk' (HE.out.keep (i := 0) (kpE_below bb2))
        have HS2 : Hid (W.heap.size ≤ W2.heap.size) := Nat.le_trans HSZ.out bb2.size
        have HJ2 := Hid.mk' (HJ.out _ _ _ none HJS.out (below_grown bb2) (fun r e => by cases e))
        have HO2 := Hid.mk' (own_mono on2 HSZ.out)
        have HFW : Hid (F < _) := Nat.lt_of_lt_of_le HF.out HSZ.out
        have HD2 := Hid.mk' (HDO.out.below HFW.out bb2)
        have HF2 := Hid.mk' (fresh_row HDO.out HFW.out bb2 on2)
        have hn2 := nxt_len l u
        clear z0 z1 z2 z3 z4 on2 bb2 d0 HIS HE HJS HDO
        gi_wp2_with fail
        gi_loopw [21] (fun t wr => ∃ (k : Nat), t = .int .i64 k ∧ k ≤ (nxt l u).length ∧ W.heap.size ≤ wr.heap.size ∧ DOk F wr ∧ Fresh F (.slice a2 (nxt l u).length c2) wr ∧ EdAt A B B1 B2 rs l (some ⟨gr, 0, none⟩) rc ca cc wr ∧ On W.heap.size (nxt l u) (.slice a2 (nxt l u).length c2) wr ∧ J (edU l rs u ++ ((nxt l u).take k).map fun v => (u, v)) wr) (fun t _ => (nxt l u).length - (intOf t).toNat)
        case atStart => exact ⟨0, rfl, Nat.zero_le _, HS2.out, HD2.out, HF2.out, HE2.out, HO2.out, by simpa using HJ2.out⟩
        case round =>
          obtain ⟨k, rfl, hk, hsz, hdo, hfr, hed, hon, hJs⟩ := hrel
          clear HE2 HS2 HJ2 HO2 HD2 HF2 HFW
          have HDO := Hid.mk' hdo
          have HFR := Hid.mk' hfr
          clear hdo hfr
          have HE := Hid.mk' hed
          have HSZ2 := Hid.mk' hsz
          have HJS := Hid.mk' hJs
          have HON := Hid.mk' hon
          clear hed hsz hJs hon
          by_cases hkl : k < (nxt l u).length
          · obtain ⟨x, hx⟩ : ∃ x, (nxt l u)[k]? = some x := ⟨_, List.getElem?_eq_getElem hkl⟩
            obtain ⟨gn, rfl, d0, k1, k2⟩ := on_at HON.out hx
            clear k1 k2
            obtain ⟨hp1, hp2⟩ := ed_part HBU.out hx
            have HP1 := Hid.mk' hp1
            have HP2 := Hid.mk' hp2
            have hkli : (k : Int) < ((nxt l u).length : Int) := by omega
            obtain ⟨fn, tmps, assign, body, hy, hR⟩ := HY.out _ (u, x) _ HJS.out hp1
            clear hx hp1 hp2
            gi_wp2_with fail
            refine hR.mono ?_
            rintro e W3 ⟨hk3, ⟨rfl, hJ3⟩ | ⟨rfl, hJx3⟩⟩
            · have HE3 := Hid.mk' (HE.out.keep hk3.low)
              have HO3 := Hid.mk' (own_highF HON.out (Nat.le_refl _) HFR.out hk3)
              have HD3 := Hid.mk' (HDO.out.keep hk3)
              have HF3 := Hid.mk' (HFR.out.keep HON.out hk3)
              have HS3 : Hid (W.heap.size ≤ W3.heap.size) := Nat.le_trans HSZ2.out hk3.1
              rw [HP2.out] at hJ3
              have HJ3 := Hid.mk' hJ3
              clear hk3 hR hy hJ3
              gi_wp2_with fail
              go_roundw
              case rel => exact ⟨k + 1, by go_num, hkl, HS3.out, HD3.out, HF3.out, HE3.out, HO3.out, HJ3.out⟩
              case measure => simp [intOf]; omega
            · gi_wp2_with fail
              exact bodyPost_ret (results_none rfl _ _ _) rfl ⟨⟨_, rfl⟩, .inr ⟨_, HP1.out, hJx3⟩⟩
          · have HA := Hid.mk' (ed_all HBU.out hkl)
            gi_wp2_with fail
            go_roundw
            case rel => exact ⟨u + 1, by go_num, by omega, HSZ2.out, HDO.out, HE.out, by rw [← HA.out]; exact HJS.out⟩
            case measure => simp [intOf]; omega
    · have hue : u = rs.length := by omega
      subst hue
      gi_wp2_with fail
      go_end0
      exact ⟨⟨_, rfl⟩, .inl HJS.out⟩
theorem edges_f (A B F B1 B2 : Nat) (rs : List Bool) (l : List Is) (ra : Option Addr) (rc : Nat) (ca : Option Addr) (cc : Nat) (hrl : rs.length ≤ 1024) (w : World) (hE : EdAt A B B1 B2 rs l ra rc ca cc w) (hF : F < w.heap.size) (hD : DOk F w) : SeqO 53 #[.pointer (some ⟨B1, 0, none⟩), .pointer (some ⟨B2, 0, none⟩)] encE (KpF A B F) (edg l rs) w :=
  fun lq J Jx W hW hJ _ hY h0 => calls_any (edges1_f lq A B F B1 B2 rs l ra rc ca cc hrl J Jx W hJ hY (hE.keep (i := W.heap.size) (kpE_below hW)) (Nat.lt_of_lt_of_le hF hW.size) (hD.below hF hW) h0)
def EdPF (F : Nat) (l : List Is) (w : World) (e : Ending) (w' : World) : Prop := ∃ B1 B2 rs, e = .returned (.func (.func 53) #[] #[.pointer (some ⟨B1, 0, none⟩), .pointer (some ⟨B2, 0, none⟩)]) ∧ IsR l rs ∧ SeqO 53 #[.pointer (some ⟨B1, 0, none⟩), .pointer (some ⟨B2, 0, none⟩)] encE (KpF w.heap.size w'.heap.size F) (edg l rs) w' ∧ Below w.heap.size w w'
set_option maxRecDepth 100000 in
set_option maxHeartbeats 4000000 in
theorem edges_anyF (f : Fn) (F : Nat) (w : World) (hi : Iss w f.ca f.code) (hc : f.code.length ≤ f.cc) (hF : F < w.heap.size) (hD : DOk F w) : Calls Tryd.prog 36 #[f.val] w (EdPF F f.code w) := by
  have HF := Hid.mk' hF
  have HD := Hid.mk' hD
  clear hF hD
  have HR : Hid (∀ w', Below w.heap.size w w' → Calls Tryd.prog 51 #[f.val] w' (ReP f.code w')) := fun w' hb => reach_any f w' (hi.stay hb)
  obtain ⟨fn, fpa, fpc, fps, frg, fwd, fca, fcc, fl⟩ := f
  unfold Fn.val at *
  simp only at hi HR hc ⊢
  have HB := Hid.mk' (Below.one (Below.refl _ w) (.cells #[.string fn, .slice fpa fps.length fpc, .int .i64 frg, .int .i64 fwd, .slice fca fl.length fcc] 25))
  have HX := Hid.mk' (heap_alloc_new w (.cells #[.string fn, .slice fpa fps.length fpc, .int .i64 frg, .int .i64 fwd, .slice fca fl.length fcc] 25))
  have HI := Hid.mk' hi
  have HC := Hid.mk' hc
  clear hi hc
  go_enter Tryd.func36, Tryd.ntmps36
  go_wp2_with fail
  refine (HR.out _ HB.out).mono ?_
  rintro e W1 ⟨v1, rs, rfl, hir, ho, bb1⟩
  obtain ⟨ra, rc, rfl⟩ := gown_form ho
  have hbw := Below.on HB.out bb1
  have hrs := hir.len
  obtain ⟨a', hsl, hrow⟩ := slice_code (W1.alloc (.cells #[.slice ra rs.length rc] 45)) fca fl fcc rs.length ((HI.out.stay (Below.one hbw (.cells #[.slice ra rs.length rc] 45))).2) hir.le HC.out
  have hx1 := blk_stay HX.out (Below.one bb1 (.cells #[.slice ra rs.length rc] 45))
  have z4 := cell_of_obj hx1 (j := 4) (v := .slice fca fl.length fcc) rfl
  have hx2 := heap_alloc_new W1 (.cells #[.slice ra rs.length rc] 45)
  have z5 := cell_of_obj hx2 (j := 0) (v := .slice ra rs.length rc) rfl
  have hle := hir.le
  have HCL := Hid.mk' (clone_any (fl.take rs.length) a' fcc _ hrow (by rw [List.length_take]; omega))
  have hlt : (fl.take rs.length).length = rs.length := by rw [List.length_take]; omega
  rw [hlt] at HCL
  have HLT := Hid.mk' hlt
  have HIR := Hid.mk' hir
  have HO := Hid.mk' ho
  have HB1 := Hid.mk' hbw
  have HX2 := Hid.mk' hx2
  clear hir ho hbw hrow hx1 hx2 hlt hle bb1 HR HI HX
  go_wp2_with fail
  refine HCL.out.mono ?_
  rintro e W2 ⟨v2, rfl, ow2, bb2⟩
  obtain ⟨ca, cc, rfl⟩ := gown_form ow2
  have hs1 := bb2.size
  rw [World.size_alloc] at hs1
  have hs0 := HB1.out.size
  have HE : Hid (EdAt w.heap.size (W2.heap.size + 1) W1.heap.size W2.heap.size rs (fl.take rs.length) ra rc ca cc (W2.alloc (.cells #[.string ⟨#[]⟩, .slice none 0 0, .int .i64 0, .int .i64 0, .slice ca rs.length cc] 25))) := by
    have bo := Below.one (Below.refl _ W2) (.cells #[.string ⟨#[]⟩, .slice none 0 0, .int .i64 0, .int .i64 0, .slice ca rs.length cc] 25)
    have bo2 := Below.one bb2 (.cells #[.string ⟨#[]⟩, .slice none 0 0, .int .i64 0, .int .i64 0, .slice ca rs.length cc] 25)
    refine ⟨⟨by omega, by omega⟩, ⟨by omega, by omega⟩, blk_stay HX2.out bo2, heap_alloc_new _ _, ?_, fun k e => ?_, ?_, fun k e => ?_, HLT.out⟩
    · have h1 := own_stay (own_mono HO.out (by simp : w.heap.size ≤ _)) (Below.one (Below.refl _ W1) (.cells #[.slice ra rs.length rc] 45))
      exact own_stay h1 bo2
    · have := (HO.out.lt k e).2; omega
    · exact own_stay (own_mono ow2 (by rw [World.size_alloc]; omega)) bo
    · have := (ow2.lt k e).2; omega
  clear ow2 z4 z5 HCL HX2
  go_wp2_with fail
  go_ret
  refine ⟨_, _, rs, rfl, HIR.out, ?_, Below.one (Below.on (Below.one HB1.out _) bb2) _⟩
  rw [← edg_take HIR.out]
  have := edges_f w.heap.size (W2.heap.size + 1) F W1.heap.size W2.heap.size rs (fl.take rs.length) ra rc ca cc hrs _ HE.out (by rw [World.size_alloc]; have := HF.out; omega) (HD.out.below HF.out (Below.one (Below.on (Below.one HB1.out _) bb2) _))
  rw [World.size_alloc]
  exact this
end Go.Proofs.YtgiokognngllcaaDoor

/- A region that draws its order, whose last operation writes what another one reads: a condition that holds till the last operation comes up. -/
namespace Go.Proofs.YtgiokognngllcaaDoor
open Go

section
variable {P : Program} {ops : Array Oper} {Q : Exit → Act → World → Prop} {md : Region.Mode} {S : World → Prop} {n : Nat}
/-- Whatever order is picked from here on; S holds behind every operation but the last one, number n. -/
def wpAnyK (P : Program) (md : Region.Mode) (ops : Array Oper) (Q : Exit → Act → World → Prop) (S : World → Prop) (n : Nat) : Nat → Array Bool → Act → World → Prop
  | 0, listed, a, w => Region.ready md ops listed = [] ∧ Q .normal a w
  | fuel + 1, listed, a, w =>
    (Region.ready md ops listed = [] → Q .normal a w) ∧
    ∀ i ∈ Region.ready md ops listed, wpOp P ops Q i (fun a' w' => (i ≠ n → S w') ∧ wpAnyK P md ops Q S n fuel (listed.setIfInBounds i true) a' w') a w
theorem wpAny_of_K : ∀ (fuel : Nat) (listed : Array Bool) (a : Act) (w : World), wpAnyK P md ops Q S n fuel listed a w → wpAny P md ops Q fuel listed a w
  | 0, _, _, _, h => h
  | fuel + 1, _, _, _, h => ⟨h.1, fun i hi => wpOp_mono (fun a' w' h' => wpAny_of_K fuel _ a' w' h'.2) (h.2 i hi)⟩
theorem wpAnyK_first {i : Nat} {oi on : Oper} {v : Value} (hi : ops[i]? = some oi) (hon : ops[n]? = some on) (hw : ∃ e ∈ on.after, Region.binds md e = true ∧ e.on = i) (hsel : ∀ (j : Nat) (o : Oper) cs b, ops[j]? = some o → o.op ≠ .select cs b)
    (hQ : ∀ c a w, Q (.panic c) (a.put oi.dst v) w → Q (.panic c) a w) :
    ∀ (fuel : Nat) (listed : Array Bool) (a : Act) (w : World),
      (∀ j oj, ops[j]? = some oj → j ≠ i → listed.getD j true = false → (∀ e ∈ oj.after, Region.binds md e = true → e.on ≠ i) → oi.apart ops oj = true) →
      i ∈ Region.ready md ops listed → YieldsIf P ops S oi v a → S w →
      wpAnyK P md ops Q S n fuel (listed.setIfInBounds i true) (a.put oi.dst v) w → wpAnyK P md ops Q S n (fuel + 1) listed a w := by
  intro fuel
  induction fuel with
  | zero =>
    intro listed a w _ hr hy hS H
    refine ⟨fun h => (by rw [h] at hr; cases hr), fun j hj => ?_⟩
    by_cases hji : j = i
    · subst hji; exact hy.wpOp hi hS ⟨fun _ => hS, H⟩
    · have := ready_mono hj hji
      rw [H.1] at this
      cases this
  | succ fuel ih =>
    intro listed a w hfree hr hy hS H
    refine ⟨fun h => (by rw [h] at hr; cases hr), fun j hj => ?_⟩
    by_cases hji : j = i
    · subst hji; exact hy.wpOp hi hS ⟨fun _ => hS, H⟩
    · have h1 := H.2 j (ready_mono hj hji)
      obtain ⟨hjun, oj, hoj, hall⟩ := mem_ready.1 hj
      have hnot : ∀ e ∈ oj.after, Region.binds md e = true → e.on ≠ i := fun e he hb heq => by
        have h1 := hall e he hb
        have h0 := (mem_ready.1 hr).1
        rw [heq] at h1
        rcases Nat.lt_or_ge i listed.size with h' | h'
        · simp [h'] at h0 h1; rw [h0] at h1; cases h1
        · simp [Array.getElem?_eq_none h'] at h1
      have hjn : j ≠ n := fun e => by
        subst e
        rw [hon] at hoj
        cases hoj
        obtain ⟨e, he, hb, heq⟩ := hw
        exact hnot e he hb heq
      have h2 := wpOp_putIf hoj (hfree j oj hoj hji hjun hnot) (fun cs b => hsel i oi cs b hi) (fun cs b => hsel j oj cs b hoj) hQ hy h1
      have hfree' : ∀ k ok, ops[k]? = some ok → k ≠ i → (listed.setIfInBounds j true).getD k true = false →
          (∀ e ∈ ok.after, Region.binds md e = true → e.on ≠ i) → oi.apart ops ok = true := fun k ok hk hki hun hno => by
        refine hfree k ok hk hki ?_ hno
        by_cases hjk : j = k
        · subst hjk; exact hjun
        · rw [getD_set_ne true hjk] at hun; exact hun
      refine wpOp_mono (fun a' w' h3 => ⟨fun _ => h3.2.1 hjn, ih (listed.setIfInBounds j true) a' w' hfree' (ready_mono hr (Ne.symm hji)) h3.1 (h3.2.1 hjn) ?_⟩) h2
      rw [Array.setIfInBounds_comm _ _ hji]
      exact h3.2.2
/-- Does the last operation wait for this one? -/
def waitsB (md : Region.Mode) (ops : Array Oper) (n i : Nat) : Bool := match ops[n]? with | some o => o.after.any fun e => Region.binds md e && e.on == i | none => false
theorem waits_spec {i : Nat} (h : waitsB md ops n i = true) : ∃ on, ops[n]? = some on ∧ ∃ e ∈ on.after, Region.binds md e = true ∧ e.on = i := by
  unfold waitsB at h
  split at h
  · rename_i o ho
    rw [Array.any_eq_true] at h
    obtain ⟨k, hk, hb⟩ := h
    simp only [Bool.and_eq_true, beq_iff_eq] at hb
    exact ⟨o, ho, _, Array.getElem_mem hk, hb⟩
  · cases h
theorem wpAnyK_take {i : Nat} {oi : Oper} {v : Value} {fuel : Nat} {listed : Array Bool} {a : Act} {w : World} (hi : ops[i]? = some oi) (hwt : waitsB md ops n i = true)
    (hs : Region.noSelect ops = true) (hf : Region.free md ops listed i = true) (hr : (Region.ready md ops listed).contains i = true)
    (hQ : ∀ c a w, Q (.panic c) (a.put oi.dst v) w → Q (.panic c) a w) (hy : YieldsIf P ops S oi v a) (hS : S w)
    (h : wpAnyK P md ops Q S n fuel (listed.setIfInBounds i true) (a.put oi.dst v) w) : wpAnyK P md ops Q S n (fuel + 1) listed a w := by
  obtain ⟨on, hon, hw⟩ := waits_spec hwt
  exact wpAnyK_first hi hon hw (Region.noSelect_spec hs) hQ fuel listed a w (Region.free_spec hi hf) (by simpa using hr) hy hS h
/-- The same, of a list that is written out. -/
theorem wpAnyK_takeL {l : List Oper} {i : Nat} {oi : Oper} {v : Value} {fuel : Nat} {listed : Array Bool} {a : Act} {w : World} (hi : l[i]? = some oi) (hwt : waitsB md l.toArray n i = true)
    (hs : Region.noSelect l.toArray = true) (hf : Region.free md l.toArray listed i = true) (hr : (Region.ready md l.toArray listed).contains i = true)
    (hQ : ∀ c a w, Q (.panic c) (a.put oi.dst v) w → Q (.panic c) a w) (hw : Region.wanted oi (yielded l.toArray a.tmps) = true) (hy : ∀ w, S w → (execOp a.eval oi).run P w = .ok (.value v) w) (hS : S w)
    (h : wpAnyK P md l.toArray Q S n fuel (listed.setIfInBounds i true) (a.put oi.dst v) w) : wpAnyK P md l.toArray Q S n (fuel + 1) listed a w :=
  wpAnyK_take (by simpa using hi) hwt hs hf hr hQ (.inl ⟨hw, hy⟩) hS h
/-- One alone may come up. -/
theorem wpAnyK_one {i : Nat} {o : Oper} {fuel : Nat} {listed : Array Bool} {a : Act} {w : World} (hr : Region.ready md ops listed = [i]) (ho : ops[i]? = some o)
    (h : ∀ K' : Act → World → Prop, Shut (∀ a w, (i ≠ n → S w) → wpAnyK P md ops Q S n fuel (listed.setIfInBounds i true) a w → K' a w) → if Region.wanted o (yielded ops a.tmps) = true then Oper.wp P o a w K' Q else K' (a.put o.dst undef) w) : wpAnyK P md ops Q S n (fuel + 1) listed a w := by
  refine ⟨fun h0 => (by rw [hr] at h0; cases h0), fun j hj => ?_⟩
  rw [hr, List.mem_singleton] at hj
  subst hj
  exact wpOp_step ho (fun K' hK => h K' (fun a w hS hW => hK a w ⟨hS, hW⟩))
theorem wpAnyK_done {listed : Array Bool} {a : Act} {w : World} (hr : Region.ready md ops listed = []) (h : Q .normal a w) : ∀ fuel, wpAnyK P md ops Q S n fuel listed a w
  | 0 => ⟨hr, h⟩
  | _ + 1 => ⟨fun _ => h, by rw [hr]; simp⟩
theorem wp_region_K (S : World → Prop) (n : Nat) {id : Nat} {a : Act} {w : World} (hm : P.follows .mixedOrders = true)
    (h : wpAnyK P .any ops Q S n ops.size (Array.replicate ops.size false) a w.drew) : (Code.region id ops true).wp P Q a w :=
  wp_region_any hm (wpAny_of_K _ _ _ _ h)
end
end Go.Proofs.YtgiokognngllcaaDoor

/- A region that draws its order, within a round: where no operation calls a function it is walked as outside. -/
namespace Go.Proofs.YtgiokognngllcaaDoor
open Go.RowKit Go.Shelf

/-- A value, nothing or a halt. -/
def plainR : Result Next → Prop
  | .ok (.value _) _ => True
  | .ok .skip _ => True
  | .halt _ _ => True
  | _ => False
/-- An operation that calls no function. -/
structure Simple (P : Program) (o : Oper) : Prop where
  about : ∀ w ρ, o.about P w ρ = none
  defer : ∀ c, o.op ≠ .defer c
  plain : ∀ w ρ, plainR ((execOp ρ o).run P w)
theorem plain_v (P : Program) (w : World) (s : Sem Value) : plainR (((do pure (.value (← s))) : Sem Next).run P w) := by
  rw [Sem.run_bind]
  cases s.run P w <;> trivial
theorem plain_u (P : Program) (w : World) (s : Sem Unit) : plainR (((do s; pure .skip) : Sem Next).run P w) := by
  rw [Sem.run_bind]
  cases s.run P w <;> trivial
theorem upon_in {F : Fence} {n : Nat} {P : Program} {o : Oper} {a : Act} {K : Act → World → Prop} {Q : Exit → Act → World → Prop} {r : Result Next} (hp : plainR r) (h : o.upon P a K Q r) : o.uponIn F n P a K Q r := by
  cases r with
  | ok x w' => cases x <;> first | exact h | exact hp.elim
  | halt x w' => cases x <;> exact h
theorem simple_in {F : Fence} {n : Nat} {P : Program} {o : Oper} {a : Act} {w : World} {K : Act → World → Prop} {Q : Exit → Act → World → Prop} (hs : Simple P o) (h : o.wp P a w K Q) : o.wpIn F n P a w K Q := by
  refine ⟨fun f e => (by rw [hs.about] at e; cases e), ?_⟩
  rw [Oper.semAt_eq _ _ _ hs.defer]
  exact upon_in (hs.plain w a.eval) h
theorem any_in {F : Fence} {n : Nat} {P : Program} {md : Region.Mode} {ops : Array Oper} {Q : Exit → Act → World → Prop} (hQ : ¬ LetsOut Q) (hs : ∀ (i : Nat) (o : Oper), ops[i]? = some o → Simple P o) : ∀ (fuel : Nat) (listed : Array Bool) (a : Act) (w : World), wpAny P md ops Q fuel listed a w → wpAnyIn F n P md ops Q fuel listed a w
  | 0, _, _, _, h => h
  | fuel + 1, listed, a, w, h => ⟨h.1, fun i hi => by
    have h1 := wpOp_mono (fun a' w' h' => any_in (F := F) (n := n) hQ hs fuel (listed.setIfInBounds i true) a' w' h') (h.2 i hi)
    unfold wpOp at h1
    unfold wpOpIn
    cases e : ops[i]? with
    | none => simpa only [e] using h1
    | some o =>
      simp only [e] at h1 ⊢
      split
      · rename_i hw
        rw [if_pos hw] at h1
        rcases h1 with h1 | ⟨_, h1⟩
        · exact simple_in (hs i o e) h1
        · exact absurd h1 hQ
      · rename_i hw
        rw [if_neg hw] at h1
        exact ⟨fun f e' => (by rw [(hs i o e).about] at e'; cases e'), h1⟩⟩
theorem region_in {F : Fence} {n : Nat} {P : Program} {id : Nat} {ops : Array Oper} {Q : Exit → Act → World → Prop} {S : World → Prop} {a : Act} {w : World} (hm : P.follows .mixedOrders = true) (hQ : ¬ LetsOut Q) (hs : ∀ (i : Nat) (o : Oper), ops[i]? = some o → Simple P o)
    (h : wpAnyH P .any ops Q S ops.size (Array.replicate ops.size false) a w.drew) : (Code.region id ops true).wpIn F n P Q a w :=
  wpIn_region_any hm (any_in hQ hs _ _ _ _ (wpAny_of_held _ _ _ _ h))
theorem region_inK (S : World → Prop) (m : Nat) {F : Fence} {n : Nat} {P : Program} {id : Nat} {ops : Array Oper} {Q : Exit → Act → World → Prop} {a : Act} {w : World} (hm : P.follows .mixedOrders = true) (hQ : ¬ LetsOut Q) (hs : ∀ (i : Nat) (o : Oper), ops[i]? = some o → Simple P o)
    (h : wpAnyK P .any ops Q S m ops.size (Array.replicate ops.size false) a w.drew) : (Code.region id ops true).wpIn F n P Q a w :=
  wpIn_region_any hm (any_in hQ hs _ _ _ _ (wpAny_of_K _ _ _ _ h))
theorem simple_list {P : Program} {l : List Oper} (h : ∀ o ∈ l, Simple P o) (i : Nat) (o : Oper) (e : l.toArray[i]? = some o) : Simple P o := h o (List.mem_of_getElem? (by rwa [List.getElem?_toArray] at e))
theorem simple_move {P : Program} {o : Oper} (x : Operand) (h : o.op = .move x) : Simple P o := ⟨fun w ρ => by unfold Oper.about; rw [h], fun c e => (by rw [h] at e; cases e), fun w ρ => by unfold execOp; simp only [h]; trivial⟩
theorem simple_load {P : Program} {o : Oper} (t : TypeId) (x : Operand) (h : o.op = .load t x) : Simple P o := ⟨fun w ρ => by unfold Oper.about; rw [h], fun c e => (by rw [h] at e; cases e), fun w ρ => by unfold execOp; simp only [h]; exact plain_v _ _ _⟩
theorem simple_index {P : Program} {o : Oper} (t : TypeId) (x y : Operand) (h : o.op = .indexAddr t x y) : Simple P o := ⟨fun w ρ => by unfold Oper.about; rw [h], fun c e => (by rw [h] at e; cases e), fun w ρ => by unfold execOp; simp only [h]; exact plain_v _ _ _⟩
theorem simple_build {P : Program} {o : Oper} (t : TypeId) (n : Nat) (p : Array (Nat × Operand)) (h : o.op = .buildSlice t n p) : Simple P o := ⟨fun w ρ => by unfold Oper.about; rw [h], fun c e => (by rw [h] at e; cases e), fun w ρ => by unfold execOp; simp only [h]; exact plain_v _ _ _⟩
theorem simple_store {P : Program} {o : Oper} (t : TypeId) (x y : Operand) (h : o.op = .store t x y) : Simple P o := ⟨fun w ρ => by unfold Oper.about; rw [h], fun c e => (by rw [h] at e; cases e), fun w ρ => by unfold execOp; simp only [h]; exact plain_u _ _ _⟩
theorem simple_append {P : Program} {o : Oper} (sl x : Operand) (t u : TypeId) (h : o.op = .call { callee := .builtin .append, args := #[sl, x], argTypes := #[t, u] }) : Simple P o := by
  refine ⟨fun w ρ => ?_, fun c e => (by rw [h] at e; cases e), fun w ρ => ?_⟩
  · unfold Oper.about
    simp only [h, resolve, Sem.run_pure, Target.leads]
  · unfold execOp
    simp only [h, resolve, invoke, builtin, Sem.run_bind, Sem.run_pure, Result.andThen_ok, List.map_toArray, List.map_cons, List.map_nil]
    generalize (Builtin.append_ #[t, u] o.type #[ρ sl, ρ x]).run P w = r
    cases r <;> trivial
end Go.Proofs.YtgiokognngllcaaDoor

/- Rows that a block's cells hold: what dom.leaders has in memory. -/
namespace Go.Proofs.YtgiokognngllcaaDoor
open Go.RowKit Go.Shelf

structure LD (w : World) (n x3 F N : Nat) (fr : Nat → List Nat) (vs : List Value) (W : World) : Prop where
  b3 : Boxed W x3 50 (.slice (some ⟨F, 0, none⟩) n n)
  f : W.heap[F]? = some (.cells vs.toArray 38 (0, 0))
  len : vs.length = n
  rows : ∀ j, j < n → On N (fr j) (vs.getD j undef) W
  ap : ∀ i j, i < n → j < n → i ≠ j → Apart (vs.getD i undef) (vs.getD j undef)
  b : Below w.heap.size w W
  sz : N ≤ W.heap.size
theorem cells_grown {W W' : World} {F : Nat} {cs : Array Value} {T : TypeId} {fz : Nat × Nat} {row : Option Nat} (h : W.heap[F]? = some (.cells cs T fz)) (hg : W.grownBy W' row) (hr : ∀ r, row = some r → ∃ o : Obj, W.heap[r]? = some o ∧ o.isCells = false) : W'.heap[F]? = some (.cells cs T fz) :=
  (hg.block F (Array.getElem?_eq_some_iff.1 h).1 (fun e => by
    obtain ⟨o, ho, hc⟩ := hr F e.symm
    rw [h] at ho; cases ho; cases hc)).trans h
theorem LD.own (w : World) {n x3 F N B : Nat} {β : Type} (fr : β → Nat → List Nat) (hB : w.heap.size ≤ B) : OwnFrom B (fun (s : β) W => ∃ vs, LD w n x3 F N (fr s) vs W) := fun _ _ _ _ ⟨vs, h⟩ hg hr =>
  ⟨vs, boxed_grown h.b3 hg (fun r e => (hr r e).2), cells_grown h.f hg (fun r e => (hr r e).2), h.len, fun j hj => own_grown (h.rows j hj) hg (fun r e => (hr r e).2), h.ap, h.b.grown hg h.b.size (fun k e => Nat.le_trans hB (hr k e).1), Nat.le_trans h.sz hg.size⟩
theorem vs_at {vs : List Value} {v : Nat} (h : v < vs.length) : vs[v]? = some (vs.getD v undef) := by rw [List.getD_eq_getElem?_getD, List.getElem?_eq_getElem h]; rfl
theorem vs_set {vs : List Value} {v j : Nat} (h : v < vs.length) (x : Value) : (vs.set v x).getD j undef = if j = v then x else vs.getD j undef := by
  rw [List.getD_eq_getElem?_getD, List.getD_eq_getElem?_getD]
  by_cases e : j = v
  · subst e; rw [List.getElem?_set_self h, if_pos rfl]; rfl
  · rw [List.getElem?_set_ne (Ne.symm e), if_neg e]
/-- A row of numbers lies in no block of rows. -/
theorem row_ne {W : World} {F N n : Nat} {cs : Array Value} {v : Value} {xs : List Value} (hf : W.heap[F]? = some (.cells cs 38 (0, 0))) (h : W.ownsRow N 3 1 v n xs) : v.ownBlock ≠ some F := fun e => by
  rcases h.2 with ⟨rfl, _⟩ | ⟨g, cap, cur, rfl, _, hg, _⟩
  · cases e
  · cases e
    rw [hf] at hg
    injection hg with hg
    injection hg with _ hg
    exact absurd hg (by decide)
/-- Behind an append to row v, and the store of what it told. -/
theorem LD.next {w : World} {n x3 F N : Nat} {fr fr' : Nat → List Nat} {vs : List Value} {W W' : World} {v u : Nat} {v' : Value} (h : LD w n x3 F N fr vs W) (hv : v < n) (hx : x3 < N) (hxF : x3 ≠ F) (hwF : w.heap.size ≤ F) (hwN : w.heap.size ≤ N)
    (hn : On N (fr v ++ [u]) v' W') (hg : W.grownBy W' (vs.getD v undef).ownBlock) (ho : v'.ownBlock = (vs.getD v undef).ownBlock ∨ v'.ownBlock = some (W.heap.size + 1)) (e1 : fr' v = fr v ++ [u]) (e2 : ∀ j, j ≠ v → fr' j = fr j) :
    LD w n x3 F N fr' (vs.set v v') (W'.setCell ⟨F, v, none⟩ v') := by
  have hl := h.len
  have hne := row_ne h.f (h.rows v hv)
  have hf' : W'.heap[F]? = some (.cells vs.toArray 38 (0, 0)) := (hg.block F (Array.getElem?_eq_some_iff.1 h.f).1 (Ne.symm hne)).trans h.f
  have hb3 : Boxed W' x3 50 (.slice (some ⟨F, 0, none⟩) n n) := h.b3.kept hg fun e => by
    have := own_base (h.rows v hv) x3 e.symm
    omega
  have keep : ∀ {m : Nat} {q : Value} {xs : List Value}, W'.ownsRow N 3 1 q m xs → (W'.setCell ⟨F, v, none⟩ v').ownsRow N 3 1 q m xs := fun {m q xs} hq => by
    refine hq.kept (row := some F) ⟨rfl, rfl, rfl, by simp, fun k _ hk => heap_setCell_other W' ⟨F, v, none⟩ k v' fun e => hk (by rw [e])⟩ (.inr (row_ne hf' hq))
  refine ⟨?_, ?_, by rw [List.length_set, hl], fun j hj => ?_, fun i j hi hj hij => ?_, ?_, by simp only [World.setCell, Array.size_modify]; exact Nat.le_trans h.sz hg.size⟩
  · exact (heap_setCell_other W' ⟨F, v, none⟩ x3 v' hxF).trans hb3
  · have := heap_setCell_same W' F v vs.toArray 38 v' hf'
    rw [List.setIfInBounds_toArray] at this
    exact this
  · rw [vs_set (by omega)]
    split
    · rename_i e; subst e; rw [e1]; exact keep hn
    · rename_i e
      rw [e2 j e]
      exact keep ((h.rows j hj).kept hg (h.ap j v hj hv e))
  · rw [vs_set (by omega), vs_set (by omega)]
    have fresh : ∀ {a : Nat}, a < n → Apart (vs.getD a undef) (vs.getD v undef) → Apart (vs.getD a undef) v' := fun {a} ha hap => Apart.next hap (h.rows a ha) ho
    split
    · rename_i e
      subst e
      rw [if_neg (Ne.symm hij)]
      have := fresh hj (h.ap j i hj hi (Ne.symm hij))
      unfold Apart at this ⊢
      rcases this with h1 | h1
      · rw [h1]
        cases v'.ownBlock with
        | none => exact .inl rfl
        | some k => exact .inr (by simp)
      · exact .inr (Ne.symm h1)
    · rename_i e
      split
      · rename_i e3; subst e3; exact fresh hi (h.ap i j hi hj hij)
      · exact h.ap i j hi hj hij
  · refine Below.setCell (p := ⟨F, v, none⟩) ?_ hwF v'
    exact h.b.grown hg h.b.size fun k e => by have := own_base (h.rows v hv) k e; omega
/-- What such a round keeps. -/
theorem LD.kp {w : World} {n x3 F N A i : Nat} {fr : Nat → List Nat} {vs : List Value} {W W' : World} {v u : Nat} {v' : Value} (h : LD w n x3 F N fr vs W) (hv : v < n) (hFA : F < A) (hAN : A ≤ N) (hNi : N ≤ i)
    (hn : On N (fr v ++ [u]) v' W') (hg : W.grownBy W' (vs.getD v undef).ownBlock) (ho : v'.ownBlock = (vs.getD v undef).ownBlock ∨ v'.ownBlock = some (W.heap.size + 1)) :
    KpF A N F i W (W'.setCell ⟨F, v, none⟩ v') := by
  have hl := h.len
  have hne := row_ne h.f (h.rows v hv)
  have hf' : W'.heap[F]? = some (.cells vs.toArray 38 (0, 0)) := (hg.block F (Array.getElem?_eq_some_iff.1 h.f).1 (Ne.symm hne)).trans h.f
  have hvl : v < vs.length := by omega
  have hmem : ∀ k, (vs.getD v undef).ownBlock = some k → dS F W k := fun k e => ⟨_, _, _, h.f, vs.getD v undef, List.mem_of_getElem? (vs_at hvl), e⟩
  have hs : (W'.setCell ⟨F, v, none⟩ v').heap.size = W'.heap.size := by simp
  refine ⟨by rw [hs]; exact hg.size, fun k o hk hko => ?_, fun k o hk hd hko => ?_, fun k hd => ?_⟩
  · have hk1 := hk.1
    refine (heap_setCell_other W' ⟨F, v, none⟩ k v' (show k ≠ F by omega)).trans ((hg.block k (Array.getElem?_eq_some_iff.1 hko).1 fun e => ?_).trans hko)
    have := own_base (h.rows v hv) k e.symm
    omega
  · refine (heap_setCell_other W' ⟨F, v, none⟩ k v' (show k ≠ F by omega)).trans ((hg.block k (Array.getElem?_eq_some_iff.1 hko).1 fun e => ?_).trans hko)
    exact hd (hmem k e.symm)
  · obtain ⟨cs, T, fz, h1, q, hq, e⟩ := hd
    have := heap_setCell_same W' F v vs.toArray 38 v' hf'
    rw [List.setIfInBounds_toArray, h1] at this
    injection this with this
    injection this with this
    subst this
    rw [List.toList_toArray] at hq
    rcases List.mem_or_eq_of_mem_set hq with hq | rfl
    · exact .inl ⟨_, _, _, h.f, q, hq, e⟩
    · rcases ho with ho | ho
      · exact .inl (hmem k (by rw [← ho, e]))
      · rw [ho] at e
        cases e
        rw [hs]
        exact .inr ⟨by omega, (hn.lt _ ho).2⟩
theorem LD.others {w : World} {n x3 F N : Nat} {fr : Nat → List Nat} {vs : List Value} {W W' : World} {v : Nat} {v' : Value} (h : LD w n x3 F N fr vs W) (hv : v < n) (hg : W.grownBy W' (vs.getD v undef).ownBlock) : KeepsOthers W (W'.setCell ⟨F, v, none⟩ v') := by
  refine (KeepsOthers.of_grownBy hg fun j o ej hj => ?_).trans (KeepsOthers.setCell _ _ _)
  rcases (h.rows v hv).2 with ⟨e, _⟩ | ⟨g, cap, cur, e, _, hgb, _⟩
  · rw [e] at ej; cases ej
  · rw [e] at ej
    cases ej
    rw [hgb] at hj; cases hj; rfl

theorem LD.drew {w : World} {n x3 F N : Nat} {fr : Nat → List Nat} {vs : List Value} {W : World} (h : LD w n x3 F N fr vs W) : LD w n x3 F N fr vs W.drew := ⟨h.b3, h.f, h.len, h.rows, h.ap, Below.drew h.b, h.sz⟩
theorem KpF.undrew {A B F i : Nat} {W W' : World} (h : KpF A B F i W.drew W') : KpF A B F i W W' := ⟨h.size, h.made, h.high, h.grow⟩
theorem KeepsOthers.undrew {W W' : World} (h : KeepsOthers W.drew W') : KeepsOthers W W' := ⟨h.size, h.same⟩
def mkR (n : Nat) : Array Value := madeCells #[.slice none 0 0] n
theorem Tryd.infoR : (Tryd.prog.info? 38).map (fun i => (i.zero, i.size, i.bytes)) = some (some (.slice none 0 0), 1, 24) := by kernel_rfl
theorem run_mkR (W : World) (n : Nat) (hn : n ≤ 1000000) : (Instr.makeSlice 50 (.int .i64 (n : Int)) (.int .i64 (n : Int))).run Tryd.prog W = .ok (.slice (some ⟨W.heap.size, 0, none⟩) n n) (W.alloc (.cells (mkR n) 38)) := by
  obtain ⟨i0, hi, hz0, hz1, hz2⟩ := info_parts Tryd.infoR
  have := run_make (P := Tryd.prog) W 50 38 i0 (.slice none 0 0) Tryd.underlying50 hi hz0 .i64 .i64 n n (by omega) (Int.le_refl _) (by rw [hz2]; omega) (by omega)
  rw [hz1, Int.toNat_natCast, Nat.mul_one] at this
  exact this
theorem mkR_eq (n : Nat) : mkR n = (List.replicate n (.slice none 0 0)).toArray := by
  have : (mkR n).toList = List.replicate n (.slice none 0 0) := toList_madeCells_one _ _
  rw [← this]
theorem LD.start {w W : World} {n x3 F N : Nat} (b3 : Boxed W x3 50 (.slice (some ⟨F, 0, none⟩) n n)) (f : W.heap[F]? = some (.cells (mkR n) 38 (0, 0))) (b : Below w.heap.size w W) (sz : N ≤ W.heap.size) : LD w n x3 F N (frE []) (List.replicate n (.slice none 0 0)) W := by
  have hr : ∀ j, j < n → (List.replicate n (Value.slice none 0 0)).getD j undef = .slice none 0 0 := fun j hj => by rw [List.getD_eq_getElem?_getD, List.getElem?_replicate, if_pos hj]; rfl
  refine ⟨b3, by rw [← mkR_eq]; exact f, by simp, fun j hj => ?_, fun i j hi hj _ => ?_, b, sz⟩
  · rw [hr j hj, frE_nil]; exact on_nil _ _
  · rw [hr i hi]; exact .inl rfl
theorem LD.dok {w : World} {n x3 F N : Nat} {fr : Nat → List Nat} {vs : List Value} {W : World} (h : LD w n x3 F N fr vs W) : DOk F W := fun k hd => by
  obtain ⟨cs, T, fz, h1, q, hq, e⟩ := hd
  rw [h.f] at h1
  injection h1 with h1
  injection h1 with h1
  subst h1
  rw [List.toList_toArray] at hq
  obtain ⟨j, hj, rfl⟩ := List.getElem_of_mem hq
  have := h.rows j (by rw [← h.len]; exact hj)
  rw [List.getD_eq_getElem?_getD, List.getElem?_eq_getElem hj] at this
  exact (this.lt k e).2
end Go.Proofs.YtgiokognngllcaaDoor
