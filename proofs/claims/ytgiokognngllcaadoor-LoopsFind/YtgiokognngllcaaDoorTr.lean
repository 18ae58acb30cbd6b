/- Edges told to a body that appends to rows which several blocks hold: what such a body keeps. -/
import Derived.Test.YtgiokognngllcaaDoorGgak
namespace Go.Proofs.YtgiokognngllcaaDoor
open Go.RowKit Go.Shelf
attribute [local go_sem] Oper.semAt_some

/-- The blocks of the rows that the cells of some blocks hold. -/
def dG (Fs : List Nat) (W : World) (k : Nat) : Prop := ∃ F ∈ Fs, dS F W k
theorem dG.same {Fs : List Nat} {k : Nat} {W W' : World} (h : dG Fs W' k) (hb : ∀ F ∈ Fs, W'.heap[F]? = W.heap[F]?) : dG Fs W k := by
  obtain ⟨F, hF, h⟩ := h
  exact ⟨F, hF, h.same (hb F hF)⟩
structure KpG (A B : Nat) (Fs : List Nat) (i : Nat) (W W' : World) : Prop where
  size : W.heap.size ≤ W'.heap.size
  made : ∀ (k : Nat) (o : Obj), (A ≤ k ∧ k < B) → W.heap[k]? = some o → W'.heap[k]? = some o
  high : ∀ (k : Nat) (o : Obj), i ≤ k → ¬ dG Fs W k → W.heap[k]? = some o → W'.heap[k]? = some o
  grow : ∀ k, dG Fs W' k → dG Fs W k ∨ (W.heap.size ≤ k ∧ k < W'.heap.size)
def DOkG (Fs : List Nat) (W : World) : Prop := ∀ k, dG Fs W k → k < W.heap.size
/-- A row that none of them is. -/
def FreshG (Fs : List Nat) (v : Value) (W : World) : Prop := ∀ k, v.ownBlock = some k → ¬ dG Fs W k
theorem KpG.trans {A B : Nat} {Fs : List Nat} {i : Nat} {X Y Z : World} (h : KpG A B Fs i X Y) (k : KpG A B Fs i Y Z) : KpG A B Fs i X Z := by
  refine ⟨Nat.le_trans h.size k.size, fun j o hj h1 => k.made j o hj (h.made j o hj h1), fun j o hj hd h1 => k.high j o hj (fun hy => ?_) (h.high j o hj hd h1), fun j hj => ?_⟩
  · have hl := (Array.getElem?_eq_some_iff.1 h1).1
    rcases h.grow j hy with h2 | h2
    · exact hd h2
    · omega
  · have := h.size
    have := k.size
    rcases k.grow j hj with h2 | h2
    · rcases h.grow j h2 with h3 | h3
      · exact .inl h3
      · exact .inr ⟨h3.1, by omega⟩
    · exact .inr ⟨by omega, h2.2⟩
theorem KpG.refl (A B : Nat) (Fs : List Nat) (i : Nat) (W : World) : KpG A B Fs i W W := ⟨Nat.le_refl _, fun _ _ _ h => h, fun _ _ _ _ h => h, fun _ h => .inl h⟩
theorem KpG.put {A B : Nat} {Fs : List Nat} {i l : Nat} (hB : B ≤ l) (hl : l < i) (hF : ∀ F ∈ Fs, F ≠ l) (W : World) (o' : Obj) : KpG A B Fs i W (W.putObj l o') :=
  ⟨by simp, fun k o hk h => (World.putObj_heap_other (by omega)).trans h, fun k o hk _ h => (World.putObj_heap_other (by omega)).trans h, fun k h => .inl (h.same fun F hf => World.putObj_heap_other (hF F hf))⟩
theorem KpG.below {A B : Nat} {Fs : List Nat} {i : Nat} {W W' : World} (hF : ∀ F ∈ Fs, F < W.heap.size) (h : Below W.heap.size W W') : KpG A B Fs i W W' :=
  ⟨h.size, fun _ _ _ hk => blk_stay hk h, fun _ _ _ _ hk => blk_stay hk h, fun _ hd => .inl (hd.same fun F hf => h.block _ (hF F hf))⟩
theorem KpG.low {A B : Nat} {Fs : List Nat} {i : Nat} {W W' : World} (h : KpG A B Fs i W W') : KpE A B W'.heap.size W W' :=
  ⟨h.size, fun k o hk h1 => by
    rcases hk with hk | hk
    · exact h.made k o hk h1
    · have := (Array.getElem?_eq_some_iff.1 h1).1
      have := h.size
      omega⟩
theorem DOkG.below {Fs : List Nat} {W W' : World} (h : DOkG Fs W) (hF : ∀ F ∈ Fs, F < W.heap.size) (hb : Below W.heap.size W W') : DOkG Fs W' := fun k hk => Nat.lt_of_lt_of_le (h k (hk.same fun F hf => hb.block _ (hF F hf))) hb.size
theorem DOkG.keep {A B : Nat} {Fs : List Nat} {i : Nat} {W W' : World} (h : DOkG Fs W) (hk : KpG A B Fs i W W') : DOkG Fs W' := fun k hd => by
  have := hk.size
  rcases hk.grow k hd with h1 | h1
  · have := h k h1; omega
  · exact h1.2
theorem fresh_rowG {Fs : List Nat} {n sz : Nat} {T : TypeId} {v : Value} {xs : List Value} {W W' : World} (h : DOkG Fs W) (hF : ∀ F ∈ Fs, F < W.heap.size) (hb : Below W.heap.size W W') (ho : W'.ownsRow W.heap.size T sz v n xs) : FreshG Fs v W' := fun k e hd => by
  have h1 := h k (hd.same fun F hf => hb.block _ (hF F hf))
  have h2 := own_base ho k e
  omega
theorem FreshG.keep {A B : Nat} {Fs : List Nat} {i N n sz : Nat} {T : TypeId} {v : Value} {xs : List Value} {W W' : World} (h : FreshG Fs v W) (ho : W.ownsRow N T sz v n xs) (hk : KpG A B Fs i W W') : FreshG Fs v W' := fun k e hd => by
  rcases hk.grow k hd with h1 | h1
  · exact h k e h1
  · have := (ho.lt k e).2
    omega
theorem own_highG {A B : Nat} {Fs : List Nat} {i N n sz : Nat} {T : TypeId} {v : Value} {xs : List Value} {W W' : World} (h : W.ownsRow N T sz v n xs) (hN : i ≤ N) (hf : FreshG Fs v W) (hk : KpG A B Fs i W W') : W'.ownsRow N T sz v n xs := by
  refine ⟨h.1, ?_⟩
  rcases h.2 with h0 | ⟨g, cap, cur, rfl, h1, h2, h3⟩
  · exact .inl h0
  · exact .inr ⟨g, cap, cur, rfl, h1, hk.high g _ (by omega) (hf g rfl) h2, h3⟩
set_option maxRecDepth 100000 in
set_option maxHeartbeats 4000000 in
theorem edges1_g (lq A B : Nat) (Fs : List Nat) (B1 B2 : Nat) (rs : List Bool) (l : List Is) (ra : Option Addr) (rc : Nat) (ca : Option Addr) (cc : Nat) (hrl : rs.length ≤ 1024) (J Jx : List (Nat × Nat) → World → Prop) (W : World) (hJ : OwnFrom W.heap.size J)
    (hY : ∀ pre x W1, J pre W1 → (pre ++ [x]) <+: edg l rs → YieldAt Fence.wide 0 Tryd.prog lq (encE x) W1 fun e W' =>
      KpG A B Fs W.heap.size W1 W' ∧ ((e = .returned (.bool true) ∧ J (pre ++ [x]) W') ∨ (e = .returned (.bool false) ∧ Jx (pre ++ [x]) W')))
    (hE : EdAt A B B1 B2 rs l ra rc ca cc W) (hF : ∀ F ∈ Fs, F < W.heap.size) (hD : DOkG Fs W) (h0 : J [] W) :
    CallsIn Fence.wide 1 Tryd.prog 53 #[.func (.yield lq) #[] #[], .pointer (some ⟨B1, 0, none⟩), .pointer (some ⟨B2, 0, none⟩)] W fun e W' => (∃ v, e = .returned v) ∧
      (J (edg l rs) W' ∨ ∃ pre, pre <+: edg l rs ∧ Jx pre W') := by
  have HN : Hid (∀ (u : Nat) w', Iss w' ca l → Calls Tryd.prog 54 #[.agg #[.string ⟨#[]⟩, .slice none 0 0, .int .i64 0, .int .i64 0, .slice ca rs.length cc], .int .i64 (u : Int)] w' (NxP (nxt l u) w')) := fun u w' hi => by
    have := next_any ⟨⟨#[]⟩, none, 0, [], 0, 0, ca, cc, l⟩ u w' hi
    rw [nxZ_nat] at this
    unfold Fn.val at this
    simp only [hE.n] at this
    exact this
  have HJ := Hid.mk' hJ
  have HY := Hid.mk' hY
  have HE := Hid.mk' hE
  have HF := Hid.mk' hF
  have HD0 := Hid.mk' hD
  have c0 := cell_of_obj hE.b1 (j := 0) (v := .slice ra rs.length rc) rfl
  have HSS : Hid (W.heap.size ≤ W.heap.size) := Nat.le_refl _
  clear hJ hY hE hF hD
  refine callsIn_of_wp Tryd.func53 rfl trivial ?_ rfl
  simp only [Tryd.ntmps53, List.size_toArray, List.length_cons, List.length_nil, Nat.reduceAdd, Nat.reduceSub, Array.replicate_succ, Array.replicate_zero, List.push_toArray, List.append_toArray, List.nil_append, List.cons_append]
  gi_wp2_with fail
  clear c0
  gi_loopw [10] (fun t wr => ∃ (u : Nat), t = .int .i64 u ∧ u ≤ rs.length ∧ W.heap.size ≤ wr.heap.size ∧ DOkG Fs wr ∧ EdAt A B B1 B2 rs l ra rc ca cc wr ∧ J (edU l rs u) wr) (fun t _ => rs.length - (intOf t).toNat)
  case atStart => exact ⟨0, rfl, Nat.zero_le _, HSS.out, HD0.out, HE.out, h0⟩
  case round =>
    obtain ⟨u, rfl, hu, hsz, hdo, hed, hJs⟩ := hrel
    have HDO := Hid.mk' hdo
    clear hdo HD0
    clear HE
    have HE := Hid.mk' hed
    have HSZ := Hid.mk' hsz
    have HJS := Hid.mk' hJs
    clear hed hsz hJs
    by_cases hlt : u < rs.length
    · obtain ⟨bu, hbu⟩ : ∃ b, rs[u]? = some b := ⟨_, List.getElem?_eq_getElem hlt⟩
      obtain ⟨gr, rfl, d0, k1, k2⟩ := ob_at HE.out.r hbu
      clear k1 k2
      have hlti : (u : Int) < (rs.length : Int) := by omega
      have HBU := Hid.mk' hbu
      clear hbu
      cases bu
      · have HES : Hid (edU l rs (u + 1) = edU l rs u) := (by rw [edU_succ, edB_no HBU.out, List.append_nil] : _ = _)
        gi_wp2_with fail
        go_roundw
        case rel => exact ⟨u + 1, by go_num, by omega, HSZ.out, HDO.out, HE.out, by rw [HES.out]; exact HJS.out⟩
        case measure => simp [intOf]; omega
      · have z0 := cell_of_obj HE.out.b2 (j := 0) (v := .string ⟨#[]⟩) rfl
        have z1 := cell_of_obj HE.out.b2 (j := 1) (v := .slice none 0 0) rfl
        have z2 := cell_of_obj HE.out.b2 (j := 2) (v := .int .i64 0) rfl
        have z3 := cell_of_obj HE.out.b2 (j := 3) (v := .int .i64 0) rfl
        have z4 := cell_of_obj HE.out.b2 (j := 4) (v := .slice ca rs.length cc) rfl
        have HIS := Hid.mk' (row_iss HE.out.c (by rw [HE.out.n]; omega))
        gi_wp2_with fail
        refine ⟨trivial, ?_⟩
        refine (callsIn_wide.2 (HN.out u _ HIS.out)).mono ?_
        rintro e W2 ⟨v2, rfl, on2, bb2⟩
        obtain ⟨a2, c2, rfl⟩ := gown_form on2
        have HE2 := Hid.mk' (HE.out.keep (i := 0) (kpE_below bb2))
        have HS2 : Hid (W.heap.size ≤ W2.heap.size) := Nat.le_trans HSZ.out bb2.size
        have HJ2 := Hid.mk' (HJ.out _ _ _ none HJS.out (below_grown bb2) (fun r e => by cases e))
        have HO2 := Hid.mk' (own_mono on2 HSZ.out)
        have HFW : Hid (∀ F ∈ Fs, F < _) := fun F hf => Nat.lt_of_lt_of_le (HF.out F hf) HSZ.out
        have HD2 := Hid.mk' (HDO.out.below HFW.out bb2)
        have HF2 := Hid.mk' (fresh_rowG HDO.out HFW.out bb2 on2)
        have hn2 := nxt_len l u
        clear z0 z1 z2 z3 z4 on2 bb2 d0 HIS HE HJS HDO
        gi_wp2_with fail
        gi_loopw [21] (fun t wr => ∃ (k : Nat), t = .int .i64 k ∧ k ≤ (nxt l u).length ∧ W.heap.size ≤ wr.heap.size ∧ DOkG Fs wr ∧ FreshG Fs (.slice a2 (nxt l u).length c2) wr ∧ EdAt A B B1 B2 rs l (some ⟨gr, 0, none⟩) rc ca cc wr ∧ On W.heap.size (nxt l u) (.slice a2 (nxt l u).length c2) wr ∧ J (edU l rs u ++ ((nxt l u).take k).map fun v => (u, v)) wr) (fun t _ => (nxt l u).length - (intOf t).toNat)
        case atStart => exact ⟨0, rfl, Nat.zero_le _, HS2.out, HD2.out, HF2.out, HE2.out, HO2.out, by simpa using HJ2.out⟩
        case round =>
          obtain ⟨k, rfl, hk, hsz, hdo, hfr, hed, hon, hJs⟩ := hrel
          clear HE2 HS2 HJ2 HO2 HD2 HF2 HFW
          have HDO := Hid.mk' hdo
          have HFR := Hid.mk' hfr
          clear hdo hfr
          have HE := Hid.mk' hed
          have HSZ2 := Hid.mk' hsz
          have HJS := Hid.mk' hJs
          have HON := Hid.mk' hon
          clear hed hsz hJs hon
          by_cases hkl : k < (nxt l u).length
          · obtain ⟨x, hx⟩ : ∃ x, (nxt l u)[k]? = some x := ⟨_, List.getElem?_eq_getElem hkl⟩
            obtain ⟨gn, rfl, d0, k1, k2⟩ := on_at HON.out hx
            clear k1 k2
            obtain ⟨hp1, hp2⟩ := ed_part HBU.out hx
            have HP1 := Hid.mk' hp1
            have HP2 := Hid.mk' hp2
            have hkli : (k : Int) < ((nxt l u).length : Int) := by omega
            obtain ⟨fn, tmps, assign, body, hy, hR⟩ := HY.out _ (u, x) _ HJS.out hp1
            clear hx hp1 hp2
            gi_wp2_with fail
            refine hR.mono ?_
            rintro e W3 ⟨hk3, ⟨rfl, hJ3⟩ | ⟨rfl, hJx3⟩⟩
            · have HE3 := Hid.mk' (HE.out.keep hk3.low)
              have HO3 := Hid.mk' (own_highG HON.out (Nat.le_refl _) HFR.out hk3)
              have HD3 := Hid.mk' (HDO.out.keep hk3)
              have HF3 := Hid.mk' (HFR.out.keep HON.out hk3)
              have HS3 : Hid (W.heap.size ≤ W3.heap.size) := Nat.le_trans HSZ2.out hk3.1
              rw [HP2.out] at hJ3
              have HJ3 := Hid.mk' hJ3
              clear hk3 hR hy hJ3
              gi_wp2_with fail
              go_roundw
              case rel => exact ⟨k + 1, by go_num, hkl, HS3.out, HD3.out, HF3.out, HE3.out, HO3.out, HJ3.out⟩
              case measure => simp [intOf]; omega
            · gi_wp2_with fail
              exact bodyPost_ret (results_none rfl _ _ _) rfl ⟨⟨_, rfl⟩, .inr ⟨_, HP1.out, hJx3⟩⟩
          · have HA := Hid.mk' (ed_all HBU.out hkl)
            gi_wp2_with fail
            go_roundw
            case rel => exact ⟨u + 1, by go_num, by omega, HSZ2.out, HDO.out, HE.out, by rw [← HA.out]; exact HJS.out⟩
            case measure => simp [intOf]; omega
    · have hue : u = rs.length := by omega
      subst hue
      gi_wp2_with fail
      go_end0
      exact ⟨⟨_, rfl⟩, .inl HJS.out⟩
theorem edges_g (A B : Nat) (Fs : List Nat) (B1 B2 : Nat) (rs : List Bool) (l : List Is) (ra : Option Addr) (rc : Nat) (ca : Option Addr) (cc : Nat) (hrl : rs.length ≤ 1024) (w : World) (hE : EdAt A B B1 B2 rs l ra rc ca cc w) (hF : ∀ F ∈ Fs, F < w.heap.size) (hD : DOkG Fs w) : SeqO 53 #[.pointer (some ⟨B1, 0, none⟩), .pointer (some ⟨B2, 0, none⟩)] encE (KpG A B Fs) (edg l rs) w :=
  fun lq J Jx W hW hJ _ hY h0 => calls_any (edges1_g lq A B Fs B1 B2 rs l ra rc ca cc hrl J Jx W hJ hY (hE.keep (i := W.heap.size) (kpE_below hW)) (fun F hf => Nat.lt_of_lt_of_le (hF F hf) hW.size) (hD.below hF hW) h0)
def EdPG (Fs : List Nat) (l : List Is) (w : World) (e : Ending) (w' : World) : Prop := ∃ B1 B2 rs, e = .returned (.func (.func 53) #[] #[.pointer (some ⟨B1, 0, none⟩), .pointer (some ⟨B2, 0, none⟩)]) ∧ IsR l rs ∧ SeqO 53 #[.pointer (some ⟨B1, 0, none⟩), .pointer (some ⟨B2, 0, none⟩)] encE (KpG w.heap.size w'.heap.size Fs) (edg l rs) w' ∧ Below w.heap.size w w'
set_option maxRecDepth 100000 in
set_option maxHeartbeats 4000000 in
theorem edges_anyG (f : Fn) (Fs : List Nat) (w : World) (hi : Iss w f.ca f.code) (hc : f.code.length ≤ f.cc) (hF : ∀ F ∈ Fs, F < w.heap.size) (hD : DOkG Fs w) : Calls Tryd.prog 36 #[f.val] w (EdPG Fs f.code w) := by
  have HF := Hid.mk' hF
  have HD := Hid.mk' hD
  clear hF hD
  have HR : Hid (∀ w', Below w.heap.size w w' → Calls Tryd.prog 51 #[f.val] w' (ReP f.code w')) := fun w' hb => reach_any f w' (hi.stay hb)
  obtain ⟨fn, fpa, fpc, fps, frg, fwd, fca, fcc, fl⟩ := f
  unfold Fn.val at *
  simp only at hi HR hc ⊢
  have HB := Hid.mk' (Below.one (Below.refl _ w) (.cells #[.string fn, .slice fpa fps.length fpc, .int .i64 frg, .int .i64 fwd, .slice fca fl.length fcc] 25))
  have HX := Hid.mk' (heap_alloc_new w (.cells #[.string fn, .slice fpa fps.length fpc, .int .i64 frg, .int .i64 fwd, .slice fca fl.length fcc] 25))
  have HI := Hid.mk' hi
  have HC := Hid.mk' hc
  clear hi hc
  go_enter Tryd.func36, Tryd.ntmps36
  go_wp2_with fail
  refine (HR.out _ HB.out).mono ?_
  rintro e W1 ⟨v1, rs, rfl, hir, ho, bb1⟩
  obtain ⟨ra, rc, rfl⟩ := gown_form ho
  have hbw := Below.on HB.out bb1
  have hrs := hir.len
  obtain ⟨a', hsl, hrow⟩ := slice_code (W1.alloc (.cells #[.slice ra rs.length rc] 45)) fca fl fcc rs.length ((HI.out.stay (Below.one hbw (.cells #[.slice ra rs.length rc] 45))).2) hir.le HC.out
  have hx1 := blk_stay HX.out (Below.one bb1 (.cells #[.slice ra rs.length rc] 45))
  have z4 := cell_of_obj hx1 (j := 4) (v := .slice fca fl.length fcc) rfl
  have hx2 := heap_alloc_new W1 (.cells #[.slice ra rs.length rc] 45)
  have z5 := cell_of_obj hx2 (j := 0) (v := .slice ra rs.length rc) rfl
  have hle := hir.le
  have HCL := Hid.mk' (clone_any (fl.take rs.length) a' fcc _ hrow (by rw [List.length_take]; omega))
  have hlt : (fl.take rs.length).length = rs.length := by rw [List.length_take]; omega
  rw [hlt] at HCL
  have HLT := Hid.mk' hlt
  have HIR := Hid.mk' hir
  have HO := Hid.mk' ho
  have HB1 := Hid.mk' hbw
  have HX2 := Hid.mk' hx2
  clear hir ho hbw hrow hx1 hx2 hlt hle bb1 HR HI HX
  go_wp2_with fail
  refine HCL.out.mono ?_
  rintro e W2 ⟨v2, rfl, ow2, bb2⟩
  obtain ⟨ca, cc, rfl⟩ := gown_form ow2
  have hs1 := bb2.size
  rw [World.size_alloc] at hs1
  have hs0 := HB1.out.size
  have HE : Hid (EdAt w.heap.size (W2.heap.size + 1) W1.heap.size W2.heap.size rs (fl.take rs.length) ra rc ca cc (W2.alloc (.cells #[.string ⟨#[]⟩, .slice none 0 0, .int .i64 0, .int .i64 0, .slice ca rs.length cc] 25))) := by
    have bo := Below.one (Below.refl _ W2) (.cells #[.string ⟨#[]⟩, .slice none 0 0, .int .i64 0, .int .i64 0, .slice ca rs.length cc] 25)
    have bo2 := Below.one bb2 (.cells #[.string ⟨#[]⟩, .slice none 0 0, .int .i64 0, .int .i64 0, .slice ca rs.length cc] 25)
    refine ⟨⟨by omega, by omega⟩, ⟨by omega, by omega⟩, blk_stay HX2.out bo2, heap_alloc_new _ _, ?_, fun k e => ?_, ?_, fun k e => ?_, HLT.out⟩
    · have h1 := own_stay (own_mono HO.out (by simp : w.heap.size ≤ _)) (Below.one (Below.refl _ W1) (.cells #[.slice ra rs.length rc] 45))
      exact own_stay h1 bo2
    · have := (HO.out.lt k e).2; omega
    · exact own_stay (own_mono ow2 (by rw [World.size_alloc]; omega)) bo
    · have := (ow2.lt k e).2; omega
  clear ow2 z4 z5 HCL HX2
  go_wp2_with fail
  go_ret
  refine ⟨_, _, rs, rfl, HIR.out, ?_, Below.one (Below.on (Below.one HB1.out _) bb2) _⟩
  rw [← edg_take HIR.out]
  have := edges_g w.heap.size (W2.heap.size + 1) Fs W1.heap.size W2.heap.size rs (fl.take rs.length) ra rc ca cc hrs _ HE.out (fun F hf => by rw [World.size_alloc]; have := HF.out F hf; omega) (HD.out.below HF.out (Below.one (Below.on (Below.one HB1.out _) bb2) _))
  rw [World.size_alloc]
  exact this
end Go.Proofs.YtgiokognngllcaaDoor
