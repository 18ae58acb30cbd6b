/- The function that flow.Edges hands back: all edges, in their order. -/
import Derived.Test.YtoabnkidfapniaaNk
namespace Go.Proofs.Ytoabnkidfapniaa
open Go.RowKit Go.Shelf
attribute [local go_sem] Oper.semAt_some

theorem ed_part {l : List Is} {rs : List Bool} {u k x : Nat} (hu : rs[u]? = some true) (hx : (nxt l u)[k]? = some x) : (edU l rs u ++ ((nxt l u).take k).map fun v => (u, v)) ++ [(u, x)] <+: edg l rs ∧
    (edU l rs u ++ ((nxt l u).take k).map fun v => (u, v)) ++ [(u, x)] = edU l rs u ++ ((nxt l u).take (k + 1)).map fun v => (u, v) := by
  obtain ⟨hk, e⟩ := List.getElem?_eq_some_iff.1 hx
  have e2 : (edU l rs u ++ ((nxt l u).take k).map fun v => (u, v)) ++ [(u, x)] = edU l rs u ++ ((nxt l u).take (k + 1)).map fun v => (u, v) := by
    rw [List.take_succ_eq_append_getElem hk, e, List.map_append, List.append_assoc]; rfl
  refine ⟨?_, e2⟩
  rw [e2]
  refine List.IsPrefix.trans ?_ (edU_pre l rs (n := rs.length) (u := u + 1) (List.getElem?_eq_some_iff.1 hu).1)
  rw [edU_succ, edB_yes hu]
  exact (List.prefix_append_right_inj _).2 (List.IsPrefix.map _ (List.take_prefix _ _))
theorem ed_all {l : List Is} {rs : List Bool} {u k : Nat} (hu : rs[u]? = some true) (hk : ¬ k < (nxt l u).length) : (edU l rs u ++ ((nxt l u).take k).map fun v => (u, v)) = edU l rs (u + 1) := by
  rw [edU_succ, edB_yes hu, List.take_of_length_le (by omega)]
theorem row_iss {W : World} {N n c : Nat} {a : Option Addr} {l : List Is} (h : W.ownsRow N 50 5 (.slice a n c) n (l.flatMap Is.cells)) (hl : l.length ≤ 1000000) : Iss W a l := ⟨by omega, own_row h (fun _ => rfl) (by omega)⟩
set_option maxRecDepth 100000 in
set_option maxHeartbeats 4000000 in
theorem edges1_o (lq A B B1 B2 : Nat) (rs : List Bool) (l : List Is) (ra : Option Addr) (rc : Nat) (ca : Option Addr) (cc : Nat) (hrl : rs.length ≤ 1024) (J Jx : List (Nat × Nat) → World → Prop) (W : World) (hJ : OwnFrom W.heap.size J)
    (hY : ∀ pre x W1, J pre W1 → (pre ++ [x]) <+: edg l rs → YieldAt Fence.wide 0 Try.prog lq (encE x) W1 fun e W' =>
      KpE A B W.heap.size W1 W' ∧ ((e = .returned (.bool true) ∧ J (pre ++ [x]) W') ∨ (e = .returned (.bool false) ∧ Jx (pre ++ [x]) W')))
    (hE : EdAt A B B1 B2 rs l ra rc ca cc W) (h0 : J [] W) :
    CallsIn Fence.wide 1 Try.prog 30 #[.func (.yield lq) #[] #[], .pointer (some ⟨B1, 0, none⟩), .pointer (some ⟨B2, 0, none⟩)] W fun e W' => (∃ v, e = .returned v) ∧
      (J (edg l rs) W' ∨ ∃ pre, pre <+: edg l rs ∧ Jx pre W') := by
  have HN : Hid (∀ (u : Nat) w', Iss w' ca l → Calls Try.prog 9 #[.agg #[.string ⟨#[]⟩, .slice none 0 0, .int .i64 0, .int .i64 0, .slice ca rs.length cc], .int .i64 (u : Int)] w' (NxP (nxt l u) w')) := fun u w' hi => by
    have := next_any ⟨⟨#[]⟩, none, 0, [], 0, 0, ca, cc, l⟩ u w' hi
    rw [nxZ_nat] at this
    unfold Fn.val at this
    simp only [hE.n] at this
    exact this
  have HJ := Hid.mk' hJ
  have HY := Hid.mk' hY
  have HE := Hid.mk' hE
  have c0 := cell_of_obj hE.b1 (j := 0) (v := .slice ra rs.length rc) rfl
  have HSS : Hid (W.heap.size ≤ W.heap.size) := Nat.le_refl _
  clear hJ hY hE
  refine callsIn_of_wp Try.func30 rfl trivial ?_ rfl
  simp only [Try.ntmps30, List.size_toArray, List.length_cons, List.length_nil, Nat.reduceAdd, Nat.reduceSub, Array.replicate_succ, Array.replicate_zero, List.push_toArray, List.append_toArray, List.nil_append, List.cons_append]
  gi_wp2_with fail
  clear c0
  gi_loopw [10] (fun t wr => ∃ (u : Nat), t = .int .i64 u ∧ u ≤ rs.length ∧ W.heap.size ≤ wr.heap.size ∧ EdAt A B B1 B2 rs l ra rc ca cc wr ∧ J (edU l rs u) wr) (fun t _ => rs.length - (intOf t).toNat)
  case atStart => exact ⟨0, rfl, Nat.zero_le _, HSS.out, HE.out, h0⟩
  case round =>
    obtain ⟨u, rfl, hu, hsz, hed, hJs⟩ := hrel
    clear HE
    have HE := Hid.mk' hed
    have HSZ := Hid.mk' hsz
    have HJS := Hid.mk' hJs
    clear hed hsz hJs
    by_cases hlt : u < rs.length
    · obtain ⟨bu, hbu⟩ : ∃ b, rs[u]? = some b := ⟨_, List.getElem?_eq_getElem hlt⟩
      obtain ⟨gr, rfl, d0, k1, k2⟩ := ob_at HE.out.r hbu
      clear k1 k2
      have hlti : (u : Int) < (rs.length : Int) := by omega
      have HBU := Hid.mk' hbu
      clear hbu
      cases bu
      · have HES : Hid (edU l rs (u + 1) = edU l rs u) := (by rw [edU_succ, edB_no HBU.out, List.append_nil] : _ = _)
        gi_wp2_with fail
        go_roundw
        case rel => exact ⟨u + 1, by go_num, by omega, HSZ.out, HE.out, by rw [HES.out]; exact HJS.out⟩
        case measure => simp [intOf]; omega
      · have z0 := cell_of_obj HE.out.b2 (j := 0) (v := .string ⟨#[]⟩) rfl
        have z1 := cell_of_obj HE.out.b2 (j := 1) (v := .slice none 0 0) rfl
        have z2 := cell_of_obj HE.out.b2 (j := 2) (v := .int .i64 0) rfl
        have z3 := cell_of_obj HE.out.b2 (j := 3) (v := .int .i64 0) rfl
        have z4 := cell_of_obj HE.out.b2 (j := 4) (v := .slice ca rs.length cc) rfl
        have HIS := Hid.mk' (row_iss HE.out.c (by rw [HE.out.n]; omega))
        gi_wp2_with fail
        refine ⟨trivial, ?_⟩
        refine (callsIn_wide.2 (HN.out u _ HIS.out)).mono ?_
        rintro e W2 ⟨v2, rfl, on2, bb2⟩
        obtain ⟨a2, c2, rfl⟩ := gown_form on2
        have HE2 := Hid.mk' (HE.out.keep (i := 0) (kpE_below bb2))
        have HS2 : Hid (W.heap.size ≤ W2.heap.size) := Nat.le_trans HSZ.out bb2.size
        have HJ2 := Hid.mk' (HJ.out _ _ _ none HJS.out (below_grown bb2) (fun r e => by cases e))
        have HO2 := Hid.mk' (own_mono on2 HSZ.out)
        have hn2 := nxt_len l u
        clear z0 z1 z2 z3 z4 on2 bb2 d0 HIS HE HJS
        gi_wp2_with fail
        gi_loopw [21] (fun t wr => ∃ (k : Nat), t = .int .i64 k ∧ k ≤ (nxt l u).length ∧ W.heap.size ≤ wr.heap.size ∧ EdAt A B B1 B2 rs l (some ⟨gr, 0, none⟩) rc ca cc wr ∧ On W.heap.size (nxt l u) (.slice a2 (nxt l u).length c2) wr ∧ J (edU l rs u ++ ((nxt l u).take k).map fun v => (u, v)) wr) (fun t _ => (nxt l u).length - (intOf t).toNat)
        case atStart => exact ⟨0, rfl, Nat.zero_le _, HS2.out, HE2.out, HO2.out, by simpa using HJ2.out⟩
        case round =>
          obtain ⟨k, rfl, hk, hsz, hed, hon, hJs⟩ := hrel
          clear HE2 HS2 HJ2 HO2
          have HE := Hid.mk' hed
          have HSZ2 := Hid.mk' hsz
          have HJS := Hid.mk' hJs
          have HON := Hid.mk' hon
          clear hed hsz hJs hon
          by_cases hkl : k < (nxt l u).length
          · obtain ⟨x, hx⟩ : ∃ x, (nxt l u)[k]? = some x := ⟨_, List.getElem?_eq_getElem hkl⟩
            obtain ⟨gn, rfl, d0, k1, k2⟩ := on_at HON.out hx
            clear k1 k2
            obtain ⟨hp1, hp2⟩ := ed_part HBU.out hx
            have HP1 := Hid.mk' hp1
            have HP2 := Hid.mk' hp2
            have hkli : (k : Int) < ((nxt l u).length : Int) := by omega
            obtain ⟨fn, tmps, assign, body, hy, hR⟩ := HY.out _ (u, x) _ HJS.out hp1
            clear hx hp1 hp2
            gi_wp2_with fail
            refine hR.mono ?_
            rintro e W3 ⟨hk3, ⟨rfl, hJ3⟩ | ⟨rfl, hJx3⟩⟩
            · have HE3 := Hid.mk' (HE.out.keep hk3)
              have HO3 := Hid.mk' (own_high HON.out (Nat.le_refl _) hk3)
              have HS3 : Hid (W.heap.size ≤ W3.heap.size) := Nat.le_trans HSZ2.out hk3.1
              rw [HP2.out] at hJ3
              have HJ3 := Hid.mk' hJ3
              clear hk3 hR hy hJ3
              gi_wp2_with fail
              go_roundw
              case rel => exact ⟨k + 1, by go_num, hkl, HS3.out, HE3.out, HO3.out, HJ3.out⟩
              case measure => simp [intOf]; omega
            · gi_wp2_with fail
              exact bodyPost_ret (results_none rfl _ _ _) rfl ⟨⟨_, rfl⟩, .inr ⟨_, HP1.out, hJx3⟩⟩
          · have HA := Hid.mk' (ed_all HBU.out hkl)
            gi_wp2_with fail
            go_roundw
            case rel => exact ⟨u + 1, by go_num, by omega, HSZ2.out, HE.out, by rw [← HA.out]; exact HJS.out⟩
            case measure => simp [intOf]; omega
    · have hue : u = rs.length := by omega
      subst hue
      gi_wp2_with fail
      go_end0
      exact ⟨⟨_, rfl⟩, .inl HJS.out⟩
theorem edges_o (A B B1 B2 : Nat) (rs : List Bool) (l : List Is) (ra : Option Addr) (rc : Nat) (ca : Option Addr) (cc : Nat) (hrl : rs.length ≤ 1024) (w : World) (hE : EdAt A B B1 B2 rs l ra rc ca cc w) : SeqO 30 #[.pointer (some ⟨B1, 0, none⟩), .pointer (some ⟨B2, 0, none⟩)] encE (KpE A B) (edg l rs) w :=
  fun lq J Jx W hW hJ _ hY h0 => calls_any (edges1_o lq A B B1 B2 rs l ra rc ca cc hrl J Jx W hJ hY (hE.keep (i := W.heap.size) (kpE_below hW)) h0)
end Go.Proofs.Ytoabnkidfapniaa
