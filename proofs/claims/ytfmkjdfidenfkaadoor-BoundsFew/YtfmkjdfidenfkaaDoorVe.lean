/- Bounds: what comes is merged; the function that goes through all numbers. -/
import Derived.Test.YtfmkjdfidenfkaaDoorVd
import Derived.Test.YtfmkjdfidenfkaaDoorYx
namespace Go.Proofs.YtfmkjdfidenfkaaDoor
open Go.RowKit Go.Shelf
open S8 (meetB meetS joinS widS belA belB belC allS doR doB doS emB pot sv join_any widen_any)
attribute [local go_sem] Oper.semAt_some

theorem merge_any {N n r : Nat} {m : Mo} {f : Fn} {L : Lay} {st : Wk} {sd cm : List Sp} {tv : Nat} (w : World) (h : WkAt N n r m f L st sd cm w) (hI : WkI m.ths n r st) (ht : tv < n) (hr1 : 1 ≤ r) (hr : r ≤ 64) (hcm : cm.length = r) (htl : m.ths.length ≤ 16) (hth : ∀ W, Below N w W → Thr W m.ta m.ths) : Calls Tryd.prog 47 #[.pointer (some ⟨L.B, 0, none⟩), .int .i64 (tv : Int)] w (MgP N n r m f L st (mgZ m.ths st tv cm) sd cm w) := by
  have hp := hI.pt tv ht
  have hcb : ∀ k ∈ chgA st tv, k ≤ 1000000 := fun k hk => by have := hp.le k hk; omega
  have hsum := hp.sum
  have hjn := hp.jn
  have hjb : jnA st tv ≤ 100000000 := by
    have : r * (m.ths.length + 6) ≤ 64 * 22 := Nat.mul_le_mul hr (by omega)
    omega
  unfold mgZ
  by_cases h0 : insA st tv = []
  · rw [if_pos h0]
    exact merge_first w h hI.li hI.lm ht hr1 hr h0 hcm
  · rw [if_neg h0]
    by_cases h1 : someB (insA st tv) cm = true
    · rw [if_pos h1]
      exact merge_next w h hI.li hI.lc hI.lm hI.lj ht hr1 hr h0 (hp.some h0).1 hp.len hcm hcb hjb h1 hth
    · rw [if_neg h1]
      exact merge_same w h hI.li hI.lc ht hr1 hr h0 (hp.some h0).1 hp.len hcm hcb (by simpa using h1)

/-- All numbers, each with whether it is marked. -/
abbrev encI (x : Nat × Bool) : Array Value := #[.int .i64 (x.1 : Int), .bool x.2]
def tlI (bs : Nat → Bool) (k : Nat) : List (Nat × Bool) := (List.range k).map fun i => (i, bs i)
theorem tlI_succ (bs : Nat → Bool) (k : Nat) : tlI bs (k + 1) = tlI bs k ++ [(k, bs k)] := by unfold tlI; rw [List.range_succ, List.map_append]; rfl
theorem tlI_pre (bs : Nat → Bool) {k n : Nat} (h : k ≤ n) : tlI bs k <+: tlI bs n := by
  obtain ⟨d, rfl⟩ := Nat.exists_eq_add_of_le h
  induction d with
  | zero => exact List.prefix_refl _
  | succ d ih => exact (ih (by omega)).trans (by rw [← Nat.add_assoc, tlI_succ]; exact List.prefix_append _ _)
/-- What the iterator reads. -/
structure RdI (n Bw B gM : Nat) (bs : Nat → Bool) (k : Nat) (W : World) : Prop where
  bw : W.heap[Bw]? = some (.cells #[.pointer (some ⟨B, 0, none⟩)] 59)
  m : W.cell? ⟨B, 9, none⟩ = some (.slice (some ⟨gM, 0, none⟩) n n)
  b : k < n → W.cell? ⟨gM, k, none⟩ = some (.bool (bs k))
set_option maxRecDepth 100000 in
set_option maxHeartbeats 4000000 in
theorem instr1_o (lq n Bw B gM : Nat) (bs : Nat → Bool) (hn : n ≤ 1024) (J Jx : List (Nat × Bool) → World → Prop) (W : World) (hJ : OwnFrom W.heap.size J)
    (hR : ∀ k W1, k ≤ n → J (tlI bs k) W1 → RdI n Bw B gM bs k W1)
    (hY : ∀ pre x W1, J pre W1 → (pre ++ [x]) <+: tlI bs n → YieldAt Fence.wide 0 Tryd.prog lq (encI x) W1 fun e W' =>
      (e = .returned (.bool true) ∧ J (pre ++ [x]) W') ∨ (e = .returned (.bool false) ∧ Jx (pre ++ [x]) W'))
    (h0 : J [] W) :
    CallsIn Fence.wide 1 Tryd.prog 74 #[.func (.yield lq) #[] #[], .pointer (some ⟨Bw, 0, none⟩)] W fun e W' => (∃ v, e = .returned v) ∧
      (J (tlI bs n) W' ∨ ∃ pre, pre <+: tlI bs n ∧ Jx pre W') := by
  have HJ := Hid.mk' hJ
  have HY := Hid.mk' hY
  have HR := Hid.mk' hR
  have H0 : Hid (J (tlI bs 0) W) := h0
  have R0 := hR 0 W (Nat.zero_le _) h0
  have c0 := cell_of_obj R0.bw (j := 0) (v := .pointer (some ⟨B, 0, none⟩)) rfl
  have c1 := R0.m
  clear hJ hY hR h0 R0
  refine callsIn_of_wp Tryd.func74 rfl trivial ?_ rfl
  simp only [Tryd.ntmps74, List.size_toArray, List.length_cons, List.length_nil, Nat.reduceAdd, Nat.reduceSub, Array.replicate_succ, Array.replicate_zero, List.push_toArray, List.append_toArray, List.nil_append, List.cons_append]
  gi_wp2_with fail
  gi_loopw [9] (fun t wr => ∃ (k : Nat), t = .int .i64 k ∧ k ≤ n ∧ J (tlI bs k) wr) (fun t _ => n - (intOf t).toNat)
  case atStart => exact ⟨0, rfl, Nat.zero_le _, H0.out⟩
  case round =>
    obtain ⟨k, rfl, hk, hj⟩ := hrel
    by_cases hlt : k < n
    · have hki : (k : Int) < (n : Int) := by omega
      have R1 := HR.out k wr hk hj
      have d0 := cell_of_obj R1.bw (j := 0) (v := .pointer (some ⟨B, 0, none⟩)) rfl
      have d1 := R1.m
      have d2 := R1.b hlt
      clear R1 c0 c1
      have HJB := Hid.mk' (tlI_succ bs k)
      have HPR := Hid.mk' (tlI_pre bs (show k + 1 ≤ n by omega))
      obtain ⟨fy, tmps, assign, body, hy, hRd⟩ := HY.out (tlI bs k) (k, bs k) wr hj (by rw [← tlI_succ]; exact tlI_pre bs (by omega))
      unfold encI at hy
      simp only at hy
      generalize hb : bs k = b at *
      clear hj hb
      gi_wp2_with fail
      refine hRd.mono ?_
      rintro e W3 (⟨rfl, hJ3⟩ | ⟨rfl, hJ3⟩)
      · rw [← HJB.out] at hJ3
        have HJ3 := Hid.mk' hJ3
        clear hRd hy hJ3 d0 d1 d2
        gi_wp2_with fail
        go_roundw
        case rel => exact ⟨k + 1, by go_num, by omega, HJ3.out⟩
        case measure => simp [intOf]; omega
      · rw [← HJB.out] at hJ3
        have HJ3 := Hid.mk' hJ3
        clear hRd hy hJ3 d0 d1 d2
        gi_wp2_with fail
        exact bodyPost_ret (results_none rfl _ _ _) rfl ⟨⟨_, rfl⟩, .inr ⟨_, HPR.out, HJ3.out⟩⟩
    · obtain rfl : k = n := by omega
      have HJK := Hid.mk' hj
      clear hj
      have hki : ¬ (k : Int) < (k : Int) := by omega
      gi_wp2_with fail
      go_end0
      exact ⟨⟨_, rfl⟩, .inl HJK.out⟩
end Go.Proofs.YtfmkjdfidenfkaaDoor
