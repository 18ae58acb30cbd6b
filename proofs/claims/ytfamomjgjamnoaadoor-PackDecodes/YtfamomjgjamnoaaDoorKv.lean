/- pack's reader: lists. -/
import Derived.Test.YtfamomjgjamnoaaDoorKu
namespace Go.Proofs.YtfamomjgjamnoaaDoor
open Go.RowKit Go.Sort

/-- What reading a list comes to. -/
def LsP {α β : Type} (R : Nat) (bs : Bt) (va : Option Addr) (vc : Nat) (s : Sr) (r : Rd α) (er : β → α) (cells : β → List Value) (T : TypeId) (k : Nat) (P : β → World → Prop) (n : Nat) (w : World) (e : Ending) (w' : World) : Prop :=
  ∃ (l : List β) (s' : Sr) (a : Option Addr) (c : Nat), e = .returned (.slice a l.length c) ∧ Rn (listR r n) bs s (l.map er) s' ∧ RdAt 63 R bs va vc s' w' ∧ OnlyB R w w' ∧ w'.ownsRow w.heap.size T k (.slice a l.length c) l.length (l.flatMap cells) ∧ l.length ≤ n ∧ ∀ x ∈ l, P x w'
theorem OnlyB.grown {R N n sz : Nat} {T : TypeId} {v : Value} {xs : List Value} {w W W' : World} (h : OnlyB R w W) (ho : W.ownsRow N T sz v n xs) (hN : w.heap.size ≤ N) (hg : W.grownBy W' v.ownBlock) : OnlyB R w W' :=
  ⟨hg.os.trans h.os, hg.tape.trans h.tape, hg.output.trans h.output, Nat.le_trans h.size hg.size, fun i h1 h2 => (hg.block i (Nat.lt_of_lt_of_le h1 h.size) (fun e => by have := own_base ho i e.symm; omega)).trans (h.block i h1 h2)⟩
/-- A row of the call's own grows: the reader stays. -/
theorem RdAt.grown {T T' : TypeId} {R : Nat} {bs : Bt} {va : Option Addr} {vc : Nat} {s : Sr} {N n sz : Nat} {v : Value} {xs : List Value} {W W' : World} (h : RdAt T R bs va vc s W) (ho : W.ownsRow N T' sz v n xs) (hR : R < N) (hv : ∀ a, va = some a → a.block < N) (hg : W.grownBy W' v.ownBlock) : RdAt T R bs va vc s W' := by
  have hb : ∀ k, k < N → k < W.heap.size → W'.heap[k]? = W.heap[k]? := fun k hk hs => hg.block k hs (fun e => by have := own_base ho k e.symm; omega)
  refine h.put (hb R hR h.lt) fun i cs hi => ?_
  obtain ⟨b', o, e, hc⟩ := h.by' i cs hi
  refine ⟨b', o, e, fun q v hq => ?_⟩
  have h1 := hc q v hq
  have h2 := hb b' (hv _ e) (lt_of_cell h1)
  unfold World.cell? at h1 ⊢
  simp only at h1 ⊢
  rw [h2]; exact h1
theorem one_z (x : Int) : ∀ u ∈ thC x, u.oneCell' = true := by intro u hu; simp [thC] at hu; subst hu; rfl
theorem one_s (x : Sp) : ∀ u ∈ spC x, u.oneCell' = true := by intro u hu; simp [spC] at hu; rcases hu with rfl | rfl <;> rfl
theorem one_i (x : Is) : ∀ u ∈ x.cells, u.oneCell' = true := by intro u hu; simp [Is.cells] at hu; rcases hu with rfl | rfl | rfl | rfl | rfl <;> rfl
set_option maxRecDepth 100000 in
set_option maxHeartbeats 4000000 in
theorem rdThs_any (R : Nat) (bs : Bt) (va : Option Addr) (vc : Nat) (s : Sr) (w : World) (n : Nat) (h : RdAt 63 R bs va vc s w) (hv : ∀ a, va = some a → a.block < w.heap.size) (hn : n ≤ 16) :
    Calls Tryd.prog 36 #[.pointer (some ⟨R, 0, none⟩), .int .i64 (n : Int), .func (.func 38) #[.pointer (some ⟨R, 0, none⟩)] #[]] w (LsP R bs va vc s w8R id thC 2 1 (fun x _ => I64 x) n w) := by
  have hR := h.lt
  have HH := Hid.mk' h
  have HV := Hid.mk' hv
  obtain ⟨i0, hi, hz0, hz1, hz2⟩ := info_parts Tryd.infoI
  have HI := Hid.mk' hi
  have HRD : Hid (∀ s W, RdAt 63 R bs va vc s W → w.heap.size ≤ W.heap.size → Calls Tryd.prog 38 #[.pointer (some ⟨R, 0, none⟩)] W (RdP 63 R bs va vc s w8R (fun n => .int .i64 n) (fun x _ => I64 x) W)) := fun s W h hs => rdWord_any _ R bs va vc s W h
  clear h hv hi
  go_enter Tryd.func36, Tryd.ntmps36
  go_wp2_with fail
  go_loopw [7, 9] (fun t7 t9 wr => ∃ (j : Nat), j ≤ n ∧ t9 = .int .i64 j ∧ ∃ (l : List Int) (s' : Sr) (a : Option Addr) (c : Nat), l.length = j ∧ t7 = .slice a l.length c ∧ Rn (listR w8R j) bs s (l.map id) s' ∧ RdAt 63 R bs va vc s' wr ∧ OnlyB R w wr ∧ wr.ownsRow w.heap.size 2 1 (.slice a l.length c) l.length (l.flatMap thC) ∧ ∀ x ∈ l, (fun x _ => I64 x) x wr) (fun _ t9 _ => n - (intOf t9).toNat)
  case atStart => exact ⟨0, Nat.zero_le _, rfl, [], s, none, 0, rfl, rfl, Rn.ret _, HH.out, OnlyB.refl _ _, World.ownsRow_nil _ _ _ _, fun x hx => by cases hx⟩
  case round =>
    obtain ⟨j, hj, rfl, l, s', a, c, hlj, rfl, hrn, hrd, ho, hown, hP⟩ := hrel
    clear HH
    obtain ⟨ra, re, rp, hrb, hra, hrs⟩ := hrd.ex
    have c2 := cell_of_obj hrb (j := 2) (v := .int .i64 re) rfl
    have HX := Hid.mk' (And.intro hrn (And.intro hrd (And.intro ho (And.intro hown hP))))
    have HLJ := Hid.mk' hlj
    have hll : l.length ≤ 16 := by omega
    have hsz := ho.size
    clear hrn hrd ho hown hP hrb hlj
    by_cases hlt : j < n
    · have hli : (j : Int) < (n : Int) := by omega
      cases s' with
      | bad eb pb =>
        obtain ⟨rfl, rfl, hne⟩ := ss_bad hrs
        have hq : (re != 0) = true := bne_of hne
        clear hrs
        go_wp2_with fail
        go_ret
        obtain ⟨h1, h2, h3, h4, h5⟩ := HX.out
        exact ⟨l, _, a, c, rfl, h1.more n (by omega) _, h2, h3, h4, by have := HLJ.out; omega, h5⟩
      | «at» aa =>
        obtain ⟨rfl, rfl⟩ := ss_at hrs
        clear hrs
        go_upto_region 5 with fail
        have HC := Hid.mk' (HRD.out _ _ HX.out.2.1 hsz)
        go_wp2_with fail
        refine HC.out.mono ?_
        rintro e W1 ⟨x, s1, rfl, r1, q1, o1, g1⟩
        have hs1 := o1.size
        obtain ⟨h1, h2, h3, h4, h5⟩ := HX.out
        have own1 := h2.own o1 h4 (by decide)
        have bo := Below.one (Below.refl _ W1) (.cells (thC x).toArray 2)
        have HOW := Hid.mk' (own1.alloc (.cells (thC x).toArray 2))
        have HNW := Hid.mk' (newsT W1 2 (thC x))
        have HON := Hid.mk' (one_z x)
        have HS1 : Hid (w.heap.size ≤ (W1.alloc (.cells (thC x).toArray 2)).heap.size) := (by simp; omega : w.heap.size ≤ _)
        have HQ := Hid.mk' (q1.stay bo)
        have HO := Hid.mk' ((h3.on o1).on (OnlyB.of bo))
        have HR1 := Hid.mk' (h1.next r1)
        have HP : Hid (∀ y ∈ l ++ [x], (fun x _ => I64 x) y (W1.alloc (.cells (thC x).toArray 2))) := fun y hy => by
          rcases List.mem_append.1 hy with hy | hy
          · have hy1 := h5 y hy
            exact hy1
          · rw [List.mem_singleton] at hy
            subst hy
            exact g1
        clear HX HC h1 h2 h3 h4 h5 r1 q1 o1 g1 own1 bo c2
        skip
        go_wp2_with (at_builtin; refine wpList_append_own _ rfl _ _ 22 rfl w.heap.size 2 i0 (.int .i64 0) 1 8 Tryd.underlying22 HI.out hz0 hz1 hz2 rfl (by decide) _ l.length _ rfl HOW.out ⟨W1.heap.size, 0, none⟩ 1 1 (thC x) rfl rfl HNW.out HON.out (by unfold maxLen; omega) (by omega) HS1.out ?_; intro v4 W4 own4 grow4 _; obtain ⟨a4, c4, rfl⟩ := gown_form own4)
        go_roundw
        case rel =>
          have hl1 : (l ++ [x]).length = l.length + 1 := by simp
          refine ⟨j + 1, by omega, by go_num, l ++ [x], s1, a4, c4, by rw [hl1, HLJ.out], by rw [hl1], by rw [List.map_append]; exact HR1.out, HQ.out.grown HOW.out hR HV.out grow4, HO.out.grown HOW.out (Nat.le_refl _) grow4, ?_, fun y hy => ?_⟩
          · rw [hl1, List.flatMap_append]
            simpa using own4
          · have hy1 := HP.out y hy
            exact hy1
        case measure => simp [intOf]; omega
    · have hje : j = n := by omega
      subst hje
      go_wp2_with fail
      go_ret
      obtain ⟨h1, h2, h3, h4, h5⟩ := HX.out
      exact ⟨l, _, a, c, rfl, h1, h2, h3, h4, by have := HLJ.out; omega, h5⟩
end Go.Proofs.YtfamomjgjamnoaaDoor
