/- The document's own reader: what is wrong is kept; numbers; counts. -/
import Derived.Test.YtfamomjgjamnoaaDoorKt
import Derived.Test.YtfamomjgjamnoaaDoorKx
import Derived.Test.YtfamomjgjamnoaaDoorLd
namespace Go.Proofs.YtfamomjgjamnoaaDoor
open Go.RowKit Go.Sort

set_option maxRecDepth 100000 in
set_option maxHeartbeats 2000000 in
theorem rfail_any (T : TypeId) (R : Nat) (bs : Bt) (va : Option Addr) (vc : Nat) (s : Sr) (w : World) (e p : Int) (h : RdAt T R bs va vc s w) (he : e ≠ 0) :
    Calls Tryd.prog 23 #[.pointer (some ⟨R, 0, none⟩), .int .i64 e, .int .i64 p] w fun en w' => en = .returned (.tuple #[]) ∧ RdAt T R bs va vc (failS s e p) w' ∧ OnlyB R w w' := by
  obtain ⟨a, e0, p0, hb, ha, hs⟩ := h.ex
  have HH := Hid.mk' h
  have c2 := cell_of_obj hb (j := 2) (v := .int .i64 e0) rfl
  have c3 := cell_of_obj hb (j := 3) (v := .int .i64 p0) rfl
  have z2 := Lib.frozen_of_heap hb 2
  have z3 := Lib.frozen_of_heap hb 3
  have HB := Hid.mk' hb
  clear h hb
  cases s with
  | bad e' p' =>
    obtain ⟨rfl, rfl, hne⟩ := ss_bad hs
    have hq : (e0 == 0) = false := beq_no hne
    clear hs
    go_enter Tryd.func23, Tryd.ntmps23
    go_wp2_with fail
    go_end0
    exact ⟨rfl, HH.out, OnlyB.refl _ _⟩
  | «at» a' =>
    obtain ⟨rfl, rfl⟩ := ss_at hs
    clear hs
    go_enter Tryd.func23, Tryd.ntmps23
    go_wp2_with fail
    go_end0
    have ho := ((OnlyB.refl R w).set 2 (.int .i64 e)).set 3 (.int .i64 p)
    exact ⟨rfl, HH.out.turn ho (rd_set2 HB.out _ _) ha ⟨rfl, rfl, he⟩, ho⟩
theorem leN_drop {l : Bt} {i : Nat} (h : i < l.length) : leN (l.drop i) = l[i].toNat + 256 * leN (l.drop (i + 1)) := by
  rw [List.drop_eq_getElem_cons h, leN]
theorem num_bad {k : Nat} {bs : Bt} {s : Sr} {e p : Int} (h : Rn (rawR k) bs s [] (.bad e p)) (n : Nat) : Rn (numR k) bs s n (.bad e p) := by
  cases s with
  | bad e' p' => exact h
  | «at» a =>
    simp only [Rn] at h
    show Rn (numR k) bs (.at a) n (.bad e p)
    simp only [Rn, numR, Rd.bind]
    cases hr : rawR k bs a with
    | error ep => rw [hr] at h; simp only at h ⊢; exact h
    | ok xa => rw [hr] at h; exact absurd h.2 (by simp)
set_option maxRecDepth 100000 in
set_option maxHeartbeats 4000000 in
theorem rnum_any (T : TypeId) (R : Nat) (bs : Bt) (va : Option Addr) (vc : Nat) (s : Sr) (w : World) (k : Nat) (h : RdAt T R bs va vc s w) (hk : k ≤ 8) :
    Calls Tryd.prog 22 #[.pointer (some ⟨R, 0, none⟩), .int .i64 (k : Int)] w (RdP T R bs va vc s (numR k) (fun n => .int .u64 (n : Int)) (fun n _ => n < 256 ^ k) w) := by
  obtain ⟨a, e0, p0, hb, ha, hs⟩ := h.ex
  have hlen := h.len
  have HH := Hid.mk' h
  have HFA : Hid (∀ W, RdAt T R bs va vc s W → Calls Tryd.prog 23 #[.pointer (some ⟨R, 0, none⟩), .int .i64 6, .int .i64 (bs.length : Int)] W fun en w' => en = .returned (.tuple #[]) ∧ RdAt T R bs va vc (failS s 6 (bs.length : Int)) w' ∧ OnlyB R W w') := fun W h => rfail_any T R bs va vc s W 6 _ h (by decide)
  have c0 := cell_of_obj hb (j := 0) (v := .slice va bs.length vc) rfl
  have c1 := cell_of_obj hb (j := 1) (v := .int .i64 (a : Int)) rfl
  have c2 := cell_of_obj hb (j := 2) (v := .int .i64 e0) rfl
  have g0 := fun d os => cell_regrown c0 d os
  have g1 := fun d os => cell_regrown c1 d os
  have g2 := fun d os => cell_regrown c2 d os
  have HB := Hid.mk' hb
  clear h hb
  have hsub : IntKind.i64.wrap ((bs.length : Int) - a) = (bs.length : Int) - a := by rw [IntKind.wrap_i64]; omega
  have hsub2 : wrap64 ((bs.length : Int) - a) = (bs.length : Int) - a := by unfold wrap64; omega
  have hp : 0 < 256 ^ k := Nat.pow_pos (by decide)
  cases s with
  | bad e' p' =>
    obtain ⟨rfl, rfl, hne⟩ := ss_bad hs
    have hq0 : (e0 == 0) = false := beq_no hne
    have hq : (e0 != 0) = true := bne_of hne
    clear hs HFA hne
    go_enter Tryd.func22, Tryd.ntmps22
    go_wp2_with fail
    refine wp_region_quiet_below (by kernel_rfl) (by kernel_rfl) ?_
    repeat (go_big_quiet_step (fail))
    refine wpQuiet_nil ?_
    rintro _ ⟨⟨dq, osq⟩, rfl⟩
    have B2 := below_regrown w dq osq
    have HH2 := Hid.mk' (HH.out.stay B2)
    have HO := Hid.mk' (OnlyB.of (R := R) B2)
    have x2 := g2 dq osq
    clear g0 g1 g2 c0 c1 c2 B2 hsub hsub2
    generalize grow (redrawn w dq) osq = W2 at *
    go_wp2_with fail
    go_ret
    exact ⟨0, _, rfl, rfl, HH2.out, HO.out, hp⟩
  | «at» a' =>
    obtain ⟨rfl, rfl⟩ := ss_at hs
    clear hs
    by_cases hlt : bs.length - a < k
    · have hd : decide ((bs.length : Int) - a < (k : Int)) = true := decide_eq_true (by omega)
      have hd' : (bs.length : Int) - a < (k : Int) := by omega
      have HR : Hid (Rn (numR k) bs (.at a) 0 (.bad 6 (bs.length : Int))) := num_bad (by simp only [Rn, rawR, if_pos hlt]) 0
      clear hlt
      go_enter Tryd.func22, Tryd.ntmps22
      go_wp2_with fail
      refine wp_region_quiet_below (by kernel_rfl) (by kernel_rfl) ?_
      repeat (go_big_quiet_step (fail))
      refine wpQuiet_nil ?_
      rintro _ ⟨⟨dq, osq⟩, rfl⟩
      have B2 := below_regrown w dq osq
      have HH2 := Hid.mk' (HH.out.stay B2)
      have HO := Hid.mk' (OnlyB.of (R := R) B2)
      have x0 := g0 dq osq
      clear g0 g1 g2 c0 c1 c2 B2 hd hd' hsub hsub2
      generalize grow (redrawn w dq) osq = W2 at *
      go_wp2_with fail
      refine (HFA.out _ HH2.out).mono ?_
      rintro en W3 ⟨rfl, h3, ho3⟩
      obtain ⟨a3, e3, p3, hb3, ha3, hs3⟩ := h3.ex
      obtain ⟨rfl, rfl, hne⟩ := ss_bad hs3
      have y2 := cell_of_obj hb3 (j := 2) (v := .int .i64 6) rfl
      have H3 := Hid.mk' h3
      have HO3 := Hid.mk' (HO.out.on ho3)
      clear h3 ho3 hb3 hs3 HFA HO x0
      go_wp2_with fail
      go_ret
      exact ⟨0, _, rfl, HR.out, H3.out, HO3.out, hp⟩
    · have hd : decide ((bs.length : Int) - a < (k : Int)) = false := decide_eq_false (by omega)
      have hd' : ¬ (bs.length : Int) - a < (k : Int) := by omega
      have hak : a + k ≤ bs.length := by omega
      have HR : Hid (Rn (numR k) bs (.at a) (leN ((bs.drop a).take k)) (.at (a + k))) := (by simp [Rn, numR, Rd.bind, Rd.ret, rawR, if_neg hlt] : Rn _ _ _ _ _)
      have hLl : ((bs.drop a).take k).length = k := by rw [List.length_take, List.length_drop]; omega
      have HLi : Hid (∀ i, i < k → ∀ hi : i < ((bs.drop a).take k).length, ∀ ha : a + i < bs.length, ((bs.drop a).take k)[i] = bs[a + i]) := fun i h1 h2 h3 => by simp
      have HLN : Hid (leN ((bs.drop a).take k) < 256 ^ k) := by
        show _ < _
        have := leN_lt ((bs.drop a).take k)
        rwa [hLl] at this
      generalize (bs.drop a).take k = L at *
      have HLL := Hid.mk' hLl
      have hk1 : wrap64 ((k : Int) - 1) = (k : Int) - 1 := by unfold wrap64; omega
      have HAK := Hid.mk' hak
      have HK := Hid.mk' hk
      clear hlt HFA hLl hak
      go_enter Tryd.func22, Tryd.ntmps22
      go_wp2_with fail
      refine wp_region_quiet_below (by kernel_rfl) (by kernel_rfl) ?_
      repeat (go_big_quiet_step (fail))
      refine wpQuiet_nil ?_
      rintro _ ⟨⟨dq, osq⟩, rfl⟩
      have B2 := below_regrown w dq osq
      have HH2 := Hid.mk' (HH.out.stay B2)
      have HO := Hid.mk' (OnlyB.of (R := R) B2)
      have x2 := g2 dq osq
      clear g0 g1 g2 c0 c1 c2 B2 hsub hsub2 hd hd' HH HB
      generalize grow (redrawn w dq) osq = W2 at *
      go_wp2_with fail
      clear x2
      go_loopw [5, 6] (fun t5 t6 wr => ∃ (c : Nat) (z : Int), c ≤ k ∧ z + 1 = (c : Int) ∧ t6 = .int .i64 z ∧ t5 = .int .u64 ((leN (L.drop c) : Nat) : Int) ∧ RdAt T R bs va vc (.at a) wr ∧ OnlyB R w wr) (fun _ t6 _ => (intOf t6 + 1).toNat)
      case atStart => exact ⟨k, _, Nat.le_refl _, by omega, rfl, by rw [← HLL.out, List.drop_length]; rfl, HH2.out, HO.out⟩
      case round =>
        obtain ⟨c, z, hc, hz, rfl, rfl, hrd, hob⟩ := hrel
        clear HH2 HO
        obtain ⟨a3, e3, p3, hb3, ha3, hs3⟩ := hrd.ex
        obtain ⟨rfl, rfl⟩ := ss_at hs3
        clear hs3
        by_cases hc0 : c = 0
        · subst hc0
          obtain rfl : z = -1 := by omega
          have y1 := cell_of_obj hb3 (j := 1) (v := .int .i64 (a3 : Int)) rfl
          have z1 := Lib.frozen_of_heap hb3 1
          have hadd : wrap64 ((a3 : Int) + k) = (a3 : Int) + k := by have := HAK.out; unfold wrap64; omega
          have hb4 := rd_set1 hb3 (.int .i64 ((a3 : Int) + k))
          have ho4 := (OnlyB.refl R wr).set 1 (.int .i64 ((a3 : Int) + k))
          have H4 := Hid.mk' (hrd.turn ho4 (s' := .at (a3 + k)) (a := a3 + k) (by rw [Int.natCast_add]; exact hb4) HAK.out ⟨rfl, rfl⟩)
          have HO4 := Hid.mk' (hob.on ho4)
          rw [List.drop_zero]
          generalize leN L = n at *
          clear hb4 ho4 hb3 hrd hob hz hc
          go_wp2_with fail
          go_ret
          exact ⟨n, _, rfl, HR.out, H4.out, HO4.out, HLN.out⟩
        · obtain ⟨i, rfl⟩ : ∃ i, c = i + 1 := ⟨c - 1, by omega⟩
          obtain rfl : z = (i : Int) := by omega
          have hai : a3 + i < bs.length := by have := HAK.out; omega
          have hLi : i < L.length := by rw [HLL.out]; omega
          obtain ⟨b, o, rfl, c3⟩ := rowB_at hrd.by' hai
          have HD := Hid.mk' (leN_drop hLi)
          have he := HLi.out i (by omega) hLi hai
          have hn : leN (L.drop i) < 256 ^ 8 := by
            have h1 := leN_lt (L.drop i)
            have h2 : 256 ^ (L.drop i).length ≤ 256 ^ 8 := Nat.pow_le_pow_right (by decide) (by rw [List.length_drop, HLL.out]; have := HK.out; omega)
            omega
          rw [HD.out, he] at hn
          rw [he] at HD
          have hbv : bs[a3 + i].toNat < 256 := bs[a3 + i].toNat_lt
          generalize bs[a3 + i].toNat = bv at *
          generalize leN (L.drop (i + 1)) = nv at *
          have hm1 : IntKind.u64.wrap (256 * (nv : Int)) = 256 * (nv : Int) := by rw [IntKind.wrap_u64]; omega
          have hm2 : IntKind.u64.wrap (256 * (nv : Int) + (bv : Int)) = 256 * (nv : Int) + (bv : Int) := by rw [IntKind.wrap_u64]; omega
          have hm3 : IntKind.u64.wrap (bv : Int) = (bv : Int) := by rw [IntKind.wrap_u64]; omega
          have hia : IntKind.i64.wrap ((a3 : Int) + (i : Int)) = ((a3 + i : Nat) : Int) := by rw [IntKind.wrap_i64]; omega
          have hil : ((a3 + i : Nat) : Int) < (bs.length : Int) := by omega
          have y0 := fun d os => cell_regrown (cell_of_obj hb3 (j := 0) (v := .slice (some ⟨b, o, none⟩) bs.length vc) rfl) d os
          have y1 := fun d os => cell_regrown (cell_of_obj hb3 (j := 1) (v := .int .i64 (a3 : Int)) rfl) d os
          have y3 := fun d os => cell_regrown c3 d os
          have hsb : wrap64 ((i : Int) - 1) = (i : Int) - 1 := by unfold wrap64; have := HAK.out; omega
          have HRD := Hid.mk' hrd
          have HOB := Hid.mk' hob
          have HLI : Hid (i ≤ k) := by show i ≤ k; omega
          clear hn hbv he hai hLi hb3 hrd hob c3 hz hc hc0
          go_wp2_with fail
          refine wp_region_quiet_below (by kernel_rfl) (by kernel_rfl) ?_
          repeat (go_big_quiet_step (fail))
          refine wpQuiet_nil ?_
          rintro _ ⟨⟨dq, osq⟩, rfl⟩
          have B2 := below_regrown wr dq osq
          have HH3 := Hid.mk' (HRD.out.stay B2)
          have HO3 := Hid.mk' (HOB.out.on (OnlyB.of (R := R) B2))
          clear y0 y1 y3 B2 HRD HOB
          generalize grow (redrawn wr dq) osq = W3 at *
          go_wp2_with fail
          exact ⟨⟨i, _, HLI.out, by omega, rfl, by rw [HD.out]; first | (congr 1; done) | (congr 1; omega), HH3.out, HO3.out⟩, by simp [intOf] <;> omega⟩
theorem Rn.cnt_bad {k most : Nat} {er : Int} {bs : Bt} {s : Sr} {n : Nat} {e p : Int} (h : Rn (numR k) bs s n (.bad e p)) : Rn (cntR k most er) bs s 0 (.bad e p) := by
  cases s with
  | bad e' p' => exact h
  | «at» a =>
    simp only [Rn, cntR] at h ⊢
    cases hr : numR k bs a with
    | error ep => rw [hr] at h; exact h
    | ok xa => rw [hr] at h; exact absurd h.2 (by simp)
set_option maxRecDepth 100000 in
set_option maxHeartbeats 2000000 in
theorem rmany_any (T : TypeId) (R : Nat) (bs : Bt) (va : Option Addr) (vc : Nat) (s : Sr) (w : World) (k most : Nat) (er : Int) (h : RdAt T R bs va vc s w) (hk : k ≤ 2) (he : er ≠ 0) :
    Calls Tryd.prog 24 #[.pointer (some ⟨R, 0, none⟩), .int .i64 (k : Int), .int .i64 (most : Int), .int .i64 er] w (RdP T R bs va vc s (cntR k most er) (fun n => .int .i64 (n : Int)) (fun n _ => n ≤ most) w) := by
  obtain ⟨a, e0, p0, hb, ha, hs⟩ := h.ex
  have c1 := cell_of_obj hb (j := 1) (v := .int .i64 (a : Int)) rfl
  have HC := Hid.mk' (rnum_any T R bs va vc s w k h (by omega))
  have HFA : Hid (∀ s' W, RdAt T R bs va vc s' W → Calls Tryd.prog 23 #[.pointer (some ⟨R, 0, none⟩), .int .i64 er, .int .i64 (a : Int)] W fun en w' => en = .returned (.tuple #[]) ∧ RdAt T R bs va vc (failS s' er (a : Int)) w' ∧ OnlyB R W w') := fun s' W h => rfail_any T R bs va vc s' W er _ h he
  have HA : Hid (∀ a', s = .at a' → a = a') := fun a' e => by subst e; exact (ss_at hs).1
  clear h hb hs
  go_enter Tryd.func24, Tryd.ntmps24
  go_wp2_with fail
  refine HC.out.mono ?_
  rintro e w1 ⟨n, s', rfl, h1, h2, h3, h4⟩
  have hn8 : n < 65536 := Nat.lt_of_lt_of_le h4 (Nat.pow_le_pow_right (n := 256) (by decide) hk)
  have hw : IntKind.i64.wrap (n : Int) = (n : Int) := by rw [IntKind.wrap_i64]; omega
  have hw2 : wrap64 (n : Int) = (n : Int) := by unfold wrap64; omega
  have HX := Hid.mk' (And.intro h1 (And.intro h2 h3))
  clear h1 h2 h3 HC h4
  by_cases hlt : most < n
  · have hli : (most : Int) < (n : Int) := by omega
    go_wp2_with fail
    refine (HFA.out _ _ HX.out.2.1).mono ?_
    rintro en w2 ⟨rfl, h5, h6⟩
    have HR := Hid.mk' (HX.out.1.many (e := er) hlt HA.out)
    obtain ⟨eb, pb, hfs⟩ : ∃ eb pb, failS s' er (a : Int) = .bad eb pb := by cases s' <;> exact ⟨_, _, rfl⟩
    rw [hfs] at h5 HR
    obtain ⟨a5, e5, p5, hb5, _, hs5⟩ := h5.ex
    obtain ⟨rfl, rfl, hne⟩ := ss_bad hs5
    have y2 := cell_of_obj hb5 (j := 2) (v := .int .i64 e5) rfl
    have hq : (e5 != 0) = true := bne_of hne
    have H5 := Hid.mk' h5
    have H6 := Hid.mk' h6
    clear h5 h6 hb5 hs5 hfs HFA hne
    go_wp2_with fail
    go_ret
    exact ⟨0, _, rfl, HR.out, H5.out, HX.out.2.2.on H6.out, Nat.zero_le _⟩
  · have hli : ¬ (most : Int) < (n : Int) := by omega
    obtain ⟨a5, e5, p5, hb5, _, hs5⟩ := HX.out.2.1.ex
    have y2 := cell_of_obj hb5 (j := 2) (v := .int .i64 e5) rfl
    clear HFA hb5
    cases s' with
    | bad e' p' =>
      obtain ⟨rfl, rfl, hne⟩ := ss_bad hs5
      have hq : (e5 != 0) = true := bne_of hne
      clear hs5 hne
      go_wp2_with fail
      go_ret
      exact ⟨0, _, rfl, HX.out.1.cnt_bad, HX.out.2.1, HX.out.2.2, Nat.zero_le _⟩
    | «at» a' =>
      obtain ⟨rfl, rfl⟩ := ss_at hs5
      clear hs5
      go_wp2_with fail
      go_ret
      exact ⟨n, _, rfl, HX.out.1.cnt (by omega), HX.out.2.1, HX.out.2.2, by omega⟩
/-- One byte. -/
def b1R : Rd UInt8 := (numR 1).bind fun n => Rd.ret (UInt8.ofNat n)
/-- Bytes one by one are the bytes at once. -/
theorem b1_raw (bs : Bt) (a : Nat) (ha : a ≤ bs.length) : ∀ n, listR b1R n bs a = rawR n bs a
  | 0 => by simp [listR, rawR, Rd.ret]
  | n + 1 => by
    rw [listR, Rd.bind, b1_raw bs a ha n]
    unfold rawR
    by_cases h1 : bs.length - a < n
    · rw [if_pos h1, if_pos (by omega)]
    · rw [if_neg h1]
      simp only [b1R, numR, rawR, Rd.bind]
      by_cases h2 : bs.length - (a + n) < 1
      · rw [if_pos h2, if_pos (by omega)]
      · rw [if_neg h2, if_neg (by omega)]
        simp only [Rd.ret]
        have hlt : a + n < bs.length := by omega
        have h3 : (bs.drop (a + n)).take 1 = [bs[a + n]] := by rw [List.drop_eq_getElem_cons hlt]; rfl
        rw [h3, List.take_add_one, List.getElem?_drop, List.getElem?_eq_getElem hlt]
        simp [leN, Nat.add_assoc]
theorem Rn.raw {bs : Bt} {s s' : Sr} {n : Nat} {l : Bt} (h : Rn (listR b1R n) bs s l s') (ha : ∀ a, s = .at a → a ≤ bs.length) : Rn (rawR n) bs s l s' := by
  cases s with
  | bad e p => exact h
  | «at» a =>
    simp only [Rn] at h ⊢
    rwa [b1_raw bs a (ha a rfl)] at h
end Go.Proofs.YtfamomjgjamnoaaDoor

/- The document's own reader: numbers as they are wanted; a function in memory while it is read. -/
namespace Go.Proofs.YtfamomjgjamnoaaDoor
open Go.RowKit Go.Sort

/-- What a number read comes to, as a number with a sign. -/
def NmP (R : Nat) (bs : Bt) (va : Option Addr) (vc : Nat) (s : Sr) (r : Rd Int) (G : Int → Prop) (w : World) (e : Ending) (w' : World) : Prop :=
  ∃ (n : Nat) (z : Int) (s' : Sr), e = .returned (.int .u64 (n : Int)) ∧ IntKind.i64.wrap (n : Int) = z ∧ wrap64 (n : Int) = z ∧ G z ∧ Rn r bs s z s' ∧ RdAt 67 R bs va vc s' w' ∧ OnlyB R w w'
theorem nm8 (R : Nat) (bs : Bt) (va : Option Addr) (vc : Nat) (s : Sr) (w : World) (h : RdAt 67 R bs va vc s w) : Calls Tryd.prog 22 #[.pointer (some ⟨R, 0, none⟩), .int .i64 8] w (NmP R bs va vc s w8R I64 w) := by
  refine (rnum_any _ R bs va vc s w 8 h (by decide)).mono ?_
  rintro e w' ⟨n, s', rfl, h1, h2, h3, h4⟩
  exact ⟨n, sgn n, s', rfl, by rw [IntKind.wrap_i64]; unfold sgn; split <;> omega, by unfold wrap64 sgn; split <;> omega, by unfold I64 sgn; split <;> omega, h1.map, h2, h3⟩
theorem nm1 (R : Nat) (bs : Bt) (va : Option Addr) (vc : Nat) (s : Sr) (w : World) (h : RdAt 67 R bs va vc s w) : Calls Tryd.prog 22 #[.pointer (some ⟨R, 0, none⟩), .int .i64 1] w (NmP R bs va vc s w1R (fun z => 0 ≤ z ∧ z ≤ 255) w) := by
  refine (rnum_any _ R bs va vc s w 1 h (by decide)).mono ?_
  rintro e w' ⟨n, s', rfl, h1, h2, h3, h4⟩
  exact ⟨n, (n : Int), s', rfl, by rw [IntKind.wrap_i64]; omega, by unfold wrap64; omega, by omega, h1.map, h2, h3⟩
theorem nm2 (R : Nat) (bs : Bt) (va : Option Addr) (vc : Nat) (s : Sr) (w : World) (h : RdAt 67 R bs va vc s w) : Calls Tryd.prog 22 #[.pointer (some ⟨R, 0, none⟩), .int .i64 2] w (NmP R bs va vc s w2R (fun z => 0 ≤ z ∧ z ≤ 65535) w) := by
  refine (rnum_any _ R bs va vc s w 2 h (by decide)).mono ?_
  rintro e w' ⟨n, s', rfl, h1, h2, h3, h4⟩
  exact ⟨n, (n : Int), s', rfl, by rw [IntKind.wrap_i64]; omega, by unfold wrap64; omega, by omega, h1.map, h2, h3⟩
/-- A byte. -/
def ByP (R : Nat) (bs : Bt) (va : Option Addr) (vc : Nat) (s : Sr) (w : World) (e : Ending) (w' : World) : Prop :=
  ∃ (n : Nat) (s' : Sr), e = .returned (.int .u64 (n : Int)) ∧ n < 256 ∧ Rn b1R bs s (UInt8.ofNat n) s' ∧ RdAt 67 R bs va vc s' w' ∧ OnlyB R w w'
theorem nmB (R : Nat) (bs : Bt) (va : Option Addr) (vc : Nat) (s : Sr) (w : World) (h : RdAt 67 R bs va vc s w) : Calls Tryd.prog 22 #[.pointer (some ⟨R, 0, none⟩), .int .i64 1] w (ByP R bs va vc s w) := by
  refine (rnum_any _ R bs va vc s w 1 h (by decide)).mono ?_
  rintro e w' ⟨n, s', rfl, h1, h2, h3, h4⟩
  exact ⟨n, s', rfl, by omega, h1.map, h2, h3⟩
theorem step_app {ops : Array Oper} {o : Oper} {a : Act} {K : Act → World → Prop} {Q : Exit → Act → World → Prop} {E : Prop} {W : World} (hgd : o.guard = Option.none) (sl x : Operand) (t u : TypeId) (va vx : Value)
    (ho : o.op = .call { callee := .builtin .append, args := #[sl, x], argTypes := #[t, u] }) (hs : a.eval sl = va) (hx : a.eval x = vx) {R : Value → World → Prop}
    (hr : ∃ v' W', (Builtin.append_ #[t, u] o.type #[va, vx]).run Tryd.prog W = .ok v' W' ∧ R v' W')
    (h : ∀ v' W', R v' W' → K (a.put o.dst v') W') :
    if Region.wanted o (yielded ops a.tmps) = true then Oper.wp Tryd.prog o a W K Q else E := by
  have hw : Region.wanted o (yielded ops a.tmps) = true := by simp [Region.wanted, hgd]
  rw [if_pos hw]
  obtain ⟨v', W', hr, h2⟩ := hr
  unfold Oper.wp execOp
  simp only [ho, resolve, invoke, builtin, Sem.run_bind, Sem.run_pure, Result.andThen_ok, List.map_toArray, List.map_cons, List.map_nil, hs, hx, hr]
  exact h v' W' h2
def fn0 : Fn := ⟨⟨#[]⟩, none, 0, [], 0, 0, none, 0, []⟩
/-- A function that is being read: the reader stands so, the function lies so far, what lay there before lies there still. -/
structure FI (R : Nat) (bs : Bt) (va : Option Addr) (vc : Nat) (w : World) (s : Sr) (g : Fn) (W : World) : Prop where
  rd : RdAt 67 R bs va vc s W
  ob : OnlyB R w W
  z : W.heap[w.heap.size]? = some (.cells (fnC fn0) 45)
  f : W.heap[w.heap.size + 1]? = some (.cells (fnC g) 45)
  o : OwnF W w.heap.size g
  lR : R < w.heap.size
  lv : ∀ a, va = some a → a.block < w.heap.size
section
variable {R : Nat} {bs : Bt} {va : Option Addr} {vc : Nat} {w : World} {s s' : Sr} {g g' : Fn} {W W' : World}
theorem FI.ge (h : FI R bs va vc w s g W) : w.heap.size + 2 ≤ W.heap.size := (Array.getElem?_eq_some_iff.1 h.f).1
theorem FI.read (h : FI R bs va vc w s g W) (hr : RdAt 67 R bs va vc s' W') (ho : OnlyB R W W') : FI R bs va vc w s' g W' :=
  ⟨hr, h.ob.on ho, ho.blk h.z (by have := h.lR; omega), ho.blk h.f (by have := h.lR; omega), ⟨h.rd.own ho h.o.1 (by decide), h.rd.own ho h.o.2 (by decide)⟩, h.lR, h.lv⟩
theorem FI.stay (h : FI R bs va vc w s g W) (hb : Below W.heap.size W W') : FI R bs va vc w s g W' := h.read (h.rd.stay hb) (OnlyB.of hb)
theorem FI.drew (h : FI R bs va vc w s g W) : FI R bs va vc w s g W.drew := h.stay (below_drew W)
theorem own_off {N n sz b : Nat} {T : TypeId} {v : Value} {xs : List Value} (h : W.ownsRow N T sz v n xs) (hb : ∀ k, v.ownBlock = some k → k < b) (i : Nat) (u : Value) : (W.setCell ⟨b, i, none⟩ u).ownsRow N T sz v n xs := by
  refine ⟨h.1, ?_⟩
  rcases h.2 with h0 | ⟨k, cap, cur, rfl, h1, h2, h3⟩
  · exact .inl h0
  · exact .inr ⟨k, cap, cur, rfl, h1, (Below.heap_setCell _ _ _ _ (by have := hb k rfl; simp only; omega)).trans h2, h3⟩
/-- And an instruction in a block of its own, while it is read. -/
structure FX (R : Nat) (bs : Bt) (va : Option Addr) (vc : Nat) (w : World) (s : Sr) (g : Fn) (b : Nat) (x : Is) (W : World) : Prop where
  i : FI R bs va vc w s g W
  bx : W.heap[b]? = some (.cells (isC x) 58)
  lt : ∀ k, (Value.slice g.ca g.code.length g.cc).ownBlock = some k → k < b
  ge : w.heap.size + 2 ≤ b
theorem FI.box (h : FI R bs va vc w s g W) (x : Is) : FX R bs va vc w s g W.heap.size x (W.alloc (.cells (isC x) 58)) :=
  ⟨h.stay (Below.one (Below.refl _ W) _), heap_alloc_new W _, fun k hk => own_below h.o.2 k hk, h.ge⟩
theorem FX.read {b : Nat} {x : Is} (h : FX R bs va vc w s g b x W) (hr : RdAt 67 R bs va vc s' W') (ho : OnlyB R W W') : FX R bs va vc w s' g b x W' :=
  ⟨h.i.read hr ho, ho.blk h.bx (by have := h.i.lR; have := h.ge; omega), h.lt, h.ge⟩
theorem FX.put {b : Nat} {x x' : Is} (h : FX R bs va vc w s g b x W) {j : Nat} {u : Value} (he : (isC x).setIfInBounds j u = isC x') : FX R bs va vc w s g b x' (W.setCell ⟨b, j, none⟩ u) := by
  have h1 := h.i
  have h2 := h.ge
  refine ⟨⟨h1.rd.set (by have := h1.lR; omega) (fun a e => by have := h1.lv a e; omega) j u, h1.ob.put (by omega) j u, (Below.heap_setCell _ _ _ _ (by simp only; omega)).trans h1.z, (Below.heap_setCell _ _ _ _ (by simp only; omega)).trans h1.f, ⟨own_set h1.o.1 h.bx (by decide) j u, own_off h1.o.2 h.lt j u⟩, h1.lR, h1.lv⟩, ?_, h.lt, h2⟩
  rw [← he]; exact heap_setCell_same W _ j _ _ u h.bx
/-- A field of the function is written. -/
theorem FI.put (h : FI R bs va vc w s g W) {j : Nat} {u : Value} (he : (fnC g).setIfInBounds j u = fnC g') (ho : OwnF W w.heap.size g') : FI R bs va vc w s g' (W.setCell ⟨w.heap.size + 1, j, none⟩ u) :=
  ⟨h.rd.set (by have := h.lR; omega) (fun a e => by have := h.lv a e; omega) j u, h.ob.put (by omega) j u, (Below.heap_setCell _ _ _ _ (by simp only; omega)).trans h.z, by rw [← he]; exact heap_setCell_same W _ j _ _ u h.f, ⟨own_set ho.1 h.f (by decide) j u, own_set ho.2 h.f (by decide) j u⟩, h.lR, h.lv⟩
/-- Bytes of the call's own grow. -/
theorem FI.bytes (h : FI R bs va vc w s g W) {n : Nat} {v : Value} {xs : List Value} (hv : W.ownsRow w.heap.size 5 1 v n xs) (hg : W.grownBy W' v.ownBlock) : FI R bs va vc w s g W' :=
  ⟨h.rd.grown hv h.lR h.lv hg, h.ob.grown hv (Nat.le_refl _) hg, grown_other hv hg h.z (by decide), grown_other hv hg h.f (by decide), ⟨h.o.1.kept hg (own_ne h.o.1 hv (by decide)), h.o.2.kept hg (own_ne h.o.2 hv (by decide))⟩, h.lR, h.lv⟩
/-- A span is put behind the spans. -/
theorem FI.span (h : FI R bs va vc w s g W) (x : Sp) (hl : g.params.length ≤ 1000) (ty : TypeId) :
    ∃ v' W', (Builtin.append_ #[42, 42] ty #[.slice g.pa g.params.length g.pc, .slice (some ⟨W.heap.size, 0, none⟩) 1 1]).run Tryd.prog (W.alloc (.cells #[.int .i64 x.1, .int .i64 x.2] 56)) = .ok v' W' ∧
      ∃ pa' pc', v' = .slice pa' (g.params.length + 1) pc' ∧ W'.cell? ⟨w.heap.size + 1, 1, none⟩ = some (.slice g.pa g.params.length g.pc) ∧ W'.frozen? ⟨w.heap.size + 1, 1, none⟩ = false ∧ FI R bs va vc w s { g with pa := pa', pc := pc', params := g.params ++ [x] } (W'.setCell ⟨w.heap.size + 1, 1, none⟩ v') := by
  have bo := Below.one (Below.refl _ W) (.cells #[.int .i64 x.1, .int .i64 x.2] 56)
  have h1 := h.stay bo
  obtain ⟨i0, hi, hz0, hz1, hz2⟩ := info_parts Tryd.infoP
  obtain ⟨v', W', hr, h2, h3⟩ := run_append_ownS (P := Tryd.prog) (W.alloc (.cells #[.int .i64 x.1, .int .i64 x.2] 56)) w.heap.size 42 ty 56 i0 _ 2 16 Tryd.underlying42 hi hz0 hz1 hz2 rfl (by decide) _ _ _ h1.o.1 (some ⟨W.heap.size, 0, none⟩) 1 1 (spC x) rfl (by simp) (fun a e => by cases e; exact newsT W 56 (spC x)) (by intro u hu; simp [spC] at hu; rcases hu with rfl | rfl <;> rfl) (by unfold maxLen; omega) (by omega) (by have := h1.ge; omega)
  refine ⟨v', W', hr, ?_⟩
  obtain ⟨pa', pc', rfl⟩ := gown_form h2
  have hz := grown_other h1.o.1 h3 h1.z (by decide)
  have hf := grown_other h1.o.1 h3 h1.f (by decide)
  have hrd := h1.rd.grown h1.o.1 h.lR h.lv h3
  have hob := h1.ob.grown h1.o.1 (Nat.le_refl _) h3
  have hc2 := h1.o.2.kept h3 (own_ne h1.o.2 h1.o.1 (by decide))
  refine ⟨pa', pc', rfl, cell_of_obj hf rfl, Lib.frozen_of_heap hf 1, ?_⟩
  refine ⟨hrd.set (by have := h.lR; omega) (fun a e => by have := h.lv a e; omega) _ _, hob.put (by omega) _ _, (Below.heap_setCell _ _ _ _ (by simp only; omega)).trans hz, ?_, ⟨own_set (by rw [List.length_append, List.flatMap_append]; simpa using h2) hf (by decide) _ _, own_set hc2 hf (by decide) _ _⟩, h.lR, h.lv⟩
  have := heap_setCell_same W' _ 1 _ _ (.slice pa' (g.params.length + 1) pc') hf
  rw [this]
  simp [fnC]
/-- An instruction is put behind the code. -/
theorem FI.ins (h : FI R bs va vc w s g W) (x : Is) (hl : g.code.length ≤ 10000) (ty : TypeId) :
    ∃ v' W', (Builtin.append_ #[43, 43] ty #[.slice g.ca g.code.length g.cc, .slice (some ⟨W.heap.size, 0, none⟩) 1 1]).run Tryd.prog (W.alloc (.cells (isC x) 58)) = .ok v' W' ∧
      ∃ pa' pc', v' = .slice pa' (g.code.length + 1) pc' ∧ W'.cell? ⟨w.heap.size + 1, 4, none⟩ = some (.slice g.ca g.code.length g.cc) ∧ W'.frozen? ⟨w.heap.size + 1, 4, none⟩ = false ∧ FI R bs va vc w s { g with ca := pa', cc := pc', code := g.code ++ [x] } (W'.setCell ⟨w.heap.size + 1, 4, none⟩ v') := by
  have bo := Below.one (Below.refl _ W) (.cells (isC x) 58)
  have h1 := h.stay bo
  obtain ⟨i0, hi, hz0, hz1, hz2⟩ := info_parts Tryd.infoX
  obtain ⟨v', W', hr, h2, h3⟩ := run_append_ownS (P := Tryd.prog) (W.alloc (.cells (isC x) 58)) w.heap.size 43 ty 58 i0 _ 5 40 Tryd.underlying43 hi hz0 hz1 hz2 rfl (by decide) _ _ _ h1.o.2 (some ⟨W.heap.size, 0, none⟩) 1 1 x.cells rfl (by simp) (fun a e => by cases e; exact newsT W 58 x.cells) (by intro u hu; simp [Is.cells] at hu; rcases hu with rfl | rfl | rfl | rfl | rfl <;> rfl) (by unfold maxLen; omega) (by omega) (by have := h1.ge; omega)
  refine ⟨v', W', hr, ?_⟩
  obtain ⟨pa', pc', rfl⟩ := gown_form h2
  have hz := grown_other h1.o.2 h3 h1.z (by decide)
  have hf := grown_other h1.o.2 h3 h1.f (by decide)
  have hrd := h1.rd.grown h1.o.2 h.lR h.lv h3
  have hob := h1.ob.grown h1.o.2 (Nat.le_refl _) h3
  have hc2 := h1.o.1.kept h3 (own_ne h1.o.1 h1.o.2 (by decide))
  refine ⟨pa', pc', rfl, cell_of_obj hf rfl, Lib.frozen_of_heap hf 4, ?_⟩
  refine ⟨hrd.set (by have := h.lR; omega) (fun a e => by have := h.lv a e; omega) _ _, hob.put (by omega) _ _, (Below.heap_setCell _ _ _ _ (by simp only; omega)).trans hz, ?_, ⟨own_set hc2 hf (by decide) _ _, own_set (by rw [List.length_append, List.flatMap_append]; simpa using h2) hf (by decide) _ _⟩, h.lR, h.lv⟩
  have := heap_setCell_same W' _ 4 _ _ (.slice pa' (g.code.length + 1) pc') hf
  rw [this]
  simp [fnC]
end
end Go.Proofs.YtfamomjgjamnoaaDoor
