/- The document's own: Row.word, Row.number, Row.done. -/
import Derived.Test.YtboidkmnkicoeaaGreatDoorVb
namespace Go.Proofs.YtboidkmnkicoeaaGreatDoor
open Go.RowKit Go.Sort

def wdV (o : Option Bt) : Value := .tuple #[.string (tb (o.getD [])), .bool o.isSome]
theorem retSB {a b : ByteArray} {c : Bool} (h : a = b) : Ending.returned (.tuple #[.string a, .bool c]) = .returned (.tuple #[.string b, .bool c]) := by rw [h]
set_option maxRecDepth 100000 in
set_option maxHeartbeats 4000000 in
theorem rword_any' (R : Nat) (L : Bt) (hl : L.length ≤ 100000000) (q : Qr) (w : World) (h : RowQ R L q w) : Calls Tryz.prog 17 #[.pointer (some ⟨R, 0, none⟩)] w fun e w' => e = .returned (wdV (q.word L.length).2) ∧ RowQ R L (q.word L.length).1 w' ∧ OnlyB R w w' := by
  obtain ⟨hr, ha⟩ := h
  obtain ⟨c0, c1, c2, c3⟩ := hr.cells
  have fz := hr.frozen
  unfold Qr.word wdV
  by_cases he : q.e ≠ 0
  · rw [if_pos he]
    have hq : (q.e != 0) = true := bne_of he
    have HR : Hid (RowQ R L q w) := ⟨hr, ha⟩
    clear hr ha he
    go_enter Tryz.func17, Tryz.ntmps17
    go_wp2_with fail
    go_ret2
    exact ⟨rfl, HR.out, OnlyB.refl _ _⟩
  · rw [if_neg he]
    have he0 : q.e = 0 := by simpa using he
    obtain ⟨a, e, p, ws⟩ := q
    simp only at *
    subst he0
    clear he
    cases ws with
    | nil =>
      have hae := ha.nil
      have hsz := tb_size L
      have hq : ((a : Int) == ((tb L).size : Int)) = true := by simp only [beq_iff_eq]; omega
      have HF : Hid (RowQ R L ⟨a, 6, L.length, []⟩ ((w.drew.setCell ⟨R, 2, none⟩ (.int .i64 6)).setCell ⟨R, 3, none⟩ (.int .i64 (L.length : Int)))) := ⟨(RowA.set3 (RowA.set2 (W := w.drew) hr 6) L.length), ha⟩
      have HO : Hid (OnlyB R w ((w.drew.setCell ⟨R, 2, none⟩ (.int .i64 6)).setCell ⟨R, 3, none⟩ (.int .i64 (L.length : Int)))) := (((OnlyB.refl R w).drew).set 2 _).set 3 _
      have hs2 : (tb L).size ≤ 100000000 := by omega
      have HSZ := Hid.mk' hsz
      rw [← hsz] at HF HO
      generalize tb L = s at *
      clear hr ha hsz hl hae
      go_enter Tryz.func17, Tryz.ntmps17
      go_wp2_with fail
      have k0 : w.drew.cell? ⟨R, 0, none⟩ = some (.string s) := c0
      have k1 : w.drew.cell? ⟨R, 1, none⟩ = some (.int .i64 a) := c1
      have k2 : w.drew.cell? ⟨R, 2, none⟩ = some (.int .i64 0) := c2
      have k3 : w.drew.cell? ⟨R, 3, none⟩ = some (.int .i64 p) := c3
      have kz : ∀ j, w.drew.frozen? ⟨R, j, none⟩ = false := fz
      go_region
      clear c0 c1 c2 c3 fz
      generalize w.drew = W at *
      go_wp2_with fail
      go_ret2
      refine ⟨rfl, ?_, HO.out⟩
      rw [← HSZ.out]
      exact HF.out
    | cons v t =>
      have hlt := ha.lt
      have hln := ha.len
      have hsz := tb_size L
      have hq : ((a : Int) == ((tb L).size : Int)) = false := by simp only [beq_eq_false_iff_ne]; omega
      have HF : Hid (RowQ R L ⟨a + 1 + v.length, 0, p, t⟩ (w.drew.setCell ⟨R, 1, none⟩ (.int .i64 ((a + 1 + v.length : Nat) : Int)))) := ⟨(RowA.set1 (W := w.drew) hr _), ha.next⟩
      have HO : Hid (OnlyB R w (w.drew.setCell ⟨R, 1, none⟩ (.int .i64 ((a + 1 + v.length : Nat) : Int)))) := ((OnlyB.refl R w).drew).set 1 _
      have hex : (tb L).extract (a + 1) (a + 1 + v.length) = tb v := by
        rw [ext_tb]; congr 1; unfold cutB; rw [tb_list, show a + 1 + v.length - (a + 1) = v.length by omega]; exact ha.cut
      have HX := Hid.mk' hex
      have HA : Hid (∀ k (h : k < L.length), a + 1 ≤ k → k < a + 1 + v.length → L[k].toNat ≠ 32) := fun k h h1 h2 => ha.at h1 h2 h
      have HS : Hid (∀ h : a + 1 + v.length < L.length, L[a + 1 + v.length].toNat = 32) := fun h => ha.stop h
      obtain ⟨s, hs⟩ : ∃ s, s = tb L := ⟨_, rfl⟩
      have HK : Hid (∀ k (h : k < L.length) (h' : k < s.size), (s[k]'h').toNat = L[k].toNat) := by intro k h h'; subst hs; rfl
      rw [← hs] at hsz hq HX c0
      have HSZ := Hid.mk' hsz
      have hs2 : s.size ≤ 100000000 := by omega
      have hvl : a + 1 + v.length ≤ s.size := by omega
      have w1 : IntKind.i64.wrap ((a : Int) + 1) = ((a + 1 : Nat) : Int) := by rw [IntKind.wrap_i64]; omega
      have k0 : w.drew.cell? ⟨R, 0, none⟩ = some (.string s) := c0
      have k1 : w.drew.cell? ⟨R, 1, none⟩ = some (.int .i64 a) := c1
      have k2 : w.drew.cell? ⟨R, 2, none⟩ = some (.int .i64 0) := c2
      have kz : ∀ j, w.drew.frozen? ⟨R, j, none⟩ = false := fz
      clear hex hs hsz hr ha hln hlt hl
      go_enter Tryz.func17, Tryz.ntmps17
      go_wp2_with fail
      go_region
      clear c0 c1 c2 c3 fz
      generalize w.drew = W at *
      go_wp2_with fail
      go_loopw [5] (fun i wr => ∃ k : Nat, a + 1 ≤ k ∧ k ≤ a + 1 + v.length ∧ i = .int .i64 k ∧ wr = W) (fun i _ => s.size - (intOf i).toNat)
      case atStart => exact ⟨a + 1, Nat.le_refl _, by omega, by simp, by simp⟩
      case round =>
        obtain ⟨k, hk1, hk2, rfl, rfl⟩ := hrel
        by_cases hlt : k < s.size
        · have hlt' : k < L.length := by rw [← HSZ.out]; exact hlt
          by_cases hkv : k < a + 1 + v.length
          · have c1 : ¬ (s[k]'hlt).toNat = 32 := by rw [HK.out k hlt' hlt]; exact HA.out k hlt' hk1 hkv
            have c2 : ((s[k]'hlt).toNat != 32) = true := by simpa using c1
            have c3 : (((s[k]'hlt).toNat : Int) != 32) = true := by simp only [bne_iff_ne]; omega
            go_wp2_with fail
            go_roundw
            case rel => exact ⟨k + 1, by omega, by omega, by go_num, by simp⟩
            case measure => simp [intOf]; omega
          · obtain rfl : k = a + 1 + v.length := by omega
            have c1 : (s[a + 1 + v.length]'hlt).toNat = 32 := by rw [HK.out _ hlt' hlt]; exact HS.out hlt'
            have c2 : ((s[a + 1 + v.length]'hlt).toNat != 32) = false := by simpa using c1
            have c3 : (((s[a + 1 + v.length]'hlt).toNat : Int) != 32) = false := by simp only [bne_eq_false_iff_eq]; omega
            clear c1
            generalize hK : a + 1 + v.length = k at *
            go_wp2_with fail
            go_ret2
            exact ⟨retSB HX.out, by rw [hK]; exact HF.out, HO.out⟩
        · obtain rfl : k = a + 1 + v.length := by omega
          generalize hK : a + 1 + v.length = k at *
          go_wp2_with fail
          go_ret2
          exact ⟨retSB HX.out, by rw [hK]; exact HF.out, HO.out⟩
theorem Qr.num_word (n : Nat) (q : Qr) : (q.word n).2 = none → q.num n = ((q.word n).1, none) := by
  unfold Qr.word Qr.num
  by_cases he : q.e ≠ 0
  · rw [if_pos he, if_pos he]; exact fun _ => rfl
  · rw [if_neg he, if_neg he]
    cases q.ws with
    | nil => exact fun _ => rfl
    | cons v t => intro h; cases h
theorem Qr.word_some {n : Nat} {q : Qr} {v : Bt} (h : (q.word n).2 = some v) : q.e = 0 ∧ ∃ t, q.ws = v :: t ∧ (q.word n).1 = ⟨q.a + 1 + v.length, 0, q.p, t⟩ := by
  unfold Qr.word at *
  by_cases he : q.e ≠ 0
  · rw [if_pos he] at h; cases h
  · rw [if_neg he] at h ⊢
    cases hw : q.ws with
    | nil => rw [hw] at h; cases h
    | cons u t =>
      rw [hw] at h
      injection h with h
      subst h
      exact ⟨by simpa using he, t, rfl, rfl⟩
set_option maxRecDepth 100000 in
set_option maxHeartbeats 4000000 in
theorem rnum_any (R : Nat) (L : Bt) (hl : L.length ≤ 100000000) (q : Qr) (w : World) (h : RowQ R L q w) : Calls Tryz.prog 16 #[.pointer (some ⟨R, 0, none⟩)] w fun e w' => ∃ v : Int, I64 v ∧ e = .returned (.int .i64 v) ∧ (∀ z, (q.num L.length).2 = some z → v = z) ∧ RowQ R L (q.num L.length).1 w' ∧ OnlyB R w w' := by
  have HW := Hid.mk' (rword_any' R L hl q w h)
  have HA := Hid.mk' h.2
  cases hw : (q.word L.length).2 with
  | none =>
    have HN := Hid.mk' (Qr.num_word L.length q hw)
    rw [hw] at HW
    clear hw h hl
    go_enter Tryz.func16, Tryz.ntmps16
    go_wp2_with fail
    refine HW.out.mono ?_
    rintro e W1 ⟨rfl, hr1, ho1⟩
    unfold wdV
    go_wp2_with fail
    go_ret
    refine ⟨0, by unfold I64; omega, rfl, ?_, ?_, ho1⟩
    · rw [HN.out]; intro z hz; cases hz
    · rw [HN.out]; exact hr1
  | some v =>
    obtain ⟨he, t, hws, hq1⟩ := Qr.word_some hw
    have hAv := HA.out
    rw [hws] at hAv
    have hlen := hAv.len
    have HN := Hid.mk' (rNumber_any v (by omega))
    have hnum : q.num L.length = match numB v with | none => (⟨q.a + 1 + v.length, 11, q.a + 1, t⟩, none) | some z => (⟨q.a + 1 + v.length, 0, q.p, t⟩, some z) := by
      unfold Qr.num; rw [if_neg (by simpa using he), hws]; rfl
    rw [hw, hq1] at HW
    rw [hnum]
    have hvs : (tb v).size = v.length := tb_size v
    generalize hT : tb v = T at *
    have ha : q.a ≤ 100000000 := by have := hAv.le; omega
    generalize hqa : q.a = A at *
    cases hnb : numB v with
    | none =>
      rw [hnb] at HN
      have HL := Hid.mk' hvs
      have hT2 : T.size ≤ 100000000 := by omega
      have hs1 : IntKind.i64.wrap (((A + 1 + v.length : Nat) : Int) - (T.size : Int)) = ((A + 1 : Nat) : Int) := by rw [IntKind.wrap_i64, hvs]; omega
      have hs2 : wrap64 (((A + 1 + v.length : Nat) : Int) - (T.size : Int)) = ((A + 1 : Nat) : Int) := by unfold wrap64; rw [hvs]; omega
      have hs3 : IntKind.i64.wrap ((A : Int) + 1 + (v.length : Int) - (T.size : Int)) = ((A + 1 : Nat) : Int) := by rw [IntKind.wrap_i64, hvs]; omega
      have hs4 : wrap64 ((A : Int) + 1 + (v.length : Int) - (T.size : Int)) = ((A + 1 : Nat) : Int) := by unfold wrap64; rw [hvs]; omega
      clear hw hl h hlen hAv hnum hws hq1 hvs
      go_enter Tryz.func16, Tryz.ntmps16
      go_wp2_with fail
      refine HW.out.mono ?_
      rintro e W1 ⟨rfl, hr1, ho1⟩
      unfold wdV
      simp only [Option.getD_some, Option.isSome_some, hT]
      obtain ⟨c0, c1, c2, c3⟩ := hr1.1.cells
      have fz := hr1.1.frozen
      have HR1 := Hid.mk' hr1
      have HO1 := Hid.mk' ho1
      simp only at c0 c1 c2 c3
      clear hr1 ho1 HW hT
      go_wp2_with (go_at_call 33; refine (HN.out _).mono ?_; rintro e W2 ⟨u, hu, rfl, hun, rfl⟩; simp only [Option.isSome_none])
      go_ret
      refine ⟨u, hu, rfl, fun z hz => (by cases hz), ⟨?_, HR1.out.2⟩, (HO1.out.set 2 _).set 3 _⟩
      exact (HR1.out.1.set2 11).set3 (A + 1)
    | some z =>
      rw [hnb] at HN
      clear hw hl h hlen hAv hnum hws hq1 hvs
      go_enter Tryz.func16, Tryz.ntmps16
      go_wp2_with fail
      refine HW.out.mono ?_
      rintro e W1 ⟨rfl, hr1, ho1⟩
      unfold wdV
      simp only [Option.getD_some, Option.isSome_some, hT]
      have HR1 := Hid.mk' hr1
      have HO1 := Hid.mk' ho1
      clear hr1 ho1 HW hT
      go_wp2_with (go_at_call 33; refine (HN.out _).mono ?_; rintro e W2 ⟨u, hu, rfl, hun, rfl⟩; simp only [Option.isSome_some]; have huz := hun z rfl; subst huz; clear hun)
      go_ret
      exact ⟨u, hu, rfl, fun z' hz => (by injection hz), HR1.out, HO1.out⟩
set_option maxRecDepth 100000 in
set_option maxHeartbeats 4000000 in
theorem rdone_any (R : Nat) (L : Bt) (hl : L.length ≤ 100000000) (q : Qr) (b : Bool) (w : World) (h : RowQ R L q w) : Calls Tryz.prog 19 #[.pointer (some ⟨R, 0, none⟩), .bool b] w fun e w' => e = .returned (.tuple #[]) ∧ RowQ R L (q.done L.length b) w' ∧ OnlyB R w w' := by
  obtain ⟨hr, ha⟩ := h
  obtain ⟨c0, c1, c2, c3⟩ := hr.cells
  have fz := hr.frozen
  have hsz := tb_size L
  have HR : Hid (RowQ R L q w.drew) := ⟨hr, ha⟩
  have HO : Hid (OnlyB R w w.drew) := (OnlyB.refl R w).drew
  have hu : undef = Value.tuple #[] := rfl
  have hs2 : (tb L).size ≤ 100000000 := by omega
  have HSZ := Hid.mk' hsz
  have k0 : w.drew.cell? ⟨R, 0, none⟩ = some (.string (tb L)) := c0
  have k1 : w.drew.cell? ⟨R, 1, none⟩ = some (.int .i64 q.a) := c1
  have k2 : w.drew.cell? ⟨R, 2, none⟩ = some (.int .i64 q.e) := c2
  have k3 : w.drew.cell? ⟨R, 3, none⟩ = some (.int .i64 q.p) := c3
  have kz : ∀ j, w.drew.frozen? ⟨R, j, none⟩ = false := fz
  clear c0 c1 c2 c3 fz
  unfold Qr.done
  by_cases he : q.e ≠ 0
  · rw [if_pos he]
    have hq : (q.e == 0) = false := beq_no he
    clear hr ha he hsz
    generalize tb L = s at *
    go_enter Tryz.func19, Tryz.ntmps19
    go_wp2_with fail
    go_region
    generalize w.drew = W at *
    go_wp2_with fail
    go_end0
    exact ⟨rfl, HR.out, HO.out⟩
  · rw [if_neg he]
    have he0 : q.e = 0 := by simpa using he
    obtain ⟨a, e, p, ws⟩ := q
    simp only at *
    subst he0
    clear he
    cases ws with
    | cons v t =>
      have hlt := ha.lt
      have hlt2 : a < (tb L).size := by omega
      have hq1 : decide ((a : Int) < ((tb L).size : Int)) = true := decide_eq_true (by omega)
      have hq2 : decide (a < (tb L).size) = true := decide_eq_true hlt2
      rw [if_pos (by simp)]
      clear hr ha hsz hlt
      generalize tb L = s at *
      go_enter Tryz.func19, Tryz.ntmps19
      go_wp2_with fail
      go_region
      generalize w.drew = W at *
      go_wp2_with fail
      go_end0
      exact ⟨rfl, ⟨(HR.out.1.set2 7).set3 a, HR.out.2⟩, (HO.out.set 2 _).set 3 _⟩
    | nil =>
      have hae := ha.nil
      have hlt2 : ¬ a < (tb L).size := by omega
      have hq1 : decide ((a : Int) < ((tb L).size : Int)) = false := decide_eq_false (by omega)
      have hq2 : decide (a < (tb L).size) = false := decide_eq_false hlt2
      rw [if_neg (by simp)]
      have HFN : Hid (RowQ R L ⟨a, 6, L.length, []⟩ ((w.drew.setCell ⟨R, 2, none⟩ (.int .i64 6)).setCell ⟨R, 3, none⟩ (.int .i64 (L.length : Int)))) := ⟨(HR.out.1.set2 6).set3 L.length, HR.out.2⟩
      rw [← hsz] at HFN
      have HE := Hid.mk' hsz
      clear hr ha hsz hae
      generalize tb L = s at *
      cases b
      · rw [if_neg (by simp), ← HE.out]
        go_enter Tryz.func19, Tryz.ntmps19
        go_wp2_with fail
        go_region
        generalize w.drew = W at *
        go_wp2_with fail
        go_end0
        exact ⟨rfl, HFN.out, (HO.out.set 2 _).set 3 _⟩
      · rw [if_pos rfl]
        go_enter Tryz.func19, Tryz.ntmps19
        go_wp2_with fail
        go_region
        generalize w.drew = W at *
        go_wp2_with fail
        go_end0
        exact ⟨rfl, HR.out, HO.out⟩
end Go.Proofs.YtboidkmnkicoeaaGreatDoor
