/- Bounds: a way told, of a module that may be. -/
import Derived.Test.YtfmkjdfidenfkaaDoorUq
import Derived.Test.YtfmkjdfidenfkaaDoorZap
namespace Go.Proofs.YtfmkjdfidenfkaaDoor
open Go.RowKit
open S8 (emB sv)

set_option maxRecDepth 100000 in
set_option maxHeartbeats 8000000 in
theorem edge_yes (m : Mo) (n : Nat) (fr gt : Int) (l : List Sp) (a : Option Addr) (c : Nat) (w : World) (ht : Tab w) (hm : m.In w) (hs : Sps w a l) (hso : RgOk l) (hno : (mayZ m).1 = 0) (hn : n < m.funcs.length) : Calls Tryd.prog 16 #[m.val, .int .i64 (n : Int), .int .i64 fr, .int .i64 gt, .slice a l.length c] w (EgP (edZ m n fr gt l) w) := by
  have hfi : m.funcs[n]? = some m.funcs[n] := List.getElem?_eq_getElem hn
  have hfok := fn_ok hno hfi
  have hed : edZ m n fr gt l = if (l.length : Int) ≠ m.funcs[n].regs ∨ l.any emB = true ∨ hasZ (nxZ m.funcs[n].code fr) gt = false then none
    else match m.funcs[n].code[fr.toNat]? with
    | none => none
    | some x => if (psZ m m.funcs[n] x fr.toNat gt.toNat l).1 then some (psZ m m.funcs[n] x fr.toNat gt.toNat l).2 else none := by
    unfold edZ
    rw [if_neg (by omega), Int.toNat_natCast, hfi]
    rfl
  have hfin := hm.2.2.2 m.funcs[n] (List.getElem_mem hn)
  have HMAY : Hid (∀ W, Below w.heap.size w W → Calls Tryd.prog 19 #[m.val] W fun e w' => e = .returned (fltV (mayZ m)) ∧ Below W.heap.size W w') := fun W hW => may_any m W (ht.stay hW) (hm.stay hW)
  have HFN : Hid (∀ W, Below w.heap.size w W → ∃ b o, m.fa = some ⟨b, o, none⟩ ∧ W.cell? ⟨b, o + n * 5, none⟩ = some (.string m.funcs[n].name) ∧ W.cell? ⟨b, o + n * 5 + 1, none⟩ = some (.slice m.funcs[n].pa m.funcs[n].params.length m.funcs[n].pc) ∧ W.cell? ⟨b, o + n * 5 + 2, none⟩ = some (.int .i64 m.funcs[n].regs) ∧ W.cell? ⟨b, o + n * 5 + 3, none⟩ = some (.int .i64 m.funcs[n].words) ∧ W.cell? ⟨b, o + n * 5 + 4, none⟩ = some (.slice m.funcs[n].ca m.funcs[n].code.length m.funcs[n].cc)) := fun W hW => fns_at (hm.stay hW).2.2.1 hn
  have HCE : Hid (∀ W, Below w.heap.size w W → Calls Tryd.prog 35 #[.slice a l.length c, .func (.func 36) #[] #[]] W fun e w' => e = .returned (.bool (l.any emB)) ∧ Below W.heap.size W w') := fun W hW => containsE_any l a c W (hs.stay hW)
  have HNX : Hid (∀ W, Below w.heap.size w W → Calls Tryd.prog 38 #[m.funcs[n].val, .int .i64 fr] W (NxP (nxZ m.funcs[n].code fr) W)) := fun W hW => next_any m.funcs[n] fr W (hfin.2.2.2.2.2.1.stay hW)
  have HPS : Hid (∀ (i k : Nat) (x : Is), m.funcs[n].code[i]? = some x → (l.length : Int) = m.funcs[n].regs → ∀ (G : Nat) (W : World), Below w.heap.size w W → w.heap.size ≤ G → RgB W G l → Calls Tryd.prog 40 #[.slice (some ⟨G, 0, none⟩) l.length l.length, m.val, m.funcs[n].val, .int .i64 i, .int .i64 k] W (RgP W G (psZ m m.funcs[n] x i k l).2 (psZ m m.funcs[n] x i k l).1)) := by
    intro i k x hx hl G W hW hG hR
    have hr := hfok.regs
    refine pass_any m m.funcs[n] x i k l G l.length hx (hfok.ins i x hx) (hfin.2.2.2.2.2.2 x (List.mem_of_getElem? hx)) hfok.len.2 hfok.words.1 hfok.words.2 hl (by omega) hso W (hm.stay hW) (hfin.stay hW) ?_ ?_ ?_ hR
    · obtain ⟨b, o, e, c0, -⟩ := fns_at hm.2.2.1 hn
      intro ad ha
      rw [e] at ha
      injection ha with ha
      subst ha
      have := S8.lt_of_cell c0
      simp only at this ⊢
      omega
    · obtain ⟨b, o, e, c0, -⟩ := iss_at hfin.2.2.2.2.2.1 (i := 0) (by have := hfok.len; omega)
      intro ad ha
      rw [e] at ha
      injection ha with ha
      subst ha
      have := S8.lt_of_cell c0
      simp only at this ⊢
      omega
    · intro h hh hne ad ha
      obtain ⟨b, o, e, c0, -⟩ := sps_at (hm.2.2.2 h hh).2.2.2.1 (i := 0) (by rcases hp : h.params with _ | ⟨p, ps⟩; exact absurd hp hne; simp)
      rw [e] at ha
      injection ha with ha
      subst ha
      have := S8.lt_of_cell c0
      simp only at this ⊢
      omega
  have HCP : Hid ((l.length : Int) = m.funcs[n].regs → ∀ W, Below w.heap.size w W → Calls Tryd.prog 39 #[.slice a l.length c] W (CpR l W)) := fun hl W hW => by
    have hr := hfok.regs
    exact copied_any l a c (by omega) (by omega) W (hs.stay hW)
  have B := Below.one (Below.refl _ w) (.cells #[.slice m.ta m.ths.length m.tc, .slice m.fa m.funcs.length m.fc] 25)
  have hM := heap_alloc_new w (.cells #[.slice m.ta m.ths.length m.tc, .slice m.fa m.funcs.length m.fc] 25)
  have hff := fld_flt
  obtain ⟨E, hE⟩ : ∃ E, edZ m n fr gt l = E := ⟨_, rfl⟩
  rw [hE]
  rw [hE] at hed
  have HED := Hid.mk' hed
  clear hed hE
  have HMV : m.val = .agg #[.slice m.ta m.ths.length m.tc, .slice m.fa m.funcs.length m.fc] := rfl
  rw [HMV] at HMAY HPS ⊢
  have hfl : m.funcs.length < 4611686018427387904 := by have := hm.2.2.1.1; omega
  have q1 : ((mayZ m).1 != 0) = false := bne_no hno
  have q2 : decide ((n : Int) < 0) = false := decide_eq_false (by omega)
  have q3 : decide ((m.funcs.length : Int) ≤ (n : Int)) = false := decide_eq_false (by omega)
  have q4 : decide (m.funcs.length ≤ n) = false := decide_eq_false (by omega)
  have hni : (n : Int) < (m.funcs.length : Int) := by omega
  have m0 := cell_of_obj hM (j := 0) (v := .slice m.ta m.ths.length m.tc) rfl
  have m1 := cell_of_obj hM (j := 1) (v := .slice m.fa m.funcs.length m.fc) rfl
  have HB := Hid.mk' B
  have HMB := Hid.mk' hM
  unfold fltV at HMAY
  clear hM B hfok hfin hs hso hm ht hfi
  generalize mayZ m = mz at *
  generalize hfv : m.funcs[n] = f at *
  obtain ⟨ta, tc, ths, fa, fc, funcs⟩ := m
  go_enter Tryd.func16, Tryd.ntmps16
  go_upto_region 1 with fail
  generalize w.alloc (.cells #[.slice ta ths.length tc, .slice fa funcs.length fc] 25) = W at *
  go_upto_region 3 with (go_at_call 19; refine (HMAY.out _ HB.out).mono ?_; rintro e w5 ⟨rfl, hb5⟩; have n0 := cell_kept_below m0 hb5; have n1 := cell_kept_below m1 hb5; have HB5 := Hid.mk' (Below.on HB.out hb5); have HW5 := Hid.mk' (hb5.block w.heap.size (Array.getElem?_eq_some_iff.1 HMB.out).1))
  obtain ⟨fb, fo, efa, d0, d1, d2, d3, d4⟩ := HFN.out _ HB5.out
  subst efa
  obtain ⟨nm, pa, pc, params, regs, words, ca, cc, code⟩ := f
  have hni2 : (n : Int) < (funcs.length : Int) := hni
  go_upto_region 4 with fail
  have B6 := Below.one (Below.refl _ w5) (.cells #[.string nm, .slice pa params.length pc, .int .i64 regs, .int .i64 words, .slice ca code.length cc] 37)
  have hF := heap_alloc_new w5 (.cells #[.string nm, .slice pa params.length pc, .int .i64 regs, .int .i64 words, .slice ca code.length cc] 37)
  have HBX := Hid.mk' (Below.on HB5.out B6)
  have hMX := (B6.block _ (S8.lt_of_cell n0)).trans ((HW5.out).trans HMB.out)
  clear B6 d0 d1 d2 d3 d4 n0 n1 m0 m1
  generalize w5.alloc (.cells #[.string nm, .slice pa params.length pc, .int .i64 regs, .int .i64 words, .slice ca code.length cc] 37) = X at *
  have x0 := cell_of_obj hF (j := 0) (v := .string nm) rfl
  have x1 := cell_of_obj hF (j := 1) (v := .slice pa params.length pc) rfl
  have x2 := cell_of_obj hF (j := 2) (v := .int .i64 regs) rfl
  have x3 := cell_of_obj hF (j := 3) (v := .int .i64 words) rfl
  have x4 := cell_of_obj hF (j := 4) (v := .slice ca code.length cc) rfl
  have HHF := Hid.mk' hF
  have HMX := Hid.mk' hMX
  clear hF hMX q1 q2 q3 q4 hff hfl hni hni2
  by_cases c1 : (l.length : Int) ≠ regs
  · have e : E = none := HED.out.trans (if_pos (.inl c1))
    subst e
    have q : ((l.length : Int) != regs) = true := bne_of c1
    go_wp2_with fail
    exact bodyPost_ret (v := .tuple #[.slice none 0 0, .bool false]) (by simp [results, Tryd.results16, go_sem, *]) rfl ⟨HBX.out, rfl⟩
  have c1' : (l.length : Int) = regs := by simpa using c1
  have p1 : ((l.length : Int) != regs) = false := bne_no c1'
  by_cases c2 : l.any emB = true
  · have e : E = none := HED.out.trans (if_pos (.inr (.inl c2)))
    subst e
    have HCE' : Hid (∀ W, Below w.heap.size w W → Calls Tryd.prog 35 #[.slice a l.length c, .func (.func 36) #[] #[]] W fun e w' => e = .returned (.bool true) ∧ Below W.heap.size W w') := by rw [c2] at HCE; exact HCE
    clear HCE HED c2
    go_wp2_with (go_at_call 35; refine (HCE'.out _ HBX.out).mono ?_; rintro e w6 ⟨rfl, hb6⟩)
    exact bodyPost_ret (v := .tuple #[.slice none 0 0, .bool false]) (by simp [results, Tryd.results16, go_sem, *]) rfl ⟨Below.on HBX.out hb6, rfl⟩
  have c2' : l.any emB = false := by simpa using c2
  have HCE' : Hid (∀ W, Below w.heap.size w W → Calls Tryd.prog 35 #[.slice a l.length c, .func (.func 36) #[] #[]] W fun e w' => e = .returned (.bool false) ∧ Below W.heap.size W w') := by rw [c2'] at HCE; exact HCE
  clear HCE c2 c1
  have HC2 := Hid.mk' c2'
  clear c2'
  obtain ⟨L, hL⟩ : ∃ L, nxZ code fr = L := ⟨_, rfl⟩
  have hLl : L.length ≤ 1000000 := by have := nxZ_len code fr; rw [hL] at this; omega
  have HNX' : Hid (∀ W, Below w.heap.size w W → Calls Tryd.prog 38 #[.agg #[.string nm, .slice pa params.length pc, .int .i64 regs, .int .i64 words, .slice ca code.length cc], .int .i64 fr] W (NxP L W)) := by rw [← hL]; exact HNX
  have HCZ : Hid (∀ (ax : Option Addr) (cx : Nat) (W : World), Lst W ax (L.map nV) → Calls Tryd.prog 37 #[.slice ax L.length cx, .int .i64 gt] W fun e w' => e = .returned (.bool (hasZ L gt)) ∧ w' = W) := fun ax cx W h => containsZ_any L gt ax cx W h hLl
  have HL := Hid.mk' hL
  clear HNX hL hLl
  by_cases c3 : hasZ L gt = false
  · have e : E = none := HED.out.trans (if_pos (.inr (.inr (by show hasZ (nxZ code fr) gt = false; rw [HL.out]; exact c3))))
    subst e
    have HCZ' := HCZ
    rw [c3] at HCZ'
    clear HCZ HED c3 HL
    go_wp2_with (first | (go_at_call 35; refine (HCE'.out _ HBX.out).mono ?_; rintro e w6 ⟨rfl, hb6⟩; have z0 := cell_kept_below x0 hb6; have z1 := cell_kept_below x1 hb6; have z2 := cell_kept_below x2 hb6; have z3 := cell_kept_below x3 hb6; have z4 := cell_kept_below x4 hb6) | (go_at_call 38; refine (HNX'.out _ (Below.on HBX.out hb6)).mono ?_; rintro e w7 ⟨v7, rfl, on7, hb7⟩; obtain ⟨na, nc, rfl⟩ := gown_form on7) | (go_at_call 37; refine (HCZ'.out _ _ _ (own_lst on7)).mono ?_; rintro e w8 ⟨rfl, rfl⟩))
    exact bodyPost_ret (v := .tuple #[.slice none 0 0, .bool false]) (by simp [results, Tryd.results16, go_sem, *]) rfl ⟨Below.on (Below.on HBX.out hb6) hb7, rfl⟩
  have c3' : hasZ L gt = true := by simpa using c3
  obtain ⟨k, hk, rfl⟩ := (hasZ_iff L gt).1 c3'
  have hk' : k ∈ nxZ code fr := by rw [HL.out]; exact hk
  have hfr : 0 ≤ fr ∧ fr < code.length := by
    rcases Int.lt_or_le fr 0 with h | h
    · rw [nxZ_none (.inl h)] at hk'; cases hk'
    · rcases Int.lt_or_le fr code.length with h2 | h2
      · exact ⟨h, h2⟩
      · rw [nxZ_none (.inr h2)] at hk'; cases hk'
  obtain ⟨i, rfl⟩ := Int.eq_ofNat_of_zero_le hfr.1
  have hil : i < code.length := by omega
  have hx : code[i]? = some code[i] := List.getElem?_eq_getElem hil
  have he2 : E = match code[((i : Nat) : Int).toNat]? with
    | none => none
    | some x => if (psZ ⟨ta, tc, ths, some ⟨fb, fo, none⟩, fc, funcs⟩ ⟨nm, pa, pc, params, regs, words, ca, cc, code⟩ x ((i : Nat) : Int).toNat ((k : Nat) : Int).toNat l).1 then some (psZ ⟨ta, tc, ths, some ⟨fb, fo, none⟩, fc, funcs⟩ ⟨nm, pa, pc, params, regs, words, ca, cc, code⟩ x ((i : Nat) : Int).toNat ((k : Nat) : Int).toNat l).2 else none := HED.out.trans (if_neg (by
      rintro (h | h | h)
      · exact h c1'
      · rw [HC2.out] at h; cases h
      · have h' : hasZ (nxZ code (i : Int)) (k : Int) = false := h
        rw [HL.out, c3'] at h'; cases h'))
  rw [Int.toNat_natCast, Int.toNat_natCast, hx] at he2
  simp only at he2
  have HPS' := Hid.mk' (HPS.out i k code[i] hx c1')
  have HCP' := Hid.mk' (HCP.out c1')
  have hpl := psZ_len ⟨ta, tc, ths, some ⟨fb, fo, none⟩, fc, funcs⟩ ⟨nm, pa, pc, params, regs, words, ca, cc, code⟩ code[i] i k l
  obtain ⟨R, hR⟩ : ∃ R, psZ ⟨ta, tc, ths, some ⟨fb, fo, none⟩, fc, funcs⟩ ⟨nm, pa, pc, params, regs, words, ca, cc, code⟩ code[i] i k l = R := ⟨_, rfl⟩
  rw [hR] at HPS' he2 hpl
  rw [c3'] at HCZ
  have HE2 := Hid.mk' he2
  have HPL := Hid.mk' hpl
  clear HPS HCP HED c3 c3' hk hk' hfr hx he2 hR hpl HL hil
  have y0 := cell_of_obj HMX.out (j := 0) (v := .slice ta ths.length tc) rfl
  have y1 := cell_of_obj HMX.out (j := 1) (v := .slice (some ⟨fb, fo, none⟩) funcs.length fc) rfl
  obtain ⟨Rb, Rl⟩ := R
  simp only at HPS' HE2 HPL
  cases Rb
  · have e : E = none := HE2.out
    subst e
    go_wp2_with (first | (go_at_call 35; refine (HCE'.out _ HBX.out).mono ?_; rintro e w6 ⟨rfl, hb6⟩; have z0 := cell_kept_below x0 hb6; have z1 := cell_kept_below x1 hb6; have z2 := cell_kept_below x2 hb6; have z3 := cell_kept_below x3 hb6; have z4 := cell_kept_below x4 hb6; have HB6 := Hid.mk' (Below.on HBX.out hb6)) | (go_at_call 38; refine (HNX'.out _ HB6.out).mono ?_; rintro e w7 ⟨v7, rfl, on7, hb7⟩; obtain ⟨na, nc, rfl⟩ := gown_form on7; have HB7 := Hid.mk' (Below.on HB6.out hb7); have HLS := Hid.mk' (own_lst on7); clear on7) | (go_at_call 37; refine (HCZ.out _ _ _ HLS.out).mono ?_; rintro e w8 ⟨rfl, rfl⟩) | (go_at_call 39; refine (HCP'.out _ HB7.out).mono ?_; rintro e w9 ⟨G, rfl, hG, hR9, hb9⟩; have HB9 := Hid.mk' (Below.on HB7.out hb9); have u0 := cell_kept_below (cell_kept_below z0 hb7) hb9; have u1 := cell_kept_below (cell_kept_below z1 hb7) hb9; have u2 := cell_kept_below (cell_kept_below z2 hb7) hb9; have u3 := cell_kept_below (cell_kept_below z3 hb7) hb9; have u4 := cell_kept_below (cell_kept_below z4 hb7) hb9; have v0 := cell_kept_below (cell_kept_below (cell_kept_below y0 hb6) hb7) hb9; have v1 := cell_kept_below (cell_kept_below (cell_kept_below y1 hb6) hb7) hb9; have HG := Hid.mk' (Nat.le_trans HB7.out.size hG); have HR9 := Hid.mk' hR9; clear hG hR9) | (go_at_call 40; refine (HPS'.out _ _ HB9.out HG.out HR9.out).mono ?_; rintro e w10 ⟨rfl, hR10, ho10⟩))
    exact bodyPost_ret (v := .tuple #[.slice none 0 0, .bool false]) (by simp [results, Tryd.results16, go_sem, *]) rfl ⟨HB9.out.trans (ho10.below HG.out HB9.out.size), rfl⟩
  · have e : E = some Rl := HE2.out
    subst e
    go_wp2_with (first | (go_at_call 35; refine (HCE'.out _ HBX.out).mono ?_; rintro e w6 ⟨rfl, hb6⟩; have z0 := cell_kept_below x0 hb6; have z1 := cell_kept_below x1 hb6; have z2 := cell_kept_below x2 hb6; have z3 := cell_kept_below x3 hb6; have z4 := cell_kept_below x4 hb6; have HB6 := Hid.mk' (Below.on HBX.out hb6)) | (go_at_call 38; refine (HNX'.out _ HB6.out).mono ?_; rintro e w7 ⟨v7, rfl, on7, hb7⟩; obtain ⟨na, nc, rfl⟩ := gown_form on7; have HB7 := Hid.mk' (Below.on HB6.out hb7); have HLS := Hid.mk' (own_lst on7); clear on7) | (go_at_call 37; refine (HCZ.out _ _ _ HLS.out).mono ?_; rintro e w8 ⟨rfl, rfl⟩) | (go_at_call 39; refine (HCP'.out _ HB7.out).mono ?_; rintro e w9 ⟨G, rfl, hG, hR9, hb9⟩; have HB9 := Hid.mk' (Below.on HB7.out hb9); have u0 := cell_kept_below (cell_kept_below z0 hb7) hb9; have u1 := cell_kept_below (cell_kept_below z1 hb7) hb9; have u2 := cell_kept_below (cell_kept_below z2 hb7) hb9; have u3 := cell_kept_below (cell_kept_below z3 hb7) hb9; have u4 := cell_kept_below (cell_kept_below z4 hb7) hb9; have v0 := cell_kept_below (cell_kept_below (cell_kept_below y0 hb6) hb7) hb9; have v1 := cell_kept_below (cell_kept_below (cell_kept_below y1 hb6) hb7) hb9; have HG := Hid.mk' (Nat.le_trans HB7.out.size hG); have HR9 := Hid.mk' hR9; clear hG hR9) | (go_at_call 40; refine (HPS'.out _ _ HB9.out HG.out HR9.out).mono ?_; rintro e w10 ⟨rfl, hR10, ho10⟩))
    exact bodyPost_ret (v := .tuple #[.slice (some ⟨G, 0, none⟩) l.length l.length, .bool true]) (by simp [results, Tryd.results16, go_sem, *]) rfl ⟨HB9.out.trans (ho10.below HG.out HB9.out.size), G, by rw [HPL.out], HG.out, hR10⟩
/-- What Edge tells. -/
theorem bedge_any (m : Mo) (fn fr gt : Int) (l : List Sp) (a : Option Addr) (c : Nat) (w : World) (ht : Tab w) (hm : m.In w) (hs : Sps w a l) (hso : RgOk l) : Calls Tryd.prog 16 #[m.val, .int .i64 fn, .int .i64 fr, .int .i64 gt, .slice a l.length c] w (EgP (edZ m fn fr gt l) w) := by
  by_cases h : (mayZ m).1 ≠ 0 ∨ fn < 0 ∨ (m.funcs.length : Int) ≤ fn
  · exact edge_no m fn fr gt l a c w ht hm h
  · have h1 : (mayZ m).1 = 0 := by
      by_cases e : (mayZ m).1 = 0
      · exact e
      · exact absurd (.inl e) h
    have h2 : 0 ≤ fn := by omega
    obtain ⟨n, rfl⟩ := Int.eq_ofNat_of_zero_le h2
    exact edge_yes m n fr gt l a c w ht hm hs hso h1 (by omega)
end Go.Proofs.YtfmkjdfidenfkaaDoor
