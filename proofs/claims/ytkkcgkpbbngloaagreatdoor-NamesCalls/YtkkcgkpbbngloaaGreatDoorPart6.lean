/- The document's own look at a statement: an if or a switch. -/
import Derived.Test.YtkkcgkpbbngloaaGreatDoorPart5
import Derived.Laws.MakeOwn
import Derived.Test.YtkkcgkpbbngloaaGreatDoorPart4
import Derived.Test.YtkkcgkpbbngloaaGreatDoorPart1
import Derived.Test.YtkkcgkpbbngloaaGreatDoorPart2
import Derived.Test.YtkkcgkpbbngloaaGreatDoorPart3
namespace Go.Proofs.YtkkcgkpbbngloaaGreatDoor
open Go.RowKit Go.Sort

/-- What is still to be asked of a choice, at a case. -/
def CsG (ft : List (List UInt8 × Int)) (els : List St) (E : Env) (R : SR) (cl clj : List Bool) (C : SR) : Prop :=
  (C.e ≠ 0 → R.e = C.e ∧ R.m = C.m) ∧ (C.e = 0 → R.e = (lsS ft els E C.m).e ∧ R.m = (lsS ft els E C.m).m ∧ (R.e = 0 → mark clj (C.c ++ (lsS ft els E C.m).c) = mark cl R.c))
theorem csG_step {ft : List (List UInt8 × Int)} {els : List St} {E env : Env} {R : SR} {cl clj : List Bool} {l : List Ca} {j : Nat} {m : Int} (hj : j < l.length) (hE : E = (lvZ env == 0, []) :: env) (h : CsG ft els E R cl clj (csS ft (l.drop j) env m)) :
    ((lsS ft l[j].body E m).e ≠ 0 → R.e = (lsS ft l[j].body E m).e ∧ R.m = (lsS ft l[j].body E m).m) ∧ ((lsS ft l[j].body E m).e = 0 → CsG ft els E R cl (mark clj (lsS ft l[j].body E m).c) (csS ft (l.drop (j + 1)) env (lsS ft l[j].body E m).m)) := by
  rw [List.drop_eq_getElem_cons hj, csS] at h
  have hc : caS ft l[j] env m = lsS ft l[j].body E m := by
    rw [hE]
    cases l[j]
    rfl
  rw [hc] at h
  generalize lsS ft l[j].body E m = T at *
  refine ⟨fun h0 => ?_, fun h0 => ?_⟩
  · rw [if_pos h0] at h
    exact h.1 h0
  · rw [if_neg (by simpa using h0)] at h
    refine ⟨fun h1 => h.1 h1, fun h1 => ?_⟩
    obtain ⟨a1, a2, a3⟩ := h.2 h1
    refine ⟨a1, a2, fun hr => ?_⟩
    have := a3 hr
    rw [List.append_assoc, mark_append] at this
    exact this
set_option maxRecDepth 100000 in
set_option maxHeartbeats 4000000 in
theorem rst_if (w0 : World) (b : Nat) (p : Pr) (k : Nat) (ft : List (List UInt8 × Int)) (q : Nat) (hp : p.In w0) (hkp : k ≤ p.funcs.length) (hf : RelF ft p.funcs k) (hn : p.funcs.length ≤ 1000) (iha : AlK w0 b p k ft q)
    (s : St) (f : Bool × List (List UInt8 × Int)) (env : Env) (n lp : Int) (kv : Value) (K : Kn) (cv : Value) (cl : List Bool) (w : World) (hq : qS s ≤ q + 1) (hin : s.In w0) (hB : Below w0.heap.size w0 w) (h : RS w0.heap.size w b p k n lp kv K 0 cv cl) (hr : RelK (f :: env) K) (hlv : lvZ (f :: env) = if lp = 0 then 32 else 0) (hl0 : 0 ≤ lp) (hl1 : lp + qS s ≤ 1000000000) (hK : K.length + qS s ≤ 900000) (hn0 : 0 ≤ n) (hn1 : n + qS s ≤ 1000000000) (hcl : cl.length = p.funcs.length) (hh : hdZ (f :: env) ft s = 0) (hk : s.kind = 5 ∨ s.kind = 6) :
    Calls Tryz.prog 34 #[.pointer (some ⟨b, 0, none⟩), s.val] w fun r w' => r = .returned (.tuple #[]) ∧ SP w0.heap.size b p k lp kv K cv cl (stS ft s (f :: env) (n + 1)) w w' := by
  have hinS := St.in_iff.1 hin
  have hb1 := (Below.refl _ w).alloc (Nat.le_refl _) (.cells s.cells.toArray 44)
  have h1 := h.stay hb1
  have hbB : w.heap.size ∉ b :: (ob kv ++ ob cv) := fun hx => by
    rcases List.mem_cons.1 hx with e | hx
    · have := h.lt; omega
    rcases List.mem_append.1 hx with hx | hx
    · have := (gown_lt h.2.1 _ hx).2; omega
    · have := (gown_lt h.2.2.1 _ hx).2; omega
  have HXC : Hid (∀ W', Fr (b :: (ob kv ++ ob cv)) (w.alloc (.cells s.cells.toArray 44)) W' → ∀ j u, s.cells[j]? = some u → W'.cell? ⟨w.heap.size, j, none⟩ = some u) := fun W' hf j u hu => by
    rw [hf.cell (by simp) hbB, World.cell?_alloc_at _ _ _ _ rfl]; simpa using hu
  have HFIN : Hid (∀ W', Fr (b :: (ob kv ++ ob cv)) (w.alloc (.cells s.cells.toArray 44)) W' → Fr (b :: (ob kv ++ ob cv)) w W' ∧ Below w0.heap.size w0 W' ∧ w.heap.size ≤ W'.heap.size) := fun W' hf => by
    have h1 : Fr (b :: (ob kv ++ ob cv)) w W' := (Fr.of_below hb1).trans hf
    exact ⟨h1, hB.trans (h1.below (rs_ge h) hB.size), h1.size⟩
  have hsub : ∀ x ∈ b :: ob cv, x ∈ b :: (ob kv ++ ob cv) := fun x hx => by
    rcases List.mem_cons.1 hx with rfl | hx
    · simp
    · simp [hx]
  have HSUB := Hid.mk' hsub
  have hsubk : ∀ x ∈ b :: ob kv, x ∈ b :: (ob kv ++ ob cv) := fun x hx => by
    rcases List.mem_cons.1 hx with rfl | hx
    · simp
    · simp [hx]
  have HSUBK := Hid.mk' hsubk
  have hK0 : K.length ≤ 900000 := by omega
  have HH : Hid (∀ W2, Below w0.heap.size w0 W2 → RS w0.heap.size W2 b p k (n + 1) lp kv K 0 cv cl → Calls Tryz.prog 60 #[.pointer (some ⟨b, 0, none⟩), s.val] W2 fun r w' => r = .returned (.tuple #[]) ∧ EP w0.heap.size b p k (n + 1) lp kv K cv cl (hdZ (f :: env) ft s) (hdC ft s) W2 w') := fun W2 hB2 h2 => rhead_any w0 b p k ft hp hkp hf hn s (f :: env) (n + 1) lp kv K cv cl W2 hin hB2 h2 hr hlv (by omega) hcl
  have hnn : n ≤ 1000000000 := by omega
  have HNB := Hid.mk' (And.intro hl0 (And.intro hl1 (And.intro hK (And.intro hn0 (And.intro hn1 (And.intro hcl hq))))))
  have HREL := Hid.mk' (And.intro hr hlv)
  have HINS := Hid.mk' hinS
  have IHA := Hid.mk' iha
  have H1 := Hid.mk' h1
  have c3 := h1.cell (j := 3) rfl
  have q3 := h1.frozen 3
  have HFR := Hid.mk' (Fr.refl (b :: (ob kv ++ ob cv)) (w.alloc (.cells s.cells.toArray 44)))
  have HKK := Hid.mk' hk
  clear hk
  clear h h1 hb1 hr hf hin hK hcl hn hB hp hlv hinS hbB hsub hsubk hl1 hn1 hq iha hl0
  unfold St.cells at HXC HFIN H1 HFR c3 q3
  unfold St.val at HH ⊢
  go_enter Tryz.func34, Tryz.ntmps34
  go_upto_region 1 with fail
  have HW1 : Hid (w.heap.size ≤ (w.alloc (.cells #[.int .i64 s.kind, .string s.name, .int .i64 s.n, .int .i64 s.a.kind, .int .i64 s.a.n, .string s.a.name, .slice s.a.a s.a.args.length s.a.cap, .int .i64 s.b.kind, .int .i64 s.b.n, .string s.b.name, .slice s.b.a s.b.args.length s.b.cap, .slice s.ba s.body.length s.bc, .slice s.ea s.els.length s.ec, .slice s.ca s.cases.length s.cc] 44)).heap.size) := by show _ ≤ _; simp
  generalize w.alloc (.cells #[.int .i64 s.kind, .string s.name, .int .i64 s.n, .int .i64 s.a.kind, .int .i64 s.a.n, .string s.a.name, .slice s.a.a s.a.args.length s.a.cap, .int .i64 s.b.kind, .int .i64 s.b.n, .string s.b.name, .slice s.b.a s.b.args.length s.b.cap, .slice s.ba s.body.length s.bc, .slice s.ea s.els.length s.ec, .slice s.ca s.cases.length s.cc] 44) = W1 at *
  have HF2 : Hid (Fr (b :: (ob kv ++ ob cv)) W1 (W1.setCell ⟨b, 3, none⟩ (.int .i64 (n + 1)))) := HFR.out.set (by simp) _ _
  have H2 := Hid.mk' (H1.out.setN (n + 1))
  go_upto_region 2 with fail
  clear c3 q3
  generalize W1.setCell ⟨b, 3, none⟩ (.int .i64 (n + 1)) = W2 at *
  have x0 := HXC.out _ HF2.out 0 _ rfl
  have x1 := HXC.out _ HF2.out 1 _ rfl
  have x2 := HXC.out _ HF2.out 2 _ rfl
  have x3 := HXC.out _ HF2.out 3 _ rfl
  have x4 := HXC.out _ HF2.out 4 _ rfl
  have x5 := HXC.out _ HF2.out 5 _ rfl
  have x6 := HXC.out _ HF2.out 6 _ rfl
  have x7 := HXC.out _ HF2.out 7 _ rfl
  have x8 := HXC.out _ HF2.out 8 _ rfl
  have x9 := HXC.out _ HF2.out 9 _ rfl
  have x10 := HXC.out _ HF2.out 10 _ rfl
  have x11 := HXC.out _ HF2.out 11 _ rfl
  have x12 := HXC.out _ HF2.out 12 _ rfl
  have x13 := HXC.out _ HF2.out 13 _ rfl
  generalize hBB : w.heap.size = B at HXC HFIN x0 x1 x2 x3 x4 x5 x6 x7 x8 x9 x10 x11 x12 x13 ⊢
  have HBB := Hid.mk' hBB
  clear hBB
  go_wp2_with fail
  refine (HH.out _ (HFIN.out _ HF2.out).2.1 H2.out).mono ?_
  rintro r w3 ⟨rfl, cl3, m1, m2, m3, m4⟩
  have hf3 := HF2.out.trans (m4.mono HSUB.out)
  have c6 := m1.cell (j := 6) rfl
  have HM := Hid.mk' (And.intro m1 (And.intro m2 (And.intro m3 hf3)))
  clear m1 m2 m3 m4 hf3 H1 H2 HFR HF2 HH
  clear x0 x1 x2 x3 x4 x5 x6 x7 x8 x9 x10 x11 x12 x13
  have hz0 := hh
  rw [hh] at HM c6
  have HB := Hid.mk' (st_if ft s (f :: env) (n + 1) hh HKK.out)
  obtain ⟨E, HE⟩ : ∃ E, Hid (E = (lvZ (f :: env) == 0, []) :: f :: env) := ⟨_, rfl⟩
  have HQB : Hid (qSs s.body + qSs s.els + qCs s.cases + 1 ≤ qS s) := by have := qS_eq s; show _ ≤ _; omega
  have HLVE : Hid (lvZ ((lvZ (f :: env) == 0, []) :: f :: env) = if lp = 0 then 32 else 0) := by
    show (if (lvZ (f :: env) == 0) = true then (0 : Int) else 32) = _
    rw [HREL.out.2]
    by_cases h0 : lp = 0
    · rw [if_pos h0]; rfl
    · rw [if_neg h0]; rfl
  have HRE := Hid.mk' (HREL.out.1.push (lvZ (f :: env) == 0))
  -- a list of statements, good or bad
  have HALL : Hid (∀ (l : List St) (la : Option Addr) (lc : Nat) (ej nj : Int) (kj : Value) (clj : List Bool) (w' : World), Have w0 la lc l → qSs l + 1 ≤ qS s → 0 ≤ nj → nj + qSs l ≤ 1000000000 → RS w0.heap.size w' b p k nj lp kj K ej cv clj → clj.length = cl.length → Fr (b :: (ob kv ++ ob cv)) W1 w' → (∀ g ∈ ob kj, g ∈ ob kv ∨ W1.heap.size ≤ g) →
      Calls Tryz.prog 22 #[.pointer (some ⟨b, 0, none⟩), .slice la l.length lc] w' fun r w'' => r = .returned (.tuple #[]) ∧ ∃ e2 n2 kv2 cl2, RS w0.heap.size w'' b p k n2 lp kv2 K e2 cv cl2 ∧ cl2.length = cl.length ∧ Fr (b :: (ob kv ++ ob cv)) W1 w'' ∧ (∀ g ∈ ob kv2, g ∈ ob kv ∨ W1.heap.size ≤ g) ∧ (ej ≠ 0 → e2 = ej ∧ n2 = nj) ∧ (ej = 0 → e2 = (lsS ft l E nj).e ∧ n2 = (lsS ft l E nj).m ∧ (e2 = 0 → cl2 = mark clj (lsS ft l E nj).c))) := fun l la lc ej nj kj clj w' a1 a2 a3 a4 a5 a6 a7 a8 => by
    by_cases hej : ej = 0
    · subst hej
      have hB' := (HFIN.out _ a7).2.1
      refine (IHA.out l la lc _ (f :: env) nj lp kj K cv clj w' (by have := HNB.out.2.2.2.2.2.2; omega) a1 hB' a5 HRE.out HLVE.out HNB.out.1 (by have := HNB.out.2.1; omega) (by have := HNB.out.2.2.1; omega) a3 a4 (a6.trans HNB.out.2.2.2.2.2.1)).mono ?_
      rintro r w'' ⟨rfl, kv2, cl2, g1, g2, g3, g4, g5⟩
      rw [← HE.out] at g1 g2
      refine ⟨rfl, _, _, kv2, cl2, g1, g3.trans a6, a7.trans' g4 (app_sub a8), fun g hg => ?_, fun h => absurd rfl h, fun _ => ⟨rfl, rfl, g2⟩⟩
      rcases g5 g hg with h' | h'
      · exact a8 g h'
      · exact Or.inr (Nat.le_trans a7.size h')
    · refine (rall_bad la l.length lc a5 hej (by omega)).mono ?_
      rintro r w'' ⟨rfl, g1, g4⟩
      exact ⟨rfl, ej, nj, kj, clj, g1, a6, a7.trans (g4.mono (by simp)), a8, fun _ => ⟨rfl, rfl⟩, fun h => absurd h hej⟩
  have HB1 := Hid.mk' HB.out.1
  have HB2 := Hid.mk' HB.out.2
  rw [← HE.out] at HB2
  clear HB
  have HHM := Hid.mk' (HM.out.2.1 (by first | rfl | trivial))
  have HC1 := Hid.mk' (HALL.out s.body s.ba s.bc 0 (n + 1) kv cl3 w3 HINS.out.2.2.2.2.2.1 (by have := HQB.out; omega) (by omega) (by have := HQB.out; have := HNB.out.2.2.2.2.1; omega) HM.out.1 HM.out.2.2.1 HM.out.2.2.2 (fun g hg => Or.inl hg))
  obtain ⟨RR, HRR⟩ : ∃ R, Hid (stS ft s (f :: env) (n + 1) = R) := ⟨_, rfl⟩
  rw [HRR.out] at HB2
  have x0 := HXC.out _ HM.out.2.2.2 0 _ rfl
  have x1 := HXC.out _ HM.out.2.2.2 1 _ rfl
  have x2 := HXC.out _ HM.out.2.2.2 2 _ rfl
  have x3 := HXC.out _ HM.out.2.2.2 3 _ rfl
  have x4 := HXC.out _ HM.out.2.2.2 4 _ rfl
  have x5 := HXC.out _ HM.out.2.2.2 5 _ rfl
  have x6 := HXC.out _ HM.out.2.2.2 6 _ rfl
  have x7 := HXC.out _ HM.out.2.2.2 7 _ rfl
  have x8 := HXC.out _ HM.out.2.2.2 8 _ rfl
  have x9 := HXC.out _ HM.out.2.2.2 9 _ rfl
  have x10 := HXC.out _ HM.out.2.2.2 10 _ rfl
  have x11 := HXC.out _ HM.out.2.2.2 11 _ rfl
  have x12 := HXC.out _ HM.out.2.2.2 12 _ rfl
  have x13 := HXC.out _ HM.out.2.2.2 13 _ rfl
  have b1 : (s.kind == 1) = false := by rw [beq_eq_false_iff_ne]; have := HKK.out; omega
  have b2 : (s.kind == 2) = false := by rw [beq_eq_false_iff_ne]; have := HKK.out; omega
  have b7 : (s.kind == 7) = false := by rw [beq_eq_false_iff_ne]; have := HKK.out; omega
  clear hh hz0

  have HST5 : Hid (∀ (e5 n5 : Int) (cl5 : List Bool), (e5 = (lsS ft s.body E (n + 1)).e ∧ n5 = (lsS ft s.body E (n + 1)).m ∧ (e5 = 0 → cl5 = mark cl3 (lsS ft s.body E (n + 1)).c)) → (e5 ≠ 0 → RR.e = e5 ∧ RR.m = n5) ∧ (e5 = 0 → CsG ft s.els E RR cl cl5 (csS ft (s.cases.drop 0) (f :: env) n5))) := fun e5 n5 cl5 ⟨z1, z2, z3⟩ => by
    have hb2 := HB2.out
    rw [List.drop_zero]
    generalize lsS ft s.body E (n + 1) = T at *
    subst z1
    subst z2
    refine ⟨fun h0 => by rw [hb2, if_pos h0]; exact ⟨rfl, rfl⟩, fun h0 => ?_⟩
    rw [if_neg (by simpa using h0)] at hb2
    have z3 := z3 h0
    generalize csS ft s.cases (f :: env) T.m = C at *
    refine ⟨fun h1 => by rw [hb2, if_pos h1]; exact ⟨rfl, rfl⟩, fun h1 => ?_⟩
    rw [if_neg (by simpa using h1)] at hb2
    refine ⟨by rw [hb2], by rw [hb2], fun _ => ?_⟩
    rw [hb2, z3, HHM.out, HB1.out]
    simp only [mark_append]
  have HFINISH : Hid (∀ w' kv' cl', RS w0.heap.size w' b p k RR.m lp kv' K RR.e cv cl' → (RR.e = 0 → cl' = mark cl RR.c) → cl'.length = cl.length → Fr (b :: (ob kv ++ ob cv)) W1 w' → (∀ g ∈ ob kv', g ∈ ob kv ∨ W1.heap.size ≤ g) → SP w0.heap.size b p k lp kv K cv cl (stS ft s (f :: env) (n + 1)) w w') := fun w' kv' cl' a1 a2 a3 a4 a5 => by
    rw [HRR.out]
    refine ⟨kv', K, cl', a1, fun e => ⟨a2 e, ?_⟩, ⟨[], by simp, by simp⟩, a3, (HFIN.out _ a4).1, fun g hg => (a5 g hg).imp id (fun h => Nat.le_trans HW1.out h)⟩
    have hb2 := HB2.out
    have : RR.env = f :: env := by
      rw [hb2]
      split
      · rfl
      split
      · rfl
      · rfl
    rw [this]
    exact HREL.out.1
  have HSM1 := Hid.mk' (lsS_m ft s.body E (n + 1))
  rcases HKK.out with k5 | k6
  · have b5 : (s.kind == 5) = true := by rw [k5]; rfl
    clear k5
    go_wp2_with fail
    refine HC1.out.mono ?_
    rintro r w5 ⟨rfl, e5, n5, kv5, cl5, g1, g2, g3, g4, g5, g6⟩
    have HI5 := Hid.mk' (And.intro g1 (And.intro g2 (And.intro g3 (And.intro g4 (HST5.out _ _ _ (g6 (by first | rfl | trivial)))))))
    have HN5 : Hid (0 ≤ n5 ∧ n5 + qCs s.cases + qSs s.els ≤ 1000000000) := by
      obtain ⟨_, z2, _⟩ := g6 (by first | rfl | trivial)
      have h1 := HSM1.out
      have h2 := HQB.out
      have h3 := HNB.out.2.2.2.2.1
      rw [← z2] at h1
      exact ⟨by omega, by omega⟩
    clear g1 g2 g3 g4 g5 g6 HC1 x0 x1 x2 x3 x4 x5 x6 x7 x8 x9 x10 x11 x12 x13 c6
    go_wp2_with fail
    go_loopw [5] (fun t5 wr => ∃ (j : Nat) (ej nj : Int) (kj : Value) (clj : List Bool), j ≤ s.cases.length ∧ t5 = .int .i64 j ∧ RS w0.heap.size wr b p k nj lp kj K ej cv clj ∧ clj.length = cl.length ∧ Fr (b :: (ob kv ++ ob cv)) W1 wr ∧ (∀ g ∈ ob kj, g ∈ ob kv ∨ W1.heap.size ≤ g) ∧ (ej ≠ 0 → RR.e = ej ∧ RR.m = nj) ∧ (ej = 0 → CsG ft s.els E RR cl clj (csS ft (s.cases.drop j) (f :: env) nj)) ∧ 0 ≤ nj ∧ nj + qCs (s.cases.drop j) + qSs s.els ≤ 1000000000) (fun t5 _ => s.cases.length - (intOf t5).toNat)
    case atStart => exact ⟨0, e5, n5, kv5, cl5, Nat.zero_le _, rfl, HI5.out.1, HI5.out.2.1, HI5.out.2.2.1, HI5.out.2.2.2.1, HI5.out.2.2.2.2.1, HI5.out.2.2.2.2.2, HN5.out.1, by rw [List.drop_zero]; exact HN5.out.2⟩
    case round =>
      obtain ⟨j, ej, nj, kj, clj, hj, rfl, a1, a2, a3, a4, a5, a6, a7, a8⟩ := hrel
      have HA := Hid.mk' (And.intro a1 (And.intro a2 (And.intro a3 (And.intro a4 (And.intro a5 (And.intro a6 (And.intro a7 a8)))))))
      have x12 := HXC.out _ a3 12 _ rfl
      have x13 := HXC.out _ a3 13 _ rfl
      have HBR := Hid.mk' (HFIN.out _ a3).2.1
      clear a1 a2 a3 a4 a5 a6 a7 a8
      have hcl1 := HINS.out.2.2.2.2.2.2.2.1.1
      have hcl2 := HINS.out.2.2.2.2.2.2.2.1.2.1
      by_cases hlt : j < s.cases.length
      · have hli : (j : Int) < (s.cases.length : Int) := by omega
        obtain ⟨g, o, hca, hcs⟩ := (HINS.out.2.2.2.2.2.2.2.1.2.2.2.below HBR.out) j s.cases[j].cells (by simp [hlt])
        have t1 : wr.cell? ⟨g, o + j * 2 + 1, none⟩ = some (.slice s.cases[j].ba s.cases[j].body.length s.cases[j].bc) := by have := hcs 1 _ rfl; simpa only [← Nat.add_assoc] using this
        rw [hca] at x13
        clear hcs hca
        have HQD : Hid (qCs (s.cases.drop j) = 1 + qSs s.cases[j].body + qCs (s.cases.drop (j + 1))) := qCs_drop hlt
        have HQC : Hid (1 + qSs s.cases[j].body ≤ qCs s.cases) := qCs_mem (List.getElem_mem hlt)
        have HSMC := Hid.mk' (lsS_m ft s.cases[j].body E nj)
        have HSTEP : Hid (ej = 0 → ((lsS ft s.cases[j].body E nj).e ≠ 0 → RR.e = (lsS ft s.cases[j].body E nj).e ∧ RR.m = (lsS ft s.cases[j].body E nj).m) ∧ ((lsS ft s.cases[j].body E nj).e = 0 → CsG ft s.els E RR cl (mark clj (lsS ft s.cases[j].body E nj).c) (csS ft (s.cases.drop (j + 1)) (f :: env) (lsS ft s.cases[j].body E nj).m))) := fun e => csG_step hlt HE.out (HA.out.2.2.2.2.2.1 e)
        have HCJ := Hid.mk' (HALL.out s.cases[j].body s.cases[j].ba s.cases[j].bc ej nj kj clj wr (Ca.in_iff.1 (HINS.out.2.2.2.2.2.2.2.2 _ (List.getElem_mem hlt))).2 (by have := HQB.out; have := HQC.out; omega) HA.out.2.2.2.2.2.2.1 (by have := HQD.out; have := HQC.out; have := HA.out.2.2.2.2.2.2.2; omega) HA.out.1 HA.out.2.1 HA.out.2.2.1 HA.out.2.2.2.1)
        generalize s.cases[j] = cc at *
        go_wp2_with fail
        refine HCJ.out.mono ?_
        rintro r w7 ⟨rfl, e7, n7, kv7, cl7, u1, u2, u3, u4, u5, u6⟩
        have HU := Hid.mk' (And.intro u1 (And.intro u2 (And.intro u3 (And.intro u4 (And.intro u5 u6)))))
        clear u1 u2 u3 u4 u5 u6 HCJ x12 x13 t1
        go_wp2_with fail
        go_roundw
        case rel =>
          obtain ⟨u1, u2, u3, u4, u5, u6⟩ := HU.out
          by_cases hej : ej = 0
          · obtain ⟨v1, v2, v3⟩ := u6 hej
            obtain ⟨y1, y2⟩ := HSTEP.out hej
            have hm := HSMC.out
            rw [← v1] at y1 y2
            rw [← v2] at y1 y2 hm
            refine ⟨j + 1, e7, n7, kv7, cl7, by omega, by go_num, u1, u2, u3, u4, y1, fun h0 => by rw [v3 h0]; exact y2 h0, by have := HA.out.2.2.2.2.2.2.1; omega, by have := HQD.out; have := HQC.out; have := HA.out.2.2.2.2.2.2.2; omega⟩
          · obtain ⟨v1, v2⟩ := u5 hej
            subst v1
            subst v2
            exact ⟨j + 1, e7, n7, kv7, cl7, by omega, by go_num, u1, u2, u3, u4, fun _ => HA.out.2.2.2.2.1 hej, fun h0 => absurd h0 hej, HA.out.2.2.2.2.2.2.1, by have := HQD.out; have := HA.out.2.2.2.2.2.2.2; omega⟩
        case measure => simp [intOf]; omega
      · have hli : ¬ (j : Int) < (s.cases.length : Int) := by omega
        have HCE := Hid.mk' (HALL.out s.els s.ea s.ec ej nj kj clj wr HINS.out.2.2.2.2.2.2.1 (by have := HQB.out; omega) HA.out.2.2.2.2.2.2.1 (by have := HA.out.2.2.2.2.2.2.2; omega) HA.out.1 HA.out.2.1 HA.out.2.2.1 HA.out.2.2.2.1)
        go_wp2_with fail
        refine HCE.out.mono ?_
        rintro r w7 ⟨rfl, e7, n7, kv7, cl7, u1, u2, u3, u4, u5, u6⟩
        have HV : Hid (SP w0.heap.size b p k lp kv K cv cl (stS ft s (f :: env) (n + 1)) w w7) := by
          by_cases hej : ej = 0
          · obtain ⟨v1, v2, v3⟩ := u6 hej
            have hg := HA.out.2.2.2.2.2.1 hej
            rw [List.drop_eq_nil_of_le (by omega), csS] at hg
            obtain ⟨y1, y2, y3⟩ := hg.2 rfl
            refine HFINISH.out w7 kv7 cl7 (by rw [y1, y2, ← v1, ← v2]; exact u1) (fun h0 => ?_) u2 u3 u4
            rw [← y3 h0, v3 (by rw [v1, ← y1]; exact h0)]
            rfl
          · obtain ⟨v1, v2⟩ := u5 hej
            obtain ⟨y1, y2⟩ := HA.out.2.2.2.2.1 hej
            exact HFINISH.out w7 kv7 cl7 (by rw [y1, y2, ← v1, ← v2]; exact u1) (fun h0 => absurd (y1.symm.trans h0) hej) u2 u3 u4
        clear u1 u2 u3 u4 u5 u6 HCE x12 x13
        go_wp2_with fail
        go_end0
        exact ⟨rfl, HV.out⟩
  · have b5 : (s.kind == 5) = false := by rw [k6]; rfl
    have b6 : (s.kind == 6) = true := by rw [k6]; rfl
    clear k6
    go_wp2_with fail
    refine HC1.out.mono ?_
    rintro r w5 ⟨rfl, e5, n5, kv5, cl5, g1, g2, g3, g4, g5, g6⟩
    have HI5 := Hid.mk' (And.intro g1 (And.intro g2 (And.intro g3 (And.intro g4 (HST5.out _ _ _ (g6 (by first | rfl | trivial)))))))
    have HN5 : Hid (0 ≤ n5 ∧ n5 + qCs s.cases + qSs s.els ≤ 1000000000) := by
      obtain ⟨_, z2, _⟩ := g6 (by first | rfl | trivial)
      have h1 := HSM1.out
      have h2 := HQB.out
      have h3 := HNB.out.2.2.2.2.1
      rw [← z2] at h1
      exact ⟨by omega, by omega⟩
    clear g1 g2 g3 g4 g5 g6 HC1 x0 x1 x2 x3 x4 x5 x6 x7 x8 x9 x10 x11 x12 x13 c6
    go_wp2_with fail
    go_loopw [5] (fun t5 wr => ∃ (j : Nat) (ej nj : Int) (kj : Value) (clj : List Bool), j ≤ s.cases.length ∧ t5 = .int .i64 j ∧ RS w0.heap.size wr b p k nj lp kj K ej cv clj ∧ clj.length = cl.length ∧ Fr (b :: (ob kv ++ ob cv)) W1 wr ∧ (∀ g ∈ ob kj, g ∈ ob kv ∨ W1.heap.size ≤ g) ∧ (ej ≠ 0 → RR.e = ej ∧ RR.m = nj) ∧ (ej = 0 → CsG ft s.els E RR cl clj (csS ft (s.cases.drop j) (f :: env) nj)) ∧ 0 ≤ nj ∧ nj + qCs (s.cases.drop j) + qSs s.els ≤ 1000000000) (fun t5 _ => s.cases.length - (intOf t5).toNat)
    case atStart => exact ⟨0, e5, n5, kv5, cl5, Nat.zero_le _, rfl, HI5.out.1, HI5.out.2.1, HI5.out.2.2.1, HI5.out.2.2.2.1, HI5.out.2.2.2.2.1, HI5.out.2.2.2.2.2, HN5.out.1, by rw [List.drop_zero]; exact HN5.out.2⟩
    case round =>
      obtain ⟨j, ej, nj, kj, clj, hj, rfl, a1, a2, a3, a4, a5, a6, a7, a8⟩ := hrel
      have HA := Hid.mk' (And.intro a1 (And.intro a2 (And.intro a3 (And.intro a4 (And.intro a5 (And.intro a6 (And.intro a7 a8)))))))
      have x12 := HXC.out _ a3 12 _ rfl
      have x13 := HXC.out _ a3 13 _ rfl
      have HBR := Hid.mk' (HFIN.out _ a3).2.1
      clear a1 a2 a3 a4 a5 a6 a7 a8
      have hcl1 := HINS.out.2.2.2.2.2.2.2.1.1
      have hcl2 := HINS.out.2.2.2.2.2.2.2.1.2.1
      by_cases hlt : j < s.cases.length
      · have hli : (j : Int) < (s.cases.length : Int) := by omega
        obtain ⟨g, o, hca, hcs⟩ := (HINS.out.2.2.2.2.2.2.2.1.2.2.2.below HBR.out) j s.cases[j].cells (by simp [hlt])
        have t1 : wr.cell? ⟨g, o + j * 2 + 1, none⟩ = some (.slice s.cases[j].ba s.cases[j].body.length s.cases[j].bc) := by have := hcs 1 _ rfl; simpa only [← Nat.add_assoc] using this
        rw [hca] at x13
        clear hcs hca
        have HQD : Hid (qCs (s.cases.drop j) = 1 + qSs s.cases[j].body + qCs (s.cases.drop (j + 1))) := qCs_drop hlt
        have HQC : Hid (1 + qSs s.cases[j].body ≤ qCs s.cases) := qCs_mem (List.getElem_mem hlt)
        have HSMC := Hid.mk' (lsS_m ft s.cases[j].body E nj)
        have HSTEP : Hid (ej = 0 → ((lsS ft s.cases[j].body E nj).e ≠ 0 → RR.e = (lsS ft s.cases[j].body E nj).e ∧ RR.m = (lsS ft s.cases[j].body E nj).m) ∧ ((lsS ft s.cases[j].body E nj).e = 0 → CsG ft s.els E RR cl (mark clj (lsS ft s.cases[j].body E nj).c) (csS ft (s.cases.drop (j + 1)) (f :: env) (lsS ft s.cases[j].body E nj).m))) := fun e => csG_step hlt HE.out (HA.out.2.2.2.2.2.1 e)
        have HCJ := Hid.mk' (HALL.out s.cases[j].body s.cases[j].ba s.cases[j].bc ej nj kj clj wr (Ca.in_iff.1 (HINS.out.2.2.2.2.2.2.2.2 _ (List.getElem_mem hlt))).2 (by have := HQB.out; have := HQC.out; omega) HA.out.2.2.2.2.2.2.1 (by have := HQD.out; have := HQC.out; have := HA.out.2.2.2.2.2.2.2; omega) HA.out.1 HA.out.2.1 HA.out.2.2.1 HA.out.2.2.2.1)
        generalize s.cases[j] = cc at *
        go_wp2_with fail
        refine HCJ.out.mono ?_
        rintro r w7 ⟨rfl, e7, n7, kv7, cl7, u1, u2, u3, u4, u5, u6⟩
        have HU := Hid.mk' (And.intro u1 (And.intro u2 (And.intro u3 (And.intro u4 (And.intro u5 u6)))))
        clear u1 u2 u3 u4 u5 u6 HCJ x12 x13 t1
        go_wp2_with fail
        go_roundw
        case rel =>
          obtain ⟨u1, u2, u3, u4, u5, u6⟩ := HU.out
          by_cases hej : ej = 0
          · obtain ⟨v1, v2, v3⟩ := u6 hej
            obtain ⟨y1, y2⟩ := HSTEP.out hej
            have hm := HSMC.out
            rw [← v1] at y1 y2
            rw [← v2] at y1 y2 hm
            refine ⟨j + 1, e7, n7, kv7, cl7, by omega, by go_num, u1, u2, u3, u4, y1, fun h0 => by rw [v3 h0]; exact y2 h0, by have := HA.out.2.2.2.2.2.2.1; omega, by have := HQD.out; have := HQC.out; have := HA.out.2.2.2.2.2.2.2; omega⟩
          · obtain ⟨v1, v2⟩ := u5 hej
            subst v1
            subst v2
            exact ⟨j + 1, e7, n7, kv7, cl7, by omega, by go_num, u1, u2, u3, u4, fun _ => HA.out.2.2.2.2.1 hej, fun h0 => absurd h0 hej, HA.out.2.2.2.2.2.2.1, by have := HQD.out; have := HA.out.2.2.2.2.2.2.2; omega⟩
        case measure => simp [intOf]; omega
      · have hli : ¬ (j : Int) < (s.cases.length : Int) := by omega
        have HCE := Hid.mk' (HALL.out s.els s.ea s.ec ej nj kj clj wr HINS.out.2.2.2.2.2.2.1 (by have := HQB.out; omega) HA.out.2.2.2.2.2.2.1 (by have := HA.out.2.2.2.2.2.2.2; omega) HA.out.1 HA.out.2.1 HA.out.2.2.1 HA.out.2.2.2.1)
        go_wp2_with fail
        refine HCE.out.mono ?_
        rintro r w7 ⟨rfl, e7, n7, kv7, cl7, u1, u2, u3, u4, u5, u6⟩
        have HV : Hid (SP w0.heap.size b p k lp kv K cv cl (stS ft s (f :: env) (n + 1)) w w7) := by
          by_cases hej : ej = 0
          · obtain ⟨v1, v2, v3⟩ := u6 hej
            have hg := HA.out.2.2.2.2.2.1 hej
            rw [List.drop_eq_nil_of_le (by omega), csS] at hg
            obtain ⟨y1, y2, y3⟩ := hg.2 rfl
            refine HFINISH.out w7 kv7 cl7 (by rw [y1, y2, ← v1, ← v2]; exact u1) (fun h0 => ?_) u2 u3 u4
            rw [← y3 h0, v3 (by rw [v1, ← y1]; exact h0)]
            rfl
          · obtain ⟨v1, v2⟩ := u5 hej
            obtain ⟨y1, y2⟩ := HA.out.2.2.2.2.1 hej
            exact HFINISH.out w7 kv7 cl7 (by rw [y1, y2, ← v1, ← v2]; exact u1) (fun h0 => absurd (y1.symm.trans h0) hej) u2 u3 u4
        clear u1 u2 u3 u4 u5 u6 HCE x12 x13
        go_wp2_with fail
        go_end0
        exact ⟨rfl, HV.out⟩
/-- A statement, whatever it is. -/
theorem rst_step (w0 : World) (b : Nat) (p : Pr) (k : Nat) (ft : List (List UInt8 × Int)) (q : Nat) (hp : p.In w0) (hkp : k ≤ p.funcs.length) (hf : RelF ft p.funcs k) (hn : p.funcs.length ≤ 1000) (iha : AlK w0 b p k ft q) : StK w0 b p k ft (q + 1) := by
  intro s f env n lp kv K cv cl w hq hin hB h hr hlv hl0 hl1 hK hn0 hn1 hcl
  by_cases hh : hdZ (f :: env) ft s = 0
  · by_cases k1 : s.kind = 1
    · exact rst_let w0 b p k ft q hp hkp hf hn iha s f env n lp kv K cv cl w hq hin hB h hr hlv hl0 hl1 hK hn0 hn1 hcl hh k1
    by_cases k2 : s.kind = 2
    · exact rst_arr w0 b p k ft q hp hkp hf hn iha s f env n lp kv K cv cl w hq hin hB h hr hlv hl0 hl1 hK hn0 hn1 hcl hh k2
    by_cases k7 : s.kind = 7
    · exact rst_for w0 b p k ft q hp hkp hf hn iha s f env n lp kv K cv cl w hq hin hB h hr hlv hl0 hl1 hK hn0 hn1 hcl hh k7
    by_cases k56 : s.kind = 5 ∨ s.kind = 6
    · exact rst_if w0 b p k ft q hp hkp hf hn iha s f env n lp kv K cv cl w hq hin hB h hr hlv hl0 hl1 hK hn0 hn1 hcl hh k56
    · exact rst_only w0 b p k ft q hp hkp hf hn iha s f env n lp kv K cv cl w hq hin hB h hr hlv hl0 hl1 hK hn0 hn1 hcl hh k1 k2 (fun e => k56 (Or.inl e)) (fun e => k56 (Or.inr e)) k7
  · exact rst_bad w0 b p k ft q hp hkp hf hn iha s f env n lp kv K cv cl w hq hin hB h hr hlv hl0 hl1 hK hn0 hn1 hcl hh
theorem rall_all (w0 : World) (b : Nat) (p : Pr) (k : Nat) (ft : List (List UInt8 × Int)) (hp : p.In w0) (hkp : k ≤ p.funcs.length) (hf : RelF ft p.funcs k) (hn : p.funcs.length ≤ 1000) : ∀ q, AlK w0 b p k ft q
  | 0 => rall_step w0 b p k ft 0 (fun s _ _ _ _ _ _ _ _ _ hq => by have := qS_pos s; omega)
  | q + 1 => rall_step w0 b p k ft (q + 1) (rst_step w0 b p k ft q hp hkp hf hn (rall_all w0 b p k ft hp hkp hf hn q))
end Go.Proofs.YtkkcgkpbbngloaaGreatDoor

/- The document's own look at names: names made known behind a fault; the functions ahead. -/
namespace Go.Proofs.YtkkcgkpbbngloaaGreatDoor
open Go.RowKit Go.Sort

set_option maxRecDepth 100000 in
set_option maxHeartbeats 4000000 in
theorem rwrong_bad (x : Int) {N b : Nat} {w : World} {p : Pr} {fn n lp : Int} {kv : Value} {K : Kn} {e : Int} {cv : Value} {cl : List Bool} (h : RS N w b p fn n lp kv K e cv cl) (he : e ≠ 0) :
    Calls Tryz.prog 33 #[.pointer (some ⟨b, 0, none⟩), .int .i64 x] w fun r w' => r = .returned (.tuple #[]) ∧ w' = w := by
  have c6 := h.cell (j := 6) rfl
  have hb : (e == 0) = false := by simpa using he
  clear h he
  go_enter Tryz.func33, Tryz.ntmps33
  go_wp2_with fail
  go_end0
  exact ⟨rfl, rfl⟩
set_option maxRecDepth 100000 in
set_option maxHeartbeats 4000000 in
theorem rfresh_bad (s : ByteArray) (k : Int) {N b : Nat} {w : World} {p : Pr} {fn n lp : Int} {kv : Value} {K : Kn} {e : Int} {cv : Value} {cl : List Bool} (h : RS N w b p fn n lp kv K e cv cl) (he : e ≠ 0) (hK : K.length ≤ 900000) (hN : N ≤ w.heap.size) :
    Calls Tryz.prog 21 #[.pointer (some ⟨b, 0, none⟩), .string s, .int .u8 k] w fun r w' => r = .returned (.tuple #[]) ∧ ∃ kv', RS N w' b p fn n lp kv' (K ++ [(s, k)]) e cv cl ∧ Fr (b :: ob kv) w w' ∧ ∀ g ∈ ob kv', g ∈ ob kv ∨ w.heap.size ≤ g := by
  have HKD := Hid.mk' (rkind_any s h (by omega))
  have HW := Hid.mk' (rwrong_bad 9 h he)
  have hK2 := hK
  obtain ⟨i0, hi, hz0, hz1, hz2⟩ := info_parts Tryz.infoVar
  have H0 := Hid.mk' h
  obtain ⟨ao, cap, rfl⟩ := gown_form h.2.1
  have hov := h.2.1
  have c5 := h.cell (j := 5) rfl
  have hnew := var_cells w s k
  have hlt := h.lt
  clear h hK he
  cases hk : (kdZ K s != 0)
  · generalize kdZ K s = kd at *
    go_enter Tryz.func21, Tryz.ntmps21
    go_wp2_with fail
    refine HKD.out.mono ?_
    rintro r w1 ⟨rfl, rfl⟩
    clear HKD HW
    go_wp2_with (at_builtin; refine wpList_append_own_at _ rfl _ _ 52 rfl N 89 i0 (.agg #[.string ⟨#[]⟩, .int .u8 0]) 2 24 Tryz.underlying52 hi hz0 hz1 hz2 rfl (by decide) _ _ _ rfl (hov.alloc _) ⟨w1.heap.size, 0, none⟩ 1 1 [.string s, .int .u8 k] rfl rfl hnew ?c2 ?c3 ?c4 ?c5 ?_)
    case c2 => intro u hu; simp at hu; rcases hu with rfl | rfl <;> rfl
    case c3 => unfold maxLen; omega
    case c4 => omega
    case c5 => simp; omega
    intro v' w2 hown' hgrow _ hat
    obtain ⟨hb2, hp⟩ := H0.out.app hown' hgrow hat
    have hb3 := hb2.trans H0.out.1
    have d5 : w2.cell? ⟨b, 5, none⟩ = some (.slice ao K.length cap) := by rw [Lib.cell_of_heap hb3]; rfl
    have f5 : w2.frozen? ⟨b, 5, none⟩ = false := Lib.frozen_of_heap hb3 5
    have HP := Hid.mk' hp
    obtain ⟨va, vc, rfl⟩ := gown_form hown'
    clear hown' hgrow hat hp hb2 hb3 hov hnew c5
    go_wp2_with fail
    go_end0
    exact ⟨rfl, _, HP.out⟩
  · generalize kdZ K s = kd at *
    go_enter Tryz.func21, Tryz.ntmps21
    go_wp2_with fail
    refine HKD.out.mono ?_
    rintro r w1 ⟨rfl, rfl⟩
    clear HKD
    go_wp2_with fail
    refine HW.out.mono ?_
    rintro r w3 ⟨rfl, rfl⟩
    clear HW
    go_wp2_with (at_builtin; refine wpList_append_own_at _ rfl _ _ 52 rfl N 89 i0 (.agg #[.string ⟨#[]⟩, .int .u8 0]) 2 24 Tryz.underlying52 hi hz0 hz1 hz2 rfl (by decide) _ _ _ rfl (hov.alloc _) ⟨w3.heap.size, 0, none⟩ 1 1 [.string s, .int .u8 k] rfl rfl hnew ?c2 ?c3 ?c4 ?c5 ?_)
    case c2 => intro u hu; simp at hu; rcases hu with rfl | rfl <;> rfl
    case c3 => unfold maxLen; omega
    case c4 => omega
    case c5 => simp; omega
    intro v' w2 hown' hgrow _ hat
    obtain ⟨hb2, hp⟩ := H0.out.app hown' hgrow hat
    have hb3 := hb2.trans H0.out.1
    have d5 : w2.cell? ⟨b, 5, none⟩ = some (.slice ao K.length cap) := by rw [Lib.cell_of_heap hb3]; rfl
    have f5 : w2.frozen? ⟨b, 5, none⟩ = false := Lib.frozen_of_heap hb3 5
    have HP := Hid.mk' hp
    obtain ⟨va, vc, rfl⟩ := gown_form hown'
    clear hown' hgrow hat hp hb2 hb3 hov hnew c5
    go_wp2_with fail
    go_end0
    exact ⟨rfl, _, HP.out⟩
/-- The functions ahead, where none of them is wrong. -/
theorem relF_ftK {fs : List Fu} : ∀ {k : Nat}, k ≤ fs.length → (∀ (j : Nat) (f : Fu), j < k → fs[j]? = some f → (fnK fs j f).e = 0) → RelF (ftK fs k) fs k
  | 0, _, _ => ⟨fun s h => by simp [ftK, tabHas] at h, fun i f hi => by omega⟩
  | k + 1, hk, h => by
    have hlt : k < fs.length := by omega
    obtain ⟨h1, h2⟩ := relF_ftK (k := k) (by omega) (fun j f hj hf => h j f (by omega) hf)
    have hno : tabHas (ftK fs k) fs[k].name.data.toList = false := by
      have := h k fs[k] (by omega) (List.getElem?_eq_getElem hlt)
      unfold fnK fnS at this
      cases ht : tabHas (ftK fs k) fs[k].name.data.toList
      · rfl
      · rw [if_pos ht] at this; exact absurd this (by decide)
    rw [ftK_succ hlt]
    refine ⟨fun s hs => ?_, fun i f hi hf => ?_⟩
    · rw [tabHas_cons] at hs
      split at hs
      · rename_i e; exact ⟨k, fs[k], by omega, List.getElem?_eq_getElem hlt, e⟩
      · obtain ⟨i, f, a1, a2, a3⟩ := h1 s hs; exact ⟨i, f, by omega, a2, a3⟩
    · rw [tabHas_cons, tabAt_cons]
      by_cases e : i = k
      · subst e
        have : f = fs[i] := by rw [List.getElem?_eq_getElem hlt] at hf; exact (Option.some.inj hf).symm
        subst this
        rw [if_pos rfl, if_pos rfl]
        exact ⟨rfl, rfl⟩
      · obtain ⟨b1, b2⟩ := h2 i f (by omega) hf
        have hne : ¬ fs[k].name.data.toList = f.name.data.toList := fun e => by rw [← e, hno] at b1; cases b1
        rw [if_neg hne, if_neg hne]
        exact ⟨b1, b2⟩
theorem Tryz.infoBool : (Tryz.prog.info? 4).map (fun i => (i.zero, i.size, i.bytes)) = some (some (.bool false), 1, 1) := by kernel_rfl
theorem make_bools (W : World) (n : Nat) (h : n ≤ 1000) : (Instr.makeSlice 53 (.int .i64 n) (.int .i64 n)).run Tryz.prog W = .ok (.slice (some ⟨W.heap.size, 0, none⟩) n n) (W.alloc (.cells (Array.replicate n (.bool false)) 4)) := by
  have hi := Tryz.infoBool
  cases hq : Tryz.prog.info? 4 with
  | none => rw [hq] at hi; cases hi
  | some i =>
    rw [hq] at hi
    simp only [Option.map_some, Option.some.injEq, Prod.mk.injEq] at hi
    obtain ⟨e1, e2, e3⟩ := hi
    have hr := run_makeSlice (P := Tryz.prog) W 53 4 i _ Tryz.underlying53 hq e1 .i64 .i64 n n (by omega) (Int.le_refl _) (by rw [e2]; simp; omega) (by rw [e3]; omega) (by omega)
    rw [hr, e2]
    simp only [Int.toNat_natCast, Nat.mul_one]
    have : madeCells (Value.bool false).cells n = (Array.replicate n (Value.bool false)) := by
      apply Array.ext
      · simp [madeCells]
      · intro j h1 h2
        simp [madeCells, Value.cells, Nat.mod_one]
    rw [this]
/-- The look as it begins. -/
theorem rs_begin (w : World) (N : Nat) (hN : N ≤ w.heap.size) (p : Pr) (k : Int) (hp : p.funcs.length ≤ maxLen) :
    RS N ((w.alloc (.cells (Array.replicate p.funcs.length (.bool false)) 4)).alloc (.cells #[.slice p.wa p.widen.length p.wc, .slice p.fa p.funcs.length p.fc, .int .i64 k, .int .i64 0, .int .i64 0, .slice none 0 0, .int .i64 0, .slice (some ⟨w.heap.size, 0, none⟩) p.funcs.length p.funcs.length] 55)) (w.heap.size + 1) p k 0 0 (.slice none 0 0) [] 0 (.slice (some ⟨w.heap.size, 0, none⟩) p.funcs.length p.funcs.length) (List.replicate p.funcs.length false) := by
  refine ⟨?_, ⟨rfl, .inl ⟨rfl, rfl⟩⟩, ⟨by simp, .inr ⟨w.heap.size, p.funcs.length, Array.replicate p.funcs.length (.bool false), by simp, hN, ?_, by simp, hp, by simp, by simp⟩⟩, by omega, by simp [ob, Value.ownBlock], by simp [ob, Value.ownBlock], by simp [ob, Value.ownBlock]⟩
  · have := heap_alloc_new (w.alloc (.cells (Array.replicate p.funcs.length (.bool false)) 4)) (.cells #[.slice p.wa p.widen.length p.wc, .slice p.fa p.funcs.length p.fc, .int .i64 k, .int .i64 0, .int .i64 0, .slice none 0 0, .int .i64 0, .slice (some ⟨w.heap.size, 0, none⟩) p.funcs.length p.funcs.length] 55)
    rwa [World.size_alloc] at this
  · rw [Lib.alloc_old _ _ _ (by simp)]
    exact heap_alloc_new _ _
end Go.Proofs.YtkkcgkpbbngloaaGreatDoor

/- Two faults held against each other; blocks that stay. -/
namespace Go.Proofs.YtkkcgkpbbngloaaGreatDoor
open Go.RowKit Go.Sort

theorem equalIn_flt (a b c a' b' c' : Int) (w : World) : (Op.equalIn 10000 29 (fltV a b c) (fltV a' b' c')).run Tryz.prog w = .ok (a == a' && (b == b' && c == c')) w := by
  have u3 := Tryz.underlying3
  have a3 := Tryz.isAgg3
  have z3 := Tryz.sizeOf3
  have u31 := Tryz.underlying27
  have a31 := Tryz.isAgg27
  have z31 := Tryz.sizeOf27
  have hS : Tryz.prog.underlying 29 = some (.struct (Tryz.prog.fieldsOf 29)) := by kernel_rfl
  have hp : Tryz.prog.stoodInHeld 29 = false := by kernel_rfl
  unfold fltV
  rw [show (10000 : Nat) = 9999 + 1 from rfl, run_equalIn_agg w 9999 29 _ _ hS hp]
  simp only [Program.fieldsOf, Tryz.underlying29]
  go_simp
  by_cases h1 : a = a' <;> by_cases h2 : b = b' <;> by_cases h3 : c = c' <;> simp [h1, h2, h3]

theorem keep_heap {W : World} {k : Nat} {o : Obj} (h : W.heap[k]? = some o) (o' : Obj) : (W.alloc o').heap[k]? = some o := (Lib.alloc_old W o' k (Array.getElem?_eq_some_iff.1 h).1).trans h
theorem new_heap {W : World} {k : Nat} (o : Obj) (h : W.heap.size = k) : (W.alloc o).heap[k]? = some o := by rw [← h]; exact heap_alloc_new W o
theorem eqGuard_flt (w : World) (op : BinOp) (a b : Operand) (xs ys : Array Value) : (eqGuard op 29 a b (.agg xs) (.agg ys)).run Tryz.prog w = .ok () w := run_eqGuard_agg w op 29 a b xs ys (by kernel_rfl)
theorem Below.on {A B C : World} (h : Below A.heap.size A B) (k : Below B.heap.size B C) : Below A.heap.size A C := h.trans (k.mono h.size)
theorem Below.one {A B : World} (h : Below A.heap.size A B) (o : Obj) : Below A.heap.size A (B.alloc o) := h.alloc h.size o
/-- Of a world W0 that is behind: what its blocks hold is told in every world behind it. -/
theorem seen {W0 : World} {p : Addr} {v : Value} (h : W0.cell? p = some v) : ∀ w', Below W0.heap.size W0 w' → w'.cell? p = some v := fun _ hb => (hb.cell (lt_of_cell h)).trans h
end Go.Proofs.YtkkcgkpbbngloaaGreatDoor

/- The document's own look at a function's names. -/
namespace Go.Proofs.YtkkcgkpbbngloaaGreatDoor
open Go.RowKit Go.Sort

/-- What the look answers. -/
def LkR (p : Pr) (k : Nat) (R : SR) (w : World) (e : Ending) (w' : World) : Prop := Below w.heap.size w w' ∧ ∃ g, e = .returned (.tuple #[.pointer (some ⟨g, 0, none⟩), if R.e ≠ 0 then fltV R.e k R.m else fltV 0 0 0]) ∧
  (R.e = 0 → ∃ n lp kv K cv, RS w.heap.size w' g p k n lp kv K 0 cv (mark (List.replicate p.funcs.length false) R.c))
set_option maxRecDepth 100000 in
set_option maxHeartbeats 4000000 in
theorem rlook_any (p : Pr) (k : Nat) (w : World) (hin : p.In w) (hc : (checkZ p).1 = 0) (hk : k < p.funcs.length) (ha : ∀ (j : Nat) (f : Fu), j < k → p.funcs[j]? = some f → (fnK p.funcs j f).e = 0) :
    Calls Tryz.prog 13 #[p.val, .int .i64 k] w (LkR p k (fnK p.funcs k p.funcs[k]) w) := by
  obtain ⟨hr1, hr2⟩ := check_room hc
  have hf := relF_ftK (Nat.le_of_lt hk) ha
  obtain ⟨_, _, _, _, _, hl, hcp, _, hrow, hsub⟩ := hin
  have hfin := hsub p.funcs[k] (List.getElem_mem hk)
  obtain ⟨hq, hpl⟩ := hr2 p.funcs[k] (List.getElem_mem hk)
  have HR : Hid (RowIn w p.fa 3 (List.map Fu.cells p.funcs)) := hrow
  have hp : p.In w := ⟨by assumption, by assumption, by assumption, by assumption, by assumption, hl, hcp, by assumption, hrow, hsub⟩
  have HP := Hid.mk' hp
  have HRF := Hid.mk' hf
  have HGK : Hid (p.funcs[k]? = some p.funcs[k]) := List.getElem?_eq_getElem hk
  have HFK : Hid (fnK p.funcs k p.funcs[k] = fnS (ftK p.funcs k) p.funcs[k]) := rfl
  have hpl' := hfin.2.1
  have hpc' := hfin.2.2.1
  have HFI := Hid.mk' (And.intro hfin (And.intro hq hpl))
  have HNN : Hid (p.funcs.length ≤ 32) := hr1
  clear hr2 hf hrow hsub hfin hc ha hq
  obtain ⟨f0, o0, hfa, d0, d1, d2⟩ := rowF_at HR.out hk
  have HD : Hid (∀ W', Below w.heap.size w W' → W'.cell? ⟨f0, o0 + k * 3, none⟩ = some (.string p.funcs[k].name) ∧ W'.cell? ⟨f0, o0 + k * 3 + 1, none⟩ = some (.slice p.funcs[k].pa p.funcs[k].params.length p.funcs[k].pc) ∧ W'.cell? ⟨f0, o0 + k * 3 + 2, none⟩ = some (.slice p.funcs[k].ba p.funcs[k].body.length p.funcs[k].bc)) := fun W' hb =>
    ⟨(hb.cell (p := ⟨f0, o0 + k * 3, none⟩) (lt_of_cell d0)).trans d0, (hb.cell (p := ⟨f0, o0 + k * 3 + 1, none⟩) (lt_of_cell d1)).trans d1, (hb.cell (p := ⟨f0, o0 + k * 3 + 2, none⟩) (lt_of_cell d2)).trans d2⟩
  have HFA := Hid.mk' hfa
  clear d0 d1 d2 hfa
  generalize p.funcs[k] = F at *
  obtain ⟨R, HRR⟩ : ∃ R, Hid (fnK p.funcs k F = R) := ⟨_, rfl⟩
  rw [HRR.out]
  -- the worlds ahead of the first loop
  have hb1 := ((Below.refl _ w).alloc (Nat.le_refl _) (.cells #[.slice p.wa p.widen.length p.wc, .slice p.fa p.funcs.length p.fc] 25)).alloc (by simp) (.cells #[.int .i64 0, .int .i64 0, .int .i64 0] 29)
  have hki : (k : Int) < (p.funcs.length : Int) := by omega
  have hn32 := hr1
  have hms := fun W => make_bools W p.funcs.length (by omega)
  have hcl : p.funcs.length ≤ p.fc := hl
  unfold Pr.val
  have p0 : ((w.alloc (.cells #[.slice p.wa p.widen.length p.wc, .slice p.fa p.funcs.length p.fc] 25)).alloc (.cells #[.int .i64 0, .int .i64 0, .int .i64 0] 29)).cell? ⟨w.heap.size, 0, none⟩ = some (.slice p.wa p.widen.length p.wc) := by rw [World.cell?_alloc_past _ _ _ (by simp), World.cell?_alloc_at _ _ _ _ rfl]; rfl
  have p1 : ((w.alloc (.cells #[.slice p.wa p.widen.length p.wc, .slice p.fa p.funcs.length p.fc] 25)).alloc (.cells #[.int .i64 0, .int .i64 0, .int .i64 0] 29)).cell? ⟨w.heap.size, 1, none⟩ = some (.slice p.fa p.funcs.length p.fc) := by rw [World.cell?_alloc_past _ _ _ (by simp), World.cell?_alloc_at _ _ _ _ rfl]; rfl
  have hres := heap_alloc_new (w.alloc (.cells #[.slice p.wa p.widen.length p.wc, .slice p.fa p.funcs.length p.fc] 25)) (.cells #[.int .i64 0, .int .i64 0, .int .i64 0] 29)
  rw [World.size_alloc] at hres
  have hS : ((w.alloc (.cells #[.slice p.wa p.widen.length p.wc, .slice p.fa p.funcs.length p.fc] 25)).alloc (.cells #[.int .i64 0, .int .i64 0, .int .i64 0] 29)).heap.size = w.heap.size + 2 := by simp
  go_enter Tryz.func13, Tryz.ntmps13
  go_upto_region 1 with fail
  generalize (w.alloc (.cells #[.slice p.wa p.widen.length p.wc, .slice p.fa p.funcs.length p.fc] 25)).alloc (.cells #[.int .i64 0, .int .i64 0, .int .i64 0] 29) = W1 at *
  have HS := Hid.mk' hS
  have HPB := Hid.mk' (And.intro p0 (And.intro p1 (And.intro hres hb1)))
  have p0' : W1.drew.cell? _ = _ := p0
  have p1' : W1.drew.cell? _ = _ := p1
  have HRS0 := Hid.mk' (rs_begin W1 w.heap.size hb1.size p k (by unfold maxLen; omega))
  clear hS hres hb1
  have HWS : Hid (((W1.alloc (.cells (Array.replicate p.funcs.length (.bool false)) 4)).alloc (.cells #[.slice p.wa p.widen.length p.wc, .slice p.fa p.funcs.length p.fc, .int .i64 k, .int .i64 0, .int .i64 0, .slice none 0 0, .int .i64 0, .slice (some ⟨W1.heap.size, 0, none⟩) p.funcs.length p.funcs.length] 55)).drew.heap.size = W1.heap.size + 2) := by show _ = _; simp [World.drew]
  have HB2 : Hid (Below W1.heap.size W1 ((W1.alloc (.cells (Array.replicate p.funcs.length (.bool false)) 4)).alloc (.cells #[.slice p.wa p.widen.length p.wc, .slice p.fa p.funcs.length p.fc, .int .i64 k, .int .i64 0, .int .i64 0, .slice none 0 0, .int .i64 0, .slice (some ⟨W1.heap.size, 0, none⟩) p.funcs.length p.funcs.length] 55)).drew) := Below.drew (((Below.refl _ W1).alloc (Nat.le_refl _) _).alloc (by simp) _)
  have HRS1 : Hid (RS w.heap.size ((W1.alloc (.cells (Array.replicate p.funcs.length (.bool false)) 4)).alloc (.cells #[.slice p.wa p.widen.length p.wc, .slice p.fa p.funcs.length p.fc, .int .i64 k, .int .i64 0, .int .i64 0, .slice none 0 0, .int .i64 0, .slice (some ⟨W1.heap.size, 0, none⟩) p.funcs.length p.funcs.length] 55)).drew (W1.heap.size + 1) p k 0 0 (.slice none 0 0) [] 0 (.slice (some ⟨W1.heap.size, 0, none⟩) p.funcs.length p.funcs.length) (List.replicate p.funcs.length false)) := HRS0.out.stay (Below.drew (Below.refl _ _))
  clear HRS0
  have hpw : w.heap.size < W1.heap.size := by rw [HS.out]; omega
  have p0a : (W1.alloc (.cells (Array.replicate p.funcs.length (.bool false)) 4)).cell? ⟨w.heap.size, 0, none⟩ = some (.slice p.wa p.widen.length p.wc) := by rw [World.cell?_alloc_past _ _ _ hpw]; exact p0
  have p1a : (W1.alloc (.cells (Array.replicate p.funcs.length (.bool false)) 4)).cell? ⟨w.heap.size, 1, none⟩ = some (.slice p.fa p.funcs.length p.fc) := by rw [World.cell?_alloc_past _ _ _ hpw]; exact p1
  have p0b : (W1.alloc (.cells (Array.replicate p.funcs.length (.bool false)) 4)).drew.cell? ⟨w.heap.size, 0, none⟩ = some (.slice p.wa p.widen.length p.wc) := p0a
  have p1b : (W1.alloc (.cells (Array.replicate p.funcs.length (.bool false)) 4)).drew.cell? ⟨w.heap.size, 1, none⟩ = some (.slice p.fa p.funcs.length p.fc) := p1a
  go_region
  generalize ((W1.alloc (.cells (Array.replicate p.funcs.length (.bool false)) 4)).alloc (.cells #[.slice p.wa p.widen.length p.wc, .slice p.fa p.funcs.length p.fc, .int .i64 k, .int .i64 0, .int .i64 0, .slice none 0 0, .int .i64 0, .slice (some ⟨W1.heap.size, 0, none⟩) p.funcs.length p.funcs.length] 55)).drew = W2 at *
  rw [HS.out] at HWS HRS1
  clear p0 p1 p0' p1' hms p0a p1a p0b p1b hpw
  -- what stays
  have HBX : Hid (∀ W' : World, (∀ g, g < w.heap.size + 2 → W'.heap[g]? = W2.heap[g]?) → W'.cell? ⟨w.heap.size, 1, none⟩ = some (.slice (some ⟨f0, o0, none⟩) p.funcs.length p.fc) ∧ (∀ j, j < 3 → W'.cell? ⟨w.heap.size + 1, j, none⟩ = some (.int .i64 0)) ∧ ∀ j, W'.frozen? ⟨w.heap.size + 1, j, none⟩ = false) := fun W' hW => by
    obtain ⟨_, e1, e2, _⟩ := HPB.out
    have z1 := HB2.out.cell (p := ⟨w.heap.size, 1, none⟩) (by show w.heap.size < _; rw [HS.out]; omega)
    have z2 := HB2.out.block (w.heap.size + 1) (by rw [HS.out]; omega)
    have z3 := (hW (w.heap.size + 1) (by omega)).trans (z2.trans e2)
    refine ⟨?_, fun j hj => ?_, fun j => Lib.frozen_of_heap z3 j⟩
    · have : W'.cell? ⟨w.heap.size, 1, none⟩ = W2.cell? ⟨w.heap.size, 1, none⟩ := by simp only [World.cell?, hW w.heap.size (by omega)]
      rw [this, z1, e1, HFA.out]
    · rw [Lib.cell_of_heap z3]
      match j, hj with
      | 0, _ => rfl
      | 1, _ => rfl
      | 2, _ => rfl
  have hbw2 : Below w.heap.size w W2 := HPB.out.2.2.2.trans (HB2.out.mono HPB.out.2.2.2.size)
  obtain ⟨d0, d1, d2⟩ := HD.out _ hbw2
  obtain ⟨p1, _, _⟩ := HBX.out W2 (fun _ _ => rfl)
  have hb3 := (Below.refl _ W2).alloc (Nat.le_refl _) (.cells #[.string F.name, .slice F.pa F.params.length F.pc, .slice F.ba F.body.length F.bc] 38)
  have HRS3 := Hid.mk' (HRS1.out.stay hb3)
  have HB3 := Hid.mk' hb3
  have HFB := Hid.mk' (heap_alloc_new W2 (.cells #[.string F.name, .slice F.pa F.params.length F.pc, .slice F.ba F.body.length F.bc] 38))
  rw [HWS.out] at HFB
  have HBW2 := Hid.mk' hbw2
  clear hb3 hbw2
  have hws := HWS.out
  have hss := HS.out
  go_upto_region 3 with fail
  generalize W2.alloc (.cells #[.string F.name, .slice F.pa F.params.length F.pc, .slice F.ba F.body.length F.bc] 38) = W3 at *
  clear d0 d1 d2 p1
  rw [hss]
  -- what stays behind the first loop
  obtain ⟨cv, HCV⟩ : ∃ cv : Value, Hid (cv = .slice (some ⟨w.heap.size + 2, 0, none⟩) p.funcs.length p.funcs.length) := ⟨_, rfl⟩
  rw [← HCV.out] at HRS3
  have hobc : ob cv = [w.heap.size + 2] := by rw [HCV.out]; rfl
  have HOBC := Hid.mk' hobc
  have HST : Hid (∀ W', Fr ((w.heap.size + 2 + 1) :: ob cv) W3 W' → Below w.heap.size w W' ∧ W'.cell? ⟨w.heap.size, 1, none⟩ = some (.slice (some ⟨f0, o0, none⟩) p.funcs.length p.fc) ∧ (∀ j, j < 3 → W'.cell? ⟨w.heap.size + 1, j, none⟩ = some (.int .i64 0)) ∧ (∀ j, W'.frozen? ⟨w.heap.size + 1, j, none⟩ = false) ∧ W'.cell? ⟨w.heap.size + 2 + 2, 0, none⟩ = some (.string F.name) ∧ W'.cell? ⟨w.heap.size + 2 + 2, 1, none⟩ = some (.slice F.pa F.params.length F.pc) ∧ W'.cell? ⟨w.heap.size + 2 + 2, 2, none⟩ = some (.slice F.ba F.body.length F.bc)) := fun W' hW => by
    have hz := HB3.out.size
    rw [hws] at hz
    have hx : ∀ g, g < w.heap.size + 2 → W'.heap[g]? = W2.heap[g]? := fun g hg => (hW.2.2.2.2 g (by omega) (by rw [hobc]; simp; omega)).trans (HB3.out.block g (by rw [hws]; omega))
    obtain ⟨y1, y2, y3⟩ := HBX.out W' hx
    have hfb : W'.heap[w.heap.size + 2 + 2]? = _ := (hW.2.2.2.2 (w.heap.size + 2 + 2) (Array.getElem?_eq_some_iff.1 HFB.out).1 (by rw [hobc]; simp)).trans HFB.out
    refine ⟨?_, y1, y2, y3, ?_, ?_, ?_⟩
    · have h1 : Below w.heap.size W3 W' := hW.below (fun g hg => by rw [hobc] at hg; simp at hg; omega) (by omega)
      exact (HBW2.out.trans (HB3.out.mono (by rw [hws]; omega))).trans h1
    · rw [Lib.cell_of_heap hfb]; rfl
    · rw [Lib.cell_of_heap hfb]; rfl
    · rw [Lib.cell_of_heap hfb]; rfl
  have HF0 := Hid.mk' (Fr.refl ((w.heap.size + 2 + 1) :: ob cv) W3)
  have HW3 : Hid (w.heap.size + 2 + 2 < W3.heap.size) := (Array.getElem?_eq_some_iff.1 HFB.out).1
  clear hobc HBX HB3 HBW2 HFB HB2 HPB HRS1
  have HPOST : Hid (∀ w' g, Below w.heap.size w w' → (R.e = 0 → ∃ n lp kv K cv, RS w.heap.size w' g p k n lp kv K 0 cv (mark (List.replicate p.funcs.length false) R.c)) → LkR p k R w (.returned (.tuple #[.pointer (some ⟨g, 0, none⟩), if R.e ≠ 0 then fltV R.e k R.m else fltV 0 0 0])) w') := fun w' g a1 a2 => ⟨a1, g, rfl, a2⟩
  have HFN : Hid (R = fnS (ftK p.funcs k) F) := by show _ = _; rw [← HRR.out, HFK.out]
  clear hws hss
  go_wp2_with fail
  go_loopw [8] (fun t8 wr => ∃ j : Nat, j ≤ k ∧ t8 = .int .i64 j ∧ (∀ i, i < j → ∀ f, p.funcs[i]? = some f → f.name.data.toList ≠ F.name.data.toList) ∧ Below W3.heap.size W3 wr) (fun t8 _ => k - (intOf t8).toNat)
  case atStart => exact ⟨0, Nat.zero_le _, rfl, fun i hi => by omega, Below.refl _ _⟩
  case round =>
    obtain ⟨j, hj, rfl, h1, h2⟩ := hrel
    have HX := Hid.mk' (And.intro h1 h2)
    obtain ⟨hbw, p1, y2, y3, z0, z1, z2⟩ := HST.out wr (Fr.of_below h2)
    clear h1 h2
    by_cases hlt : j < k
    · have hli : (j : Int) < (k : Int) := by omega
      have hjn : j < p.funcs.length := by omega
      have hjl : (j : Int) < (p.funcs.length : Int) := by omega
      obtain ⟨g, o, hfa, e0, _, _⟩ := rowF_at (HR.out.below hbw) hjn
      rw [HFA.out] at hfa
      injection hfa with hfa
      injection hfa with hg ho
      subst hg
      subst ho
      have HG : Hid (p.funcs[j]? = some p.funcs[j]) := List.getElem?_eq_getElem hjn
      generalize p.funcs[j] = f at *
      have p1' : wr.drew.cell? _ = _ := p1
      have z0' : wr.drew.cell? _ = _ := z0
      have e0' : wr.drew.cell? _ = _ := e0
      have HBW := Hid.mk' hbw
      have HY := Hid.mk' (And.intro y2 y3)
      clear hbw y2 y3
      cases hs : (f.name.toList == F.name.toList)
      · have HV : Hid (∀ i, i < j + 1 → ∀ f, p.funcs[i]? = some f → f.name.data.toList ≠ F.name.data.toList) := fun i hi f' hf' => by
          by_cases e : i = j
          · subst e
            rw [HG.out] at hf'
            cases hf'
            rw [← ba_list, ← ba_list]; simpa using hs
          · exact HX.out.1 i (by omega) f' hf'
        go_upto_region 6 with fail
        go_region
        clear p1 p1' z0 z0' e0 e0' z1 z2
        go_wp2_with fail
        go_roundw
        case rel => exact ⟨j + 1, by omega, by go_num, HV.out, Below.drew HX.out.2⟩
        case measure => simp [intOf]; omega
      · have he : f.name.data.toList = F.name.data.toList := by rw [← ba_list, ← ba_list]; simpa using hs
        have ht : tabHas (ftK p.funcs k) F.name.data.toList = true := by have := (HRF.out.2 j f hlt HG.out).1; rw [he] at this; exact this
        have hRv : R = ⟨9, 0, [], []⟩ := by rw [HFN.out]; unfold fnS; rw [if_pos ht]
        have HRV := Hid.mk' hRv
        have r0 := HY.out.1 0 (by omega)
        have r1 := HY.out.1 1 (by omega)
        have r2 := HY.out.1 2 (by omega)
        have q0 := HY.out.2 0
        have q1 := HY.out.2 1
        have q2 := HY.out.2 2
        clear he ht hRv
        go_upto_region 6 with fail
        go_region
        clear p1 p1' z0 z0' e0 e0' z1 z2
        have r0' : wr.drew.cell? _ = _ := r0
        have r1' : wr.drew.cell? _ = _ := r1
        have r2' : wr.drew.cell? _ = _ := r2
        have q0' : wr.drew.frozen? _ = _ := q0
        have q1' : wr.drew.frozen? _ = _ := q1
        have q2' : wr.drew.frozen? _ = _ := q2
        have HBD := Hid.mk' (Below.drew HBW.out)
        clear r0 r1 r2 q0 q1 q2
        generalize wr.drew = W5 at *
        go_wp2_with fail
        refine bodyPost_ret (v := .tuple #[.pointer (some ⟨w.heap.size + 2 + 1, 0, none⟩), fltV 9 k 0]) (by simp [results, Tryz.results13, go_sem, r0', r1', r2']) rfl ?_
        have := HPOST.out _ (w.heap.size + 2 + 1) (below_set3 HBD.out (b := w.heap.size + 1) (by omega) (.int .i64 9) (.int .i64 k) (.int .i64 0)) (fun h => by rw [HRV.out] at h; exact absurd h (by decide))
        have hre : R.e = 9 ∧ R.m = 0 := by rw [HRV.out]; exact ⟨rfl, rfl⟩
        rw [hre.1, hre.2, if_pos (by decide)] at this
        exact this
    · have hli : ¬ (j : Int) < (k : Int) := by omega
      have hno : tabHas (ftK p.funcs k) F.name.data.toList = false := by
        cases ht : tabHas (ftK p.funcs k) F.name.data.toList
        · rfl
        · obtain ⟨i, f, hi, hf, hs⟩ := HRF.out.1 _ ht
          exact absurd hs (HX.out.1 i (by omega) f hf)
      have hR2 : R = (if (paS F.params [(false, [])]).1 ≠ 0 then ⟨(paS F.params [(false, [])]).1, 0, (paS F.params [(false, [])]).2, []⟩ else lsS (ftK p.funcs k) F.body (paS F.params [(false, [])]).2 0) := by rw [HFN.out]; unfold fnS; rw [if_neg (by rw [hno]; simp)]
      have HR2 := Hid.mk' hR2
      obtain ⟨P, HPP⟩ : ∃ P, Hid (paS F.params [(false, [])] = P) := ⟨_, rfl⟩
      rw [HPP.out] at HR2
      clear hno hR2 HFN
      have HFR := Hid.mk' (Fr.of_below (S := (w.heap.size + 2 + 1) :: ob cv) HX.out.2)
      have HRS4 := Hid.mk' (HRS3.out.stay HX.out.2)
      clear p1 y2 y3 z0 z1 z2 hbw HRS3 HX
      obtain ⟨B, hBe⟩ : ∃ B, w.heap.size + 2 + 1 = B := ⟨_, rfl⟩
      have hBr : w.heap.size + 1 ≠ B := by omega
      rw [hBe] at HST HFR HRS4 ⊢
      have HBE := Hid.mk' hBe
      clear hBe HF0
      -- how it ends
      have HEND : Hid (∀ wz kz Kz clz ez nz, RS w.heap.size wz B p k nz 0 kz Kz ez cv clz → Fr (B :: ob cv) W3 wz → (∀ g ∈ ob kz, W3.heap.size ≤ g) → (ez ≠ 0 → R.e = ez ∧ R.m = nz) → (ez = 0 → R.e = 0 ∧ clz = mark (List.replicate p.funcs.length false) R.c) → (ez ≠ 0 → ∀ w', w' = (((wz.setCell ⟨w.heap.size + 1, 0, none⟩ (.int .i64 ez)).setCell ⟨w.heap.size + 1, 1, none⟩ (.int .i64 k)).setCell ⟨w.heap.size + 1, 2, none⟩ (.int .i64 nz)).drew → LkR p k R w (.returned (.tuple #[.pointer (some ⟨B, 0, none⟩), fltV ez k nz])) w') ∧ (ez = 0 → LkR p k R w (.returned (.tuple #[.pointer (some ⟨B, 0, none⟩), fltV 0 0 0])) (((wz.setCell ⟨w.heap.size + 1, 0, none⟩ (.int .i64 0)).setCell ⟨w.heap.size + 1, 1, none⟩ (.int .i64 0)).setCell ⟨w.heap.size + 1, 2, none⟩ (.int .i64 0)))) := fun wz kz Kz clz ez nz a1 a2 a5 a3 a4 => by
        have hbz := (HST.out _ a2).1
        refine ⟨fun he w' hw' => ?_, fun he => ?_⟩
        · obtain ⟨b1, b2⟩ := a3 he
          have := HPOST.out w' B (by rw [hw']; exact Below.drew (below_set3 hbz (b := w.heap.size + 1) (by omega) _ _ _)) (fun h => absurd (b1.symm.trans h) he)
          rw [b1, b2, if_pos he] at this
          exact this
        · obtain ⟨b1, b2⟩ := a4 he
          have := HPOST.out (((wz.setCell ⟨w.heap.size + 1, 0, none⟩ (.int .i64 0)).setCell ⟨w.heap.size + 1, 1, none⟩ (.int .i64 0)).setCell ⟨w.heap.size + 1, 2, none⟩ (.int .i64 0)) B (below_set3 hbz (b := w.heap.size + 1) (by omega) _ _ _) (fun _ => by
            have hset : Fr [w.heap.size + 1] wz (((wz.setCell ⟨w.heap.size + 1, 0, none⟩ (.int .i64 0)).setCell ⟨w.heap.size + 1, 1, none⟩ (.int .i64 0)).setCell ⟨w.heap.size + 1, 2, none⟩ (.int .i64 0)) := (((Fr.refl _ wz).set (by simp) _ _).set (by simp) _ _).set (by simp) _ _
            rw [he] at a1
            refine ⟨nz, 0, kz, Kz, cv, ?_⟩
            rw [← b2]
            exact a1.fr hset (by simp; omega) (fun g hg => by have h1 := a5 g hg; have h2 := HW3.out; simp; omega) (fun g hg => by rw [HOBC.out] at hg; simp at hg ⊢; omega))
          rw [b1, if_neg (by simp)] at this
          exact this
      go_wp2_with fail
      go_loopw [9] (fun t9 wr => ∃ (j : Nat) (ej : Int) (kj : Value) (Kj : Kn) (fj : Bool × List (List UInt8 × Int)), j ≤ F.params.length ∧ t9 = .int .i64 j ∧ RS w.heap.size wr B p k 0 0 kj Kj ej cv (List.replicate p.funcs.length false) ∧ Kj.length = j ∧ Fr (B :: ob cv) W3 wr ∧ (∀ g ∈ ob kj, W3.heap.size ≤ g) ∧ (ej ≠ 0 → P.1 = ej) ∧ (ej = 0 → RelK [fj] Kj ∧ fj.1 = false ∧ paS (F.params.drop j) [fj] = P)) (fun t9 _ => F.params.length - (intOf t9).toNat)
      case atStart => exact ⟨0, 0, _, [], (false, []), Nat.zero_le _, rfl, HRS4.out, rfl, HFR.out, fun g hg => by simp [ob, Value.ownBlock] at hg, fun h => absurd rfl h, fun _ => ⟨⟨fun s => rfl, fun x hx => by cases hx⟩, rfl, HPP.out⟩⟩
      case round =>
        obtain ⟨j, ej, kj, Kj, fj, hj, rfl, a1, a2, a3, a4, a5, a6⟩ := hrel
        have HA := Hid.mk' (And.intro a1 (And.intro a2 (And.intro a3 (And.intro a4 (And.intro a5 a6)))))
        obtain ⟨hbw, _, y2, y3, _, z1, z2⟩ := HST.out wr a3
        have hK8 : Kj.length ≤ 8 := by have := HFI.out.2.2; omega
        have hNw : w.heap.size ≤ wr.heap.size := hbw.size
        have HBW := Hid.mk' hbw
        have HY := Hid.mk' (And.intro y2 y3)
        clear a1 a2 a3 a4 a5 a6 hbw y2 y3
        by_cases hlt : j < F.params.length
        · have hli : (j : Int) < (F.params.length : Int) := by omega
          obtain ⟨g, o, hpa, t0, _, _⟩ := rowPa_at (HFI.out.1.2.2.2.2.1.below HBW.out) hlt
          rw [hpa] at z1
          have HDP : Hid (∀ env, paS (F.params.drop j) env = if dcZ env F.params[j].name.data.toList ≠ 0 then (dcZ env F.params[j].name.data.toList, env) else paS (F.params.drop (j + 1)) (dcEnv env F.params[j].name.data.toList 1)) := fun env => paS_drop hlt
          clear hpa
          generalize F.params[j] = y at *
          by_cases hej : ej = 0
          · subst hej
            have HFS := Hid.mk' (rfresh_any y.name 112 HA.out.1 (by omega) hNw)
            go_wp2_with fail
            refine HFS.out.mono ?_
            rintro r w5 ⟨rfl, kv5, g1, g2, g3⟩
            have HG := Hid.mk' (And.intro g1 (And.intro g2 g3))
            clear g1 g2 g3 HFS t0 z1 z2
            go_wp2_with fail
            go_roundw
            case rel =>
              obtain ⟨b1, b2, b3, b4, b5, b6⟩ := HA.out
              obtain ⟨c1, c2, c3⟩ := b6 (by first | rfl | trivial)
              obtain ⟨g1, g2, g3⟩ := HG.out
              rw [← dc_kd c1] at g1
              have hp := HDP.out [fj]
              rw [c3] at hp
              obtain ⟨f', hf1, _, hf3⟩ := dcEnv_tail fj [] y.name.data.toList 1
              refine ⟨j + 1, _, kv5, _, f', by omega, by go_num, g1, by simp [b2], b3.trans' g2 (fun x hx => ?_), fun g hg => ?_, fun h => ?_, fun h => ?_⟩
              · rcases List.mem_cons.1 hx with rfl | hx
                · exact Or.inl (by simp)
                · exact Or.inr (b4 x hx)
              · rcases g3 g hg with h' | h'
                · exact b4 g h'
                · exact Nat.le_trans b3.size h'
              · rw [if_pos h] at hp; rw [hp]
              · rw [if_neg (by simpa using h), hf3] at hp
                have := c1.put y.name 112 (by omega) h
                rw [show cod 112 = 1 from rfl, hf3] at this
                exact ⟨this, hf1.trans c2, hp.symm⟩
            case measure => simp [intOf]; omega
          · have HEJ := Hid.mk' hej
            have HFS := Hid.mk' (rfresh_bad y.name 112 HA.out.1 hej (by omega) hNw)
            clear hej
            go_wp2_with fail
            refine HFS.out.mono ?_
            rintro r w5 ⟨rfl, kv5, g1, g2, g3⟩
            have HG := Hid.mk' (And.intro g1 (And.intro g2 g3))
            clear g1 g2 g3 HFS t0 z1 z2
            go_wp2_with fail
            go_roundw
            case rel =>
              obtain ⟨b1, b2, b3, b4, b5, b6⟩ := HA.out
              obtain ⟨g1, g2, g3⟩ := HG.out
              refine ⟨j + 1, ej, kv5, _, fj, by omega, by go_num, g1, by simp [b2], b3.trans' g2 (fun x hx => ?_), fun g hg => ?_, b5, fun h => absurd h HEJ.out⟩
              · rcases List.mem_cons.1 hx with rfl | hx
                · exact Or.inl (by simp)
                · exact Or.inr (b4 x hx)
              · rcases g3 g hg with h' | h'
                · exact b4 g h'
                · exact Nat.le_trans b3.size h'
            case measure => simp [intOf]; omega
        · have hli : ¬ (j : Int) < (F.params.length : Int) := by omega
          by_cases hej : ej = 0
          · subst hej
            obtain ⟨b1, b2, b3, b4, b5, b6⟩ := HA.out
            obtain ⟨c1, c2, c3⟩ := b6 rfl
            rw [List.drop_eq_nil_of_le (by omega), paS] at c3
            have hR3 : R = lsS (ftK p.funcs k) F.body [fj] 0 := by rw [HR2.out, ← c3, if_neg (by simp)]
            have HAL := Hid.mk' (rall_all w B p k (ftK p.funcs k) HP.out (Nat.le_of_lt hk) HRF.out (by have := HNN.out; omega) (qSs F.body) F.body F.ba F.bc fj [] 0 0 kj Kj cv (List.replicate p.funcs.length false) wr (Nat.le_refl _) HFI.out.1.2.2.2.2.2.2 HBW.out b1 c1 (by show (if fj.1 = true then (0 : Int) else 32) = _; rw [c2]; rfl) (Int.le_refl _) (by have := HFI.out.2.1; omega) (by have := HFI.out.2.1; omega) (Int.le_refl _) (by have := HFI.out.2.1; omega) (by simp))
            rw [← hR3] at HAL
            clear b1 b2 b3 b4 b5 b6 c1 c2 c3 hR3
            go_wp2_with fail
            refine HAL.out.mono ?_
            rintro r w6 ⟨rfl, kv6, cl6, g1, g2, g3, g4, g5⟩
            have hf6 : Fr (B :: ob cv) W3 w6 := HA.out.2.2.1.trans' g4 (fun x hx => by
              rcases List.mem_cons.1 hx with rfl | hx
              · exact Or.inl (by simp)
              rcases List.mem_append.1 hx with hx | hx
              · exact Or.inr (HA.out.2.2.2.1 x hx)
              · exact Or.inl (by simp [hx]))
            have HZ := Hid.mk' (And.intro g1 (And.intro hf6 (And.intro (fun g hg => (by
              rcases g5 g hg with h' | h'
              · exact HA.out.2.2.2.1 g h'
              · exact Nat.le_trans HA.out.2.2.1.size h' : W3.heap.size ≤ g)) (And.intro (fun (_ : R.e ≠ 0) => And.intro (Eq.refl R.e) (Eq.refl R.m)) (fun (h : R.e = 0) => And.intro h (g2 h))))))
            clear g1 g2 g3 g4 g5 hf6 HAL z1 z2
            by_cases hez : R.e = 0
            · have HEZ := Hid.mk' hez
              have hzb : (R.e != 0) = false := by simpa using hez
              clear hez
              have c6 := HZ.out.1.cell (j := 6) rfl
              obtain ⟨_, _, y2, y3, _, _, _⟩ := HST.out w6 HZ.out.2.1
              have r0 := y2 0 (by omega)
              have r1 := y2 1 (by omega)
              have r2 := y2 2 (by omega)
              have q0 := y3 0
              have q1 := y3 1
              have q2 := y3 2
              clear y2 y3
              go_wp2_with fail
              refine bodyPost_ret (v := .tuple #[.pointer (some ⟨B, 0, none⟩), fltV 0 0 0]) (by simp [results, Tryz.results13, go_sem, r0, r1, r2]) rfl ?_
              exact (HEND.out w6 kv6 Kj cl6 R.e R.m HZ.out.1 HZ.out.2.1 HZ.out.2.2.1 (fun _ => ⟨rfl, rfl⟩) HZ.out.2.2.2.2).2 HEZ.out
            · have HEZ := Hid.mk' hez
              have hzb : (R.e != 0) = true := by simpa using hez
              clear hez
              have c6 := HZ.out.1.cell (j := 6) rfl
              have c3 := HZ.out.1.cell (j := 3) rfl
              have c6' : w6.drew.cell? _ = _ := c6
              have c3' : w6.drew.cell? _ = _ := c3
              obtain ⟨_, _, y2, y3, _, _, _⟩ := HST.out w6 HZ.out.2.1
              have r0 := y2 0 (by omega)
              have r1 := y2 1 (by omega)
              have r2 := y2 2 (by omega)
              have q0 := y3 0
              have q1 := y3 1
              have q2 := y3 2
              have r0' : w6.drew.cell? _ = _ := r0
              have r1' : w6.drew.cell? _ = _ := r1
              have r2' : w6.drew.cell? _ = _ := r2
              have q0' : w6.drew.frozen? _ = _ := q0
              have q1' : w6.drew.frozen? _ = _ := q1
              have q2' : w6.drew.frozen? _ = _ := q2
              clear y2 y3
              go_upto_region 14 with fail
              go_region
              go_wp2_with fail
              refine bodyPost_ret (v := .tuple #[.pointer (some ⟨B, 0, none⟩), fltV R.e k R.m]) (by simp [results, Tryz.results13, go_sem, r0, r1, r2]) rfl ?_
              exact (HEND.out w6 kv6 Kj cl6 R.e R.m HZ.out.1 HZ.out.2.1 HZ.out.2.2.1 (fun _ => ⟨rfl, rfl⟩) HZ.out.2.2.2.2).1 HEZ.out _ rfl
          · have HEZ := Hid.mk' hej
            have hzb : (ej != 0) = true := by simpa using hej
            have hRv : R.e = ej ∧ R.m = 0 := by
              have h5 := HA.out.2.2.2.2.1 hej
              rw [HR2.out, h5, if_pos hej]
              exact ⟨rfl, rfl⟩
            have HBAD := Hid.mk' (rall_bad F.ba F.body.length F.bc HA.out.1 hej (by omega))
            have HRV := Hid.mk' hRv
            clear hej hRv
            go_wp2_with fail
            refine HBAD.out.mono ?_
            rintro r w6 ⟨rfl, g1, g4⟩
            have HZ := Hid.mk' (And.intro g1 (And.intro (HA.out.2.2.1.trans (g4.mono (by simp))) (And.intro HA.out.2.2.2.1 (And.intro (fun (_ : ej ≠ 0) => HRV.out) (fun (h : ej = 0) => (absurd h HEZ.out : R.e = 0 ∧ (List.replicate p.funcs.length false) = mark (List.replicate p.funcs.length false) R.c))))))
            clear g1 g4 HBAD z1 z2
            have c6 := HZ.out.1.cell (j := 6) rfl
            have c3 := HZ.out.1.cell (j := 3) rfl
            have c6' : w6.drew.cell? _ = _ := c6
            have c3' : w6.drew.cell? _ = _ := c3
            obtain ⟨_, _, y2, y3, _, _, _⟩ := HST.out w6 HZ.out.2.1
            have r0 := y2 0 (by omega)
            have r1 := y2 1 (by omega)
            have r2 := y2 2 (by omega)
            have q0 := y3 0
            have q1 := y3 1
            have q2 := y3 2
            have r0' : w6.drew.cell? _ = _ := r0
            have r1' : w6.drew.cell? _ = _ := r1
            have r2' : w6.drew.cell? _ = _ := r2
            have q0' : w6.drew.frozen? _ = _ := q0
            have q1' : w6.drew.frozen? _ = _ := q1
            have q2' : w6.drew.frozen? _ = _ := q2
            clear y2 y3
            go_upto_region 14 with fail
            go_region
            go_wp2_with fail
            refine bodyPost_ret (v := .tuple #[.pointer (some ⟨B, 0, none⟩), fltV ej k 0]) (by simp [results, Tryz.results13, go_sem, r0, r1, r2]) rfl ?_
            exact (HEND.out w6 kj Kj (List.replicate p.funcs.length false) ej 0 HZ.out.1 HZ.out.2.1 HZ.out.2.2.1 HZ.out.2.2.2.1 HZ.out.2.2.2.2).1 HEZ.out _ rfl
end Go.Proofs.YtkkcgkpbbngloaaGreatDoor

/- The document's own Name: a text is a name just where scan's is; nothing that lay has turned. -/
namespace Go.Proofs.YtkkcgkpbbngloaaGreatDoor
open Go.RowKit

set_option maxHeartbeats 400000 in
theorem rLetter_any (n : Int) (w : World) (h0 : 0 ≤ n) (h1 : n ≤ 255) :
    Calls Tryz.prog 81 #[.int .u8 n] w fun e w' => e = .returned (.bool (letB n)) ∧ w' = w := by
  by_cases h : 97 ≤ n
  · go_enter Tryz.func81, Tryz.ntmps81
    go_wp2
    go_ret
    exact ⟨ret_bool (by simp [letB, h]), rfl⟩
  · go_enter Tryz.func81, Tryz.ntmps81
    go_wp2
    go_ret
    exact ⟨ret_bool (by simp [letB]; omega), rfl⟩

set_option maxHeartbeats 400000 in
theorem rDigit_any (n : Int) (w : World) (h0 : 0 ≤ n) (h1 : n ≤ 255) :
    Calls Tryz.prog 82 #[.int .u8 n] w fun e w' => e = .returned (.bool (digB n)) ∧ w' = w := by
  by_cases h : 48 ≤ n
  · go_enter Tryz.func82, Tryz.ntmps82
    go_wp2
    go_ret
    exact ⟨ret_bool (by simp [digB, h]), rfl⟩
  · go_enter Tryz.func82, Tryz.ntmps82
    go_wp2
    go_ret
    exact ⟨ret_bool (by simp [digB]; omega), rfl⟩

def anyIs (s : ByteArray) (xs : List ByteArray) : Bool := xs.any (fun x => x.toList == s.toList)
theorem anyIs_drop_hit (s : ByteArray) (xs : List ByteArray) (k : Nat) (h : k < xs.length) (hx : (xs[k].toList == s.toList) = true) : anyIs s (xs.drop k) = true := by
  rw [List.drop_eq_getElem_cons h]; simp only [anyIs, List.any_cons, hx, Bool.true_or]
theorem anyIs_drop_miss (s : ByteArray) (xs : List ByteArray) (k : Nat) (h : k < xs.length) (hx : (xs[k].toList == s.toList) = false) : anyIs s (xs.drop k) = anyIs s (xs.drop (k + 1)) := by
  rw [List.drop_eq_getElem_cons h]; simp only [anyIs, List.any_cons, hx, Bool.false_or]

set_option maxHeartbeats 1000000 in
theorem in_any (s : ByteArray) (xs : List ByteArray) (b cap : Nat) (w : World) (hl : xs.length ≤ 1000) (hc : ∀ j (h : j < xs.length), w.cell? ⟨b, j, none⟩ = some (.string xs[j])) :
    Calls Tryz.prog 83 #[.string s, .slice (some ⟨b, 0, none⟩) xs.length cap] w fun e w' => e = .returned (.bool (anyIs s xs)) ∧ w' = w := by
  go_enter Tryz.func83, Tryz.ntmps83
  go_wp2
  go_loop [5] (fun i => ∃ k : Nat, k ≤ xs.length ∧ i = .int .i64 k ∧ Hid (anyIs s (xs.drop k) = anyIs s xs)) (fun i => xs.length - (intOf i).toNat)
  case atStart => exact ⟨0, Nat.zero_le _, rfl, rfl⟩
  case round =>
    obtain ⟨k, hk, rfl, HI⟩ := hrel
    by_cases hlt : k < xs.length
    · have hcell := hc k hlt
      cases hx : (xs[k].toList == s.toList) with
      | true =>
        have HE := HI.out.symm.trans (anyIs_drop_hit s xs k hlt hx)
        have HE' : Hid (anyIs s xs = true) := HE
        clear HE hc HI
        go_wp2
        go_ret
        exact ⟨ret_bool (by rw [HE'.out]), rfl⟩
      | false =>
        have HE : Hid (anyIs s (xs.drop (k + 1)) = anyIs s xs) := (anyIs_drop_miss s xs k hlt hx).symm.trans HI.out
        clear hc HI
        go_wp2
        go_round
        case rel => exact ⟨k + 1, by omega, by go_num, HE⟩
        case measure => simp [intOf]; omega
    · have HE : Hid (anyIs s xs = false) := by
        have := HI.out; rw [List.drop_eq_nil_of_le (by omega)] at this; exact this.symm
      clear hc HI
      go_wp2
      go_ret
      exact ⟨ret_bool (by rw [HE.out]), rfl⟩

def wordsB : List ByteArray := [⟨#[119, 105, 100, 101, 110]⟩, ⟨#[102, 110]⟩, ⟨#[108, 101, 116]⟩, ⟨#[102, 111, 114]⟩, ⟨#[105, 110]⟩, ⟨#[105, 102]⟩, ⟨#[101, 108, 115, 101]⟩, ⟨#[115, 119, 105, 116, 99, 104]⟩, ⟨#[99, 97, 115, 101]⟩, ⟨#[98, 114, 101, 97, 107]⟩, ⟨#[114, 101, 116, 117, 114, 110]⟩]
def rStrCells (xs : List ByteArray) : Array Value := (xs.map Value.string).toArray

theorem new_cells (w : World) (xs : List ByteArray) : ∀ j (h : j < xs.length), (w.alloc (.cells (rStrCells xs) 9)).cell? ⟨w.heap.size, j, none⟩ = some (.string xs[j]) := by
  intro j h
  rw [World.cell?_alloc_at _ _ _ _ rfl]
  simp [rStrCells, h]

set_option maxHeartbeats 400000 in
theorem words_any (w : World) : Calls Tryz.prog 84 #[] w fun e w' => e = .returned (.slice (some ⟨w.heap.size, 0, none⟩) 11 11) ∧ w' = w.alloc (.cells (rStrCells wordsB) 9) := by
  go_enter Tryz.func84, Tryz.ntmps84
  go_wp2
  go_ret
  exact ⟨rfl, rfl⟩

def wordList : List (List UInt8) := [[119, 105, 100, 101, 110], [102, 110], [108, 101, 116], [102, 111, 114], [105, 110], [105, 102], [101, 108, 115, 101], [115, 119, 105, 116, 99, 104], [99, 97, 115, 101], [98, 114, 101, 97, 107], [114, 101, 116, 117, 114, 110]]
theorem wordB_eq (l : List UInt8) : wordB l = wordList.any (fun x => x == l) := by
  simp [wordB, wordList, Bool.or_assoc, Bool.beq_comm (a := l)]
theorem anyIs_words (s : ByteArray) : anyIs s wordsB = wordB s.data.toList := by
  rw [wordB_eq]
  simp only [anyIs, wordsB, wordList, List.any_cons, List.any_nil, ba_list]

set_option maxHeartbeats 400000 in
theorem rWord_any (s : ByteArray) (w : World) :
    Calls Tryz.prog 55 #[.string s] w fun e w' => e = .returned (.bool (wordB s.data.toList)) ∧ Below w.heap.size w w' := by
  have h26 : Calls Tryz.prog 83 #[.string s, .slice (some ⟨w.heap.size, 0, none⟩) 11 11] (w.alloc (.cells (rStrCells wordsB) 9)) fun e w' => e = .returned (.bool (wordB s.data.toList)) ∧ w' = w.alloc (.cells (rStrCells wordsB) 9) := by
    rw [← anyIs_words]; exact in_any s wordsB w.heap.size 11 _ (by decide) (new_cells w wordsB)
  go_enter Tryz.func55, Tryz.ntmps55
  go_wp2_with (first | (go_at_call 84; refine (words_any _).mono ?_; rintro e w' ⟨rfl, rfl⟩) | (go_at_call 83; refine h26.mono ?_; rintro e w' ⟨rfl, rfl⟩))
  go_ret
  exact ⟨rfl, (Below.refl _ w).alloc (Nat.le_refl _) _⟩

def plainB (l : List UInt8) : Bool := match l with | [] => false | c :: _ => isLet c && decide (rowLen isLod l = l.length)
theorem plainB_cons {l : List UInt8} (h : 0 < l.length) : plainB l = (isLet l[0] && decide (rowLen isLod l = l.length)) := by
  cases l with
  | nil => simp at h
  | cons c r => rfl
theorem nameB_eq (l : List UInt8) : nameB l = (decide (l.length ≤ 16) && plainB l && !wordB l) := by
  cases l with
  | nil => rfl
  | cons c r =>
    simp only [nameB, plainB]
    cases decide ((c :: r).length ≤ 16) <;> cases wordB (c :: r) <;> cases isLet c <;> cases decide (rowLen isLod (c :: r) = (c :: r).length) <;> rfl

theorem beq_nat {a b : Nat} (h : a ≠ b) : ((a : Int) == (b : Int)) = false := by rw [beq_eq_false_iff_ne]; omega

set_option maxHeartbeats 1000000 in
theorem plain_any (s : ByteArray) (w : World) (hs : s.size ≤ maxLen) :
    Calls Tryz.prog 54 #[.string s] w fun e w' => e = .returned (.bool (plainB s.data.toList)) ∧ w' = w := by
  unfold maxLen at hs
  have hlen := ba_len s
  have HLen : Hid (s.data.toList.length = s.size) := hlen
  clear hlen
  go_enter Tryz.func54, Tryz.ntmps54
  go_wp2
  go_loop [3] (fun i => ∃ k : Nat, k ≤ s.size ∧ i = .int .i64 k ∧ k ≤ rowLen isLod s.data.toList ∧ Hid (0 < k → ∃ h : 0 < s.data.toList.length, isLet s.data.toList[0] = true)) (fun i => s.size - (intOf i).toNat)
  case atStart => exact ⟨0, Nat.zero_le _, rfl, Nat.zero_le _, fun h => by omega⟩
  case round =>
    obtain ⟨k, hk, rfl, hr, HL⟩ := hrel
    by_cases hlt : k < s.size
    · have c0 : (0 : Int) ≤ s[k].toNat := by omega
      have h35 : ∀ b, letB s[k].toNat = b → ∀ w, Calls Tryz.prog 81 #[.int .u8 s[k].toNat] w fun e w' => e = .returned (.bool b) ∧ w' = w := fun b hb w => by rw [← hb]; exact rLetter_any _ w c0 (u8_le _)
      have h36 : ∀ b, digB s[k].toNat = b → ∀ w, Calls Tryz.prog 82 #[.int .u8 s[k].toNat] w fun e w' => e = .returned (.bool b) ∧ w' = w := fun b hb w => by rw [← hb]; exact rDigit_any _ w c0 (u8_le _)
      have hl0 : 0 < s.data.toList.length := by rw [HLen.out]; omega
      cases hb1 : letB s[k].toNat with
      | true =>
        have g35 := h35 true hb1
        have hit := rowLen_hit isLod s.data.toList k hr hlt (by show (letB _ || digB _) = true; rw [show letB (s.data.toList[k].toNat) = true from hb1]; rfl)
        have HL' : Hid (0 < k + 1 → ∃ h : 0 < s.data.toList.length, isLet s.data.toList[0] = true) := fun _ => by
          rcases Nat.eq_zero_or_pos k with h | h
          · subst h; exact ⟨hl0, hb1⟩
          · exact HL.out h
        clear h35 h36 hb1 hl0
        go_wp2_with (go_at_call 81; refine (g35 _).mono ?_; rintro e w' ⟨rfl, rfl⟩)
        go_round
        case rel => exact ⟨k + 1, by omega, by go_num, hit, HL'⟩
        case measure => simp [intOf]; omega
      | false =>
        have g35 := h35 false hb1
        by_cases hk0 : k = 0
        · have HE : Hid (plainB s.data.toList = false) := by
            show plainB s.data.toList = false
            rw [plainB_cons hl0]
            subst hk0
            rw [show isLet s.data.toList[0] = false from hb1]; rfl
          have hz : ((k : Int) == 0) = true := by rw [hk0]; rfl
          clear h35 h36 hb1 hl0 hk0
          go_wp2_with (go_at_call 81; refine (g35 _).mono ?_; rintro e w' ⟨rfl, rfl⟩)
          go_ret
          exact ⟨ret_bool (by rw [HE.out]), rfl⟩
        · have hz : ((k : Int) == 0) = false := beq_nat hk0
          cases hb2 : digB s[k].toNat with
          | true =>
            have g36 := h36 true hb2
            have hit := rowLen_hit isLod s.data.toList k hr hlt (by show (letB _ || digB _) = true; rw [show digB (s.data.toList[k].toNat) = true from hb2]; simp)
            have HL' : Hid (0 < k + 1 → ∃ h : 0 < s.data.toList.length, isLet s.data.toList[0] = true) := fun _ => HL.out (by omega)
            clear h35 h36 hb1 hb2 hl0 hk0
            go_wp2_with (first | (go_at_call 81; refine (g35 _).mono ?_; rintro e w' ⟨rfl, rfl⟩) | (go_at_call 82; refine (g36 _).mono ?_; rintro e w' ⟨rfl, rfl⟩))
            go_round
            case rel => exact ⟨k + 1, by omega, by go_num, hit, HL'⟩
            case measure => simp [intOf]; omega
          | false =>
            have g36 := h36 false hb2
            have hend := rowLen_miss isLod s.data.toList k hr hlt (by show (letB _ || digB _) = false; rw [show letB (s.data.toList[k].toNat) = false from hb1, show digB (s.data.toList[k].toNat) = false from hb2]; rfl)
            have HE : Hid (plainB s.data.toList = false) := by
              show plainB s.data.toList = false
              rw [plainB_cons hl0, hend, HLen.out]
              rw [show decide (k = s.size) = false from by simp only [decide_eq_false_iff_not]; omega]; simp
            clear h35 h36 hb1 hb2 hl0 hk0 hend
            go_wp2_with (first | (go_at_call 81; refine (g35 _).mono ?_; rintro e w' ⟨rfl, rfl⟩) | (go_at_call 82; refine (g36 _).mono ?_; rintro e w' ⟨rfl, rfl⟩))
            go_ret
            exact ⟨ret_bool (by rw [HE.out]), rfl⟩
    · have hks : k = s.size := by omega
      have HE : Hid (decide (0 < (s.size : Int)) = plainB s.data.toList) := by
        show decide (0 < (s.size : Int)) = plainB s.data.toList
        have hle := rowLen_le isLod s.data.toList
        rw [HLen.out] at hle
        by_cases h0 : 0 < s.size
        · obtain ⟨hl0, h1⟩ := HL.out (by omega)
          rw [plainB_cons hl0, h1, HLen.out, show decide (rowLen isLod s.data.toList = s.size) = true from by simp only [decide_eq_true_eq]; omega]
          simp only [Bool.and_self, decide_eq_true_eq]; omega
        · have he : s.data.toList = [] := by apply List.eq_nil_of_length_eq_zero; rw [HLen.out]; omega
          rw [he, show decide (0 < (s.size : Int)) = false from by simp only [decide_eq_false_iff_not]; omega]; rfl
      clear hks
      go_wp2
      go_ret
      exact ⟨ret_bool (by rw [← HE.out]; simp), rfl⟩

set_option maxHeartbeats 1000000 in
theorem rName_long (s : ByteArray) (w : World) (h : ¬ (s.size : Int) ≤ 16) :
    Calls Tryz.prog 30 #[.string s] w fun e w' => e = .returned (.bool false) ∧ Below w.heap.size w w' := by
  go_enter Tryz.func30, Tryz.ntmps30
  go_wp2
  go_ret
  exact ⟨rfl, Below.refl _ _⟩

set_option maxHeartbeats 1000000 in
theorem rName_unplain (s : ByteArray) (w : World) (h : (s.size : Int) ≤ 16) (hp : plainB s.data.toList = false) :
    Calls Tryz.prog 30 #[.string s] w fun e w' => e = .returned (.bool false) ∧ Below w.heap.size w w' := by
  have h31 : ∀ w, Calls Tryz.prog 54 #[.string s] w fun e w' => e = .returned (.bool false) ∧ w' = w := fun w => by rw [← hp]; exact plain_any s w (by unfold maxLen; omega)
  clear hp
  go_enter Tryz.func30, Tryz.ntmps30
  go_wp2_with (go_at_call 54; refine (h31 _).mono ?_; rintro e w' ⟨rfl, rfl⟩)
  go_ret
  exact ⟨rfl, Below.refl _ _⟩

set_option maxHeartbeats 1000000 in
theorem rName_plain (s : ByteArray) (b : Bool) (w : World) (h : (s.size : Int) ≤ 16) (hp : plainB s.data.toList = true) (hb : wordB s.data.toList = b) :
    Calls Tryz.prog 30 #[.string s] w fun e w' => e = .returned (.bool (!b)) ∧ Below w.heap.size w w' := by
  have h31 : ∀ w, Calls Tryz.prog 54 #[.string s] w fun e w' => e = .returned (.bool true) ∧ w' = w := fun w => by rw [← hp]; exact plain_any s w (by unfold maxLen; omega)
  have h17 : ∀ w, Calls Tryz.prog 55 #[.string s] w fun e w' => e = .returned (.bool b) ∧ Below w.heap.size w w' := fun w => by rw [← hb]; exact rWord_any s w
  clear hp hb
  cases b
  all_goals
    go_enter Tryz.func30, Tryz.ntmps30
    go_wp2_with (first | (go_at_call 54; refine (h31 _).mono ?_; rintro e w' ⟨rfl, rfl⟩) | (go_at_call 55; refine (h17 _).mono ?_; rintro e w1 ⟨rfl, hb1⟩))
    go_ret
    exact ⟨rfl, hb1⟩

theorem rName_any (s : ByteArray) (w : World) :
    Calls Tryz.prog 30 #[.string s] w fun e w' => e = .returned (.bool (nameB s.data.toList)) ∧ Below w.heap.size w w' := by
  have hlen := ba_len s
  rw [nameB_eq]
  by_cases h : s.size ≤ 16
  · rw [show decide (s.data.toList.length ≤ 16) = true from by simp only [decide_eq_true_eq]; omega]
    cases hp : plainB s.data.toList with
    | true => exact rName_plain s _ w (by omega) hp rfl
    | false => exact rName_unplain s w (by omega) hp
  · rw [show decide (s.data.toList.length ≤ 16) = false from by simp only [decide_eq_false_iff_not]; omega]
    exact rName_long s w (by omega)

end Go.Proofs.YtkkcgkpbbngloaaGreatDoor

/- The document's own way to say a form: arguments, names, fields; that it is the program's. -/
namespace Go.Proofs.YtkkcgkpbbngloaaGreatDoor
open Go.RowKit Go.Sort

def argsZ (k : Int) : Int := if k = 1 ∨ k = 2 then 0 else if k = 3 ∨ k = 5 ∨ k = 6 then 1 else if k = 4 then -1 else if 7 ≤ k ∧ k ≤ 19 then 2 else if k = 20 then 3 else -2
def namedZ (k : Int) : Bool := k == 2 || k == 3 || k == 4
theorem form_args : ∀ k : Fin 21, 0 < k.val → (formE k.val).args = argsZ k.val := by decide
theorem form_named : ∀ k : Fin 21, 0 < k.val → (bits .and .i64 (formE k.val).fields 1 != 0) = namedZ k.val := by decide
theorem form_uses : ∀ (k : Fin 21) (e n : Bool), 0 < k.val → (bits .andNot .i64 (orZ (bitZ 1 e) (bitZ 2 n)) (formE k.val).fields != 0) = (n && (k.val : Int) != 1 || e && !namedZ k.val) := by decide
theorem args_val : ∀ k : Fin 21, 0 < k.val → argsZ k.val = -1 ∨ (0 ≤ argsZ k.val ∧ argsZ k.val ≤ 3) := by decide
/-- A form that may not be, as the document's own text says it. -/
def formBad (x : Ex) : Bool := argsZ x.kind == -2 || decide (0 ≤ argsZ x.kind) && (x.args.length : Int) != argsZ x.kind || x.n != 0 && x.kind != 1 || !x.name.toList.isEmpty && !namedZ x.kind
theorem isE_fin {k : Int} (h : isE k = true) : ∃ q : Fin 21, 0 < q.val ∧ k = q.val := by
  simp [isE] at h
  exact ⟨⟨k.toNat, by omega⟩, by show 0 < k.toNat; omega, by show k = (k.toNat : Int); omega⟩
theorem argsZ_not {k : Int} (h : isE k = false) : argsZ k = -2 := by
  simp [isE] at h
  unfold argsZ
  rw [if_neg (by omega), if_neg (by omega), if_neg (by omega), if_neg (by omega), if_neg (by omega)]
theorem selfE_ref (x : Ex) : selfE x = if formBad x = true then 5 else if (namedZ x.kind && !nameZ x.name) = true then 8 else if x.n < 0 then 1 else 0 := by
  cases h : isE x.kind
  · simp only [selfE, h, if_true, formBad, argsZ_not h]; rfl
  · obtain ⟨q, h0, hq⟩ := isE_fin h
    have h' : isE (q.val : Int) = true := hq ▸ h
    have e1 := form_args q h0
    have e2 := form_named q h0
    have e3 := form_uses q (!x.name.toList.isEmpty) (x.n != 0) h0
    have e4 := args_val q h0
    unfold selfE formBad
    simp only [h', Bool.true_eq_false, if_false, hq, Int.toNat_natCast, e1, e2]
    rw [show usesE x = orZ (bitZ 1 (!x.name.toList.isEmpty)) (bitZ 2 (x.n != 0)) from rfl, e3]
    generalize argsZ q.val = A at e4 ⊢
    generalize (x.args.length : Int) = L
    generalize namedZ q.val = N
    generalize (x.n != 0) = n0
    generalize ((q.val : Int) != 1) = k1
    generalize x.name.toList.isEmpty = em
    have e5 : (A == -2) = false := by rw [beq_eq_false_iff_ne]; omega
    have e6 : (A != -1) = decide (0 ≤ A) := by
      rcases e4 with rfl | e
      · rfl
      · rw [decide_eq_true e.1, bne_iff_ne]; omega
    rw [e5, e6]
    generalize (decide (0 ≤ A) && L != A) = g
    cases g <;> cases n0 <;> cases k1 <;> cases em <;> cases N <;> rfl

/-- Which fields of a statement count: Name, N, A, B, Body, Else, Cases. -/
def cB (k : Int) (i : Nat) : Bool := isS k && (bits .and .i64 (fldS k.toNat) (2 ^ i : Nat) != 0)
theorem stmt_uses : ∀ (k : Fin 11) (b0 b1 b2 b3 b4 b5 b6 : Bool), 0 < k.val → (bits .andNot .i64 (orZ (orZ (orZ (orZ (orZ (orZ (bitZ 1 b0) (bitZ 2 b1)) (bitZ 4 b2)) (bitZ 8 b3)) (bitZ 16 b4)) (bitZ 32 b5)) (bitZ 64 b6)) (fldS k.val) != 0) =
    !((cB k.val 0 || !b0) && (cB k.val 1 || !b1) && (cB k.val 2 || !b2) && (cB k.val 3 || !b3) && (cB k.val 4 || !b4) && (cB k.val 5 || !b5) && (cB k.val 6 || !b6)) := by decide +kernel
theorem isS_fin {k : Int} (h : isS k = true) : ∃ q : Fin 11, 0 < q.val ∧ k = q.val := by
  simp [isS] at h
  exact ⟨⟨k.toNat, by omega⟩, by show 0 < k.toNat; omega, by show k = (k.toNat : Int); omega⟩
/-- A statement's form is right, by its own fields. -/
def okS (s : St) : Bool := isS s.kind && (cB s.kind 0 || s.name.toList.isEmpty) && (cB s.kind 1 || s.n == 0) && (cB s.kind 2 || zeroE s.a) && (cB s.kind 3 || zeroE s.b) && (cB s.kind 4 || s.body.isEmpty) && (cB s.kind 5 || s.els.isEmpty) && (cB s.kind 6 || s.cases.isEmpty)
theorem len_empty {α : Type} (l : List α) : decide (0 < l.length) = !l.isEmpty := by cases l <;> simp
theorem selfS_ref (s : St) : selfS s = if okS s = false then 5 else if (cB s.kind 0 && !nameZ s.name) = true then 8 else if (decide (s.n < 0) || leastC s.cases) = true then 1 else if (s.kind == 10 && s.a.kind != 4) = true then 5 else 0 := by
  cases h : isS s.kind
  · simp only [selfS, okS, h, if_true, Bool.false_and]
  · obtain ⟨q, h0, hq⟩ := isS_fin h
    have e3 := stmt_uses q (!s.name.toList.isEmpty) (s.n != 0) (!zeroE s.a) (!zeroE s.b) (decide (0 < s.body.length)) (decide (0 < s.els.length)) (decide (0 < s.cases.length)) h0
    have h' : isS (q.val : Int) = true := hq ▸ h
    have e0 : (bits .and .i64 (fldS q.val) 1 != 0) = cB q.val 0 := by
      unfold cB; rw [← hq, h, hq, Int.toNat_natCast]; rfl
    unfold selfS okS
    simp only [h', Bool.true_eq_false, if_false, hq, Int.toNat_natCast, e0]
    rw [show usesS s = orZ (orZ (orZ (orZ (orZ (orZ (bitZ 1 (!s.name.toList.isEmpty)) (bitZ 2 (s.n != 0))) (bitZ 4 (!zeroE s.a))) (bitZ 8 (!zeroE s.b))) (bitZ 16 (decide (0 < s.body.length)))) (bitZ 32 (decide (0 < s.els.length)))) (bitZ 64 (decide (0 < s.cases.length))) from rfl, e3]
    rw [len_empty, len_empty, len_empty]
    simp only [Bool.not_not, bne, Bool.true_and]
    cases ((cB q.val 0 || s.name.toList.isEmpty) && (cB q.val 1 || s.n == 0) && (cB q.val 2 || zeroE s.a) && (cB q.val 3 || zeroE s.b) && (cB q.val 4 || s.body.isEmpty) && (cB q.val 5 || s.els.isEmpty) && (cB q.val 6 || s.cases.isEmpty)) <;> rfl
end Go.Proofs.YtkkcgkpbbngloaaGreatDoor

/- Is an expression one of zeros? The document's own answer. -/
namespace Go.Proofs.YtkkcgkpbbngloaaGreatDoor
open Go.RowKit

set_option maxRecDepth 100000 in
set_option maxHeartbeats 2000000 in
theorem rzero_any (x : Ex) (w : World) : Calls Tryz.prog 79 #[x.val] w fun e w' => e = .returned (.bool (zeroE x)) ∧ Below w.heap.size w w' := by
  obtain ⟨kd, n, s, a, c, l⟩ := x
  unfold Ex.val zeroE
  simp only [Ex.kind, Ex.n, Ex.name, Ex.a, Ex.cap, Ex.args]
  have hb := (Below.refl _ w).alloc (Nat.le_refl _) (.cells #[.int .i64 kd, .int .i64 n, .string s, .slice a l.length c] 41)
  cases h1 : (kd == 0)
  · go_enter Tryz.func79, Tryz.ntmps79
    go_wp2_with fail
    go_ret
    exact ⟨rfl, hb⟩
  · cases h2 : (n == 0)
    · go_enter Tryz.func79, Tryz.ntmps79
      go_wp2_with fail
      go_ret
      exact ⟨ret_bool (by simp), hb⟩
    · have e : s.toList.isEmpty = (s.toList == []) := by cases s.toList <;> rfl
      cases h3 : (s.toList == [])
      · go_enter Tryz.func79, Tryz.ntmps79
        go_wp2_with fail
        go_ret
        exact ⟨ret_bool (by rw [e, h3]; rfl), hb⟩
      · go_enter Tryz.func79, Tryz.ntmps79
        go_wp2_with fail
        go_ret
        refine ⟨ret_bool ?_, hb⟩
        rw [e, h3]
        cases l
        · rfl
        · simp; omega
end Go.Proofs.YtkkcgkpbbngloaaGreatDoor

/- The document's own small questions on forms: args, named, counts, lowest. -/
namespace Go.Proofs.YtkkcgkpbbngloaaGreatDoor
open Go.RowKit Go.Sort

theorem kindE_of {k : Int} (h : isE k = true) : (7 ≤ k ∧ k ≤ 19) ∨ k = 1 ∨ k = 2 ∨ k = 3 ∨ k = 4 ∨ k = 5 ∨ k = 6 ∨ k = 20 := by
  simp [isE] at h; omega
theorem kindS_of {k : Int} (h : isS k = true) : k = 1 ∨ k = 2 ∨ k = 3 ∨ k = 4 ∨ k = 5 ∨ k = 6 ∨ k = 7 ∨ k = 8 ∨ k = 9 ∨ k = 10 := by
  simp [isS] at h; omega

set_option maxHeartbeats 1000000 in
theorem args_mid (k : Int) (w : World) (h0 : 7 ≤ k) (h1 : k ≤ 19) : Calls Tryz.prog 85 #[.int .i64 k] w fun e w' => e = .returned (.int .i64 2) ∧ w' = w := by
  have e1 := beq_no (show k ≠ 1 by omega)
  have e2 := beq_no (show k ≠ 2 by omega)
  have e3 := beq_no (show k ≠ 3 by omega)
  have e4 := beq_no (show k ≠ 4 by omega)
  have e5 := beq_no (show k ≠ 5 by omega)
  have e6 := beq_no (show k ≠ 6 by omega)
  go_enter Tryz.func85, Tryz.ntmps85
  go_wp2_with fail
  go_ret
  exact ⟨rfl, rfl⟩
set_option maxHeartbeats 1000000 in
theorem args_low (k : Int) (w : World) (h : k < 1) : Calls Tryz.prog 85 #[.int .i64 k] w fun e w' => e = .returned (.int .i64 (-2)) ∧ w' = w := by
  have e1 := beq_no (show k ≠ 1 by omega)
  have e2 := beq_no (show k ≠ 2 by omega)
  have e3 := beq_no (show k ≠ 3 by omega)
  have e4 := beq_no (show k ≠ 4 by omega)
  have e5 := beq_no (show k ≠ 5 by omega)
  have e6 := beq_no (show k ≠ 6 by omega)
  have e7 := beq_no (show k ≠ 20 by omega)
  go_enter Tryz.func85, Tryz.ntmps85
  go_wp2_with fail
  go_ret
  exact ⟨rfl, rfl⟩
set_option maxHeartbeats 1000000 in
theorem args_high (k : Int) (w : World) (h : 20 < k) : Calls Tryz.prog 85 #[.int .i64 k] w fun e w' => e = .returned (.int .i64 (-2)) ∧ w' = w := by
  have e1 := beq_no (show k ≠ 1 by omega)
  have e2 := beq_no (show k ≠ 2 by omega)
  have e3 := beq_no (show k ≠ 3 by omega)
  have e4 := beq_no (show k ≠ 4 by omega)
  have e5 := beq_no (show k ≠ 5 by omega)
  have e6 := beq_no (show k ≠ 6 by omega)
  have e7 := beq_no (show k ≠ 20 by omega)
  go_enter Tryz.func85, Tryz.ntmps85
  go_wp2_with fail
  go_ret
  exact ⟨rfl, rfl⟩
set_option maxHeartbeats 4000000 in
theorem args_any (k : Int) (w : World) : Calls Tryz.prog 85 #[.int .i64 k] w fun e w' => e = .returned (.int .i64 (argsZ k)) ∧ w' = w := by
  cases hk : isE k
  · rw [argsZ_not hk]
    simp [isE] at hk
    by_cases h : k < 1
    · exact args_low k w h
    · exact args_high k w (by omega)
  · rcases kindE_of hk with h | rfl | rfl | rfl | rfl | rfl | rfl | rfl
    · have e : argsZ k = 2 := by
        unfold argsZ; rw [if_neg (by omega), if_neg (by omega), if_neg (by omega), if_pos h]
      rw [e]; exact args_mid k w h.1 h.2
    all_goals
      clear hk
      go_enter Tryz.func85, Tryz.ntmps85
      go_wp2_with fail
      go_ret
      exact ⟨rfl, rfl⟩

set_option maxHeartbeats 1000000 in
theorem named_any (k : Int) (w : World) : Calls Tryz.prog 86 #[.int .i64 k] w fun e w' => e = .returned (.bool (namedZ k)) ∧ w' = w := by
  cases e2 : (k == 2)
  · cases e3 : (k == 3)
    · go_enter Tryz.func86, Tryz.ntmps86
      go_wp2_with fail
      go_ret
      exact ⟨ret_bool (by unfold namedZ; rw [e2, e3]; rfl), rfl⟩
    · go_enter Tryz.func86, Tryz.ntmps86
      go_wp2_with fail
      go_ret
      exact ⟨ret_bool (by unfold namedZ; rw [e2, e3]; rfl), rfl⟩
  · go_enter Tryz.func86, Tryz.ntmps86
    go_wp2_with fail
    go_ret
    exact ⟨ret_bool (by unfold namedZ; rw [e2]; rfl), rfl⟩

def cV (k : Int) : Value := .agg #[.bool (cB k 0), .bool (cB k 1), .bool (cB k 2), .bool (cB k 3), .bool (cB k 4), .bool (cB k 5), .bool (cB k 6)]
theorem cV_not {k : Int} (h : isS k = false) : cV k = .agg #[.bool false, .bool false, .bool false, .bool false, .bool false, .bool false, .bool false] := by
  simp [cV, cB, h]
set_option maxHeartbeats 4000000 in
theorem counts_any (k : Int) (w : World) : Calls Tryz.prog 56 #[.int .i64 k] w fun e w' => e = .returned (cV k) ∧ Below w.heap.size w w' := by
  have hb : ∀ o, Below w.heap.size w (w.alloc o) := fun o => (Below.refl _ w).alloc (Nat.le_refl _) o
  have HB : Hid (∀ o, Below w.heap.size w (w.alloc o)) := hb
  clear hb
  cases hk : isS k
  · rw [cV_not hk]
    simp [isS] at hk
    have e1 := beq_no (show k ≠ 1 by omega)
    have e2 := beq_no (show k ≠ 2 by omega)
    have e3 := beq_no (show k ≠ 3 by omega)
    have e4 := beq_no (show k ≠ 4 by omega)
    have e5 := beq_no (show k ≠ 5 by omega)
    have e6 := beq_no (show k ≠ 6 by omega)
    have e7 := beq_no (show k ≠ 7 by omega)
    have e9 := beq_no (show k ≠ 9 by omega)
    have e10 := beq_no (show k ≠ 10 by omega)
    clear hk
    go_enter Tryz.func56, Tryz.ntmps56
    go_wp2_with fail
    refine bodyPost_ret (v := .agg #[.bool false, .bool false, .bool false, .bool false, .bool false, .bool false, .bool false]) (by simp [results, Tryz.results56, go_sem]) rfl ⟨rfl, HB.out _⟩
  · rcases kindS_of hk with rfl | rfl | rfl | rfl | rfl | rfl | rfl | rfl | rfl | rfl
    · clear hk
      rw [show cV 1 = .agg #[.bool true, .bool false, .bool true, .bool false, .bool false, .bool false, .bool false] from rfl]
      go_enter Tryz.func56, Tryz.ntmps56
      go_wp2_with fail
      refine bodyPost_ret (v := .agg #[.bool true, .bool false, .bool true, .bool false, .bool false, .bool false, .bool false]) (by simp [results, Tryz.results56, go_sem]) rfl ⟨rfl, HB.out _⟩
    · clear hk
      rw [show cV 2 = .agg #[.bool true, .bool true, .bool false, .bool false, .bool false, .bool false, .bool false] from rfl]
      go_enter Tryz.func56, Tryz.ntmps56
      go_wp2_with fail
      refine bodyPost_ret (v := .agg #[.bool true, .bool true, .bool false, .bool false, .bool false, .bool false, .bool false]) (by simp [results, Tryz.results56, go_sem]) rfl ⟨rfl, HB.out _⟩
    · clear hk
      rw [show cV 3 = .agg #[.bool true, .bool false, .bool true, .bool false, .bool false, .bool false, .bool false] from rfl]
      go_enter Tryz.func56, Tryz.ntmps56
      go_wp2_with fail
      refine bodyPost_ret (v := .agg #[.bool true, .bool false, .bool true, .bool false, .bool false, .bool false, .bool false]) (by simp [results, Tryz.results56, go_sem]) rfl ⟨rfl, HB.out _⟩
    · clear hk
      rw [show cV 4 = .agg #[.bool true, .bool false, .bool true, .bool true, .bool false, .bool false, .bool false] from rfl]
      go_enter Tryz.func56, Tryz.ntmps56
      go_wp2_with fail
      refine bodyPost_ret (v := .agg #[.bool true, .bool false, .bool true, .bool true, .bool false, .bool false, .bool false]) (by simp [results, Tryz.results56, go_sem]) rfl ⟨rfl, HB.out _⟩
    · clear hk
      rw [show cV 5 = .agg #[.bool false, .bool false, .bool true, .bool false, .bool true, .bool true, .bool false] from rfl]
      go_enter Tryz.func56, Tryz.ntmps56
      go_wp2_with fail
      refine bodyPost_ret (v := .agg #[.bool false, .bool false, .bool true, .bool false, .bool true, .bool true, .bool false]) (by simp [results, Tryz.results56, go_sem]) rfl ⟨rfl, HB.out _⟩
    · clear hk
      rw [show cV 6 = .agg #[.bool false, .bool false, .bool true, .bool false, .bool false, .bool true, .bool true] from rfl]
      go_enter Tryz.func56, Tryz.ntmps56
      go_wp2_with fail
      refine bodyPost_ret (v := .agg #[.bool false, .bool false, .bool true, .bool false, .bool false, .bool true, .bool true]) (by simp [results, Tryz.results56, go_sem]) rfl ⟨rfl, HB.out _⟩
    · clear hk
      rw [show cV 7 = .agg #[.bool true, .bool false, .bool true, .bool true, .bool true, .bool false, .bool false] from rfl]
      go_enter Tryz.func56, Tryz.ntmps56
      go_wp2_with fail
      refine bodyPost_ret (v := .agg #[.bool true, .bool false, .bool true, .bool true, .bool true, .bool false, .bool false]) (by simp [results, Tryz.results56, go_sem]) rfl ⟨rfl, HB.out _⟩
    · clear hk
      rw [show cV 8 = .agg #[.bool false, .bool false, .bool false, .bool false, .bool false, .bool false, .bool false] from rfl]
      go_enter Tryz.func56, Tryz.ntmps56
      go_wp2_with fail
      refine bodyPost_ret (v := .agg #[.bool false, .bool false, .bool false, .bool false, .bool false, .bool false, .bool false]) (by simp [results, Tryz.results56, go_sem]) rfl ⟨rfl, HB.out _⟩
    · clear hk
      rw [show cV 9 = .agg #[.bool false, .bool false, .bool true, .bool false, .bool false, .bool false, .bool false] from rfl]
      go_enter Tryz.func56, Tryz.ntmps56
      go_wp2_with fail
      refine bodyPost_ret (v := .agg #[.bool false, .bool false, .bool true, .bool false, .bool false, .bool false, .bool false]) (by simp [results, Tryz.results56, go_sem]) rfl ⟨rfl, HB.out _⟩
    · clear hk
      rw [show cV 10 = .agg #[.bool false, .bool false, .bool true, .bool false, .bool false, .bool false, .bool false] from rfl]
      go_enter Tryz.func56, Tryz.ntmps56
      go_wp2_with fail
      refine bodyPost_ret (v := .agg #[.bool false, .bool false, .bool true, .bool false, .bool false, .bool false, .bool false]) (by simp [results, Tryz.results56, go_sem]) rfl ⟨rfl, HB.out _⟩

set_option maxRecDepth 100000 in
set_option maxHeartbeats 1000000 in
theorem lowest_any (l : List Ca) (a : Option Addr) (c : Nat) (w : World) (hin : LiesC w a c l) : Calls Tryz.prog 58 #[.slice a l.length c] w fun e w' => e = .returned (.bool (leastC l)) ∧ Below w.heap.size w w' := by
  obtain ⟨hl, hc, _, hrow⟩ := hin
  have HR : Hid (RowIn w a 2 (List.map Ca.cells l)) := hrow
  clear hrow
  go_enter Tryz.func58, Tryz.ntmps58
  go_wp2_with fail
  go_loopw [3] (fun t7 wr => ∃ (j : Nat), j ≤ l.length ∧ t7 = .int .i64 j ∧ leastC (l.drop j) = leastC l ∧ Below w.heap.size w wr) (fun t7 _ => l.length - (intOf t7).toNat)
  case atStart => exact ⟨0, Nat.zero_le _, rfl, rfl, Below.refl _ w⟩
  case round =>
    obtain ⟨j, hj, rfl, hcnt, hb⟩ := hrel
    have HC : Hid (leastC (l.drop j) = leastC l) := hcnt
    clear hcnt
    have hws := hb.size
    by_cases hlt : j < l.length
    · obtain ⟨b, o, rfl, c0, c1⟩ := rowC_at (HR.out.below hb) hlt
      have hli : (j : Int) < (l.length : Int) := by omega
      have HD : Hid (leastC (l.drop j) = (l[j].n == -9223372036854775808 || leastC (l.drop (j + 1)))) := leastC_drop hlt
      generalize l[j] = s at *
      cases hm : (s.n == -9223372036854775808)
      · go_wp2_with fail
        go_roundw
        case rel => exact ⟨j + 1, by omega, by go_num, by rw [← HC.out, HD.out, hm]; rfl, hb⟩
        case measure => simp [intOf]; omega
      · go_wp2_with fail
        go_ret
        exact ⟨ret_bool (by rw [← HC.out, HD.out, hm]; rfl), hb⟩
    · go_wp2_with fail
      go_ret
      exact ⟨ret_bool (by rw [← HC.out, List.drop_eq_nil_of_le (by omega)]; rfl), hb⟩
end Go.Proofs.YtkkcgkpbbngloaaGreatDoor

/- A statement's box, behind calls that only lay blocks. -/
namespace Go.Proofs.YtkkcgkpbbngloaaGreatDoor
open Go.RowKit Go.Sort
theorem len_beq {α : Type} (l : List α) : ((l.length : Int) == 0) = l.isEmpty := by cases l <;> simp <;> omega
theorem nil_beq (l : List UInt8) : (l == []) = l.isEmpty := by cases l <;> rfl
end Go.Proofs.YtkkcgkpbbngloaaGreatDoor
