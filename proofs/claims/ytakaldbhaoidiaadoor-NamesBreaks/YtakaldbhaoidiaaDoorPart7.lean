/- How many statements there are: what a look counts. -/
import Derived.Test.YtakaldbhaoidiaaDoorPart6
import Derived.Test.YtakaldbhaoidiaaDoorPart5
import Derived.Lib.QuietBelow
import Derived.Deep.RegionWith
import Derived.Deep.RegionLaw
import Derived.Laws.AppendOwn
namespace Go.Proofs.YtakaldbhaoidiaaDoor
open Go.RowKit Go.Sort

mutual
def nuS : St → Nat | .mk _ _ _ _ _ _ _ l _ _ e _ _ c => 1 + nuL l + nuL e + nuC c
def nuL : List St → Nat | [] => 0 | s :: r => nuS s + nuL r
def nuA : Ca → Nat | .mk _ _ _ l => nuL l
def nuC : List Ca → Nat | [] => 0 | c :: r => nuA c + nuC r
end
set_option maxRecDepth 100000 in
theorem uses_bits : ∀ (b1 b2 b3 b4 b5 b6 b7 : Bool) (k : Fin 11), (bits .andNot .i64 (orZ (orZ (orZ (orZ (orZ (orZ (bitZ 1 b1) (bitZ 2 b2)) (bitZ 4 b3)) (bitZ 8 b4)) (bitZ 16 b5)) (bitZ 32 b6)) (bitZ 64 b7)) (fldS k.val) != 0) = false → (b5 = true → k.val = 5 ∨ k.val = 7) ∧ (b6 = true → k.val = 5 ∨ k.val = 6) ∧ (b7 = true → k.val = 6) := by decide +kernel
theorem self_none {s : St} (h : selfS s = 0) : (s.kind ≠ 5 → s.kind ≠ 7 → s.body = []) ∧ (s.kind ≠ 5 → s.kind ≠ 6 → s.els = []) ∧ (s.kind ≠ 6 → s.cases = []) := by
  unfold selfS at h
  split at h
  · exact absurd h (by decide)
  rename_i h1
  split at h
  · exact absurd h (by decide)
  rename_i h2
  have hk : 1 ≤ s.kind ∧ s.kind ≤ 10 := by
    unfold isS at h1
    simp at h1
    omega
  have h3 := uses_bits (!s.name.toList.isEmpty) (s.n != 0) (!zeroE s.a) (!zeroE s.b) (decide (0 < s.body.length)) (decide (0 < s.els.length)) (decide (0 < s.cases.length)) ⟨s.kind.toNat, by omega⟩ (by simpa [usesS] using h2)
  obtain ⟨a, b, c⟩ := h3
  simp only [decide_eq_true_eq] at a b c
  refine ⟨fun x y => ?_, fun x y => ?_, fun x => ?_⟩
  · exact List.eq_nil_of_length_eq_zero (by by_cases hl : 0 < s.body.length; · have := a hl; omega
                                            · omega)
  · exact List.eq_nil_of_length_eq_zero (by by_cases hl : 0 < s.els.length; · have := b hl; omega
                                            · omega)
  · exact List.eq_nil_of_length_eq_zero (by by_cases hl : 0 < s.cases.length; · have := c hl; omega
                                            · omega)
theorem then_ok {p : Int × Int} {f : Int → Int × Int} (h : (thenZ p f).1 = 0) : p.1 = 0 ∧ (f p.2).1 = 0 := by
  unfold thenZ at h
  split at h
  · rename_i h0; exact absurd h h0
  · rename_i h0; exact ⟨by simpa using h0, h⟩
theorem chkS_self {s : St} {lv : Int} (h : chkS s lv = 0) : selfS s = 0 := by
  unfold chkS at h
  split at h
  · exact absurd h (by decide)
  split at h
  · rename_i h0; exact absurd h h0
  · rename_i h0; simpa using h0
set_option maxHeartbeats 2000000 in
mutual
theorem stS_nu (ft : List (List UInt8 × Int)) : ∀ (s : St) (lv at_ : Int) (env : Env) (m : Int), (chkT s lv at_).1 = 0 → (stS ft s env m).e = 0 → (stS ft s env m).m + 1 = m + nuS s
  | .mk k nm n a b ba bc l ea ec e ca cc c, lv, at_, env, m, h, he => by
    rw [chkT] at h
    split at h
    · rename_i h0; exact absurd h h0
    rename_i h0
    have h0 : chkS (.mk k nm n a b ba bc l ea ec e ca cc c) lv = 0 := by simpa using h0
    obtain ⟨n1, n2, n3⟩ := self_none (chkS_self h0)
    have n1 : k ≠ 5 → k ≠ 7 → l = [] := n1
    have n2 : k ≠ 5 → k ≠ 6 → e = [] := n2
    have n3 : k ≠ 6 → c = [] := n3
    obtain ⟨h1, h⟩ := then_ok h
    obtain ⟨h2, h3⟩ := then_ok h
    have i1 := lsS_nu ft l (lv + 1) (at_ + 1)
    have i2 := csS_nu ft c (lv + 1) (chkSs l (lv + 1) (at_ + 1)).2
    have i3 := lsS_nu ft e (lv + 1) (chkCs c (lv + 1) (chkSs l (lv + 1) (at_ + 1)).2).2
    rw [stS] at he ⊢
    rw [nuS]
    by_cases k56 : k = 5 ∨ k = 6
    · have hk : k ≠ 1 ∧ k ≠ 2 ∧ k ≠ 3 ∧ k ≠ 4 := by omega
      rw [if_neg hk.1, if_neg hk.2.1, if_neg hk.2.2.1, if_neg hk.2.2.2, if_pos k56] at he ⊢
      split at he
      · rename_i hx; exact absurd he hx
      rename_i hx
      rw [if_neg hx]
      split at he
      · rename_i hy; exact absurd he hy
      rename_i hy
      rw [if_neg hy]
      split at he
      · rename_i hz; exact absurd he hz
      rename_i hz
      rw [if_neg hz]
      have j1 := i1 ((lvZ env == 0, []) :: env) m h1 (by simpa using hy)
      have j2 := i2 env _ h2 (by simpa using hz)
      have j3 := i3 ((lvZ env == 0, []) :: env) _ h3 he
      show (lsS ft e _ _).m + 1 = _
      rw [j3, j2, j1]
      omega
    · have el : e = [] := n2 (by omega) (by omega)
      have ec' : c = [] := n3 (by omega)
      subst el
      subst ec'
      by_cases k7 : k = 7
      · have hk : k ≠ 1 ∧ k ≠ 2 ∧ k ≠ 3 ∧ k ≠ 4 := by omega
        rw [if_neg hk.1, if_neg hk.2.1, if_neg hk.2.2.1, if_neg hk.2.2.2, if_neg k56, if_pos k7] at he ⊢
        split at he
        · rename_i hx; exact absurd he hx
        rename_i hx
        rw [if_neg hx]
        have j1 := i1 _ m h1 he
        show (lsS ft l _ m).m + 1 = _
        rw [j1, nuL, nuC]
        omega
      · have ll : l = [] := n1 (fun e5 => k56 (Or.inl e5)) k7
        subst ll
        rw [nuL, nuC]
        clear i1 i2 i3 h1 h2 h3 h
        split
        · show m + 1 = _; omega
        split
        · show m + 1 = _; omega
        split
        · show m + 1 = _; omega
        split
        · show m + 1 = _; omega
        split
        · show m + 1 = _; omega
        · show m + 1 = _; omega
theorem lsS_nu (ft : List (List UInt8 × Int)) : ∀ (l : List St) (lv at_ : Int) (env : Env) (m : Int), (chkSs l lv at_).1 = 0 → (lsS ft l env m).e = 0 → (lsS ft l env m).m = m + nuL l
  | [], lv, at_, env, m, _, _ => by rw [lsS, nuL]; show m = _; omega
  | s :: r, lv, at_, env, m, h, he => by
    rw [chkSs] at h
    obtain ⟨h1, h2⟩ := then_ok h
    rw [lsS] at he ⊢
    split at he
    · rename_i hx; exact absurd he hx
    rename_i hx
    rw [if_neg hx, nuL]
    have j1 := stS_nu ft s lv at_ env (m + 1) h1 (by simpa using hx)
    have j2 := lsS_nu ft r lv _ _ _ h2 he
    show (lsS ft r _ _).m = _
    rw [j2]
    omega
theorem caS_nu (ft : List (List UInt8 × Int)) : ∀ (c : Ca) (lv at_ : Int) (env : Env) (m : Int), (chkCa c lv at_).1 = 0 → (caS ft c env m).e = 0 → (caS ft c env m).m = m + nuA c
  | .mk n ba bc l, lv, at_, env, m, h, he => by
    rw [chkCa] at h
    rw [caS] at he ⊢
    rw [nuA]
    exact lsS_nu ft l lv at_ _ m h he
theorem csS_nu (ft : List (List UInt8 × Int)) : ∀ (l : List Ca) (lv at_ : Int) (env : Env) (m : Int), (chkCs l lv at_).1 = 0 → (csS ft l env m).e = 0 → (csS ft l env m).m = m + nuC l
  | [], lv, at_, env, m, _, _ => by rw [csS, nuC]; show m = _; omega
  | c :: r, lv, at_, env, m, h, he => by
    rw [chkCs] at h
    obtain ⟨h1, h2⟩ := then_ok h
    rw [csS] at he ⊢
    split at he
    · rename_i hx; exact absurd he hx
    rename_i hx
    rw [if_neg hx, nuC]
    have j1 := caS_nu ft c lv at_ env m h1 (by simpa using hx)
    have j2 := csS_nu ft r lv _ env _ h2 he
    show (csS ft r env _).m = _
    rw [j2, j1]
    omega
end
end Go.Proofs.YtakaldbhaoidiaaDoor

/- How many statements there are: the law's own count. -/
namespace Go.Proofs.YtakaldbhaoidiaaDoor
open Go.RowKit Go.Sort

mutual
theorem nuS_q : ∀ s : St, nuS s ≤ qS s
  | .mk _ _ _ a b _ _ l _ _ e _ _ c => by
    rw [nuS, qS]
    have := nuL_q l
    have := nuL_q e
    have := nuC_q c
    omega
theorem nuL_q : ∀ l : List St, nuL l ≤ qSs l
  | [] => by rw [nuL, qSs]; omega
  | s :: r => by rw [nuL, qSs]; have := nuS_q s; have := nuL_q r; omega
theorem nuA_q : ∀ c : Ca, nuA c ≤ qC c
  | .mk _ _ _ l => by rw [nuA, qC]; have := nuL_q l; omega
theorem nuC_q : ∀ l : List Ca, nuC l ≤ qCs l
  | [] => by rw [nuC, qCs]; omega
  | c :: r => by rw [nuC, qCs]; have := nuA_q c; have := nuC_q r; omega
end
theorem nuS_eq (s : St) : nuS s = 1 + nuL s.body + nuL s.els + nuC s.cases := by cases s; rw [nuS]; rfl
theorem nuA_eq (c : Ca) : nuA c = nuL c.body := by cases c; rw [nuA]; rfl
theorem nuL_drop {l : List St} {j : Nat} (h : j < l.length) : nuL (l.drop j) = nuS l[j] + nuL (l.drop (j + 1)) := by rw [List.drop_eq_getElem_cons h, nuL]
theorem nuC_drop {l : List Ca} {j : Nat} (h : j < l.length) : nuC (l.drop j) = nuA l[j] + nuC (l.drop (j + 1)) := by rw [List.drop_eq_getElem_cons h, nuC]
abbrev LaOk (n : Nat) : Prop := ∀ (l : List St) (a : Option Addr) (c : Nat) (w : World), ssz l < n → Have w a c l → qSs l ≤ 12288 → Calls Tryd.prog 7 #[.slice a l.length c] w fun e w' => e = .returned (.int .i64 (nuL l)) ∧ Below w.heap.size w w'
set_option maxRecDepth 100000 in
set_option maxHeartbeats 8000000 in
theorem last_step (n : Nat) (ih : LaOk n) (l : List St) (a : Option Addr) (c : Nat) (w : World) (hk : ssz l ≤ n) (hin : Have w a c l) (hq : qSs l ≤ 12288) : Calls Tryd.prog 7 #[.slice a l.length c] w fun e w' => e = .returned (.int .i64 (nuL l)) ∧ Below w.heap.size w w' := by
  have IH : Hid (LaOk n) := ih
  have HK : Hid (ssz l ≤ n ∧ qSs l ≤ 12288) := ⟨hk, hq⟩
  have HC : Hid (∀ x ∈ l, x.In w) := hin.2
  have HRW : Hid (RowIn w a 14 (l.map St.cells)) := hin.1.2.2.2
  have hnq := nuL_q l
  have hlen : l.length ≤ 12288 := by have := (fewSs_q l hq).1; omega
  clear ih hk hin
  go_enter Tryd.func7, Tryd.ntmps7
  go_wp2_with fail
  go_loopw [3, 10] (fun t3 t10 wr => ∃ (j z : Nat), j ≤ l.length ∧ t10 = .int .i64 j ∧ t3 = .int .i64 z ∧ z + nuL (l.drop j) = nuL l ∧ Below w.heap.size w wr) (fun _ t10 _ => l.length - (intOf t10).toNat)
  case atStart => exact ⟨0, 0, Nat.zero_le _, rfl, rfl, by simp, Below.refl _ w⟩
  case round =>
    obtain ⟨j, z, hj, rfl, rfl, hz, hb⟩ := hrel
    by_cases hlt : j < l.length
    · have hli : (j : Int) < (l.length : Int) := by omega
      obtain ⟨b, o, hba, hcell⟩ := rowS_at (HRW.out.below hb) hlt
      subst hba
      have c0 := hcell 0 _ rfl
      have c1 := hcell 1 _ rfl
      have c2 := hcell 2 _ rfl
      have c3 := hcell 3 _ rfl
      have c4 := hcell 4 _ rfl
      have c5 := hcell 5 _ rfl
      have c6 := hcell 6 _ rfl
      have c7 := hcell 7 _ rfl
      have c8 := hcell 8 _ rfl
      have c9 := hcell 9 _ rfl
      have c10 := hcell 10 _ rfl
      have c11 := hcell 11 _ rfl
      have c12 := hcell 12 _ rfl
      have c13 := hcell 13 _ rfl
      simp only [← Nat.add_assoc, Nat.add_zero] at c0 c1 c2 c3 c4 c5 c6 c7 c8 c9 c10 c11 c12 c13
      clear hcell
      have XC : Hid (∀ w', Below w.heap.size w w' → l[j].In w') := fun w' h => (HC.out l[j] (List.getElem_mem hlt)).stay h
      have HZ : Hid (l[j].sz ≤ n ∧ qS l[j] ≤ 12288) := ⟨Nat.le_trans (ssz_mem (List.getElem_mem hlt)) HK.out.1, Nat.le_trans (qSs_mem (List.getElem_mem hlt)) HK.out.2⟩
      have hzd := nuL_drop hlt
      have hsq := nuS_q l[j]
      have hse := nuS_eq l[j]
      generalize l[j] = s at *
      have HQ : Hid (qS s = 1 + s.a.sz + s.b.sz + qSs s.body + qSs s.els + qCs s.cases) := qS_eq s
      have HB1 : Hid (∀ w', Below w.heap.size w w' → Calls Tryd.prog 7 #[.slice s.ba s.body.length s.bc] w' fun e w'' => e = .returned (.int .i64 (nuL s.body)) ∧ Below w'.heap.size w' w'') := fun w' h => IH.out _ _ _ w' (by have := HZ.out.1; have := s.sz_eq; omega) (St.in_iff.1 (XC.out w' h)).2.2.2.2.2.1 (by have := HZ.out.2; have := HQ.out; omega)
      have HB2 : Hid (∀ w', Below w.heap.size w w' → Calls Tryd.prog 7 #[.slice s.ea s.els.length s.ec] w' fun e w'' => e = .returned (.int .i64 (nuL s.els)) ∧ Below w'.heap.size w' w'') := fun w' h => IH.out _ _ _ w' (by have := HZ.out.1; have := s.sz_eq; omega) (St.in_iff.1 (XC.out w' h)).2.2.2.2.2.2.1 (by have := HZ.out.2; have := HQ.out; omega)
      have HB3 : Hid (∀ (x : Ca), x ∈ s.cases → ∀ w', Below w.heap.size w w' → Calls Tryd.prog 7 #[.slice x.ba x.body.length x.bc] w' fun e w'' => e = .returned (.int .i64 (nuL x.body)) ∧ Below w'.heap.size w' w'') := fun x hx w' h => by
        have h4 := Ca.in_iff.1 ((St.in_iff.1 (XC.out w' h)).2.2.2.2.2.2.2.2 x hx)
        have h1 := csz_mem hx
        have h2 := x.sz_eq
        have h3 := s.sz_eq
        have h5 := qCs_mem hx
        exact IH.out _ _ _ w' (by have := HZ.out.1; omega) h4.2 (by have := HZ.out.2; have := HQ.out; omega)
      have hb1 := (Below.refl _ wr).alloc (Nat.le_refl _) (.cells #[.int .i64 s.kind, .string s.name, .int .i64 s.n, .int .i64 s.a.kind, .int .i64 s.a.n, .string s.a.name, .slice s.a.a s.a.args.length s.a.cap, .int .i64 s.b.kind, .int .i64 s.b.n, .string s.b.name, .slice s.b.a s.b.args.length s.b.cap, .slice s.ba s.body.length s.bc, .slice s.ea s.els.length s.ec, .slice s.ca s.cases.length s.cc] 43)
      have hbk := heap_alloc_new wr (.cells #[.int .i64 s.kind, .string s.name, .int .i64 s.n, .int .i64 s.a.kind, .int .i64 s.a.n, .string s.a.name, .slice s.a.a s.a.args.length s.a.cap, .int .i64 s.b.kind, .int .i64 s.b.n, .string s.b.name, .slice s.b.a s.b.args.length s.b.cap, .slice s.ba s.body.length s.bc, .slice s.ea s.els.length s.ec, .slice s.ca s.cases.length s.cc] 43)
      go_upto_region 5 with fail
      clear c0 c1 c2 c3 c4 c5 c6 c7 c8 c9 c10 c11 c12 c13
      generalize wr.alloc (.cells #[.int .i64 s.kind, .string s.name, .int .i64 s.n, .int .i64 s.a.kind, .int .i64 s.a.n, .string s.a.name, .slice s.a.a s.a.args.length s.a.cap, .int .i64 s.b.kind, .int .i64 s.b.n, .string s.b.name, .slice s.b.a s.b.args.length s.b.cap, .slice s.ba s.body.length s.bc, .slice s.ea s.els.length s.ec, .slice s.ca s.cases.length s.cc] 43) = W1 at *
      have BW1 : Hid (Below w.heap.size w W1) := Below.on hb hb1
      have HBK := Hid.mk' hbk
      have c11 : ∀ d os, (World.cell? _ _ = _) := fun d os => seen (by rw [Lib.cell_of_heap hbk]; rfl : W1.cell? ⟨wr.heap.size, 11, none⟩ = some (.slice s.ba s.body.length s.bc)) _ (below_regrown W1 d os)
      have c12 : ∀ d os, (World.cell? _ _ = _) := fun d os => seen (by rw [Lib.cell_of_heap hbk]; rfl : W1.cell? ⟨wr.heap.size, 12, none⟩ = some (.slice s.ea s.els.length s.ec)) _ (below_regrown W1 d os)
      have HB1' : Hid (∀ w', Below W1.heap.size W1 w' → Calls Tryd.prog 7 #[.slice s.ba s.body.length s.bc] w' fun e w'' => e = .returned (.int .i64 (nuL s.body)) ∧ Below w'.heap.size w' w'') := fun w' h => HB1.out w' (Below.on BW1.out h)
      have HB2' : Hid (∀ w', Below W1.heap.size W1 w' → Calls Tryd.prog 7 #[.slice s.ea s.els.length s.ec] w' fun e w'' => e = .returned (.int .i64 (nuL s.els)) ∧ Below w'.heap.size w' w'') := fun w' h => HB2.out w' (Below.on BW1.out h)
      clear hbk hb1 hb HB1 HB2
      generalize wr.heap.size = X at *
      have hs1 : nuL s.body ≤ 12288 := by have := HZ.out.2; omega
      have hs2 : nuL s.els ≤ 12288 := by have := HZ.out.2; omega
      have hs3 : nuC s.cases ≤ 12288 := by have := HZ.out.2; omega
      have hz1 : z ≤ 12288 := by have := HK.out.2; omega
      refine wp_region_quiet_below (by kernel_rfl) (by kernel_rfl) ?_
      repeat (go_big_quiet_step (first
        | (go_at_call_of 7 (Value.slice s.ba s.body.length s.bc); exact Calls.regrown_of (HB1'.out _ (below_regrown _ _ _)))
        | (go_at_call_of 7 (Value.slice s.ea s.els.length s.ec); exact Calls.regrown_of (HB2'.out _ (below_regrown _ _ _)))))
      refine wpQuiet_nil ?_
      intro _ hw'
      obtain ⟨⟨dq, osq⟩, hw''⟩ := hw'
      subst hw''
      have hbq := below_regrown W1 dq osq
      clear c11 c12
      obtain ⟨V, hV⟩ : ∃ V : Nat, (z : Int) + (1 + (nuL s.body : Int) + (nuL s.els : Int)) = (V : Int) := ⟨z + (1 + nuL s.body + nuL s.els), by push_cast; rfl⟩
      have HV : Hid (V = z + (1 + nuL s.body + nuL s.els)) := by show _ = _; omega
      rw [hV]
      clear hV
      have hbq' : Below W1.heap.size W1 (grow (redrawn W1 dq) osq) := hbq
      show Exit.then _ _ Exit.normal _ (grow (redrawn W1 dq) osq)
      generalize grow (redrawn W1 dq) osq = W2 at *
      have c13 := seen (by rw [Lib.cell_of_heap HBK.out]; rfl : W1.cell? ⟨X, 13, none⟩ = some (.slice s.ca s.cases.length s.cc)) _ hbq'
      have hc13 := (St.in_iff.1 (XC.out w (Below.refl _ _))).2.2.2.2.2.2.2.1
      obtain ⟨hcl, hcc2⟩ : s.cases.length ≤ s.cc ∧ s.cc * 32 ≤ 140737488351232 := ⟨hc13.1, hc13.2.1⟩
      have HLC : Hid (∀ w', Below w.heap.size w w' → RowIn w' s.ca 2 (s.cases.map Ca.cells)) := fun w' h => (St.in_iff.1 (XC.out w' h)).2.2.2.2.2.2.2.1.2.2.2
      clear hc13
      go_wp2_with fail
      clear c13
      go_loopw [3, 27] (fun t3 t27 wr => ∃ (i y : Nat), i ≤ s.cases.length ∧ t27 = .int .i64 i ∧ t3 = .int .i64 y ∧ y + nuC (s.cases.drop i) = V + nuC s.cases ∧ Below W1.heap.size W1 wr) (fun _ t27 _ => s.cases.length - (intOf t27).toNat)
      case atStart => exact ⟨0, V, Nat.zero_le _, rfl, rfl, by simp, hbq'⟩
      case round =>
        clear hbq hbq'
        obtain ⟨i, y, hi, rfl, rfl, hy, hb⟩ := hrel
        have hbw := Below.on BW1.out hb
        by_cases hilt : i < s.cases.length
        · have hili : (i : Int) < (s.cases.length : Int) := by omega
          obtain ⟨rb, ro, hca, d0, d1⟩ := rowC_at (HLC.out _ hbw) hilt
          have HQ3 := Hid.mk' (HB3.out s.cases[i] (List.getElem_mem hilt))
          have hyd := nuC_drop hilt
          have hae := nuA_eq s.cases[i]
          generalize s.cases[i] = y1 at *
          have hb2 := (Below.refl _ wr).alloc (Nat.le_refl _) (.cells #[.int .i64 y1.n, .slice y1.ba y1.body.length y1.bc] 58)
          have hbk2 := heap_alloc_new wr (.cells #[.int .i64 y1.n, .slice y1.ba y1.body.length y1.bc] 58)
          have HB2x := Hid.mk' hb2
          have hy2 : y ≤ 40000 := by have := HV.out; omega
          have hy3 : nuL y1.body ≤ 60000 := by have := HV.out; omega
          have HY := Hid.mk' (And.intro hy (And.intro hyd hae))
          have e1 : (wr.alloc (.cells #[.int .i64 y1.n, .slice y1.ba y1.body.length y1.bc] 58)).cell? ⟨wr.heap.size, 1, none⟩ = some (.slice y1.ba y1.body.length y1.bc) := Lib.cell_of_heap hbk2 1
          clear hb2 hbk2 hy hyd hae
          have HCA := Hid.mk' hca
          go_wp2_with fail
          refine (HQ3.out _ (Below.on hbw HB2x.out)).mono ?_
          rintro e w6 ⟨rfl, hb6⟩
          clear d0 d1 e1 hca
          go_wp2_with fail
          go_roundw
          case rel => exact ⟨i + 1, y + nuL y1.body, by omega, by go_num, by go_num, by have := HY.out; omega, Below.on hb (Below.on HB2x.out hb6)⟩
          case measure => simp [intOf]; omega
        · have hili : ¬ (i : Int) < (s.cases.length : Int) := by omega
          have hi' : i = s.cases.length := by omega
          subst hi'
          rw [List.drop_length, nuC] at hy
          have HFI : Hid (y = V + nuC s.cases ∧ Below w.heap.size w wr) := ⟨by omega, hbw⟩
          clear hy hbw hb
          go_wp2_with fail
          go_roundw
          case rel => exact ⟨j + 1, y, by omega, by go_num, rfl, by have := HFI.out.1; have := HV.out; omega, HFI.out.2⟩
          case measure => simp [intOf]; omega
    · have hli : ¬ (j : Int) < (l.length : Int) := by omega
      have hj' : j = l.length := by omega
      subst hj'
      rw [List.drop_length, nuL] at hz
      go_wp2_with fail
      go_ret
      exact ⟨by rw [show z = nuL l by omega]; rfl, hb⟩
theorem last_any (l : List St) (a : Option Addr) (c : Nat) (w : World) (hin : Have w a c l) (hq : qSs l ≤ 12288) : Calls Tryd.prog 7 #[.slice a l.length c] w fun e w' => e = .returned (.int .i64 (nuL l)) ∧ Below w.heap.size w w' := by
  have : ∀ n, LaOk n := fun n => by
    induction n with
    | zero => intro l a c w h; omega
    | succ n ih => intro l a c w h hin hq; exact last_step n ih l a c w (by omega) hin hq
  exact this (ssz l + 1) l a c w (by omega) hin hq
end Go.Proofs.YtakaldbhaoidiaaDoor

/- Has a function a name at its outer level: the law's own look. -/
namespace Go.Proofs.YtakaldbhaoidiaaDoor
open Go.RowKit Go.Sort

def knP (l : List Pa) (s : ByteArray) : Bool := l.any fun x => x.name.toList == s.toList
def knS (l : List St) (s : ByteArray) : Bool := l.any fun x => x.name.toList == s.toList
theorem knP_drop {l : List Pa} {j : Nat} (h : j < l.length) (s : ByteArray) : knP (l.drop j) s = (l[j].name.toList == s.toList || knP (l.drop (j + 1)) s) := by rw [List.drop_eq_getElem_cons h]; rfl
theorem knS_drop {l : List St} {j : Nat} (h : j < l.length) (s : ByteArray) : knS (l.drop j) s = (l[j].name.toList == s.toList || knS (l.drop (j + 1)) s) := by rw [List.drop_eq_getElem_cons h]; rfl
set_option maxRecDepth 100000 in
set_option maxHeartbeats 8000000 in
theorem known_any (f : Fu) (nm : ByteArray) (w : World) (hin : f.In w) (hl : f.params.length ≤ 12288) (hl2 : f.body.length ≤ 12288) : Calls Tryd.prog 10 #[f.val, .string nm] w fun e w' => e = .returned (.bool (knP f.params nm || knS f.body nm)) ∧ Below w.heap.size w w' := by
  have HRP : Hid (RowIn w f.pa 3 (f.params.map Pa.cells)) := hin.2.2.2.2.1
  have HRS : Hid (RowIn w f.ba 14 (f.body.map St.cells)) := hin.2.2.2.2.2.2.1.2.2.2
  have hb0 := (Below.refl _ w).alloc (Nat.le_refl _) (.cells #[.string f.name, .slice f.pa f.params.length f.pc, .slice f.ba f.body.length f.bc] 36)
  have hk0 := heap_alloc_new w (.cells #[.string f.name, .slice f.pa f.params.length f.pc, .slice f.ba f.body.length f.bc] 36)
  unfold Fu.val
  clear hin
  generalize f.params = ps at *
  generalize f.body = bs at *
  go_enter Tryd.func10, Tryd.ntmps10
  go_wp2_with fail
  go_loopw [12] (fun t12 wr => ∃ (j : Nat), j ≤ ps.length ∧ t12 = .int .i64 j ∧ knP ps nm = knP (ps.drop j) nm ∧ Below (w.alloc (.cells #[.string f.name, .slice f.pa ps.length f.pc, .slice f.ba bs.length f.bc] 36)).heap.size (w.alloc (.cells #[.string f.name, .slice f.pa ps.length f.pc, .slice f.ba bs.length f.bc] 36)) wr) (fun t12 _ => ps.length - (intOf t12).toNat)
  case atStart => exact ⟨0, Nat.zero_le _, rfl, rfl, Below.refl _ _⟩
  case round =>
    obtain ⟨j, hj, rfl, hz, hb⟩ := hrel
    have hbw := Below.on hb0 hb
    by_cases hlt : j < ps.length
    · have hli : (j : Int) < (ps.length : Int) := by omega
      have hpc := rowP_at (HRP.out.below hbw) hlt
      obtain ⟨b, o, hba, c0, c1, c2⟩ := hpc
      have hd := knP_drop hlt nm
      generalize ps[j] = s at *
      have hbk := heap_alloc_new wr (.cells #[.string s.name, .int .i64 s.lo, .int .i64 s.hi] 55)
      have HB2 := Hid.mk' ((Below.refl _ wr).alloc (Nat.le_refl _) (.cells #[.string s.name, .int .i64 s.lo, .int .i64 s.hi] 55))
      have e0 := Lib.cell_of_heap hbk 0
      clear hbk
      have HD := Hid.mk' (hz.trans hd)
      have HC := Hid.mk' hba
      clear hz hd
      cases he : (s.name.toList == nm.toList) with
      | true =>
        go_wp2_with fail
        go_ret
        exact ⟨by rw [HD.out, he]; rfl, Below.on hbw HB2.out⟩
      | false =>
        go_upto_region 6 with fail
        clear hba c0 c1 c2 e0
        go_wp2_with fail
        go_roundw
        case rel => exact ⟨j + 1, by omega, by go_num, by rw [HD.out, he, Bool.false_or], Below.on hb HB2.out⟩
        case measure => simp [intOf]; omega
    · have hli : ¬ (j : Int) < (ps.length : Int) := by omega
      have hz' : knP ps nm = false := by rw [hz, show j = ps.length by omega, List.drop_length]; rfl
      have e2 := seen (by rw [Lib.cell_of_heap hk0]; rfl : (w.alloc (.cells #[.string f.name, .slice f.pa ps.length f.pc, .slice f.ba bs.length f.bc] 36)).cell? ⟨w.heap.size, 2, none⟩ = some (.slice f.ba bs.length f.bc)) _ hb
      clear hz hb hk0 hb0
      go_wp2_with fail
      go_loopw [24] (fun t24 w2 => ∃ (i : Nat), i ≤ bs.length ∧ t24 = .int .i64 i ∧ knS bs nm = knS (bs.drop i) nm ∧ Below w.heap.size w w2) (fun t24 _ => bs.length - (intOf t24).toNat)
      case atStart => exact ⟨0, Nat.zero_le _, rfl, rfl, hbw⟩
      case round =>
        clear hbw e2
        obtain ⟨i, hi, rfl, hz, hbw⟩ := hrel
        by_cases hilt : i < bs.length
        · have hili : (i : Int) < (bs.length : Int) := by omega
          obtain ⟨b, o, hba, hcell⟩ := rowS_at (HRS.out.below hbw) hilt
          have c0 := hcell 0 _ rfl
          have c1 := hcell 1 _ rfl
          have c2 := hcell 2 _ rfl
          have c3 := hcell 3 _ rfl
          have c4 := hcell 4 _ rfl
          have c5 := hcell 5 _ rfl
          have c6 := hcell 6 _ rfl
          have c7 := hcell 7 _ rfl
          have c8 := hcell 8 _ rfl
          have c9 := hcell 9 _ rfl
          have c10 := hcell 10 _ rfl
          have c11 := hcell 11 _ rfl
          have c12 := hcell 12 _ rfl
          have c13 := hcell 13 _ rfl
          simp only [← Nat.add_assoc, Nat.add_zero] at c0 c1 c2 c3 c4 c5 c6 c7 c8 c9 c10 c11 c12 c13
          clear hcell
          have hd := knS_drop hilt nm
          generalize bs[i] = s at *
          have hbk := heap_alloc_new wr (.cells #[.int .i64 s.kind, .string s.name, .int .i64 s.n, .int .i64 s.a.kind, .int .i64 s.a.n, .string s.a.name, .slice s.a.a s.a.args.length s.a.cap, .int .i64 s.b.kind, .int .i64 s.b.n, .string s.b.name, .slice s.b.a s.b.args.length s.b.cap, .slice s.ba s.body.length s.bc, .slice s.ea s.els.length s.ec, .slice s.ca s.cases.length s.cc] 43)
          have HB2 := Hid.mk' ((Below.refl _ wr).alloc (Nat.le_refl _) (.cells #[.int .i64 s.kind, .string s.name, .int .i64 s.n, .int .i64 s.a.kind, .int .i64 s.a.n, .string s.a.name, .slice s.a.a s.a.args.length s.a.cap, .int .i64 s.b.kind, .int .i64 s.b.n, .string s.b.name, .slice s.b.a s.b.args.length s.b.cap, .slice s.ba s.body.length s.bc, .slice s.ea s.els.length s.ec, .slice s.ca s.cases.length s.cc] 43))
          have e1 := Lib.cell_of_heap hbk 1
          have HD := Hid.mk' (hz.trans hd)
          clear hbk hz hd
          cases he : (s.name.toList == nm.toList) with
          | true =>
            go_wp2_with fail
            go_ret
            exact ⟨by rw [HD.out, he, hz']; rfl, Below.on hbw HB2.out⟩
          | false =>
            go_upto_region 12 with fail
            clear hba c0 c1 c2 c3 c4 c5 c6 c7 c8 c9 c10 c11 c12 c13 e1
            go_wp2_with fail
            go_roundw
            case rel => exact ⟨i + 1, by omega, by go_num, by rw [HD.out, he, Bool.false_or], Below.on hbw HB2.out⟩
            case measure => simp [intOf]; omega
        · have hili : ¬ (i : Int) < (bs.length : Int) := by omega
          have hz2 : knS bs nm = false := by rw [hz, show i = bs.length by omega, List.drop_length]; rfl
          clear hz
          go_wp2_with fail
          go_ret
          exact ⟨by first | rfl | (rw [hz', hz2]; rfl), hbw⟩
end Go.Proofs.YtakaldbhaoidiaaDoor

/- A program of which one function has one statement more: its form. -/
namespace Go.Proofs.YtakaldbhaoidiaaDoor
open Go.RowKit Go.Sort

theorem chkSs_app (x : St) (lv : Int) : ∀ (l : List St) (at_ : Int), (chkSs l lv at_).1 = 0 → chkSs (l ++ [x]) lv at_ = chkT x lv (chkSs l lv at_).2
  | [], at_, _ => by
    have e0 : chkSs [] lv at_ = (0, at_) := by rw [chkSs]
    rw [List.nil_append, e0, chkSs]
    unfold thenZ
    split
    · rfl
    · rename_i h
      have h : (chkT x lv at_).1 = 0 := by simpa using h
      show chkSs [] lv (chkT x lv at_).2 = chkT x lv at_
      rw [chkSs]
      exact Prod.ext h.symm rfl
  | s :: r, at_, h => by
    rw [chkSs] at h
    obtain ⟨h1, h2⟩ := then_ok h
    rw [List.cons_append, chkSs, chkSs]
    unfold thenZ
    rw [if_neg (by simpa using h1), if_neg (by simpa using h1)]
    exact chkSs_app x lv r _ h2
theorem chkFs_right : ∀ {l : List Fu} {i : Int}, (chkFs l i).1 = 0 → ∀ f ∈ l, (chkF f).1 = 0
  | [], _, _, f, hf => by cases hf
  | g :: r, i, h, f, hf => by
    rw [chkFs] at h
    split at h
    · rename_i h0; exact absurd h h0
    · rename_i h0
      rcases List.mem_cons.1 hf with rfl | hf
      · simpa using h0
      · exact chkFs_right h f hf
theorem chkFs_mk : ∀ {l : List Fu} {i : Int}, (∀ f ∈ l, (chkF f).1 = 0) → (chkFs l i).1 = 0
  | [], _, _ => by rw [chkFs]
  | g :: r, i, h => by
    rw [chkFs, if_neg (by simpa using h g (by simp))]
    exact chkFs_mk fun f hf => h f (by simp [hf])
theorem check_parts {p : Pr} (h : (checkZ p).1 = 0) : wholeZ p = 0 ∧ ∀ f ∈ p.funcs, (chkF f).1 = 0 := by
  unfold checkZ at h
  split at h
  · rename_i h0; exact absurd h h0
  · rename_i h0; exact ⟨by simpa using h0, chkFs_right h⟩
/-- Right, or too many parts. -/
theorem check_more {q : Pr} {k : Nat} (hk : k < q.funcs.length) (a : Option Addr) (c : Nat) (x : St) (h : (checkZ q).1 = 0) (hx : ∀ n, (chkT x 1 n).1 = 0) :
    (checkZ (q.setF k (q.funcs[k].more a c x))).1 = 0 ∨ (checkZ (q.setF k (q.funcs[k].more a c x))).1 = 3 := by
  obtain ⟨hw, hf⟩ := check_parts h
  have hF : (chkF (q.funcs[k].more a c x)).1 = 0 := by
    have h1 := hf q.funcs[k] (List.getElem_mem hk)
    unfold chkF at h1 ⊢
    split at h1
    · rename_i h0; exact absurd h1 h0
    · rename_i h0
      have e : headZ (q.funcs[k].more a c x) = headZ q.funcs[k] := rfl
      rw [e, if_neg h0]
      show (chkSs (q.funcs[k].body ++ [x]) 1 0).1 = 0
      rw [chkSs_app x 1 _ 0 h1]
      exact hx _
  have hw' : wholeZ (q.setF k (q.funcs[k].more a c x)) = 0 ∨ wholeZ (q.setF k (q.funcs[k].more a c x)) = 3 := by
    unfold wholeZ at hw ⊢
    have e1 : (q.setF k (q.funcs[k].more a c x)).widen = q.widen := rfl
    have e2 : (q.setF k (q.funcs[k].more a c x)).funcs.length = q.funcs.length := List.length_set
    rw [e1, e2]
    split at hw
    · omega
    rename_i g1
    split at hw
    · omega
    rename_i g2
    split at hw
    · omega
    rename_i g3
    split at hw
    · omega
    rename_i g4
    rw [if_neg g1, if_neg g2, if_neg g3, if_neg g4]
    split
    · exact Or.inr rfl
    · exact Or.inl rfl
  unfold checkZ
  rcases hw' with h0 | h3
  · left
    rw [if_neg (by simpa using h0)]
    refine chkFs_mk fun f hf' => ?_
    rcases List.mem_or_eq_of_mem_set hf' with h' | h'
    · exact hf f h'
    · rw [h']; exact hF
  · right
    rw [if_pos (by rw [h3]; decide)]
    exact h3
/-- The statements that are put behind a body have a form. -/
theorem form_of {k : Int} {s : ByteArray} {a : Ex} (h : chkS (.mk k s 0 a zEx none 0 [] none 0 [] none 0 []) 1 = 0) (n : Int) : (chkT (.mk k s 0 a zEx none 0 [] none 0 [] none 0 []) 1 n).1 = 0 := by
  rw [chkT, if_neg (by simpa using h)]
  simp [thenZ, chkSs, chkCs]
theorem zero_zEx : zeroE zEx = true := by decide +kernel
theorem form_break (n : Int) : (chkT xBreak 1 n).1 = 0 := form_of (by decide +kernel) n
theorem bits_exp : ∀ (b : Bool) (k : Fin 5), 2 ≤ k.val → (bits .andNot .i64 (bits .or .i64 (bitZ 1 (!b)) (bitZ 2 ((0 : Int) != 0))) (formE k.val).fields != 0) = false := by decide +kernel
theorem self_exp {k : Nat} {s : ByteArray} {a : Option Addr} {c : Nat} {l : List Ex} (h : nameZ s = true) (hk : 2 ≤ k ∧ k ≤ 4) (hl : ((formE k).args != -1 && ((l.length : Int) != (formE k).args)) = false) : selfE (.mk k 0 s a c l) = 0 := by
  have h1 : isE (k : Int) = true := by unfold isE; simp; omega
  have h2 := bits_exp s.toList.isEmpty ⟨k, by omega⟩ hk.1
  unfold selfE
  rw [show (Ex.mk k 0 s a c l).kind = (k : Int) from rfl, Int.toNat_natCast, h1, if_neg (by decide)]
  rw [if_neg (by rw [show usesE (Ex.mk k 0 s a c l) = bits .or .i64 (bitZ 1 (!s.toList.isEmpty)) (bitZ 2 ((0 : Int) != 0)) from rfl, h2]; decide)]
  rw [if_neg (by rw [show (Ex.mk k 0 s a c l).args = l from rfl, hl]; decide)]
  rw [if_neg (by rw [show (Ex.mk k 0 s a c l).name = s from rfl, h]; simp)]
  rfl
theorem exp_ok {k : Nat} {s : ByteArray} {a : Option Addr} {c : Nat} {l : List Ex} (h : nameZ s = true) (hk : 2 ≤ k ∧ k ≤ 4) (hl : ((formE k).args != -1 && ((l.length : Int) != (formE k).args)) = false) (hc : chkL l 3 = 0) : chkE (.mk k 0 s a c l) 2 = 0 := by
  rw [chkE, if_neg (by decide), if_neg (by simpa using self_exp h hk hl)]
  exact hc
theorem bits_st : ∀ (b : Bool) (k : Fin 11), (k.val = 3 ∨ b = true ∧ 9 ≤ k.val) → (bits .andNot .i64 (orZ (orZ (orZ (orZ (orZ (orZ (bitZ 1 (!b)) (bitZ 2 ((0 : Int) != 0))) (bitZ 4 true)) (bitZ 8 false)) (bitZ 16 false)) (bitZ 32 false)) (bitZ 64 false)) (fldS k.val) != 0) = false := by decide +kernel
theorem st_ok {k : Nat} {s : ByteArray} {a : Ex} (hk : k = 3 ∨ k = 9 ∨ k = 10) (hs : k = 3 ∧ nameZ s = true ∨ 9 ≤ k ∧ s.toList.isEmpty = true) (hz : zeroE a = false) (h10 : k = 10 → a.kind = 4) (ha : chkE a 2 = 0) : chkS (.mk k s 0 a zEx none 0 [] none 0 [] none 0 []) 1 = 0 := by
  have h1 : isS (k : Int) = true := by unfold isS; simp; omega
  have h2 := bits_st s.toList.isEmpty ⟨k, by omega⟩ (by rcases hs with h | h; · exact Or.inl h.1
                                                        · exact Or.inr ⟨h.2, h.1⟩)
  have hu : usesS (.mk k s 0 a zEx none 0 [] none 0 [] none 0 []) = orZ (orZ (orZ (orZ (orZ (orZ (bitZ 1 (!s.toList.isEmpty)) (bitZ 2 ((0 : Int) != 0))) (bitZ 4 true)) (bitZ 8 false)) (bitZ 16 false)) (bitZ 32 false)) (bitZ 64 false) := by
    unfold usesS
    rw [show (St.mk k s 0 a zEx none 0 [] none 0 [] none 0 []).a = a from rfl, show (St.mk k s 0 a zEx none 0 [] none 0 [] none 0 []).b = zEx from rfl, hz, zero_zEx]
    rfl
  have hself : selfS (.mk k s 0 a zEx none 0 [] none 0 [] none 0 []) = 0 := by
    unfold selfS
    rw [show (St.mk k s 0 a zEx none 0 [] none 0 [] none 0 []).kind = (k : Int) from rfl, Int.toNat_natCast, h1, if_neg (by decide), hu, h2, if_neg (by decide)]
    rw [if_neg (by
      rw [show (St.mk k s 0 a zEx none 0 [] none 0 [] none 0 []).name = s from rfl]
      rcases hs with h | h
      · rw [h.2]; simp
      · rcases hk with e | e | e
        · omega
        · subst e; rw [show (bits .and .i64 (fldS 9) 1 != 0) = false by decide +kernel]; simp
        · subst e; rw [show (bits .and .i64 (fldS 10) 1 != 0) = false by decide +kernel]; simp)]
    rw [if_neg (by simp [leastC, St.n, St.cases])]
    rw [if_neg (by
      rw [show (St.mk k s 0 a zEx none 0 [] none 0 [] none 0 []).a = a from rfl]
      by_cases e : k = 10
      · rw [h10 e]; simp
      · simp; omega)]
  unfold chkS
  rw [if_neg (by decide), if_neg (by simpa using hself)]
  rw [show (St.mk k s 0 a zEx none 0 [] none 0 [] none 0 []).a = a from rfl, if_neg (by rw [show (1 : Int) + 1 = 2 from rfl, ha]; simp)]
  rw [show (St.mk k s 0 a zEx none 0 [] none 0 [] none 0 []).kind = (k : Int) from rfl, Int.toNat_natCast]
  rcases hk with e | e | e
  · subst e; exact if_neg (by decide +kernel)
  · subst e; exact if_neg (by decide +kernel)
  · subst e; exact if_neg (by decide +kernel)
theorem form_call {s : ByteArray} (h : nameZ s = true) (n : Int) : (chkT (xCall s) 1 n).1 = 0 := form_of (st_ok (k := 10) (Or.inr (Or.inr rfl)) (Or.inr ⟨by decide, by decide +kernel⟩) rfl (fun _ => rfl) (exp_ok (k := 4) h (by decide) rfl (by rw [chkL]))) n
theorem form_assign {s : ByteArray} (h : nameZ s = true) (n : Int) : (chkT (xAssign s) 1 n).1 = 0 := form_of (st_ok (k := 3) (Or.inl rfl) (Or.inl ⟨rfl, h⟩) rfl (fun e => by omega) (exp_ok (k := 2) h (by decide) rfl (by rw [chkL]))) n
theorem form_return {s : ByteArray} (h : nameZ s = true) (a : Option Addr) (n : Int) : (chkT (xReturn s a (.mk 1 0 ⟨#[]⟩ none 0 [])) 1 n).1 = 0 := form_of (st_ok (k := 9) (Or.inr (Or.inl rfl)) (Or.inr ⟨by decide, by decide +kernel⟩) rfl (fun e => by omega) (exp_ok (k := 3) h (by decide) rfl (by decide +kernel))) n
end Go.Proofs.YtakaldbhaoidiaaDoor

/- A copy of which one function has another body: it lies as it should. -/
namespace Go.Proofs.YtakaldbhaoidiaaDoor
open Go.RowKit Go.Sort

/-- A function with another body. -/
def Fu.with (f : Fu) (a : Option Addr) (c : Nat) (l : List St) : Fu := ⟨f.name, f.pa, f.pc, f.params, a, c, l⟩
theorem Fu.more_with (f : Fu) (a : Option Addr) (c : Nat) (x : St) : f.more a c x = f.with a c (f.body ++ [x]) := rfl
/-- The row of functions, one body's cell turned. -/
theorem cells_with {fs : List Fu} {k : Nat} (hk : k < fs.length) (a : Option Addr) (c : Nat) (l : List St) : (fs.flatMap Fu.cells ++ senF).set (k * 3 + 2) (.slice a l.length c) = (fs.set k (fs[k].with a c l)).flatMap Fu.cells ++ senF :=
  (flat_set (f := Fu.cells) (n := 3) (fun _ => rfl) senF (fs[k].with a c l) (.slice a l.length c) fs k 2 fs[k] (List.getElem?_eq_getElem hk) (by decide) rfl).symm
theorem with_in {W W' : World} {q : Pr} {k gF : Nat} (hc : q.Cp W) (hnd : q.bl.Nodup) (hk : k < q.funcs.length) {a : Option Addr} {c : Nat} {l : List St} (hl : Have W' a c l)
    (hfa : q.fa = some ⟨gF, 0, none⟩) (keep : ∀ b ∈ q.bl, b ≠ gF → W'.heap[b]? = W.heap[b]?)
    (hFn : W'.heap[gF]? = some (.cells ⟨(q.funcs.set k (q.funcs[k].with a c l)).flatMap Fu.cells ++ senF⟩ 36 (0, 0))) : (q.setF k (q.funcs[k].with a c l)).In W' := by
  obtain ⟨h1, h2, h3, h4⟩ := hc
  obtain ⟨gF', hfa', hfc, hfb, hF⟩ := h3
  obtain rfl : gF = gF' := by rw [hfa] at hfa'; injection hfa' with e; injection e
  have hblk : blk q.fa = gF := by rw [hfa]; rfl
  have hinf : ∀ f ∈ q.funcs, ∀ b ∈ f.bl, b ∈ q.bl := fun f hf b hb => by
    unfold Pr.bl
    exact List.mem_cons_of_mem _ (List.mem_cons_of_mem _ (List.mem_flatMap.2 ⟨f, hf, hb⟩))
  have hinw : blk q.wa ∈ q.bl := by unfold Pr.bl; simp
  unfold Pr.bl at hnd
  rw [hblk] at hnd
  have hnd2 := (List.nodup_cons.1 (List.nodup_cons.1 hnd).2).1
  have hnw := (List.nodup_cons.1 hnd).1
  have hfu : ∀ f ∈ q.funcs, f.Cp W' := fun f hf => (h4 f hf).kept fun b hb => keep b (hinf f hf b hb) (fun e => hnd2 (List.mem_flatMap.2 ⟨f, hf, by rw [← e]; exact hb⟩))
  obtain ⟨gw, hwa, hwc, hwb, hWB⟩ := h1
  have hgw : gw ≠ gF := fun e => hnw (by rw [hwa]; show gw ∈ _; rw [e]; simp)
  have r1 : RowIn _ q.wa 1 _ := (RowCp.keep (W' := W') ⟨gw, hwa, hwc, hwb, hWB⟩ (by rw [hwa] at hinw ⊢; exact keep gw hinw hgw)).row (k := 1) (fun x => rfl)
  have hFI := (hfu q.funcs[k] (List.getElem_mem hk)).in
  have r2 : RowIn W' (some ⟨gF, 0, none⟩) 3 ((q.funcs.set k (q.funcs[k].with a c l)).map Fu.cells) := rowIn_block hFn (.inr ⟨senF, by rw [List.flatMap]⟩) (lenF _)
  refine ⟨?_, hwb, fun h => ?_, r1, h2, ?_, hfb, fun h => ?_, ?_, fun f hf => ?_⟩
  · show q.widen.length ≤ q.wc; omega
  · have h' : q.wa = none := h
    rw [hwa] at h'; cases h'
  · show (q.funcs.set k _).length ≤ q.fc
    rw [List.length_set]; omega
  · have h' : q.fa = none := h
    rw [hfa] at h'; cases h'
  · show RowIn _ q.fa 3 _
    rw [hfa]; exact r2
  · rcases List.mem_or_eq_of_mem_set hf with h | h
    · exact (hfu f h).in
    · subst h
      exact ⟨hFI.1, hFI.2.1, hFI.2.2.1, hFI.2.2.2.1, hFI.2.2.2.2.1, hFI.2.2.2.2.2.1, hl⟩
end Go.Proofs.YtakaldbhaoidiaaDoor

/- What is called, in order; a call of the first function is told first. -/
namespace Go.Proofs.YtakaldbhaoidiaaDoor
open Go.RowKit Go.Sort

theorem rising_eq : ∀ {l m : List Int}, l.Pairwise (· < ·) → m.Pairwise (· < ·) → (∀ x, x ∈ l ↔ x ∈ m) → l = m
  | [], [], _, _, _ => rfl
  | [], b :: m, _, _, h => by have := (h b).2 (by simp); cases this
  | a :: l, [], _, _, h => by have := (h a).1 (by simp); cases this
  | a :: l, b :: m, h1, h2, h => by
    rw [List.pairwise_cons] at h1 h2
    have e : a = b := by
      have ha := (h a).1 (by simp)
      have hb := (h b).2 (by simp)
      rcases List.mem_cons.1 ha with e | ha
      · exact e
      rcases List.mem_cons.1 hb with e | hb
      · exact e.symm
      have := h2.1 a ha
      have := h1.1 b hb
      omega
    subst e
    congr 1
    refine rising_eq h1.2 h2.2 fun x => ⟨fun hx => ?_, fun hx => ?_⟩
    · have := (h x).1 (by simp [hx])
      rcases List.mem_cons.1 this with e | h'
      · have := h1.1 x hx; omega
      · exact h'
    · have := (h x).2 (by simp [hx])
      rcases List.mem_cons.1 this with e | h'
      · have := h2.1 x hx; omega
      · exact h'
theorem compactUp_rising (d : Array Int) (hs : ∀ i j, i ≤ j → j < d.size → d[i]! ≤ d[j]!) : ∀ m, m ≤ d.size → (Lib.compactUpTo d m).Pairwise (· < ·) ∧ ∀ x, x ∈ Lib.compactUpTo d m ↔ ∃ i, i < m ∧ d[i]! = x
  | 0, _ => by
    have : Lib.compactUpTo d 0 = [] := rfl
    rw [this]
    exact ⟨List.Pairwise.nil, fun x => ⟨fun h => (by cases h), fun ⟨i, h, _⟩ => by omega⟩⟩
  | m + 1, hm => by
    obtain ⟨h1, h2⟩ := compactUp_rising d hs m (by omega)
    rw [Lib.compactUpTo_succ]
    by_cases hk : Lib.keeps d m = true
    · rw [if_pos hk]
      refine ⟨?_, fun x => ?_⟩
      · rw [List.pairwise_append]
        refine ⟨h1, by simp, fun a ha b hb => ?_⟩
        rw [List.mem_singleton] at hb
        subst hb
        obtain ⟨i, hi, rfl⟩ := (h2 a).1 ha
        have hle := hs i (m - 1) (by omega) (by omega)
        have hle2 := hs (m - 1) m (by omega) (by omega)
        have hne : d[m]! ≠ d[m - 1]! := by
          unfold Lib.keeps at hk
          have hm0 : m ≠ 0 := by omega
          simpa [hm0] using hk
        omega
      · rw [List.mem_append, h2, List.mem_singleton]
        constructor
        · rintro (⟨i, hi, e⟩ | e)
          · exact ⟨i, by omega, e⟩
          · exact ⟨m, by omega, e.symm⟩
        · rintro ⟨i, hi, e⟩
          by_cases him : i = m
          · exact Or.inr (by rw [← e, him])
          · exact Or.inl ⟨i, by omega, e⟩
    · rw [if_neg hk, List.append_nil]
      refine ⟨h1, fun x => ?_⟩
      rw [h2]
      constructor
      · rintro ⟨i, hi, e⟩; exact ⟨i, by omega, e⟩
      · rintro ⟨i, hi, e⟩
        by_cases him : i = m
        · subst him
          have hm0 : i ≠ 0 ∧ d[i]! = d[i - 1]! := by
            unfold Lib.keeps at hk
            by_cases h0 : i = 0
            · subst h0; simp at hk
            · exact ⟨h0, by simpa [h0] using hk⟩
          exact ⟨i - 1, by omega, by rw [← hm0.2]; exact e⟩
        · exact ⟨i, by omega, e⟩
theorem sort_le (c : List Int) : ∀ i j, i ≤ j → j < (sortI c).toArray.size → (sortI c).toArray[i]! ≤ (sortI c).toArray[j]! := by
  have hp : (sortI c).Pairwise (fun a b => decide (a ≤ b) = true) := List.pairwise_mergeSort (fun a b c h1 h2 => by simp at *; omega) (fun a b => by simp; omega) c
  intro i j hij hj
  have hj' : j < (sortI c).length := by simpa using hj
  by_cases e : i = j
  · subst e; exact Int.le_refl _
  · have := List.pairwise_iff_getElem.1 hp i j (by omega) hj' (by omega)
    simp [getElem!_pos, hj', show i < (sortI c).length by omega]
    simpa using this
theorem compact_sort (c : List Int) : (Lib.compact (sortI c)).Pairwise (· < ·) ∧ ∀ x, x ∈ Lib.compact (sortI c) ↔ x ∈ c := by
  have h := compactUp_rising (sortI c).toArray (sort_le c) (sortI c).length (by simp)
  unfold Lib.compact
  refine ⟨h.1, fun x => ?_⟩
  rw [h.2]
  have hm : x ∈ sortI c ↔ x ∈ c := List.mem_mergeSort
  rw [← hm, List.mem_iff_getElem]
  constructor
  · rintro ⟨i, hi, e⟩; exact ⟨i, hi, by simpa [getElem!_pos, hi] using e⟩
  · rintro ⟨i, hi, e⟩; exact ⟨i, hi, by simpa [getElem!_pos, hi] using e⟩
/-- The places at which marks are set. -/
def idxB (cl : List Bool) : Nat → List Int
  | 0 => []
  | j + 1 => idxB cl j ++ (if cl.getD j false = true then [(j : Int)] else [])

/-- A number that the table has. -/
def InT (ft : List (List UInt8 × Int)) (z : Int) : Prop := ∃ s, tabHas ft s = true ∧ tabAt ft s = z
theorem in_app {ft : List (List UInt8 × Int)} {l m : List Int} (h1 : ∀ z ∈ l, InT ft z) (h2 : ∀ z ∈ m, InT ft z) : ∀ z ∈ l ++ m, InT ft z := fun z hz => by
  rcases List.mem_append.1 hz with h | h
  · exact h1 z h
  · exact h2 z h
mutual
theorem exC_in (env : Env) (ft : List (List UInt8 × Int)) : ∀ x : Ex, exZ env ft x = 0 → ∀ z ∈ exC ft x, InT ft z
  | .mk k n s a c l => by
    intro h
    rw [exZ] at h
    have h0 : nmZ env ft k s.data.toList = 0 := by
      by_cases h0 : nmZ env ft k s.data.toList = 0
      · exact h0
      · rw [if_pos h0] at h; exact absurd h h0
    rw [if_neg (by simpa using h0)] at h
    rw [exC]
    refine in_app (fun z hz => ?_) (exLC_in env ft l h)
    unfold nmC at hz
    split at hz
    · rename_i k4
      rw [List.mem_singleton] at hz
      refine ⟨s.data.toList, ?_, hz.symm⟩
      unfold nmZ at h0
      rw [if_neg (by omega), if_neg (by omega), if_pos k4] at h0
      unfold clZ at h0
      split at h0
      · assumption
      · omega
    · cases hz
theorem exLC_in (env : Env) (ft : List (List UInt8 × Int)) : ∀ l : List Ex, exLZ env ft l = 0 → ∀ z ∈ exLC ft l, InT ft z
  | [] => fun _ z hz => by rw [exLC] at hz; cases hz
  | x :: r => by
    intro h
    rw [exLZ] at h
    have h0 : exZ env ft x = 0 := by
      by_cases h0 : exZ env ft x = 0
      · exact h0
      · rw [if_pos h0] at h; exact absurd h h0
    rw [if_neg (by simpa using h0)] at h
    rw [exLC]
    exact in_app (exC_in env ft x h0) (exLC_in env ft r h)
end
theorem orF_zero : ∀ {l : List Int}, orF l = 0 → ∀ x ∈ l, x = 0
  | [], _, x, hx => by cases hx
  | a :: r, h, x, hx => by
    rw [orF] at h
    have h0 : a = 0 := by
      by_cases h0 : a = 0
      · exact h0
      · rw [if_pos h0] at h; exact absurd h h0
    rw [if_neg (by simpa using h0)] at h
    rcases List.mem_cons.1 hx with rfl | hx
    · exact h0
    · exact orF_zero h x hx
mutual
theorem stS_in (ft : List (List UInt8 × Int)) : ∀ (s : St) (env : Env) (m : Int), (stS ft s env m).e = 0 → ∀ z ∈ (stS ft s env m).c, InT ft z
  | .mk k nm n a b ba bc l ea ec e ca cc c, env, m => by
    have h1 := fun env m => lsS_in ft l env m
    have h2 := fun env m => csS_in ft c env m
    have h3 := fun env m => lsS_in ft e env m
    have ha := exC_in env ft a
    have hb := exC_in env ft b
    rw [stS]
    split
    · intro h; exact ha (orF_zero h _ (by simp))
    split
    · intro _ z hz; cases hz
    split
    · intro h; exact ha (orF_zero h _ (by simp))
    split
    · intro h; exact in_app (ha (orF_zero h _ (by simp))) (hb (orF_zero h _ (by simp)))
    split
    · split
      · rename_i h0; intro h; exact absurd h h0
      split
      · rename_i h0; intro h; exact absurd h h0
      split
      · rename_i h0; intro h; exact absurd h h0
      · rename_i g1 g2 g3
        intro h
        exact in_app (in_app (in_app (ha (by simpa using g1)) (h1 _ _ (by simpa using g2))) (h2 _ _ (by simpa using g3))) (h3 _ _ h)
    split
    · split
      · rename_i h0; intro h; exact absurd h h0
      · rename_i g1
        intro h
        have g1' := orF_zero (by simpa using g1)
        exact in_app (in_app (ha (g1' _ (by simp))) (hb (g1' _ (by simp)))) (h1 _ _ h)
    split
    · intro _ z hz; cases hz
    · intro h; exact ha h
theorem lsS_in (ft : List (List UInt8 × Int)) : ∀ (l : List St) (env : Env) (m : Int), (lsS ft l env m).e = 0 → ∀ z ∈ (lsS ft l env m).c, InT ft z
  | [], env, m => by rw [lsS]; intro _ z hz; cases hz
  | s :: r, env, m => by
    have h1 := stS_in ft s env (m + 1)
    have h2 := fun env m => lsS_in ft r env m
    rw [lsS]
    split
    · exact h1
    · rename_i g1
      intro h
      exact in_app (h1 (by simpa using g1)) (h2 _ _ h)
theorem caS_in (ft : List (List UInt8 × Int)) : ∀ (c : Ca) (env : Env) (m : Int), (caS ft c env m).e = 0 → ∀ z ∈ (caS ft c env m).c, InT ft z
  | .mk n ba bc l, env, m => by
    have h1 := fun env m => lsS_in ft l env m
    rw [caS]
    exact h1 _ _
theorem csS_in (ft : List (List UInt8 × Int)) : ∀ (l : List Ca) (env : Env) (m : Int), (csS ft l env m).e = 0 → ∀ z ∈ (csS ft l env m).c, InT ft z
  | [], env, m => by rw [csS]; intro _ z hz; cases hz
  | c :: r, env, m => by
    have h1 := caS_in ft c env m
    have h2 := fun env m => csS_in ft r env m
    rw [csS]
    split
    · rename_i h0; intro h; exact absurd h h0
    · rename_i g1
      intro h
      exact in_app (h1 (by simpa using g1)) (h2 _ _ h)
end
theorem fnS_in (ft : List (List UInt8 × Int)) (f : Fu) (h : (fnS ft f).e = 0) : ∀ z ∈ (fnS ft f).c, InT ft z := by
  unfold fnS at h ⊢
  split
  · intro z hz; cases hz
  split
  · intro z hz; cases hz
  · rename_i g1 g2
    rw [if_neg g1, if_neg g2] at h
    exact lsS_in ft f.body _ 0 h
/-- Which functions are all right, where names are. -/
theorem lk_all {fs : List Fu} : ∀ (d k : Nat), k + d = fs.length → (lkZ fs (fs.drop k) k).1 = 0 → ∀ (j : Nat) (f : Fu), k ≤ j → fs[j]? = some f → (fnK fs j f).e = 0
  | 0, k, hd, _, j, f, hj, hf => by have := (List.getElem?_eq_some_iff.1 hf).1; omega
  | d + 1, k, hd, h, j, f, hj, hf => by
    rw [lkZ_drop (by omega)] at h
    have h0 : (fnK fs k fs[k]).e = 0 := by
      by_cases h0 : (fnK fs k fs[k]).e = 0
      · exact h0
      · rw [if_pos h0] at h; exact absurd h h0
    rw [if_neg (by simpa using h0)] at h
    by_cases e : j = k
    · subst e
      rw [List.getElem?_eq_getElem (by omega)] at hf
      rw [← Option.some.inj hf]; exact h0
    · exact lk_all d (k + 1) (by omega) h j f (by omega) hf
theorem nam_all {p : Pr} (h : (namZ p).1 = 0) : (checkZ p).1 = 0 ∧ ∀ (j : Nat) (f : Fu), p.funcs[j]? = some f → (fnK p.funcs j f).e = 0 := by
  have hc : (checkZ p).1 = 0 := by
    unfold namZ at h
    split at h
    · rename_i h0; exact absurd h h0
    · rename_i h0; simpa using h0
  refine ⟨hc, fun j f hf => ?_⟩
  unfold namZ at h
  rw [if_neg (by simpa using hc)] at h
  exact lk_all p.funcs.length 0 (by omega) (by rw [List.drop_zero]; exact h) j f (by omega) hf
theorem ft_pos {fs : List Fu} : ∀ (k : Nat) (t : List UInt8), tabHas (ftK fs k) t = true → 0 ≤ tabAt (ftK fs k) t
  | 0, t, h => by rw [ftK] at h; cases h
  | k + 1, t, h => by
    by_cases hk : k < fs.length
    · rw [ftK_succ hk, tabHas_cons] at h
      rw [ftK_succ hk, tabAt_cons]
      by_cases e : fs[k].name.data.toList = t
      · rw [if_pos e]; omega
      · rw [if_neg e] at h ⊢
        exact ft_pos k t h
    · have e : ftK fs (k + 1) = ftK fs k := by rw [ftK, List.getElem?_eq_none (by omega)]
      rw [e] at h ⊢
      exact ft_pos k t h
theorem calls_pos {fs : List Fu} {k : Nat} {f : Fu} (h : (fnK fs k f).e = 0) : ∀ z ∈ (fnK fs k f).c, 0 ≤ z := fun z hz => by
  obtain ⟨t, h1, h2⟩ := fnS_in (ftK fs k) f h z hz
  rw [← h2]; exact ft_pos k t h1
/-- The first function's name is known behind it, with the number 0. -/
theorem ft_zero {fs : List Fu} (h0 : 0 < fs.length) (hr : ∀ (j : Nat) (f : Fu), fs[j]? = some f → (fnK fs j f).e = 0) : ∀ (k : Nat), k < fs.length → tabHas (ftK fs (k + 1)) fs[0].name.data.toList = true ∧ tabAt (ftK fs (k + 1)) fs[0].name.data.toList = 0
  | 0, hk => by
    rw [ftK_succ hk, tabHas_cons, tabAt_cons]
    simp
  | k + 1, hk => by
    obtain ⟨i1, i2⟩ := ft_zero h0 hr k (by omega)
    have ho := fn_own (hr (k + 1) fs[k + 1] (List.getElem?_eq_getElem hk))
    have hne : fs[k + 1].name.data.toList ≠ fs[0].name.data.toList := fun e => by
      rw [e, i1] at ho; exact absurd ho (by decide)
    rw [ftK_succ hk, tabHas_cons, tabAt_cons]
    simp [hne, i1, i2]
/-- The least of those that are called, with the first function among them. -/
theorem compact_zero {c : List Int} (h : ∀ x ∈ c, 0 ≤ x) (h0 : (0 : Int) ∈ c) : ∃ r, Lib.compact (sortI c) = 0 :: r := by
  obtain ⟨h1, h2⟩ := compact_sort c
  have hm := (h2 0).2 h0
  cases hl : Lib.compact (sortI c) with
  | nil => rw [hl] at hm; cases hm
  | cons x r =>
    rw [hl] at h1 hm
    have hx : 0 ≤ x := h x ((h2 x).1 (by rw [hl]; simp))
    rcases List.mem_cons.1 hm with e | e
    · exact ⟨r, by rw [← e]⟩
    · have := (List.pairwise_cons.1 h1).1 0 e; omega
/-- A call of the first function behind a right body: right, and it is told first. -/
theorem last_call {q : Pr} {k : Nat} (hk : k < q.funcs.length) (hk0 : 0 < k) (a : Option Addr) (c : Nat) (h0 : (namZ q).1 = 0) (h2 : (checkZ (q.setF k (q.funcs[k].more a c (xCall q.funcs[0].name)))).1 = 0) :
    namZ (q.setF k (q.funcs[k].more a c (xCall q.funcs[0].name))) = (0, 0, 0) ∧ ∃ r, clN (q.setF k (q.funcs[k].more a c (xCall q.funcs[0].name))) k = 0 :: r := by
  have hR := (nam_right h0).2
  have hr := hR k q.funcs[k] (List.getElem?_eq_getElem hk)
  obtain ⟨fr, h3, h4, h5⟩ := fn_more (ftK q.funcs k) q.funcs[k] a c (xCall q.funcs[0].name) hr
  obtain ⟨x1, x2, x3⟩ := x_call (ftK q.funcs k) [fr] ((fnK q.funcs k q.funcs[k]).m + 1) q.funcs[0].name
  obtain ⟨t1, t2⟩ := ft_zero (by omega) hR (k - 1) (by omega)
  rw [show k - 1 + 1 = k by omega] at t1 t2
  have hcl : clZ (ftK q.funcs k) q.funcs[0].name.data.toList = 0 := by unfold clZ; rw [if_pos t1]
  rw [hcl] at x1
  rw [t2] at x3
  have hE : (fnK q.funcs k (q.funcs[k].more a c (xCall q.funcs[0].name))).e = 0 := by
    unfold fnK
    rw [h5]
    exact x1
  have hC : (fnK q.funcs k (q.funcs[k].more a c (xCall q.funcs[0].name))).c = (fnK q.funcs k q.funcs[k]).c ++ [0] := by
    have : (fnS (ftK q.funcs k) (q.funcs[k].more a c (xCall q.funcs[0].name))).c = (fnS (ftK q.funcs k) q.funcs[k]).c ++ (stS (ftK q.funcs k) (xCall q.funcs[0].name) [fr] ((fnS (ftK q.funcs k) q.funcs[k]).m + 1)).c := by rw [h5]
    unfold fnK at x3 ⊢
    rw [this, x3]
  have hn : namZ (q.setF k (q.funcs[k].more a c (xCall q.funcs[0].name))) = (0, 0, 0) := by
    rw [nam_set (F := q.funcs[k].more a c (xCall q.funcs[0].name)) hk rfl h0 h2, if_neg (by simpa using hE)]
  refine ⟨hn, ?_⟩
  have hl : (q.funcs.set k (q.funcs[k].more a c (xCall q.funcs[0].name))).length = q.funcs.length := List.length_set
  unfold clN
  rw [hn]
  show ∃ r, (if (0 : Int) ≠ 0 ∨ (k : Int) < 0 ∨ ((q.funcs.set k (q.funcs[k].more a c (xCall q.funcs[0].name))).length : Int) ≤ k then [] else match (q.funcs.set k (q.funcs[k].more a c (xCall q.funcs[0].name)))[(k : Int).toNat]? with | some f => Lib.compact (sortI (fnK (q.funcs.set k (q.funcs[k].more a c (xCall q.funcs[0].name))) (k : Int).toNat f).c) | none => []) = 0 :: r
  rw [hl, if_neg (by omega), Int.toNat_natCast, List.getElem?_set_self hk]
  show ∃ r, Lib.compact (sortI (fnK (q.funcs.set k (q.funcs[k].more a c (xCall q.funcs[0].name))) k (q.funcs[k].more a c (xCall q.funcs[0].name))).c) = 0 :: r
  have e : fnK (q.funcs.set k (q.funcs[k].more a c (xCall q.funcs[0].name))) k (q.funcs[k].more a c (xCall q.funcs[0].name)) = fnK q.funcs k (q.funcs[k].more a c (xCall q.funcs[0].name)) := by
    unfold fnK; rw [ftK_set (F := q.funcs[k].more a c (xCall q.funcs[0].name)) hk rfl]
  rw [e]
  refine compact_zero (fun z hz => calls_pos hE z hz) ?_
  rw [hC]; simp
end Go.Proofs.YtakaldbhaoidiaaDoor

/- What each of the four statements is told for. -/
namespace Go.Proofs.YtakaldbhaoidiaaDoor
open Go.RowKit Go.Sort

def nob : ByteArray := ⟨#[110, 111, 98, 111, 100, 121]⟩
theorem nob_name : nameZ nob = true := by decide +kernel
theorem fn_nu {ft : List (List UInt8 × Int)} {f : Fu} (hc : (chkF f).1 = 0) (h : (fnS ft f).e = 0) : (fnS ft f).m = nuL f.body := by
  have h1 : tabHas ft f.name.data.toList ≠ true ∧ (paS f.params [(false, [])]).1 = 0 ∧ (lsS ft f.body (paS f.params [(false, [])]).2 0).e = 0 := by
    unfold fnS at h
    split at h
    · exact absurd h (by decide)
    · rename_i h0
      split at h
      · rename_i h1; exact absurd h h1
      · rename_i h1; exact ⟨h0, by simpa using h1, h⟩
  obtain ⟨a0, a1, a2⟩ := h1
  have hcs : (chkSs f.body 1 0).1 = 0 := by
    unfold chkF at hc
    split at hc
    · rename_i h0; exact absurd hc h0
    · exact hc
  unfold fnS
  rw [if_neg a0, if_neg (show ¬ (paS f.params [(false, [])]).1 ≠ 0 by simpa using a1), lsS_nu ft f.body 1 0 _ 0 hcs a2]
  omega
theorem ask_more {q : Pr} {k : Nat} (h0 : (namZ q).1 = 0) (hk : k < q.funcs.length) (a : Option Addr) (c : Nat) (x : St) (e : Int) (he : e ≠ 0) (hx : ∀ n, (chkT x 1 n).1 = 0)
    (hxe : ∀ fr : Bool × List (List UInt8 × Int), fr.1 = false → (fnK q.funcs k q.funcs[k]).env = [fr] → ∀ m, (stS (ftK q.funcs k) x [fr] m).e = e ∧ (stS (ftK q.funcs k) x [fr] m).m = m) :
    (checkZ (q.setF k (q.funcs[k].more a c x))).1 = 3 ∨ (checkZ (q.setF k (q.funcs[k].more a c x))).1 = 0 ∧ namZ (q.setF k (q.funcs[k].more a c x)) = (e, (k : Int), (nuL q.funcs[k].body : Int) + 1) := by
  obtain ⟨hc, hr⟩ := nam_right h0
  rcases check_more hk a c x hc hx with h | h
  · refine Or.inr ⟨h, ?_⟩
    obtain ⟨fr, h1, h2, h3⟩ := nam_more hk a c x h0 h
    have hm := fn_nu (ft := ftK q.funcs k) ((check_parts hc).2 q.funcs[k] (List.getElem_mem hk)) (hr k q.funcs[k] (List.getElem?_eq_getElem hk))
    have hm' : (fnK q.funcs k q.funcs[k]).m = nuL q.funcs[k].body := hm
    obtain ⟨e1, e2⟩ := hxe fr h1 h2 ((fnK q.funcs k q.funcs[k]).m + 1)
    rw [h3, e1, e2, if_pos he, hm']
  · exact Or.inl h
theorem knP_no {l : List Pa} {s : ByteArray} (h : knP l s = false) : ∀ x ∈ l, x.name.data.toList ≠ s.data.toList := fun x hx e => by
  have : knP l s = true := List.any_eq_true.2 ⟨x, hx, by rw [ByteArray.toList_eq, ByteArray.toList_eq, e]; exact beq_self_eq_true _⟩
  rw [h] at this; cases this
theorem knS_no {l : List St} {s : ByteArray} (h : knS l s = false) : ∀ x ∈ l, x.name.data.toList ≠ s.data.toList := fun x hx e => by
  have : knS l s = true := List.any_eq_true.2 ⟨x, hx, by rw [ByteArray.toList_eq, ByteArray.toList_eq, e]; exact beq_self_eq_true _⟩
  rw [h] at this; cases this
theorem head_name {f : Fu} (h : (chkF f).1 = 0) : nameZ f.name = true := by
  unfold chkF at h
  split at h
  · rename_i h0; exact absurd h h0
  · rename_i h0
    have h1 : headZ f = 0 := by simpa using h0
    unfold headZ at h1
    split at h1
    · exact absurd h1 (by decide)
    · rename_i h2; simpa using h2
/-- The four statements, and the error of each. -/
def xN (s : ByteArray) (g : Nat) : Nat → St
  | 0 => xBreak
  | 1 => xCall s
  | 2 => xAssign nob
  | _ => xReturn nob (some ⟨g, 0, none⟩) (.mk 1 0 ⟨#[]⟩ none 0 [])
def eN : Nat → Int
  | 0 => 32
  | _ => 8
theorem form_xN {s : ByteArray} (hs : nameZ s = true) (g : Nat) : ∀ (j : Nat) (n : Int), (chkT (xN s g j) 1 n).1 = 0
  | 0, n => form_break n
  | 1, n => form_call hs n
  | 2, n => form_assign nob_name n
  | _ + 3, n => form_return nob_name _ n
theorem ask_four {q : Pr} {k : Nat} (h0 : (namZ q).1 = 0) (hk : k < q.funcs.length) (a : Option Addr) (c g j : Nat) :
    (checkZ (q.setF k (q.funcs[k].more a c (xN q.funcs[k].name g j)))).1 = 3 ∨ (checkZ (q.setF k (q.funcs[k].more a c (xN q.funcs[k].name g j)))).1 = 0 ∧
      (namZ (q.setF k (q.funcs[k].more a c (xN q.funcs[k].name g j))) = (eN j, (k : Int), (nuL q.funcs[k].body : Int) + 1) ∨ (knP q.funcs[k].params nob || knS q.funcs[k].body nob) = true) := by
  obtain ⟨hc, hr⟩ := nam_right h0
  have hf := hr k q.funcs[k] (List.getElem?_eq_getElem hk)
  have hnm : nameZ q.funcs[k].name = true := head_name ((check_parts hc).2 _ (List.getElem_mem hk))
  have hunk : (knP q.funcs[k].params nob || knS q.funcs[k].body nob) = false → envAt (fnK q.funcs k q.funcs[k]).env nob.data.toList = 0 := fun h => by
    rw [Bool.or_eq_false_iff] at h
    exact fn_unk (ftK q.funcs k) q.funcs[k] nob.data.toList hf (knP_no h.1) (knS_no h.2)
  have out : ∀ {x : St} {e : Int}, ((checkZ (q.setF k (q.funcs[k].more a c x))).1 = 3 ∨ (checkZ (q.setF k (q.funcs[k].more a c x))).1 = 0 ∧ namZ (q.setF k (q.funcs[k].more a c x)) = (e, (k : Int), (nuL q.funcs[k].body : Int) + 1)) → (checkZ (q.setF k (q.funcs[k].more a c x))).1 = 3 ∨ (checkZ (q.setF k (q.funcs[k].more a c x))).1 = 0 ∧ (namZ (q.setF k (q.funcs[k].more a c x)) = (e, (k : Int), (nuL q.funcs[k].body : Int) + 1) ∨ (knP q.funcs[k].params nob || knS q.funcs[k].body nob) = true) := fun h => h.imp id fun h => ⟨h.1, Or.inl h.2⟩
  cases hkn : (knP q.funcs[k].params nob || knS q.funcs[k].body nob)
  · rw [hkn] at out
    have hu := hunk hkn
    match j with
    | 0 => exact out (ask_more h0 hk a c xBreak 32 (by decide) form_break fun fr h1 _ m => x_break _ h1 m)
    | 1 =>
      refine out (ask_more h0 hk a c (xCall _) 8 (by decide) (form_call ?_) fun fr _ _ m => ?_)
      · exact hnm
      · obtain ⟨e1, e2, _⟩ := x_call (ftK q.funcs k) [fr] m q.funcs[k].name
        refine ⟨?_, e2⟩
        rw [e1]
        unfold clZ
        rw [fn_own hf]
        rfl
    | 2 => exact out (ask_more h0 hk a c (xAssign nob) 8 (by decide) (form_assign nob_name) fun fr _ h2 m => x_assign _ [fr] m nob (by rw [← h2]; exact hu))
    | j + 3 => exact out (ask_more h0 hk a c (xReturn nob _ _) 8 (by decide) (form_return nob_name _) fun fr _ h2 m => x_return _ [fr] m nob _ _ (by rw [← h2]; exact hu))
  · exact (check_more hk a c _ hc (form_xN hnm g j)).elim (fun h => Or.inr ⟨h, Or.inr rfl⟩) Or.inl
end Go.Proofs.YtakaldbhaoidiaaDoor

/- The statements' own first question (layer 4): answers that the document fixes. -/
namespace Go.Proofs.YtakaldbhaoidiaaDoor
open Go.RowKit Go.Sort

theorem i4 : I64 4 := ⟨by decide, by decide⟩
theorem lcE_in (W : World) (s : ByteArray) (h : s.size ≤ 140737488351232) : (lcE s).In W := Ex.in_iff.2 ⟨i4, i0, h, Nat.le_refl _, n0, fun _ => rfl, rowIn_nil, (fun y hy => by cases hy)⟩
theorem lcS_in (W : World) (s : ByteArray) (h : s.size ≤ 140737488351232) : (lcS s).In W := St.in_iff.2 ⟨i10, n0, i0, lcE_in W s h, zEx_in W, have_nil W, have_nil W, ⟨Nat.le_refl _, n0, fun _ => rfl, rowIn_nil⟩, (fun y hy => by cases hy)⟩
set_option maxRecDepth 100000 in
set_option maxHeartbeats 4000000 in
theorem lcall_any (s : ByteArray) (w : World) : Calls Tryd.prog 8 #[.string s] w fun e w' => e = .returned (lcS s).val ∧ Below w.heap.size w w' := by
  have hb := (Below.refl _ w).alloc (Nat.le_refl _) (.cells #[.int .i64 10, .string ⟨#[]⟩, .int .i64 0, .int .i64 4, .int .i64 0, .string s, .slice none 0 0, .int .i64 0, .int .i64 0, .string ⟨#[]⟩, .slice none 0 0, .slice none 0 0, .slice none 0 0, .slice none 0 0] 43)
  go_enter Tryd.func8, Tryd.ntmps8
  go_wp2_with fail
  exact bodyPost_ret (v := (lcS s).val) (by simp [results, Tryd.results8, go_sem]; rfl) rfl ⟨rfl, hb⟩
theorem pF_in (W : World) : pF.In W := ⟨n1, Nat.le_refl _, n0, fun _ => rfl, rowIn_nil, (fun q hq => by cases hq), have_nil W⟩
theorem body_in {W : World} {G n : Nat} {l : List St} {arr : Array Value} {t : TypeId} (hg : W.heap[G]? = some (.cells arr t (0, 0))) (ha : arr.toList = (l.map St.cells).flatten) (hn : l.length ≤ n) (hn2 : n ≤ 1000) (hl : ∀ x ∈ l, x.In W) : Have W (some ⟨G, 0, none⟩) n l :=
  ⟨⟨hn, by omega, (fun e => by cases e), rowIn_block hg (.inl ha) (lenS l)⟩, hl⟩
theorem fn_in {W : World} {s : ByteArray} {a : Option Addr} {c : Nat} {l : List St} (hs : s.size ≤ 140737488351232) (h : Have W a c l) : Fu.In W ⟨s, none, 0, [], a, c, l⟩ := ⟨hs, Nat.le_refl _, n0, fun _ => rfl, rowIn_nil, (fun q hq => by cases hq), h⟩
theorem pr_in {W : World} {F n : Nat} {l : List Fu} {arr : Array Value} {t : TypeId} (hg : W.heap[F]? = some (.cells arr t (0, 0))) (ha : arr.toList = (l.map Fu.cells).flatten) (hn : l.length ≤ n) (hn2 : n ≤ 1000) (hl : ∀ x ∈ l, x.In W) : Pr.In W ⟨none, 0, [], some ⟨F, 0, none⟩, n, l⟩ :=
  ⟨Nat.le_refl _, n0, fun _ => rfl, rowIn_nil, (fun z hz => by cases hz), hn, by show n * 64 ≤ 140737488351232; omega, (fun e => by cases e), rowIn_block hg (.inl ha) (lenF l), hl⟩
theorem keep_h {W W' : World} {k : Nat} {o : Obj} (h : W.heap[k]? = some o) (hb : Below W.heap.size W W') : W'.heap[k]? = some o := (hb.block k (Array.getElem?_eq_some_iff.1 h).1).trans h
theorem awP_in {W : World} {G F : Nat} (h1 : W.heap[G]? = some (.cells ([lcS ⟨#[102]⟩, lcS ⟨#[102]⟩].map St.cells).flatten.toArray 43 (0, 0))) (h2 : W.heap[F]? = some (.cells ([pF, pG G].map Fu.cells).flatten.toArray 36 (0, 0))) : (awP G F).In W :=
  pr_in h2 rfl (Nat.le_refl _) (by decide) (fun x hx => by
    rcases List.mem_cons.1 hx with rfl | hx
    · exact pF_in W
    · rcases List.mem_singleton.1 hx with rfl
      exact fn_in n1 (body_in h1 rfl (Nat.le_refl _) (by decide) (fun x hx => by
        have : x = lcS ⟨#[102]⟩ := by simpa using hx
        subst this; exact lcS_in W _ n1)))
theorem awQ_in {W : World} {G F : Nat} (h1 : W.heap[G]? = some (.cells ([lcS ⟨#[102]⟩].map St.cells).flatten.toArray 43 (0, 0))) (h2 : W.heap[F]? = some (.cells ([qF G].map Fu.cells).flatten.toArray 36 (0, 0))) : (awQ G F).In W :=
  pr_in h2 rfl (Nat.le_refl _) (by decide) (fun x hx => by
    rcases List.mem_singleton.1 hx with rfl
    exact fn_in n1 (body_in h1 rfl (Nat.le_refl _) (by decide) (fun x hx => by
        have : x = lcS ⟨#[102]⟩ := by simpa using hx
        subst this; exact lcS_in W _ n1)))
set_option maxRecDepth 100000 in
set_option maxHeartbeats 4000000 in
theorem awake4_any (w : World) (ht : Tabs w) : Calls Tryd.prog 4 #[] w fun e w' => e = .returned (.bool true) ∧ Below w.heap.size w w' := by
  have HT := Hid.mk' ht
  have HL : Hid (∀ w', Calls Tryd.prog 8 #[.string ⟨#[102]⟩] w' fun e w'' => e = .returned (lcS ⟨#[102]⟩).val ∧ Below w'.heap.size w' w'') := fun w' => lcall_any _ w'
  clear ht
  unfold St.val lcS lcE zEx at HL
  simp only [St.kind, St.name, St.n, St.a, St.b, St.ba, St.bc, St.body, St.ea, St.ec, St.els, St.ca, St.cc, St.cases, Ex.kind, Ex.n, Ex.name, Ex.a, Ex.cap, Ex.args, List.length_nil] at HL
  go_enter Tryd.func4, Tryd.ntmps4
  go_wp2_with fail
  refine (HL.out _).mono ?_
  rintro e w1 ⟨rfl, hb1⟩
  go_wp2_with fail
  refine (HL.out _).mono ?_
  rintro e w2 ⟨rfl, hb2⟩
  go_wp2_with fail
  have hbw2 : Below w.heap.size w w2 := hb1.trans (hb2.mono hb1.size)
  have k1 := keep_heap (keep_heap (new_heap (W := w2) (.cells #[.int .i64 10, .string ⟨#[]⟩, .int .i64 0, .int .i64 4, .int .i64 0, .string ⟨#[102]⟩, .slice none 0 0, .int .i64 0, .int .i64 0, .string ⟨#[]⟩, .slice none 0 0, .slice none 0 0, .slice none 0 0, .slice none 0 0, .int .i64 10, .string ⟨#[]⟩, .int .i64 0, .int .i64 4, .int .i64 0, .string ⟨#[102]⟩, .slice none 0 0, .int .i64 0, .int .i64 0, .string ⟨#[]⟩, .slice none 0 0, .slice none 0 0, .slice none 0 0, .slice none 0 0] 43) rfl) (.cells #[.string ⟨#[102]⟩, .slice none 0 0, .slice none 0 0, .string ⟨#[103]⟩, .slice none 0 0, .slice (some ⟨w2.heap.size, 0, none⟩) 2 2] 36)) (.cells #[.slice none 0 0, .slice (some ⟨w2.heap.size + 1, 0, none⟩) 2 2] 25)
  have k2 := keep_heap (new_heap (W := w2.alloc (.cells #[.int .i64 10, .string ⟨#[]⟩, .int .i64 0, .int .i64 4, .int .i64 0, .string ⟨#[102]⟩, .slice none 0 0, .int .i64 0, .int .i64 0, .string ⟨#[]⟩, .slice none 0 0, .slice none 0 0, .slice none 0 0, .slice none 0 0, .int .i64 10, .string ⟨#[]⟩, .int .i64 0, .int .i64 4, .int .i64 0, .string ⟨#[102]⟩, .slice none 0 0, .int .i64 0, .int .i64 0, .string ⟨#[]⟩, .slice none 0 0, .slice none 0 0, .slice none 0 0, .slice none 0 0] 43)) (k := w2.heap.size + 1) (.cells #[.string ⟨#[102]⟩, .slice none 0 0, .slice none 0 0, .string ⟨#[103]⟩, .slice none 0 0, .slice (some ⟨w2.heap.size, 0, none⟩) 2 2] 36) (by simp)) (.cells #[.slice none 0 0, .slice (some ⟨w2.heap.size + 1, 0, none⟩) 2 2] 25)
  have k3 := new_heap (W := (w2.alloc (.cells #[.int .i64 10, .string ⟨#[]⟩, .int .i64 0, .int .i64 4, .int .i64 0, .string ⟨#[102]⟩, .slice none 0 0, .int .i64 0, .int .i64 0, .string ⟨#[]⟩, .slice none 0 0, .slice none 0 0, .slice none 0 0, .slice none 0 0, .int .i64 10, .string ⟨#[]⟩, .int .i64 0, .int .i64 4, .int .i64 0, .string ⟨#[102]⟩, .slice none 0 0, .int .i64 0, .int .i64 0, .string ⟨#[]⟩, .slice none 0 0, .slice none 0 0, .slice none 0 0, .slice none 0 0] 43)).alloc (.cells #[.string ⟨#[102]⟩, .slice none 0 0, .slice none 0 0, .string ⟨#[103]⟩, .slice none 0 0, .slice (some ⟨w2.heap.size, 0, none⟩) 2 2] 36)) (k := w2.heap.size + 1 + 1) (.cells #[.slice none 0 0, .slice (some ⟨w2.heap.size + 1, 0, none⟩) 2 2] 25) (by simp)
  have hb3 := ((hbw2.alloc hbw2.size (.cells #[.int .i64 10, .string ⟨#[]⟩, .int .i64 0, .int .i64 4, .int .i64 0, .string ⟨#[102]⟩, .slice none 0 0, .int .i64 0, .int .i64 0, .string ⟨#[]⟩, .slice none 0 0, .slice none 0 0, .slice none 0 0, .slice none 0 0, .int .i64 10, .string ⟨#[]⟩, .int .i64 0, .int .i64 4, .int .i64 0, .string ⟨#[102]⟩, .slice none 0 0, .int .i64 0, .int .i64 0, .string ⟨#[]⟩, .slice none 0 0, .slice none 0 0, .slice none 0 0, .slice none 0 0] 43)).alloc (by have := hbw2.size; simp; omega) (.cells #[.string ⟨#[102]⟩, .slice none 0 0, .slice none 0 0, .string ⟨#[103]⟩, .slice none 0 0, .slice (some ⟨w2.heap.size, 0, none⟩) 2 2] 36)).alloc (by have := hbw2.size; simp; omega) (.cells #[.slice none 0 0, .slice (some ⟨w2.heap.size + 1, 0, none⟩) 2 2] 25)
  generalize ((w2.alloc (.cells #[.int .i64 10, .string ⟨#[]⟩, .int .i64 0, .int .i64 4, .int .i64 0, .string ⟨#[102]⟩, .slice none 0 0, .int .i64 0, .int .i64 0, .string ⟨#[]⟩, .slice none 0 0, .slice none 0 0, .slice none 0 0, .slice none 0 0, .int .i64 10, .string ⟨#[]⟩, .int .i64 0, .int .i64 4, .int .i64 0, .string ⟨#[102]⟩, .slice none 0 0, .int .i64 0, .int .i64 0, .string ⟨#[]⟩, .slice none 0 0, .slice none 0 0, .slice none 0 0, .slice none 0 0] 43)).alloc (.cells #[.string ⟨#[102]⟩, .slice none 0 0, .slice none 0 0, .string ⟨#[103]⟩, .slice none 0 0, .slice (some ⟨w2.heap.size, 0, none⟩) 2 2] 36)).alloc (.cells #[.slice none 0 0, .slice (some ⟨w2.heap.size + 1, 0, none⟩) 2 2] 25) = W3 at *
  have K1 := Hid.mk' k1
  have K2 := Hid.mk' k2
  have K3 := Hid.mk' k3
  have HB3 := Hid.mk' hb3
  clear k1 k2 k3 hb1 hb2 hbw2 hb3
  generalize w2.heap.size + 1 + 1 = P at *
  generalize w2.heap.size + 1 = F at *
  generalize w2.heap.size = G at *
  refine (HL.out _).mono ?_
  rintro e w4 ⟨rfl, hb4⟩
  have k1 := keep_h K1.out hb4
  have k2 := keep_h K2.out hb4
  have k3 := keep_h K3.out hb4
  have hbw4 : Below w.heap.size w w4 := HB3.out.trans (hb4.mono HB3.out.size)
  have k4 := keep_heap (keep_heap (new_heap (W := w4) (.cells #[.int .i64 10, .string ⟨#[]⟩, .int .i64 0, .int .i64 4, .int .i64 0, .string ⟨#[102]⟩, .slice none 0 0, .int .i64 0, .int .i64 0, .string ⟨#[]⟩, .slice none 0 0, .slice none 0 0, .slice none 0 0, .slice none 0 0] 43) rfl) (.cells #[.string ⟨#[102]⟩, .slice none 0 0, .slice (some ⟨w4.heap.size, 0, none⟩) 1 1] 36)) (.cells #[.slice none 0 0, .slice (some ⟨w4.heap.size + 1, 0, none⟩) 1 1] 25)
  have k5 := keep_heap (new_heap (W := w4.alloc (.cells #[.int .i64 10, .string ⟨#[]⟩, .int .i64 0, .int .i64 4, .int .i64 0, .string ⟨#[102]⟩, .slice none 0 0, .int .i64 0, .int .i64 0, .string ⟨#[]⟩, .slice none 0 0, .slice none 0 0, .slice none 0 0, .slice none 0 0] 43)) (k := w4.heap.size + 1) (.cells #[.string ⟨#[102]⟩, .slice none 0 0, .slice (some ⟨w4.heap.size, 0, none⟩) 1 1] 36) (by simp)) (.cells #[.slice none 0 0, .slice (some ⟨w4.heap.size + 1, 0, none⟩) 1 1] 25)
  have k6 := new_heap (W := (w4.alloc (.cells #[.int .i64 10, .string ⟨#[]⟩, .int .i64 0, .int .i64 4, .int .i64 0, .string ⟨#[102]⟩, .slice none 0 0, .int .i64 0, .int .i64 0, .string ⟨#[]⟩, .slice none 0 0, .slice none 0 0, .slice none 0 0, .slice none 0 0] 43)).alloc (.cells #[.string ⟨#[102]⟩, .slice none 0 0, .slice (some ⟨w4.heap.size, 0, none⟩) 1 1] 36)) (k := w4.heap.size + 1 + 1) (.cells #[.slice none 0 0, .slice (some ⟨w4.heap.size + 1, 0, none⟩) 1 1] 25) (by simp)
  have hb5 := (((Below.refl _ w4).alloc (Nat.le_refl _) (.cells #[.int .i64 10, .string ⟨#[]⟩, .int .i64 0, .int .i64 4, .int .i64 0, .string ⟨#[102]⟩, .slice none 0 0, .int .i64 0, .int .i64 0, .string ⟨#[]⟩, .slice none 0 0, .slice none 0 0, .slice none 0 0, .slice none 0 0] 43)).alloc (by simp) (.cells #[.string ⟨#[102]⟩, .slice none 0 0, .slice (some ⟨w4.heap.size, 0, none⟩) 1 1] 36)).alloc (by simp; omega) (.cells #[.slice none 0 0, .slice (some ⟨w4.heap.size + 1, 0, none⟩) 1 1] 25)
  have k1 := keep_h k1 hb5
  have k2 := keep_h k2 hb5
  have k3 := keep_h k3 hb5
  have hb6 := hbw4.trans (hb5.mono hbw4.size)
  have KK := Hid.mk' (And.intro k1 (And.intro k2 (And.intro k3 (And.intro k4 (And.intro k5 (And.intro k6 hb6))))))
  clear k1 k2 k3 k4 k5 k6 hb4 hb5 hb6 hbw4 K1 K2 K3 HB3
  go_upto_region 3 with fail
  generalize ((w4.alloc (.cells #[.int .i64 10, .string ⟨#[]⟩, .int .i64 0, .int .i64 4, .int .i64 0, .string ⟨#[102]⟩, .slice none 0 0, .int .i64 0, .int .i64 0, .string ⟨#[]⟩, .slice none 0 0, .slice none 0 0, .slice none 0 0, .slice none 0 0] 43)).alloc (.cells #[.string ⟨#[102]⟩, .slice none 0 0, .slice (some ⟨w4.heap.size, 0, none⟩) 1 1] 36)).alloc (.cells #[.slice none 0 0, .slice (some ⟨w4.heap.size + 1, 0, none⟩) 1 1] 25) = W5 at *
  generalize w4.heap.size + 1 + 1 = P2 at *
  generalize w4.heap.size + 1 = F2 at *
  generalize w4.heap.size = G2 at *
  obtain ⟨k1, k2, k3, k4, k5, k6, hb6⟩ := KK.out
  have HP : Hid ((awP G F).In W5) := awP_in k1 k2
  have HQ : Hid ((awQ G2 F2).In W5) := awQ_in k4 k5
  have c0 : W5.cell? ⟨P, 0, none⟩ = some (.slice none 0 0) := by rw [Lib.cell_of_heap k3]; rfl
  have c1 : W5.cell? ⟨P, 1, none⟩ = some (.slice (some ⟨F, 0, none⟩) 2 2) := by rw [Lib.cell_of_heap k3]; rfl
  have C : Hid (∀ w', Below W5.heap.size W5 w' → w'.cell? ⟨P, 0, none⟩ = some (.slice none 0 0) ∧ w'.cell? ⟨P, 1, none⟩ = some (.slice (some ⟨F, 0, none⟩) 2 2) ∧ w'.cell? ⟨P2, 0, none⟩ = some (.slice none 0 0) ∧ w'.cell? ⟨P2, 1, none⟩ = some (.slice (some ⟨F2, 0, none⟩) 1 1)) := fun w' hb =>
    ⟨by rw [Lib.cell_of_heap (keep_h k3 hb)]; rfl, by rw [Lib.cell_of_heap (keep_h k3 hb)]; rfl, by rw [Lib.cell_of_heap (keep_h k6 hb)]; rfl, by rw [Lib.cell_of_heap (keep_h k6 hb)]; rfl⟩
  have HCL : Hid (Calls Tryd.prog 11 #[.agg #[.slice none 0 0, .slice (some ⟨F, 0, none⟩) 2 2], .int .i64 1] W5 fun e w' => (∃ v, e = .returned v ∧ w'.ownsRow W5.heap.size 3 1 v 1 [.int .i64 0]) ∧ Below W5.heap.size W5 w') := by
    have := ncalls_any (awP G F) 1 W5 HP.out (HT.out.stay hb6)
    rw [aw_cl] at this; exact this
  have HC1 : Hid (∀ w', Below W5.heap.size W5 w' → Calls Tryd.prog 5 #[.agg #[.slice none 0 0, .slice (some ⟨F, 0, none⟩) 2 2]] w' fun e w'' => e = .returned (fltV 0 0 0) ∧ Below w'.heap.size w' w'') := fun w' hb => by
    have := ncheck_any (awP G F) w' (HP.out.stay hb) (HT.out.stay (hb6.trans (hb.mono hb6.size)))
    rw [aw_np] at this; exact this
  have HC2 : Hid (∀ w', Below W5.heap.size W5 w' → Calls Tryd.prog 5 #[.agg #[.slice none 0 0, .slice (some ⟨F2, 0, none⟩) 1 1]] w' fun e w'' => e = .returned (fltV 8 0 1) ∧ Below w'.heap.size w' w'') := fun w' hb => by
    have := ncheck_any (awQ G2 F2) w' (HQ.out.stay hb) (HT.out.stay (hb6.trans (hb.mono hb6.size)))
    rw [aw_nq] at this; exact this
  have HB6 := Hid.mk' hb6
  clear k1 k2 k3 k4 k5 k6 hb6 KK HP HQ HL
  go_wp2_with fail
  refine HCL.out.mono ?_
  rintro e w6 ⟨⟨v, rfl, ho⟩, hb7⟩
  obtain ⟨va, vc, rfl⟩ := own_form (xs := [.int .i64 0]) ho
  clear HCL c0 c1
  obtain ⟨c0, c1, _, _⟩ := C.out _ hb7
  have hq := equalIn_flt
  have hg := eqGuard_flt
  unfold fltV at hq HC1 HC2
  go_wp2_with fail
  refine (HC1.out _ hb7).mono ?_
  rintro e w7 ⟨rfl, hb8⟩
  have hb8' := hb7.trans (hb8.mono hb7.size)
  clear c0 c1 HC1
  obtain ⟨_, _, c2, c3⟩ := C.out _ hb8'
  go_wp2_with fail
  refine (HC2.out _ hb8').mono ?_
  rintro e w8 ⟨rfl, hb9⟩
  have hb9' := hb8'.trans (hb9.mono hb8'.size)
  have hof : w8.ownsRow W5.heap.size 3 1 (.slice va 1 vc) 1 [.int .i64 0] := own_keep ho (fun g hg => ((hb8.block g (own_lt ho g hg).2).symm ▸ hb9.block g (Nat.lt_of_lt_of_le (own_lt ho g hg).2 hb8.size)))
  clear c2 c3 HC2
  rcases hof.2 with ⟨e0, _⟩ | ⟨g, cap, cur, e0, hg1, hg2, hg3, hg4, hg5, hg6⟩
  · cases e0
  cases e0
  have d0 : w8.cell? ⟨g, 0, none⟩ = some (.int .i64 0) := by
    have := hof.cellAt 0 (by decide)
    simpa using this
  have HB9 : Hid (Below w.heap.size w w8) := HB6.out.trans (hb9'.mono HB6.out.size)
  clear hof hg1 hg2 hg3 hg4 hg5 hg6 ho
  go_wp2_with fail
  go_ret
  exact ⟨rfl, HB9.out⟩
end Go.Proofs.YtakaldbhaoidiaaDoor

/- What lies where once a body has one statement more. -/
namespace Go.Proofs.YtakaldbhaoidiaaDoor
open Go.RowKit Go.Sort

theorem i64_small {n : Int} (h0 : 0 ≤ n) (h1 : n ≤ 100) : I64 n := ⟨by omega, by omega⟩
/-- The four statements lie as they should. -/
theorem xN_in {W : World} {s : ByteArray} {g : Nat} (hs : s.size ≤ 140737488351232) (hA : W.heap[g]? = some (.cells #[.int .i64 1, .int .i64 0, .string ⟨#[]⟩, .slice none 0 0] 40 (0, 0))) : ∀ j, (xN s g j).In W := by
  have hnob : nob.size ≤ 140737488351232 := by decide
  have hexp : ∀ (k : Int) (nm : ByteArray), I64 k → nm.size ≤ 140737488351232 → (Ex.mk k 0 nm none 0 []).In W := fun k nm hk hn => Ex.in_iff.2 ⟨hk, i64_small (n := 0) (by omega) (by omega), hn, Nat.le_refl _, by show 0 * 56 ≤ _; omega, fun _ => rfl, rowIn_nil, fun y hy => by cases hy⟩
  have hst : ∀ (k : Int) (nm : ByteArray) (a : Ex), I64 k → nm.size ≤ 140737488351232 → a.In W → (St.mk k nm 0 a zEx none 0 [] none 0 [] none 0 []).In W := fun k nm a hk hn ha => St.in_iff.2 ⟨hk, hn, i64_small (n := 0) (by omega) (by omega), ha, zEx_in W, have_nil W, have_nil W, ⟨Nat.le_refl _, by show 0 * 32 ≤ _; omega, fun _ => rfl, rowIn_nil⟩, fun y hy => by cases hy⟩
  intro j
  match j with
  | 0 => exact hst 8 ⟨#[]⟩ zEx (i64_small (by omega) (by omega)) (by decide) (zEx_in W)
  | 1 => exact hst 10 ⟨#[]⟩ _ (i64_small (by omega) (by omega)) (by decide) (hexp 4 s (i64_small (by omega) (by omega)) hs)
  | 2 => exact hst 3 nob _ (i64_small (by omega) (by omega)) hnob (hexp 2 nob (i64_small (by omega) (by omega)) hnob)
  | j + 3 =>
    refine hst 9 ⟨#[]⟩ _ (i64_small (by omega) (by omega)) (by decide) (Ex.in_iff.2 ⟨i64_small (n := 3) (by omega) (by omega), i64_small (n := 0) (by omega) (by omega), hnob, Nat.le_refl _, by show 1 * 56 ≤ _; omega, fun h => (by cases h), ?_, fun y hy => ?_⟩)
    · intro i cs hi
      have h0 : i = 0 := by
        have := (List.getElem?_eq_some_iff.1 hi).1
        have e : (List.map Ex.cells (Ex.mk 3 0 nob (some ⟨g, 0, none⟩) 1 [Ex.mk 1 0 ⟨#[]⟩ none 0 []]).args).length = 1 := rfl
        omega
      subst h0
      have hc : cs = (Ex.mk 1 0 ⟨#[]⟩ none 0 []).cells := (Option.some.inj hi).symm
      subst hc
      refine ⟨g, 0, rfl, fun j v hv => ?_⟩
      rw [Lib.cell_of_heap hA]
      show (#[Value.int .i64 1, .int .i64 0, .string ⟨#[]⟩, .slice none 0 0])[0 + (0 * 4 + j)]? = some v
      rw [show 0 + (0 * 4 + j) = j by omega, ← hv, ← Array.getElem?_toList]
      rfl
    · have e : y = Ex.mk 1 0 ⟨#[]⟩ none 0 [] := by simpa [Ex.args] using hy
      subst e
      exact hexp 1 ⟨#[]⟩ (i64_small (by omega) (by omega)) (by decide)
/-- A row of the call's own, as a list of statements. -/
theorem own_lies {W : World} {N : Nat} {v : Value} {l : List St} (h : W.ownsRow N 43 14 v l.length (l.flatMap St.cells)) (h0 : 0 < l.length) (hb : l.length * 216 ≤ 140737488351232) : ∃ g cap, v = .slice (some ⟨g, 0, none⟩) l.length cap ∧ N ≤ g ∧ Lies W (some ⟨g, 0, none⟩) cap l := by
  rcases h.2 with ⟨_, e⟩ | ⟨g, cap, cur, rfl, h1, h2, h3, h4, h5, h6⟩
  · omega
  · refine ⟨g, cap, rfl, h1, h3, hb, fun e => (by cases e), ?_⟩
    refine rowIn_block h2 (Or.inr ⟨cur.toList.drop (l.length * 14), ?_⟩) (fun r hr => ?_)
    · rw [← List.flatMap_def, ← h6]
      exact (List.take_append_drop _ _).symm
    · obtain ⟨x, _, rfl⟩ := List.mem_map.1 hr; rfl
theorem step_append_own {P : Program} (w : World) {ops : Array Oper} {o : Oper} {a : Act} {K : Act → World → Prop} {Q : Exit → Act → World → Prop} {E : Prop} (hgd : o.guard = none) (s x : Operand) (t : TypeId)
    (ho : o.op = .call { callee := .builtin .append, args := #[s, x], argTypes := #[t, t] })
    (base : Nat) (e : TypeId) (i : TypeInfo) (z : Value) (size bytes : Nat) (ht : P.underlying t = some (.slice e)) (hi : P.info? e = some i) (hz : i.zero = some z)
    (hsize : i.size = size) (hby : i.bytes = bytes) (hzs : z.cells.size = size) (hsz : 0 < size)
    (v : Value) (n : Nat) (xs : List Value) (hs : a.eval s = v) (hown : w.ownsRow base e size v n xs)
    (ad : Addr) (m c : Nat) (news : List Value) (hx : a.eval x = .slice (some ad) m c) (hl : news.length = m * size) (hnews : ∀ j u, news[j]? = some u → w.cell? (ad.add j) = some u) (h1 : ∀ u ∈ news, u.oneCell' = true)
    (h63 : n + m ≤ maxLen) (hbytes : (n + m) * bytes ≤ 140737488355328) (hbase : base ≤ w.heap.size)
    (h : ∀ v' w', w'.ownsRow base e size v' (n + m) (xs ++ news) → w.grownBy w' v.ownBlock → K (a.put o.dst v') w') :
    if Region.wanted o (yielded ops a.tmps) = true then Oper.wp P o a w K Q else E := by
  have hw : Region.wanted o (yielded ops a.tmps) = true := by simp [Region.wanted, hgd]
  rw [if_pos hw]
  exact wp_append_own w s x t ho base e i z size bytes ht hi hz hsize hby hzs hsz v n xs hs hown ad m c news hx hl hnews h1 h63 hbytes hbase fun v' w' h2 h3 _ => h v' w' h2 h3


theorem sown_base {W : World} {N n sz : Nat} {T : TypeId} {v : Value} {xs : List Value} (h : W.ownsRow N T sz v n xs) : ∀ k, v.ownBlock = some k → N ≤ k := fun k hk => by
  rcases h.2 with ⟨rfl, _⟩ | ⟨g', cap, cur, rfl, h1, _⟩
  · simp [Value.ownBlock] at hk
  · simp [Value.ownBlock] at hk; omega
theorem sown_mono {W : World} {N M n sz : Nat} {T : TypeId} {v : Value} {xs : List Value} (h : W.ownsRow N T sz v n xs) (hM : M ≤ N) : W.ownsRow M T sz v n xs := by
  refine ⟨h.1, ?_⟩
  rcases h.2 with h0 | ⟨g', cap, cur, e, h1, h2⟩
  · exact .inl h0
  · exact .inr ⟨g', cap, cur, e, by omega, h2⟩
theorem len_nu : ∀ l : List St, l.length ≤ nuL l
  | [] => by simp
  | x :: r => by
    have := len_nu r
    have := nuS_eq x
    rw [nuL, List.length_cons]
    omega

def zSt : Value := .agg #[.int .i64 0, .string ⟨#[]⟩, .int .i64 0, .int .i64 0, .int .i64 0, .string ⟨#[]⟩, .slice none 0 0, .int .i64 0, .int .i64 0, .string ⟨#[]⟩, .slice none 0 0, .slice none 0 0, .slice none 0 0, .slice none 0 0]
theorem Tryd.infoStm : (Tryd.prog.info? 43).map (fun i => (i.zero, i.size, i.bytes)) = some (some zSt, 14, 216) := by kernel_rfl
end Go.Proofs.YtakaldbhaoidiaaDoor

/- What lies where, at each of the four statements; once a body has one more. -/
namespace Go.Proofs.YtakaldbhaoidiaaDoor
open Go.RowKit Go.Sort

theorem Hid.mk2 {p : Prop} (h : p) : Hid p := h
theorem field0_flt (w : World) (a b c : Int) : (Instr.field 29 (.agg #[.int .i64 a, .int .i64 b, .int .i64 c]) 0).run Tryd.prog w = .ok (.int .i64 a) w := by kernel_rfl
/-- A function's three cells in the copy. -/
theorem cp_cells {W : World} {q : Pr} {k : Nat} (hc : q.Cp W) (hk : k < q.funcs.length) : ∃ gF, q.fa = some ⟨gF, 0, none⟩ ∧ q.fc = q.funcs.length + 1 ∧ gF ∈ q.bl ∧ W.heap[gF]? = some (.cells ⟨q.funcs.flatMap Fu.cells ++ senF⟩ 36 (0, 0)) ∧
    W.cell? ⟨gF, k * 3, none⟩ = some (.string q.funcs[k].name) ∧ W.cell? ⟨gF, k * 3 + 2, none⟩ = some (.slice q.funcs[k].ba q.funcs[k].body.length q.funcs[k].bc) ∧ W.frozen? ⟨gF, k * 3 + 2, none⟩ = false := by
  obtain ⟨_, _, ⟨gF, h1, h2, _, h3⟩, _⟩ := hc
  have hl : (q.funcs.flatMap Fu.cells).length = q.funcs.length * 3 := flat_len (f := Fu.cells) (k := 3) (fun x => rfl) q.funcs
  have at_ : ∀ j v, j < 3 → q.funcs[k].cells[j]? = some v → W.cell? ⟨gF, k * 3 + j, none⟩ = some v := fun j v hj hv => by
    rw [Lib.cell_of_heap h3]
    show (q.funcs.flatMap Fu.cells ++ senF).toArray[k * 3 + j]? = _
    rw [List.getElem?_toArray, List.getElem?_append_left (by omega)]
    exact flat_at 3 (q.funcs.map Fu.cells) (lenF _) k j q.funcs[k].cells v (by simp [hk]) hv
  exact ⟨gF, h1, h2, by unfold Pr.bl; rw [h1]; show gF ∈ _ :: gF :: _; simp, h3, at_ 0 _ (by omega) rfl, at_ 2 _ (by omega) rfl, Lib.frozen_of_heap h3 _⟩
theorem news_at {W : World} {g : Nat} {news rest : List Value} {T : TypeId} {fz : Nat × Nat} (h : W.heap[g]? = some (.cells ⟨news ++ rest⟩ T fz)) : ∀ j u, news[j]? = some u → W.cell? ((⟨g, 0, none⟩ : Addr).add j) = some u := fun j u hu => by
  rw [show (⟨g, 0, none⟩ : Addr).add j = ⟨g, j, none⟩ by simp [Addr.add]; exact Eq.symm, Lib.cell_of_heap h]
  show (news ++ rest).toArray[j]? = _
  rw [List.getElem?_toArray, List.getElem?_append_left (List.getElem?_eq_some_iff.1 hu).1, hu]
theorem news_all {W : World} {g : Nat} {news : List Value} {T : TypeId} {fz : Nat × Nat} (h : W.heap[g]? = some (.cells ⟨news⟩ T fz)) : ∀ j u, news[j]? = some u → W.cell? ((⟨g, 0, none⟩ : Addr).add j) = some u := news_at (rest := []) (by rw [List.append_nil]; exact h)
theorem one_cells (l : List St) : ∀ u ∈ l.flatMap St.cells, u.oneCell' = true := fun u hu => by
  obtain ⟨x, _, hx⟩ := List.mem_flatMap.1 hu
  simp only [St.cells, List.mem_cons, List.not_mem_nil, or_false] at hx
  rcases hx with rfl | rfl | rfl | rfl | rfl | rfl | rfl | rfl | rfl | rfl | rfl | rfl | rfl | rfl <;> rfl
theorem one_st (x : St) : ∀ u ∈ x.cells, u.oneCell' = true := fun u hu => one_cells [x] u (by simpa using hu)
theorem sown_form {W : World} {N n sz : Nat} {T : TypeId} {v : Value} {xs : List Value} (h : W.ownsRow N T sz v n xs) : ∃ ao cap, v = .slice ao n cap := by
  rcases h.2 with ⟨rfl, rfl⟩ | ⟨g', cap, cur, rfl, _⟩
  · exact ⟨_, _, rfl⟩
  · exact ⟨_, _, rfl⟩
theorem size_more {n : Nat} {W : World} (h : n ≤ W.heap.size) (o : Obj) : n ≤ (W.alloc o).heap.size := by simp; omega
theorem set_same {q : Pr} {k : Nat} (hk : k < q.funcs.length) : q.funcs.set k (q.funcs[k].with q.funcs[k].ba q.funcs[k].bc q.funcs[k].body) = q.funcs := List.set_getElem_self hk
/-- A statement of the list, and its error. -/
def xC (s : ByteArray) (g j : Nat) : List Value := (xN s g j).cells ++ [.int .i64 (eN j)]
def tC (s : ByteArray) (g : Nat) : List Value := xC s g 0 ++ xC s g 1 ++ xC s g 2 ++ xC s g 3
theorem xC_len (s : ByteArray) (g j : Nat) : (xC s g j).length = 15 := rfl
theorem tC_at (s : ByteArray) (g j r : Nat) (hj : j < 4) (hr : r < 15) : (tC s g)[j * 15 + r]? = (xC s g j)[r]? := by
  unfold tC
  match j, hj with
  | 0, _ => rw [List.append_assoc, List.append_assoc, List.getElem?_append_left (by rw [xC_len]; omega)]; simp
  | 1, _ => rw [List.append_assoc, List.append_assoc, List.getElem?_append_right (by rw [xC_len]; omega), List.getElem?_append_left (by rw [xC_len, xC_len]; omega), xC_len]; congr 1; omega
  | 2, _ => rw [List.append_assoc, List.getElem?_append_right (by rw [List.length_append, xC_len, xC_len]; omega), List.getElem?_append_left (by rw [xC_len, List.length_append, xC_len, xC_len]; omega), List.length_append, xC_len, xC_len]; congr 1; omega
  | 3, _ => rw [List.getElem?_append_right (by simp only [List.length_append, xC_len]; omega)]; simp only [List.length_append, xC_len]; congr 1; omega
/-- What lies where, at each of the four. -/
structure NB (w W6 : World) (q p : Pr) (nm : ByteArray) (k gF Y T gA : Nat) (W : World) : Prop where
  below : Below w.heap.size w W
  hT : W.heap[T]? = some (.cells ⟨tC nm gA⟩ 44 (0, 0))
  hA : W.heap[gA]? = some (.cells #[.int .i64 1, .int .i64 0, .string ⟨#[]⟩, .slice none 0 0] 40 (0, 0))
  hY : W.heap[Y]? = some (.cells #[.slice q.wa q.widen.length q.wc, .slice q.fa q.funcs.length q.fc] 25 (0, 0))
  hZ : W.heap[w.heap.size]? = some (.cells #[.slice p.wa p.widen.length p.wc, .slice p.fa p.funcs.length p.fc] 25 (0, 0))
  hK : ∀ b ∈ q.bl, b ≠ gF → W.heap[b]? = W6.heap[b]?
  hF : ∃ (a : Option Addr) (c n : Nat), W.heap[gF]? = some (.cells ⟨(q.funcs.flatMap Fu.cells ++ senF).set (k * 3 + 2) (.slice a n c)⟩ 36 (0, 0))
theorem NB.stay {w W6 W W' : World} {q p : Pr} {nm : ByteArray} {k gF Y T gA : Nat} (h : NB w W6 q p nm k gF Y T gA W) (hq : ∀ b ∈ q.bl, b < W.heap.size) (hb : Below W.heap.size W W') : NB w W6 q p nm k gF Y T gA W' := by
  obtain ⟨a, c, n, hF⟩ := h.hF
  exact ⟨Below.on h.below hb, keep_h h.hT hb, keep_h h.hA hb, keep_h h.hY hb, keep_h h.hZ hb, fun b hx hne => (hb.block b (hq b hx)).trans (h.hK b hx hne), a, c, n, keep_h hF hb⟩
/-- Once a body has one statement more: what lies where, and that the program lies as it should. -/
theorem NB.more {w W6 W1 w4 : World} {q p : Pr} {nm : ByteArray} {k gF Y T gA cv : Nat} {av : Option Addr} {x : St} (hN : NB w W6 q p nm k gF Y T gA W1) (hc : q.Cp W6) (hnd : q.bl.Nodup) (hk : k < q.funcs.length) (hfa : q.fa = some ⟨gF, 0, none⟩)
    (hbl : ∀ b ∈ q.bl, w.heap.size ≤ b ∧ b < Y) (hT : T ≠ gF) (hA : gA ≠ gF) (hwF : w.heap.size < gF) (hgF : gF ∈ q.bl) (hb : q.funcs[k].body.length ≤ 12288) (B4 : Below W1.heap.size W1 w4) (hx : ∀ W : World, W.heap[gA]? = W1.heap[gA]? → x.In W)
    (own4 : w4.ownsRow W1.heap.size 43 14 (.slice av (0 + q.funcs[k].body.length + 1) cv) (0 + q.funcs[k].body.length + 1) ([] ++ q.funcs[k].body.flatMap St.cells ++ x.cells)) :
    NB w W6 q p nm k gF Y T gA (w4.setCell ⟨gF, k * 3 + 2, none⟩ (.slice av (q.funcs[k].body.length + 1) cv)) ∧ (q.setF k (q.funcs[k].more av cv x)).In (w4.setCell ⟨gF, k * 3 + 2, none⟩ (.slice av (q.funcs[k].body.length + 1) cv)) := by
  have hY := (Array.getElem?_eq_some_iff.1 hN.hY).1
  have hF1 : gF < W1.heap.size := by have := (hbl gF hgF).2; omega
  have keep : ∀ b, b < W1.heap.size → b ≠ gF → (w4.setCell ⟨gF, k * 3 + 2, none⟩ (.slice av (q.funcs[k].body.length + 1) cv)).heap[b]? = W1.heap[b]? := fun b h1 h2 => (Below.heap_setCell _ _ _ _ h2).trans (B4.block b h1)
  have kq : ∀ b ∈ q.bl, b ≠ gF → (w4.setCell ⟨gF, k * 3 + 2, none⟩ (.slice av (q.funcs[k].body.length + 1) cv)).heap[b]? = W6.heap[b]? := fun b hx hne => (keep b (by have := (hbl b hx).2; omega) hne).trans (hN.hK b hx hne)
  obtain ⟨a, c, n, hF⟩ := hN.hF
  have hFn : (w4.setCell ⟨gF, k * 3 + 2, none⟩ (.slice av (q.funcs[k].body.length + 1) cv)).heap[gF]? = some (.cells ⟨(q.funcs.flatMap Fu.cells ++ senF).set (k * 3 + 2) (.slice av (q.funcs[k].body.length + 1) cv)⟩ 36 (0, 0)) := by
    rw [set_list ((B4.block gF hF1).trans hF), List.set_set]
  have hl : (q.funcs[k].body ++ [x]).length = q.funcs[k].body.length + 1 := by simp
  have own : w4.ownsRow W1.heap.size 43 14 (.slice av (q.funcs[k].body.length + 1) cv) (q.funcs[k].body ++ [x]).length ((q.funcs[k].body ++ [x]).flatMap St.cells) := by
    rw [hl]
    have e : (q.funcs[k].body ++ [x]).flatMap St.cells = [] ++ q.funcs[k].body.flatMap St.cells ++ x.cells := by simp
    rw [e]
    rw [Nat.zero_add] at own4
    exact own4
  obtain ⟨g, cap, hv, hg, hlies⟩ := own_lies own (by omega) (by omega)
  injection hv with e1 _ e3
  subst e1 e3
  have hne : g ≠ gF := by omega
  have hlies' : Lies (w4.setCell ⟨gF, k * 3 + 2, none⟩ (.slice (some ⟨g, 0, none⟩) (q.funcs[k].body.length + 1) cv)) (some ⟨g, 0, none⟩) cv (q.funcs[k].body ++ [x]) := by
    obtain ⟨l1, l2, l3, l4⟩ := hlies
    refine ⟨l1, l2, l3, fun i cs hi => ?_⟩
    obtain ⟨b, o, e, hc'⟩ := l4 i cs hi
    injection e with e
    refine ⟨b, o, by rw [e], fun j v hv => ?_⟩
    have hbb : b = g := by injection e with e _ _; exact e.symm
    rw [World.cell?_of_block (w := w4) (Below.heap_setCell _ _ _ _ (by show b ≠ gF; omega))]
    exact hc' j v hv
  have hfc := hc.2.2.2 q.funcs[k] (List.getElem_mem hk)
  have hbody : ∀ y ∈ q.funcs[k].body ++ [x], y.In (w4.setCell ⟨gF, k * 3 + 2, none⟩ (.slice (some ⟨g, 0, none⟩) (q.funcs[k].body.length + 1) cv)) := fun y hy => by
    rcases List.mem_append.1 hy with h | h
    · have hin : ∀ b ∈ y.bl, b ∈ q.funcs.flatMap Fu.bl := fun b hb' => List.mem_flatMap.2 ⟨q.funcs[k], List.getElem_mem hk, by
        have : b ∈ blS q.funcs[k].body := by rw [blS_map]; exact List.mem_flatMap.2 ⟨y, h, hb'⟩
        unfold Fu.bl
        simp [this]⟩
      have hnd' := hnd
      unfold Pr.bl at hnd'
      rw [hfa] at hnd'
      have h2 := (List.nodup_cons.1 (List.nodup_cons.1 hnd').2).1
      exact ((hfc.2.2.2.2 y h).kept fun b hb' => kq b (by unfold Pr.bl; exact List.mem_cons_of_mem _ (List.mem_cons_of_mem _ (hin b hb'))) (fun e => h2 (by have := hin b hb'; rw [e] at this; exact this))).in
    · rw [List.mem_singleton] at h
      subst h
      exact hx _ (keep gA ((Array.getElem?_eq_some_iff.1 hN.hA).1) hA)
  refine ⟨⟨?_, (keep T ((Array.getElem?_eq_some_iff.1 hN.hT).1) hT).trans hN.hT, (keep gA ((Array.getElem?_eq_some_iff.1 hN.hA).1) hA).trans hN.hA, (keep Y hY (by have := (hbl gF hgF).2; omega)).trans hN.hY, (keep w.heap.size ((Array.getElem?_eq_some_iff.1 hN.hZ).1) (by omega)).trans hN.hZ, kq, _, _, _, hFn⟩, ?_⟩
  · exact (hN.below.trans (B4.mono hN.below.size)).setCell (show w.heap.size ≤ gF by omega) _
  · have h := with_in hc hnd hk (a := some ⟨g, 0, none⟩) (c := cv) ⟨hlies', hbody⟩ hfa kq (by rw [← cells_with hk, hl]; exact hFn)
    exact h
end Go.Proofs.YtakaldbhaoidiaaDoor

/- Whether a name is known hangs on names alone. -/
namespace Go.Proofs.YtakaldbhaoidiaaDoor
open Go.RowKit Go.Sort

theorem knS_er (l : List St) (s : ByteArray) : knS (erS l) s = knS l s := by
  unfold knS
  rw [erS_map, List.any_map]
  congr 1
  funext x
  simp only [Function.comp, St.er_name]
theorem kn_er {p q : Pr} (h : q.er = p.er) {k : Nat} (hq : k < q.funcs.length) (hp : k < p.funcs.length) (s : ByteArray) : (knP q.funcs[k].params s || knS q.funcs[k].body s) = (knP p.funcs[k].params s || knS p.funcs[k].body s) := by
  have h1 : q.funcs.map Fu.er = p.funcs.map Fu.er := congrArg Pr.funcs h
  have h2 : q.funcs[k].er = p.funcs[k].er := by
    have := congrArg (fun l => l[k]?) h1
    simpa [hq, hp] using this
  have h3 : q.funcs[k].er.params = p.funcs[k].er.params := by rw [h2]
  replace h3 : q.funcs[k].params = p.funcs[k].params := h3
  have h4 : q.funcs[k].er.body = p.funcs[k].er.body := by rw [h2]
  replace h4 : erS q.funcs[k].body = erS p.funcs[k].body := h4
  rw [h3, ← knS_er q.funcs[k].body, h4, knS_er]
theorem fn_cells {W : World} {p : Pr} (hin : p.In W) {k : Nat} (hk : k < p.funcs.length) : ∃ b o, p.fa = some ⟨b, o, none⟩ ∧ W.cell? ⟨b, o + k * 3, none⟩ = some (.string p.funcs[k].name) ∧ W.cell? ⟨b, o + k * 3 + 1, none⟩ = some (.slice p.funcs[k].pa p.funcs[k].params.length p.funcs[k].pc) ∧ W.cell? ⟨b, o + k * 3 + 2, none⟩ = some (.slice p.funcs[k].ba p.funcs[k].body.length p.funcs[k].bc) := by
  obtain ⟨b, o, e, hc⟩ := hin.2.2.2.2.2.2.2.2.1 k p.funcs[k].cells (by simp [hk])
  refine ⟨b, o, e, ?_, ?_, ?_⟩
  · simpa using hc 0 _ rfl
  · have := hc 1 _ rfl
    rwa [← Nat.add_assoc] at this
  · have := hc 2 _ rfl
    rwa [← Nat.add_assoc] at this
theorem rown_cell {W : World} {N n sz : Nat} {T : TypeId} {v : Value} {xs : List Value} (h : W.ownsRow N T sz v n xs) {j : Nat} {u : Value} (hn : 0 < n) (hj : xs[j]? = some u) : ∃ g cap, v = .slice (some ⟨g, 0, none⟩) n cap ∧ W.cell? ⟨g, j, none⟩ = some u := by
  rcases h.2 with ⟨rfl, rfl⟩ | ⟨g', cap, cur, rfl, h1, h2, h3, h4, h5, h6⟩
  · omega
  · refine ⟨g', cap, rfl, ?_⟩
    rw [Lib.cell_of_heap h2, ← Array.getElem?_toList]
    rw [← h6, List.getElem?_take] at hj
    split at hj
    · exact hj
    · cases hj
theorem name_er {p q : Pr} (h : q.er = p.er) {k : Nat} (hq : k < q.funcs.length) (hp : k < p.funcs.length) : q.funcs[k].name = p.funcs[k].name := by
  have h1 : q.funcs.map Fu.er = p.funcs.map Fu.er := congrArg Pr.funcs h
  have h2 : q.funcs[k].er = p.funcs[k].er := by
    have := congrArg (fun l => l[k]?) h1
    simpa [hq, hp] using this
  have h3 : q.funcs[k].er.name = p.funcs[k].er.name := by rw [h2]
  exact h3
end Go.Proofs.YtakaldbhaoidiaaDoor

/- A list of the call's own stays. -/
namespace Go.Proofs.YtakaldbhaoidiaaDoor
open Go.RowKit Go.Sort

theorem own_stay {B : Nat} {e : TypeId} {k : Nat} {v : Value} {n : Nat} {xs : List Value} {w w' : World} (h : w.ownsRow B e k v n xs) (hb : Below w.heap.size w w') : w'.ownsRow B e k v n xs := by
  refine ⟨h.1, ?_⟩
  rcases h.2 with h1 | ⟨g, cap, cur, a, b, c, d⟩
  · exact .inl h1
  · exact .inr ⟨g, cap, cur, a, b, keep_h c hb, d⟩

end Go.Proofs.YtakaldbhaoidiaaDoor
