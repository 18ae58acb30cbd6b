/- How many lines statements have: the law's own count. -/
import Derived.Test.YtbpemackmadhgabDoorPart5
import Derived.Test.YtbpemackmadhgabDoorPart7
import Derived.Test.YtbpemackmadhgabDoorPart6
namespace Go.Proofs.YtbpemackmadhgabDoor
open Go.RowKit Go.Sort
attribute [local go_sem ↓] Go.wp_at_zero Go.wp_at_succ

mutual
theorem ctS_le : ∀ s : St, ctS s ≤ 4 * s.sz
  | .mk k nm n a b ba bc l ea ec e ca cc c => by
    rw [ctS, St.sz]
    have h1 := ctSs_le l
    have h2 := ctSs_le e
    have h3 := ctCs_le c
    have h4 : ∀ b : Prop, [Decidable b] → (if b then 1 else 0 : Nat) ≤ 1 := fun b _ => by split <;> omega
    split
    · have := h4 (0 < e.length); omega
    split
    · omega
    split
    · split <;> omega
    · omega
theorem ctSs_le : ∀ l : List St, ctSs l ≤ 4 * ssz l
  | [] => by rw [ctSs]; omega
  | s :: r => by rw [ctSs, ssz]; have := ctS_le s; have := ctSs_le r; omega
theorem ctC_le : ∀ c : Ca, ctC c ≤ 4 * c.sz
  | .mk n ba bc l => by rw [ctC, Ca.sz]; have := ctSs_le l; omega
theorem ctCs_le : ∀ l : List Ca, ctCs l ≤ 4 * csz l
  | [] => by rw [ctCs]; omega
  | c :: r => by rw [ctCs, csz]; have := ctC_le c; have := ctCs_le r; omega
end
theorem ctS_eq (s : St) : ctS s = 1 + (if s.kind = 5 then 1 + ctSs s.body + ctSs s.els + (if 0 < s.els.length then 1 else 0) else if s.kind = 7 then 1 + ctSs s.body else if s.kind = 6 then 1 + ctCs s.cases + (if 0 < s.els.length then 2 + ctSs s.els else 0) else 0) := by
  cases s; rw [ctS]; rfl
theorem ctC_eq (c : Ca) : ctC c = 2 + ctSs c.body := by cases c; rw [ctC]; rfl
theorem ctSs_take : ∀ (l : List St) (j : Nat) (h : j < l.length), ctSs (l.take (j + 1)) = ctSs (l.take j) + ctS l[j]
  | x :: r, 0, _ => by simp [ctSs]
  | x :: r, j + 1, h => by
    rw [List.take_succ_cons, ctSs, ctSs_take r j (by simpa using h), List.take_succ_cons, ctSs, List.getElem_cons_succ]; omega
theorem ctCs_take : ∀ (l : List Ca) (j : Nat) (h : j < l.length), ctCs (l.take (j + 1)) = ctCs (l.take j) + ctC l[j]
  | x :: r, 0, _ => by simp [ctCs]
  | x :: r, j + 1, h => by
    rw [List.take_succ_cons, ctCs, ctCs_take r j (by simpa using h), List.take_succ_cons, ctCs, List.getElem_cons_succ]; omega
theorem ssz_takeLe : ∀ (l : List St) (j : Nat), ssz (l.take j) ≤ ssz l
  | [], j => by simp
  | x :: r, 0 => by rw [List.take_zero, ssz]; omega
  | x :: r, j + 1 => by rw [List.take_succ_cons, ssz, ssz]; have := ssz_takeLe r j; omega
theorem csz_takeLe : ∀ (l : List Ca) (j : Nat), csz (l.take j) ≤ csz l
  | [], j => by simp
  | x :: r, 0 => by rw [List.take_zero, csz]; omega
  | x :: r, j + 1 => by rw [List.take_succ_cons, csz, csz]; have := csz_takeLe r j; omega

abbrev LnsOk (n : Nat) : Prop := ∀ (l : List St) (a : Option Addr) (c : Nat) (w : World), ssz l < n → Have w a c l → ssz l ≤ 1000000 → Calls Tryd.prog 17 #[.slice a l.length c] w fun e w' => e = .returned (.int .i64 (ctSs l)) ∧ Below w.heap.size w w'
set_option maxRecDepth 100000 in
set_option maxHeartbeats 8000000 in
theorem lines_step (n : Nat) (ih : LnsOk n) (l : List St) (a : Option Addr) (c : Nat) (w : World) (hk : ssz l ≤ n) (hin : Have w a c l) (hsz : ssz l ≤ 1000000) : Calls Tryd.prog 17 #[.slice a l.length c] w fun e w' => e = .returned (.int .i64 (ctSs l)) ∧ Below w.heap.size w w' := by
  have IH : Hid (LnsOk n) := ih
  have HK : Hid (ssz l ≤ n ∧ ssz l ≤ 1000000) := ⟨hk, hsz⟩
  obtain ⟨⟨hl1, hl2, hl3, hrow⟩, hsub⟩ := hin
  have HRW : Hid (RowIn w a 14 (l.map St.cells)) := hrow
  have HC : Hid (∀ x ∈ l, x.In w) := hsub
  have hct := ctSs_le l
  clear ih hk hrow hsub
  go_enter Tryd.func17, Tryd.ntmps17
  go_wp2_with fail
  go_loopw [3, 10] (fun t3 t10 wr => ∃ (j : Nat), j ≤ l.length ∧ t3 = .int .i64 (ctSs (l.take j) : Int) ∧ t10 = .int .i64 j ∧ Below w.heap.size w wr) (fun _ t10 _ => l.length - (intOf t10).toNat)
  case atStart => exact ⟨0, Nat.zero_le _, by simp [ctSs], rfl, Below.refl _ w⟩
  case round =>
    obtain ⟨j, hj, rfl, rfl, hb⟩ := hrel
    by_cases hlt : j < l.length
    · have hli : (j : Int) < (l.length : Int) := by omega
      obtain ⟨b, o, hba, hcell⟩ := rowS_at (HRW.out.below hb) hlt
      subst hba
      have c0 := hcell 0 _ rfl
      have c1 := hcell 1 _ rfl
      have c2 := hcell 2 _ rfl
      have c3 := hcell 3 _ rfl
      have c4 := hcell 4 _ rfl
      have c5 := hcell 5 _ rfl
      have c6 := hcell 6 _ rfl
      have c7 := hcell 7 _ rfl
      have c8 := hcell 8 _ rfl
      have c9 := hcell 9 _ rfl
      have c10 := hcell 10 _ rfl
      have c11 := hcell 11 _ rfl
      have c12 := hcell 12 _ rfl
      have c13 := hcell 13 _ rfl
      simp only [← Nat.add_assoc, Nat.add_zero] at c0 c1 c2 c3 c4 c5 c6 c7 c8 c9 c10 c11 c12 c13
      clear hcell
      have XC : Hid (∀ w', Below w.heap.size w w' → l[j].In w') := fun w' h => (HC.out l[j] (List.getElem_mem hlt)).stay h
      have hz1 := ssz_mem (List.getElem_mem hlt)
      have hz2 := ctSs_take l j hlt
      have hz3 := ctSs_le (l.take j)
      have hz4 := ssz_takeLe l j
      have hz5 := ctS_le l[j]
      have hks := HK.out
      have HZ : Hid (l[j].sz ≤ n ∧ l[j].sz ≤ 1000000) := ⟨by omega, by omega⟩
      have HT : Hid (ctSs (l.take (j + 1)) = ctSs (l.take j) + ctS l[j]) := hz2
      have hm0 : ctSs (l.take j) ≤ 4000000 := by omega
      have hm1 : ctS l[j] ≤ 4000000 := by omega
      clear hz1 hz2 hz3 hz4 hz5 hks
      generalize l[j] = s at *
      generalize ctSs (l.take j) = m at *
      have HB1 : Hid (∀ w', Below w.heap.size w w' → Calls Tryd.prog 17 #[.slice s.ba s.body.length s.bc] w' fun e w'' => e = .returned (.int .i64 (ctSs s.body)) ∧ Below w'.heap.size w' w'') := fun w' h =>
        IH.out _ _ _ w' (by have := HZ.out; have := s.sz_eq; omega) (St.in_iff.1 (XC.out w' h)).2.2.2.2.2.1 (by have := HZ.out; have := s.sz_eq; omega)
      have HB2 : Hid (∀ w', Below w.heap.size w w' → Calls Tryd.prog 17 #[.slice s.ea s.els.length s.ec] w' fun e w'' => e = .returned (.int .i64 (ctSs s.els)) ∧ Below w'.heap.size w' w'') := fun w' h =>
        IH.out _ _ _ w' (by have := HZ.out; have := s.sz_eq; omega) (St.in_iff.1 (XC.out w' h)).2.2.2.2.2.2.1 (by have := HZ.out; have := s.sz_eq; omega)
      obtain ⟨W1, hW1⟩ : ∃ W1, wr.alloc (.cells #[.int .i64 s.kind, .string s.name, .int .i64 s.n, .int .i64 s.a.kind, .int .i64 s.a.n, .string s.a.name, .slice s.a.a s.a.args.length s.a.cap, .int .i64 s.b.kind, .int .i64 s.b.n, .string s.b.name, .slice s.b.a s.b.args.length s.b.cap, .slice s.ba s.body.length s.bc, .slice s.ea s.els.length s.ec, .slice s.ca s.cases.length s.cc] 53) = W1 := ⟨_, rfl⟩
      have hb1 : Below wr.heap.size wr W1 := by rw [← hW1]; exact (Below.refl _ _).alloc (Nat.le_refl _) _
      have hbk : W1.heap[wr.heap.size]? = some (.cells (⟨s.cells⟩ : Array Value) 53 (0, 0)) := by rw [← hW1]; exact heap_alloc_new wr _
      obtain ⟨X, hX⟩ : ∃ X, wr.heap.size = X := ⟨_, rfl⟩
      have CX : Hid (∀ w', Below W1.heap.size W1 w' → ∀ (i : Nat) v, s.cells[i]? = some v → w'.cell? ⟨X, i, none⟩ = some v) := fun w' h i v e => seen (by rw [← hX, Lib.cell_of_heap hbk]; simpa using e) w' h
      have BW1 : Hid (Below w.heap.size w W1) := Below.on hb hb1
      have HW1 := show Hid _ from hW1
      have HX := show Hid _ from hX
      have HCT := show Hid _ from ctS_eq s
      have hlb : ctSs s.body ≤ 4000000 := by have := ctSs_le s.body; have := HZ.out; have := s.sz_eq; omega
      have hle : ctSs s.els ≤ 4000000 := by have := ctSs_le s.els; have := HZ.out; have := s.sz_eq; omega
      clear hW1 hb1 hbk hX
      have z11 : ∀ w', Below W1.heap.size W1 w' → w'.cell? ⟨X, 11, none⟩ = some (.slice s.ba s.body.length s.bc) := fun w' h => CX.out w' h 11 _ rfl
      have z12 : ∀ w', Below W1.heap.size W1 w' → w'.cell? ⟨X, 12, none⟩ = some (.slice s.ea s.els.length s.ec) := fun w' h => CX.out w' h 12 _ rfl
      by_cases k5 : s.kind = 5
      · rw [k5] at HW1
        go_wp2_with fail
        rw [HW1.out, HX.out]
        clear HW1 c0 c1 c2 c3 c4 c5 c6 c7 c8 c9 c10 c11 c12 c13
        go_region_held3 (fun w' => Below W1.heap.size W1 w') (first | exact Below.drew (Below.refl _ _) | exact Below.on (by assumption) (by assumption) | exact Below.one (by assumption) _)
          (first
            | (go_at_call 17; with_reducible refine (HB1.out _ (Below.on BW1.out (by assumption))).mono ?_; rintro e w' ⟨rfl, hb⟩)
            | (go_at_call 17; with_reducible refine (HB2.out _ (Below.on BW1.out (by assumption))).mono ?_; rintro e w' ⟨rfl, hb⟩))
        by_cases he : 0 < s.els.length
        · have he' : (0 : Int) < (s.els.length : Int) := by omega
          all_goals go_wp2_with fail
          all_goals go_roundw
          case rel => exact ⟨j + 1, by omega, (by have h1 := HT.out; have h2 := HCT.out; rw [if_pos k5, if_pos he] at h2; exact congrArg (Value.int .i64) (by omega)), by go_num, Below.on BW1.out (by assumption)⟩
          case measure => simp [intOf]; omega
        · have he' : ¬ (0 : Int) < (s.els.length : Int) := by omega
          have hz0 : ctSs s.els = 0 := by
            have : s.els = [] := List.eq_nil_of_length_eq_zero (by omega)
            rw [this, ctSs]
          have hz1 : ctSs [] = 0 := by rw [ctSs]
          have HZ0 := show Hid _ from hz0
          clear hz0
          all_goals go_wp2_with fail
          all_goals go_roundw
          case rel => exact ⟨j + 1, by omega, (by have h1 := HT.out; have h2 := HCT.out; rw [if_pos k5, if_neg he] at h2; have h3 := HZ0.out; rw [IntWalk.i64_in (1 + (ctSs s.body : Int)) (by omega), IntWalk.i64_in (1 + (ctSs s.body : Int) + (ctSs s.els : Int)) (by omega), IntWalk.i64_in ((m : Int) + 1 + (1 + (ctSs s.body : Int) + (ctSs s.els : Int))) (by omega)]; exact congrArg (Value.int .i64) (by omega)), by go_num, Below.on BW1.out (by assumption)⟩
          case measure => simp [intOf]; omega
      by_cases k7 : s.kind = 7
      · rw [k7] at HW1
        go_wp2_with fail
        rw [HW1.out, HX.out]
        clear HW1 c0 c1 c2 c3 c4 c5 c6 c7 c8 c9 c10 c11 c12 c13
        refine (HB1.out _ BW1.out).mono ?_
        rintro e w2 ⟨rfl, hb2⟩
        go_wp2_with fail
        go_roundw
        case rel => exact ⟨j + 1, by omega, (by have h1 := HT.out; have h2 := HCT.out; rw [if_neg k5, if_pos k7] at h2; exact congrArg (Value.int .i64) (by omega)), by go_num, Below.on BW1.out hb2⟩
        case measure => simp [intOf]; omega
      by_cases k6 : s.kind = 6
      · rw [k6] at HW1
        obtain ⟨hcl1, hcl2, _, hcrow⟩ := (St.in_iff.1 (XC.out w (Below.refl _ _))).2.2.2.2.2.2.2.1
        have HCR : Hid (RowIn w s.ca 2 (s.cases.map Ca.cells)) := hcrow
        clear hcrow
        go_wp2_with fail
        rw [HW1.out, HX.out]
        clear HW1 c0 c1 c2 c3 c4 c5 c6 c7 c8 c9 c10 c11 c12 c13 z11
        go_loopw [3, 51] (fun t3 t51 wq => ∃ (i : Nat), i ≤ s.cases.length ∧ t3 = .int .i64 ((m : Int) + 2 + (ctCs (s.cases.take i) : Int)) ∧ t51 = .int .i64 i ∧ Below W1.heap.size W1 wq) (fun _ t51 _ => s.cases.length - (intOf t51).toNat)
        case atStart => exact ⟨0, Nat.zero_le _, by simp [ctCs]; omega, rfl, Below.refl _ _⟩
        case round =>
          clear hb
          obtain ⟨i, hi, rfl, rfl, hb⟩ := hrel
          have hbw := Below.on BW1.out hb
          by_cases hilt : i < s.cases.length
          · have hili : (i : Int) < (s.cases.length : Int) := by omega
            obtain ⟨rb, ro, hca, hcell⟩ := rowC_cells (HCR.out.below hbw) hilt
            have d0 := hcell 0 _ rfl
            have d1 := hcell 1 _ rfl
            simp only [← Nat.add_assoc, Nat.add_zero] at d0 d1
            have HCA := show Hid _ from hca
            have hy1 := csz_mem (List.getElem_mem hilt)
            have hy2 := s.cases[i].sz_eq
            have hy3 := s.sz_eq
            have hy4 := ctCs_le (s.cases.take i)
            have hy5 := csz_takeLe s.cases i
            have hy6 := ctSs_le s.cases[i].body
            have hzz := HZ.out
            have YT : Hid (ctCs (s.cases.take (i + 1)) = ctCs (s.cases.take i) + (2 + ctSs s.cases[i].body)) := by rw [← ctC_eq]; exact ctCs_take s.cases i hilt
            have YI : Hid (∀ w', Below w.heap.size w w' → Have w' s.cases[i].ba s.cases[i].bc s.cases[i].body) := fun w' h => (Ca.in_iff.1 ((St.in_iff.1 (XC.out w' h)).2.2.2.2.2.2.2.2 _ (List.getElem_mem hilt))).2
            have HY : Hid (∀ w', Below w.heap.size w w' → Calls Tryd.prog 17 #[.slice s.cases[i].ba s.cases[i].body.length s.cases[i].bc] w' fun e w'' => e = .returned (.int .i64 (ctSs s.cases[i].body)) ∧ Below w'.heap.size w' w'') := fun w' h =>
              IH.out _ _ _ w' (by omega) (YI.out w' h) (by omega)
            have hq1 : ctCs (s.cases.take i) ≤ 4000000 := by omega
            have hq2 : ctSs s.cases[i].body ≤ 4000000 := by omega
            have z13 : wr.cell? ⟨X, 13, none⟩ = some (.slice (some ⟨rb, ro, none⟩) s.cases.length s.cc) := by rw [CX.out wr hb 13 _ rfl, hca]
            clear hy1 hy2 hy3 hy4 hy5 hy6 hzz hcell hca YI
            generalize s.cases[i] = y at *
            generalize ctCs (s.cases.take i) = t at *
            rw [HCA.out]
            go_wp2_with fail
            refine (HY.out _ (Below.one hbw _)).mono ?_
            rintro e w6 ⟨rfl, hb6⟩
            go_wp2_with fail
            go_roundw
            case rel => exact ⟨i + 1, by omega, (by have h1 := YT.out; exact congrArg (Value.int .i64) (by omega)), by go_num, Below.on (Below.one hb _) hb6⟩
            case measure => simp [intOf]; omega
          · obtain rfl : i = s.cases.length := by omega
            rw [List.take_length]
            have z12' := z12 _ hb
            have hq1 : ctCs s.cases ≤ 4000000 := by have := ctCs_le s.cases; have := s.sz_eq; have := HZ.out; omega
            by_cases he : 0 < s.els.length
            · have he' : (0 : Int) < (s.els.length : Int) := by omega
              go_wp2_with fail
              refine (HB2.out _ hbw).mono ?_
              rintro e w6 ⟨rfl, hb6⟩
              go_wp2_with fail
              go_roundw
              case rel => exact ⟨j + 1, by omega, (by have h1 := HT.out; have h2 := HCT.out; rw [if_neg k5, if_neg k7, if_pos k6, if_pos he] at h2; exact congrArg (Value.int .i64) (by omega)), by go_num, Below.on hbw hb6⟩
              case measure => simp [intOf]; omega
            · have he' : ¬ (0 : Int) < (s.els.length : Int) := by omega
              go_wp2_with fail
              go_roundw
              case rel => exact ⟨j + 1, by omega, (by have h1 := HT.out; have h2 := HCT.out; rw [if_neg k5, if_neg k7, if_pos k6, if_neg he] at h2; exact congrArg (Value.int .i64) (by omega)), by go_num, hbw⟩
              case measure => simp [intOf]; omega
      · go_wp2_with fail
        go_roundw
        case rel => exact ⟨j + 1, by omega, (by have h1 := HT.out; have h2 := HCT.out; rw [if_neg k5, if_neg k7, if_neg k6] at h2; exact congrArg (Value.int .i64) (by omega)), by go_num, Below.one hb _⟩
        case measure => simp [intOf]; omega
    · obtain rfl : j = l.length := by omega
      go_wp2_with fail
      go_ret
      rw [List.take_length]
      exact ⟨rfl, hb⟩
theorem lines_k (n : Nat) : LnsOk n := by
  induction n with
  | zero => intro l a c w h; omega
  | succ n ih => exact fun l a c w h hin hs => lines_step n ih l a c w (by omega) hin hs
theorem lines_any (l : List St) (a : Option Addr) (c : Nat) (w : World) (hin : Have w a c l) (hsz : ssz l ≤ 1000000) : Calls Tryd.prog 17 #[.slice a l.length c] w fun e w' => e = .returned (.int .i64 (ctSs l)) ∧ Below w.heap.size w w' := lines_k (ssz l + 1) l a c w (by omega) hin hsz
end Go.Proofs.YtbpemackmadhgabDoor

/- Where the law stands in a text: which lines are behind it, and in which it is. -/
namespace Go.Proofs.YtbpemackmadhgabDoor
open Go.RowKit Go.Sort

structure LnInv (p : Pr) (A B : List Ln) (D i : Nat) : Prop where
  all : lsP p = A ++ B
  ok : lnOk D B 0
  from_ : (lnT A).length ≤ i
  end_ : B = [] → i = (lnT A).length
  line : ∀ l B', B = l :: B' → i ≤ (lnT A).length + (2 * l.1 + l.2.1.length)
theorem LnInv.atEnd {p : Pr} {A : List Ln} {D i : Nat} (h : LnInv p A [] D i) : i = (lnT (lsP p)).length ∧ D = 0 ∧ lsP p = A := by
  have h1 := h.all
  rw [List.append_nil] at h1
  have h2 := h.ok
  rw [lnOk] at h2
  exact ⟨by rw [h1]; exact h.end_ rfl, h2, h1⟩
theorem LnInv.text {p : Pr} {A B' : List Ln} {d : Nat} {c : List UInt8} {cl op : Bool} {D i : Nat} (h : LnInv p A ((d, c, cl, op) :: B') D i) : lnT (lsP p) = lnT A ++ (lineB d c ++ lnT B') := by
  rw [h.all, lnT_app]
  congr 1
/-- A byte of the line in which it is. -/
theorem LnInv.byte {p : Pr} {A B' : List Ln} {d : Nat} {c : List UInt8} {cl op : Bool} {D i : Nat} (h : LnInv p A ((d, c, cl, op) :: B') D i) (k : Nat) (hk : k < 2 * d + c.length + 1) : (lnT (lsP p))[(lnT A).length + k]? = (List.replicate (2 * d) (32 : UInt8) ++ c ++ [10])[k]? := by
  rw [h.text, List.getElem?_append_right (by omega), Nat.add_sub_cancel_left, List.getElem?_append_left (by rw [lineB_len]; exact hk)]
  rfl
theorem LnInv.parts {p : Pr} {A B' : List Ln} {d : Nat} {c : List UInt8} {cl op : Bool} {D i : Nat} (h : LnInv p A ((d, c, cl, op) :: B') D i) : Cont c cl op ∧ d + b2n cl = D ∧ lnOk (d + b2n op) B' 0 ∧ i ≤ (lnT A).length + (2 * d + c.length) ∧ (lnT A).length + (2 * d + c.length) < (lnT (lsP p)).length := by
  have h2 := h.ok
  rw [lnOk] at h2
  refine ⟨h2.1, h2.2.1, h2.2.2, h.line _ _ rfl, ?_⟩
  rw [h.text, List.length_append, List.length_append, lineB_len]; omega
theorem LnInv.step {p : Pr} {A B' : List Ln} {d : Nat} {c : List UInt8} {cl op : Bool} {D i : Nat} (h : LnInv p A ((d, c, cl, op) :: B') D i) (hi : i < (lnT A).length + (2 * d + c.length)) : LnInv p A ((d, c, cl, op) :: B') D (i + 1) := by
  refine ⟨h.all, h.ok, by have := h.from_; omega, (fun e => by simp at e), fun l B e => ?_⟩
  injection e with e1 e2
  subst e1
  show i + 1 ≤ (lnT A).length + (2 * d + c.length)
  omega
theorem LnInv.next {p : Pr} {A B' : List Ln} {d : Nat} {c : List UInt8} {cl op : Bool} {D : Nat} (h : LnInv p A ((d, c, cl, op) :: B') D ((lnT A).length + (2 * d + c.length))) : LnInv p (A ++ [(d, c, cl, op)]) B' (d + b2n op) ((lnT A).length + (2 * d + c.length) + 1) := by
  have hl : (lnT (A ++ [(d, c, cl, op)])).length = (lnT A).length + (2 * d + c.length) + 1 := by
    rw [lnT_app, List.length_append, lnT_one, lineB_len]; omega
  refine ⟨by rw [h.all]; simp, h.parts.2.2.1, by omega, fun _ => hl.symm, fun l B e => by rw [hl]; omega⟩
theorem rep_at (d : Nat) (c : List UInt8) (k : Nat) (hk : k < 2 * d) : (List.replicate (2 * d) (32 : UInt8) ++ c ++ [10])[k]? = some 32 := by
  rw [List.append_assoc, List.getElem?_append_left (by simpa using hk), List.getElem?_replicate, if_pos hk]
theorem con_at (d : Nat) (c : List UInt8) (k : Nat) (h1 : 2 * d ≤ k) (h2 : k < 2 * d + c.length) : (List.replicate (2 * d) (32 : UInt8) ++ c ++ [10])[k]? = c[k - 2 * d]? := by
  rw [List.append_assoc, List.getElem?_append_right (by simpa using h1), List.length_replicate, List.getElem?_append_left (by omega)]
theorem end_at (d : Nat) (c : List UInt8) : (List.replicate (2 * d) (32 : UInt8) ++ c ++ [10])[2 * d + c.length]? = some 10 := by
  rw [List.getElem?_append_right (by simp)]; simp
/-- Ahead of its end a line has no end of a line. -/
theorem LnInv.plain {p : Pr} {A B' : List Ln} {d : Nat} {c : List UInt8} {cl op : Bool} {D i : Nat} (h : LnInv p A ((d, c, cl, op) :: B') D i) (hi : i < (lnT A).length + (2 * d + c.length)) : ∃ x, (lnT (lsP p))[i]? = some x ∧ x ≠ 10 := by
  have hf := h.from_
  have hb := h.byte (i - (lnT A).length) (by omega)
  rw [show (lnT A).length + (i - (lnT A).length) = i by omega] at hb
  by_cases hk : i - (lnT A).length < 2 * d
  · rw [rep_at d c _ hk] at hb
    exact ⟨32, hb, by decide⟩
  · rw [con_at d c _ (by omega) (by omega)] at hb
    have hlt : i - (lnT A).length - 2 * d < c.length := by omega
    rw [List.getElem?_eq_getElem hlt] at hb
    exact ⟨_, hb, h.parts.1.flat _ (List.getElem_mem hlt)⟩
end Go.Proofs.YtbpemackmadhgabDoor

/- The statement of a text's lines, at a program that lies in memory. -/
namespace Go.Proofs.YtbpemackmadhgabDoor
open Go.RowKit Go.Sort

theorem s_at {S : ByteArray} {l : List UInt8} (h : S.data.toList = l) {i : Nat} (hi : i < S.size) {x : UInt8} (e : l[i]? = some x) : S[i] = x := by
  rw [← h] at e
  have hi' : i < S.data.toList.length := by rw [ba_len]; exact hi
  rw [List.getElem?_eq_getElem hi'] at e
  exact Option.some.inj e
theorem u8_ne {x y : UInt8} (h : x ≠ y) : ((x.toNat : Int) == (y.toNat : Int)) = false := by
  apply beq_false_of_ne
  intro e
  exact h (UInt8.toNat_inj.1 (by omega))
theorem u8_beq (x y : UInt8) : ((x.toNat : Int) == (y.toNat : Int)) = (x == y) := by
  by_cases h : x = y
  · subst h; simp
  · rw [u8_ne h, beq_false_of_ne h]
theorem t_at (S : ByteArray) (a b k : Nat) (hk : k < b - a) : (S.extract a b).data.toList[k]? = S.data.toList[a + k]? := by
  simp [hk]
theorem t_size (S : ByteArray) (a b : Nat) (h : b ≤ S.size) : (S.extract a b).size = b - a := by
  rw [ByteArray.size_extract]; omega
theorem lnT_ge (A : List Ln) : A.length ≤ (lnT A).length := by
  induction A with
  | nil => simp
  | cons l r ih =>
    rw [show l :: r = [l] ++ r from rfl, lnT_app, List.length_append, List.length_append, show [l] = [(l.1, l.2.1, l.2.2.1, l.2.2.2)] from rfl, lnT_one, lineB_len]
    simp only [List.length_cons, List.length_nil]; omega
theorem ctFs_take : ∀ (l : List Fu) (j : Nat) (h : j < l.length), ctFs (l.take (j + 1)) = ctFs (l.take j) + (2 + ctSs l[j].body)
  | x :: r, 0, _ => by simp [ctFs]
  | x :: r, j + 1, h => by
    rw [List.take_succ_cons, ctFs, ctFs_take r j (by simpa using h), List.take_succ_cons, ctFs, List.getElem_cons_succ]; omega
theorem ctFs_bd : ∀ {l : List Fu}, (∀ f ∈ l, ssz f.body ≤ 4096) → (∀ l : List St, ctSs l ≤ 4 * ssz l) → ctFs l ≤ 20000 * l.length
  | [], _, _ => by simp [ctFs]
  | f :: r, h, k => by
    rw [ctFs, List.length_cons]
    have h1 := h f (by simp)
    have h2 := k f.body
    have h3 := ctFs_bd (l := r) (fun x hx => h x (List.mem_cons_of_mem _ hx)) k
    omega

set_option maxRecDepth 100000 in
set_option maxHeartbeats 8000000 in
theorem treeLines_any (LN : ∀ (l : List St) (a : Option Addr) (c : Nat) (w : World), Have w a c l → ssz l ≤ 1000000 → Calls Tryd.prog 17 #[.slice a l.length c] w fun e w' => e = .returned (.int .i64 (ctSs l)) ∧ Below w.heap.size w w')
    (CL : ∀ l : List St, ctSs l ≤ 4 * ssz l) (p : Pr) (w : World) (hp : p.In w) (ht : Tabs w) (hnt : NumT w) : Calls Tryd.prog 5 #[p.val] w fun e w' => e = .returned (.bool true) ∧ Below w.heap.size w w' := by
  have HA : Hid (∀ w', Below w.heap.size w w' → Calls Tryd.prog 6 #[] w' fun e w'' => e = .returned (.bool true) ∧ Below w'.heap.size w' w'') := fun w' h => awake_any w' (ht.stay h) (hnt.stay h)
  have HPP : Hid (∀ w', Below w.heap.size w w' → Calls Tryd.prog 11 #[p.val] w' fun e w'' => e = .returned (.tuple #[sB (prT p), fltV (prF p).1 (prF p).2.1 (prF p).2.2]) ∧ Below w'.heap.size w' w'') := fun w' h => print_any p w' (hp.stay h) (ht.stay h) (hnt.stay h)
  have HPI : Hid (p.In w) := hp
  have hlen : p.funcs.length ≤ p.fc ∧ p.fc * 64 ≤ 140737488351232 := ⟨hp.2.2.2.2.2.1, hp.2.2.2.2.2.2.1⟩
  have HLN := show Hid _ from LN
  have HCL := show Hid _ from CL
  clear hp ht hnt LN CL
  unfold Pr.val at *
  obtain ⟨W1, hW1⟩ : ∃ W1, w.alloc (.cells #[.slice p.wa p.widen.length p.wc, .slice p.fa p.funcs.length p.fc] 25) = W1 := ⟨_, rfl⟩
  obtain ⟨Z, hZ⟩ : ∃ Z, w.heap.size = Z := ⟨_, rfl⟩
  have P0 : Hid (∀ w', Below W1.heap.size W1 w' → w'.cell? ⟨Z, 0, none⟩ = some (.slice p.wa p.widen.length p.wc)) := fun w' h => by
    have h0 : (w.alloc (.cells #[.slice p.wa p.widen.length p.wc, .slice p.fa p.funcs.length p.fc] 25)).cell? ⟨w.heap.size, 0, none⟩ = some (.slice p.wa p.widen.length p.wc) := World.cell?_alloc_at _ _ _ _ rfl
    rw [hW1, hZ] at h0
    exact seen h0 w' h
  have P1 : Hid (∀ w', Below W1.heap.size W1 w' → w'.cell? ⟨Z, 1, none⟩ = some (.slice p.fa p.funcs.length p.fc)) := fun w' h => by
    have h0 : (w.alloc (.cells #[.slice p.wa p.widen.length p.wc, .slice p.fa p.funcs.length p.fc] 25)).cell? ⟨w.heap.size, 1, none⟩ = some (.slice p.fa p.funcs.length p.fc) := World.cell?_alloc_at _ _ _ _ rfl
    rw [hW1, hZ] at h0
    exact seen h0 w' h
  have HW1 := show Hid _ from hW1
  have HZ := show Hid _ from hZ
  have B1 : Hid (Below w.heap.size w W1) := by rw [← hW1]; exact Below.one (Below.refl _ _) _
  clear hZ hW1
  go_enter Tryd.func5, Tryd.ntmps5
  go_wp2_with fail
  rw [HW1.out, HZ.out]
  clear HW1
  refine (HA.out _ B1.out).mono ?_
  rintro e w2 ⟨rfl, hb2⟩
  have p0 := P0.out _ hb2
  have p1 := P1.out _ hb2
  go_wp2_with fail
  refine (HPP.out _ (Below.on B1.out hb2)).mono ?_
  rintro e w3 ⟨rfl, hb3⟩
  have hb3' := Below.on hb2 hb3
  clear p0 p1 hb2 hb3 HA HPP
  have p0 : ∀ o, (w3.alloc o).cell? ⟨Z, 0, none⟩ = some (.slice p.wa p.widen.length p.wc) := fun o => P0.out _ (Below.one hb3' _)
  have p1 : ∀ o, (w3.alloc o).cell? ⟨Z, 1, none⟩ = some (.slice p.fa p.funcs.length p.fc) := fun o => P1.out _ (Below.one hb3' _)
  by_cases hz : (prF p).1 = 0
  · have hck : (checkZ p).1 = 0 ∧ (txP p).length ≤ 65536 := by
      unfold prF at hz
      split at hz
      · rename_i h
        split at hz
        · exact ⟨h, by assumption⟩
        · exact absurd hz (by decide)
      · rename_i h; exact absurd hz h
    have htx : prT p = txP p := by unfold prT; rw [if_pos hck.1, if_pos hck.2]
    rw [htx]
    obtain ⟨_, w0, hfs⟩ := check_ok hck.1
    have hszs := whole_sz w0
    obtain ⟨_, hf32, _⟩ := whole_ok w0
    have HOK : Hid (lnOk 0 (lsP p) 0) := lsP_ok hck.1
    have HTX : Hid (lnT (lsP p) = txP p) := lsP_tx p
    have HCT : Hid ((lsP p).length = ctP p) := lsP_ct p
    have HSZ : Hid (∀ f ∈ p.funcs, ssz f.body ≤ 4096) := hszs
    have htl : (txP p).length ≤ 65536 := hck.2
    have b4 : Below W1.heap.size W1 (w3.alloc (.cells #[.int .i64 0, .int .i64 (prF p).2.1, .int .i64 (prF p).2.2] 29)) := Below.one hb3' _
    have B4 := show Hid _ from b4
    clear hck htx hfs hszs w0 b4 hb3'
    have hbdF : ∀ j, ctFs (p.funcs.take j) ≤ 20000 * 32 := fun j => by
      have h1 := ctFs_bd (l := p.funcs.take j) (fun f hf => HSZ.out f (List.mem_of_mem_take hf)) HCL.out
      have h2 : (p.funcs.take j).length ≤ 32 := by rw [List.length_take]; omega
      omega
    by_cases hw : 0 < p.widen.length
    · have hw' : (0 : Int) < (p.widen.length : Int) := by omega
      have hA : ctP p = 1 + ctFs p.funcs := by unfold ctP; rw [if_pos hw]
      go_wp2_with fail
      go_loopw [5, 33] (fun t5 t33 wr => ∃ (j : Nat), j ≤ p.funcs.length ∧ t5 = .int .i64 ((1 : Int) + (ctFs (p.funcs.take j) : Int)) ∧ t33 = .int .i64 j ∧ Below W1.heap.size W1 wr) (fun _ t33 _ => p.funcs.length - (intOf t33).toNat)
      case atStart => exact ⟨0, Nat.zero_le _, by simp [ctFs], rfl, B4.out⟩
      case round =>
        obtain ⟨j, hj, rfl, rfl, hb⟩ := hrel
        have hbw := Below.on B1.out hb
        by_cases hlt : j < p.funcs.length
        · have hli : (j : Int) < (p.funcs.length : Int) := by omega
          obtain ⟨b, o, hfa, d0, d1, d2⟩ := rowF_at (HPI.out.stay hbw).2.2.2.2.2.2.2.2.1 hlt
          have hq := hbdF j
          have hfm := List.getElem_mem hlt
          have hq2 := HCL.out p.funcs[j].body
          have hq3 := HSZ.out _ hfm
          have hq4 : ctSs p.funcs[j].body ≤ 20000 := by omega
          have HY : Hid (∀ w', Below w.heap.size w w' → Calls Tryd.prog 17 #[.slice p.funcs[j].ba p.funcs[j].body.length p.funcs[j].bc] w' fun e w'' => e = .returned (.int .i64 (ctSs p.funcs[j].body)) ∧ Below w'.heap.size w' w'') := fun w' h =>
            HLN.out _ _ _ w' ((HPI.out.stay h).2.2.2.2.2.2.2.2.2 _ hfm).2.2.2.2.2.2 (by omega)
          have YT : Hid (ctFs (p.funcs.take (j + 1)) = ctFs (p.funcs.take j) + (2 + ctSs p.funcs[j].body)) := ctFs_take p.funcs j hlt
          have HFA := show Hid _ from hfa
          clear hfm hq2 hq3 hfa
          generalize p.funcs[j] = f at *
          generalize ctFs (p.funcs.take j) = t at *
          rw [HFA.out]
          go_wp2_with fail
          refine (HY.out _ (Below.one hbw _)).mono ?_
          rintro e w6 ⟨rfl, hb6⟩
          go_wp2_with fail
          go_roundw
          case rel => exact ⟨j + 1, by omega, (by have h1 := YT.out; exact congrArg (Value.int .i64) (by omega)), by go_num, Below.on (Below.one hb _) hb6⟩
          case measure => simp [intOf]; omega
        · obtain rfl : j = p.funcs.length := by omega
          rw [List.take_length]
          have hq := hbdF p.funcs.length
          rw [List.take_length] at hq
          go_wp2_with fail
          obtain ⟨S, hS⟩ : ∃ S : ByteArray, (⟨(txP p).toArray⟩ : ByteArray) = S := ⟨_, rfl⟩
          have hSL : S.data.toList = txP p := by rw [← hS]
          have hSZ : S.size = (txP p).length := by rw [← hSL, ba_len]
          rw [show sB (txP p) = Value.string S by rw [← hS]]
          have HSL := show Hid _ from hSL
          clear hS hSL
          go_loopw [8, 9, 10, 11] (fun t8 t9 t10 t11 wq => ∃ (A B : List Ln) (D i : Nat), LnInv p A B D i ∧ t8 = .int .i64 A.length ∧ t9 = .int .i64 D ∧ t10 = .int .i64 (lnT A).length ∧ t11 = .int .i64 i ∧ Below W1.heap.size W1 wq) (fun _ _ _ t11 _ => S.size - (intOf t11).toNat)
          case atStart => exact ⟨[], lsP p, 0, 0, ⟨rfl, HOK.out, Nat.zero_le _, fun h => rfl, fun l B' h => Nat.zero_le _⟩, rfl, rfl, rfl, rfl, hb⟩
          case round =>
            clear hb hbw
            obtain ⟨A, B, D, i, hinv, rfl, rfl, rfl, rfl, hb⟩ := hrel
            have hAl := lnT_ge A
            have HINV := show Hid _ from hinv
            cases B with
            | nil =>
              obtain ⟨hi, hD, hA⟩ := hinv.atEnd
              rw [HTX.out] at hi
              subst hD
              have hlA : A.length = ctP p := by rw [← hA]; exact HCT.out
              have hlT : (lnT A).length = S.size := by rw [← hA, HTX.out]; omega
              have hnl : ¬ (i : Int) < (S.size : Int) := by omega
              have e1 : ((A.length : Int) == (1 : Int) + (ctFs p.funcs : Int)) = true := by rw [beq_iff_eq]; omega
              have e2 : (((lnT A).length : Int) == (S.size : Int)) = true := by rw [beq_iff_eq]; omega
              go_wp2_with fail
              go_ret
              exact ⟨rfl, Below.on B1.out hb⟩
            | cons ln B' =>
              obtain ⟨d, c, cl, op⟩ := ln
              obtain ⟨hcont, hD, hok', hle, hlt2⟩ := hinv.parts
              rw [HTX.out] at hlt2
              have hilt : i < S.size := by omega
              have hili : (i : Int) < (S.size : Int) := by omega
              by_cases hi : i < (lnT A).length + (2 * d + c.length)
              · obtain ⟨x, hx1, hx2⟩ := hinv.plain hi
                rw [HTX.out] at hx1
                have hSi : S[i] = x := s_at HSL.out hilt hx1
                have hne : ((S[i].toNat : Int) == 10) = false := by rw [hSi]; exact u8_ne hx2
                have HST : Hid (LnInv p A ((d, c, cl, op) :: B') D (i + 1)) := hinv.step hi
                clear hinv hx1 hSi hcont hok'
                go_wp2_with fail
                go_roundw
                case rel => exact ⟨A, _, D, i + 1, HST.out, rfl, rfl, rfl, by go_num, hb⟩
                case measure => simp [intOf]; omega
              · obtain rfl : i = (lnT A).length + (2 * d + c.length) := by omega
                have hx1 := hinv.byte (2 * d + c.length) (by omega)
                rw [end_at, HTX.out] at hx1
                have hSi : S[(lnT A).length + (2 * d + c.length)] = 10 := s_at HSL.out hilt hx1
                have heq : ((S[(lnT A).length + (2 * d + c.length)].toNat : Int) == 10) = true := by rw [hSi]; rfl
                have HNX := show Hid _ from hinv.next
                have HBY : Hid (∀ k, k < 2 * d + c.length + 1 → (txP p)[(lnT A).length + k]? = (List.replicate (2 * d) (32 : UInt8) ++ c ++ [10])[k]?) := fun k hk => by rw [← HTX.out]; exact hinv.byte k hk
                have HCO : Hid (Cont c cl op) := hcont
                clear hinv hx1 hSi hcont hok' HINV
                generalize hF : (lnT A).length = F at *
                obtain ⟨T, hT⟩ : ∃ T, S.extract F (F + (2 * d + c.length)) = T := ⟨_, rfl⟩
                have hTs : T.size = 2 * d + c.length := by rw [← hT, t_size _ _ _ (by omega)]; omega
                have hTb : ∀ k (hk : k < T.size), ∀ x, (List.replicate (2 * d) (32 : UInt8) ++ c ++ [10])[k]? = some x → T[k] = x := fun k hk x e => by
                  refine s_at (l := T.data.toList) rfl hk ?_
                  rw [← hT, t_at _ _ _ _ (by omega), HSL.out, HBY.out k (by omega)]; exact e
                obtain ⟨x0, r0, hc0, hx0, hcl0⟩ := HCO.out.head
                obtain ⟨r1, x1, hc1, hop1⟩ := HCO.out.last
                have hcp : 0 < c.length := by rw [hc0]; simp
                have hT0 : ∀ k (hk : k < T.size), k < 2 * d → ((T[k].toNat : Int) == 32) = true := fun k hk h => by rw [hTb k hk 32 (rep_at d c k h)]; rfl
                have h2d : 2 * d < T.size := by omega
                have hTx : T[2 * d] = x0 := hTb _ h2d x0 (by rw [con_at d c _ (Nat.le_refl _) (by omega), Nat.sub_self, hc0]; rfl)
                have hT1 : ((T[2 * d].toNat : Int) == 32) = false := by rw [hTx]; exact u8_ne hx0
                have hT2 : ((T[2 * d].toNat : Int) == 125) = cl := by rw [hTx, ← hcl0]; exact u8_beq x0 125
                have hls : 2 * d + c.length - 1 < T.size := by omega
                have hTl : T[2 * d + c.length - 1] = x1 := hTb _ hls x1 (by
                  have hcl1 : c.length = r1.length + 1 := by rw [hc1]; simp
                  rw [con_at d c _ (by omega) (by omega), show 2 * d + c.length - 1 - 2 * d = r1.length by omega, hc1]; simp)
                have hT3 : ((T[2 * d + c.length - 1].toNat : Int) == 123) = op := by rw [hTl, ← hop1]; exact u8_beq x1 123
                have HT := show Hid _ from hT
                clear hTb hTx hTl hc0 hx0 hcl0 hc1 hop1 hT HBY HCO
                go_wp2_with fail
                rw [HT.out]
                clear HT heq
                generalize ((S[F + (2 * d + c.length)].toNat : Int) != 10) = bq
                go_loopw [13] (fun t wq => ∃ k : Nat, k ≤ 2 * d ∧ t = .int .i64 k ∧ Below W1.heap.size W1 wq) (fun t _ => 2 * d - (intOf t).toNat)
                case atStart => exact ⟨0, Nat.zero_le _, rfl, hb⟩
                case round =>
                  clear hb
                  obtain ⟨k, hk, rfl, hb⟩ := hrel
                  have hkT : k < T.size := by omega
                  have hkTi : (k : Int) < (T.size : Int) := by omega
                  by_cases hkd : k < 2 * d
                  · have hb32 := hT0 k hkT hkd
                    go_wp2_with fail
                    go_roundw
                    case rel => exact ⟨k + 1, by omega, by go_num, hb⟩
                    case measure => simp [intOf]; omega
                  · obtain rfl : k = 2 * d := by omega
                    have hdb : (d : Int) ≤ 65536 := by omega
                    have HLX : Hid (∀ x y : Bool, (lnT (A ++ [(d, c, x, y)])).length = F + (2 * d + c.length) + 1) := fun x y => by rw [lnT_app, List.length_append, lnT_one, lineB_len, hF]; omega
                    have hne1 : ((2 * (d : Int)) == (T.size : Int)) = false := beq_false_of_ne (by omega)
                    clear hT0
                    cases cl with
                    | false =>
                      cases op with
                      | false =>
                        obtain rfl : d = D := by simp [b2n] at hD; omega
                        go_wp2_with fail
                        go_roundw
                        case rel => exact ⟨A ++ [(d, c, false, false)], B', d + b2n false, F + (2 * d + c.length) + 1, HNX.out, congrArg (Value.int .i64) (by simp), congrArg (Value.int .i64) (by simp [b2n]), congrArg (Value.int .i64) (by have := HLX.out; rw [this]; omega), by go_num, hb⟩
                        case measure => simp [intOf]; omega
                      | true =>
                        obtain rfl : d = D := by simp [b2n] at hD; omega
                        go_wp2_with fail
                        go_roundw
                        case rel => exact ⟨A ++ [(d, c, false, true)], B', d + b2n true, F + (2 * d + c.length) + 1, HNX.out, congrArg (Value.int .i64) (by simp), congrArg (Value.int .i64) (by simp [b2n]), congrArg (Value.int .i64) (by have := HLX.out; rw [this]; omega), by go_num, hb⟩
                        case measure => simp [intOf]; omega
                    | true =>
                      cases op with
                      | false =>
                        obtain rfl : d + 1 = D := by simp [b2n] at hD; omega
                        go_wp2_with fail
                        go_roundw
                        case rel => exact ⟨A ++ [(d, c, true, false)], B', d + b2n false, F + (2 * d + c.length) + 1, HNX.out, congrArg (Value.int .i64) (by simp), congrArg (Value.int .i64) (by simp [b2n]), congrArg (Value.int .i64) (by have := HLX.out; rw [this]; omega), by go_num, hb⟩
                        case measure => simp [intOf]; omega
                      | true =>
                        obtain rfl : d + 1 = D := by simp [b2n] at hD; omega
                        go_wp2_with fail
                        go_roundw
                        case rel => exact ⟨A ++ [(d, c, true, true)], B', d + b2n true, F + (2 * d + c.length) + 1, HNX.out, congrArg (Value.int .i64) (by simp), congrArg (Value.int .i64) (by simp [b2n]), congrArg (Value.int .i64) (by have := HLX.out; rw [this]; omega), by go_num, hb⟩
                        case measure => simp [intOf]; omega
    · have hw' : ¬ (0 : Int) < (p.widen.length : Int) := by omega
      have hA : ctP p = 0 + ctFs p.funcs := by unfold ctP; rw [if_neg hw]
      go_wp2_with fail
      go_loopw [5, 33] (fun t5 t33 wr => ∃ (j : Nat), j ≤ p.funcs.length ∧ t5 = .int .i64 ((ctFs (p.funcs.take j) : Int)) ∧ t33 = .int .i64 j ∧ Below W1.heap.size W1 wr) (fun _ t33 _ => p.funcs.length - (intOf t33).toNat)
      case atStart => exact ⟨0, Nat.zero_le _, by simp [ctFs], rfl, B4.out⟩
      case round =>
        obtain ⟨j, hj, rfl, rfl, hb⟩ := hrel
        have hbw := Below.on B1.out hb
        by_cases hlt : j < p.funcs.length
        · have hli : (j : Int) < (p.funcs.length : Int) := by omega
          obtain ⟨b, o, hfa, d0, d1, d2⟩ := rowF_at (HPI.out.stay hbw).2.2.2.2.2.2.2.2.1 hlt
          have hq := hbdF j
          have hfm := List.getElem_mem hlt
          have hq2 := HCL.out p.funcs[j].body
          have hq3 := HSZ.out _ hfm
          have hq4 : ctSs p.funcs[j].body ≤ 20000 := by omega
          have HY : Hid (∀ w', Below w.heap.size w w' → Calls Tryd.prog 17 #[.slice p.funcs[j].ba p.funcs[j].body.length p.funcs[j].bc] w' fun e w'' => e = .returned (.int .i64 (ctSs p.funcs[j].body)) ∧ Below w'.heap.size w' w'') := fun w' h =>
            HLN.out _ _ _ w' ((HPI.out.stay h).2.2.2.2.2.2.2.2.2 _ hfm).2.2.2.2.2.2 (by omega)
          have YT : Hid (ctFs (p.funcs.take (j + 1)) = ctFs (p.funcs.take j) + (2 + ctSs p.funcs[j].body)) := ctFs_take p.funcs j hlt
          have HFA := show Hid _ from hfa
          clear hfm hq2 hq3 hfa
          generalize p.funcs[j] = f at *
          generalize ctFs (p.funcs.take j) = t at *
          rw [HFA.out]
          go_wp2_with fail
          refine (HY.out _ (Below.one hbw _)).mono ?_
          rintro e w6 ⟨rfl, hb6⟩
          go_wp2_with fail
          go_roundw
          case rel => exact ⟨j + 1, by omega, (by have h1 := YT.out; exact congrArg (Value.int .i64) (by omega)), by go_num, Below.on (Below.one hb _) hb6⟩
          case measure => simp [intOf]; omega
        · obtain rfl : j = p.funcs.length := by omega
          rw [List.take_length]
          have hq := hbdF p.funcs.length
          rw [List.take_length] at hq
          go_wp2_with fail
          obtain ⟨S, hS⟩ : ∃ S : ByteArray, (⟨(txP p).toArray⟩ : ByteArray) = S := ⟨_, rfl⟩
          have hSL : S.data.toList = txP p := by rw [← hS]
          have hSZ : S.size = (txP p).length := by rw [← hSL, ba_len]
          rw [show sB (txP p) = Value.string S by rw [← hS]]
          have HSL := show Hid _ from hSL
          clear hS hSL
          go_loopw [8, 9, 10, 11] (fun t8 t9 t10 t11 wq => ∃ (A B : List Ln) (D i : Nat), LnInv p A B D i ∧ t8 = .int .i64 A.length ∧ t9 = .int .i64 D ∧ t10 = .int .i64 (lnT A).length ∧ t11 = .int .i64 i ∧ Below W1.heap.size W1 wq) (fun _ _ _ t11 _ => S.size - (intOf t11).toNat)
          case atStart => exact ⟨[], lsP p, 0, 0, ⟨rfl, HOK.out, Nat.zero_le _, fun h => rfl, fun l B' h => Nat.zero_le _⟩, rfl, rfl, rfl, rfl, hb⟩
          case round =>
            clear hb hbw
            obtain ⟨A, B, D, i, hinv, rfl, rfl, rfl, rfl, hb⟩ := hrel
            have hAl := lnT_ge A
            have HINV := show Hid _ from hinv
            cases B with
            | nil =>
              obtain ⟨hi, hD, hA⟩ := hinv.atEnd
              rw [HTX.out] at hi
              subst hD
              have hlA : A.length = ctP p := by rw [← hA]; exact HCT.out
              have hlT : (lnT A).length = S.size := by rw [← hA, HTX.out]; omega
              have hnl : ¬ (i : Int) < (S.size : Int) := by omega
              have e1 : ((A.length : Int) == (ctFs p.funcs : Int)) = true := by rw [beq_iff_eq]; omega
              have e2 : (((lnT A).length : Int) == (S.size : Int)) = true := by rw [beq_iff_eq]; omega
              go_wp2_with fail
              go_ret
              exact ⟨rfl, Below.on B1.out hb⟩
            | cons ln B' =>
              obtain ⟨d, c, cl, op⟩ := ln
              obtain ⟨hcont, hD, hok', hle, hlt2⟩ := hinv.parts
              rw [HTX.out] at hlt2
              have hilt : i < S.size := by omega
              have hili : (i : Int) < (S.size : Int) := by omega
              by_cases hi : i < (lnT A).length + (2 * d + c.length)
              · obtain ⟨x, hx1, hx2⟩ := hinv.plain hi
                rw [HTX.out] at hx1
                have hSi : S[i] = x := s_at HSL.out hilt hx1
                have hne : ((S[i].toNat : Int) == 10) = false := by rw [hSi]; exact u8_ne hx2
                have HST : Hid (LnInv p A ((d, c, cl, op) :: B') D (i + 1)) := hinv.step hi
                clear hinv hx1 hSi hcont hok'
                go_wp2_with fail
                go_roundw
                case rel => exact ⟨A, _, D, i + 1, HST.out, rfl, rfl, rfl, by go_num, hb⟩
                case measure => simp [intOf]; omega
              · obtain rfl : i = (lnT A).length + (2 * d + c.length) := by omega
                have hx1 := hinv.byte (2 * d + c.length) (by omega)
                rw [end_at, HTX.out] at hx1
                have hSi : S[(lnT A).length + (2 * d + c.length)] = 10 := s_at HSL.out hilt hx1
                have heq : ((S[(lnT A).length + (2 * d + c.length)].toNat : Int) == 10) = true := by rw [hSi]; rfl
                have HNX := show Hid _ from hinv.next
                have HBY : Hid (∀ k, k < 2 * d + c.length + 1 → (txP p)[(lnT A).length + k]? = (List.replicate (2 * d) (32 : UInt8) ++ c ++ [10])[k]?) := fun k hk => by rw [← HTX.out]; exact hinv.byte k hk
                have HCO : Hid (Cont c cl op) := hcont
                clear hinv hx1 hSi hcont hok' HINV
                generalize hF : (lnT A).length = F at *
                obtain ⟨T, hT⟩ : ∃ T, S.extract F (F + (2 * d + c.length)) = T := ⟨_, rfl⟩
                have hTs : T.size = 2 * d + c.length := by rw [← hT, t_size _ _ _ (by omega)]; omega
                have hTb : ∀ k (hk : k < T.size), ∀ x, (List.replicate (2 * d) (32 : UInt8) ++ c ++ [10])[k]? = some x → T[k] = x := fun k hk x e => by
                  refine s_at (l := T.data.toList) rfl hk ?_
                  rw [← hT, t_at _ _ _ _ (by omega), HSL.out, HBY.out k (by omega)]; exact e
                obtain ⟨x0, r0, hc0, hx0, hcl0⟩ := HCO.out.head
                obtain ⟨r1, x1, hc1, hop1⟩ := HCO.out.last
                have hcp : 0 < c.length := by rw [hc0]; simp
                have hT0 : ∀ k (hk : k < T.size), k < 2 * d → ((T[k].toNat : Int) == 32) = true := fun k hk h => by rw [hTb k hk 32 (rep_at d c k h)]; rfl
                have h2d : 2 * d < T.size := by omega
                have hTx : T[2 * d] = x0 := hTb _ h2d x0 (by rw [con_at d c _ (Nat.le_refl _) (by omega), Nat.sub_self, hc0]; rfl)
                have hT1 : ((T[2 * d].toNat : Int) == 32) = false := by rw [hTx]; exact u8_ne hx0
                have hT2 : ((T[2 * d].toNat : Int) == 125) = cl := by rw [hTx, ← hcl0]; exact u8_beq x0 125
                have hls : 2 * d + c.length - 1 < T.size := by omega
                have hTl : T[2 * d + c.length - 1] = x1 := hTb _ hls x1 (by
                  have hcl1 : c.length = r1.length + 1 := by rw [hc1]; simp
                  rw [con_at d c _ (by omega) (by omega), show 2 * d + c.length - 1 - 2 * d = r1.length by omega, hc1]; simp)
                have hT3 : ((T[2 * d + c.length - 1].toNat : Int) == 123) = op := by rw [hTl, ← hop1]; exact u8_beq x1 123
                have HT := show Hid _ from hT
                clear hTb hTx hTl hc0 hx0 hcl0 hc1 hop1 hT HBY HCO
                go_wp2_with fail
                rw [HT.out]
                clear HT heq
                generalize ((S[F + (2 * d + c.length)].toNat : Int) != 10) = bq
                go_loopw [13] (fun t wq => ∃ k : Nat, k ≤ 2 * d ∧ t = .int .i64 k ∧ Below W1.heap.size W1 wq) (fun t _ => 2 * d - (intOf t).toNat)
                case atStart => exact ⟨0, Nat.zero_le _, rfl, hb⟩
                case round =>
                  clear hb
                  obtain ⟨k, hk, rfl, hb⟩ := hrel
                  have hkT : k < T.size := by omega
                  have hkTi : (k : Int) < (T.size : Int) := by omega
                  by_cases hkd : k < 2 * d
                  · have hb32 := hT0 k hkT hkd
                    go_wp2_with fail
                    go_roundw
                    case rel => exact ⟨k + 1, by omega, by go_num, hb⟩
                    case measure => simp [intOf]; omega
                  · obtain rfl : k = 2 * d := by omega
                    have hdb : (d : Int) ≤ 65536 := by omega
                    have HLX : Hid (∀ x y : Bool, (lnT (A ++ [(d, c, x, y)])).length = F + (2 * d + c.length) + 1) := fun x y => by rw [lnT_app, List.length_append, lnT_one, lineB_len, hF]; omega
                    have hne1 : ((2 * (d : Int)) == (T.size : Int)) = false := beq_false_of_ne (by omega)
                    clear hT0
                    cases cl with
                    | false =>
                      cases op with
                      | false =>
                        obtain rfl : d = D := by simp [b2n] at hD; omega
                        go_wp2_with fail
                        go_roundw
                        case rel => exact ⟨A ++ [(d, c, false, false)], B', d + b2n false, F + (2 * d + c.length) + 1, HNX.out, congrArg (Value.int .i64) (by simp), congrArg (Value.int .i64) (by simp [b2n]), congrArg (Value.int .i64) (by have := HLX.out; rw [this]; omega), by go_num, hb⟩
                        case measure => simp [intOf]; omega
                      | true =>
                        obtain rfl : d = D := by simp [b2n] at hD; omega
                        go_wp2_with fail
                        go_roundw
                        case rel => exact ⟨A ++ [(d, c, false, true)], B', d + b2n true, F + (2 * d + c.length) + 1, HNX.out, congrArg (Value.int .i64) (by simp), congrArg (Value.int .i64) (by simp [b2n]), congrArg (Value.int .i64) (by have := HLX.out; rw [this]; omega), by go_num, hb⟩
                        case measure => simp [intOf]; omega
                    | true =>
                      cases op with
                      | false =>
                        obtain rfl : d + 1 = D := by simp [b2n] at hD; omega
                        go_wp2_with fail
                        go_roundw
                        case rel => exact ⟨A ++ [(d, c, true, false)], B', d + b2n false, F + (2 * d + c.length) + 1, HNX.out, congrArg (Value.int .i64) (by simp), congrArg (Value.int .i64) (by simp [b2n]), congrArg (Value.int .i64) (by have := HLX.out; rw [this]; omega), by go_num, hb⟩
                        case measure => simp [intOf]; omega
                      | true =>
                        obtain rfl : d + 1 = D := by simp [b2n] at hD; omega
                        go_wp2_with fail
                        go_roundw
                        case rel => exact ⟨A ++ [(d, c, true, true)], B', d + b2n true, F + (2 * d + c.length) + 1, HNX.out, congrArg (Value.int .i64) (by simp), congrArg (Value.int .i64) (by simp [b2n]), congrArg (Value.int .i64) (by have := HLX.out; rw [this]; omega), by go_num, hb⟩
                        case measure => simp [intOf]; omega
  · have hbad : prT p = [] := by
      unfold prF at hz
      unfold prT
      split at hz
      · rename_i h
        split at hz
        · exact absurd rfl hz
        · rename_i h2; rw [if_pos h, if_neg h2]
      · rename_i h; rw [if_neg h]
    rw [hbad]
    go_wp2_with fail
    go_ret
    exact ⟨rfl, Below.one (Below.on B1.out hb3') _⟩
end Go.Proofs.YtbpemackmadhgabDoor

/- The statement of a text's lines, with the law's own count. -/
namespace Go.Proofs.YtbpemackmadhgabDoor
open Go.RowKit Go.Sort
theorem treeLines_all (p : Pr) (w : World) (hp : p.In w) (ht : Tabs w) (hnt : NumT w) : Calls Tryd.prog 5 #[p.val] w fun e w' => e = .returned (.bool true) ∧ Below w.heap.size w w' :=
  treeLines_any (fun l a c w h hs => lines_any l a c w h hs) ctSs_le p w hp ht hnt
end Go.Proofs.YtbpemackmadhgabDoor
