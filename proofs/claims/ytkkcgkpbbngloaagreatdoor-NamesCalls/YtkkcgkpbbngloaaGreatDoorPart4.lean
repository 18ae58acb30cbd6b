/- The program's walker: a for. -/
import Derived.Test.YtkkcgkpbbngloaaGreatDoorPart3
import Derived.Test.YtkkcgkpbbngloaaGreatDoorPart2
namespace Go.Proofs.YtkkcgkpbbngloaaGreatDoor
open Go.RowKit Go.Sort

theorem GB.cellL {N b fm : Nat} {a x bs ft v cs L ok k c w W env m a2 x2 f2} (h : GB N b fm a x bs ft v cs L ok k c w W env m a2 x2 f2) : W.cell? ⟨x2.1, 2, none⟩ = some (.bool f2.1) ∧ W.frozen? ⟨x2.1, 2, none⟩ = false := by
  obtain ⟨v1, cs1, i1, i2, i3, i4, i5, i6, i7⟩ := h
  obtain ⟨h1, ⟨a1, h2, h3⟩, h4⟩ := i6
  exact ⟨by rw [Lib.cell_of_heap h2]; rfl, Lib.frozen_of_heap h2 2⟩
theorem stS_for {ft : List (List UInt8 × Int)} {s : St} {env : Env} {m : Int} (h : s.kind = 7) : stS ft s env m = (if orF [exZ env ft s.a, exZ env ft s.b, dcZ ((true, []) :: env) s.name.data.toList] ≠ 0 then ⟨orF [exZ env ft s.a, exZ env ft s.b, dcZ ((true, []) :: env) s.name.data.toList], m, env, []⟩ else ⟨(lsS ft s.body (dcEnv ((true, []) :: env) s.name.data.toList 3) m).e, (lsS ft s.body (dcEnv ((true, []) :: env) s.name.data.toList 3) m).m, env, exC ft s.a ++ exC ft s.b ++ (lsS ft s.body (dcEnv ((true, []) :: env) s.name.data.toList 3) m).c⟩) := by
  obtain ⟨k, nm, n, a, b, ba, bc, l, ea, ec, e, ca, cc, c⟩ := s
  subst h
  rw [stS, if_neg (by decide), if_neg (by decide), if_neg (by decide), if_neg (by decide), if_neg (by decide), if_pos rfl]; rfl
set_option maxRecDepth 100000 in
set_option maxHeartbeats 2000000 in
theorem nloop_of (w0 : World) (b fm : Nat) (ft : List (List UInt8 × Int)) (K : Nat) (ih : LsN w0 b fm ft K) (s : St) (a : Option Addr) (x : Nat × Nat) (bs : List (Nat × Nat)) (env : Env) (m : Int) (v : Value) (cs : List Int) (w : World) (hk : s.kind = 7) (hin : s.In w0) (hB : Below w0.heap.size w0 w) (hw : WS w0.heap.size w b fm a (x :: bs) env ft m v cs) (h1 : cs.length + qS s ≤ 1000000) (h2 : ∀ f ∈ env, f.2.length + qS s ≤ 900000) (h3 : 0 ≤ m) (h4 : m + qS s ≤ 1000000001) (hK : qS s ≤ K + 1) :
    Calls Tryz.prog 77 #[.pointer (some ⟨b, 0, none⟩), s.val] w fun e w' => e = .returned (.int .i64 (stS ft s env m).e) ∧ LP w0.heap.size b fm a x bs ft v cs (qS s) w w' (stS ft s env m) := by
  have HRR : Hid (stS ft s env m = (if orF [exZ env ft s.a, exZ env ft s.b, dcZ ((true, []) :: env) s.name.data.toList] ≠ 0 then ⟨orF [exZ env ft s.a, exZ env ft s.b, dcZ ((true, []) :: env) s.name.data.toList], m, env, []⟩ else ⟨(lsS ft s.body (dcEnv ((true, []) :: env) s.name.data.toList 3) m).e, (lsS ft s.body (dcEnv ((true, []) :: env) s.name.data.toList 3) m).m, env, exC ft s.a ++ exC ft s.b ++ (lsS ft s.body (dcEnv ((true, []) :: env) s.name.data.toList 3) m).c⟩)) := stS_for hk
  generalize stS ft s env m = R at HRR ⊢
  have hq := qS_eq s
  obtain ⟨_, hz, _, hia, hib, hbo, _⟩ := St.in_iff.1 hin
  have hb0 := (Below.refl _ w).alloc (Nat.le_refl _) (stBox s)
  have hB1 : Below w0.heap.size w0 (w.alloc (stBox s)) := hB.trans (hb0.mono hB.size)
  have hL : ∀ g ∈ b :: x.2 :: ob v, w0.heap.size ≤ g := fun q hq => by
    rcases List.mem_cons.1 hq with rfl | hq
    · exact hw.2.2.2.2.2.2 q (by simp)
    rcases List.mem_cons.1 hq with rfl | hq
    · exact hw.2.2.2.2.2.2 _ (by simp [chB])
    · exact (own_lt hw.2.2.2.1 q hq).1
  have hs : ∀ g ∈ b :: ob v, g ∈ b :: x.2 :: ob v := fun g hg => by
    rcases List.mem_cons.1 hg with rfl | hg <;> simp_all
  have hnL := ws_new hw
  have g0 : GS w0.heap.size b fm a x bs ft v cs (b :: x.2 :: ob v) True 0 [] (w.alloc (stBox s)) (w.alloc (stBox s)) env m := GS.start (hw.stay hb0) True
  have k0 := hw.cellS
  have hlt := hw.lt
  have hq900 : qS s ≤ 900000 := by
    have hne := hw.2.1
    match env, hne, h2 with
    | [], hne, _ => exact hne.elim
    | f :: _, _, h2 => have := h2 f (by simp); omega
  have HWI : Hid (∀ W, GS w0.heap.size b fm a x bs ft v cs (b :: x.2 :: ob v) True 0 [] (w.alloc (stBox s)) W env m → Calls Tryz.prog 102 #[.pointer a] W fun e W' => ∃ X Y, e = .returned (.pointer (some ⟨X, 0, none⟩)) ∧ GB w0.heap.size b fm a x bs ft v cs (b :: x.2 :: ob v) True 0 [] (w.alloc (stBox s)) W' env m (some ⟨X, 0, none⟩) (X, Y) (lvZ env == 0, [])) :=
    fun W h => (gs_within w0.heap.size b fm h hB1.size).mono fun e W' hh => ⟨_, _, hh⟩
  have HE : Hid (∀ X Y W, GB w0.heap.size b fm a x bs ft v cs (b :: x.2 :: ob v) True 0 [] (w.alloc (stBox s)) W env m (some ⟨X, 0, none⟩) (X, Y) (true, []) → Calls Tryz.prog 73 #[.pointer (some ⟨b, 0, none⟩), .agg #[.int .i64 s.a.kind, .int .i64 s.a.n, .string s.a.name, .slice s.a.a s.a.args.length s.a.cap]] W fun e W' => e = .returned (.int .i64 (exZ env ft s.a)) ∧ GB w0.heap.size b fm a x bs ft v cs (b :: x.2 :: ob v) (True ∧ exZ env ft s.a = 0) (0 + s.a.sz) ([] ++ exC ft s.a) (w.alloc (stBox s)) W' env m (some ⟨X, 0, none⟩) (X, Y) (true, [])) :=
    fun X Y W h => gb_expr w0 b fm h s.a hia hB1 hL hs (by omega)
  have HB : Hid (∀ X Y W, GB w0.heap.size b fm a x bs ft v cs (b :: x.2 :: ob v) (True ∧ exZ env ft s.a = 0) (0 + s.a.sz) ([] ++ exC ft s.a) (w.alloc (stBox s)) W env m (some ⟨X, 0, none⟩) (X, Y) (true, []) → Calls Tryz.prog 73 #[.pointer (some ⟨b, 0, none⟩), .agg #[.int .i64 s.b.kind, .int .i64 s.b.n, .string s.b.name, .slice s.b.a s.b.args.length s.b.cap]] W fun e W' => e = .returned (.int .i64 (exZ env ft s.b)) ∧ GB w0.heap.size b fm a x bs ft v cs (b :: x.2 :: ob v) ((True ∧ exZ env ft s.a = 0) ∧ exZ env ft s.b = 0) ((0 + s.a.sz) + s.b.sz) (([] ++ exC ft s.a) ++ exC ft s.b) (w.alloc (stBox s)) W' env m (some ⟨X, 0, none⟩) (X, Y) (true, [])) :=
    fun X Y W h => gb_expr w0 b fm h s.b hib hB1 hL hs (by omega)
  have HD : Hid (∀ X Y W, GB w0.heap.size b fm a x bs ft v cs (b :: x.2 :: ob v) ((True ∧ exZ env ft s.a = 0) ∧ exZ env ft s.b = 0) ((0 + s.a.sz) + s.b.sz) (([] ++ exC ft s.a) ++ exC ft s.b) (w.alloc (stBox s)) W env m (some ⟨X, 0, none⟩) (X, Y) (true, []) → Calls Tryz.prog 27 #[.pointer (some ⟨X, 0, none⟩), .string s.name, .int .i64 3] W fun e W' => e = .returned (.int .i64 (dcZ ((true, []) :: env) s.name.data.toList)) ∧ ∃ f3, dcEnv ((true, []) :: env) s.name.data.toList 3 = f3 :: env ∧ f3.2.length ≤ 1 ∧ GB w0.heap.size b fm a x bs ft v cs (b :: x.2 :: ob v) ((True ∧ exZ env ft s.a = 0) ∧ exZ env ft s.b = 0) ((0 + s.a.sz) + s.b.sz) (([] ++ exC ft s.a) ++ exC ft s.b) (w.alloc (stBox s)) W' env m (some ⟨X, 0, none⟩) (X, Y) f3) :=
    fun X Y W h => gb_declare w0 b fm h s.name hz 3 (by unfold I64; omega) (fun f hf => by
      rcases List.mem_cons.1 hf with rfl | hf
      · simp
      · have := h2 f hf; omega)
  have HBO : Hid (∀ X Y W f3, dcEnv ((true, []) :: env) s.name.data.toList 3 = f3 :: env → f3.2.length ≤ 1 → GB w0.heap.size b fm a x bs ft v cs (b :: x.2 :: ob v) ((True ∧ exZ env ft s.a = 0) ∧ exZ env ft s.b = 0) ((0 + s.a.sz) + s.b.sz) (([] ++ exC ft s.a) ++ exC ft s.b) (w.alloc (stBox s)) W env m (some ⟨X, 0, none⟩) (X, Y) f3 → Calls Tryz.prog 101 #[.pointer (some ⟨b, 0, none⟩), .pointer (some ⟨X, 0, none⟩), .slice s.ba s.body.length s.bc] W fun e W' => e = .returned (.int .i64 (lsS ft s.body (dcEnv ((true, []) :: env) s.name.data.toList 3) m).e) ∧ GS w0.heap.size b fm a x bs ft v cs (b :: x.2 :: ob v) (((True ∧ exZ env ft s.a = 0) ∧ exZ env ft s.b = 0) ∧ (lsS ft s.body (dcEnv ((true, []) :: env) s.name.data.toList 3) m).e = 0) (((0 + s.a.sz) + s.b.sz) + qSs s.body) ((([] ++ exC ft s.a) ++ exC ft s.b) ++ (lsS ft s.body (dcEnv ((true, []) :: env) s.name.data.toList 3) m).c) (w.alloc (stBox s)) W' env (lsS ft s.body (dcEnv ((true, []) :: env) s.name.data.toList 3) m).m) :=
    fun X Y W f3 e1 e2 h => by
      rw [e1]
      exact gb_body w0 b fm K ih h s.body s.ba s.bc (by omega) hbo hB1 hL hs (by omega) (fun f hf => by
        rcases List.mem_cons.1 hf with rfl | hf
        · omega
        · have := h2 f hf; omega) h3 (by omega)
  have HLP : Hid (∀ W (ok : Prop) kk (cc : List Int) mm (r : SR), GS w0.heap.size b fm a x bs ft v cs (b :: x.2 :: ob v) ok kk cc (w.alloc (stBox s)) W env mm → (r.e = 0 → ok ∧ cc = r.c) → env = r.env → mm = r.m → kk ≤ qS s → LP w0.heap.size b fm a x bs ft v cs (qS s) w W r) :=
    fun W ok kk cc mm r h p1 p2 p3 p4 => h.lp hb0 p1 p2 p3 p4
  have y0 : ∀ W, SX b a (b :: x.2 :: ob v) (w.alloc (stBox s)) W → W.cell? ⟨b, 0, none⟩ = some (.pointer a) := fun W h => h.2
  have y1 : ∀ W, SX b a (b :: x.2 :: ob v) (w.alloc (stBox s)) W → W.cell? ⟨w.heap.size, 1, none⟩ = some (.string s.name) := fun W h => SX.box hnL (by rw [World.cell?_alloc_at _ _ _ _ rfl]; rfl) h
  have y3 : ∀ W, SX b a (b :: x.2 :: ob v) (w.alloc (stBox s)) W → W.cell? ⟨w.heap.size, 3, none⟩ = some (.int .i64 s.a.kind) := fun W h => SX.box hnL (by rw [World.cell?_alloc_at _ _ _ _ rfl]; rfl) h
  have y4 : ∀ W, SX b a (b :: x.2 :: ob v) (w.alloc (stBox s)) W → W.cell? ⟨w.heap.size, 4, none⟩ = some (.int .i64 s.a.n) := fun W h => SX.box hnL (by rw [World.cell?_alloc_at _ _ _ _ rfl]; rfl) h
  have y5 : ∀ W, SX b a (b :: x.2 :: ob v) (w.alloc (stBox s)) W → W.cell? ⟨w.heap.size, 5, none⟩ = some (.string s.a.name) := fun W h => SX.box hnL (by rw [World.cell?_alloc_at _ _ _ _ rfl]; rfl) h
  have y6 : ∀ W, SX b a (b :: x.2 :: ob v) (w.alloc (stBox s)) W → W.cell? ⟨w.heap.size, 6, none⟩ = some (.slice s.a.a s.a.args.length s.a.cap) := fun W h => SX.box hnL (by rw [World.cell?_alloc_at _ _ _ _ rfl]; rfl) h
  have y7 : ∀ W, SX b a (b :: x.2 :: ob v) (w.alloc (stBox s)) W → W.cell? ⟨w.heap.size, 7, none⟩ = some (.int .i64 s.b.kind) := fun W h => SX.box hnL (by rw [World.cell?_alloc_at _ _ _ _ rfl]; rfl) h
  have y8 : ∀ W, SX b a (b :: x.2 :: ob v) (w.alloc (stBox s)) W → W.cell? ⟨w.heap.size, 8, none⟩ = some (.int .i64 s.b.n) := fun W h => SX.box hnL (by rw [World.cell?_alloc_at _ _ _ _ rfl]; rfl) h
  have y9 : ∀ W, SX b a (b :: x.2 :: ob v) (w.alloc (stBox s)) W → W.cell? ⟨w.heap.size, 9, none⟩ = some (.string s.b.name) := fun W h => SX.box hnL (by rw [World.cell?_alloc_at _ _ _ _ rfl]; rfl) h
  have y10 : ∀ W, SX b a (b :: x.2 :: ob v) (w.alloc (stBox s)) W → W.cell? ⟨w.heap.size, 10, none⟩ = some (.slice s.b.a s.b.args.length s.b.cap) := fun W h => SX.box hnL (by rw [World.cell?_alloc_at _ _ _ _ rfl]; rfl) h
  have y11 : ∀ W, SX b a (b :: x.2 :: ob v) (w.alloc (stBox s)) W → W.cell? ⟨w.heap.size, 11, none⟩ = some (.slice s.ba s.body.length s.bc) := fun W h => SX.box hnL (by rw [World.cell?_alloc_at _ _ _ _ rfl]; rfl) h
  have HSZ : Hid (qS s = 1 + s.a.sz + s.b.sz + qSs s.body + qSs s.els + qCs s.cases) := hq
  clear hin hB hw h1 h2 hq hz hia hib hb0 hB1 hL hs hnL hbo h3 h4 hK ih hq900 hk
  obtain ⟨W1, hW1⟩ : ∃ W1, w.alloc (stBox s) = W1 := ⟨_, rfl⟩
  rw [hW1] at g0 HWI HE HB HD HBO HLP y0 y1 y3 y4 y5 y6 y7 y8 y9 y10 y11
  unfold stBox at hW1
  have HW1 := show Hid _ from hW1
  clear hW1
  generalize exZ env ft s.a = za at *
  generalize exZ env ft s.b = zb at *
  generalize dcZ ((true, []) :: env) s.name.data.toList = zd at *
  generalize (lsS ft s.body (dcEnv ((true, []) :: env) s.name.data.toList 3) m) = RB at *
  unfold St.val
  go_enter Tryz.func77, Tryz.ntmps77
  go_wp2_with fail
  rw [HW1.out]
  refine (HWI.out _ g0).mono ?_
  rintro e w1 ⟨X, Y, rfl, hg1⟩
  clear g0 HW1 k0 hlt
  have k2 : w1.cell? ⟨X, 2, none⟩ = some (.bool (lvZ env == 0)) := hg1.cellL.1
  have q2 : w1.frozen? ⟨X, 2, none⟩ = false := hg1.cellL.2
  have g1 : GB w0.heap.size b fm a x bs ft v cs (b :: x.2 :: ob v) True 0 [] W1 (w1.setCell ⟨X, 2, none⟩ (.bool true)).drew env m (some ⟨X, 0, none⟩) (X, Y) (true, []) := (gb_in hg1).below (Below.drew (Below.refl _ _))
  clear hg1
  go_upto_region 3 with fail
  clear k2 q2
  generalize w1.setCell ⟨X, 2, none⟩ (.bool true) = W3 at *
  go_region_held (fun w' => SX b a (b :: x.2 :: ob v) W1 w') (first | exact GB.sx (by assumption) | exact GS.sx (by assumption) | exact SX.below (by assumption) ((Below.refl _ _).alloc (Nat.le_refl _) _) | assumption)
    (first
      | (go_at_call_of 73 (s.a.kind); refine (HE.out _ _ _ (by assumption)).mono ?_; rintro e w' ⟨rfl, hg⟩)
      | (go_at_call_of 73 (s.b.kind); refine (HB.out _ _ _ (by assumption)).mono ?_; rintro e w' ⟨rfl, hg⟩)
      | (go_at_call 27; refine (HD.out _ _ _ (by assumption)).mono ?_; rintro e w' ⟨rfl, f3, hf1, hf2, hg⟩)
      | (go_at_call 72; refine (or3 za zb zd _).mono ?_; rintro e w' ⟨rfl, rfl⟩))
  have HF1 : Hid (f3.2.length ≤ 1 ∧ dcEnv ((true, []) :: env) s.name.data.toList 3 = f3 :: env) := ⟨hf2, hf1⟩
  have g5 := hg.below ((Below.refl _ _).alloc (Nat.le_refl _) (.cells #[.int .i64 za, .int .i64 zb, .int .i64 zd] 27))
  clear hg hf1 hf2 g1
  generalize w'.alloc (.cells #[.int .i64 za, .int .i64 zb, .int .i64 zd] 27) = W5 at *
  have c11 := y11 _ g5.sx
  have HO := Hid.mk' (@orF3 za zb zd)
  generalize orF [za, zb, zd] = zo at *
  have HG5 := Hid.mk' g5
  clear g5
  cases hzo : (zo != 0)
  · have hzo0 : zo = 0 := by simpa using hzo
    have HR1 : Hid (R = ⟨RB.e, RB.m, env, exC ft s.a ++ exC ft s.b ++ RB.c⟩) := by show _ = _; rw [HRR.out, if_neg (by simpa using hzo0)]
    have HZ := Hid.mk' (HO.out.1 hzo0)
    clear HRR
    go_wp2_with fail
    refine (HBO.out _ _ _ f3 HF1.out.2 HF1.out.1 HG5.out).mono ?_
    rintro e w6 ⟨rfl, hg6⟩
    have HF := Hid.mk' (HLP.out w6 _ _ _ _ ⟨RB.e, RB.m, env, exC ft s.a ++ exC ft s.b ++ RB.c⟩ hg6 (fun e => ⟨⟨⟨⟨trivial, HZ.out.1⟩, HZ.out.2.1⟩, e⟩, by simp⟩) rfl rfl (by have := HSZ.out; omega))
    clear hg6 HBO c11
    go_wp2_with fail
    go_ret
    exact ⟨ret_int (by rw [HR1.out]), by rw [HR1.out]; exact HF.out⟩
  · have hzon : zo ≠ 0 := by simpa using hzo
    have HR1 : Hid (R = ⟨zo, m, env, []⟩) := by show _ = _; rw [HRR.out, if_pos hzon]
    have HF := Hid.mk' (HLP.out W5 _ _ _ _ ⟨zo, m, env, []⟩ HG5.out.gs (fun e => absurd e hzon) rfl rfl (by have := HSZ.out; omega))
    clear HRR hzon
    go_wp2_with fail
    go_ret
    exact ⟨ret_int (by rw [HR1.out]), by rw [HR1.out]; exact HF.out⟩
end Go.Proofs.YtkkcgkpbbngloaaGreatDoor

/- The program's walker: every statement. -/
namespace Go.Proofs.YtkkcgkpbbngloaaGreatDoor
open Go.RowKit Go.Sort

theorem LP.box {N b fm : Nat} {a x bs ft v cs k w w1 w2 r} (hb : Below w.heap.size w w1) (h : LP N b fm a x bs ft v cs k w1 w2 r) : LP N b fm a x bs ft v cs k w w2 r := by
  obtain ⟨v', cs', i1, i2, i3, i4, i5⟩ := h
  exact ⟨v', cs', i1, i2, i3, (Fr.of_below hb).trans i4, fun g hg => by
    rcases i5 g hg with h' | h'
    · exact Or.inl h'
    · exact Or.inr (Nat.le_trans hb.size h')⟩
set_option maxRecDepth 100000 in
set_option maxHeartbeats 2000000 in
theorem nst_if (w0 : World) (b fm : Nat) (ft : List (List UInt8 × Int)) (K : Nat) (ih : LsN w0 b fm ft K) (s : St) (a : Option Addr) (x : Nat × Nat) (bs : List (Nat × Nat)) (env : Env) (m : Int) (v : Value) (cs : List Int) (w : World) (hk : s.kind = 5) (hin : s.In w0) (hB : Below w0.heap.size w0 w) (hw : WS w0.heap.size w b fm a (x :: bs) env ft m v cs) (h1 : cs.length + qS s ≤ 1000000) (h2 : ∀ f ∈ env, f.2.length + qS s ≤ 900000) (h3 : 0 ≤ m) (h4 : m + qS s ≤ 1000000001) (hK : qS s ≤ K + 1) :
    Calls Tryz.prog 52 #[.pointer (some ⟨b, 0, none⟩), s.val] w fun e w' => e = .returned (.int .i64 (stS ft s env m).e) ∧ LP w0.heap.size b fm a x bs ft v cs (qS s) w w' (stS ft s env m) := by
  have hb0 := (Below.refl _ w).alloc (Nat.le_refl _) (stBox s)
  have HCL : Hid (Calls Tryz.prog 76 #[.pointer (some ⟨b, 0, none⟩), s.val] (w.alloc (stBox s)) fun e w' => e = .returned (.int .i64 (stS ft s env m).e) ∧ LP w0.heap.size b fm a x bs ft v cs (qS s) (w.alloc (stBox s)) w' (stS ft s env m)) :=
    nchoice_of w0 b fm ft K ih s a x bs env m v cs _ (Or.inl hk) hin (hB.trans (hb0.mono hB.size)) (hw.stay hb0) h1 h2 h3 h4 hK
  have HLB : Hid (∀ w', LP w0.heap.size b fm a x bs ft v cs (qS s) (w.alloc (stBox s)) w' (stS ft s env m) → LP w0.heap.size b fm a x bs ft v cs (qS s) w w' (stS ft s env m)) := fun w' h => h.box hb0
  generalize stS ft s env m = R at *
  clear hin hB hw h1 h2 h3 h4 hK ih hb0
  unfold St.val stBox at *
  rw [hk] at HCL HLB ⊢
  clear hk
  go_enter Tryz.func52, Tryz.ntmps52
  go_wp2_with fail
  refine HCL.out.mono ?_
  rintro e w' ⟨rfl, hp⟩
  have HP := Hid.mk' (HLB.out _ hp)
  clear hp HCL HLB
  go_wp2_with fail
  go_ret
  exact ⟨rfl, HP.out⟩
set_option maxRecDepth 100000 in
set_option maxHeartbeats 2000000 in
theorem nst_switch (w0 : World) (b fm : Nat) (ft : List (List UInt8 × Int)) (K : Nat) (ih : LsN w0 b fm ft K) (s : St) (a : Option Addr) (x : Nat × Nat) (bs : List (Nat × Nat)) (env : Env) (m : Int) (v : Value) (cs : List Int) (w : World) (hk : s.kind = 6) (hin : s.In w0) (hB : Below w0.heap.size w0 w) (hw : WS w0.heap.size w b fm a (x :: bs) env ft m v cs) (h1 : cs.length + qS s ≤ 1000000) (h2 : ∀ f ∈ env, f.2.length + qS s ≤ 900000) (h3 : 0 ≤ m) (h4 : m + qS s ≤ 1000000001) (hK : qS s ≤ K + 1) :
    Calls Tryz.prog 52 #[.pointer (some ⟨b, 0, none⟩), s.val] w fun e w' => e = .returned (.int .i64 (stS ft s env m).e) ∧ LP w0.heap.size b fm a x bs ft v cs (qS s) w w' (stS ft s env m) := by
  have hb0 := (Below.refl _ w).alloc (Nat.le_refl _) (stBox s)
  have HCL : Hid (Calls Tryz.prog 76 #[.pointer (some ⟨b, 0, none⟩), s.val] (w.alloc (stBox s)) fun e w' => e = .returned (.int .i64 (stS ft s env m).e) ∧ LP w0.heap.size b fm a x bs ft v cs (qS s) (w.alloc (stBox s)) w' (stS ft s env m)) :=
    nchoice_of w0 b fm ft K ih s a x bs env m v cs _ (Or.inr hk) hin (hB.trans (hb0.mono hB.size)) (hw.stay hb0) h1 h2 h3 h4 hK
  have HLB : Hid (∀ w', LP w0.heap.size b fm a x bs ft v cs (qS s) (w.alloc (stBox s)) w' (stS ft s env m) → LP w0.heap.size b fm a x bs ft v cs (qS s) w w' (stS ft s env m)) := fun w' h => h.box hb0
  generalize stS ft s env m = R at *
  clear hin hB hw h1 h2 h3 h4 hK ih hb0
  unfold St.val stBox at *
  rw [hk] at HCL HLB ⊢
  clear hk
  go_enter Tryz.func52, Tryz.ntmps52
  go_wp2_with fail
  refine HCL.out.mono ?_
  rintro e w' ⟨rfl, hp⟩
  have HP := Hid.mk' (HLB.out _ hp)
  clear hp HCL HLB
  go_wp2_with fail
  go_ret
  exact ⟨rfl, HP.out⟩
set_option maxRecDepth 100000 in
set_option maxHeartbeats 2000000 in
theorem nst_for (w0 : World) (b fm : Nat) (ft : List (List UInt8 × Int)) (K : Nat) (ih : LsN w0 b fm ft K) (s : St) (a : Option Addr) (x : Nat × Nat) (bs : List (Nat × Nat)) (env : Env) (m : Int) (v : Value) (cs : List Int) (w : World) (hk : s.kind = 7) (hin : s.In w0) (hB : Below w0.heap.size w0 w) (hw : WS w0.heap.size w b fm a (x :: bs) env ft m v cs) (h1 : cs.length + qS s ≤ 1000000) (h2 : ∀ f ∈ env, f.2.length + qS s ≤ 900000) (h3 : 0 ≤ m) (h4 : m + qS s ≤ 1000000001) (hK : qS s ≤ K + 1) :
    Calls Tryz.prog 52 #[.pointer (some ⟨b, 0, none⟩), s.val] w fun e w' => e = .returned (.int .i64 (stS ft s env m).e) ∧ LP w0.heap.size b fm a x bs ft v cs (qS s) w w' (stS ft s env m) := by
  have hb0 := (Below.refl _ w).alloc (Nat.le_refl _) (stBox s)
  have HCL : Hid (Calls Tryz.prog 77 #[.pointer (some ⟨b, 0, none⟩), s.val] (w.alloc (stBox s)) fun e w' => e = .returned (.int .i64 (stS ft s env m).e) ∧ LP w0.heap.size b fm a x bs ft v cs (qS s) (w.alloc (stBox s)) w' (stS ft s env m)) :=
    nloop_of w0 b fm ft K ih s a x bs env m v cs _ hk hin (hB.trans (hb0.mono hB.size)) (hw.stay hb0) h1 h2 h3 h4 hK
  have HLB : Hid (∀ w', LP w0.heap.size b fm a x bs ft v cs (qS s) (w.alloc (stBox s)) w' (stS ft s env m) → LP w0.heap.size b fm a x bs ft v cs (qS s) w w' (stS ft s env m)) := fun w' h => h.box hb0
  generalize stS ft s env m = R at *
  clear hin hB hw h1 h2 h3 h4 hK ih hb0
  unfold St.val stBox at *
  rw [hk] at HCL HLB ⊢
  clear hk
  go_enter Tryz.func52, Tryz.ntmps52
  go_wp2_with fail
  refine HCL.out.mono ?_
  rintro e w' ⟨rfl, hp⟩
  have HP := Hid.mk' (HLB.out _ hp)
  clear hp HCL HLB
  go_wp2_with fail
  go_ret
  exact ⟨rfl, HP.out⟩
/-- Every statement. -/
theorem nst_step (w0 : World) (b fm : Nat) (ft : List (List UInt8 × Int)) (K : Nat) (ih : LsN w0 b fm ft K) : StN w0 b fm ft (K + 1) := fun s a x bs env m v cs w hk hin hB hw h1 h2 h3 h4 => by
  by_cases k1 : s.kind = 1
  · exact nst_let w0 b fm ft s a x bs env m v cs w k1 hin hB hw h1 h2
  by_cases k2 : s.kind = 2
  · exact nst_arr w0 b fm ft s a x bs env m v cs w k2 hin hB hw h1 h2
  by_cases k3 : s.kind = 3
  · exact nst_asg w0 b fm ft s a x bs env m v cs w k3 hin hB hw h1 h2
  by_cases k4 : s.kind = 4
  · exact nst_sto w0 b fm ft s a x bs env m v cs w k4 hin hB hw h1 h2
  by_cases k5 : s.kind = 5
  · exact nst_if w0 b fm ft K ih s a x bs env m v cs w k5 hin hB hw h1 h2 h3 h4 hk
  by_cases k6 : s.kind = 6
  · exact nst_switch w0 b fm ft K ih s a x bs env m v cs w k6 hin hB hw h1 h2 h3 h4 hk
  by_cases k7 : s.kind = 7
  · exact nst_for w0 b fm ft K ih s a x bs env m v cs w k7 hin hB hw h1 h2 h3 h4 hk
  by_cases k8 : s.kind = 8
  · exact nst_brk w0 b fm ft s a x bs env m v cs w k8 hin hB hw h1 h2
  · exact nst_oth w0 b fm ft s a x bs env m v cs w ⟨k1, k2, k3, k4, k5, k6, k7, k8⟩ hin hB hw h1 h2
theorem nst_zero (w0 : World) (b fm : Nat) (ft : List (List UInt8 × Int)) : StN w0 b fm ft 0 := fun s _ _ _ _ _ _ _ _ hk => by have := qS_pos s; omega
theorem nst_all (w0 : World) (b fm : Nat) (ft : List (List UInt8 × Int)) : ∀ K, StN w0 b fm ft K
  | 0 => nst_zero w0 b fm ft
  | K + 1 => nst_step w0 b fm ft K (nlist_step w0 b fm ft K (nst_all w0 b fm ft K))
/-- Lists of statements. -/
theorem nlist_all (w0 : World) (b fm : Nat) (ft : List (List UInt8 × Int)) (K : Nat) : LsN w0 b fm ft K := nlist_step w0 b fm ft K (nst_all w0 b fm ft K)
end Go.Proofs.YtkkcgkpbbngloaaGreatDoor

/- What a look at a function comes to; the walker's first scope. -/
namespace Go.Proofs.YtkkcgkpbbngloaaGreatDoor
open Go.RowKit Go.Sort

/-- The parameters made known. -/
def paS : List Pa → Env → Int × Env
  | [], env => (0, env)
  | p :: r, env => if dcZ env p.name.data.toList ≠ 0 then (dcZ env p.name.data.toList, env) else paS r (dcEnv env p.name.data.toList 1)
theorem paS_drop {l : List Pa} {j : Nat} {env : Env} (h : j < l.length) : paS (l.drop j) env = if dcZ env l[j].name.data.toList ≠ 0 then (dcZ env l[j].name.data.toList, env) else paS (l.drop (j + 1)) (dcEnv env l[j].name.data.toList 1) := by
  rw [List.drop_eq_getElem_cons h, paS]
theorem paS_tail : ∀ (l : List Pa) (f : Bool × List (List UInt8 × Int)) (env : Env), ∃ f', f'.1 = f.1 ∧ f'.2.length ≤ f.2.length + l.length ∧ (paS l (f :: env)).2 = f' :: env
  | [], f, env => ⟨f, rfl, by simp, by rw [paS]⟩
  | p :: r, f, env => by
    rw [paS]
    split
    · exact ⟨f, rfl, by simp only [List.length_cons]; omega, rfl⟩
    · obtain ⟨f1, h1, h2, h3⟩ := dcEnv_tail f env p.name.data.toList 1
      rw [h3]
      obtain ⟨f2, g1, g2, g3⟩ := paS_tail r f1 env
      exact ⟨f2, g1.trans h1, by simp only [List.length_cons]; omega, g3⟩
/-- What is wrong in a function, the statement's number, and whom it calls. -/
def fnS (ft : List (List UInt8 × Int)) (f : Fu) : SR :=
  if tabHas ft f.name.data.toList = true then ⟨9, 0, [], []⟩
  else if (paS f.params [(false, [])]).1 ≠ 0 then ⟨(paS f.params [(false, [])]).1, 0, (paS f.params [(false, [])]).2, []⟩
  else lsS ft f.body (paS f.params [(false, [])]).2 0
/-- The first scope: a map, a box behind it, and the walker's cell 0. -/
theorem ws_first {N b fm : Nat} {W : World} {ft m v cs} (h : WS N W b fm none [] [] ft m v cs) (hN : N ≤ W.heap.size) :
    WS N (((W.alloc (.map #[] 0)).alloc (.cells #[.pointer none, .map (some W.heap.size), .bool false] 80)).setCell ⟨b, 0, none⟩ (.pointer (some ⟨W.heap.size + 1, 0, none⟩))) b fm (some ⟨W.heap.size + 1, 0, none⟩) [(W.heap.size + 1, W.heap.size)] [(false, [])] ft m v cs := by
  have hb1 : Below W.heap.size W (W.alloc (.map #[] 0)) := (Below.refl _ W).alloc (Nat.le_refl _) _
  have hb2 : Below W.heap.size W ((W.alloc (.map #[] 0)).alloc (.cells #[.pointer none, .map (some W.heap.size), .bool false] 80)) := hb1.alloc (by simp) _
  have hlb := h.lt
  have hlf := h.2.2.1.lt
  have hnd := h.2.2.2.2.1
  refine ws_scope (h.stay hb2) ⟨rfl, ⟨none, ?_, rfl⟩, (tab_made W).stay ((Below.refl _ _).alloc (Nat.le_refl _) _)⟩ ?_ (fun g hg hy => ?_) (fun g hg => ?_)
  · have := heap_alloc_new (W.alloc (.map #[] 0)) (.cells #[.pointer none, .map (some W.heap.size), .bool false] 80)
    rwa [World.size_alloc] at this
  · simp only [chB, List.nodup_cons, List.mem_cons, List.not_mem_nil, or_false, not_or, not_false_eq_true, List.nodup_nil, and_true] at hnd ⊢
    exact ⟨⟨hnd, by omega, by omega⟩, ⟨by omega, by omega⟩, by omega⟩
  · have h1 := (own_lt h.2.2.2.1 g hg).2
    have h2 := h.2.2.2.2.2.1 g hg
    simp only [chB, List.mem_cons, List.not_mem_nil, or_false, not_or] at hy h2
    rcases hy with hy | hy | hy | hy
    · exact h2.1 hy
    · exact h2.2 hy
    · omega
    · omega
  · have h2 := h.2.2.2.2.2.2 g
    simp only [chB, List.mem_cons, List.not_mem_nil, or_false] at hg h2
    rcases hg with hg | hg | hg | hg
    · exact h2 (Or.inl hg)
    · exact h2 (Or.inr hg)
    · omega
    · omega
end Go.Proofs.YtkkcgkpbbngloaaGreatDoor

/- The program's walker: a function. -/
namespace Go.Proofs.YtkkcgkpbbngloaaGreatDoor
open Go.RowKit Go.Sort

set_option maxRecDepth 100000 in
set_option maxHeartbeats 4000000 in
theorem nfn_twice (w0 : World) (b fm : Nat) (ft : List (List UInt8 × Int)) (f : Fu) (v : Value) (cs : List Int) (w : World) (hz : f.name.size ≤ 140737488351232) (hw : WS w0.heap.size w b fm none [] [] ft 0 v cs) (hh : tabHas ft f.name.data.toList = true) :
    Calls Tryz.prog 17 #[.pointer (some ⟨b, 0, none⟩), f.val] w fun e w' => e = .returned (.int .i64 9) ∧ WS w0.heap.size w' b fm none [] [] ft 0 v cs ∧ Below w.heap.size w w' := by
  have hb0 := (Below.refl _ w).alloc (Nat.le_refl _) (.cells #[.string f.name, .slice f.pa f.params.length f.pc, .slice f.ba f.body.length f.bc] 38)
  have hb1 := Below.drew hb0
  have hw1 := hw.stay hb1
  have HL := hw1.2.2.1.look f.name (by unfold maxLen; omega)
  rw [hh] at HL
  have c1 := hw.cellF
  have hlt := hw.lt
  have HP : Hid (WS w0.heap.size (w.alloc (.cells #[.string f.name, .slice f.pa f.params.length f.pc, .slice f.ba f.body.length f.bc] 38)).drew b fm none [] [] ft 0 v cs ∧ Below w.heap.size w (w.alloc (.cells #[.string f.name, .slice f.pa f.params.length f.pc, .slice f.ba f.body.length f.bc] 38)).drew) := ⟨hw1, hb1⟩
  have e1 := hw1.cellF
  have e2 : (w.alloc (.cells #[.string f.name, .slice f.pa f.params.length f.pc, .slice f.ba f.body.length f.bc] 38)).drew.cell? ⟨w.heap.size, 0, none⟩ = some (.string f.name) := by
    show (w.alloc (.cells #[.string f.name, .slice f.pa f.params.length f.pc, .slice f.ba f.body.length f.bc] 38)).cell? ⟨w.heap.size, 0, none⟩ = _
    rw [World.cell?_alloc_at _ _ _ _ rfl]; rfl
  clear hb0 hb1 hw hw1 hz
  generalize tabAt ft f.name.data.toList = num at *
  unfold Fu.val
  go_enter Tryz.func17, Tryz.ntmps17
  go_wp2_with fail
  generalize w.alloc (.cells #[.string f.name, .slice f.pa f.params.length f.pc, .slice f.ba f.body.length f.bc] 38) = W1 at *
  go_region_held (fun w' => w'.cell? ⟨b, 1, none⟩ = some (.map (some fm)) ∧ w'.cell? ⟨w.heap.size, 0, none⟩ = some (.string f.name)) (exact ⟨by assumption, by assumption⟩) (fail)
  go_wp2_with fail
  go_ret
  exact ⟨rfl, HP.out⟩
end Go.Proofs.YtkkcgkpbbngloaaGreatDoor

/- The program's walker: a function of a new name. -/
namespace Go.Proofs.YtkkcgkpbbngloaaGreatDoor
open Go.RowKit Go.Sort

theorem rowPa_at {W : World} {a : Option Addr} {l : List Pa} (h : RowIn W a 3 (l.map Pa.cells)) {i : Nat} (hi : i < l.length) :
    ∃ b o, a = some ⟨b, o, none⟩ ∧ W.cell? ⟨b, o + i * 3, none⟩ = some (.string l[i].name) ∧ W.cell? ⟨b, o + i * 3 + 1, none⟩ = some (.int .i64 l[i].lo) ∧ W.cell? ⟨b, o + i * 3 + 2, none⟩ = some (.int .i64 l[i].hi) := by
  obtain ⟨b, o, e, hc⟩ := h i l[i].cells (by simp [hi])
  exact ⟨b, o, e, hc 0 _ rfl, hc 1 _ rfl, hc 2 _ rfl⟩
theorem ws_first' {N b fm : Nat} {W : World} {ft m v cs} (h : WS N W b fm none [] [] ft m v cs) (hN : N ≤ W.heap.size) :
    WS N (((W.setCell ⟨b, 0, none⟩ (.pointer (some ⟨W.heap.size + 1, 0, none⟩))).alloc (.map #[] 0)).alloc (.cells #[.pointer none, .map (some W.heap.size), .bool false] 80)) b fm (some ⟨W.heap.size + 1, 0, none⟩) [(W.heap.size + 1, W.heap.size)] [(false, [])] ft m v cs := by
  have := ws_first h hN
  rwa [World.setCell_alloc_past _ _ _ _ (by have := h.lt; simp; omega), World.setCell_alloc_past _ _ _ _ h.lt] at this
set_option maxRecDepth 100000 in
set_option maxHeartbeats 4000000 in
theorem nfn_new (w0 : World) (b fm : Nat) (ft : List (List UInt8 × Int)) (f : Fu) (v : Value) (cs : List Int) (w : World) (hin : f.In w0) (hB : Below w0.heap.size w0 w) (hw : WS w0.heap.size w b fm none [] [] ft 0 v cs) (hh : tabHas ft f.name.data.toList = false) (h1 : cs.length + qSs f.body ≤ 1000000) (h2 : f.params.length + qSs f.body ≤ 900000) :
    Calls Tryz.prog 17 #[.pointer (some ⟨b, 0, none⟩), f.val] w fun e w' => e = .returned (.int .i64 (fnS ft f).e) ∧ ∃ a' bs' v' cs', WS w0.heap.size w' b fm a' bs' (fnS ft f).env ft (fnS ft f).m v' cs' ∧ ((fnS ft f).e = 0 → cs' = cs ++ (fnS ft f).c) ∧ Fr (b :: ob v) w w' ∧ ∀ g ∈ ob v', g ∈ ob v ∨ w.heap.size ≤ g := by
  obtain ⟨hz, hpl, hpc, _, hrow, hok, hbody⟩ := hin
  have HRR : Hid (fnS ft f = (if (paS f.params [(false, [])]).1 ≠ 0 then ⟨(paS f.params [(false, [])]).1, 0, (paS f.params [(false, [])]).2, []⟩ else lsS ft f.body (paS f.params [(false, [])]).2 0)) := by show _ = _; rw [fnS, if_neg (by rw [hh]; simp)]
  generalize fnS ft f = R at HRR ⊢
  have HH := Hid.mk' (And.intro h1 h2)
  clear h1 h2
  have hb0 := (Below.refl _ w).alloc (Nat.le_refl _) (.cells #[.string f.name, .slice f.pa f.params.length f.pc, .slice f.ba f.body.length f.bc] 38)
  have hb1 := Below.drew hb0
  have hw1 := hw.stay hb1
  have HL := hw1.2.2.1.look f.name (by unfold maxLen; omega)
  rw [hh] at HL
  have hlt1 := hw1.lt
  have e0 := hw1.cellS
  have q0 := hw1.frozen 0
  have e1 := hw1.cellF
  have e2 : (w.alloc (.cells #[.string f.name, .slice f.pa f.params.length f.pc, .slice f.ba f.body.length f.bc] 38)).drew.cell? ⟨w.heap.size, 0, none⟩ = some (.string f.name) := by
    show (w.alloc (.cells #[.string f.name, .slice f.pa f.params.length f.pc, .slice f.ba f.body.length f.bc] 38)).cell? ⟨w.heap.size, 0, none⟩ = _
    rw [World.cell?_alloc_at _ _ _ _ rfl]; rfl
  have e3 : (w.alloc (.cells #[.string f.name, .slice f.pa f.params.length f.pc, .slice f.ba f.body.length f.bc] 38)).drew.cell? ⟨w.heap.size, 1, none⟩ = some (.slice f.pa f.params.length f.pc) := by
    show (w.alloc (.cells #[.string f.name, .slice f.pa f.params.length f.pc, .slice f.ba f.body.length f.bc] 38)).cell? ⟨w.heap.size, 1, none⟩ = _
    rw [World.cell?_alloc_at _ _ _ _ rfl]; rfl
  have e4 : (w.alloc (.cells #[.string f.name, .slice f.pa f.params.length f.pc, .slice f.ba f.body.length f.bc] 38)).drew.cell? ⟨w.heap.size, 2, none⟩ = some (.slice f.ba f.body.length f.bc) := by
    show (w.alloc (.cells #[.string f.name, .slice f.pa f.params.length f.pc, .slice f.ba f.body.length f.bc] 38)).cell? ⟨w.heap.size, 2, none⟩ = _
    rw [World.cell?_alloc_at _ _ _ _ rfl]; rfl
  have c1 := hw.cellF
  have hlt := hw.lt
  have hbs : w.heap.size ≠ b := by omega
  have HOV := Hid.mk' (fun g hg => (own_lt hw.2.2.2.1 g hg).2)
  have HWW := Hid.mk' hw1
  have HBB := Hid.mk' (hb1.mono (Nat.le_refl _))
  have HIN := Hid.mk' (And.intro hB (And.intro hrow (And.intro hok hbody)))
  generalize tabAt ft f.name.data.toList = num at *
  clear hb0 hb1 hw hw1 hB hrow hok hbody
  have hmm := @run_makeMap Tryz.prog
  unfold Fu.val
  go_enter Tryz.func17, Tryz.ntmps17
  go_wp2_with fail
  generalize w.alloc (.cells #[.string f.name, .slice f.pa f.params.length f.pc, .slice f.ba f.body.length f.bc] 38) = W1 at *
  go_region_held (fun w' => w'.cell? ⟨b, 1, none⟩ = some (.map (some fm)) ∧ w'.cell? ⟨w.heap.size, 0, none⟩ = some (.string f.name)) (exact ⟨by assumption, by assumption⟩) (fail)
  generalize W1.drew = W2 at *
  have HS4 := Hid.mk' (ws_first' HWW.out (Nat.le_trans HIN.out.1.size HBB.out.size))
  have hf4 : Fr [b] W2 (((W2.setCell ⟨b, 0, none⟩ (.pointer (some ⟨W2.heap.size + 1, 0, none⟩))).alloc (.map #[] 0)).alloc (.cells #[.pointer none, .map (some W2.heap.size), .bool false] 80)) := (((Fr.refl _ W2).set (by simp) _ _).alloc _).alloc _
  have d3 : (((W2.setCell ⟨b, 0, none⟩ (.pointer (some ⟨W2.heap.size + 1, 0, none⟩))).alloc (.map #[] 0)).alloc (.cells #[.pointer none, .map (some W2.heap.size), .bool false] 80)).cell? ⟨w.heap.size, 1, none⟩ = some (.slice f.pa f.params.length f.pc) := (hf4.cell (World.block_lt_of_cell? _ _ e3) (by simpa using hbs)).trans e3
  have d4 : (((W2.setCell ⟨b, 0, none⟩ (.pointer (some ⟨W2.heap.size + 1, 0, none⟩))).alloc (.map #[] 0)).alloc (.cells #[.pointer none, .map (some W2.heap.size), .bool false] 80)).cell? ⟨w.heap.size, 2, none⟩ = some (.slice f.ba f.body.length f.bc) := (hf4.cell (World.block_lt_of_cell? _ _ e4) (by simpa using hbs)).trans e4
  have HW2 := Hid.mk' (World.block_lt_of_cell? _ _ e3)
  have HNB : Hid (w.heap.size ∉ b :: W2.heap.size :: ob v) := fun hy => by
    have := HW2.out
    simp only [List.mem_cons] at hy this
    rcases hy with hy | hy | hy
    · exact hbs hy
    · omega
    · have := HOV.out _ hy; omega
  have HF4 := Hid.mk' hf4
  clear hf4
  go_upto_region 5 with fail
  clear e0 e1 e2 e3 e4 q0 HL
  generalize ((W2.setCell ⟨b, 0, none⟩ (.pointer (some ⟨W2.heap.size + 1, 0, none⟩))).alloc (.map #[] 0)).alloc (.cells #[.pointer none, .map (some W2.heap.size), .bool false] 80) = W4 at *
  obtain ⟨P, HP⟩ : ∃ P, Hid (paS f.params [(false, [])] = P) := ⟨_, rfl⟩
  rw [HP.out] at HRR
  have HNL : Hid (∀ g ∈ b :: W2.heap.size :: ob v, w0.heap.size ≤ g) := fun q hq => by
    rcases List.mem_cons.1 hq with rfl | hq
    · exact HS4.out.2.2.2.2.2.2 q (by simp)
    rcases List.mem_cons.1 hq with rfl | hq
    · exact HS4.out.2.2.2.2.2.2 _ (by simp [chB])
    · exact (own_lt HS4.out.2.2.2.1 q hq).1
  have HB4 : Hid (Below w0.heap.size w0 W4) := (HIN.out.1.trans (HBB.out.mono HIN.out.1.size)).trans (HF4.out.below (fun q hq => by
    have : q = b := by simpa using hq
    subst this; exact HNL.out q (by simp)) (Nat.le_trans HIN.out.1.size HBB.out.size))
  have HFIN : Hid (∀ W', Fr (b :: W2.heap.size :: ob v) W4 W' → Fr (b :: ob v) w W') := fun W' h => ((Fr.of_below (S := b :: ob v) HBB.out).trans (HF4.out.mono fun q hq => by have e : q = b := (by simpa using hq); rw [e]; simp)).trans' h (fun q hq => by
    simp only [List.mem_cons] at hq
    rcases hq with hq | hq | hq
    · exact Or.inl (by simp [hq])
    · exact Or.inr (by rw [hq]; exact HBB.out.size)
    · exact Or.inl (by simp [hq]))
  have HSW : Hid (w.heap.size ≤ W4.heap.size) := Nat.le_trans HBB.out.size HF4.out.size
  go_wp2_with fail
  go_loopw [30] (fun t30 wr => ∃ (j : Nat) (env' : Env), j ≤ f.params.length ∧ t30 = .int .i64 j ∧ GS w0.heap.size b fm (some ⟨W2.heap.size + 1, 0, none⟩) (W2.heap.size + 1, W2.heap.size) [] ft v cs (b :: W2.heap.size :: ob v) True 0 [] W4 wr env' 0 ∧ paS (f.params.drop j) env' = P ∧ ∀ h ∈ env', h.2.length + (f.params.length - j) ≤ f.params.length) (fun t30 _ => f.params.length - (intOf t30).toNat)
  case atStart => exact ⟨0, [(false, [])], Nat.zero_le _, rfl, GS.start HS4.out True, HP.out, by simp⟩
  case round =>
    obtain ⟨j, env', hj, rfl, q1, q2, q3⟩ := hrel
    have HX := Hid.mk' q1
    have HQ := Hid.mk' q2
    have HQ3 := Hid.mk' q3
    have d4 := (q1.frw.cell (World.block_lt_of_cell? _ _ d4) HNB.out).trans d4
    clear q1 q2 q3
    by_cases hlt : j < f.params.length
    · have hrw : RowIn wr f.pa 3 (f.params.map Pa.cells) := HIN.out.2.1.below (HB4.out.trans (HX.out.frw.below HNL.out HB4.out.size))
      generalize f.pa = fpa at *
      obtain ⟨g, o, rfl, r0, r1, r2⟩ := rowPa_at hrw hlt
      clear hrw
      have hli : (j : Int) < (f.params.length : Int) := by omega
      have HY := Hid.mk' (HIN.out.2.2.1 _ (List.getElem_mem hlt)).1
      have HPD : Hid (paS (f.params.drop j) env' = if dcZ env' f.params[j].name.data.toList ≠ 0 then (dcZ env' f.params[j].name.data.toList, env') else paS (f.params.drop (j + 1)) (dcEnv env' f.params[j].name.data.toList 1)) := paS_drop hlt
      have HLE : Hid (∀ h ∈ dcEnv env' f.params[j].name.data.toList 1, h.2.length + (f.params.length - (j + 1)) ≤ f.params.length) := by
        have hx := HQ3.out
        match env', HX.out.chain, hx with
        | [], hx, _ => exact hx.elim
        | h0 :: er, _, hx =>
          obtain ⟨f', _, hf, he⟩ := dcEnv_tail h0 er f.params[j].name.data.toList 1
          show ∀ _ ∈ _, _
          rw [he]
          intro q hq
          rcases List.mem_cons.1 hq with rfl | hq
          · have := hx h0 (by simp); omega
          · have := hx q (by simp [hq]); omega
      generalize f.params[j] = y at *
      obtain ⟨v1, cs1, i1, i2, i3, i4, i5⟩ := HX.out
      have hb2 := (Below.refl _ wr).alloc (Nat.le_refl _) (.cells #[.string y.name, .int .i64 y.lo, .int .i64 y.hi] 70)
      have hnL1 := ws_new i1
      have z1 : ∀ W, SX b (some ⟨W2.heap.size + 1, 0, none⟩) (b :: W2.heap.size :: ob v1) (wr.alloc (.cells #[.string y.name, .int .i64 y.lo, .int .i64 y.hi] 70)) W → W.cell? ⟨wr.heap.size, 0, none⟩ = some (.string y.name) := fun W h => h.cell (by rw [World.cell?_alloc_at _ _ _ _ rfl]; rfl) hnL1
      have z0 : ∀ W, SX b (some ⟨W2.heap.size + 1, 0, none⟩) (b :: W2.heap.size :: ob v1) (wr.alloc (.cells #[.string y.name, .int .i64 y.lo, .int .i64 y.hi] 70)) W → W.cell? ⟨b, 0, none⟩ = some (.pointer (some ⟨W2.heap.size + 1, 0, none⟩)) := fun W h => h.2
      have g5 : GS w0.heap.size b fm (some ⟨W2.heap.size + 1, 0, none⟩) (W2.heap.size + 1, W2.heap.size) [] ft v1 cs1 (b :: W2.heap.size :: ob v1) True 0 [] (wr.alloc (.cells #[.string y.name, .int .i64 y.lo, .int .i64 y.hi] 70)) (wr.alloc (.cells #[.string y.name, .int .i64 y.lo, .int .i64 y.hi] 70)).drew env' 0 := (GS.start (i1.stay hb2) True).below (Below.drew (Below.refl _ _))
      have HD5 : Hid (∀ W, GS w0.heap.size b fm (some ⟨W2.heap.size + 1, 0, none⟩) (W2.heap.size + 1, W2.heap.size) [] ft v1 cs1 (b :: W2.heap.size :: ob v1) True 0 [] (wr.alloc (.cells #[.string y.name, .int .i64 y.lo, .int .i64 y.hi] 70)) W env' 0 → Calls Tryz.prog 27 #[.pointer (some ⟨W2.heap.size + 1, 0, none⟩), .string y.name, .int .i64 1] W fun e W' => e = .returned (.int .i64 (dcZ env' y.name.data.toList)) ∧ GS w0.heap.size b fm (some ⟨W2.heap.size + 1, 0, none⟩) (W2.heap.size + 1, W2.heap.size) [] ft v1 cs1 (b :: W2.heap.size :: ob v1) True 0 [] (wr.alloc (.cells #[.string y.name, .int .i64 y.lo, .int .i64 y.hi] 70)) W' (dcEnv env' y.name.data.toList 1) 0) :=
        fun W h => gs_declare w0 b fm h y.name HY.out 1 (by unfold I64; omega) (by simp) (fun h hh => by have := HQ3.out h hh; have := HH.out; omega)
      have HC5 : Hid (∀ W (env3 : Env), GS w0.heap.size b fm (some ⟨W2.heap.size + 1, 0, none⟩) (W2.heap.size + 1, W2.heap.size) [] ft v1 cs1 (b :: W2.heap.size :: ob v1) True 0 [] (wr.alloc (.cells #[.string y.name, .int .i64 y.lo, .int .i64 y.hi] 70)) W env3 0 → GS w0.heap.size b fm (some ⟨W2.heap.size + 1, 0, none⟩) (W2.heap.size + 1, W2.heap.size) [] ft v cs (b :: W2.heap.size :: ob v) True (0 + 0) ([] ++ []) W4 W env3 0) := fun W env3 h => GS.comp (i2 trivial) i3 i4 i5 hb2 h
      have HDE : Hid (dcZ env' y.name.data.toList ≠ 0 → dcEnv env' y.name.data.toList 1 = env') := fun h => by
        unfold dcZ at h
        unfold dcEnv
        split
        · rfl
        · rename_i hc; rw [if_neg hc] at h; exact absurd rfl h
      clear i1 i2 i3 i4 i5 hnL1 hb2
      generalize dcZ env' y.name.data.toList = zd at *
      generalize dcEnv env' y.name.data.toList 1 = en at *
      go_wp2_with fail
      generalize wr.alloc (.cells #[.string y.name, .int .i64 y.lo, .int .i64 y.hi] 70) = W5 at *
      go_region_held (fun w' => SX b (some ⟨W2.heap.size + 1, 0, none⟩) (b :: W2.heap.size :: ob v1) W5 w') (first | exact GS.sx (by assumption) | assumption)
        (first | (go_at_call 27; refine (HD5.out _ (by assumption)).mono ?_; rintro e w' ⟨rfl, hg⟩))
      have HG6 := Hid.mk' (HC5.out _ _ hg)
      clear hg g5 HD5 HC5 z0 z1 r0 r1 r2
      cases hzd : (zd != 0)
      · have hzd0 : zd = 0 := by simpa using hzd
        have HV : Hid (paS (f.params.drop (j + 1)) en = P) := by show _ = _; rw [← HQ.out, HPD.out, if_neg (by simpa using hzd0)]
        clear hzd0
        go_wp2_with fail
        go_roundw
        case rel => exact ⟨j + 1, en, by omega, by go_num, HG6.out, HV.out, HLE.out⟩
        case measure => simp [intOf]; omega
      · have hzdn : zd ≠ 0 := by simpa using hzd
        have HV : Hid (R = ⟨zd, 0, env', []⟩) := by show _ = _; rw [HRR.out, ← HQ.out, HPD.out, if_pos hzdn, if_pos (by exact hzdn)]
        have HEN := Hid.mk' (HDE.out hzdn)
        clear hzdn
        go_wp2_with fail
        go_ret
        obtain ⟨v2, cs2, j1, j2, j3, j4, j5⟩ := HG6.out
        refine ⟨ret_int (by rw [HV.out]), _, _, v2, cs2, by rw [HV.out, ← HEN.out]; exact j1, fun _ => by rw [HV.out]; simpa using j2 trivial, HFIN.out _ j4, fun g hg => ?_⟩
        rcases j5 g hg with h' | h'
        · exact Or.inl h'
        · exact Or.inr (Nat.le_trans HSW.out h')
    · have hli : ¬ (j : Int) < (f.params.length : Int) := by omega
      have HE2 : Hid (P = (0, env')) := by show _ = _; rw [← HQ.out, List.drop_eq_nil_of_le (by omega), paS]
      have HR1 : Hid (R = lsS ft f.body env' 0) := by show _ = _; rw [HRR.out, HE2.out, if_neg (by simp)]
      obtain ⟨v1, cs1, i1, i2, i3, i4, i5⟩ := HX.out
      have HLS := Hid.mk' (nlist_all w0 b fm ft (qSs f.body) f.body f.ba f.bc (some ⟨W2.heap.size + 1, 0, none⟩) (W2.heap.size + 1, W2.heap.size) [] env' 0 v1 cs1 wr (Nat.le_refl _) HIN.out.2.2.2 (HB4.out.trans (i4.below HNL.out HB4.out.size)) i1 (by have := HH.out; omega) (fun h hh => by have := HQ3.out h hh; have := HH.out; omega) (by omega) (by have := HH.out; omega))
      have HC := Hid.mk' (And.intro (i2 trivial) (And.intro i4 i5))
      clear i1 i2 i3 i4 i5
      rw [← HR1.out] at HLS
      go_wp2_with fail
      refine HLS.out.mono ?_
      rintro e w6 ⟨rfl, hp⟩
      have HP6 := Hid.mk' hp
      clear hp HLS
      go_wp2_with fail
      go_ret
      obtain ⟨v2, cs2, j1, j2, j3, j4, j5⟩ := HP6.out
      refine ⟨rfl, _, _, v2, cs2, j1, fun e => by rw [j2 e, HC.out.1, List.append_nil], HFIN.out _ (HC.out.2.1.trans' j4 fun q hq => ?_), fun g hg => ?_⟩
      · simp only [List.mem_cons] at hq
        rcases hq with hq | hq | hq
        · exact Or.inl (by simp [hq])
        · exact Or.inl (by simp [hq])
        · rcases HC.out.2.2 q hq with h' | h'
          · exact Or.inl (by simp [h'])
          · exact Or.inr h'
      · rcases j5 g hg with h' | h'
        · rcases HC.out.2.2 g h' with h'' | h''
          · exact Or.inl h''
          · exact Or.inr (Nat.le_trans HSW.out h'')
        · exact Or.inr (Nat.le_trans HSW.out (Nat.le_trans HC.out.2.1.size h'))
end Go.Proofs.YtkkcgkpbbngloaaGreatDoor

/- checkStmts, walked. -/
namespace Go.Proofs.YtkkcgkpbbngloaaGreatDoor
open Go.RowKit Go.Sort

theorem ret_two {a b c d : Int} (h : (a, b) = (c, d)) : Ending.returned (.tuple #[.int .i64 a, .int .i64 b]) = .returned (.tuple #[.int .i64 c, .int .i64 d]) := by cases h; rfl

set_option maxRecDepth 100000 in
set_option maxHeartbeats 8000000 in
theorem checkStmts_k (k : Nat) : ∀ (l : List St) (a : Option Addr) (c : Nat) (lv at_ : Int) (w : World), ssz l < k → Have w a c l → Tabs w → 0 ≤ lv → lv ≤ 40 → 0 ≤ at_ → at_ + ssz l ≤ 1000000000 →
    Calls Tryz.prog 50 #[.slice a l.length c, .int .i64 lv, .int .i64 at_] w fun e w' => e = .returned (.tuple #[.int .i64 (chkSs l lv at_).1, .int .i64 (chkSs l lv at_).2]) ∧ Below w.heap.size w w' := by
  induction k with
  | zero => intro l a c lv at_ w hk; omega
  | succ k ih =>
    intro l a c lv at_ w hk hin ht h0 h1 h2 h3
    obtain ⟨⟨hl, hc, _, hrow⟩, hsub⟩ := hin
    have IH : Hid (∀ (l : List St) (a : Option Addr) (c : Nat) (lv at_ : Int) (w : World), ssz l < k → Have w a c l → Tabs w → 0 ≤ lv → lv ≤ 40 → 0 ≤ at_ → at_ + ssz l ≤ 1000000000 →
      Calls Tryz.prog 50 #[.slice a l.length c, .int .i64 lv, .int .i64 at_] w fun e w' => e = .returned (.tuple #[.int .i64 (chkSs l lv at_).1, .int .i64 (chkSs l lv at_).2]) ∧ Below w.heap.size w w') := ih
    have HS : Hid (∀ x ∈ l, x.In w) := hsub
    have HR : Hid (RowIn w a 14 (List.map St.cells l)) := hrow
    have HT : Hid (Tabs w) := ht
    obtain ⟨R, hR⟩ : ∃ R, chkSs l lv at_ = R := ⟨_, rfl⟩
    rw [hR]
    clear ih hsub hrow ht
    go_enter Tryz.func50, Tryz.ntmps50
    go_wp2_with fail
    go_loopw [2, 16] (fun t2 t16 wr => ∃ (j : Nat) (m : Int), j ≤ l.length ∧ t2 = .int .i64 m ∧ t16 = .int .i64 j ∧ 0 ≤ m ∧ m + ssz (l.drop j) ≤ 1000000000 ∧ chkSs (l.drop j) lv m = R ∧ Below w.heap.size w wr) (fun _ t16 _ => l.length - (intOf t16).toNat)
    case atStart => exact ⟨0, at_, Nat.zero_le _, rfl, rfl, h2, h3, hR, Below.refl _ w⟩
    case round =>
      obtain ⟨j, m, hj, rfl, rfl, hm0, hm1, hcnt, hb⟩ := hrel
      have HC : Hid (chkSs (l.drop j) lv m = R) := hcnt
      clear hcnt hR
      have hws := hb.size
      by_cases hlt : j < l.length
      · obtain ⟨b, o, rfl, hcell⟩ := rowS_at (HR.out.below hb) hlt
        have c0 := hcell 0 _ rfl
        have c1 := hcell 1 _ rfl
        have c2 := hcell 2 _ rfl
        have c3 := hcell 3 _ rfl
        have c4 := hcell 4 _ rfl
        have c5 := hcell 5 _ rfl
        have c6 := hcell 6 _ rfl
        have c7 := hcell 7 _ rfl
        have c8 := hcell 8 _ rfl
        have c9 := hcell 9 _ rfl
        have c10 := hcell 10 _ rfl
        have c11 := hcell 11 _ rfl
        have c12 := hcell 12 _ rfl
        have c13 := hcell 13 _ rfl
        simp only [← Nat.add_assoc, Nat.add_zero] at c0 c1 c2 c3 c4 c5 c6 c7 c8 c9 c10 c11 c12 c13
        clear hcell
        have hli : (j : Int) < (l.length : Int) := by omega
        have hsy := ssz_mem (List.getElem_mem hlt)
        have hdr := ssz_drop hlt
        rw [hdr] at hm1
        have HY : Hid (l[j].In w) := HS.out l[j] (List.getElem_mem hlt)
        have HZ : Hid (l[j].sz ≤ k) := (by omega : l[j].sz ≤ k)
        have HD : Hid (chkSs (l.drop j) lv m = thenZ (chkT l[j] lv m) fun m => chkSs (l.drop (j + 1)) lv m) := chkSs_drop hlt
        clear hsy hdr
        generalize l[j] = s at *
        have HQ := chkT_eq s lv m
        have HBX0 : Hid (BoxS _ wr.heap.size s) := boxS_new wr s
        have hb1 := hb.alloc hws (.cells #[.int .i64 s.kind, .string s.name, .int .i64 s.n, .int .i64 s.a.kind, .int .i64 s.a.n, .string s.a.name, .slice s.a.a s.a.args.length s.a.cap, .int .i64 s.b.kind, .int .i64 s.b.n, .string s.b.name, .slice s.b.a s.b.args.length s.b.cap, .slice s.ba s.body.length s.bc, .slice s.ea s.els.length s.ec, .slice s.ca s.cases.length s.cc] 44)
        have hs1 := hb1.size
        have hsz := s.sz_eq
        go_wp2_with fail
        refine (checkStmt_any s lv _ (HY.out.stay hb1) (HT.out.stay hb1) h0 (by omega)).mono ?_
        rintro e w1 ⟨rfl, hbc⟩
        have BX : Hid (BoxS w1 wr.heap.size s) := HBX0.out.below hbc (by simp)
        have hb2 : Below w.heap.size w w1 := hb1.trans (hbc.mono hs1)
        have hs2 : w.heap.size ≤ w1.heap.size := hb2.size
        clear c0 c1 c2 c3 c4 c5 c6 c7 c8 c9 c10 c11 c12 c13 HBX0 hbc hb1 hs1
        have HQ' : Hid (chkT s lv m = if chkS s lv ≠ 0 then (chkS s lv, m + 1) else chkBd (bods s) (lv + 1) (m + 1)) := HQ
        have h32 : Hid (chkS s lv = 0 → lv ≤ 32) := by
          show _ → _; intro h; unfold chkS at h; by_cases h' : 32 < lv
          · rw [if_pos h'] at h; omega
          · omega
        clear HQ
        generalize chkS s lv = v at HQ' h32 ⊢
        cases ev : (v != 0)
        · have ev' : v = 0 := by simpa using ev
          have hlv := h32.out ev'
          have d0 := BX.out 0 _ rfl
          have d1 := BX.out 1 _ rfl
          have d2 := BX.out 2 _ rfl
          have d3 := BX.out 3 _ rfl
          have d4 := BX.out 4 _ rfl
          have d5 := BX.out 5 _ rfl
          have d6 := BX.out 6 _ rfl
          have d7 := BX.out 7 _ rfl
          have d8 := BX.out 8 _ rfl
          have d9 := BX.out 9 _ rfl
          have d10 := BX.out 10 _ rfl
          have d11 := BX.out 11 _ rfl
          have d12 := BX.out 12 _ rfl
          have d13 := BX.out 13 _ rfl
          clear ev
          subst ev'
          have HQ2 : Hid (chkT s lv m = chkBd (bods s) (lv + 1) (m + 1)) := (by rw [HQ'.out]; simp : chkT s lv m = chkBd (bods s) (lv + 1) (m + 1))
          clear HQ' h32
          go_wp2_with fail
          refine (bodies_any s _ (HY.out.stay hb2)).mono ?_
          rintro e w2 ⟨g, cap, rfl, hcl, hbb⟩
          have HCL : Hid (∀ i b, (bods s)[i]? = some b → w2.cell? ⟨g, i, none⟩ = some b.v) := hcl
          have hb3 : Below w.heap.size w w2 := hb2.trans (hbb.mono hs2)
          have HY2 : Hid (s.In w2) := HY.out.stay hb3
          have hbl := bods_len s
          have hcb : s.cases.length * 32 ≤ 140737488351232 := by
            obtain ⟨_, _, _, _, _, _, _, h8, _⟩ := St.in_iff.1 HY.out
            have := h8.1; have := h8.2.1; omega
          have hbz := bsz_bods s
          clear hcl d0 d1 d2 d3 d4 d5 d6 d7 d8 d9 d10 d11 d12 d13 hbb BX hsz
          go_wp2_with fail
          go_loopw [2, 32] (fun t2 t32 wq => ∃ (i : Nat) (q : Int), i ≤ (bods s).length ∧ t2 = .int .i64 q ∧ t32 = .int .i64 i ∧ 0 ≤ q ∧ q + bsz ((bods s).drop i) ≤ m + s.sz ∧ (thenZ (chkBd ((bods s).drop i) (lv + 1) q) fun m => chkSs (l.drop (j + 1)) lv m) = R ∧ Below w2.heap.size w2 wq) (fun _ t32 _ => (bods s).length - (intOf t32).toNat)
          case atStart =>
            refine ⟨0, m + 1, Nat.zero_le _, rfl, rfl, by omega, ?_, ?_, Below.refl _ _⟩
            · rw [List.drop_zero]; omega
            · rw [List.drop_zero, ← HC.out, HD.out, HQ2.out]
          case round =>
            obtain ⟨i, q, hi, rfl, rfl, hq0, hq1, hcq, hbq⟩ := hrel
            have HC2 : Hid ((thenZ (chkBd ((bods s).drop i) (lv + 1) q) fun m => chkSs (l.drop (j + 1)) lv m) = R) := hcq
            clear hcq
            have hwq := hbq.size
            by_cases hlt2 : i < (bods s).length
            · have hmem := List.getElem_mem hlt2
              have hcl := HCL.out i (bods s)[i] (List.getElem?_eq_getElem hlt2)
              have hcl' := (hbq.cell (p := ⟨g, i, none⟩) (lt_of_cell hcl)).trans hcl
              have hdr := bsz_drop hlt2
              rw [hdr] at hq1
              have HH : Hid (Have wr (bods s)[i].a (bods s)[i].c (bods s)[i].l) := (bods_have HY2.out hmem).stay hbq
              have HZ2 : Hid (ssz (bods s)[i].l < k) := (by have := bods_sz hmem; have := HZ.out; omega : ssz (bods s)[i].l < k)
              have HD2 : Hid (chkBd ((bods s).drop i) (lv + 1) q = thenZ (chkSs (bods s)[i].l (lv + 1) q) fun m => chkBd ((bods s).drop (i + 1)) (lv + 1) m) := chkBd_drop hlt2
              have hat := chkSs_at (bods s)[i].l (lv + 1) q
              have hli2 : (i : Int) < (s.cases.length : Int) + 2 := by omega
              unfold Bd.v at hcl'
              clear hcl hmem hdr
              generalize (bods s)[i] = bd at *
              go_wp2_with fail
              refine (IH.out bd.l bd.a bd.c (lv + 1) q _ HZ2.out HH.out (HT.out.stay (hb3.trans (hbq.mono hb3.size))) (by omega) (by omega) hq0 (by omega)).mono ?_
              rintro e w4 ⟨rfl, hb4⟩
              have hb5 : Below w2.heap.size w2 w4 := hbq.trans (hb4.mono hwq)
              generalize chkSs bd.l (lv + 1) q = pr at HD2 hat ⊢
              obtain ⟨p1, p2⟩ := pr
              simp only at HD2 hat ⊢
              cases ep : (p1 != 0)
              · have ep' : p1 = 0 := by simpa using ep
                subst ep'
                go_wp2_with fail
                go_roundw
                case rel => exact ⟨i + 1, p2, by omega, rfl, by go_num, by omega, by omega, by rw [← HC2.out, HD2.out, thenZ_assoc]; simp [thenZ], hb5⟩
                case measure => simp [intOf]; omega
              · go_wp2_with fail
                go_ret2
                refine ⟨ret_two ?_, hb3.trans (hb5.mono hb3.size)⟩
                have ep' : p1 ≠ 0 := by simpa using ep
                rw [← HC2.out, HD2.out, thenZ_assoc]; simp [thenZ, ep']
            · obtain rfl : i = (bods s).length := by omega
              have HC3 : Hid (chkSs (l.drop (j + 1)) lv q = R) := by
                show _ = _; rw [← HC2.out, List.drop_length, chkBd]; simp [thenZ]
              have hz0 : bsz ((bods s).drop (bods s).length) = 0 := by rw [List.drop_length]; rfl
              rw [hz0] at hq1
              clear hz0 HC2
              go_wp2_with fail
              go_roundw
              case rel => exact ⟨j + 1, q, by omega, rfl, by go_num, hq0, by omega, HC3.out, hb3.trans (hbq.mono hb3.size)⟩
              case measure => simp [intOf]; omega
        · go_wp2_with fail
          go_ret2
          refine ⟨ret_two ?_, hb2⟩
          have ev' : v ≠ 0 := by simpa using ev
          rw [← HC.out, HD.out, HQ'.out]; simp [thenZ, ev']
      · go_wp2_with fail
        go_ret2
        refine ⟨ret_two ?_, hb⟩
        rw [← HC.out, List.drop_eq_nil_of_le (by omega), chkSs]
theorem checkStmts_any (l : List St) (a : Option Addr) (c : Nat) (lv at_ : Int) (w : World) (hin : Have w a c l) (ht : Tabs w) (h0 : 0 ≤ lv) (h1 : lv ≤ 40) (h2 : 0 ≤ at_) (h3 : at_ + ssz l ≤ 1000000000) :
    Calls Tryz.prog 50 #[.slice a l.length c, .int .i64 lv, .int .i64 at_] w fun e w' => e = .returned (.tuple #[.int .i64 (chkSs l lv at_).1, .int .i64 (chkSs l lv at_).2]) ∧ Below w.heap.size w w' :=
  checkStmts_k _ l a c lv at_ w (Nat.lt_succ_self _) hin ht h0 h1 h2 h3
end Go.Proofs.YtkkcgkpbbngloaaGreatDoor

/- A function's head and body; thresholds; the whole program: tree.Check. -/
namespace Go.Proofs.YtkkcgkpbbngloaaGreatDoor
open Go.RowKit Go.Sort

theorem rowP_at {W : World} {a : Option Addr} {l : List Pa} (h : RowIn W a 3 (l.map Pa.cells)) {i : Nat} (hi : i < l.length) :
    ∃ b o, a = some ⟨b, o, none⟩ ∧ W.cell? ⟨b, o + i * 3, none⟩ = some (.string l[i].name) ∧ W.cell? ⟨b, o + i * 3 + 1, none⟩ = some (.int .i64 l[i].lo) ∧ W.cell? ⟨b, o + i * 3 + 2, none⟩ = some (.int .i64 l[i].hi) := by
  obtain ⟨b, o, e, hc⟩ := h i l[i].cells (by simp [hi])
  exact ⟨b, o, e, hc 0 _ rfl, hc 1 _ rfl, hc 2 _ rfl⟩
theorem rowW_at {W : World} {a : Option Addr} {l : List Int} (h : RowIn W a 1 (l.map fun z => [.int .i64 z])) {i : Nat} (hi : i < l.length) :
    ∃ b o, a = some ⟨b, o, none⟩ ∧ W.cell? ⟨b, o + i, none⟩ = some (.int .i64 l[i]) := by
  obtain ⟨b, o, e, hc⟩ := h i [.int .i64 l[i]] (by simp [hi])
  exact ⟨b, o, e, by simpa using hc 0 _ rfl⟩

/-- What is wrong first with parameters. -/
def parsZ : List Pa → Int
  | [] => 0
  | p :: r => if nameZ p.name = false then 8 else if (p.lo == -9223372036854775808 || p.hi == -9223372036854775808) = true then 1 else parsZ r
theorem parsZ_drop {l : List Pa} {j : Nat} (h : j < l.length) : parsZ (l.drop j) = if nameZ l[j].name = false then 8 else if (l[j].lo == -9223372036854775808 || l[j].hi == -9223372036854775808) = true then 1 else parsZ (l.drop (j + 1)) := by
  rw [List.drop_eq_getElem_cons h, parsZ]
def headZ (f : Fu) : Int := if nameZ f.name = false then 8 else if 8 < f.params.length then 3 else parsZ f.params

set_option maxRecDepth 100000 in
set_option maxHeartbeats 4000000 in
theorem checkHead_any (f : Fu) (w : World) (hin : f.In w) : Calls Tryz.prog 49 #[f.val] w fun e w' => e = .returned (.int .i64 (headZ f)) ∧ Below w.heap.size w w' := by
  obtain ⟨_, hl, hc, _, hrow, _, _⟩ := hin
  have HR : Hid (RowIn w f.pa 3 (List.map Pa.cells f.params)) := hrow
  have HN : Hid (∀ s w, Calls Tryz.prog 69 #[.string s] w fun e w' => e = .returned (.bool (nameZ s)) ∧ w' = w) := fun s w => name_any s w
  have HE : Hid (headZ f = if nameZ f.name = false then 8 else if 8 < f.params.length then 3 else parsZ f.params) := (rfl : headZ f = _)
  clear hrow
  generalize headZ f = res at HE ⊢
  have hb1 := (Below.refl _ w).alloc (Nat.le_refl _) (.cells #[.string f.name, .slice f.pa f.params.length f.pc, .slice f.ba f.body.length f.bc] 38)
  unfold Fu.val
  cases e1 : nameZ f.name
  · go_enter Tryz.func49, Tryz.ntmps49
    go_wp2_with (go_at_call 69; refine (HN.out _ _).mono ?_; rw [e1]; rintro e w' ⟨rfl, rfl⟩)
    go_ret
    exact ⟨ret_int (by rw [HE.out, e1]; rfl), hb1⟩
  · by_cases e2 : 8 < f.params.length
    · go_enter Tryz.func49, Tryz.ntmps49
      go_wp2_with (go_at_call 69; refine (HN.out _ _).mono ?_; rw [e1]; rintro e w' ⟨rfl, rfl⟩)
      go_ret
      exact ⟨ret_int (by rw [HE.out, e1]; simp [e2]), hb1⟩
    · have HF : Hid (res = parsZ f.params) := (by rw [HE.out, e1]; simp [e2] : res = parsZ f.params)
      clear HE
      go_enter Tryz.func49, Tryz.ntmps49
      go_wp2_with (go_at_call 69; refine (HN.out _ _).mono ?_; rw [e1]; rintro e w' ⟨rfl, rfl⟩)
      go_loopw [16] (fun t16 wr => ∃ (j : Nat), j ≤ f.params.length ∧ t16 = .int .i64 j ∧ parsZ (f.params.drop j) = res ∧ Below w.heap.size w wr) (fun t16 _ => f.params.length - (intOf t16).toNat)
      case atStart => exact ⟨0, Nat.zero_le _, rfl, HF.out.symm, hb1⟩
      case round =>
        obtain ⟨j, hj, rfl, hcnt, hb⟩ := hrel
        have HC : Hid (parsZ (f.params.drop j) = res) := hcnt
        clear hcnt e1
        have hws := hb.size
        by_cases hlt : j < f.params.length
        · obtain ⟨b, o, hpa, c0, c1, c2⟩ := rowP_at (HR.out.below hb) hlt
          rw [hpa]
          have hli : (j : Int) < (f.params.length : Int) := by omega
          have HD : Hid (parsZ (f.params.drop j) = if nameZ f.params[j].name = false then 8 else if (f.params[j].lo == -9223372036854775808 || f.params[j].hi == -9223372036854775808) = true then 1 else parsZ (f.params.drop (j + 1))) := parsZ_drop hlt
          generalize f.params[j] = p at *
          have hb3 := hb.alloc hws (.cells #[.string p.name, .int .i64 p.lo, .int .i64 p.hi] 70)
          cases e3 : nameZ p.name
          · have HN' : Hid (∀ w, Calls Tryz.prog 69 #[.string p.name] w fun e w' => e = .returned (.bool false) ∧ w' = w) := (fun w => by rw [← e3]; exact HN.out _ w)
            go_wp2_with (go_at_call 69; refine (HN'.out _).mono ?_; rintro e w' ⟨rfl, rfl⟩)
            go_ret
            exact ⟨ret_int (by rw [← HC.out, HD.out, e3]; rfl), hb3⟩
          · have HN' : Hid (∀ w, Calls Tryz.prog 69 #[.string p.name] w fun e w' => e = .returned (.bool true) ∧ w' = w) := (fun w => by rw [← e3]; exact HN.out _ w)
            cases e4 : (p.lo == -9223372036854775808)
            · cases e5 : (p.hi == -9223372036854775808)
              · go_wp2_with (go_at_call 69; refine (HN'.out _).mono ?_; rintro e w' ⟨rfl, rfl⟩)
                go_roundw
                case rel => exact ⟨j + 1, by omega, by go_num, by rw [← HC.out, HD.out, e3, e4, e5]; rfl, hb3⟩
                case measure => simp [intOf]; omega
              · go_wp2_with (go_at_call 69; refine (HN'.out _).mono ?_; rintro e w' ⟨rfl, rfl⟩)
                go_ret
                exact ⟨ret_int (by rw [← HC.out, HD.out, e3, e4, e5]; rfl), hb3⟩
            · go_wp2_with (go_at_call 69; refine (HN'.out _).mono ?_; rintro e w' ⟨rfl, rfl⟩)
              go_ret
              exact ⟨ret_int (by rw [← HC.out, HD.out, e3, e4]; rfl), hb3⟩
        · go_wp2_with fail
          go_ret
          exact ⟨ret_int (by rw [← HC.out, List.drop_eq_nil_of_le (by omega), parsZ]), hb⟩

/-- What is wrong first in a function, and the number of the statement where it is. -/
def chkF (f : Fu) : Int × Int := if headZ f ≠ 0 then (headZ f, 0) else chkSs f.body 1 0
set_option maxRecDepth 100000 in
set_option maxHeartbeats 4000000 in
theorem checkFn_any (f : Fu) (w : World) (hin : f.In w) (ht : Tabs w) (hsz : ssz f.body ≤ 100000) : Calls Tryz.prog 26 #[f.val] w fun e w' => e = .returned (.tuple #[.int .i64 (chkF f).1, .int .i64 (chkF f).2]) ∧ Below w.heap.size w w' := by
  have HH : Hid (∀ w', Below w.heap.size w w' → Calls Tryz.prog 49 #[f.val] w' fun e w'' => e = .returned (.int .i64 (headZ f)) ∧ Below w'.heap.size w' w'') := fun w' hb => checkHead_any f w' (hin.stay hb)
  have HS : Hid (∀ w', Below w.heap.size w w' → Calls Tryz.prog 50 #[.slice f.ba f.body.length f.bc, .int .i64 1, .int .i64 0] w' fun e w'' => e = .returned (.tuple #[.int .i64 (chkSs f.body 1 0).1, .int .i64 (chkSs f.body 1 0).2]) ∧ Below w'.heap.size w' w'') := fun w' hb => checkStmts_any f.body f.ba f.bc 1 0 w' (hin.2.2.2.2.2.2.stay hb) (ht.stay hb) (by omega) (by omega) (by omega) (by omega)
  have HE : Hid (chkF f = if headZ f ≠ 0 then (headZ f, 0) else chkSs f.body 1 0) := (rfl : chkF f = _)
  generalize chkF f = res at HE ⊢
  generalize headZ f = hz at HE HH
  generalize chkSs f.body 1 0 = pr at HE HS
  obtain ⟨p1, p2⟩ := pr
  clear hin ht
  have hb1 := (Below.refl _ w).alloc (Nat.le_refl _) (.cells #[.string f.name, .slice f.pa f.params.length f.pc, .slice f.ba f.body.length f.bc] 38)
  unfold Fu.val at HH ⊢
  cases e1 : (hz != 0)
  · go_enter Tryz.func26, Tryz.ntmps26
    go_wp2_with fail
    refine (HH.out _ hb1).mono ?_
    rintro e w1 ⟨rfl, hbh⟩
    have c2 := own_cell hbh (j := 2) rfl
    have hb2 : Below w.heap.size w w1 := hb1.trans (hbh.mono (by simp))
    go_wp2_with fail
    refine (HS.out _ hb2).mono ?_
    rintro e w2 ⟨rfl, hbs⟩
    go_wp2_with fail
    go_ret2
    have e1' : hz = 0 := by simpa using e1
    exact ⟨ret_two (by rw [HE.out]; simp [e1']), hb2.trans (hbs.mono hb2.size)⟩
  · go_enter Tryz.func26, Tryz.ntmps26
    go_wp2_with fail
    refine (HH.out _ hb1).mono ?_
    rintro e w1 ⟨rfl, hbh⟩
    have hb2 : Below w.heap.size w w1 := hb1.trans (hbh.mono (by simp))
    go_wp2_with fail
    go_ret2
    have e1' : hz ≠ 0 := by simpa using e1
    exact ⟨ret_two (by rw [HE.out]; simp [e1']), hb2⟩
end Go.Proofs.YtkkcgkpbbngloaaGreatDoor

/- Thresholds: slices.Contains at them, rise; checkWhole. -/
namespace Go.Proofs.YtkkcgkpbbngloaaGreatDoor
open Go.RowKit Go.Sort

def hasZ (x : Int) (l : List Int) : Bool := l.any fun z => x == z
theorem hasZ_drop {x : Int} {l : List Int} {j : Nat} (h : j < l.length) : hasZ x (l.drop j) = (x == l[j] || hasZ x (l.drop (j + 1))) := by
  rw [List.drop_eq_getElem_cons h]; rfl
def Thr (w : World) (a : Option Addr) (c : Nat) (l : List Int) : Prop := l.length ≤ c ∧ c * 8 ≤ 140737488351232 ∧ RowIn w a 1 (l.map fun z => [.int .i64 z])

set_option maxRecDepth 100000 in
set_option maxHeartbeats 4000000 in
theorem index_any (x : Int) (l : List Int) (a : Option Addr) (c : Nat) (w : World) (hin : Thr w a c l) : Calls Tryz.prog 67 #[.slice a l.length c, .int .i64 x] w fun e w' => ∃ r, e = .returned (.int .i64 r) ∧ decide (0 ≤ r) = hasZ x l ∧ w' = w := by
  obtain ⟨hl, hc, hrow⟩ := hin
  have HR : Hid (RowIn w a 1 (l.map fun z => [.int .i64 z])) := hrow
  clear hrow
  go_enter Tryz.func67, Tryz.ntmps67
  go_wp2_with fail
  go_loopw [8] (fun t8 wr => ∃ (j : Nat), j ≤ l.length ∧ t8 = .int .i64 j ∧ hasZ x (l.drop j) = hasZ x l ∧ wr = w) (fun t8 _ => l.length - (intOf t8).toNat)
  case atStart => exact ⟨0, Nat.zero_le _, rfl, rfl, rfl⟩
  case round =>
    obtain ⟨j, hj, rfl, hcnt, rfl⟩ := hrel
    have HC : Hid (hasZ x (l.drop j) = hasZ x l) := hcnt
    clear hcnt
    by_cases hlt : j < l.length
    · obtain ⟨b, o, rfl, c0⟩ := rowW_at HR.out hlt
      have hli : (j : Int) < (l.length : Int) := by omega
      have HD : Hid (hasZ x (l.drop j) = (x == l[j] || hasZ x (l.drop (j + 1)))) := hasZ_drop hlt
      generalize l[j] = z at *
      cases e1 : (x == z)
      · go_wp2_with fail
        go_roundw
        case rel => exact ⟨j + 1, by omega, by go_num, by rw [← HC.out, HD.out, e1]; rfl, by first | rfl | trivial⟩
        case measure => simp [intOf]; omega
      · go_wp2_with fail
        go_ret
        exact ⟨_, rfl, by rw [← HC.out, HD.out, e1]; simp, rfl⟩
    · go_wp2_with fail
      go_ret
      exact ⟨_, rfl, by rw [← HC.out, List.drop_eq_nil_of_le (by omega)]; rfl, rfl⟩
set_option maxRecDepth 100000 in
set_option maxHeartbeats 4000000 in
theorem contains_any (x : Int) (l : List Int) (a : Option Addr) (c : Nat) (w : World) (hin : Thr w a c l) : Calls Tryz.prog 46 #[.slice a l.length c, .int .i64 x] w fun e w' => e = .returned (.bool (hasZ x l)) ∧ w' = w := by
  have HI : Hid (Calls Tryz.prog 67 #[.slice a l.length c, .int .i64 x] w fun e w' => ∃ r, e = .returned (.int .i64 r) ∧ decide (0 ≤ r) = hasZ x l ∧ w' = w) := index_any x l a c w hin
  clear hin
  go_enter Tryz.func46, Tryz.ntmps46
  go_wp2_with fail
  refine HI.out.mono ?_
  rintro e w' ⟨r, rfl, hr, rfl⟩
  have HR : Hid (decide (0 ≤ r) = hasZ x l) := hr
  clear hr
  go_wp2_with fail
  go_ret
  exact ⟨ret_bool (by rw [← HR.out]), rfl⟩

/-- Do numbers rise? -/
def riseB : List Int → Bool
  | a :: b :: r => if b ≤ a then false else riseB (b :: r)
  | _ => true
theorem riseB_drop {l : List Int} {j : Nat} (h : j + 1 < l.length) : riseB (l.drop j) = if l[j + 1] ≤ l[j]'(by omega) then false else riseB (l.drop (j + 1)) := by
  rw [List.drop_eq_getElem_cons (by omega), List.drop_eq_getElem_cons h, riseB]
set_option maxRecDepth 100000 in
set_option maxHeartbeats 4000000 in
theorem rise_any (l : List Int) (a : Option Addr) (c : Nat) (w : World) (hin : Thr w a c l) : Calls Tryz.prog 47 #[.slice a l.length c] w fun e w' => e = .returned (.bool (riseB l)) ∧ Below w.heap.size w w' := by
  obtain ⟨hl, hc, hrow⟩ := hin
  have HR : Hid (RowIn w a 1 (l.map fun z => [.int .i64 z])) := hrow
  clear hrow
  go_enter Tryz.func47, Tryz.ntmps47
  go_wp2_with fail
  go_loopw [3] (fun t3 wr => ∃ (j nq : Nat), j ≤ l.length ∧ t3 = .int .i64 (j + 1) ∧ riseB (l.drop j) = riseB l ∧ wr = w.drewN nq) (fun t3 _ => l.length + 1 - (intOf t3).toNat)
  case atStart => exact ⟨0, 0, Nat.zero_le _, rfl, rfl, rfl⟩
  case round =>
    obtain ⟨j, nq, hj, rfl, hcnt, rfl⟩ := hrel
    have HC : Hid (riseB (l.drop j) = riseB l) := hcnt
    clear hcnt
    by_cases hlt : j + 1 < l.length
    · obtain ⟨b, o, rfl, c0⟩ := rowW_at HR.out hlt
      obtain ⟨b', o', e, c1⟩ := rowW_at HR.out (show j < l.length by omega)
      cases e
      have hli : (j : Int) + 1 < (l.length : Int) := by omega
      have HD : Hid (riseB (l.drop j) = if l[j + 1] ≤ l[j]'(by omega) then false else riseB (l.drop (j + 1))) := riseB_drop hlt
      generalize l[j + 1] = z1 at *
      generalize l[j] = z0 at *
      go_wp2_with fail
      go_quiet (fail)
      by_cases e1 : z1 ≤ z0
      · go_wp2_with fail
        go_ret
        exact ⟨ret_bool (by rw [← HC.out, HD.out, if_pos e1]), ((Below.refl _ w).drewN _).drewN _⟩
      · go_wp2_with fail
        go_roundw
        case rel => exact ⟨j + 1, _, by omega, by go_num, by rw [← HC.out, HD.out, if_neg (by omega)], rfl⟩
        case measure => simp [intOf]; omega
    · go_wp2_with fail
      go_ret
      exact ⟨ret_bool (by
        rw [← HC.out]
        match h : l.drop j with
        | [] => rfl
        | [_] => rfl
        | _ :: _ :: _ => have := congrArg List.length h; simp at this; omega), (Below.refl _ w).drewN _⟩
end Go.Proofs.YtkkcgkpbbngloaaGreatDoor

/- checkWhole, and tree.Check. -/
namespace Go.Proofs.YtkkcgkpbbngloaaGreatDoor
open Go.RowKit Go.Sort

/-- What is wrong with a program's thresholds and counts. -/
def wholeZ (p : Pr) : Int :=
  if 16 < p.widen.length then 3 else if hasZ (-9223372036854775808) p.widen = true then 1 else if riseB p.widen = false then 66
  else if 32 < p.funcs.length then 3 else if 4096 < nodesZ p then 3 else 0

set_option maxRecDepth 100000 in
set_option maxHeartbeats 4000000 in
theorem checkWhole_any (p : Pr) (w : World) (hin : p.In w) : Calls Tryz.prog 25 #[p.val] w fun e w' => e = .returned (.int .i64 (wholeZ p)) ∧ Below w.heap.size w w' := by
  have hth : Thr w p.wa p.wc p.widen := ⟨hin.1, hin.2.1, hin.2.2.2.1⟩
  have HC : Hid (∀ w', Below w.heap.size w w' → Calls Tryz.prog 46 #[.slice p.wa p.widen.length p.wc, .int .i64 (-9223372036854775808)] w' fun e w'' => e = .returned (.bool (hasZ (-9223372036854775808) p.widen)) ∧ w'' = w') := fun w' hb => contains_any _ p.widen p.wa p.wc w' ⟨hth.1, hth.2.1, hth.2.2.below hb⟩
  have HR : Hid (∀ w', Below w.heap.size w w' → Calls Tryz.prog 47 #[.slice p.wa p.widen.length p.wc] w' fun e w'' => e = .returned (.bool (riseB p.widen)) ∧ Below w'.heap.size w' w'') := fun w' hb => rise_any p.widen p.wa p.wc w' ⟨hth.1, hth.2.1, hth.2.2.below hb⟩
  have HN : Hid (∀ w', Below w.heap.size w w' → Calls Tryz.prog 48 #[p.val] w' fun e w'' => e = .returned (.int .i64 (nodesZ p)) ∧ Below w'.heap.size w' w'') := fun w' hb => nodes_any p w' (hin.stay hb)
  have HE : Hid (wholeZ p = if 16 < p.widen.length then 3 else if hasZ (-9223372036854775808) p.widen = true then 1 else if riseB p.widen = false then 66 else if 32 < p.funcs.length then 3 else if 4096 < nodesZ p then 3 else 0) := (rfl : wholeZ p = _)
  generalize wholeZ p = res at HE ⊢
  generalize hasZ (-9223372036854775808) p.widen = hz at HC HE
  generalize riseB p.widen = rb at HR HE
  generalize nodesZ p = nz at HN HE
  clear hth hin
  have hb1 := (Below.refl _ w).alloc (Nat.le_refl _) (.cells #[.slice p.wa p.widen.length p.wc, .slice p.fa p.funcs.length p.fc] 25)
  unfold Pr.val at HN ⊢
  by_cases e1 : 16 < p.widen.length
  · go_enter Tryz.func25, Tryz.ntmps25
    go_wp2_with fail
    go_ret
    exact ⟨ret_int (by rw [HE.out, if_pos e1]), hb1⟩
  · go_enter Tryz.func25, Tryz.ntmps25
    go_wp2_with fail
    refine (HC.out _ hb1).mono ?_
    rintro e w1 ⟨rfl, rfl⟩
    cases hz
    · go_wp2_with fail
      refine (HR.out _ hb1).mono ?_
      rintro e w2 ⟨rfl, hbr⟩
      have c0 := own_cell hbr (j := 0) rfl
      have c1 := own_cell hbr (j := 1) rfl
      have hb2 : Below w.heap.size w w2 := hb1.trans (hbr.mono (by simp))
      cases rb
      · go_wp2_with fail
        go_ret
        exact ⟨ret_int (by rw [HE.out, if_neg (by omega)]; rfl), hb2⟩
      · by_cases e4 : 32 < p.funcs.length
        · go_wp2_with fail
          go_ret
          exact ⟨ret_int (by rw [HE.out, if_neg (by omega)]; simp [e4]), hb2⟩
        · go_wp2_with fail
          refine (HN.out _ hb2).mono ?_
          rintro e w3 ⟨rfl, hbn⟩
          have hb3 : Below w.heap.size w w3 := hb2.trans (hbn.mono hb2.size)
          by_cases e5 : 4096 < nz
          · go_wp2_with fail
            go_ret
            exact ⟨ret_int (by rw [HE.out, if_neg (by omega)]; simp; omega), hb3⟩
          · go_wp2_with fail
            go_ret
            exact ⟨ret_int (by rw [HE.out, if_neg (by omega)]; simp; omega), hb3⟩
    · go_wp2_with fail
      go_ret
      exact ⟨ret_int (by rw [HE.out, if_neg (by omega)]; rfl), hb1⟩

/-- A fault as the machine holds it. -/
abbrev fltV (e f a : Int) : Value := .agg #[.int .i64 e, .int .i64 f, .int .i64 a]
/-- Function by function. -/
def chkFs : List Fu → Int → Int × Int × Int
  | [], _ => (0, 0, 0)
  | f :: r, i => if (chkF f).1 ≠ 0 then ((chkF f).1, i, (chkF f).2) else chkFs r (i + 1)
theorem chkFs_drop {l : List Fu} {j : Nat} {i : Int} (h : j < l.length) : chkFs (l.drop j) i = if (chkF l[j]).1 ≠ 0 then ((chkF l[j]).1, i, (chkF l[j]).2) else chkFs (l.drop (j + 1)) (i + 1) := by
  rw [List.drop_eq_getElem_cons h, chkFs]
/-- What is wrong first with a program. -/
def checkZ (p : Pr) : Int × Int × Int := if wholeZ p ≠ 0 then (wholeZ p, 0, 0) else chkFs p.funcs 0

theorem csz_eq (l : List Ca) : csz l = bsz (l.map Ca.bd) + l.length := by
  induction l with
  | nil => simp [bsz, csz]
  | cons c l ih => rw [List.map_cons, bsz, csz, c.sz_eq, ih, List.length_cons]; show _ = ssz c.body + _ + _; omega
theorem sz_bods (s : St) : s.sz = bsz (bods s) + s.cases.length + 1 := by
  rw [bods, bsz, bsz_append, bsz, bsz, s.sz_eq, csz_eq]
  show _ = ssz s.body + (_ + (ssz s.els + 0)) + _ + 1
  omega
theorem cntS_sz (k : Nat) : (∀ (s : St) (n : Int), s.sz ≤ k → n ≤ cntS s n ∧ (cntS s n ≤ 4096 → n + s.sz ≤ cntS s n)) ∧ (∀ (l : List St) (n : Int), ssz l ≤ k → n ≤ cntSs l n ∧ (cntSs l n ≤ 4096 → n + ssz l ≤ cntSs l n)) := by
  have step : ∀ k, (∀ (s : St) (n : Int), s.sz ≤ k → n ≤ cntS s n ∧ (cntS s n ≤ 4096 → n + s.sz ≤ cntS s n)) → ∀ (l : List St) (n : Int), ssz l ≤ k → n ≤ cntSs l n ∧ (cntSs l n ≤ 4096 → n + ssz l ≤ cntSs l n) := by
    intro k h1 l
    induction l with
    | nil => intro n _; simp only [cntSs, ssz]; omega
    | cons x r ihr =>
      intro n hk
      rw [ssz] at hk ⊢
      rw [cntSs]
      split
      · omega
      · have a1 := h1 x n (by omega)
        have a2 := ihr (cntS x n) (by omega)
        omega
  induction k with
  | zero =>
    have h0 : ∀ (s : St) (n : Int), s.sz ≤ 0 → n ≤ cntS s n ∧ (cntS s n ≤ 4096 → n + s.sz ≤ cntS s n) := fun s n hk => by have := s.sz_eq; omega
    exact ⟨h0, step 0 h0⟩
  | succ k ih =>
    have h1 : ∀ (s : St) (n : Int), s.sz ≤ k + 1 → n ≤ cntS s n ∧ (cntS s n ≤ 4096 → n + s.sz ≤ cntS s n) := by
      intro s n hk
      have fold : ∀ (l : List Bd) (n : Int), (∀ b ∈ l, b ∈ bods s) → n ≤ cntB l n ∧ (cntB l n ≤ 4096 → n + bsz l ≤ cntB l n) := by
        intro l
        induction l with
        | nil => intro n _; simp only [cntB, bsz]; omega
        | cons b r ihr =>
          intro n hm
          rw [cntB, bsz]
          have a1 := ih.2 b.l n (by have := bods_sz (hm b (by simp)); omega)
          have a2 := ihr (cntSs b.l n) (fun y hy => hm y (by simp [hy]))
          omega
      rw [cntS_eq]
      have a1 := cntZ_ge s.a (n + (1 + (s.cases.length : Int)))
      have a2 := cntZ_ge s.b (cntZ s.a (n + (1 + (s.cases.length : Int))))
      have a5 := fold (bods s) (cntZ s.b (cntZ s.a (n + (1 + (s.cases.length : Int))))) (fun b hb => hb)
      have := sz_bods s
      omega
    exact ⟨h1, step (k + 1) h1⟩
theorem cntF_sz : ∀ (l : List Fu) (n : Int), n ≤ cntF l n ∧ (cntF l n ≤ 4096 → 0 ≤ n → ∀ f ∈ l, ssz f.body ≤ 4096)
  | [], n => ⟨Int.le_refl _, fun _ _ f hf => by cases hf⟩
  | f :: r, n => by
    have a1 := (cntS_sz _).2 f.body n (Nat.le_refl _)
    have a2 := cntF_sz r (cntSs f.body n)
    rw [cntF]
    refine ⟨by omega, fun h h0 g hg => ?_⟩
    rcases List.mem_cons.1 hg with rfl | hg
    · have := a1.2 (by omega); omega
    · exact a2.2 h (by omega) g hg
theorem whole_sz {p : Pr} (h : wholeZ p = 0) : ∀ f ∈ p.funcs, ssz f.body ≤ 4096 := by
  have hn : nodesZ p ≤ 4096 := by
    unfold wholeZ at h
    split at h
    · omega
    split at h
    · omega
    split at h
    · omega
    split at h
    · omega
    split at h
    · omega
    omega
  unfold nodesZ at hn
  exact (cntF_sz p.funcs 0).2 (by omega) (by omega)

theorem below_set3 {B b : Nat} {w w' : World} (hb : Below B w w') (h : B ≤ b) (u0 u1 u2 : Value) : Below B w (((w'.setCell ⟨b, 0, none⟩ u0).setCell ⟨b, 1, none⟩ u1).setCell ⟨b, 2, none⟩ u2) :=
  ((hb.setCell (p := ⟨b, 0, none⟩) h u0).setCell (p := ⟨b, 1, none⟩) h u1).setCell (p := ⟨b, 2, none⟩) h u2
/-- Two new blocks, and a world behind them in which they are as they were. -/
theorem two_cells {w w1 : World} {c1 c2 : Array Value} {t1 t2 : TypeId} (hb : Below ((w.alloc (.cells c1 t1)).alloc (.cells c2 t2)).heap.size ((w.alloc (.cells c1 t1)).alloc (.cells c2 t2)) w1) :
    (∀ (j : Nat) v, c1[j]? = some v → w1.cell? ⟨w.heap.size, j, none⟩ = some v) ∧ (∀ (j : Nat) v, c2[j]? = some v → w1.cell? ⟨w.heap.size + 1, j, none⟩ = some v) ∧ (∀ j : Nat, w1.frozen? ⟨w.heap.size + 1, j, none⟩ = false) := by
  refine ⟨fun j v h => ?_, fun j v h => ?_, fun j => ?_⟩
  · rw [hb.cell (p := ⟨w.heap.size, j, none⟩) (by simp; omega), World.cell?_alloc_past _ _ _ (by simp), World.cell?_alloc_at _ _ _ _ rfl]; exact h
  · rw [hb.cell (p := ⟨w.heap.size + 1, j, none⟩) (by simp), World.cell?_alloc_at _ _ _ _ (by simp)]; exact h
  · rw [hb.frozen (p := ⟨w.heap.size + 1, j, none⟩) (by simp)]
    have hn : ((w.alloc (.cells c1 t1)).alloc (.cells c2 t2)).heap[w.heap.size + 1]? = some (.cells c2 t2 (0, 0)) := by
      have := heap_alloc_new (w.alloc (.cells c1 t1)) (.cells c2 t2)
      rwa [World.size_alloc] at this
    unfold World.frozen?
    rw [hn]; simp

set_option maxRecDepth 100000 in
set_option maxHeartbeats 4000000 in
theorem check_any (p : Pr) (w : World) (hin : p.In w) (ht : Tabs w) : Calls Tryz.prog 16 #[p.val] w fun e w' => e = .returned (fltV (checkZ p).1 (checkZ p).2.1 (checkZ p).2.2) ∧ Below w.heap.size w w' := by
  have HW : Hid (∀ w', Below w.heap.size w w' → Calls Tryz.prog 25 #[p.val] w' fun e w'' => e = .returned (.int .i64 (wholeZ p)) ∧ Below w'.heap.size w' w'') := fun w' hb => checkWhole_any p w' (hin.stay hb)
  have HE : Hid (checkZ p = if wholeZ p ≠ 0 then (wholeZ p, 0, 0) else chkFs p.funcs 0) := (rfl : checkZ p = _)
  have HZ : Hid (wholeZ p = 0 → ∀ f ∈ p.funcs, ssz f.body ≤ 4096) := fun h => whole_sz h
  have HT : Hid (Tabs w) := ht
  obtain ⟨_, _, _, _, _, hl, hc, _, hrow, hsub⟩ := hin
  have HR : Hid (RowIn w p.fa 3 (List.map Fu.cells p.funcs)) := hrow
  have HS : Hid (∀ f ∈ p.funcs, f.In w) := hsub
  clear ht hrow hsub
  generalize checkZ p = res at HE ⊢
  generalize wholeZ p = wz at HW HE HZ
  have hb1 := ((Below.refl _ w).alloc (Nat.le_refl _) (.cells #[.slice p.wa p.widen.length p.wc, .slice p.fa p.funcs.length p.fc] 25)).alloc (by simp) (.cells #[.int .i64 0, .int .i64 0, .int .i64 0] 29)
  unfold Pr.val at HW ⊢
  go_enter Tryz.func16, Tryz.ntmps16
  go_wp2_with fail
  refine (HW.out _ hb1).mono ?_
  rintro e w1 ⟨rfl, hbw⟩
  obtain ⟨hX, hRs, hF⟩ := two_cells hbw
  have r0 := hRs 0 _ rfl
  have r1 := hRs 1 _ rfl
  have r2 := hRs 2 _ rfl
  have q0 := hF 0
  have q1 := hF 1
  have q2 := hF 2
  have c1 := hX 1 _ rfl
  have hb2 : Below w.heap.size w w1 := hb1.trans (hbw.mono (by simp; omega))
  have hs2 : w.heap.size + 1 + 1 ≤ w1.heap.size := by have := hbw.size; simp at this; omega
  have R0 : Hid (w1.cell? ⟨w.heap.size + 1, 0, none⟩ = some (.int .i64 0)) := r0
  have R1 : Hid (w1.cell? ⟨w.heap.size + 1, 1, none⟩ = some (.int .i64 0)) := r1
  have R2 : Hid (w1.cell? ⟨w.heap.size + 1, 2, none⟩ = some (.int .i64 0)) := r2
  have Q0 : Hid (w1.frozen? ⟨w.heap.size + 1, 0, none⟩ = false) := q0
  have Q1 : Hid (w1.frozen? ⟨w.heap.size + 1, 1, none⟩ = false) := q1
  have Q2 : Hid (w1.frozen? ⟨w.heap.size + 1, 2, none⟩ = false) := q2
  clear hX hRs hF hbw hb1
  cases e1 : (wz != 0)
  · have e1' : wz = 0 := by simpa using e1
    have HF : Hid (res = chkFs p.funcs 0) := (by rw [HE.out]; simp [e1'] : res = chkFs p.funcs 0)
    have HZ' : Hid (∀ f ∈ p.funcs, ssz f.body ≤ 4096) := HZ.out e1'
    clear HZ HE HW e1'
    go_wp2_with fail
    go_loopw [17] (fun t17 wr => ∃ (j : Nat), j ≤ p.funcs.length ∧ t17 = .int .i64 j ∧ chkFs (p.funcs.drop j) j = res ∧ Below w1.heap.size w1 wr) (fun t17 _ => p.funcs.length - (intOf t17).toNat)
    case atStart => exact ⟨0, Nat.zero_le _, rfl, HF.out.symm, Below.refl _ _⟩
    case round =>
      obtain ⟨j, hj, rfl, hcnt, hb⟩ := hrel
      have HC : Hid (chkFs (p.funcs.drop j) j = res) := hcnt
      clear hcnt
      have hws := hb.size
      have hb3 : Below w.heap.size w wr := hb2.trans (hb.mono hb2.size)
      have hlt1 : w.heap.size + 1 < w1.heap.size := by omega
      by_cases hlt : j < p.funcs.length
      · obtain ⟨b, o, hfa, c0, c1, c2⟩ := rowF_at (HR.out.below hb3) hlt
        rw [hfa]
        have hli : (j : Int) < (p.funcs.length : Int) := by omega
        have HY : Hid (p.funcs[j].In w) := HS.out p.funcs[j] (List.getElem_mem hlt)
        have HSZ : Hid (ssz p.funcs[j].body ≤ 4096) := HZ'.out p.funcs[j] (List.getElem_mem hlt)
        have HD : Hid (chkFs (p.funcs.drop j) j = if (chkF p.funcs[j]).1 ≠ 0 then ((chkF p.funcs[j]).1, (j : Int), (chkF p.funcs[j]).2) else chkFs (p.funcs.drop (j + 1)) (j + 1)) := chkFs_drop hlt
        generalize p.funcs[j] = f at *
        have hb4 := hb.alloc hws (.cells #[.string f.name, .slice f.pa f.params.length f.pc, .slice f.ba f.body.length f.bc] 38)
        have hb5 : Below w.heap.size w _ := hb2.trans (hb4.mono hb2.size)
        have hs4 := hb4.size
        clear r0 r1 r2 q0 q1 q2
        go_wp2_with fail
        refine (checkFn_any f _ (HY.out.stay hb5) (HT.out.stay hb5) (by have := HSZ.out; omega)).mono ?_
        rintro e w2 ⟨rfl, hbf⟩
        have hb6 : Below w1.heap.size w1 w2 := hb4.trans (hbf.mono hs4)
        have hb7 : Below w.heap.size w w2 := hb2.trans (hb6.mono hb2.size)
        generalize chkF f = pr at HD ⊢
        obtain ⟨p1, p2⟩ := pr
        simp only at HD ⊢
        have r0 := (hb6.cell (p := ⟨w.heap.size + 1, 0, none⟩) hlt1).trans R0.out
        have r1 := (hb6.cell (p := ⟨w.heap.size + 1, 1, none⟩) hlt1).trans R1.out
        have r2 := (hb6.cell (p := ⟨w.heap.size + 1, 2, none⟩) hlt1).trans R2.out
        have q0 := (hb6.frozen (p := ⟨w.heap.size + 1, 0, none⟩) hlt1).trans Q0.out
        have q1 := (hb6.frozen (p := ⟨w.heap.size + 1, 1, none⟩) hlt1).trans Q1.out
        have q2 := (hb6.frozen (p := ⟨w.heap.size + 1, 2, none⟩) hlt1).trans Q2.out
        cases ep : (p1 != 0)
        · have ep' : p1 = 0 := by simpa using ep
          go_wp2_with fail
          go_roundw
          case rel => exact ⟨j + 1, by omega, by go_num, by rw [← HC.out, HD.out, if_neg (by simpa using ep')]; rfl, hb6⟩
          case measure => simp [intOf]; omega
        · have ep' : p1 ≠ 0 := by simpa using ep
          have HG : Hid (res = (p1, (j : Int), p2)) := (by rw [← HC.out, HD.out, if_pos ep'] : res = _)
          clear HC HD
          go_wp2_with fail
          refine bodyPost_ret (v := fltV p1 j p2) (by simp [results, Tryz.results16, go_sem, r0, r1, r2]) rfl ⟨?_, below_set3 hb7 (by omega) _ _ _⟩
          rw [HG.out]
      · have hb3' : Below w.heap.size w wr := hb3
        have r0 := (hb.cell (p := ⟨w.heap.size + 1, 0, none⟩) hlt1).trans R0.out
        have r1 := (hb.cell (p := ⟨w.heap.size + 1, 1, none⟩) hlt1).trans R1.out
        have r2 := (hb.cell (p := ⟨w.heap.size + 1, 2, none⟩) hlt1).trans R2.out
        have q0 := (hb.frozen (p := ⟨w.heap.size + 1, 0, none⟩) hlt1).trans Q0.out
        have q1 := (hb.frozen (p := ⟨w.heap.size + 1, 1, none⟩) hlt1).trans Q1.out
        have q2 := (hb.frozen (p := ⟨w.heap.size + 1, 2, none⟩) hlt1).trans Q2.out
        have HG : Hid (res = (0, 0, 0)) := (by rw [← HC.out, List.drop_eq_nil_of_le (by omega), chkFs] : res = _)
        clear HC
        go_wp2_with fail
        refine bodyPost_ret (v := fltV 0 0 0) (by simp [results, Tryz.results16, go_sem, r0, r1, r2]) rfl ⟨?_, below_set3 hb3' (by omega) _ _ _⟩
        rw [HG.out]
  · have e1' : wz ≠ 0 := by simpa using e1
    have HG : Hid (res = (wz, 0, 0)) := (by rw [HE.out, if_pos e1'] : res = _)
    go_wp2_with fail
    refine bodyPost_ret (v := fltV wz 0 0) (by simp [results, Tryz.results16, go_sem, r0, r1, r2]) rfl ⟨?_, below_set3 hb2 (by omega) _ _ _⟩
    rw [HG.out]
end Go.Proofs.YtkkcgkpbbngloaaGreatDoor

/- The functions of a program, one behind the other: what names' look at them comes to; how much a program that is right has. -/
namespace Go.Proofs.YtkkcgkpbbngloaaGreatDoor
open Go.RowKit Go.Sort

theorem cntE_room (k : Nat) : (∀ (x : Ex) (n : Int), x.sz ≤ k → cntE x n ≤ 4096 → n + x.sz ≤ cntE x n) ∧ (∀ (l : List Ex) (n : Int), szL l ≤ k → cntL l n ≤ 4096 → n + szL l ≤ cntL l n) := by
  induction k with
  | zero =>
    refine ⟨fun x n hk => by have := x.sz_args; omega, fun l n hk => ?_⟩
    cases l with
    | nil => simp [cntL, szL]
    | cons x r => rw [szL] at hk; have := x.sz_args; omega
  | succ k ih =>
    have h1 : ∀ (x : Ex) (n : Int), x.sz ≤ k + 1 → cntE x n ≤ 4096 → n + x.sz ≤ cntE x n := fun x n hk => by
      rw [cntE_args]; intro h; have := ih.2 _ _ (by have := x.sz_args; omega) h; have := x.sz_args; omega
    refine ⟨h1, fun l => ?_⟩
    induction l with
    | nil => intro n _ _; simp [cntL, szL]
    | cons x r ihr =>
      intro n hk
      rw [szL] at hk ⊢
      rw [cntL]
      split
      · intro h; omega
      · intro h
        have a1 := cntL_ge r (cntE x n)
        have a2 := h1 x n (by omega) (by omega)
        have a3 := ihr (cntE x n) (by omega) h
        omega
theorem cntZ_room (x : Ex) (n : Int) (h : cntZ x n ≤ 4096) : n + x.sz ≤ cntZ x n + 1 := by
  unfold cntZ at h ⊢
  split
  · rename_i hz
    have : x.args = [] := by
      have : x.args.isEmpty = true := by unfold zeroE at hz; simp only [Bool.and_eq_true] at hz; exact hz.2
      simpa using this
    have h2 := x.sz_args
    rw [this] at h2
    simp only [szL] at h2
    omega
  · rename_i hz
    rw [if_neg hz] at h
    have := (cntE_room _).1 x n (Nat.le_refl _) h
    omega
/-- How much the bodies have. -/
def bq : List Bd → Nat | [] => 0 | b :: r => qSs b.l + bq r
theorem bq_append (l m : List Bd) : bq (l ++ m) = bq l + bq m := by
  induction l with
  | nil => simp [bq]
  | cons b l ih => rw [List.cons_append, bq, bq, ih]; omega
theorem bq_cases (l : List Ca) : qCs l = bq (l.map Ca.bd) + l.length := by
  induction l with
  | nil => simp [bq, qCs]
  | cons c l ih => rw [List.map_cons, bq, qCs, qC_eq, ih, List.length_cons]; show _ = qSs c.body + _ + _; omega
theorem qS_bods (s : St) : qS s = bq (bods s) + s.cases.length + 1 + s.a.sz + s.b.sz := by
  rw [bods, bq, bq_append, bq, bq, qS_eq, bq_cases]
  show _ = qSs s.body + (_ + (qSs s.els + 0)) + _ + 1 + _ + _
  omega
theorem cntB_ge (l : List Bd) (n : Int) : n ≤ cntB l n := by
  induction l generalizing n with
  | nil => simp [cntB]
  | cons b r ih => rw [cntB]; have := ih (cntSs b.l n); have := ((cntS_sz _).2 b.l n (Nat.le_refl _)).1; omega
theorem cntS_room (k : Nat) : (∀ (s : St) (n : Int), s.sz ≤ k → cntS s n ≤ 4096 → 3 * n + qS s ≤ 3 * cntS s n) ∧ (∀ (l : List St) (n : Int), ssz l ≤ k → cntSs l n ≤ 4096 → 3 * n + qSs l ≤ 3 * cntSs l n) := by
  have step : ∀ k, (∀ (s : St) (n : Int), s.sz ≤ k → cntS s n ≤ 4096 → 3 * n + qS s ≤ 3 * cntS s n) → ∀ (l : List St) (n : Int), ssz l ≤ k → cntSs l n ≤ 4096 → 3 * n + qSs l ≤ 3 * cntSs l n := by
    intro k h1 l
    induction l with
    | nil => intro n _ _; simp only [cntSs, qSs]; omega
    | cons x r ihr =>
      intro n hk
      rw [ssz] at hk
      rw [qSs, cntSs]
      split
      · intro h; omega
      · intro h
        have a0 := ((cntS_sz _).2 r (cntS x n) (Nat.le_refl _)).1
        have a1 := h1 x n (by omega) (by omega)
        have a2 := ihr (cntS x n) (by omega) h
        omega
  induction k with
  | zero =>
    have h0 : ∀ (s : St) (n : Int), s.sz ≤ 0 → cntS s n ≤ 4096 → 3 * n + qS s ≤ 3 * cntS s n := fun s n hk => by have := s.sz_eq; omega
    exact ⟨h0, step 0 h0⟩
  | succ k ih =>
    have h1 : ∀ (s : St) (n : Int), s.sz ≤ k + 1 → cntS s n ≤ 4096 → 3 * n + qS s ≤ 3 * cntS s n := by
      intro s n hk
      have fold : ∀ (l : List Bd) (n : Int), (∀ b ∈ l, b ∈ bods s) → cntB l n ≤ 4096 → 3 * n + bq l ≤ 3 * cntB l n := by
        intro l
        induction l with
        | nil => intro n _ _; simp only [cntB, bq]; omega
        | cons b r ihr =>
          intro n hm
          rw [cntB, bq]
          intro h
          have a0 := cntB_ge r (cntSs b.l n)
          have a1 := ih.2 b.l n (by have := bods_sz (hm b (by simp)); omega) (by omega)
          have a2 := ihr (cntSs b.l n) (fun y hy => hm y (by simp [hy])) h
          omega
      rw [cntS_eq]
      intro h
      have b1 := cntZ_ge s.a (n + (1 + (s.cases.length : Int)))
      have b2 := cntZ_ge s.b (cntZ s.a (n + (1 + (s.cases.length : Int))))
      have b3 := cntB_ge (bods s) (cntZ s.b (cntZ s.a (n + (1 + (s.cases.length : Int)))))
      have a1 := cntZ_room s.a (n + (1 + (s.cases.length : Int))) (by omega)
      have a2 := cntZ_room s.b (cntZ s.a (n + (1 + (s.cases.length : Int)))) (by omega)
      have a5 := fold (bods s) (cntZ s.b (cntZ s.a (n + (1 + (s.cases.length : Int))))) (fun b hb => hb) h
      have := qS_bods s
      omega
    exact ⟨h1, step (k + 1) h1⟩
theorem cntF_room : ∀ (l : List Fu) (n : Int), cntF l n ≤ 4096 → 0 ≤ n → ∀ f ∈ l, qSs f.body ≤ 12288
  | [], n => fun _ _ f hf => by cases hf
  | f :: r, n => by
    have a0 := ((cntS_sz _).2 f.body n (Nat.le_refl _)).1
    have a2 := cntF_room r (cntSs f.body n)
    have a3 := (cntF_sz r (cntSs f.body n)).1
    rw [cntF]
    intro h h0 g hg
    rcases List.mem_cons.1 hg with rfl | hg
    · have := (cntS_room _).2 g.body n (Nat.le_refl _) (by omega); omega
    · exact a2 h (by omega) g hg
theorem chkFs_all : ∀ {l : List Fu} {i : Int}, (chkFs l i).1 = 0 → ∀ f ∈ l, (chkF f).1 = 0
  | [], _, _, f, hf => by cases hf
  | g :: r, i, h, f, hf => by
    rw [chkFs] at h
    split at h
    · rename_i h0; exact absurd h h0
    · rename_i h0
      rcases List.mem_cons.1 hf with rfl | hf
      · simpa using h0
      · exact chkFs_all h f hf
/-- How much a function of a program that is right has. -/
theorem check_room {p : Pr} (h : (checkZ p).1 = 0) : p.funcs.length ≤ 32 ∧ ∀ f ∈ p.funcs, qSs f.body ≤ 12288 ∧ f.params.length ≤ 8 := by
  have hw : wholeZ p = 0 ∧ (chkFs p.funcs 0).1 = 0 := by
    unfold checkZ at h
    split at h
    · rename_i h0; exact absurd h h0
    · rename_i h0; exact ⟨by simpa using h0, h⟩
  have hn : p.funcs.length ≤ 32 ∧ nodesZ p ≤ 4096 := by
    have h := hw.1
    unfold wholeZ at h
    split at h
    · omega
    split at h
    · omega
    split at h
    · omega
    split at h
    · omega
    split at h
    · omega
    omega
  refine ⟨hn.1, fun f hf => ?_⟩
  have hn2 := hn.2
  unfold nodesZ at hn2
  refine ⟨cntF_room p.funcs 0 (by omega) (by omega) f hf, ?_⟩
  have hf0 := chkFs_all hw.2 f hf
  unfold chkF at hf0
  split at hf0
  · rename_i h0; exact absurd hf0 h0
  · rename_i h0
    have h1 : headZ f = 0 := by simpa using h0
    unfold headZ at h1
    split at h1
    · omega
    split at h1
    · omega
    omega

/-- The functions ahead of the k-th one, the latest first. -/
def ftK (fs : List Fu) : Nat → List (List UInt8 × Int)
  | 0 => []
  | k + 1 => match fs[k]? with | some f => (f.name.data.toList, (k : Int)) :: ftK fs k | none => ftK fs k
theorem ftK_succ {fs : List Fu} {k : Nat} (h : k < fs.length) : ftK fs (k + 1) = (fs[k].name.data.toList, (k : Int)) :: ftK fs k := by
  rw [ftK, List.getElem?_eq_getElem h]
theorem ftK_length (fs : List Fu) (k : Nat) : (ftK fs k).length ≤ k := by
  induction k with
  | zero => simp [ftK]
  | succ k ih =>
    rw [ftK]
    split
    · simp only [List.length_cons]; omega
    · omega
/-- What the look at the k-th function comes to. -/
def fnK (fs : List Fu) (k : Nat) (f : Fu) : SR := fnS (ftK fs k) f
/-- What is wrong first, from the k-th function on. -/
def lkZ (fs : List Fu) : List Fu → Nat → Int × Int × Int
  | [], _ => (0, 0, 0)
  | f :: r, k => if (fnK fs k f).e ≠ 0 then ((fnK fs k f).e, (k : Int), (fnK fs k f).m) else lkZ fs r (k + 1)
theorem lkZ_drop {fs l : List Fu} {k : Nat} (h : k < l.length) : lkZ fs (l.drop k) k = if (fnK fs k l[k]).e ≠ 0 then ((fnK fs k l[k]).e, (k : Int), (fnK fs k l[k]).m) else lkZ fs (l.drop (k + 1)) (k + 1) := by
  rw [List.drop_eq_getElem_cons h, lkZ]
/-- Which name of a program is used wrongly first. -/
def namZ (p : Pr) : Int × Int × Int := if (checkZ p).1 ≠ 0 then checkZ p else lkZ p.funcs p.funcs 0
end Go.Proofs.YtkkcgkpbbngloaaGreatDoor

/- The document's own look at names: its state, and its small questions. -/
namespace Go.Proofs.YtkkcgkpbbngloaaGreatDoor
open Go.RowKit Go.Sort

theorem gown_lt {W : World} {N n sz : Nat} {T : TypeId} {v : Value} {xs : List Value} (h : W.ownsRow N T sz v n xs) : ∀ g ∈ ob v, N ≤ g ∧ g < W.heap.size := by
  intro g hg
  rcases h.2 with ⟨rfl, _⟩ | ⟨g', cap, cur, rfl, h1, h2, _⟩
  · simp [ob, Value.ownBlock] at hg
  · have : g = g' := by simpa [ob, Value.ownBlock] using hg
    subst this
    exact ⟨h1, (Array.getElem?_eq_some_iff.1 h2).1⟩
theorem gown_keep {W W' : World} {N n sz : Nat} {T : TypeId} {v : Value} {xs : List Value} (h : W.ownsRow N T sz v n xs) (hk : ∀ g ∈ ob v, W'.heap[g]? = W.heap[g]?) : W'.ownsRow N T sz v n xs := by
  refine ⟨h.1, ?_⟩
  rcases h.2 with h0 | ⟨g', cap, cur, rfl, h1, h2, h3⟩
  · exact .inl h0
  · exact .inr ⟨g', cap, cur, rfl, h1, (hk g' (by simp [ob, Value.ownBlock])).trans h2, h3⟩
theorem gown_form {W : World} {N n sz : Nat} {T : TypeId} {v : Value} {xs : List Value} (h : W.ownsRow N T sz v n xs) : ∃ ao cap, v = .slice ao n cap := by
  rcases h.2 with ⟨rfl, rfl⟩ | ⟨g', cap, cur, rfl, _⟩
  · exact ⟨_, _, rfl⟩
  · exact ⟨_, _, rfl⟩
/-- What a row holds, cell by cell. -/
theorem gown_cell {W : World} {N n sz : Nat} {T : TypeId} {v : Value} {xs : List Value} (h : W.ownsRow N T sz v n xs) {j : Nat} {u : Value} (hj : xs[j]? = some u) : ∃ g cap, v = .slice (some ⟨g, 0, none⟩) n cap ∧ n ≤ cap ∧ W.cell? ⟨g, j, none⟩ = some u ∧ W.frozen? ⟨g, j, none⟩ = false := by
  rcases h.2 with ⟨rfl, rfl⟩ | ⟨g', cap, cur, rfl, h1, h2, h3, h4, h5, h6⟩
  · have := (List.getElem?_eq_some_iff.1 hj).1; have h1 := h.1; omega
  · refine ⟨g', cap, rfl, h3, ?_, Lib.frozen_of_heap h2 _⟩
    rw [Lib.cell_of_heap h2, ← Array.getElem?_toList]
    rw [← h6, List.getElem?_take] at hj
    split at hj
    · exact hj
    · cases hj

/-- The variables that are known, as the document keeps them. -/
abbrev Kn := List (ByteArray × Int)
def kC (K : Kn) : List Value := K.flatMap fun x => [.string x.1, .int .u8 x.2]
theorem kC_at {K : Kn} {j : Nat} (h : j < K.length) : (kC K)[j * 2]? = some (.string K[j].1) ∧ (kC K)[j * 2 + 1]? = some (.int .u8 K[j].2) := by
  induction K generalizing j with
  | nil => simp at h
  | cons x r ih =>
    unfold kC at ih ⊢
    cases j with
    | zero => simp
    | succ j =>
      have := ih (j := j) (by simpa using h)
      rw [List.flatMap_cons, show (j + 1) * 2 = j * 2 + 1 + 1 from by omega]
      simpa using this
theorem kC_len (K : Kn) : (kC K).length = K.length * 2 := by
  induction K with
  | nil => rfl
  | cons x r ih => unfold kC at ih ⊢; rw [List.flatMap_cons, List.length_append, ih]; simp; omega
/-- The kind of the first variable of a name. -/
def kdZ : Kn → ByteArray → Int
  | [], _ => 0
  | x :: r, s => if x.1.data.toList = s.data.toList then x.2 else kdZ r s
theorem kdZ_drop {K : Kn} {j : Nat} {s : ByteArray} (h : j < K.length) : kdZ (K.drop j) s = if K[j].1.data.toList = s.data.toList then K[j].2 else kdZ (K.drop (j + 1)) s := by
  rw [List.drop_eq_getElem_cons h, kdZ]
theorem kdZ_append (K L : Kn) (s : ByteArray) : kdZ (K ++ L) s = if kdZ K s = 0 ∧ (∀ x ∈ K, x.1.data.toList ≠ s.data.toList) then kdZ L s else kdZ K s := by
  induction K with
  | nil => simp [kdZ]
  | cons x r ih =>
    rw [List.cons_append, kdZ, kdZ]
    by_cases h : x.1.data.toList = s.data.toList
    · rw [if_pos h, if_pos h, if_neg (fun hx => hx.2 x (by simp) h)]
    · rw [if_neg h, if_neg h, ih]
      congr 1
      simp only [List.forall_mem_cons, ne_eq, h, not_false_eq_true, true_and]
/-- The look's block, and its two rows. -/
def RS (N : Nat) (W : World) (b : Nat) (p : Pr) (fn n lp : Int) (kv : Value) (K : Kn) (e : Int) (cv : Value) (cl : List Bool) : Prop :=
  W.heap[b]? = some (.cells #[.slice p.wa p.widen.length p.wc, .slice p.fa p.funcs.length p.fc, .int .i64 fn, .int .i64 n, .int .i64 lp, kv, .int .i64 e, cv] 55 (0, 0)) ∧
  W.ownsRow N 89 2 kv K.length (kC K) ∧ W.ownsRow N 4 1 cv cl.length (cl.map Value.bool) ∧ N ≤ b ∧ b ∉ ob kv ∧ b ∉ ob cv ∧ ∀ g ∈ ob kv, g ∉ ob cv
variable {N b : Nat} {W : World} {p : Pr} {fn n lp : Int} {kv : Value} {K : Kn} {e : Int} {cv : Value} {cl : List Bool}
theorem RS.cell (h : RS N W b p fn n lp kv K e cv cl) {j : Nat} {u : Value} (hu : (#[.slice p.wa p.widen.length p.wc, .slice p.fa p.funcs.length p.fc, .int .i64 fn, .int .i64 n, .int .i64 lp, kv, .int .i64 e, cv] : Array Value)[j]? = some u) : W.cell? ⟨b, j, none⟩ = some u := by rw [Lib.cell_of_heap h.1]; exact hu
theorem RS.frozen (h : RS N W b p fn n lp kv K e cv cl) (j : Nat) : W.frozen? ⟨b, j, none⟩ = false := Lib.frozen_of_heap h.1 _
theorem RS.lt (h : RS N W b p fn n lp kv K e cv cl) : b < W.heap.size := (Array.getElem?_eq_some_iff.1 h.1).1
theorem RS.fr (h : RS N W b p fn n lp kv K e cv cl) {W' : World} {S : List Nat} (ho : Fr S W W') (h1 : b ∉ S) (h2 : ∀ g ∈ ob kv, g ∉ S) (h3 : ∀ g ∈ ob cv, g ∉ S) : RS N W' b p fn n lp kv K e cv cl :=
  ⟨(ho.2.2.2.2 b h.lt h1).trans h.1, gown_keep h.2.1 (fun g hg => ho.2.2.2.2 g (gown_lt h.2.1 g hg).2 (h2 g hg)), gown_keep h.2.2.1 (fun g hg => ho.2.2.2.2 g (gown_lt h.2.2.1 g hg).2 (h3 g hg)), h.2.2.2⟩
theorem RS.stay (h : RS N W b p fn n lp kv K e cv cl) {W' : World} (hb : Below W.heap.size W W') : RS N W' b p fn n lp kv K e cv cl := h.fr (S := []) (Fr.of_below hb) (by simp) (by simp) (by simp)
/-- A number of the look's block turned. -/
theorem RS.setE (h : RS N W b p fn n lp kv K e cv cl) (x : Int) : RS N (W.setCell ⟨b, 6, none⟩ (.int .i64 x)) b p fn n lp kv K x cv cl := by
  have hset : Fr [b] W (W.setCell ⟨b, 6, none⟩ (.int .i64 x)) := (Fr.refl _ W).set (by simp) _ _
  obtain ⟨k1, k2, k3, k4, k5, k6, k7⟩ := h
  exact ⟨by simp [World.setCell, Array.getElem?_modify, k1], gown_keep k2 (fun g hg => hset.2.2.2.2 g (gown_lt k2 g hg).2 (fun hy => k5 (by have e : g = b := (by simpa using hy); rw [← e]; exact hg))), gown_keep k3 (fun g hg => hset.2.2.2.2 g (gown_lt k3 g hg).2 (fun hy => k6 (by have e : g = b := (by simpa using hy); rw [← e]; exact hg))), k4, k5, k6, k7⟩
theorem RS.setN (h : RS N W b p fn n lp kv K e cv cl) (x : Int) : RS N (W.setCell ⟨b, 3, none⟩ (.int .i64 x)) b p fn x lp kv K e cv cl := by
  have hset : Fr [b] W (W.setCell ⟨b, 3, none⟩ (.int .i64 x)) := (Fr.refl _ W).set (by simp) _ _
  obtain ⟨k1, k2, k3, k4, k5, k6, k7⟩ := h
  exact ⟨by simp [World.setCell, Array.getElem?_modify, k1], gown_keep k2 (fun g hg => hset.2.2.2.2 g (gown_lt k2 g hg).2 (fun hy => k5 (by have e : g = b := (by simpa using hy); rw [← e]; exact hg))), gown_keep k3 (fun g hg => hset.2.2.2.2 g (gown_lt k3 g hg).2 (fun hy => k6 (by have e : g = b := (by simpa using hy); rw [← e]; exact hg))), k4, k5, k6, k7⟩
theorem RS.setL (h : RS N W b p fn n lp kv K e cv cl) (x : Int) : RS N (W.setCell ⟨b, 4, none⟩ (.int .i64 x)) b p fn n x kv K e cv cl := by
  have hset : Fr [b] W (W.setCell ⟨b, 4, none⟩ (.int .i64 x)) := (Fr.refl _ W).set (by simp) _ _
  obtain ⟨k1, k2, k3, k4, k5, k6, k7⟩ := h
  exact ⟨by simp [World.setCell, Array.getElem?_modify, k1], gown_keep k2 (fun g hg => hset.2.2.2.2 g (gown_lt k2 g hg).2 (fun hy => k5 (by have e : g = b := (by simpa using hy); rw [← e]; exact hg))), gown_keep k3 (fun g hg => hset.2.2.2.2 g (gown_lt k3 g hg).2 (fun hy => k6 (by have e : g = b := (by simpa using hy); rw [← e]; exact hg))), k4, k5, k6, k7⟩
/-- The variables of one list of statements forgotten: the row cut. -/
theorem RS.cut (h : RS N W b p fn n lp kv K e cv cl) (m : Nat) (hm : m ≤ K.length) {ao : Option Addr} {c : Nat} (hv : kv = .slice ao K.length c) : RS N (W.setCell ⟨b, 5, none⟩ (.slice ao m c)) b p fn n lp (.slice ao m c) (K.take m) e cv cl := by
  have hset : Fr [b] W (W.setCell ⟨b, 5, none⟩ (.slice ao m c)) := (Fr.refl _ W).set (by simp) _ _
  subst hv
  have hob : ob (.slice ao m c) = ob (.slice ao K.length c) := by unfold ob Value.ownBlock; cases ao <;> rfl
  obtain ⟨k1, k2, k3, k4, k5, k6, k7⟩ := h
  refine ⟨by simp [World.setCell, Array.getElem?_modify, k1], ?_, gown_keep k3 (fun g hg => hset.2.2.2.2 g (gown_lt k3 g hg).2 (fun hy => k6 (by have e : g = b := (by simpa using hy); rw [← e]; exact hg))), k4, by rw [hob]; exact k5, k6, by rw [hob]; exact k7⟩
  have k2' := gown_keep k2 (fun g hg => hset.2.2.2.2 g (gown_lt k2 g hg).2 (fun hy => k5 (by have e : g = b := (by simpa using hy); rw [← e]; exact hg)))
  have hl : (K.take m).length = m := by rw [List.length_take]; omega
  have hkc : kC (K.take m) = (kC K).take (m * 2) := by
    have h1 : kC K = kC (K.take m) ++ kC (K.drop m) := by unfold kC; rw [← List.flatMap_append, List.take_append_drop]
    rw [h1, List.take_left' (by rw [kC_len, hl])]
  refine ⟨by rw [kC_len], ?_⟩
  rcases k2'.2 with ⟨e0, e1⟩ | ⟨g, cap, cur, e0, h1, h2, h3, h4, h5, h6⟩
  · injection e0 with e2 e3 e4
    subst e2
    subst e4
    exact .inl ⟨by rw [show m = 0 by omega], by rw [hl]; omega⟩
  · injection e0 with e2 e3 e4
    subst e2
    subst e4
    refine .inr ⟨g, c, cur, by rw [hl], h1, h2, by rw [hl]; omega, h4, h5, ?_⟩
    rw [hkc, ← h6, List.take_take, hl, Nat.min_eq_left (by omega)]
end Go.Proofs.YtkkcgkpbbngloaaGreatDoor

/- The document's own look at names: kind, wrong, uses. -/
namespace Go.Proofs.YtkkcgkpbbngloaaGreatDoor
open Go.RowKit Go.Sort

set_option maxRecDepth 100000 in
set_option maxHeartbeats 4000000 in
theorem rkind_any (s : ByteArray) {N b : Nat} {w : World} {p : Pr} {fn n lp : Int} {kv : Value} {K : Kn} {e : Int} {cv : Value} {cl : List Bool} (h : RS N w b p fn n lp kv K e cv cl) (hK : K.length ≤ 1000000) :
    Calls Tryz.prog 32 #[.pointer (some ⟨b, 0, none⟩), .string s] w fun r w' => r = .returned (.int .u8 (kdZ K s)) ∧ w' = w := by
  obtain ⟨ao, cap, rfl⟩ := gown_form h.2.1
  have c5 := h.cell (j := 5) rfl
  have HR : Hid (∀ j, (hj : j < K.length) → ∃ g, ao = some ⟨g, 0, none⟩ ∧ w.cell? ⟨g, j * 2, none⟩ = some (.string K[j].1) ∧ w.cell? ⟨g, j * 2 + 1, none⟩ = some (.int .u8 K[j].2)) := fun j hj => by
    obtain ⟨g, cap', e1, _, e2, _⟩ := gown_cell h.2.1 (kC_at hj).1
    obtain ⟨g', cap'', e1', _, e2', _⟩ := gown_cell h.2.1 (kC_at hj).2
    cases e1
    cases e1'
    exact ⟨g, rfl, e2, e2'⟩
  have HK : Hid (K.length ≤ 1000000) := hK
  obtain ⟨R, hR⟩ : ∃ R, kdZ K s = R := ⟨_, rfl⟩
  have HRR := Hid.mk' hR
  rw [hR]
  clear h hR hK
  go_enter Tryz.func32, Tryz.ntmps32
  go_wp2_with fail
  go_loopw [5] (fun t5 wr => ∃ (j : Nat), j ≤ K.length ∧ t5 = .int .i64 j ∧ kdZ (K.drop j) s = R ∧ wr = w) (fun t5 _ => K.length - (intOf t5).toNat)
  case atStart => exact ⟨0, Nat.zero_le _, rfl, HRR.out, rfl⟩
  case round =>
    obtain ⟨j, hj, rfl, h1, rfl⟩ := hrel
    have HX := Hid.mk' h1
    clear h1
    have hK := HK.out
    by_cases hlt : j < K.length
    · have hli : (j : Int) < (K.length : Int) := by omega
      obtain ⟨g, hao, d0, d1⟩ := HR.out j hlt
      subst hao
      have HD : Hid (kdZ (K.drop j) s = if K[j].1.data.toList = s.data.toList then K[j].2 else kdZ (K.drop (j + 1)) s) := kdZ_drop hlt
      generalize K[j] = x at *
      obtain ⟨x1, x2⟩ := x
      simp only at HD d0 d1
      cases hs : (x1.toList == s.toList)
      · have HV : Hid (kdZ (K.drop (j + 1)) s = R) := by
          show _ = _
          rw [← HX.out, HD.out, if_neg]
          rw [← ba_list, ← ba_list]; simpa using hs
        go_wp2_with fail
        go_roundw
        case rel => exact ⟨j + 1, by omega, by go_num, HV.out, by first | rfl | trivial⟩
        case measure => simp [intOf]; omega
      · have HV : Hid (R = x2) := by
          show _ = _
          rw [← HX.out, HD.out, if_pos]
          rw [← ba_list, ← ba_list]; simpa using hs
        go_wp2_with fail
        go_ret
        exact ⟨by rw [HV.out]; rfl, rfl⟩
    · have hli : ¬ (j : Int) < (K.length : Int) := by omega
      have HV : Hid (R = 0) := by show _ = _; rw [← HX.out, List.drop_eq_nil_of_le (by omega), kdZ]
      go_wp2_with fail
      go_ret
      exact ⟨by rw [HV.out]; rfl, rfl⟩
set_option maxRecDepth 100000 in
set_option maxHeartbeats 4000000 in
theorem rwrong_any (x : Int) {N b : Nat} {w : World} {p : Pr} {fn n lp : Int} {kv : Value} {K : Kn} {cv : Value} {cl : List Bool} (h : RS N w b p fn n lp kv K 0 cv cl) :
    Calls Tryz.prog 33 #[.pointer (some ⟨b, 0, none⟩), .int .i64 x] w fun r w' => r = .returned (.tuple #[]) ∧ RS N w' b p fn n lp kv K x cv cl ∧ Fr [b] w w' := by
  have c6 := h.cell (j := 6) rfl
  have q6 := h.frozen 6
  have HP := Hid.mk' (And.intro (h.setE x) ((Fr.refl [b] w).set (g := b) (by simp) 6 (.int .i64 x)))
  clear h
  go_enter Tryz.func33, Tryz.ntmps33
  go_wp2_with fail
  go_end0
  exact ⟨rfl, HP.out⟩
/-- What is wrong where a variable is used, as an array or not. -/
def usZ (k : Int) (a : Bool) : Int := if k = 0 then 8 else if ((k == 97) != a) = true then 30 else 0
set_option maxRecDepth 100000 in
set_option maxHeartbeats 4000000 in
theorem ruses_any (s : ByteArray) (a : Bool) {N b : Nat} {w : World} {p : Pr} {fn n lp : Int} {kv : Value} {K : Kn} {cv : Value} {cl : List Bool} (h : RS N w b p fn n lp kv K 0 cv cl) (hK : K.length ≤ 1000000) :
    Calls Tryz.prog 87 #[.pointer (some ⟨b, 0, none⟩), .string s, .bool a] w fun r w' => r = .returned (.tuple #[]) ∧ RS N w' b p fn n lp kv K (usZ (kdZ K s) a) cv cl ∧ Fr [b] w w' := by
  have HK := Hid.mk' (rkind_any s h hK)
  have HW := Hid.mk' (fun x => rwrong_any x h)
  have HH := Hid.mk' h
  have HU : Hid (∀ k, usZ k a = if k = 0 then 8 else if ((k == 97) != a) = true then 30 else 0) := fun k => rfl
  clear h
  generalize kdZ K s = k at *
  go_enter Tryz.func87, Tryz.ntmps87
  go_wp2_with fail
  refine HK.out.mono ?_
  rintro r w1 ⟨rfl, rfl⟩
  cases hk : (k == 0)
  · have hk0 : k ≠ 0 := by simpa using hk
    cases a <;> cases hk97 : (k == 97)
    · have HV : Hid (usZ k false = 0) := by show _ = _; rw [HU.out, if_neg hk0, if_neg (by rw [hk97]; simp)]
      clear hk0
      go_wp2_with fail
      go_end0
      exact ⟨rfl, by rw [HV.out]; exact HH.out, Fr.refl _ _⟩
    · have HV : Hid (usZ k false = 30) := by show _ = _; rw [HU.out, if_neg hk0, if_pos (by rw [hk97]; rfl)]
      clear hk0
      go_wp2_with fail
      refine (HW.out 30).mono ?_
      rintro r w2 ⟨rfl, h2⟩
      go_wp2_with fail
      go_end0
      exact ⟨rfl, by rw [HV.out]; exact h2⟩
    · have HV : Hid (usZ k true = 30) := by show _ = _; rw [HU.out, if_neg hk0, if_pos (by rw [hk97]; rfl)]
      clear hk0
      go_wp2_with fail
      refine (HW.out 30).mono ?_
      rintro r w2 ⟨rfl, h2⟩
      go_wp2_with fail
      go_end0
      exact ⟨rfl, by rw [HV.out]; exact h2⟩
    · have HV : Hid (usZ k true = 0) := by show _ = _; rw [HU.out, if_neg hk0, if_neg (by rw [hk97]; simp)]
      clear hk0
      go_wp2_with fail
      go_end0
      exact ⟨rfl, by rw [HV.out]; exact HH.out, Fr.refl _ _⟩
  · have hk0 : k = 0 := by simpa using hk
    have HV : Hid (usZ k a = 8) := by show _ = _; rw [HU.out, if_pos hk0]
    clear hk0
    go_wp2_with fail
    refine (HW.out 8).mono ?_
    rintro r w2 ⟨rfl, h2⟩
    go_wp2_with fail
    go_end0
    exact ⟨rfl, by rw [HV.out]; exact h2⟩
end Go.Proofs.YtkkcgkpbbngloaaGreatDoor
