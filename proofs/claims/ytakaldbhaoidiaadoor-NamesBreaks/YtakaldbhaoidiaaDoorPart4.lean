/- The program's walker: a store. -/
import Derived.Test.YtakaldbhaoidiaaDoorPart3
import Derived.Test.YtakaldbhaoidiaaDoorPart1
import Derived.Test.YtakaldbhaoidiaaDoorPart2
import Derived.Laws.MakeOwn
namespace Go.Proofs.YtakaldbhaoidiaaDoor
open Go.RowKit Go.Sort

theorem stS_sto {ft : List (List UInt8 × Int)} {s : St} {env : Env} {m : Int} (h : s.kind = 4) : stS ft s env m = ⟨orF [ixZ (envAt env s.name.data.toList), exZ env ft s.a, exZ env ft s.b], m, env, exC ft s.a ++ exC ft s.b⟩ := by
  obtain ⟨k, nm, n, a, b, ba, bc, l, ea, ec, e, ca, cc, c⟩ := s
  subst h
  rw [stS, if_neg (by decide), if_neg (by decide), if_neg (by decide), if_pos rfl]; rfl
set_option maxRecDepth 100000 in
set_option maxHeartbeats 2000000 in
theorem nst_sto (w0 : World) (b fm : Nat) (ft : List (List UInt8 × Int)) (s : St) (a : Option Addr) (x : Nat × Nat) (bs : List (Nat × Nat)) (env : Env) (m : Int) (v : Value) (cs : List Int) (w : World) (hk : s.kind = 4) (hin : s.In w0) (hB : Below w0.heap.size w0 w) (hw : WS w0.heap.size w b fm a (x :: bs) env ft m v cs) (h1 : cs.length + qS s ≤ 1000000) (_h2 : ∀ f ∈ env, f.2.length + qS s ≤ 900000) :
    Calls Tryd.prog 46 #[.pointer (some ⟨b, 0, none⟩), s.val] w fun e w' => e = .returned (.int .i64 (stS ft s env m).e) ∧ LP w0.heap.size b fm a x bs ft v cs (qS s) w w' (stS ft s env m) := by
  rw [stS_sto hk]
  have hq := qS_eq s
  obtain ⟨_, hz, _, hia, hib, _⟩ := St.in_iff.1 hin
  have hb0 := (Below.refl _ w).alloc (Nat.le_refl _) (stBox s)
  have hB1 : Below w0.heap.size w0 (w.alloc (stBox s)) := hB.trans (hb0.mono hB.size)
  have hL : ∀ g ∈ b :: x.2 :: ob v, w0.heap.size ≤ g := fun q hq => by
    rcases List.mem_cons.1 hq with rfl | hq
    · exact hw.2.2.2.2.2.2 q (by simp)
    rcases List.mem_cons.1 hq with rfl | hq
    · exact hw.2.2.2.2.2.2 _ (by simp [chB])
    · exact (own_lt hw.2.2.2.1 q hq).1
  have hs : ∀ g ∈ b :: ob v, g ∈ b :: x.2 :: ob v := fun g hg => by
    rcases List.mem_cons.1 hg with rfl | hg <;> simp_all
  have hnL := ws_new hw
  have g0 : GS w0.heap.size b fm a x bs ft v cs (b :: x.2 :: ob v) True 0 [] (w.alloc (stBox s)) (w.alloc (stBox s)).drew env m := (GS.start (hw.stay hb0) True).below (Below.drew (Below.refl _ _))
  have HE : Hid (∀ W, GS w0.heap.size b fm a x bs ft v cs (b :: x.2 :: ob v) True 0 [] (w.alloc (stBox s)) W env m → Calls Tryd.prog 63 #[.pointer (some ⟨b, 0, none⟩), .agg #[.int .i64 s.a.kind, .int .i64 s.a.n, .string s.a.name, .slice s.a.a s.a.args.length s.a.cap]] W fun e W' => e = .returned (.int .i64 (exZ env ft s.a)) ∧ GS w0.heap.size b fm a x bs ft v cs (b :: x.2 :: ob v) (True ∧ exZ env ft s.a = 0) (0 + s.a.sz) ([] ++ exC ft s.a) (w.alloc (stBox s)) W' env m) :=
    fun W h => gs_expr w0 b fm h s.a hia hB1 hL hs (by omega)
  have HB : Hid (∀ W, GS w0.heap.size b fm a x bs ft v cs (b :: x.2 :: ob v) (True ∧ exZ env ft s.a = 0) (0 + s.a.sz) ([] ++ exC ft s.a) (w.alloc (stBox s)) W env m → Calls Tryd.prog 63 #[.pointer (some ⟨b, 0, none⟩), .agg #[.int .i64 s.b.kind, .int .i64 s.b.n, .string s.b.name, .slice s.b.a s.b.args.length s.b.cap]] W fun e W' => e = .returned (.int .i64 (exZ env ft s.b)) ∧ GS w0.heap.size b fm a x bs ft v cs (b :: x.2 :: ob v) ((True ∧ exZ env ft s.a = 0) ∧ exZ env ft s.b = 0) ((0 + s.a.sz) + s.b.sz) (([] ++ exC ft s.a) ++ exC ft s.b) (w.alloc (stBox s)) W' env m) :=
    fun W h => gs_expr w0 b fm h s.b hib hB1 hL hs (by omega)
  have HC : Hid (∀ W, GS w0.heap.size b fm a x bs ft v cs (b :: x.2 :: ob v) True 0 [] (w.alloc (stBox s)) W env m → Calls Tryd.prog 65 #[.pointer a, .string s.name] W fun e W' => e = .returned (.int .i64 (ixZ (envAt env s.name.data.toList))) ∧ W' = W) := fun W h => index_any' s.name hz a (x :: bs) env W h.chain
  have HF : Hid (∀ W, GS w0.heap.size b fm a x bs ft v cs (b :: x.2 :: ob v) ((True ∧ exZ env ft s.a = 0) ∧ exZ env ft s.b = 0) ((0 + s.a.sz) + s.b.sz) (([] ++ exC ft s.a) ++ exC ft s.b) (w.alloc (stBox s)) W env m → LP w0.heap.size b fm a x bs ft v cs (qS s) w (W.alloc (.cells #[.int .i64 (ixZ (envAt env s.name.data.toList)), .int .i64 (exZ env ft s.a), .int .i64 (exZ env ft s.b)] 27)) ⟨orF [ixZ (envAt env s.name.data.toList), exZ env ft s.a, exZ env ft s.b], m, env, exC ft s.a ++ exC ft s.b⟩) :=
    fun W h => (h.below ((Below.refl _ _).alloc (Nat.le_refl _) _)).lp hb0 (fun e => ⟨⟨⟨trivial, (orF3.1 e).2.1⟩, (orF3.1 e).2.2⟩, by simp⟩) rfl rfl (by omega)
  have y0 : ∀ W, SX b a (b :: x.2 :: ob v) (w.alloc (stBox s)) W → W.cell? ⟨b, 0, none⟩ = some (.pointer a) := fun W h => h.2
  have y1 : ∀ W, SX b a (b :: x.2 :: ob v) (w.alloc (stBox s)) W → W.cell? ⟨w.heap.size, 1, none⟩ = some (.string s.name) := fun W h => SX.box hnL (by rw [World.cell?_alloc_at _ _ _ _ rfl]; rfl) h
  have y3 : ∀ W, SX b a (b :: x.2 :: ob v) (w.alloc (stBox s)) W → W.cell? ⟨w.heap.size, 3, none⟩ = some (.int .i64 s.a.kind) := fun W h => SX.box hnL (by rw [World.cell?_alloc_at _ _ _ _ rfl]; rfl) h
  have y4 : ∀ W, SX b a (b :: x.2 :: ob v) (w.alloc (stBox s)) W → W.cell? ⟨w.heap.size, 4, none⟩ = some (.int .i64 s.a.n) := fun W h => SX.box hnL (by rw [World.cell?_alloc_at _ _ _ _ rfl]; rfl) h
  have y5 : ∀ W, SX b a (b :: x.2 :: ob v) (w.alloc (stBox s)) W → W.cell? ⟨w.heap.size, 5, none⟩ = some (.string s.a.name) := fun W h => SX.box hnL (by rw [World.cell?_alloc_at _ _ _ _ rfl]; rfl) h
  have y6 : ∀ W, SX b a (b :: x.2 :: ob v) (w.alloc (stBox s)) W → W.cell? ⟨w.heap.size, 6, none⟩ = some (.slice s.a.a s.a.args.length s.a.cap) := fun W h => SX.box hnL (by rw [World.cell?_alloc_at _ _ _ _ rfl]; rfl) h
  have y7 : ∀ W, SX b a (b :: x.2 :: ob v) (w.alloc (stBox s)) W → W.cell? ⟨w.heap.size, 7, none⟩ = some (.int .i64 s.b.kind) := fun W h => SX.box hnL (by rw [World.cell?_alloc_at _ _ _ _ rfl]; rfl) h
  have y8 : ∀ W, SX b a (b :: x.2 :: ob v) (w.alloc (stBox s)) W → W.cell? ⟨w.heap.size, 8, none⟩ = some (.int .i64 s.b.n) := fun W h => SX.box hnL (by rw [World.cell?_alloc_at _ _ _ _ rfl]; rfl) h
  have y9 : ∀ W, SX b a (b :: x.2 :: ob v) (w.alloc (stBox s)) W → W.cell? ⟨w.heap.size, 9, none⟩ = some (.string s.b.name) := fun W h => SX.box hnL (by rw [World.cell?_alloc_at _ _ _ _ rfl]; rfl) h
  have y10 : ∀ W, SX b a (b :: x.2 :: ob v) (w.alloc (stBox s)) W → W.cell? ⟨w.heap.size, 10, none⟩ = some (.slice s.b.a s.b.args.length s.b.cap) := fun W h => SX.box hnL (by rw [World.cell?_alloc_at _ _ _ _ rfl]; rfl) h
  clear hin hB hw h1 _h2 hq hz hia hib hb0 hB1 hL hs hnL
  obtain ⟨W1, hW1⟩ : ∃ W1, w.alloc (stBox s) = W1 := ⟨_, rfl⟩
  rw [hW1] at g0 HE HB HC HF y0 y1 y3 y4 y5 y6 y7 y8 y9 y10
  unfold stBox at hW1
  rw [hk] at hW1
  have HW1 := show Hid _ from hW1
  clear hW1
  generalize exZ env ft s.a = ra at *
  generalize exZ env ft s.b = rb at *
  generalize ixZ (envAt env s.name.data.toList) = rd at *
  unfold St.val
  rw [hk]
  go_enter Tryd.func46, Tryd.ntmps46
  go_wp2_with fail
  rw [HW1.out]
  clear HW1
  go_region_held (fun w' => SX b a (b :: x.2 :: ob v) W1 w') (first | exact GS.sx (by assumption) | exact SX.below (by assumption) ((Below.refl _ _).alloc (Nat.le_refl _) _) | assumption)
    (first
      | (go_at_call 65; refine (HC.out _ (by assumption)).mono ?_; rintro e w' ⟨rfl, rfl⟩)
      | (go_at_call_of 63 (s.a.kind); refine (HE.out _ (by assumption)).mono ?_; rintro e w' ⟨rfl, hg⟩)
      | (go_at_call_of 63 (s.b.kind); refine (HB.out _ (by assumption)).mono ?_; rintro e w' ⟨rfl, hg⟩)
      | (go_at_call 62; refine (or3 rd ra rb _).mono ?_; rintro e w' ⟨rfl, rfl⟩))
  all_goals go_wp2_with fail
  all_goals go_ret
  all_goals exact ⟨rfl, HF.out _ (by assumption)⟩
end Go.Proofs.YtakaldbhaoidiaaDoor

/- A test that is false. -/
namespace Go.Proofs.YtakaldbhaoidiaaDoor
theorem beq_no {a b : Int} (h : a ≠ b) : (a == b) = false := by rw [beq_eq_false_iff_ne]; exact h
end Go.Proofs.YtakaldbhaoidiaaDoor

/- The program's walker: a break, and a statement that is an expression alone. -/
namespace Go.Proofs.YtakaldbhaoidiaaDoor
open Go.RowKit Go.Sort

theorem stS_brk {ft : List (List UInt8 × Int)} {s : St} {env : Env} {m : Int} (h : s.kind = 8) : stS ft s env m = ⟨lvZ env, m, env, []⟩ := by
  obtain ⟨k, nm, n, a, b, ba, bc, l, ea, ec, e, ca, cc, c⟩ := s
  subst h
  rw [stS, if_neg (by decide), if_neg (by decide), if_neg (by decide), if_neg (by decide), if_neg (by decide), if_neg (by decide), if_pos rfl]
set_option maxRecDepth 100000 in
set_option maxHeartbeats 2000000 in
theorem nst_brk (w0 : World) (b fm : Nat) (ft : List (List UInt8 × Int)) (s : St) (a : Option Addr) (x : Nat × Nat) (bs : List (Nat × Nat)) (env : Env) (m : Int) (v : Value) (cs : List Int) (w : World) (hk : s.kind = 8) (hin : s.In w0) (hB : Below w0.heap.size w0 w) (hw : WS w0.heap.size w b fm a (x :: bs) env ft m v cs) (_h1 : cs.length + qS s ≤ 1000000) (_h2 : ∀ f ∈ env, f.2.length + qS s ≤ 900000) :
    Calls Tryd.prog 46 #[.pointer (some ⟨b, 0, none⟩), s.val] w fun e w' => e = .returned (.int .i64 (stS ft s env m).e) ∧ LP w0.heap.size b fm a x bs ft v cs (qS s) w w' (stS ft s env m) := by
  rw [stS_brk hk]
  have hq := qS_eq s
  obtain ⟨_, hz, _, hia, hib, _⟩ := St.in_iff.1 hin
  have hb0 := (Below.refl _ w).alloc (Nat.le_refl _) (stBox s)
  have hB1 : Below w0.heap.size w0 (w.alloc (stBox s)) := hB.trans (hb0.mono hB.size)
  have hL : ∀ g ∈ b :: x.2 :: ob v, w0.heap.size ≤ g := fun q hq => by
    rcases List.mem_cons.1 hq with rfl | hq
    · exact hw.2.2.2.2.2.2 q (by simp)
    rcases List.mem_cons.1 hq with rfl | hq
    · exact hw.2.2.2.2.2.2 _ (by simp [chB])
    · exact (own_lt hw.2.2.2.1 q hq).1
  have hs : ∀ g ∈ b :: ob v, g ∈ b :: x.2 :: ob v := fun g hg => by
    rcases List.mem_cons.1 hg with rfl | hg <;> simp_all
  have hnL := ws_new hw
  have g0 : GS w0.heap.size b fm a x bs ft v cs (b :: x.2 :: ob v) True 0 [] (w.alloc (stBox s)) (w.alloc (stBox s)) env m := GS.start (hw.stay hb0) True
  have k0 := hw.cellS
  have hlt := hw.lt
  have hne : env ≠ [] := fun e => by have := hw.2.1; rw [e] at this; exact this.elim
  have HC : Hid (∀ W, GS w0.heap.size b fm a x bs ft v cs (b :: x.2 :: ob v) True 0 [] (w.alloc (stBox s)) W env m → Calls Tryd.prog 68 #[.pointer a] W fun e W' => e = .returned (.int .i64 (lvZ env)) ∧ W' = W) := fun W h => leave_any a (x :: bs) env W h.chain hne
  have HF : Hid (∀ W, GS w0.heap.size b fm a x bs ft v cs (b :: x.2 :: ob v) True 0 [] (w.alloc (stBox s)) W env m → LP w0.heap.size b fm a x bs ft v cs (qS s) w W ⟨lvZ env, m, env, []⟩) :=
    fun W h => h.lp hb0 (fun _ => ⟨trivial, rfl⟩) rfl rfl (by omega)
  clear hin hB hw _h1 _h2 hq hz hia hib hb0 hB1 hL hs hnL hne
  obtain ⟨W1, hW1⟩ : ∃ W1, w.alloc (stBox s) = W1 := ⟨_, rfl⟩
  rw [hW1] at g0 HC HF
  unfold stBox at hW1
  rw [hk] at hW1
  have HW1 := show Hid _ from hW1
  clear hW1
  unfold St.val
  rw [hk]
  go_enter Tryd.func46, Tryd.ntmps46
  go_wp2_with fail
  rw [HW1.out]
  refine (HC.out _ g0).mono ?_
  rintro e w' ⟨rfl, rfl⟩
  go_wp2_with fail
  go_ret
  exact ⟨rfl, HF.out _ g0⟩
theorem stS_oth {ft : List (List UInt8 × Int)} {s : St} {env : Env} {m : Int} (h : s.kind ≠ 1 ∧ s.kind ≠ 2 ∧ s.kind ≠ 3 ∧ s.kind ≠ 4 ∧ s.kind ≠ 5 ∧ s.kind ≠ 6 ∧ s.kind ≠ 7 ∧ s.kind ≠ 8) : stS ft s env m = ⟨exZ env ft s.a, m, env, exC ft s.a⟩ := by
  obtain ⟨k, nm, n, a, b, ba, bc, l, ea, ec, e, ca, cc, c⟩ := s
  obtain ⟨h1, _h2, h3, h4, h5, h6, h7, h8⟩ := h
  simp only [St.kind] at h1 _h2 h3 h4 h5 h6 h7 h8
  rw [stS, if_neg h1, if_neg _h2, if_neg h3, if_neg h4, if_neg (fun e => e.elim h5 h6), if_neg h7, if_neg h8]; rfl
set_option maxRecDepth 100000 in
set_option maxHeartbeats 2000000 in
theorem nst_oth (w0 : World) (b fm : Nat) (ft : List (List UInt8 × Int)) (s : St) (a : Option Addr) (x : Nat × Nat) (bs : List (Nat × Nat)) (env : Env) (m : Int) (v : Value) (cs : List Int) (w : World) (hk : s.kind ≠ 1 ∧ s.kind ≠ 2 ∧ s.kind ≠ 3 ∧ s.kind ≠ 4 ∧ s.kind ≠ 5 ∧ s.kind ≠ 6 ∧ s.kind ≠ 7 ∧ s.kind ≠ 8) (hin : s.In w0) (hB : Below w0.heap.size w0 w) (hw : WS w0.heap.size w b fm a (x :: bs) env ft m v cs) (h1 : cs.length + qS s ≤ 1000000) (_h2 : ∀ f ∈ env, f.2.length + qS s ≤ 900000) :
    Calls Tryd.prog 46 #[.pointer (some ⟨b, 0, none⟩), s.val] w fun e w' => e = .returned (.int .i64 (stS ft s env m).e) ∧ LP w0.heap.size b fm a x bs ft v cs (qS s) w w' (stS ft s env m) := by
  rw [stS_oth hk]
  have hq := qS_eq s
  obtain ⟨_, hz, _, hia, hib, _⟩ := St.in_iff.1 hin
  have hb0 := (Below.refl _ w).alloc (Nat.le_refl _) (stBox s)
  have hB1 : Below w0.heap.size w0 (w.alloc (stBox s)) := hB.trans (hb0.mono hB.size)
  have hL : ∀ g ∈ b :: x.2 :: ob v, w0.heap.size ≤ g := fun q hq => by
    rcases List.mem_cons.1 hq with rfl | hq
    · exact hw.2.2.2.2.2.2 q (by simp)
    rcases List.mem_cons.1 hq with rfl | hq
    · exact hw.2.2.2.2.2.2 _ (by simp [chB])
    · exact (own_lt hw.2.2.2.1 q hq).1
  have hs : ∀ g ∈ b :: ob v, g ∈ b :: x.2 :: ob v := fun g hg => by
    rcases List.mem_cons.1 hg with rfl | hg <;> simp_all
  have hnL := ws_new hw
  have g0 : GS w0.heap.size b fm a x bs ft v cs (b :: x.2 :: ob v) True 0 [] (w.alloc (stBox s)) (w.alloc (stBox s)) env m := GS.start (hw.stay hb0) True
  have HE : Hid (∀ W, GS w0.heap.size b fm a x bs ft v cs (b :: x.2 :: ob v) True 0 [] (w.alloc (stBox s)) W env m → Calls Tryd.prog 63 #[.pointer (some ⟨b, 0, none⟩), .agg #[.int .i64 s.a.kind, .int .i64 s.a.n, .string s.a.name, .slice s.a.a s.a.args.length s.a.cap]] W fun e W' => e = .returned (.int .i64 (exZ env ft s.a)) ∧ GS w0.heap.size b fm a x bs ft v cs (b :: x.2 :: ob v) (True ∧ exZ env ft s.a = 0) (0 + s.a.sz) ([] ++ exC ft s.a) (w.alloc (stBox s)) W' env m) :=
    fun W h => gs_expr w0 b fm h s.a hia hB1 hL hs (by omega)
  have HF : Hid (∀ W, GS w0.heap.size b fm a x bs ft v cs (b :: x.2 :: ob v) (True ∧ exZ env ft s.a = 0) (0 + s.a.sz) ([] ++ exC ft s.a) (w.alloc (stBox s)) W env m → LP w0.heap.size b fm a x bs ft v cs (qS s) w W ⟨exZ env ft s.a, m, env, exC ft s.a⟩) :=
    fun W h => h.lp hb0 (fun e => ⟨⟨trivial, e⟩, by simp⟩) rfl rfl (by omega)
  obtain ⟨e1, e2, e3, e4, e5, e6, e7, e8⟩ := hk
  replace e1 := beq_no e1
  replace e2 := beq_no e2
  replace e3 := beq_no e3
  replace e4 := beq_no e4
  replace e5 := beq_no e5
  replace e6 := beq_no e6
  replace e7 := beq_no e7
  replace e8 := beq_no e8
  clear hin hB hw h1 _h2 hq hz hia hib hb0 hB1 hL hs hnL
  obtain ⟨W1, hW1⟩ : ∃ W1, w.alloc (stBox s) = W1 := ⟨_, rfl⟩
  rw [hW1] at g0 HE HF
  unfold stBox at hW1
  have HW1 := show Hid _ from hW1
  clear hW1
  generalize exZ env ft s.a = ra at *
  unfold St.val
  go_enter Tryd.func46, Tryd.ntmps46
  go_wp2_with fail
  rw [HW1.out]
  refine (HE.out _ g0).mono ?_
  rintro e w' ⟨rfl, hg⟩
  have HG : Hid _ := hg
  clear hg g0
  go_wp2_with fail
  go_ret
  exact ⟨rfl, HF.out _ HG.out⟩
end Go.Proofs.YtakaldbhaoidiaaDoor

/- The program's walker: a scope of its own inside a statement. -/
namespace Go.Proofs.YtakaldbhaoidiaaDoor
open Go.RowKit Go.Sort

/-- The walker inside a statement, with a scope made that lies in the one at hand. -/
def GB (N b fm : Nat) (a : Option Addr) (x : Nat × Nat) (bs : List (Nat × Nat)) (ft : List (List UInt8 × Int)) (v : Value) (cs : List Int) (L : List Nat) (ok : Prop) (k : Nat) (c : List Int) (w W : World) (env : Env) (m : Int) (a2 : Option Addr) (x2 : Nat × Nat) (f2 : Bool × List (List UInt8 × Int)) : Prop :=
  ∃ v' cs', WS N W b fm a (x :: bs) env ft m v' cs' ∧ (ok → cs' = cs ++ c) ∧ cs'.length ≤ cs.length + k ∧ Fr L w W ∧ (∀ g ∈ ob v', g ∈ ob v ∨ w.heap.size ≤ g) ∧ Chain W a2 (x2 :: x :: bs) (f2 :: env) ∧ (b :: fm :: chB (x2 :: x :: bs)).Nodup ∧ (∀ g ∈ ob v', g ∉ b :: fm :: chB (x2 :: x :: bs)) ∧ (∀ g ∈ b :: fm :: chB (x2 :: x :: bs), N ≤ g) ∧ (w.heap.size ≤ x2.1 ∧ w.heap.size ≤ x2.2)
theorem GB.gs {N b fm : Nat} {a x bs ft v cs L ok k c w W env m a2 x2 f2} (h : GB N b fm a x bs ft v cs L ok k c w W env m a2 x2 f2) : GS N b fm a x bs ft v cs L ok k c w W env m := by
  obtain ⟨v', cs', i1, i2, i3, i4, i5, _⟩ := h
  exact ⟨v', cs', i1, i2, i3, i4, i5⟩
theorem GB.sx {N b fm : Nat} {a x bs ft v cs L ok k c w W env m a2 x2 f2} (h : GB N b fm a x bs ft v cs L ok k c w W env m a2 x2 f2) : SX b a L w W := h.gs.sx
theorem gs_within (N b fm : Nat) {a x bs ft v cs L ok k c w W env m} (h : GS N b fm a x bs ft v cs L ok k c w W env m) (hN : N ≤ w.heap.size) :
    Calls Tryd.prog 79 #[.pointer a] W fun e W' => e = .returned (.pointer (some ⟨W.heap.size + 1, 0, none⟩)) ∧ GB N b fm a x bs ft v cs L ok k c w W' env m (some ⟨W.heap.size + 1, 0, none⟩) (W.heap.size + 1, W.heap.size) (lvZ env == 0, []) := by
  obtain ⟨v1, cs1, i1, i2, i3, i4, i5⟩ := h
  have hne : env ≠ [] := fun e => by have := i1.2.1; rw [e] at this; exact this.elim
  refine (within_any a (x :: bs) env W i1.2.1 hne).mono ?_
  rintro e W' ⟨rfl, j1, j2, j3⟩
  have hsz := i4.size
  have hlt : ∀ g ∈ b :: fm :: chB (x :: bs), g < W.heap.size := fun g hg => by
    rcases List.mem_cons.1 hg with rfl | hg
    · exact i1.lt
    rcases List.mem_cons.1 hg with rfl | hg
    · exact i1.2.2.1.lt
    · exact i1.2.1.lt g hg
  have hnd := i1.2.2.2.2.1
  refine ⟨rfl, v1, cs1, i1.stay j2, i2, i3, i4.trans (Fr.of_below j2), i5, j1, ?_, fun g hg hy => ?_, fun g hg => ?_, by simp only; omega, hsz⟩
  · have h1 := hlt b (by simp)
    have h2 := hlt fm (by simp)
    have h3 : ∀ g ∈ chB (x :: bs), g < W.heap.size := fun g hg => hlt g (by simp [hg])
    have e0 : chB ((W.heap.size + 1, W.heap.size) :: x :: bs) = (W.heap.size + 1) :: W.heap.size :: chB (x :: bs) := rfl
    rw [e0]
    obtain ⟨n1, n2⟩ := List.nodup_cons.1 hnd
    obtain ⟨n3, n4⟩ := List.nodup_cons.1 n2
    simp only [List.mem_cons, not_or] at n1
    simp only [List.nodup_cons, List.mem_cons, not_or]
    exact ⟨⟨n1.1, by omega, by omega, n1.2⟩, ⟨by omega, by omega, n3⟩, ⟨by omega, fun hx => by have := h3 _ hx; omega⟩, fun hx => by have := h3 _ hx; omega, n4⟩
  · have h1 := (own_lt i1.2.2.2.1 g hg).2
    have e0 : chB ((W.heap.size + 1, W.heap.size) :: x :: bs) = (W.heap.size + 1) :: W.heap.size :: chB (x :: bs) := rfl
    have h2 := i1.2.2.2.2.2.1 g hg
    rw [e0] at hy
    simp only [List.mem_cons, not_or] at hy h2
    rcases hy with hy | hy | hy | hy | hy
    · exact h2.1 hy
    · exact h2.2.1 hy
    · omega
    · omega
    · exact h2.2.2 hy
  · have e0 : chB ((W.heap.size + 1, W.heap.size) :: x :: bs) = (W.heap.size + 1) :: W.heap.size :: chB (x :: bs) := rfl
    have h2 := i1.2.2.2.2.2.2 g
    rw [e0] at hg
    simp only [List.mem_cons] at hg h2
    rcases hg with hg | hg | hg | hg | hg
    · exact h2 (Or.inl hg)
    · exact h2 (Or.inr (Or.inl hg))
    · omega
    · omega
    · exact h2 (Or.inr (Or.inr hg))
theorem gb_body (w0 : World) (b fm : Nat) (K : Nat) {a x bs ft v cs L ok k c w W env m a2 x2 f2} (ih : LsN w0 b fm ft K) (h : GB w0.heap.size b fm a x bs ft v cs L ok k c w W env m a2 x2 f2) (l : List St) (la : Option Addr) (lc : Nat) (hk : qSs l ≤ K) (hin : Have w0 la lc l) (hB : Below w0.heap.size w0 w) (hL : ∀ g ∈ L, w0.heap.size ≤ g) (hs : ∀ g ∈ b :: ob v, g ∈ L)
    (h1 : cs.length + k + qSs l ≤ 1000000) (h2 : ∀ f ∈ f2 :: env, f.2.length + qSs l ≤ 900000) (h3 : 0 ≤ m) (h4 : m + qSs l ≤ 1000000000) :
    Calls Tryd.prog 78 #[.pointer (some ⟨b, 0, none⟩), .pointer a2, .slice la l.length lc] W fun e W' => e = .returned (.int .i64 (lsS ft l (f2 :: env) m).e) ∧ GS w0.heap.size b fm a x bs ft v cs L (ok ∧ (lsS ft l (f2 :: env) m).e = 0) (k + qSs l) (c ++ (lsS ft l (f2 :: env) m).c) w W' env (lsS ft l (f2 :: env) m).m := by
  obtain ⟨v1, cs1, i1, i2, i3, i4, i5, i6, i7, i8, i9, i10⟩ := h
  have hBW : Below w0.heap.size w0 W := hB.trans (i4.below hL hB.size)
  refine (nbody_of w0 b fm ft K ih l la lc a a2 x x2 bs f2 env m v1 cs1 W hk hin hBW i1 i6 i7 i8 i9 (by omega) h2 h3 h4).mono ?_
  rintro e W' ⟨rfl, v2, cs2, j1, j2, j3, j4, j5⟩
  refine ⟨rfl, v2, cs2, j1, fun ho => by rw [j2 ho.2, i2 ho.1, List.append_assoc], by omega, i4.trans' j4 fun q hq => ?_, fun g hg => ?_⟩
  · rcases List.mem_cons.1 hq with rfl | hq
    · exact Or.inl (hs q (by simp))
    rcases List.mem_cons.1 hq with rfl | hq
    · exact Or.inr i10.2
    · rcases i5 q hq with h' | h'
      · exact Or.inl (hs q (by simp [h']))
      · exact Or.inr h'
  · rcases j5 g hg with h' | h'
    · exact i5 g h'
    · exact Or.inr (Nat.le_trans i4.size h')
end Go.Proofs.YtakaldbhaoidiaaDoor

/- The program's walker: an if, a switch. -/
namespace Go.Proofs.YtakaldbhaoidiaaDoor
open Go.RowKit Go.Sort

theorem Hid.mk' {p : Prop} (h : p) : Hid p := h
theorem GS.wk {N b fm : Nat} {a x bs ft v cs L ok ok' k k' c c' w W env m} (h : GS N b fm a x bs ft v cs L ok k c w W env m) (ho : ok' → ok) (hk : k ≤ k') (hc : c = c') : GS N b fm a x bs ft v cs L ok' k' c' w W env m := by
  obtain ⟨v', cs', i1, i2, i3, i4, i5⟩ := h
  subst hc
  exact ⟨v', cs', i1, fun o => i2 (ho o), by omega, i4, i5⟩
theorem GS.comp {N b fm : Nat} {a : Option Addr} {x : Nat × Nat} {bs : List (Nat × Nat)} {ft : List (List UInt8 × Int)} {v v1 : Value} {cs cs1 c c1 : List Int} {k k1 : Nat} {ok : Prop} {w W W2 W3 : World} {env3 : Env} {m3 : Int} (i2 : cs1 = cs ++ c) (i3 : cs1.length ≤ cs.length + k) (i4 : Fr (b :: x.2 :: ob v) w W) (i5 : ∀ g ∈ ob v1, g ∈ ob v ∨ w.heap.size ≤ g) (hb : Below W.heap.size W W2)
    (h : GS N b fm a x bs ft v1 cs1 (b :: x.2 :: ob v1) ok k1 c1 W2 W3 env3 m3) : GS N b fm a x bs ft v cs (b :: x.2 :: ob v) ok (k + k1) (c ++ c1) w W3 env3 m3 := by
  obtain ⟨v2, cs2, j1, j2, j3, j4, j5⟩ := h
  have h3 := i4.trans (Fr.of_below (S := b :: x.2 :: ob v) hb)
  refine ⟨v2, cs2, j1, fun o => by rw [j2 o, i2, List.append_assoc], by omega, h3.trans' j4 fun q hq => ?_, fun g hg => ?_⟩
  · rcases List.mem_cons.1 hq with rfl | hq
    · exact Or.inl (by simp)
    rcases List.mem_cons.1 hq with rfl | hq
    · exact Or.inl (by simp)
    · rcases i5 q hq with h' | h'
      · exact Or.inl (by simp [h'])
      · exact Or.inr h'
  · rcases j5 g hg with h' | h'
    · exact i5 g h'
    · exact Or.inr (Nat.le_trans h3.size h')
theorem csS_drop {ft : List (List UInt8 × Int)} {l : List Ca} {j : Nat} {env : Env} {m : Int} (h : j < l.length) : csS ft (l.drop j) env m = if (lsS ft l[j].body ((lvZ env == 0, []) :: env) m).e ≠ 0 then ⟨(lsS ft l[j].body ((lvZ env == 0, []) :: env) m).e, (lsS ft l[j].body ((lvZ env == 0, []) :: env) m).m, env, []⟩
    else ⟨(csS ft (l.drop (j + 1)) env (lsS ft l[j].body ((lvZ env == 0, []) :: env) m).m).e, (csS ft (l.drop (j + 1)) env (lsS ft l[j].body ((lvZ env == 0, []) :: env) m).m).m, env, (lsS ft l[j].body ((lvZ env == 0, []) :: env) m).c ++ (csS ft (l.drop (j + 1)) env (lsS ft l[j].body ((lvZ env == 0, []) :: env) m).m).c⟩ := by
  rw [List.drop_eq_getElem_cons h, csS]
  have : ∀ (y : Ca), caS ft y env m = lsS ft y.body ((lvZ env == 0, []) :: env) m := fun y => by cases y; rw [caS]; rfl
  rw [this]
theorem qCs_drop {l : List Ca} {j : Nat} (h : j < l.length) : qCs (l.drop j) = 1 + qSs l[j].body + qCs (l.drop (j + 1)) := by
  rw [List.drop_eq_getElem_cons h, qCs, qC_eq]
theorem qCs_mem {l : List Ca} {x : Ca} (h : x ∈ l) : 1 + qSs x.body ≤ qCs l := by
  induction l with
  | nil => cases h
  | cons y r ih =>
    rw [qCs, qC_eq]
    rcases List.mem_cons.1 h with rfl | h
    · omega
    · have := ih h; omega
theorem stS_cho {ft : List (List UInt8 × Int)} {s : St} {env : Env} {m : Int} (h : s.kind = 5 ∨ s.kind = 6) : stS ft s env m =
    (if exZ env ft s.a ≠ 0 then ⟨exZ env ft s.a, m, env, []⟩
     else if (lsS ft s.body ((lvZ env == 0, []) :: env) m).e ≠ 0 then ⟨(lsS ft s.body ((lvZ env == 0, []) :: env) m).e, (lsS ft s.body ((lvZ env == 0, []) :: env) m).m, env, []⟩
     else if (csS ft s.cases env (lsS ft s.body ((lvZ env == 0, []) :: env) m).m).e ≠ 0 then ⟨(csS ft s.cases env (lsS ft s.body ((lvZ env == 0, []) :: env) m).m).e, (csS ft s.cases env (lsS ft s.body ((lvZ env == 0, []) :: env) m).m).m, env, []⟩
     else ⟨(lsS ft s.els ((lvZ env == 0, []) :: env) (csS ft s.cases env (lsS ft s.body ((lvZ env == 0, []) :: env) m).m).m).e, (lsS ft s.els ((lvZ env == 0, []) :: env) (csS ft s.cases env (lsS ft s.body ((lvZ env == 0, []) :: env) m).m).m).m, env, exC ft s.a ++ (lsS ft s.body ((lvZ env == 0, []) :: env) m).c ++ (csS ft s.cases env (lsS ft s.body ((lvZ env == 0, []) :: env) m).m).c ++ (lsS ft s.els ((lvZ env == 0, []) :: env) (csS ft s.cases env (lsS ft s.body ((lvZ env == 0, []) :: env) m).m).m).c⟩) := by
  obtain ⟨k, nm, n, a, b, ba, bc, l, ea, ec, e, ca, cc, c⟩ := s
  simp only [St.kind] at h
  rw [stS, if_neg (by omega), if_neg (by omega), if_neg (by omega), if_neg (by omega), if_pos h]; rfl
set_option maxRecDepth 100000 in
set_option maxHeartbeats 2000000 in
theorem nchoice_of (w0 : World) (b fm : Nat) (ft : List (List UInt8 × Int)) (K : Nat) (ih : LsN w0 b fm ft K) (s : St) (a : Option Addr) (x : Nat × Nat) (bs : List (Nat × Nat)) (env : Env) (m : Int) (v : Value) (cs : List Int) (w : World) (hk : s.kind = 5 ∨ s.kind = 6) (hin : s.In w0) (hB : Below w0.heap.size w0 w) (hw : WS w0.heap.size w b fm a (x :: bs) env ft m v cs) (h1 : cs.length + qS s ≤ 1000000) (h2 : ∀ f ∈ env, f.2.length + qS s ≤ 900000) (h3 : 0 ≤ m) (h4 : m + qS s ≤ 1000000001) (hK : qS s ≤ K + 1) :
    Calls Tryd.prog 66 #[.pointer (some ⟨b, 0, none⟩), s.val] w fun e w' => e = .returned (.int .i64 (stS ft s env m).e) ∧ LP w0.heap.size b fm a x bs ft v cs (qS s) w w' (stS ft s env m) := by
  have HRR : Hid (stS ft s env m = (if exZ env ft s.a ≠ 0 then ⟨exZ env ft s.a, m, env, []⟩ else if (lsS ft s.body ((lvZ env == 0, []) :: env) m).e ≠ 0 then ⟨(lsS ft s.body ((lvZ env == 0, []) :: env) m).e, (lsS ft s.body ((lvZ env == 0, []) :: env) m).m, env, []⟩ else if (csS ft s.cases env (lsS ft s.body ((lvZ env == 0, []) :: env) m).m).e ≠ 0 then ⟨(csS ft s.cases env (lsS ft s.body ((lvZ env == 0, []) :: env) m).m).e, (csS ft s.cases env (lsS ft s.body ((lvZ env == 0, []) :: env) m).m).m, env, []⟩ else ⟨(lsS ft s.els ((lvZ env == 0, []) :: env) (csS ft s.cases env (lsS ft s.body ((lvZ env == 0, []) :: env) m).m).m).e, (lsS ft s.els ((lvZ env == 0, []) :: env) (csS ft s.cases env (lsS ft s.body ((lvZ env == 0, []) :: env) m).m).m).m, env, exC ft s.a ++ (lsS ft s.body ((lvZ env == 0, []) :: env) m).c ++ (csS ft s.cases env (lsS ft s.body ((lvZ env == 0, []) :: env) m).m).c ++ (lsS ft s.els ((lvZ env == 0, []) :: env) (csS ft s.cases env (lsS ft s.body ((lvZ env == 0, []) :: env) m).m).m).c⟩)) := stS_cho hk
  generalize stS ft s env m = R at HRR ⊢
  have hq := qS_eq s
  obtain ⟨_, hz, _, hia, hib, hbo, hel, hca, hci⟩ := St.in_iff.1 hin
  have hb0 := (Below.refl _ w).alloc (Nat.le_refl _) (stBox s)
  have hB1 : Below w0.heap.size w0 (w.alloc (stBox s)) := hB.trans (hb0.mono hB.size)
  have hL : ∀ g ∈ b :: x.2 :: ob v, w0.heap.size ≤ g := fun q hq => by
    rcases List.mem_cons.1 hq with rfl | hq
    · exact hw.2.2.2.2.2.2 q (by simp)
    rcases List.mem_cons.1 hq with rfl | hq
    · exact hw.2.2.2.2.2.2 _ (by simp [chB])
    · exact (own_lt hw.2.2.2.1 q hq).1
  have hs : ∀ g ∈ b :: ob v, g ∈ b :: x.2 :: ob v := fun g hg => by
    rcases List.mem_cons.1 hg with rfl | hg <;> simp_all
  have hnL := ws_new hw
  have g0 : GS w0.heap.size b fm a x bs ft v cs (b :: x.2 :: ob v) True 0 [] (w.alloc (stBox s)) (w.alloc (stBox s)) env m := GS.start (hw.stay hb0) True
  have HE : Hid (∀ W, GS w0.heap.size b fm a x bs ft v cs (b :: x.2 :: ob v) True 0 [] (w.alloc (stBox s)) W env m → Calls Tryd.prog 63 #[.pointer (some ⟨b, 0, none⟩), .agg #[.int .i64 s.a.kind, .int .i64 s.a.n, .string s.a.name, .slice s.a.a s.a.args.length s.a.cap]] W fun e W' => e = .returned (.int .i64 (exZ env ft s.a)) ∧ GS w0.heap.size b fm a x bs ft v cs (b :: x.2 :: ob v) (True ∧ exZ env ft s.a = 0) (0 + s.a.sz) ([] ++ exC ft s.a) (w.alloc (stBox s)) W' env m) :=
    fun W h => gs_expr w0 b fm h s.a hia hB1 hL hs (by omega)
  have hq900 : qS s ≤ 900000 := by
    have hne := hw.2.1
    match env, hne, h2 with
    | [], hne, _ => exact hne.elim
    | f :: _, _, h2 => have := h2 f (by simp); omega
  have HWI : Hid (∀ W kk (cc : List Int) (mm : Int), GS w0.heap.size b fm a x bs ft v cs (b :: x.2 :: ob v) True kk cc (w.alloc (stBox s)) W env mm → Calls Tryd.prog 79 #[.pointer a] W fun e W' => ∃ a2 x2, e = .returned (.pointer a2) ∧ GB w0.heap.size b fm a x bs ft v cs (b :: x.2 :: ob v) True kk cc (w.alloc (stBox s)) W' env mm a2 x2 (lvZ env == 0, [])) :=
    fun W kk cc mm h => (gs_within w0.heap.size b fm h hB1.size).mono fun e W' hh => ⟨_, _, hh⟩
  have HBO : Hid (∀ W a2 x2 kk (cc : List Int) (mm : Int) (l : List St) (la : Option Addr) (lc : Nat), Have w0 la lc l → qSs l < qS s → kk + qSs l ≤ qS s → 0 ≤ mm → mm + qSs l ≤ 1000000000 → GB w0.heap.size b fm a x bs ft v cs (b :: x.2 :: ob v) True kk cc (w.alloc (stBox s)) W env mm a2 x2 (lvZ env == 0, []) → Calls Tryd.prog 78 #[.pointer (some ⟨b, 0, none⟩), .pointer a2, .slice la l.length lc] W fun e W' => e = .returned (.int .i64 (lsS ft l ((lvZ env == 0, []) :: env) mm).e) ∧ GS w0.heap.size b fm a x bs ft v cs (b :: x.2 :: ob v) (True ∧ (lsS ft l ((lvZ env == 0, []) :: env) mm).e = 0) (kk + qSs l) (cc ++ (lsS ft l ((lvZ env == 0, []) :: env) mm).c) (w.alloc (stBox s)) W' env (lsS ft l ((lvZ env == 0, []) :: env) mm).m) :=
    fun W a2 x2 kk cc mm l la lc q1 q2 q3 q4 q5 h => gb_body w0 b fm K ih h l la lc (by omega) q1 hB1 hL hs (by omega) (fun f hf => by
      rcases List.mem_cons.1 hf with rfl | hf
      · simp only [List.length_nil]; have := hq900; omega
      · have := h2 f hf; omega) q4 q5
  have HRO : Hid (∀ (W2 W : World) (v1 : Value) (cs1 : List Int) (a2 : Option Addr) (x2 : Nat × Nat) (mm : Int) (l : List St) (la : Option Addr) (lc : Nat), Below w0.heap.size w0 W2 → (∀ g ∈ b :: x.2 :: ob v1, w0.heap.size ≤ g) → cs1.length + qSs l ≤ cs.length + qS s → Have w0 la lc l → qSs l < qS s → 0 ≤ mm → mm + qSs l ≤ 1000000000 → GB w0.heap.size b fm a x bs ft v1 cs1 (b :: x.2 :: ob v1) True 0 [] W2 W env mm a2 x2 (lvZ env == 0, []) → Calls Tryd.prog 78 #[.pointer (some ⟨b, 0, none⟩), .pointer a2, .slice la l.length lc] W fun e W' => e = .returned (.int .i64 (lsS ft l ((lvZ env == 0, []) :: env) mm).e) ∧ GS w0.heap.size b fm a x bs ft v1 cs1 (b :: x.2 :: ob v1) (True ∧ (lsS ft l ((lvZ env == 0, []) :: env) mm).e = 0) (0 + qSs l) ([] ++ (lsS ft l ((lvZ env == 0, []) :: env) mm).c) W2 W' env (lsS ft l ((lvZ env == 0, []) :: env) mm).m) :=
    fun W2 W v1 cs1 a2 x2 mm l la lc p1 p2 p3 q1 q2 q4 q5 h => gb_body w0 b fm K ih h l la lc (by omega) q1 p1 p2 (fun g hg => by rcases List.mem_cons.1 hg with rfl | hg <;> simp_all) (by omega) (fun f hf => by
      rcases List.mem_cons.1 hf with rfl | hf
      · simp only [List.length_nil]; have := hq900; omega
      · have := h2 f hf; omega) q4 q5
  have HLP : Hid (∀ W (ok : Prop) kk (cc : List Int) (mm : Int) (r : SR), GS w0.heap.size b fm a x bs ft v cs (b :: x.2 :: ob v) ok kk cc (w.alloc (stBox s)) W env mm → (r.e = 0 → ok ∧ cc = r.c) → env = r.env → mm = r.m → kk ≤ qS s → LP w0.heap.size b fm a x bs ft v cs (qS s) w W r) :=
    fun W ok kk cc mm r h p1 p2 p3 p4 => h.lp hb0 p1 p2 p3 p4
  have y0 : ∀ W, SX b a (b :: x.2 :: ob v) (w.alloc (stBox s)) W → W.cell? ⟨b, 0, none⟩ = some (.pointer a) := fun W h => h.2
  have y11 : ∀ W, SX b a (b :: x.2 :: ob v) (w.alloc (stBox s)) W → W.cell? ⟨w.heap.size, 11, none⟩ = some (.slice s.ba s.body.length s.bc) := fun W h => SX.box hnL (by rw [World.cell?_alloc_at _ _ _ _ rfl]; rfl) h
  have y12 : ∀ W, SX b a (b :: x.2 :: ob v) (w.alloc (stBox s)) W → W.cell? ⟨w.heap.size, 12, none⟩ = some (.slice s.ea s.els.length s.ec) := fun W h => SX.box hnL (by rw [World.cell?_alloc_at _ _ _ _ rfl]; rfl) h
  have y13 : ∀ W, SX b a (b :: x.2 :: ob v) (w.alloc (stBox s)) W → W.cell? ⟨w.heap.size, 13, none⟩ = some (.slice s.ca s.cases.length s.cc) := fun W h => SX.box hnL (by rw [World.cell?_alloc_at _ _ _ _ rfl]; rfl) h
  have HSZ : Hid (qS s = 1 + s.a.sz + s.b.sz + qSs s.body + qSs s.els + qCs s.cases ∧ m + qS s ≤ 1000000001) := ⟨hq, h4⟩
  have HIN : Hid (Have w0 s.ba s.bc s.body ∧ Have w0 s.ea s.ec s.els ∧ LiesC w0 s.ca s.cc s.cases ∧ ∀ y ∈ s.cases, y.In w0) := ⟨hbo, hel, hca, hci⟩
  have HON : Hid (∀ W, SX b a (b :: x.2 :: ob v) (w.alloc (stBox s)) W → Below w0.heap.size w0 W) := fun W h => hB1.trans (h.1.below hL hB1.size)
  have HBM := Hid.mk' (lsS_m ft s.body ((lvZ env == 0, []) :: env) m)
  have HCM := Hid.mk' (csS_m ft s.cases env (lsS ft s.body ((lvZ env == 0, []) :: env) m).m)
  clear hin hB hw h1 h2 hq hz hia hib hb0 hB1 hL hs hnL hbo hel hca hci h4 hK ih hq900
  obtain ⟨W1, hW1⟩ : ∃ W1, w.alloc (stBox s) = W1 := ⟨_, rfl⟩
  rw [hW1] at g0 HE HWI HBO HLP HON y0 y11 y12 y13
  unfold stBox at hW1
  have HW1 := show Hid _ from hW1
  clear hW1
  generalize exZ env ft s.a = za at *
  unfold St.val
  generalize s.ca = sca at *
  go_enter Tryd.func66, Tryd.ntmps66
  go_wp2_with fail
  rw [HW1.out]
  refine (HE.out _ g0).mono ?_
  rintro e w1 ⟨rfl, hg1⟩
  clear g0 HE HW1
  cases hza : (za != 0)
  · have hza0 : za = 0 := by simpa using hza
    have g1 : GS w0.heap.size b fm a x bs ft v cs (b :: x.2 :: ob v) True s.a.sz (exC ft s.a) W1 w1.drew env m := (hg1.wk (fun _ => ⟨trivial, hza0⟩) (by omega) (by simp)).below (Below.drew (Below.refl _ _))
    clear hg1
    have HR1 : Hid (R = (if (lsS ft s.body ((lvZ env == 0, []) :: env) m).e ≠ 0 then ⟨(lsS ft s.body ((lvZ env == 0, []) :: env) m).e, (lsS ft s.body ((lvZ env == 0, []) :: env) m).m, env, []⟩ else if (csS ft s.cases env (lsS ft s.body ((lvZ env == 0, []) :: env) m).m).e ≠ 0 then ⟨(csS ft s.cases env (lsS ft s.body ((lvZ env == 0, []) :: env) m).m).e, (csS ft s.cases env (lsS ft s.body ((lvZ env == 0, []) :: env) m).m).m, env, []⟩ else ⟨(lsS ft s.els ((lvZ env == 0, []) :: env) (csS ft s.cases env (lsS ft s.body ((lvZ env == 0, []) :: env) m).m).m).e, (lsS ft s.els ((lvZ env == 0, []) :: env) (csS ft s.cases env (lsS ft s.body ((lvZ env == 0, []) :: env) m).m).m).m, env, exC ft s.a ++ (lsS ft s.body ((lvZ env == 0, []) :: env) m).c ++ (csS ft s.cases env (lsS ft s.body ((lvZ env == 0, []) :: env) m).m).c ++ (lsS ft s.els ((lvZ env == 0, []) :: env) (csS ft s.cases env (lsS ft s.body ((lvZ env == 0, []) :: env) m).m).m).c⟩)) := by show _ = _; rw [HRR.out, if_neg (by simpa using hza0)]
    clear HRR
    have HB1 := Hid.mk' (fun W a2 x2 => HBO.out W a2 x2 s.a.sz (exC ft s.a) m s.body s.ba s.bc HIN.out.1 (by have := HSZ.out; omega) (by have := HSZ.out; omega) h3 (by have := HSZ.out; omega))
    obtain ⟨RB, hRB⟩ : ∃ RB, lsS ft s.body ((lvZ env == 0, []) :: env) m = RB := ⟨_, rfl⟩
    rw [hRB] at HB1 HBM HCM HR1
    go_wp2_with fail
    go_region_held (fun w' => SX b a (b :: x.2 :: ob v) W1 w') (first | exact GS.sx (by assumption) | exact GB.sx (by assumption) | exact SX.below (by assumption) ((Below.refl _ _).alloc (Nat.le_refl _) _) | assumption)
      (first
        | (go_at_call 79; refine (HWI.out _ _ _ _ (by assumption)).mono ?_; rintro e w' ⟨a2, x2, rfl, hg⟩)
        | (go_at_call 78; refine (HB1.out _ _ _ (by assumption)).mono ?_; rintro e w' ⟨rfl, hg⟩))
    have hg2 := hg
    clear hg g1 HB1
    cases hRe : (RB.e != 0)
    · have hRe0 : RB.e = 0 := by simpa using hRe
      have g2 : GS w0.heap.size b fm a x bs ft v cs (b :: x.2 :: ob v) True (s.a.sz + qSs s.body) (exC ft s.a ++ RB.c) W1 w' env RB.m := hg2.wk (fun _ => ⟨trivial, hRe0⟩) (Nat.le_refl _) rfl
      have HR2 : Hid (R = (if (csS ft s.cases env RB.m).e ≠ 0 then ⟨(csS ft s.cases env RB.m).e, (csS ft s.cases env RB.m).m, env, []⟩ else ⟨(lsS ft s.els ((lvZ env == 0, []) :: env) (csS ft s.cases env RB.m).m).e, (lsS ft s.els ((lvZ env == 0, []) :: env) (csS ft s.cases env RB.m).m).m, env, exC ft s.a ++ RB.c ++ (csS ft s.cases env RB.m).c ++ (lsS ft s.els ((lvZ env == 0, []) :: env) (csS ft s.cases env RB.m).m).c⟩)) := by show _ = _; rw [HR1.out, if_neg (by simpa using hRe0)]
      obtain ⟨RC, HRC⟩ : ∃ RC, Hid (csS ft s.cases env RB.m = RC) := ⟨_, rfl⟩
      rw [HRC.out] at HR2 HCM
      have c13 := y13 _ g2.sx
      clear hg2 HR1
      have HG2 : Hid (GS w0.heap.size b fm a x bs ft v cs (b :: x.2 :: ob v) True (s.a.sz + qSs s.body) (exC ft s.a ++ RB.c) W1 w' env RB.m) := g2
      clear g2
      go_wp2_with fail
      clear hRe hRe0 hza hza0
      go_loopw [32] (fun t32 wr => ∃ (j : Nat) (kj : Nat) (cd : List Int) (mj : Int), j ≤ s.cases.length ∧ t32 = .int .i64 j ∧ GS w0.heap.size b fm a x bs ft v cs (b :: x.2 :: ob v) True kj (exC ft s.a ++ RB.c ++ cd) W1 wr env mj ∧ ((csS ft (s.cases.drop j) env mj).e = RC.e ∧ (csS ft (s.cases.drop j) env mj).m = RC.m ∧ (RC.e = 0 → RC.c = cd ++ (csS ft (s.cases.drop j) env mj).c)) ∧ kj + qCs (s.cases.drop j) ≤ s.a.sz + qSs s.body + qCs s.cases ∧ 0 ≤ mj ∧ mj + qCs (s.cases.drop j) ≤ m + qSs s.body + qCs s.cases) (fun t32 _ => s.cases.length - (intOf t32).toNat)
      case atStart => exact ⟨0, s.a.sz + qSs s.body, [], RB.m, Nat.zero_le _, rfl, by simpa using HG2.out, ⟨by rw [← HRC.out]; rfl, by rw [← HRC.out]; rfl, fun _ => by rw [← HRC.out]; rfl⟩, by simp, by have := HBM.out; omega, by have := HBM.out; simp only [List.drop_zero]; omega⟩
      case round =>
        obtain ⟨j, kj, cd, mj, hj, rfl, q1, q2, q3, q4, q5⟩ := hrel
        have HX : Hid (GS w0.heap.size b fm a x bs ft v cs (b :: x.2 :: ob v) True kj (exC ft s.a ++ RB.c ++ cd) W1 wr env mj) := q1
        have HQ : Hid ((csS ft (s.cases.drop j) env mj).e = RC.e ∧ (csS ft (s.cases.drop j) env mj).m = RC.m ∧ (RC.e = 0 → RC.c = cd ++ (csS ft (s.cases.drop j) env mj).c)) := q2
        have HQ3 : Hid (kj + qCs (s.cases.drop j) ≤ s.a.sz + qSs s.body + qCs s.cases ∧ mj + qCs (s.cases.drop j) ≤ m + qSs s.body + qCs s.cases) := ⟨q3, q5⟩
        clear q1 q2 q3 q5 c13 HG2
        by_cases hlt : j < s.cases.length
        · obtain ⟨g, o, rfl, d0, d1⟩ := rowC_at (HIN.out.2.2.1.2.2.2.below (HON.out _ HX.out.sx)) hlt
          have hli : (j : Int) < (s.cases.length : Int) := by omega
          have hjc : s.cases.length ≤ s.cc := HIN.out.2.2.1.1
          have hjd := HIN.out.2.2.1.2.1
          have HYI : Hid (Have w0 s.cases[j].ba s.cases[j].bc s.cases[j].body) := (Ca.in_iff.1 (HIN.out.2.2.2 _ (List.getElem_mem hlt))).2
          have HCD : Hid (csS ft (s.cases.drop j) env mj = if (lsS ft s.cases[j].body ((lvZ env == 0, []) :: env) mj).e ≠ 0 then ⟨(lsS ft s.cases[j].body ((lvZ env == 0, []) :: env) mj).e, (lsS ft s.cases[j].body ((lvZ env == 0, []) :: env) mj).m, env, []⟩
            else ⟨(csS ft (s.cases.drop (j + 1)) env (lsS ft s.cases[j].body ((lvZ env == 0, []) :: env) mj).m).e, (csS ft (s.cases.drop (j + 1)) env (lsS ft s.cases[j].body ((lvZ env == 0, []) :: env) mj).m).m, env, (lsS ft s.cases[j].body ((lvZ env == 0, []) :: env) mj).c ++ (csS ft (s.cases.drop (j + 1)) env (lsS ft s.cases[j].body ((lvZ env == 0, []) :: env) mj).m).c⟩) := csS_drop hlt
          have HQD : Hid (qCs (s.cases.drop j) = 1 + qSs s.cases[j].body + qCs (s.cases.drop (j + 1)) ∧ 1 + qSs s.cases[j].body ≤ qCs s.cases) := ⟨qCs_drop hlt, qCs_mem (List.getElem_mem hlt)⟩
          have HLM := Hid.mk' (lsS_m ft s.cases[j].body ((lvZ env == 0, []) :: env) mj)
          generalize s.cases[j] = y at *
          obtain ⟨v1, cs1, i1, i2, i3, i4, i5⟩ := HX.out
          have hb2 := (Below.refl _ wr).alloc (Nat.le_refl _) (.cells #[.int .i64 y.n, .slice y.ba y.body.length y.bc] 58)
          have hN1 : ∀ g ∈ b :: x.2 :: ob v1, w0.heap.size ≤ g := fun q hq => by
            rcases List.mem_cons.1 hq with rfl | hq
            · exact i1.2.2.2.2.2.2 q (by simp)
            rcases List.mem_cons.1 hq with rfl | hq
            · exact i1.2.2.2.2.2.2 _ (by simp [chB])
            · exact (own_lt i1.2.2.2.1 q hq).1
          have hB2 : Below w0.heap.size w0 (wr.alloc (.cells #[.int .i64 y.n, .slice y.ba y.body.length y.bc] 58)) := (HON.out _ HX.out.sx).trans (hb2.mono (HON.out _ HX.out.sx).size)
          have hnL1 := ws_new i1
          have z1 : ∀ W, SX b a (b :: x.2 :: ob v1) (wr.alloc (.cells #[.int .i64 y.n, .slice y.ba y.body.length y.bc] 58)) W → W.cell? ⟨wr.heap.size, 1, none⟩ = some (.slice y.ba y.body.length y.bc) := fun W h => h.cell (by rw [World.cell?_alloc_at _ _ _ _ rfl]; rfl) hnL1
          have z0 : ∀ W, SX b a (b :: x.2 :: ob v1) (wr.alloc (.cells #[.int .i64 y.n, .slice y.ba y.body.length y.bc] 58)) W → W.cell? ⟨b, 0, none⟩ = some (.pointer a) := fun W h => h.2
          have g5 : GS w0.heap.size b fm a x bs ft v1 cs1 (b :: x.2 :: ob v1) True 0 [] (wr.alloc (.cells #[.int .i64 y.n, .slice y.ba y.body.length y.bc] 58)) (wr.alloc (.cells #[.int .i64 y.n, .slice y.ba y.body.length y.bc] 58)).drew env mj := (GS.start (i1.stay hb2) True).below (Below.drew (Below.refl _ _))
          have HW5 : Hid (∀ W, GS w0.heap.size b fm a x bs ft v1 cs1 (b :: x.2 :: ob v1) True 0 [] (wr.alloc (.cells #[.int .i64 y.n, .slice y.ba y.body.length y.bc] 58)) W env mj → Calls Tryd.prog 79 #[.pointer a] W fun e W' => ∃ a2 x2, e = .returned (.pointer a2) ∧ GB w0.heap.size b fm a x bs ft v1 cs1 (b :: x.2 :: ob v1) True 0 [] (wr.alloc (.cells #[.int .i64 y.n, .slice y.ba y.body.length y.bc] 58)) W' env mj a2 x2 (lvZ env == 0, [])) :=
            fun W h => (gs_within w0.heap.size b fm h hB2.size).mono fun e W' hh => ⟨_, _, hh⟩
          have HB5 := Hid.mk' (fun W a2 x2 => HRO.out (wr.alloc (.cells #[.int .i64 y.n, .slice y.ba y.body.length y.bc] 58)) W v1 cs1 a2 x2 mj y.body y.ba y.bc hB2 hN1 (by have := HSZ.out; have := HQ3.out; have := HQD.out; omega) HYI.out (by have := HSZ.out; have := HQD.out; omega) q4 (by have := HSZ.out; have := HQ3.out; have := HQD.out; omega))
          have HC5 : Hid (∀ W (ok : Prop) k1 (c1 : List Int) m3, GS w0.heap.size b fm a x bs ft v1 cs1 (b :: x.2 :: ob v1) ok k1 c1 (wr.alloc (.cells #[.int .i64 y.n, .slice y.ba y.body.length y.bc] 58)) W env m3 → GS w0.heap.size b fm a x bs ft v cs (b :: x.2 :: ob v) ok (kj + k1) (exC ft s.a ++ RB.c ++ cd ++ c1) W1 W env m3) := fun W ok k1 c1 m3 h => GS.comp (i2 trivial) i3 i4 i5 hb2 h
          clear i1 i2 i3 i4 i5 hN1 hB2 hnL1 hb2
          obtain ⟨RY, hRY⟩ : ∃ RY, lsS ft y.body ((lvZ env == 0, []) :: env) mj = RY := ⟨_, rfl⟩
          rw [hRY] at HCD HLM HB5
          clear hRY
          go_wp2_with fail
          generalize wr.alloc (.cells #[.int .i64 y.n, .slice y.ba y.body.length y.bc] 58) = W2 at *
          go_region_held (fun w' => SX b a (b :: x.2 :: ob v1) W2 w') (first | exact GS.sx (by assumption) | exact GB.sx (by assumption) | exact SX.below (by assumption) ((Below.refl _ _).alloc (Nat.le_refl _) _) | assumption)
            (first
              | (go_at_call 79; refine (HW5.out _ (by assumption)).mono ?_; rintro e w' ⟨a2, x2, rfl, hg⟩)
              | (go_at_call 78; refine (HB5.out _ _ _ (by assumption)).mono ?_; rintro e w' ⟨rfl, hg⟩))
          have hg6 := HC5.out _ _ _ _ _ hg
          clear hg g5 HB5 HW5 HC5 z0 z1 d0 d1
          cases hRy : (RY.e != 0)
          · have hRy0 : RY.e = 0 := by simpa using hRy
            have HG6 : Hid (GS w0.heap.size b fm a x bs ft v cs (b :: x.2 :: ob v) True (kj + (0 + qSs y.body)) (exC ft s.a ++ RB.c ++ (cd ++ RY.c)) W1 w' env RY.m) := hg6.wk (fun _ => ⟨trivial, hRy0⟩) (Nat.le_refl _) (by simp)
            have HV : Hid ((csS ft (s.cases.drop (j + 1)) env RY.m).e = RC.e ∧ (csS ft (s.cases.drop (j + 1)) env RY.m).m = RC.m ∧ (RC.e = 0 → RC.c = (cd ++ RY.c) ++ (csS ft (s.cases.drop (j + 1)) env RY.m).c)) := by
              have := HQ.out
              rw [HCD.out, if_neg (by simpa using hRy0)] at this
              exact ⟨this.1, this.2.1, fun e => by rw [this.2.2 e]; simp⟩
            clear hg6 hRy0
            go_wp2_with fail
            go_roundw
            case rel => exact ⟨j + 1, _, cd ++ RY.c, RY.m, by omega, by go_num, HG6.out, HV.out, by have := HQ3.out; have := HQD.out; omega, by have := HLM.out; omega, by have := HLM.out; have := HQ3.out; have := HQD.out; omega⟩
            case measure => simp [intOf]; omega
          · have hRyn : RY.e ≠ 0 := by simpa using hRy
            have HV : Hid (RY.e = RC.e ∧ RY.m = RC.m) := by
              have := HQ.out
              rw [HCD.out, if_pos hRyn] at this
              exact ⟨this.1, this.2.1⟩
            have HR5 : Hid (R = ⟨RY.e, RY.m, env, []⟩) := by
              show _ = _
              rw [HR2.out, if_pos (by rw [← HV.out.1]; exact hRyn), HV.out.1, HV.out.2]
            have HF := Hid.mk' (HLP.out w' _ _ _ _ ⟨RY.e, RY.m, env, []⟩ hg6 (fun e => absurd e hRyn) rfl rfl (by have := HSZ.out; have := HQ3.out; have := HQD.out; omega))
            clear hg6 hRyn
            go_wp2_with fail
            go_ret
            exact ⟨ret_int (by rw [HR5.out]), by rw [HR5.out]; exact HF.out⟩
        · have hli : ¬ (j : Int) < (s.cases.length : Int) := by omega
          have HE2 : Hid (RC.e = 0 ∧ RC.m = mj ∧ RC.c = cd) := by
            have := HQ.out
            rw [List.drop_eq_nil_of_le (by omega), csS] at this
            exact ⟨this.1.symm, this.2.1.symm, by simpa using this.2.2 this.1.symm⟩
          have HR3 : Hid (R = ⟨(lsS ft s.els ((lvZ env == 0, []) :: env) mj).e, (lsS ft s.els ((lvZ env == 0, []) :: env) mj).m, env, exC ft s.a ++ RB.c ++ cd ++ (lsS ft s.els ((lvZ env == 0, []) :: env) mj).c⟩) := by show _ = _; rw [HR2.out, if_neg (by simpa using HE2.out.1), HE2.out.2.1, HE2.out.2.2]
          have g3 : GS w0.heap.size b fm a x bs ft v cs (b :: x.2 :: ob v) True kj (exC ft s.a ++ RB.c ++ cd) W1 wr.drew env mj := HX.out.below (Below.drew (Below.refl _ _))
          have HB3 := Hid.mk' (fun W a2 x2 => HBO.out W a2 x2 kj (exC ft s.a ++ RB.c ++ cd) mj s.els s.ea s.ec HIN.out.2.1 (by have := HSZ.out; omega) (by have := HSZ.out; have := HQ3.out; omega) q4 (by have := HSZ.out; have := HQ3.out; omega))
          have HL3 : Hid (∀ W, GS w0.heap.size b fm a x bs ft v cs (b :: x.2 :: ob v) (True ∧ (lsS ft s.els ((lvZ env == 0, []) :: env) mj).e = 0) (kj + qSs s.els) (exC ft s.a ++ RB.c ++ cd ++ (lsS ft s.els ((lvZ env == 0, []) :: env) mj).c) W1 W env (lsS ft s.els ((lvZ env == 0, []) :: env) mj).m → LP w0.heap.size b fm a x bs ft v cs (qS s) w W R) :=
            fun W h => HLP.out W _ _ _ _ R h (by rw [HR3.out]; exact fun e => ⟨⟨trivial, e⟩, rfl⟩) (by rw [HR3.out]) (by rw [HR3.out]) (by have := HSZ.out; have := HQ3.out; omega)
          have HR4 : Hid (R.e = (lsS ft s.els ((lvZ env == 0, []) :: env) mj).e) := by show _ = _; rw [HR3.out]
          generalize lsS ft s.els ((lvZ env == 0, []) :: env) mj = RE at HB3 HL3 HR4
          go_wp2_with fail
          go_region_held (fun w' => SX b a (b :: x.2 :: ob v) W1 w') (first | exact GS.sx (by assumption) | exact GB.sx (by assumption) | exact SX.below (by assumption) ((Below.refl _ _).alloc (Nat.le_refl _) _) | assumption)
            (first
              | (go_at_call 79; refine (HWI.out _ _ _ _ (by assumption)).mono ?_; rintro e w' ⟨a2, x2, rfl, hg⟩)
              | (go_at_call 78; refine (HB3.out _ _ _ (by assumption)).mono ?_; rintro e w' ⟨rfl, hg⟩))
          go_wp2_with fail
          go_ret
          exact ⟨ret_int HR4.out.symm, HL3.out _ hg⟩
    · have hRn : RB.e ≠ 0 := by simpa using hRe
      have HR2 : Hid (R = ⟨RB.e, RB.m, env, []⟩) := by show _ = _; rw [HR1.out, if_pos hRn]
      have HF := Hid.mk' (HLP.out w' _ _ _ _ ⟨RB.e, RB.m, env, []⟩ hg2 (fun e => absurd e hRn) rfl rfl (by have := HSZ.out; omega))
      clear hg2 HR1
      go_wp2_with fail
      go_ret
      exact ⟨ret_int (by rw [HR2.out]), by rw [HR2.out]; exact HF.out⟩
  · have hzan : za ≠ 0 := by simpa using hza
    have HF := Hid.mk' (HLP.out w1 _ _ _ _ ⟨za, m, env, []⟩ hg1 (fun e => absurd e hzan) rfl rfl (by have := HSZ.out; omega))
    have HR1 : Hid (R = ⟨za, m, env, []⟩) := by show _ = _; rw [HRR.out, if_pos hzan]
    clear hg1 HRR
    go_wp2_with fail
    go_ret
    exact ⟨ret_int (by rw [HR1.out]), by rw [HR1.out]; exact HF.out⟩
end Go.Proofs.YtakaldbhaoidiaaDoor

/- The program's walker: a scope made inside a statement, and what is looked at then. -/
namespace Go.Proofs.YtakaldbhaoidiaaDoor
open Go.RowKit Go.Sort

theorem GB.below {N b fm : Nat} {a x bs ft v cs L ok k c w W W' env m a2 x2 f2} (h : GB N b fm a x bs ft v cs L ok k c w W env m a2 x2 f2) (hb : Below W.heap.size W W') : GB N b fm a x bs ft v cs L ok k c w W' env m a2 x2 f2 := by
  obtain ⟨v1, cs1, i1, i2, i3, i4, i5, i6, i7⟩ := h
  exact ⟨v1, cs1, i1.stay hb, i2, i3, i4.trans (Fr.of_below hb), i5, i6.stay hb, i7⟩
theorem gb_expr (w0 : World) (b fm : Nat) {a x bs ft v cs L ok k c w W env m a2 x2 f2} (h : GB w0.heap.size b fm a x bs ft v cs L ok k c w W env m a2 x2 f2) (y : Ex) (hin : y.In w0) (hB : Below w0.heap.size w0 w) (hL : ∀ g ∈ L, w0.heap.size ≤ g) (hs : ∀ g ∈ b :: ob v, g ∈ L) (hl : cs.length + k + y.sz ≤ 1000000) :
    Calls Tryd.prog 63 #[.pointer (some ⟨b, 0, none⟩), y.val] W fun e W' => e = .returned (.int .i64 (exZ env ft y)) ∧ GB w0.heap.size b fm a x bs ft v cs L (ok ∧ exZ env ft y = 0) (k + y.sz) (c ++ exC ft y) w W' env m a2 x2 f2 := by
  obtain ⟨v1, cs1, i1, i2, i3, i4, i5, i6, i7, i8, i9, i10⟩ := h
  have hBW : Below w0.heap.size w0 W := hB.trans (i4.below hL hB.size)
  refine (nexpr_k w0 b fm a (x :: bs) env ft y.sz y m v1 cs1 W (Nat.le_refl _) hin hBW i1 (by omega)).mono ?_
  rintro e W' ⟨rfl, v2, cs2, j1, j2, j3, j4, j5⟩
  refine ⟨rfl, v2, cs2, j1, fun ho => by rw [j2 ho.2, i2 ho.1, List.append_assoc], by omega, i4.trans' j4 fun q hq => ?_, fun g hg => ?_, i6.fr j4 fun q hq hy => ?_, i7, fun g hg hy => ?_, i9, i10⟩
  · rcases List.mem_cons.1 hq with rfl | hq
    · exact Or.inl (hs q (by simp))
    · rcases i5 q hq with h' | h'
      · exact Or.inl (hs q (by simp [h']))
      · exact Or.inr h'
  · rcases j5 g hg with h' | h'
    · exact i5 g h'
    · exact Or.inr (Nat.le_trans i4.size h')
  · rcases List.mem_cons.1 hy with rfl | hy
    · exact (List.nodup_cons.1 i7).1 (by simp [hq])
    · exact i8 q hy (by simp [hq])
  · rcases j5 g hg with h' | h'
    · exact i8 g h' hy
    · rcases List.mem_cons.1 hy with rfl | hy
      · have := i1.lt; omega
      rcases List.mem_cons.1 hy with rfl | hy
      · have := i1.2.2.1.lt; omega
      · have := i6.lt g hy; omega
theorem gb_declare (w0 : World) (b fm : Nat) {a x bs ft v cs L ok k c w W env m a2 x2 f2} (h : GB w0.heap.size b fm a x bs ft v cs L ok k c w W env m a2 x2 f2) (s : ByteArray) (hz : s.size ≤ 140737488351232) (kd : Int) (hkd : I64 kd) (hn : ∀ f ∈ f2 :: env, f.2.length < 1000000) :
    Calls Tryd.prog 27 #[.pointer a2, .string s, .int .i64 kd] W fun e W' => e = .returned (.int .i64 (dcZ (f2 :: env) s.data.toList)) ∧ ∃ f3, dcEnv (f2 :: env) s.data.toList kd = f3 :: env ∧ f3.2.length ≤ f2.2.length + 1 ∧ GB w0.heap.size b fm a x bs ft v cs L ok k c w W' env m a2 x2 f3 := by
  obtain ⟨v1, cs1, i1, i2, i3, i4, i5, i6, i7, i8, i9, i10⟩ := h
  have n2 := (List.nodup_cons.1 (List.nodup_cons.1 i7).2).2
  refine (declare_any s hz kd hkd a2 x2 (x :: bs) (f2 :: env) W i6 n2 hn).mono ?_
  rintro e W' ⟨rfl, j1, j2⟩
  obtain ⟨f3, _, e2, e3⟩ := dcEnv_tail f2 env s.data.toList kd
  rw [e3] at j1
  have e0 : chB (x2 :: x :: bs) = x2.1 :: x2.2 :: chB (x :: bs) := rfl
  have hnd := i7
  rw [e0] at hnd
  simp only [List.nodup_cons, List.mem_cons, not_or] at hnd
  refine ⟨rfl, f3, e3, e2, v1, cs1, i1.fr (Fr.of_only j2) (fun g hg hy => ?_) (fun g hg hy => ?_), i2, i3, i4.trans' (Fr.of_only j2) (fun q hq => ?_), i5, j1, i7, i8, i9, i10⟩
  · have : g = x2.2 := by simpa using hy
    subst this
    simp only [List.mem_cons] at hg
    rcases hg with hg | hg | hg
    · exact hnd.1.2.2.1 hg.symm
    · exact hnd.2.1.2.1 hg.symm
    · exact hnd.2.2.2.1 hg
  · have : g = x2.2 := by simpa using hy
    subst this
    exact i8 _ hg (by simp [chB])
  · have : q = x2.2 := by simpa using hq
    subst this; exact Or.inr i10.2
theorem gb_in {N b fm : Nat} {a x bs ft v cs L ok k c w W env m a2 x2 f2} (h : GB N b fm a x bs ft v cs L ok k c w W env m a2 x2 f2) : GB N b fm a x bs ft v cs L ok k c w (W.setCell ⟨x2.1, 2, none⟩ (.bool true)) env m a2 x2 (true, f2.2) := by
  obtain ⟨v1, cs1, i1, i2, i3, i4, i5, i6, i7, i8, i9, i10⟩ := h
  have hset : Fr [x2.1] W (W.setCell ⟨x2.1, 2, none⟩ (.bool true)) := (Fr.refl _ W).set (by simp) _ _
  have e0 : chB (x2 :: x :: bs) = x2.1 :: x2.2 :: chB (x :: bs) := rfl
  have hnd := i7
  rw [e0] at hnd
  simp only [List.nodup_cons, List.mem_cons, not_or] at hnd
  refine ⟨v1, cs1, i1.fr hset (fun g hg hy => ?_) (fun g hg hy => ?_), i2, i3, i4.trans' hset (fun q hq => ?_), i5, ?_, i7, i8, i9, i10⟩
  · have : g = x2.1 := by simpa using hy
    subst this
    simp only [List.mem_cons] at hg
    rcases hg with hg | hg | hg
    · exact hnd.1.2.1 hg.symm
    · exact hnd.2.1.1 hg.symm
    · exact hnd.2.2.1.2 hg
  · have : g = x2.1 := by simpa using hy
    subst this
    exact i8 _ hg (by simp [chB])
  · have : q = x2.1 := by simpa using hq
    subst this; exact Or.inr i10.1
  · obtain ⟨h1, ⟨a1, h2, h3⟩, h4⟩ := i6
    refine ⟨h1, ⟨a1, by simp [World.setCell, Array.getElem?_modify, h2], h3.fr hset (fun q hq hy => ?_)⟩, h4.fr hset (fun hy => ?_)⟩
    · have : q = x2.1 := by simpa using hy
      subst this; exact hnd.2.2.1.2 hq
    · have : x2.2 = x2.1 := by simpa using hy
      exact hnd.2.2.1.1 this.symm
end Go.Proofs.YtakaldbhaoidiaaDoor

/- The program's walker: a for. -/
namespace Go.Proofs.YtakaldbhaoidiaaDoor
open Go.RowKit Go.Sort

theorem GB.cellL {N b fm : Nat} {a x bs ft v cs L ok k c w W env m a2 x2 f2} (h : GB N b fm a x bs ft v cs L ok k c w W env m a2 x2 f2) : W.cell? ⟨x2.1, 2, none⟩ = some (.bool f2.1) ∧ W.frozen? ⟨x2.1, 2, none⟩ = false := by
  obtain ⟨v1, cs1, i1, i2, i3, i4, i5, i6, i7⟩ := h
  obtain ⟨h1, ⟨a1, h2, h3⟩, h4⟩ := i6
  exact ⟨by rw [Lib.cell_of_heap h2]; rfl, Lib.frozen_of_heap h2 2⟩
theorem stS_for {ft : List (List UInt8 × Int)} {s : St} {env : Env} {m : Int} (h : s.kind = 7) : stS ft s env m = (if orF [exZ env ft s.a, exZ env ft s.b, dcZ ((true, []) :: env) s.name.data.toList] ≠ 0 then ⟨orF [exZ env ft s.a, exZ env ft s.b, dcZ ((true, []) :: env) s.name.data.toList], m, env, []⟩ else ⟨(lsS ft s.body (dcEnv ((true, []) :: env) s.name.data.toList 3) m).e, (lsS ft s.body (dcEnv ((true, []) :: env) s.name.data.toList 3) m).m, env, exC ft s.a ++ exC ft s.b ++ (lsS ft s.body (dcEnv ((true, []) :: env) s.name.data.toList 3) m).c⟩) := by
  obtain ⟨k, nm, n, a, b, ba, bc, l, ea, ec, e, ca, cc, c⟩ := s
  subst h
  rw [stS, if_neg (by decide), if_neg (by decide), if_neg (by decide), if_neg (by decide), if_neg (by decide), if_pos rfl]; rfl
set_option maxRecDepth 100000 in
set_option maxHeartbeats 2000000 in
theorem nloop_of (w0 : World) (b fm : Nat) (ft : List (List UInt8 × Int)) (K : Nat) (ih : LsN w0 b fm ft K) (s : St) (a : Option Addr) (x : Nat × Nat) (bs : List (Nat × Nat)) (env : Env) (m : Int) (v : Value) (cs : List Int) (w : World) (hk : s.kind = 7) (hin : s.In w0) (hB : Below w0.heap.size w0 w) (hw : WS w0.heap.size w b fm a (x :: bs) env ft m v cs) (h1 : cs.length + qS s ≤ 1000000) (h2 : ∀ f ∈ env, f.2.length + qS s ≤ 900000) (h3 : 0 ≤ m) (h4 : m + qS s ≤ 1000000001) (hK : qS s ≤ K + 1) :
    Calls Tryd.prog 67 #[.pointer (some ⟨b, 0, none⟩), s.val] w fun e w' => e = .returned (.int .i64 (stS ft s env m).e) ∧ LP w0.heap.size b fm a x bs ft v cs (qS s) w w' (stS ft s env m) := by
  have HRR : Hid (stS ft s env m = (if orF [exZ env ft s.a, exZ env ft s.b, dcZ ((true, []) :: env) s.name.data.toList] ≠ 0 then ⟨orF [exZ env ft s.a, exZ env ft s.b, dcZ ((true, []) :: env) s.name.data.toList], m, env, []⟩ else ⟨(lsS ft s.body (dcEnv ((true, []) :: env) s.name.data.toList 3) m).e, (lsS ft s.body (dcEnv ((true, []) :: env) s.name.data.toList 3) m).m, env, exC ft s.a ++ exC ft s.b ++ (lsS ft s.body (dcEnv ((true, []) :: env) s.name.data.toList 3) m).c⟩)) := stS_for hk
  generalize stS ft s env m = R at HRR ⊢
  have hq := qS_eq s
  obtain ⟨_, hz, _, hia, hib, hbo, _⟩ := St.in_iff.1 hin
  have hb0 := (Below.refl _ w).alloc (Nat.le_refl _) (stBox s)
  have hB1 : Below w0.heap.size w0 (w.alloc (stBox s)) := hB.trans (hb0.mono hB.size)
  have hL : ∀ g ∈ b :: x.2 :: ob v, w0.heap.size ≤ g := fun q hq => by
    rcases List.mem_cons.1 hq with rfl | hq
    · exact hw.2.2.2.2.2.2 q (by simp)
    rcases List.mem_cons.1 hq with rfl | hq
    · exact hw.2.2.2.2.2.2 _ (by simp [chB])
    · exact (own_lt hw.2.2.2.1 q hq).1
  have hs : ∀ g ∈ b :: ob v, g ∈ b :: x.2 :: ob v := fun g hg => by
    rcases List.mem_cons.1 hg with rfl | hg <;> simp_all
  have hnL := ws_new hw
  have g0 : GS w0.heap.size b fm a x bs ft v cs (b :: x.2 :: ob v) True 0 [] (w.alloc (stBox s)) (w.alloc (stBox s)) env m := GS.start (hw.stay hb0) True
  have k0 := hw.cellS
  have hlt := hw.lt
  have hq900 : qS s ≤ 900000 := by
    have hne := hw.2.1
    match env, hne, h2 with
    | [], hne, _ => exact hne.elim
    | f :: _, _, h2 => have := h2 f (by simp); omega
  have HWI : Hid (∀ W, GS w0.heap.size b fm a x bs ft v cs (b :: x.2 :: ob v) True 0 [] (w.alloc (stBox s)) W env m → Calls Tryd.prog 79 #[.pointer a] W fun e W' => ∃ X Y, e = .returned (.pointer (some ⟨X, 0, none⟩)) ∧ GB w0.heap.size b fm a x bs ft v cs (b :: x.2 :: ob v) True 0 [] (w.alloc (stBox s)) W' env m (some ⟨X, 0, none⟩) (X, Y) (lvZ env == 0, [])) :=
    fun W h => (gs_within w0.heap.size b fm h hB1.size).mono fun e W' hh => ⟨_, _, hh⟩
  have HE : Hid (∀ X Y W, GB w0.heap.size b fm a x bs ft v cs (b :: x.2 :: ob v) True 0 [] (w.alloc (stBox s)) W env m (some ⟨X, 0, none⟩) (X, Y) (true, []) → Calls Tryd.prog 63 #[.pointer (some ⟨b, 0, none⟩), .agg #[.int .i64 s.a.kind, .int .i64 s.a.n, .string s.a.name, .slice s.a.a s.a.args.length s.a.cap]] W fun e W' => e = .returned (.int .i64 (exZ env ft s.a)) ∧ GB w0.heap.size b fm a x bs ft v cs (b :: x.2 :: ob v) (True ∧ exZ env ft s.a = 0) (0 + s.a.sz) ([] ++ exC ft s.a) (w.alloc (stBox s)) W' env m (some ⟨X, 0, none⟩) (X, Y) (true, [])) :=
    fun X Y W h => gb_expr w0 b fm h s.a hia hB1 hL hs (by omega)
  have HB : Hid (∀ X Y W, GB w0.heap.size b fm a x bs ft v cs (b :: x.2 :: ob v) (True ∧ exZ env ft s.a = 0) (0 + s.a.sz) ([] ++ exC ft s.a) (w.alloc (stBox s)) W env m (some ⟨X, 0, none⟩) (X, Y) (true, []) → Calls Tryd.prog 63 #[.pointer (some ⟨b, 0, none⟩), .agg #[.int .i64 s.b.kind, .int .i64 s.b.n, .string s.b.name, .slice s.b.a s.b.args.length s.b.cap]] W fun e W' => e = .returned (.int .i64 (exZ env ft s.b)) ∧ GB w0.heap.size b fm a x bs ft v cs (b :: x.2 :: ob v) ((True ∧ exZ env ft s.a = 0) ∧ exZ env ft s.b = 0) ((0 + s.a.sz) + s.b.sz) (([] ++ exC ft s.a) ++ exC ft s.b) (w.alloc (stBox s)) W' env m (some ⟨X, 0, none⟩) (X, Y) (true, [])) :=
    fun X Y W h => gb_expr w0 b fm h s.b hib hB1 hL hs (by omega)
  have HD : Hid (∀ X Y W, GB w0.heap.size b fm a x bs ft v cs (b :: x.2 :: ob v) ((True ∧ exZ env ft s.a = 0) ∧ exZ env ft s.b = 0) ((0 + s.a.sz) + s.b.sz) (([] ++ exC ft s.a) ++ exC ft s.b) (w.alloc (stBox s)) W env m (some ⟨X, 0, none⟩) (X, Y) (true, []) → Calls Tryd.prog 27 #[.pointer (some ⟨X, 0, none⟩), .string s.name, .int .i64 3] W fun e W' => e = .returned (.int .i64 (dcZ ((true, []) :: env) s.name.data.toList)) ∧ ∃ f3, dcEnv ((true, []) :: env) s.name.data.toList 3 = f3 :: env ∧ f3.2.length ≤ 1 ∧ GB w0.heap.size b fm a x bs ft v cs (b :: x.2 :: ob v) ((True ∧ exZ env ft s.a = 0) ∧ exZ env ft s.b = 0) ((0 + s.a.sz) + s.b.sz) (([] ++ exC ft s.a) ++ exC ft s.b) (w.alloc (stBox s)) W' env m (some ⟨X, 0, none⟩) (X, Y) f3) :=
    fun X Y W h => gb_declare w0 b fm h s.name hz 3 (by unfold I64; omega) (fun f hf => by
      rcases List.mem_cons.1 hf with rfl | hf
      · simp
      · have := h2 f hf; omega)
  have HBO : Hid (∀ X Y W f3, dcEnv ((true, []) :: env) s.name.data.toList 3 = f3 :: env → f3.2.length ≤ 1 → GB w0.heap.size b fm a x bs ft v cs (b :: x.2 :: ob v) ((True ∧ exZ env ft s.a = 0) ∧ exZ env ft s.b = 0) ((0 + s.a.sz) + s.b.sz) (([] ++ exC ft s.a) ++ exC ft s.b) (w.alloc (stBox s)) W env m (some ⟨X, 0, none⟩) (X, Y) f3 → Calls Tryd.prog 78 #[.pointer (some ⟨b, 0, none⟩), .pointer (some ⟨X, 0, none⟩), .slice s.ba s.body.length s.bc] W fun e W' => e = .returned (.int .i64 (lsS ft s.body (dcEnv ((true, []) :: env) s.name.data.toList 3) m).e) ∧ GS w0.heap.size b fm a x bs ft v cs (b :: x.2 :: ob v) (((True ∧ exZ env ft s.a = 0) ∧ exZ env ft s.b = 0) ∧ (lsS ft s.body (dcEnv ((true, []) :: env) s.name.data.toList 3) m).e = 0) (((0 + s.a.sz) + s.b.sz) + qSs s.body) ((([] ++ exC ft s.a) ++ exC ft s.b) ++ (lsS ft s.body (dcEnv ((true, []) :: env) s.name.data.toList 3) m).c) (w.alloc (stBox s)) W' env (lsS ft s.body (dcEnv ((true, []) :: env) s.name.data.toList 3) m).m) :=
    fun X Y W f3 e1 e2 h => by
      rw [e1]
      exact gb_body w0 b fm K ih h s.body s.ba s.bc (by omega) hbo hB1 hL hs (by omega) (fun f hf => by
        rcases List.mem_cons.1 hf with rfl | hf
        · omega
        · have := h2 f hf; omega) h3 (by omega)
  have HLP : Hid (∀ W (ok : Prop) kk (cc : List Int) mm (r : SR), GS w0.heap.size b fm a x bs ft v cs (b :: x.2 :: ob v) ok kk cc (w.alloc (stBox s)) W env mm → (r.e = 0 → ok ∧ cc = r.c) → env = r.env → mm = r.m → kk ≤ qS s → LP w0.heap.size b fm a x bs ft v cs (qS s) w W r) :=
    fun W ok kk cc mm r h p1 p2 p3 p4 => h.lp hb0 p1 p2 p3 p4
  have y0 : ∀ W, SX b a (b :: x.2 :: ob v) (w.alloc (stBox s)) W → W.cell? ⟨b, 0, none⟩ = some (.pointer a) := fun W h => h.2
  have y1 : ∀ W, SX b a (b :: x.2 :: ob v) (w.alloc (stBox s)) W → W.cell? ⟨w.heap.size, 1, none⟩ = some (.string s.name) := fun W h => SX.box hnL (by rw [World.cell?_alloc_at _ _ _ _ rfl]; rfl) h
  have y3 : ∀ W, SX b a (b :: x.2 :: ob v) (w.alloc (stBox s)) W → W.cell? ⟨w.heap.size, 3, none⟩ = some (.int .i64 s.a.kind) := fun W h => SX.box hnL (by rw [World.cell?_alloc_at _ _ _ _ rfl]; rfl) h
  have y4 : ∀ W, SX b a (b :: x.2 :: ob v) (w.alloc (stBox s)) W → W.cell? ⟨w.heap.size, 4, none⟩ = some (.int .i64 s.a.n) := fun W h => SX.box hnL (by rw [World.cell?_alloc_at _ _ _ _ rfl]; rfl) h
  have y5 : ∀ W, SX b a (b :: x.2 :: ob v) (w.alloc (stBox s)) W → W.cell? ⟨w.heap.size, 5, none⟩ = some (.string s.a.name) := fun W h => SX.box hnL (by rw [World.cell?_alloc_at _ _ _ _ rfl]; rfl) h
  have y6 : ∀ W, SX b a (b :: x.2 :: ob v) (w.alloc (stBox s)) W → W.cell? ⟨w.heap.size, 6, none⟩ = some (.slice s.a.a s.a.args.length s.a.cap) := fun W h => SX.box hnL (by rw [World.cell?_alloc_at _ _ _ _ rfl]; rfl) h
  have y7 : ∀ W, SX b a (b :: x.2 :: ob v) (w.alloc (stBox s)) W → W.cell? ⟨w.heap.size, 7, none⟩ = some (.int .i64 s.b.kind) := fun W h => SX.box hnL (by rw [World.cell?_alloc_at _ _ _ _ rfl]; rfl) h
  have y8 : ∀ W, SX b a (b :: x.2 :: ob v) (w.alloc (stBox s)) W → W.cell? ⟨w.heap.size, 8, none⟩ = some (.int .i64 s.b.n) := fun W h => SX.box hnL (by rw [World.cell?_alloc_at _ _ _ _ rfl]; rfl) h
  have y9 : ∀ W, SX b a (b :: x.2 :: ob v) (w.alloc (stBox s)) W → W.cell? ⟨w.heap.size, 9, none⟩ = some (.string s.b.name) := fun W h => SX.box hnL (by rw [World.cell?_alloc_at _ _ _ _ rfl]; rfl) h
  have y10 : ∀ W, SX b a (b :: x.2 :: ob v) (w.alloc (stBox s)) W → W.cell? ⟨w.heap.size, 10, none⟩ = some (.slice s.b.a s.b.args.length s.b.cap) := fun W h => SX.box hnL (by rw [World.cell?_alloc_at _ _ _ _ rfl]; rfl) h
  have y11 : ∀ W, SX b a (b :: x.2 :: ob v) (w.alloc (stBox s)) W → W.cell? ⟨w.heap.size, 11, none⟩ = some (.slice s.ba s.body.length s.bc) := fun W h => SX.box hnL (by rw [World.cell?_alloc_at _ _ _ _ rfl]; rfl) h
  have HSZ : Hid (qS s = 1 + s.a.sz + s.b.sz + qSs s.body + qSs s.els + qCs s.cases) := hq
  clear hin hB hw h1 h2 hq hz hia hib hb0 hB1 hL hs hnL hbo h3 h4 hK ih hq900 hk
  obtain ⟨W1, hW1⟩ : ∃ W1, w.alloc (stBox s) = W1 := ⟨_, rfl⟩
  rw [hW1] at g0 HWI HE HB HD HBO HLP y0 y1 y3 y4 y5 y6 y7 y8 y9 y10 y11
  unfold stBox at hW1
  have HW1 := show Hid _ from hW1
  clear hW1
  generalize exZ env ft s.a = za at *
  generalize exZ env ft s.b = zb at *
  generalize dcZ ((true, []) :: env) s.name.data.toList = zd at *
  generalize (lsS ft s.body (dcEnv ((true, []) :: env) s.name.data.toList 3) m) = RB at *
  unfold St.val
  go_enter Tryd.func67, Tryd.ntmps67
  go_wp2_with fail
  rw [HW1.out]
  refine (HWI.out _ g0).mono ?_
  rintro e w1 ⟨X, Y, rfl, hg1⟩
  clear g0 HW1 k0 hlt
  have k2 : w1.cell? ⟨X, 2, none⟩ = some (.bool (lvZ env == 0)) := hg1.cellL.1
  have q2 : w1.frozen? ⟨X, 2, none⟩ = false := hg1.cellL.2
  have g1 : GB w0.heap.size b fm a x bs ft v cs (b :: x.2 :: ob v) True 0 [] W1 (w1.setCell ⟨X, 2, none⟩ (.bool true)).drew env m (some ⟨X, 0, none⟩) (X, Y) (true, []) := (gb_in hg1).below (Below.drew (Below.refl _ _))
  clear hg1
  go_upto_region 3 with fail
  clear k2 q2
  generalize w1.setCell ⟨X, 2, none⟩ (.bool true) = W3 at *
  go_region_held (fun w' => SX b a (b :: x.2 :: ob v) W1 w') (first | exact GB.sx (by assumption) | exact GS.sx (by assumption) | exact SX.below (by assumption) ((Below.refl _ _).alloc (Nat.le_refl _) _) | assumption)
    (first
      | (go_at_call_of 63 (s.a.kind); refine (HE.out _ _ _ (by assumption)).mono ?_; rintro e w' ⟨rfl, hg⟩)
      | (go_at_call_of 63 (s.b.kind); refine (HB.out _ _ _ (by assumption)).mono ?_; rintro e w' ⟨rfl, hg⟩)
      | (go_at_call 27; refine (HD.out _ _ _ (by assumption)).mono ?_; rintro e w' ⟨rfl, f3, hf1, hf2, hg⟩)
      | (go_at_call 62; refine (or3 za zb zd _).mono ?_; rintro e w' ⟨rfl, rfl⟩))
  have HF1 : Hid (f3.2.length ≤ 1 ∧ dcEnv ((true, []) :: env) s.name.data.toList 3 = f3 :: env) := ⟨hf2, hf1⟩
  have g5 := hg.below ((Below.refl _ _).alloc (Nat.le_refl _) (.cells #[.int .i64 za, .int .i64 zb, .int .i64 zd] 27))
  clear hg hf1 hf2 g1
  generalize w'.alloc (.cells #[.int .i64 za, .int .i64 zb, .int .i64 zd] 27) = W5 at *
  have c11 := y11 _ g5.sx
  have HO := Hid.mk' (@orF3 za zb zd)
  generalize orF [za, zb, zd] = zo at *
  have HG5 := Hid.mk' g5
  clear g5
  cases hzo : (zo != 0)
  · have hzo0 : zo = 0 := by simpa using hzo
    have HR1 : Hid (R = ⟨RB.e, RB.m, env, exC ft s.a ++ exC ft s.b ++ RB.c⟩) := by show _ = _; rw [HRR.out, if_neg (by simpa using hzo0)]
    have HZ := Hid.mk' (HO.out.1 hzo0)
    clear HRR
    go_wp2_with fail
    refine (HBO.out _ _ _ f3 HF1.out.2 HF1.out.1 HG5.out).mono ?_
    rintro e w6 ⟨rfl, hg6⟩
    have HF := Hid.mk' (HLP.out w6 _ _ _ _ ⟨RB.e, RB.m, env, exC ft s.a ++ exC ft s.b ++ RB.c⟩ hg6 (fun e => ⟨⟨⟨⟨trivial, HZ.out.1⟩, HZ.out.2.1⟩, e⟩, by simp⟩) rfl rfl (by have := HSZ.out; omega))
    clear hg6 HBO c11
    go_wp2_with fail
    go_ret
    exact ⟨ret_int (by rw [HR1.out]), by rw [HR1.out]; exact HF.out⟩
  · have hzon : zo ≠ 0 := by simpa using hzo
    have HR1 : Hid (R = ⟨zo, m, env, []⟩) := by show _ = _; rw [HRR.out, if_pos hzon]
    have HF := Hid.mk' (HLP.out W5 _ _ _ _ ⟨zo, m, env, []⟩ HG5.out.gs (fun e => absurd e hzon) rfl rfl (by have := HSZ.out; omega))
    clear HRR hzon
    go_wp2_with fail
    go_ret
    exact ⟨ret_int (by rw [HR1.out]), by rw [HR1.out]; exact HF.out⟩
end Go.Proofs.YtakaldbhaoidiaaDoor

/- The program's walker: every statement. -/
namespace Go.Proofs.YtakaldbhaoidiaaDoor
open Go.RowKit Go.Sort

theorem LP.box {N b fm : Nat} {a x bs ft v cs k w w1 w2 r} (hb : Below w.heap.size w w1) (h : LP N b fm a x bs ft v cs k w1 w2 r) : LP N b fm a x bs ft v cs k w w2 r := by
  obtain ⟨v', cs', i1, i2, i3, i4, i5⟩ := h
  exact ⟨v', cs', i1, i2, i3, (Fr.of_below hb).trans i4, fun g hg => by
    rcases i5 g hg with h' | h'
    · exact Or.inl h'
    · exact Or.inr (Nat.le_trans hb.size h')⟩
set_option maxRecDepth 100000 in
set_option maxHeartbeats 2000000 in
theorem nst_if (w0 : World) (b fm : Nat) (ft : List (List UInt8 × Int)) (K : Nat) (ih : LsN w0 b fm ft K) (s : St) (a : Option Addr) (x : Nat × Nat) (bs : List (Nat × Nat)) (env : Env) (m : Int) (v : Value) (cs : List Int) (w : World) (hk : s.kind = 5) (hin : s.In w0) (hB : Below w0.heap.size w0 w) (hw : WS w0.heap.size w b fm a (x :: bs) env ft m v cs) (h1 : cs.length + qS s ≤ 1000000) (h2 : ∀ f ∈ env, f.2.length + qS s ≤ 900000) (h3 : 0 ≤ m) (h4 : m + qS s ≤ 1000000001) (hK : qS s ≤ K + 1) :
    Calls Tryd.prog 46 #[.pointer (some ⟨b, 0, none⟩), s.val] w fun e w' => e = .returned (.int .i64 (stS ft s env m).e) ∧ LP w0.heap.size b fm a x bs ft v cs (qS s) w w' (stS ft s env m) := by
  have hb0 := (Below.refl _ w).alloc (Nat.le_refl _) (stBox s)
  have HCL : Hid (Calls Tryd.prog 66 #[.pointer (some ⟨b, 0, none⟩), s.val] (w.alloc (stBox s)) fun e w' => e = .returned (.int .i64 (stS ft s env m).e) ∧ LP w0.heap.size b fm a x bs ft v cs (qS s) (w.alloc (stBox s)) w' (stS ft s env m)) :=
    nchoice_of w0 b fm ft K ih s a x bs env m v cs _ (Or.inl hk) hin (hB.trans (hb0.mono hB.size)) (hw.stay hb0) h1 h2 h3 h4 hK
  have HLB : Hid (∀ w', LP w0.heap.size b fm a x bs ft v cs (qS s) (w.alloc (stBox s)) w' (stS ft s env m) → LP w0.heap.size b fm a x bs ft v cs (qS s) w w' (stS ft s env m)) := fun w' h => h.box hb0
  generalize stS ft s env m = R at *
  clear hin hB hw h1 h2 h3 h4 hK ih hb0
  unfold St.val stBox at *
  rw [hk] at HCL HLB ⊢
  clear hk
  go_enter Tryd.func46, Tryd.ntmps46
  go_wp2_with fail
  refine HCL.out.mono ?_
  rintro e w' ⟨rfl, hp⟩
  have HP := Hid.mk' (HLB.out _ hp)
  clear hp HCL HLB
  go_wp2_with fail
  go_ret
  exact ⟨rfl, HP.out⟩
set_option maxRecDepth 100000 in
set_option maxHeartbeats 2000000 in
theorem nst_switch (w0 : World) (b fm : Nat) (ft : List (List UInt8 × Int)) (K : Nat) (ih : LsN w0 b fm ft K) (s : St) (a : Option Addr) (x : Nat × Nat) (bs : List (Nat × Nat)) (env : Env) (m : Int) (v : Value) (cs : List Int) (w : World) (hk : s.kind = 6) (hin : s.In w0) (hB : Below w0.heap.size w0 w) (hw : WS w0.heap.size w b fm a (x :: bs) env ft m v cs) (h1 : cs.length + qS s ≤ 1000000) (h2 : ∀ f ∈ env, f.2.length + qS s ≤ 900000) (h3 : 0 ≤ m) (h4 : m + qS s ≤ 1000000001) (hK : qS s ≤ K + 1) :
    Calls Tryd.prog 46 #[.pointer (some ⟨b, 0, none⟩), s.val] w fun e w' => e = .returned (.int .i64 (stS ft s env m).e) ∧ LP w0.heap.size b fm a x bs ft v cs (qS s) w w' (stS ft s env m) := by
  have hb0 := (Below.refl _ w).alloc (Nat.le_refl _) (stBox s)
  have HCL : Hid (Calls Tryd.prog 66 #[.pointer (some ⟨b, 0, none⟩), s.val] (w.alloc (stBox s)) fun e w' => e = .returned (.int .i64 (stS ft s env m).e) ∧ LP w0.heap.size b fm a x bs ft v cs (qS s) (w.alloc (stBox s)) w' (stS ft s env m)) :=
    nchoice_of w0 b fm ft K ih s a x bs env m v cs _ (Or.inr hk) hin (hB.trans (hb0.mono hB.size)) (hw.stay hb0) h1 h2 h3 h4 hK
  have HLB : Hid (∀ w', LP w0.heap.size b fm a x bs ft v cs (qS s) (w.alloc (stBox s)) w' (stS ft s env m) → LP w0.heap.size b fm a x bs ft v cs (qS s) w w' (stS ft s env m)) := fun w' h => h.box hb0
  generalize stS ft s env m = R at *
  clear hin hB hw h1 h2 h3 h4 hK ih hb0
  unfold St.val stBox at *
  rw [hk] at HCL HLB ⊢
  clear hk
  go_enter Tryd.func46, Tryd.ntmps46
  go_wp2_with fail
  refine HCL.out.mono ?_
  rintro e w' ⟨rfl, hp⟩
  have HP := Hid.mk' (HLB.out _ hp)
  clear hp HCL HLB
  go_wp2_with fail
  go_ret
  exact ⟨rfl, HP.out⟩
set_option maxRecDepth 100000 in
set_option maxHeartbeats 2000000 in
theorem nst_for (w0 : World) (b fm : Nat) (ft : List (List UInt8 × Int)) (K : Nat) (ih : LsN w0 b fm ft K) (s : St) (a : Option Addr) (x : Nat × Nat) (bs : List (Nat × Nat)) (env : Env) (m : Int) (v : Value) (cs : List Int) (w : World) (hk : s.kind = 7) (hin : s.In w0) (hB : Below w0.heap.size w0 w) (hw : WS w0.heap.size w b fm a (x :: bs) env ft m v cs) (h1 : cs.length + qS s ≤ 1000000) (h2 : ∀ f ∈ env, f.2.length + qS s ≤ 900000) (h3 : 0 ≤ m) (h4 : m + qS s ≤ 1000000001) (hK : qS s ≤ K + 1) :
    Calls Tryd.prog 46 #[.pointer (some ⟨b, 0, none⟩), s.val] w fun e w' => e = .returned (.int .i64 (stS ft s env m).e) ∧ LP w0.heap.size b fm a x bs ft v cs (qS s) w w' (stS ft s env m) := by
  have hb0 := (Below.refl _ w).alloc (Nat.le_refl _) (stBox s)
  have HCL : Hid (Calls Tryd.prog 67 #[.pointer (some ⟨b, 0, none⟩), s.val] (w.alloc (stBox s)) fun e w' => e = .returned (.int .i64 (stS ft s env m).e) ∧ LP w0.heap.size b fm a x bs ft v cs (qS s) (w.alloc (stBox s)) w' (stS ft s env m)) :=
    nloop_of w0 b fm ft K ih s a x bs env m v cs _ hk hin (hB.trans (hb0.mono hB.size)) (hw.stay hb0) h1 h2 h3 h4 hK
  have HLB : Hid (∀ w', LP w0.heap.size b fm a x bs ft v cs (qS s) (w.alloc (stBox s)) w' (stS ft s env m) → LP w0.heap.size b fm a x bs ft v cs (qS s) w w' (stS ft s env m)) := fun w' h => h.box hb0
  generalize stS ft s env m = R at *
  clear hin hB hw h1 h2 h3 h4 hK ih hb0
  unfold St.val stBox at *
  rw [hk] at HCL HLB ⊢
  clear hk
  go_enter Tryd.func46, Tryd.ntmps46
  go_wp2_with fail
  refine HCL.out.mono ?_
  rintro e w' ⟨rfl, hp⟩
  have HP := Hid.mk' (HLB.out _ hp)
  clear hp HCL HLB
  go_wp2_with fail
  go_ret
  exact ⟨rfl, HP.out⟩
/-- Every statement. -/
theorem nst_step (w0 : World) (b fm : Nat) (ft : List (List UInt8 × Int)) (K : Nat) (ih : LsN w0 b fm ft K) : StN w0 b fm ft (K + 1) := fun s a x bs env m v cs w hk hin hB hw h1 h2 h3 h4 => by
  by_cases k1 : s.kind = 1
  · exact nst_let w0 b fm ft s a x bs env m v cs w k1 hin hB hw h1 h2
  by_cases k2 : s.kind = 2
  · exact nst_arr w0 b fm ft s a x bs env m v cs w k2 hin hB hw h1 h2
  by_cases k3 : s.kind = 3
  · exact nst_asg w0 b fm ft s a x bs env m v cs w k3 hin hB hw h1 h2
  by_cases k4 : s.kind = 4
  · exact nst_sto w0 b fm ft s a x bs env m v cs w k4 hin hB hw h1 h2
  by_cases k5 : s.kind = 5
  · exact nst_if w0 b fm ft K ih s a x bs env m v cs w k5 hin hB hw h1 h2 h3 h4 hk
  by_cases k6 : s.kind = 6
  · exact nst_switch w0 b fm ft K ih s a x bs env m v cs w k6 hin hB hw h1 h2 h3 h4 hk
  by_cases k7 : s.kind = 7
  · exact nst_for w0 b fm ft K ih s a x bs env m v cs w k7 hin hB hw h1 h2 h3 h4 hk
  by_cases k8 : s.kind = 8
  · exact nst_brk w0 b fm ft s a x bs env m v cs w k8 hin hB hw h1 h2
  · exact nst_oth w0 b fm ft s a x bs env m v cs w ⟨k1, k2, k3, k4, k5, k6, k7, k8⟩ hin hB hw h1 h2
theorem nst_zero (w0 : World) (b fm : Nat) (ft : List (List UInt8 × Int)) : StN w0 b fm ft 0 := fun s _ _ _ _ _ _ _ _ hk => by have := qS_pos s; omega
theorem nst_all (w0 : World) (b fm : Nat) (ft : List (List UInt8 × Int)) : ∀ K, StN w0 b fm ft K
  | 0 => nst_zero w0 b fm ft
  | K + 1 => nst_step w0 b fm ft K (nlist_step w0 b fm ft K (nst_all w0 b fm ft K))
/-- Lists of statements. -/
theorem nlist_all (w0 : World) (b fm : Nat) (ft : List (List UInt8 × Int)) (K : Nat) : LsN w0 b fm ft K := nlist_step w0 b fm ft K (nst_all w0 b fm ft K)
end Go.Proofs.YtakaldbhaoidiaaDoor

/- What a look at a function comes to; the walker's first scope. -/
namespace Go.Proofs.YtakaldbhaoidiaaDoor
open Go.RowKit Go.Sort

/-- The parameters made known. -/
def paS : List Pa → Env → Int × Env
  | [], env => (0, env)
  | p :: r, env => if dcZ env p.name.data.toList ≠ 0 then (dcZ env p.name.data.toList, env) else paS r (dcEnv env p.name.data.toList 1)
theorem paS_drop {l : List Pa} {j : Nat} {env : Env} (h : j < l.length) : paS (l.drop j) env = if dcZ env l[j].name.data.toList ≠ 0 then (dcZ env l[j].name.data.toList, env) else paS (l.drop (j + 1)) (dcEnv env l[j].name.data.toList 1) := by
  rw [List.drop_eq_getElem_cons h, paS]
theorem paS_tail : ∀ (l : List Pa) (f : Bool × List (List UInt8 × Int)) (env : Env), ∃ f', f'.1 = f.1 ∧ f'.2.length ≤ f.2.length + l.length ∧ (paS l (f :: env)).2 = f' :: env
  | [], f, env => ⟨f, rfl, by simp, by rw [paS]⟩
  | p :: r, f, env => by
    rw [paS]
    split
    · exact ⟨f, rfl, by simp only [List.length_cons]; omega, rfl⟩
    · obtain ⟨f1, h1, h2, h3⟩ := dcEnv_tail f env p.name.data.toList 1
      rw [h3]
      obtain ⟨f2, g1, g2, g3⟩ := paS_tail r f1 env
      exact ⟨f2, g1.trans h1, by simp only [List.length_cons]; omega, g3⟩
/-- What is wrong in a function, the statement's number, and whom it calls. -/
def fnS (ft : List (List UInt8 × Int)) (f : Fu) : SR :=
  if tabHas ft f.name.data.toList = true then ⟨9, 0, [], []⟩
  else if (paS f.params [(false, [])]).1 ≠ 0 then ⟨(paS f.params [(false, [])]).1, 0, (paS f.params [(false, [])]).2, []⟩
  else lsS ft f.body (paS f.params [(false, [])]).2 0
/-- The first scope: a map, a box behind it, and the walker's cell 0. -/
theorem ws_first {N b fm : Nat} {W : World} {ft m v cs} (h : WS N W b fm none [] [] ft m v cs) (hN : N ≤ W.heap.size) :
    WS N (((W.alloc (.map #[] 0)).alloc (.cells #[.pointer none, .map (some W.heap.size), .bool false] 80)).setCell ⟨b, 0, none⟩ (.pointer (some ⟨W.heap.size + 1, 0, none⟩))) b fm (some ⟨W.heap.size + 1, 0, none⟩) [(W.heap.size + 1, W.heap.size)] [(false, [])] ft m v cs := by
  have hb1 : Below W.heap.size W (W.alloc (.map #[] 0)) := (Below.refl _ W).alloc (Nat.le_refl _) _
  have hb2 : Below W.heap.size W ((W.alloc (.map #[] 0)).alloc (.cells #[.pointer none, .map (some W.heap.size), .bool false] 80)) := hb1.alloc (by simp) _
  have hlb := h.lt
  have hlf := h.2.2.1.lt
  have hnd := h.2.2.2.2.1
  refine ws_scope (h.stay hb2) ⟨rfl, ⟨none, ?_, rfl⟩, (tab_made W).stay ((Below.refl _ _).alloc (Nat.le_refl _) _)⟩ ?_ (fun g hg hy => ?_) (fun g hg => ?_)
  · have := heap_alloc_new (W.alloc (.map #[] 0)) (.cells #[.pointer none, .map (some W.heap.size), .bool false] 80)
    rwa [World.size_alloc] at this
  · simp only [chB, List.nodup_cons, List.mem_cons, List.not_mem_nil, or_false, not_or, not_false_eq_true, List.nodup_nil, and_true] at hnd ⊢
    exact ⟨⟨hnd, by omega, by omega⟩, ⟨by omega, by omega⟩, by omega⟩
  · have h1 := (own_lt h.2.2.2.1 g hg).2
    have h2 := h.2.2.2.2.2.1 g hg
    simp only [chB, List.mem_cons, List.not_mem_nil, or_false, not_or] at hy h2
    rcases hy with hy | hy | hy | hy
    · exact h2.1 hy
    · exact h2.2 hy
    · omega
    · omega
  · have h2 := h.2.2.2.2.2.2 g
    simp only [chB, List.mem_cons, List.not_mem_nil, or_false] at hg h2
    rcases hg with hg | hg | hg | hg
    · exact h2 (Or.inl hg)
    · exact h2 (Or.inr hg)
    · omega
    · omega
end Go.Proofs.YtakaldbhaoidiaaDoor

/- The program's walker: a function. -/
namespace Go.Proofs.YtakaldbhaoidiaaDoor
open Go.RowKit Go.Sort

set_option maxRecDepth 100000 in
set_option maxHeartbeats 4000000 in
theorem nfn_twice (w0 : World) (b fm : Nat) (ft : List (List UInt8 × Int)) (f : Fu) (v : Value) (cs : List Int) (w : World) (hz : f.name.size ≤ 140737488351232) (hw : WS w0.heap.size w b fm none [] [] ft 0 v cs) (hh : tabHas ft f.name.data.toList = true) :
    Calls Tryd.prog 18 #[.pointer (some ⟨b, 0, none⟩), f.val] w fun e w' => e = .returned (.int .i64 9) ∧ WS w0.heap.size w' b fm none [] [] ft 0 v cs ∧ Below w.heap.size w w' := by
  have hb0 := (Below.refl _ w).alloc (Nat.le_refl _) (.cells #[.string f.name, .slice f.pa f.params.length f.pc, .slice f.ba f.body.length f.bc] 36)
  have hb1 := Below.drew hb0
  have hw1 := hw.stay hb1
  have HL := hw1.2.2.1.look f.name (by unfold maxLen; omega)
  rw [hh] at HL
  have c1 := hw.cellF
  have hlt := hw.lt
  have HP : Hid (WS w0.heap.size (w.alloc (.cells #[.string f.name, .slice f.pa f.params.length f.pc, .slice f.ba f.body.length f.bc] 36)).drew b fm none [] [] ft 0 v cs ∧ Below w.heap.size w (w.alloc (.cells #[.string f.name, .slice f.pa f.params.length f.pc, .slice f.ba f.body.length f.bc] 36)).drew) := ⟨hw1, hb1⟩
  have e1 := hw1.cellF
  have e2 : (w.alloc (.cells #[.string f.name, .slice f.pa f.params.length f.pc, .slice f.ba f.body.length f.bc] 36)).drew.cell? ⟨w.heap.size, 0, none⟩ = some (.string f.name) := by
    show (w.alloc (.cells #[.string f.name, .slice f.pa f.params.length f.pc, .slice f.ba f.body.length f.bc] 36)).cell? ⟨w.heap.size, 0, none⟩ = _
    rw [World.cell?_alloc_at _ _ _ _ rfl]; rfl
  clear hb0 hb1 hw hw1 hz
  generalize tabAt ft f.name.data.toList = num at *
  unfold Fu.val
  go_enter Tryd.func18, Tryd.ntmps18
  go_wp2_with fail
  generalize w.alloc (.cells #[.string f.name, .slice f.pa f.params.length f.pc, .slice f.ba f.body.length f.bc] 36) = W1 at *
  go_region_held (fun w' => w'.cell? ⟨b, 1, none⟩ = some (.map (some fm)) ∧ w'.cell? ⟨w.heap.size, 0, none⟩ = some (.string f.name)) (exact ⟨by assumption, by assumption⟩) (fail)
  go_wp2_with fail
  go_ret
  exact ⟨rfl, HP.out⟩
end Go.Proofs.YtakaldbhaoidiaaDoor

/- The program's walker: a function of a new name. -/
namespace Go.Proofs.YtakaldbhaoidiaaDoor
open Go.RowKit Go.Sort

theorem rowPa_at {W : World} {a : Option Addr} {l : List Pa} (h : RowIn W a 3 (l.map Pa.cells)) {i : Nat} (hi : i < l.length) :
    ∃ b o, a = some ⟨b, o, none⟩ ∧ W.cell? ⟨b, o + i * 3, none⟩ = some (.string l[i].name) ∧ W.cell? ⟨b, o + i * 3 + 1, none⟩ = some (.int .i64 l[i].lo) ∧ W.cell? ⟨b, o + i * 3 + 2, none⟩ = some (.int .i64 l[i].hi) := by
  obtain ⟨b, o, e, hc⟩ := h i l[i].cells (by simp [hi])
  exact ⟨b, o, e, hc 0 _ rfl, hc 1 _ rfl, hc 2 _ rfl⟩
theorem ws_first' {N b fm : Nat} {W : World} {ft m v cs} (h : WS N W b fm none [] [] ft m v cs) (hN : N ≤ W.heap.size) :
    WS N (((W.setCell ⟨b, 0, none⟩ (.pointer (some ⟨W.heap.size + 1, 0, none⟩))).alloc (.map #[] 0)).alloc (.cells #[.pointer none, .map (some W.heap.size), .bool false] 80)) b fm (some ⟨W.heap.size + 1, 0, none⟩) [(W.heap.size + 1, W.heap.size)] [(false, [])] ft m v cs := by
  have := ws_first h hN
  rwa [World.setCell_alloc_past _ _ _ _ (by have := h.lt; simp; omega), World.setCell_alloc_past _ _ _ _ h.lt] at this
set_option maxRecDepth 100000 in
set_option maxHeartbeats 4000000 in
theorem nfn_new (w0 : World) (b fm : Nat) (ft : List (List UInt8 × Int)) (f : Fu) (v : Value) (cs : List Int) (w : World) (hin : f.In w0) (hB : Below w0.heap.size w0 w) (hw : WS w0.heap.size w b fm none [] [] ft 0 v cs) (hh : tabHas ft f.name.data.toList = false) (h1 : cs.length + qSs f.body ≤ 1000000) (h2 : f.params.length + qSs f.body ≤ 900000) :
    Calls Tryd.prog 18 #[.pointer (some ⟨b, 0, none⟩), f.val] w fun e w' => e = .returned (.int .i64 (fnS ft f).e) ∧ ∃ a' bs' v' cs', WS w0.heap.size w' b fm a' bs' (fnS ft f).env ft (fnS ft f).m v' cs' ∧ ((fnS ft f).e = 0 → cs' = cs ++ (fnS ft f).c) ∧ Fr (b :: ob v) w w' ∧ ∀ g ∈ ob v', g ∈ ob v ∨ w.heap.size ≤ g := by
  obtain ⟨hz, hpl, hpc, _, hrow, hok, hbody⟩ := hin
  have HRR : Hid (fnS ft f = (if (paS f.params [(false, [])]).1 ≠ 0 then ⟨(paS f.params [(false, [])]).1, 0, (paS f.params [(false, [])]).2, []⟩ else lsS ft f.body (paS f.params [(false, [])]).2 0)) := by show _ = _; rw [fnS, if_neg (by rw [hh]; simp)]
  generalize fnS ft f = R at HRR ⊢
  have HH := Hid.mk' (And.intro h1 h2)
  clear h1 h2
  have hb0 := (Below.refl _ w).alloc (Nat.le_refl _) (.cells #[.string f.name, .slice f.pa f.params.length f.pc, .slice f.ba f.body.length f.bc] 36)
  have hb1 := Below.drew hb0
  have hw1 := hw.stay hb1
  have HL := hw1.2.2.1.look f.name (by unfold maxLen; omega)
  rw [hh] at HL
  have hlt1 := hw1.lt
  have e0 := hw1.cellS
  have q0 := hw1.frozen 0
  have e1 := hw1.cellF
  have e2 : (w.alloc (.cells #[.string f.name, .slice f.pa f.params.length f.pc, .slice f.ba f.body.length f.bc] 36)).drew.cell? ⟨w.heap.size, 0, none⟩ = some (.string f.name) := by
    show (w.alloc (.cells #[.string f.name, .slice f.pa f.params.length f.pc, .slice f.ba f.body.length f.bc] 36)).cell? ⟨w.heap.size, 0, none⟩ = _
    rw [World.cell?_alloc_at _ _ _ _ rfl]; rfl
  have e3 : (w.alloc (.cells #[.string f.name, .slice f.pa f.params.length f.pc, .slice f.ba f.body.length f.bc] 36)).drew.cell? ⟨w.heap.size, 1, none⟩ = some (.slice f.pa f.params.length f.pc) := by
    show (w.alloc (.cells #[.string f.name, .slice f.pa f.params.length f.pc, .slice f.ba f.body.length f.bc] 36)).cell? ⟨w.heap.size, 1, none⟩ = _
    rw [World.cell?_alloc_at _ _ _ _ rfl]; rfl
  have e4 : (w.alloc (.cells #[.string f.name, .slice f.pa f.params.length f.pc, .slice f.ba f.body.length f.bc] 36)).drew.cell? ⟨w.heap.size, 2, none⟩ = some (.slice f.ba f.body.length f.bc) := by
    show (w.alloc (.cells #[.string f.name, .slice f.pa f.params.length f.pc, .slice f.ba f.body.length f.bc] 36)).cell? ⟨w.heap.size, 2, none⟩ = _
    rw [World.cell?_alloc_at _ _ _ _ rfl]; rfl
  have c1 := hw.cellF
  have hlt := hw.lt
  have hbs : w.heap.size ≠ b := by omega
  have HOV := Hid.mk' (fun g hg => (own_lt hw.2.2.2.1 g hg).2)
  have HWW := Hid.mk' hw1
  have HBB := Hid.mk' (hb1.mono (Nat.le_refl _))
  have HIN := Hid.mk' (And.intro hB (And.intro hrow (And.intro hok hbody)))
  generalize tabAt ft f.name.data.toList = num at *
  clear hb0 hb1 hw hw1 hB hrow hok hbody
  have hmm := @run_makeMap Tryd.prog
  unfold Fu.val
  go_enter Tryd.func18, Tryd.ntmps18
  go_wp2_with fail
  generalize w.alloc (.cells #[.string f.name, .slice f.pa f.params.length f.pc, .slice f.ba f.body.length f.bc] 36) = W1 at *
  go_region_held (fun w' => w'.cell? ⟨b, 1, none⟩ = some (.map (some fm)) ∧ w'.cell? ⟨w.heap.size, 0, none⟩ = some (.string f.name)) (exact ⟨by assumption, by assumption⟩) (fail)
  generalize W1.drew = W2 at *
  have HS4 := Hid.mk' (ws_first' HWW.out (Nat.le_trans HIN.out.1.size HBB.out.size))
  have hf4 : Fr [b] W2 (((W2.setCell ⟨b, 0, none⟩ (.pointer (some ⟨W2.heap.size + 1, 0, none⟩))).alloc (.map #[] 0)).alloc (.cells #[.pointer none, .map (some W2.heap.size), .bool false] 80)) := (((Fr.refl _ W2).set (by simp) _ _).alloc _).alloc _
  have d3 : (((W2.setCell ⟨b, 0, none⟩ (.pointer (some ⟨W2.heap.size + 1, 0, none⟩))).alloc (.map #[] 0)).alloc (.cells #[.pointer none, .map (some W2.heap.size), .bool false] 80)).cell? ⟨w.heap.size, 1, none⟩ = some (.slice f.pa f.params.length f.pc) := (hf4.cell (World.block_lt_of_cell? _ _ e3) (by simpa using hbs)).trans e3
  have d4 : (((W2.setCell ⟨b, 0, none⟩ (.pointer (some ⟨W2.heap.size + 1, 0, none⟩))).alloc (.map #[] 0)).alloc (.cells #[.pointer none, .map (some W2.heap.size), .bool false] 80)).cell? ⟨w.heap.size, 2, none⟩ = some (.slice f.ba f.body.length f.bc) := (hf4.cell (World.block_lt_of_cell? _ _ e4) (by simpa using hbs)).trans e4
  have HW2 := Hid.mk' (World.block_lt_of_cell? _ _ e3)
  have HNB : Hid (w.heap.size ∉ b :: W2.heap.size :: ob v) := fun hy => by
    have := HW2.out
    simp only [List.mem_cons] at hy this
    rcases hy with hy | hy | hy
    · exact hbs hy
    · omega
    · have := HOV.out _ hy; omega
  have HF4 := Hid.mk' hf4
  clear hf4
  go_upto_region 5 with fail
  clear e0 e1 e2 e3 e4 q0 HL
  generalize ((W2.setCell ⟨b, 0, none⟩ (.pointer (some ⟨W2.heap.size + 1, 0, none⟩))).alloc (.map #[] 0)).alloc (.cells #[.pointer none, .map (some W2.heap.size), .bool false] 80) = W4 at *
  obtain ⟨P, HP⟩ : ∃ P, Hid (paS f.params [(false, [])] = P) := ⟨_, rfl⟩
  rw [HP.out] at HRR
  have HNL : Hid (∀ g ∈ b :: W2.heap.size :: ob v, w0.heap.size ≤ g) := fun q hq => by
    rcases List.mem_cons.1 hq with rfl | hq
    · exact HS4.out.2.2.2.2.2.2 q (by simp)
    rcases List.mem_cons.1 hq with rfl | hq
    · exact HS4.out.2.2.2.2.2.2 _ (by simp [chB])
    · exact (own_lt HS4.out.2.2.2.1 q hq).1
  have HB4 : Hid (Below w0.heap.size w0 W4) := (HIN.out.1.trans (HBB.out.mono HIN.out.1.size)).trans (HF4.out.below (fun q hq => by
    have : q = b := by simpa using hq
    subst this; exact HNL.out q (by simp)) (Nat.le_trans HIN.out.1.size HBB.out.size))
  have HFIN : Hid (∀ W', Fr (b :: W2.heap.size :: ob v) W4 W' → Fr (b :: ob v) w W') := fun W' h => ((Fr.of_below (S := b :: ob v) HBB.out).trans (HF4.out.mono fun q hq => by have e : q = b := (by simpa using hq); rw [e]; simp)).trans' h (fun q hq => by
    simp only [List.mem_cons] at hq
    rcases hq with hq | hq | hq
    · exact Or.inl (by simp [hq])
    · exact Or.inr (by rw [hq]; exact HBB.out.size)
    · exact Or.inl (by simp [hq]))
  have HSW : Hid (w.heap.size ≤ W4.heap.size) := Nat.le_trans HBB.out.size HF4.out.size
  go_wp2_with fail
  go_loopw [30] (fun t30 wr => ∃ (j : Nat) (env' : Env), j ≤ f.params.length ∧ t30 = .int .i64 j ∧ GS w0.heap.size b fm (some ⟨W2.heap.size + 1, 0, none⟩) (W2.heap.size + 1, W2.heap.size) [] ft v cs (b :: W2.heap.size :: ob v) True 0 [] W4 wr env' 0 ∧ paS (f.params.drop j) env' = P ∧ ∀ h ∈ env', h.2.length + (f.params.length - j) ≤ f.params.length) (fun t30 _ => f.params.length - (intOf t30).toNat)
  case atStart => exact ⟨0, [(false, [])], Nat.zero_le _, rfl, GS.start HS4.out True, HP.out, by simp⟩
  case round =>
    obtain ⟨j, env', hj, rfl, q1, q2, q3⟩ := hrel
    have HX := Hid.mk' q1
    have HQ := Hid.mk' q2
    have HQ3 := Hid.mk' q3
    have d4 := (q1.frw.cell (World.block_lt_of_cell? _ _ d4) HNB.out).trans d4
    clear q1 q2 q3
    by_cases hlt : j < f.params.length
    · have hrw : RowIn wr f.pa 3 (f.params.map Pa.cells) := HIN.out.2.1.below (HB4.out.trans (HX.out.frw.below HNL.out HB4.out.size))
      generalize f.pa = fpa at *
      obtain ⟨g, o, rfl, r0, r1, r2⟩ := rowPa_at hrw hlt
      clear hrw
      have hli : (j : Int) < (f.params.length : Int) := by omega
      have HY := Hid.mk' (HIN.out.2.2.1 _ (List.getElem_mem hlt)).1
      have HPD : Hid (paS (f.params.drop j) env' = if dcZ env' f.params[j].name.data.toList ≠ 0 then (dcZ env' f.params[j].name.data.toList, env') else paS (f.params.drop (j + 1)) (dcEnv env' f.params[j].name.data.toList 1)) := paS_drop hlt
      have HLE : Hid (∀ h ∈ dcEnv env' f.params[j].name.data.toList 1, h.2.length + (f.params.length - (j + 1)) ≤ f.params.length) := by
        have hx := HQ3.out
        match env', HX.out.chain, hx with
        | [], hx, _ => exact hx.elim
        | h0 :: er, _, hx =>
          obtain ⟨f', _, hf, he⟩ := dcEnv_tail h0 er f.params[j].name.data.toList 1
          show ∀ _ ∈ _, _
          rw [he]
          intro q hq
          rcases List.mem_cons.1 hq with rfl | hq
          · have := hx h0 (by simp); omega
          · have := hx q (by simp [hq]); omega
      generalize f.params[j] = y at *
      obtain ⟨v1, cs1, i1, i2, i3, i4, i5⟩ := HX.out
      have hb2 := (Below.refl _ wr).alloc (Nat.le_refl _) (.cells #[.string y.name, .int .i64 y.lo, .int .i64 y.hi] 55)
      have hnL1 := ws_new i1
      have z1 : ∀ W, SX b (some ⟨W2.heap.size + 1, 0, none⟩) (b :: W2.heap.size :: ob v1) (wr.alloc (.cells #[.string y.name, .int .i64 y.lo, .int .i64 y.hi] 55)) W → W.cell? ⟨wr.heap.size, 0, none⟩ = some (.string y.name) := fun W h => h.cell (by rw [World.cell?_alloc_at _ _ _ _ rfl]; rfl) hnL1
      have z0 : ∀ W, SX b (some ⟨W2.heap.size + 1, 0, none⟩) (b :: W2.heap.size :: ob v1) (wr.alloc (.cells #[.string y.name, .int .i64 y.lo, .int .i64 y.hi] 55)) W → W.cell? ⟨b, 0, none⟩ = some (.pointer (some ⟨W2.heap.size + 1, 0, none⟩)) := fun W h => h.2
      have g5 : GS w0.heap.size b fm (some ⟨W2.heap.size + 1, 0, none⟩) (W2.heap.size + 1, W2.heap.size) [] ft v1 cs1 (b :: W2.heap.size :: ob v1) True 0 [] (wr.alloc (.cells #[.string y.name, .int .i64 y.lo, .int .i64 y.hi] 55)) (wr.alloc (.cells #[.string y.name, .int .i64 y.lo, .int .i64 y.hi] 55)).drew env' 0 := (GS.start (i1.stay hb2) True).below (Below.drew (Below.refl _ _))
      have HD5 : Hid (∀ W, GS w0.heap.size b fm (some ⟨W2.heap.size + 1, 0, none⟩) (W2.heap.size + 1, W2.heap.size) [] ft v1 cs1 (b :: W2.heap.size :: ob v1) True 0 [] (wr.alloc (.cells #[.string y.name, .int .i64 y.lo, .int .i64 y.hi] 55)) W env' 0 → Calls Tryd.prog 27 #[.pointer (some ⟨W2.heap.size + 1, 0, none⟩), .string y.name, .int .i64 1] W fun e W' => e = .returned (.int .i64 (dcZ env' y.name.data.toList)) ∧ GS w0.heap.size b fm (some ⟨W2.heap.size + 1, 0, none⟩) (W2.heap.size + 1, W2.heap.size) [] ft v1 cs1 (b :: W2.heap.size :: ob v1) True 0 [] (wr.alloc (.cells #[.string y.name, .int .i64 y.lo, .int .i64 y.hi] 55)) W' (dcEnv env' y.name.data.toList 1) 0) :=
        fun W h => gs_declare w0 b fm h y.name HY.out 1 (by unfold I64; omega) (by simp) (fun h hh => by have := HQ3.out h hh; have := HH.out; omega)
      have HC5 : Hid (∀ W (env3 : Env), GS w0.heap.size b fm (some ⟨W2.heap.size + 1, 0, none⟩) (W2.heap.size + 1, W2.heap.size) [] ft v1 cs1 (b :: W2.heap.size :: ob v1) True 0 [] (wr.alloc (.cells #[.string y.name, .int .i64 y.lo, .int .i64 y.hi] 55)) W env3 0 → GS w0.heap.size b fm (some ⟨W2.heap.size + 1, 0, none⟩) (W2.heap.size + 1, W2.heap.size) [] ft v cs (b :: W2.heap.size :: ob v) True (0 + 0) ([] ++ []) W4 W env3 0) := fun W env3 h => GS.comp (i2 trivial) i3 i4 i5 hb2 h
      have HDE : Hid (dcZ env' y.name.data.toList ≠ 0 → dcEnv env' y.name.data.toList 1 = env') := fun h => by
        unfold dcZ at h
        unfold dcEnv
        split
        · rfl
        · rename_i hc; rw [if_neg hc] at h; exact absurd rfl h
      clear i1 i2 i3 i4 i5 hnL1 hb2
      generalize dcZ env' y.name.data.toList = zd at *
      generalize dcEnv env' y.name.data.toList 1 = en at *
      go_wp2_with fail
      generalize wr.alloc (.cells #[.string y.name, .int .i64 y.lo, .int .i64 y.hi] 55) = W5 at *
      go_region_held (fun w' => SX b (some ⟨W2.heap.size + 1, 0, none⟩) (b :: W2.heap.size :: ob v1) W5 w') (first | exact GS.sx (by assumption) | assumption)
        (first | (go_at_call 27; refine (HD5.out _ (by assumption)).mono ?_; rintro e w' ⟨rfl, hg⟩))
      have HG6 := Hid.mk' (HC5.out _ _ hg)
      clear hg g5 HD5 HC5 z0 z1 r0 r1 r2
      cases hzd : (zd != 0)
      · have hzd0 : zd = 0 := by simpa using hzd
        have HV : Hid (paS (f.params.drop (j + 1)) en = P) := by show _ = _; rw [← HQ.out, HPD.out, if_neg (by simpa using hzd0)]
        clear hzd0
        go_wp2_with fail
        go_roundw
        case rel => exact ⟨j + 1, en, by omega, by go_num, HG6.out, HV.out, HLE.out⟩
        case measure => simp [intOf]; omega
      · have hzdn : zd ≠ 0 := by simpa using hzd
        have HV : Hid (R = ⟨zd, 0, env', []⟩) := by show _ = _; rw [HRR.out, ← HQ.out, HPD.out, if_pos hzdn, if_pos (by exact hzdn)]
        have HEN := Hid.mk' (HDE.out hzdn)
        clear hzdn
        go_wp2_with fail
        go_ret
        obtain ⟨v2, cs2, j1, j2, j3, j4, j5⟩ := HG6.out
        refine ⟨ret_int (by rw [HV.out]), _, _, v2, cs2, by rw [HV.out, ← HEN.out]; exact j1, fun _ => by rw [HV.out]; simpa using j2 trivial, HFIN.out _ j4, fun g hg => ?_⟩
        rcases j5 g hg with h' | h'
        · exact Or.inl h'
        · exact Or.inr (Nat.le_trans HSW.out h')
    · have hli : ¬ (j : Int) < (f.params.length : Int) := by omega
      have HE2 : Hid (P = (0, env')) := by show _ = _; rw [← HQ.out, List.drop_eq_nil_of_le (by omega), paS]
      have HR1 : Hid (R = lsS ft f.body env' 0) := by show _ = _; rw [HRR.out, HE2.out, if_neg (by simp)]
      obtain ⟨v1, cs1, i1, i2, i3, i4, i5⟩ := HX.out
      have HLS := Hid.mk' (nlist_all w0 b fm ft (qSs f.body) f.body f.ba f.bc (some ⟨W2.heap.size + 1, 0, none⟩) (W2.heap.size + 1, W2.heap.size) [] env' 0 v1 cs1 wr (Nat.le_refl _) HIN.out.2.2.2 (HB4.out.trans (i4.below HNL.out HB4.out.size)) i1 (by have := HH.out; omega) (fun h hh => by have := HQ3.out h hh; have := HH.out; omega) (by omega) (by have := HH.out; omega))
      have HC := Hid.mk' (And.intro (i2 trivial) (And.intro i4 i5))
      clear i1 i2 i3 i4 i5
      rw [← HR1.out] at HLS
      go_wp2_with fail
      refine HLS.out.mono ?_
      rintro e w6 ⟨rfl, hp⟩
      have HP6 := Hid.mk' hp
      clear hp HLS
      go_wp2_with fail
      go_ret
      obtain ⟨v2, cs2, j1, j2, j3, j4, j5⟩ := HP6.out
      refine ⟨rfl, _, _, v2, cs2, j1, fun e => by rw [j2 e, HC.out.1, List.append_nil], HFIN.out _ (HC.out.2.1.trans' j4 fun q hq => ?_), fun g hg => ?_⟩
      · simp only [List.mem_cons] at hq
        rcases hq with hq | hq | hq
        · exact Or.inl (by simp [hq])
        · exact Or.inl (by simp [hq])
        · rcases HC.out.2.2 q hq with h' | h'
          · exact Or.inl (by simp [h'])
          · exact Or.inr h'
      · rcases j5 g hg with h' | h'
        · rcases HC.out.2.2 g h' with h'' | h''
          · exact Or.inl h''
          · exact Or.inr (Nat.le_trans HSW.out h'')
        · exact Or.inr (Nat.le_trans HSW.out (Nat.le_trans HC.out.2.1.size h'))
end Go.Proofs.YtakaldbhaoidiaaDoor

/- The functions of a program, one behind the other: what names' look at them comes to; how much a program that is right has. -/
namespace Go.Proofs.YtakaldbhaoidiaaDoor
open Go.RowKit Go.Sort

theorem cntE_room (k : Nat) : (∀ (x : Ex) (n : Int), x.sz ≤ k → cntE x n ≤ 4096 → n + x.sz ≤ cntE x n) ∧ (∀ (l : List Ex) (n : Int), szL l ≤ k → cntL l n ≤ 4096 → n + szL l ≤ cntL l n) := by
  induction k with
  | zero =>
    refine ⟨fun x n hk => by have := x.sz_args; omega, fun l n hk => ?_⟩
    cases l with
    | nil => simp [cntL, szL]
    | cons x r => rw [szL] at hk; have := x.sz_args; omega
  | succ k ih =>
    have h1 : ∀ (x : Ex) (n : Int), x.sz ≤ k + 1 → cntE x n ≤ 4096 → n + x.sz ≤ cntE x n := fun x n hk => by
      rw [cntE_args]; intro h; have := ih.2 _ _ (by have := x.sz_args; omega) h; have := x.sz_args; omega
    refine ⟨h1, fun l => ?_⟩
    induction l with
    | nil => intro n _ _; simp [cntL, szL]
    | cons x r ihr =>
      intro n hk
      rw [szL] at hk ⊢
      rw [cntL]
      split
      · intro h; omega
      · intro h
        have a1 := cntL_ge r (cntE x n)
        have a2 := h1 x n (by omega) (by omega)
        have a3 := ihr (cntE x n) (by omega) h
        omega
theorem cntZ_room (x : Ex) (n : Int) (h : cntZ x n ≤ 4096) : n + x.sz ≤ cntZ x n + 1 := by
  unfold cntZ at h ⊢
  split
  · rename_i hz
    have : x.args = [] := by
      have : x.args.isEmpty = true := by unfold zeroE at hz; simp only [Bool.and_eq_true] at hz; exact hz.2
      simpa using this
    have h2 := x.sz_args
    rw [this] at h2
    simp only [szL] at h2
    omega
  · rename_i hz
    rw [if_neg hz] at h
    have := (cntE_room _).1 x n (Nat.le_refl _) h
    omega
/-- How much the bodies have. -/
def bq : List Bd → Nat | [] => 0 | b :: r => qSs b.l + bq r
theorem bq_append (l m : List Bd) : bq (l ++ m) = bq l + bq m := by
  induction l with
  | nil => simp [bq]
  | cons b l ih => rw [List.cons_append, bq, bq, ih]; omega
theorem bq_cases (l : List Ca) : qCs l = bq (l.map Ca.bd) + l.length := by
  induction l with
  | nil => simp [bq, qCs]
  | cons c l ih => rw [List.map_cons, bq, qCs, qC_eq, ih, List.length_cons]; show _ = qSs c.body + _ + _; omega
theorem qS_bods (s : St) : qS s = bq (bods s) + s.cases.length + 1 + s.a.sz + s.b.sz := by
  rw [bods, bq, bq_append, bq, bq, qS_eq, bq_cases]
  show _ = qSs s.body + (_ + (qSs s.els + 0)) + _ + 1 + _ + _
  omega
theorem cntB_ge (l : List Bd) (n : Int) : n ≤ cntB l n := by
  induction l generalizing n with
  | nil => simp [cntB]
  | cons b r ih => rw [cntB]; have := ih (cntSs b.l n); have := ((cntS_sz _).2 b.l n (Nat.le_refl _)).1; omega
theorem cntS_room (k : Nat) : (∀ (s : St) (n : Int), s.sz ≤ k → cntS s n ≤ 4096 → 3 * n + qS s ≤ 3 * cntS s n) ∧ (∀ (l : List St) (n : Int), ssz l ≤ k → cntSs l n ≤ 4096 → 3 * n + qSs l ≤ 3 * cntSs l n) := by
  have step : ∀ k, (∀ (s : St) (n : Int), s.sz ≤ k → cntS s n ≤ 4096 → 3 * n + qS s ≤ 3 * cntS s n) → ∀ (l : List St) (n : Int), ssz l ≤ k → cntSs l n ≤ 4096 → 3 * n + qSs l ≤ 3 * cntSs l n := by
    intro k h1 l
    induction l with
    | nil => intro n _ _; simp only [cntSs, qSs]; omega
    | cons x r ihr =>
      intro n hk
      rw [ssz] at hk
      rw [qSs, cntSs]
      split
      · intro h; omega
      · intro h
        have a0 := ((cntS_sz _).2 r (cntS x n) (Nat.le_refl _)).1
        have a1 := h1 x n (by omega) (by omega)
        have a2 := ihr (cntS x n) (by omega) h
        omega
  induction k with
  | zero =>
    have h0 : ∀ (s : St) (n : Int), s.sz ≤ 0 → cntS s n ≤ 4096 → 3 * n + qS s ≤ 3 * cntS s n := fun s n hk => by have := s.sz_eq; omega
    exact ⟨h0, step 0 h0⟩
  | succ k ih =>
    have h1 : ∀ (s : St) (n : Int), s.sz ≤ k + 1 → cntS s n ≤ 4096 → 3 * n + qS s ≤ 3 * cntS s n := by
      intro s n hk
      have fold : ∀ (l : List Bd) (n : Int), (∀ b ∈ l, b ∈ bods s) → cntB l n ≤ 4096 → 3 * n + bq l ≤ 3 * cntB l n := by
        intro l
        induction l with
        | nil => intro n _ _; simp only [cntB, bq]; omega
        | cons b r ihr =>
          intro n hm
          rw [cntB, bq]
          intro h
          have a0 := cntB_ge r (cntSs b.l n)
          have a1 := ih.2 b.l n (by have := bods_sz (hm b (by simp)); omega) (by omega)
          have a2 := ihr (cntSs b.l n) (fun y hy => hm y (by simp [hy])) h
          omega
      rw [cntS_eq]
      intro h
      have b1 := cntZ_ge s.a (n + (1 + (s.cases.length : Int)))
      have b2 := cntZ_ge s.b (cntZ s.a (n + (1 + (s.cases.length : Int))))
      have b3 := cntB_ge (bods s) (cntZ s.b (cntZ s.a (n + (1 + (s.cases.length : Int)))))
      have a1 := cntZ_room s.a (n + (1 + (s.cases.length : Int))) (by omega)
      have a2 := cntZ_room s.b (cntZ s.a (n + (1 + (s.cases.length : Int)))) (by omega)
      have a5 := fold (bods s) (cntZ s.b (cntZ s.a (n + (1 + (s.cases.length : Int))))) (fun b hb => hb) h
      have := qS_bods s
      omega
    exact ⟨h1, step (k + 1) h1⟩
theorem cntF_room : ∀ (l : List Fu) (n : Int), cntF l n ≤ 4096 → 0 ≤ n → ∀ f ∈ l, qSs f.body ≤ 12288
  | [], n => fun _ _ f hf => by cases hf
  | f :: r, n => by
    have a0 := ((cntS_sz _).2 f.body n (Nat.le_refl _)).1
    have a2 := cntF_room r (cntSs f.body n)
    have a3 := (cntF_sz r (cntSs f.body n)).1
    rw [cntF]
    intro h h0 g hg
    rcases List.mem_cons.1 hg with rfl | hg
    · have := (cntS_room _).2 g.body n (Nat.le_refl _) (by omega); omega
    · exact a2 h (by omega) g hg
theorem chkFs_all : ∀ {l : List Fu} {i : Int}, (chkFs l i).1 = 0 → ∀ f ∈ l, (chkF f).1 = 0
  | [], _, _, f, hf => by cases hf
  | g :: r, i, h, f, hf => by
    rw [chkFs] at h
    split at h
    · rename_i h0; exact absurd h h0
    · rename_i h0
      rcases List.mem_cons.1 hf with rfl | hf
      · simpa using h0
      · exact chkFs_all h f hf
/-- How much a function of a program that is right has. -/
theorem check_room {p : Pr} (h : (checkZ p).1 = 0) : p.funcs.length ≤ 32 ∧ ∀ f ∈ p.funcs, qSs f.body ≤ 12288 ∧ f.params.length ≤ 8 := by
  have hw : wholeZ p = 0 ∧ (chkFs p.funcs 0).1 = 0 := by
    unfold checkZ at h
    split at h
    · rename_i h0; exact absurd h h0
    · rename_i h0; exact ⟨by simpa using h0, h⟩
  have hn : p.funcs.length ≤ 32 ∧ nodesZ p ≤ 4096 := by
    have h := hw.1
    unfold wholeZ at h
    split at h
    · omega
    split at h
    · omega
    split at h
    · omega
    split at h
    · omega
    split at h
    · omega
    omega
  refine ⟨hn.1, fun f hf => ?_⟩
  have hn2 := hn.2
  unfold nodesZ at hn2
  refine ⟨cntF_room p.funcs 0 (by omega) (by omega) f hf, ?_⟩
  have hf0 := chkFs_all hw.2 f hf
  unfold chkF at hf0
  split at hf0
  · rename_i h0; exact absurd hf0 h0
  · rename_i h0
    have h1 : headZ f = 0 := by simpa using h0
    unfold headZ at h1
    split at h1
    · omega
    split at h1
    · omega
    omega

/-- The functions ahead of the k-th one, the latest first. -/
def ftK (fs : List Fu) : Nat → List (List UInt8 × Int)
  | 0 => []
  | k + 1 => match fs[k]? with | some f => (f.name.data.toList, (k : Int)) :: ftK fs k | none => ftK fs k
theorem ftK_succ {fs : List Fu} {k : Nat} (h : k < fs.length) : ftK fs (k + 1) = (fs[k].name.data.toList, (k : Int)) :: ftK fs k := by
  rw [ftK, List.getElem?_eq_getElem h]
theorem ftK_length (fs : List Fu) (k : Nat) : (ftK fs k).length ≤ k := by
  induction k with
  | zero => simp [ftK]
  | succ k ih =>
    rw [ftK]
    split
    · simp only [List.length_cons]; omega
    · omega
/-- What the look at the k-th function comes to. -/
def fnK (fs : List Fu) (k : Nat) (f : Fu) : SR := fnS (ftK fs k) f
/-- What is wrong first, from the k-th function on. -/
def lkZ (fs : List Fu) : List Fu → Nat → Int × Int × Int
  | [], _ => (0, 0, 0)
  | f :: r, k => if (fnK fs k f).e ≠ 0 then ((fnK fs k f).e, (k : Int), (fnK fs k f).m) else lkZ fs r (k + 1)
theorem lkZ_drop {fs l : List Fu} {k : Nat} (h : k < l.length) : lkZ fs (l.drop k) k = if (fnK fs k l[k]).e ≠ 0 then ((fnK fs k l[k]).e, (k : Int), (fnK fs k l[k]).m) else lkZ fs (l.drop (k + 1)) (k + 1) := by
  rw [List.drop_eq_getElem_cons h, lkZ]
/-- Which name of a program is used wrongly first. -/
def namZ (p : Pr) : Int × Int × Int := if (checkZ p).1 ≠ 0 then checkZ p else lkZ p.funcs p.funcs 0
end Go.Proofs.YtakaldbhaoidiaaDoor

/- The walker of one function, whole, from its beginning on; the rows of those that are called. -/
namespace Go.Proofs.YtakaldbhaoidiaaDoor
open Go.RowKit Go.Sort

/-- A walker as it begins. -/
theorem ws_begin {N fm : Nat} {W : World} {ft : List (List UInt8 × Int)} (h : Tab W fm ft) (hN : N ≤ fm) :
    WS N (W.alloc (.cells #[.pointer none, .map (some fm), .int .i64 0, .slice none 0 0] 67)) W.heap.size fm none [] [] ft 0 (.slice none 0 0) [] := by
  have hl := h.lt
  refine ⟨heap_alloc_new _ _, rfl, h.stay ((Below.refl _ W).alloc (Nat.le_refl _) _), ⟨rfl, .inl ⟨rfl, rfl⟩⟩, ?_, fun g hg => ?_, fun g hg => ?_⟩
  · simp only [chB, List.nodup_cons, List.mem_cons, List.not_mem_nil, or_false, not_false_eq_true, List.nodup_nil, and_true]
    omega
  · simp [ob, Value.ownBlock] at hg
  · simp only [chB, List.mem_cons, List.not_mem_nil, or_false] at hg
    omega
theorem nfn_any (w0 : World) (b fm : Nat) (ft : List (List UInt8 × Int)) (f : Fu) (w : World) (hin : f.In w0) (hB : Below w0.heap.size w0 w) (hw : WS w0.heap.size w b fm none [] [] ft 0 (.slice none 0 0) []) (h1 : qSs f.body ≤ 12288) (h2 : f.params.length ≤ 8) :
    Calls Tryd.prog 18 #[.pointer (some ⟨b, 0, none⟩), f.val] w fun e w' => e = .returned (.int .i64 (fnS ft f).e) ∧ ∃ a' bs' v' cs', WS w0.heap.size w' b fm a' bs' (fnS ft f).env ft (fnS ft f).m v' cs' ∧ ((fnS ft f).e = 0 → cs' = (fnS ft f).c) ∧ Fr [b] w w' ∧ ∀ g ∈ ob v', w.heap.size ≤ g := by
  cases hh : tabHas ft f.name.data.toList
  · refine (nfn_new w0 b fm ft f _ [] w hin hB hw hh (by simp only [List.length_nil]; omega) (by omega)).mono ?_
    rintro e w' ⟨rfl, a', bs', v', cs', k1, k2, k3, k4⟩
    refine ⟨rfl, a', bs', v', cs', k1, fun h => by simpa using k2 h, k3, fun g hg => ?_⟩
    rcases k4 g hg with h | h
    · simp [ob, Value.ownBlock] at h
    · exact h
  · refine (nfn_twice w0 b fm ft f _ [] w hin.1 hw hh).mono ?_
    rintro e w' ⟨rfl, k1, k2⟩
    have hr : fnS ft f = ⟨9, 0, [], []⟩ := by rw [fnS, if_pos hh]
    rw [hr]
    exact ⟨rfl, none, [], _, [], k1, fun h => absurd h (by decide), Fr.of_below k2, fun g hg => by simp [ob, Value.ownBlock] at hg⟩

/-- The rows of those that the first k functions call, in a block of their own. -/
def RowsAt (N : Nat) (W : World) (fm cb : Nat) (fs : List Fu) (k : Nat) (vs : List Value) : Prop :=
  W.heap[cb]? = some (.cells vs.toArray 48 (0, 0)) ∧ vs.length = fs.length ∧ (∀ j, j < fs.length → k ≤ j → vs[j]? = some (.slice none 0 0)) ∧
  ∀ j f, fs[j]? = some f → j < k → ∃ v, vs[j]? = some v ∧ W.ownsRow N 3 1 v (fnK fs j f).c.length ((fnK fs j f).c.map (Value.int .i64)) ∧ fm ∉ ob v ∧ cb ∉ ob v
theorem RowsAt.lt {N : Nat} {W : World} {fm cb : Nat} {fs : List Fu} {k : Nat} {vs : List Value} (h : RowsAt N W fm cb fs k vs) : cb < W.heap.size := (Array.getElem?_eq_some_iff.1 h.1).1
theorem RowsAt.on {N : Nat} {W W' : World} {fm cb : Nat} {fs : List Fu} {k : Nat} {vs : List Value} (h : RowsAt N W fm cb fs k vs) (hc : cb ≠ fm) (hk : ∀ g, g < W.heap.size → g ≠ fm → W'.heap[g]? = W.heap[g]?) : RowsAt N W' fm cb fs k vs := by
  refine ⟨(hk cb h.lt hc).trans h.1, h.2.1, h.2.2.1, fun j f hf hj => ?_⟩
  obtain ⟨v, e1, e2, e3, e4⟩ := h.2.2.2 j f hf hj
  exact ⟨v, e1, own_keep e2 (fun g hg => hk g (own_lt e2 g hg).2 (fun e => e3 (e ▸ hg))), e3, e4⟩
theorem RowsAt.cell {N : Nat} {W : World} {fm cb : Nat} {fs : List Fu} {k : Nat} {vs : List Value} (h : RowsAt N W fm cb fs k vs) {j : Nat} {v : Value} (hv : vs[j]? = some v) : W.cell? ⟨cb, j, none⟩ = some v := by
  rw [Lib.cell_of_heap h.1]; simpa using hv
theorem RowsAt.frozen {N : Nat} {W : World} {fm cb : Nat} {fs : List Fu} {k : Nat} {vs : List Value} (h : RowsAt N W fm cb fs k vs) (j : Nat) : W.frozen? ⟨cb, j, none⟩ = false := Lib.frozen_of_heap h.1 _
theorem RowsAt.put {N : Nat} {W : World} {fm cb : Nat} {fs : List Fu} {k : Nat} {vs : List Value} (h : RowsAt N W fm cb fs k vs) (hk : k < fs.length) {v : Value} (ho : W.ownsRow N 3 1 v (fnK fs k fs[k]).c.length ((fnK fs k fs[k]).c.map (Value.int .i64))) (h1 : fm ∉ ob v) (h2 : cb ∉ ob v) :
    RowsAt N (W.setCell ⟨cb, k, none⟩ v) fm cb fs (k + 1) (vs.set k v) := by
  have hkv : k < vs.length := by rw [h.2.1]; exact hk
  have stay : ∀ u : Value, cb ∉ ob u → ∀ g ∈ ob u, (W.setCell ⟨cb, k, none⟩ v).heap[g]? = W.heap[g]? := fun u hu g hg => Below.heap_setCell _ _ _ _ (fun e => hu (by have e' : g = cb := e; rw [← e']; exact hg))
  refine ⟨?_, by rw [List.length_set]; exact h.2.1, fun j hj hkj => ?_, fun j f hf hj => ?_⟩
  · have h' := h.1
    simp [World.setCell, Array.getElem?_modify, h']
  · rw [List.getElem?_set_ne (by omega)]
    exact h.2.2.1 j hj (by omega)
  · by_cases e : j = k
    · subst e
      have : f = fs[j] := by rw [List.getElem?_eq_getElem hk] at hf; exact (Option.some.inj hf).symm
      subst this
      exact ⟨v, List.getElem?_set_self hkv, own_keep ho (stay v h2), h1, h2⟩
    · obtain ⟨u, e1, e2, e3, e4⟩ := h.2.2.2 j f hf (by omega)
      exact ⟨u, by rw [List.getElem?_set_ne (by omega)]; exact e1, own_keep e2 (stay u e4), e3, e4⟩
theorem own_base {W : World} {N N' n : Nat} {v : Value} {xs : List Value} (h : W.ownsRow N 3 1 v n xs) (hk : ∀ g ∈ ob v, N' ≤ g) : W.ownsRow N' 3 1 v n xs := by
  refine ⟨h.1, ?_⟩
  rcases h.2 with h0 | ⟨g', cap, cur, rfl, h1, h2, h3⟩
  · exact .inl h0
  · exact .inr ⟨g', cap, cur, rfl, hk g' (by simp [ob, Value.ownBlock]), h2, h3⟩
theorem RowsAt.lower {N N' : Nat} {W : World} {fm cb : Nat} {fs : List Fu} {k : Nat} {vs : List Value} (h : RowsAt N W fm cb fs k vs) (hN : N' ≤ N) : RowsAt N' W fm cb fs k vs := by
  refine ⟨h.1, h.2.1, h.2.2.1, fun j f hf hj => ?_⟩
  obtain ⟨v, e1, e2, e3, e4⟩ := h.2.2.2 j f hf hj
  exact ⟨v, e1, own_base e2 (fun g hg => Nat.le_trans hN (own_lt e2 g hg).1), e3, e4⟩
theorem RowsAt.set {N : Nat} {W : World} {fm cb : Nat} {fs : List Fu} {k : Nat} {vs : List Value} (h : RowsAt N W fm cb fs k vs) {b : Nat} (hb : b < N) (hc : b ≠ cb) (i : Nat) (u : Value) : RowsAt N (W.setCell ⟨b, i, none⟩ u) fm cb fs k vs := by
  refine ⟨(Below.heap_setCell _ _ _ _ (fun e => hc e.symm)).trans h.1, h.2.1, h.2.2.1, fun j f hf hj => ?_⟩
  obtain ⟨v, e1, e2, e3, e4⟩ := h.2.2.2 j f hf hj
  exact ⟨v, e1, own_keep e2 (fun g hg => Below.heap_setCell _ _ _ _ (fun e => by have e' : g = b := e; have := (own_lt e2 g hg).1; omega)), e3, e4⟩
end Go.Proofs.YtakaldbhaoidiaaDoor
