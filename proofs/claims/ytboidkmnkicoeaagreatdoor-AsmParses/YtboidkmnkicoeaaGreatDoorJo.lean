/- asm.draft.addInstruction. -/
import Derived.Test.YtboidkmnkicoeaaGreatDoorYo
import Derived.Test.YtboidkmnkicoeaaGreatDoorQt
namespace Go.Proofs.YtboidkmnkicoeaaGreatDoor
open Go.RowKit Go.Sort

theorem step_append_own {P : Program} (w : World) {ops : Array Oper} {o : Oper} {a : Act} {K : Act → World → Prop} {Q : Exit → Act → World → Prop} {E : Prop} (hgd : o.guard = none) (s x : Operand) (t : TypeId)
    (ho : o.op = .call { callee := .builtin .append, args := #[s, x], argTypes := #[t, t] })
    (base : Nat) (e : TypeId) (i : TypeInfo) (z : Value) (size bytes : Nat) (ht : P.underlying t = some (.slice e)) (hi : P.info? e = some i) (hz : i.zero = some z)
    (hsize : i.size = size) (hby : i.bytes = bytes) (hzs : z.cells.size = size) (hsz : 0 < size)
    (v : Value) (n : Nat) (xs : List Value) (hs : a.eval s = v) (hown : w.ownsRow base e size v n xs)
    (ad : Addr) (m c : Nat) (news : List Value) (hx : a.eval x = .slice (some ad) m c) (hl : news.length = m * size) (hnews : ∀ j u, news[j]? = some u → w.cell? (ad.add j) = some u) (h1 : ∀ u ∈ news, u.oneCell' = true)
    (h63 : n + m ≤ maxLen) (hbytes : (n + m) * bytes ≤ 140737488355328) (hbase : base ≤ w.heap.size)
    (h : ∀ v' w', w'.ownsRow base e size v' (n + m) (xs ++ news) → w.grownBy w' v.ownBlock → K (a.put o.dst v') w') :
    if Region.wanted o (yielded ops a.tmps) = true then Oper.wp P o a w K Q else E := by
  have hw : Region.wanted o (yielded ops a.tmps) = true := by simp [Region.wanted, hgd]
  rw [if_pos hw]
  exact wp_append_own w s x t ho base e i z size bytes ht hi hz hsize hby hzs hsz v n xs hs hown ad m c news hx hl hnews h1 h63 hbytes hbase fun v' w' h2 h3 _ => h v' w' h2 h3
/-- What is left of the draft. -/
def DrP (N b : Nat) (d : Dr) (w : World) (e : Ending) (w' : World) : Prop := e = .returned (.tuple #[]) ∧ BB N b w w' ∧ ∃ vt vf vh gs B, DrAt N b d vt vf vh gs B w'
theorem hasL_le (op : Int) : ∀ q ∈ hasL op, q ≤ 3 := by
  intro q hq
  unfold hasL at hq
  simp only [List.mem_append] at hq
  rcases hq with ((hq | hq) | hq) | hq <;> (split at hq <;> simp at hq <;> omega)
theorem setF_ok {x : Is} (h : x.Ok) {v : Int} (hv : I64 v) (q : Nat) : (setF x v q).Ok := by
  obtain ⟨h0, h1, h2, h3, h4⟩ := h
  match q with
  | 0 => exact ⟨h0, hv, h2, h3, h4⟩
  | 1 => exact ⟨h0, h1, hv, h3, h4⟩
  | 2 => exact ⟨h0, h1, h2, hv, h4⟩
  | q + 3 => exact ⟨h0, h1, h2, h3, hv⟩
theorem setL_ok : ∀ (L : List Nat) (t : List Int) (x : Is), x.Ok → (∀ v ∈ t, I64 v) → (setL L t x).Ok
  | [], _, _, h, _ => by unfold setL; exact h
  | _ :: _, [], _, h, _ => by unfold setL; exact h
  | k :: r, v :: t, x, h, hv => setL_ok r t (setF x v k) (setF_ok h (hv v (by simp)) k) (fun u hu => hv u (by simp [hu]))
theorem insF_ok {k : Nat} (hk : k < 20) {ns : List Int} (h : ∀ n ∈ ns, I64 n) : (insF k ns).Ok :=
  setL_ok _ _ _ ⟨by unfold I64; simp only; omega, by unfold I64; simp only; omega, by unfold I64; simp only; omega, by unfold I64; simp only; omega, by unfold I64; simp only; omega⟩ h
abbrev rowV (n words kind : Int) (name : ByteArray) (v : Value) : Array Value := #[.int .i64 n, .int .i64 words, .int .i64 kind, .string name, v]
set_option maxRecDepth 100000 in
set_option maxHeartbeats 4000000 in
theorem addIns_any (N b : Nat) (d : Dr) (vt vf vh : Value) (gs : List Fn) (B : Nat) (w : World) (n words : Int) (name : ByteArray) (k : Nat) (hk : k < 20) (av : Option Addr) (cv : Nat) (ns : List Int)
    (hE : Env w) (hd : DrAt N b d vt vf vh gs B w) (hf : d.fs ≠ []) (hr : w.ownsRow N 2 1 (.slice av ns.length cv) ns.length (ns.flatMap thC)) (hn : (hasL k).length = ns.length) (hns : ∀ z ∈ ns, I64 z) :
    Calls Tryz.prog 29 #[.pointer (some ⟨b, 0, none⟩), .agg (rowV n words k name (.slice av ns.length cv))] w (DrP N b { d with fs := d.fs.modify (d.fs.length - 1) (moreI (insF k ns)) } w) := by
  have hgl : 1 ≤ gs.length := by
    have := hd.tr.1
    have : 1 ≤ d.fs.length := by cases hq : d.fs with | nil => exact absurd hq hf | cons a b => simp
    omega
  have hgne : gs ≠ [] := fun e => by rw [e] at hgl; simp at hgl
  obtain ⟨hd', g, rfl⟩ : ∃ hd' g, gs = hd' ++ [g] := ⟨gs.dropLast, gs.getLast hgne, (List.dropLast_concat_getLast hgne).symm⟩
  obtain ⟨va, vc, rfl⟩ := gown_form hd.of
  have hj : ((hd' ++ [g]).flatMap Fn.cells)[hd'.length * 5 + 4]? = some (codeV g) := by
    rw [List.flatMap_append, List.getElem?_append_right (by rw [flat_len (k := 5) (fun _ => rfl)]; omega), flat_len (k := 5) (fun _ => rfl), show hd'.length * 5 + 4 - hd'.length * 5 = 4 by omega]
    rfl
  obtain ⟨gf, rfl, _, _, _, _⟩ := own_cellN hd.of hj
  have hb0 := Below.one (Below.refl _ w) (.cells (rowV n words k name (.slice av ns.length cv)) 46)
  have D0 := hd.stay hb0
  have hr0 := own_stay hr hb0
  have hc0 : ∀ {W : World} {vt vh : Value}, DrAt N b d vt (.slice (some ⟨gf, 0, none⟩) (hd' ++ [g]).length vc) vh (hd' ++ [g]) B W → W.cell? ⟨gf, hd'.length * 5 + 4, none⟩ = some (.slice g.ca g.code.length g.cc) := fun h => by
    obtain ⟨g3, e3, hc, _⟩ := own_cellN h.of hj
    injection e3 with e3
    injection e3 with e3
    rw [e3]; exact hc
  have q4 := hc0 D0
  obtain ⟨p0, p1, p2⟩ := D0.cell
  have hb0N : Below w.heap.size w (w.alloc (.cells (rowV n words k name (.slice av ns.length cv)) 46)) := hb0
  have HI := Hid.mk' (instruction_any k hk av cv ns)
  have xr := heap_alloc_new w (.cells (rowV n words k name (.slice av ns.length cv)) 46)
  have x2 := cell_of_obj xr (j := 2) (v := .int .i64 (k : Int)) rfl
  have x4 := cell_of_obj xr (j := 4) (v := .slice av ns.length cv) rfl
  rw [List.length_append, List.length_singleton] at p1
  have hlen : hd'.length + 1 ≤ 33 := by have := hd.tr.1; simp at this; omega
  have hgo := (hd.og g (by simp)).2
  have hgc : g.code.length ≤ 1025 := hgo.2.2.2.2.2.1
  have i1 : (0 : Int) ≤ (hd'.length : Int) := by omega
  have i2 : (hd'.length : Int) < (hd'.length : Int) + 1 := by omega
  have i3 : IntKind.i64.wrap ((hd'.length : Int) + 1 - 1) = (hd'.length : Int) := by rw [IntKind.wrap_i64]; omega
  have i4 : IntKind.i64.wrap (((hd'.length + 1 : Nat) : Int) - 1) = (hd'.length : Int) := by rw [IntKind.wrap_i64]; omega
  have i5 : IntKind.i64.wrap (hd'.length : Int) = (hd'.length : Int) := by rw [IntKind.wrap_i64]; omega
  have e1 := fun dd os => cell_regrown p1 dd os
  have HD0 := Hid.mk' D0
  have HR0 := Hid.mk' hr0
  have HF := Hid.mk' hf
  have HN := Hid.mk' hn
  have HXO := Hid.mk' (insF_ok hk hns)
  have HE := Hid.mk' hE
  have HB0N := Hid.mk' hb0N
  have HC0 := Hid.mk' (fun (W : World) (vt vh : Value) => hc0 (W := W) (vt := vt) (vh := vh))
  have hs0 : (w.alloc (.cells (rowV n words k name (.slice av ns.length cv)) 46)).heap.size = w.heap.size + 1 := by simp
  clear hd hr hj hgl hgne hc0 hf hn hns hE hb0 hb0N D0 hr0 xr
  go_enter Tryz.func29, Tryz.ntmps29
  go_wp2_with fail
  refine wp_region_quiet_below (by kernel_rfl) (by kernel_rfl) ?_
  repeat (go_big_quiet_step (fail))
  refine wpQuiet_nil ?_
  rintro _ ⟨⟨dq, osq⟩, rfl⟩
  have B1 := below_regrown (w.alloc (.cells (rowV n words k name (.slice av ns.length cv)) 46)) dq osq
  have y2 := cell_kept_below x2 B1
  have y4 := cell_kept_below x4 B1
  have z4 := cell_kept_below q4 B1
  have HD1 := Hid.mk' (HD0.out.stay B1)
  have HR1 := Hid.mk' (own_stay HR0.out B1)
  have HBN1 := Hid.mk' (Below.on HB0N.out B1)
  clear e1 B1 x2 x4 q4
  generalize grow (redrawn (w.alloc (.cells (rowV n words k name (.slice av ns.length cv)) 46)) dq) osq = W1 at *
  by_cases hcl : g.code.length ≤ 1024
  · have HIW : Hid (∀ W', Below W1.heap.size W1 W' → Calls Tryz.prog 43 #[.int .i64 (k : Int), .slice av ns.length cv] W' fun e W'' => e = .returned (insF k ns).val ∧ Below W'.heap.size W' W'') := fun W' hb => HI.out W' (HE.out.stay (Below.on HBN1.out hb)) ⟨by have := HN.out; have : (hasL k).length ≤ 4 := (by unfold hasL; split <;> split <;> split <;> split <;> simp); omega, own_row (own_stay HR1.out hb) (fun _ => rfl) (by omega)⟩ HN.out
    obtain ⟨i0, hi, hz0, hz1, hz2⟩ := info_parts Tryz.infoX
    have hsp := (HD1.out.sp hd' g rfl).2
    have HIN := Hid.mk' (fun (w2 : World) (hb : Below W1.heap.size W1 w2) (W' : World) (a : Option Addr) (c : Nat) => (HD1.out.stay hb).ins (W' := W') (a := a) (c := c) HF.out HXO.out hcl (.cells (cI (insF k ns)) 36))
    unfold Is.val at HIW
    generalize insF k ns = X at *
    have hdr : Below W1.heap.size W1 W1.drew := Below.drew (Below.refl _ _)
    have HCL : Hid (∀ w2, Below W1.heap.size W1.drew w2 → Below W1.heap.size W1 w2 ∧ w2.cell? ⟨gf, hd'.length * 5 + 4, none⟩ = some (.slice g.ca g.code.length g.cc) ∧ (∀ o, (w2.alloc o).cell? ⟨gf, hd'.length * 5 + 4, none⟩ = some (.slice g.ca g.code.length g.cc)) ∧ (w2.alloc (.cells (cI X) 36)).ownsRow B 36 5 (.slice g.ca g.code.length g.cc) g.code.length (g.code.flatMap Is.cells) ∧ (∀ j u, X.cells[j]? = some u → (w2.alloc (.cells (cI X) 36)).cell? ((⟨w2.heap.size, 0, none⟩ : Addr).add j) = some u) ∧ B ≤ (w2.alloc (.cells (cI X) 36)).heap.size) := fun w2 hb => by
      have hb' : Below W1.heap.size W1 w2 := hdr.trans hb
      have hbo := fun o => Below.one hb' o
      refine ⟨hb', cell_kept_below z4 hb', fun o => cell_kept_below z4 (hbo o), own_stay hsp (hbo _), newsT w2 36 X.cells, ?_⟩
      have := (hbo (.cells (cI X) 36)).size
      have := HD1.out.lB
      omega
    have m1 : ∀ u ∈ X.cells, u.oneCell' = true := by have := one_is [X]; simpa using this
    have m2 : g.code.length + 1 ≤ maxLen := by unfold maxLen; omega
    have m3 : (g.code.length + 1) * 40 ≤ 140737488355328 := by omega
    have HHI := Hid.mk' hi
    clear hi hsp
    go_wp2_with fail
    go_region_law (first
      | (refine step_append_own _ (by rfl) _ _ 32 (by rfl) B 36 i0 (.agg #[.int .i64 0, .int .i64 0, .int .i64 0, .int .i64 0, .int .i64 0]) 5 40 Tryz.underlying32 HHI.out hz0 hz1 hz2 rfl (by decide) _ _ _ (by rfl) u4.out ⟨w2.heap.size, 0, none⟩ 1 1 X.cells (by rfl) (by rfl) u5.out m1 m2 m3 u6.out ?_; intro v4 w4 own4 grow4; obtain ⟨a4, c4, rfl⟩ := gown_form own4; obtain ⟨D4, t1, t2, t3⟩ := HIN.out w2 u1 w4 a4 c4 grow4 own4; replace D4 := Hid.mk' D4; replace t3 := Hid.mk' t3; unfold codeV at t2)
      | (go_simp; go_at_call 43; refine (HIW.out _ hdr).mono ?_; rintro e w2 ⟨rfl, hb2⟩; obtain ⟨u1, u2, u3, u4, u5, u6⟩ := HCL.out w2 hb2; replace u4 := Hid.mk' u4; replace u5 := Hid.mk' u5; replace u6 := Hid.mk' u6))
    all_goals
      clear y2 y4 z4
      go_wp2_with fail
      go_end0
      refine ⟨rfl, ?_, _, _, _, _, _, D4.out⟩
      exact BB.on (Below.on HBN1.out u1) t3.out
  · have HCL := Hid.mk' hcl
    go_wp2_with fail
    go_end0
    have h1 := HD1.out
    refine ⟨rfl, BB.of HBN1.out, _, _, _, _, _, (⟨h1.bk, h1.ot, h1.of, h1.oh, h1.tr.last HF.out _ rfl (fun _ _ => rfl) (fun g0 f0 hg0 he g' hg' => ?_), h1.og, h1.nB, h1.lB, h1.sp, h1.di⟩ : DrAt N b { d with fs := d.fs.modify (d.fs.length - 1) (moreI (insF k ns)) } vt (.slice (some ⟨gf, 0, none⟩) (hd' ++ [g]).length vc) vh (hd' ++ [g]) B W1)⟩
    rw [hg0] at hg'
    injection hg' with hg'
    subst hg'
    have hgg : g0 = g := by
      simp only [List.length_append, List.length_cons, List.length_nil, Nat.add_sub_cancel] at hg0
      rw [List.getElem?_append_right (Nat.le_refl _), Nat.sub_self] at hg0
      simpa using hg0.symm
    subst hgg
    rw [he]
    have hcode : g0.code = f0.code.take 1025 := by have := congrArg Fn.code he; exact this
    have hl0 : 1025 ≤ f0.code.length := by have := HCL.out; rw [hcode, List.length_take] at this; omega
    unfold trF moreI
    simp only
    rw [List.take_append_of_le_length hl0]
end Go.Proofs.YtboidkmnkicoeaaGreatDoor

/- asm.draft: a function more; a head's line more. -/
namespace Go.Proofs.YtboidkmnkicoeaaGreatDoor
open Go.RowKit Go.Sort

theorem prs_take : ∀ (k : Nat) (l : List Int), prs (l.take (2 * k)) = (prs l).take k
  | 0, l => by simp [prs]
  | k + 1, [] => by simp [prs]
  | k + 1, [a] => by rw [List.take_of_length_le (by simp; omega)]; simp [prs]
  | k + 1, a :: b :: t => by
    rw [show 2 * (k + 1) = 2 * k + 1 + 1 by omega, List.take_succ_cons, List.take_succ_cons, prs, prs, List.take_succ_cons, prs_take k t]
theorem prs_len : ∀ (l : List Int), (prs l).length = l.length / 2
  | [] => rfl
  | [a] => by simp [prs]
  | a :: b :: t => by rw [prs, List.length_cons, prs_len t, List.length_cons, List.length_cons]; omega
theorem prs_at : ∀ (l : List Int) (j : Nat) (h : 2 * j + 1 < l.length), (prs l)[j]? = some (l[2 * j], l[2 * j + 1])
  | [], j, h => by simp at h
  | [a], j, h => by simp at h
  | a :: b :: t, 0, h => rfl
  | a :: b :: t, j + 1, h => by
    rw [prs, List.getElem?_cons_succ, prs_at t j (by simp at h; omega)]
    simp [show 2 * (j + 1) = 2 * j + 1 + 1 by omega]
theorem prs_ok : ∀ {l : List Int}, (∀ z ∈ l, I64 z) → ∀ p ∈ prs l, spOk p
  | [], _, p, hp => by simp [prs] at hp
  | [a], _, p, hp => by simp [prs] at hp
  | a :: b :: t, h, p, hp => by
    rw [prs] at hp
    rcases List.mem_cons.1 hp with rfl | hp
    · exact ⟨h a (by simp), h b (by simp)⟩
    · exact prs_ok (fun z hz => h z (by simp [hz])) p hp
theorem own_lt {W : World} {N n sz : Nat} {T : TypeId} {v : Value} {xs : List Value} (h : W.ownsRow N T sz v n xs) : ∀ k, v.ownBlock = some k → k < W.heap.size := fun k hk => (h.lt k hk).2
/-- A function more. -/
theorem DrAt.func {N b : Nat} {d : Dr} {vt vf vh vf' : Value} {gs : List Fn} {B : Nat} {W W' : World} (h : DrAt N b d vt vf vh gs B W) (hl : d.fs.length ≤ 32) {g f : Fn} (hg : OwnF W N g) (hk : GOk g) (he : g.er = trF f) (hca : g.ca = none) (hcc : g.cc = 0) (hcd : g.code = []) (hpa : ∀ f ∈ gs, ∀ k, (parV f).ownBlock = some k → (parV g).ownBlock ≠ some k) (o : Obj)
    (hgr : (W.alloc o).grownBy W' vf.ownBlock) (ho : W'.ownsRow N 34 5 vf' (gs.length + 1) (gs.flatMap Fn.cells ++ g.cells)) :
    DrAt N b { d with fs := d.fs ++ [f] } vt vf' vh (gs ++ [g]) W'.heap.size (W'.setCell ⟨b, 1, none⟩ vf') ∧ W'.heap[b]? = some (.cells #[vt, vf, vh] 42) ∧ BB N b W (W'.setCell ⟨b, 1, none⟩ vf') := by
  have hbo := Below.one (Below.refl _ W) o
  have h1 := h.stay hbo
  have hkp : ∀ {T : TypeId} {M n sz : Nat} {v : Value} {xs : List Value}, (W.alloc o).ownsRow M T sz v n xs → T ≠ 34 → W'.ownsRow M T sz v n xs := fun hh hT => hh.kept hgr (own_ne hh h1.of hT)
  have hbk := grown_other h1.of hgr h1.bk (by decide)
  have hst : ∀ {T : TypeId} {M n sz : Nat} {v : Value} {xs : List Value}, W'.ownsRow M T sz v n xs → T ≠ 42 → (W'.setCell ⟨b, 1, none⟩ vf').ownsRow M T sz v n xs := fun hh hT => own_set hh hbk hT _ _
  have hsz : (W'.setCell ⟨b, 1, none⟩ vf').heap.size = W'.heap.size := by simp [World.setCell]
  have hBW : BB N b W W' := (BB.of hbo).grown h1.of (Nat.le_refl _) hgr
  refine ⟨⟨?_, hst (hkp h1.ot (by decide)) (by decide), ?_, hst (hkp h1.oh (by decide)) (by decide), h.tr.head hl he, ?_, Nat.le_trans (Nat.le_trans h.nB h.lB) hBW.size, by rw [hsz]; exact Nat.le_refl _, ?_, ?_⟩, hbk, hBW.set hbk (.inr rfl) _⟩
  · have := heap_setCell_same W' b 1 _ _ vf' hbk; simpa using this
  · rw [List.length_append, List.flatMap_append, show [g].flatMap Fn.cells = g.cells by simp]
    exact hst ho (by decide)
  · intro y hy
    rcases List.mem_append.1 hy with hy | hy
    · have hyg := h1.og y hy
      exact ⟨⟨hst (hkp hyg.1.1 (by decide)) (by decide), hst (hkp hyg.1.2 (by decide)) (by decide)⟩, hyg.2⟩
    · rw [List.mem_singleton] at hy
      subst hy
      have hg1 := hg.stay hbo
      exact ⟨⟨hst (hkp hg1.1 (by decide)) (by decide), hst (hkp hg1.2 (by decide)) (by decide)⟩, hk⟩
  · intro hd' g' e
    have hh := List.append_inj' e rfl
    obtain ⟨rfl, e2⟩ := hh
    injection e2 with e2 _
    subst e2
    refine ⟨fun y hy k hyk => own_lt (hkp (h1.og y hy).1.2 (by decide)) k hyk, ?_⟩
    rw [codeV, hca, hcc, hcd]
    exact World.ownsRow_nil _ _ _ _
  · refine List.pairwise_append.2 ⟨h.di, List.pairwise_singleton _ _, fun f hf y hy => ?_⟩
    rw [List.mem_singleton] at hy
    subst hy
    exact ⟨fun k _ e => (by rw [codeV, hca] at e; cases e), hpa f hf⟩
theorem take33_more {hs : List Nat} {n : Nat} (h : hs.length ≤ 32) : (hs ++ [n]).take 33 = hs.take 33 ++ [n] := by
  rw [List.take_of_length_le (by simp; omega), List.take_of_length_le (by omega)]
/-- A head's line more. -/
theorem DrAt.line {N b : Nat} {d : Dr} {vt vf vh vh' : Value} {gs : List Fn} {B : Nat} {W W' : World} (h : DrAt N b d vt vf vh gs B W) (hl : d.hs.length ≤ 32) {n : Nat} (o : Obj)
    (hgr : (W.alloc o).grownBy W' vh.ownBlock) (ho : W'.ownsRow N 3 1 vh' ((d.hs.take 33).length + 1) ((d.hs.take 33).map hC ++ [hC n])) :
    DrAt N b { d with hs := d.hs ++ [n] } vt vf vh' gs B (W'.setCell ⟨b, 2, none⟩ vh') ∧ W'.heap[b]? = some (.cells #[vt, vf, vh] 42) ∧ BB N b W (W'.setCell ⟨b, 2, none⟩ vh') := by
  have hbo := Below.one (Below.refl _ W) o
  have h1 := h.stay hbo
  have hkp : ∀ {T : TypeId} {M n sz : Nat} {v : Value} {xs : List Value}, (W.alloc o).ownsRow M T sz v n xs → T ≠ 3 → W'.ownsRow M T sz v n xs := fun hh hT => hh.kept hgr (own_ne hh h1.oh hT)
  have hbk := grown_other h1.oh hgr h1.bk (by decide)
  have hst : ∀ {T : TypeId} {M n sz : Nat} {v : Value} {xs : List Value}, W'.ownsRow M T sz v n xs → T ≠ 42 → (W'.setCell ⟨b, 2, none⟩ vh').ownsRow M T sz v n xs := fun hh hT => own_set hh hbk hT _ _
  have hsz : (W'.setCell ⟨b, 2, none⟩ vh').heap.size = W'.heap.size := by simp [World.setCell]
  have hBW : BB N b W W' := (BB.of hbo).grown h1.oh (Nat.le_refl _) hgr
  refine ⟨⟨?_, hst (hkp h1.ot (by decide)) (by decide), hst (hkp h1.of (by decide)) (by decide), ?_, h.tr, ?_, h.nB, by rw [hsz]; have := h1.lB; have := hgr.size; omega, ?_, h.di⟩, hbk, hBW.set hbk (.inr rfl) _⟩
  · have := heap_setCell_same W' b 2 _ _ vh' hbk; simpa using this
  · rw [take33_more hl, List.length_append, List.map_append]
    exact hst ho (by decide)
  · intro y hy
    have hyg := h1.og y hy
    exact ⟨⟨hst (hkp hyg.1.1 (by decide)) (by decide), hst (hkp hyg.1.2 (by decide)) (by decide)⟩, hyg.2⟩
  · intro hd' g' e
    exact ⟨(h1.sp hd' g' e).1, hst (hkp (h1.sp hd' g' e).2 (by decide)) (by decide)⟩
end Go.Proofs.YtboidkmnkicoeaaGreatDoor
