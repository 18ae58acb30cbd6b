/- The document's own copies: statements. -/
import Derived.Test.YtakaldbhaoidiaaDoorPart5
import Derived.Test.YtakaldbhaoidiaaDoorPart4
import Derived.Test.YtakaldbhaoidiaaDoorPart3
namespace Go.Proofs.YtakaldbhaoidiaaDoor
open Go.RowKit
attribute [local go_sem ↓] Go.wp_at_zero Go.wp_at_succ

set_option maxRecDepth 100000 in
set_option maxHeartbeats 16000000 in
theorem stmtsOf_step (n : Nat) (ih : StOfOk n) (l : List St) (a : Option Addr) (c : Nat) (w : World) (hk : ssz l ≤ n) (hin : Have w a c l) (hf0 : l.length ≤ 1048576) (hf : ∀ x ∈ l, x.Few) :
    Calls Tryd.prog 13 #[.slice a l.length c] w fun e w' => CpRS w w' l e ∧ Below w.heap.size w w' := by
  obtain ⟨i0, hi, hz0, hz1, hz2⟩ := info_parts Tryd.infoSt
  have HI : Hid (Tryd.prog.info? 43 = some i0) := hi
  have HZ2 : Hid (i0.bytes = 216) := hz2
  obtain ⟨i1, hi1, hy0, hy1, hy2⟩ := info_parts Tryd.infoCa
  have HI1 : Hid (Tryd.prog.info? 58 = some i1) := hi1
  have IH : Hid (StOfOk n) := ih
  have HA : Hid (Have w a c l) := hin
  have hl := hin.1.1
  have hc := hin.1.2.1
  have HK : Hid (ssz l ≤ n) := hk
  have HF : Hid (∀ x ∈ l, x.Few) := hf
  clear ih hin hk hf hi hi1 hz2
  go_enter Tryd.func13, Tryd.ntmps13
  go_wp2_with (at_make; refine wpList_make_own _ rfl _ _ 34 rfl w.heap.size 43 i0 _ 14 Tryd.underlying34 HI.out hz0 hz1 _ _ _ (l.length + 1) rfl rfl (by omega) (by rw [HZ2.out]; omega) (by unfold maxLen; omega) (Nat.le_refl _) ?_; intro w0 hown0 hgrow0)
  obtain ⟨G, hG⟩ : ∃ G, w.heap.size = G := ⟨_, rfl⟩
  have hb0 : Below w.heap.size w w0 := (Below.refl _ w).grown hgrow0 (Nat.le_refl _) (fun k hk => by cases hk)
  have HO0 : Hid (w0.ownsRow w.heap.size 43 14 (.slice (some ⟨w.heap.size, 0, none⟩) 0 (l.length + 1)) 0 []) := hown0
  clear hown0 hgrow0
  rw [hG] at hb0 HO0 ⊢
  have HG : Hid (w.heap.size = G) := hG
  clear hG
  go_wp2_with fail
  go_loopw [3, 4] (fun t3 t4 wr => ∃ (l' : List St), t4 = .int .i64 l'.length ∧ l'.length ≤ l.length ∧ t3 = .slice (some ⟨G, 0, none⟩) l'.length (l.length + 1) ∧ wr.ownsRow G 43 14 (.slice (some ⟨G, 0, none⟩) l'.length (l.length + 1)) l'.length (l'.flatMap St.cells) ∧ (∀ x ∈ l', x.Cp wr) ∧ erS l' = erS (l.take l'.length) ∧ (blS l').Nodup ∧ (∀ b ∈ blS l', G < b ∧ b < wr.heap.size) ∧ Below G w wr) (fun _ t4 _ => l.length - (intOf t4).toNat)
  case atStart => exact ⟨[], rfl, Nat.zero_le _, rfl, HO0.out, by simp, by simp, by simp [blS], by simp [blS], hb0⟩
  case round =>
    clear HO0 hb0
    obtain ⟨l', rfl, hle, rfl, hown, hcp, her, hnd, hbd, hb⟩ := hrel
    obtain ⟨j, hj⟩ : ∃ j, l'.length = j := ⟨_, rfl⟩
    have HJ : Hid (l'.length = j) := hj
    rw [hj] at hown hle her ⊢
    have HO : Hid (wr.ownsRow G 43 14 (.slice (some ⟨G, 0, none⟩) j (l.length + 1)) j (l'.flatMap St.cells)) := hown
    have HR : Hid ((∀ x ∈ l', x.Cp wr) ∧ erS l' = erS (l.take j) ∧ (blS l').Nodup ∧ (∀ b ∈ blS l', G < b ∧ b < wr.heap.size)) := ⟨hcp, her, hnd, hbd⟩
    have BW : Hid (Below G w wr) := hb
    clear hown hcp her hnd hbd hb hj
    by_cases hlt : j < l.length
    · have hli : (j : Int) < (l.length : Int) := by omega
      have hbw : Below w.heap.size w wr := HG.out ▸ BW.out
      obtain ⟨b, o, rfl, hcell⟩ := rowS_at (HA.out.1.2.2.2.below hbw) hlt
      have XI : Hid (∀ w', Below w.heap.size w w' → l[j].In w') := fun w' h => (HA.out.2 l[j] (List.getElem_mem hlt)).stay h
      have XF : Hid (l[j].Few) := HF.out _ (List.getElem_mem hlt)
      have HZ : Hid (l[j].sz ≤ n) := Nat.le_trans (ssz_mem (List.getElem_mem hlt)) HK.out
      have HT : Hid (erS (l.take (j + 1)) = erS (l.take j) ++ [l[j].er]) := by
        show _ = _
        rw [erS_map, erS_map, List.take_succ_eq_append_getElem hlt, List.map_append]; rfl
      generalize l[j] = x at *
      have c0 := hcell 0 _ rfl
      have c1 := hcell 1 _ rfl
      have c2 := hcell 2 _ rfl
      have c3 := hcell 3 _ rfl
      have c4 := hcell 4 _ rfl
      have c5 := hcell 5 _ rfl
      have c6 := hcell 6 _ rfl
      have c7 := hcell 7 _ rfl
      have c8 := hcell 8 _ rfl
      have c9 := hcell 9 _ rfl
      have c10 := hcell 10 _ rfl
      have c11 := hcell 11 _ rfl
      have c12 := hcell 12 _ rfl
      have c13 := hcell 13 _ rfl
      simp only [← Nat.add_assoc, Nat.add_zero] at c0 c1 c2 c3 c4 c5 c6 c7 c8 c9 c10 c11 c12 c13
      clear hcell
      obtain ⟨X, hX⟩ : ∃ X, wr.heap.size = X := ⟨_, rfl⟩
      have hGX : G < X := by have := owns_lt HO.out; omega
      obtain ⟨W1, hW1⟩ : ∃ W1, (wr.alloc (.cells (⟨x.cells⟩ : Array Value) 43)).alloc (.cells (⟨x.a.cells ++ x.b.cells⟩ : Array Value) 40) = W1 := ⟨_, rfl⟩
      have HW1 : Hid ((wr.alloc (.cells #[.int .i64 x.kind, .string x.name, .int .i64 x.n, .int .i64 x.a.kind, .int .i64 x.a.n, .string x.a.name, .slice x.a.a x.a.args.length x.a.cap, .int .i64 x.b.kind, .int .i64 x.b.n, .string x.b.name, .slice x.b.a x.b.args.length x.b.cap, .slice x.ba x.body.length x.bc, .slice x.ea x.els.length x.ec, .slice x.ca x.cases.length x.cc] 43)).alloc (.cells #[.int .i64 x.a.kind, .int .i64 x.a.n, .string x.a.name, .slice x.a.a x.a.args.length x.a.cap, .int .i64 x.b.kind, .int .i64 x.b.n, .string x.b.name, .slice x.b.a x.b.args.length x.b.cap] 40) = W1) := hW1
      have hb1 : Below wr.heap.size wr W1 := by rw [← hW1]; exact Below.one (Below.one (Below.refl _ _) _) _
      have hs1 : W1.heap.size = X + 2 := by rw [← hW1, World.size_alloc, World.size_alloc, hX]
      have hx1 : W1.heap[X]? = some (.cells #[.int .i64 x.kind, .string x.name, .int .i64 x.n, .int .i64 x.a.kind, .int .i64 x.a.n, .string x.a.name, .slice x.a.a x.a.args.length x.a.cap, .int .i64 x.b.kind, .int .i64 x.b.n, .string x.b.name, .slice x.b.a x.b.args.length x.b.cap, .slice x.ba x.body.length x.bc, .slice x.ea x.els.length x.ec, .slice x.ca x.cases.length x.cc] 43 (0, 0)) := by
        rw [← hW1, ← hX, Below.heap_alloc _ _ _ (by simp)]; exact heap_alloc_new _ _
      have HQ : Hid (Calls Tryd.prog 19 #[.slice (some ⟨X + 1, 0, none⟩) 2 2] W1 fun e w' => CpR W1 w' [x.a, x.b] e ∧ Below W1.heap.size W1 w') := by
        have hx := St.in_iff.1 (XI.out _ (Below.on hbw hb1))
        have hf := St.few_iff.1 XF.out
        refine exprsOf_any [x.a, x.b] (some ⟨X + 1, 0, none⟩) 2 W1 (ex_two (fun i v e => ?_) hx.2.2.2.1 hx.2.2.2.2.1) (by simp) (by simp [hf.1, hf.2.1])
        have h3 : W1.heap[X + 1]? = some (.cells (⟨x.a.cells ++ x.b.cells⟩ : Array Value) 40 (0, 0)) := by
          have := heap_alloc_new (wr.alloc (.cells (⟨x.cells⟩ : Array Value) 43)) (.cells (⟨x.a.cells ++ x.b.cells⟩ : Array Value) 40)
          rw [World.size_alloc, hX, hW1] at this
          exact this
        rw [Lib.cell_of_heap h3]; simpa using e
      clear hW1
      go_wp2_with fail
      rw [HW1.out]
      clear HW1 c0 c1 c2 c3 c4 c5 c6 c7 c8 c9 c10 c11 c12 c13
      refine HQ.out.mono ?_
      rintro e w2 ⟨⟨g1, l1, rfl, hrow, hcp2, her2, hnd2, hbd2⟩, hb2⟩
      clear HQ
      obtain ⟨xa, xb, rfl⟩ : ∃ xa xb, l1 = [xa, xb] := by
        have := erL_len her2
        match l1, this with
        | [xa, xb], _ => exact ⟨xa, xb, rfl⟩
      obtain ⟨_, hg1, _, _, hgr⟩ := hrow
      cases hg1
      have hgX : X + 2 ≤ g1 := by have := (hbd2 g1 (List.mem_cons_self ..)).1; omega
      have hne : g1 ≠ X := by omega
      have hne' : X ≠ g1 := by omega
      have h2X := (hb2.block X (by omega)).trans hx1
      have k3 : w2.cell? ⟨X, 3, none⟩ = some (.int .i64 x.a.kind) := by rw [Lib.cell_of_heap h2X]; rfl
      have k4 : w2.cell? ⟨X, 4, none⟩ = some (.int .i64 x.a.n) := by rw [Lib.cell_of_heap h2X]; rfl
      have k5 : w2.cell? ⟨X, 5, none⟩ = some (.string x.a.name) := by rw [Lib.cell_of_heap h2X]; rfl
      have k6 : w2.cell? ⟨X, 6, none⟩ = some (.slice x.a.a x.a.args.length x.a.cap) := by rw [Lib.cell_of_heap h2X]; rfl
      have k7 : w2.cell? ⟨X, 7, none⟩ = some (.int .i64 x.b.kind) := by rw [Lib.cell_of_heap h2X]; rfl
      have k8 : w2.cell? ⟨X, 8, none⟩ = some (.int .i64 x.b.n) := by rw [Lib.cell_of_heap h2X]; rfl
      have k9 : w2.cell? ⟨X, 9, none⟩ = some (.string x.b.name) := by rw [Lib.cell_of_heap h2X]; rfl
      have k10 : w2.cell? ⟨X, 10, none⟩ = some (.slice x.b.a x.b.args.length x.b.cap) := by rw [Lib.cell_of_heap h2X]; rfl
      have k11 : w2.cell? ⟨X, 11, none⟩ = some (.slice x.ba x.body.length x.bc) := by rw [Lib.cell_of_heap h2X]; rfl
      have kf : ∀ i, w2.frozen? ⟨X, i, none⟩ = false := fun i => by simp [World.frozen?, h2X]
      have p0 : w2.cell? ⟨g1, 0, none⟩ = some (.int .i64 xa.kind) := by rw [Lib.cell_of_heap hgr]; rfl
      have p1 : w2.cell? ⟨g1, 1, none⟩ = some (.int .i64 xa.n) := by rw [Lib.cell_of_heap hgr]; rfl
      have p2 : w2.cell? ⟨g1, 2, none⟩ = some (.string xa.name) := by rw [Lib.cell_of_heap hgr]; rfl
      have p3 : w2.cell? ⟨g1, 3, none⟩ = some (.slice xa.a xa.args.length xa.cap) := by rw [Lib.cell_of_heap hgr]; rfl
      have p4 : w2.cell? ⟨g1, 4, none⟩ = some (.int .i64 xb.kind) := by rw [Lib.cell_of_heap hgr]; rfl
      have p5 : w2.cell? ⟨g1, 5, none⟩ = some (.int .i64 xb.n) := by rw [Lib.cell_of_heap hgr]; rfl
      have p6 : w2.cell? ⟨g1, 6, none⟩ = some (.string xb.name) := by rw [Lib.cell_of_heap hgr]; rfl
      have p7 : w2.cell? ⟨g1, 7, none⟩ = some (.slice xb.a xb.args.length xb.cap) := by rw [Lib.cell_of_heap hgr]; rfl
      have hb2G : Below G w w2 := by
        have : Below w.heap.size w w2 := Below.on (Below.on hbw hb1) hb2
        exact HG.out ▸ this
      have hs2 : X + 2 ≤ w2.heap.size := by have := hb2.size; omega
      have HX2 : Hid (X < w2.heap.size) := (by omega : X < w2.heap.size)
      have PA : Hid (xa.Cp w2 ∧ xb.Cp w2 ∧ xa.er = x.a.er ∧ xb.er = x.b.er ∧ (xa.bl ++ xb.bl).Nodup ∧ ∀ b ∈ xa.bl ++ xb.bl, X < b ∧ b < w2.heap.size) := by
        have hbl : blL [xa, xb] = xa.bl ++ xb.bl := by simp [blL]
        rw [hbl] at hnd2 hbd2
        simp only [erL, List.cons.injEq, and_true] at her2
        refine ⟨hcp2 _ (by simp), hcp2 _ (by simp), her2.1, her2.2, (List.nodup_cons.1 hnd2).2, fun b hb => ?_⟩
        have := hbd2 b (List.mem_cons_of_mem _ hb)
        omega
      have KO : Hid (∀ k, k < X → w2.heap[k]? = wr.heap[k]?) := fun k hk => (hb2.block k (by omega)).trans (hb1.block k (by omega))
      clear hcp2 her2 hnd2 hbd2 hb1 hx1 hs1 hb2
      go_wp2_with fail
      obtain ⟨W3, hW3⟩ : ∃ W3, ((((((((w2.setCell ⟨X, 3, none⟩ (.int .i64 xa.kind)).setCell ⟨X, 4, none⟩ (.int .i64 xa.n)).setCell ⟨X, 5, none⟩ (.string xa.name)).setCell ⟨X, 6, none⟩ (.slice xa.a xa.args.length xa.cap)).setCell ⟨X, 7, none⟩ (.int .i64 xb.kind)).setCell ⟨X, 8, none⟩ (.int .i64 xb.n)).setCell ⟨X, 9, none⟩ (.string xb.name)).setCell ⟨X, 10, none⟩ (.slice xb.a xb.args.length xb.cap)) = W3 := ⟨_, rfl⟩
      rw [hW3]
      have h3X : W3.heap[X]? = some (.cells #[.int .i64 x.kind, .string x.name, .int .i64 x.n, .int .i64 xa.kind, .int .i64 xa.n, .string xa.name, .slice xa.a xa.args.length xa.cap, .int .i64 xb.kind, .int .i64 xb.n, .string xb.name, .slice xb.a xb.args.length xb.cap, .slice x.ba x.body.length x.bc, .slice x.ea x.els.length x.ec, .slice x.ca x.cases.length x.cc] 43 (0, 0)) := by rw [← hW3]; exact (set_list (set_list (set_list (set_list (set_list (set_list (set_list (set_list h2X 3 _) 4 _) 5 _) 6 _) 7 _) 8 _) 9 _) 10 _)
      have K3 : Kp X w2 W3 := by rw [← hW3]; exact (((((((((Kp.refl X w2).set 3 _).set 4 _).set 5 _).set 6 _).set 7 _).set 8 _).set 9 _).set 10 _)
      have hb3G : Below G w W3 := by rw [← hW3]; exact (Below.setCell (p := ⟨X, 10, none⟩) (Below.setCell (p := ⟨X, 9, none⟩) (Below.setCell (p := ⟨X, 8, none⟩) (Below.setCell (p := ⟨X, 7, none⟩) (Below.setCell (p := ⟨X, 6, none⟩) (Below.setCell (p := ⟨X, 5, none⟩) (Below.setCell (p := ⟨X, 4, none⟩) (Below.setCell (p := ⟨X, 3, none⟩) hb2G (Nat.le_of_lt hGX) _) (Nat.le_of_lt hGX) _) (Nat.le_of_lt hGX) _) (Nat.le_of_lt hGX) _) (Nat.le_of_lt hGX) _) (Nat.le_of_lt hGX) _) (Nat.le_of_lt hGX) _) (Nat.le_of_lt hGX) _)
      have HK3 : Hid (Kp X w2 W3) := K3
      have hs3 : X + 2 ≤ W3.heap.size := Nat.le_trans hs2 K3.1
      clear hW3 k3 k4 k5 k6 k7 k8 k9 k10 k11 kf p0 p1 p2 p3 p4 p5 p6 p7 h2X hgr hb2G hne hne' K3 hs2 hgX
      have hf := St.few_iff.1 XF.out
      have hsz := x.sz_eq
      have hz := HZ.out
      refine (IH.out x.body x.ba x.bc W3 (by omega) (St.in_iff.1 (XI.out W3 (HG.out ▸ hb3G))).2.2.2.2.2.1 hf.2.2.1 hf.2.2.2.1).mono ?_
      clear hf hsz hz
      rintro e w4 ⟨⟨gB, lB, rfl, hr4, hc4, he4, hn4, hd4⟩, hb4⟩
      have PB : Hid (RowCp w4 (some ⟨gB, 0, none⟩) (x.body.length + 1) lB.length 216 43 (lB.flatMap St.cells ++ senS) ∧ (∀ y ∈ lB, y.Cp w4) ∧ erS lB = erS x.body ∧ (gB :: blS lB).Nodup ∧ (∀ b ∈ gB :: blS lB, w2.heap.size ≤ b ∧ b < w4.heap.size)) := ⟨hr4, hc4, he4, hn4, fun b hb => ⟨Nat.le_trans HK3.out.1 (hd4 b hb).1, (hd4 b hb).2⟩⟩
      have h4X := (hb4.block X (by omega)).trans h3X
      have HK4 : Hid (Kp X w2 w4) := HK3.out.below hb4
      have hb4G : Below G w w4 := hb3G.trans (hb4.mono (by omega))
      have hs4 : X + 2 ≤ w4.heap.size := Nat.le_trans hs3 hb4.size
      clear hr4 hc4 he4 hn4 hd4 hb4 h3X hb3G hs3 HK3
      have m11 : w4.cell? ⟨X, 11, none⟩ = some (.slice x.ba x.body.length x.bc) := by rw [Lib.cell_of_heap h4X]; rfl
      have m12 : w4.cell? ⟨X, 12, none⟩ = some (.slice x.ea x.els.length x.ec) := by rw [Lib.cell_of_heap h4X]; rfl
      have mf : ∀ i, w4.frozen? ⟨X, i, none⟩ = false := fun i => by simp [World.frozen?, h4X]
      go_wp2_with fail
      obtain ⟨W5, hW5⟩ : ∃ W5, w4.setCell ⟨X, 11, none⟩ (.slice (some ⟨gB, 0, none⟩) x.body.length (x.body.length + 1)) = W5 := ⟨_, rfl⟩
      rw [hW5]
      have h5X : W5.heap[X]? = some (.cells #[.int .i64 x.kind, .string x.name, .int .i64 x.n, .int .i64 xa.kind, .int .i64 xa.n, .string xa.name, .slice xa.a xa.args.length xa.cap, .int .i64 xb.kind, .int .i64 xb.n, .string xb.name, .slice xb.a xb.args.length xb.cap, .slice (some ⟨gB, 0, none⟩) x.body.length (x.body.length + 1), .slice x.ea x.els.length x.ec, .slice x.ca x.cases.length x.cc] 43 (0, 0)) := by rw [← hW5]; exact set_list h4X 11 _
      have HK5 : Hid (Kp X w4 W5) := by rw [← hW5]; exact (Kp.refl X w4).set 11 _
      have hb5G : Below G w W5 := by rw [← hW5]; exact Below.setCell (p := ⟨X, 11, none⟩) hb4G (Nat.le_of_lt hGX) _
      have hs5 : X + 2 ≤ W5.heap.size := Nat.le_trans hs4 HK5.out.1
      clear hW5 m11 m12 mf h4X hb4G hs4
      have hf := St.few_iff.1 XF.out
      have hsz := x.sz_eq
      have hz := HZ.out
      refine (IH.out x.els x.ea x.ec W5 (by omega) (St.in_iff.1 (XI.out W5 (HG.out ▸ hb5G))).2.2.2.2.2.2.1 hf.2.2.2.2.1 hf.2.2.2.2.2.1).mono ?_
      have hcl := hf.2.2.2.2.2.2.1
      clear hf hsz hz
      rintro e w6 ⟨⟨gE, lE, rfl, hr6, hc6, he6, hn6, hd6⟩, hb6⟩
      have PE : Hid (RowCp w6 (some ⟨gE, 0, none⟩) (x.els.length + 1) lE.length 216 43 (lE.flatMap St.cells ++ senS) ∧ (∀ y ∈ lE, y.Cp w6) ∧ erS lE = erS x.els ∧ (gE :: blS lE).Nodup ∧ (∀ b ∈ gE :: blS lE, w4.heap.size ≤ b ∧ b < w6.heap.size)) := ⟨hr6, hc6, he6, hn6, fun b hb => ⟨Nat.le_trans HK5.out.1 (hd6 b hb).1, (hd6 b hb).2⟩⟩
      have h6X := (hb6.block X (by omega)).trans h5X
      have HK6 : Hid (Kp X w4 w6) := HK5.out.below hb6
      have hb6G : Below G w w6 := hb5G.trans (hb6.mono (by omega))
      have hs6 : X + 2 ≤ w6.heap.size := Nat.le_trans hs5 hb6.size
      clear hr6 hc6 he6 hn6 hd6 hb6 h5X hb5G hs5 HK5
      have m12 : w6.cell? ⟨X, 12, none⟩ = some (.slice x.ea x.els.length x.ec) := by rw [Lib.cell_of_heap h6X]; rfl
      have m13 : w6.cell? ⟨X, 13, none⟩ = some (.slice x.ca x.cases.length x.cc) := by rw [Lib.cell_of_heap h6X]; rfl
      have mf : ∀ i, w6.frozen? ⟨X, i, none⟩ = false := fun i => by simp [World.frozen?, h6X]
      obtain ⟨hccl, hccc, _, _⟩ := (St.in_iff.1 (XI.out w6 (HG.out ▸ hb6G))).2.2.2.2.2.2.2.1
      obtain ⟨C, hC⟩ : ∃ C, w6.heap.size = C := ⟨_, rfl⟩
      go_wp2_with (at_make; refine wpList_make_own _ rfl _ _ 41 rfl C 58 i1 _ 2 Tryd.underlying41 HI1.out hy0 hy1 _ _ _ (x.cases.length + 1) rfl rfl (by omega) (by rw [hy2]; omega) (by unfold maxLen; omega) (by rw [size_set]; omega) ?_; intro w8 hown8 hgrow8)
      rw [size_set, hC] at hown8
      have h8X : w8.heap[X]? = some (.cells #[.int .i64 x.kind, .string x.name, .int .i64 x.n, .int .i64 xa.kind, .int .i64 xa.n, .string xa.name, .slice xa.a xa.args.length xa.cap, .int .i64 xb.kind, .int .i64 xb.n, .string xb.name, .slice xb.a xb.args.length xb.cap, .slice (some ⟨gB, 0, none⟩) x.body.length (x.body.length + 1), .slice (some ⟨gE, 0, none⟩) x.els.length (x.els.length + 1), .slice x.ca x.cases.length x.cc] 43 (0, 0)) := (hgrow8.block X (by rw [size_set]; omega) (by simp)).trans (set_list h6X 12 _)
      have HK8 : Hid (Kp X w6 w8) := ((Kp.refl X w6).set 12 _).none hgrow8
      have hb8G : Below G w w8 := (Below.setCell (p := ⟨X, 12, none⟩) hb6G (Nat.le_of_lt hGX) _).grown hgrow8 (by rw [size_set]; omega) (fun k hk => by cases hk)
      have hXC : X < C := by omega
      have HO8 : Hid (w8.ownsRow C 58 2 (.slice (some ⟨C, 0, none⟩) 0 (x.cases.length + 1)) 0 []) := hown8
      have HC : Hid (w6.heap.size = C) := hC
      clear hown8 hgrow8 m12 m13 mf h6X hb6G hs6 hC
      go_wp2_with fail
      go_loopw [7, 8] (fun t7 t8 wr => ∃ (c' : List Ca), t8 = .int .i64 c'.length ∧ c'.length ≤ x.cases.length ∧ t7 = .slice (some ⟨C, 0, none⟩) c'.length (x.cases.length + 1) ∧ wr.ownsRow C 58 2 (.slice (some ⟨C, 0, none⟩) c'.length (x.cases.length + 1)) c'.length (c'.flatMap Ca.cells) ∧ (∀ y ∈ c', y.Cp wr) ∧ erC c' = erC (x.cases.take c'.length) ∧ (blC c').Nodup ∧ (∀ b ∈ blC c', C < b ∧ b < wr.heap.size) ∧ Kp C w8 wr ∧ Below G w wr) (fun _ t8 _ => x.cases.length - (intOf t8).toNat)
      case atStart => exact ⟨[], rfl, Nat.zero_le _, rfl, HO8.out, by simp, by simp, by simp [blC], by simp [blC], Kp.refl _ _, hb8G⟩
      case round =>
        clear hb8G hbw
        obtain ⟨cl, rfl, hcle, rfl, hown, hcp, her, hnd, hbd, hkp, hb⟩ := hrel
        obtain ⟨i, hi⟩ : ∃ i, cl.length = i := ⟨_, rfl⟩
        have HJC : Hid (cl.length = i) := hi
        rw [hi] at hown hcle her ⊢
        have HOC : Hid (wr.ownsRow C 58 2 (.slice (some ⟨C, 0, none⟩) i (x.cases.length + 1)) i (cl.flatMap Ca.cells)) := hown
        have HRC : Hid ((∀ y ∈ cl, y.Cp wr) ∧ erC cl = erC (x.cases.take i) ∧ (blC cl).Nodup ∧ (∀ b ∈ blC cl, C < b ∧ b < wr.heap.size)) := ⟨hcp, her, hnd, hbd⟩
        have HKC : Hid (Kp C w8 wr) := hkp
        have BWC : Hid (Below G w wr) := hb
        have h8s : C < w8.heap.size := owns_lt HO8.out
        have hrX := (hkp.2 X (by omega) (by omega)).trans h8X
        have H8 : Hid (C < w8.heap.size) := h8s
        have HX8 := show Hid _ from h8X
        clear hown hcp her hnd hbd hkp hb hi HO8 h8X h8s
        have hCw : C < wr.heap.size := owns_lt HOC.out
        by_cases hilt : i < x.cases.length
        · have hili : (i : Int) < (x.cases.length : Int) := by omega
          have hili0 : (0 : Int) ≤ (i : Int) := by omega
          have hbw : Below w.heap.size w wr := HG.out ▸ BWC.out
          obtain ⟨b', o', hca, hcell⟩ := rowC_cells ((St.in_iff.1 (XI.out w (Below.refl _ _))).2.2.2.2.2.2.2.1.2.2.2) hilt
          have q0 := hcell 0 _ rfl
          have q1 := hcell 1 _ rfl
          simp only [← Nat.add_assoc, Nat.add_zero] at q0 q1
          have hbG : b' < G := by have := lt_of_cell q0; have := HG.out; simp only at *; omega
          have d0 : ∀ w', Below C wr w' → w'.cell? ⟨b', o' + i * 2, none⟩ = some (.int .i64 x.cases[i].n) := fun w' h => ((h.cell (p := ⟨b', o' + i * 2, none⟩) (by show b' < C; omega)).trans (BWC.out.cell (p := ⟨b', o' + i * 2, none⟩) hbG)).trans q0
          have d1 : ∀ w', Below C wr w' → w'.cell? ⟨b', o' + i * 2 + 1, none⟩ = some (.slice x.cases[i].ba x.cases[i].body.length x.cases[i].bc) := fun w' h => ((h.cell (p := ⟨b', o' + i * 2 + 1, none⟩) (by show b' < C; omega)).trans (BWC.out.cell (p := ⟨b', o' + i * 2 + 1, none⟩) hbG)).trans q1
          have e13 : ∀ w', Below C wr w' → w'.cell? ⟨X, 13, none⟩ = some (.slice (some ⟨b', o', none⟩) x.cases.length x.cc) := fun w' h => (h.cell (p := ⟨X, 13, none⟩) hXC).trans (by rw [Lib.cell_of_heap hrX, ← hca]; rfl)
          have r13 : wr.cell? ⟨X, 13, none⟩ = some (.slice x.ca x.cases.length x.cc) := by rw [Lib.cell_of_heap hrX]; rfl
          have HQ : Hid (∀ w', Below wr.heap.size wr w' → Calls Tryd.prog 13 #[.slice x.cases[i].ba x.cases[i].body.length x.cases[i].bc] w' fun e w'' => CpRS w' w'' x.cases[i].body e ∧ Below w'.heap.size w' w'') := fun w' h => by
            have h1 := csz_mem (List.getElem_mem hilt)
            have h2 := (x.cases[i]).sz_eq
            have h3 := x.sz_eq
            have h4 := HZ.out
            have h5 := Ca.few_iff.1 ((St.few_iff.1 XF.out).2.2.2.2.2.2.2 _ (List.getElem_mem hilt))
            exact IH.out _ _ _ w' (by omega) (Ca.in_iff.1 ((St.in_iff.1 (XI.out _ (Below.on hbw h))).2.2.2.2.2.2.2.2 _ (List.getElem_mem hilt))).2 h5.1 h5.2
          have HN : Hid (I64 x.cases[i].n) := (Ca.in_iff.1 ((St.in_iff.1 (XI.out _ hbw)).2.2.2.2.2.2.2.2 _ (List.getElem_mem hilt))).1
          have HTC : Hid (erC (x.cases.take (i + 1)) = erC (x.cases.take i) ++ [x.cases[i].er]) := by
            show _ = _
            rw [erC_map, erC_map, List.take_succ_eq_append_getElem hilt, List.map_append]; rfl
          clear q0 q1 hcell hrX hca
          generalize x.cases[i] = y at *
          have H1 : ∀ g, ∀ u ∈ ([.int .i64 y.n, .slice (some ⟨g, 0, none⟩) y.body.length (y.body.length + 1)] : List Value), u.oneCell' = true := fun g u hu => by
            simp at hu; rcases hu with rfl | rfl <;> rfl
          have HH1 := show Hid _ from H1
          clear H1
          go_wp2_with fail
          clear r13
          go_region_held3 (fun w' => Below C wr w') (first | exact Below.drew (Below.refl _ _) | exact bel_call hCw (by assumption) | exact bel_alloc hCw (by assumption) _ | exact bel_grown hCw (by assumption) (by assumption))
            (first
              | (go_at_call 13; refine (HQ.out _ (Below.drew (Below.refl _ _))).mono ?_; rintro e w7 ⟨⟨gD, lD, rfl, hrD, hcD, heD, hnD, hdD⟩, hbD⟩)
              | (refine step_append_spare _ (by rfl) _ _ _ (by rfl) C 58 i1 2 Tryd.underlying41 HI1.out hy1 C i (x.cases.length + 1) (cl.flatMap Ca.cells) (by rfl) (owns_heap HOC.out ((Below.heap_alloc _ _ _ (Nat.lt_of_lt_of_le hCw hbD.size)).trans (hbD.block C hCw))) ⟨w7.heap.size, 0, none⟩ 1 1 [.int .i64 y.n, .slice (some ⟨gD, 0, none⟩) y.body.length (y.body.length + 1)] (by rfl) (by rfl) (World.news_of_block (heap_alloc_new w7 _)) (HH1.out gD) (by omega) ?_; intro w5 hown5 hgrow5))
          have hbq : Below C wr w5 := by assumption
          have hKD : Kp C wr w5 := (((Kp.refl C wr).below (B := wr) ⟨hbD.os, hbD.tape, hbD.output, hbD.size, hbD.block⟩).alloc _).grown hgrow5
          have HD : Hid (Kp C wr w5 ∧ Below C wr w5 ∧ w7.heap.size < w5.heap.size ∧ wr.heap.size ≤ w7.heap.size ∧ (∀ k, k < w7.heap.size → k ≠ C → w5.heap[k]? = w7.heap[k]?) ∧ w5.ownsRow C 58 2 (.slice (some ⟨C, 0, none⟩) (i + 1) (x.cases.length + 1)) (i + 1) (cl.flatMap Ca.cells ++ [.int .i64 y.n, .slice (some ⟨gD, 0, none⟩) y.body.length (y.body.length + 1)])) :=
            ⟨hKD, hbq, by have := hgrow5.size; simp at this; omega, hbD.size, fun k h1 h2 => (hgrow5.block k (by simp; omega) (by simpa using h2)).trans (Below.heap_alloc _ _ _ h1), hown5⟩
          have PD : Hid (RowCp w7 (some ⟨gD, 0, none⟩) (y.body.length + 1) lD.length 216 43 (lD.flatMap St.cells ++ senS) ∧ (∀ z ∈ lD, z.Cp w7) ∧ erS lD = erS y.body ∧ (gD :: blS lD).Nodup ∧ (∀ b ∈ gD :: blS lD, wr.heap.size ≤ b ∧ b < w7.heap.size)) := ⟨hrD, hcD, heD, hnD, hdD⟩
          clear hrD hcD heD hnD hdD hbD hown5 hgrow5 d0 d1 e13 hbq hKD
          go_wp2_with fail
          go_roundw
          case rel =>
            obtain ⟨hKD, hbq, hs75, hsw7, hk75, hown5⟩ := HD.out
            obtain ⟨hrD, hcD, heD, hnD, hdD⟩ := PD.out
            obtain ⟨hcp, her, hnd, hbd⟩ := HRC.out
            have hlen : lD.length = y.body.length := erS_len heD
            have hji := HJC.out
            have hbl : blC (cl ++ [.mk y.n (some ⟨gD, 0, none⟩) (y.body.length + 1) lD]) = blC cl ++ (gD :: blS lD) := by
              rw [blC_map, List.flatMap_append, ← blC_map]; simp [Ca.bl, blk]
            have hll : (cl ++ [Ca.mk y.n (some ⟨gD, 0, none⟩) (y.body.length + 1) lD]).length = i + 1 := by simp; omega
            have hkeep : ∀ b ∈ gD :: blS lD, w5.heap[b]? = w7.heap[b]? := fun b hb => hk75 b (hdD b hb).2 (by have := (hdD b hb).1; omega)
            refine ⟨cl ++ [.mk y.n (some ⟨gD, 0, none⟩) (y.body.length + 1) lD], ?_, ?_, ?_, ?_, ?_, ?_, ?_, ?_, HKC.out.trans hKD, BWC.out.trans (hbq.mono (by omega))⟩
            · rw [hll]; go_num
            · rw [hll]; omega
            · rw [hll]
            · rw [hll, List.flatMap_append]
              simpa [Ca.cells, Ca.n, Ca.ba, Ca.bc, Ca.body, hlen] using hown5
            · intro z hz
              rcases List.mem_append.1 hz with hz | hz
              · refine (hcp z hz).kept fun b hb => ?_
                have hb' := hbd b (by rw [blC_map]; exact List.mem_flatMap.2 ⟨z, hz, hb⟩)
                exact hKD.2 b hb'.2 (by omega)
              · obtain rfl := List.mem_singleton.1 hz
                exact Ca.cp_iff.2 ⟨HN.out, hrD.keep (hkeep _ (List.mem_cons_self ..)), fun z hz => (hcD z hz).kept fun b hb => hkeep b (List.mem_cons_of_mem _ (by rw [blS_map]; exact List.mem_flatMap.2 ⟨z, hz, hb⟩))⟩
            · rw [hll, HTC.out, ← her, erC_map, erC_map, List.map_append]
              simp only [List.map_cons, List.map_nil, Ca.er]
              rw [y.er_eq, heD]
            · rw [hbl, List.nodup_append]
              refine ⟨hnd, hnD, fun a ha b hb => ?_⟩
              have := hbd a ha
              have := hdD b hb
              omega
            · intro b hb
              rw [hbl] at hb
              rcases List.mem_append.1 hb with hb | hb
              · have := hbd b hb; omega
              · have := hdD b hb; omega
          case measure => simp [intOf]; omega
        · obtain rfl : i = x.cases.length := by omega
          have r13 : wr.cell? ⟨X, 13, none⟩ = some (.slice x.ca x.cases.length x.cc) := by rw [Lib.cell_of_heap hrX]; rfl
          have HO9 : Hid ((wr.alloc (.cells #[.int .i64 (-77), .slice none 0 0] 58)).ownsRow C 58 2 (.slice (some ⟨C, 0, none⟩) x.cases.length (x.cases.length + 1)) x.cases.length (cl.flatMap Ca.cells)) := HOC.out.alloc _
          have HN9 : Hid (∀ i u, senC[i]? = some u → (wr.alloc (.cells #[.int .i64 (-77), .slice none 0 0] 58)).cell? ((⟨wr.heap.size, 0, none⟩ : Addr).add i) = some u) := World.news_of_block (heap_alloc_new wr _)
          have H19 : Hid (∀ u ∈ senC, u.oneCell' = true) := fun u hu => by
            simp [senC] at hu; rcases hu with rfl | rfl <;> rfl
          go_upto_region 17 with (at_builtin; refine wpList_append_own_spare _ rfl _ _ 41 rfl C 58 i1 2 Tryd.underlying41 HI1.out hy1 C x.cases.length (x.cases.length + 1) (cl.flatMap Ca.cells) rfl HO9.out ⟨wr.heap.size, 0, none⟩ 1 1 senC rfl rfl HN9.out H19.out (by omega) ?_; intro w9 hown9 hgrow9)
          have hK9 : Kp C wr w9 := ((Kp.refl C wr).alloc _).grown hgrow9
          have h9X := (hK9.2 X (by omega) (by omega)).trans hrX
          have HK9 : Hid (Kp C w8 w9 ∧ Kp C wr w9) := ⟨HKC.out.trans hK9, hK9⟩
          have hb9G : Below G w w9 := (BWC.out.alloc (by omega) _).grown hgrow9 (by simp; omega) (fun k hk => by simp at hk; omega)
          have HC9 : Hid (w9.heap[C]? = some (.cells ⟨cl.flatMap Ca.cells ++ senC⟩ 58 (0, 0))) := owns_full hown9
          have hs9 : wr.heap.size ≤ w9.heap.size := hK9.1
          clear hown9 hgrow9 HO9 HN9 H19 hrX hK9 r13
          have m13 : w9.cell? ⟨X, 13, none⟩ = some (.slice x.ca x.cases.length x.cc) := by rw [Lib.cell_of_heap h9X]; rfl
          have mf : ∀ i, w9.frozen? ⟨X, i, none⟩ = false := fun i => by simp [World.frozen?, h9X]
          go_upto_region 18 with fail
          obtain ⟨W10, hW10⟩ : ∃ W10, w9.setCell ⟨X, 13, none⟩ (.slice (some ⟨C, 0, none⟩) x.cases.length (x.cases.length + 1)) = W10 := ⟨_, rfl⟩
          rw [hW10]
          have h10X : W10.heap[X]? = some (.cells #[.int .i64 x.kind, .string x.name, .int .i64 x.n, .int .i64 xa.kind, .int .i64 xa.n, .string xa.name, .slice xa.a xa.args.length xa.cap, .int .i64 xb.kind, .int .i64 xb.n, .string xb.name, .slice xb.a xb.args.length xb.cap, .slice (some ⟨gB, 0, none⟩) x.body.length (x.body.length + 1), .slice (some ⟨gE, 0, none⟩) x.els.length (x.els.length + 1), .slice (some ⟨C, 0, none⟩) x.cases.length (x.cases.length + 1)] 43 (0, 0)) := by rw [← hW10]; exact set_list h9X 13 _
          have HK10 : Hid (Kp X w9 W10) := by rw [← hW10]; exact (Kp.refl X w9).set 13 _
          have hb10G : Below G w W10 := by rw [← hW10]; exact Below.setCell (p := ⟨X, 13, none⟩) hb9G (Nat.le_of_lt hGX) _
          have hs10 : W10.heap.size = w9.heap.size := by rw [← hW10, size_set]
          clear hW10 m13 mf h9X hb9G
          have n0 : W10.cell? ⟨X, 0, none⟩ = some (.int .i64 x.kind) := by rw [Lib.cell_of_heap h10X]; rfl
          have n1 : W10.cell? ⟨X, 1, none⟩ = some (.string x.name) := by rw [Lib.cell_of_heap h10X]; rfl
          have n2 : W10.cell? ⟨X, 2, none⟩ = some (.int .i64 x.n) := by rw [Lib.cell_of_heap h10X]; rfl
          have n3 : W10.cell? ⟨X, 3, none⟩ = some (.int .i64 xa.kind) := by rw [Lib.cell_of_heap h10X]; rfl
          have n4 : W10.cell? ⟨X, 4, none⟩ = some (.int .i64 xa.n) := by rw [Lib.cell_of_heap h10X]; rfl
          have n5 : W10.cell? ⟨X, 5, none⟩ = some (.string xa.name) := by rw [Lib.cell_of_heap h10X]; rfl
          have n6 : W10.cell? ⟨X, 6, none⟩ = some (.slice xa.a xa.args.length xa.cap) := by rw [Lib.cell_of_heap h10X]; rfl
          have n7 : W10.cell? ⟨X, 7, none⟩ = some (.int .i64 xb.kind) := by rw [Lib.cell_of_heap h10X]; rfl
          have n8 : W10.cell? ⟨X, 8, none⟩ = some (.int .i64 xb.n) := by rw [Lib.cell_of_heap h10X]; rfl
          have n9 : W10.cell? ⟨X, 9, none⟩ = some (.string xb.name) := by rw [Lib.cell_of_heap h10X]; rfl
          have n10 : W10.cell? ⟨X, 10, none⟩ = some (.slice xb.a xb.args.length xb.cap) := by rw [Lib.cell_of_heap h10X]; rfl
          have n11 : W10.cell? ⟨X, 11, none⟩ = some (.slice (some ⟨gB, 0, none⟩) x.body.length (x.body.length + 1)) := by rw [Lib.cell_of_heap h10X]; rfl
          have n12 : W10.cell? ⟨X, 12, none⟩ = some (.slice (some ⟨gE, 0, none⟩) x.els.length (x.els.length + 1)) := by rw [Lib.cell_of_heap h10X]; rfl
          have n13 : W10.cell? ⟨X, 13, none⟩ = some (.slice (some ⟨C, 0, none⟩) x.cases.length (x.cases.length + 1)) := by rw [Lib.cell_of_heap h10X]; rfl
          have hC6 := HC.out
          have hcw := H8.out
          have K610 : ∀ k, k < C → k ≠ X → W10.heap[k]? = w6.heap[k]? := fun k h1 h2 => (HK10.out.2 k (by have := HK9.out.1.1; have := HK8.out.1; omega) h2).trans ((HK9.out.1.2 k (by have := HK8.out.1; omega) (by omega)).trans (HK8.out.2 k (by omega) h2))
          have K410 : ∀ k, k < w4.heap.size → k ≠ X → W10.heap[k]? = w4.heap[k]? := fun k h1 h2 => (K610 k (by have := HK6.out.1; omega) h2).trans (HK6.out.2 k h1 h2)
          have K210 : ∀ k, k < w2.heap.size → k ≠ X → W10.heap[k]? = w2.heap[k]? := fun k h1 h2 => (K410 k (by have := HK4.out.1; omega) h2).trans (HK4.out.2 k h1 h2)
          have hX2 : X < w2.heap.size := HX2.out
          have HO12 : Hid ((W10.alloc (.cells #[.int .i64 x.kind, .string x.name, .int .i64 x.n, .int .i64 xa.kind, .int .i64 xa.n, .string xa.name, .slice xa.a xa.args.length xa.cap, .int .i64 xb.kind, .int .i64 xb.n, .string xb.name, .slice xb.a xb.args.length xb.cap, .slice (some ⟨gB, 0, none⟩) x.body.length (x.body.length + 1), .slice (some ⟨gE, 0, none⟩) x.els.length (x.els.length + 1), .slice (some ⟨C, 0, none⟩) x.cases.length (x.cases.length + 1)] 43)).ownsRow G 43 14 (.slice (some ⟨G, 0, none⟩) j (l.length + 1)) j (l'.flatMap St.cells)) :=
            owns_heap HO.out ((Below.heap_alloc _ _ _ (by omega)).trans ((K210 G (by omega) (by omega)).trans (KO.out G hGX)))
          have HN12 : Hid (∀ i u, ([.int .i64 x.kind, .string x.name, .int .i64 x.n, .int .i64 xa.kind, .int .i64 xa.n, .string xa.name, .slice xa.a xa.args.length xa.cap, .int .i64 xb.kind, .int .i64 xb.n, .string xb.name, .slice xb.a xb.args.length xb.cap, .slice (some ⟨gB, 0, none⟩) x.body.length (x.body.length + 1), .slice (some ⟨gE, 0, none⟩) x.els.length (x.els.length + 1), .slice (some ⟨C, 0, none⟩) x.cases.length (x.cases.length + 1)] : List Value)[i]? = some u → (W10.alloc (.cells #[.int .i64 x.kind, .string x.name, .int .i64 x.n, .int .i64 xa.kind, .int .i64 xa.n, .string xa.name, .slice xa.a xa.args.length xa.cap, .int .i64 xb.kind, .int .i64 xb.n, .string xb.name, .slice xb.a xb.args.length xb.cap, .slice (some ⟨gB, 0, none⟩) x.body.length (x.body.length + 1), .slice (some ⟨gE, 0, none⟩) x.els.length (x.els.length + 1), .slice (some ⟨C, 0, none⟩) x.cases.length (x.cases.length + 1)] 43)).cell? ((⟨W10.heap.size, 0, none⟩ : Addr).add i) = some u) := World.news_of_block (heap_alloc_new W10 _)
          have H112 : Hid (∀ u ∈ ([.int .i64 x.kind, .string x.name, .int .i64 x.n, .int .i64 xa.kind, .int .i64 xa.n, .string xa.name, .slice xa.a xa.args.length xa.cap, .int .i64 xb.kind, .int .i64 xb.n, .string xb.name, .slice xb.a xb.args.length xb.cap, .slice (some ⟨gB, 0, none⟩) x.body.length (x.body.length + 1), .slice (some ⟨gE, 0, none⟩) x.els.length (x.els.length + 1), .slice (some ⟨C, 0, none⟩) x.cases.length (x.cases.length + 1)] : List Value), u.oneCell' = true) := List.all_eq_true.1 (show ([.int .i64 x.kind, .string x.name, .int .i64 x.n, .int .i64 xa.kind, .int .i64 xa.n, .string xa.name, .slice xa.a xa.args.length xa.cap, .int .i64 xb.kind, .int .i64 xb.n, .string xb.name, .slice xb.a xb.args.length xb.cap, .slice (some ⟨gB, 0, none⟩) x.body.length (x.body.length + 1), .slice (some ⟨gE, 0, none⟩) x.els.length (x.els.length + 1), .slice (some ⟨C, 0, none⟩) x.cases.length (x.cases.length + 1)] : List Value).all (fun u => u.oneCell') = true from rfl)
          have HKK : Hid ((∀ k, k < C → k ≠ X → W10.heap[k]? = w6.heap[k]?) ∧ (∀ k, k < w4.heap.size → k ≠ X → W10.heap[k]? = w4.heap[k]?) ∧ (∀ k, k < w2.heap.size → k ≠ X → W10.heap[k]? = w2.heap[k]?) ∧ w2.heap.size ≤ w4.heap.size ∧ w4.heap.size ≤ C ∧ X < w2.heap.size ∧ C < w9.heap.size) := ⟨K610, K410, K210, HK4.out.1, hC6 ▸ HK6.out.1, hX2, by have := HK9.out.1.1; omega⟩
          have HB10 : Hid (Below G w W10 ∧ W10.heap.size = w9.heap.size) := ⟨hb10G, hs10⟩
          clear K610 K410 K210 hC6 hcw h10X hb10G hs10
          go_wp2_with (at_builtin; refine wpList_append_own_spare _ rfl _ _ 34 rfl G 43 i0 14 Tryd.underlying34 HI.out hz1 G j (l.length + 1) (l'.flatMap St.cells) rfl HO12.out ⟨W10.heap.size, 0, none⟩ 1 1 [.int .i64 x.kind, .string x.name, .int .i64 x.n, .int .i64 xa.kind, .int .i64 xa.n, .string xa.name, .slice xa.a xa.args.length xa.cap, .int .i64 xb.kind, .int .i64 xb.n, .string xb.name, .slice xb.a xb.args.length xb.cap, .slice (some ⟨gB, 0, none⟩) x.body.length (x.body.length + 1), .slice (some ⟨gE, 0, none⟩) x.els.length (x.els.length + 1), .slice (some ⟨C, 0, none⟩) x.cases.length (x.cases.length + 1)] rfl rfl HN12.out H112.out (by omega) ?_; intro w11 hown11 hgrow11)
          have HW11 : Hid (w11.ownsRow G 43 14 (.slice (some ⟨G, 0, none⟩) (j + 1) (l.length + 1)) (j + 1) (l'.flatMap St.cells ++ [.int .i64 x.kind, .string x.name, .int .i64 x.n, .int .i64 xa.kind, .int .i64 xa.n, .string xa.name, .slice xa.a xa.args.length xa.cap, .int .i64 xb.kind, .int .i64 xb.n, .string xb.name, .slice xb.a xb.args.length xb.cap, .slice (some ⟨gB, 0, none⟩) x.body.length (x.body.length + 1), .slice (some ⟨gE, 0, none⟩) x.els.length (x.els.length + 1), .slice (some ⟨C, 0, none⟩) x.cases.length (x.cases.length + 1)])) := hown11
          have HK11 : Hid (W10.heap.size < w11.heap.size ∧ ∀ k, k < W10.heap.size → k ≠ G → w11.heap[k]? = W10.heap[k]?) := ⟨by have := hgrow11.size; simp at this; omega, fun k h1 h2 => (hgrow11.block k (by simp; omega) (by simpa using h2)).trans (Below.heap_alloc _ _ _ h1)⟩
          have BW11 : Hid (Below G w w11) := (HB10.out.1.alloc (by have := HB10.out.2; omega) _).grown hgrow11 (by have := HB10.out.2; simp; omega) (fun k hk => by simp at hk; omega)
          clear hown11 hgrow11 HO12 HN12 H112 n0 n1 n2 n3 n4 n5 n6 n7 n8 n9 n10 n11 n12 n13
          go_wp2_with fail
          go_roundw
          case rel =>
            obtain ⟨ha, hb, hea, heb, hnab, hdab⟩ := PA.out
            obtain ⟨hrB, hcB, heB, hnB, hdB⟩ := PB.out
            obtain ⟨hrE, hcE, heE, hnE, hdE⟩ := PE.out
            obtain ⟨hcC, heC, hnC, hdC⟩ := HRC.out
            obtain ⟨hcp, her, hnd, hbd⟩ := HR.out
            obtain ⟨k610, k410, k210, hs24, hs4C, hx2, hC9⟩ := HKK.out
            obtain ⟨hs11, hk11⟩ := HK11.out
            have hs109 := HB10.out.2
            have hk9 := HK9.out.2
            have hlB : lB.length = x.body.length := erS_len heB
            have hlE : lE.length = x.els.length := erS_len heE
            have hlC : cl.length = x.cases.length := HJC.out
            have hxin := St.in_iff.1 (XI.out _ (Below.refl _ _))
            have hji := HJ.out
            obtain ⟨z, hzd⟩ : ∃ z : St, z = .mk x.kind x.name x.n xa xb (some ⟨gB, 0, none⟩) (x.body.length + 1) lB (some ⟨gE, 0, none⟩) (x.els.length + 1) lE (some ⟨C, 0, none⟩) (x.cases.length + 1) cl := ⟨_, rfl⟩
            have hzb : z.bl = (xa.bl ++ xb.bl) ++ ((gB :: blS lB) ++ ((gE :: blS lE) ++ (C :: blC cl))) := by
              rw [hzd, St.bl_eq]; simp only [St.a, St.b, St.ba, St.body, St.ea, St.els, St.ca, St.cases, blk, List.append_assoc, List.cons_append]
            have hbl : blS (l' ++ [z]) = blS l' ++ z.bl := by
              rw [blS_map, List.flatMap_append, ← blS_map]; simp
            have hll : (l' ++ [z]).length = j + 1 := by simp; omega
            have f2 : ∀ k, X < k → k < w2.heap.size → w11.heap[k]? = w2.heap[k]? := fun k h1 h2 => (hk11 k (by omega) (by omega)).trans (k210 k h2 (by omega))
            have f4 : ∀ k, X < k → k < w4.heap.size → w11.heap[k]? = w4.heap[k]? := fun k h1 h2 => (hk11 k (by omega) (by omega)).trans (k410 k h2 (by omega))
            have f6 : ∀ k, X < k → k < C → w11.heap[k]? = w6.heap[k]? := fun k h1 h2 => (hk11 k (by omega) (by omega)).trans (k610 k h2 (by omega))
            have f9 : ∀ k, X < k → k < w9.heap.size → w11.heap[k]? = w9.heap[k]? := fun k h1 h2 => (hk11 k (by omega) (by omega)).trans (HK10.out.2 k h2 (by omega))
            have hC6 := HC.out
            have hzc : z.Cp w11 := by
              rw [hzd]
              refine St.cp_iff.2 ⟨hxin.1, hxin.2.1, hxin.2.2.1, ha.kept fun b h => ?_, hb.kept fun b h => ?_, hrB.keep ?_, hrE.keep ?_, ⟨C, rfl, by show x.cases.length + 1 = cl.length + 1; omega, by show (x.cases.length + 1) * 32 ≤ _; omega, ?_⟩, fun y hy => (hcB y hy).kept fun b h => ?_, fun y hy => (hcE y hy).kept fun b h => ?_, fun y hy => (hcC y hy).kept fun b h => ?_⟩
              · have := hdab b (List.mem_append_left _ h); exact f2 b this.1 this.2
              · have := hdab b (List.mem_append_right _ h); exact f2 b this.1 this.2
              · have := hdB gB (List.mem_cons_self ..); exact f4 gB (by omega) this.2
              · have := hdE gE (List.mem_cons_self ..); exact f6 gE (by omega) (by omega)
              · exact (f9 C hXC hC9).trans HC9.out
              · have := hdB b (List.mem_cons_of_mem _ (by rw [blS_map]; exact List.mem_flatMap.2 ⟨y, hy, h⟩)); exact f4 b (by omega) this.2
              · have := hdE b (List.mem_cons_of_mem _ (by rw [blS_map]; exact List.mem_flatMap.2 ⟨y, hy, h⟩)); exact f6 b (by omega) (by omega)
              · have := hdC b (by rw [blC_map]; exact List.mem_flatMap.2 ⟨y, hy, h⟩)
                exact (f9 b (by omega) (by have := hk9.1; omega)).trans (hk9.2 b this.2 (by omega))
            have hzr : ∀ b ∈ z.bl, X < b ∧ b < w11.heap.size := by
              intro b h
              rw [hzb] at h
              have := hk9.1
              rcases List.mem_append.1 h with h | h
              · have := hdab b h; omega
              rcases List.mem_append.1 h with h | h
              · have := hdB b h; omega
              rcases List.mem_append.1 h with h | h
              · have := hdE b h; omega
              rcases List.mem_cons.1 h with h | h
              · omega
              · have := hdC b h; omega
            have hzn : z.bl.Nodup := by
              rw [hzb]
              refine List.nodup_append.2 ⟨hnab, List.nodup_append.2 ⟨hnB, List.nodup_append.2 ⟨hnE, List.nodup_cons.2 ⟨fun h => ?_, hnC⟩, fun p hp q hq => ?_⟩, fun p hp q hq => ?_⟩, fun p hp q hq => ?_⟩
              · have := hdC C h; omega
              · have := hdE p hp
                rcases List.mem_cons.1 hq with hq | hq
                · omega
                · have := hdC q hq; omega
              · have := hdB p hp
                rcases List.mem_append.1 hq with hq | hq
                · have := hdE q hq; omega
                rcases List.mem_cons.1 hq with hq | hq
                · omega
                · have := hdC q hq; omega
              · have := hdab p hp
                rcases List.mem_append.1 hq with hq | hq
                · have := hdB q hq; omega
                rcases List.mem_append.1 hq with hq | hq
                · have := hdE q hq; omega
                rcases List.mem_cons.1 hq with hq | hq
                · omega
                · have := hdC q hq; omega
            have hze : z.er = x.er := by
              rw [hzd, x.er_eq, St.er, hea, heb, heB, heE, heC, List.take_length]
            refine ⟨l' ++ [z], ?_, ?_, ?_, ?_, ?_, ?_, ?_, ?_, BW11.out⟩
            · rw [hll]; go_num
            · rw [hll]; omega
            · rw [hll]
            · rw [hll, List.flatMap_append]
              have h11 := HW11.out
              rw [hzd]
              simpa [St.cells, St.kind, St.name, St.n, St.a, St.b, St.ba, St.bc, St.body, St.ea, St.ec, St.els, St.ca, St.cc, St.cases, hlB, hlE, hlC] using h11
            · intro y hy
              rcases List.mem_append.1 hy with hy | hy
              · refine (hcp y hy).kept fun b h => ?_
                have hb' := hbd b (by rw [blS_map]; exact List.mem_flatMap.2 ⟨y, hy, h⟩)
                exact (hk11 b (by omega) (by omega)).trans ((k210 b (by omega) (by omega)).trans (KO.out b (by omega)))
              · obtain rfl := List.mem_singleton.1 hy
                exact hzc
            · rw [hll, HT.out, ← her, erS_map, erS_map, List.map_append]
              simp only [List.map_cons, List.map_nil]
              rw [hze]
            · rw [hbl, List.nodup_append]
              refine ⟨hnd, hzn, fun p hp q hq => ?_⟩
              have := hbd p hp
              have := hzr q hq
              omega
            · intro b h
              rw [hbl] at h
              rcases List.mem_append.1 h with h | h
              · have := hbd b h; omega
              · have := hzr b h; omega
          case measure => simp [intOf]; omega
    · obtain rfl : j = l.length := by omega
      have HO4 : Hid ((wr.alloc (.cells #[.int .i64 (-77), .string ⟨#[]⟩, .int .i64 0, .int .i64 0, .int .i64 0, .string ⟨#[]⟩, .slice none 0 0, .int .i64 0, .int .i64 0, .string ⟨#[]⟩, .slice none 0 0, .slice none 0 0, .slice none 0 0, .slice none 0 0] 43)).ownsRow G 43 14 (.slice (some ⟨G, 0, none⟩) l.length (l.length + 1)) l.length (l'.flatMap St.cells)) := HO.out.alloc _
      have HN : Hid (∀ i u, senS[i]? = some u → (wr.alloc (.cells #[.int .i64 (-77), .string ⟨#[]⟩, .int .i64 0, .int .i64 0, .int .i64 0, .string ⟨#[]⟩, .slice none 0 0, .int .i64 0, .int .i64 0, .string ⟨#[]⟩, .slice none 0 0, .slice none 0 0, .slice none 0 0, .slice none 0 0] 43)).cell? ((⟨wr.heap.size, 0, none⟩ : Addr).add i) = some u) := World.news_of_block (heap_alloc_new wr _)
      have H1 : Hid (∀ u ∈ senS, u.oneCell' = true) := List.all_eq_true.1 (show senS.all (fun u => u.oneCell') = true from rfl)
      go_wp2_with (at_builtin; refine wpList_append_own_spare _ rfl _ _ 34 rfl G 43 i0 14 Tryd.underlying34 HI.out hz1 G l.length (l.length + 1) (l'.flatMap St.cells) rfl HO4.out ⟨wr.heap.size, 0, none⟩ 1 1 senS rfl rfl HN.out H1.out (by omega) ?_; intro w5 hown5 hgrow5)
      have HO5 : Hid (w5.ownsRow G 43 14 (.slice (some ⟨G, 0, none⟩) (l.length + 1) (l.length + 1)) (l.length + 1) (l'.flatMap St.cells ++ senS)) := hown5
      have hGX : G < wr.heap.size := owns_lt HO.out
      have HK5 : Hid (G < wr.heap.size ∧ wr.heap.size < w5.heap.size ∧ ∀ k, k < wr.heap.size → k ≠ G → w5.heap[k]? = wr.heap[k]?) := by
        refine ⟨hGX, by have := hgrow5.size; simp at this; omega, fun k h1 h3 => ?_⟩
        rw [hgrow5.block k (by simp; omega) (by simpa using h3), Below.heap_alloc _ _ _ h1]
      have BW5 : Hid (Below G w w5) := (BW.out.alloc (by omega) _).grown hgrow5 (by simp; omega) (fun k hk => by simp at hk; omega)
      clear hown5 hgrow5 HO4 HN H1 hGX
      go_wp2_with fail
      go_ret
      obtain ⟨hcp, her, hnd, hbd⟩ := HR.out
      obtain ⟨hgx, hs5, hk5⟩ := HK5.out
      have hw : w.heap.size = G := HG.out
      refine ⟨⟨G, l', rfl, ⟨G, rfl, by rw [HJ.out], by omega, owns_full HO5.out⟩, fun y hy => (hcp y hy).kept fun b hb => ?_, by rw [her, List.take_length], ?_, ?_⟩, by rw [hw]; exact BW5.out⟩
      · have := hbd b (by rw [blS_map]; exact List.mem_flatMap.2 ⟨y, hy, hb⟩)
        exact hk5 b this.2 (by omega)
      · refine List.nodup_cons.2 ⟨fun h => ?_, hnd⟩
        have := hbd _ h; omega
      · intro b hb
        rcases List.mem_cons.1 hb with rfl | hb
        · omega
        · have := hbd b hb; omega
theorem stmtsOf_k (n : Nat) : StOfOk n := by
  induction n with
  | zero => intro l a c w h; omega
  | succ n ih => exact fun l a c w h => stmtsOf_step n ih l a c w (by omega)
theorem stmtsOf_any (l : List St) (a : Option Addr) (c : Nat) (w : World) (hin : Have w a c l) (hf0 : l.length ≤ 1048576) (hf : ∀ x ∈ l, x.Few) : Calls Tryd.prog 13 #[.slice a l.length c] w fun e w' => CpRS w w' l e ∧ Below w.heap.size w w' := stmtsOf_k (ssz l + 1) l a c w (by omega) hin hf0 hf
end Go.Proofs.YtakaldbhaoidiaaDoor

/- The document's own copies: what is appended out of a list that came in; functions and programs that have blocks of their own. -/
namespace Go.Proofs.YtakaldbhaoidiaaDoor
open Go.RowKit

theorem run_append_src {P : Program} (w : World) (base : Nat) (t ty e : TypeId) (i : TypeInfo) (size : Nat) (ht : P.underlying t = some (.slice e)) (hi : P.info? e = some i) (hsize : i.size = size)
    (g n cap : Nat) (xs : List Value) (hown : w.ownsRow base e size (.slice (some ⟨g, 0, none⟩) n cap) n xs)
    (a : Option Addr) (m c : Nat) (news : List Value) (hl : news.length = m * size) (hnone : a = none → m = 0) (hnews : ∀ ad, a = some ad → ∀ j u, news[j]? = some u → w.cell? (ad.add j) = some u) (h1 : ∀ u ∈ news, u.oneCell' = true)
    (hroom : n + m ≤ cap) :
    ∃ w', (Builtin.append_ #[t, t] ty #[.slice (some ⟨g, 0, none⟩) n cap, .slice a m c]).run P w = .ok (.slice (some ⟨g, 0, none⟩) (n + m) cap) w' ∧
      w'.ownsRow base e size (.slice (some ⟨g, 0, none⟩) (n + m) cap) (n + m) (xs ++ news) ∧ w.grownBy w' (some g) := by
  cases a with
  | some ad => exact run_append_own_spare w base t ty e i size ht hi hsize g n cap xs hown ad m c news hl (hnews ad rfl) h1 hroom
  | none =>
    obtain rfl := hnone rfl
    have hn0 : news = [] := List.eq_nil_of_length_eq_zero (by simpa using hl)
    subst hn0
    refine ⟨w, ?_, by simpa using hown, ⟨rfl, rfl, rfl, Nat.le_refl _, fun _ _ _ => rfl⟩⟩
    have hroom' : n ≤ cap := by omega
    simp [Builtin.append_, run_underlying ht, sizeOf, typeInfo, hi, Builtin.lenOf, hroom', Builtin.firstCells, storeCells]

theorem wpList_append_src {P : Program} (w : World) {ops : Array Oper} {rest : List Oper} {o : Oper} {a : Act} {Q : Exit → Act → World → Prop} (hgd : o.guard = none) (s x : Operand) (t : TypeId)
    (ho : o.op = .call { callee := .builtin .append, args := #[s, x], argTypes := #[t, t] })
    (base : Nat) (e : TypeId) (i : TypeInfo) (size : Nat) (ht : P.underlying t = some (.slice e)) (hi : P.info? e = some i) (hsize : i.size = size)
    (g n cap : Nat) (xs : List Value) (hs : a.eval s = .slice (some ⟨g, 0, none⟩) n cap) (hown : w.ownsRow base e size (.slice (some ⟨g, 0, none⟩) n cap) n xs)
    (ad : Option Addr) (m c : Nat) (news : List Value) (hx : a.eval x = .slice ad m c) (hl : news.length = m * size) (hnone : ad = none → m = 0) (hnews : ∀ ad', ad = some ad' → ∀ j u, news[j]? = some u → w.cell? (ad'.add j) = some u) (h1 : ∀ u ∈ news, u.oneCell' = true)
    (hroom : n + m ≤ cap)
    (h : ∀ w', w'.ownsRow base e size (.slice (some ⟨g, 0, none⟩) (n + m) cap) (n + m) (xs ++ news) → w.grownBy w' (some g) → wpList P ops Q rest (a.put o.dst (.slice (some ⟨g, 0, none⟩) (n + m) cap)) w') : wpList P ops Q (o :: rest) a w := by
  obtain ⟨w', hr, h2, h3⟩ := run_append_src (P := P) w base t o.type e i size ht hi hsize g n cap xs hown ad m c news hl hnone hnews h1 hroom
  refine wpList_plain hgd fun K hK => ?_
  unfold Oper.wp execOp
  simp only [ho, resolve, invoke, builtin, Sem.run_bind, Sem.run_pure, Result.andThen_ok, List.map_toArray, List.map_cons, List.map_nil, hs, hx, hr]
  exact hK _ _ (h w' h2 h3)

theorem flat_len {α : Type} {f : α → List Value} {k : Nat} (hf : ∀ x, (f x).length = k) (l : List α) : (l.flatMap f).length = l.length * k := by
  induction l with
  | nil => simp
  | cons x r ih => rw [List.flatMap_cons, List.length_append, hf, ih, List.length_cons, Nat.add_mul]; omega
/-- The cells of a list that came in, as what is appended. -/
theorem src_news {W : World} {a : Option Addr} {α : Type} {f : α → List Value} {k : Nat} {l : List α} (h : RowIn W a k (l.map f)) (hf : ∀ x, (f x).length = k) (hk : 0 < k) : ∀ ad, a = some ad → ∀ j u, (l.flatMap f)[j]? = some u → W.cell? (ad.add j) = some u := by
  intro ad e j u hj
  have hjl := (List.getElem?_eq_some_iff.1 hj).1
  rw [flat_len hf] at hjl
  have hq : j / k < l.length := (Nat.div_lt_iff_lt_mul hk).2 hjl
  have hr : j % k < k := Nat.mod_lt _ hk
  have hd : j / k * k + j % k = j := Nat.div_add_mod' j k
  have hat := flatC_at hf [] l (j / k) l[j / k] (j % k) (List.getElem?_eq_getElem hq) hr
  rw [List.append_nil, hd, hj] at hat
  obtain ⟨b, o, e', hc⟩ := h (j / k) (f l[j / k]) (by simp [hq])
  rw [e] at e'
  cases e'
  have := hc (j % k) u hat.symm
  rw [hd] at this
  rw [Addr.add_lit]
  exact this

theorem Tryd.infoI64 : (Tryd.prog.info? 2).map (fun i => (i.zero, i.size, i.bytes)) = some (some (.int .i64 0), 1, 8) := by kernel_rfl
theorem Tryd.infoPa : (Tryd.prog.info? 55).map (fun i => (i.zero, i.size, i.bytes)) = some (some (.agg #[.string ⟨#[]⟩, .int .i64 0, .int .i64 0]), 3, 32) := by kernel_rfl
theorem Tryd.infoFu : (Tryd.prog.info? 36).map (fun i => (i.zero, i.size, i.bytes)) = some (some (.agg #[.string ⟨#[]⟩, .slice none 0 0, .slice none 0 0]), 3, 64) := by kernel_rfl

def cI (z : Int) : List Value := [.int .i64 z]
def Fu.Cp (W : World) (f : Fu) : Prop := f.name.size ≤ 140737488351232 ∧ RowCp W f.pa f.pc f.params.length 32 55 (f.params.flatMap Pa.cells ++ senP) ∧ (∀ p ∈ f.params, p.Ok) ∧ RowCp W f.ba f.bc f.body.length 216 43 (f.body.flatMap St.cells ++ senS) ∧ ∀ x ∈ f.body, x.Cp W
def Pr.Cp (W : World) (p : Pr) : Prop := RowCp W p.wa p.wc p.widen.length 8 2 (p.widen.flatMap cI ++ [.int .i64 (-77)]) ∧ (∀ z ∈ p.widen, I64 z) ∧ RowCp W p.fa p.fc p.funcs.length 64 36 (p.funcs.flatMap Fu.cells ++ senF) ∧ ∀ f ∈ p.funcs, f.Cp W
theorem Fu.Cp.in {W : World} {f : Fu} (h : f.Cp W) : f.In W := by
  obtain ⟨h1, h2, h3, h4, h5⟩ := h
  have r1 := h2.row (k := 3) (fun x => rfl)
  have r2 := h4.row (k := 14) (fun x => rfl)
  obtain ⟨g, e, e1, e2, _⟩ := h2
  obtain ⟨g', e', e1', e2', _⟩ := h4
  exact ⟨h1, by omega, e2, fun h => (by rw [e] at h; cases h), r1, h3, ⟨by omega, by omega, fun h => (by rw [e'] at h; cases h), r2⟩, fun x hx => (h5 x hx).in⟩
theorem Pr.Cp.in {W : World} {p : Pr} (h : p.Cp W) : p.In W := by
  obtain ⟨h1, h2, h3, h4⟩ := h
  have r1 := h1.row (k := 1) (fun x => rfl)
  have r2 := h3.row (k := 3) (fun x => rfl)
  obtain ⟨g, e, e1, e2, _⟩ := h1
  obtain ⟨g', e', e1', e2', _⟩ := h3
  exact ⟨by omega, e2, fun h => (by rw [e] at h; cases h), r1, h2, by omega, e2', fun h => (by rw [e'] at h; cases h), r2, fun f hf => (h4 f hf).in⟩
theorem Fu.Cp.kept {W W' : World} {f : Fu} (h : f.Cp W) (hb : ∀ b ∈ f.bl, W'.heap[b]? = W.heap[b]?) : f.Cp W' := by
  obtain ⟨h1, h2, h3, h4, h5⟩ := h
  unfold Fu.bl at hb
  refine ⟨h1, h2.keep (hb _ (by simp)), h3, h4.keep (hb _ (by simp)), fun x hx => (h5 x hx).kept fun b h => hb b ?_⟩
  have : b ∈ blS f.body := by rw [blS_map]; exact List.mem_flatMap.2 ⟨x, hx, h⟩
  simp [this]

def Fu.Few (f : Fu) : Prop := f.params.length ≤ 1048576 ∧ f.body.length ≤ 1048576 ∧ ∀ x ∈ f.body, x.Few
def Pr.Few (p : Pr) : Prop := p.widen.length ≤ 1048576 ∧ p.funcs.length ≤ 1048576 ∧ ∀ f ∈ p.funcs, f.Few
theorem Kp.srcgrown {X : Nat} {A B C : World} (h : Kp X A B) (hg : B.grownBy C (some X)) : Kp X A C := h.grown hg
end Go.Proofs.YtakaldbhaoidiaaDoor

/- The document's own copies: programs. -/
namespace Go.Proofs.YtakaldbhaoidiaaDoor
open Go.RowKit

set_option maxRecDepth 100000 in
set_option maxHeartbeats 16000000 in
theorem copy_any (p : Pr) (w : World) (hin : p.In w) (hf : p.Few) : Calls Tryd.prog 6 #[p.val] w fun e w' => (∃ q : Pr, e = .returned q.val ∧ q.Cp w' ∧ q.er = p.er ∧ q.bl.Nodup ∧ (∀ b ∈ q.bl, w.heap.size ≤ b ∧ b < w'.heap.size)) ∧ Below w.heap.size w w' := by
  obtain ⟨i0, hi, hz0, hz1, hz2⟩ := info_parts Tryd.infoI64
  have HI : Hid (Tryd.prog.info? 2 = some i0) := hi
  obtain ⟨i1, hi1, hy0, hy1, hy2⟩ := info_parts Tryd.infoPa
  have HI1 : Hid (Tryd.prog.info? 55 = some i1) := hi1
  obtain ⟨i2, hi2, hx0, hx1, hx2⟩ := info_parts Tryd.infoFu
  have HI2 : Hid (Tryd.prog.info? 36 = some i2) := hi2
  have XP : Hid (∀ w', Below w.heap.size w w' → p.In w') := fun w' h => hin.stay h
  have HFW : Hid (p.Few) := hf
  have hw1 := hf.1
  have hf1 := hf.2.1
  have q1 := hin.1
  have q2 := hin.2.1
  have q3 := hin.haveF.1.1
  have q4 := hin.haveF.1.2.1
  have HNO : Hid ((p.wa = none → p.widen.length = 0)) := fun h => by have := hin.2.2.1 h; omega
  clear hin hf hi hi1 hi2
  unfold Pr.val
  obtain ⟨B, hB⟩ : ∃ B, w.heap.size = B := ⟨_, rfl⟩
  go_enter Tryd.func6, Tryd.ntmps6
  go_upto_region 3 with (at_make; refine wpList_make_own _ rfl _ _ 22 rfl (B + 3) 2 i0 _ 1 Tryd.underlying22 HI.out hz0 hz1 _ _ _ (p.widen.length + 1) rfl rfl (by omega) (by rw [hz2]; omega) (by unfold maxLen; omega) (by simp; omega) ?_; intro w1 hown1 hgrow1)
  have hs0 : (((w.alloc (.cells #[.slice p.wa p.widen.length p.wc, .slice p.fa p.funcs.length p.fc] 25)).alloc (.cells #[.slice none 0 0, .slice none 0 0] 25)).alloc (.cells #[.slice none 0 0, .slice none 0 0] 25)).heap.size = B + 1 + 1 + 1 := by simp [hB]
  have h1B : w1.heap[B]? = some (.cells #[.slice p.wa p.widen.length p.wc, .slice p.fa p.funcs.length p.fc] 25 (0, 0)) := (hgrow1.block B (by omega) (by simp)).trans (by
    rw [Below.heap_alloc _ _ _ (by simp; omega), Below.heap_alloc _ _ _ (by simp; omega), ← hB]; exact heap_alloc_new _ _)
  have h1R : w1.heap[B + 1]? = some (.cells #[.slice none 0 0, .slice none 0 0] 25 (0, 0)) := (hgrow1.block (B + 1) (by omega) (by simp)).trans (by
    rw [Below.heap_alloc _ _ _ (by simp; omega), show B + 1 = (w.alloc (.cells #[.slice p.wa p.widen.length p.wc, .slice p.fa p.funcs.length p.fc] 25)).heap.size by simp [hB]]; exact heap_alloc_new _ _)
  have h1O : w1.heap[B + 1 + 1]? = some (.cells #[.slice none 0 0, .slice none 0 0] 25 (0, 0)) := (hgrow1.block (B + 1 + 1) (by omega) (by simp)).trans (by
    rw [show B + 1 + 1 = ((w.alloc (.cells #[.slice p.wa p.widen.length p.wc, .slice p.fa p.funcs.length p.fc] 25)).alloc (.cells #[.slice none 0 0, .slice none 0 0] 25)).heap.size by simp [hB]]; exact heap_alloc_new _ _)
  have hb1 : Below B w w1 := (((Below.refl B w).alloc (by omega) _).alloc (by simp; omega) _).alloc (by simp; omega) _ |>.grown hgrow1 (by omega) (fun k hk => by cases hk)
  rw [hs0] at hown1
  have hs1 : B + 1 + 1 + 1 < w1.heap.size := owns_lt hown1
  clear hgrow1 hs0
  obtain ⟨R, hR⟩ : ∃ R, B + 1 = R := ⟨_, rfl⟩
  rw [hR] at h1R h1O hown1 hs1 ⊢
  obtain ⟨O, hO⟩ : ∃ O, R + 1 = O := ⟨_, rfl⟩
  rw [hO] at h1O hown1 hs1 ⊢
  obtain ⟨D, hD⟩ : ∃ D, O + 1 = D := ⟨_, rfl⟩
  rw [hD] at hown1 hs1 ⊢
  have hbr : B < R := by omega
  have hro : R < O := by omega
  have hod : O < D := by omega
  have HBB : Hid (w.heap.size = B) := hB
  have XW : Hid (∀ w', Below B w w' → p.In w') := fun w' h => XP.out w' (HBB.out ▸ h)
  clear hR hO hD hB XP
  have k0 : w1.cell? ⟨B, 0, none⟩ = some (.slice p.wa p.widen.length p.wc) := by rw [Lib.cell_of_heap h1B]; rfl
  have HO1 : Hid (w1.ownsRow (B + 3) 2 1 (.slice (some ⟨D, 0, none⟩) 0 (p.widen.length + 1)) 0 []) := hown1
  have HN1 : Hid (∀ ad, p.wa = some ad → ∀ j u, (p.widen.flatMap cI)[j]? = some u → w1.cell? (ad.add j) = some u) := src_news (k := 1) (XW.out w1 hb1).thr.2.2 (fun _ => rfl) (by decide)
  have HL1 : Hid ((p.widen.flatMap cI).length = p.widen.length * 1) := flat_len (f := cI) (k := 1) (fun _ => rfl) p.widen
  have HC1 : Hid (∀ u ∈ p.widen.flatMap cI, u.oneCell' = true) := fun u hu => by
    obtain ⟨z, _, hz⟩ := List.mem_flatMap.1 hu
    obtain rfl := List.mem_singleton.1 hz
    rfl
  clear hown1
  go_upto_region 4 with (at_builtin; refine wpList_append_src _ rfl _ _ 22 rfl (B + 3) 2 i0 1 Tryd.underlying22 HI.out hz1 D 0 (p.widen.length + 1) [] rfl HO1.out p.wa p.widen.length p.wc (p.widen.flatMap cI) rfl HL1.out HNO.out HN1.out HC1.out (by omega) ?_; intro w2 hown2 hgrow2)
  rw [Nat.zero_add, List.nil_append] at hown2
  have hK2 : Kp D w1 w2 := (Kp.refl D w1).grown hgrow2
  have hb2 : Below B w w2 := hb1.grown hgrow2 (by omega) (fun k hk => by simp at hk; omega)
  have hs2 : D < w2.heap.size := owns_lt hown2
  have HO2 : Hid ((w2.alloc (.cells #[.int .i64 (-77)] 2)).ownsRow (B + 3) 2 1 (.slice (some ⟨D, 0, none⟩) p.widen.length (p.widen.length + 1)) p.widen.length (p.widen.flatMap cI)) := hown2.alloc _
  have HN2 : Hid (∀ i u, ([.int .i64 (-77)] : List Value)[i]? = some u → (w2.alloc (.cells #[.int .i64 (-77)] 2)).cell? ((⟨w2.heap.size, 0, none⟩ : Addr).add i) = some u) := World.news_of_block (heap_alloc_new w2 _)
  have HC2 : Hid (∀ u ∈ ([.int .i64 (-77)] : List Value), u.oneCell' = true) := List.all_eq_true.1 (show ([.int .i64 (-77)] : List Value).all (fun u => u.oneCell') = true from rfl)
  clear hown2 hgrow2 HO1 HN1 HL1 HC1 k0
  go_upto_region 5 with (at_builtin; refine wpList_append_own_spare _ rfl _ _ 22 rfl (B + 3) 2 i0 1 Tryd.underlying22 HI.out hz1 D p.widen.length (p.widen.length + 1) (p.widen.flatMap cI) rfl HO2.out ⟨w2.heap.size, 0, none⟩ 1 1 [.int .i64 (-77)] rfl rfl HN2.out HC2.out (by omega) ?_; intro w3 hown3 hgrow3)
  have hK3 : Kp D w1 w3 := (hK2.alloc _).grown hgrow3
  have hb3 : Below B w w3 := (hb2.alloc (by omega) _).grown hgrow3 (by simp; omega) (fun k hk => by simp at hk; omega)
  have hs3 : D < w3.heap.size := owns_lt hown3
  have HD3 : Hid (w3.heap[D]? = some (.cells ⟨p.widen.flatMap cI ++ [.int .i64 (-77)]⟩ 2 (0, 0))) := owns_full hown3
  have h3B := (hK3.2 B (by omega) (by omega)).trans h1B
  have h3R := (hK3.2 R (by omega) (by omega)).trans h1R
  have h3O := (hK3.2 O (by omega) (by omega)).trans h1O
  clear hown3 hgrow3 HO2 HN2 HC2 hK2 hK3 hb1 hb2 h1B h1R h1O hs1 hs2
  have k0 : w3.cell? ⟨B, 0, none⟩ = some (.slice p.wa p.widen.length p.wc) := by rw [Lib.cell_of_heap h3B]; rfl
  have k1 : w3.cell? ⟨B, 1, none⟩ = some (.slice p.fa p.funcs.length p.fc) := by rw [Lib.cell_of_heap h3B]; rfl
  have o0 : w3.cell? ⟨O, 0, none⟩ = some (.slice none 0 0) := by rw [Lib.cell_of_heap h3O]; rfl
  have of : ∀ i, w3.frozen? ⟨O, i, none⟩ = false := fun i => by simp [World.frozen?, h3O]
  have hne : B ≠ O := by omega
  have hne' : O ≠ B := by omega
  go_upto_region 6 with fail
  obtain ⟨W4, hW4⟩ : ∃ W4, w3.setCell ⟨O, 0, none⟩ (.slice (some ⟨D, 0, none⟩) p.widen.length (p.widen.length + 1)) = W4 := ⟨_, rfl⟩
  rw [hW4]
  have hK4 : Kp O w3 W4 := by rw [← hW4]; exact (Kp.refl O w3).set 0 _
  have h4O : W4.heap[O]? = some (.cells #[.slice (some ⟨D, 0, none⟩) p.widen.length (p.widen.length + 1), .slice none 0 0] 25 (0, 0)) := by rw [← hW4]; exact set_list h3O 0 _
  have h4B := (hK4.2 B (by omega) (by omega)).trans h3B
  have h4R := (hK4.2 R (by omega) (by omega)).trans h3R
  have h4D := (hK4.2 D (by omega) (by omega)).trans HD3.out
  have hb4 : Below B w W4 := by rw [← hW4]; exact Below.setCell (p := ⟨O, 0, none⟩) hb3 (by show B ≤ O; omega) _
  have hs4 : D < W4.heap.size := Nat.lt_of_lt_of_le hs3 hK4.1
  clear hW4 hK4 k0 k1 o0 of h3B h3R h3O HD3 hb3 hs3
  have k1 : W4.cell? ⟨B, 1, none⟩ = some (.slice p.fa p.funcs.length p.fc) := by rw [Lib.cell_of_heap h4B]; rfl
  obtain ⟨F, hF⟩ : ∃ F, W4.heap.size = F := ⟨_, rfl⟩
  go_wp2_with (at_make; refine wpList_make_own _ rfl _ _ 23 rfl F 36 i2 _ 3 Tryd.underlying23 HI2.out hx0 hx1 _ _ _ (p.funcs.length + 1) rfl rfl (by omega) (by rw [hx2]; omega) (by unfold maxLen; omega) (by omega) ?_; intro w5 hown5 hgrow5)
  rw [hF] at hown5
  have hs5 : F < w5.heap.size := owns_lt hown5
  have h5B := (hgrow5.block B (by omega) (by simp)).trans h4B
  have h5R := (hgrow5.block R (by omega) (by simp)).trans h4R
  have h5O := (hgrow5.block O (by omega) (by simp)).trans h4O
  have h5D := (hgrow5.block D (by omega) (by simp)).trans h4D
  have hb5 : Below B w w5 := hb4.grown hgrow5 (by omega) (fun k hk => by cases hk)
  have hDF : D < F := by omega
  have HO5 : Hid (w5.ownsRow F 36 3 (.slice (some ⟨F, 0, none⟩) 0 (p.funcs.length + 1)) 0 []) := hown5
  have H5 : Hid (w5.heap[B]? = some (.cells #[.slice p.wa p.widen.length p.wc, .slice p.fa p.funcs.length p.fc] 25 (0, 0)) ∧ w5.heap[R]? = some (.cells #[.slice none 0 0, .slice none 0 0] 25 (0, 0)) ∧ w5.heap[O]? = some (.cells #[.slice (some ⟨D, 0, none⟩) p.widen.length (p.widen.length + 1), .slice none 0 0] 25 (0, 0)) ∧ w5.heap[D]? = some (.cells ⟨p.widen.flatMap cI ++ [.int .i64 (-77)]⟩ 2 (0, 0))) := ⟨h5B, h5R, h5O, h5D⟩
  clear hown5 hgrow5 h4B h4R h4O h4D hb4 hs4 k1 h5B h5R h5O h5D hF
  go_wp2_with fail
  go_loopw [5, 6] (fun t5 t6 wr => ∃ (fl : List Fu), t6 = .int .i64 fl.length ∧ fl.length ≤ p.funcs.length ∧ t5 = .slice (some ⟨F, 0, none⟩) fl.length (p.funcs.length + 1) ∧ wr.ownsRow F 36 3 (.slice (some ⟨F, 0, none⟩) fl.length (p.funcs.length + 1)) fl.length (fl.flatMap Fu.cells) ∧ (∀ x ∈ fl, x.Cp wr) ∧ fl.map Fu.er = (p.funcs.take fl.length).map Fu.er ∧ (fl.flatMap Fu.bl).Nodup ∧ (∀ b ∈ fl.flatMap Fu.bl, F < b ∧ b < wr.heap.size) ∧ Kp F w5 wr ∧ Below B w wr) (fun _ t6 _ => p.funcs.length - (intOf t6).toNat)
  case atStart => exact ⟨[], rfl, Nat.zero_le _, rfl, HO5.out, by simp, by simp, by simp, by simp, Kp.refl _ _, hb5⟩
  case round =>
    clear HO5 hb5
    obtain ⟨fl, rfl, hle, rfl, hown, hcp, her, hnd, hbd, hkp, hb⟩ := hrel
    obtain ⟨j, hj⟩ : ∃ j, fl.length = j := ⟨_, rfl⟩
    have HJ : Hid (fl.length = j) := hj
    rw [hj] at hown hle her ⊢
    have HO : Hid (wr.ownsRow F 36 3 (.slice (some ⟨F, 0, none⟩) j (p.funcs.length + 1)) j (fl.flatMap Fu.cells)) := hown
    have HR : Hid ((∀ x ∈ fl, x.Cp wr) ∧ fl.map Fu.er = (p.funcs.take j).map Fu.er ∧ (fl.flatMap Fu.bl).Nodup ∧ (∀ b ∈ fl.flatMap Fu.bl, F < b ∧ b < wr.heap.size)) := ⟨hcp, her, hnd, hbd⟩
    have HKP : Hid (Kp F w5 wr) := hkp
    have BW : Hid (Below B w wr) := hb
    have hFw : F < wr.heap.size := owns_lt hown
    have hrB := (hkp.2 B (by omega) (by omega)).trans H5.out.1
    have k1 : wr.cell? ⟨B, 1, none⟩ = some (.slice p.fa p.funcs.length p.fc) := by rw [Lib.cell_of_heap hrB]; rfl
    clear hown hcp her hnd hbd hkp hb hj hrB
    by_cases hlt : j < p.funcs.length
    · have hli : (j : Int) < (p.funcs.length : Int) := by omega
      obtain ⟨b, o, ea, hcell⟩ := rowF_cells (XW.out wr BW.out).haveF.1.2.2 hlt
      have XI : Hid (∀ w', Below B w w' → p.funcs[j].In w') := fun w' h => (XW.out w' h).haveF.2 p.funcs[j] (List.getElem_mem hlt)
      have XF : Hid (p.funcs[j].Few) := HFW.out.2.2 _ (List.getElem_mem hlt)
      have HT : Hid ((p.funcs.take (j + 1)).map Fu.er = (p.funcs.take j).map Fu.er ++ [p.funcs[j].er]) := by
        show _ = _
        rw [List.take_succ_eq_append_getElem hlt, List.map_append]; rfl
      generalize p.funcs[j] = f at *
      have c0 := hcell 0 _ rfl
      have c1 := hcell 1 _ rfl
      have c2 := hcell 2 _ rfl
      simp only [← Nat.add_assoc, Nat.add_zero] at c0 c1 c2
      rw [ea] at k1
      clear hcell ea
      obtain ⟨g1, g2, g3, g4, g5, g6, _⟩ := XI.out w (Below.refl _ _)
      have HOK : Hid (f.name.size ≤ 140737488351232 ∧ ∀ p ∈ f.params, p.Ok) := ⟨g1, g6⟩
      have HNP : Hid (f.pa = none → f.params.length = 0) := fun h => by have := g4 h; omega
      have hp1 := XF.out.1
      clear g1 g4 g5 g6
      obtain ⟨X, hX⟩ : ∃ X, wr.heap.size = X := ⟨_, rfl⟩
      go_upto_region 12 with (at_make; refine wpList_make_own _ rfl _ _ 33 rfl (X + 1) 55 i1 _ 3 Tryd.underlying33 HI1.out hy0 hy1 _ _ _ (f.params.length + 1) rfl rfl (by omega) (by rw [hy2]; omega) (by unfold maxLen; omega) (by simp; omega) ?_; intro v1 hown1 hgrow1)
      have hsx : (wr.alloc (.cells #[.string f.name, .slice f.pa f.params.length f.pc, .slice f.ba f.body.length f.bc] 36)).heap.size = X + 1 := by simp [hX]
      rw [hsx] at hown1
      have h1X : v1.heap[X]? = some (.cells #[.string f.name, .slice f.pa f.params.length f.pc, .slice f.ba f.body.length f.bc] 36 (0, 0)) := (hgrow1.block X (by omega) (by simp)).trans (by rw [← hX]; exact heap_alloc_new _ _)
      have hK1 : ∀ k, k < X → v1.heap[k]? = wr.heap[k]? := fun k h => (hgrow1.block k (by omega) (by simp)).trans (Below.heap_alloc _ _ _ (by omega))
      have hb1 : Below B w v1 := (BW.out.alloc (by omega) _).grown hgrow1 (by omega) (fun k hk => by cases hk)
      have hs1 : X + 1 < v1.heap.size := owns_lt hown1
      have HX : Hid (wr.heap.size = X) := hX
      have hFX : F < X := by omega
      clear hgrow1 hsx c0 c1 c2 k1 hX hFw
      obtain ⟨Q, hQ⟩ : ∃ Q, X + 1 = Q := ⟨_, rfl⟩
      rw [hQ] at hown1 hs1 ⊢
      have hXQ : X < Q := by omega
      have m1 : v1.cell? ⟨X, 1, none⟩ = some (.slice f.pa f.params.length f.pc) := by rw [Lib.cell_of_heap h1X]; rfl
      have HO1 : Hid (v1.ownsRow Q 55 3 (.slice (some ⟨Q, 0, none⟩) 0 (f.params.length + 1)) 0 []) := hown1
      have HN1 : Hid (∀ ad, f.pa = some ad → ∀ j u, (f.params.flatMap Pa.cells)[j]? = some u → v1.cell? (ad.add j) = some u) := src_news (k := 3) (XI.out v1 hb1).2.2.2.2.1 (fun _ => rfl) (by decide)
      have HL1 : Hid ((f.params.flatMap Pa.cells).length = f.params.length * 3) := flat_len (f := Pa.cells) (k := 3) (fun _ => rfl) f.params
      have HC1 : Hid (∀ u ∈ f.params.flatMap Pa.cells, u.oneCell' = true) := fun u hu => by
        obtain ⟨z, _, hz⟩ := List.mem_flatMap.1 hu
        simp [Pa.cells] at hz
        rcases hz with rfl | rfl | rfl <;> rfl
      clear hown1 hQ
      go_upto_region 13 with (at_builtin; refine wpList_append_src _ rfl _ _ 33 rfl Q 55 i1 3 Tryd.underlying33 HI1.out hy1 Q 0 (f.params.length + 1) [] rfl HO1.out f.pa f.params.length f.pc (f.params.flatMap Pa.cells) rfl HL1.out HNP.out HN1.out HC1.out (by omega) ?_; intro v2 hown2 hgrow2)
      rw [Nat.zero_add, List.nil_append] at hown2
      have hK2 : Kp Q v1 v2 := (Kp.refl Q v1).grown hgrow2
      have hb2 : Below B w v2 := hb1.grown hgrow2 (by omega) (fun k hk => by simp at hk; omega)
      have hs2 : Q < v2.heap.size := owns_lt hown2
      have HO2 : Hid ((v2.alloc (.cells #[.string ⟨#[63]⟩, .int .i64 0, .int .i64 0] 55)).ownsRow Q 55 3 (.slice (some ⟨Q, 0, none⟩) f.params.length (f.params.length + 1)) f.params.length (f.params.flatMap Pa.cells)) := hown2.alloc _
      have HN2 : Hid (∀ i u, senP[i]? = some u → (v2.alloc (.cells #[.string ⟨#[63]⟩, .int .i64 0, .int .i64 0] 55)).cell? ((⟨v2.heap.size, 0, none⟩ : Addr).add i) = some u) := World.news_of_block (heap_alloc_new v2 _)
      have HC2 : Hid (∀ u ∈ senP, u.oneCell' = true) := List.all_eq_true.1 (show senP.all (fun u => u.oneCell') = true from rfl)
      clear hown2 hgrow2 HO1 HN1 HL1 HC1 m1
      go_upto_region 14 with (at_builtin; refine wpList_append_own_spare _ rfl _ _ 33 rfl Q 55 i1 3 Tryd.underlying33 HI1.out hy1 Q f.params.length (f.params.length + 1) (f.params.flatMap Pa.cells) rfl HO2.out ⟨v2.heap.size, 0, none⟩ 1 1 senP rfl rfl HN2.out HC2.out (by omega) ?_; intro v3 hown3 hgrow3)
      have hK3 : Kp Q v1 v3 := (hK2.alloc _).grown hgrow3
      have hb3 : Below B w v3 := (hb2.alloc (by omega) _).grown hgrow3 (by simp; omega) (fun k hk => by simp at hk; omega)
      have hs3 : Q < v3.heap.size := owns_lt hown3
      have h3Q : v3.heap[Q]? = some (.cells ⟨f.params.flatMap Pa.cells ++ senP⟩ 55 (0, 0)) := owns_full hown3
      have h3X := (hK3.2 X (by omega) (by omega)).trans h1X
      have HKO : Hid (∀ k, k < X → v3.heap[k]? = wr.heap[k]?) := fun k h => (hK3.2 k (by omega) (by omega)).trans (hK1 k h)
      clear hown3 hgrow3 HO2 HN2 HC2 hK2 hK3 hb1 hb2 h1X hK1 hs1 hs2
      have m1 : v3.cell? ⟨X, 1, none⟩ = some (.slice f.pa f.params.length f.pc) := by rw [Lib.cell_of_heap h3X]; rfl
      have m2 : v3.cell? ⟨X, 2, none⟩ = some (.slice f.ba f.body.length f.bc) := by rw [Lib.cell_of_heap h3X]; rfl
      have mf : ∀ i, v3.frozen? ⟨X, i, none⟩ = false := fun i => by simp [World.frozen?, h3X]
      go_wp2_with fail
      obtain ⟨V4, hV4⟩ : ∃ V4, v3.setCell ⟨X, 1, none⟩ (.slice (some ⟨Q, 0, none⟩) f.params.length (f.params.length + 1)) = V4 := ⟨_, rfl⟩
      rw [hV4]
      have hK4 : Kp X v3 V4 := by rw [← hV4]; exact (Kp.refl X v3).set 1 _
      have h4X : V4.heap[X]? = some (.cells #[.string f.name, .slice (some ⟨Q, 0, none⟩) f.params.length (f.params.length + 1), .slice f.ba f.body.length f.bc] 36 (0, 0)) := by rw [← hV4]; exact set_list h3X 1 _
      have hb4 : Below B w V4 := by rw [← hV4]; exact Below.setCell (p := ⟨X, 1, none⟩) hb3 (by show B ≤ X; omega) _
      have hs4 : Q < V4.heap.size := Nat.lt_of_lt_of_le hs3 hK4.1
      clear hV4 m1 m2 mf h3X hb3
      refine (stmtsOf_any f.body f.ba f.bc V4 (XI.out V4 hb4).2.2.2.2.2.2 XF.out.2.1 XF.out.2.2).mono ?_
      rintro e v5 ⟨⟨gB, lB, rfl, hr5, hc5, he5, hn5, hd5⟩, hb5⟩
      have PB : Hid (RowCp v5 (some ⟨gB, 0, none⟩) (f.body.length + 1) lB.length 216 43 (lB.flatMap St.cells ++ senS) ∧ (∀ y ∈ lB, y.Cp v5) ∧ erS lB = erS f.body ∧ (gB :: blS lB).Nodup ∧ (∀ b ∈ gB :: blS lB, Q < b ∧ b < v5.heap.size)) := ⟨hr5, hc5, he5, hn5, fun b hb => ⟨by have := (hd5 b hb).1; omega, (hd5 b hb).2⟩⟩
      have h5X := (hb5.block X (by omega)).trans h4X
      have H5Q : Hid (v5.heap[Q]? = some (.cells ⟨f.params.flatMap Pa.cells ++ senP⟩ 55 (0, 0))) := (hb5.block Q (by omega)).trans ((hK4.2 Q hs3 (by omega)).trans h3Q)
      have HK5 : Hid (∀ k, k < X → v5.heap[k]? = wr.heap[k]?) := fun k h => (hb5.block k (by omega)).trans ((hK4.2 k (by omega) (by omega)).trans (HKO.out k h))
      have hb5' : Below B w v5 := hb4.trans (hb5.mono (by omega))
      have hs5 : Q < v5.heap.size := Nat.lt_of_lt_of_le hs4 hb5.size
      clear hr5 hc5 he5 hn5 hd5 hb5 h4X hK4 hb4 hs4 h3Q hs3 HKO
      have m2 : v5.cell? ⟨X, 2, none⟩ = some (.slice f.ba f.body.length f.bc) := by rw [Lib.cell_of_heap h5X]; rfl
      have mf : ∀ i, v5.frozen? ⟨X, i, none⟩ = false := fun i => by simp [World.frozen?, h5X]
      go_upto_region 16 with fail
      obtain ⟨V6, hV6⟩ : ∃ V6, v5.setCell ⟨X, 2, none⟩ (.slice (some ⟨gB, 0, none⟩) f.body.length (f.body.length + 1)) = V6 := ⟨_, rfl⟩
      rw [hV6]
      have HK6 : Hid (Kp X v5 V6) := by rw [← hV6]; exact (Kp.refl X v5).set 2 _
      have h6X : V6.heap[X]? = some (.cells #[.string f.name, .slice (some ⟨Q, 0, none⟩) f.params.length (f.params.length + 1), .slice (some ⟨gB, 0, none⟩) f.body.length (f.body.length + 1)] 36 (0, 0)) := by rw [← hV6]; exact set_list h5X 2 _
      have HB6 : Hid (Below B w V6) := by rw [← hV6]; exact Below.setCell (p := ⟨X, 2, none⟩) hb5' (by show B ≤ X; omega) _
      have HS6 : Hid (V6.heap.size = v5.heap.size ∧ Q < v5.heap.size) := ⟨by rw [← hV6, size_set], hs5⟩
      clear hV6 m2 mf h5X hb5' hs5
      have n0 : V6.cell? ⟨X, 0, none⟩ = some (.string f.name) := by rw [Lib.cell_of_heap h6X]; rfl
      have n1 : V6.cell? ⟨X, 1, none⟩ = some (.slice (some ⟨Q, 0, none⟩) f.params.length (f.params.length + 1)) := by rw [Lib.cell_of_heap h6X]; rfl
      have n2 : V6.cell? ⟨X, 2, none⟩ = some (.slice (some ⟨gB, 0, none⟩) f.body.length (f.body.length + 1)) := by rw [Lib.cell_of_heap h6X]; rfl
      have HO7 : Hid ((V6.alloc (.cells #[.string f.name, .slice (some ⟨Q, 0, none⟩) f.params.length (f.params.length + 1), .slice (some ⟨gB, 0, none⟩) f.body.length (f.body.length + 1)] 36)).ownsRow F 36 3 (.slice (some ⟨F, 0, none⟩) j (p.funcs.length + 1)) j (fl.flatMap Fu.cells)) :=
        owns_heap HO.out ((Below.heap_alloc _ _ _ (by have := HS6.out; omega)).trans ((HK6.out.2 F (by have := HS6.out; omega) (by omega)).trans (HK5.out F hFX)))
      have HN7 : Hid (∀ i u, ([.string f.name, .slice (some ⟨Q, 0, none⟩) f.params.length (f.params.length + 1), .slice (some ⟨gB, 0, none⟩) f.body.length (f.body.length + 1)] : List Value)[i]? = some u → (V6.alloc (.cells #[.string f.name, .slice (some ⟨Q, 0, none⟩) f.params.length (f.params.length + 1), .slice (some ⟨gB, 0, none⟩) f.body.length (f.body.length + 1)] 36)).cell? ((⟨V6.heap.size, 0, none⟩ : Addr).add i) = some u) := World.news_of_block (heap_alloc_new V6 _)
      have HC7 : Hid (∀ u ∈ ([.string f.name, .slice (some ⟨Q, 0, none⟩) f.params.length (f.params.length + 1), .slice (some ⟨gB, 0, none⟩) f.body.length (f.body.length + 1)] : List Value), u.oneCell' = true) := List.all_eq_true.1 (show ([.string f.name, .slice (some ⟨Q, 0, none⟩) f.params.length (f.params.length + 1), .slice (some ⟨gB, 0, none⟩) f.body.length (f.body.length + 1)] : List Value).all (fun u => u.oneCell') = true from rfl)
      clear h6X
      go_wp2_with (at_builtin; refine wpList_append_own_spare _ rfl _ _ 23 rfl F 36 i2 3 Tryd.underlying23 HI2.out hx1 F j (p.funcs.length + 1) (fl.flatMap Fu.cells) rfl HO7.out ⟨V6.heap.size, 0, none⟩ 1 1 [.string f.name, .slice (some ⟨Q, 0, none⟩) f.params.length (f.params.length + 1), .slice (some ⟨gB, 0, none⟩) f.body.length (f.body.length + 1)] rfl rfl HN7.out HC7.out (by omega) ?_; intro v7 hown7 hgrow7)
      have HW7 : Hid (v7.ownsRow F 36 3 (.slice (some ⟨F, 0, none⟩) (j + 1) (p.funcs.length + 1)) (j + 1) (fl.flatMap Fu.cells ++ [.string f.name, .slice (some ⟨Q, 0, none⟩) f.params.length (f.params.length + 1), .slice (some ⟨gB, 0, none⟩) f.body.length (f.body.length + 1)])) := hown7
      have HK7 : Hid (V6.heap.size < v7.heap.size ∧ ∀ k, k < V6.heap.size → k ≠ F → v7.heap[k]? = V6.heap[k]?) := ⟨by have := hgrow7.size; simp at this; omega, fun k h1 h2 => (hgrow7.block k (by simp; omega) (by simpa using h2)).trans (Below.heap_alloc _ _ _ h1)⟩
      have BW7 : Hid (Below B w v7) := (HB6.out.alloc (by have := HS6.out; omega) _).grown hgrow7 (by have := HS6.out; simp; omega) (fun k hk => by simp at hk; omega)
      clear hown7 hgrow7 HO7 HN7 HC7 n0 n1 n2
      go_wp2_with fail
      go_roundw
      case rel =>
        obtain ⟨hrB, hcB, heB, hnB, hdB⟩ := PB.out
        obtain ⟨hcp, her, hnd, hbd⟩ := HR.out
        obtain ⟨hs7, hk7⟩ := HK7.out
        obtain ⟨hs6, hq5⟩ := HS6.out
        have hkp := HKP.out
        have hx := HX.out
        have hji := HJ.out
        have hlB : lB.length = f.body.length := erS_len heB
        obtain ⟨z, hzd⟩ : ∃ z : Fu, z = ⟨f.name, some ⟨Q, 0, none⟩, f.params.length + 1, f.params, some ⟨gB, 0, none⟩, f.body.length + 1, lB⟩ := ⟨_, rfl⟩
        have hzb : z.bl = Q :: gB :: blS lB := by rw [hzd]; rfl
        have hll : (fl ++ [z]).length = j + 1 := by simp; omega
        have f5 : ∀ k, X < k → k < v5.heap.size → v7.heap[k]? = v5.heap[k]? := fun k h1 h2 => (hk7 k (by omega) (by omega)).trans (HK6.out.2 k h2 (by omega))
        have fo : ∀ k, k < X → k ≠ F → v7.heap[k]? = wr.heap[k]? := fun k h1 h2 => (hk7 k (by omega) h2).trans ((HK6.out.2 k (by omega) (by omega)).trans (HK5.out k h1))
        have hbl : (fl ++ [z]).flatMap Fu.bl = fl.flatMap Fu.bl ++ (Q :: gB :: blS lB) := by rw [List.flatMap_append]; simp [hzb]
        refine ⟨fl ++ [z], ?_, ?_, ?_, ?_, ?_, ?_, ?_, ?_, ⟨by have := hkp.1; omega, fun k h1 h2 => (fo k (by have := hkp.1; omega) h2).trans (hkp.2 k h1 h2)⟩, BW7.out⟩
        · rw [hll]; go_num
        · rw [hll]; omega
        · rw [hll]
        · rw [hll, List.flatMap_append]
          have h7 := HW7.out
          rw [hzd]
          simpa [Fu.cells, hlB] using h7
        · intro y hy
          rcases List.mem_append.1 hy with hy | hy
          · refine (hcp y hy).kept fun b h => ?_
            have hb' := hbd b (List.mem_flatMap.2 ⟨y, hy, h⟩)
            exact fo b (by omega) (by omega)
          · obtain rfl := List.mem_singleton.1 hy
            rw [hzd]
            refine ⟨HOK.out.1, ⟨Q, rfl, rfl, by show (f.params.length + 1) * 32 ≤ _; omega, (f5 Q (by omega) hq5).trans H5Q.out⟩, HOK.out.2, hrB.keep (f5 gB (by have := hdB gB (List.mem_cons_self ..); omega) (hdB gB (List.mem_cons_self ..)).2), fun x hx => (hcB x hx).kept fun b h => ?_⟩
            have := hdB b (List.mem_cons_of_mem _ (by rw [blS_map]; exact List.mem_flatMap.2 ⟨x, hx, h⟩))
            exact f5 b (by omega) this.2
        · rw [hll, HT.out, ← her, List.map_append]
          simp only [List.map_cons, List.map_nil]
          rw [hzd]
          simp only [Fu.er, heB]
        · rw [hbl, List.nodup_append]
          refine ⟨hnd, List.nodup_cons.2 ⟨fun h => ?_, hnB⟩, fun p hp q hq => ?_⟩
          · have := hdB Q h; omega
          · have := hbd p hp
            rcases List.mem_cons.1 hq with hq | hq
            · omega
            · have := hdB q hq; omega
        · intro b h
          rw [hbl] at h
          rcases List.mem_append.1 h with h | h
          · have := hbd b h; omega
          rcases List.mem_cons.1 h with h | h
          · omega
          · have := hdB b h; omega
      case measure => simp [intOf]; omega
    · obtain rfl : j = p.funcs.length := by omega
      have HO9 : Hid ((wr.alloc (.cells #[.string ⟨#[63]⟩, .slice none 0 0, .slice none 0 0] 36)).ownsRow F 36 3 (.slice (some ⟨F, 0, none⟩) p.funcs.length (p.funcs.length + 1)) p.funcs.length (fl.flatMap Fu.cells)) := HO.out.alloc _
      have HN9 : Hid (∀ i u, senF[i]? = some u → (wr.alloc (.cells #[.string ⟨#[63]⟩, .slice none 0 0, .slice none 0 0] 36)).cell? ((⟨wr.heap.size, 0, none⟩ : Addr).add i) = some u) := World.news_of_block (heap_alloc_new wr _)
      have HC9 : Hid (∀ u ∈ senF, u.oneCell' = true) := List.all_eq_true.1 (show senF.all (fun u => u.oneCell') = true from rfl)
      go_upto_region 18 with (at_builtin; refine wpList_append_own_spare _ rfl _ _ 23 rfl F 36 i2 3 Tryd.underlying23 HI2.out hx1 F p.funcs.length (p.funcs.length + 1) (fl.flatMap Fu.cells) rfl HO9.out ⟨wr.heap.size, 0, none⟩ 1 1 senF rfl rfl HN9.out HC9.out (by omega) ?_; intro w9 hown9 hgrow9)
      have hK9 : Kp F wr w9 := ((Kp.refl F wr).alloc _).grown hgrow9
      have hK59 : Kp F w5 w9 := HKP.out.trans hK9
      have hb9 : Below B w w9 := (BW.out.alloc (by omega) _).grown hgrow9 (by simp; omega) (fun k hk => by simp at hk; omega)
      have h9F : w9.heap[F]? = some (.cells ⟨fl.flatMap Fu.cells ++ senF⟩ 36 (0, 0)) := owns_full hown9
      have hs9 : F < w9.heap.size := owns_lt hown9
      have h9B := (hK59.2 B (by omega) (by omega)).trans H5.out.1
      have h9R := (hK59.2 R (by omega) (by omega)).trans H5.out.2.1
      have h9O := (hK59.2 O (by omega) (by omega)).trans H5.out.2.2.1
      have H9 : Hid (Kp F wr w9 ∧ w9.heap[D]? = some (.cells ⟨p.widen.flatMap cI ++ [.int .i64 (-77)]⟩ 2 (0, 0)) ∧ w9.heap[F]? = some (.cells ⟨fl.flatMap Fu.cells ++ senF⟩ 36 (0, 0)) ∧ F < w9.heap.size) := ⟨hK9, (hK59.2 D (by omega) (by omega)).trans H5.out.2.2.2, h9F, hs9⟩
      clear hown9 hgrow9 HO9 HN9 HC9 hK59 hK9 h9F k1
      have m1 : w9.cell? ⟨B, 1, none⟩ = some (.slice p.fa p.funcs.length p.fc) := by rw [Lib.cell_of_heap h9B]; rfl
      have o0 : w9.cell? ⟨O, 0, none⟩ = some (.slice (some ⟨D, 0, none⟩) p.widen.length (p.widen.length + 1)) := by rw [Lib.cell_of_heap h9O]; rfl
      have o1 : w9.cell? ⟨O, 1, none⟩ = some (.slice none 0 0) := by rw [Lib.cell_of_heap h9O]; rfl
      have of : ∀ i, w9.frozen? ⟨O, i, none⟩ = false := fun i => by simp [World.frozen?, h9O]
      have r0 : w9.cell? ⟨R, 0, none⟩ = some (.slice none 0 0) := by rw [Lib.cell_of_heap h9R]; rfl
      have r1 : w9.cell? ⟨R, 1, none⟩ = some (.slice none 0 0) := by rw [Lib.cell_of_heap h9R]; rfl
      have rf : ∀ i, w9.frozen? ⟨R, i, none⟩ = false := fun i => by simp [World.frozen?, h9R]
      have hor : O ≠ R := by omega
      have hor' : R ≠ O := by omega
      clear h9B h9R h9O
      go_wp2_with fail
      refine bodyPost_ret (v := .agg #[.slice (some ⟨D, 0, none⟩) p.widen.length (p.widen.length + 1), .slice (some ⟨F, 0, none⟩) p.funcs.length (p.funcs.length + 1)]) (by simp [results, Tryd.results6, go_sem, r0, r1]) rfl ?_
      have hB := HBB.out
      obtain ⟨hK9, h9D, h9F, _⟩ := H9.out
      obtain ⟨hcp, her, hnd, hbd⟩ := HR.out
      have hji := HJ.out
      have kk : ∀ k, k ≠ O → k ≠ R → (((w9.setCell ⟨O, 1, none⟩ (.slice (some ⟨F, 0, none⟩) p.funcs.length (p.funcs.length + 1))).setCell ⟨R, 0, none⟩ (.slice (some ⟨D, 0, none⟩) p.widen.length (p.widen.length + 1))).setCell ⟨R, 1, none⟩ (.slice (some ⟨F, 0, none⟩) p.funcs.length (p.funcs.length + 1))).heap[k]? = w9.heap[k]? := fun k h1 h2 => by
        rw [Below.heap_setCell _ _ _ _ h2, Below.heap_setCell _ _ _ _ h2, Below.heap_setCell _ _ _ _ h1]
      have hsz : (((w9.setCell ⟨O, 1, none⟩ (.slice (some ⟨F, 0, none⟩) p.funcs.length (p.funcs.length + 1))).setCell ⟨R, 0, none⟩ (.slice (some ⟨D, 0, none⟩) p.widen.length (p.widen.length + 1))).setCell ⟨R, 1, none⟩ (.slice (some ⟨F, 0, none⟩) p.funcs.length (p.funcs.length + 1))).heap.size = w9.heap.size := by rw [size_set, size_set, size_set]
      refine ⟨⟨⟨some ⟨D, 0, none⟩, p.widen.length + 1, p.widen, some ⟨F, 0, none⟩, p.funcs.length + 1, fl⟩, ?_, ⟨⟨D, rfl, rfl, by show (p.widen.length + 1) * 8 ≤ _; omega, (kk D (by omega) (by omega)).trans h9D⟩, (XW.out w (Below.refl _ _)).2.2.2.2.1, ⟨F, rfl, by show p.funcs.length + 1 = fl.length + 1; omega, by show (p.funcs.length + 1) * 64 ≤ _; omega, (kk F (by omega) (by omega)).trans h9F⟩, fun y hy => (hcp y hy).kept fun b hb => ?_⟩, ?_, ?_, ?_⟩, ?_⟩
      · simp only [hji]
      · have := hbd b (List.mem_flatMap.2 ⟨y, hy, hb⟩)
        exact (kk b (by omega) (by omega)).trans (hK9.2 b this.2 (by omega))
      · simp only [Pr.er, her, List.take_length]
      · refine List.nodup_cons.2 ⟨fun h => ?_, List.nodup_cons.2 ⟨fun h => ?_, hnd⟩⟩
        · rcases List.mem_cons.1 h with h | h
          · have : D = F := h
            omega
          · have := hbd D h; omega
        · have := hbd F h; omega
      · intro b h
        rw [hsz]
        have := hK9.1
        rcases List.mem_cons.1 h with h | h
        · have : b = D := h
          omega
        rcases List.mem_cons.1 h with h | h
        · have : b = F := h
          omega
        · have := hbd b h; omega
      · rw [hB]
        exact Below.setCell (p := ⟨R, 1, none⟩) (Below.setCell (p := ⟨R, 0, none⟩) (Below.setCell (p := ⟨O, 1, none⟩) hb9 (by show B ≤ O; omega) _) (by show B ≤ R; omega) _) (by show B ≤ R; omega) _
end Go.Proofs.YtakaldbhaoidiaaDoor

/- A copy stays a copy; programs that have a form are few enough to be copied. -/
namespace Go.Proofs.YtakaldbhaoidiaaDoor
open Go.RowKit Go.Sort

theorem RowCp.lt {W : World} {a : Option Addr} {c n B : Nat} {T : TypeId} {cs : List Value} (h : RowCp W a c n B T cs) : blk a < W.heap.size := by
  obtain ⟨g, rfl, _, _, h3⟩ := h
  exact (Array.getElem?_eq_some_iff.1 h3).1
theorem Ex.Cp.lt {W : World} : ∀ (k : Nat) (x : Ex), x.sz ≤ k → x.Cp W → ∀ b ∈ x.bl, b < W.heap.size := by
  intro k
  induction k with
  | zero => intro x hk; have := x.sz_args; omega
  | succ k ih =>
    intro x hk h b hb
    obtain ⟨_, _, _, h4, h5⟩ := Ex.cp_iff.1 h
    rw [x.bl_eq] at hb
    rcases List.mem_cons.1 hb with rfl | hb
    · exact h4.lt
    · rw [blL_map] at hb
      obtain ⟨y, hy, hb⟩ := List.mem_flatMap.1 hb
      exact ih y (by have := x.sz_args; have := szL_mem hy; omega) (h5 y hy) b hb
theorem Ex.Cp.stay {W W' : World} {x : Ex} (h : x.Cp W) (hb : Below W.heap.size W W') : x.Cp W' := h.kept fun b hx => hb.block b (Ex.Cp.lt _ x (Nat.le_refl _) h b hx)
theorem RowCp.stay {W W' : World} {a : Option Addr} {c n B : Nat} {T : TypeId} {cs : List Value} (h : RowCp W a c n B T cs) (hb : Below W.heap.size W W') : RowCp W' a c n B T cs := h.keep (hb.block _ h.lt)

theorem cp_lt {W : World} (k : Nat) : (∀ s : St, s.sz ≤ k → s.Cp W → ∀ b ∈ s.bl, b < W.heap.size) ∧ (∀ c : Ca, c.sz ≤ k → c.Cp W → ∀ b ∈ c.bl, b < W.heap.size) := by
  induction k with
  | zero => exact ⟨fun s h => by have := s.sz_eq; omega, fun c h => by have := c.sz_eq; omega⟩
  | succ k ih =>
    refine ⟨fun s hk h b hb => ?_, fun c hk h b hb => ?_⟩
    · obtain ⟨h1, h2, h3, h4, h5, h6, h7, h8, h9, h10, h11⟩ := St.cp_iff.1 h
      have := s.sz_eq
      rw [s.bl_eq] at hb
      rcases List.mem_append.1 hb with hb | hb
      · exact Ex.Cp.lt _ s.a (Nat.le_refl _) h4 b hb
      rcases List.mem_append.1 hb with hb | hb
      · exact Ex.Cp.lt _ s.b (Nat.le_refl _) h5 b hb
      rcases List.mem_append.1 hb with hb | hb
      · rcases List.mem_cons.1 hb with rfl | hb
        · exact h6.lt
        · rw [blS_map] at hb
          obtain ⟨x, hx, hb⟩ := List.mem_flatMap.1 hb
          exact ih.1 x (by have := ssz_mem hx; omega) (h9 x hx) b hb
      rcases List.mem_append.1 hb with hb | hb
      · rcases List.mem_cons.1 hb with rfl | hb
        · exact h7.lt
        · rw [blS_map] at hb
          obtain ⟨x, hx, hb⟩ := List.mem_flatMap.1 hb
          exact ih.1 x (by have := ssz_mem hx; omega) (h10 x hx) b hb
      rcases List.mem_cons.1 hb with rfl | hb
      · exact h8.lt
      · rw [blC_map] at hb
        obtain ⟨x, hx, hb⟩ := List.mem_flatMap.1 hb
        exact ih.2 x (by have := csz_mem hx; omega) (h11 x hx) b hb
    · obtain ⟨h1, h2, h3⟩ := Ca.cp_iff.1 h
      have := c.sz_eq
      rw [c.bl_eq] at hb
      rcases List.mem_cons.1 hb with rfl | hb
      · exact h2.lt
      · rw [blS_map] at hb
        obtain ⟨x, hx, hb⟩ := List.mem_flatMap.1 hb
        exact ih.1 x (by have := ssz_mem hx; omega) (h3 x hx) b hb
theorem Fu.Cp.lt {W : World} {f : Fu} (h : f.Cp W) : ∀ b ∈ f.bl, b < W.heap.size := by
  obtain ⟨_, h2, _, h4, h5⟩ := h
  intro b hb
  unfold Fu.bl at hb
  rcases List.mem_cons.1 hb with rfl | hb
  · exact h2.lt
  rcases List.mem_cons.1 hb with rfl | hb
  · exact h4.lt
  rw [blS_map] at hb
  obtain ⟨x, hx, hb⟩ := List.mem_flatMap.1 hb
  exact (cp_lt _).1 x (Nat.le_refl _) (h5 x hx) b hb
theorem Fu.Cp.stay {W W' : World} {f : Fu} (h : f.Cp W) (hb : Below W.heap.size W W') : f.Cp W' := h.kept fun b hx => hb.block b (h.lt b hx)
theorem Pr.Cp.stay {W W' : World} {p : Pr} (h : p.Cp W) (hb : Below W.heap.size W W') : p.Cp W' := by
  obtain ⟨h1, h2, h3, h4⟩ := h
  exact ⟨h1.stay hb, h2, h3.stay hb, fun f hf => (h4 f hf).stay hb⟩
/-- A new block reads as it was laid. -/
theorem new_at {w w' : World} {cs : Array Value} {t : TypeId} (hb : Below (w.alloc (.cells cs t)).heap.size (w.alloc (.cells cs t)) w') {j : Nat} {v : Value} (h : cs[j]? = some v) : w'.cell? ⟨w.heap.size, j, none⟩ = some v := by
  rw [hb.cell (p := ⟨w.heap.size, j, none⟩) (by simp), World.cell?_alloc_at _ _ _ _ rfl]; exact h
theorem szL_le (l : List Ex) : l.length ≤ szL l := by
  induction l with
  | nil => simp
  | cons x r ih => rw [szL, List.length_cons]; have := x.sz_args; omega
theorem fewE_q (k : Nat) (hk : k ≤ 1048576) : ∀ x : Ex, x.sz ≤ k → x.Few := by
  induction k with
  | zero => intro x h; have := x.sz_args; omega
  | succ k ih =>
    intro x h
    have := x.sz_args
    refine Ex.few_iff.2 ⟨by have := szL_le x.args; omega, fun y hy => ih (by omega) y (by have := szL_mem hy; omega)⟩
mutual
theorem fewS_q : ∀ s : St, qS s ≤ 12288 → s.Few
  | .mk kd nm n a b ba bc l ea ec e ca cc c, h => by
    rw [qS] at h
    rw [St.Few]
    obtain ⟨l1, l2⟩ := fewSs_q l (by omega)
    obtain ⟨e1, e2⟩ := fewSs_q e (by omega)
    obtain ⟨c1, c2⟩ := fewCs_q c (by omega)
    exact ⟨fewE_q 12288 (by omega) a (by omega), fewE_q 12288 (by omega) b (by omega), by omega, l2, by omega, e2, by omega, c2⟩
theorem fewC_q : ∀ c : Ca, qSs c.body ≤ 12288 → c.Few
  | .mk n ba bc l, h => by
    rw [Ca.Few]
    have h : qSs l ≤ 12288 := h
    obtain ⟨l1, l2⟩ := fewSs_q l h
    exact ⟨by omega, l2⟩
theorem fewSs_q : ∀ l : List St, qSs l ≤ 12288 → l.length ≤ qSs l ∧ FewS l
  | [], _ => by simp [FewS]
  | x :: r, h => by
    rw [qSs] at h
    have hx := qS_pos x
    obtain ⟨r1, r2⟩ := fewSs_q r (by omega)
    rw [FewS, qSs, List.length_cons]
    exact ⟨by omega, fewS_q x (by omega), r2⟩
theorem fewCs_q : ∀ l : List Ca, qCs l ≤ 12288 → l.length ≤ qCs l ∧ FewC l
  | [], _ => by simp [FewC]
  | .mk n ba bc l :: r, h => by
    rw [qCs, qC] at h
    obtain ⟨r1, r2⟩ := fewCs_q r (by omega)
    rw [FewC, qCs, qC, List.length_cons]
    exact ⟨by omega, fewC_q _ (by show qSs l ≤ _; omega), r2⟩
end
theorem few_check {p : Pr} (h : (checkZ p).1 = 0) : p.Few := by
  obtain ⟨h1, h2⟩ := check_room h
  have hw : p.widen.length ≤ 16 := by
    unfold checkZ at h
    split at h
    · rename_i h0; exact absurd h h0
    · rename_i h0
      have h0 : wholeZ p = 0 := by simpa using h0
      unfold wholeZ at h0
      split at h0
      · omega
      · omega
  refine ⟨by omega, by omega, fun f hf => ?_⟩
  obtain ⟨a, b⟩ := h2 f hf
  obtain ⟨l1, l2⟩ := fewSs_q f.body a
  exact ⟨by omega, by omega, fewS_mem.1 l2⟩
end Go.Proofs.YtakaldbhaoidiaaDoor

/- One function of a program within an if: what is said of the whole. -/
namespace Go.Proofs.YtakaldbhaoidiaaDoor
open Go.RowKit Go.Sort

/-- A program with another function at a place. -/
def Pr.setF (q : Pr) (k : Nat) (F : Fu) : Pr := ⟨q.wa, q.wc, q.widen, q.fa, q.fc, q.funcs.set k F⟩
theorem ftK_set {fs : List Fu} {k : Nat} {F : Fu} (hk : k < fs.length) (hn : F.name = fs[k].name) : ∀ j, ftK (fs.set k F) j = ftK fs j
  | 0 => rfl
  | j + 1 => by
    rw [ftK, ftK, ftK_set hk hn j]
    by_cases e : j = k
    · subst e
      rw [List.getElem?_set_self hk, List.getElem?_eq_getElem hk]
      simp only [hn]
    · rw [List.getElem?_set_ne (Ne.symm e)]
/-- A statement's number one greater, in one function. -/
def bump (k : Nat) (r : Int × Int × Int) : Int × Int × Int := if r.1 ≠ 0 ∧ r.2.1 = k ∧ 0 < r.2.2 then (r.1, r.2.1, r.2.2 + 1) else r
theorem bump_e (k : Nat) (r : Int × Int × Int) : (bump k r).1 = r.1 := by unfold bump; split <;> rfl
theorem lkZ_wrap {fs : List Fu} {k : Nat} (hk : k < fs.length) (a : Option Addr) (c : Nat) : ∀ (d j : Nat), j + d = fs.length → lkZ (fs.set k (fs[k].wrap a c)) ((fs.set k (fs[k].wrap a c)).drop j) j = bump k (lkZ fs (fs.drop j) j)
  | 0, j, hd => by
    rw [List.drop_eq_nil_of_le (by rw [List.length_set]; omega), List.drop_eq_nil_of_le (by omega), lkZ, lkZ]
    rfl
  | d + 1, j, hd => by
    have h1 : j < fs.length := by omega
    have h2 : j < (fs.set k (fs[k].wrap a c)).length := by rw [List.length_set]; exact h1
    rw [lkZ_drop h2, lkZ_drop h1, lkZ_wrap hk a c d (j + 1) (by omega)]
    have hft : ∀ f, fnK (fs.set k (fs[k].wrap a c)) j f = fnK fs j f := fun f => by unfold fnK; rw [ftK_set (F := fs[k].wrap a c) hk rfl]
    rw [hft]
    by_cases e : j = k
    · subst e
      rw [List.getElem_set_self]
      obtain ⟨a1, _, a3⟩ := fn_wrap (ftK fs j) fs[j] a c
      have b1 : (fnK fs j (fs[j].wrap a c)).e = (fnK fs j fs[j]).e := a1
      have b3 : (fnK fs j fs[j]).e ≠ 0 → (fnK fs j (fs[j].wrap a c)).m = if 0 < (fnK fs j fs[j]).m then (fnK fs j fs[j]).m + 1 else (fnK fs j fs[j]).m := a3
      rw [b1]
      by_cases h0 : (fnK fs j fs[j]).e = 0
      · rw [if_neg (by simpa using h0), if_neg (by simpa using h0)]
      · rw [if_pos h0, if_pos h0, b3 h0]
        unfold bump
        by_cases hm : 0 < (fnK fs j fs[j]).m
        · rw [if_pos hm, if_pos ⟨h0, rfl, hm⟩]
        · rw [if_neg hm, if_neg (fun h => hm h.2.2)]
    · rw [List.getElem_set_ne (Ne.symm e)]
      by_cases h0 : (fnK fs j fs[j]).e = 0
      · rw [if_neg (by simpa using h0), if_neg (by simpa using h0)]
      · rw [if_pos h0, if_pos h0]
        unfold bump
        rw [if_neg (fun h => e (by have := h.2.1; simp only at this; omega))]
theorem nam_wrap {q : Pr} {k : Nat} (hk : k < q.funcs.length) (a : Option Addr) (c : Nat) (h1 : (checkZ q).1 = 0) (h2 : (checkZ (q.setF k (q.funcs[k].wrap a c))).1 = 0) : namZ (q.setF k (q.funcs[k].wrap a c)) = bump k (namZ q) := by
  unfold namZ
  rw [if_neg (show ¬ (checkZ (q.setF k (q.funcs[k].wrap a c))).1 ≠ 0 by simpa using h2), if_neg (show ¬ (checkZ q).1 ≠ 0 by simpa using h1)]
  have := lkZ_wrap hk a c q.funcs.length 0 (by omega)
  rw [List.drop_zero, List.drop_zero] at this
  exact this
/-- Which functions are all right, where names are. -/
theorem lk_right {fs : List Fu} : ∀ (d k : Nat), k + d = fs.length → (lkZ fs (fs.drop k) k).1 = 0 → ∀ (j : Nat) (f : Fu), k ≤ j → fs[j]? = some f → (fnK fs j f).e = 0
  | 0, k, hd, _, j, f, hj, hf => by have := (List.getElem?_eq_some_iff.1 hf).1; omega
  | d + 1, k, hd, h, j, f, hj, hf => by
    rw [lkZ_drop (by omega)] at h
    have h0 : (fnK fs k fs[k]).e = 0 := by
      by_cases h0 : (fnK fs k fs[k]).e = 0
      · exact h0
      · rw [if_pos h0] at h; exact absurd h h0
    rw [if_neg (by simpa using h0)] at h
    by_cases e : j = k
    · subst e
      rw [List.getElem?_eq_getElem (by omega)] at hf
      rw [← Option.some.inj hf]; exact h0
    · exact lk_right d (k + 1) (by omega) h j f (by omega) hf
theorem cl_wrap {q : Pr} {k : Nat} (hk : k < q.funcs.length) (a : Option Addr) (c : Nat) (h1 : (checkZ q).1 = 0) (h2 : (checkZ (q.setF k (q.funcs[k].wrap a c))).1 = 0) : clN (q.setF k (q.funcs[k].wrap a c)) k = clN q k := by
  unfold clN
  rw [nam_wrap hk a c h1 h2, bump_e]
  show (if (namZ q).1 ≠ 0 ∨ (k : Int) < 0 ∨ ((q.funcs.set k (q.funcs[k].wrap a c)).length : Int) ≤ k then [] else match (q.funcs.set k (q.funcs[k].wrap a c))[(k : Int).toNat]? with | some f => Lib.compact (sortI (fnK (q.funcs.set k (q.funcs[k].wrap a c)) (k : Int).toNat f).c) | none => []) = _
  rw [List.length_set]
  by_cases hz : (namZ q).1 = 0
  · rw [if_neg (by omega), if_neg (by omega), Int.toNat_natCast, List.getElem?_set_self hk, List.getElem?_eq_getElem hk]
    show Lib.compact (sortI (fnK (q.funcs.set k (q.funcs[k].wrap a c)) k (q.funcs[k].wrap a c)).c) = Lib.compact (sortI (fnK q.funcs k q.funcs[k]).c)
    have he : (fnK q.funcs k q.funcs[k]).e = 0 := by
      have hl : (lkZ q.funcs q.funcs 0).1 = 0 := by
        unfold namZ at hz
        rw [if_neg (by simpa using h1)] at hz
        exact hz
      exact lk_right q.funcs.length 0 (by omega) (by rw [List.drop_zero]; exact hl) k _ (by omega) (List.getElem?_eq_getElem hk)
    have : (fnK (q.funcs.set k (q.funcs[k].wrap a c)) k (q.funcs[k].wrap a c)).c = (fnK q.funcs k q.funcs[k]).c := by
      unfold fnK
      rw [ftK_set (F := q.funcs[k].wrap a c) hk rfl, (fn_wrap (ftK q.funcs k) q.funcs[k] a c).2.1]
      exact if_pos he
    rw [this]
  · rw [if_pos (Or.inl hz), if_pos (Or.inl hz)]
theorem flat_set {α : Type} {f : α → List Value} {n : Nat} (hf : ∀ x, (f x).length = n) (r : List Value) (y : α) (v : Value) : ∀ (l : List α) (k j : Nat) (x : α), l[k]? = some x → j < n → f y = (f x).set j v → ((l.set k y).flatMap f ++ r) = (l.flatMap f ++ r).set (k * n + j) v
  | [], k, j, x, h, _, _ => by simp at h
  | z :: l, 0, j, x, h, hj, hy => by
    simp only [List.getElem?_cons_zero, Option.some.injEq] at h
    subst h
    rw [List.set_cons_zero, List.flatMap_cons, List.flatMap_cons, hy, List.append_assoc, List.append_assoc, Nat.zero_mul, Nat.zero_add, List.set_append_left _ _ (by rw [hf]; exact hj)]
  | z :: l, k + 1, j, x, h, hj, hy => by
    have hle : (f z).length ≤ (k + 1) * n + j := by rw [hf, Nat.succ_mul]; omega
    rw [List.set_cons_succ, List.flatMap_cons, List.flatMap_cons, List.append_assoc, List.append_assoc, flat_set hf r y v l k j x (by simpa using h) hj hy, List.set_append_right _ _ hle, hf, show (k + 1) * n + j - n = k * n + j by rw [Nat.succ_mul]; omega]
theorem Pr.Cp.lt {W : World} {p : Pr} (h : p.Cp W) : ∀ b ∈ p.bl, b < W.heap.size := by
  obtain ⟨h1, _, h3, h4⟩ := h
  intro b hb
  unfold Pr.bl at hb
  rcases List.mem_cons.1 hb with rfl | hb
  · exact h1.lt
  rcases List.mem_cons.1 hb with rfl | hb
  · exact h3.lt
  obtain ⟨f, hf, hb⟩ := List.mem_flatMap.1 hb
  exact (h4 f hf).lt b hb
/-- A copy with one function's body within an if: it lies as it should. -/
theorem wrap_in {W W' : World} {q : Pr} {k : Nat} (hc : q.Cp W) (hnd : q.bl.Nodup) (hk : k < q.funcs.length) {arr : Array Value} (harr : arr = (wS q.funcs[k].ba q.funcs[k].bc q.funcs[k].body).cells.toArray)
    (hW' : ∀ b ∈ W.heap.size :: q.bl, W'.heap[b]? = ((W.alloc (.cells arr 43)).setCell ⟨blk q.fa, k * 3 + 2, none⟩ (.slice (some ⟨W.heap.size, 0, none⟩) 1 1)).heap[b]?) :
    (q.setF k (q.funcs[k].wrap (some ⟨W.heap.size, 0, none⟩) 1)).In W' := by
  have hlt0 := hc.lt
  obtain ⟨h1, h2, h3, h4⟩ := hc
  obtain ⟨gF, hfa, hfc, hfb, hF⟩ := h3
  have hblk : blk q.fa = gF := by rw [hfa]; rfl
  have hlt : gF < W.heap.size := (Array.getElem?_eq_some_iff.1 hF).1
  rw [hblk] at hW'
  have hin : gF ∈ q.bl := by unfold Pr.bl; rw [hblk]; simp
  have hinf : ∀ f ∈ q.funcs, ∀ b ∈ f.bl, b ∈ q.bl := fun f hf b hb => by
    unfold Pr.bl
    exact List.mem_cons_of_mem _ (List.mem_cons_of_mem _ (List.mem_flatMap.2 ⟨f, hf, hb⟩))
  have hinw : blk q.wa ∈ q.bl := by unfold Pr.bl; simp
  have keep : ∀ b ∈ q.bl, b ≠ gF → W'.heap[b]? = W.heap[b]? := fun b hb hne => (hW' b (List.mem_cons_of_mem _ hb)).trans ((Below.heap_setCell _ _ _ _ hne).trans (Lib.alloc_old _ _ b (hlt0 b hb)))
  unfold Pr.bl at hnd
  rw [hblk] at hnd
  have hnd2 := (List.nodup_cons.1 (List.nodup_cons.1 hnd).2).1
  have hnw := (List.nodup_cons.1 hnd).1
  have hfu : ∀ f ∈ q.funcs, f.Cp W' := fun f hf => by
    exact (h4 f hf).kept fun b hb => keep b (hinf f hf b hb) (fun e => hnd2 (List.mem_flatMap.2 ⟨f, hf, by rw [← e]; exact hb⟩))
  obtain ⟨gw, hwa, hwc, hwb, hWB⟩ := h1
  have hgw : gw ≠ gF := fun e => hnw (by rw [hwa]; show gw ∈ _; rw [e]; simp)
  have r1 : RowIn _ q.wa 1 _ := (RowCp.keep (W' := W') ⟨gw, hwa, hwc, hwb, hWB⟩ (by rw [hwa] at hinw ⊢; exact keep gw hinw hgw)).row (k := 1) (fun x => rfl)
  have hFk := hfu q.funcs[k] (List.getElem_mem hk)
  have hnew : W'.heap[W.heap.size]? = some (.cells arr 43 (0, 0)) := (hW' _ (by simp)).trans ((Below.heap_setCell _ _ _ _ (show W.heap.size ≠ gF by omega)).trans (heap_alloc_new _ _))
  have hFI := hFk.in
  have hwi : (wS q.funcs[k].ba q.funcs[k].bc q.funcs[k].body).In W' := St.in_iff.2 ⟨i5, n0, i0, Ex.in_iff.2 ⟨i1, i1, n0, Nat.le_refl _, n0, fun _ => rfl, rowIn_nil, fun y hy => by cases hy⟩, zEx_in _, hFI.2.2.2.2.2.2, have_nil _, ⟨Nat.le_refl _, n0, fun _ => rfl, rowIn_nil⟩, fun y hy => by cases hy⟩
  have hFn : W'.heap[gF]? = some (.cells ⟨(q.funcs.set k (q.funcs[k].wrap (some ⟨W.heap.size, 0, none⟩) 1)).flatMap Fu.cells ++ senF⟩ 36 (0, 0)) := by
    rw [hW' gF (List.mem_cons_of_mem _ hin)]
    have h0 := (Lib.alloc_old W (.cells arr 43) gF hlt).trans hF
    have hs := flat_set (f := Fu.cells) (n := 3) (fun x => rfl) senF (q.funcs[k].wrap (some ⟨W.heap.size, 0, none⟩) 1) (.slice (some ⟨W.heap.size, 0, none⟩) 1 1) q.funcs k 2 q.funcs[k] (List.getElem?_eq_getElem hk) (by decide) rfl
    rw [hs]
    simp [World.setCell, Array.getElem?_modify, h0]
  have r2 : RowIn W' (some ⟨gF, 0, none⟩) 3 ((q.funcs.set k (q.funcs[k].wrap (some ⟨W.heap.size, 0, none⟩) 1)).map Fu.cells) := rowIn_block hFn (.inr ⟨senF, by rw [List.flatMap]⟩) (lenF _)
  refine ⟨?_, hwb, fun h => ?_, r1, h2, ?_, hfb, fun h => ?_, ?_, fun f hf => ?_⟩
  · show q.widen.length ≤ q.wc; omega
  · have h' : q.wa = none := h
    rw [hwa] at h'; cases h'
  · show (q.funcs.set k _).length ≤ q.fc
    rw [List.length_set]; omega
  · have h' : q.fa = none := h
    rw [hfa] at h'; cases h'
  · show RowIn _ q.fa 3 _
    rw [hfa]; exact r2
  · rcases List.mem_or_eq_of_mem_set hf with h | h
    · exact (hfu f h).in
    · subst h
      refine ⟨hFI.1, hFI.2.1, hFI.2.2.1, hFI.2.2.2.1, hFI.2.2.2.2.1, hFI.2.2.2.2.2.1, ⟨⟨by show 1 ≤ 1; decide, by show 1 * 216 ≤ 140737488351232; decide, (fun e => by cases e), rowIn_block (rows := [(wS q.funcs[k].ba q.funcs[k].bc q.funcs[k].body).cells]) hnew (.inl (by rw [harr]; simp)) (lenS [wS q.funcs[k].ba q.funcs[k].bc q.funcs[k].body])⟩, fun s hs => ?_⟩⟩
      rcases List.mem_singleton.1 (show s ∈ [wS q.funcs[k].ba q.funcs[k].bc q.funcs[k].body] from hs) with rfl
      exact hwi
end Go.Proofs.YtakaldbhaoidiaaDoor

/- A function with one statement more: what names' looks come to. -/
namespace Go.Proofs.YtakaldbhaoidiaaDoor
open Go.RowKit Go.Sort

theorem lsS_one (ft : List (List UInt8 × Int)) (x : St) (env : Env) (m : Int) : lsS ft [x] env m = stS ft x env (m + 1) := by
  rw [lsS]
  split
  · rfl
  · rename_i h
    have h : (stS ft x env (m + 1)).e = 0 := by simpa using h
    rw [lsS]
    simp only [List.append_nil]
    rw [← h]
/-- Statements that are right, and one more. -/
theorem lsS_app (ft : List (List UInt8 × Int)) (x : St) : ∀ (l : List St) (env : Env) (m : Int), (lsS ft l env m).e = 0 →
    lsS ft (l ++ [x]) env m = ⟨(stS ft x (lsS ft l env m).env ((lsS ft l env m).m + 1)).e, (stS ft x (lsS ft l env m).env ((lsS ft l env m).m + 1)).m, (stS ft x (lsS ft l env m).env ((lsS ft l env m).m + 1)).env, (lsS ft l env m).c ++ (stS ft x (lsS ft l env m).env ((lsS ft l env m).m + 1)).c⟩
  | [], env, m, _ => by rw [List.nil_append, lsS_one, lsS]; rfl
  | s :: r, env, m, h => by
    rw [lsS] at h
    rw [List.cons_append, lsS, lsS]
    split at h
    · rename_i h0; exact absurd h h0
    · rename_i h0
      rw [if_neg h0, if_neg h0, lsS_app ft x r _ _ h]
      simp only [List.append_assoc]
theorem dcEnv_unk {env : Env} {s t : List UInt8} (k : Int) (hne : s ≠ t) (h : envAt env t = 0) : envAt (dcEnv env s k) t = 0 := by
  unfold dcEnv
  split
  · exact h
  · cases env with
    | nil => exact h
    | cons f r =>
      rw [envPut, envAt, tabHas_cons, tabAt_cons]
      rw [envAt] at h
      rw [if_neg hne, if_neg hne]
      exact h
/-- A name that no statement of the outer level has is unknown behind them. -/
theorem stS_unk (ft : List (List UInt8 × Int)) (s : St) (env : Env) (m : Int) (t : List UInt8) (hne : s.name.data.toList ≠ t) (h : envAt env t = 0) : envAt (stS ft s env m).env t = 0 := by
  obtain ⟨k, nm, n, a, b, ba, bc, l, ea, ec, e, ca, cc, c⟩ := s
  have hne : nm.data.toList ≠ t := hne
  rw [stS]
  split
  · exact dcEnv_unk _ hne h
  split
  · exact dcEnv_unk _ hne h
  split
  · exact h
  split
  · exact h
  split
  · split
    · exact h
    split
    · exact h
    split
    · exact h
    · exact h
  split
  · split
    · exact h
    · exact h
  split
  · exact h
  · exact h
theorem lsS_unk (ft : List (List UInt8 × Int)) (t : List UInt8) : ∀ (l : List St) (env : Env) (m : Int), (∀ x ∈ l, x.name.data.toList ≠ t) → envAt env t = 0 → envAt (lsS ft l env m).env t = 0
  | [], env, m, _, h => by rw [lsS]; exact h
  | s :: r, env, m, hn, h => by
    have h1 := stS_unk ft s env (m + 1) t (hn s (by simp)) h
    rw [lsS]
    split
    · exact h1
    · exact lsS_unk ft t r _ _ (fun x hx => hn x (by simp [hx])) h1
theorem paS_unk (t : List UInt8) : ∀ (l : List Pa) (env : Env), (∀ x ∈ l, x.name.data.toList ≠ t) → envAt env t = 0 → envAt (paS l env).2 t = 0
  | [], env, _, h => by rw [paS]; exact h
  | p :: r, env, hn, h => by
    rw [paS]
    split
    · exact h
    · exact paS_unk t r _ (fun x hx => hn x (by simp [hx])) (dcEnv_unk 1 (hn p (by simp)) h)
/-- A function with one statement more. -/
def Fu.more (f : Fu) (a : Option Addr) (c : Nat) (x : St) : Fu := ⟨f.name, f.pa, f.pc, f.params, a, c, f.body ++ [x]⟩
theorem fn_more (ft : List (List UInt8 × Int)) (f : Fu) (a : Option Addr) (c : Nat) (x : St) (h : (fnS ft f).e = 0) :
    ∃ fr, fr.1 = false ∧ (fnS ft f).env = [fr] ∧ fnS ft (f.more a c x) = ⟨(stS ft x [fr] ((fnS ft f).m + 1)).e, (stS ft x [fr] ((fnS ft f).m + 1)).m, (stS ft x [fr] ((fnS ft f).m + 1)).env, (fnS ft f).c ++ (stS ft x [fr] ((fnS ft f).m + 1)).c⟩ := by
  have h1 : tabHas ft f.name.data.toList ≠ true ∧ (paS f.params [(false, [])]).1 = 0 ∧ (lsS ft f.body (paS f.params [(false, [])]).2 0).e = 0 := by
    unfold fnS at h
    split at h
    · exact absurd h (by decide)
    · rename_i h0
      split at h
      · rename_i h1; exact absurd h h1
      · rename_i h1; exact ⟨h0, by simpa using h1, h⟩
  obtain ⟨a0, a1, a2⟩ := h1
  have e1 : fnS ft f = lsS ft f.body (paS f.params [(false, [])]).2 0 := by
    unfold fnS
    rw [if_neg a0, if_neg (show ¬ (paS f.params [(false, [])]).1 ≠ 0 by simpa using a1)]
  have e2 : fnS ft (f.more a c x) = lsS ft (f.body ++ [x]) (paS f.params [(false, [])]).2 0 := by
    unfold fnS
    rw [show (f.more a c x).name = f.name from rfl, show (f.more a c x).params = f.params from rfl, show (f.more a c x).body = f.body ++ [x] from rfl, if_neg a0, if_neg (show ¬ (paS f.params [(false, [])]).1 ≠ 0 by simpa using a1)]
  obtain ⟨f1, g1, _, g3⟩ := paS_tail f.params (false, []) []
  rw [g3] at e1 e2 a2
  obtain ⟨fr, k1, _, k3⟩ := lsS_tail ft f.body f1 [] 0
  refine ⟨fr, k1.trans g1, by rw [e1, k3], ?_⟩
  rw [e1, e2, lsS_app ft x f.body _ 0 a2, k3]
/-- What is unknown at the outer level is unknown behind the body. -/
theorem fn_unk (ft : List (List UInt8 × Int)) (f : Fu) (t : List UInt8) (h : (fnS ft f).e = 0) (hp : ∀ x ∈ f.params, x.name.data.toList ≠ t) (hb : ∀ x ∈ f.body, x.name.data.toList ≠ t) : envAt (fnS ft f).env t = 0 := by
  unfold fnS at h ⊢
  split at h
  · exact absurd h (by decide)
  · rename_i h0
    rw [if_neg h0]
    split at h
    · rename_i h1; exact absurd h h1
    · rename_i h1
      rw [if_neg h1]
      exact lsS_unk ft t f.body _ 0 hb (paS_unk t f.params _ hp rfl)
end Go.Proofs.YtakaldbhaoidiaaDoor

/- A program of which one function has one statement more: what names' looks come to. -/
namespace Go.Proofs.YtakaldbhaoidiaaDoor
open Go.RowKit Go.Sort

theorem lk_set {fs : List Fu} {k : Nat} {F : Fu} (hk : k < fs.length) (hn : F.name = fs[k].name) (hr : ∀ (j : Nat) (f : Fu), fs[j]? = some f → (fnK fs j f).e = 0) : ∀ (d j : Nat), j + d = fs.length →
    lkZ (fs.set k F) ((fs.set k F).drop j) j = if j ≤ k ∧ (fnK fs k F).e ≠ 0 then ((fnK fs k F).e, (k : Int), (fnK fs k F).m) else (0, 0, 0)
  | 0, j, hd => by
    rw [List.drop_eq_nil_of_le (by rw [List.length_set]; omega), lkZ, if_neg (by omega)]
  | d + 1, j, hd => by
    have h1 : j < fs.length := by omega
    have h2 : j < (fs.set k F).length := by rw [List.length_set]; exact h1
    rw [lkZ_drop h2, lk_set hk hn hr d (j + 1) (by omega)]
    have hft : ∀ f, fnK (fs.set k F) j f = fnK fs j f := fun f => by unfold fnK; rw [ftK_set hk hn]
    rw [hft]
    by_cases e : j = k
    · subst e
      rw [List.getElem_set_self]
      by_cases h0 : (fnK fs j F).e = 0
      · rw [if_neg (by simpa using h0), if_neg (by omega), if_neg (fun h => h.2 h0)]
      · rw [if_pos h0, if_pos ⟨Nat.le_refl _, h0⟩]
    · rw [List.getElem_set_ne (Ne.symm e)]
      rw [if_neg (by simpa using hr j fs[j] (List.getElem?_eq_getElem h1))]
      by_cases h0 : (fnK fs k F).e = 0
      · rw [if_neg (fun h => h.2 h0), if_neg (fun h => h.2 h0)]
      · by_cases h3 : j ≤ k
        · rw [if_pos ⟨by omega, h0⟩, if_pos ⟨h3, h0⟩]
        · rw [if_neg (by omega), if_neg (by omega)]
theorem nam_right {p : Pr} (h : (namZ p).1 = 0) : (checkZ p).1 = 0 ∧ ∀ (j : Nat) (f : Fu), p.funcs[j]? = some f → (fnK p.funcs j f).e = 0 := by
  have hc : (checkZ p).1 = 0 := by
    unfold namZ at h
    split at h
    · rename_i h0; exact absurd h h0
    · rename_i h0; simpa using h0
  refine ⟨hc, fun j f hf => ?_⟩
  unfold namZ at h
  rw [if_neg (by simpa using hc)] at h
  exact lk_right p.funcs.length 0 (by omega) (by rw [List.drop_zero]; exact h) j f (by omega) hf
theorem nam_set {q : Pr} {k : Nat} {F : Fu} (hk : k < q.funcs.length) (hn : F.name = q.funcs[k].name) (h0 : (namZ q).1 = 0) (h2 : (checkZ (q.setF k F)).1 = 0) :
    namZ (q.setF k F) = if (fnK q.funcs k F).e ≠ 0 then ((fnK q.funcs k F).e, (k : Int), (fnK q.funcs k F).m) else (0, 0, 0) := by
  unfold namZ
  rw [if_neg (show ¬ (checkZ (q.setF k F)).1 ≠ 0 by simpa using h2)]
  have := lk_set hk hn (nam_right h0).2 q.funcs.length 0 (by omega)
  rw [List.drop_zero] at this
  show lkZ (q.funcs.set k F) (q.funcs.set k F) 0 = _
  rw [this]
  by_cases h : (fnK q.funcs k F).e = 0
  · rw [if_neg (fun h' => h'.2 h), if_neg (by simpa using h)]
  · rw [if_pos ⟨Nat.zero_le _, h⟩, if_pos h]
/-- The names ahead: a function's own name is not among them. -/
theorem fn_own {ft : List (List UInt8 × Int)} {f : Fu} (h : (fnS ft f).e = 0) : tabHas ft f.name.data.toList = false := by
  unfold fnS at h
  split at h
  · exact absurd h (by decide)
  · rename_i h0; simpa using h0
/-- The statements that are put behind a body. -/
def xBreak : St := .mk 8 ⟨#[]⟩ 0 zEx zEx none 0 [] none 0 [] none 0 []
def xCall (s : ByteArray) : St := .mk 10 ⟨#[]⟩ 0 (.mk 4 0 s none 0 []) zEx none 0 [] none 0 [] none 0 []
def xAssign (s : ByteArray) : St := .mk 3 s 0 (.mk 2 0 s none 0 []) zEx none 0 [] none 0 [] none 0 []
def xReturn (s : ByteArray) (a : Option Addr) (y : Ex) : St := .mk 9 ⟨#[]⟩ 0 (.mk 3 0 s a 1 [y]) zEx none 0 [] none 0 [] none 0 []
theorem x_break (ft : List (List UInt8 × Int)) {fr : Bool × List (List UInt8 × Int)} (h : fr.1 = false) (m : Int) : (stS ft xBreak [fr] m).e = 32 ∧ (stS ft xBreak [fr] m).m = m := by
  unfold xBreak
  rw [stS, if_neg (by decide), if_neg (by decide), if_neg (by decide), if_neg (by decide), if_neg (by decide), if_neg (by decide), if_pos (by decide)]
  refine ⟨?_, rfl⟩
  show lvZ [fr] = 32
  rw [lvZ, h]; rfl
theorem x_call (ft : List (List UInt8 × Int)) (env : Env) (m : Int) (s : ByteArray) : (stS ft (xCall s) env m).e = clZ ft s.data.toList ∧ (stS ft (xCall s) env m).m = m ∧ (stS ft (xCall s) env m).c = [tabAt ft s.data.toList] := by
  unfold xCall
  rw [stS, if_neg (by decide), if_neg (by decide), if_neg (by decide), if_neg (by decide), if_neg (by decide), if_neg (by decide), if_neg (by decide)]
  refine ⟨?_, rfl, ?_⟩
  · show exZ env ft (.mk 4 0 s none 0 []) = _
    have hn : nmZ env ft 4 s.data.toList = clZ ft s.data.toList := by unfold nmZ; rw [if_neg (by decide), if_neg (by decide), if_pos rfl]
    rw [exZ, exLZ, hn]
    by_cases h : clZ ft s.data.toList = 0
    · rw [if_neg (by simpa using h), h]
    · rw [if_pos h]
  · show exC ft (.mk 4 0 s none 0 []) = _
    rw [exC, exLC, nmC, if_pos rfl]; rfl
theorem x_assign (ft : List (List UInt8 × Int)) (env : Env) (m : Int) (s : ByteArray) (h : envAt env s.data.toList = 0) : (stS ft (xAssign s) env m).e = 8 ∧ (stS ft (xAssign s) env m).m = m := by
  unfold xAssign
  rw [stS, if_neg (by decide), if_neg (by decide), if_pos rfl]
  refine ⟨?_, rfl⟩
  show orF [wrZ (envAt env s.data.toList), _] = 8
  rw [h]; rfl
theorem x_return (ft : List (List UInt8 × Int)) (env : Env) (m : Int) (s : ByteArray) (a : Option Addr) (y : Ex) (h : envAt env s.data.toList = 0) : (stS ft (xReturn s a y) env m).e = 8 ∧ (stS ft (xReturn s a y) env m).m = m := by
  unfold xReturn
  rw [stS, if_neg (by decide), if_neg (by decide), if_neg (by decide), if_neg (by decide), if_neg (by decide), if_neg (by decide), if_neg (by decide)]
  refine ⟨?_, rfl⟩
  show exZ env ft (.mk 3 0 s a 1 [y]) = 8
  have hn : nmZ env ft 3 s.data.toList = 8 := by unfold nmZ; rw [if_neg (by decide), if_pos rfl, h]; rfl
  rw [exZ, hn]; rfl
/-- What is told of a right program with one statement more behind a body. -/
theorem nam_more {q : Pr} {k : Nat} (hk : k < q.funcs.length) (a : Option Addr) (c : Nat) (x : St) (h0 : (namZ q).1 = 0) (h2 : (checkZ (q.setF k (q.funcs[k].more a c x))).1 = 0) :
    ∃ fr, fr.1 = false ∧ (fnK q.funcs k q.funcs[k]).env = [fr] ∧ namZ (q.setF k (q.funcs[k].more a c x)) = if (stS (ftK q.funcs k) x [fr] ((fnK q.funcs k q.funcs[k]).m + 1)).e ≠ 0 then ((stS (ftK q.funcs k) x [fr] ((fnK q.funcs k q.funcs[k]).m + 1)).e, (k : Int), (stS (ftK q.funcs k) x [fr] ((fnK q.funcs k q.funcs[k]).m + 1)).m) else (0, 0, 0) := by
  have hr := (nam_right h0).2 k q.funcs[k] (List.getElem?_eq_getElem hk)
  obtain ⟨fr, h3, h4, h5⟩ := fn_more (ftK q.funcs k) q.funcs[k] a c x hr
  refine ⟨fr, h3, h4, ?_⟩
  rw [nam_set (F := q.funcs[k].more a c x) hk rfl h0 h2]
  have : fnK q.funcs k (q.funcs[k].more a c x) = fnS (ftK q.funcs k) (q.funcs[k].more a c x) := rfl
  rw [this, h5]
  rfl
end Go.Proofs.YtakaldbhaoidiaaDoor
